import Derived.Test.YtmhafipgbfaapaaGreatDoorAbb0
import Derived.Test.YtmhafipgbfaapaaGreatDoorAbb1
import Derived.Conc.AppendWalk
import Derived.Test.YtmhafipgbfaapaaGreatDoorPck06
import Derived.Test.YtmhafipgbfaapaaGreatDoorPck07
set_option maxRecDepth 100000
set_option maxHeartbeats 8000000
namespace Go.Proofs
open Go.Proofs.Tryz
theorem bL:∀{P:Go.Program}{f:Go.FuncId}{a:Go.Act}{o:Go.Oper}{w:Go.World}{e:Go.Event},e∈Go.Conc.listed P f a o w->e∈Go.Sem.events P (Go.execOp a.eval o) w #[]:=@Go.Conc.mem_listed
end Go.Proofs
set_option linter.unusedVariables false
set_option linter.unusedSimpArgs false
set_option linter.unusedSectionVars false
namespace Go.Proofs.YtmhafipgbfaapaaGreatDoor
section
open Go.Proofs.Tryz
open Go Go.Conc Go.ConcN Go.RowKit Go.Conc.Lib Go.ConcR.Gen Go.ConcN.Gen Go.Proofs.YtmhafipgbfaapaaGreatDoor.Ren
open Go.ConcR (KK WgAt wgBlock stA smA rd wr mk Payload DC0)
variable {B TN ac b bb cl e U hb hcap hn ho i E k kb len m mb n pc q sb sc sc' size wc width T xm d aX : Nat} {Fx W : au -> Prop} {H O O2 s jf Sh Z : aD} {HD : Nat -> aN} {HN : Nat -> Nat} {K : dN -> au -> Array Event -> Prop} {P : Program} {I : (aD) -> dN -> au -> Prop} {X : Nat -> Option aA} {Y : Code} {N : Act} {Q : Frame} {c cur : Array aA} {R : List Frame} {y V ty : bf} {es : Array MapEntry} {f : Nat -> aA} {g : dN} {M : List Item} {l : Array Bool} {o : Oper} {D A : Array Oper} {ow : Bool} {r : Option Nat} {p C : List Nat} {t : Nat -> Bool} {u w : au} {v : aA}
section
variable [Payload] [Zb] {X : Code} {L : Lk} {r : Nat} {F : Ph}
theorem Xu(j:F.lk=some L)(h:FC F Z O Fx)(l:∀b,O b\/F.Sh b\/Z b\/b=F.Wg\/b=F.C->b≠L.B)(m:Behind ty F L i Z O Fx R)(u:∀a,a<aX->Head ty F L i Z O Fx R a 4)(o:X=aM)(p:Y=dJ)
 (s:Int)(v aw k:Bool)(t:Int)(n d:Nat)(w:au)(c:0<=t)(q:aw=true->k=true)(D:v=true->aw=true)(hn:n<=131072)(g:KS ty F L O Fx aX ⟨true,k,false,n⟩ d w)(T:Array aA)(r:T.size=139)(e:T[0]? =some (.pointer (some L.mu)))(x:T[2]? =some (ah s))(y:T[3]? =some (.bool v))(f:T[4]? =some (.bool aw))(z:T[5]? =some (ah t))(A:T[6]? =some (.int .i32 (Wd.int ⟨true,k,false,n⟩))):bS prog ty F i ⟨.loop aw v,false,Z,1⟩ d O (G ((base 247).at ⟨T,[]⟩ [.code uV,.inBlock 1,.inLoop X,.inBlock 0,.code Y]) R) w:=by
 rw[JI (old:=⟨true,k,false,n⟩) r e x y f z A];cases aw with
 |false=>
  obtain rfl:v=false:=by cases v<;>simp_all
  exact ab9 j h l m u o p _ s k t n d w c hn g
 |true=>
  obtain rfl:k=true:=q rfl;cases v with
  |false=>exact acd j h l m u o p _ s t n d w c hn g
  |true=>exact ace j h l m u o p _ s t n d w c hn g
theorem Oa(j:F.lk=some L)(hst:FC F Z O Fx)(N:∀b,O b\/F.Sh b\/Z b\/b=F.Wg\/b=F.C->b≠L.B)(hT:Behind ty F L i Z O Fx R)(T:∀g,g<aX->Head ty F L i Z O Fx R g 4)(hX:X=aM)(hY:Y=dJ)
 (J:Nat->aA)(v:Int)(Q aw k:Bool)(y:Int)(n d:Nat)(w:au)(h0:0<=y)(haw:aw=true->k=true)(z:Q=true->aw=true)(hn:n<=131072)(a:KS ty F L O Fx aX ⟨true,k,false,n⟩ d w)(ihr:∀r',r'<r->Head ty F L i Z O Fx R aX r')(hr:4-y<=r):bS prog ty F i ⟨.loop aw Q,false,Z,1⟩ d O (G ((base 247).at ⟨TM L J v Q aw y ⟨true,k,false,n⟩,[]⟩ [.code aM,.inLoop X,.inBlock 0,.code Y]) R) w:=by
 have nums:=uS hn;have f:=hst;obtain⟨V,hV⟩:∃V,V=uV:=⟨_,rfl⟩;obtain⟨S,hS⟩:∃S,S=rP:=⟨_,rfl⟩;rw[Ru,<-hV,<-hS];simp only[TM,Hf,tX,cnd,aM,gX,aG,bZ,Bc,f247,fq];refine(dZ j hst).run (g':=?_) a ?_;clear a;intro d u a;by_cases U:4<=y
 .refine bS.look j rfl rfl rfl (λXt u c W2 s M hn2 Zd=>⟨_,u,#[],_,.stay,stepG_canSpin_no rfl rfl Y0 rfl func257 abV abW abX abY (k:=.i64) (n:=y) I5 U,.refl u,M,X0,rfl,λK D=>?_⟩);have x:=a.rely j hst c;have A:=x.q.xO (γ:=⟨.loop aw Q,false,Z,1⟩) f N (Eff.refl u) M;have Xh:KS ty F L O Fx aX ⟨true,k,false,n⟩ K u:=⟨A,bY D x.k,λe=>by
   have h1:=x.k;obtain⟨s3,h3⟩:=x.m Q0;exact⟨s3,h3⟩⟩
  clear a x c A
  rename KS ty F L O Fx aX ⟨true,k,false,n⟩ K u=>a
  clear M D Zd
  walk_nrm
  refine(dZ j hst).run (g':=?_) a ?_;clear a;intro d u a;rw[hV];refine Xu j f N hT T hX hY v Q aw k y n _ _ h0 haw z hn a _ ?_ ?_ ?_ ?_ ?_ ?_ ?_<;>rfl
 .have U:y<4:=by omega
  refine bS.look j rfl rfl rfl (λXt u c W2 s M hn2 Zd=>⟨_,u.asked,#[],_,.stay,stepG_canSpin_ask rfl rfl Y0 rfl func257 abV abW abX abY (k:=.i64) (n:=y) I5 U,Eff.asked u,M.asked,X0,rfl,λK D=>?_⟩);have x:=a.rely j hst c;have A:=x.q.xO (γ:=⟨.loop aw Q,false,Z,1⟩) f N (Eff.asked u) M.asked;have Xh:KS ty F L O Fx aX ⟨true,k,false,n⟩ K u.asked:=⟨A,bY D x.k,λe=>by have h1:=x.k;obtain⟨s3,h3⟩:=x.m Q0;exact⟨s3,h3.asked⟩⟩
  clear a x c A
  rename KS ty F L O Fx aX ⟨true,k,false,n⟩ K u.asked=>a
  clear M D Zd;generalize u.spins=bb;generalize u.asked=u1 at a ⊢;obtain⟨r',rfl⟩:∃r',r=r'+1:=⟨r-1,Q0⟩;have I:=ihr r' Q0;cases bb with
  |false=>
   walk_nrm
   refine(dZ j hst).run (g':=?_) a ?_;clear a;intro d u a;rw[hV];refine Xu j f N hT T hX hY v Q aw k y n _ _ h0 haw z hn a _ ?_ ?_ ?_ ?_ ?_ ?_ ?_<;>rfl
  |true=>
   walk_nrm
   cases aw with
   |true=>obtain rfl:k=true:=haw rfl;refine(dZ j hst).run (g':=?_) a ?_;clear a;intro d u a;rw[hS];refine Hg j f N T I hX hY v Q true y ⟨true,true,false,n⟩ ⟨true,true,false,n⟩ _ _ h0 U Q0 (λ_=>rfl) a _ ?_ ?_ ?_ ?_ ?_ ?_ ?_<;>rfl
   |false=>
    obtain rfl:Q=false:=by cases Q;rfl;exact(z rfl).symm
    cases k with
    |true=>refine(dZ j hst).run (g':=?_) a ?_;clear a;intro d u a;rw[hS];refine Hg j f N T I hX hY v false false y ⟨true,true,false,n⟩ ⟨true,true,false,n⟩ _ _ h0 U Q0 z a _ ?_ ?_ ?_ ?_ ?_ ?_ ?_<;>rfl
    |false=>
     by_cases hz:n=0
     .subst hz;refine(dZ j hst).run (g':=?_) a ?_;clear a;intro d u a;rw[hS];refine Hg j f N T I hX hY v false false y ⟨true,false,false,0⟩ ⟨true,false,false,0⟩ _ _ h0 U Q0 z a _ ?_ ?_ ?_ ?_ ?_ ?_ ?_<;>rfl
     .have ae6:((n:Int)==0)=false:=beq_false_of_ne Q0;have ab6:((n:Int)!=0)=true:=bne_iff_ne.2 Q0;refine(dZ j hst).run (g':=?_) a ?_;clear a;intro d u a;refine bS.cas j rfl rfl rfl ⟨true,false,false,n⟩ ⟨true,true,false,n⟩ (λbF u s c M Xr hf=>⟨_,.loop true false,Lm.spin Q0,stepG_cas_hit rfl rfl Y0 rfl func246 ni nu ny .i32 nC O1 rfl rfl M.mu M.fm,λo h1 h2=>?_⟩) (λbF u W s c M hne Xr hf=>⟨_,stepG_cas_miss rfl rfl Y0 rfl func246 ni nu ny .i32 nC O1 rfl rfl M.mu M.fm (λe=>hne (Wd.int_inj e)),λo h1=>?_⟩)
      .have x:=a.rely j hst c;have A:=x.q.xO (γ:=⟨.loop true false,false,Z,1⟩) f N (Eff.set (.inl rfl) _) (M.setMu ⟨true,true,false,n⟩);have hM1:=M.setMu ⟨true,true,false,n⟩;have hle:=x.k;have hlt:=h2 X0;generalize u.setCell L.mu _=u1 at A hM1 ⊢;clear a x c M;obtain⟨l,E⟩:∃l,l=o:=⟨_,rfl⟩;have p:l<aX:=by omega
       have a:KS ty F L O Fx l ⟨true,true,false,n⟩ o u1:=⟨A,Q0,λ_=>⟨s,hM1⟩⟩;clear E h1 h2 hlt hle hM1 A
       walk_nrm
       refine(dZ j hst).run (g':=?_) a ?_;clear a;intro d u a;rw[hS];refine Hg j f N (λg h=>T g (Nat.lt_trans h p)) (T l p) hX hY v false true y ⟨true,false,false,n⟩ ⟨true,true,false,n⟩ _ _ h0 U Q0 (λ_=>rfl) a _ ?_ ?_ ?_ ?_ ?_ ?_ ?_<;>rfl
      .have hlt:o<aX:=by have:=(a.rely j hst c).miss M hne;omega
       have A:=(a.rely j hst c).q;clear a;obtain⟨l,E⟩:∃l,l=o:=⟨_,rfl⟩;have p:l<aX:=by omega
       have a:KS ty F L O Fx l W o u:=⟨A,Q0,λ_=>⟨s,M⟩⟩;clear E h1 hlt M A c
       walk_nrm
       refine(dZ j hst).run (g':=?_) a ?_;clear a;intro d u a;rw[hS];refine Hg j f N (λg h=>T g (Nat.lt_trans h p)) (T l p) hX hY v false false y ⟨true,false,false,n⟩ W _ _ h0 U Q0 z a _ ?_ ?_ ?_ ?_ ?_ ?_ ?_<;>rfl
theorem Rv(o:F.lk=some L)(s:FC F Z O Fx)(p:∀b,O b\/F.Sh b\/Z b\/b=F.Wg\/b=F.C->b≠L.B)(q:Behind ty F L i Z O Fx R)(aX:Nat):∀r,Head ty F L i Z O Fx R aX r:=by
 induction aX using Nat.strongRecOn with
 |_ aX I=>
 intro r
 induction r using Nat.strongRecOn with
 |_ r t=>
 intro T g j aw u old κ w H x y z A D E G d c e hn m;rw[JI H x y z A D E];have f:∀a,a<aX->Head ty F L i Z O Fx R a 4:=λa h=>I a h 4;obtain⟨l,k,v,n⟩:=old;cases v with
 |true=>
  obtain rfl:aw=false:=by cases aw;rfl;exact aF (c rfl).2 X0
  obtain rfl:j=false:=by cases j;rfl;exact(e rfl).symm
  exact Hq o s p q f rfl rfl _ g l k u n κ w d hn m
 |false=>
  cases l with
  |false=>exact Ob o s p q f rfl rfl _ g j aw k u n κ w d (λh=>(c h).1) e hn m
  |true=>exact Oa o s p q f rfl rfl _ g j aw k u n κ w d (λh=>(c h).1) e hn m t G
theorem Rx(e:F.lk=some L)(hst:FC F (λ_=>False) O Fx)(o:∀b,O b\/F.Sh b\/False\/b=F.Wg\/b=F.C->b≠L.B)(z:∀d u m Z,KH ty F L O m Z Fx u->bS prog ty F i ⟨.hold,true,Z,0⟩ d (λb=>O b\/m b) (G (Q.at (N.put ((A[E]?).bind (·.dst)) (.tuple #[])) (aT A C::M)) R) u)(d:Nat)(w:au)(c:KQ ty F L O Fx w):
 bS prog ty F i ⟨.loop false false,false,λ_=>False,1⟩ d O (G ((base 247).at ⟨#[.pointer (some L.mu),ak,ak,ak,ak,ak,ak,ak,ak,ak,ak,ak,ak,ak,ak,ak,ak,ak,ak,ak,ak,ak,ak,ak,ak,ak,ak,ak,ak,ak,ak,ak,ak,ak,ak,ak,ak,ak,ak,ak,ak,ak,ak,ak,ak,ak,ak,ak,ak,ak,ak,ak,ak,ak,ak,ak,ak,ak,ak,ak,ak,ak,ak,ak,ak,ak,ak,ak,ak,ak,ak,ak,ak,ak,ak,ak,ak,ak,ak,ak,ak,ak,ak,ak,ak,ak,ak,ak,ak,ak,ak,ak,ak,ak,ak,ak,ak,ak,ak,ak,ak,ak,ak,ak,ak,ak,ak,ak,ak,ak,ak,ak,ak,ak,ak,ak,ak,ak,ak,ak,ak,ak,ak,ak,ak,ak,ak,ak,ak,ak,ak,ak,ak,ak,ak,ak,ak,ak,ak],[]⟩ [.code (f247.body.getD .skip)]) (Q.at N (aT A (E::C)::M)::R)) w:=by
 have x:=Rv e hst o (JM (ty:=ty) (i:=i) e hst o z);obtain⟨X,p⟩:∃X,X=aM:=⟨_,rfl⟩;obtain⟨Y,q⟩:∃Y,Y=dJ:=⟨_,rfl⟩;rw[NZ,<-p,<-q];simp only[aG,bZ,f247,fq];have k:=kF (i:=i) (γ:=⟨.loop false false,false,λ_=>False,1⟩) (ty:=ty) e hst;refine k.run (g':=?_) c ?_;clear c;intro d u c;refine bS.look e rfl rfl rfl (λD u r W s j n y=>⟨_,u,#[],_,.stay,bV rfl rfl Y0 rfl O1 j.mu gD,.refl u,j,X0,rfl,λg l=>?_⟩);have v:=c.rely e hst r;clear c k r;obtain⟨a,f⟩:∃a,a=g:=⟨_,rfl⟩;have c:KS ty F L O Fx a W g u:=⟨v,Q0,λ_=>⟨s,j⟩⟩;have k:=dZ (i:=i) (γ:=⟨.loop false false,false,λ_=>False,1⟩) (ty:=ty) (aX:=a) (old:=W) e hst;clear l f v j
 walk_nrm
 refine k.run (g':=?_) c ?_;clear c;intro d u c;rw[p,q];refine(x a 4 _ 0 false false 0 W _ _ ?_ ?_ ?_ ?_ ?_ ?_ ?_ Q0 Q0 (λh=>nomatch h) (λh=>nomatch h) n c)<;>rfl
theorem Ze:(f247.name== "runtime.NumGoroutine")=false:=by kernel_rfl
theorem VH:(f234.name== "runtime.NumGoroutine")=false:=by kernel_rfl
theorem Oc(c:F.lk=some L)(hst:FC F (λ_=>False) O Fx)(y:∀b,O b\/F.Sh b\/False\/b=F.Wg\/b=F.C->b≠L.B)(z:∀d u k Z,KH ty F L O k Z Fx u->bS prog ty F i ⟨.hold,true,Z,0⟩ d (λb=>O b\/k b) (G (Q.at (N.put ((A[E]?).bind (·.dst)) (.tuple #[])) (aT A C::M)) R) u)(d:Nat)(w:au)(h:KQ ty F L O Fx w):
 bS prog ty F i ⟨.pre,false,λ_=>False,0⟩ d O (G ((base 234).at ⟨#[.pointer (some L.mu),ak,ak,ak,ak,ak,ak,ak,ak,ak,ak,ak,ak],[]⟩ [.code (f234.body.getD .skip)]) (Q.at N (aT A (E::C)::M)::R)) w:=by
 simp only[f234,fq];have a:=kF (i:=i) (γ:=⟨.pre,false,λ_=>False,0⟩) (ty:=ty) c hst;refine a.run (g':=?_) h ?_;clear h;intro d u h;refine bS.CK rfl rfl λj u r=>⟨_,stepG_mark0 .disable X0 rfl rfl Y0 rfl func171 ab0 ab1 ab2 ab3,?_⟩;replace h:=a.rely _ _ _ _ h r;clear r a
 walk_nrm
 have a:=kF (i:=i) (γ:=⟨.pre,false,λ_=>False,1⟩) (ty:=ty) c hst;refine a.run (g':=?_) h ?_;clear h;intro d u h;refine bS.aeI c rfl rfl rfl ⟨false,false,false,0⟩ ⟨true,false,false,0⟩ (λj u s r f q I=>⟨_,.hold,.fast,stepG_cas_hit rfl rfl Y0 rfl func246 ni nu ny .i32 nC O1 rfl rfl f.mu f.fm,λl D U=>?_⟩) (λj u W s r f n q I=>⟨_,.loop false false,.slow n,stepG_cas_miss rfl rfl Y0 rfl func246 ni nu ny .i32 nC O1 rfl rfl f.mu f.fm (λe=>n (Wd.int_inj e)),λl D=>?_⟩)
 .replace h:=(a.rely _ _ _ _ h r).xO (γ:=⟨.hold,false,λ_=>False,1⟩) hst y (Eff.set (.inl rfl) _) (f.setMu ⟨true,false,false,0⟩);generalize u.setCell L.mu _=u1 at h ⊢;clear a r f;have a:=kF (i:=i) (γ:=⟨.hold,false,λ_=>False,1⟩) (ty:=ty) c hst
  walk_nrm
  refine a.run (g':=?_) h ?_;clear h;intro d u h;refine bS.en rfl rfl λj u r=>⟨_,stepG_mark0 .enable X0 rfl rfl Y0 rfl func173 YT YU YV YW,?_⟩;replace h:=a.rely _ _ _ _ h r;clear r a
  walk_nrm
  have a:=kF (i:=i) (γ:=⟨.hold,false,λ_=>False,0⟩) (ty:=ty) c hst;refine a.run (g':=?_) h ?_;clear h;intro d u h;refine a.step h rfl ?_;clear h;intro d u h;obtain⟨S,V,g⟩:=h.mu;refine goes_oper_k rfl rfl Y0 (λK x=>?_);have o:=run_convert_to_unsafe (P:=prog) underlying297 underlying229 muLib.room_tIMutex g.mu;have m:=λes=>events_convert_to_unsafe (P:=prog) underlying297 underlying229 muLib.room_tIMutex g.mu es;go_simp;refine x _ _ ⟨Z0,?_,?_⟩
  .intro e p;have J:=bL p;simp[go_sem, *]at J
  clear x K o m g;refine a.run (g':=?_) h ?_;clear h;intro d u h;refine bS.acq c hst h rfl rfl rfl rfl (λd u k Z v=>⟨_,stepG_markAt .acquire X0 rfl rfl Y0 rfl func174 LM LP LQ LU (ad:=L.mu) O1,?_⟩) (λu=>⟨_,stepG_markAt .acquire X0 rfl rfl Y0 rfl func174 LM LP LQ LU (ad:=L.mu) O1⟩);clear h a;have h:=v;clear v;have a:=UQ (i:=i) (T:=.hold) (d:=0) (G:=k) (ty:=ty) c (hst.any Z)
  walk_nrm
  have hlv:=func234;refine a.run (g':=?_) h ?_;clear h;intro d u h;clear hlv;exact z _ _ _ _ h
 .replace h:=a.rely _ _ _ _ h r;clear a r f;have a:=kF (i:=i) (γ:=⟨.loop false false,false,λ_=>False,1⟩) (ty:=ty) c hst
  walk_nrm
  refine a.run (g':=?_) h ?_;clear h;intro d u h;refine a.step h rfl ?_;clear h;intro d u h;refine goes_call rfl rfl Y0 rfl func247 Ze rfl ⟨Z0,by intro e p;simp at p,?_⟩;walk_nrmf f247;refine Rx c hst y (λd u k Z h=>?_) _ _ h;have a:=UQ (i:=i) (T:=.hold) (d:=0) (G:=k) (ty:=ty) c (hst.any Z)
  walk_nrm
  have hlv:=func234;refine a.run (g':=?_) h ?_;clear h;intro d u h;clear hlv;exact z _ _ _ _ h
theorem Ry(f:F.lk=some L)(hst:FC F (λ_=>False) O Fx)(g:∀b,O b\/F.Sh b\/False\/b=F.Wg\/b=F.C->b≠L.B)(k:∀d u a Z,KH ty F L O a Z Fx u->bS prog ty F i ⟨.hold,true,Z,0⟩ d (λb=>O b\/a b) (G (Q.at (N.put ((A[E]?).bind (·.dst)) (.tuple #[])) (aT A C::M)) R) u)(d:Nat)(w:au)(h:KQ ty F L O Fx w):
 bS prog ty F i ⟨.pre,false,λ_=>False,0⟩ d O (G ((base 221).at ⟨#[.pointer (some L.mu),ak,ak,ak,ak,ak],[]⟩ [.code (f221.body.getD .skip)]) (Q.at N (aT A (E::C)::M)::R)) w:=by
 simp only[f221,fq];have c:=kF (i:=i) (γ:=⟨.pre,false,λ_=>False,0⟩) (ty:=ty) f hst;refine c.run (g':=?_) h ?_;clear h;intro d u h;refine c.step h rfl ?_;clear h;intro d u h;refine goes_call rfl rfl Y0 rfl func234 VH rfl ⟨Z0,by intro e j;simp at j,?_⟩;walk_nrmf f234;refine Oc f hst g (λd u a Z h=>?_) _ _ h;have c:=UQ (i:=i) (T:=.hold) (d:=0) (G:=a) (ty:=ty) f (hst.any Z)
 walk_nrm
 have hlv:=func221;refine c.run (g':=?_) h ?_;clear h;intro d u h;clear hlv;exact k _ _ _ _ h
end
theorem aco:(f222.name== "runtime.NumGoroutine")=false:=by kernel_rfl
theorem acp:(f221.name== "runtime.NumGoroutine")=false:=by kernel_rfl
theorem afg:(f223.name== "runtime.NumGoroutine")=false:=by kernel_rfl
section
variable [Payload] [Zb] {L : Lk} {F : Ph}
theorem gK{a:aD}(h:Yp F L false (λ_=>False) O Fx)(ho:∀b,O b->a b):Yp F L ow Z a Fx:=λw u r _ f=>h w u ⟨r.size,λb hb=>r.keep b (hb.imp (ho b) λx=>.inl (x.elim id False.elim)),r.os⟩ (λh=>by cases h) f
theorem LY(n:F.lk=some (gI k m B e X))(s:Yp F (gI k m B e X) false (λ_=>False) O Fx)(hk:∀d u Z v,KR ty F (gI k m B e X) O Z (λw=>Fx w/\wT k m t Z v w) u->bS prog ty F i ⟨.done,false,Z,0⟩ d O (G (Q.at (N.put ((A[E]?).bind (·.dst)) v) (aT A C::M)) R) u){Gd Z':aD}(f:Yp F (gI k m B e X) true Z O2 W)
 (hy:∀w,W w->Fx w/\Zc k m B e X Gd (λb=>Z b\/Z' b) w/\wT k m t (λb=>Z b\/Z' b) v w)(hG:∀b,Gd b->O2 b/\¬Z' b)(c:∀b,Z' b->O2 b)(y:∀b,O b->O2 b/\¬Gd b/\¬Z' b)
 (T:Array aA)(hT:T.getD 4 ak=v)(j:List Item)(d:Nat)(w:au)(a:KR ty F (gI k m B e X) O2 Z W w):
 bS prog ty F i ⟨.hold,true,Z,0⟩ d O2 (G {(base 184).at ⟨T,[{target:=.fn (.func 222) #[],args:=#[aJ B e]}]⟩ j with mode:=.returning} (Q.at N (aT A (E::C)::M)::R)) w:=by
 have l:=dY (ty:=ty) (i:=i) (γ:=⟨.hold,true,Z,0⟩) n f;refine l.step a rfl ?_;clear a;intro d u a;refine qJ rfl (z:=#[aJ B e]) X0 func222 aco rfl ⟨Z0,by intro e D;simp at D,?_⟩
 walk_nrmf f222
 refine JW (L:=gI k m B e X) n l (λd u h=>h.q.mu) rfl (λd u a=>?_) _ _ a;obtain⟨U,V,Y⟩:=hy u a.q.fx;have p:Asp F (gI k m B e X) O λb=>Z b\/Z' b:=by
  refine⟨λb hb=>?_,λb hb=>?_,a.ap.bc,a.ap.bw,a.ap.cw⟩
  .obtain⟨H,a2,I⟩:=y b hb;obtain⟨J,K,P,b4,S⟩:=a.ap.o b H;exact⟨J,K,P,b4,λx=>x.elim S I⟩
  .obtain hb|hb|hb:=hb
   .exact a.ap.z b (.inl hb)
   .exact a.ap.z b (.inr hb)
   .have:=a.ap.o b (c b hb);exact⟨this.1,this.2.1,this.2.2.1⟩
 have hb:∀b,F.Sh b\/(Z b\/Z' b)->b<u.heap.size:=by
  rintro b (h|h|h)
  .exact a.zb b (.inl h)
  .exact a.zb b (.inr h)
  .exact a.q.bd b (c b h)
 refine⟨Gd,Z',O,λw=>(Fx w/\wT k m t (λb=>Z b\/Z' b) v w)/\∀b,F.Sh b\/(Z b\/Z' b)->b<w.heap.size,V,hG,c,y,λw u r h=>⟨⟨?_,?_⟩,λb hb=>bG (h.2 b hb) r.size⟩,?_,⟨⟨⟨U,Y⟩,hb⟩,a.q.live,a.q.pay,λb hb=>a.q.bd b (y b hb).1,a.q.mu⟩,λd u a=>?_⟩
 .exact(gK s (ow:=false) (Z:=λb=>Z b\/Z' b) λ_ h=>h) w u r (λh=>by cases h) h.1.1
 .exact h.1.2.keep (λ_ h=>h) λb hb=>r.keep b (.inr (.inr hb))
 .rintro b (hb|hb|hb|rfl|rfl)
  .exact(p.o b hb).1
  .exact(p.z b (.inl hb)).1
  .exact(p.z b (.inr hb)).1
  .exact p.bw.symm
  .exact p.bc.symm
 .have g:FC F (λb=>Z b\/Z' b) O λw=>(Fx w/\wT k m t (λb=>Z b\/Z' b) v w)/\∀b,F.Sh b\/(Z b\/Z' b)->b<w.heap.size:=λw u r h=>⟨⟨(gK s (ow:=false) (Z:=λb=>Z b\/Z' b) λ_ h=>h) w u r (λh=>by cases h) h.1.1,h.1.2.keep (λ_ h=>h) λb hb=>r.keep b (.inr (.inr hb))⟩,λb hb=>bG (h.2 b hb) r.size⟩;have l:=kF (i:=i) (γ:=⟨.done,false,λb=>Z b\/Z' b,0⟩) (ty:=ty) n g;refine l.step a rfl ?_;clear a;intro d u a;refine goes_leave1 rfl rfl func184 rfl ⟨Z0,by intro e D;simp at D,?_⟩;rw[hT];exact hk d u _ v ⟨⟨a.fx.1,a.live,a.pay,a.bd,a.mu⟩,a.fx.2,p⟩
end
noncomputable def Oe(J:Nat->aA):Array aA:=#[J 0,J 1,J 2,J 3,J 4,J 5,J 6,J 7,J 8,J 9,J 10,J 11,J 12,J 13,J 14,J 15,J 16,J 17,J 18,J 19,J 20,J 21,J 22,J 23,J 24,J 25,J 26,J 27,J 28,J 29,J 30,J 31,J 32,J 33,J 34,J 35,J 36,J 37,J 38,J 39,J 40,J 41,J 42,J 43]
noncomputable def wV:Code:=f184.body.getD .skip
noncomputable def Zj:Code:=aG (aG (aG (aG (aG (aG wV)))))
def zy(k m:Nat)(t:Nat->Bool)(B e:Nat)(X:Nat->Option aA)(kb:Nat)(r:Option Nat)(es:Array MapEntry)(cl:Nat)(Fx:au->Prop)(Z:aD)(w:au):Prop:=Fx w/\w.heap[kb]? =some (.cells (dA k m t) 238 (0,0))/\w.cell? (aB B (e+2))=some (.map r)/\(∀mb,r=some mb->w.heap[mb]? =some (.map es cl)/\∀en∈es.toList,∃t',en.key=.agg (dA k m t')/\wT k m t' Z en.val w)/\∀j,j≠e->j≠e+1->j≠e+2->w.cell? (aB B j)=X j
section
variable [Payload] [Zb] {L : Lk} {F : Ph}
theorem zy.iG(s:Yp F (gI k m B e X) false (λ_=>False) O Fx)(ho:∀b,O b->O2 b)(x:O2 kb)(y:∀mb,r=some mb->O2 mb):Yp F (gI k m B e X) true Z O2 (zy k m t B e X kb r es cl Fx Z):=by rintro w u h g ⟨i,l,n,f,q⟩;refine⟨(gK s ho (ow:=false)) w u h (λh=>by cases h) i,(h.keep kb (.inl x)).trans l,(g rfl (e+2) V4 V4).trans n,λmb d=>⟨(h.keep mb (.inl (y mb d))).trans (f mb d).1,λen v=>?_⟩,λj a b c=>(g rfl j a b).trans (q j a b c)⟩;obtain⟨z,o,p⟩:=(f mb d).2 en v;exact⟨z,o,p.keep (λ_ h=>h) λb hb=>h.keep b (.inr (.inr hb))⟩
theorem zA(a:Yp F L ow Z O Fx)(h:KR ty F L O Z Fx u):KR ty F L O Z Fx {u with drawn:=u.drawn+1}:=⟨⟨a u _ ⟨aS _,λ_ _=>rfl,.refl _⟩ (λ_ _ _ _=>rfl) h.q.fx,h.q.live,h.q.pay,h.q.bd,by obtain⟨W,s,M⟩:=h.q.mu;exact⟨W,s,M.mu,M.sm,M.ro⟩⟩,h.zb,h.ap⟩
noncomputable def afh:Array Oper:=match Zj with|.seq (.region _ D _) _=>D|_=>#[]
theorem afi:∀a b c d e f l:Bool,Region.ready .any afh #[a,b,c,d,e,f,l]=[]->l=true:=by decide+kernel
theorem Zk(hL:F.lk=some (gI k m B e X))(hst:Yp F (gI k m B e X) false (λ_=>False) O Fx)(hk:∀d u Z v,KR ty F (gI k m B e X) O Z (λw=>Fx w/\wT k m t Z v w) u->bS prog ty F i ⟨.done,false,Z,0⟩ d O (G (Q.at (N.put ((A[E]?).bind (·.dst)) v) (aT A C::M)) R) u){Zv:aD}(xq:k+m<=12)(hne:∀en∈es.toList,en.key≠ .agg (dA k m t))
 (hO:∀b,O b->O2 b/\b≠mb/\¬Zv b)(hkb:O2 kb/\kb≠mb)(T:O2 mb/\¬Zv mb)(hZv:∀b,Zv b->O2 b)(J:Nat->aA)(h0:J 0=aJ B e)(h3:J 3=aJ kb 0)(h7:J 7=v)
 (d:Nat)(w:au)(f:KR ty F (gI k m B e X) O2 Z (λw=>zy k m t B e X kb (some mb) es cl Fx Z w/\wT k m t Zv v w) w):
 bS prog ty F i ⟨.hold,true,Z,0⟩ d O2 (G ((base 184).at ⟨Oe J,[{target:=.fn (.func 222) #[],args:=#[aJ B e]}]⟩ [.code Zj]) (Q.at N (aT A (E::C)::M)::R)) w:=by
 simp only[Oe,h0,h3,h7];clear h0 h3 h7;have yZ:Yp F (gI k m B e X) true Z O2 (λw=>zy k m t B e X kb (some mb) es cl Fx Z w/\wT k m t Zv v w):=λw u h hg hf=>⟨zy.iG hst (λb h=>(hO b h).1) hkb.1 (λ_ h=>by cases h;exact T.1) w u h hg hf.1,hf.2.keep (λ_ h=>h) λb hb=>h.keep b (.inl (hZv b hb))⟩;have BS:Yp F (gI k m B e X) true Z O2 (λw=>Fx w/\Zc k m B e X (λb=>b=mb) (λb=>Z b\/Zv b) w/\wT k m t (λb=>Z b\/Zv b) v w):=λw u h hg hf=>⟨gK hst (λb h=>(hO b h).1) (ow:=false) w u h (λh=>by cases h) hf.1,(gI k m B e X).iG _ _ w u (λb hb=>h.keep b (by obtain rfl|hb|hb:=hb;exact .inl T.1;exact .inr (.inr hb);exact .inl (hZv b hb))) (hg rfl) hf.2.1,hf.2.2.keep (λ_ h=>h) λb hb=>h.keep b (by obtain hb|hb:=hb;exact .inr (.inr hb);exact .inl (hZv b hb))⟩;have Qv:∀d u,KR ty F (gI k m B e X) O2 Z (λw=>Fx w/\Zc k m B e X (λb=>b=mb) (λb=>Z b\/Zv b) w/\wT k m t (λb=>Z b\/Zv b) v w) u->bS prog ty F i ⟨.hold,true,Z,0⟩ d O2 (G ((base 184).at ⟨#[aJ B e,J 1,J 2,aJ kb 0,J 4,J 5,J 6,v,J 8,J 9,J 10,J 11,J 12,J 13,J 14,J 15,J 16,J 17,J 18,J 19,J 20,J 21,J 22,J 23,J 24,J 25,J 26,J 27,J 28,J 29,J 30,J 31,J 32,J 33,J 34,J 35,J 36,aJ B e,aJ B e,aJ B (e+2),.map (some mb),.agg (dA k m t),v,J 43],[{target:=.fn (.func 222) #[],args:=#[aJ B e]}]⟩ [.code (aG Zj)]) (Q.at N (aT A (E::C)::M)::R)) u:=by intro d u f;have W:=dY (ty:=ty) (i:=i) (γ:=⟨.hold,true,Z,0⟩) hL BS;simp only[Zj,wV,aG,f184,fq];refine W.run (g':=?_) f ?_;clear f;intro d u f;exact LY hL hst hk BS (λw h=>h) (λb hb=>by subst hb;exact T) hZv hO _ rfl _ _ _ f
 have W:=dY (ty:=ty) (i:=i) (γ:=⟨.hold,true,Z,0⟩) hL yZ;simp only[Zj,wV,aG,f184,fq]at Qv ⊢;refine W.bK f rfl ?_;clear f;intro d u f;rw[stepG_seq];simp only[goes_go];refine⟨Z0,by intro e x;simp at x,?_⟩;refine W.drawn f (λd u h=>zA (ow:=true) yZ h) K4 (Inv:=λl s=>∃l0 l1 l2 l3 l4 l5 D:Bool,l=#[l0,l1,l2,l3,l4,l5,D]/\s.1=⟨#[aJ B e,J 1,J 2,aJ kb 0,J 4,J 5,J 6,v,J 8,J 9,J 10,J 11,J 12,J 13,J 14,J 15,J 16,J 17,J 18,J 19,J 20,J 21,J 22,J 23,J 24,J 25,J 26,J 27,J 28,J 29,J 30,J 31,J 32,J 33,J 34,J 35,J 36,cond l0 (aJ B e) (J 37),cond l1 (aJ B e) (J 38),cond l2 (aJ B (e+2)) (J 39),cond l3 (.map (some mb)) (J 40),cond l4 (.agg (dA k m t)) (J 41),cond l5 (v) (J 42),J 43],[{target:=.fn (.func 222) #[],args:=#[aJ B e]}]⟩/\O2=s.2.2.1/\(D=false->KR ty F (gI k m B e X) O2 Z (λw=>zy k m t B e X kb (some mb) es cl Fx Z w/\wT k m t Zv v w) s.2.2.2)/\(D=true->(l0=true/\l1=true/\l2=true/\l3=true/\l4=true/\l5=true)/\KR ty F (gI k m B e X) O2 Z (λw=>Fx w/\Zc k m B e X (λb=>b=mb) (λb=>Z b\/Zv b) w/\wT k m t (λb=>Z b\/Zv b) v w) s.2.2.2)) ?_ ?_ ?_
 .exact λd u f=>⟨false,false,false,false,false,false,false,rfl,rfl,rfl,λ_=>f,λh=>by cases h⟩
 .clear f;rintro l a d O' w j rest hl ⟨l0,l1,l2,l3,l4,l5,D,rfl,ha,Y,g,n⟩ hj V;simp only at ha Y g n;subst ha Y;obtain⟨I,r,y⟩:=kE hj;clear hj hl;have I:j<7:=I;have hc:j=0\/j=1\/j=2\/j=3\/j=4\/j=5\/j=6:=by omega
  obtain rfl|rfl|rfl|rfl|rfl|rfl|rfl:=hc
  .obtain rfl:l0=false:=by simpa using r
   obtain rfl:D=false:=by cases D;rfl;exact aF (n rfl).1 X0
   have f:=g rfl;clear g n I r y;simp only[cond_true,cond_false];refine W.bK f rfl ?_;clear f;intro d u f;refine goes_oper_k rfl rfl Y0 (λK z=>?_);go_simp;refine z _ _ ⟨Z0,?_,?_⟩
   .intro e x;have S:=bL x;simp[go_sem, *]at S
   clear z K;exact V _ _ _ _ ⟨true,_,_,_,_,_,_,rfl,rfl,rfl,λ_=>f,λh=>by cases h⟩
  .obtain rfl:l1=false:=by simpa using r
   obtain rfl:l0=true:=by simp[Region.binds]at y ⊢;simp_all
   obtain rfl:D=false:=by cases D;rfl;exact aF (n rfl).1 X0
   have f:=g rfl;clear g n I r y;simp only[cond_true,cond_false];refine W.bK f rfl ?_;clear f;intro d u f;refine goes_oper_k rfl rfl Y0 (λK z=>?_);go_simp;refine z _ _ ⟨Z0,?_,?_⟩
   .intro e x;have S:=bL x;simp[go_sem, *]at S
   clear z K;exact V _ _ _ _ ⟨_,true,_,_,_,_,_,rfl,rfl,rfl,λ_=>f,λh=>by cases h⟩
  .obtain rfl:l2=false:=by simpa using r
   obtain rfl:l1=true:=by simp[Region.binds]at y ⊢;simp_all
   obtain rfl:D=false:=by cases D;rfl;exact aF (n rfl).1 X0
   have f:=g rfl;clear g n I r y;simp only[cond_true,cond_false];refine W.bK f rfl ?_;clear f;intro d u f;refine goes_oper_k rfl rfl Y0 (λK z=>?_);go_simp;refine z _ _ ⟨Z0,?_,?_⟩
   .intro e x;have S:=bL x;simp[go_sem, *]at S
   clear z K;exact V _ _ _ _ ⟨_,_,true,_,_,_,_,rfl,rfl,rfl,λ_=>f,λh=>by cases h⟩
  .obtain rfl:l3=false:=by simpa using r
   obtain rfl:l2=true:=by simp[Region.binds]at y ⊢;simp_all
   obtain rfl:D=false:=by cases D;rfl;exact aF (n rfl).1 X0
   have f:=g rfl;clear g n I r y;simp only[cond_true,cond_false];refine W.bK f rfl ?_;clear f;intro d u f;refine goes_oper_k rfl rfl Y0 (λK z=>?_);have hmd:=f.q.fx.1.2.2.1;go_simp;refine z _ _ ⟨Z0,?_,?_⟩
   .intro e x;have S:=bL x;simp[go_sem, *]at S;subst S;exact AX hL rfl V4 V4
   clear z K;exact V _ _ _ _ ⟨_,_,_,true,_,_,_,rfl,rfl,rfl,λ_=>f,λh=>by cases h⟩
  .obtain rfl:l4=false:=by simpa using r
   obtain rfl:D=false:=by cases D;rfl;exact aF (n rfl).1 X0
   have f:=g rfl;clear g n I r y;simp only[cond_true,cond_false];refine W.bK f rfl ?_;clear f;intro d u f;refine goes_oper_k rfl rfl Y0 (λK z=>?_);have U:=λj=>aQ u kb j _ _ _ f.q.fx.1.2.1;have b0:=U 0;have b1:=U 1;have b2:=U 2;have b3:=U 3;have b4:=U 4;have b5:=U 5;have b6:=U 6;have b7:=U 7;have b8:=U 8;have b9:=U 9;have b10:=U 10;have b11:=U 11;have b12:=U 12;have b13:=U 13;clear U;simp only[dA,List.getElem?_toArray,List.getElem?_cons_zero,List.getElem?_cons_succ]at b0 b1 b2 b3 b4 b5 b6 b7 b8 b9 b10 b11 b12 b13;go_simp;refine z _ _ ⟨Z0,?_,?_⟩
   .intro e x;have S:=bL x;simp[go_sem, *]at S;obtain rfl|rfl|rfl|rfl|rfl|rfl|rfl|rfl|rfl|rfl|rfl|rfl|rfl|rfl:=S<;>exact jR hkb.1
   clear z K;exact V _ _ _ _ ⟨_,_,_,_,true,_,_,rfl,rfl,rfl,λ_=>f,λh=>by cases h⟩
  .obtain rfl:l5=false:=by simpa using r
   obtain rfl:D=false:=by cases D;rfl;exact aF (n rfl).1 X0
   have f:=g rfl;clear g n I r y;simp only[cond_true,cond_false];refine W.bK f rfl ?_;clear f;intro d u f;refine goes_oper_k rfl rfl Y0 (λK z=>?_);go_simp;refine z _ _ ⟨Z0,?_,?_⟩
   .intro e x;have S:=bL x;simp[go_sem, *]at S
   clear z K;exact V _ _ _ _ ⟨_,_,_,_,_,true,_,rfl,rfl,rfl,λ_=>f,λh=>by cases h⟩
  .obtain rfl:D=false:=by simpa using r
   obtain⟨rfl,rfl,rfl,rfl,rfl,rfl⟩:l0=true/\l1=true/\l2=true/\l3=true/\l4=true/\l5=true:=by simp[Region.binds]at y ⊢;simp_all
   have f:=g rfl;clear g n I r y;simp only[cond_true,cond_false];refine W.stepW f rfl ?_;clear f;intro d u f;obtain⟨⟨f1,f2,f3,f4,fX⟩,f5⟩:=f.q.fx;obtain⟨f6,f7⟩:=f4 mb rfl;obtain⟨p1,p2⟩:=Vz (t:=t) xq f6 (λen x=>let⟨t',h,_⟩:=f7 en x;⟨t',h⟩) hne v;have hlt:mb<u.heap.size:=(bJ.1 f6).1;refine goes_oper_k rfl rfl Y0 (λK z=>?_);go_simp;refine z _ _ ?_;have p:∀b,b≠mb->({u with heap:=u.heap.setIfInBounds mb (.map (es.push {key:=.agg (dA k m t),val:=v,born:=cl}) (cl+1))}:au).heap[b]? =u.heap[b]? :=λb hb=>by simp[Ne.symm hb]
   have ap:=f.ap.o mb T.1;have gw:mV F i ⟨.hold,true,Z,0⟩ O2 O2 u {u with heap:=u.heap.setIfInBounds mb (.map (es.push {key:=.agg (dA k m t),val:=v,born:=cl}) (cl+1))}:=oV f.q.bd T.1 ap.2.1 (λL Eb=>by rw[hL]at Eb;cases Eb;exact ap.1) X0 p rfl rfl rfl;refine⟨O2,gw,?_,?_⟩
   .intro e x;have S:=bL x;simp[go_sem, *]at S;obtain rfl|rfl:=S<;>exact Lu T.1
   clear z K;refine V _ _ _ _ ⟨_,_,_,_,_,_,true,rfl,rfl,rfl,λh=>(by cases h),λ_=>⟨X0,f.turn hL gw ⟨?_,⟨some mb,?_,λmb' S=>?_,λj a b c=>(cell_of_block (p B (Ne.symm ap.1)) _).trans (fX j a b c)⟩,?_⟩⟩⟩
   .refine gK hst (λ_ h=>h) (ow:=false) (Z:=λ_=>False) u _ ⟨X0,λb hb=>p b ?_,.refl _⟩ (λh=>by cases h) f1;obtain hb|hb|hb:=hb
    .exact(hO b hb).2.1
    .rintro rfl;exact ap.2.2.2.1 hb
    .exact hb.elim
   .exact(cell_of_block (p B (Ne.symm ap.1)) _).trans f3
   .cases S;refine⟨rfl,es.push {key:=.agg (dA k m t),val:=v,born:=cl},cl+1,by simp[hlt],λen x=>?_⟩;simp only[Array.toList_push,List.mem_append,List.mem_singleton]at x;obtain x|rfl:=x
    .obtain⟨t',h1,h2⟩:=f7 en x;exact⟨t',h1,h2.keep (λ_ h=>.inl h) λb hb=>p b (by rintro rfl;exact ap.2.2.2.2 hb)⟩
    .exact⟨t,rfl,f5.keep (λ_ h=>.inr h) λb hb=>p b (by rintro rfl;exact T.2 hb)⟩
   .exact f5.keep (λ_ h=>.inr h) λb hb=>p b (by rintro rfl;exact T.2 hb)
 .clear f;rintro l a d O' w hl ⟨l0,l1,l2,l3,l4,l5,D,rfl,ha,Y,g,n⟩ hr;simp only at ha Y g n;subst ha Y;obtain rfl:D=true:=afi l0 l1 l2 l3 l4 l5 D hr;obtain⟨⟨rfl,rfl,rfl,rfl,rfl,rfl⟩,f⟩:=n rfl;have W:=dY (ty:=ty) (i:=i) (γ:=⟨.hold,true,Z,0⟩) hL BS;simp only[cond_true];refine W.bK f rfl ?_;clear f g n;intro d u f;rw[stepG_region_end];simp only[goes_go];refine⟨Z0,by intro e x;simp at x,?_⟩;exact Qv _ _ f
theorem LZ(hz:Zb.z=prog.globals.size)(V:F.lk=some (gI k m B e X))(hst:Yp F (gI k m B e X) false (λ_=>False) O Fx)(yG:0<k)(T:k+m<=12)(U:(aV t (k+m)).length=k)(Oz:F.Sh Zb.z)(hZ:∀w,Fx w->∃c e z,w.heap[Zb.z]? =some (.cells c e z))(hk:∀d u Z v,KR ty F (gI k m B e X) O Z (λw=>Fx w/\wT k m t Z v w) u->bS prog ty F i ⟨.done,false,Z,0⟩ d O (G (Q.at (N.put ((A[E]?).bind (·.dst)) v) (aT A C::M)) R) u)(hne:∀en∈es.toList,en.key≠ .agg (dA k m t))(y:∀b,O b->O2 b/\b≠mb)(g:O2 kb/\kb≠mb)(l:O2 mb)
 (J:Nat->aA)(h0:J 0=aJ B e)(h3:J 3=aJ kb 0)(d:Nat)(w:au)(a:KR ty F (gI k m B e X) O2 Z (zy k m t B e X kb (some mb) es cl Fx Z) w):
 bS prog ty F i ⟨.hold,true,Z,0⟩ d O2 (G ((base 184).at ⟨Oe J,[{target:=.fn (.func 222) #[],args:=#[aJ B e]}]⟩ [.code (aG (aG (aG (aG (aG wV)))))]) (Q.at N (aT A (E::C)::M)::R)) w:=by
 have s:=zy.iG (t:=t) (kb:=kb) (r:=some mb) (es:=es) (cl:=cl) (Z:=Z) hst (λb h=>(y b h).1) g.1 (λ_ h=>by cases h;exact l);have I:=dY (ty:=ty) (i:=i) (γ:=⟨.hold,true,Z,0⟩) V s;obtain⟨D,hD⟩:∃D,D=Zj:=⟨_,rfl⟩;rw[show(aG (aG (aG (aG (aG wV)))))=.seq (bZ (aG (aG (aG (aG (aG wV)))))) Zj from by kernel_rfl,<-hD];simp only[Oe,h0,h3,bZ,aG,wV,f184,fq]
 repeat(refine I.bK a rfl ?_;clear a;intro d u a;first
  |rw[stepG_region];simp only[goes_go,List.size_toArray,List.length_cons,List.length_nil,Nat.reduceAdd,eu,List.range,List.range.loop];refine⟨Z0,by intro e o;simp at o,?_⟩
  |first|rw[stepG_seq]|rw[stepG_skip]|rw[stepG_region_end]|rw[stepG_end]|rw[stepG_ret']|rw[stepG_block]|rw[stepG_loop]|rw[stepG_inLoop]|rw[stepG_inBlock]
   simp only[goes_go];refine⟨Z0,by intro e o;simp at o,?_⟩
  |refine goes_oper_k rfl rfl Y0 (λK hK=>?_)
   have f:=λj=>aQ u kb j _ _ _ a.q.fx.2.1;have b0:=f 0;have b1:=f 1;have b2:=f 2;have b3:=f 3;have b4:=f 4;have b5:=f 5;have b6:=f 6;have b7:=f 7;have b8:=f 8;have b9:=f 9;have W:=f 10;have Y:=f 11;have b12:=f 12;have b13:=f 13;clear f;simp only[dA,List.getElem?_toArray,List.getElem?_cons_zero,List.getElem?_cons_succ]at b0 b1 b2 b3 b4 b5 b6 b7 b8 b9 W Y b12 b13;go_simp;refine hK _ _ ⟨Z0,?_,?_⟩
   .intro e o;have hm:=bL o;simp[go_sem, *]at hm;obtain rfl|rfl|rfl|rfl|rfl|rfl|rfl|rfl|rfl|rfl|rfl|rfl|rfl|rfl:=hm<;>exact jR g.1
   clear hK K)
 refine I.step a rfl ?_;clear a;intro d u a;refine qD rfl rfl Y0 rfl (z:=#[.agg (dA k m t)]) (n:=1) (by simp[Act.eval,dA]) rfl func223 afg Rq ⟨Z0,by intro e o;simp at o,?_⟩;refine bS.UR V (λb hb=>.inl (by rw[hb];exact Oz)) s a (Ey hz k m t yG T U u (hZ u a.q.fx.1) _ _) ?_;rintro jf bF g' u ⟨v,rfl,hv⟩ S a;clear s I;have s:Yp F (gI k m B e X) true Z (λb=>jf b\/O2 b) (λw=>zy k m t B e X kb (some mb) es cl Fx Z w/\wT k m t jf v w):=λw u h hg hf=>⟨zy.iG hst (λb h=>.inr (y b h).1) (.inr g.1) (λ_ h=>by cases h;exact .inr l) w u h hg hf.1,hf.2.keep (λ_ h=>h) λb hb=>h.keep b (.inl (.inl hb))⟩;replace a:KR ty F (gI k m B e X) (λb=>jf b\/O2 b) Z (λw=>zy k m t B e X kb (some mb) es cl Fx Z w/\wT k m t jf v w) u:=a.fx ⟨a.q.fx,hv⟩;have I:=dY (ty:=ty) (i:=i) (γ:=⟨.hold,true,Z,0⟩) V s;rw[Frame.finish_at]
 walk_nrm
 refine I.run (g':=?_) a ?_;clear a;intro d u a;subst hD;have p:=Zk V hst hk T hne (O2:=λb=>jf b\/O2 b) (Zv:=jf) (kb:=kb) (mb:=mb) (λb h=>⟨.inr (y b h).1,(y b h).2,λx=>S b x (y b h).1⟩) ⟨.inr g.1,g.2⟩ ⟨.inr l,λx=>S _ x l⟩ (λb h=>.inl h) (λj=>if j=7 then v else if j=36 then v else if j=35 then .agg (dA k m t)else J j) h0 h3 rfl d _ a;simp only[Oe,h0,h3,Nat.reduceEqDiff,↓reduceIte]at p;exact p
end
theorem Bf[Payload][Zb](r:Option Nat)(w:au)(e:Array Event):(binOp .eql 112 (.map r) (.map none)).events prog w e=e:=by
 have q:∀n,Qt prog (Op.equalIn (n+1) 112 (.map r) (.map none)):=by intro n;unfold Op.equalIn;refine Qt.bind (λw es=>events_underlying prog w es _) λw d b _=>?_;cases d<;>cases r<;>first|exact dX _|exact jQ _
 have h:=q 9999 w;have a:=run_equalIn_map_nil w 9999 112 _ _ r underlying112;simp only[binOp];simp[Op.equal,Op.maxDepth,h,a]
section
variable [Payload] [Zb]
theorem Zl{F:Ph}(hz:Zb.z=prog.globals.size)(I:F.lk=some (gI k m B e X))(hst:Yp F (gI k m B e X) false (λ_=>False) O Fx)(yG:0<k)(xq:k+m<=12)(V:(aV t (k+m)).length=k)(Oz:F.Sh Zb.z)(hZ:∀w,Fx w->∃c e z,w.heap[Zb.z]? =some (.cells c e z))(hk:∀d u Z v,KR ty F (gI k m B e X) O Z (λw=>Fx w/\wT k m t Z v w) u->bS prog ty F i ⟨.done,false,Z,0⟩ d O (G (Q.at (N.put ((A[E]?).bind (·.dst)) v) (aT A C::M)) R) u)(hne:∀mb,r=some mb->∀en∈es.toList,en.key≠ .agg (dA k m t))(T:∀b,O b->O2 b/\∀mb,r=some mb->b≠mb)(n:O2 kb/\∀mb,r=some mb->kb≠mb)(Tg:∀mb,r=some mb->O2 mb)
 (J:Nat->aA)(h0:J 0=aJ B e)(h3:J 3=aJ kb 0)(d:Nat)(w:au)(f:KR ty F (gI k m B e X) O2 Z (zy k m t B e X kb r es cl Fx Z) w):
 bS prog ty F i ⟨.hold,true,Z,0⟩ d O2 (G ((base 184).at ⟨Oe J,[{target:=.fn (.func 222) #[],args:=#[aJ B e]}]⟩ [.code (aG (aG (aG (aG wV))))]) (Q.at N (aT A (E::C)::M)::R)) w:=by
 have s:=zy.iG (t:=t) (kb:=kb) (r:=r) (es:=es) (cl:=cl) (Z:=Z) hst (λb h=>(T b h).1) n.1 Tg;have S:=dY (ty:=ty) (i:=i) (γ:=⟨.hold,true,Z,0⟩) I s;obtain⟨D,hD⟩:∃D,D=(aG (aG (aG (aG (aG wV))))):=⟨_,rfl⟩;rw[show(aG (aG (aG (aG wV))))=.seq (bZ (aG (aG (aG (aG wV))))) (aG (aG (aG (aG (aG wV)))))from by kernel_rfl,<-hD];simp only[Oe,h0,h3,bZ,aG,wV,f184,fq];cases r with
 |some mb=>
  repeat(refine S.bK f rfl ?_;clear f;intro d u f;first
   |(first|rw[stepG_region];simp only[goes_go,List.size_toArray,List.length_cons,List.length_nil,Nat.reduceAdd,eu,List.range,List.range.loop]|(first|rw[stepG_cond (t:=true) rfl]|rw[stepG_cond (t:=false) rfl]);simp only[goes_go,if_true,if_false,gU,↓reduceIte]|refine goes_exit rfl ?_);refine⟨Z0,by intro e g;simp at g,?_⟩
   |rw[stepG_unwanted rfl rfl];simp only[goes_go];refine⟨Z0,by intro e g;simp at g,?_⟩;walk_nrm
   |first|rw[stepG_seq]|rw[stepG_skip]|rw[stepG_region_end]|rw[stepG_end]|rw[stepG_ret']|rw[stepG_block]|rw[stepG_loop]|rw[stepG_inLoop]|rw[stepG_inBlock]
    simp only[goes_go];refine⟨Z0,by intro e g;simp at g,?_⟩
   |refine goes_oper_k rfl rfl Y0 (λK l=>?_)
    go_simp;refine l _ _ ⟨Z0,?_,?_⟩
    .intro e g;have p:=bL g;simp[go_sem, *]at p
    clear l K
   |refine goes_oper_k rfl rfl Y0 (λK l=>?_)
    have hmd:=f.q.fx.2.2.1;go_simp;refine l _ _ ⟨Z0,?_,?_⟩
    .intro e g;have p:=bL g;simp[go_sem, *]at p;subst p;exact AX I rfl V4 V4
    clear l K
   |refine goes_oper_k rfl rfl Y0 (λK l=>?_)
    have Y:=Bf (some mb) u;have heq:=run_eql_map_nil (P:=prog) u 112 _ _ (some mb) underlying112;go_simp;refine l _ _ ⟨Z0,?_,?_⟩
    .intro e g;have p:=bL g;simp[go_sem, *]at p
    clear l K)
  subst hD;have x:=LZ hz I hst yG xq V Oz hZ hk (O2:=O2) (kb:=kb) (mb:=mb) (es:=es) (cl:=cl) (hne mb rfl) (λb h=>⟨(T b h).1,(T b h).2 mb rfl⟩) ⟨n.1,n.2 mb rfl⟩ (Tg mb rfl) (λj=>if j=26 then aJ B e else if j=27 then aJ B e else if j=28 then aJ B (e+2)else if j=29 then .map (some mb)else if j=30 then .bool false else J j) h0 h3 d _ f;simp only[Oe,h0,h3,Nat.reduceEqDiff,↓reduceIte]at x;exact x
 |none=>
  repeat(refine S.bK f rfl ?_;clear f;intro d u f;first
   |(first|rw[stepG_region];simp only[goes_go,List.size_toArray,List.length_cons,List.length_nil,Nat.reduceAdd,eu,List.range,List.range.loop]|(first|rw[stepG_cond (t:=true) rfl]|rw[stepG_cond (t:=false) rfl]);simp only[goes_go,if_true,if_false,gU,↓reduceIte]|refine goes_exit rfl ?_);refine⟨Z0,by intro e g;simp at g,?_⟩
   |rw[stepG_unwanted rfl rfl];simp only[goes_go];refine⟨Z0,by intro e g;simp at g,?_⟩;walk_nrm
   |first|rw[stepG_seq]|rw[stepG_skip]|rw[stepG_region_end]|rw[stepG_end]|rw[stepG_ret']|rw[stepG_block]|rw[stepG_loop]|rw[stepG_inLoop]|rw[stepG_inBlock]
    simp only[goes_go];refine⟨Z0,by intro e g;simp at g,?_⟩
   |refine goes_oper_k rfl rfl Y0 (λK l=>?_)
    go_simp;refine l _ _ ⟨Z0,?_,?_⟩
    .intro e g;have p:=bL g;simp[go_sem, *]at p
    clear l K
   |refine goes_oper_k rfl rfl Y0 (λK l=>?_)
    have hmd:=f.q.fx.2.2.1;go_simp;refine l _ _ ⟨Z0,?_,?_⟩
    .intro e g;have p:=bL g;simp[go_sem, *]at p;subst p;exact AX I rfl V4 V4
    clear l K
   |refine goes_oper_k rfl rfl Y0 (λK l=>?_)
    have Y:=Bf none u;have heq:=run_eql_map_nil (P:=prog) u 112 _ _ none underlying112;go_simp;refine l _ _ ⟨Z0,?_,?_⟩
    .intro e g;have p:=bL g;simp[go_sem, *]at p
    clear l K)
  refine S.stepW f rfl ?_;clear f;intro d u f;refine goes_oper_k rfl rfl Y0 (λK l=>?_);have ZW:=@run_makeMap prog;go_simp;have gw:=kZ (i:=i) (γ:=⟨.hold,true,Z,0⟩) f.q.bd (.map #[] 0) f.Yn (λL Eb=>by rw[I]at Eb;cases Eb;exact f.QK);refine l _ _ ⟨λb=>O2 b\/b=u.heap.size,gw,?_,?_⟩
  .intro e g;have p:=bL g;simp[go_sem,Instr.makeMap, *]at p
  clear l K ZW;have U:∀b,b<u.heap.size->(u.alloc (.map #[] 0)).heap[b]? =u.heap[b]? :=λb h=>yU u _ b h;have W:∀b,O2 b->b≠u.heap.size:=λb h=>Nat.ne_of_lt (f.q.bd b h);have y:KR ty F (gI k m B e X) (λb=>O2 b\/b=u.heap.size) Z (λw=>zy k m t B e X kb none es cl Fx Z w/\w.heap[u.heap.size]? =some (.map #[] 0)) (u.alloc (.map #[] 0)):=by
   refine f.turn I gw ⟨⟨?_,(U kb (f.q.bd kb n.1)).trans f.q.fx.2.1,(cell_of_block (U B f.QK) _).trans f.q.fx.2.2.1,nofun,λj a b c=>(cell_of_block (U B f.QK) _).trans (f.q.fx.2.2.2.2 j a b c)⟩,Go.Deep.blk_alloc_new u (.map #[] 0)⟩;refine gK hst (λ_ h=>h) (ow:=false) (Z:=λ_=>False) u _ ⟨X0,λb hb=>U b ?_,.refl _⟩ (λh=>by cases h) f.q.fx.1;obtain hb|hb|hb:=hb
   .exact f.q.bd b (T b hb).1
   .exact f.zb b (.inl hb)
   .exact hb.elim
  generalize u.heap.size=mb at y W ⊢;generalize u.alloc (.map #[] 0)=w1 at y ⊢;clear f gw U S s;have f:=y;clear y;have s:Yp F (gI k m B e X) true Z (λb=>O2 b\/b=mb) (λw=>zy k m t B e X kb none es cl Fx Z w/\w.heap[mb]? =some (.map #[] 0)):=λw u h hg hf=>⟨zy.iG hst (λb h=>.inl (T b h).1) (.inl n.1) nofun w u h hg hf.1,(h.keep mb (.inl (.inr rfl))).trans hf.2⟩;have S:=dY (ty:=ty) (i:=i) (γ:=⟨.hold,true,Z,0⟩) I s
  try walk_nrm
  refine S.run (g':=?_) f ?_;clear f;intro d u f;refine S.stepW f rfl ?_;clear f;intro d u f;refine goes_oper_k rfl rfl Y0 (λK l=>?_);obtain⟨W9,s9,hM9⟩:=f.q.mu;have hmd:=f.q.fx.1.2.2.1;have hfz:u.frozen? (aB B (e+2))=false:=hM9.fz _;go_simp;have gw:=QI (i:=i) (γ:=⟨.hold,true,Z,0⟩) f.q.bd I rfl f.ap.bc (j:=e+2) V4 V4 (.map (some mb));refine l _ _ ⟨_,gw,?_,?_⟩
  .intro ev g;have p:=bL g;have Y:=λes m=>events_store prog u es ⟨B,e+2,none⟩ (.map (some mb)) m rfl;simp[go_sem,Y,storedEv, *]at p;subst p;exact AX I rfl V4 V4
  clear l K hfz hM9;have U:∀b,b≠B->(u.setCell (aB B (e+2)) (.map (some mb))).heap[b]? =u.heap[b]? :=λb h=>(aside_setCell u ⟨B,e+2,none⟩ _).block b h;have y:KR ty F (gI k m B e X) (λb=>O2 b\/b=mb) Z (zy k m t B e X kb (some mb) #[] 0 Fx Z) (u.setCell (aB B (e+2)) (.map (some mb))):=by
   have ho:=λb(h:O2 b\/b=mb)=>(f.ap.o b h).1;refine f.turn I gw ⟨?_,(U kb (ho kb (.inl n.1))).trans f.q.fx.1.2.1,rH hmd,λmb' e=>by cases e;exact⟨(U mb (ho mb (.inr rfl))).trans f.q.fx.2,nofun⟩,λj a b c=>(World.cell?_setCell_other _ _ _ _ (by first|(simp;omega)|simp)).trans (f.q.fx.1.2.2.2.2 j a b c)⟩;refine gK hst (λ_ h=>h) (ow:=false) (Z:=λ_=>False) u _ ⟨X0,λb hb=>U b ?_,.of (aside_setCell u ⟨B,e+2,none⟩ _).os⟩ (λh=>by cases h) f.q.fx.1.1;obtain hb|hb|hb:=hb
   .exact ho b (.inl (T b hb).1)
   .exact(f.ap.z b (.inl hb)).1
   .exact hb.elim
  have hF0:=f;clear f S s;have f:=y;clear y;generalize u.setCell (aB B (e+2)) (.map (some mb))=w2 at f ⊢;have s:=zy.iG (t:=t) (kb:=kb) (r:=some mb) (es:=#[]) (cl:=0) (Z:=Z) (O2:=λb=>O2 b\/b=mb) hst (λb h=>.inl (T b h).1) (.inl n.1) (λ_ h=>by cases h;exact .inr rfl);have S:=dY (ty:=ty) (i:=i) (γ:=⟨.hold,true,Z,0⟩) I s
  try walk_nrm
  refine S.run (g':=?_) f ?_;clear f;intro d u f;subst hD;have x:=LZ hz I hst yG xq V Oz hZ hk (O2:=λb=>O2 b\/b=mb) (kb:=kb) (mb:=mb) (es:=#[]) (cl:=0) X0 (λb h=>⟨.inl (T b h).1,W b (T b h).1⟩) ⟨.inl n.1,W kb n.1⟩ (.inr rfl) (λj=>if j=26 then aJ B e else if j=27 then aJ B e else if j=28 then aJ B (e+2)else if j=29 then .map none else if j=30 then .bool true else if j=31 then aJ B e else if j=32 then .map (some mb)else if j=33 then aJ B e else if j=34 then aJ B (e+2)else J j) h0 h3 d _ f;simp only[Oe,h0,h3,Nat.reduceEqDiff,↓reduceIte]at x;exact x
end
def Lkd(k m:Nat)(t:Nat->Bool)(r:Option Nat)(es:Array MapEntry)(Z:aD)(val:aA)(ok:Bool)(w:au):Prop:=(ok=true/\wT k m t Z val w)\/(ok=false/\∀mb,r=some mb->∀en∈es.toList,en.key≠ .agg (dA k m t))
theorem Zm[Payload][Zb](p:k+m<=12)(h:∀mb,r=some mb->w.heap[mb]? =some (.map es cl)/\∀en∈es.toList,∃a,en.key=.agg (dA k m a)/\wT k m a Z en.val w):
 ∃val x,Lkd k m t r es Z val x w/\(Instr.lookup 112 (.map r) (.agg (dA k m t)) true).run prog w=.ok (.tuple #[val,.bool x]) w/\∀e∈(Instr.lookup 112 (.map r) (.agg (dA k m t)) true).events prog w #[],∃mb,r=some mb/\e=⟨.obj mb,false,false⟩:=by
 cases r with
 |none=>exact⟨_,_,.inr ⟨rfl,nofun⟩,TY _ _ _ _ _ _ _ _ _ _ _ _ _ _ w,λe b=>by rw[GZ]at b;simp at b⟩
 |some mb=>
  obtain⟨R,u⟩:=h mb rfl;obtain⟨S,hb⟩:=Rn (t:=t) p R λen b=>let⟨a,e,_⟩:=u en b;⟨a,e⟩;have d:∀e∈(Instr.lookup 112 (.map (some mb)) (.agg (dA k m t)) true).events prog w #[],∃c,some mb=some c/\e=⟨.obj c,false,false⟩:=λe b=>by rw[hb]at b;simp at b;exact⟨mb,rfl,b⟩
  obtain⟨en,T,o,q⟩|⟨hn,q⟩:=S
  .obtain⟨a,N,O⟩:=u en T;refine⟨_,_,.inl ⟨rfl,?_⟩,q,d⟩;rw[N]at o;obtain⟨P,U,V,W⟩:=O;have v:∀j,j<12->a j=t j:=λj f=>by
    simp only[dA,Value.agg.injEq,Array.mk.injEq,List.cons.injEq,Value.bool.injEq]at o;obtain⟨_,_,A,B,C,D,E,G,I,J,K,M,g,l,_⟩:=o
    match j,f with
    |0,_=>exact A
    |1,_=>exact B
    |2,_=>exact C
    |3,_=>exact D
    |4,_=>exact E
    |5,_=>exact G
    |6,_=>exact I
    |7,_=>exact J
    |8,_=>exact K
    |9,_=>exact M
    |10,_=>exact g
    |11,_=>exact l
   have s:aV a (k+m)=aV t (k+m):=List.filter_congr λj f=>v j (by have:=gY.1 f;omega);have n:aV (λi=> !a i) (k+m)=aV (λi=> !t i) (k+m):=List.filter_congr λj f=>by rw[v j (by have:=gY.1 f;omega)]
   have Q:dD k m a P=dD k m t P:=by unfold dD;rw[s,n]
   refine⟨P,?_,by rw[<-Q];exact V,W⟩;obtain⟨y,z⟩:=U;rw[n]at y;rw[s,n]at z;exact⟨y,z⟩
  .exact⟨_,_,.inr ⟨rfl,λc e=>by cases e;exact hn⟩,q,d⟩
noncomputable def Zn:Array Oper:=match bZ (aG (aG (aG wV)))with|.seq (.region _ D _) _=>D|_=>#[]
theorem afk:∀a b c d e f g h i j l:Bool,Region.ready .any Zn #[a,b,c,d,e,f,g,h,i,j,l]=[]->(a&&b&&c&&d&&e&&f&&g&&h&&i&&j&&l)=true:=by decide+kernel
theorem acs:∀b c d e f g a h i k l:Bool,((Region.ready .any Zn #[b,c,d,e,f,g,a,h,i,k,l]).all λj=>(j==0&& !b)||(j==1&& !c&&b)||(j==2&& !d&&c)||(j==3&& !e&&d)||(j==4&& !f)||(j==5&& !g&&e&&f)||(j==6&& !a&&g)||(j==7&& !h&&a)||(j==8&& !i&&a)||(j==9&& !k&&h)||(j==10&& !l&&i))=true:=by decide+kernel
theorem afl(b c d e f g a i k m l:Bool)(j:Nat)(h:j∈Region.ready .any Zn #[b,c,d,e,f,g,a,i,k,m,l]):(j=0/\b=false)\/(j=1/\c=false/\b=true)\/(j=2/\d=false/\c=true)\/(j=3/\e=false/\d=true)\/(j=4/\f=false)\/(j=5/\g=false/\e=true/\f=true)\/(j=6/\a=false/\g=true)\/(j=7/\i=false/\a=true)\/(j=8/\k=false/\a=true)\/(j=9/\m=false/\i=true)\/(j=10/\l=false/\k=true):=by have:=List.all_eq_true.1 (acs b c d e f g a i k m l) j h;simp only[Bool.or_eq_true,gu,beq_iff_eq,Bool.not_eq_true',or_assoc,and_assoc]at this;exact this
section
variable [Payload] [Zb] {F : Ph}
theorem VN(hz:Zb.z=prog.globals.size)(hL:F.lk=some (gI k m B e X))(hst:Yp F (gI k m B e X) false (λ_=>False) O Fx)(yG:0<k)(xq:k+m<=12)(hlen:(aV t (k+m)).length=k)(Oz:F.Sh Zb.z)(hZ:∀w,Fx w->∃c e z,w.heap[Zb.z]? =some (.cells c e z))(hk:∀d u Z v,KR ty F (gI k m B e X) O Z (λw=>Fx w/\wT k m t Z v w) u->bS prog ty F i ⟨.done,false,Z,0⟩ d O (G (Q.at (N.put ((A[E]?).bind (·.dst)) v) (aT A C::M)) R) u)(hO:∀b,O b->O2 b/\∀mb,r=some mb->b≠mb)(hkb:O2 kb/\∀mb,r=some mb->kb≠mb)(Tg:∀mb,r=some mb->O2 mb)
 (J:Nat->aA)(h0:J 0=aJ B e)(h3:J 3=aJ kb 0)(d:Nat)(w:au)(f:KR ty F (gI k m B e X) O2 Z (zy k m t B e X kb r es cl Fx Z) w):
 bS prog ty F i ⟨.hold,true,Z,0⟩ d O2 (G ((base 184).at ⟨Oe J,[{target:=.fn (.func 222) #[],args:=#[aJ B e]}]⟩ [.code (aG (aG (aG wV)))]) (Q.at N (aT A (E::C)::M)::R)) w:=by
 have yZ:=zy.iG (t:=t) (kb:=kb) (r:=r) (es:=es) (cl:=cl) (Z:=Z) hst (λb h=>(hO b h).1) hkb.1 Tg;have BS:∀(S:Bool)(val:aA)(I:Bool),Yp F (gI k m B e X) true Z O2 (λw=>zy k m t B e X kb r es cl Fx Z w/\(S=true->Lkd k m t r es Z val I w)):=λS val I w u h hg hf=>⟨yZ w u h hg hf.1,λx=>(hf.2 x).imp (λy=>⟨y.1,y.2.keep (λ_ h=>h) λb hb=>h.keep b (.inr (.inr hb))⟩) id⟩;have T:=dY (ty:=ty) (i:=i) (γ:=⟨.hold,true,Z,0⟩) hL yZ;obtain⟨D,hD⟩:∃D,D=(aG (aG (aG (aG wV)))):=⟨_,rfl⟩;rw[show(aG (aG (aG wV)))=.seq (bZ (aG (aG (aG wV)))) (aG (aG (aG (aG wV))))from by kernel_rfl,<-hD];simp only[Oe,h0,h3,bZ,aG,wV,f184,fq];refine T.run (g':=?_) f ?_;clear f;intro d u f;refine T.drawn f (λd u h=>zA (ow:=true) yZ h) K4 (Inv:=λl s=>∃(l0 l1 l2 l3 l4 S l6 l7 l8 l9 V:Bool)(val:aA)(I:Bool),l=#[l0,l1,l2,l3,l4,S,l6,l7,l8,l9,V]/\s.1=⟨#[aJ B e,J 1,J 2,aJ kb 0,J 4,cond l9 (val) (J 5),cond V (.bool I) (J 6),J 7,J 8,J 9,J 10,J 11,J 12,J 13,J 14,cond l6 (.tuple #[val,.bool I]) (J 15),cond l0 (aJ B e) (J 16),cond l1 (aJ B e) (J 17),cond l2 (aJ B (e+2)) (J 18),cond l3 (.map r) (J 19),cond l4 (.agg (dA k m t)) (J 20),cond S (.tuple #[val,.bool I]) (J 21),cond l7 (val) (J 22),cond l8 (.bool I) (J 23),J 24,J 25,J 26,J 27,J 28,J 29,J 30,J 31,J 32,J 33,J 34,J 35,J 36,J 37,J 38,J 39,J 40,J 41,J 42,J 43],[{target:=.fn (.func 222) #[],args:=#[aJ B e]}]⟩/\O2=s.2.2.1/\(S=false->l6=false/\l7=false/\l8=false/\l9=false/\V=false)/\KR ty F (gI k m B e X) O2 Z (λw=>zy k m t B e X kb r es cl Fx Z w/\(S=true->Lkd k m t r es Z val I w)) s.2.2.2) ?_ ?_ ?_
 .exact λd u f=>⟨false,false,false,false,false,false,false,false,false,false,false,ak,false,rfl,rfl,rfl,λ_=>⟨rfl,rfl,rfl,rfl,rfl⟩,f.fx ⟨f.q.fx,λh=>by cases h⟩⟩
 .clear f T;rintro l a d O' w j rest Y ⟨l0,l1,l2,l3,l4,S,l6,l7,l8,l9,V,val,I,rfl,ha,UH,hq,f⟩ W p;simp only at ha UH f;subst ha UH;have T:=dY (ty:=ty) (i:=i) (γ:=⟨.hold,true,Z,0⟩) hL (BS S val I);obtain⟨rfl,rfl⟩|⟨rfl,rfl,rfl⟩|⟨rfl,rfl,rfl⟩|⟨rfl,rfl,rfl⟩|⟨rfl,rfl⟩|⟨rfl,rfl,rfl,rfl⟩|⟨rfl,rfl,rfl⟩|⟨rfl,rfl,rfl⟩|⟨rfl,rfl,rfl⟩|⟨rfl,rfl,rfl⟩|⟨rfl,rfl,rfl⟩:=afl l0 l1 l2 l3 l4 S l6 l7 l8 l9 V j W
  .clear W Y;simp only[cond_true,cond_false];refine T.bK f rfl ?_;clear f;intro d u f;refine goes_oper_k rfl rfl Y0 (λK g=>?_);go_simp;refine g _ _ ⟨Z0,?_,?_⟩
   .intro e o;have n:=bL o;simp[go_sem, *]at n
   clear g K;exact p _ _ _ _ ⟨true,_,_,_,_,_,_,_,_,_,_,val,I,rfl,rfl,rfl,hq,f⟩
  .clear W Y;simp only[cond_true,cond_false];refine T.bK f rfl ?_;clear f;intro d u f;refine goes_oper_k rfl rfl Y0 (λK g=>?_);go_simp;refine g _ _ ⟨Z0,?_,?_⟩
   .intro e o;have n:=bL o;simp[go_sem, *]at n
   clear g K;exact p _ _ _ _ ⟨_,true,_,_,_,_,_,_,_,_,_,val,I,rfl,rfl,rfl,hq,f⟩
  .clear W Y;simp only[cond_true,cond_false];refine T.bK f rfl ?_;clear f;intro d u f;refine goes_oper_k rfl rfl Y0 (λK g=>?_);go_simp;refine g _ _ ⟨Z0,?_,?_⟩
   .intro e o;have n:=bL o;simp[go_sem, *]at n
   clear g K;exact p _ _ _ _ ⟨_,_,true,_,_,_,_,_,_,_,_,val,I,rfl,rfl,rfl,hq,f⟩
  .clear W Y;simp only[cond_true,cond_false];refine T.bK f rfl ?_;clear f;intro d u f;refine goes_oper_k rfl rfl Y0 (λK g=>?_);have hmd:=f.q.fx.1.2.2.1;go_simp;refine g _ _ ⟨Z0,?_,?_⟩
   .intro e o;have n:=bL o;simp[go_sem, *]at n;subst n;exact AX hL rfl V4 V4
   clear g K;exact p _ _ _ _ ⟨_,_,_,true,_,_,_,_,_,_,_,val,I,rfl,rfl,rfl,hq,f⟩
  .clear W Y;simp only[cond_true,cond_false];refine T.bK f rfl ?_;clear f;intro d u f;refine goes_oper_k rfl rfl Y0 (λK g=>?_);have U:=λj=>aQ u kb j _ _ _ f.q.fx.1.2.1;have b0:=U 0;have b1:=U 1;have b2:=U 2;have b3:=U 3;have b4:=U 4;have b5:=U 5;have b6:=U 6;have b7:=U 7;have b8:=U 8;have b9:=U 9;have b10:=U 10;have b11:=U 11;have b12:=U 12;have b13:=U 13;clear U;simp only[dA,List.getElem?_toArray,List.getElem?_cons_zero,List.getElem?_cons_succ]at b0 b1 b2 b3 b4 b5 b6 b7 b8 b9 b10 b11 b12 b13;go_simp;refine g _ _ ⟨Z0,?_,?_⟩
   .intro e o;have n:=bL o;simp[go_sem, *]at n;obtain rfl|rfl|rfl|rfl|rfl|rfl|rfl|rfl|rfl|rfl|rfl|rfl|rfl|rfl:=n<;>exact jR hkb.1
   clear g K;exact p _ _ _ _ ⟨_,_,_,_,true,_,_,_,_,_,_,val,I,rfl,rfl,rfl,hq,f⟩
  .clear W Y;simp only[cond_true,cond_false];obtain⟨rfl,rfl,rfl,rfl,rfl⟩:=hq rfl;refine T.bK f rfl ?_;clear f;intro d u f;obtain⟨val',ok',hlk,hrun,xJ⟩:=Zm (t:=t) xq f.q.fx.1.2.2.2.1;refine goes_oper_k rfl rfl Y0 (λK g=>?_);go_simp;refine g _ _ ⟨Z0,?_,?_⟩
   .intro e o;have n:=bL o;simp[go_sem]at n;obtain⟨mb,h1,rfl⟩:=xJ e n;exact Lu (Tg mb h1)
   clear g K hrun xJ;exact p _ _ _ _ ⟨_,_,_,_,_,true,false,false,false,false,false,val',ok',rfl,rfl,rfl,nofun,f.fx ⟨f.q.fx.1,λ_=>hlk⟩⟩
  .clear W Y;simp only[cond_true,cond_false];refine T.bK f rfl ?_;clear f;intro d u f;refine goes_oper_k rfl rfl Y0 (λK g=>?_);go_simp;refine g _ _ ⟨Z0,?_,?_⟩
   .intro e o;have n:=bL o;simp[go_sem, *]at n
   clear g K;exact p _ _ _ _ ⟨_,_,_,_,_,_,true,_,_,_,_,val,I,rfl,rfl,rfl,nofun,f⟩
  .obtain rfl:S=true:=by cases S;exact aF (hq rfl) X0;rfl
   clear W Y;simp only[cond_true,cond_false];refine T.bK f rfl ?_;clear f;intro d u f;refine goes_oper_k rfl rfl Y0 (λK g=>?_);go_simp;refine g _ _ ⟨Z0,?_,?_⟩
   .intro e o;have n:=bL o;simp[go_sem, *]at n
   clear g K;exact p _ _ _ _ ⟨_,_,_,_,_,_,_,true,_,_,_,val,I,rfl,rfl,rfl,nofun,f⟩
  .obtain rfl:S=true:=by cases S;exact aF (hq rfl) X0;rfl
   clear W Y;simp only[cond_true,cond_false];refine T.bK f rfl ?_;clear f;intro d u f;refine goes_oper_k rfl rfl Y0 (λK g=>?_);go_simp;refine g _ _ ⟨Z0,?_,?_⟩
   .intro e o;have n:=bL o;simp[go_sem, *]at n
   clear g K;exact p _ _ _ _ ⟨_,_,_,_,_,_,_,_,true,_,_,val,I,rfl,rfl,rfl,nofun,f⟩
  .obtain rfl:S=true:=by cases S;exact aF (hq rfl) X0;rfl
   clear W Y;simp only[cond_true,cond_false];refine T.bK f rfl ?_;clear f;intro d u f;refine goes_oper_k rfl rfl Y0 (λK g=>?_);go_simp;refine g _ _ ⟨Z0,?_,?_⟩
   .intro e o;have n:=bL o;simp[go_sem, *]at n
   clear g K;exact p _ _ _ _ ⟨_,_,_,_,_,_,_,_,_,true,_,val,I,rfl,rfl,rfl,nofun,f⟩
  .obtain rfl:S=true:=by cases S;exact aF (hq rfl) X0;rfl
   clear W Y;simp only[cond_true,cond_false];refine T.bK f rfl ?_;clear f;intro d u f;refine goes_oper_k rfl rfl Y0 (λK g=>?_);go_simp;refine g _ _ ⟨Z0,?_,?_⟩
   .intro e o;have n:=bL o;simp[go_sem, *]at n
   clear g K;exact p _ _ _ _ ⟨_,_,_,_,_,_,_,_,_,_,true,val,I,rfl,rfl,rfl,nofun,f⟩
 .clear f T;rintro l a d O' w Y ⟨l0,l1,l2,l3,l4,S,l6,l7,l8,l9,V,val,I,rfl,ha,UH,hq,f⟩ hr;simp only at ha UH f;subst ha UH;have xP:=afk l0 l1 l2 l3 l4 S l6 l7 l8 l9 V hr;simp only[gu]at xP;obtain⟨⟨⟨⟨⟨⟨⟨⟨⟨⟨rfl,rfl⟩,rfl⟩,rfl⟩,rfl⟩,rfl⟩,rfl⟩,rfl⟩,rfl⟩,rfl⟩,rfl⟩:=xP;have T:=dY (ty:=ty) (i:=i) (γ:=⟨.hold,true,Z,0⟩) hL (BS true val I);simp only[cond_true];cases I with
  |true=>refine T.run (g':=?_) f ?_;clear f;intro d u f;exact LY hL hst hk (O2:=O2) (Z:=Z) (Gd:=λb=>r=some b) (Z':=λ_=>False) (v:=val) (BS true val true) (λw hw=>⟨hw.1.1,⟨r,hw.1.2.2.1,λmb n=>⟨n,es,cl,(hw.1.2.2.2.1 mb n).1,λen o=>let⟨t',h1,h2⟩:=(hw.1.2.2.2.1 mb n).2 en o;⟨t',h1,h2.keep (λ_ h=>.inl h) λ_ _=>rfl⟩⟩,hw.1.2.2.2.2⟩,(hw.2 rfl).elim (λy=>y.2.keep (λ_ h=>.inl h) λ_ _=>rfl) λy=>by cases y.1⟩) (λb hb=>⟨Tg b hb,λh=>h⟩) (λb h=>h.elim) (λb hb=>⟨(hO b hb).1,λh=>(hO b hb).2 b h rfl,λh=>h⟩) _ rfl _ _ _ f
  |false=>refine T.run (g':=?_) f ?_;clear f;intro d u f;subst hD;have RJ:=Zl hz hL hst yG xq hlen Oz hZ hk (O2:=O2) (kb:=kb) (r:=r) (es:=es) (cl:=cl) ((f.q.fx.2 rfl).elim (λy=>by cases y.1) λy=>y.2) hO hkb Tg (λj=>if j=5 then val else if j=6 then .bool false else if j=15 then .tuple #[val,.bool false]else if j=16 then aJ B e else if j=17 then aJ B e else if j=18 then aJ B (e+2)else if j=19 then .map r else if j=20 then .agg (dA k m t)else if j=21 then .tuple #[val,.bool false]else if j=22 then val else if j=23 then .bool false else if j=24 then .bool false else J j) h0 h3 d _ (f.fx f.q.fx.1);simp only[Oe,h0,h3,Nat.reduceEqDiff,↓reduceIte]at RJ;exact RJ
theorem JX(hz:Zb.z=prog.globals.size)(I:F.lk=some (gI k m B e X))(hst:Yp F (gI k m B e X) false (λ_=>False) O Fx)(yG:0<k)(xq:k+m<=12)(hlen:(aV t (k+m)).length=k)(Oz:F.Sh Zb.z)(hZ:∀w,Fx w->∃c e z,w.heap[Zb.z]? =some (.cells c e z))(hk:∀d u Z v,KR ty F (gI k m B e X) O Z (λw=>Fx w/\wT k m t Z v w) u->bS prog ty F i ⟨.done,false,Z,0⟩ d O (G (Q.at (N.put ((A[E]?).bind (·.dst)) v) (aT A C::M)) R) u)(d:Nat)(w:au)(a:KR ty F (gI k m B e X) O (λ_=>False) Fx w):
 bS prog ty F i ⟨.pre,false,λ_=>False,0⟩ d O (G ((base 184).at ⟨#[aJ B e,.agg (dA k m t),ak,ak,ak,ak,ak,ak,ak,ak,ak,ak,ak,ak,ak,ak,ak,ak,ak,ak,ak,ak,ak,ak,ak,ak,ak,ak,ak,ak,ak,ak,ak,ak,ak,ak,ak,ak,ak,ak,ak,ak,ak,ak],[]⟩ [.code wV]) (Q.at N (aT A (E::C)::M)::R)) w:=by
 have f:=dY (ty:=ty) (i:=i) (γ:=⟨.pre,false,λ_=>False,0⟩) I hst;obtain⟨D,hD⟩:∃D,D=(aG (aG (aG wV))):=⟨_,rfl⟩;rw[show wV=.seq (bZ wV) (.seq (bZ (aG wV)) (.seq (bZ (aG (aG wV))) (aG (aG (aG wV)))))from by kernel_rfl,<-hD];simp only[bZ,aG,wV,f184,fq];refine f.run (g':=?_) a ?_;clear a;intro d u a;refine f.stepW a rfl ?_;clear a;intro d u a;refine goes_oper_k rfl rfl Y0 (λK hK=>?_);go_simp;have gw:=kZ (i:=i) (γ:=⟨.pre,false,λ_=>False,0⟩) a.q.bd (.cells (dA k m t) 238) a.Yn (λL W=>by rw[I]at W;cases W;exact a.QK);refine hK _ _ ⟨λb=>O b\/b=u.heap.size,gw,?_,?_⟩
 .intro e Y;have l:=bL Y;simp[go_sem, *]at l
 clear hK K;have kp:∀b,b<u.heap.size->(u.alloc (.cells (dA k m t) 238)).heap[b]? =u.heap[b]? :=λb h=>yU u _ b h;have hbd:∀b,O b->b≠u.heap.size:=λb h=>Nat.ne_of_lt (a.q.bd b h);have g:KR ty F (gI k m B e X) (λb=>O b\/b=u.heap.size) (λ_=>False) (λw=>Fx w/\w.heap[u.heap.size]? =some (.cells (dA k m t) 238 (0,0))) (u.alloc (.cells (dA k m t) 238)):=by
  refine a.turn I gw ⟨?_,Go.Deep.blk_alloc_new u (.cells (dA k m t) 238)⟩;refine hst u _ ⟨X0,λb hb=>kp b ?_,.refl _⟩ (λh=>by cases h) a.q.fx;obtain hb|hb|hb:=hb
  .exact a.q.bd b hb
  .exact a.zb b (.inl hb)
  .exact hb.elim
 generalize u.heap.size=kb at g hbd ⊢;generalize u.alloc (.cells (dA k m t) 238)=w1 at g ⊢;clear a gw kp f;have a:=g;clear g;have s:Yp F (gI k m B e X) false (λ_=>False) (λb=>O b\/b=kb) (λw=>Fx w/\w.heap[kb]? =some (.cells (dA k m t) 238 (0,0))):=λw u h S hf=>⟨gK hst (λb h=>.inl h) (ow:=false) w u h (λh=>by cases h) hf.1,(h.keep kb (.inl (.inr rfl))).trans hf.2⟩;have f:=dY (ty:=ty) (i:=i) (γ:=⟨.pre,false,λ_=>False,0⟩) I s
 try walk_nrm
 refine f.run (g':=?_) a ?_;clear a;intro d u a;refine f.step a rfl ?_;clear a;intro d u a;refine goes_call rfl rfl Y0 rfl func221 acp rfl ⟨Z0,by intro e Y;simp at Y,?_⟩
 walk_nrmf f221
 have p:=a.ap;refine Ry (L:=gI k m B e X) (O:=λb=>O b\/b=kb) (Fx:=λw=>(Fx w/\w.heap[kb]? =some (.cells (dA k m t) 238 (0,0)))/\∀b,F.Sh b->b<w.heap.size) I (λw u r h=>⟨s w u r (λh=>by cases h) h.1,λb hb=>bG (h.2 b hb) r.size⟩) ?_ (λd u y Z hH=>?_) _ _ ⟨⟨a.q.fx,λb hb=>a.zb b (.inl hb)⟩,a.q.live,a.q.pay,a.q.bd,a.q.mu⟩
 .rintro b (hb|hb|hb|rfl|rfl)
  .exact(p.o b hb).1
  .exact(p.z b (.inl hb)).1
  .exact hb.elim
  .exact p.bw.symm
  .exact p.bc.symm
 clear a f s;obtain⟨⟨⟨r,j1,j2,jX⟩,S,n⟩,⟨⟨⟨f1,f2⟩,f3⟩,q1,q2,q3,q4⟩⟩:=hH;obtain⟨es,cl,j3⟩:∃es cl,∀mb,r=some mb->y mb/\u.heap[mb]? =some (.map es cl)/\∀en∈es.toList,∃t',en.key=.agg (dA k m t')/\wT k m t' Z en.val u:=by
  cases r with
  |none=>exact⟨#[],0,nofun⟩
  |some mb=>obtain⟨T,es,cl,J⟩:=j2 mb rfl;exact⟨es,cl,λmb' e=>by cases e;exact⟨T,J⟩⟩
 have a:KR ty F (gI k m B e X) (λb=>(O b\/b=kb)\/y b) Z (zy k m t B e X kb r es cl Fx Z) u:=by
  refine⟨⟨⟨f1,f2,j1,λmb l=>(j3 mb l).2,jX⟩,q1,q2,λb hb=>hb.elim (q3 b) λh=>(S b h).1,q4⟩,λb hb=>hb.elim (f3 b) λh=>(n b h).1,λb hb=>?_,λb hb=>?_,p.bc,p.bw,p.cw⟩
  .obtain hb|hb:=hb
   .obtain⟨T,J,U,V,_⟩:=p.o b hb;exact⟨T,J,U,V,λh=>(n b h).2.1 hb⟩
   .obtain⟨a0,T,J,U,V,a5,a6,a7⟩:=S b hb;exact⟨V,U,a5,J,a7⟩
  .obtain hb|hb:=hb
   .exact p.z b (.inl hb)
   .obtain⟨a0,T,J,U,V,a5,a6⟩:=n b hb;exact⟨V,U,a5⟩
 have hO:∀b,O b->((O b\/b=kb)\/y b)/\∀mb,r=some mb->b≠mb:=λb hb=>⟨.inl (.inl hb),λmb l e=>(S mb (j3 mb l).1).2.1 (.inl (e▸hb))⟩;have hkb:((O kb\/kb=kb)\/y kb)/\∀mb,r=some mb->kb≠mb:=⟨.inl (.inr rfl),λmb l e=>(S mb (j3 mb l).1).2.1 (.inr e.symm)⟩;have Tg:∀mb,r=some mb->((O mb\/mb=kb)\/y mb):=λmb l=>.inr (j3 mb l).1;have s:=zy.iG (t:=t) (kb:=kb) (r:=r) (es:=es) (cl:=cl) (Z:=Z) (O2:=λb=>(O b\/b=kb)\/y b) hst (λb h=>(hO b h).1) hkb.1 Tg;have f:=dY (ty:=ty) (i:=i) (γ:=⟨.hold,true,Z,0⟩) I s;clear j1 j2 j3 jX S n f1 f2 f3 q1 q2 q3 q4
 walk_nrm
 refine f.run (g':=?_) a ?_;clear a;intro d u a;refine f.step a rfl ?_;clear a;intro d u a;refine He rfl rfl Y0 rfl (z:=#[aJ B e]) I5 ⟨Z0,by intro e Y;simp at Y,?_⟩
 walk_nrm
 refine f.run (g':=?_) a ?_;clear a;intro d u a;subst hD;have x:=VN hz I hst yG xq hlen Oz hZ hk (O2:=λb=>(O b\/b=kb)\/y b) (kb:=kb) (r:=r) (es:=es) (cl:=cl) hO hkb Tg (λj=>if j=0 then aJ B e else if j=1 then .agg (dA k m t)else if j=3 then aJ kb 0 else if j=4 then .slice none 0 0 else if j=8 then aJ B e else if j=9 then aJ B e else if j=10 then aJ B e else if j=11 then .tuple #[]else if j=12 then aJ B e else if j=13 then aJ B e else if j=14 then aJ B e else ak) rfl rfl d _ a;simp only[Oe,Nat.reduceEqDiff,↓reduceIte]at x;exact x
end
section
variable {t : bf}
noncomputable def yH(J:Nat->aA):Array aA:=#[J 0,J 1,J 2,J 3,J 4,J 5,J 6,J 7,J 8,J 9,J 10,J 11,J 12,J 13,J 14,J 15,J 16,J 17,J 18,J 19,J 20,J 21,J 22,J 23,J 24,J 25,J 26,J 27,J 28,J 29,J 30,J 31,J 32,J 33,J 34,J 35,J 36,J 37,J 38,J 39,J 40,J 41,J 42,J 43,J 44,J 45,J 46,J 47,J 48,J 49,J 50,J 51,J 52,J 53,J 54,J 55,J 56,J 57,J 58,J 59,J 60,J 61,J 62,J 63,J 64,J 65,J 66,J 67,J 68,J 69,J 70,J 71,J 72,J 73,J 74,J 75,J 76,J 77,J 78,J 79,J 80,J 81,J 82]
noncomputable def Ht:Code:=f123.body.getD .skip
noncomputable def fT:Code:=aG (aG (aG (aG (aG Ht))))
noncomputable def Zo:Code:=bZ (aG (aG (aG (aG Ht))))
noncomputable def kG:Code:=match aG Zo with|.block _ (.loop c)=>c|c=>c
noncomputable def Db:Code:=match bZ (aG (aG kG))with|.block _ c=>c|c=>c
noncomputable def JY:Array Oper:=match aG (aG Db)with|.region _ D _=>D|_=>#[]
theorem L8:kG=.seq (bZ kG) (.seq (bZ (aG kG)) (.seq (.block 1 (.seq (bZ Db) (.seq (bZ (aG Db)) (.region 8 JY true)))) (aG (aG (aG kG))))):=by kernel_rfl
def uY(k m kq bb size TN:Nat)(HN:Nat->Nat)(HD:Nat->aN)(Fx:au->Prop)(p q:Nat)(w:au):Prop:=Fx w/\w.rowIs kq 238 14 (pf k m (gZ HN p))/\isRow w bb TN (tK HN HD size q)
def fZ(l0 l1 l2 l3 l4 l5 l6 l7 l8:Bool):Bool:=(!l2||(l1))&&(!l4||(l2&&l3))&&(!l5||(l0&&l4))&&(!l7||(l6))&&(!l8||(l5&&l7))
theorem acu:∀a b c d e g f h l:Bool,(!fZ a b c d e g f h l||(Region.ready .any JY #[a,b,c,d,e,g,f,h,l]).all λj=>(j==0&& !a&& !l&&fZ true b c d e g f h l)||(j==1&& !b&& !l&&fZ a true c d e g f h l)||(j==2&& !c&& !l&&b&&fZ a b true d e g f h l)||(j==3&& !d&& !l&&fZ a b c true e g f h l)||(j==4&& !e&& !l&&c&&d&&fZ a b c d true g f h l)||(j==5&& !g&& !l&&a&&e&&fZ a b c d e true f h l)||(j==6&& !f&& !l&&fZ a b c d e g true h l)||(j==7&& !h&& !l&&f&&fZ a b c d e g f true l)||(j==8&& !l&&a&&b&&c&&d&&e&&g&&f&&h&&fZ a b c d e g f h true))=true:=by decide+kernel
theorem afm(a b c d e g f i l:Bool)(o:fZ a b c d e g f i l=true)(j:Nat)(h:j∈Region.ready .any JY #[a,b,c,d,e,g,f,i,l]):(j=0/\a=false/\l=false/\fZ true b c d e g f i l=true)\/(j=1/\b=false/\l=false/\fZ a true c d e g f i l=true)\/(j=2/\c=false/\l=false/\b=true/\fZ a b true d e g f i l=true)\/(j=3/\d=false/\l=false/\fZ a b c true e g f i l=true)\/(j=4/\e=false/\l=false/\c=true/\d=true/\fZ a b c d true g f i l=true)\/(j=5/\g=false/\l=false/\a=true/\e=true/\fZ a b c d e true f i l=true)\/(j=6/\f=false/\l=false/\fZ a b c d e g true i l=true)\/(j=7/\i=false/\l=false/\f=true/\fZ a b c d e g f true l=true)\/(j=8/\l=false/\a=true/\b=true/\c=true/\d=true/\e=true/\g=true/\f=true/\i=true/\fZ a b c d e g f i true=true):=by have k:=acu a b c d e g f i l;rw[o,Bool.not_true,Bool.false_or]at k;have:=List.all_eq_true.1 k j h;simp only[Bool.or_eq_true,gu,beq_iff_eq,Bool.not_eq_true',or_assoc,and_assoc]at this;exact this
theorem acv:∀l a b c d e f g h:Bool,Region.ready .any JY #[l,a,b,c,d,e,f,g,h]=[]->fZ l a b c d e f g h=true->(l&&a&&b&&c&&d&&e&&f&&g&&h)=true:=by decide+kernel
theorem om(g o:Nat)(t:bf):∀(s:List aA)(i:Nat)(cur:Array aA)(w:au)(es:Array Event),w.heap[g]? =some (.cells cur t (0,0))->o+i+s.length<=cur.size->(∀v∈s,v.oneCell'=true)->
 ∀e∈(storeCells ⟨g,o,none⟩ s i).events P w es,e∈es\/∃ad:Addr,ad.block=g/\e=⟨.cell ad,true,false⟩
 |[],_,_,_,_,_,_,_=>λe h=>.inl (by simpa[storeCells]using h)
 |v::rest,i,cur,w,es,b,l,d=>λe h=>by
  have k:o+i<cur.size:=by simp at l;omega
  have a:(⟨g,o,none⟩:Addr).add i=⟨g,o+i,none⟩:=by unfold Addr.add;split<;>simp_all
  have c:w.cell? (aB g (o+i))=some cur[o+i]:=by simp[World.cell?,b,k]
  have f:w.frozen? (aB g (o+i))=false:=by simp[World.frozen?,b]
  have hst:(store ((⟨g,o,none⟩:Addr).add i) v).run P w=.ok () (w.setRow g (cur.setIfInBounds (o+i) v)):=by rw[a,run_store P w _ v _ (d v X0),c];simp[f,setCell_eq_setRow w g (o+i) cur t (0,0) v b]
  have j:(store ((⟨g,o,none⟩:Addr).add i) v).events P w es=es.push ⟨.cell ⟨g,o+i,none⟩,true,false⟩:=by rw[a,events_store P w es _ v _ (d v X0),c];simp only[f,gU,if_false];rfl
  simp only[storeCells,Sem.events_bind,hst,Result.evThen_ok,j]at h;obtain h|h:=om g o t rest (i+1) (cur.setIfInBounds (o+i) v) (w.setRow g (cur.setIfInBounds (o+i) v)) _ (setRow_heap w g cur _ t _ b) (by simp at l ⊢;omega) (λx hx=>d x Y5) e h
  .obtain h|rfl:=Array.mem_push.1 h
   .exact .inl h
   .exact .inr ⟨_,rfl,rfl⟩
  .exact .inr h
theorem VO(w:au)(T j ty y:bf)(b o d C:Nat)(t:aN)(u:P.underlying T=some (.slice y))(z:∀w,(Go.sizeOf y).run P w=.ok 1 w)(c:t.size<=d)
 (g:w.heap[b]? =some (.cells cur V (0,0)))(f:o+t.size<=cur.size):∀a∈(Builtin.copy_ #[T,j] ty #[.slice (some ⟨b,o,none⟩) d C,.string t]).events P w #[],∃ad:Addr,ad.block=b/\a=⟨.cell ad,true,false⟩:=by
 have m:Nat.min t.size d=t.size:=Nat.min_eq_left c;have l:(t.data.toList.map λx=>Value.int .u8 (x.toNat:Int)).length=t.size:=by rw[List.length_map,<-Lib.size_eq]
 have hst:=om (P:=P) b o V (t.data.toList.map λx=>Value.int .u8 (x.toNat:Int)) 0 cur w #[] g (by rw[l];simpa using f) (by intro v i;obtain⟨x,_,rfl⟩:=gQ.1 i;rfl)
 intro a e;have s:∀es,(Go.sizeOf y).events P w es=es:=λes=>events_sizeOf P w es y;simp[Builtin.copy_,run_underlying u,events_underlying,Builtin.lenOf,Builtin.firstCells,z,m,s]at e;rw[List.take_of_length_le (by rw[l];exact aS _)]at e;obtain h|h:=hst a e
 .simp at h
 .exact h
theorem Hu(h:P.underlying t=some (.array len y))(a:Addr)(n:Nat)(hn:n<len)(w:au)(es:Array Event):(Instr.indexAt t (.pointer (some a)) (ah n)).events P w es=es:=by simp[Instr.indexAt,run_underlying h,asIntOf,Instr.sureAddr,hn]
theorem JZ(h:P.underlying t=some (.slice y))(a:Option Addr)(l c n:Nat)(hn:n<=l)(w:au)(es:Array Event):(Instr.sliceAt t (.slice a l c) (some (ah n)) none none).events P w es=es:=by simp[Instr.sliceAt,Instr.slice,run_underlying h,Instr.sliceBounds,Instr.sliceBound,asIntOf,hn]
theorem J8(h:P.underlying t=some (.slice y))(a:Option Addr)(l c n:Nat)(hn:n<=c)(w:au)(es:Array Event):(Instr.sliceAt t (.slice a l c) none (some (ah n)) none).events P w es=es:=by simp[Instr.sliceAt,Instr.slice,run_underlying h,Instr.sliceBounds,Instr.sliceBound,asIntOf,hn]
theorem mZ:∀(a:List aA)(o:Nat)(w:au),(w.setCells b o a).heap.size=w.heap.size/\(∀c,c≠b->(w.setCells b o a).heap[c]? =w.heap[c]?)/\(w.setCells b o a).tape=w.tape/\(w.setCells b o a).os=w.os/\(w.setCells b o a).output=w.output
 |[],_,_=>⟨rfl,λ_ _=>rfl,rfl,rfl,rfl⟩
 |v::r,o,w=>by
  obtain⟨d,e,f,g,i⟩:=mZ r (o+1) (w.setCell (aB b o) v)
  have s:=aside_setCell w ⟨b,o,none⟩ v
  exact⟨d.trans s.size,λc h=>(e c h).trans (s.block c h),f.trans s.tape,g.trans s.os,i.trans s.output⟩
end
section
variable [Payload] [Zb] {L : Lk} {F : Ph}
theorem uY.iG{kq:Nat}{p:Nat}(s:Yp F L false (λ_=>False) O Fx)(r:∀b,O b->O2 b)(e:O2 kq)(a:O2 bb):Yp F L ow Z O2 (uY k m kq bb size TN HN HD Fx p q):=by rintro w u h t ⟨o,⟨c,f,g,i⟩,⟨d,j,l,n⟩⟩;exact⟨gK s r (ow:=false) w u h (λh=>by cases h) o,⟨c,(h.keep kq (.inl e)).trans f,g,i⟩,⟨d,(h.keep bb (.inl a)).trans j,l,n⟩⟩
theorem wW(n:Nat)(h:n<=1000):IntKind.i64.wrap (n:Int)=(n:Int):=by rw[IntKind.wrap_i64];omega
theorem VP{kq:Nat}(hL:F.lk=some L)(hst:Yp F L false (λ_=>False) O Fx){nb FW:Nat}(hO:∀b,O b->O2 b/\b≠bb)(V:O2 nb/\nb≠bb)(Zp:O2 kq/\kq≠bb)(T:O2 bb)(Zq:FW=HN q*size)(hFT:FW+size<=TN)(hs0:0<size)(VQ:TN<=768)(hS:(HD q).size=size)(ajE:q<=12)
 (J:Nat->aA)(h9:J 9=ah size)(h11:J 11=aU bb TN TN)(A8:J 13=aJ nb 0)(h34:J 34=ah q)
 (hk:∀d u(J':Nat->aA),(∀j,j<34->J' j=J j)->J' 34=ah (q+1:Nat)->KR ty F L O2 (λ_=>False) (uY k m kq bb size TN HN HD Fx (q+1) (q+1)) u->bS prog ty F i ⟨.pre,false,λ_=>False,0⟩ d O2 (G ((base 123).at ⟨yH J',[]⟩ [.code kG,.inLoop kG,.inBlock 0,.code fT]) (Q.at N (aT A (E::C)::M)::R)) u)
 (d:Nat)(w:au)(f:KR ty F L O2 (λ_=>False) (λw=>uY k m kq bb size TN HN HD Fx (q+1) q w/\w.cell? (aB nb 0)=some (ah (HN q:Nat))/\w.cell? (aB nb 1)=some (.string (HD q))) w):
 bS prog ty F i ⟨.pre,false,λ_=>False,0⟩ d O2 (G ((base 123).at ⟨yH J,[]⟩ [.code (.region 8 JY true),.inBlock 1,.code (aG (aG (aG kG))),.inLoop kG,.inBlock 0,.code fT]) (Q.at N (aT A (E::C)::M)::R)) w:=by
 have VR:=uY.iG (k:=k) (m:=m) (kq:=kq) (bb:=bb) (size:=size) (TN:=TN) (HN:=HN) (HD:=HD) (p:=q+1) (q:=q) (O2:=O2) (Z:=λ_=>False) (ow:=false) hst (λb h=>(hO b h).1) Zp.1 T;have yZ:Yp F L false (λ_=>False) O2 (λw=>uY k m kq bb size TN HN HD Fx (q+1) q w/\w.cell? (aB nb 0)=some (ah (HN q:Nat))/\w.cell? (aB nb 1)=some (.string (HD q))):=λw u h hg hf=>⟨VR w u h hg hf.1,(cell_of_block (h.keep nb (.inl V.1)) 0).trans hf.2.1,(cell_of_block (h.keep nb (.inl V.1)) 1).trans hf.2.2⟩;have I:=dY (ty:=ty) (i:=i) (γ:=⟨.pre,false,λ_=>False,0⟩) hL yZ;have ef:((HN q:Nat):Int)*(size:Int)=(FW:Int):=by rw[Zq];push_cast;rfl
 have m1:(FW:Int)<=(TN:Int):=by omega
 have m2:¬TN=FW:=by omega
 have HFW:Hid (FW=HN q*size):=Zq;clear Zq;obtain⟨X,hX⟩:∃X,X=kG:=⟨_,rfl⟩;obtain⟨Y,hY⟩:∃Y,Y=fT:=⟨_,rfl⟩;obtain⟨X9,hX9⟩:∃X,X=aG (aG (aG kG)):=⟨_,rfl⟩;rw[<-hX9,<-hX,<-hY];simp only[yH,h9,h11,A8,h34];simp only[JY,Db,kG,Zo,Ht,bZ,aG,f123,fq];refine I.drawn f (λd u h=>zA (ow:=false) yZ h) K4 (Inv:=λl s=>∃l0 l1 l2 l3 l4 l5 l6 l7 W:Bool,l=#[l0,l1,l2,l3,l4,l5,l6,l7,W]/\(fZ l0 l1 l2 l3 l4 l5 l6 l7 W)=true/\s.1=⟨#[J 0,J 1,J 2,J 3,J 4,J 5,J 6,J 7,J 8,ah size,J 10,aU bb TN TN,J 12,aJ nb 0,J 14,J 15,J 16,J 17,J 18,J 19,J 20,J 21,J 22,J 23,J 24,J 25,J 26,J 27,J 28,J 29,J 30,J 31,J 32,J 33,ah q,J 35,J 36,J 37,J 38,J 39,J 40,J 41,cond l0 (aU bb TN TN) (J 42),cond l1 (aJ nb 0) (J 43),cond l2 (ah (HN q:Nat)) (J 44),cond l3 (ah size) (J 45),cond l4 (ah FW) (J 46),cond l5 (.slice (some ⟨bb,FW,none⟩) (TN-FW) (TN-FW)) (J 47),cond l6 (aJ nb 1) (J 48),cond l7 (.string (HD q)) (J 49),cond W (ah size) (J 50),J 51,J 52,J 53,J 54,J 55,J 56,J 57,J 58,J 59,J 60,J 61,J 62,J 63,J 64,J 65,J 66,J 67,J 68,J 69,J 70,J 71,J 72,J 73,J 74,J 75,J 76,J 77,J 78,J 79,J 80,J 81,J 82],[]⟩/\O2=s.2.2.1/\(W=false->KR ty F L O2 (λ_=>False) (λw=>uY k m kq bb size TN HN HD Fx (q+1) q w/\w.cell? (aB nb 0)=some (ah (HN q:Nat))/\w.cell? (aB nb 1)=some (.string (HD q))) s.2.2.2)/\(W=true->KR ty F L O2 (λ_=>False) (uY k m kq bb size TN HN HD Fx (q+1) (q+1)) s.2.2.2)) ?_ ?_ ?_
 .exact λd u f=>⟨false,false,false,false,false,false,false,false,false,rfl,rfl,rfl,rfl,λ_=>f,nofun⟩
 .clear f;rintro l a d O' w j rest U ⟨l0,l1,l2,l3,l4,l5,l6,l7,W,rfl,n,ha,S,g,r⟩ D z;simp only at ha S g r;subst ha S;obtain⟨rfl,rfl,rfl,n⟩|⟨rfl,rfl,rfl,n⟩|⟨rfl,rfl,rfl,rfl,n⟩|⟨rfl,rfl,rfl,n⟩|⟨rfl,rfl,rfl,rfl,rfl,n⟩|⟨rfl,rfl,rfl,rfl,rfl,n⟩|⟨rfl,rfl,rfl,n⟩|⟨rfl,rfl,rfl,rfl,n⟩|⟨rfl,rfl,rfl,rfl,rfl,rfl,rfl,rfl,rfl,rfl,n⟩:=afm l0 l1 l2 l3 l4 l5 l6 l7 W n j D
  .have f:=g rfl;clear g r;clear D U;simp only[cond_true,cond_false];refine I.bK f rfl ?_;clear f;intro d u f;refine goes_oper_k rfl rfl Y0 (λK v=>?_);go_simp;refine v _ _ ⟨Z0,?_,?_⟩
   .intro e B;have y:=bL B;simp[go_sem, *]at y
   clear v K;exact z _ _ _ _ ⟨true,_,_,_,_,_,_,_,_,rfl,n,rfl,rfl,λ_=>f,nofun⟩
  .have f:=g rfl;clear g r;clear D U;simp only[cond_true,cond_false];refine I.bK f rfl ?_;clear f;intro d u f;refine goes_oper_k rfl rfl Y0 (λK v=>?_);go_simp;refine v _ _ ⟨Z0,?_,?_⟩
   .intro e B;have y:=bL B;simp[go_sem, *]at y
   clear v K;exact z _ _ _ _ ⟨_,true,_,_,_,_,_,_,_,rfl,n,rfl,rfl,λ_=>f,nofun⟩
  .have f:=g rfl;clear g r;clear D U;simp only[cond_true,cond_false];refine I.bK f rfl ?_;clear f;intro d u f;refine goes_oper_k rfl rfl Y0 (λK v=>?_);have hx:=f.q.fx.2.1;go_simp;refine v _ _ ⟨Z0,?_,?_⟩
   .intro e B;have y:=bL B;simp[go_sem, *]at y;subst y;exact jR V.1
   clear v K;exact z _ _ _ _ ⟨_,_,true,_,_,_,_,_,_,rfl,n,rfl,rfl,λ_=>f,nofun⟩
  .have f:=g rfl;clear g r;clear D U;simp only[cond_true,cond_false];refine I.bK f rfl ?_;clear f;intro d u f;refine goes_oper_k rfl rfl Y0 (λK v=>?_);go_simp;refine v _ _ ⟨Z0,?_,?_⟩
   .intro e B;have y:=bL B;simp[go_sem, *]at y
   clear v K;exact z _ _ _ _ ⟨_,_,_,true,_,_,_,_,_,rfl,n,rfl,rfl,λ_=>f,nofun⟩
  .have f:=g rfl;clear g r;clear D U;simp only[cond_true,cond_false];refine I.bK f rfl ?_;clear f;intro d u f;refine goes_oper_k rfl rfl Y0 (λK v=>?_);have hx:=wW FW Q0;go_simp;refine v _ _ ⟨Z0,?_,?_⟩
   .intro e B;have y:=bL B;simp[go_sem, *]at y
   clear v K;exact z _ _ _ _ ⟨_,_,_,_,true,_,_,_,_,rfl,n,rfl,rfl,λ_=>f,nofun⟩
  .have f:=g rfl;clear g r;clear D U;simp only[cond_true,cond_false];refine I.bK f rfl ?_;clear f;intro d u f;refine goes_oper_k rfl rfl Y0 (λK v=>?_);have hx:=λes=>JZ (P:=prog) underlying95 (some ⟨bb,0,none⟩) TN TN FW Q0 u es;go_simp;refine v _ _ ⟨Z0,?_,?_⟩
   .intro e B;have y:=bL B;simp[go_sem, *]at y
   clear v K;exact z _ _ _ _ ⟨_,_,_,_,_,true,_,_,_,rfl,n,rfl,rfl,λ_=>f,nofun⟩
  .have f:=g rfl;clear g r;clear D U;simp only[cond_true,cond_false];refine I.bK f rfl ?_;clear f;intro d u f;refine goes_oper_k rfl rfl Y0 (λK v=>?_);go_simp;refine v _ _ ⟨Z0,?_,?_⟩
   .intro e B;have y:=bL B;simp[go_sem, *]at y
   clear v K;exact z _ _ _ _ ⟨_,_,_,_,_,_,true,_,_,rfl,n,rfl,rfl,λ_=>f,nofun⟩
  .have f:=g rfl;clear g r;clear D U;simp only[cond_true,cond_false];refine I.bK f rfl ?_;clear f;intro d u f;refine goes_oper_k rfl rfl Y0 (λK v=>?_);have hx:=f.q.fx.2.2;go_simp;refine v _ _ ⟨Z0,?_,?_⟩
   .intro e B;have y:=bL B;simp[go_sem, *]at y;subst y;exact jR V.1
   clear v K;exact z _ _ _ _ ⟨_,_,_,_,_,_,_,true,_,rfl,n,rfl,rfl,λ_=>f,nofun⟩
  .have f:=g rfl;clear g r D U;simp only[cond_true,cond_false];refine I.stepW f rfl ?_;clear f;intro d u f;obtain⟨⟨f1,f2,f3⟩,f4,f5⟩:=f.q.fx;have hcp:=run_copy_string (P:=prog) u 95 9 3 5 bb FW (TN-FW) (TN-FW) (HD q) underlying95 Pg Q0 (λj D=>by rw[f3.cell (i:=FW+j) Q0];rfl) (λj _=>f3.frozen (FW+j));obtain⟨cur,g1,g2,g3⟩:=f3;have xJ:=VO (P:=prog) u 95 9 3 5 bb FW (TN-FW) (TN-FW) (HD q) underlying95 Pg Q0 g1 Q0;refine goes_oper_k rfl rfl Y0 (λK v=>?_);go_simp;refine v _ _ ?_;obtain⟨k1,k2,k3,k4,k5⟩:=mZ (b:=bb) ((HD q).data.toList.map λx=>Value.int .u8 (x.toNat:Int)) FW u;have ap:=f.ap.o bb T;have gw:mV F i ⟨.pre,false,λ_=>False,0⟩ O2 O2 u (u.setCells bb FW ((HD q).data.toList.map λx=>Value.int .u8 (x.toNat:Int))):=oV f.q.bd T ap.2.1 (λL' Eb=>by rw[hL]at Eb;cases Eb;exact ap.1) k1 k2 k3 k4 k5;refine⟨O2,gw,?_,?_⟩
   .intro ev B;have y:=bL B;simp[go_sem]at y;obtain⟨ad,h1,rfl⟩:=xJ ev y;exact jR (by rw[h1];exact T)
   clear v K hcp xJ;refine z _ _ _ _ ⟨_,_,_,_,_,_,_,_,true,rfl,n,rfl,rfl,nofun,λ_=>f.turn hL gw ⟨?_,?_,?_⟩⟩
   .refine hst u _ ⟨by rw[k1];exact aS _,λb hb=>k2 b ?_,.of k4⟩ (λh=>by cases h) f1;obtain hb|hb|hb:=hb
    .exact(hO b hb).2
    .rintro rfl;exact ap.2.2.2.1 hb
    .exact hb.elim
   .obtain⟨c,c1,c2,c3⟩:=f2;exact⟨c,(k2 kq Zp.2).trans c1,c2,c3⟩
   .refine World.rowIs.congr (rowIs_setCells _ _ _ _ ⟨cur,g1,g2,g3⟩) (λj _=>?_);exact XK HN HD size q FW j HFW.out hS
 .clear f;rintro l a d O' w U ⟨l0,l1,l2,l3,l4,l5,l6,l7,W,rfl,n,ha,S,g,r⟩ hr;simp only at ha S g r;subst ha S;have xP:=acv l0 l1 l2 l3 l4 l5 l6 l7 W hr n;simp only[gu]at xP;obtain⟨⟨⟨⟨⟨⟨⟨⟨rfl,rfl⟩,rfl⟩,rfl⟩,rfl⟩,rfl⟩,rfl⟩,rfl⟩,rfl⟩:=xP;have f:=r rfl;clear g r n hr U;simp only[cond_true];have BS:=uY.iG (k:=k) (m:=m) (kq:=kq) (bb:=bb) (size:=size) (TN:=TN) (HN:=HN) (HD:=HD) (p:=q+1) (q:=q+1) (O2:=O2) (Z:=λ_=>False) (ow:=false) hst (λb h=>(hO b h).1) Zp.1 T;have I:=dY (ty:=ty) (i:=i) (γ:=⟨.pre,false,λ_=>False,0⟩) hL BS;rw[hX9];simp only[kG,Zo,Ht,bZ,aG,f123,fq];have hw1:IntKind.i64.wrap ((q:Int)+1)=((q+1:Nat):Int):=by have:=wW (q+1) Q0;push_cast at this ⊢;exact this
  refine I.run (g':=?_) f ?_;clear f;intro d u f;subst hX hY;have RJ:=hk d u (λj=>if j<34 then J j else #[J 0,J 1,J 2,J 3,J 4,J 5,J 6,J 7,J 8,J 9,J 10,J 11,J 12,J 13,J 14,J 15,J 16,J 17,J 18,J 19,J 20,J 21,J 22,J 23,J 24,J 25,J 26,J 27,J 28,J 29,J 30,J 31,J 32,J 33,ah (q+1:Nat),J 35,J 36,J 37,J 38,J 39,J 40,J 41,aU bb TN TN,aJ nb 0,ah (HN q:Nat),ah size,ah FW,.slice (some ⟨bb,FW,none⟩) (TN-FW) (TN-FW),aJ nb 1,.string (HD q),ah size,ah (q+1:Nat),J 52,J 53,J 54,J 55,J 56,J 57,J 58,J 59,J 60,J 61,J 62,J 63,J 64,J 65,J 66,J 67,J 68,J 69,J 70,J 71,J 72,J 73,J 74,J 75,J 76,J 77,J 78,J 79,J 80,J 81,J 82].getD j ak) (λj D=>aI D) rfl f;simp only[yH,h9,h11,A8]at RJ;exact RJ
theorem RL{kq:Nat}(D:F.lk=some L)(hst:Yp F L false (λ_=>False) O Fx)(hH:∀w,Fx w->∀i,i<k->w.cell? (aB hb (ho+i*2))=some (ah (HN i:Nat))/\w.cell? (aB hb (ho+i*2+1))=some (.string (HD i)))(hhb:F.Sh hb)(xq:k+m<=12)(hN:∀i,i<k->HN i<k+m)(hS:∀i,i<k->(HD i).size=size)(hs0:0<size)(VQ:TN=(k+m)*size)(RN:TN<=768)(hq:q<k)(hO:∀b,O b->O2 b/\b≠bb/\b≠kq)(l:O2 kq/\kq≠bb)(I:O2 bb)(J:Nat->aA)(h9:J 9=ah size)(h10:J 10=aJ kq 0)(h11:J 11=aU bb TN TN)(h32:J 32=.slice (some ⟨hb,ho,none⟩) k hcap)(h33:J 33=ah k)(h34:J 34=ah q)
 (hk:∀d u(s:aD)(J':Nat->aA),(∀b,O2 b->s b)->(∀j,j<34->j≠13->J' j=J j)->J' 34=ah (q+1:Nat)->KR ty F L s (λ_=>False) (uY k m kq bb size TN HN HD Fx (q+1) (q+1)) u->bS prog ty F i ⟨.pre,false,λ_=>False,0⟩ d s (G ((base 123).at ⟨yH J',[]⟩ [.code kG,.inLoop kG,.inBlock 0,.code fT]) (Q.at N (aT A (E::C)::M)::R)) u)
 (d:Nat)(w:au)(a:KR ty F L O2 (λ_=>False) (uY k m kq bb size TN HN HD Fx q q) w):
 bS prog ty F i ⟨.pre,false,λ_=>False,0⟩ d O2 (G ((base 123).at ⟨yH J,[]⟩ [.code kG,.inLoop kG,.inBlock 0,.code fT]) (Q.at N (aT A (E::C)::M)::R)) w:=by
 have S:=uY.iG (k:=k) (m:=m) (kq:=kq) (bb:=bb) (size:=size) (TN:=TN) (HN:=HN) (HD:=HD) (p:=q) (q:=q) (O2:=O2) (Z:=λ_=>False) (ow:=false) hst (λb h=>(hO b h).1) l.1 I;have z:=dY (ty:=ty) (i:=i) (γ:=⟨.pre,false,λ_=>False,0⟩) D S;obtain⟨FW,Zq⟩:∃FW:Nat,FW=HN q*size:=⟨_,rfl⟩;have hFT:FW+size<=TN:=by have:=iR size (show HN q+1<=k+m by have:=hN q hq;omega);rw[jk]at this;rw[Zq,VQ];exact this
 have HFW:Hid (FW=HN q*size):=Zq;clear Zq VQ;have i1:(q:Int)<(k:Int):=by omega
 have i2:((HN q:Nat):Int)<12:=by have:=hN q hq;omega
 obtain⟨X,hX⟩:∃X,X=Item.inLoop kG:=⟨_,rfl⟩;obtain⟨Y,hY⟩:∃Y,Y=fT:=⟨_,rfl⟩;obtain⟨Z8,hZ8⟩:∃Z,Z=Code.region 8 JY true:=⟨_,rfl⟩;obtain⟨X9,hX9⟩:∃X,X=aG (aG (aG kG)):=⟨_,rfl⟩;rw[<-hX,<-hY,L8,<-hX9,<-hZ8];simp only[yH,h9,h10,h11,h32,h33,h34,kG,Db,Zo,Ht,bZ,aG,f123,fq]
 repeat(refine z.bK a rfl ?_;clear a;intro d u a;first
  |(first|rw[stepG_region];simp only[goes_go,List.size_toArray,List.length_cons,List.length_nil,Nat.reduceAdd,eu,List.range,List.range.loop]|(first|rw[stepG_cond (t:=true) rfl]|rw[stepG_cond (t:=false) rfl]);simp only[goes_go,if_true,if_false,gU,↓reduceIte]|refine goes_exit rfl ?_);refine⟨Z0,by intro e c;simp at c,?_⟩
  |rw[stepG_unwanted rfl rfl];simp only[goes_go];refine⟨Z0,by intro e c;simp at c,?_⟩;walk_nrm
  |first|rw[stepG_seq]|rw[stepG_skip]|rw[stepG_region_end]|rw[stepG_end]|rw[stepG_ret']|rw[stepG_block]|rw[stepG_loop]|rw[stepG_inLoop]|rw[stepG_inBlock]
   simp only[goes_go];refine⟨Z0,by intro e c;simp at c,?_⟩
  |refine goes_oper_k rfl rfl Y0 (λK g=>?_)
   go_simp;refine g _ _ ⟨Z0,?_,?_⟩
   .intro e c;have n:=bL c;simp[go_sem, *]at n
   clear g K
  |refine goes_oper_k rfl rfl Y0 (λK g=>?_)
   obtain⟨g1,g2⟩:=hH u a.q.fx.1 q hq;go_simp;refine g _ _ ⟨Z0,?_,?_⟩
   .intro e c;have n:=bL c;simp[go_sem, *]at n;obtain rfl|rfl:=n<;>exact jS (.inl hhb)
   clear g K)
 refine z.stepW a rfl ?_;clear a;intro d u a;refine goes_oper_k rfl rfl Y0 (λK g=>?_);go_simp;have B:=kZ (i:=i) (γ:=⟨.pre,false,λ_=>False,0⟩) a.q.bd (.cells #[ah 0,.string ⟨#[]⟩] 188) a.Yn (λL' r=>by rw[D]at r;cases r;exact a.QK);refine g _ _ ⟨λb=>O2 b\/b=u.heap.size,B,?_,?_⟩
 .intro e c;have n:=bL c;simp[go_sem, *]at n
 clear g K;have kp:∀b,b<u.heap.size->(u.alloc (.cells #[ah 0,.string ⟨#[]⟩] 188)).heap[b]? =u.heap[b]? :=λb h=>yU u _ b h;have V:∀b,O2 b->b≠u.heap.size:=λb h=>Nat.ne_of_lt (a.q.bd b h);have f:KR ty F L (λb=>O2 b\/b=u.heap.size) (λ_=>False) (λw=>(uY k m kq bb size TN HN HD Fx q q) w/\w.heap[u.heap.size]? =some (.cells #[ah 0,.string ⟨#[]⟩] 188 (0,0))) (u.alloc (.cells #[ah 0,.string ⟨#[]⟩] 188)):=by
  refine a.turn D B ⟨S u _ ⟨X0,λb hb=>kp b ?_,.refl _⟩ (λh=>by cases h) a.q.fx,Go.Deep.blk_alloc_new u (.cells #[ah 0,.string ⟨#[]⟩] 188)⟩;obtain hb|hb|hb:=hb
  .exact a.q.bd b hb
  .exact a.zb b (.inl hb)
  .exact hb.elim
 generalize u.heap.size=nb at f V ⊢;generalize u.alloc (.cells #[ah 0,.string ⟨#[]⟩] 188)=w1 at f ⊢;clear a B kp z;have a:=f;clear f;have v:Yp F L false (λ_=>False) (λb=>O2 b\/b=nb) (λw=>(uY k m kq bb size TN HN HD Fx q q) w/\w.heap[nb]? =some (.cells #[ah 0,.string ⟨#[]⟩] 188 (0,0))):=λw u h hg hf=>⟨uY.iG hst (λb h=>.inl (hO b h).1) (.inl l.1) (.inl I) (ow:=false) w u h hg hf.1,(h.keep nb (.inl (.inr rfl))).trans hf.2⟩;have z:=dY (ty:=ty) (i:=i) (γ:=⟨.pre,false,λ_=>False,0⟩) D v
 try walk_nrm
 refine z.stepW a rfl ?_;clear a;intro d u a;refine goes_oper_k rfl rfl Y0 (λK g=>?_);have n0:u.cell? (aB nb 0)=some (ah 0):=aQ u nb 0 _ _ _ a.q.fx.2;have n1:u.cell? (aB nb 1)=some (.string ⟨#[]⟩):=aQ u nb 1 _ _ _ a.q.fx.2;have z0:∀j,u.frozen? (aB nb j)=false:=λj=>by simp[World.frozen?,a.q.fx.2]
 go_simp;have x:=aside_setCell u ⟨nb,0,none⟩ (ah (HN q:Nat));have y:=aside_setCell (u.setCell (aB nb 0) (ah (HN q:Nat))) ⟨nb,1,none⟩ (.string (HD q));have kp:∀b,b≠nb->((u.setCell (aB nb 0) (ah (HN q:Nat))).setCell (aB nb 1) (.string (HD q))).heap[b]? =u.heap[b]? :=λb h=>(y.block b h).trans (x.block b h);have U:=a.ap.o nb (.inr rfl);have B:mV F i ⟨.pre,false,λ_=>False,0⟩ (λb=>O2 b\/b=nb) (λb=>O2 b\/b=nb) u ((u.setCell (aB nb 0) (ah (HN q:Nat))).setCell (aB nb 1) (.string (HD q))):=oV a.q.bd (.inr rfl) U.2.1 (λL' r=>by rw[D]at r;cases r;exact U.1) (y.size.trans x.size) kp (y.tape.trans x.tape) (y.os.trans x.os) (y.output.trans x.output);refine g _ _ ⟨_,B,?_,?_⟩
 .intro e c;have n:=bL c;have xJ:=λw es ad md=>events_store prog w es ad (.string (HD q)) md rfl;have n1':=(World.cell?_setCell_other u ⟨nb,0,none⟩ ⟨nb,1,none⟩ (ah (HN q:Nat)) X0).trans n1;have z1':∀j,(u.setCell (aB nb 0) (ah (HN q:Nat))).frozen? (aB nb j)=false:=λj=>by rw[World.frozen?_setCell];exact z0 j
  simp[go_sem,xJ,storedEv,n0,n1',z0,z1']at n;obtain rfl|rfl:=n<;>exact jR (.inr rfl)
 clear g K;have f:KR ty F L (λb=>O2 b\/b=nb) (λ_=>False) (λw=>(uY k m kq bb size TN HN HD Fx q q) w/\w.cell? (aB nb 0)=some (ah (HN q:Nat))/\w.cell? (aB nb 1)=some (.string (HD q))) ((u.setCell (aB nb 0) (ah (HN q:Nat))).setCell (aB nb 1) (.string (HD q))):=by
  refine a.turn D B ⟨S u _ ⟨by rw[y.size,x.size];exact aS _,λb hb=>kp b ?_,.of (y.os.trans x.os)⟩ (λh=>by cases h) a.q.fx.1,(World.cell?_setCell_other _ _ _ _ X0).trans (rH n0),rH ((World.cell?_setCell_other _ _ _ _ X0).trans n1)⟩;obtain hb|hb|hb:=hb
  .exact V b hb
  .rintro rfl;exact U.2.2.2.1 hb
  .exact hb.elim
 generalize(u.setCell (aB nb 0) (ah (HN q:Nat))).setCell (aB nb 1) (.string (HD q))=w2 at f ⊢;clear a B kp z v n0 n1 z0 x y U;have a:=f;clear f;have v:∀p,Yp F L false (λ_=>False) (λb=>O2 b\/b=nb) (λw=>(uY k m kq bb size TN HN HD Fx p q) w/\w.cell? (aB nb 0)=some (ah (HN q:Nat))/\w.cell? (aB nb 1)=some (.string (HD q))):=λp w u h hg hf=>⟨uY.iG hst (λb h=>.inl (hO b h).1) (.inl l.1) (.inl I) (ow:=false) w u h hg hf.1,(cell_of_block (h.keep nb (.inl (.inr rfl))) 0).trans hf.2.1,(cell_of_block (h.keep nb (.inl (.inr rfl))) 1).trans hf.2.2⟩;have z:=dY (ty:=ty) (i:=i) (γ:=⟨.pre,false,λ_=>False,0⟩) D (v q)
 try walk_nrm
 repeat(refine z.bK a rfl ?_;clear a;intro d u a;first
  |(first|rw[stepG_region];simp only[goes_go,List.size_toArray,List.length_cons,List.length_nil,Nat.reduceAdd,eu,List.range,List.range.loop]|(first|rw[stepG_cond (t:=true) rfl]|rw[stepG_cond (t:=false) rfl]);simp only[goes_go,if_true,if_false,gU,↓reduceIte]|refine goes_exit rfl ?_);refine⟨Z0,by intro e c;simp at c,?_⟩
  |rw[stepG_unwanted rfl rfl];simp only[goes_go];refine⟨Z0,by intro e c;simp at c,?_⟩;walk_nrm
  |first|rw[stepG_seq]|rw[stepG_skip]|rw[stepG_region_end]|rw[stepG_end]|rw[stepG_ret']|rw[stepG_block]|rw[stepG_loop]|rw[stepG_inLoop]|rw[stepG_inBlock]
   simp only[goes_go];refine⟨Z0,by intro e c;simp at c,?_⟩
  |refine goes_oper_k rfl rfl Y0 (λK g=>?_)
   go_simp;refine g _ _ ⟨Z0,?_,?_⟩
   .intro e c;have n:=bL c;simp[go_sem, *]at n
   clear g K
  |refine goes_oper_k rfl rfl Y0 (λK g=>?_)
   have hx:=a.q.fx.2.1;go_simp;refine g _ _ ⟨Z0,?_,?_⟩
   .intro e c;have n:=bL c;simp[go_sem, *]at n;subst n;exact jR (.inr rfl)
   clear g K
  |refine goes_oper_k rfl rfl Y0 (λK g=>?_)
   have hx:=Hu (P:=prog) underlying236 ⟨kq,2,none⟩ (HN q) Q0 u;go_simp;refine g _ _ ⟨Z0,?_,?_⟩
   .intro e c;have n:=bL c;simp[go_sem, *]at n
   clear g K)
 refine z.stepW a rfl ?_;clear a;intro d u a;refine goes_oper_k rfl rfl Y0 (λK g=>?_);obtain⟨⟨f1,f2,f3⟩,f4,f5⟩:=a.q.fx;have cB:=f2.cell (i:=2+HN q) (by have:=hN q hq;omega);have zB:=f2.frozen (2+HN q);go_simp;have T:=aside_setCell u ⟨kq,2+HN q,none⟩ (.bool true);have U:=a.ap.o kq (.inl l.1);have B:mV F i ⟨.pre,false,λ_=>False,0⟩ (λb=>O2 b\/b=nb) (λb=>O2 b\/b=nb) u (u.setCell (aB kq (2+HN q)) (.bool true)):=oV a.q.bd (.inl l.1) U.2.1 (λL' r=>by rw[D]at r;cases r;exact U.1) T.size (λb h=>T.block b h) T.tape T.os T.output;refine g _ _ ⟨_,B,?_,?_⟩
 .intro ev c;have n:=bL c;have xJ:=λw es ad md=>events_store prog w es ad (.bool true) md rfl;simp[go_sem,xJ,storedEv,cB,zB]at n;subst n;exact jR (.inl l.1)
 clear g K;have hne:nb≠kq:=λe=>V kq l.1 e.symm;have f:KR ty F L (λb=>O2 b\/b=nb) (λ_=>False) (λw=>(uY k m kq bb size TN HN HD Fx (q+1) q) w/\w.cell? (aB nb 0)=some (ah (HN q:Nat))/\w.cell? (aB nb 1)=some (.string (HD q))) (u.setCell (aB kq (2+HN q)) (.bool true)):=by
  refine a.turn D B ⟨⟨hst u _ ⟨by rw[T.size];exact aS _,λb hb=>T.block b ?_,.of T.os⟩ (λh=>by cases h) f1,World.rowIs.congr (f2.set (2+HN q) _) (λj _=>T9 k m HN q j),World.rowIs.setOther f3 (by simpa using Ne.symm l.2) _⟩,(cell_of_block (T.block nb hne) 0).trans f4,(cell_of_block (T.block nb hne) 1).trans f5⟩;obtain hb|hb|hb:=hb
  .exact(hO b hb).2.2
  .rintro rfl;exact U.2.2.2.1 hb
  .exact hb.elim
 generalize u.setCell (aB kq (2+HN q)) (.bool true)=w3 at f ⊢;clear a B z cB zB T U f1 f2 f3 f4 f5;have a:=f;clear f;have z:=dY (ty:=ty) (i:=i) (γ:=⟨.pre,false,λ_=>False,0⟩) D (v (q+1))
 try walk_nrm
 refine z.run (g':=?_) a ?_;clear a;intro d u a;subst hX hY hZ8 hX9;have W:=VP (k:=k) (m:=m) D hst (O2:=λb=>O2 b\/b=nb) (nb:=nb) (q:=q) (FW:=FW) (λb h=>⟨.inl (hO b h).1,(hO b h).2.1⟩) ⟨.inr rfl,λe=>V bb I e.symm⟩ ⟨.inl l.1,l.2⟩ (.inl I) HFW.out hFT hs0 RN (hS q hq) Q0 (λj=>if j=13 then aJ nb 0 else if j<34 then J j else #[J 0,J 1,J 2,J 3,J 4,J 5,J 6,J 7,J 8,J 9,J 10,J 11,J 12,J 13,J 14,J 15,J 16,J 17,J 18,J 19,J 20,J 21,J 22,J 23,J 24,J 25,J 26,J 27,J 28,J 29,J 30,J 31,J 32,J 33,ah q,.bool true,aJ hb (ho+q*2),.agg #[ah (HN q:Nat),.string (HD q)],aJ nb 0,ah (HN q:Nat),aJ kq 2,aJ kq (2+HN q),J 42,J 43,J 44,J 45,J 46,J 47,J 48,J 49,J 50,J 51,J 52,J 53,J 54,J 55,J 56,J 57,J 58,J 59,J 60,J 61,J 62,J 63,J 64,J 65,J 66,J 67,J 68,J 69,J 70,J 71,J 72,J 73,J 74,J 75,J 76,J 77,J 78,J 79,J 80,J 81,J 82].getD j ak) h9 h11 rfl rfl (λd u J' a1 a2 a=>hk d u _ J' (λb h=>.inl h) (λj h1 h2=>by rw[a1 j h1];simp[h1,h2]) a2 a) d _ a;simp only[yH,h9,h10,h11,h32,h33,h34]at W;exact W
theorem VT{kq:Nat}(hL:F.lk=some L)(hst:Yp F L false (λ_=>False) O Fx)(hH:∀w,Fx w->∀i,i<k->w.cell? (aB hb (ho+i*2))=some (ah (HN i:Nat))/\w.cell? (aB hb (ho+i*2+1))=some (.string (HD i)))(W:F.Sh hb)(xq:k+m<=12)(hN:∀i,i<k->HN i<k+m)(hS:∀i,i<k->(HD i).size=size)(hs0:0<size)(T:TN=(k+m)*size)(S:TN<=768)(I:(aD)->(Nat->aA)->Prop)(hI:∀O2 s J x,(∀b,O2 b->s b)->(∀j,j<13->x j=J j)->I O2 J->I s x)
 (hk:∀d u(s:aD)(x:Nat->aA),I s x->KR ty F L s (λ_=>False) (uY k m kq bb size TN HN HD Fx k k) u->bS prog ty F i ⟨.pre,false,λ_=>False,0⟩ d s (G ((base 123).at ⟨yH x,[]⟩ [.code fT]) (Q.at N (aT A (E::C)::M)::R)) u):
 ∀n q,q+n=k->∀(O2:aD)(J:Nat->aA),I O2 J->(∀b,O b->O2 b/\b≠bb/\b≠kq)->(O2 kq/\kq≠bb)->O2 bb->J 9=ah size->J 10=aJ kq 0->J 11=aU bb TN TN->J 32=.slice (some ⟨hb,ho,none⟩) k hcap->J 33=ah k->J 34=ah q->∀d w,KR ty F L O2 (λ_=>False) (uY k m kq bb size TN HN HD Fx q q) w->
 bS prog ty F i ⟨.pre,false,λ_=>False,0⟩ d O2 (G ((base 123).at ⟨yH J,[]⟩ [.code kG,.inLoop kG,.inBlock 0,.code fT]) (Q.at N (aT A (E::C)::M)::R)) w:=by
 intro n
 induction n with
 |zero=>
  intro q hqk O2 J z K o v D a c f g r d w l;have U:=uY.iG (k:=k) (m:=m) (kq:=kq) (bb:=bb) (size:=size) (TN:=TN) (HN:=HN) (HD:=HD) (p:=q) (q:=q) (O2:=O2) (Z:=λ_=>False) (ow:=false) hst (λb h=>(K b h).1) o.1 v;have hR:=dY (ty:=ty) (i:=i) (γ:=⟨.pre,false,λ_=>False,0⟩) hL U;have i1:¬((q:Int)<(k:Int)):=by omega
  clear T;obtain⟨X,hX⟩:∃X,X=Item.inLoop kG:=⟨_,rfl⟩;obtain⟨Y,hY⟩:∃Y,Y=fT:=⟨_,rfl⟩;rw[<-hX,<-hY,L8];simp only[yH,D,a,c,f,g,r,kG,Db,Zo,Ht,bZ,aG,f123,fq];refine hR.run (g':=?_) l ?_;clear l;intro d u l;refine hR.bK l rfl ?_;clear l;intro d u l;rw[hX];refine goes_exit rfl ?_;refine⟨Z0,by intro e he;simp at he,?_⟩;subst hY;obtain rfl:q=k:=by omega
  have y:=hk d u O2 (λj=>if j=35 then .bool false else J j) (hI O2 O2 J _ (λ_ h=>h) (λj hj=>av Q0) z) l;simp only[yH,D,a,c,f,g,r,Nat.reduceEqDiff,↓reduceIte]at y;exact y
 |succ n ih=>intro q hqk O2 J z K o v D a c f g r d w l;refine RL hL hst hH W xq hN hS hs0 T S Q0 K o v J D a c f g r (λd u s x V B a3 l=>?_) d w l;exact ih (q+1) Q0 s x (hI O2 s J x V (λj hj=>B j Q0 Q0) z) (λb h=>⟨V b (K b h).1,(K b h).2⟩) ⟨V _ o.1,o.2⟩ (V _ v) ((B 9 Q0 Q0).trans D) ((B 10 Q0 Q0).trans a) ((B 11 Q0 Q0).trans c) ((B 32 Q0 Q0).trans f) ((B 33 Q0 Q0).trans g) a3 d u l
end
section
variable {t : bf}
theorem VU(ty:bf)(x:aN)(w:au)(es:Array Event):(Builtin.len_ #[9] ty #[.string x]).events prog w es=es:=by simp[Builtin.len_,run_underlying underlying9]
theorem VW(ty:bf)(a:Option Addr)(l c:Nat)(w:au)(es:Array Event):(Builtin.len_ #[49] ty #[.slice a l c]).events prog w es=es:=by simp[Builtin.len_,run_underlying underlying49]
theorem J9(w:au)(b o:Nat)(ty:bf)(cells:Array aA)(g:w.heap[b]? =some (.cells cur V (0,0)))(hl:o+cells.size<=cur.size)(s:∀w,(Go.sizeOf ty).run P w=.ok cells.size w)(c:∀v∈cells,v.oneCell'=true):
 ∀a∈(Instr.storeAt ty (aJ b o) (.agg cells)).events P w #[],∃ad:Addr,ad.block=b/\a=⟨.cell ad,true,false⟩:=by
 intro a e;have hc:(Value.agg cells).cells=cells:=rfl;have hst:=om (P:=P) b o V cells.toList 0 cur w #[] g O6 (λv d=>c v (by simpa using d));simp[Instr.storeAt,Instr.sureAddr,storeVar,s,hc,events_sizeOf]at e;obtain h|h:=hst a e
 .simp at h
 .exact h
theorem Hy(t e:bf)(z:aA)(bytes:Nat)(c:P.underlying t=some (.slice e))(h:(P.info? e).map (λi=>(i.zero,i.size,i.bytes))=some (some z,1,bytes))(n:Nat)(hb:bytes*n<=1000000)(hn:n<=1000000)(w:au)(es:Array Event):
 (Instr.makeSlice t (ah n) (ah n)).events P w es=es:=by
 obtain⟨i,b,a⟩:=gL.1 h;simp only[Prod.mk.injEq]at a;obtain⟨d,s,rfl⟩:=a;refine Conc.events_make w t e i z c b d .i64 .i64 n n Q0 Q0 ?_ Q0 ?_ es
 .have:((i.bytes*n:Nat):Int)<=1000000:=by omega
  push_cast at this;omega
 .rw[Int.toNat_natCast,lN];omega
theorem Hz{z:Bool}{b:Frame}{a:Act}{k:List Item}{f:au}{x y:Operand}{v d:aA}(ho:D[i]? =some o)(hw:Region.wanted o (yielded D a.tmps)=true)(s:b.kind≠ .early)
 (c:o.op=.store t x y)(n:o.dst=none)(g:a.eval x=v)(j:a.eval y=d)(r:(Instr.storeAt t v d).run P w=.ok () f)
 (h:∀es,(∀e∈es,e∈(Instr.storeAt t v d).events P w #[])->K (G (b.at a (aT D p::k)) R) f es):(stepG P z (G (b.at a (aT D (i::p)::k)) R) w).goes K:=by
 refine goes_oper_k ho hw s λA l=>?_;have u:(execOp a.eval o).run P w=.ok .skip f:=by unfold execOp;simp[c,g,j,r]
 rw[u,uponK_skip,n];refine l _ _ (h _ λe q=>?_);have m:=bL q;unfold execOp at m;simpa[c,g,j,r]using m
end
section
variable [Payload] [Zb]
theorem RP{F:Ph}{L:Lk}(D:F.lk=some L)(hst:Yp F L false (λ_=>False) O Fx)(hH:∀w,Fx w->∀i,i<k->w.cell? (aB hb (ho+i*2))=some (ah (HN i:Nat))/\w.cell? (aB hb (ho+i*2+1))=some (.string (HD i)))(hhb:F.Sh hb)(xq:k+m<=12)(hN:∀i,i<k->HN i<k+m)(hS:∀i,i<k->(HD i).size=size)(hs0:0<size)(V:TN=(k+m)*size)(RN:TN<=768)(yG:0<k)(hkn:k<=hn)(hnc:hn<=hcap)(hk:∀d u(s:aD)(J:Nat->aA) kq bb,(∀b,O b->s b/\b≠bb/\b≠kq)->(s kq/\kq≠bb)->s bb->J 0=aJ B e->J 1=ah k->J 2=ah m->J 9=ah size->J 10=aJ kq 0->J 11=aU bb TN TN->KR ty F L s (λ_=>False) (uY k m kq bb size TN HN HD Fx k k) u->bS prog ty F i ⟨.pre,false,λ_=>False,0⟩ d s (G ((base 123).at ⟨yH J,[]⟩ [.code fT]) (Q.at N (aT A (E::C)::M)::R)) u)
 (d:Nat)(w:au)(a:KR ty F L O (λ_=>False) Fx w):
 bS prog ty F i ⟨.pre,false,λ_=>False,0⟩ d O (G ((base 123).at ⟨#[aJ B e,ah k,ah m,.slice (some ⟨hb,ho,none⟩) hn hcap,ak,ak,ak,ak,ak,ak,ak,ak,ak,ak,ak,ak,ak,ak,ak,ak,ak,ak,ak,ak,ak,ak,ak,ak,ak,ak,ak,ak,ak,ak,ak,ak,ak,ak,ak,ak,ak,ak,ak,ak,ak,ak,ak,ak,ak,ak,ak,ak,ak,ak,ak,ak,ak,ak,ak,ak,ak,ak,ak,ak,ak,ak,ak,ak,ak,ak,ak,ak,ak,ak,ak,ak,ak,ak,ak,ak,ak,ak,ak],[]⟩ [.code Ht]) (Q.at N (aT A (E::C)::M)::R)) w:=by
 have y:=dY (ty:=ty) (i:=i) (γ:=⟨.pre,false,λ_=>False,0⟩) D hst;have s0:=hS 0 yG;have k0:0<hn:=by omega
 have HTN:Hid (TN=(k+m)*size):=V;have eT:((k:Int)+(m:Int))*(size:Int)=(TN:Int):=by rw[V];push_cast;rfl
 clear V;obtain⟨Y,hY⟩:∃Y,Y=fT:=⟨_,rfl⟩;obtain⟨X,hX⟩:∃X,X=kG:=⟨_,rfl⟩;rw[show Ht=.seq (bZ Ht) (.seq (bZ (aG Ht)) (.seq (bZ (aG (aG Ht))) (.seq (bZ (aG (aG (aG Ht)))) (.seq (.seq (bZ Zo) (.block 0 (.loop kG))) fT))))from by kernel_rfl,<-hY,<-hX];simp only[kG,Zo,Ht,bZ,aG,f123,fq]
 repeat(refine y.bK a rfl ?_;clear a;intro d u a;first
  |(first|rw[stepG_region];simp only[goes_go,List.size_toArray,List.length_cons,List.length_nil,Nat.reduceAdd,eu,List.range,List.range.loop]|(first|rw[stepG_cond (t:=true) rfl]|rw[stepG_cond (t:=false) rfl]);simp only[goes_go,if_true,if_false,gU,↓reduceIte]);refine⟨Z0,by intro e g;simp at g,?_⟩
  |first|rw[stepG_seq]|rw[stepG_skip]|rw[stepG_region_end]|rw[stepG_end]|rw[stepG_ret']|rw[stepG_block]|rw[stepG_loop]|rw[stepG_inLoop]|rw[stepG_inBlock]
   simp only[goes_go];refine⟨Z0,by intro e g;simp at g,?_⟩
  |refine goes_oper_k rfl rfl Y0 (λK l=>?_)
   go_simp;refine l _ _ ⟨Z0,?_,?_⟩
   .intro e g;have x:=bL g;simp[go_sem, *]at x
   clear l K
  |refine goes_oper_k rfl rfl Y0 (λK l=>?_)
   have hx:=VU 3 (HD 0) u;go_simp;refine l _ _ ⟨Z0,?_,?_⟩
   .intro e g;have x:=bL g;simp[go_sem, *]at x
   clear l K
  |refine goes_oper_k rfl rfl Y0 (λK l=>?_)
   have h0:=(hH u a.q.fx 0 yG).2;simp only[Nat.zero_mul,oI]at h0;go_simp;refine l _ _ ⟨Z0,?_,?_⟩
   .intro e g;have x:=bL g;simp[go_sem, *]at x;subst x;exact jS (.inl hhb)
   clear l K)
 refine y.stepW a rfl ?_;clear a;intro d u a;refine goes_oper_k rfl rfl Y0 (λK l=>?_);go_simp;have z:=kZ (i:=i) (γ:=⟨.pre,false,λ_=>False,0⟩) a.q.bd (.cells #[ah 0,ah 0,.bool false,.bool false,.bool false,.bool false,.bool false,.bool false,.bool false,.bool false,.bool false,.bool false,.bool false,.bool false] 238) a.Yn (λL' p=>by rw[D]at p;cases p;exact a.QK);refine l _ _ ⟨λb=>O b\/b=u.heap.size,z,?_,?_⟩
 .intro e g;have x:=bL g;simp[go_sem, *]at x
 clear l K;have kp:∀b,b<u.heap.size->(u.alloc (.cells #[ah 0,ah 0,.bool false,.bool false,.bool false,.bool false,.bool false,.bool false,.bool false,.bool false,.bool false,.bool false,.bool false,.bool false] 238)).heap[b]? =u.heap[b]? :=λb h=>yU u _ b h;have n:∀b,O b->b≠u.heap.size:=λb h=>Nat.ne_of_lt (a.q.bd b h);have f:KR ty F L (λb=>O b\/b=u.heap.size) (λ_=>False) (λw=>Fx w/\w.heap[u.heap.size]? =some (.cells #[ah 0,ah 0,.bool false,.bool false,.bool false,.bool false,.bool false,.bool false,.bool false,.bool false,.bool false,.bool false,.bool false,.bool false] 238 (0,0))) (u.alloc (.cells #[ah 0,ah 0,.bool false,.bool false,.bool false,.bool false,.bool false,.bool false,.bool false,.bool false,.bool false,.bool false,.bool false,.bool false] 238)):=by
  refine a.turn D z ⟨hst u _ ⟨X0,λb hb=>kp b ?_,.refl _⟩ (λh=>by cases h) a.q.fx,Go.Deep.blk_alloc_new u (.cells #[ah 0,ah 0,.bool false,.bool false,.bool false,.bool false,.bool false,.bool false,.bool false,.bool false,.bool false,.bool false,.bool false,.bool false] 238)⟩;obtain hb|hb|hb:=hb
  .exact a.q.bd b hb
  .exact a.zb b (.inl hb)
  .exact hb.elim
 generalize u.heap.size=kq at f n ⊢;generalize u.alloc (.cells #[ah 0,ah 0,.bool false,.bool false,.bool false,.bool false,.bool false,.bool false,.bool false,.bool false,.bool false,.bool false,.bool false,.bool false] 238)=w1 at f ⊢;clear a z kp y;have a:=f;clear f;have W:=n;clear n;have r:Yp F L false (λ_=>False) (λb=>O b\/b=kq) (λw=>Fx w/\w.heap[kq]? =some (.cells #[ah 0,ah 0,.bool false,.bool false,.bool false,.bool false,.bool false,.bool false,.bool false,.bool false,.bool false,.bool false,.bool false,.bool false] 238 (0,0))):=λw u h hg hf=>⟨gK hst (λb h=>.inl h) (ow:=false) w u h (λh=>by cases h) hf.1,(h.keep kq (.inl (.inr rfl))).trans hf.2⟩;have y:=dY (ty:=ty) (i:=i) (γ:=⟨.pre,false,λ_=>False,0⟩) D r
 try walk_nrm
 refine y.stepW a rfl ?_;clear a;intro d u a;have ht:u.there kq 0 14:=λj hj=>⟨by rw[aQ u kq _ _ _ _ a.q.fx.2];simp;omega,by simp[World.frozen?,a.q.fx.2]⟩;have U:∀v∈(#[ah k,ah m,.bool false,.bool false,.bool false,.bool false,.bool false,.bool false,.bool false,.bool false,.bool false,.bool false,.bool false,.bool false]:Array aA),v.oneCell'=true:=by intro v hv;simp at hv;obtain rfl|rfl|rfl:=hv<;>rfl
 have T:=run_storeAt_mid (P:=prog) u kq 0 238 #[ah k,ah m,.bool false,.bool false,.bool false,.bool false,.bool false,.bool false,.bool false,.bool false,.bool false,.bool false,.bool false,.bool false] ht M0 (Aq.2 U);have xJ:=J9 (P:=prog) u kq 0 238 #[ah k,ah m,.bool false,.bool false,.bool false,.bool false,.bool false,.bool false,.bool false,.bool false,.bool false,.bool false,.bool false,.bool false] a.q.fx.2 X0 (λw=>sizeOf238 w) U;refine Hz rfl rfl Y0 rfl rfl rfl rfl T (λes hes=>?_);obtain⟨k1,k2,k3,k4,k5⟩:=mZ (b:=kq) [ah k,ah m,.bool false,.bool false,.bool false,.bool false,.bool false,.bool false,.bool false,.bool false,.bool false,.bool false,.bool false,.bool false] 0 u;have ap:=a.ap.o kq (.inr rfl);have z:mV F i ⟨.pre,false,λ_=>False,0⟩ (λb=>O b\/b=kq) (λb=>O b\/b=kq) u (u.setCells kq 0 [ah k,ah m,.bool false,.bool false,.bool false,.bool false,.bool false,.bool false,.bool false,.bool false,.bool false,.bool false,.bool false,.bool false]):=oV a.q.bd (.inr rfl) ap.2.1 (λL' p=>by rw[D]at p;cases p;exact ap.1) k1 k2 k3 k4 k5;refine⟨_,z,λe g=>?_,?_⟩
 .obtain⟨ad,h1,rfl⟩:=xJ e (hes e g);exact jR (.inr h1)
 have S:u.rowIs kq 238 14 (λi=>(#[ah 0,ah 0,.bool false,.bool false,.bool false,.bool false,.bool false,.bool false,.bool false,.bool false,.bool false,.bool false,.bool false,.bool false]:Array aA).getD i ak):=⟨_,a.q.fx.2,rfl,λi hi=>by simp[Array.getD,hi]⟩;have f:KR ty F L (λb=>O b\/b=kq) (λ_=>False) (λw=>Fx w/\w.rowIs kq 238 14 (pf k m (gZ HN 0))) (u.setCells kq 0 [ah k,ah m,.bool false,.bool false,.bool false,.bool false,.bool false,.bool false,.bool false,.bool false,.bool false,.bool false,.bool false,.bool false]):=by
  refine a.turn D z ⟨hst u _ ⟨by rw[k1];exact aS _,λb hb=>k2 b ?_,.of k4⟩ (λh=>by cases h) a.q.fx.1,World.rowIs.congr (rowIs_setCells _ _ _ _ S) λj hj=>?_⟩
  .obtain hb|hb|hb:=hb
   .exact W b hb
   .rintro rfl;exact ap.2.2.2.1 hb
   .exact hb.elim
  .have h:=Pf k m j hj;rw[List.getElem?_toArray]at h;rw[aI ⟨bU _,by simpa using hj⟩,Nat.sub_zero,h];rfl
 generalize u.setCells kq 0 [ah k,ah m,.bool false,.bool false,.bool false,.bool false,.bool false,.bool false,.bool false,.bool false,.bool false,.bool false,.bool false,.bool false]=w2 at f ⊢;clear a z k1 k2 k3 k4 k5 y r hes xJ T U ht S ap;have a:=f;clear f;have r:Yp F L false (λ_=>False) (λb=>O b\/b=kq) (λw=>Fx w/\w.rowIs kq 238 14 (pf k m (gZ HN 0))):=λw u h hg hf=>⟨gK hst (λb h=>.inl h) (ow:=false) w u h (λh=>by cases h) hf.1,by obtain⟨c,c1,c2⟩:=hf.2;exact⟨c,(h.keep kq (.inl (.inr rfl))).trans c1,c2⟩⟩;have y:=dY (ty:=ty) (i:=i) (γ:=⟨.pre,false,λ_=>False,0⟩) D r;have hw1:IntKind.i64.wrap ((k:Int)+(m:Int))=(k:Int)+(m:Int):=by have:=wW (k+m) Q0;push_cast at this;exact this
 have TW:=wW TN Q0
 try walk_nrm
 refine y.run (g':=?_) a ?_;clear a;intro d u a;refine y.stepW a rfl ?_;clear a;intro d u a;refine goes_oper_k rfl rfl Y0 (λK l=>?_);have hm1:=run_make_row' (P:=prog) 95 5 (.int .u8 0) 1 underlying95 infoByte rfl .i64 .i64 TN Q0 Q0;have hme:=Hy (P:=prog) 95 5 (.int .u8 0) 1 underlying95 infoByte TN Q0 Q0 u;go_simp;have z:=kZ (i:=i) (γ:=⟨.pre,false,λ_=>False,0⟩) a.q.bd (.cells (madeCells #[.int .u8 0] TN) 5) a.Yn (λL' p=>by rw[D]at p;cases p;exact a.QK);refine l _ _ ⟨λb=>(λb=>O b\/b=kq) b\/b=u.heap.size,z,?_,?_⟩
 .intro e g;have x:=bL g;simp[go_sem, *]at x
 clear l K;have kp:∀b,b<u.heap.size->(u.alloc (.cells (madeCells #[.int .u8 0] TN) 5)).heap[b]? =u.heap[b]? :=λb h=>yU u _ b h;have n:∀b,(λb=>O b\/b=kq) b->b≠u.heap.size:=λb h=>Nat.ne_of_lt (a.q.bd b h);have f:KR ty F L (λb=>(λb=>O b\/b=kq) b\/b=u.heap.size) (λ_=>False) (λw=>(λw=>Fx w/\w.rowIs kq 238 14 (pf k m (gZ HN 0))) w/\w.heap[u.heap.size]? =some (.cells (madeCells #[.int .u8 0] TN) 5 (0,0))) (u.alloc (.cells (madeCells #[.int .u8 0] TN) 5)):=by
  refine a.turn D z ⟨r u _ ⟨X0,λb hb=>kp b ?_,.refl _⟩ (λh=>by cases h) a.q.fx,Go.Deep.blk_alloc_new u (.cells (madeCells #[.int .u8 0] TN) 5)⟩;obtain hb|hb|hb:=hb
  .exact a.q.bd b hb
  .exact a.zb b (.inl hb)
  .exact hb.elim
 generalize u.heap.size=bb at f n ⊢;generalize u.alloc (.cells (madeCells #[.int .u8 0] TN) 5)=w1 at f ⊢;clear a z kp y;have a:=f;clear f;have BS:Yp F L false (λ_=>False) (λb=>(O b\/b=kq)\/b=bb) (uY k m kq bb size TN HN HD Fx 0 0):=uY.iG hst (λb h=>.inl (.inl h)) (.inl (.inr rfl)) (.inr rfl);replace a:KR ty F L (λb=>(O b\/b=kq)\/b=bb) (λ_=>False) (uY k m kq bb size TN HN HD Fx 0 0) w1:=a.fx ⟨a.q.fx.1.1,a.q.fx.1.2,⟨_,a.q.fx.2,by simp[madeCells],λi hi=>by simp[madeCells,hi,tK,Nat.mod_one]⟩⟩;have y:=dY (ty:=ty) (i:=i) (γ:=⟨.pre,false,λ_=>False,0⟩) D BS
 try walk_nrm
 repeat(refine y.bK a rfl ?_;clear a;intro d u a;first
  |(first|rw[stepG_region];simp only[goes_go,List.size_toArray,List.length_cons,List.length_nil,Nat.reduceAdd,eu,List.range,List.range.loop]|(first|rw[stepG_cond (t:=true) rfl]|rw[stepG_cond (t:=false) rfl]);simp only[goes_go,if_true,if_false,gU,↓reduceIte]);refine⟨Z0,by intro e g;simp at g,?_⟩
  |first|rw[stepG_seq]|rw[stepG_skip]|rw[stepG_region_end]|rw[stepG_end]|rw[stepG_ret']|rw[stepG_block]|rw[stepG_loop]|rw[stepG_inLoop]|rw[stepG_inBlock]
   simp only[goes_go];refine⟨Z0,by intro e g;simp at g,?_⟩
  |refine goes_oper_k rfl rfl Y0 (λK l=>?_)
   go_simp;refine l _ _ ⟨Z0,?_,?_⟩
   .intro e g;have x:=bL g;simp[go_sem, *]at x
   clear l K
  |refine goes_oper_k rfl rfl Y0 (λK l=>?_)
   have hx:=VW 3 (some ⟨hb,ho,none⟩) k hcap u;go_simp;refine l _ _ ⟨Z0,?_,?_⟩
   .intro e g;have x:=bL g;simp[go_sem, *]at x
   clear l K
  |refine goes_oper_k rfl rfl Y0 (λK l=>?_)
   have hx:=λes=>J8 (P:=prog) underlying49 (some ⟨hb,ho,none⟩) hn hcap k Q0 u es;have hy:((k:Nat):Int)<=(hcap:Int):=by omega
   go_simp;refine l _ _ ⟨Z0,?_,?_⟩
   .intro e g;have x:=bL g;simp[go_sem, *]at x
   clear l K)
 subst hX hY;have I:=VT D hst hH hhb xq hN hS hs0 HTN.out RN (kq:=kq) (bb:=bb) (λs J=>(∀b,O b->s b/\b≠bb/\b≠kq)/\(s kq/\kq≠bb)/\s bb/\J 0=aJ B e/\J 1=ah k/\J 2=ah m/\J 9=ah size/\J 10=aJ kq 0/\J 11=aU bb TN TN)
  (λO2 s J J' a1 Z⟨b1,b2,b3,b4,b5,b6,b7,b8,b9⟩=>⟨λb h=>⟨a1 b (b1 b h).1,(b1 b h).2⟩,⟨a1 _ b2.1,b2.2⟩,a1 _ b3,(Z 0 Q0).trans b4,(Z 1 Q0).trans b5,(Z 2 Q0).trans b6,(Z 9 Q0).trans b7,(Z 10 Q0).trans b8,(Z 11 Q0).trans b9⟩)
  (λd u s J'⟨b1,b2,b3,b4,b5,b6,b7,b8,b9⟩ a=>hk d u s J' kq bb b1 b2 b3 b4 b5 b6 b7 b8 b9 a) k 0 Q0 (λb=>(O b\/b=kq)\/b=bb) (λj=>if j=0 then aJ B e else if j=1 then ah k else if j=2 then ah m else if j=3 then .slice (some ⟨hb,ho,none⟩) hn hcap else if j=8 then .slice none 0 0 else if j=9 then ah size else if j=10 then aJ kq 0 else if j=11 then aU bb TN TN else if j=16 then .slice (some ⟨hb,ho,none⟩) hn hcap else if j=17 then aJ hb ho else if j=18 then aJ hb (ho+1)else if j=19 then .string (HD 0)else if j=20 then ah size else if j=21 then ah k else if j=22 then ah m else if j=23 then .agg #[ah k,ah m,.bool false,.bool false,.bool false,.bool false,.bool false,.bool false,.bool false,.bool false,.bool false,.bool false,.bool false,.bool false]else if j=24 then ah k else if j=25 then ah m else if j=26 then ah ((k:Int)+(m:Int))else if j=27 then ah size else if j=28 then ah TN else if j=29 then aU bb TN TN else if j=30 then .slice (some ⟨hb,ho,none⟩) hn hcap else if j=31 then ah k else if j=32 then .slice (some ⟨hb,ho,none⟩) k hcap else if j=33 then ah k else if j=34 then ah (0:Nat)else ak)
  ⟨λb h=>⟨.inl (.inl h),n b (.inl h),W b h⟩,⟨.inl (.inr rfl),n kq (.inr rfl)⟩,.inr rfl,rfl,rfl,rfl,rfl,rfl,rfl⟩ (λb h=>⟨.inl (.inl h),n b (.inl h),W b h⟩) ⟨.inl (.inr rfl),n kq (.inr rfl)⟩ (.inr rfl) rfl rfl rfl rfl rfl rfl d _ a
 simp only[yH,Nat.reduceEqDiff,↓reduceIte]at I;exact I
end
theorem VX(w:au)(X:Nat->Nat)(J:Nat->aA)(s:J 1=ah k)(t:J 2=ah m)(v:J 9=ah size)(b:J 11=aU bb TN TN)(Z:isRow w bb TN X)(T:TN=(k+m)*size)(G:k+m<=12)(L:0<size)(y:TN<=768):
 (aG fT).wp prog (λe x u=>e=.ret/\x.defers=[]/\∃g,x.tmps.getD 8 ak=aU g (k+m) (k+m)/\w.heap.size<=g/\u.rowIs g 9 (k+m) (λi=>.string (jo X (i*size) size))) ⟨yH J,[]⟩ w:=by
 have p:=run_make_row' (P:=prog) 34 9 (.string ByteArray.empty) 16 underlying34 ze rfl .i64 .i64 (k+m) Q0 Q0;have q:((k+m:Nat):Int)=(k:Int)+(m:Int):=by omega
 rw[q]at p;clear q;have d:Hid (TN=(k+m)*size):=T;have C:Hid (isRow w bb TN X):=Z;have I:=Z.lt;clear T Z;simp only[yH,s,t,v,b,fT,Ht,aG,f123,fq];clear s t v b;go_wp2
 go_loopw [15,65] (λ_ i A=>∃j:Nat,j<=k+m/\i=ah j/\A.rowIs w.heap.size 9 (k+m) (λi=>if i<j then .string (jo X (i*size) size)else .string ByteArray.empty)/\isRow A bb TN X) (λ_ i _=>k+m-(intOf i).toNat)
 case atStart=>exact⟨0,bU _,X0,World.rowIs.congr (World.rowIs_made w _ (k+m) _) (λi _=>X0),World.rowIs.alloc C.out _⟩
 case round=>
  obtain⟨j,M,rfl,R,Z⟩:=hrel;by_cases o:j<k+m
  .obtain⟨W,a⟩:∃W:Nat,W=j*size:=⟨_,rfl⟩;have n:W+size<=TN:=by
    have:=iR size (show j+1<=k+m by omega);rw[jk]at this;rw[a,d.out];exact this
   have D:(j:Int)*(size:Int)=(W:Int):=by rw[a];push_cast;rfl
   have E:((j:Int)+1)*(size:Int)=((W+size:Nat):Int):=by rw[Int.add_mul,D];omega
   have cR:=R.cell o;have O:=R.frozen j;have N:(j:Int)<(k:Int)+(m:Int):=by omega
   have hcv:=Dg wr bb TN W size (TN-W) X Z n;have B:Hid (wr.rowIs w.heap.size 9 (k+m) (λi=>if i<j then .string (jo X (i*size) size)else .string ByteArray.empty)):=R;have f:Hid (isRow wr bb TN X):=Z;have c:Hid (W=j*size):=a;clear R Z a;go_wp2;refine⟨⟨j+1,Q0,by go_num,World.rowIs.congr (B.out.set j _) (λi _=>?_),World.rowIs.setOther f.out M4 _⟩,by simp[intOf];omega⟩;by_cases e:i=j
   .subst e;simp[c.out]
   .by_cases l:i<j
    .simp[e,l,oq l]
    .simp[e,l,show¬i<j+1 by omega]
  .have:j=k+m:=by omega
   subst this;go_wp2;exact R.congr (λi F=>by simp[F])
theorem L9:f185.body=some (f185.body.getD .skip):=rfl
theorem acy:(f185.name== "runtime.NumGoroutine")=false:=by kernel_rfl
theorem wX(s:c.size=n)(h:∀i,i<n->c[i]? =some (f i))(a:∀i,i<n->Num (f i)):∀x∈c,Num x:=by intro x d;obtain⟨j,b,rfl⟩:=Array.mem_iff_getElem.1 d;have:=h j Q0;rw[iU b]at this;rw[gH this];exact a j Q0
section
variable [Payload] [Zb] {X : Nat -> Nat}
theorem HV(hz:Zb.z=prog.globals.size)(n:k+m<=12)(F:(aV t (k+m)).length=k)(hT:TN=(k+m)*(8*width))(hw:0<width)(Y:width<=8)(u:au)(hZ:∃c e z,u.heap[Zb.z]? =some (.cells c e z))(hP:wT k m t Z v u)(hzb:∀b,b=Zb.z\/Z b->b≠bb)(hX:isRow u bb TN X)(bX:∀x,x<TN->X x<256)(c:Frame)(R:List Frame):
 iK prog false (λb=>b=Zb.z\/v.ownBlock=some b) (λO g C=>O bb/\∃r P,g=G (c.finish r) R/\gT k m t P/\isRow C bb TN (iD width (dD k m t P) X)) (λb=>b=bb)
  (G ((base 185).at {tmps:=#[v,aU bb TN TN,ah width]++Array.replicate (f185.ntmps-3) ak,defers:=[]} [.code (f185.body.getD .skip)]) (c::R)) u:=by
 obtain⟨P,J,o,W⟩:=hP;have s:(λb=>b=Zb.z\/v.ownBlock=some b) prog.globals.size:=.inl hz.symm;have y:¬(bb=Zb.z\/v.ownBlock=some bb):=λh=>hzb bb (h.imp id (W bb)) rfl;have A:∀b,b=Zb.z\/v.ownBlock=some b->∃c e z,u.heap[b]? =some (.cells c e z):=by
  rintro b (rfl|h)
  .exact hZ
  .obtain⟨rfl,_⟩|⟨g,j,cur,rfl,_,hg,_⟩:=o.2
   .cases h
   .cases h;exact⟨_,_,_,hg⟩
 obtain⟨cx,x1,x2,x3⟩:=hX;have U:=wX x2 x3 λi _=>.int _ _;have hh:bI qN (jv (λb=>b=bb) (λb=>b=Zb.z\/v.ownBlock=some b) prog.globals.size s) _ u:=wP A (by rintro b rfl;exact⟨y,_,x1,.cells _ _ (AY U)⟩);generalize B:nR qN (jv (λb=>b=bb) (λb=>b=Zb.z\/v.ownBlock=some b) prog.globals.size s) (λb=>b=Zb.z\/v.ownBlock=some b) u=wl at hh;have V:Ku wl v (dD k m t P) bb:=by refine(step_cells o).2.imp id ?_;rintro⟨g,j,rfl,I,_,h2⟩;refine⟨g,j,rfl,by rw[<-B,qy];exact I,λe=>y (.inr (by rw[<-e];rfl)),λq hq=>?_⟩;rw[<-B];exact⟨CX X0 (h2 q hq).1,CX X0 (h2 q hq).2⟩
 have L:isRow wl bb TN X:=⟨cx,by rw[<-B,sP u y];exact x1,x2,x3⟩;have hv:aL qN (jv (λb=>b=bb) (λb=>b=Zb.z\/v.ownBlock=some b) prog.globals.size s) v v:=by
  obtain⟨rfl,_⟩|⟨g,j,cur,rfl,_⟩:=o.2
  .exact .dQ _ _
  .exact .slice _ _ ⟨⟨.inr ⟨.inr rfl,rfl⟩,.inr rfl⟩,rfl,rfl⟩
 have ha:bq qN (jv (λb=>b=bb) (λb=>b=Zb.z\/v.ownBlock=some b) prog.globals.size s) #[v,aU bb TN TN,ah width] #[v,aU bb TN TN,ah width]:=((bq.nil.push hv).push (v:=aU bb TN TN) (.slice _ _ ⟨⟨.inl ⟨rfl,rfl⟩,.inr rfl⟩,rfl,rfl⟩)).push (v:=ah width) (.int _ _)
 have T:TN<=1000:=by rw[hT];exact bY (iJ n (show 8*width<=64 by omega)) U0
 have a:∀t' d,Calls prog 185 #[v,aU bb TN TN,ah width] (tp wl t' d) (λe C=>∃r,e=.returned r/\isRow C bb TN (iD width (dD k m t P) X)):=by intro t' d;refine Calls.mono (ML v (dD k m t P) bb TN width X (tp wl t' d) T hw Y (MN k m t P n) (λp hp=>Pj k m width t P TN hT n F p hp) V L bX) ?_;rintro e C ⟨rfl,I,_⟩;exact⟨_,rfl,I⟩
 have l:=sI (S:=qN) JO (Q:=λr C=>isRow C bb TN (iD width (dD k m t P) X)) (λv w t d h=>h) (f:=185) U0 (π:=jv (λb=>b=bb) (λb=>b=Zb.z\/v.ownBlock=some b) prog.globals.size s) rfl a ha hh false c R;rw[enter_at _ func185 L9,sO]at l;refine l.then ?_;rintro O g C ⟨π,r,r',w,K,N,rfl,_,M,cy,y1,y2,y3⟩;have E:π.own bb bb:=N.own _ _ ⟨rfl,rfl⟩;have H:=M.row E y1 (wX y2 y3 λi _=>.int _ _);have D:O bb:=(K bb).2 ⟨bb,E⟩;exact .stop λu'' hu=>⟨D,r',P,rfl,J,cy,(hu.keep bb (.inl D)).trans H,y2,y3⟩
end
section
variable {J : Map}
theorem RQ(J:Nat->aA):(yH J).toList=(List.range 83).map J:=by rfl
theorem Ma(J:Nat->aA)(i:Nat)(h:(yH J)[i]? =some v):i<83/\v=J i:=by
 rw[<-jE,RQ,List.getElem?_map]at h;obtain hk|hk:=jY i 83
 .rw[List.getElem?_range hk,gq]at h;exact⟨hk,(gH h).symm⟩
 .rw[vH V5]at h;cases h
theorem VY{S:aD}{A C:Nat->aA}(h:∀j,aL S J (A j) (C j)):bq S J (yH A) (yH C):=by refine bq.jc rfl λi v c b a=>?_;rw[(Ma A i b).2,(Ma C i a).2];exact h i
theorem Zr:eF qN prog (aG fT):=gy (s:=λf=>SP.contains f) M0
end
section
variable [Payload] [Zb] {γ : Gh} {L : Lk} {X : Nat -> Nat} {F : Ph}
theorem HY(n:F.lk=some L)(s:∀b,Sh b->F.Sh b\/γ.Z b)(o:∀b,O b↔jf b\/H b)(c:∀b,jf b->¬H b)(f:Yp F L γ.ow γ.Z H Fx)(m:KR ty F L O γ.Z Fx w)(h:iK prog false Sh I jf g w)
 (k:∀a j l u,I a l u->(∀b,a b->¬H b)->KR ty F L (λb=>a b\/H b) γ.Z Fx u->bS prog ty F i γ j (λb=>a b\/H b) l u):bS prog ty F i γ d O g w:=by
 have e:(λb=>jf b\/H b)=O:=funext λb=>propext (o b).symm;have:=bS.wK (H:=H) (κ:=d) (i:=i) (ty:=ty) n s h f c (by rw[e];exact m) k;rw[e]at this;exact this
theorem EA(hz:Zb.z=prog.globals.size)(u:au)(Z:∃c e z,u.heap[Zb.z]? =some (.cells c e z))(y:bb≠Zb.z)(hX:isRow u bb TN X)(J:Nat->aA)(h1:J 1=ah k)(h2:J 2=ah m)(h9:J 9=ah size)(p:J 11=aU bb TN TN)(C:TN=(k+m)*size)(K:k+m<=12)(N:0<size)(T:TN<=768)(R:List Frame):
 iK prog false (λb=>b=Zb.z) (λO g B=>∃A U o,g=G {(base 123).at A U with mode:=.returning} R/\A.defers=[]/\A.tmps.getD 8 ak=aU o (k+m) (k+m)/\O o/\B.rowIs o 9 (k+m) (λi=>.string (jo X (i*size) size))) (λb=>b=bb)
  (G ((base 123).at ⟨yH J,[]⟩ [.code (aG fT)]) R) u:=by
 have s:(λb=>b=Zb.z) prog.globals.size:=hz.symm;obtain⟨cx,x1,x2,x3⟩:=hX;have M:=wX x2 x3 λi _=>.int _ _;have W:bI qN (jv (λb=>b=bb) (λb=>b=Zb.z) prog.globals.size s) _ u:=wP (λb hb=>by rw[hb];exact Z) (by rintro b rfl;exact⟨y,_,x1,.cells _ _ (AY M)⟩);generalize q:nR qN (jv (λb=>b=bb) (λb=>b=Zb.z) prog.globals.size s) (λb=>b=Zb.z) u=wl at W;have D:isRow wl bb TN X:=⟨cx,by rw[<-q,sP (Sh:=λb=>b=Zb.z) u y];exact x1,x2,x3⟩;have hsz:Zb.z<wl.heap.size:=by obtain⟨c,e,z,h⟩:=Z;rw[<-q,qy];exact(bJ.1 h).1
 have hA:∀j,aL qN (jv (λb=>b=bb) (λb=>b=Zb.z) prog.globals.size s) (if j=11 then J 11 else QB qN (jv (λb=>b=bb) (λb=>b=Zb.z) prog.globals.size s) (J j)) (J j):=by
  intro j;by_cases e:j=11
  .subst e;rw[aI rfl,p];exact .slice _ _ ⟨⟨.inl ⟨rfl,rfl⟩,.inr rfl⟩,rfl,rfl⟩
  .rw[av e];exact(iL _).rel
 have I:∀j n,j≠11->J j=ah n->(if j=11 then J 11 else QB qN (jv (λb=>b=bb) (λb=>b=Zb.z) prog.globals.size s) (J j))=ah n:=λj n e h=>by rw[av e,(iL _).int .i64 n h X0,h]
 obtain⟨f,hJ,l1,l2,l9,P⟩:∃f:Nat->aA,(∀j,aL qN (jv (λb=>b=bb) (λb=>b=Zb.z) prog.globals.size s) (f j) (J j))/\f 1=ah k/\f 2=ah m/\f 9=ah size/\f 11=aU bb TN TN:=⟨_,hA,I 1 _ Q0 h1,I 2 _ Q0 h2,I 9 _ Q0 h9,(aI rfl).trans p⟩;have l:=NT (S:=qN) JO (Q:=λ_ _=>False) (R:=λx B=>∃g,x.tmps.getD 8 ak=aU g (k+m) (k+m)/\wl.heap.size<=g/\B.rowIs g 9 (k+m) (λi=>.string (jo X (i*size) size))) (λ_ _ _ _ h=>h) (λ_ _ _ _ h=>h) Zr (b:=base 123) rfl ⟨_,func123⟩ (π:=jv (λb=>b=bb) (λb=>b=Zb.z) prog.globals.size s) rfl
  (a:=⟨yH f,[]⟩) (K:=⟨yH J,[]⟩)
  (λt d=>Code.wp_mono (λe x v h=>Or.inr h) (VX (tp wl t d) X f l1 l2 l9 P D C K N T)) ⟨VY hJ,rfl,rfl⟩ W false [] R
 rw[sO]at l;refine l.then ?_;rintro O g B ⟨π,x,A,w,rfl,L,ha,H,h⟩;obtain⟨_,h⟩|⟨U,rfl,hd,o,F,hg2,cy,y1,y2,y3⟩:=h
 .exact h.elim
 have Y:=ha.tmps.getD 8;rw[F]at Y;obtain⟨V,E,ho⟩:=Y.oW λhs=>by have:o=Zb.z:=(L.sh o).2 hs;omega
 have r:=H.row ho y1 (wX y2 y3 λi _=>.string _);exact .stop λu'' hu=>⟨A,U,V,rfl,hd,E,⟨o,ho⟩,cy,(hu.keep V (.inl ⟨o,ho⟩)).trans r,y2,y3⟩
end
theorem afp:(f184.name== "runtime.NumGoroutine")=false:=by kernel_rfl
theorem Zt:f184.body=some wV:=rfl
theorem afq(x y:aA):#[x,y]++Array.replicate (f184.ntmps-2) ak=#[x,y,ak,ak,ak,ak,ak,ak,ak,ak,ak,ak,ak,ak,ak,ak,ak,ak,ak,ak,ak,ak,ak,ak,ak,ak,ak,ak,ak,ak,ak,ak,ak,ak,ak,ak,ak,ak,ak,ak,ak,ak,ak,ak]:=by kernel_rfl
section
variable [Payload] [Zb] {F : Ph}
theorem VZ{kq:Nat}(hz:Zb.z=prog.globals.size)(hL:F.lk=some (gI k m B e X))(hst:Yp F (gI k m B e X) false (λ_=>False) O Fx)(I:F.Sh Zb.z)(hZ:∀w,Fx w->∃c e z,w.heap[Zb.z]? =some (.cells c e z))(yG:0<k)(V:k+m<=12)(hw:0<width)(TW:width<=8)(hsz:size=8*width)(VQ:TN=(k+m)*size)(hN:∀i,i<k->HN i<k+m)(hJ:∀i j,i<k->j<k->HN i=HN j->i=j)(hk:∀d u(O4 Z:aD) g P,(∀b,O b->O4 b)->O4 g->¬O g->gT k m (gZ HN k) P->KR ty F (gI k m B e X) O4 Z (λw=>Fx w/\w.rowIs g 9 (k+m) (λi=>.string (jo (iD width (dD k m (gZ HN k) P) (tK HN HD size k)) (i*size) size))) u->bS prog ty F i ⟨.done,false,Z,0⟩ d O4 (G (Q.at (N.put ((A[E]?).bind (·.dst)) (aU g (k+m) (k+m))) (aT A C::M)) R) u)(T:∀b,O b->s b/\b≠bb/\b≠kq)(Zp:s kq/\kq≠bb)(D:s bb)(J:Nat->aA)(h0:J 0=aJ B e)(h1:J 1=ah k)(h2:J 2=ah m)(h9:J 9=ah size)(h10:J 10=aJ kq 0)(h11:J 11=aU bb TN TN)
 (d:Nat)(w:au)(a:KR ty F (gI k m B e X) s (λ_=>False) (uY k m kq bb size TN HN HD Fx k k) w):
 bS prog ty F i ⟨.pre,false,λ_=>False,0⟩ d s (G ((base 123).at ⟨yH J,[]⟩ [.code fT]) (Q.at N (aT A (E::C)::M)::R)) w:=by
 have VR:=uY.iG (L:=gI k m B e X) (k:=k) (m:=m) (kq:=kq) (bb:=bb) (size:=size) (TN:=TN) (HN:=HN) (HD:=HD) (p:=k) (q:=k) (O2:=s) (Z:=λ_=>False) (ow:=false) hst (λb h=>(T b h).1) Zp.1 D;have y:=dY (ty:=ty) (i:=i) (γ:=⟨.pre,false,λ_=>False,0⟩) hL VR;have hlen:=DF HN k (k+m) hN hJ;have RN:TN<=768:=by rw[VQ,hsz];exact bY (iJ V (show 8*width<=64 by omega)) U0
 have HTN:Hid (TN=(k+m)*size):=VQ;have HSZ:Hid (size=8*width):=hsz;have S:Hid (Yp F (gI k m B e X) false (λ_=>False) O Fx):=hst;clear VQ hsz;obtain⟨Y,hY⟩:∃Y,Y=aG fT:=⟨_,rfl⟩;rw[show fT=.seq (bZ fT) (aG fT)from by kernel_rfl,<-hY];simp only[yH,h0,h1,h2,h9,h10,h11,fT,Ht,bZ,aG,f123,fq]
 repeat(refine y.bK a rfl ?_;clear a;intro d u a;first
  |rw[stepG_region];simp only[goes_go,List.size_toArray,List.length_cons,List.length_nil,Nat.reduceAdd,eu,List.range,List.range.loop];refine⟨Z0,by intro e l;simp at l,?_⟩
  |first|rw[stepG_seq]|rw[stepG_skip]|rw[stepG_region_end]|rw[stepG_end]|rw[stepG_ret']|rw[stepG_block]|rw[stepG_loop]|rw[stepG_inLoop]|rw[stepG_inBlock]
   simp only[goes_go];refine⟨Z0,by intro e l;simp at l,?_⟩
  |refine goes_oper_k rfl rfl Y0 (λK hK=>?_)
   go_simp;refine hK _ _ ⟨Z0,?_,?_⟩
   .intro e l;have hm:=bL l;simp[go_sem, *]at hm
   clear hK K
  |refine goes_oper_k rfl rfl Y0 (λK hK=>?_)
   have f:=a.q.fx.2.1;have p0:=f.cell (i:=0) U0;have p1:=f.cell (i:=1) U0;have p2:=f.cell (i:=2) U0;have p3:=f.cell (i:=3) U0;have p4:=f.cell (i:=4) U0;have p5:=f.cell (i:=5) U0;have p6:=f.cell (i:=6) U0;have p7:=f.cell (i:=7) U0;have p8:=f.cell (i:=8) U0;have p9:=f.cell (i:=9) U0;have p10:=f.cell (i:=10) U0;have p11:=f.cell (i:=11) U0;have p12:=f.cell (i:=12) U0;have p13:=f.cell (i:=13) U0;simp only[pf,Nat.reduceEqDiff,Nat.reduceSub,if_true,if_false,↓reduceIte]at p0 p1 p2 p3 p4 p5 p6 p7 p8 p9 p10 p11 p12 p13;clear f;go_simp;refine hK _ _ ⟨Z0,?_,?_⟩
   .intro e l;have hm:=bL l;simp[go_sem, *]at hm;obtain rfl|rfl|rfl|rfl|rfl|rfl|rfl|rfl|rfl|rfl|rfl|rfl|rfl|rfl:=hm<;>exact jR Zp.1
   clear hK K)
 refine y.step a rfl ?_;clear a;intro d u a;refine qD rfl rfl Y0 rfl (z:=#[aJ B e,.agg (dA k m (gZ HN k))]) (n:=2) (by simp[Act.eval,dA]) rfl func184 afp Zt ⟨Z0,by intro e l;simp at l,?_⟩;rw[afq];refine JX (t:=(gZ HN k)) hz hL VR yG V hlen I (λw h=>hZ w h.1) (λd u Z v hF2=>?_) _ _ a;clear a y;have a:=hF2;clear hF2;have yZ:Yp F (gI k m B e X) false Z s (λw=>(uY k m kq bb size TN HN HD Fx k k) w/\wT k m (gZ HN k) Z v w):=λw u h hg hf=>⟨uY.iG hst (λb h=>(T b h).1) Zp.1 D (ow:=false) w u h hg hf.1,hf.2.keep (λ_ h=>h) λb hb=>h.keep b (.inr (.inr hb))⟩;have y:=dY (ty:=ty) (i:=i) (γ:=⟨.done,false,Z,0⟩) hL yZ;have ajJ:(size:Int)/8=(width:Int):=by rw[HSZ.out];omega
 have hw1:=wW width Q0
 walk_nrm
 refine y.run (g':=?_) a ?_;clear a;intro d u a;refine y.step a rfl ?_;clear a;intro d u a;refine qD rfl rfl Y0 rfl (z:=#[v,aU bb TN TN,ah width]) (n:=3) I5 rfl func185 acy L9 ⟨Z0,by intro e l;simp at l,?_⟩;have hPV:=a.q.fx.2;have aft:Yp F (gI k m B e X) false Z (λb=>s b/\b≠bb) Fx:=gK S.out λb h=>⟨(T b h).1,(T b h).2.1⟩;have apz:=a.ap;refine HY (Fx:=Fx) (γ:=⟨.done,false,Z,0⟩) (jf:=λb=>b=bb) (H:=λb=>s b/\b≠bb) hL (λb hb=>?_) (λb=>?_) (λb h x=>x.2 h) aft (a.fx a.q.fx.1.1)
  (HV (t:=(gZ HN k)) (Z:=Z) (X:=tK HN HD size k) hz V hlen (by rw[HTN.out,HSZ.out]) hw TW u (hZ u a.q.fx.1.1) hPV (λb hb e=>?_) a.q.fx.1.2.2 (λx _=>IG HN HD size k x) _ _) ?_
 .obtain rfl|hb:=hb
  .exact .inl I
  .obtain⟨_,_,_,h4⟩:=hPV;exact .inr (h4 b hb)
 .by_cases e:b=bb
  .subst e;simp[D]
  .simp[e]
 .subst e;have:=apz.o b D;obtain rfl|hb:=hb
  .exact this.2.2.2.1 I
  .exact this.2.2.2.2 hb
 rintro jf bF g' u' ⟨hOb,r,P,rfl,hOK,afu⟩ hap a;clear y yZ hPV;rw[Frame.finish_at];have BS:Yp F (gI k m B e X) false Z (λb=>jf b\/s b/\b≠bb) (λw=>Fx w/\isRow w bb TN (iD width (dD k m (gZ HN k) P) (tK HN HD size k))):=λw u h hg hf=>⟨gK S.out (λb h=>.inr ⟨(T b h).1,(T b h).2.1⟩) (ow:=false) w u h (λh=>by cases h) hf.1,by obtain⟨c,c1,c2⟩:=hf.2;exact⟨c,(h.keep bb (.inl (.inl hOb))).trans c1,c2⟩⟩;replace a:KR ty F (gI k m B e X) (λb=>jf b\/s b/\b≠bb) Z (λw=>Fx w/\isRow w bb TN (iD width (dD k m (gZ HN k) P) (tK HN HD size k))) u':=a.fx ⟨a.q.fx,afu⟩;have y:=dY (ty:=ty) (i:=i) (γ:=⟨.done,false,Z,0⟩) hL BS
 walk_nrm
 refine y.run (g':=?_) a ?_;clear a;intro d u a;subst hY;have hzn:bb≠Zb.z:=λe=>(apz.o bb D).2.2.2.1 (by rw[e];exact I);have ht:=EA hz (k:=k) (m:=m) (size:=size) (TN:=TN) (bb:=bb) (X:=iD width (dD k m (gZ HN k) P) (tK HN HD size k)) u (hZ u a.q.fx.1) hzn a.q.fx.2 (λj=>if j=52 then aJ B e else if j=53 then .agg #[ah k,ah m,.bool (gZ HN k 0),.bool (gZ HN k 1),.bool (gZ HN k 2),.bool (gZ HN k 3),.bool (gZ HN k 4),.bool (gZ HN k 5),.bool (gZ HN k 6),.bool (gZ HN k 7),.bool (gZ HN k 8),.bool (gZ HN k 9),.bool (gZ HN k 10),.bool (gZ HN k 11)]else if j=54 then v else if j=55 then aU bb TN TN else if j=56 then ah size else if j=57 then ah width else if j=58 then r else J j) h1 h2 h9 h11 HTN.out V (by rw[HSZ.out];omega) RN (Q.at N (aT A (E::C)::M)::R);simp only[yH,h0,h1,h2,h9,h10,h11,Nat.reduceEqDiff,↓reduceIte]at ht;have U:∀b,O b->(jf b\/s b/\b≠bb)/\b≠bb:=λb h=>⟨.inr ⟨(T b h).1,(T b h).2.1⟩,(T b h).2.1⟩;have acz:Yp F (gI k m B e X) false Z (λb=>(jf b\/s b/\b≠bb)/\b≠bb) Fx:=gK S.out U;refine HY (Fx:=Fx) (γ:=⟨.done,false,Z,0⟩) (jf:=λb=>b=bb) (H:=λb=>(jf b\/s b/\b≠bb)/\b≠bb) hL (λb hb=>.inl (by rw[hb];exact I)) (λb=>?_) (λb h x=>x.2 h) acz (a.fx a.q.fx.1) ht ?_
 .by_cases e:b=bb
  .subst e;simp[hOb]
  .simp[e]
 clear ht a y BS;rintro W bF g' u' ⟨x',td,gb,rfl,hd,h8,hgb,acB⟩ afw a;have afx:Yp F (gI k m B e X) false Z (λb=>W b\/(jf b\/s b/\b≠bb)/\b≠bb) (λw=>Fx w/\w.rowIs gb 9 (k+m) (λi=>.string (jo (iD width (dD k m (gZ HN k) P) (tK HN HD size k)) (i*size) size))):=λw u h hg hf=>⟨gK S.out (λb h=>.inr (U b h)) (ow:=false) w u h (λh=>by cases h) hf.1,by obtain⟨c,c1,c2⟩:=hf.2;exact⟨c,(h.keep gb (.inl (.inl hgb))).trans c1,c2⟩⟩;replace a:KR ty F (gI k m B e X) (λb=>W b\/(jf b\/s b/\b≠bb)/\b≠bb) Z (λw=>Fx w/\w.rowIs gb 9 (k+m) (λi=>.string (jo (iD width (dD k m (gZ HN k) P) (tK HN HD size k)) (i*size) size))) u':=a.fx ⟨a.q.fx,acB⟩;have y:=dY (ty:=ty) (i:=i) (γ:=⟨.done,false,Z,0⟩) hL afx;refine y.step a rfl ?_;clear a;intro d u a;refine goes_leave1 rfl hd func123 rfl ⟨Z0,by intro e l;simp at l,?_⟩;rw[h8];exact hk d u _ Z gb P (λb h=>.inr (U b h)) (.inl hgb) (λh=>afw gb hgb (U gb h)) hOK a
theorem xV(hz:Zb.z=prog.globals.size)(L:F.lk=some (gI k m B e X))(s:Yp F (gI k m B e X) false (λ_=>False) O Fx)(v:F.Sh Zb.z)(hZ:∀w,Fx w->∃c e z,w.heap[Zb.z]? =some (.cells c e z))(f:0<k)(a:k+m<=12)(hw:0<width)(t:width<=8)(l:size=8*width)(h:TN=(k+m)*size)(x:∀i,i<k->HN i<k+m)(hJ:∀i j,i<k->j<k->HN i=HN j->i=j)(Y:∀w,Fx w->∀i,i<k->w.cell? (aB hb (ho+i*2))=some (ah (HN i:Nat))/\w.cell? (aB hb (ho+i*2+1))=some (.string (HD i)))(p:F.Sh hb)(hS:∀i,i<k->(HD i).size=size)(q:k<=hn)(r:hn<=hcap)(hk:∀d u(n Z:aD) g P,(∀b,O b->n b)->n g->¬O g->gT k m (gZ HN k) P->KR ty F (gI k m B e X) n Z (λw=>Fx w/\w.rowIs g 9 (k+m) (λi=>.string (jo (iD width (dD k m (gZ HN k) P) (tK HN HD size k)) (i*size) size))) u->bS prog ty F i ⟨.done,false,Z,0⟩ d n (G (Q.at (N.put ((A[E]?).bind (·.dst)) (aU g (k+m) (k+m))) (aT A C::M)) R) u)(d:Nat)(w:au)(o:KR ty F (gI k m B e X) O (λ_=>False) Fx w):
 bS prog ty F i ⟨.pre,false,λ_=>False,0⟩ d O (G ((base 123).at ⟨#[aJ B e,ah k,ah m,.slice (some ⟨hb,ho,none⟩) hn hcap,ak,ak,ak,ak,ak,ak,ak,ak,ak,ak,ak,ak,ak,ak,ak,ak,ak,ak,ak,ak,ak,ak,ak,ak,ak,ak,ak,ak,ak,ak,ak,ak,ak,ak,ak,ak,ak,ak,ak,ak,ak,ak,ak,ak,ak,ak,ak,ak,ak,ak,ak,ak,ak,ak,ak,ak,ak,ak,ak,ak,ak,ak,ak,ak,ak,ak,ak,ak,ak,ak,ak,ak,ak,ak,ak,ak,ak,ak,ak],[]⟩ [.code Ht]) (Q.at N (aT A (E::C)::M)::R)) w:=by
 have T:TN<=768:=by rw[h,l];exact bY (iJ a (show 8*width<=64 by omega)) U0
 refine RP L s Y p a x hS Q0 h T f q r (λd u O3 J kq bb y D H I K S U V W o=>?_) d w o;exact VZ hz L s v hZ f a hw t l h x hJ hk y D H J I K S U V W d u o
noncomputable def iP:Array Oper:=match f122.body with|some (.region _ D _)=>D|_=>#[]
theorem Zu(o p d e f g i k m n l a b c:Bool)(j:Nat)(h:j∈Region.ready .any iP #[o,p,d,e,f,g,i,k,m,n,l,a,b,c]):(j=0/\o=false)\/(j=1/\p=false)\/(j=2/\d=false)\/(j=3/\e=false)\/(j=4/\f=false/\e=true)\/(j=5/\g=false)\/(j=6/\i=false/\g=true)\/(j=7/\k=false)\/(j=8/\m=false)\/(j=9/\n=false/\k=true/\m=true)\/(j=10/\l=false/\n=true)\/(j=11/\a=false/\d=true/\f=true/\i=true/\l=true)\/(j=12/\b=false/\o=true/\p=true/\d=true/\e=true/\f=true/\g=true/\i=true/\k=true/\m=true/\n=true/\l=true/\a=true)\/(j=13/\c=false/\o=true/\p=true/\d=true/\e=true/\f=true/\g=true/\i=true/\k=true/\m=true/\n=true/\l=true/\a=true/\b=true):=by
 obtain⟨r,s,q⟩:=kE h;clear h;have r:j<14:=r;have t:j=0\/j=1\/j=2\/j=3\/j=4\/j=5\/j=6\/j=7\/j=8\/j=9\/j=10\/j=11\/j=12\/j=13:=by omega
 simp only[iP,f122]at q;obtain rfl|rfl|rfl|rfl|rfl|rfl|rfl|rfl|rfl|rfl|rfl|rfl|rfl|rfl:=t<;>simp[Region.binds]at s q<;>simp[s,q]
theorem Zw(L:l.size=14)(h:Region.ready .any iP l=[]):∀j,j<14->l[j]?.getD false=true:=by
 have mem:∀j,j<14->((iP[j]?).map (·.after.all λe=> !Region.binds .any e||l.getD e.on false)).getD false=true->l.getD j false=true:=by
  intro j v y;cases c:l.getD j false with
  |true=>rfl
  |false=>
   exfalso;have b:j<l.size:=by omega
   have z:l.getD j true=false:=by simp only[Array.getD,b,dite_true]at c ⊢;exact c
   have:j∈Region.ready .any iP l:=by unfold Region.ready;simp only[List.mem_filter,gY,gu,Bool.not_eq_true'];exact⟨by simpa[iP,f122]using v,z,y⟩
   rw[h]at this;cases this
 have A:=mem 0 Q0 V3;have w:l[0]?.getD false=true:=by simpa using A
 have B:=mem 1 Q0 V3;have x:l[1]?.getD false=true:=by simpa using B
 have C:=mem 2 Q0 V3;have k:l[2]?.getD false=true:=by simpa using C
 have D:=mem 3 Q0 V3;have o:l[3]?.getD false=true:=by simpa using D
 have E:=mem 4 Q0 (by simp only[iP,f122];simp[Region.binds,o]);have p:l[4]?.getD false=true:=by simpa using E
 have F:=mem 5 Q0 V3;have q:l[5]?.getD false=true:=by simpa using F
 have G:=mem 6 Q0 (by simp only[iP,f122];simp[Region.binds,q]);have r:l[6]?.getD false=true:=by simpa using G
 have H:=mem 7 Q0 V3;have s:l[7]?.getD false=true:=by simpa using H
 have I:=mem 8 Q0 V3;have t:l[8]?.getD false=true:=by simpa using I
 have J:=mem 9 Q0 (by simp only[iP,f122];simp[Region.binds,s,t]);have u:l[9]?.getD false=true:=by simpa using J
 have m:=mem 10 Q0 (by simp only[iP,f122];simp[Region.binds,u]);have n:l[10]?.getD false=true:=by simpa using m
 have d:=mem 11 Q0 (by simp only[iP,f122];simp[Region.binds,k,p,r,n]);have a:l[11]?.getD false=true:=by simpa using d
 have f:=mem 12 Q0 (by simp only[iP,f122];simp[Region.binds,w,x,k,o,p,q,r,s,t,u,n,a]);have i:l[12]?.getD false=true:=by simpa using f
 have g:=mem 13 Q0 (by simp only[iP,f122];simp[Region.binds,w,x,k,o,p,q,r,s,t,u,n,a,i]);have K:l[13]?.getD false=true:=by simpa using g
 intro j v;have c:j=0\/j=1\/j=2\/j=3\/j=4\/j=5\/j=6\/j=7\/j=8\/j=9\/j=10\/j=11\/j=12\/j=13:=by omega
 obtain rfl|rfl|rfl|rfl|rfl|rfl|rfl|rfl|rfl|rfl|rfl|rfl|rfl|rfl:=c<;>assumption
end
section
variable {HN : Nat -> Nat -> Nat} {HD : Nat -> Nat -> aN}
def xW(k m width size:Nat)(HN:Nat->Nat->Nat)(HD:Nat->Nat->aN)(i:Nat)(O:aD)(v:aA)(w:au):Prop:=∃g P,v=aU g (k+m) (k+m)/\O g/\gT k m (gZ (HN i) k) P/\w.rowIs g 9 (k+m) (λq=>.string (jo (iD width (dD k m (gZ (HN i) k) P) (tK (HN i) (HD i) size k)) (q*size) size))
theorem xW.iG(k m width size:Nat)(HN:Nat->Nat->Nat)(HD:Nat->Nat->aN)(Sh:aD):∀i O v w u,bB Sh O w u->xW k m width size HN HD i O v w->xW k m width size HN HD i O v u:=by rintro i O v w u r ⟨g,P,a,h,b,c,d,e⟩;exact⟨g,P,a,h,b,c,(r.keep g (.inl h)).trans d,e⟩
theorem xW.more(h:xW k m width size HN HD i O v w)(l:∀b,O b->u.heap[b]? =w.heap[b]?):xW k m width size HN HD i O v u:=by obtain⟨g,P,d,a,e,c,f,j⟩:=h;exact⟨g,P,d,a,e,c,(l g a).trans f,j⟩
structure CF(pc xm sc ac sb hb ho hn hcap C n i k m B e:Nat)(w:au):Prop where
 p:w.cell? (aB pc 0)=some (aJ B e)
 x0:w.cell? (aB xm 0)=some (ah k)
 x1:w.cell? (aB xm 1)=some (ah m)
 s:w.cell? (aB sc 0)=some (aU sb n n)
 si:w.cell? (aB sb i)=some (.slice (some ⟨hb,ho,none⟩) hn hcap)
 a:w.cell? (aB ac 0)=some (aU C n n)
theorem afy:(f123.name== "runtime.NumGoroutine")=false:=by kernel_rfl
theorem Zy:f123.body=some Ht:=rfl
theorem afz(x y z t:aA):#[x,y,z,t]++Array.replicate (f123.ntmps-4) ak=#[x,y,z,t,ak,ak,ak,ak,ak,ak,ak,ak,ak,ak,ak,ak,ak,ak,ak,ak,ak,ak,ak,ak,ak,ak,ak,ak,ak,ak,ak,ak,ak,ak,ak,ak,ak,ak,ak,ak,ak,ak,ak,ak,ak,ak,ak,ak,ak,ak,ak,ak,ak,ak,ak,ak,ak,ak,ak,ak,ak,ak,ak,ak,ak,ak,ak,ak,ak,ak,ak,ak,ak,ak,ak,ak,ak,ak,ak,ak,ak,ak,ak]:=by kernel_rfl
end
section
variable [Payload] [Zb] {γ : Gh} {HN : Nat -> Nat -> Nat} {HD : Nat -> Nat -> aN} {F : Ph}
theorem V7{y:Array aA}(hz:Zb.z=prog.globals.size)(hL:F.lk=some (gI k m B e X))(W:Yp F (gI k m B e X) false (λ_=>False) H Fx)(Oz:F.Sh Zb.z)(hZ:∀w,Fx w->∃c e z,w.heap[Zb.z]? =some (.cells c e z))(yG:0<k)(xq:k+m<=12)(hw:0<width)(TW:width<=8)(hsz:size=8*width)(VQ:TN=(k+m)*size)(hN:∀j,j<k->HN i j<k+m)(hJ:∀a b,a<k->b<k->HN i a=HN i b->a=b)(hH:∀w,Fx w->∀j,j<k->w.cell? (aB hb (ho+j*2))=some (ah (HN i j:Nat))/\w.cell? (aB hb (ho+j*2+1))=some (.string (HD i j)))(hhb:F.Sh hb)(hS:∀j,j<k->(HD i j).size=size)(hkn:k<=hn)(hnc:hn<=hcap)(hi:i<F.n)(hx:∀w,Fx w->CF pc xm sc ac sb hb ho hn hcap F.C F.n i k m B e w)(hs:F.Sh pc/\F.Sh xm/\F.Sh sc/\F.Sh sb/\F.Sh ac)(afA:F.Gt=xW k m width size HN HD)(hwp:∀w,Fx w->w.cell? (aB T 0)=some (aJ F.Wg 0))(hHw:H T)
 (J:Nat->aA)(d:Nat)(w:au)(f:KR jH.tWg F (gI k m B e X) H (λ_=>False) Fx w):
 bS prog jH.tWg F i ⟨.pre,false,λ_=>False,0⟩ d H (G ((base 122).at ⟨#[ah i,aJ pc 0,aJ xm 0,aJ sc 0,aJ ac 0,J 5,J 6,J 7,J 8,J 9,J 10,J 11,J 12,J 13,J 14,J 15,J 16,J 17,J 18],[]⟩ [.code (.region 0 iP true)]) [LW sc' wc i 122 y,Da T U sc' wc,yY]) w:=by
 have Q:∀(O4 Z:aD)(v:aA),(∀b,H b->O4 b)->Yp F (gI k m B e X) false Z O4 (λw=>Fx w/\xW k m width size HN HD i O4 v w):=λO4 Z v hO w u h hg hf=>⟨gK W hO (ow:=false) w u h (λh=>by cases h) hf.1,hf.2.more λb hb=>h.keep b (.inl hb)⟩;have R:=dY (ty:=jH.tWg) (i:=i) (γ:=⟨.pre,false,λ_=>False,0⟩) hL W;obtain⟨ty,Zz⟩:∃ty,ty=jH.tWg:=⟨_,rfl⟩;rw[<-Zz]at f R ⊢;refine R.Yo f (λd u h=>zA (ow:=false) W h) K4 (Inv:=λl s=>∃(l0 l1 l2 l3 l4 l5 l6 l7 l8 l9 l10 S ZA E:Bool)(v:aA),l=#[l0,l1,l2,l3,l4,l5,l6,l7,l8,l9,l10,S,ZA,E]/\s.2.1=⟨#[ah i,aJ pc 0,aJ xm 0,aJ sc 0,aJ ac 0,J 5,cond l0 (aU F.C F.n F.n) (J 6),cond l1 (ah i) (J 7),cond l2 (aJ B e) (J 8),cond l3 (aJ xm 0) (J 9),cond l4 (ah k) (J 10),cond l5 (aJ xm 1) (J 11),cond l6 (ah m) (J 12),cond l7 (aU sb F.n F.n) (J 13),cond l8 (ah i) (J 14),cond l9 (aJ sb i) (J 15),cond l10 (.slice (some ⟨hb,ho,none⟩) hn hcap) (J 16),cond S (v) (J 17),cond ZA (aJ F.C i) (J 18)],[]⟩/\(E=true->l0=true/\l1=true/\l2=true/\l3=true/\l4=true/\l5=true/\l6=true/\l7=true/\l8=true/\l9=true/\l10=true/\S=true/\ZA=true)/\(S=false->s.1=⟨.pre,false,λ_=>False,0⟩/\H=s.2.2.2.1/\KR ty F (gI k m B e X) H (λ_=>False) Fx s.2.2.2.2)/\(S=true->∃Z,s.1=⟨.done,false,Z,0⟩/\(∀b,H b->s.2.2.2.1 b)/\KR ty F (gI k m B e X) s.2.2.2.1 Z (λw=>Fx w/\xW k m width size HN HD i s.2.2.2.1 v w) s.2.2.2.2)/\(E=true->Has F.C i v s.2.2.2.2)) ?_ ?_ ?_
 .exact λd u f=>⟨false,false,false,false,false,false,false,false,false,false,false,false,false,false,ak,rfl,rfl,nofun,λ_=>⟨rfl,rfl,f⟩,nofun,nofun⟩
 .clear f R;rintro l γ' a d O' w j rest hl ⟨l0,l1,l2,l3,l4,l5,l6,l7,l8,l9,l10,S,ZA,E,v,rfl,ha,Y,A,x,hh⟩ hj N;simp only at ha A x;subst ha;clear hh;have hrd:=Zu l0 l1 l2 l3 l4 l5 l6 l7 l8 l9 l10 S ZA E j hj;simp only[iP,f122]at N ⊢;obtain⟨rfl,rfl⟩|⟨rfl,rfl⟩|⟨rfl,rfl⟩|⟨rfl,rfl⟩|⟨rfl,rfl,rfl⟩|⟨rfl,rfl⟩|⟨rfl,rfl,rfl⟩|⟨rfl,rfl⟩|⟨rfl,rfl⟩|⟨rfl,rfl,rfl,rfl⟩|⟨rfl,rfl,rfl⟩|⟨rfl,rfl,rfl,rfl,rfl,rfl⟩|⟨rfl,rfl,rfl,rfl,rfl,rfl,rfl,rfl,rfl,rfl,rfl,rfl,rfl,rfl⟩|⟨rfl,rfl,rfl,rfl,rfl,rfl,rfl,rfl,rfl,rfl,rfl,rfl,rfl,rfl,rfl⟩:=hrd
  .obtain rfl:E=false:=by cases E;rfl;exact aF (Y rfl) X0
   clear hj hl;simp only[cond_true,cond_false];cases S with
   |false=>
    obtain⟨rfl,rfl,f⟩:=A rfl;clear A x;have R:=dY (ty:=ty) (i:=i) (γ:=⟨.pre,false,λ_=>False,0⟩) hL W;refine R.bK f rfl ?_;clear f;intro d u f;refine goes_oper_k rfl rfl Y0 (λK D=>?_);have V:=hx u f.q.fx;have hY:=V.a;clear V;go_simp;refine D _ _ ⟨Z0,?_,?_⟩
    .intro e M;have I:=bL M;simp[go_sem, *]at I;subst I;exact jS (.inl hs.2.2.2.2)
    clear D K;exact N _ _ _ _ _ ⟨true,_,_,_,_,_,_,_,_,_,_,_,_,_,v,rfl,rfl,nofun,λ_=>⟨rfl,rfl,f⟩,nofun,nofun⟩
   |true=>
    obtain⟨Z,rfl,t,f⟩:=x rfl;clear A x;have R:=dY (ty:=ty) (i:=i) (γ:=⟨.done,false,Z,0⟩) hL (Q O' Z v t);refine R.bK f rfl ?_;clear f;intro d u f;refine goes_oper_k rfl rfl Y0 (λK D=>?_);have V:=hx u f.q.fx.1;have hY:=V.a;clear V;go_simp;refine D _ _ ⟨Z0,?_,?_⟩
    .intro e M;have I:=bL M;simp[go_sem, *]at I;subst I;exact jS (.inl hs.2.2.2.2)
    clear D K;exact N _ _ _ _ _ ⟨true,_,_,_,_,_,_,_,_,_,_,_,_,_,v,rfl,rfl,nofun,nofun,λ_=>⟨Z,rfl,t,f⟩,nofun⟩
  .obtain rfl:E=false:=by cases E;rfl;exact aF (Y rfl) X0
   clear hj hl;simp only[cond_true,cond_false];cases S with
   |false=>
    obtain⟨rfl,rfl,f⟩:=A rfl;clear A x;have R:=dY (ty:=ty) (i:=i) (γ:=⟨.pre,false,λ_=>False,0⟩) hL W;refine R.bK f rfl ?_;clear f;intro d u f;refine goes_oper_k rfl rfl Y0 (λK D=>?_);go_simp;refine D _ _ ⟨Z0,?_,?_⟩
    .intro e M;have I:=bL M;simp[go_sem, *]at I
    clear D K;exact N _ _ _ _ _ ⟨_,true,_,_,_,_,_,_,_,_,_,_,_,_,v,rfl,rfl,nofun,λ_=>⟨rfl,rfl,f⟩,nofun,nofun⟩
   |true=>
    obtain⟨Z,rfl,t,f⟩:=x rfl;clear A x;have R:=dY (ty:=ty) (i:=i) (γ:=⟨.done,false,Z,0⟩) hL (Q O' Z v t);refine R.bK f rfl ?_;clear f;intro d u f;refine goes_oper_k rfl rfl Y0 (λK D=>?_);go_simp;refine D _ _ ⟨Z0,?_,?_⟩
    .intro e M;have I:=bL M;simp[go_sem, *]at I
    clear D K;exact N _ _ _ _ _ ⟨_,true,_,_,_,_,_,_,_,_,_,_,_,_,v,rfl,rfl,nofun,nofun,λ_=>⟨Z,rfl,t,f⟩,nofun⟩
  .obtain rfl:E=false:=by cases E;rfl;exact aF (Y rfl) X0
   clear hj hl;simp only[cond_true,cond_false];cases S with
   |false=>
    obtain⟨rfl,rfl,f⟩:=A rfl;clear A x;have R:=dY (ty:=ty) (i:=i) (γ:=⟨.pre,false,λ_=>False,0⟩) hL W;refine R.bK f rfl ?_;clear f;intro d u f;refine goes_oper_k rfl rfl Y0 (λK D=>?_);have V:=hx u f.q.fx;have hY:=V.p;clear V;go_simp;refine D _ _ ⟨Z0,?_,?_⟩
    .intro e M;have I:=bL M;simp[go_sem, *]at I;subst I;exact jS (.inl hs.1)
    clear D K;exact N _ _ _ _ _ ⟨_,_,true,_,_,_,_,_,_,_,_,_,_,_,v,rfl,rfl,nofun,λ_=>⟨rfl,rfl,f⟩,nofun,nofun⟩
   |true=>
    obtain⟨Z,rfl,t,f⟩:=x rfl;clear A x;have R:=dY (ty:=ty) (i:=i) (γ:=⟨.done,false,Z,0⟩) hL (Q O' Z v t);refine R.bK f rfl ?_;clear f;intro d u f;refine goes_oper_k rfl rfl Y0 (λK D=>?_);have V:=hx u f.q.fx.1;have hY:=V.p;clear V;go_simp;refine D _ _ ⟨Z0,?_,?_⟩
    .intro e M;have I:=bL M;simp[go_sem, *]at I;subst I;exact jS (.inl hs.1)
    clear D K;exact N _ _ _ _ _ ⟨_,_,true,_,_,_,_,_,_,_,_,_,_,_,v,rfl,rfl,nofun,nofun,λ_=>⟨Z,rfl,t,f⟩,nofun⟩
  .obtain rfl:E=false:=by cases E;rfl;exact aF (Y rfl) X0
   clear hj hl;simp only[cond_true,cond_false];cases S with
   |false=>
    obtain⟨rfl,rfl,f⟩:=A rfl;clear A x;have R:=dY (ty:=ty) (i:=i) (γ:=⟨.pre,false,λ_=>False,0⟩) hL W;refine R.bK f rfl ?_;clear f;intro d u f;refine goes_oper_k rfl rfl Y0 (λK D=>?_);go_simp;refine D _ _ ⟨Z0,?_,?_⟩
    .intro e M;have I:=bL M;simp[go_sem, *]at I
    clear D K;exact N _ _ _ _ _ ⟨_,_,_,true,_,_,_,_,_,_,_,_,_,_,v,rfl,rfl,nofun,λ_=>⟨rfl,rfl,f⟩,nofun,nofun⟩
   |true=>
    obtain⟨Z,rfl,t,f⟩:=x rfl;clear A x;have R:=dY (ty:=ty) (i:=i) (γ:=⟨.done,false,Z,0⟩) hL (Q O' Z v t);refine R.bK f rfl ?_;clear f;intro d u f;refine goes_oper_k rfl rfl Y0 (λK D=>?_);go_simp;refine D _ _ ⟨Z0,?_,?_⟩
    .intro e M;have I:=bL M;simp[go_sem, *]at I
    clear D K;exact N _ _ _ _ _ ⟨_,_,_,true,_,_,_,_,_,_,_,_,_,_,v,rfl,rfl,nofun,nofun,λ_=>⟨Z,rfl,t,f⟩,nofun⟩
  .obtain rfl:E=false:=by cases E;rfl;exact aF (Y rfl) X0
   clear hj hl;simp only[cond_true,cond_false];cases S with
   |false=>
    obtain⟨rfl,rfl,f⟩:=A rfl;clear A x;have R:=dY (ty:=ty) (i:=i) (γ:=⟨.pre,false,λ_=>False,0⟩) hL W;refine R.bK f rfl ?_;clear f;intro d u f;refine goes_oper_k rfl rfl Y0 (λK D=>?_);have V:=hx u f.q.fx;have hY:=V.x0;clear V;go_simp;refine D _ _ ⟨Z0,?_,?_⟩
    .intro e M;have I:=bL M;simp[go_sem, *]at I;subst I;exact jS (.inl hs.2.1)
    clear D K;exact N _ _ _ _ _ ⟨_,_,_,_,true,_,_,_,_,_,_,_,_,_,v,rfl,rfl,nofun,λ_=>⟨rfl,rfl,f⟩,nofun,nofun⟩
   |true=>
    obtain⟨Z,rfl,t,f⟩:=x rfl;clear A x;have R:=dY (ty:=ty) (i:=i) (γ:=⟨.done,false,Z,0⟩) hL (Q O' Z v t);refine R.bK f rfl ?_;clear f;intro d u f;refine goes_oper_k rfl rfl Y0 (λK D=>?_);have V:=hx u f.q.fx.1;have hY:=V.x0;clear V;go_simp;refine D _ _ ⟨Z0,?_,?_⟩
    .intro e M;have I:=bL M;simp[go_sem, *]at I;subst I;exact jS (.inl hs.2.1)
    clear D K;exact N _ _ _ _ _ ⟨_,_,_,_,true,_,_,_,_,_,_,_,_,_,v,rfl,rfl,nofun,nofun,λ_=>⟨Z,rfl,t,f⟩,nofun⟩
  .obtain rfl:E=false:=by cases E;rfl;exact aF (Y rfl) X0
   clear hj hl;simp only[cond_true,cond_false];cases S with
   |false=>
    obtain⟨rfl,rfl,f⟩:=A rfl;clear A x;have R:=dY (ty:=ty) (i:=i) (γ:=⟨.pre,false,λ_=>False,0⟩) hL W;refine R.bK f rfl ?_;clear f;intro d u f;refine goes_oper_k rfl rfl Y0 (λK D=>?_);go_simp;refine D _ _ ⟨Z0,?_,?_⟩
    .intro e M;have I:=bL M;simp[go_sem, *]at I
    clear D K;exact N _ _ _ _ _ ⟨_,_,_,_,_,true,_,_,_,_,_,_,_,_,v,rfl,rfl,nofun,λ_=>⟨rfl,rfl,f⟩,nofun,nofun⟩
   |true=>
    obtain⟨Z,rfl,t,f⟩:=x rfl;clear A x;have R:=dY (ty:=ty) (i:=i) (γ:=⟨.done,false,Z,0⟩) hL (Q O' Z v t);refine R.bK f rfl ?_;clear f;intro d u f;refine goes_oper_k rfl rfl Y0 (λK D=>?_);go_simp;refine D _ _ ⟨Z0,?_,?_⟩
    .intro e M;have I:=bL M;simp[go_sem, *]at I
    clear D K;exact N _ _ _ _ _ ⟨_,_,_,_,_,true,_,_,_,_,_,_,_,_,v,rfl,rfl,nofun,nofun,λ_=>⟨Z,rfl,t,f⟩,nofun⟩
  .obtain rfl:E=false:=by cases E;rfl;exact aF (Y rfl) X0
   clear hj hl;simp only[cond_true,cond_false];cases S with
   |false=>
    obtain⟨rfl,rfl,f⟩:=A rfl;clear A x;have R:=dY (ty:=ty) (i:=i) (γ:=⟨.pre,false,λ_=>False,0⟩) hL W;refine R.bK f rfl ?_;clear f;intro d u f;refine goes_oper_k rfl rfl Y0 (λK D=>?_);have V:=hx u f.q.fx;have hY:=V.x1;clear V;go_simp;refine D _ _ ⟨Z0,?_,?_⟩
    .intro e M;have I:=bL M;simp[go_sem, *]at I;subst I;exact jS (.inl hs.2.1)
    clear D K;exact N _ _ _ _ _ ⟨_,_,_,_,_,_,true,_,_,_,_,_,_,_,v,rfl,rfl,nofun,λ_=>⟨rfl,rfl,f⟩,nofun,nofun⟩
   |true=>
    obtain⟨Z,rfl,t,f⟩:=x rfl;clear A x;have R:=dY (ty:=ty) (i:=i) (γ:=⟨.done,false,Z,0⟩) hL (Q O' Z v t);refine R.bK f rfl ?_;clear f;intro d u f;refine goes_oper_k rfl rfl Y0 (λK D=>?_);have V:=hx u f.q.fx.1;have hY:=V.x1;clear V;go_simp;refine D _ _ ⟨Z0,?_,?_⟩
    .intro e M;have I:=bL M;simp[go_sem, *]at I;subst I;exact jS (.inl hs.2.1)
    clear D K;exact N _ _ _ _ _ ⟨_,_,_,_,_,_,true,_,_,_,_,_,_,_,v,rfl,rfl,nofun,nofun,λ_=>⟨Z,rfl,t,f⟩,nofun⟩
  .obtain rfl:E=false:=by cases E;rfl;exact aF (Y rfl) X0
   clear hj hl;simp only[cond_true,cond_false];cases S with
   |false=>
    obtain⟨rfl,rfl,f⟩:=A rfl;clear A x;have R:=dY (ty:=ty) (i:=i) (γ:=⟨.pre,false,λ_=>False,0⟩) hL W;refine R.bK f rfl ?_;clear f;intro d u f;refine goes_oper_k rfl rfl Y0 (λK D=>?_);have V:=hx u f.q.fx;have hY:=V.s;clear V;go_simp;refine D _ _ ⟨Z0,?_,?_⟩
    .intro e M;have I:=bL M;simp[go_sem, *]at I;subst I;exact jS (.inl hs.2.2.1)
    clear D K;exact N _ _ _ _ _ ⟨_,_,_,_,_,_,_,true,_,_,_,_,_,_,v,rfl,rfl,nofun,λ_=>⟨rfl,rfl,f⟩,nofun,nofun⟩
   |true=>
    obtain⟨Z,rfl,t,f⟩:=x rfl;clear A x;have R:=dY (ty:=ty) (i:=i) (γ:=⟨.done,false,Z,0⟩) hL (Q O' Z v t);refine R.bK f rfl ?_;clear f;intro d u f;refine goes_oper_k rfl rfl Y0 (λK D=>?_);have V:=hx u f.q.fx.1;have hY:=V.s;clear V;go_simp;refine D _ _ ⟨Z0,?_,?_⟩
    .intro e M;have I:=bL M;simp[go_sem, *]at I;subst I;exact jS (.inl hs.2.2.1)
    clear D K;exact N _ _ _ _ _ ⟨_,_,_,_,_,_,_,true,_,_,_,_,_,_,v,rfl,rfl,nofun,nofun,λ_=>⟨Z,rfl,t,f⟩,nofun⟩
  .obtain rfl:E=false:=by cases E;rfl;exact aF (Y rfl) X0
   clear hj hl;simp only[cond_true,cond_false];cases S with
   |false=>
    obtain⟨rfl,rfl,f⟩:=A rfl;clear A x;have R:=dY (ty:=ty) (i:=i) (γ:=⟨.pre,false,λ_=>False,0⟩) hL W;refine R.bK f rfl ?_;clear f;intro d u f;refine goes_oper_k rfl rfl Y0 (λK D=>?_);go_simp;refine D _ _ ⟨Z0,?_,?_⟩
    .intro e M;have I:=bL M;simp[go_sem, *]at I
    clear D K;exact N _ _ _ _ _ ⟨_,_,_,_,_,_,_,_,true,_,_,_,_,_,v,rfl,rfl,nofun,λ_=>⟨rfl,rfl,f⟩,nofun,nofun⟩
   |true=>
    obtain⟨Z,rfl,t,f⟩:=x rfl;clear A x;have R:=dY (ty:=ty) (i:=i) (γ:=⟨.done,false,Z,0⟩) hL (Q O' Z v t);refine R.bK f rfl ?_;clear f;intro d u f;refine goes_oper_k rfl rfl Y0 (λK D=>?_);go_simp;refine D _ _ ⟨Z0,?_,?_⟩
    .intro e M;have I:=bL M;simp[go_sem, *]at I
    clear D K;exact N _ _ _ _ _ ⟨_,_,_,_,_,_,_,_,true,_,_,_,_,_,v,rfl,rfl,nofun,nofun,λ_=>⟨Z,rfl,t,f⟩,nofun⟩
  .obtain rfl:E=false:=by cases E;rfl;exact aF (Y rfl) X0
   clear hj hl;simp only[cond_true,cond_false];cases S with
   |false=>
    obtain⟨rfl,rfl,f⟩:=A rfl;clear A x;have R:=dY (ty:=ty) (i:=i) (γ:=⟨.pre,false,λ_=>False,0⟩) hL W;refine R.bK f rfl ?_;clear f;intro d u f;refine goes_oper_k rfl rfl Y0 (λK D=>?_);have hlt:(i:Int)<(F.n:Int):=by omega
    go_simp;refine D _ _ ⟨Z0,?_,?_⟩
    .intro e M;have I:=bL M;simp[go_sem, *]at I
    clear D K;exact N _ _ _ _ _ ⟨_,_,_,_,_,_,_,_,_,true,_,_,_,_,v,rfl,rfl,nofun,λ_=>⟨rfl,rfl,f⟩,nofun,nofun⟩
   |true=>
    obtain⟨Z,rfl,t,f⟩:=x rfl;clear A x;have R:=dY (ty:=ty) (i:=i) (γ:=⟨.done,false,Z,0⟩) hL (Q O' Z v t);refine R.bK f rfl ?_;clear f;intro d u f;refine goes_oper_k rfl rfl Y0 (λK D=>?_);have hlt:(i:Int)<(F.n:Int):=by omega
    go_simp;refine D _ _ ⟨Z0,?_,?_⟩
    .intro e M;have I:=bL M;simp[go_sem, *]at I
    clear D K;exact N _ _ _ _ _ ⟨_,_,_,_,_,_,_,_,_,true,_,_,_,_,v,rfl,rfl,nofun,nofun,λ_=>⟨Z,rfl,t,f⟩,nofun⟩
  .obtain rfl:E=false:=by cases E;rfl;exact aF (Y rfl) X0
   clear hj hl;simp only[cond_true,cond_false];cases S with
   |false=>
    obtain⟨rfl,rfl,f⟩:=A rfl;clear A x;have R:=dY (ty:=ty) (i:=i) (γ:=⟨.pre,false,λ_=>False,0⟩) hL W;refine R.bK f rfl ?_;clear f;intro d u f;refine goes_oper_k rfl rfl Y0 (λK D=>?_);have V:=hx u f.q.fx;have hY:=V.si;clear V;go_simp;refine D _ _ ⟨Z0,?_,?_⟩
    .intro e M;have I:=bL M;simp[go_sem, *]at I;subst I;exact jS (.inl hs.2.2.2.1)
    clear D K;exact N _ _ _ _ _ ⟨_,_,_,_,_,_,_,_,_,_,true,_,_,_,v,rfl,rfl,nofun,λ_=>⟨rfl,rfl,f⟩,nofun,nofun⟩
   |true=>
    obtain⟨Z,rfl,t,f⟩:=x rfl;clear A x;have R:=dY (ty:=ty) (i:=i) (γ:=⟨.done,false,Z,0⟩) hL (Q O' Z v t);refine R.bK f rfl ?_;clear f;intro d u f;refine goes_oper_k rfl rfl Y0 (λK D=>?_);have V:=hx u f.q.fx.1;have hY:=V.si;clear V;go_simp;refine D _ _ ⟨Z0,?_,?_⟩
    .intro e M;have I:=bL M;simp[go_sem, *]at I;subst I;exact jS (.inl hs.2.2.2.1)
    clear D K;exact N _ _ _ _ _ ⟨_,_,_,_,_,_,_,_,_,_,true,_,_,_,v,rfl,rfl,nofun,nofun,λ_=>⟨Z,rfl,t,f⟩,nofun⟩
  .obtain rfl:E=false:=by cases E;rfl;exact aF (Y rfl) X0
   clear hj hl;simp only[cond_true,cond_false];obtain⟨rfl,rfl,f⟩:=A rfl;clear A x;have R:=dY (ty:=ty) (i:=i) (γ:=⟨.pre,false,λ_=>False,0⟩) hL W;refine R.step f rfl ?_;clear f;intro d u f;refine qD rfl rfl Y0 rfl (z:=#[aJ B e,ah k,ah m,.slice (some ⟨hb,ho,none⟩) hn hcap]) (n:=4) I5 rfl func123 afy Zy ⟨Z0,by intro e M;simp at M,?_⟩;rw[afz];refine xV hz hL W Oz hZ yG xq hw TW hsz VQ hN hJ hH hhb hS hkn hnc (λd u O4 Z g P a1 a2 a3 a4 hF2=>?_) _ _ f;clear f R;exact N _ _ _ _ _ ⟨_,_,_,_,_,_,_,_,_,_,_,true,_,_,aU g (k+m) (k+m),rfl,rfl,nofun,nofun,λ_=>⟨Z,rfl,a1,hF2.fx ⟨hF2.q.fx.1,g,P,rfl,a2,a4,hF2.q.fx.2⟩⟩,nofun⟩
  .obtain rfl:E=false:=by cases E;rfl;exact aF (Y rfl) X0
   clear hj hl;simp only[cond_true,cond_false];obtain⟨Z,rfl,t,f⟩:=x rfl;clear A x;have R:=dY (ty:=ty) (i:=i) (γ:=⟨.done,false,Z,0⟩) hL (Q O' Z v t);have hlt:(i:Int)<(F.n:Int):=by omega
   refine R.bK f rfl ?_;clear f;intro d u f;refine goes_oper_k rfl rfl Y0 (λK D=>?_);go_simp;refine D _ _ ⟨Z0,?_,?_⟩
   .intro e M;have I:=bL M;simp[go_sem, *]at I
   clear D K;exact N _ _ _ _ _ ⟨_,_,_,_,_,_,_,_,_,_,_,_,true,_,v,rfl,rfl,nofun,nofun,λ_=>⟨Z,rfl,t,f⟩,nofun⟩
  .clear hj hl;simp only[cond_true,cond_false];obtain⟨Z,rfl,t,f⟩:=x rfl;clear A x;have R:=dY (ty:=ty) (i:=i) (γ:=⟨.done,false,Z,0⟩) hL (Q O' Z v t);refine R.stepW f rfl ?_;clear f;intro d u f;obtain⟨⟨cc,hcc⟩,hfr,hp',Qq,_⟩:=Lv (i:=i) f.q.pay hi v;have gw:=UU f hL hi v;have sd:=aside_setCell u ⟨F.C,i,none⟩ v;obtain⟨g,P,rfl,r2⟩:=f.q.fx.2;refine goes_oper_k rfl rfl Y0 (λK D=>?_);go_simp;refine D _ _ ⟨O',gw,?_,?_⟩
   .intro ev M;have I:=bL M;have xJ:=λw es ad md=>events_store prog w es ad (aU g (k+m) (k+m)) md rfl;simp[go_sem,xJ,storedEv,hcc,hfr]at I;subst I;exact .inr (.inl ⟨rfl,rfl⟩)
   clear D K;have hkp:∀b,O' b\/F.Sh b->(u.setCell (aB F.C i) (aU g (k+m) (k+m))).heap[b]? =u.heap[b]? :=λb hb=>sd.block b (hb.elim (λh=>(f.ap.o b h).2.1) λh=>(f.ap.z b (.inl h)).2.1);refine N _ _ _ _ _ ⟨_,_,_,_,_,_,_,_,_,_,_,_,_,true,aU g (k+m) (k+m),rfl,rfl,λ_=>X0,nofun,λ_=>⟨Z,rfl,t,f.turn hL gw ⟨W u _ ⟨by rw[sd.size];exact aS _,λb hb=>hkp b ?_,.of sd.os⟩ (λh=>by cases h) f.q.fx.1,f.q.fx.2.more λb hb=>hkp b (.inl hb)⟩⟩,λ_=>Qq⟩;obtain hb|hb|hb:=hb
   .exact .inl (t b hb)
   .exact .inr hb
   .exact hb.elim
 .clear f R;rintro l γ' a d O' w hl ⟨l0,l1,l2,l3,l4,l5,l6,l7,l8,l9,l10,S,ZA,E,v,rfl,ha,Y,A,x,hh⟩ hr;simp only at ha A x hh;subst ha;have xP:=Zw (l:=#[l0,l1,l2,l3,l4,l5,l6,l7,l8,l9,l10,S,ZA,E]) rfl hr;obtain rfl:E=true:=by simpa using xP 13 Q0
  obtain⟨rfl,rfl,rfl,rfl,rfl,rfl,rfl,rfl,rfl,rfl,rfl,rfl,rfl⟩:=Y rfl;obtain⟨Z,rfl,t,f⟩:=x rfl;have Qq:=hh rfl;clear xP Y A x hh hl hr;subst Zz;simp only[cond_true]
  let F':Ph:={F with Sh:=λb=>F.Sh b\/Z b,iG:=λi O v w u r h=>F.iG i O v w u ⟨r.size,λb hb=>r.keep b (hb.imp id .inl),r.os⟩ h}
  have hKO:KO F' i T O' v w:=⟨f.q.bd,f.q.live,f.q.pay,hwp w f.q.fx.1,Qq,(by show F.Gt i O' v w;rw[afA];exact f.q.fx.2),t T hHw⟩;have hBC:=f.ap.bc;have hBl:=f.QK;have hOB:=λh=>(f.ap.o _ h).1 rfl;refine bS.Qm (Stop:=Jk prog jH.tWg F i) (λL Eb=>by rw[hL]at Eb;cases Eb;exact⟨hBC,hBl⟩) (λL Eb=>by rw[hL]at Eb;cases Eb;exact hOB) ?_ (λO' bF g' u _ h=>.mk (.fin rfl rfl (λ_=>rfl) λAy u' r=>h u' r.o r.r));show bM prog false F'.Sh (KZ jH.tWg F' i) (Jk prog jH.tWg F' i) O' _ w;clear f;have f:=hKO;refine bM.goes f.bd aZ rfl (λu h₁ h₂=>?_);replace f:=f.rely h₁ h₂;clear h₁ h₂;rw[stepG_region_end];simp only[goes_go];refine⟨Z0,by intro e M;simp at M,?_⟩;refine bM.goes f.bd aZ rfl (λu h₁ h₂=>?_);replace f:=f.rely h₁ h₂;clear h₁ h₂;rw[stepG_end];simp only[goes_go];refine⟨Z0,by intro e M;simp at M,?_⟩;refine bM.goes f.bd aZ rfl (λu h₁ h₂=>?_);replace f:=f.rely h₁ h₂;clear h₁ h₂;refine goes_leave0 rfl rfl func122 rfl ⟨Z0,by intro e M;simp at M,?_⟩;exact JN _ f
theorem Og(j:∀L,F.lk=some L->L.B≠F.C/\L.B<w.heap.size)(E:∀L,F.lk=some L->¬O L.B)(p:∀L,F.lk=some L->∃W s,MuAt L W s w)(h:bM prog false (λb=>F.Sh b\/γ.Z b) (KZ ty F i) I O g w)
 (k:∀q t v u,(∀L,F.lk=some L->∃W s,MuAt L W s u)->(∀D,bB (λb=>F.Sh b\/γ.Z b) q u D->RW ty F.Wg F.C F.n 0 i u D->I q v D)->bS prog ty F i γ t q v u):bS prog ty F i γ d O g w:=by
 obtain⟨V,h⟩:=h
 induction V generalizing d O g w with
 |zero=>exact k O d g w p h
 |node f U=>
  obtain h|⟨S,h⟩:=h
  .exact k O d g w p h
  .refine .mk (.idle S λt u x=>?_);obtain⟨v,G,es,q,H,c,J,K⟩:=h u x.o x.r;have z:∀L,F.lk=some L->L.B<u.heap.size:=λL a=>bG (j L a).2 x.o.size;have A:∀L,F.lk=some L->¬q L.B:=λL a T=>(c.fresh _ T).elim (E L a) λy=>by have:=z L a;omega
   have m:∀L,F.lk=some L->G.heap[L.B]? =u.heap[L.B]? :=λL a=>c.frame _ (z L a) (E L a) (j L a).1;refine⟨v,G,es,q,H,⟨c.sub,c.fresh,c.bound,c.size,λb N P Q _=>c.frame b N P Q,c.tape,c.os,c.output,c.guar.1,c.guar.2,λL a=>?_⟩,λe R=>(J e R).imp id λy=>.inl y,U u (λL a=>⟨(j L a).1,bG (z L a) c.size⟩) A (λL a=>?_) K⟩
   .exact λW s M=>M.of_block (m L a)
   .obtain⟨W,s,M⟩:=x.l L a (p L a);exact⟨W,s,M.of_block (m L a)⟩
theorem afB:(f122.name== "runtime.NumGoroutine")=false:=by kernel_rfl
theorem ZB:f122.body=some (.region 0 iP true):=rfl
theorem afC(x a b c d:aA):(#[x]++#[a,b,c,d])++Array.replicate (f122.ntmps-(#[x]++#[a,b,c,d]).size) ak=#[x,a,b,c,d,ak,ak,ak,ak,ak,ak,ak,ak,ak,ak,ak,ak,ak,ak]:=by kernel_rfl
theorem y8{ho:Nat}(hz:Zb.z=prog.globals.size)(q:F.lk=some (gI k m B e X))(D:Yp F (gI k m B e X) false (λ_=>False) H Fx)(Oz:F.Sh Zb.z)(hZ:∀w,Fx w->∃c e z,w.heap[Zb.z]? =some (.cells c e z))(Q:0<k)(S:k+m<=12)(hw:0<width)(TW:width<=8)(hsz:size=8*width)(M:TN=(k+m)*size)(hN:∀j,j<k->HN i j<k+m)(hJ:∀a b,a<k->b<k->HN i a=HN i b->a=b)(hH:∀w,Fx w->∀j,j<k->w.cell? (aB hb (ho+j*2))=some (ah (HN i j:Nat))/\w.cell? (aB hb (ho+j*2+1))=some (.string (HD i j)))(P:F.Sh hb)(hS:∀j,j<k->(HD i j).size=size)(V:k<=hn)(Y:hn<=hcap)(hi:i<F.n)(hx:∀w,Fx w->CF pc xm sc ac sb hb ho hn hcap F.C F.n i k m B e w)(hs:F.Sh pc/\F.Sh xm/\F.Sh sc/\F.Sh sb/\F.Sh ac)(R:F.Gt=xW k m width size HN HD)(E:∀w,Fx w->WF F.Wg T U sc' wc i 122 #[aJ pc 0,aJ xm 0,aJ sc 0,aJ ac 0] w)(ho:H T/\H U/\H sc')(hwc:F.Sh wc)(A:∀w,Fx w->∀b,F.Sh b->b<w.heap.size)(I:Asp F (gI k m B e X) H λ_=>False)
 (w:au)(N:Fx w)(t:∀b,H b->b<w.heap.size)(hl:WgLive jH.tWg F.Wg w)(hp:PayAt F.C F.n w)(v:∃W s,MuAt (gI k m B e X) W s w)(d:Nat):
 bS prog jH.tWg F i ⟨.pre,false,λ_=>False,0⟩ d H (born prog (rO T U)) w:=by
 have p:StW F H Fx:=λw u r h=>D w u ⟨r.size,λb hb=>r.keep b (hb.imp id λx=>x.elim id False.elim),r.os⟩ (λh=>by cases h) h;have J:KR jH.tWg F (gI k m B e X) H (λ_=>False) Fx w:=⟨⟨N,hl,hp,t,v⟩,λb hb=>A w N b (hb.elim id False.elim),I⟩;have hg:=N9 (F:=F) (i:=i) (wp:=T) (fc:=U) (sc:=sc') (wc:=wc) (H:=H) (f:=122) (y:=#[aJ pc 0,aJ xm 0,aJ sc 0,aJ ac 0]) (Fx:=Fx)
  (Rj:=λO g u=>O=H/\g=G ((base 122).at ⟨#[ah i,aJ pc 0,aJ xm 0,aJ sc 0,aJ ac 0,ak,ak,ak,ak,ak,ak,ak,ak,ak,ak,ak,ak,ak,ak],[]⟩ [.code (.region 0 iP true)]) [LW sc' wc i 122 #[aJ pc 0,aJ xm 0,aJ sc 0,aJ ac 0],Da T U sc' wc,yY]/\KW jH.tWg F i H Fx u)
  p E ho hwc func122 afB ZB (λw hF=>⟨.zero,λu r r'=>⟨rfl,by rw[afC],hF.rely p r r'⟩⟩) w ⟨N,hl,hp,t⟩
 have e:(λb=>F.Sh b\/(λ_:Nat=>False) b)=F.Sh:=funext λb=>by simp
 rw[<-e]at hg;refine Og (γ:=⟨.pre,false,λ_=>False,0⟩) (λL l=>by rw[q]at l;cases l;exact⟨I.bc,J.QK⟩) (λL l hx=>by rw[q]at l;cases l;exact(I.o _ hx).1 rfl) (λL l=>by rw[q]at l;cases l;exact v) hg (λO' bF g' u hM Z=>?_)
 .obtain⟨rfl,rfl,K⟩:=Z u (.refl _ _ _) (RW.refl u);exact V7 hz q D Oz hZ Q S hw TW hsz M hN hJ hH P hS V Y hi hx hs R (λw h=>(E w h).wp) ho.1 (λ_=>ak) bF u ⟨⟨K.fx,K.live,K.pay,K.bd,hM _ q⟩,λb hb=>A u K.fx b (hb.elim id False.elim),I⟩
