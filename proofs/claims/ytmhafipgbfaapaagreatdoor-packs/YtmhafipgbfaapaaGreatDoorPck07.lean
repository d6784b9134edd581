import Derived.Test.YtmhafipgbfaapaaGreatDoorAbb0
import Derived.Test.YtmhafipgbfaapaaGreatDoorAbb1
import Derived.Test.YtmhafipgbfaapaaGreatDoorPck05
set_option maxRecDepth 100000
set_option maxHeartbeats 8000000
set_option linter.unusedVariables false
set_option linter.unusedSimpArgs false
set_option linter.unusedSectionVars false
namespace Go.Proofs.YtmhafipgbfaapaaGreatDoor
section
open Go.Proofs.Tryz
open Go Go.Conc Go.ConcN Go.RowKit Go.Conc.Lib Go.ConcR.Gen Go.ConcN.Gen Go.Proofs.YtmhafipgbfaapaaGreatDoor.Ren
open Go.ConcR (KK WgAt wgBlock stA smA rd wr mk Payload DC0)
variable {t : au -> Prop} {A : Nat -> au -> Prop} {O Z : aD} {T : Array aA} {g : Act} {p c : Frame} {y : List Frame} {i h n aX : Nat} {k v : Bool} {o : List Item} {d : Array Oper} {f : List Nat} {ty : bf} {b l : aA}
section
variable [Payload] [Zb] {L : Lk} {F : Ph}
theorem Ob(f:F.lk=some L)(hst:FC F Z O t)(hO:∀b,O b\/F.Sh b\/Z b\/b=F.Wg\/b=F.C->b≠L.B)(hT:Behind ty F L i Z O t y)(ih:∀I,I<aX->Head ty F L i Z O t y I 4){X Y:Code}(hX:X=aM)(S:Y=dJ)
 (J:Nat->aA)(N:Int)(R aw k:Bool)(it:Int)(n x:Nat)(w:au)(h0:0<=it)(haw:aw=true->k=true)(hsv:R=true->aw=true)(hn:n<=131072)(c:KS ty F L O t aX ⟨false,k,false,n⟩ x w):
 bS prog ty F i ⟨.loop aw R,false,Z,1⟩ x O (G ((base 247).at ⟨TM L J N R aw it ⟨false,k,false,n⟩,[]⟩ [.code aM,.inLoop X,.inBlock 0,.code Y]) y) w:=by
 have nums:=uS hn;have j:=hst;simp only[TM,aM,gX,aG,bZ,Bc,f247,fq];cases aw with
 |false=>
  obtain rfl:R=false:=by cases R<;>simp_all
  refine(dZ f hst).run (g':=?_) c ?_;clear c;intro x u c;refine bS.cas f rfl rfl rfl ⟨false,k,false,n⟩ ⟨true,k,false,n⟩ (λE u s r M z U=>⟨_,.hold,.take,stepG_cas_hit rfl rfl Y0 rfl func246 ni nu ny .i32 nC O1 rfl rfl M.mu M.fm,λa T h2=>?_⟩) (λE u W s r M o z U=>⟨_,stepG_cas_miss rfl rfl Y0 rfl func246 ni nu ny .i32 nC O1 rfl rfl M.mu M.fm (λe=>o (Wd.int_inj e)),λa T=>?_⟩)
  .skip
   have g:=(c.rely f hst r).q.xO (γ:=⟨.hold,false,Z,1⟩) j hO (Eff.set (.inl rfl) _) (M.setMu ⟨true,k,false,n⟩);generalize u.setCell L.mu _=u1 at g ⊢;clear c;have c:KS ty F L O t (a+1) ⟨true,k,false,n⟩ a u1:=⟨g,Q0,λe=>Q0⟩;replace hst:=j
   walk_nrm
   refine(dZ f hst).run (g':=?_) c ?_;clear c;intro x u c;rw[S];exact hT _ _ _ rfl rfl c.q
  .skip
   have V:a<aX:=by have:=(c.rely f hst r).miss M o;omega
   have g:=(c.rely f hst r).q;clear c;have c:KS ty F L O t (a+1) W a u:=⟨g,Q0,λe=>Q0⟩;have l:a<=a:=aS _;clear M g
   walk_nrm
   refine(BO f hst).run (g':=?_) ⟨c,l⟩ ?_;clear c l;intro x u ⟨c,l⟩;refine bS.look f rfl rfl rfl (λXt u r Q s M A K=>⟨_,u,#[],_,.stay,bV rfl rfl Y0 rfl O1 M.mu gD,.refl u,M,X0,rfl,λv D=>?_⟩);have g:=(c.rely f hst r).q;have l:=bY r.k l;clear c r;obtain⟨d,p⟩:∃d,d=v:=⟨_,rfl⟩;have c:KS ty F L O t d Q v u:=⟨g,Q0,λ_=>⟨s,M⟩⟩;have m:d<aX:=by omega
   clear D p
   walk_nrm
   refine(dZ f hst).run (g':=?_) c ?_;clear c;intro x u c;rw[hX,S];refine(ih d m _ N false false it Q _ _ ?_ ?_ ?_ ?_ ?_ ?_ ?_ Q0 h0 ?_ X0 A c)<;>first|rfl|exactλh=>nomatch h
 |true=>
  obtain rfl:k=true:=haw rfl;have ajC:R=true->true=true:=hsv;cases R with
  |false=>
   refine(dZ f hst).run (g':=?_) c ?_;clear c;intro x u c;refine bS.cas f rfl rfl rfl ⟨false,true,false,n⟩ ⟨true,false,false,n⟩ (λE u s r M z U=>⟨_,.hold,.take,stepG_cas_hit rfl rfl Y0 rfl func246 ni nu ny .i32 nC O1 rfl rfl M.mu M.fm,λa T h2=>?_⟩) (λE u W s r M o z U=>⟨_,stepG_cas_miss rfl rfl Y0 rfl func246 ni nu ny .i32 nC O1 rfl rfl M.mu M.fm (λe=>o (Wd.int_inj e)),λa T=>?_⟩)
   .skip
    have g:=(c.rely f hst r).q.xO (γ:=⟨.hold,false,Z,1⟩) j hO (Eff.set (.inl rfl) _) (M.setMu ⟨true,false,false,n⟩);generalize u.setCell L.mu _=u1 at g ⊢;clear c;have c:KS ty F L O t (a+1) ⟨true,false,false,n⟩ a u1:=⟨g,Q0,λe=>Q0⟩;replace hst:=j
    walk_nrm
    refine(dZ f hst).run (g':=?_) c ?_;clear c;intro x u c;rw[S];exact hT _ _ _ rfl rfl c.q
   .skip
    have V:a<aX:=by have:=(c.rely f hst r).miss M o;omega
    have g:=(c.rely f hst r).q;clear c;have c:KS ty F L O t (a+1) W a u:=⟨g,Q0,λe=>Q0⟩;have l:a<=a:=aS _;clear M g
    walk_nrm
    refine(BO f hst).run (g':=?_) ⟨c,l⟩ ?_;clear c l;intro x u ⟨c,l⟩;refine bS.look f rfl rfl rfl (λXt u r Q s M A K=>⟨_,u,#[],_,.stay,bV rfl rfl Y0 rfl O1 M.mu gD,.refl u,M,X0,rfl,λv D=>?_⟩);have g:=(c.rely f hst r).q;have l:=bY r.k l;clear c r;obtain⟨d,p⟩:∃d,d=v:=⟨_,rfl⟩;have c:KS ty F L O t d Q v u:=⟨g,Q0,λ_=>⟨s,M⟩⟩;have m:d<aX:=by omega
    clear D p
    walk_nrm
    refine(dZ f hst).run (g':=?_) c ?_;clear c;intro x u c;rw[hX,S];refine(ih d m _ N false true it Q _ _ ?_ ?_ ?_ ?_ ?_ ?_ ?_ Q0 h0 ?_ X0 A c)<;>first|rfl|exactλ_=>K
  |true=>
   refine(dZ f hst).run (g':=?_) c ?_;clear c;intro x u c;refine bS.cas f rfl rfl rfl ⟨false,true,false,n⟩ ⟨true,false,false,n⟩ (λE u s r M z U=>⟨_,.hold,.take,stepG_cas_hit rfl rfl Y0 rfl func246 ni nu ny .i32 nC O1 rfl rfl M.mu M.fm,λa T h2=>?_⟩) (λE u W s r M o z U=>⟨_,stepG_cas_miss rfl rfl Y0 rfl func246 ni nu ny .i32 nC O1 rfl rfl M.mu M.fm (λe=>o (Wd.int_inj e)),λa T=>?_⟩)
   .skip
    have g:=(c.rely f hst r).q.xO (γ:=⟨.hold,false,Z,1⟩) j hO (Eff.set (.inl rfl) _) (M.setMu ⟨true,false,false,n⟩);generalize u.setCell L.mu _=u1 at g ⊢;clear c;have c:KS ty F L O t (a+1) ⟨true,false,false,n⟩ a u1:=⟨g,Q0,λe=>Q0⟩;replace hst:=j
    walk_nrm
    refine(dZ f hst).run (g':=?_) c ?_;clear c;intro x u c;rw[S];exact hT _ _ _ rfl rfl c.q
   .skip
    have V:a<aX:=by have:=(c.rely f hst r).miss M o;omega
    have g:=(c.rely f hst r).q;clear c;have c:KS ty F L O t (a+1) W a u:=⟨g,Q0,λe=>Q0⟩;have l:a<=a:=aS _;clear M g
    walk_nrm
    refine(BO f hst).run (g':=?_) ⟨c,l⟩ ?_;clear c l;intro x u ⟨c,l⟩;refine bS.look f rfl rfl rfl (λXt u r Q s M A K=>⟨_,u,#[],_,.stay,bV rfl rfl Y0 rfl O1 M.mu gD,.refl u,M,X0,rfl,λv D=>?_⟩);have g:=(c.rely f hst r).q;have l:=bY r.k l;clear c r;obtain⟨d,p⟩:∃d,d=v:=⟨_,rfl⟩;have c:KS ty F L O t d Q v u:=⟨g,Q0,λ_=>⟨s,M⟩⟩;have m:d<aX:=by omega
    clear D p
    walk_nrm
    refine(dZ f hst).run (g':=?_) c ?_;clear c;intro x u c;rw[hX,S];refine(ih d m _ N true true it Q _ _ ?_ ?_ ?_ ?_ ?_ ?_ ?_ Q0 h0 ?_ X0 A c)<;>first|rfl|exactλ_=>K
theorem acg:(f263.name== "runtime.NumGoroutine")=false:=by kernel_rfl
theorem ach:f263.body.isNone=true:=by kernel_rfl
theorem aci:Extern.findNext f263=none:=by kernel_rfl
theorem acj:Extern.find f263=some Extern.Sync.semrelease:=by kernel_rfl
theorem JR(a:n<=131073):IntKind.i32.wrap (Wd.int ⟨false,k,v,n⟩+1)=Wd.int ⟨true,k,v,n⟩:=by have h:=Wd.wO ⟨false,k,v,n⟩;rw[show Wd.int ⟨false,k,v,n⟩+1=((8*n+(Wd.c ⟨false,k,v,n⟩+1):Nat):Int)by simp only[Wd.int,Wd.c];omega,wrap32 _ Q0,Wd.int_eq];simp[Wd.c];omega
theorem LX(s:Nat)(h:s<=1):IntKind.u32.wrap ((s:Int)+1)=((s+1:Nat):Int):=by unfold IntKind.wrap;simp[IntKind.signed,IntKind.bits];omega
theorem Rz(z:F.lk=some L)(hst:FC F Z O t)(E:∀b,O b\/F.Sh b\/Z b\/b=F.Wg\/b=F.C->b≠L.B)(I:∀q u,KQ ty F L O t u->bS prog ty F i ⟨.done,false,Z,1⟩ q O (G (p.at (g.put ((d[h]?).bind (·.dst)) (.tuple #[])) (aT d f::o)) y) u)(k:Bool)(n:Nat)(x:n<=131073)(q:Nat)(w:au)(a:KQ ty F L O t w):bS prog ty F i ⟨.us,false,Z,1⟩ q O (G ((base 249).at ⟨#[.pointer (some L.mu),.int .i32 (Wd.int ⟨false,k,true,n⟩),ak,ak,ak,ak,ak,ak,ak,ak,ak,ak,ak,ak,ak,ak,ak,ak,ak,ak,ak,ak,ak,ak,ak,ak,ak,ak,ak,ak,ak,ak,ak,ak,ak,ak,ak,ak,ak,ak,ak,ak,ak],[]⟩ [.code (f249.body.getD .skip)]) (p.at g (aT d (h::f)::o)::y)) w:=by
 have c:=λl k v=>zo (l:=l) (k:=k) (v:=v) x;have e:=λl k v=>zq (l:=l) (k:=k) (v:=v) x;have j:=λl k v=>zu (l:=l) (k:=k) (v:=v) x;have jI:=λl k v=>AV (l:=l) (k:=k) (v:=v) (n:=n);have m:=λk v=>JR (k:=k) (v:=v) x;simp only[f249,fq];have R:=kF (i:=i) (γ:=⟨.us,false,Z,1⟩) (ty:=ty) z hst;have nums:=fu c<|fu e<|fu j<|fu jI m;refine R.run (g':=?_) a ?_;clear a;intro q u a;clear nums;refine bS.wake z rfl rfl rfl rfl rfl (λJ u W s r M A=>⟨_,(stepG_semrelease rfl rfl Y0 rfl func263 acg ach aci acj (ad:=L.sm) M5 M.sm M.fs).trans (by rw[LX _ A]),rfl,λD=>?_⟩);replace a:=(R.rely _ _ _ _ a r).xO (γ:=⟨.done,false,Z,1⟩) hst E (Eff.set (.inr rfl) _) (M.setSm (s+1));generalize u.setCell L.sm _=u1 at a ⊢;clear R r M;have R:=kF (i:=i) (γ:=⟨.done,false,Z,1⟩) (ty:=ty) z hst
 walk_nrm
 have hlv:=func249;refine R.run (g':=?_) a ?_;clear a;intro q u a;clear hlv;exact I _ _ a
theorem JU(A:F.lk=some L)(hst:FC F Z O t)(E:∀b,O b\/F.Sh b\/Z b\/b=F.Wg\/b=F.C->b≠L.B)(x:∀r u,KQ ty F L O t u->bS prog ty F i ⟨.done,false,Z,1⟩ r O (G (p.at (g.put ((d[h]?).bind (·.dst)) (.tuple #[])) (aT d f::o)) y) u)(k:Bool)(n:Nat)(s:n<=131073)(D:n=0\/k=true)(r:Nat)(w:au)(a:KQ ty F L O t w):bS prog ty F i ⟨.done,false,Z,1⟩ r O (G ((base 249).at ⟨#[.pointer (some L.mu),.int .i32 (Wd.int ⟨false,k,false,n⟩),ak,ak,ak,ak,ak,ak,ak,ak,ak,ak,ak,ak,ak,ak,ak,ak,ak,ak,ak,ak,ak,ak,ak,ak,ak,ak,ak,ak,ak,ak,ak,ak,ak,ak,ak,ak,ak,ak,ak,ak,ak],[]⟩ [.code (f249.body.getD .skip)]) (p.at g (aT d (h::f)::o)::y)) w:=by
 have c:=λl k v=>zo (l:=l) (k:=k) (v:=v) s;have e:=λl k v=>zq (l:=l) (k:=k) (v:=v) s;have j:=λl k v=>zu (l:=l) (k:=k) (v:=v) s;have jI:=λl k v=>AV (l:=l) (k:=k) (v:=v) (n:=n);have m:=λk v=>JR (k:=k) (v:=v) s;simp only[f249,fq];have R:=kF (i:=i) (γ:=⟨.done,false,Z,1⟩) (ty:=ty) A hst;by_cases z:n=0
 .subst z;have nums:=fu c<|fu e<|fu j<|fu jI m;have hlv:=func249;refine R.run (g':=?_) a ?_;clear a;intro r u a;clear hlv;clear nums;exact x _ _ a
 .have q:((n:Int)==0)=false:=beq_false_of_ne Q0;obtain rfl:k=true:=D.resolve_left z;have nums:=fu c<|fu e<|fu j<|fu jI<|fu m q;have hlv:=func249;refine R.run (g':=?_) a ?_;clear a;intro r u a;clear hlv;clear nums;exact x _ _ a
noncomputable def tY:Code:=f249.body.getD .skip
noncomputable def blk:Code->Code|.block _ c=>c|c=>c
noncomputable def lop:Code->Code|.loop c=>c|c=>c
noncomputable def RD:Code->Code|.cond _ a _=>a|c=>c
noncomputable def Tf:Code:=lop (blk (aG (RD (aG (aG tY)))))
noncomputable def acn:Code->Code|.cond _ _ a=>a|c=>c
theorem Zf:tY=.seq (bZ tY) (.seq (bZ (aG tY)) (.cond (.tmp 12) (.seq (bZ (RD (aG (aG tY)))) (.block 0 (.loop Tf))) (acn (aG (aG tY))))):=by kernel_rfl
noncomputable def TU(b:aA)(l:aA)(J:Nat->aA):Array aA:=#[b,J 1,J 2,J 3,l,J 5,J 6,J 7,J 8,J 9,J 10,J 11,J 12,J 13,J 14,J 15,J 16,J 17,J 18,J 19,J 20,J 21,J 22,J 23,J 24,J 25,J 26,J 27,J 28,J 29,J 30,J 31,J 32,J 33,J 34,J 35,J 36,J 37,J 38,J 39,J 40,J 41,J 42]
theorem VI(b:aA)(l:aA)(J:Nat->aA):(TU b l J).toList=(List.range 43).map λk=>if k=0 then b else if k=4 then l else J k:=by rfl
theorem Zg(s:T.size=43)(h:T[0]? =some b)(c:T[4]? =some l):∃J,T=TU b l J:=by
 refine⟨λk=>(T[k]?).getD ak,?_⟩;apply Array.ext';rw[VI];apply List.ext_getElem?;intro k;rw[List.getElem?_map];obtain hk|hk:=jY k 43
 .rw[List.getElem?_range hk,gq,jE];by_cases e:k=0
  .rw[aI e,e,h]
  by_cases a:k=4
  .rw[av e,aI a,a,c]
  rw[av e,av a,iU Q0];rfl
 .rw[jE,Array.getElem?_eq_none Q0,vH V5];rfl
theorem VJ(h:n+1<=131072):IntKind.i32.wrap (Wd.int ⟨false,false,false,n+1⟩-8)=Wd.int ⟨false,false,false,n⟩:=by rw[show Wd.int ⟨false,false,false,n+1⟩-8=((8*n:Nat):Int)by simp only[Wd.int,Bool.toNat_false];omega,wrap32 _ Q0];simp[Wd.int]
theorem VK{l:Bool}(h:l=true\/k=true\/v=true):(((l.toNat:Int)+2*(k.toNat:Int)+4*(v.toNat:Int))!=0)=true:=by cases l<;>cases k<;>cases v<;>simp at h ⊢
theorem RF:(prog.funcs[(base 249).fn]?).any (·.norace)=true:=by kernel_rfl
theorem JV(K:F.lk=some L)(hst:FC F Z O t)(hO:∀b,O b\/F.Sh b\/Z b\/b=F.Wg\/b=F.C->b≠L.B)(hk:∀z u,KQ ty F L O t u->bS prog ty F i ⟨.done,false,Z,1⟩ z O (G (p.at (g.put ((d[h]?).bind (·.dst)) (.tuple #[])) (aT d f::o)) y) u)(aX:Nat):∀(T:Array aA)(n z:Nat)(w:au),T.size=43->T[0]? =some (.pointer (some L.mu))->T[4]? =some (.int .i32 (Wd.int ⟨false,false,false,n+1⟩))->n+1<=131072->KS ty F L O t aX ⟨false,false,false,n+1⟩ z w->
 bS prog ty F i ⟨.uc,false,Z,1⟩ z O (G ((base 249).at ⟨T,[]⟩ [.code Tf,.inLoop Tf,.inBlock 0]) (p.at g (aT d (h::f)::o)::y)) w:=by
 induction aX using Nat.strongRecOn with
 |_ aX ih=>
 intro T n z w hs h0 h4 hn a;obtain⟨J,rfl⟩:=Zg hs h0 h4;clear hs h0 h4;obtain⟨X,hX⟩:∃X,X=Tf:=⟨_,rfl⟩;rw[show([.code Tf,.inLoop Tf,.inBlock 0]:List Item)=[.code Tf,.inLoop X,.inBlock 0]by rw[hX]];simp only[Tf,tY,TU,lop,blk,aG,RD,f249,fq];have j:=λl k v=>zu (l:=l) (k:=k) (v:=v) (n:=n+1) Q0;have jI:=λl k v=>AV (l:=l) (k:=k) (v:=v) (n:=n+1);have qM:=VJ hn;have ae9:=λl k v=>QH (l:=l) (k:=k) (v:=v) (n:=n) Q0;have D:(((n+1:Nat):Int)==0)=false:=beq_false_of_ne Q0;have R:=dZ (i:=i) (γ:=⟨.uc,false,Z,1⟩) (ty:=ty) (aX:=aX) (old:=⟨false,false,false,n+1⟩) K hst;have nums:=fu j<|fu jI<|fu qM<|fu ae9 D;refine R.run (g':=?_) a ?_;clear a;intro z u a;clear nums;refine bS.cas K rfl rfl rfl ⟨false,false,false,n+1⟩ ⟨false,true,false,n⟩ (λbF u s r M Xr hf=>⟨_,.us,.cas,stepG_cas_hit rfl rfl Y0 rfl func246 ni nu ny .i32 nC O1 rfl rfl M.mu M.fm,λc h1 h2=>?_⟩) (λbF u W s r M V Xr hf=>⟨_,stepG_cas_miss rfl rfl Y0 rfl func246 ni nu ny .i32 nC O1 rfl rfl M.mu M.fm (λe=>V (Wd.int_inj e)),λc h1=>?_⟩)
 .replace a:=(R.rely _ _ _ _ a r).q.xO (γ:=⟨.us,false,Z,1⟩) hst hO (Eff.set (.inl rfl) _) (M.setMu ⟨false,true,false,n⟩);generalize u.setCell L.mu _=u1 at a ⊢;clear R r M;have R:=kF (i:=i) (γ:=⟨.us,false,Z,1⟩) (ty:=ty) K hst
  walk_nrm
  refine R.run (g':=?_) a ?_;clear a;intro z u a;refine bS.wake K rfl rfl rfl rfl rfl (λbF u W s r M ZV=>⟨_,(stepG_semrelease rfl rfl Y0 rfl func263 acg ach aci acj (ad:=L.sm) M5 M.sm M.fs).trans (by rw[LX _ ZV]),rfl,λc=>?_⟩);replace a:=(R.rely _ _ _ _ a r).xO (γ:=⟨.done,false,Z,1⟩) hst hO (Eff.set (.inr rfl) _) (M.setSm (s+1));generalize u.setCell L.sm _=u1 at a ⊢;clear R r M;have R:=kF (i:=i) (γ:=⟨.done,false,Z,1⟩) (ty:=ty) K hst
  walk_nrm
  have hlv:=func249;refine R.run (g':=?_) a ?_;clear a;intro z u a;clear hlv;exact hk _ _ a
 .have hlt:c<aX:=by have:=(R.rely _ _ _ _ a r).miss M V;omega
  have I:=(R.rely _ _ _ _ a r).q;clear a R;obtain⟨E,ae5⟩:∃E,E=c:=⟨_,rfl⟩;have ab5:E<aX:=by omega
  have a:KS ty F L O t E W c u:=⟨I,Q0,λ_=>⟨s,M⟩⟩;have R:=dZ (i:=i) (γ:=⟨.uc,false,Z,1⟩) (ty:=ty) (aX:=E) (old:=W) K hst;clear ae5 h1 hlt M I r
  walk_nrm
  refine R.run (g':=?_) a ?_;clear a;intro z u a;refine bS.look K rfl rfl rfl (λXt u r W2 s M U Zd=>?_);have A:=R.rely _ _ _ _ a r;clear a R r;obtain⟨l2,k2,v2,N⟩:=W2;by_cases I:N=0\/l2=true\/k2=true\/v2=true
  .refine⟨_,u,#[],.done,.leave I,bV rfl rfl Y0 rfl O1 M.mu RF,.refl u,M,X0,rfl,λQ Y=>?_⟩;have a:=A.q;clear A M;have R:=kF (i:=i) (γ:=⟨.done,false,Z,1⟩) (ty:=ty) K hst;have j:=λl k v=>zu (l:=l) (k:=k) (v:=v) (n:=N) (bY U Q0);have jI:=λl k v=>AV (l:=l) (k:=k) (v:=v) (n:=N);subst hX
   walk_nrm
   simp only[Tf,tY,lop,blk,aG,RD,f249,fq];by_cases hz:N=0
   .subst hz;clear I;have nums:=fu j jI;have hlv:=func249;refine R.run (g':=?_) a ?_;clear a;intro z u a;clear hlv;clear nums;exact hk _ _ a
   .have D:((N:Int)==0)=false:=beq_false_of_ne Q0;have afa:=VK (I.resolve_left hz);clear I;have nums:=fu j<|fu jI<|fu D afa;have hlv:=func249;refine R.run (g':=?_) a ?_;clear a;intro z u a;clear hlv;clear nums;exact hk _ _ a
  .obtain⟨h1,h2,h3,h4⟩:N≠0/\l2=false/\k2=false/\v2=false:=by simp at I;exact I
   subst h2 h3 h4;obtain⟨m,rfl⟩:∃m,N=m+1:=⟨N-1,Q0⟩;refine⟨_,u,#[],.uc,.stay,bV rfl rfl Y0 rfl O1 M.mu RF,.refl u,M,X0,rfl,λQ Y=>?_⟩;obtain⟨x,hκ6⟩:∃x,x=Q:=⟨_,rfl⟩;have hle:=A.k;have S:x<aX:=by omega
   have a:KS ty F L O t x ⟨false,false,false,m+1⟩ Q u:=⟨A.q,Q0,λ_=>⟨s,M⟩⟩;have R:=dZ (i:=i) (γ:=⟨.uc,false,Z,1⟩) (ty:=ty) (aX:=x) (old:=⟨false,false,false,m+1⟩) K hst;clear A M hκ6 Y I hle
   walk_nrm
   refine R.run (g':=?_) a ?_;clear a;intro z u a;rw[hX];refine ih x S _ m _ _ ?_ ?_ ?_ U a<;>rfl
theorem RG(q:F.lk=some L)(hst:FC F Z O t)(x:∀b,O b\/F.Sh b\/Z b\/b=F.Wg\/b=F.C->b≠L.B)(z:∀j u,KQ ty F L O t u->bS prog ty F i ⟨.done,false,Z,1⟩ j O (G (p.at (g.put ((d[h]?).bind (·.dst)) (.tuple #[])) (aT d f::o)) y) u)(n:Nat)(A:n+1<=131072)(aX j:Nat)(w:au)(m:KS ty F L O t aX ⟨false,false,false,n+1⟩ j w):bS prog ty F i ⟨.uc,false,Z,1⟩ j O (G ((base 249).at ⟨#[.pointer (some L.mu),.int .i32 (Wd.int ⟨false,false,false,n+1⟩),ak,ak,ak,ak,ak,ak,ak,ak,ak,ak,ak,ak,ak,ak,ak,ak,ak,ak,ak,ak,ak,ak,ak,ak,ak,ak,ak,ak,ak,ak,ak,ak,ak,ak,ak,ak,ak,ak,ak,ak,ak],[]⟩ [.code (f249.body.getD .skip)]) (p.at g (aT d (h::f)::o)::y)) w:=by have s:=JV q hst x z aX;obtain⟨X,r⟩:∃X,X=Tf:=⟨_,rfl⟩;have a:=λl k v=>zo (l:=l) (k:=k) (v:=v) (n:=n+1) Q0;have c:=λl k v=>zq (l:=l) (k:=k) (v:=v) (n:=n+1) Q0;have e:=λk v=>JR (k:=k) (v:=v) (n:=n+1) Q0;rw[show f249.body.getD .skip=tY from rfl,Zf,<-r];simp only[tY,aG,bZ,RD,acn,f249,fq];have R:=dZ (i:=i) (γ:=⟨.uc,false,Z,1⟩) (ty:=ty) (aX:=aX) (old:=⟨false,false,false,n+1⟩) q hst;have nums:=fu a<|fu c e;refine R.run (g':=?_) m ?_;clear m;intro j u m;clear nums;rw[r];refine s _ n _ _ ?_ ?_ ?_ A m<;>rfl
theorem Ez:(f249.name== "runtime.NumGoroutine")=false:=by kernel_rfl
theorem Od:(f235.name== "runtime.NumGoroutine")=false:=by kernel_rfl
theorem Zh:(prog.funcs[(base 235).fn]?).any (·.norace)=true:=by kernel_rfl
theorem afb:(f209.name== "runtime.NumGoroutine")=false:=by kernel_rfl
theorem afc:f209.body.isNone=true:=by kernel_rfl
theorem afd:Extern.findNext f209=none:=by kernel_rfl
theorem afe:Extern.find f209=some (Extern.Race.marked .releaseMerge):=by kernel_rfl
noncomputable def rQ:Code:=f235.body.getD .skip
noncomputable def RH:Code:=aG (aG (aG rQ))
theorem VL:rQ=.seq (bZ rQ) (.seq (bZ (aG rQ)) (.seq (bZ (aG (aG rQ))) RH)):=by kernel_rfl
theorem Zi(a:n<=131073):IntKind.i32.wrap (Wd.int ⟨true,k,v,n⟩+(-1))=Wd.int ⟨false,k,v,n⟩:=by have h:=Wd.wO ⟨false,k,v,n⟩;rw[show Wd.int ⟨true,k,v,n⟩+(-1)=((8*n+Wd.c ⟨false,k,v,n⟩:Nat):Int)by simp only[Wd.int,Wd.c,Bool.toNat_true,Bool.toNat_false];omega,wrap32 _ Q0,Wd.int_eq]
theorem RI(h:k=true\/v=true\/n≠0):(Wd.int ⟨false,k,v,n⟩!=0)=true:=by
 refine bne_iff_ne.2 ?_;simp only[Wd.int];obtain rfl|rfl|h:=h
 .simp;omega
 .simp;omega
 .omega
theorem Hr(C:F.lk=some L)(R:Ei ty F i ⟨.hold,true,Z,0⟩ O A)(X:∀j u,A j u->∃W s,MuAt L W s u)(S:∀j u,A j u->Rls prog ty F L i Z O u (G (p.at (g.put ((d[h]?).bind (·.dst)) (.tuple #[])) (aT d f::o)) y))(j:Nat)(w:au)(a:A j w):
 bS prog ty F i ⟨.hold,true,Z,0⟩ j O (G ((base 235).at ⟨#[.pointer (some L.mu),ak,ak,ak,ak,ak,ak,ak,ak,ak,ak,ak,ak,ak,ak,ak,ak,ak,ak,ak,ak],[]⟩ [.code (f235.body.getD .skip)]) (p.at g (aT d (h::f)::o)::y)) w:=by
 obtain⟨V,hV⟩:∃V,V=RH:=⟨_,rfl⟩;rw[show f235.body.getD .skip=rQ from rfl,VL,<-hV];simp only[rQ,aG,bZ,f235,fq];refine R.run (g':=?_) a ?_;clear a;intro j u a;refine R.step a rfl ?_;clear a;intro j u a;obtain⟨W9,s9,D⟩:=X _ _ a;rw[bV rfl rfl Y0 rfl O1 D.mu Zh];simp only[goes_go];refine⟨Z0,by intro e N;simp at N,?_⟩;clear D
 walk_nrm
 refine R.run (g':=?_) a ?_;clear a;intro j u a;refine R.step a rfl ?_;clear a;intro j u a;obtain⟨W9,s9,D⟩:=X _ _ a;refine goes_oper_k rfl rfl Y0 (λK hK=>?_);have hcv:=run_convert_to_unsafe (P:=prog) underlying297 underlying229 muLib.room_tIMutex D.mu;have hce:=λes=>events_convert_to_unsafe (P:=prog) underlying297 underlying229 muLib.room_tIMutex D.mu es;go_simp;refine hK _ _ ⟨Z0,?_,?_⟩
 .intro e N;have hm:=mem_listed N;simp[go_sem, *]at hm
 clear hK K hcv hce D;refine R.run (g':=?_) a ?_;clear a;intro j u a;refine .mk (.rel C rfl rfl rfl rfl λY u r=>?_);obtain⟨Gd,B,O',Fx,j1,j2,j3,j4,hst,U,Xh,hk⟩:=S _ _ (R.rely _ _ _ _ a r);refine⟨_,Gd,B,O',stepG_markAt .releaseMerge X0 rfl rfl Y0 rfl func209 afb afc afd afe (ad:=L.mu) O1,j1,j2,j3,j4,?_⟩;clear a R r j1 j2 j3 j4 S X;have a:=Xh;clear Xh;have z:∀(T:Array aA)(j:Nat)(u:au),KQ ty F L O' Fx u->bS prog ty F i ⟨.done,false,λb=>Z b\/B b,1⟩ j O' (G ((base 235).at ⟨T,[]⟩ [.code V]) (p.at g (aT d (h::f)::o)::y)) u:=by
  intro T j u a;rw[hV];simp only[RH,rQ,aG,f235,fq];have R:=kF (i:=i) (γ:=⟨.done,false,λb=>Z b\/B b,1⟩) (ty:=ty) C hst;refine R.run (g':=?_) a ?_;clear a;intro j u a;refine bS.en rfl rfl λY u r=>⟨_,stepG_mark0 .enable X0 rfl rfl Y0 rfl func173 YT YU YV YW,?_⟩;replace a:=R.rely _ _ _ _ a r;clear r R
  walk_nrm
  have R:=kF (i:=i) (γ:=⟨.done,false,λb=>Z b\/B b,0⟩) (ty:=ty) C hst;have hlv:=func235;refine R.run (g':=?_) a ?_;clear a;intro j u a;clear hlv;exact hk _ _ a
 have R:=kF (i:=i) (γ:=⟨.hold,false,λb=>Z b\/B b,0⟩) (ty:=ty) C hst
 walk_nrm
 refine R.run (g':=?_) a ?_;clear a;intro j u a;refine bS.CK rfl rfl λY u r=>⟨_,stepG_mark0 .disable X0 rfl rfl Y0 rfl func171 ab0 ab1 ab2 ab3,?_⟩;replace a:=R.rely _ _ _ _ a r;clear r R
 walk_nrm
 have R:=kF (i:=i) (γ:=⟨.hold,false,λb=>Z b\/B b,1⟩) (ty:=ty) C hst;refine R.run (g':=?_) a ?_;clear a;intro j u a;refine .mk (.lock C rfl rfl rfl λY u r W s M Xr ZV hf=>?_);replace a:=R.rely _ _ _ _ a r;clear R r;obtain⟨l,k,v,n⟩:=W;obtain rfl:l=true:=hf;have hn1:n<=131072:=Xr;clear Xr;have c:=Zi (k:=k) (v:=v) (n:=n) Q0;cases v with
 |true=>
  have q:=RI (k:=k) (v:=true) (n:=n) (.inr (.inl rfl));refine⟨_,_,_,.us,⟨false,k,true,n⟩,s,.aaS,stepG_add_atomic rfl rfl Y0 rfl func248 addN JJ JK .i32 JL (ad:=L.mu) (v:=Wd.int ⟨true,k,true,n⟩) (d:= -1) O1 rfl M.mu M.fm,Eff.set (.inl rfl) _,by rw[c];exact M.setMu ⟨false,k,true,n⟩,qx _ (.inl rfl),rfl,.inl (aS _),λE I J=>?_⟩;rw[c];replace a:=a.xO (γ:=⟨.us,false,λb=>Z b\/B b,1⟩) hst U (Eff.set (.inl rfl) _) (M.setMu ⟨false,k,true,n⟩);generalize u.setCell L.mu _=u1 at a ⊢;clear M c;have R:=kF (i:=i) (γ:=⟨.us,false,λb=>Z b\/B b,1⟩) (ty:=ty) C hst
  walk_nrm
  have nums:=q;refine R.run (g':=?_) a ?_;clear a;intro j u a;clear nums;refine R.step a rfl ?_;clear a;intro j u a;refine goes_call rfl rfl Y0 rfl func249 Ez rfl ⟨Z0,by intro e N;simp at N,?_⟩;walk_nrmf f249;refine Rz C hst U (λj u a=>?_) k n Q0 _ _ a;have R:=kF (i:=i) (γ:=⟨.done,false,λb=>Z b\/B b,1⟩) (ty:=ty) C hst
  walk_nrm
  refine R.run (g':=?_) a ?_;clear a;intro j u a;exact z _ _ _ a
 |false=>
  by_cases hq:n=0\/k=true
  .by_cases hz:n=0/\k=false
   .obtain⟨rfl,rfl⟩:=hz;have q:(Wd.int ⟨false,false,false,0⟩!=0)=false:=by simp[Wd.int]
    refine⟨_,_,_,.done,⟨false,false,false,0⟩,s,.XY hq,stepG_add_atomic rfl rfl Y0 rfl func248 addN JJ JK .i32 JL (ad:=L.mu) (v:=Wd.int ⟨true,false,false,0⟩) (d:= -1) O1 rfl M.mu M.fm,Eff.set (.inl rfl) _,by rw[c];exact M.setMu ⟨false,false,false,0⟩,qx _ (.inl rfl),rfl,.inl (aS _),λE I J=>?_⟩;rw[c];replace a:=a.xO (γ:=⟨.done,false,λb=>Z b\/B b,1⟩) hst U (Eff.set (.inl rfl) _) (M.setMu ⟨false,false,false,0⟩);generalize u.setCell L.mu _=u1 at a ⊢;clear M c;have R:=kF (i:=i) (γ:=⟨.done,false,λb=>Z b\/B b,1⟩) (ty:=ty) C hst
    walk_nrm
    have nums:=q;refine R.run (g':=?_) a ?_;clear a;intro j u a;clear nums;exact z _ _ _ a
   .have hne:k=true\/False\/n≠0:=by
     cases k
     .exact .inr (.inr λe=>hz ⟨e,rfl⟩)
     .exact .inl rfl
    have q:=RI (k:=k) (v:=false) (n:=n) (hne.imp id λx=>.inr (x.elim False.elim id));refine⟨_,_,_,.done,⟨false,k,false,n⟩,s,.XY hq,stepG_add_atomic rfl rfl Y0 rfl func248 addN JJ JK .i32 JL (ad:=L.mu) (v:=Wd.int ⟨true,k,false,n⟩) (d:= -1) O1 rfl M.mu M.fm,Eff.set (.inl rfl) _,by rw[c];exact M.setMu ⟨false,k,false,n⟩,qx _ (.inl rfl),rfl,.inl (aS _),λE I J=>?_⟩;rw[c];replace a:=a.xO (γ:=⟨.done,false,λb=>Z b\/B b,1⟩) hst U (Eff.set (.inl rfl) _) (M.setMu ⟨false,k,false,n⟩);clear hz hne;generalize u.setCell L.mu _=u1 at a ⊢;clear M c;have R:=kF (i:=i) (γ:=⟨.done,false,λb=>Z b\/B b,1⟩) (ty:=ty) C hst
    walk_nrm
    have nums:=q;refine R.run (g':=?_) a ?_;clear a;intro j u a;clear nums;refine R.step a rfl ?_;clear a;intro j u a;refine goes_call rfl rfl Y0 rfl func249 Ez rfl ⟨Z0,by intro e N;simp at N,?_⟩;walk_nrmf f249;refine JU C hst U (λj u a=>?_) k n Q0 hq _ _ a;have R:=kF (i:=i) (γ:=⟨.done,false,λb=>Z b\/B b,1⟩) (ty:=ty) C hst
    walk_nrm
    refine R.run (g':=?_) a ?_;clear a;intro j u a;exact z _ _ _ a
  .obtain⟨h1,rfl⟩:n≠0/\k=false:=by simp at hq;exact hq
   obtain⟨m,rfl⟩:∃m,n=m+1:=⟨n-1,Q0⟩;have q:=RI (k:=false) (v:=false) (n:=m+1) (.inr (.inr Q0));refine⟨_,_,_,.uc,⟨false,false,false,m+1⟩,s,.aaT,stepG_add_atomic rfl rfl Y0 rfl func248 addN JJ JK .i32 JL (ad:=L.mu) (v:=Wd.int ⟨true,false,false,m+1⟩) (d:= -1) O1 rfl M.mu M.fm,Eff.set (.inl rfl) _,by rw[c];exact M.setMu ⟨false,false,false,m+1⟩,qx _ (.inl rfl),rfl,.inl (aS _),λE I J=>?_⟩;rw[c];replace a:=a.xO (γ:=⟨.uc,false,λb=>Z b\/B b,1⟩) hst U (Eff.set (.inl rfl) _) (M.setMu ⟨false,false,false,m+1⟩);obtain⟨Q,aff⟩:∃Q,Q=E:=⟨_,rfl⟩;replace a:KS ty F L O' Fx Q ⟨false,false,false,m+1⟩ E _:=⟨a,Q0,λ_=>⟨s,M.setMu _⟩⟩;generalize u.setCell L.mu _=u1 at a ⊢;clear M c I J aff hq;have R:=dZ (aX:=Q) (old:=⟨false,false,false,m+1⟩) (i:=i) (γ:=⟨.uc,false,λb=>Z b\/B b,1⟩) (ty:=ty) C hst
   walk_nrm
   have nums:=q;refine R.run (g':=?_) a ?_;clear a;intro j u a;clear nums;refine R.step a rfl ?_;clear a;intro j u a;refine goes_call rfl rfl Y0 rfl func249 Ez rfl ⟨Z0,by intro e N;simp at N,?_⟩;walk_nrmf f249;refine RG C hst U (λj u a=>?_) m hn1 _ _ _ a;have R:=kF (i:=i) (γ:=⟨.done,false,λb=>Z b\/B b,1⟩) (ty:=ty) C hst
   walk_nrm
   refine R.run (g':=?_) a ?_;clear a;intro j u a;exact z _ _ _ a
theorem JW(j:F.lk=some L)(R:Ei ty F i ⟨.hold,true,Z,0⟩ O A)(m:∀a u,A a u->∃W s,MuAt L W s u)(hc:c.mode=.returning)(r:∀a u,A a u->Rls prog ty F L i Z O u (G c y))(a:Nat)(w:au)(h:A a w):
 bS prog ty F i ⟨.hold,true,Z,0⟩ a O (G ((baseD 222).at ⟨#[.pointer (some L.mu),ak,ak,ak,ak,ak],[]⟩ [.code (f222.body.getD .skip)]) (c::y)) w:=by
 simp only[f222,fq];refine R.run (g':=?_) h ?_;clear h;intro a u h;refine R.step h rfl ?_;clear h;intro a u h;refine goes_call rfl rfl Y0 rfl func235 Od rfl ⟨Z0,by intro e f;simp at f,?_⟩;walk_nrmf f235;refine Hr j R m (λa u h=>?_) _ _ h;obtain⟨p,g,q,Fx,k,l,n,o,hst,v,d,x⟩:=r _ _ h;refine⟨p,g,q,Fx,k,l,n,o,hst,v,d,λa u h=>?_⟩;clear k l n o d R r m;have R:=kF (i:=i) (γ:=⟨.done,false,λb=>Z b\/g b,0⟩) (ty:=ty) j hst
 walk_nrm
 refine R.run (g':=?_) h ?_;clear h;intro a u h;refine R.step h rfl ?_;clear h;intro a u h;rw[stepG_leave_deferred rfl rfl func222 (results_none rfl _ _ _) (events_results_none rfl _ _) hc];simp only[goes_go];refine⟨Z0,by intro e f;simp at f,?_⟩;exact x _ _ h
