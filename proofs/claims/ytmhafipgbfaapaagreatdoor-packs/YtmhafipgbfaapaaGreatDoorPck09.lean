import Derived.Test.YtmhafipgbfaapaaGreatDoorAbb0
import Derived.Test.YtmhafipgbfaapaaGreatDoorAbb1
import Derived.Test.YtmhafipgbfaapaaGreatDoorPck01
import Derived.Test.YtmhafipgbfaapaaGreatDoorPck08
set_option maxRecDepth 100000
set_option maxHeartbeats 8000000
namespace Go.Proofs
open Go.Proofs.Tryz
theorem eX:∀{w a:Go.World}{b:Nat},a.heap[b]? =w.heap[b]? ->∀(o:Nat),a.cell? {block:=b,off:=o}=w.cell? {block:=b,off:=o}:=@Go.ConcN.cell_of_block
end Go.Proofs
set_option linter.unusedVariables false
set_option linter.unusedSimpArgs false
set_option linter.unusedSectionVars false
namespace Go.Proofs.YtmhafipgbfaapaaGreatDoor
section
open Go.Proofs.Tryz
open Go Go.Conc Go.ConcN Go.RowKit Go.Conc.Lib Go.ConcR.Gen Go.ConcN.Gen Go.Proofs.YtmhafipgbfaapaaGreatDoor.Ren
open Go.ConcR (KK WgAt wgBlock stA smA rd wr mk Payload DC0)
variable {V : au -> Prop} {O jf : aD} {P : Program} {Post : aA -> au -> Prop} {a : Act} {b d i : Nat} {fn : FuncId} {g : dN} {o : Obj} {t E : bf} {v v' : aA} {w x : au}
section
variable {o : Oper}
theorem afD:(f118.name== "runtime.NumGoroutine")=false:=by kernel_rfl
noncomputable def xX:Code:=match f58.body with|some (.seq _ (.seq _ (.seq (.seq _ (.block _ (.loop c))) _)))=>c|_=>.skip
noncomputable def EB:Code:=match f58.body with|some (.seq _ (.seq _ (.seq _ c)))=>c|_=>.skip
theorem listed_nil(h:(execOp a.eval o).events P w #[]=#[]):listed P fn a o w=#[]:=by unfold listed;rw[h];simp[seen]
end
section
variable [Payload] [Zb] {M : Md} {n : Nat} {F : Ph}
structure SK(F:Ph)(wc:Nat)(O:aD)(Fk:au->Prop):Prop where
 st:∀jf:aD,(∀b,O b->jf b)->Il F jf Fk
 sb:∀w,Fk w->∀b,b=Zb.z\/F.Sh b->b<w.heap.size
 cb:∀w,Fk w->F.C<w.heap.size
 lb:∀w,Fk w->∀L,F.lk=some L->L.B<w.heap.size
 wk:∀j,j<F.n->∀(wp fc sc:Nat)(u:au),Fk u->(∀b,b=sc\/b=wp\/b=fc->b<u.heap.size/\b≠F.C/\b≠F.Wg/\¬F.Sh b/\∀L,F.lk=some L->b≠L.B)->u.cell? (aB wp 0)=some (aJ F.Wg 0)->
  u.cell? (aB fc 0)=some (.func (.func 119) #[] #[aJ wc 0,aJ sc 0])->u.cell? (aB sc 0)=some (ah j)->WgLive jH.tWg F.Wg u->PayAt F.C F.n u->(∀L,F.lk=some L->∃W s,MuAt L W s u)->
  ∀κ,bS prog jH.tWg F j ⟨.pre,false,λ_=>False,0⟩ κ (λb=>b=sc\/b=wp\/b=fc) (born prog (rO wp fc)) u
theorem RS{u:au}(h:Kn E F O V u)(a:Il F O V)(s:∀b,b=Zb.z\/F.Sh b->b<u.heap.size)
 (k:Kn E F (λb=>O b\/b=u.heap.size) (λw=>V w/\w.cell? (aB u.heap.size 0)=some v) (u.alloc (.cells #[v] t))->GE P E Post M jf g (u.alloc (.cells #[v] t))):GE P E Post M jf g (u.alloc (.cells #[v] t)):=k (h.new a s v t)
theorem ZC{u:au}(h:Kn E F O V u)(s:Il F O V)(c:∀b,b=Zb.z\/F.Sh b->b<u.heap.size)
 (k:Kn E F (λb=>O b\/b=u.heap.size) (λw=>V w/\w.heap[u.heap.size]? =some (.cells #[v] t)) (u.alloc (.cells #[v] t))->Il F (λb=>O b\/b=u.heap.size) (λw=>V w/\w.heap[u.heap.size]? =some (.cells #[v] t))->GE P E Post M jf g (u.alloc (.cells #[v] t))):GE P E Post M jf g (u.alloc (.cells #[v] t)):=
 let a:=h.new s c v t
 k ⟨⟨a.fx.1,heap_alloc_new u _⟩,a.live,a.bd⟩ (λw e r x=>⟨s w e ⟨r.size,λb d=>r.keep b (d.imp .inl id),r.os⟩ x.1,(r.keep _ (.inl (.inr rfl))).trans x.2⟩)
theorem V8{Post:aA->au->Prop}{F:Ph}{O:aD}{V:Nat}{Fk:au->Prop}{cs:List Frame}(q:SK F V O Fk)
 (hW:∀b,O b\/b=Zb.z\/F.Sh b->b≠F.Wg)(hOC:∀b,O b->b≠F.C){j:Nat}(hj:j<F.n){s:Nat}(Y:¬O s)(I:s≠F.Wg)(Q:s≠F.C)(R:¬F.Sh s/\∀L,F.lk=some L->s≠L.B){D:Frame}{A:Act}{o:Array Oper}{J:Nat}{i:List Nat}{M:List Item}
 (hT:∀w,Kn jH.tWg F O (Fk) w->GE prog jH.tWg Post (.opn F (j+1) 0 F.n 0) O (G (D.at (A.put ((o[J]?).bind (·.dst)) (.tuple #[])) (aT o i::M)) cs) w)
 (w:au)(a:Kn jH.tWg F (λb=>O b\/b=s) (λw=>Fk w/\w.cell? (aB s 0)=some (ah j)) w):
 GE prog jH.tWg Post (.opn F j 0 F.n 0) (λb=>O b\/b=s) (G ((base 118).at ⟨#[aJ F.Wg 0,.func (.func 119) #[] #[aJ V 0,aJ s 0],ak,ak,ak,ak,ak],[]⟩ [.code (f118.body.getD .skip)]) (D.at A (aT o (J::i)::M)::cs)) w:=by
 have hst:Il F (λb=>O b\/b=s) (λw=>Fk w/\w.cell? (aB s 0)=some (ah j)):=λw u r h=>⟨q.st _ (λ_ h=>.inl h) w u r h.1,(eX (r.keep s (.inl (.inr rfl))) 0).trans h.2⟩;have S:∀{w:au},Fk w->∀b,b=Zb.z\/F.Sh b->b<w.heap.size:=λh b k=>q.sb _ h b k;simp only[f118,fq];refine GE.run (g':=?_) a (λu a=>?_);refine GE.Gz rfl (λl g=>?_);replace a:=a.rely hst rfl g;clear g;refine goes_oper_k rfl rfl Y0 (λK E=>?_);go_simp;refine E _ _ ⟨_,qp a.bd _,?_,?_⟩
 .intro e y;have N:=bL y;simp[go_sem, *]at N
 clear E K;have T:l.heap.size≠F.Wg:=by have:=a.Yh;omega
 have Z:l.heap.size≠F.C:=by have:=q.cb _ a.fx.1;omega
 have u1S:¬F.Sh l.heap.size/\∀L,F.lk=some L->l.heap.size≠L.B:=⟨λh=>by have:=q.sb _ a.fx.1 _ (.inr h);omega,λL X e=>by have:=q.lb _ a.fx.1 L X;omega⟩;have u1O:∀b,(O b\/b=s)->b≠l.heap.size:=λb k=>by have:=a.bd b k;omega
 refine RS a hst (λb k=>(S a.fx.1) b k) (v:=aJ F.Wg 0) (λp=>?_);replace a:=p;clear p;replace hst:=hst.new l.heap.size (aJ F.Wg 0);refine GE.Gz rfl (λm g=>?_);replace a:=a.rely hst rfl g;clear g;refine goes_oper_k rfl rfl Y0 (λK E=>?_);go_simp;refine E _ _ ⟨_,qp a.bd _,?_,?_⟩
 .intro e y;have N:=bL y;simp[go_sem, *]at N
 clear E K;have U:m.heap.size≠F.Wg:=by have:=a.Yh;omega
 have u2C:m.heap.size≠F.C:=by have:=q.cb _ a.fx.1.1;omega
 have u2S:¬F.Sh m.heap.size/\∀L,F.lk=some L->m.heap.size≠L.B:=⟨λh=>by have:=q.sb _ a.fx.1.1 _ (.inr h);omega,λL X e=>by have:=q.lb _ a.fx.1.1 L X;omega⟩;have u2O:∀b,((O b\/b=s)\/b=l.heap.size)->b≠m.heap.size:=λb k=>by have:=a.bd b k;omega
 refine RS a hst (λb k=>(S a.fx.1.1) b k) (v:=.func (.func 119) #[] #[aJ V 0,aJ s 0]) (λp=>?_);replace a:=p;clear p;replace hst:=hst.new m.heap.size (.func (.func 119) #[] #[aJ V 0,aJ s 0]);refine GE.run (g':=?_) a (λu a=>?_)
 (refine GE.goes a.bd rfl (λu g=>?_);replace a:=a.rely hst rfl g;clear g
  refine goes_oper_k rfl rfl Y0 (λK E=>?_);have hc:=a.fx.1.2;go_simp;refine E _ _ ⟨Z0,?_,?_⟩
  .intro e y;have N:=bL y;simp[go_sem, *]at N;subst N;exact .inl ⟨rfl,.inl (.inl (.inr rfl))⟩
  clear E K hc)
 have W:=@addPos _ _ jH prog Post F (λb=>((O b\/b=s)\/b=l.heap.size)\/b=m.heap.size) (λw=>((Fk w/\w.cell? (aB s 0)=some (ah j))/\w.cell? (aB l.heap.size 0)=some (aJ F.Wg 0))/\w.cell? (aB m.heap.size 0)=some (.func (.func 119) #[] #[aJ V 0,aJ s 0]));simp only[body_add,addFn,fq]at W
 (refine GE.goes a.bd rfl (λu g=>?_);replace a:=a.rely hst rfl g;clear g;refine goes_call rfl rfl Y0 rfl Fp.f_add (nm_add jH) rfl ⟨Z0,by intro e y;simp at y,?_⟩;walk_nrmf addFn)
 refine W Fp hst ?_ hj ?_ _ a
 .rintro b ((((h|rfl)|rfl)|rfl)|h)
  .exact hW b (.inl h)
  .exact I
  .exact T
  .exact U
  .exact hW b (.inr h)
 clear a W;intro w a
 walk_nrm
 refine GE.run (g':=?_) a (λu a=>?_);refine .mk (.spawn rfl λu g=>?_);replace a:=a.rely hst rfl g;clear g;have hw:=q.wk j hj l.heap.size m.heap.size s u a.fx.1.1.1 (by
  rintro b (rfl|rfl|rfl)
  .exact⟨a.bd _ (.inl (.inl (.inr rfl))),Q,I,R⟩
  .exact⟨a.bd _ (.inl (.inr rfl)),Z,T,u1S⟩
  .exact⟨a.bd _ (.inr rfl),u2C,U,u2S⟩) a.fx.1.2 a.fx.2 a.fx.1.1.2 a.live
 apply Exists.intro;refine⟨born prog (rO l.heap.size m.heap.size),λb=>b=s\/b=l.heap.size\/b=m.heap.size,O,?_,?_,?_,hw,?_⟩
 .exact(stepG_spawn (d:=rO l.heap.size m.heap.size) (w':=u) (f:=.func 168) (c:=#[aJ l.heap.size 0,aJ m.heap.size 0]) rfl rfl Y0 (by simp[go_sem,rO,Deferred.ofValue,Instr.makeFunc]) rfl).trans (congrArg (λx=>GStep.spawn _ _ _ x) (listed_nil (by simp[go_sem,Instr.makeFunc])))
 .rintro b (rfl|rfl|rfl)
  .exact .inl (.inl (.inr rfl))
  .exact .inl (.inr rfl)
  .exact .inr rfl
 .intro b k;refine⟨.inl (.inl (.inl k)),?_⟩;rintro(rfl|rfl|rfl)
  .exact Y k
  .exact u1O _ (.inl k) rfl
  .exact u2O _ (.inl (.inl k)) rfl
 replace a:Kn jH.tWg F O (Fk) u:=⟨a.fx.1.1.1,a.live,λb k=>a.bd b (.inl (.inl (.inl k)))⟩;replace hst:=q.st O (λ_ h=>h);refine GE.run (g':=?_) a (λu a=>?_)
 (refine GE.goes a.bd rfl (λu g=>?_);replace a:=a.rely hst rfl g;clear g;refine goes_leave0 rfl rfl func118 rfl ⟨Z0,by intro e y;simp at y,?_⟩)
 exact hT _ a
theorem ZE{u:au}(h:Kn E F (λb=>O b\/b=n) (λw=>V w/\w.heap[n]? =some (.cells #[v] t)) u)(s:Il F O V)(d:∀b,O b\/b=Zb.z\/F.Sh b->b≠n)(W:n≠F.Wg):Kn E F (λb=>O b\/b=n) (λw=>V w/\w.cell? (aB n 0)=some v') (u.setCell (aB n 0) v'):=by
 have a:=aside_setCell u ⟨n,0,none⟩ v';have r:(u.setCell (aB n 0) v').heap[n]? =some (.cells #[v'] t):=by rw[setCell_eq_setRow u n 0 #[v] t (0,0) v' h.fx.2,setRow_heap u n _ _ t _ h.fx.2];rfl
 refine⟨⟨s _ _ ⟨by rw[a.size];exact aS _,λb c=>a.block b (d b c),.of a.os⟩ h.fx.1,?_⟩,?_,λb c=>by rw[a.size];exact h.bd b c⟩
 .unfold World.cell?;rw[r];rfl
 .obtain⟨st,sm,hw⟩:=h.live;exact⟨st,sm,hw.of_block (a.block _ (Ne.symm W))⟩
theorem Oh{Post:aA->au->Prop}{F:Ph}{O:aD}{wc:Nat}{Fk:au->Prop}{cs:List Frame}{wv:aA}{q:Frame}{m:Act}{p:Array Oper}{x:Nat}{g:List Nat}{y:List Item}(D:SK F wc O Fk)(hn:F.n<=1000000)
 (hW:∀b,O b\/b=Zb.z\/F.Sh b->b≠F.Wg)(hOC:∀b,O b->b≠F.C)
 (hT:∀Q Z vs R u w,Fk u->Joined F O Q Z vs R u->bB (λb=>b=Zb.z) (lM F O Q Z R) u w->GE prog jH.tWg Post (.calm (F.d+F.n)) (lM F O Q Z R) (G (q.at (m.put ((p[x]?).bind (·.dst)) (.tuple #[])) (aT p g::y)) cs) w):
 ∀(r j:Nat),j+r=F.n->∀(t2 t5 t8 t9 E J M N:aA)(w:au),Kn jH.tWg F O (Fk) w->GE prog jH.tWg Post (.opn F j 0 F.n 0) O (G ((base 58).at ⟨#[ah F.n,wv,t2,aJ wc 0,aJ F.Wg 0,t5,ah F.n,ah j,t8,t9,E,J,M,N],[]⟩ [.code xX,.inLoop xX,.inBlock 0,.code EB]) (q.at m (aT p (x::g)::y)::cs)) w:=by
 intro r
 induction r with
 |zero=>
  intro j hj t2 t5 t8 t9 E J M N w c;have hj':j=F.n:=by omega
  subst hj';have hst:=D.st O (λ_ h=>h);simp only[xX,EB,f58];refine GE.run (g':=?_) c (λu c=>?_);have A:=@waitAll _ _ jH prog Post F O (Fk);simp only[body_wait,waitFn,fq]at A
  (refine GE.goes c.bd rfl (λu f=>?_);replace c:=c.rely hst rfl f;clear f;refine goes_call rfl rfl Y0 rfl Fp.f_wait (nm_wait jH) rfl ⟨Z0,by intro e k;simp at k,?_⟩;walk_nrmf waitFn)
  refine A Fp hst hW ?_ _ c;clear c A hst;intro Q Z vs R u w hfx U hr;have c:Qx (lM F O Q Z R) u w:=⟨hr,λb i=>bG (wL U b i) hr.size⟩;have hst:StC:=trivial
  walk_nrm
  refine GE.run (g':=?_) c (λu c=>?_)
  (refine GE.goes c.bd rfl (λu f=>?_);replace c:=c.rely hst rfl f;clear f;refine goes_leave0 rfl rfl func58 rfl ⟨Z0,by intro e k;simp at k,?_⟩)
  exact hT Q Z vs R _ _ hfx U c.o
 |succ r ih=>
  intro j hj t2 t5 t8 t9 E J M N w c;have hlt:j<F.n:=by omega
  have hst:=D.st O (λ_ h=>h);have V:∀{w:au},Fk w->∀b,b=Zb.z\/F.Sh b->b<w.heap.size:=λh b i=>D.sb _ h b i;have ih':=ih (j+1) Q0;clear ih;generalize hI:Item.inLoop xX=I;simp only[xX,EB,f58];refine GE.run (g':=?_) c (λu c=>?_);refine GE.Gz rfl (λl f=>?_);replace c:=c.rely hst rfl f;clear f;refine goes_oper_k rfl rfl Y0 (λK T=>?_);go_simp;refine T _ _ ⟨_,qp c.bd _,?_,?_⟩
  .intro e k;have Y:=bL k;simp[go_sem, *]at Y
  clear T K;have X:l.heap.size≠F.Wg:=by have:=c.Yh;omega
  have u1C:l.heap.size≠F.C:=by have:=D.cb _ c.fx;omega
  have u1L:∀L,F.lk=some L->l.heap.size≠L.B:=λL hL e=>by have:=D.lb _ c.fx L hL;omega
  have u1O:¬O l.heap.size:=λh=>by have:=c.bd _ h;omega
  have W:∀b,O b\/b=Zb.z\/F.Sh b->b≠l.heap.size:=λb i=>by
   obtain i|i:=i
   .have:=c.bd b i;omega
   .have:=V c.fx b i;omega
  refine ZC c hst (V c.fx) (v:=ah 0) (λS s=>?_);replace c:=S;clear S;refine GE.Gz rfl (λu2 f=>?_);replace c:=c.rely s rfl f;clear f;refine goes_oper_k rfl rfl Y0 (λK T=>?_);have hc0:u2.cell? (aB l.heap.size 0)=some (ah 0):=by unfold World.cell?;rw[c.fx.2];rfl
  have hz0:u2.frozen? (aB l.heap.size 0)=false:=by unfold World.frozen?;rw[c.fx.2];rfl
  go_simp;refine T _ _ ⟨_,Qy c.bd (a:=⟨l.heap.size,0,none⟩) (.inr rfl) _,?_,?_⟩
  .intro e k;have Y:=bL k;simp[go_sem, *]at Y;subst Y;exact .inl ⟨rfl,.inl (.inr rfl)⟩
  clear T K hc0 hz0;replace c:=ZE (v':=ah j) c hst W X;replace hst:=hst.new l.heap.size (ah j);clear s;refine GE.run (g':=?_) c (λu c=>?_);have A:=@V8 _ _ Post F O wc Fk;simp only[f118,fq]at A
  (refine GE.goes c.bd rfl (λu f=>?_);replace c:=c.rely hst rfl f;clear f;refine goes_call rfl rfl Y0 rfl func118 afD rfl ⟨Z0,by intro e k;simp at k,?_⟩;walk_nrmf f118)
  refine A D hW hOC hlt u1O X u1C ⟨λh=>W _ (.inr (.inr h)) rfl,u1L⟩ ?_ _ c;clear c A hst;intro w c;have hst:=D.st O (λ_ h=>h);have hwr:IntKind.i64.wrap ((j:Int)+1)=((j+1:Nat):Int):=by rw[IntKind.wrap_i64];omega
  walk_nrm
  refine GE.run (g':=?_) c (λu c=>?_);subst hI;refine GE.run (g':=?_) c (λu c=>?_);exact ih' _ _ _ _ _ _ _ _ _ c
theorem Bg{u:au}(c:∀b,O b->b<u.heap.size)(f:Zb.z<u.heap.size)(h:x.heap=u.heap.push o)(d:x.os=u.os):bB (λb=>b=Zb.z) O u x:=by
 refine⟨by rw[h,Array.size_push];omega,λb a=>?_,.of d⟩;have l:b<u.heap.size:=a.elim (c b) λe=>by rw[e];exact f
 rw[h,oL,av Q0]
def Xv(F:Ph)(O O':aD)(u:au):Prop:=F.n<2147483648/\O F.C/\PayAt F.C F.n u/\(∀b,F.Sh b->b=Zb.z\/(O b/\b≠F.C))/\(∀b,O' b->O b/\b≠F.C/\¬F.Sh b)/\(∀L,F.lk=some L->F.n<=65536/\O L.B/\L.B≠F.C/\¬F.Sh L.B/\¬O' L.B/\MuAt L ⟨false,false,false,0⟩ 0 u/\∃G Z,L.J G Z u/\(∀b,G b->O b/\b≠F.C/\¬F.Sh b/\b≠L.B/\¬O' b/\¬Z b)/\(∀b,Z b->O b/\b≠F.C/\¬F.Sh b/\b≠L.B/\¬O' b))
theorem Mc{u:au}(h:x.heap=u.heap.push o)(a:x.os=u.os)(k:∀y:au,y.heap=u.heap.push o->y.os=u.os->GE P E Post M jf g y):GE P E Post M jf g x:=k x h a
theorem RU(y:g.status=.running)(h:∀u,dU E (.calm d) O w u->(stepG P true g u).goes (λc a s=>∃F b,(∀e∈s,EvM (.calm d) O e)/\
 a.heap=u.heap.push (wgBlock E 0 0)/\(a.os=u.os/\a.output=u.output)/\F.Wg=u.heap.size/\F.d=d/\Xv F O b u/\
 GE P E Post (.opn F 0 0 F.n 0) b c a)):GE P E Post (.calm d) O g w:=by
 refine .mk (.begin y λu z=>?_);have:=h u z;cases f:stepG P true g u with
 |go c a s=>rw[f]at this;obtain⟨F,b,p,q,r,t,v,⟨i,j,k,l,m,o⟩,x⟩:=this;exact⟨c,a,s,F,b,rfl,p,q,r,t,v,i,j,k,l,m,o,x⟩
 |_=>rw[f]at this;exact this.elim
theorem V9{f:FuncId}{y:Array aA}{cs:List Frame}{q:Frame}{l:Act}{p:Array Oper}{s:Nat}{r:List Nat}{v:List Item}(m:Nat->Nat->Ph)(Ol:Nat->Nat->aD)(G0:au->Prop)(X:∀w,G0 w->Zb.z<w.heap.size)(B:∀w u,bB (λb=>b=Zb.z) O w u->G0 w->G0 u)(A:∀Wg c,(m Wg c).Wg=Wg/\(m Wg c).d=d/\(m Wg c).n=n)(hn:n<=1000000)
 (w:au)(hbd:∀b,O b->b<w.heap.size)(hG:G0 w)
 (N:∀c u,G0 u->w.heap.size<=c->c<u.heap.size->(∀b,O b->b<u.heap.size/\b≠c)->Xv (m u.heap.size c) (λb=>O b\/b=c) (Ol u.heap.size c) u)
 (hSK:∀Wg c x,G0 x->w.heap.size<=c->c<Wg->Wg<x.heap.size->(∀b,O b->b<Wg/\b≠c)->x.cell? (aB c 0)=some (.func (.func f) #[] y)->∃Fk,SK (m Wg c) c (Ol Wg c) Fk/\Fk x/\(∀b,Ol Wg c b\/b=Zb.z\/(m Wg c).Sh b->b≠Wg)/\(∀b,Ol Wg c b->b≠(m Wg c).C/\b<x.heap.size)/\∀Gx Zx vs Os u w',Fk u->Joined (m Wg c) (Ol Wg c) Gx Zx vs Os u->bB (λb=>b=Zb.z) (lM (m Wg c) (Ol Wg c) Gx Zx Os) u w'->GE prog jH.tWg Post (.calm (d+n)) (lM (m Wg c) (Ol Wg c) Gx Zx Os) (G (q.at (l.put ((p[s]?).bind (·.dst)) (.tuple #[])) (aT p r::v)) cs) w'):
 GE prog jH.tWg Post (.calm d) O (G ((base 58).at ⟨#[ah n,.func (.func f) #[] y,ak,ak,ak,ak,ak,ak,ak,ak,ak,ak,ak,ak],[]⟩ [.code (f58.body.getD .skip)]) (q.at l (aT p (s::r)::v)::cs)) w:=by
 have hL:=@Oh _ _ Post;simp only[xX,EB,f58,fq]at hL ⊢;have a:Qx O w w:=⟨bB.refl _ _ _,hbd⟩;have hst:StC:=trivial;refine GE.run (K:=Qx O w) (g':=?_) a (λu a=>?_);refine GE.Gz rfl (λi g=>?_);replace a:=a.rely hst rfl g;clear g;have hG1:=B _ _ a.o hG;have R:=a.o;have E:=a.bd;refine goes_oper_k rfl rfl Y0 (λK J=>?_);go_simp;refine J _ _ ⟨_,qp a.bd _,?_,?_⟩
 .intro e Q;have hm:=bL Q;simp[go_sem, *]at hm
 clear J K a;refine Mc (u:=i) rfl rfl (λY hy W=>?_);have hry:bB (λb=>b=Zb.z) O i Y:=Bg E (X _ hG1) hy W;have hys:Y.heap.size=i.heap.size+1:=by rw[hy,Array.size_push]
 have hyc:Y.cell? (aB i.heap.size 0)=some (.func (.func f) #[] y):=by unfold World.cell?;rw[hy,Array.getElem?_push_size];rfl
 clear hy W;have a:Qx (λb=>O b\/b=i.heap.size) Y Y:=⟨bB.refl _ _ _,λb k=>by
  obtain k|k:=k
  .have:=E b k;omega
  .omega⟩
 refine GE.run (g':=?_) a (λu a=>?_);refine RU rfl (λj g=>?_);replace a:=a.rely hst rfl g;clear g;have hr2:bB (λb=>b=Zb.z) O w j:=(R.trans hry).trans ⟨a.o.size,λb k=>a.o.keep b (k.imp .inl id),a.o.os⟩;have D:=B _ _ hr2 hG;have hc2:j.cell? (aB i.heap.size 0)=some (.func (.func f) #[] y):=(eX (a.o.keep _ (.inl (.inr rfl))) 0).trans hyc;have U:w.heap.size<=i.heap.size:=R.size;have S:i.heap.size<j.heap.size:=by have:=a.o.size;omega
 have I:∀b,O b->b<j.heap.size/\b≠i.heap.size:=λb k=>⟨a.bd b (.inl k),by have:=E b k;omega⟩;refine goes_oper_k rfl rfl Y0 (λK J=>?_);go_simp;refine J _ _ ⟨m j.heap.size i.heap.size,Ol j.heap.size i.heap.size,?_,rfl,⟨rfl,rfl⟩,(A _ _).1,(A _ _).2.1,N _ _ D U S I,?_⟩
 .intro e Q;have hm:=bL Q;simp[go_sem, *]at hm
 clear J K;refine Mc (u:=j) (o:=wgBlock jH.tWg 0 0) rfl rfl (λx Z hxo=>?_);have hrx:bB (λb=>b=Zb.z) O j x:=Bg (λb h=>(I b h).1) (X _ D) Z hxo;have hGx:=B _ _ hrx D;have hxs:x.heap.size=j.heap.size+1:=by rw[Z,Array.size_push]
 have hxc:x.cell? (aB i.heap.size 0)=some (.func (.func f) #[] y):=by refine(eX (show x.heap[i.heap.size]? =j.heap[i.heap.size]? from ?_) 0).trans hc2;rw[Z,oL,av Q0]
 have V:WgLive jH.tWg j.heap.size x:=⟨0,0,by show x.heap[j.heap.size]? =_;rw[Z];exact Array.getElem?_push_size⟩;obtain⟨Fk,T,hfk,hW,M,hT⟩:=hSK j.heap.size i.heap.size x hGx U S Q0 I hxc;generalize hFe:m j.heap.size i.heap.size=F at*;generalize Ol j.heap.size i.heap.size=O' at*;obtain⟨e1,e2,e3⟩:F.Wg=j.heap.size/\F.d=d/\F.n=n:=hFe▸A _ _;rw[<-e1]at V hW;subst e2 e3;clear a;have a:Kn jH.tWg F O' Fk x:=⟨hfk,V,λb k=>(M b k).2⟩;replace hst:=T.st O' (λ_ h=>h);have E1:Hid (F.Wg=j.heap.size):=e1;clear e1;refine GE.run (g':=?_) a (λu a=>?_)
 (refine GE.goes a.bd rfl (λu g=>?_);replace a:=a.rely hst rfl g;clear g;rw[stepG_loop];simp only[goes_go];refine⟨Z0,by intro e Q;simp at Q,?_⟩)
 rw[<-E1.out];exact hL (F:=F) T hn hW (λb k=>(M b k).1) hT F.n 0 (eu _) _ _ _ _ _ _ _ _ _ a
end
structure yI where
 pc:Nat
 xm:Nat
 sc:Nat
 ac:Nat
 sb:Nat
 C:Nat
 n:Nat
 k:Nat
 m:Nat
 B:Nat
 e:Nat
 width:Nat
 hb:Nat->Nat
 ho:Nat->Nat
 hn:Nat->Nat
 hcap:Nat->Nat
 HN:Nat->Nat->Nat
 HD:Nat->Nat->aN
 X:Nat->Option aA
namespace yI
variable (c : yI)
def S(b:Nat):Prop:=b=c.pc\/b=c.xm\/b=c.sc\/b=c.ac\/b=c.sb\/∃i,i<c.n/\b=c.hb i
structure Ok:Prop where
 n:c.n<=65536
 k0:0<c.k
 km:c.k+c.m<=12
 w0:0<c.width
 w8:c.width<=8
 N:∀i,i<c.n->∀j,j<c.k->c.HN i j<c.k+c.m
 J:∀i,i<c.n->∀a b,a<c.k->b<c.k->c.HN i a=c.HN i b->a=b
 D:∀i,i<c.n->∀j,j<c.k->(c.HD i j).size=8*c.width
 kn:∀i,i<c.n->c.k<=c.hn i
 nc:∀i,i<c.n->c.hn i<=c.hcap i
end yI
section
variable [Payload] [Zb]
section
variable [Payload] [Zb]
namespace yI
variable (c : yI)
structure Rd(w:au):Prop where
 cf:∀i,i<c.n->CF c.pc c.xm c.sc c.ac c.sb (c.hb i) (c.ho i) (c.hn i) (c.hcap i) c.C c.n i c.k c.m c.B c.e w
 dt:∀i,i<c.n->∀j,j<c.k->w.cell? (aB (c.hb i) (c.ho i+j*2))=some (ah (c.HN i j:Nat))/\w.cell? (aB (c.hb i) (c.ho i+j*2+1))=some (.string (c.HD i j))
 z:∃x e z,w.heap[Zb.z]? =some (.cells x e z)
variable {c}
theorem Rd.keep{w u:au}(h:c.Rd w)(k:∀b,b=Zb.z\/c.S b->u.heap[b]? =w.heap[b]?):c.Rd u:=by
 refine⟨λi a=>?_,λi a j f=>?_,?_⟩
 .obtain⟨d,m,n,o,p,q⟩:=h.cf i a;have l:=k c.xm (.inr (.inr (.inl rfl)));exact⟨(eX (k c.pc (.inr (.inl rfl))) 0).trans d,(eX l 0).trans m,(eX l 1).trans n,(eX (k c.sc (.inr (.inr (.inr (.inl rfl))))) 0).trans o,(eX (k c.sb (.inr (.inr (.inr (.inr (.inr (.inl rfl))))))) i).trans p,(eX (k c.ac (.inr (.inr (.inr (.inr (.inl rfl)))))) 0).trans q⟩
 .have g:=k (c.hb i) (.inr (.inr (.inr (.inr (.inr (.inr ⟨i,a,rfl⟩))))));exact⟨(eX g _).trans (h.dt i a j f).1,(eX g _).trans (h.dt i a j f).2⟩
 .obtain⟨x,e,z,d⟩:=h.z;exact⟨x,e,z,(k _ (.inl rfl)).trans d⟩
variable (c)
def ph(d Wg wc:Nat):Ph where
 d:=d
 Wg:=Wg
 C:=c.C
 n:=c.n
 lk:=some (gI c.k c.m c.B c.e c.X)
 Sh:=λb=>b=Zb.z\/b=wc\/c.S b
 Gt:=xW c.k c.m c.width (8*c.width) c.HN c.HD
 iG:=xW.iG c.k c.m c.width (8*c.width) c.HN c.HD _
def wv:aA:=.func (.func 122) #[] #[aJ c.pc 0,aJ c.xm 0,aJ c.sc 0,aJ c.ac 0]
structure Fk(d Wg wc:Nat)(Ol:aD)(x w:au):Prop where
 rd:c.Rd w
 wcv:w.cell? (aB wc 0)=some c.wv
 sb:∀b,(c.ph d Wg wc).Sh b->b<w.heap.size
 cb:c.C<w.heap.size
 bb:c.B<w.heap.size
 kp:bB (c.ph d Wg wc).Sh Ol x w
variable {c}
theorem Fk.stb{d W wc:Nat}{Ol jf:aD}{x:au}(O:∀b,Ol b->jf b):Il (c.ph d W wc) jf (c.Fk d W wc Ol x):=by intro w u r h;have k:∀b,(c.ph d W wc).Sh b->u.heap[b]? =w.heap[b]? :=λb a=>r.keep b (.inr (.inr a));exact⟨h.rd.keep λb a=>k b (a.imp id .inr),(eX (k wc (.inr (.inl rfl))) 0).trans h.wcv,λb a=>bG (h.sb b a) r.size,bG h.cb r.size,bG h.bb r.size,h.kp.trans ⟨r.size,λb a=>r.keep b (a.elim (λy=>.inl (O b y)) λy=>.inr (.inr y)),r.os⟩⟩
theorem sk(Y:Zb.z=prog.globals.size)(o:c.Ok){d W g:Nat}{Ol:aD}{x:au}(y:∀b,(c.ph d W g).Sh b->b≠c.B/\b≠c.C/\b≠W)(q:c.B≠c.C)(t:c.B≠W)(v:W≠c.C):SK (c.ph d W g) g Ol (c.Fk d W g Ol x):=by
 refine⟨λjf R=>Fk.stb R,λw h b a=>h.sb b (a.elim .inl id),λw h=>h.cb,λw h L Q=>by cases Q;exact h.bb,?_⟩;intro j f K p i u A a I E G T V U Z;have f:j<c.n:=f;have s:∀b,c.S b->(c.ph d W g).Sh b:=λb h=>.inr (.inr h);refine y8 (F:=c.ph d W g) (B:=c.B) (e:=c.e) (X:=c.X) (k:=c.k) (m:=c.m) (width:=c.width) (size:=8*c.width) (TN:=(c.k+c.m)*(8*c.width)) (pc:=c.pc) (xm:=c.xm) (sc:=c.sc) (ac:=c.ac) (sb:=c.sb) (hb:=c.hb j) (ho:=c.ho j) (hn:=c.hn j) (hcap:=c.hcap j) (HN:=c.HN) (HD:=c.HD) (H:=λb=>b=i\/b=K\/b=p) (wc:=g) (sc':=i)
  (Fx:=λw=>(c.Rd w/\WF W K p i g j 122 #[aJ c.pc 0,aJ c.xm 0,aJ c.sc 0,aJ c.ac 0] w)/\∀b,(c.ph d W g).Sh b->b<w.heap.size)
  Y rfl ?_ (.inl rfl) (λw h=>h.1.1.z) o.k0 o.km o.w0 o.w8 rfl rfl (o.N j f) (o.J j f) (λw h=>h.1.1.dt j f) (s _ (.inr (.inr (.inr (.inr (.inr ⟨j,f,rfl⟩)))))) (o.D j f) (o.kn j f) (o.nc j f) f (λw h=>h.1.1.cf j f) ⟨s _ (.inl rfl),s _ (.inr (.inl rfl)),s _ (.inr (.inr (.inl rfl))),s _ (.inr (.inr (.inr (.inr (.inl rfl))))),s _ (.inr (.inr (.inr (.inl rfl))))⟩ rfl (λw h=>h.1.2) ⟨.inr (.inl rfl),.inr (.inr rfl),.inl rfl⟩ (.inr (.inl rfl)) (λw h=>h.2) ?_ u ⟨⟨A.rd,I,E,G,A.wcv⟩,A.sb⟩ (λb h=>(a b h).1) T V (U _ rfl) Z
 .rintro w u r _ ⟨⟨O,l⟩,P⟩;have M:∀b,(c.ph d W g).Sh b->u.heap[b]? =w.heap[b]? :=λb a=>r.keep b (.inr (.inl a));exact⟨⟨O.keep λb a=>M b (a.imp id .inr),(eX (r.keep K (.inl (.inr (.inl rfl)))) 0).trans l.wp,(eX (r.keep p (.inl (.inr (.inr rfl)))) 0).trans l.fc,(eX (r.keep i (.inl (.inl rfl))) 0).trans l.sc,(eX (M g (.inr (.inl rfl))) 0).trans l.wc⟩,λb a=>bG (P b a) r.size⟩
 .exact⟨λb h=>⟨(a b h).2.2.2.2 _ rfl,(a b h).2.1,(a b h).2.2.1,(a b h).2.2.2.1,λx=>x⟩,λb h=>y b (h.elim id False.elim),q,t,v⟩
end yI
end
section
variable [Payload] [Zb]
namespace yI
variable (c : yI) (O Gd Z : aD)
structure Own:Prop where
 own:∀b,c.S b\/b=c.C\/b=c.B\/Gd b\/Z b->O b
 z:¬O Zb.z
 s:∀b,c.S b->b≠c.C/\b≠c.B
 bc:c.B≠c.C
 g:∀b,Gd b->b≠c.C/\b≠c.B/\¬c.S b/\¬Z b
 zz:∀b,Z b->b≠c.C/\b≠c.B/\¬c.S b
def Ol(b:Nat):Prop:=O b/\b≠c.C/\b≠c.B/\¬c.S b/\¬Gd b/\¬Z b
structure G0(w₀ w:au):Prop where
 rd:c.Rd w
 pay:PayAt c.C c.n w
 mu:MuAt (gI c.k c.m c.B c.e c.X) ⟨false,false,false,0⟩ 0 w
 j:Zc c.k c.m c.B c.e c.X Gd Z w
 r:bB (λb=>b=Zb.z) O w₀ w
variable {c O Gd Z}
theorem G0.iG(h:c.Own O Gd Z){a w u:au}(r:bB (λb=>b=Zb.z) O w u)(g:c.G0 O Gd Z a w):c.G0 O Gd Z a u:=by
 have f:=r.keep c.B (.inl (h.own _ (.inr (.inr (.inl rfl)))));refine⟨g.rd.keep λb d=>r.keep b (d.elim .inr λx=>.inl (h.own b (.inl x))),?_,g.mu.of_block f,?_,g.r.trans r⟩
 .obtain⟨s,i,n⟩:=g.pay;exact⟨s,(r.keep c.C (.inl (h.own _ (.inr (.inl rfl))))).trans i,n⟩
 .exact(gI c.k c.m c.B c.e c.X).iG Gd Z w u (λb d=>r.keep b (.inl (h.own b (.inr (.inr (.inr d)))))) (λj _ _=>eX f j) g.j
theorem G0.zl{a w:au}(g:c.G0 O Gd Z a w):Zb.z<w.heap.size:=by obtain⟨x,e,z,h⟩:=g.rd.z;exact(bJ.1 h).1
variable {Post : aA -> au -> Prop} {d : Nat} {A : List Frame} {b₁ : Frame} {a₁ : Act} {oo : Array Oper} {i₁ : Nat} {qE : List Nat} {H : List Item}
theorem sbs(hz:Zb.z=prog.globals.size)(E:c.Ok)(h:c.Own O Gd Z)(w:au)(N:∀b,O b->b<w.heap.size)(X:c.G0 O Gd Z w w)
 (hT:∀f W m p T o u F,w.heap.size<=f->c.Rd u->bB (λb=>b=Zb.z\/c.S b) (c.Ol O Gd Z) w u->Joined (c.ph d W f) (c.Ol O Gd Z) m p T o u->bB (λb=>b=Zb.z) (lM (c.ph d W f) (c.Ol O Gd Z) m p o) u F->GE prog jH.tWg Post (.calm (d+c.n)) (lM (c.ph d W f) (c.Ol O Gd Z) m p o) (G (b₁.at (a₁.put ((oo[i₁]?).bind (·.dst)) (.tuple #[])) (aT oo qE::H)) A) F):
 GE prog jH.tWg Post (.calm d) O (G ((base 58).at ⟨#[ah c.n,c.wv,ak,ak,ak,ak,ak,ak,ak,ak,ak,ak,ak,ak],[]⟩ [.code (f58.body.getD .skip)]) (b₁.at a₁ (aT oo (i₁::qE)::H)::A)) w:=by
 have hz0:=X.zl;have Q:∀b,O b->b≠Zb.z:=λb a e=>h.z (e▸a);have R:∀b,c.S b->O b:=λb a=>h.own b (.inl a);have v:O c.C:=h.own _ (.inr (.inl rfl));have t:O c.B:=h.own _ (.inr (.inr (.inl rfl)));refine V9 (λW f=>c.ph d W f) (λ_ _=>c.Ol O Gd Z) (c.G0 O Gd Z w) (λ_ g=>g.zl) (λ_ _ r g=>g.iG h r) (λ_ _=>⟨rfl,rfl,rfl⟩) (bY E.n U0) w N X ?_ ?_
 .intro f u g U V M;have D:∀b,O b->¬c.S b->¬(c.ph d u.heap.size f).Sh b:=λb a hn i=>by
   obtain i|i|i:=i
   .exact Q b a i
   .exact(M b a).2 i
   .exact hn i
  refine⟨by have:=E.n;show c.n<_;omega,.inl v,g.pay,?_,λb a=>⟨.inl a.1,a.2.1,D b a.1 a.2.2.2.1⟩,?_⟩
  .rintro b (rfl|rfl|a)
   .exact .inl rfl
   .exact .inr ⟨.inr rfl,λe=>(M _ v).2 e.symm⟩
   .exact .inr ⟨.inl (R b a),(h.s b a).1⟩
  .intro L hL;cases hL;refine⟨E.n,.inl t,h.bc,D _ t λi=>(h.s _ i).2 rfl,λa=>a.2.2.1 rfl,g.mu,Gd,Z,g.j,λb a=>?_,λb a=>?_⟩
   .obtain⟨I,J,K,Y⟩:=h.g b a;have q:=h.own b (.inr (.inr (.inr (.inl a))));exact⟨.inl q,I,D b q K,J,λx=>x.2.2.2.2.1 a,Y⟩
   .obtain⟨I,J,K⟩:=h.zz b a;have q:=h.own b (.inr (.inr (.inr (.inr a))));exact⟨.inl q,I,D b q K,J,λx=>x.2.2.2.2.2 a⟩
 .intro W f x g U V M k h5;have l:∀b,(c.ph d W f).Sh b->b<W:=by
   rintro b (rfl|rfl|a)
   .omega
   .exact V
   .exact(k b (R b a)).1
  have P:∀b,(c.ph d W f).Sh b->b≠c.B/\b≠c.C/\b≠W:=by
   intro b a;have:=l b a;refine⟨?_,?_,Q0⟩
   .obtain rfl|rfl|a:=a
    .exact λe=>Q _ t e.symm
    .exact λe=>(k _ t).2 e.symm
    .exact(h.s b a).2
   .obtain rfl|rfl|a:=a
    .exact λe=>Q _ v e.symm
    .exact λe=>(k _ v).2 e.symm
    .exact(h.s b a).1
  have lB:=(k _ t).1;have lC:=(k _ v).1;refine⟨c.Fk d W f (c.Ol O Gd Z) x,sk hz E P h.bc Q0 Q0,⟨g.rd,h5,λb a=>by have:=l b a;omega,Q0,Q0,.refl _ _ _⟩,?_,λb a=>⟨a.2.1,by have:=(k b a.1).1;omega⟩,?_⟩
  .rintro b (a|rfl|a)
   .have:=(k b a.1).1;show b≠W;omega
   .show Zb.z≠W;omega
   .have:=l b a;show b≠W;omega
  .intro m p T o u F y hj hr;refine hT f W m p T o u F U y.rd (bB.trans (b:=x) ⟨g.r.size,λb a=>g.r.keep b ?_,g.r.os⟩ ⟨y.kp.size,λb a=>y.kp.keep b ?_,y.kp.os⟩) hj hr
   .obtain a|a|a:=a
    .exact .inl a.1
    .exact .inr a
    .exact .inl (R b a)
   .obtain a|a|a:=a
    .exact .inl a
    .exact .inr (.inl a)
    .exact .inr (.inr (.inr a))
end yI
end
end
section
variable {π : Map}
theorem Me{S:aD}{j:au}(h:bI S π w j){f:Nat}(l:π.own b f)(a:w.cell? (aB b i)=some v):∃v',j.cell? (aB f i)=some v'/\aL S π v v':=by
 obtain⟨o,q,e,k,n⟩:=h.own _ _ l;unfold World.cell? at a ⊢;rw[e]at a;rw[k];cases n with
 |@cells c p t z r=>
  simp only at a ⊢;obtain⟨d,g⟩|⟨x,s,d,g,m⟩:=r.get? i
  .rw[d]at a;simp at a
  .rw[d]at a;rw[g];simp at a ⊢;subst a;exact m
 |_=>cases a
theorem acC{S:aD}(h:aL S π (aJ b 0) v')(s:¬π.sh b):∃c,v'=aJ c 0/\π.own b c:=by
 cases h with
 |@ptr a g r=>obtain⟨c,o,i⟩:=g;obtain⟨d,e,f⟩:=r;simp only at d e f;subst e f;exact⟨c,rfl,d.or.elim id λx=>aF x.1 s⟩
end
section
variable [Payload] [Zb]
section
variable [Payload] [Zb]
namespace yI
structure Lft(c:yI)(w:au):Prop where
 p:w.cell? (aB c.pc 0)=some (aJ c.B 0)
 x0:w.cell? (aB c.xm 0)=some (ah c.k)
 x1:w.cell? (aB c.xm 1)=some (ah c.m)
 s:w.cell? (aB c.sc 0)=some (aU c.sb c.n c.n)
 a:w.cell? (aB c.ac 0)=some (aU c.C c.n c.n)
 si:∀i,i<c.n->w.cell? (aB c.sb i)=some (aU (c.hb i) (c.hn i) (c.hcap i))
 dt:∀i,i<c.n->∀j,j<c.k->w.cell? (aB (c.hb i) (j*2))=some (ah (c.HN i j:Nat))/\w.cell? (aB (c.hb i) (j*2+1))=some (.string (c.HD i j))
 pay:PayAt c.C c.n w
 bl:w.heap[c.B]? =some (.cells #[.int .i32 0,.int .u32 0,.map none] 114 (0,0))
 z:∃x e z,w.heap[Zb.z]? =some (.cells x e z)
 ce:c.e=0/\c.ho=(λ_=>0)/\c.X=λ_=>none
 sep:∀b,c.S b->b≠c.C/\b≠c.B
 bc:c.B≠c.C
 hi:∀b,c.S b\/b=c.C\/b=c.B->b≠Zb.z/\Zb.n<=b
variable {c : yI} {S : aD} {π : Map} {w D : au}
theorem Lft.rel(h:c.Lft w)(q:bI S π w D)(hz:π.sh Zb.z)(K:∀b,π.sh b->b=Zb.z\/b<Zb.n){L O N I:Nat}(U:π.own c.pc L)(u:π.own c.xm O)(A:π.own c.sc N)(R:π.own c.ac I):
 ∃d:yI,d.pc=L/\d.xm=O/\d.sc=N/\d.ac=I/\d.n=c.n/\d.k=c.k/\d.m=c.m/\d.width=c.width/\d.HN=c.HN/\d.HD=c.HD/\d.hn=c.hn/\d.hcap=c.hcap/\d.e=0/\d.X=(λ_=>none)/\π.own c.C d.C/\π.own c.B d.B/\(∀t,d.S t->∃b,c.S b/\π.own b t)/\d.Rd D/\PayAt d.C d.n D/\D.heap[d.B]? =some (.cells #[.int .i32 0,.int .u32 0,.map none] 114 (0,0)):=by
 have H:∀{b},c.S b\/b=c.C\/b=c.B->¬π.sh b:=λG A=>(K _ A).elim (h.hi _ G).1 λx=>aF x (Nat.not_lt.2 (h.hi _ G).2);obtain⟨v,p1,p2⟩:=Me q U h.p;obtain⟨W,rfl,P⟩:=acC p2 (H (.inr (.inr rfl)));obtain⟨v,s1,s2⟩:=Me q A h.s;obtain⟨F,rfl,E⟩:=s2.oW (H (.inl (.inr (.inr (.inr (.inr (.inl rfl)))))));obtain⟨v,Z,a2⟩:=Me q R h.a;obtain⟨Y,rfl,Q⟩:=a2.oW (H (.inr (.inl rfl)));have l:∀i,∃t,i<c.n->D.cell? (aB F i)=some (aU t (c.hn i) (c.hcap i))/\π.own (c.hb i) t:=by
  intro i;by_cases f:i<c.n
  .obtain⟨v,i1,i2⟩:=Me q E (h.si i f);obtain⟨t,rfl,G⟩:=i2.oW (H (.inl (.inr (.inr (.inr (.inr (.inr ⟨i,f,rfl⟩)))))));exact⟨t,λ_=>⟨i1,G⟩⟩
  .exact⟨0,λx=>(f x).elim⟩
 refine⟨⟨L,O,N,I,F,Y,c.n,c.k,c.m,W,0,c.width,λi=>(l i).choose,λ_=>0,c.hn,c.hcap,c.HN,c.HD,λ_=>none⟩,rfl,rfl,rfl,rfl,rfl,rfl,rfl,rfl,rfl,rfl,rfl,rfl,rfl,rfl,Q,P,?_,⟨λi f=>⟨p1,?_,?_,s1,((l i).choose_spec f).1,Z⟩,λi f j T=>⟨?_,?_⟩,?_⟩,?_,?_⟩
 .rintro t (rfl|rfl|rfl|rfl|rfl|⟨i,f,rfl⟩)
  .exact⟨_,.inl rfl,U⟩
  .exact⟨_,.inr (.inl rfl),u⟩
  .exact⟨_,.inr (.inr (.inl rfl)),A⟩
  .exact⟨_,.inr (.inr (.inr (.inl rfl))),R⟩
  .exact⟨_,.inr (.inr (.inr (.inr (.inl rfl)))),E⟩
  .exact⟨_,.inr (.inr (.inr (.inr (.inr ⟨i,f,rfl⟩)))),((l i).choose_spec f).2⟩
 .exact q.Lx u h.x0 (.int _ _)
 .exact q.Lx u h.x1 (.int _ _)
 .have:=q.Lx ((l i).choose_spec f).2 (h.dt i f j T).1 (.int _ _);simpa using this
 .have:=q.Lx ((l i).choose_spec f).2 (h.dt i f j T).2 (.string _);simpa using this
 .obtain⟨x,V,e,z,z',_,y,_⟩:=q.sh _ hz;exact⟨V,e,z',y⟩
 .obtain⟨cs,hc,hn⟩:=h.pay;obtain⟨o,o',e,J,M⟩:=q.own _ _ Q;rw[hc]at e;cases e;cases M with
  |cells _ _ r=>exact⟨_,J,r.1.symm.trans hn⟩
 .obtain⟨o,o',e,J,M⟩:=q.own _ _ P;rw[h.bl]at e;cases e;cases M with
  |@cells _ d _ _ r=>
   refine J.trans ?_
   congr 2
   have A:d.size=3:=r.1.symm;apply Array.ext_getElem?;intro j;obtain⟨g,y⟩|⟨x,V,g,y,u⟩:=r.get? j
   .rw[g,y]
   .rw[g,y]
    match j,g with
    |0,g=>cases g;exact congrArg some (Num.eq (.int _ _) u)
    |1,g=>cases g;exact congrArg some (Num.eq (.int _ _) u)
    |2,g=>cases g;cases u;rfl
    |j+3,g=>simp at g
end yI
end
section
variable [Payload] [Zb]
namespace yI
structure LC(c:yI)(w w₂:au)(ls:Nat->aA):Prop where
 size:w.heap.size<=w₂.heap.size
 keep:∀b,b<w.heap.size->b≠c.C->b≠c.B->w₂.heap[b]? =w.heap[b]?
 os:w₂.os=w.os
 row:w₂.heap[c.C]? =some (.cells (Array.ofFn λi:Fin c.n=>ls i) Payload.ety)
 val:∀i,i<c.n->∃g P,ls i=aU g (c.k+c.m) (c.k+c.m)/\w.heap.size<=g/\gT c.k c.m (gZ (c.HN i) c.k) P/\w₂.rowIs g 9 (c.k+c.m) (λq=>.string (jo (iD c.width (dD c.k c.m (gZ (c.HN i) c.k) P) (tK (c.HN i) (c.HD i) (8*c.width) c.k)) (q*(8*c.width)) (8*c.width)))
variable {c : yI} {S : aD} {Post : aA -> au -> Prop} {b₁ : Frame} {a₁ : Act} {oo : Array Oper} {i₁ : Nat} {qE : List Nat} {H : List Item} {B : List PF}
theorem RV(hz:Zb.z=prog.globals.size)(ok:c.Ok)(w:au)(h:c.Lft w)
 (hT:∀t ls,c.LC w t ls->CP S prog jH.tWg Post ⟨b₁,a₁.put ((oo[i₁]?).bind (·.dst)) (.tuple #[]),aT oo qE::H⟩ B t)
 {d:Nat}{p:Map}{L:Act}{A:List PF}{U:au}(R:Ren.Rd prog p U)(hh:bI S p w U)(acE:fQ S p a₁ L)(hs:q9 (Td S p) B A){pc xm sc ac:Nat}(hp:p.own c.pc pc)(I:p.own c.xm xm)(hsc:p.own c.sc sc)(hac:p.own c.ac ac):
 GE prog jH.tWg Post (.calm d) (own p.img) (G ((base 58).at ⟨#[ah c.n,.func (.func 122) #[] #[aJ pc 0,aJ xm 0,aJ sc 0,aJ ac 0],ak,ak,ak,ak,ak,ak,ak,ak,ak,ak,ak,ak],[]⟩ [.code (f58.body.getD .skip)]) (b₁.at L (aT oo (i₁::qE)::H)::A.map PF.fr)) U:=by
 obtain⟨o,rfl,rfl,rfl,rfl,q1,q2,q3,q4,q5,q6,q7,q8,K,q10,hC,hB,hS,hRd,acF,hBl⟩:=h.rel hh R.z R.sh hp I hsc hac;have ok':o.Ok:=by obtain⟨o1,o2,o3,o4,o5,o6,o7,o8,o9,o10⟩:=ok;refine⟨?_,?_,?_,?_,?_,?_,?_,?_,?_,?_⟩<;>simp only[q1,q2,q3,q4,q5,q6,q7,q8]<;>assumption
 have nI:∀b,p.img b->Zb.n<=b:=λb f=>R.kd.img _ f;have nz:∀b,p.img b->b≠Zb.z:=λb⟨x,I⟩ e=>(hh.apart _ _ I).2 (e▸R.z);have iS:∀b,o.S b->p.img b:=λb f=>let⟨x,_,I⟩:=hS b f;⟨x,I⟩;have iC:p.img o.C:=⟨_,hC⟩;have iB:p.img o.B:=⟨_,hB⟩
 .have X8:∀b,own p.img b->b<U.heap.size:=λb f=>f.elim (λ⟨c,hc⟩=>(hh.lt hc).2) λx=>bG x.1 R.kd.sz;have afE:o.Own (own p.img) (λ_=>False) (λ_=>False):=by
   refine⟨?_,?_,λb f=>?_,λe=>h.bc (hh.inj _ _ _ (e▸hB) hC),λb f=>f.elim,λb f=>f.elim⟩
   .rintro b (f|rfl|rfl|f|f)
    .exact .inl (iS b f)
    .exact .inl iC
    .exact .inl iB
    .exact f.elim
    .exact f.elim
   .rintro(f|f)
    .exact nz _ f rfl
    .exact f.2 rfl
   .obtain⟨b0,h0,hb0⟩:=hS b f;exact⟨λe=>(h.sep b0 h0).1 (hh.inj _ _ _ (e▸hb0) hC),λe=>(h.sep b0 h0).2 (hh.inj _ _ _ (e▸hb0) hB)⟩
  have cB:∀j,U.cell? (aB o.B j)=(#[.int .i32 0,.int .u32 0,.map none]:Array aA)[j]? :=λj=>aQ U o.B j _ _ _ hBl;have hG0:o.G0 (own p.img) (λ_=>False) (λ_=>False) U U:=by
   refine⟨hRd,acF,⟨?_,?_,?_⟩,⟨none,?_,nofun,λj a b c=>?_⟩,.refl _ _ _⟩
   .show U.cell? (aB o.B o.e)=_;rw[K,cB];rfl
   .show U.cell? (aB o.B (o.e+1))=_;rw[K,cB];rfl
   .refine⟨#[.int .i32 0,.int .u32 0,.map none],hBl.trans ?_⟩;simp[gI,K]
   .rw[K,cB];rfl
   .rw[K]at a b c;rw[cB,q10]
    match j,a,b,c with
    |0,a,_,_=>exact aF rfl a
    |1,_,b,_=>exact aF rfl b
    |2,_,_,c=>exact aF rfl c
    |j+3,_,_,_=>simp
  rw[<-q1];refine yI.sbs (c:=o) (d:=d) hz ok' afE U X8 hG0 ?_;intro wc Wg Gx Zx vs Os u w'' hwc hRu W E y;have T:∀b,b<Zb.n->¬p.img b:=λb f q=>aF f (Nat.not_lt.2 (nI b q));have Z:∀b,own p.img b->b≠o.C->b≠o.B->¬o.S b->o.Ol (own p.img) (λ_=>False) (λ_=>False) b:=λb F M V h4=>⟨F,M,V,h4,λx=>x,λx=>x⟩;have old:∀b,b<Zb.n->b≠Zb.z->o.Ol (own p.img) (λ_=>False) (λ_=>False) b:=λb F M=>Z b (.inr ⟨F,M⟩) (λe=>T b F (e▸iC)) (λe=>T b F (e▸iB)) λhs=>T b F (iS b hs);obtain⟨l1,l2,l3,l4,l5,hMu,afG,l8⟩:=E.lk _ rfl;obtain⟨cu,Q⟩:=hMu.ro;have Zz:(gI o.k o.m o.B o.e o.X).ty=114:=by simp[gI,K]
  rw[Zz]at Q;have Q:u.heap[o.B]? =some (.cells cu 114 (0,0)):=Q;have cU:∀j,u.cell? (aB o.B j)=cu[j]? :=λj=>aQ u o.B j _ _ _ Q;obtain⟨r,g1,_,g3⟩:Zc o.k o.m o.B o.e o.X Gx Zx u:=afG.j;have m0:cu[0]? =some (.int .i32 0):=by
   have:=hMu.mu;have e:(gI o.k o.m o.B o.e o.X).mu=⟨o.B,0,none⟩:=by simp[Lk.mu,gI,K]
   rw[e,cU]at this;exact this
  have m1:cu[1]? =some (.int .u32 0):=by
   have:=hMu.sm;have e:(gI o.k o.m o.B o.e o.X).sm=⟨o.B,1,none⟩:=by simp[Lk.sm,gI,K]
   rw[e,cU]at this;exact this
  have m2:cu[2]? =some (.map r):=by rw[K,cU]at g1;exact g1
  have m3:∀j,cu[j+3]? =none:=λj=>by have:=g3 (j+3) (by rw[K];omega) (by rw[K];omega) (by rw[K];omega);rw[cU,q10]at this;exact this
  have hro:ko S p (.cells #[.int .i32 0,.int .u32 0,.tuple #[]] 114 (0,0)) (.cells cu 114 (0,0)):=by
   have hsz:cu.size=3:=by have F:=(bJ.1 m2).1;have M:=Array.getElem?_eq_none_iff.1 (m3 0);omega
   refine .cells _ _ (bq.jc (by rw[hsz];rfl) λi v v' Y s=>?_)
   match i,Y,s with
   |0,Y,s=>rw[m0]at s;cases Y;cases s;exact .int _ _
   |1,Y,s=>rw[m1]at s;cases Y;cases s;exact .int _ _
   |2,Y,s=>rw[m2]at s;cases Y;cases s;exact .junk trivial
   |j+3,Y,_=>simp at Y
  have O:∀i,i<o.n->∀b,Os i b->¬own p.img b/\b≠Zb.z:=λi q b f=>by
   obtain⟨-,M,V,h4⟩:=E.own i q b f;refine⟨λho=>?_,λe=>V (.inl e)⟩;by_cases e1:b=o.B
   .exact l5 i q (e1▸f)
   .exact M (Z b ho h4 e1 λhs=>V (.inr (.inr hs)))
  have Gv:∀i,i<o.n->xW o.k o.m o.width (8*o.width) o.HN o.HD i (Os i) (vs i) u:=λi q=>E.res i q;obtain⟨D,t,ls,J⟩:=hh.joinL (u:=u) (n:=o.n) (vs:=vs) (Os:=Os) hC hB (Ne.symm h.bc) acF E.pay ⟨W.size,λb f=>by
   obtain f|f:=f
   .by_cases e1:o.S b
    .exact W.keep b (.inr (.inr e1))
    .exact W.keep b (.inl (Z b (.inl f.1) f.2.1 f.2.2 e1))
   .by_cases e:b=Zb.z
    .exact W.keep b (.inr (.inl e))
    .exact W.keep b (.inl (old b ((R.sh b f).resolve_left e) e)),W.os⟩ E.has (λi q=>by
   obtain⟨g,P,F,M,_,cg,h4,h5,h6⟩:=Gv i q;exact .inr ⟨g,_,_,cg,_,_,F,h4,λx I=>by obtain⟨j,hj,rfl⟩:=Array.mem_iff_getElem.1 I;have:=h6 j Q0;rw[iU hj]at this;rw[gH this];exact .string _,M⟩)
   (λi q b f=>⟨λh=>(O i q b f).1 (.inl h),λh=>(R.sh b h).elim (O i q b f).2 λx=>(O i q b f).1 (.inr ⟨x,(O i q b f).2⟩)⟩) E.apart Q hro
  have acG:∀b,own D.img b->lM (o.ph d Wg wc) (o.Ol (own p.img) (λ_=>False) (λ_=>False)) Gx Zx Os b:=by
   intro b f;obtain f|f:=f
   .obtain q|⟨j,hj,I⟩:=J.img b f
    .by_cases e1:b=o.C
     .exact .inr (.inl e1)
     by_cases e2:b=o.B
     .exact .inr (.inr (.inr (.inr ⟨_,rfl,.inl e2⟩)))
     by_cases e3:o.S b
     .exact .inr (.inr (.inl ⟨.inr (.inr e3),nz b q⟩))
     .exact .inl (Z b (.inl q) e1 e2 e3)
    .exact .inr (.inr (.inr (.inl ⟨j,hj,I⟩)))
   .exact .inl (old b f.1 f.2)
  refine GE.wide acG (λb f=>bG (wL E b f) y.size) ?_;have N:Ren.Rd prog D w'':=by
   refine⟨R.g.trans J.le.g.symm,λb f=>R.sh b ((J.le.sh b).2 f),(J.le.sh _).1 R.z,λb f=>?_,λb f=>?_,bY (bY R.kd.sz W.size) y.size⟩
   .obtain q|⟨j,hj,I⟩:=J.img b f
    .exact nI b q
    .obtain hl|hl:=jY b Zb.n
     .exact((O j hj b I).1 (.inr ⟨hl,(O j hj b I).2⟩)).elim
     .exact hl
   .refine Eq.trans ?_ (R.kd.kp b f);by_cases e:b=Zb.z
    .exact(y.keep b (.inr e)).trans (W.keep b (.inr (.inl e)))
    .exact(y.keep b (.inl (.inl (old b f e)))).trans (W.keep b (.inl (old b f e)))
  have acH:bI S D t w'':=J.rel.stays ⟨y.size,λb f=>by
   obtain f|f:=f
   .exact y.keep b (.inl (acG b (.inl f)))
   .by_cases e:b=Zb.z
    .exact y.keep b (.inr e)
    .exact y.keep b (.inl (.inl (old b ((N.sh b f).resolve_left e) e))),y.os⟩
  have hLC:c.LC w t ls:=by
   refine⟨J.size,λb F M V=>J.keep b F M V,J.os,by have:=J.row;rw[q1]at this;exact this,λi q=>?_⟩;have Qs:i<o.n:=by rw[q1];exact q
   obtain⟨g,P,F,M,V,cg,h4,h5,h6⟩:=Gv i Qs;rcases(J.val i Qs).2 with⟨l,cc,a1,_⟩|⟨g',g₂,l,cc,a1,a2,a3,a4,a5⟩
   .rw[F]at a1;cases a1
   .rw[F]at a1;cases a1;rw[q2,q3]at a2;rw[q2,q3,q5]at V;exact⟨g₂,P,a2,a3,V,cg,a5.trans h4,by rw[<-q2,<-q3];exact h5,λj hj=>by rw[h6 j (by rw[q2,q3];exact hj),q2,q3,q4,q5,q6]⟩
  exact hT t ls hLC (d+o.n) D ⟨_,L.put ((oo[i₁]?).bind (·.dst)) (.tuple #[]),aT oo qE::H⟩ A w'' N
   ⟨rfl,rfl,(acE.mono J.le).put _ (.tuple rfl λi q=>aF q (dO i))⟩ (hs.mono λ_ _ x=>x.mono J.le) acH
end yI
end
end
theorem Wh:f63.body=some (.seq (.region 0 (rg f63 0) false) (.seq (.region 1 (rg f63 1) false) (.seq (.region 2 (rg f63 2) false) (.seq (.region 3 (rg f63 3) false) .ret)))):=by kernel_rfl
theorem ZF(a:Act)(u:au):(results f63 a.tmps).run prog u=.ok (a.tmps.getD 6 ak) u:=by simp[results,f63,go_sem]
theorem acI(a:Act)(u:au):(results f63 a.tmps).events prog u #[]=#[]:=by simp[results,f63,go_sem]
theorem ZG:(prog.info? 34).map (λi=>(i.zero,i.size,i.bytes))=some (some (.slice none 0 0),1,24):=by kernel_rfl
section
variable [Payload] [Zb]
section
variable [Payload] [Zb] {Post : aA -> au -> Prop}
namespace yI
theorem Wi(hz:Zb.z=prog.globals.size){c:yI}(ok:c.Ok)(w:au)(h:c.Lft w)(f:Nat->aA){k:List Item}{J:List PF}(T:f 12=ah c.n)(h5:f 5=aJ c.pc 0)(h3:f 3=aJ c.xm 0)(h4:f 4=aJ c.sc 0)(h7:f 7=aJ c.ac 0)
 (hT:∀j Z,c.LC w j Z->CP bT prog jH.tWg Post ⟨base 63,fa 16 (aC (aC f 13 (.tuple #[])) 14 (.tuple #[])),k⟩ J j):
 CP bT prog jH.tWg Post ⟨base 63,fa 16 f,.inRegion (rg f63 2) [2,3]::k⟩ J w:=by
 intro d r f' s w' M U W hh;obtain⟨K,g,Y⟩:=f';obtain⟨rfl,rfl,N⟩:K=_/\Y=_/\fQ bT r (fa 16 f) g:=⟨U.b,U.k,U.a⟩;have ns:∀{b},c.S b\/b=c.C\/b=c.B->¬r.sh b:=λq W=>(M.sh _ W).elim (h.hi _ q).1 λx=>aF x (Nat.not_lt.2 (h.hi _ q).2);have get:∀x b,x<16->f x=aJ b 0->c.S b->∃K,g.eval (.tmp x)=aJ K 0/\r.own b K:=λx b hx e q=>by have m:=N.eval.rel (.tmp x) trivial;rw[aj hx,e]at m;exact acC m (ns (.inl q))
 obtain⟨pc,e5,o5⟩:=get 5 _ U0 h5 (.inl rfl);obtain⟨xm,e3,o3⟩:=get 3 _ U0 h3 (.inr (.inl rfl));obtain⟨sc,e4,o4⟩:=get 4 _ U0 h4 (.inr (.inr (.inl rfl)));obtain⟨ac,e7,o7⟩:=get 7 _ U0 h7 (.inr (.inr (.inr (.inl rfl))));have Q:g.eval (.tmp 12)=ah c.n:=by
  have m:=N.eval.rel (.tmp 12) trivial;rw[aj U0,T]at m;generalize g.eval (.tmp 12)=y at m;cases m with
  |int=>rfl
 have I:g.tmps.size=16:=N.tmps.1.symm.trans zm
 let l:aA:=.func (.func 122) #[] #[aJ pc 0,aJ xm 0,aJ sc 0,aJ ac 0]
 refine .mk (.idle rfl λu X=>⟨gr ((base 63).at (g.put (some 13) l) (.inRegion (rg f63 2) [3]::k)) (s.map PF.fr),u,#[],own r.img,?_,dV M hh X,X0,?_⟩)
 .have e:(execOp g.eval (((rg f63 2)[2]?).getD default)).run prog u=.ok (.value l) u:=by
   have p:(((rg f63 2)[2]?).getD default).op=.makeFunc (.func 122) #[] #[.tmp 5,.tmp 3,.tmp 4,.tmp 7]:=by kernel_rfl
   unfold execOp;rw[p];simp[e5,e3,e4,e7,l,Instr.makeFunc]
  have ev:listed prog 63 g (((rg f63 2)[2]?).getD default) u=#[]:=by
   have p:(((rg f63 2)[2]?).getD default).op=.makeFunc (.func 122) #[] #[.tmp 5,.tmp 3,.tmp 4,.tmp 7]:=by kernel_rfl
   unfold listed execOp;rw[p];exact seen_none prog _
  have:=stepG_value (P:=prog) (main:=true) (b:=base 63) (k:=k) (cs:=s.map PF.fr) (rest:=[3]) (i:=2) (ops:=rg f63 2) M0 M0 (by simp[base]) e;rw[show listed prog (base 63).fn g _ u=#[]from ev]at this;exact this
 have R:=M.rely X;have D:=hh.rely (dG M X) w.tape w.drawn;refine .mk (.idle rfl λv m=>⟨G ((base 58).at ⟨#[ah c.n,l,ak,ak,ak,ak,ak,ak,ak,ak,ak,ak,ak,ak],[]⟩ [.code (f58.body.getD .skip)]) ((base 63).at (g.put (some 13) l) (.inRegion (rg f63 2) [3]::k)::s.map PF.fr),v,#[],own r.img,?_,dV R D m,X0,?_⟩)
 .have p:(((rg f63 2)[3]?).getD default).op=.call {callee:=.value (.func 58),args:=#[.tmp 12,.tmp 13],argTypes:=#[3,119]}:=by kernel_rfl
  have q:f58.body=some (f58.body.getD .skip):=by kernel_rfl
  have A:f58.body.isNone=false:=by kernel_rfl
  have E:(f58.name== "runtime.NumGoroutine")=false:=by kernel_rfl
  have O:=stepG_enter (P:=prog) (main:=true) (b:=base 63) (a:=g.put (some 13) l) (k:=k) (cs:=s.map PF.fr) (rest:=[]) (i:=3) (ops:=rg f63 2) (o:=(((rg f63 2)[3]?).getD default)) M0 M0 (by simp[base]) (run_call_body (P:=prog) (w:=v) p func58 E A);rw[enter_at _ func58 q]at O;have:listed prog (base 63).fn (g.put (some 13) l) (((rg f63 2)[3]?).getD default) v=#[]:=by unfold listed;rw[events_call_body p func58 E A];exact seen_none prog _
  rw[this]at O;refine O.trans ?_;have Mf:(g.put (some 13) l).eval (.tmp 12)=ah c.n:=by rw[eval_put (by rw[I];decide)];exact Q
  have x13:(g.put (some 13) l).eval (.tmp 13)=l:=by rw[eval_put (by rw[I];decide)];rfl
  simp only[List.map_toArray,kM,List.map_nil,Mf,x13];rfl
 have V:aL bT r (.tuple #[]) l:=.junk trivial;exact RV (i₁:=3) (qE:=[]) (oo:=rg f63 2) (b₁:=base 63) (a₁:=fa 16 (aC f 13 (.tuple #[]))) hz ok w h (λj Z hl=>by have:=hT j Z hl;rw[show((rg f63 2)[3]?).bind (·.dst)=some 14 from by kernel_rfl,jm];exact CP.jO this) (R.rely m) (D.rely (dG R m) w.tape w.drawn) (by have:=N.put (some 13) V;rw[jm]at this;exact this) W o5 o3 o4 o7
end yI
end
structure acJ(sb B n k m:Nat)(hb hn hcap:Nat->Nat)(HN:Nat->Nat->Nat)(HD:Nat->Nat->aN)(w:au):Prop where
 si:∀i,i<n->w.cell? (aB sb i)=some (aU (hb i) (hn i) (hcap i))
 dt:∀i,i<n->∀j,j<k->w.cell? (aB (hb i) (j*2))=some (ah (HN i j:Nat))/\w.cell? (aB (hb i) (j*2+1))=some (.string (HD i j))
 bl:w.heap[B]? =some (.cells #[.int .i32 0,.int .u32 0,.map none] 114 (0,0))
 z:∃x e z,w.heap[Zb.z]? =some (.cells x e z)
 N:Zb.n<=w.heap.size
 lt:sb<w.heap.size/\∀i,i<n->hb i<w.heap.size
 ne:sb≠B/\∀i,i<n->hb i≠B
 hi:(sb≠Zb.z/\Zb.n<=sb)/\(B≠Zb.z/\Zb.n<=B)/\∀i,i<n->hb i≠Zb.z/\Zb.n<=hb i
structure acK(B n k m width:Nat)(HN:Nat->Nat->Nat)(HD:Nat->Nat->aN)(w u:au)(C:Nat)(ls:Nat->aA):Prop where
 size:w.heap.size<=u.heap.size
 keep:∀b,b<w.heap.size->b≠B->u.heap[b]? =w.heap[b]?
 os:u.os=w.os
 lo:w.heap.size<=C
 row:u.heap[C]? =some (.cells (Array.ofFn λi:Fin n=>ls i) 34)
 val:∀i,i<n->∃g P,ls i=aU g (k+m) (k+m)/\w.heap.size<=g/\gT k m (gZ (HN i) k) P/\u.rowIs g 9 (k+m) (λq=>.string (jo (iD width (dD k m (gZ (HN i) k) P) (tK (HN i) (HD i) (8*width) k)) (q*(8*width)) (8*width)))
theorem H9(hp:Payload.ety=34)(hz:Zb.z=prog.globals.size)(H B n k m s sz len:Nat)(key:aN)(p hn F:Nat->Nat)(HN:Nat->Nat->Nat)(HD:Nat->Nat->aN)(w:au)
 (ok:∀pc xm sc ac C,(yI.mk pc xm sc ac H C n k m B 0 s p (λ_=>0) hn F HN HD λ_=>none).Ok)(h:acJ H B n k m p hn F HN HD w):
 RC bT prog jH.tWg Post 63 #[.agg #[ah k,ah m,ah sz,ah len,.string key],aU H n n,aJ B 0] w λv u=>∃C ls,v=aU C n n/\acK B n k m s HN HD w u C ls:=by
 have hn6:n<=65536:=(ok 0 0 0 0 0).n;refine RC.of func63 M0 Wh (by show 3<=16;decide) λb₀ a₀ ops₀ i₀ rest₀ k₀ seg T=>?_;change CP _ _ _ _ ⟨_,fa 16 _,_⟩ _ _;refine kg ?_;refine CP.yX (t:=101) (y:=0) (d:=3) rfl (.of M0) U0 λu1 g1=>?_;refine CP.yX (t:=104) (y:=1) (d:=4) rfl (.of M0) U0 λu2 g2=>?_;refine CP.yX (t:=126) (y:=2) (d:=5) rfl (.of M0) U0 λf O=>?_;refine kg ?_;have R:=g1.size;have U:=g2.size;have W:=O.size;have n1:u1.heap[w.heap.size]? =some (.cells #[ah k,ah m,ah sz,ah len,.string key] 101):=g1.new;have n2:u2.heap[u1.heap.size]? =some (.cells #[aU H n n] 104):=g2.new;have n3:f.heap[u2.heap.size]? =some (.cells #[aJ B 0] 126):=O.new;have m2:=(O.old _ Q0).trans n2;have m1:=(O.old _ Q0).trans ((g2.old _ Q0).trans n1);refine CP.fV (K:=.load 104 (.tmp 4)) (d:=8) (v:=aU H n n) aH rfl (.of M0) (dW M0) (λt E o G=>by unfold execOp;rw[G];have c0:(Ren.tp f t E).cell? (aB u1.heap.size 0)=some (aU H n n):=(aQ f _ 0 _ _ _ m2).trans rfl;clear T;(try clear R);(try clear U);(try clear W);(try clear X);(try clear Y);(try clear Z);simp[aj,aO,aC,resolve,Deferred.ofValue,invoke,builtin];try go_simp) ?_;refine CP.fV (K:=.call {callee:=.builtin .len,args:=#[.tmp 8],argTypes:=#[104]}) (d:=9) (v:=ah n) aH rfl (.of M0) (dW M0) (λt E o G=>by unfold execOp;rw[G];clear T;(try clear R);(try clear U);(try clear W);(try clear X);(try clear Y);(try clear Z);simp[aj,aO,aC,resolve,Deferred.ofValue,invoke,builtin];try go_simp) ?_;refine CP.fmk (t:=45) (e:=34) (x:=9) (d:=10) (m:=n) rfl (.of M0) (dW M0) underlying45 ZG U0 J2 Q0 Q0 λr g4=>?_;refine CP.BP (t:=45) (d:=7) (z:=.slice none 0 0) rfl (.of M0) (dW M0) M0 λJ g5=>?_;have X:=g4.size;have Y:=g5.size;have n5:J.heap[r.heap.size]? =some (.cells #[.slice none 0 0] 45):=g5.new;have n4:=(g5.old _ Q0).trans g4.new;refine CP.fU (K:=.store 45 (.tmp 7) (.tmp 10)) aH rfl (.of M0) (dW M0) λt E o G=>⟨(Ren.tp J t E).setCell (aB r.heap.size 0) (aU f.heap.size n n),?_,?_⟩
 .have c0:(Ren.tp J t E).cell? (aB r.heap.size 0)=some (.slice none 0 0):=(aQ J _ 0 _ _ _ n5).trans rfl;have f0:(Ren.tp J t E).frozen? (aB r.heap.size 0)=false:=Lib.frozen_of_heap n5 0;clear T;(try clear R);(try clear U);(try clear W);(try clear X);(try clear Y);(try clear Z);unfold execOp;rw[G];simp[aj,aC];go_simp
 refine CP.tp (w:=J.setCell (aB r.heap.size 0) (aU f.heap.size n n)) ?_ t E;generalize M:J.setCell (aB r.heap.size 0) (aU f.heap.size n n)=u6;have ha:=aside_setCell J ⟨r.heap.size,0,none⟩ (aU f.heap.size n n);rw[M]at ha;have n6:u6.heap[r.heap.size]? =some (.cells #[aU f.heap.size n n] 45):=by rw[<-M];exact Yr n5
 clear M;have Z:=ha.size;have old:∀b,b<r.heap.size->u6.heap[b]? =r.heap[b]? :=λb p=>(ha.block b (by show b≠r.heap.size;omega)).trans (g5.old b p);have A:∀b,b<f.heap.size->u6.heap[b]? =f.heap[b]? :=λb p=>(old b Q0).trans (g4.old b p);have q:∀b,b<w.heap.size->u6.heap[b]? =w.heap[b]? :=λb p=>(A b Q0).trans ((O.old b Q0).trans ((g2.old b Q0).trans (g1.old b p)));have k1:=(A _ Q0).trans m1;have k2:=(A _ Q0).trans m2;have k3:=(A _ Q0).trans n3;have k4:=(old _ Q0).trans g4.new;have os6:u6.os=w.os:=ha.os.trans (g5.os.trans (g4.os.trans (O.os.trans (g2.os.trans g1.os))));refine kg ?_;refine CP.fV (K:=.load 104 (.tmp 4)) (d:=11) (v:=aU H n n) aH rfl (.of M0) (dW M0) (λt E o G=>by unfold execOp;rw[G];have c0:(Ren.tp u6 t E).cell? (aB u1.heap.size 0)=some (aU H n n):=(aQ u6 _ 0 _ _ _ k2).trans rfl;clear T;(try clear R);(try clear U);(try clear W);(try clear X);(try clear Y);(try clear Z);simp[aj,aO,aC,resolve,Deferred.ofValue,invoke,builtin];try go_simp) ?_;refine CP.fV (K:=.call {callee:=.builtin .len,args:=#[.tmp 11],argTypes:=#[104]}) (d:=12) (v:=ah n) aH rfl (.of M0) (dW M0) (λt E o G=>by unfold execOp;rw[G];clear T;(try clear R);(try clear U);(try clear W);(try clear X);(try clear Y);(try clear Z);simp[aj,aO,aC,resolve,Deferred.ofValue,invoke,builtin];try go_simp) ?_;have zl:Zb.z<w.heap.size:=let⟨_,_,_,hx⟩:=h.z;(bJ.1 hx).1;have Bl:B<w.heap.size:=(bJ.1 h.bl).1;have hN:=h.N;have sbl:=h.lt.1
 let c:yI:=⟨u2.heap.size,w.heap.size,u1.heap.size,r.heap.size,H,f.heap.size,n,k,m,B,0,s,p,λ_=>0,hn,F,HN,HD,λ_=>none⟩
 have cS:∀b,c.S b->b=u2.heap.size\/b=w.heap.size\/b=u1.heap.size\/b=r.heap.size\/b=H\/∃i,i<n/\b=p i:=λb p=>p;have L:c.Lft u6:=by
  refine⟨?_,?_,?_,?_,?_,λi D=>?_,λi D j hj=>?_,?_,?_,?_,⟨rfl,rfl,rfl⟩,?_,?_,?_⟩
  .exact(aQ u6 _ 0 _ _ _ k3).trans rfl
  .exact(aQ u6 _ 0 _ _ _ k1).trans rfl
  .exact(aQ u6 _ 1 _ _ _ k1).trans rfl
  .exact(aQ u6 _ 0 _ _ _ k2).trans rfl
  .exact(aQ u6 _ 0 _ _ _ n6).trans rfl
  .exact(eX (q H sbl) i).trans (h.si i D)
  .have e:=q (p i) (h.lt.2 i D);exact⟨(eX e _).trans (h.dt i D j hj).1,(eX e _).trans (h.dt i D j hj).2⟩
  .exact⟨_,by rw[hp];exact k4,size_madeCells _ _⟩
  .exact(q B Bl).trans h.bl
  .obtain⟨x,e,z,hx⟩:=h.z;exact⟨x,e,z,(q _ zl).trans hx⟩
  .intro b p;show b≠f.heap.size/\b≠B;obtain rfl|rfl|rfl|rfl|rfl|⟨i,D,rfl⟩:=cS b p
   .omega
   .omega
   .omega
   .omega
   .exact⟨Q0,h.ne.1⟩
   .exact⟨by have:=h.lt.2 i D;omega,h.ne.2 i D⟩
  .show B≠f.heap.size;omega
  .rintro b (p|rfl|rfl)
   .obtain rfl|rfl|rfl|rfl|rfl|⟨i,D,rfl⟩:=cS b p
    .omega
    .omega
    .omega
    .omega
    .exact h.hi.1
    .exact h.hi.2.2 i D
   .show f.heap.size≠_/\_<=f.heap.size;omega
   .exact h.hi.2.1
 refine yI.Wi (c:=c) hz (ok _ _ _ _ _) u6 L _ j6 j6 j6 j6 j6 λI ls Q=>?_;have e2:I.heap[r.heap.size]? =some (.cells #[aU f.heap.size n n] 45):=(Q.keep _ Q0 (by show _≠f.heap.size;omega) (by show _≠B;omega)).trans n6;refine kg ?_;refine CP.fV (K:=.load 45 (.tmp 7)) (d:=15) (v:=aU f.heap.size n n) aH rfl (.of M0) (dW M0) (λt E o G=>by unfold execOp;rw[G];have c0:(Ren.tp I t E).cell? (aB r.heap.size 0)=some (aU f.heap.size n n):=(aQ I _ 0 _ _ _ e2).trans rfl;clear T;(try clear R);(try clear U);(try clear W);(try clear X);(try clear Y);(try clear Z);simp[aj,aC];go_simp) ?_;refine kg ?_;refine CP.out rfl rfl func63 (V:=λa=>a.tmps.getD 6 ak) ZF acI (λπ a a' h=>h.tmps.getD 6) ?_;refine T _ _ ⟨f.heap.size,ls,?_,⟨by have:=Q.size;omega,λb h1 h2=>(Q.keep b Q0 (by show b≠f.heap.size;omega) h2).trans (q b h1),Q.os.trans os6,Q0,by have:=Q.row;rw[hp]at this;exact this,λi D=>?_⟩⟩
 .show(fa 16 _).tmps.getD 6 ak=_;rw[bN U0];simp[aC]
 .obtain⟨g,P,h1,h2,h3,h4⟩:=Q.val i D;exact⟨g,P,h1,Q0,h3,h4⟩
end
end
section
open Go.Proofs.Tryz
open Go Go.Conc Go.ConcN Go.RowKit Go.Conc.Lib Go.ConcR.Gen Go.ConcN.Gen Go.Proofs.YtmhafipgbfaapaaGreatDoor.Ren
open Go.ConcR (KK WgAt wgBlock stA smA rd wr mk Payload DC0)
attribute [local simp] execOp aj aO aC resolve Deferred.ofValue invoke builtin Act.eval
variable {FL s : aN} {Post : aA -> au -> Prop} {u w : au}
def RX(k z:Nat)(s:aN)(i j:Nat):aN:=((jy k z s).extract (i*(k*z)) ((i+1)*(k*z))).extract (j*z) ((j+1)*z)
noncomputable def Ka(k m width:Nat)(s:aN)(PL:Nat->Nat->Nat->Nat)(i v:Nat):aN:=jo (iD width (dD k m (gZ (λj=>j) k) (PL i)) (tK (λj=>j) (RX k (8*width) s i) (8*width) k)) (v*(8*width)) (8*width)
theorem ZH:(prog.info? 38).map (λi=>(i.zero,i.size,i.bytes))=some (some (.agg #[.string ⟨#[]⟩,.string ⟨#[]⟩]),2,32):=by kernel_rfl
theorem Eo.acL{f n k z i B C:Nat}{l:au}(h:Eo f n k z i FL B u)(j:Hx C u l)(q:f≠C)(r:∀g,B<=g->g≠C):Eo f n k z i FL B l:=by obtain⟨c,m,o,p⟩:=h.row;refine⟨c,(j.block f h.lt q).trans m,o,λs t=>?_⟩;obtain⟨g,a,b,d,e⟩:=p s t;exact⟨g,a,b,d,e.keep (j.block g e.lt (r g b))⟩
section
variable [Payload] [Zb]
theorem Eo.co{f B k m a:Nat}(h:Eo f (dz (k*(8*a)) s.size) k (8*a) (dz (k*(8*a)) s.size) (jy k (8*a) s) w.heap.size u)(E:w.heap.size<=f)(y:u.heap[B]? =some (.cells #[.int .i32 0,.int .u32 0,.map none] 114 (0,0)))(A:B<w.heap.size)(F:∃x e z,u.heap[Zb.z]? =some (.cells x e z))(G:Zb.z<w.heap.size)(N:Zb.n<=w.heap.size)(l:B≠Zb.z/\Zb.n<=B)(K:w.heap.size<=u.heap.size):
 ∃C,acJ f B (dz (k*(8*a)) s.size) k m C (λ_=>k) (λ_=>k) (λ_ j=>j) (RX k (8*a) s) u:=by
 have o:=h.lt;obtain⟨c,t,J,v⟩:=h.row;have b:∀i,∃g,i<(dz (k*(8*a)) s.size)->c[i]? =some (aU g k k)/\w.heap.size<=g/\g≠f/\uU g k k ((RX k (8*a) s) i) u:=λi=>by
  by_cases d:i<(dz (k*(8*a)) s.size)
  .obtain⟨g,D⟩:=v i d;exact⟨g,λ_=>D⟩
  .exact⟨0,λx=>aF x d⟩
 refine⟨λi=>(b i).choose,⟨λi d=>(aQ u f i _ _ _ t).trans ((b i).choose_spec d).1,λi d j r=>?_,y,F,Q0,⟨o,λi d=>((b i).choose_spec d).2.2.2.lt⟩,⟨Q0,λi d e=>?_⟩,⟨Q0,l,λi d=>?_⟩⟩⟩
 .obtain⟨H,p,I,q⟩:=((b i).choose_spec d).2.2.2.row;exact⟨(aQ u _ _ _ _ _ p).trans (q j r).1,(aQ u _ _ _ _ _ p).trans (q j r).2⟩
 .have:=((b i).choose_spec d).2.1;rw[e]at this;omega
 .have:=((b i).choose_spec d).2.1;omega
theorem Kc(hp:Payload.ety=34)(hz:Zb.z=prog.globals.size)(k m p B:Nat)(key s:aN)(yG:1<=k)(xq:k+m<=12)(OC:1<=p)(Ri:p<=8)(hs:s.size<=60000)(Tk:key.size<=1000)(hB:w.heap[B]? =some (.cells #[.int .i32 0,.int .u32 0,.map none] 114 (0,0)))(hzr:∃x e z,w.heap[Zb.z]? =some (.cells x e z))(hN:Zb.n<=w.heap.size)(hBi:B≠Zb.z/\Zb.n<=B):
 RC bT prog jH.tWg Post 71 #[.agg #[ah k,ah m,ah (8*p:Nat),ah s.size,.string key],.string s,aJ B 0] w λx u=>∃vb J,x=aU vb (k+m) (k+m)/\w.heap.size<=vb/\(∀i,i<(dz (k*(8*p)) s.size)->gT k m (gZ (λj=>j) k) (J i))/\pE vb (k+m) (k+m) fJ (λv=>pz k m p s.size key v (λi=>Ka k m p s J i v) (dz (k*(8*p)) s.size)) u/\Hx B w u:=by
 have hBw:B<w.heap.size:=(bJ.1 hB).1;have hzw:Zb.z<w.heap.size:=let⟨_,_,_,h⟩:=hzr;(bJ.1 h).1;have X:0<k*(8*p):=Nat.mul_pos Q0 Q0;have hbd:=Er (L:=s.size) X;have kz:k*(8*p)<=12*64:=iJ Q0 Q0;have hn:(dz (k*(8*p)) s.size)<=65536:=by have:(dz (k*(8*p)) s.size)*1<=(dz (k*(8*p)) s.size)*(k*(8*p)):=Nat.mul_le_mul_left _ X;omega
 have hfs:=qC k (8*p) s X;have hds:∀i,i<(dz (k*(8*p)) s.size)->∀j,j<k->((RX k (8*p) s) i j).size=(8*p):=λi r j U=>by have T:(i+1)*(k*(8*p))<=(dz (k*(8*p)) s.size)*(k*(8*p)):=iR _ Q0;have Q:(i+1)*(k*(8*p))=i*(k*(8*p))+k*(8*p):=jk _ _;have M:(j+1)*(8*p)<=k*(8*p):=iR _ Q0;have R:(j+1)*(8*p)=j*(8*p)+(8*p):=jk _ _;unfold RX;rw[ByteArray.size_extract,ByteArray.size_extract,hfs];omega
 have hok:∀I hb pc xm sc ac C,(yI.mk pc xm sc ac I C (dz (k*(8*p)) s.size) k m B 0 p hb (λ_=>0) (λ_=>k) (λ_=>k) (λ_ j=>j) (RX k (8*p) s) λ_=>none).Ok:=λI hb pc xm sc ac C=>⟨hn,by show 0<k;omega,xq,by show 0<p;omega,Ri,λi r j U=>by show j<k+m;have:j<k:=U;omega,λi r a b _ _ h=>h,λi r j U=>hds i r j U,λi r=>aS k,λi r=>aS k⟩
 refine RC.of func71 M0 Vx (by show 3<=39;decide) λb₀ a₀ ops₀ i₀ rest₀ k₀ seg hT=>?_;change CP _ _ _ _ ⟨_,fa 39 _,_⟩ _ _;refine kg ?_;refine CP.yX (t:=101) (y:=0) (d:=3) rfl (.of M0) U0 λu1 g1=>?_;refine kg ?_;have n1:u1.heap[w.heap.size]? =some (.cells #[ah k,ah m,ah (8*p:Nat),ah s.size,.string key] 101):=g1.new;have s1:=g1.size;generalize hG:aC _ 6 _=F;have F1:F 1=.string s:=by rw[<-hG];simp[aC]
 have F2:F 2=aJ B 0:=by rw[<-hG];simp[aC]
 have F3:F 3=aJ w.heap.size 0:=by rw[<-hG];simp[aC]
 clear hG;refine CP.GD M0 M0 M0 (λi u x=>match i with|0=>x=.agg #[ah k,ah m,ah (8*p:Nat),ah s.size,.string key]|1=>x=.agg #[ah k,ah m,ah (8*p:Nat),ah s.size,.string key]|2=>x=.string s|4=>x=aJ B 0|3=>∃I,x=aU I (dz (k*(8*p)) s.size) (dz (k*(8*p)) s.size)/\w.heap.size<I/\Eo I (dz (k*(8*p)) s.size) k (8*p) (dz (k*(8*p)) s.size) (jy k (8*p) s) w.heap.size u|_=>∃C S J,x=aU C (dz (k*(8*p)) s.size) (dz (k*(8*p)) s.size)/\w.heap.size<C/\C≠B/\(∀i,i<(dz (k*(8*p)) s.size)->w.heap.size<S i/\S i≠B)/\(∀i,i<(dz (k*(8*p)) s.size)->gT k m (gZ (λj=>j) k) (J i))/\StR C (dz (k*(8*p)) s.size) (k+m) S (Ka k m p s J) u) 5 (λq u=>Hx B u1 u/\(q=false->u.heap[B]? =some (.cells #[.int .i32 0,.int .u32 0,.map none] 114 (0,0)))) (Hx B) (λu u' hk j x h=>by
  match j,h with
  |0,h=>exact h
  |1,h=>exact h
  |2,h=>exact h
  |3,h=>obtain⟨I,T,Q,M⟩:=h;exact⟨I,T,Q,M.acL hk Q0 (λg hg=>Q0)⟩
  |4,h=>exact h
  |5,h=>obtain⟨C,S,J,T,Q,M,R,a5,N⟩:=h;exact⟨C,S,J,T,Q,M,R,a5,⟨λi r=>(eX (hk.block C (fO (N.c i r)) M) _).trans (N.c i r),λi r v Y=>(eX (hk.block _ (fO (N.g i r v Y)) (R i r).2) _).trans (N.g i r v Y)⟩⟩
  |j+6,h=>obtain⟨C,S,J,T,Q,M,R,a5,N⟩:=h;exact⟨C,S,J,T,Q,M,R,a5,⟨λi r=>(eX (hk.block C (fO (N.c i r)) M) _).trans (N.c i r),λi r v Y=>(eX (hk.block _ (fO (N.g i r v Y)) (R i r).2) _).trans (N.g i r v Y)⟩⟩) ⟨Hx.refl _ _,λ_=>(g1.old B hBw).trans hB⟩ ?_ ?_
 .intro q i f u rest r O hold hJ E A;have h1:f 1=.string s:=(hold 1 M0 U0).trans F1;have h2:f 2=aJ B 0:=(hold 2 M0 U0).trans F2;have h3:f 3=aJ w.heap.size 0:=(hold 3 M0 U0).trans F3;have H:=(hJ.1.block w.heap.size Q0 Q0).trans n1;clear hold hT
  match i,r,O,E,A with
  |0,_,O,E,A=>have YF:=λj=>aQ u _ j _ _ _ H;exact kt (A _ _ (Hx.refl _ _) U1 rfl)
  |1,_,O,E,A=>have YF:=λj=>aQ u _ j _ _ _ H;exact kt (A _ _ (Hx.refl _ _) U1 rfl)
  |2,_,O,E,A=>exact kt (A _ _ (Hx.refl _ _) U1 rfl)
  |3,_,O,E,A=>have h11:f 11=.agg #[ah k,ah m,ah (8*p:Nat),ah s.size,.string key]:=E 1 11 M0 M0;have h12:f 12=.string s:=E 2 12 M0 M0;refine RC.call (dt:=fM (rg f71 1) 3) rfl (.of M0) (xs:=#[.tmp 11,.tmp 12]) (ats:=#[101,9]) j5 (vs:=#[.agg #[ah k,ah m,ah (8*p:Nat),ah s.size,.string key],.string s]) (by simp only[List.map_toArray,kM,List.map_nil,aj (show(11:Nat)<39 from by decide),aj (show(12:Nat)<39 from by decide),h11,h12]) (BQ k m (8*p) key s yG Q0 Q0 Q0 hs) ?_;rintro x Z ⟨I,rfl,q1,q2,q3⟩;refine A _ _ (Hb.x q3) (by refine⟨hJ.1.step (Hb.x q3),λh=>(q3.block B (by have:=hJ.1.size;omega)).trans (hJ.2 X5)⟩) ⟨I,rfl,by have:=hJ.1.size;omega,?_⟩;obtain⟨c,c1,c2,c3⟩:=q2.row;exact⟨c,c1,c2,λi r=>let⟨g,a,b,d,e⟩:=c3 i r;⟨g,a,by have:=hJ.1.size;omega,d,e⟩⟩
  |4,_,O,E,A=>exact kt (A _ _ (Hx.refl _ _) U1 rfl)
  |5,_,O,E,A=>
   have h10:f 10=.agg #[ah k,ah m,ah (8*p:Nat),ah s.size,.string key]:=E 0 10 M0 M0;obtain⟨I,A8,q1,q2⟩:=E 3 13 M0 M0;have Oy:f 14=aJ B 0:=E 4 14 M0 M0;have hu:=hJ.1.size;have hBu:=hJ.2 (O rfl);have hzu:∃x e z,u.heap[Zb.z]? =some (.cells x e z):=let⟨x,e,z,h⟩:=hzr;⟨x,e,z,(hJ.1.block _ Q0 (Ne.symm hBi.1)).trans ((g1.old _ hzw).trans h)⟩;obtain⟨hb,hco⟩:=q2.co (m:=m) Q0 hBu hBw hzu hzw hN hBi Q0;refine RC.call (dt:=fM (rg f71 1) 5) rfl (.of M0) (xs:=#[.tmp 10,.tmp 13,.tmp 14]) (ats:=#[101,104,126]) j5 (vs:=#[.agg #[ah k,ah m,ah (8*p:Nat),ah s.size,.string key],aU I (dz (k*(8*p)) s.size) (dz (k*(8*p)) s.size),aJ B 0]) (by simp only[List.map_toArray,kM,List.map_nil,aj (show(10:Nat)<39 from by decide),aj (show(13:Nat)<39 from by decide),aj (show(14:Nat)<39 from by decide),h10,A8,Oy]) (H9 hp hz I B (dz (k*(8*p)) s.size) k m p (8*p) s.size key hb (λ_=>k) (λ_=>k) (λ_ j=>j) (RX k (8*p) s) u (hok I hb) hco) ?_;rintro x Z ⟨C,ls,rfl,co⟩;have G:∀i,∃gp:Nat×(Nat->Nat->Nat),i<(dz (k*(8*p)) s.size)->ls i=aU gp.1 (k+m) (k+m)/\u.heap.size<=gp.1/\gT k m (gZ (λj=>j) k) gp.2/\Z.rowIs gp.1 9 (k+m) (λq=>.string (jo (iD p (dD k m (gZ (λj=>j) k) gp.2) (tK (λj=>j) ((RX k (8*p) s) i) (8*p) k)) (q*(8*p)) (8*p))):=λi=>by
    by_cases r:i<(dz (k*(8*p)) s.size)
    .obtain⟨g,P,T,Q,M,R⟩:=co.val i r;exact⟨(g,P),λ_=>⟨T,Q,M,R⟩⟩
    .exact⟨(0,λ_ _=>0),λx=>aF x r⟩
   have hx:Hx B u Z:=⟨co.size,co.keep,co.os⟩;have hlo:=co.lo;refine A _ _ hx ⟨hJ.1.step hx,λh=>by simp at h⟩ ⟨C,λi=>(G i).choose.1,λi=>(G i).choose.2,rfl,Q0,Q0,λi r=>by have h:=((G i).choose_spec r).2.1;show w.heap.size<(G i).choose.1/\(G i).choose.1≠B;omega,λi r=>((G i).choose_spec r).2.2.1,⟨λi r=>?_,λi r v Y=>?_⟩⟩
   .refine(aQ Z C i _ _ _ co.row).trans ?_;rw[Array.getElem?_ofFn,dif_pos r];exact congrArg some ((G i).choose_spec r).1
   .exact World.rowIs.cell ((G i).choose_spec r).2.2.2 Y
  |6,_,O,E,A=>have Q8:=E 5 15 M0 M0;exact kX (.assign (.tmp 15)) (λt n' o ho=>by unfold execOp;rw[ho];rfl) (A _ _ (Hx.refl _ _) U1 (by rw[aj U0];exact Q8))
  |i+7,r,_,_,_=>exact aF r (by rw[show(rg f71 1).size=7 from by kernel_rfl];omega)
 .intro q f D O hold hJ E _;have h3:f 3=aJ w.heap.size 0:=(hold 3 M0 U0).trans F3;obtain⟨C,S,J,h7,Q,M,R,a5,N⟩:=E 6 7 (by rw[show(rg f71 1).size=7 from by kernel_rfl];decide) M0;have W:=hJ.1;clear E hold hJ;have H:=(W.block w.heap.size Q0 Q0).trans n1;refine kg ?_;refine kv (aJ w.heap.size 0) ?_;have e0:D.cell? (aB w.heap.size 0)=some (ah k):=(aQ D _ 0 _ _ _ H).trans rfl;have e1:D.cell? (aB w.heap.size 1)=some (ah m):=(aQ D _ 1 _ _ _ H).trans rfl;have e2:D.cell? (aB w.heap.size 2)=some (ah (8*p:Nat)):=(aQ D _ 2 _ _ _ H).trans rfl;have e3:D.cell? (aB w.heap.size 3)=some (ah s.size):=(aQ D _ 3 _ _ _ H).trans rfl;have e4:D.cell? (aB w.heap.size 4)=some (.string key):=(aQ D _ 4 _ _ _ H).trans rfl;refine kv (ah k) ?_;refine kv (aJ w.heap.size 1) ?_;have e0:D.cell? (aB w.heap.size 0)=some (ah k):=(aQ D _ 0 _ _ _ H).trans rfl;have e1:D.cell? (aB w.heap.size 1)=some (ah m):=(aQ D _ 1 _ _ _ H).trans rfl;have e2:D.cell? (aB w.heap.size 2)=some (ah (8*p:Nat)):=(aQ D _ 2 _ _ _ H).trans rfl;have e3:D.cell? (aB w.heap.size 3)=some (ah s.size):=(aQ D _ 3 _ _ _ H).trans rfl;have e4:D.cell? (aB w.heap.size 4)=some (.string key):=(aQ D _ 4 _ _ _ H).trans rfl;refine kv (ah m) ?_;refine kw (ah (k+m:Nat)) ?_ (hr:=(λt n' o ho=>by clear hT;exact dh (a:=k) (b:=m) ho ((aj U0).trans rfl) ((aj U0).trans rfl) Q0));obtain⟨ji,U,Im⟩:=gL.1 ZH;simp only[Prod.mk.injEq]at Im;refine CP.fW (K:=.makeSlice 30 (.tmp 20) (.tmp 20)) (d:=21) aH rfl (.of M0) (dW M0) λt n' o ho=>⟨aU D.heap.size (k+m) (k+m),(Ren.tp D t n').alloc (.cells (madeCells #[.string ⟨#[]⟩,.string ⟨#[]⟩] ((k+m)*2)) 38),?_,?_⟩
  .have:=run_make (P:=prog) (Ren.tp D t n') 30 38 ji _ underlying30 U Im.1 .i64 .i64 ((k+m:Nat):Int) ((k+m:Nat):Int) Q0 (Int.le_refl _) D6 Q0;rw[Im.2.1]at this;unfold execOp;rw[ho];simp only[aj (show(20:Nat)<39 from by decide)];rw[Sem.run_bind];erw [this];rfl
  have ga:=JD.of D (.cells (madeCells #[.string ⟨#[]⟩,.string ⟨#[]⟩] ((k+m)*2)) 38);refine CP.tp (w:=D.alloc (.cells (madeCells #[.string ⟨#[]⟩,.string ⟨#[]⟩] ((k+m)*2)) 38)) ?_ t n';generalize D.alloc (.cells (madeCells #[.string ⟨#[]⟩,.string ⟨#[]⟩] ((k+m)*2)) 38)=Z at ga ⊢;refine kg ?_;refine kv (ah (k+m:Nat)) ?_;refine kg ?_;refine CP.ctl (λa' cs u=>stepG_loop) ?_;rw[<-Es];have l2:=W.size;refine Vy (w:=D) w.heap.size C D.heap.size (dz (k*(8*p)) s.size) k m p s.size key S (Ka k m p s J) hn yG xq OC Ri Q0 Tk (λi _ v _=>by have:(Ka k m p s J i v).size=8*p:=(by simp[Ka,jo,ByteArray.size]);omega) H N (aS _) ?_ (k+m) 0 Q0 _ Z ⟨by simp[aC,h3],by simp[aC,h7],by simp[aC],by simp[aC],by simp[aC]⟩ ga.hw ⟨_,ga.new,size_madeCells _ _,λj U=>aF U (dO j)⟩;intro f u4 hf k4 d4;have hf':=hf;cases hf';refine kg ?_;refine CP.out rfl rfl func71 (V:=λa=>a.tmps.getD 6 ak) YS abL (λπ a a' h=>h.tmps.getD 6) ?_;refine hT _ _ ⟨D.heap.size,J,?_,Q0,a5,d4,(Hb.x g1.hw).step (W.step (Hb.x k4))⟩;show(fa _ _).tmps.getD 6 ak=_;rw[bN U0];simp[aC,hf.h8]
def RY(k m width:Nat)(s:aN)(w:au)(x:aA)(u:au):Prop:=∃vb PL,x=aU vb (k+m) (k+m)/\w.heap.size<=vb/\(∀i,i<(dz (k*(8*width)) s.size)->gT k m (gZ (λj=>j) k) (PL i))/\pE vb (k+m) (k+m) fJ (λv=>pz k m width s.size (iw k m width s) v (λi=>Ka k m width s PL i v) (dz (k*(8*width)) s.size)) u/\Hw w u
theorem Wj:f52.body=some (.seq (.region 0 (rg f52 0) false) (.seq (.region 1 (rg f52 1) false) (.seq (.region 2 (rg f52 2) false) .ret))):=by kernel_rfl
theorem ZI(a:Act)(u:au):(results f52 a.tmps).run prog u=.ok (a.tmps.getD 8 ak) u:=by simp[results,f52,go_sem]
theorem acM(a:Act)(u:au):(results f52 a.tmps).events prog u #[]=#[]:=by simp[results,f52,go_sem]
theorem Ke(G:Payload.ety=34)(I:Zb.z=prog.globals.size)(k m i:Nat)(s:aN)(q:1<=k)(u:k+m<=12)(v:1<=i)(c:i<=8)(H:s.size<=60000)(g:∃x e z,w.heap[Zb.z]? =some (.cells x e z))(N:Zb.n<=w.heap.size):
 RC bT prog jH.tWg Post 52 #[.string s,ah k,ah m,ah (8*i:Nat)] w (RY k m i s w):=by
 refine RC.of func52 M0 Wj (by show 4<=17;decide) λC B o D r E M T=>?_;change CP _ _ _ _ ⟨_,fa 17 _,_⟩ _ _;refine kg ?_;refine CP.BP (t:=114) (d:=9) (z:=.agg #[.int .i32 0,.int .u32 0,.map none]) rfl (.of M0) (dW M0) M0 λO j=>?_;have J:O.heap[w.heap.size]? =some (.cells #[.int .i32 0,.int .u32 0,.map none] 114 (0,0)):=j.new;have X:=j.size;have y:Zb.z<w.heap.size:=let⟨_,_,_,h⟩:=g;(bJ.1 h).1;refine kg ?_;refine RC.mX (d:=14) rfl (.of M0) (xs:=#[.tmp 10,.tmp 11,.tmp 12,.tmp 13]) (ats:=#[9,3,3,3]) j5 (vs:=#[.string s,ah k,ah m,ah (8*i:Nat)]) Y2 (GX k m i s Q0 Q0 c Q0) ?_;rintro _ Q ⟨rfl,p⟩;refine kg ?_;have f:Hx w.heap.size w Q:=(Hb.x j.hw).step (Hb.x p);refine RC.mX (d:=16) rfl (.of M0) (xs:=#[.tmp 14,.tmp 15,.tmp 9]) (ats:=#[101,9,126]) j5 (vs:=#[.agg #[ah k,ah m,ah (8*i:Nat),ah s.size,.string (iw k m i s)],.string s,aJ w.heap.size 0]) Y2 (Kc G I k m i w.heap.size (iw k m i s) s q u v c H (by show 8<=1000;decide) ((p.block _ Q0).trans J) (let⟨x,e,z,h⟩:=g;⟨x,e,z,(f.block _ y Q0).trans h⟩) (by have:=f.size;omega) ⟨Q0,N⟩) ?_;rintro x Y ⟨R,P,rfl,W,K,L,A⟩;refine kg ?_;refine CP.out rfl rfl func52 (V:=λa=>a.tmps.getD 8 ak) ZI acM (λZ a S h=>h.tmps.getD 8) ?_;have U:=p.size;refine T _ _ ⟨R,P,?_,Q0,K,L,⟨?_,λb F=>?_,?_⟩⟩
 .show(fa _ _).tmps.getD 8 ak=_;rw[bN U0];simp[aC]
 .have:=(f.step A).size;omega
 .exact(f.step A).block b F Q0
 .exact(f.step A).os
end
end
section
open Go.Proofs.Tryz
open Go Go.Conc Go.ConcN Go.RowKit Go.Conc.Lib Go.ConcR.Gen Go.ConcN.Gen Go.Proofs.YtmhafipgbfaapaaGreatDoor.Ren
open Go.ConcR (KK WgAt wgBlock stA smA rd wr mk Payload DC0)
variable {Post : aA -> au -> Prop} {X Y : Nat -> aN} {g i q : Nat} {E : bf} {u w : au}
theorem pE.app{G:Nat->aN}(h:pE g q q X (λv=>if v<i then Y v++G v else Y v) u)(l:i<q):pE g q q X (λv=>if v<i+1 then Y v++G v else Y v) (u.setCell (aB g (i*2+1)) (.string (Y i++G i))):=by
 obtain⟨c,b,d,f⟩:=h.row;refine⟨_,setAt b _ _,by simp[d],λj k=>?_⟩;have:=f j k;constructor
 .rw[jN Q0];exact this.1
 .by_cases e:j=i
  .subst e;rw[C9 Q0,aI Q0]
  .rw[jN Q0,this.2];by_cases a:j<i
   .rw[aI a,aI Q0]
   .rw[av a,av Q0]
theorem pE.at{G:Nat->aN}(h:pE g q q X (λv=>if v<i then Y v++G v else Y v) u)(d:i<q):u.cell? (aB g (i*2+1))=some (.string (Y i)):=by obtain⟨c,a,e,b⟩:=h.row;rw[aQ u _ _ _ _ _ a,(b i d).2,av (iQ _)]
theorem pE.congr{Z:Nat->aN}(h:pE g q i X Y u)(e:∀j,j<i->Y j=Z j):pE g q i X Z u:=let⟨c,d,f,b⟩:=h.row;⟨c,d,f,λj a=>⟨(b j a).1,e j a▸(b j a).2⟩⟩
structure Io(xb vb k m width:Nat)(s:aN)(f:Nat->aA):Prop where
 h0:f 0=ah k
 h1:f 1=ah m
 h2:f 2=ah (8*width:Nat)
 h3:f 3=.string s
 h9:f 9=aJ xb 0
 h10:f 10=aU vb (k+m) (k+m)
section
variable [Payload] [Zb]
theorem ZJ(k m i:Nat)(s:aN)(h:k<=1000)(a:m<=1000)(hw:i<=1000)(b:s.size<=1000000):RC bT prog E Post 100 #[ah k,ah m,ah (8*i:Nat),.string s] w λx u=>x=XC k m (8*i) s.size (iw k m i s)/\Hw w u:=RC.keep U0 λw=>by
 have:=OB k m i s w h a hw b
 rwa[show(8*(i:Int))=((8*i:Nat):Int)from by omega]at this
theorem Ia(k m i len:Nat)(key:aN)(a:0<k)(d:k<=12)(e:m<=12)(b:0<i)(hw:i<=8)(c:len<=1000000)(h:key.size<=1000):RC bT prog E Post 102 #[.agg #[ah k,ah m,ah (8*i:Nat),ah len,.string key]] w λx u=>x=.string (dF k m i (dz (k*(8*i)) len) len key)/\Hw w u:=RC.keep U0 λw=>by
 have:=Ir k m i len key w a d e b hw c h
 rwa[show(8*(i:Int))=((8*i:Nat):Int)from by omega]at this
theorem rR(k m i len:Nat)(key:aN)(h:0<k)(a:k<=12)(c:0<i)(hw:i<=8)(b:len<=1000000):RC bT prog E Post 103 #[.agg #[ah k,ah m,ah (8*i:Nat),ah len,.string key]] w λx u=>x=ah (dz (k*(8*i)) len:Nat)/\Hw w u:=RC.keep U0 λw=>sZ k m (8*i) len key w h a Q0 Q0 b
theorem Oj(v st:Nat)(key b:aN)(a c d e:Int)(g:v<=1000)(s:st<=1000000)(h:key.size<=1000)(f:b.size<=1000):RC bT prog E Post 106 #[.agg #[ah a,ah c,ah d,ah e,.string key],ah v,ah st,.string b] w λx u=>x=.string (eY key v st b)/\Hw w u:=RC.keep U0 λw=>ET v st key b a c d e w g s h f
theorem Kg(v:Nat)(h:v<12):RC bT prog E Post 101 #[ah v] w λx u=>x=.string (fJ v)/\Hw w u:=RC.keep U0 λw=>Dk v w h
theorem RZ(b:aN)(i:Nat)(s:b.size=8*i)(hw:i<=8):RC bT prog E Post 104 #[.string b] w λx u=>x=aU w.heap.size (8*i) (8*i)/\lG u w.heap.size (8*i) (λq=>jI i b (q/8) (q%8))/\Hw w u:=RC.lone aH U0 (λv w t d h=>⟨h.1,h.2.1,⟨h.2.2.size,h.2.2.block,h.2.2.os⟩⟩) λt d=>Calls.mono (xA b i (Ren.tp w t d) s hw) λe u h=>⟨_,h.1,rfl,h.2.1,⟨h.2.2.size,λb a=>h.2.2.block b a λx=>x,h.2.2.os⟩⟩
theorem Wm(k m g a c:Nat)(R:Nat->Nat)(D:Nat->Nat->Nat)(y:0<k)(l:k+m<=12)(n:0<a)(hw:a<=8)(M:pV w g k (8*a) R D):RC bT prog E Post 105 #[ah k,ah m,aU g k c] w λx u=>(∃f j,x=aU f (k+m) j/\k+m<=j/\w.heap.size<=f/\∀i,i<k+m->u.cell? (aB f i)=some (.string (iO k a D i)))/\Hw w u:=
 RC.lone aH U0 (λv w t d h=>⟨h.1,⟨h.2.size,h.2.block,h.2.os⟩⟩) λt d=>Calls.mono (MW k m g a c R D (Ren.tp w t d) y l n hw ⟨M.outer,M.lt,M.rows,M.small⟩) λe u h=>by
  obtain⟨v,rfl,o,K⟩:=h
  obtain⟨f,j,rfl,q,z,r⟩:=jJ o Q0
  exact⟨_,rfl,⟨f,j,rfl,r,q,λi p=>by rw[zf o i p,nJ _ _ _ p]⟩,⟨K.size,λb s=>K.block b s λx=>x,K.os⟩⟩
end
end
section
open Go.Proofs.Tryz
open Go Go.Conc Go.ConcN Go.RowKit Go.Conc.Lib Go.ConcR.Gen Go.ConcN.Gen Go.Proofs.YtmhafipgbfaapaaGreatDoor.Ren
open Go.ConcR (KK WgAt wgBlock stA smA rd wr mk Payload DC0)
attribute [local simp] execOp aj aO aC resolve Deferred.ofValue invoke builtin Act.eval
variable {K : List Item} {T : Nat -> Nat} {N b j : Nat} {P : Program} {Post : aA -> au -> Prop} {X u w : au} {c : Array aA} {U : Nat -> Nat -> Nat} {o : Oper} {s : aN} {t E : bf} {v v' : aA} {x y : Operand} {J : Operand -> aA}
noncomputable def Sb:Code:=(.seq (.seq (.region 4 (rg f42 4) false) (.cond (.tmp 33) .skip (.exit 0))) (.seq (.block 1 (.region 6 (rg f42 6) true)) (.region 5 (rg f42 5) false)))
section
variable [Payload] [Zb] {B : List PF}
theorem Sc(C v k m d len:Nat)(s key:aN)(X:1<=k)(xq:k+m<=12)(OC:1<=d)(Ri:d<=8)(hl:len<=1000000)(I:key.size<=1000)(hx:w.heap[C]? =some (.cells #[ah k,ah m,ah (8*d:Nat),ah len,.string key] 156))(L:C≠v)
 (T:∀f u,Io C v k m d s f->Hx v w u->pE v (k+m) (k+m) fJ (λ_=>dF k m d (dz (k*(8*d)) len) len key) u->CP bT prog E Post ⟨base 42,fa 134 f,K⟩ B u):
 ∀j i,i+j=k+m->∀f u,Io C v k m d s f->f 11=ah i->Hx v w u->pE v (k+m) i fJ (λ_=>dF k m d (dz (k*(8*d)) len) len key) u->CP bT prog E Post ⟨base 42,fa 134 f,.code Sb:: .inLoop Sb:: .inBlock 0::K⟩ B u:=by
 intro j
 induction j with
 |zero=>
  intro i H f u hf Z hw V;have D:=hf;cases D;obtain rfl:i=k+m:=by omega
  unfold Sb;refine kg ?_;refine kw (ah (k+m:Nat)) ?_ (hr:=(λt A o F=>by clear T;exact dh (a:=k) (b:=m) F R4 D5 Q0));refine kv (.bool false) ?_;refine kg ?_;refine kq false ?_;refine CP.ctl (λa' cs u=>stepG_exit (k':=K) rfl) ?_;exact T _ u ⟨by simp[aC,hf.h0],by simp[aC,hf.h1],by simp only[aC];exact hf.h2,by simp[aC,hf.h3],by simp[aC,hf.h9],by simp[aC,hf.h10]⟩ hw V
 |succ j O=>
  intro i H f u hf Z hw V;have D:=hf;cases D;have W:i<k+m:=by omega
  unfold Sb;refine kg ?_;refine kw (ah (k+m:Nat)) ?_ (hr:=(λt A o F=>by clear T O;exact dh (a:=k) (b:=m) F R4 D5 Q0));refine kv (.bool true) ?_;refine kg ?_;refine kq true ?_;refine kg ?_;generalize U:aC _ 33 _=g;have z:Io C v k m d s g:=by rw[<-U];exact⟨by simp[aC,hf.h0],by simp[aC,hf.h1],by simp only[aC];exact hf.h2,by simp[aC,hf.h3],by simp[aC,hf.h9],by simp[aC,hf.h10]⟩
  have gv:g 11=ah i:=by rw[<-U];simp[aC,Z]
  have xl:C<w.heap.size:=(bJ.1 hx).1;clear U hf Z;refine CP.Li M0 M0 M0 (λq _ x=>match q with|0=>x=aU v (k+m) (k+m)|1=>x=ah i|2=>x=ah i|3=>x=.string (fJ i)|4=>x=.agg #[ah k,ah m,ah (8*d:Nat),ah len,.string key]|5=>x=.string (dF k m d (dz (k*(8*d)) len) len key)|6=>x=.agg #[.string (fJ i),.string (dF k m d (dz (k*(8*d)) len) len key)]|7=>x=aJ v (i*2)|_=>True) 8 (λq G=>Hx v u G/\pE v (k+m) (if q then i+1 else i) fJ (λ_=>dF k m d (dz (k*(8*d)) len) len key) G) (Hx v) (λ_ _ _ j x h=>h) ⟨Hx.refl _ _,V⟩ ?_ ?_
  .intro q i2 f y rest H n p hold hJ r e;have h0:f 0=ah k:=(hold 0 M0 U0).trans z.h0;have h9:f 9=aJ C 0:=(hold 9 M0 U0).trans z.h9;have h10:f 10=aU v (k+m) (k+m):=(hold 10 M0 U0).trans z.h10;have h11:f 11=ah i:=(hold 11 M0 U0).trans gv;have nb:=(hJ.1.block C (bG xl hw.size) L).trans ((hw.block C xl L).trans hx);clear hold T O
   match i2,H,n,p,r,e with
   |0,_,n,p,r,e=>exact kt (e _ _ (Hx.refl _ _) U1 rfl)
   |1,_,n,p,r,e=>exact kt (e _ _ (Hx.refl _ _) U1 rfl)
   |2,_,n,p,r,e=>exact kt (e _ _ (Hx.refl _ _) U1 rfl)
   |3,_,n,p,r,e=>have P:f 38=ah i:=r 2 38 M0 M0;exact RC.call (dt:=fM (rg f42 6) 3) rfl (.of M0) (xs:=#[.tmp 38]) (ats:=#[3]) Y1 (vs:=#[ah i]) (by simp[aj,aO,Act.eval,P]) (Kg i Q0) (λx G n=>e x G (Hb.x n.2) (by refine⟨hJ.1.step (Hb.x n.2),?_⟩;simpa using hJ.2.keep (n.2.block v hJ.2.lt)) n.1)
   |4,_,n,p,r,e=>have YF:=λj=>aQ y _ j _ _ _ nb;exact kt (e _ _ (Hx.refl _ _) U1 rfl)
   |5,_,n,p,r,e=>have Q:f 40=.agg #[ah k,ah m,ah (8*d:Nat),ah len,.string key]:=r 4 40 M0 M0;exact RC.call (dt:=fM (rg f42 6) 5) rfl (.of M0) (xs:=#[.tmp 40]) (ats:=#[156]) Y1 (vs:=#[.agg #[ah k,ah m,ah (8*d:Nat),ah len,.string key]]) (by simp[aj,aO,Act.eval,Q]) (Ia k m d len key X Q0 Q0 OC Ri hl I) (λx G n=>e x G (Hb.x n.2) (by refine⟨hJ.1.step (Hb.x n.2),?_⟩;simpa using hJ.2.keep (n.2.block v hJ.2.lt)) n.1)
   |6,_,n,p,r,e=>have h39:f 39=.string (fJ i):=r 3 39 M0 M0;have h41:f 41=.string (dF k m d (dz (k*(8*d)) len) len key):=r 5 41 M0 M0;exact kt (e _ _ (Hx.refl _ _) U1 rfl)
   |7,_,n,p,r,e=>have h36:f 36=aU v (k+m) (k+m):=r 0 36 M0 M0;have h37:f 37=ah i:=r 1 37 M0 M0;exact kt (e _ _ (Hx.refl _ _) U1 rfl)
   |8,_,n,p,r,e=>
     have R:f 42=.agg #[.string (fJ i),.string (dF k m d (dz (k*(8*d)) len) len key)]:=r 6 42 M0 M0;have S:f 43=aJ v (i*2):=r 7 43 M0 M0;have Y:=n rfl;subst Y;have J:pE v (k+m) i fJ (λ_=>dF k m d (dz (k*(8*d)) len) len key) y:=by simpa using hJ.2
     refine CP.opU (K:=.store 38 (.tmp 43) (.tmp 42)) (dt:=fM (rg f42 6) 8) aH rfl (.of M0) (dW M0) λt A o F=>⟨((Ren.tp y t A).setCell (aB v (i*2)) (.string (fJ i))).setCell (aB v (i*2+1)) (.string (dF k m d (dz (k*(8*d)) len) len key)),?_,?_⟩
     .obtain⟨c,N,c2,_⟩:=J.row;have q0:(Ren.tp y t A).cell? (aB v (i*2))=some (c[i*2]' Q0):=(aQ y _ _ _ _ _ N).trans (iU Q0);have q1:(Ren.tp y t A).cell? (aB v (i*2+1))=some (c[i*2+1]' Q0):=(aQ y _ _ _ _ _ N).trans (iU Q0);have f0:(Ren.tp y t A).frozen? (aB v (i*2))=false:=Lib.frozen_of_heap N _;have f1:(Ren.tp y t A).frozen? (aB v (i*2+1))=false:=Lib.frozen_of_heap N _;generalize dF k m d (dz (k*(8*d)) len) len key=yi at*;generalize fJ i=xi at*;clear hJ r e J nb;unfold execOp;rw[F];simp[aj,R,S];go_simp
     .refine CP.tp (w:=(y.setCell (aB v (i*2)) (.string (fJ i))).setCell (aB v (i*2+1)) (.string (dF k m d (dz (k*(8*d)) len) len key))) ?_ t A;have M:Hx v y ((y.setCell (aB v (i*2)) (.string (fJ i))).setCell (aB v (i*2+1)) (.string (dF k m d (dz (k*(8*d)) len) len key))):=(Hx.set v _ y _).step (Hx.set v _ _ _);exact e _ _ M (by refine⟨hJ.1.step M,?_⟩;simpa using J.set W) trivial
   |i2+9,H,_,_,_,_=>exact aF H (by rw[show(rg f42 6).size=9 from by kernel_rfl];omega)
  .intro q f y n hold hJ r _;have n:q=true:=n (by rw[show(rg f42 6).size=9 from by kernel_rfl];decide);subst n;have y0:=(hold 0 M0 U0).trans z.h0;have y1:=(hold 1 M0 U0).trans z.h1;have y2:=(hold 2 M0 U0).trans z.h2;have y3:=(hold 3 M0 U0).trans z.h3;have y9:=(hold 9 M0 U0).trans z.h9;have y10:=(hold 10 M0 U0).trans z.h10;have y11:=(hold 11 M0 U0).trans gv;refine kg ?_;refine kw (ah (i+1:Nat)) ?_ (hr:=(λt A o F=>by clear T O;exact dh (a:=i) (b:=1) F (by simp[aj,aC,y11]) rfl Q0));refine kg ?_;refine CP.ctl (λa' cs u=>stepG_inLoop) ?_;have:=O (i+1) Q0 (aC (aC (aC f 34 (f 11)) 35 (ah (i+1:Nat))) 11 (ah (i+1:Nat))) y ⟨by simp[aC,y0],by simp[aC,y1],by simp only[aC];exact y2,by simp[aC,y3],by simp[aC,y9],by simp[aC,y10]⟩ J2 (hw.step hJ.1) hJ.2;exact this
end
noncomputable def Sd:Code:=(.seq (.seq (.region 23 (rg f42 23) false) (.cond (.tmp 118) .skip (.exit 8))) (.seq (.block 9 (.region 25 (rg f42 25) true)) (.region 24 (rg f42 24) false)))
section
variable [Payload] [Zb] {B : List PF}
theorem Sg(F n k m d len:Nat)(s key:aN)(Y:Nat->aN)(yG:1<=k)(xq:k+m<=12)(OC:1<=d)(Ri:d<=8)(hl:len<=1000000)(R:key.size<=1000)(hx:w.heap[F]? =some (.cells #[ah k,ah m,ah (8*d:Nat),ah len,.string key] 156))(S:F≠n)(hY:∀v,v<k+m->(Y v).size<=1000000000)
 (T:∀f u,Io F n k m d s f->Hx n w u->pE n (k+m) (k+m) fJ (λv=>if v<(k+m)then Y v++dF k m d (dz (k*(8*d)) len) len key else Y v) u->CP bT prog E Post ⟨base 42,fa 134 f,K⟩ B u):
 ∀j i,i+j=k+m->∀f u,Io F n k m d s f->f 19=ah i->Hx n w u->pE n (k+m) (k+m) fJ (λv=>if v<i then Y v++dF k m d (dz (k*(8*d)) len) len key else Y v) u->CP bT prog E Post ⟨base 42,fa 134 f,.code Sd:: .inLoop Sd:: .inBlock 8::K⟩ B u:=by
 intro j
 induction j with
 |zero=>
  intro i Q f u hf hv hw hc;have H:=hf;cases H;obtain rfl:i=k+m:=by omega
  unfold Sd;refine kg ?_;refine kw (ah (k+m:Nat)) ?_ (hr:=(λt A o D=>by clear T;exact dh (a:=k) (b:=m) D R4 D5 Q0));refine kv (.bool false) ?_;refine kg ?_;refine kq false ?_;refine CP.ctl (λa' cs u=>stepG_exit (k':=K) rfl) ?_;exact T _ u ⟨by simp[aC,hf.h0],by simp[aC,hf.h1],by simp only[aC];exact hf.h2,by simp[aC,hf.h3],by simp[aC,hf.h9],by simp[aC,hf.h10]⟩ hw hc
 |succ j W=>
  intro i Q f u hf hv hw hc;have H:=hf;cases H;have I:i<k+m:=by omega
  unfold Sd;refine kg ?_;refine kw (ah (k+m:Nat)) ?_ (hr:=(λt A o D=>by clear T W;exact dh (a:=k) (b:=m) D R4 D5 Q0));refine kv (.bool true) ?_;refine kg ?_;refine kq true ?_;refine kg ?_;generalize hG:aC _ 118 _=g;have C:Io F n k m d s g:=by rw[<-hG];exact⟨by simp[aC,hf.h0],by simp[aC,hf.h1],by simp only[aC];exact hf.h2,by simp[aC,hf.h3],by simp[aC,hf.h9],by simp[aC,hf.h10]⟩
  have gv:g 19=ah i:=by rw[<-hG];simp[aC,hv]
  have xl:F<w.heap.size:=(bJ.1 hx).1;clear hG hf hv;refine CP.Li M0 M0 M0 (λq _ x=>match q with|0=>x=aU n (k+m) (k+m)|1=>x=ah i|2=>x=aU n (k+m) (k+m)|3=>x=ah i|4=>x=aJ n (i*2)|5=>x=aJ n (i*2+1)|6=>x=.string (Y i)|7=>x=.agg #[ah k,ah m,ah (8*d:Nat),ah len,.string key]|8=>x=.string (dF k m d (dz (k*(8*d)) len) len key)|9=>x=.string (Y i++dF k m d (dz (k*(8*d)) len) len key)|10=>x=aJ n (i*2)|11=>x=aJ n (i*2+1)|_=>True) 12 (λq Z=>Hx n u Z/\pE n (k+m) (k+m) fJ (λv=>if v<(if q then i+1 else i)then Y v++dF k m d (dz (k*(8*d)) len) len key else Y v) Z) (Hx n) (λ_ _ _ j x h=>h) ⟨Hx.refl _ _,hc⟩ ?_ ?_
  .intro q i2 f z rest Q y p hold hJ r e;have h0:f 0=ah k:=(hold 0 M0 U0).trans C.h0;have h9:f 9=aJ F 0:=(hold 9 M0 U0).trans C.h9;have h10:f 10=aU n (k+m) (k+m):=(hold 10 M0 U0).trans C.h10;have h19:f 19=ah i:=(hold 19 M0 U0).trans gv;have nb:=(hJ.1.block F (bG xl hw.size) S).trans ((hw.block F xl S).trans hx);clear hold T W
   match i2,Q,y,p,r,e with
   |0,_,y,p,r,e=>exact kt (e _ _ (Hx.refl _ _) U1 rfl)
   |1,_,y,p,r,e=>exact kt (e _ _ (Hx.refl _ _) U1 rfl)
   |2,_,y,p,r,e=>exact kt (e _ _ (Hx.refl _ _) U1 rfl)
   |3,_,y,p,r,e=>exact kt (e _ _ (Hx.refl _ _) U1 rfl)
   |4,_,y,p,r,e=>have aks:f 123=aU n (k+m) (k+m):=r 2 123 M0 M0;have akt:f 124=ah i:=r 3 124 M0 M0;exact kt (e _ _ (Hx.refl _ _) U1 rfl)
   |5,_,y,p,r,e=>have aku:f 125=aJ n (i*2):=r 4 125 M0 M0;exact kt (e _ _ (Hx.refl _ _) U1 rfl)
   |6,_,y,p,r,e=>have akv:f 126=aJ n (i*2+1):=r 5 126 M0 M0;have q0:z.cell? (aB n (i*2+1))=some (.string (Y i)):=(by have hq1:=p 3 M0;subst hq1;exact pE.at (u:=z) (X:=fJ) (Y:=Y) (G:=λ_=>dF k m d (dz (k*(8*d)) len) len key) (by simpa using hJ.2) I);exact kt (e _ _ (Hx.refl _ _) U1 rfl)
   |7,_,y,p,r,e=>have YF:=λj=>aQ z _ j _ _ _ nb;exact kt (e _ _ (Hx.refl _ _) U1 rfl)
   |8,_,y,p,r,e=>have M:f 128=.agg #[ah k,ah m,ah (8*d:Nat),ah len,.string key]:=r 7 128 M0 M0;exact RC.call (dt:=fM (rg f42 25) 8) rfl (.of M0) (xs:=#[.tmp 128]) (ats:=#[156]) Y1 (vs:=#[.agg #[ah k,ah m,ah (8*d:Nat),ah len,.string key]]) (by simp[aj,aO,Act.eval,M]) (Ia k m d len key yG Q0 Q0 OC Ri hl R) (λx Z y=>e x Z (Hb.x y.2) (by refine⟨hJ.1.step (Hb.x y.2),?_⟩;simpa using hJ.2.keep (y.2.block n hJ.2.lt)) y.1)
   |9,_,y,p,r,e=>have L:f 127=.string (Y i):=r 6 127 M0 M0;have N:f 129=.string (dF k m d (dz (k*(8*d)) len) len key):=r 8 129 M0 M0;exact kX (.binOp .add 9 (.tmp 127) (.tmp 129) 9) (λt A o D=>by clear hJ r e nb;exact gW (a:=Y i) (b:=dF k m d (dz (k*(8*d)) len) len key) D (by simp[aj,L]) (by simp[aj,N]) (by have:=hY i I;have:=qA k m d (dz (k*(8*d)) len) len key;omega)) (e _ _ (Hx.refl _ _) U1 rfl)
   |10,_,y,p,r,e=>have akw:f 121=aU n (k+m) (k+m):=r 0 121 M0 M0;have akx:f 122=ah i:=r 1 122 M0 M0;exact kt (e _ _ (Hx.refl _ _) U1 rfl)
   |11,_,y,p,r,e=>have aky:f 131=aJ n (i*2):=r 10 131 M0 M0;exact kt (e _ _ (Hx.refl _ _) U1 rfl)
   |12,_,y,p,r,e=>
     have O:f 130=.string (Y i++dF k m d (dz (k*(8*d)) len) len key):=r 9 130 M0 M0;have P:f 132=aJ n (i*2+1):=r 11 132 M0 M0;have YP:=y rfl;subst YP;have J:pE n (k+m) (k+m) fJ (λv=>if v<i then Y v++dF k m d (dz (k*(8*d)) len) len key else Y v) z:=by simpa using hJ.2
     refine CP.opU (K:=.store 9 (.tmp 132) (.tmp 130)) (dt:=fM (rg f42 25) 12) aH rfl (.of M0) (dW M0) λt A o D=>⟨(Ren.tp z t A).setCell (aB n (i*2+1)) (.string (Y i++dF k m d (dz (k*(8*d)) len) len key)),?_,?_⟩
     .obtain⟨c,V,c2,_⟩:=J.row;have q0:(Ren.tp z t A).cell? (aB n (i*2))=some (c[i*2]' Q0):=(aQ z _ _ _ _ _ V).trans (iU Q0);have q1:(Ren.tp z t A).cell? (aB n (i*2+1))=some (c[i*2+1]' Q0):=(aQ z _ _ _ _ _ V).trans (iU Q0);have f0:(Ren.tp z t A).frozen? (aB n (i*2))=false:=Lib.frozen_of_heap V _;have f1:(Ren.tp z t A).frozen? (aB n (i*2+1))=false:=Lib.frozen_of_heap V _;generalize Y i++dF k m d (dz (k*(8*d)) len) len key=yi at*;clear hJ r e J nb;unfold execOp;rw[D];simp[aj,O,P];go_simp
     .refine CP.tp (w:=z.setCell (aB n (i*2+1)) (.string (Y i++dF k m d (dz (k*(8*d)) len) len key))) ?_ t A;have U:Hx n z (z.setCell (aB n (i*2+1)) (.string (Y i++dF k m d (dz (k*(8*d)) len) len key))):=Hx.set n _ z _;exact e _ _ U (by refine⟨hJ.1.step U,?_⟩;simpa using J.app I) trivial
   |i2+13,Q,_,_,_,_=>exact aF Q (by rw[show(rg f42 25).size=13 from by kernel_rfl];omega)
  .intro q f z y hold hJ r _;have y:q=true:=y (by rw[show(rg f42 25).size=13 from by kernel_rfl];decide);subst y;have y0:=(hold 0 M0 U0).trans C.h0;have y1:=(hold 1 M0 U0).trans C.h1;have y2:=(hold 2 M0 U0).trans C.h2;have y3:=(hold 3 M0 U0).trans C.h3;have y9:=(hold 9 M0 U0).trans C.h9;have y10:=(hold 10 M0 U0).trans C.h10;have y19:=(hold 19 M0 U0).trans gv;refine kg ?_;refine kw (ah (i+1:Nat)) ?_ (hr:=(λt A o D=>by clear T W;exact dh (a:=i) (b:=1) D (by simp[aj,aC,y19]) rfl Q0));refine kg ?_;refine CP.ctl (λa' cs u=>stepG_inLoop) ?_;have:=W (i+1) Q0 (aC (aC (aC f 119 (f 19)) 120 (ah (i+1:Nat))) 19 (ah (i+1:Nat))) z ⟨by simp[aC,y0],by simp[aC,y1],by simp only[aC];exact y2,by simp[aC,y3],by simp[aC,y9],by simp[aC,y10]⟩ J2 (hw.step hJ.1) hJ.2;exact this
end
noncomputable def Si:Code:=(.seq (.seq (.region 19 (rg f42 19) false) (.cond (.tmp 93) .skip (.exit 6))) (.seq (.block 7 (.region 21 (rg f42 21) true)) (.region 20 (rg f42 20) false)))
section
variable [Payload] [Zb] {B : List PF}
theorem Sj(M r k m p len:Nat)(s key:aN)(st D N:Nat)(W:aN)(Y A:Nat->aN)(yG:1<=k)(xq:k+m<=12)(OC:1<=p)(Ri:p<=8)(hl:len<=1000000)(Tk:key.size<=1000)(hx:w.heap[M]? =some (.cells #[ah k,ah m,ah (8*p:Nat),ah len,.string key] 156))(hne:M≠r)(hst:st<=65536)(hA:∀v,v<k+m->w.cell? (aB D v)=some (.string (A v)))(hga:D≠r)(hca:k+m<=N)(hAs:∀v,v<k+m->(A v).size<=1000)(hY:∀v,v<k+m->(Y v).size<=1000000000)
 (hT:∀f u,Io M r k m p s f->f 12=.string W->f 13=ah st->f 17=aU D (k+m) N->Hx r w u->pE r (k+m) (k+m) fJ (λv=>if v<(k+m)then Y v++eY key v st (A v)else Y v) u->CP bT prog E Post ⟨base 42,fa 134 f,K⟩ B u):
 ∀j i,i+j=k+m->∀f u,Io M r k m p s f->f 18=ah i->f 12=.string W->f 13=ah st->f 17=aU D (k+m) N->Hx r w u->pE r (k+m) (k+m) fJ (λv=>if v<i then Y v++eY key v st (A v)else Y v) u->CP bT prog E Post ⟨base 42,fa 134 f,.code Si:: .inLoop Si:: .inBlock 6::K⟩ B u:=by
 intro j
 induction j with
 |zero=>
  intro i hi f u hf hv Mf J L hw hc;have P:=hf;cases P;obtain rfl:i=k+m:=by omega
  unfold Si;refine kg ?_;refine kw (ah (k+m:Nat)) ?_ (hr:=(λt F o I=>by clear hT;exact dh (a:=k) (b:=m) I R4 D5 Q0));refine kv (.bool false) ?_;refine kg ?_;refine kq false ?_;refine CP.ctl (λa' cs u=>stepG_exit (k':=K) rfl) ?_;exact hT _ u ⟨by simp[aC,hf.h0],by simp[aC,hf.h1],by simp only[aC];exact hf.h2,by simp[aC,hf.h3],by simp[aC,hf.h9],by simp[aC,hf.h10]⟩ U6 (by simp[aC,J]) (by simp[aC,L]) hw hc
 |succ j ih=>
  intro i hi f u hf hv Mf J L hw hc;have P:=hf;cases P;have C:i<k+m:=by omega
  unfold Si;refine kg ?_;refine kw (ah (k+m:Nat)) ?_ (hr:=(λt F o I=>by clear hT ih;exact dh (a:=k) (b:=m) I R4 D5 Q0));refine kv (.bool true) ?_;refine kg ?_;refine kq true ?_;refine kg ?_;generalize Q:aC _ 93 _=g;have H:Io M r k m p s g:=by rw[<-Q];exact⟨by simp[aC,hf.h0],by simp[aC,hf.h1],by simp only[aC];exact hf.h2,by simp[aC,hf.h3],by simp[aC,hf.h9],by simp[aC,hf.h10]⟩
  have gv:g 18=ah i:=by rw[<-Q];simp[aC,hv]
  have R:g 12=.string W:=by rw[<-Q];simp[aC,Mf]
  have S:g 13=ah st:=by rw[<-Q];simp[aC,J]
  have T:g 17=aU D (k+m) N:=by rw[<-Q];simp[aC,L]
  have xl:M<w.heap.size:=(bJ.1 hx).1;clear Q hf hv Mf J L;refine CP.Li M0 M0 M0 (λq _ x=>match q with|0=>x=aU r (k+m) (k+m)|1=>x=ah i|2=>x=aU r (k+m) (k+m)|3=>x=ah i|4=>x=aJ r (i*2)|5=>x=aJ r (i*2+1)|6=>x=.string (Y i)|7=>x=.agg #[ah k,ah m,ah (8*p:Nat),ah len,.string key]|8=>x=ah i|9=>x=ah st|10=>x=aU D (k+m) N|11=>x=ah i|12=>x=aJ D i|13=>x=.string (A i)|14=>x=.string (eY key i st (A i))|15=>x=.string (Y i++eY key i st (A i))|16=>x=aJ r (i*2)|17=>x=aJ r (i*2+1)|_=>True) 18 (λq u'=>Hx r u u'/\pE r (k+m) (k+m) fJ (λv=>if v<(if q then i+1 else i)then Y v++eY key v st (A v)else Y v) u') (Hx r) (λ_ _ _ j x h=>h) ⟨Hx.refl _ _,hc⟩ ?_ ?_
  .intro q i2 f z rest hi y e hold hJ n d;have h0:f 0=ah k:=(hold 0 M0 U0).trans H.h0;have h9:f 9=aJ M 0:=(hold 9 M0 U0).trans H.h9;have h10:f 10=aU r (k+m) (k+m):=(hold 10 M0 U0).trans H.h10;have h18:f 18=ah i:=(hold 18 M0 U0).trans gv;have h12:f 12=.string W:=(hold 12 M0 U0).trans R;have A8:f 13=ah st:=(hold 13 M0 U0).trans S;have h17:f 17=aU D (k+m) N:=(hold 17 M0 U0).trans T;have nb:=(hJ.1.block M (bG xl hw.size) hne).trans ((hw.block M xl hne).trans hx);clear hold hT ih
   match i2,hi,y,e,n,d with
   |0,_,y,e,n,d=>exact kt (d _ _ (Hx.refl _ _) U1 rfl)
   |1,_,y,e,n,d=>exact kt (d _ _ (Hx.refl _ _) U1 rfl)
   |2,_,y,e,n,d=>exact kt (d _ _ (Hx.refl _ _) U1 rfl)
   |3,_,y,e,n,d=>exact kt (d _ _ (Hx.refl _ _) U1 rfl)
   |4,_,y,e,n,d=>have h98:f 98=aU r (k+m) (k+m):=n 2 98 M0 M0;have h99:f 99=ah i:=n 3 99 M0 M0;exact kt (d _ _ (Hx.refl _ _) U1 rfl)
   |5,_,y,e,n,d=>have akA:f 100=aJ r (i*2):=n 4 100 M0 M0;exact kt (d _ _ (Hx.refl _ _) U1 rfl)
   |6,_,y,e,n,d=>have akB:f 101=aJ r (i*2+1):=n 5 101 M0 M0;have q0:z.cell? (aB r (i*2+1))=some (.string (Y i)):=(by have hq1:=e 3 M0;subst hq1;exact pE.at (u:=z) (X:=fJ) (Y:=Y) (G:=λv=>eY key v st (A v)) (by simpa using hJ.2) C);exact kt (d _ _ (Hx.refl _ _) U1 rfl)
   |7,_,y,e,n,d=>have YF:=λj=>aQ z _ j _ _ _ nb;exact kt (d _ _ (Hx.refl _ _) U1 rfl)
   |8,_,y,e,n,d=>exact kt (d _ _ (Hx.refl _ _) U1 rfl)
   |9,_,y,e,n,d=>exact kt (d _ _ (Hx.refl _ _) U1 rfl)
   |10,_,y,e,n,d=>exact kt (d _ _ (Hx.refl _ _) U1 rfl)
   |11,_,y,e,n,d=>exact kt (d _ _ (Hx.refl _ _) U1 rfl)
   |12,_,y,e,n,d=>have akC:f 106=aU D (k+m) N:=n 10 106 M0 M0;have akD:f 107=ah i:=n 11 107 M0 M0;exact kt (d _ _ (Hx.refl _ _) U1 rfl)
   |13,_,y,e,n,d=>have akE:f 108=aJ D i:=n 12 108 M0 M0;have q0:z.cell? (aB D i)=some (.string (A i)):=(eX ((hJ.1.block D (bG (fO (hA i C)) hw.size) hga).trans (hw.block D (fO (hA i C)) hga)) _).trans (hA i C);exact kt (d _ _ (Hx.refl _ _) U1 rfl)
   |14,_,y,e,n,d=>have V:f 103=.agg #[ah k,ah m,ah (8*p:Nat),ah len,.string key]:=n 7 103 M0 M0;have Z:f 104=ah i:=n 8 104 M0 M0;have afK:f 105=ah st:=n 9 105 M0 M0;have afL:f 109=.string (A i):=n 13 109 M0 M0;exact RC.call (dt:=fM (rg f42 21) 14) rfl (.of M0) (xs:=#[.tmp 103,.tmp 104,.tmp 105,.tmp 109]) (ats:=#[156,3,3,9]) Y1 (vs:=#[.agg #[ah k,ah m,ah (8*p:Nat),ah len,.string key],ah i,ah st,.string (A i)]) (by simp[aj,aO,Act.eval,V,Z,afK,afL]) (Oj i st key (A i) _ _ _ _ Q0 Q0 Tk (hAs i C)) (λx u' y=>d x u' (Hb.x y.2) (by refine⟨hJ.1.step (Hb.x y.2),?_⟩;simpa using hJ.2.keep (y.2.block r hJ.2.lt)) y.1)
   |15,_,y,e,n,d=>have U:f 102=.string (Y i):=n 6 102 M0 M0;have afM:f 110=.string (eY key i st (A i)):=n 14 110 M0 M0;exact kX (.binOp .add 9 (.tmp 102) (.tmp 110) 9) (λt F o I=>by clear hJ n d nb;exact gW (a:=Y i) (b:=eY key i st (A i)) I (by simp[aj,U]) (by simp[aj,afM]) (by have:=hY i C;have:=hAs i C;have:=rJ key i st (A i);omega)) (d _ _ (Hx.refl _ _) U1 rfl)
   |16,_,y,e,n,d=>have h96:f 96=aU r (k+m) (k+m):=n 0 96 M0 M0;have h97:f 97=ah i:=n 1 97 M0 M0;exact kt (d _ _ (Hx.refl _ _) U1 rfl)
   |17,_,y,e,n,d=>have akF:f 112=aJ r (i*2):=n 16 112 M0 M0;exact kt (d _ _ (Hx.refl _ _) U1 rfl)
   |18,_,y,e,n,d=>
     have afN:f 111=.string (Y i++eY key i st (A i)):=n 15 111 M0 M0;have afO:f 113=aJ r (i*2+1):=n 17 113 M0 M0;have YP:=y rfl;subst YP;have O:pE r (k+m) (k+m) fJ (λv=>if v<i then Y v++eY key v st (A v)else Y v) z:=by simpa using hJ.2
     refine CP.opU (K:=.store 9 (.tmp 113) (.tmp 111)) (dt:=fM (rg f42 21) 18) aH rfl (.of M0) (dW M0) λt F o I=>⟨(Ren.tp z t F).setCell (aB r (i*2+1)) (.string (Y i++eY key i st (A i))),?_,?_⟩
     .obtain⟨c,c1,c2,_⟩:=O.row;have q0:(Ren.tp z t F).cell? (aB r (i*2))=some (c[i*2]' Q0):=(aQ z _ _ _ _ _ c1).trans (iU Q0);have q1:(Ren.tp z t F).cell? (aB r (i*2+1))=some (c[i*2+1]' Q0):=(aQ z _ _ _ _ _ c1).trans (iU Q0);have f0:(Ren.tp z t F).frozen? (aB r (i*2))=false:=Lib.frozen_of_heap c1 _;have f1:(Ren.tp z t F).frozen? (aB r (i*2+1))=false:=Lib.frozen_of_heap c1 _;generalize Y i++eY key i st (A i)=yi at*;clear hJ n d O nb;unfold execOp;rw[I];simp[aj,afN,afO];go_simp
     .refine CP.tp (w:=z.setCell (aB r (i*2+1)) (.string (Y i++eY key i st (A i)))) ?_ t F;have hx2:Hx r z (z.setCell (aB r (i*2+1)) (.string (Y i++eY key i st (A i)))):=Hx.set r _ z _;exact d _ _ hx2 (by refine⟨hJ.1.step hx2,?_⟩;simpa using O.app C) trivial
   |i2+19,hi,_,_,_,_=>exact aF hi (by rw[show(rg f42 21).size=19 from by kernel_rfl];omega)
  .intro q f z y hold hJ n _;have y:q=true:=y (by rw[show(rg f42 21).size=19 from by kernel_rfl];decide);subst y;have y0:=(hold 0 M0 U0).trans H.h0;have y1:=(hold 1 M0 U0).trans H.h1;have y2:=(hold 2 M0 U0).trans H.h2;have y3:=(hold 3 M0 U0).trans H.h3;have y9:=(hold 9 M0 U0).trans H.h9;have y10:=(hold 10 M0 U0).trans H.h10;have y18:=(hold 18 M0 U0).trans gv;have y12:=(hold 12 M0 U0).trans R;have y13:=(hold 13 M0 U0).trans S;have y17:=(hold 17 M0 U0).trans T;refine kg ?_;refine kw (ah (i+1:Nat)) ?_ (hr:=(λt F o I=>by clear hT ih;exact dh (a:=i) (b:=1) I (by simp[aj,aC,y18]) rfl Q0));refine kg ?_;refine CP.ctl (λa' cs u=>stepG_inLoop) ?_;have:=ih (i+1) Q0 (aC (aC (aC f 94 (f 18)) 95 (ah (i+1:Nat))) 18 (ah (i+1:Nat))) z ⟨by simp[aC,y0],by simp[aC,y1],by simp only[aC];exact y2,by simp[aC,y3],by simp[aC,y9],by simp[aC,y10]⟩ J2 (by simp[aC,y12]) (by simp[aC,y13]) (by simp[aC,y17]) (hw.step hJ.1) hJ.2;exact this
end
noncomputable def Sk:Code:=(.seq (.seq (.region 13 (rg f42 13) false) (.cond (.tmp 65) .skip (.exit 4))) (.seq (.block 5 (.seq (.region 15 (rg f42 15) false) (.region 16 (rg f42 16) false))) (.region 14 (rg f42 14) false)))
def Wn(w u:au):au:={w with tape:=u.tape,output:=u.output}
theorem Ij.wt(h:Ij (Wn w u) u N j U T v):Ij (Wn w X) (Wn u X) N j U T v:=⟨h.own,h.rows,h.ap,⟨h.keep.os,rfl,rfl,h.keep.size,h.keep.block⟩⟩
theorem Ij.wt'(h:Ij (Wn w X) u N j U T v):Ij (Wn w u) u N j U T v:=⟨h.own,h.rows,h.ap,⟨h.keep.os,rfl,rfl,h.keep.size,h.keep.block⟩⟩
theorem Ij.hw(h:Ij (Wn w X) u N j U T v):Hw w u:=⟨h.keep.size,λb a=>h.keep.block b a λx=>x,h.keep.os⟩
theorem Wo{x:aA}{a:au}{s:Operand}(r:(Builtin.append_ #[t,t] o.type #[v,x]).run P w=.ok v' a)(h:o.op=.call {callee:=.builtin .append,args:=#[s,y],argTypes:=#[t,t]})(b:J s=v)(c:J y=x):(execOp J o).run P w=.ok (.value v') a:=by unfold execOp;simp only[h,resolve,invoke,builtin,Sem.run_bind,Sem.run_pure,Result.andThen_ok,List.map_toArray,kM,List.map_nil,b,c,r]
theorem EC(k w:Nat)(D:Nat->Nat->Nat)(n:Nat):(iO k w D n).size=8*w:=by simp[iO,nW,jo,ByteArray.size]
def pF(W:aN)(k width st j:Nat):aN:=W.extract ((st*k+j)*(8*width)) ((st*k+j)*(8*width)+8*width)
section
variable [Payload] [Zb] {B : List PF}
theorem Sl(Y V k m c st:Nat)(s W:aN)(yG:1<=k)(xq:k+m<=12)(OC:1<=c)(Ri:c<=8)(hst:st<=65536)(hW:(st+1)*(k*(8*c))<=W.size)(hWs:W.size<=100000000)
 (C:∀f u T v,Io Y V k m c s f->f 12=.string W->f 13=ah st->f 14=v->Ij (Wn w u) u (8*c) k (kQ c (pF W k c st)) T v->CP bT prog E Post ⟨base 42,fa 134 f,K⟩ B u):
 ∀j i,i+j=k->∀f u T v,Io Y V k m c s f->f 12=.string W->f 13=ah st->f 14=v->f 15=ah i->Ij (Wn w u) u (8*c) i (kQ c (pF W k c st)) T v->CP bT prog E Post ⟨base 42,fa 134 f,.code Sk:: .inLoop Sk:: .inBlock 4::K⟩ B u:=by
 intro j
 induction j with
 |zero=>
  intro i hi f u T v e Mf r z L R;have I:=e;cases I;obtain rfl:i=k:=by omega
  unfold Sk;refine kg ?_;refine kv (.bool false) ?_;refine kg ?_;refine kq false ?_;refine CP.ctl (λa' cs u=>stepG_exit (k':=K) rfl) ?_;exact C _ u T v ⟨by simp[aC,e.h0],by simp[aC,e.h1],by simp only[aC];exact e.h2,by simp[aC,e.h3],by simp[aC,e.h9],by simp[aC,e.h10]⟩ U6 (by simp[aC,r]) (by simp[aC,z]) R
 |succ j D=>
  intro i hi f u T v e Mf r z L R;have I:=e;cases I;have hin:i<k:=by omega
  unfold Sk;refine kg ?_;refine kv (.bool true) ?_;refine kg ?_;refine kq true ?_;refine kg ?_;generalize G:aC _ 65 _=g;have q:Io Y V k m c s g:=by rw[<-G];exact⟨by simp[aC,e.h0],by simp[aC,e.h1],by simp only[aC];exact e.h2,by simp[aC,e.h3],by simp[aC,e.h9],by simp[aC,e.h10]⟩
  have M:g 12=.string W:=by rw[<-G];simp[aC,Mf]
  have F:g 13=ah st:=by rw[<-G];simp[aC,r]
  have N:g 14=v:=by rw[<-G];simp[aC,z]
  have H:g 15=ah i:=by rw[<-G];simp[aC,L]
  clear G e Mf r z L;have b1:st*k+i<=1000000:=by have:st*k<=65536*12:=iJ hst Q0;omega
  have b0:st*k<=1000000:=by omega
  have Z:(st*k+i)*(8*c)+8*c<=W.size:=by
   refine bY ?_ hW;have e1:(st+1)*(k*(8*c))=(st*k+k)*(8*c):=by rw[Nat.add_mul,Nat.one_mul,<-Nat.mul_assoc,<-Nat.add_mul]
   rw[e1,<-jk];exact iR _ Q0
  obtain⟨A,hA⟩:∃A,A=(st*k+i)*(8*c):=⟨_,rfl⟩;refine kg ?_;refine kw (ah (st*k:Nat)) ?_ (hr:=(λt p o n=>by clear C D;exact jw (a:=st) (b:=k) n (by simp[aj,aC,F]) (by simp[aj,aC,q.h0]) Q0));refine kg ?_;refine kw (ah (st*k+i:Nat)) ?_ (hr:=(λt p o n=>by clear C D;exact dh (a:=st*k) (b:=i) n (by rw[aj U0];simp only[aC];rfl) (by simp[aj,aC,H]) Q0));refine kg ?_;refine kw (ah A) ?_ (hr:=(λt p o n=>by clear C D;rw[hA];exact jw (a:=st*k+i) (b:=8*c) n U3 (by rw[aj U0];exact q.h2) Q0));refine kg ?_;rw[<-hA]at Z;generalize G:aC _ 16 _=h;have e:Io Y V k m c s h:=by rw[<-G];exact⟨by simp[aC,q.h0],by simp[aC,q.h1],by simp only[aC];exact q.h2,by simp[aC,q.h3],by simp[aC,q.h9],by simp[aC,q.h10]⟩
  have O:h 12=.string W:=by rw[<-G];simp[aC,M]
  have A8:h 13=ah st:=by rw[<-G];simp[aC,F]
  have Oy:h 14=v:=by rw[<-G];simp[aC,N]
  have Q8:h 15=ah i:=by rw[<-G];simp[aC,H]
  have P:h 16=ah A:=by rw[<-G];simp[aC]
  clear G q M F N H;refine kg ?_;refine kw (ah (A+8*c:Nat)) ?_ (hr:=(λt p o n=>by clear C D;exact dh (a:=A) (b:=8*c) n (by simp[aj,aC,P]) (by rw[aj U0];exact e.h2) Q0));refine kw (.string (W.extract A (A+8*c))) ?_ (hr:=(λt p o n=>by clear C D;exact Ba (S:=W) (a:=A) (b:=A+8*c) n (by simp[aj,aC,O]) (by simp[aj,aC,P]) U3 Q0 Z Q0));refine kf (vs:=#[.string (W.extract A (A+8*c))]) (RZ _ c (by rw[ext_size _ _ _ Z];omega) Ri) ?_;rintro _ J ⟨rfl,hI,U⟩;have ec:pF W k c st i=W.extract A (A+8*c):=by rw[hA];rfl
  have Q:lG J u.heap.size (8*c) (kQ c (pF W k c st) i):=by unfold kQ;rw[ec];exact hI
  clear hI;refine CP.fW (K:=.buildSlice 159 1 #[(0,.tmp 82)]) (d:=83) aH rfl (.of M0) (dW M0) λt p o n=>⟨aU J.heap.size 1 1,(Ren.tp J t p).alloc (.cells #[aU u.heap.size (8*c) (8*c)] 25),?_,?_⟩
  .clear C D R Q U;unfold execOp;rw[n];simp[aj,aO,aC];go_simp;rfl
  have et:(((rg f42 16)[9]?).getD default).type=159:=by kernel_rfl
  have ed:(((rg f42 16)[9]?).getD default).dst=some 84:=by kernel_rfl
  refine CP.op aH rfl (o:=((rg f42 16)[9]?).getD default) M0 (by simp[Region.wanted,show(((rg f42 16)[9]?).getD default).guard=none from by kernel_rfl]) (dW M0) λt2 d2=>?_;obtain⟨v2,w2,hap,hs2⟩:=Ij.step (wr:=Wn u (Ren.tp (Ren.tp J t p) t2 d2)) (w1:=Ren.tp (Ren.tp J t p) t2 d2) (R.wt (X:=Ren.tp (Ren.tp J t p) t2 d2)) Q0 Q ⟨U.os,rfl,rfl,U.size,λb hb _=>U.block b hb⟩;refine⟨v2,w2,Wo (t:=159) (s:=.tmp 75) (y:=.tmp 83) (v:=v) (x:=aU J.heap.size 1 1) ?_ M0 (by simp[aj,aC,Oy]) Y2,?_⟩
  .rw[et];exact hap
  rw[ed,jm];refine kg ?_;refine kw (ah (i+1:Nat)) ?_ (hr:=(λt p o n=>by clear C D;exact dh (a:=i) (b:=1) n (by simp[aj,aC,Q8]) rfl Q0));refine kg ?_;refine CP.ctl (λa' cs u=>stepG_inLoop) ?_;exact D (i+1) Q0 _ w2 _ v2 ⟨by simp[aC,e.h0],by simp[aC,e.h1],by simp only[aC];exact e.h2,by simp[aC,e.h3],by simp[aC,e.h9],by simp[aC,e.h10]⟩ (by simp[aC,O]) (by simp[aC,A8]) J2 J2 hs2.wt'
end
noncomputable def Sm:Code:=(.seq (.seq (.region 9 (rg f42 9) false) (.cond (.tmp 60) .skip (.exit 2))) (.seq (.block 3 (.seq (.region 11 (rg f42 11) false) (.seq (.seq (.region 12 (rg f42 12) false) (.block 4 (.loop Sk))) (.seq (.region 17 (rg f42 17) false) (.seq (.region 18 (rg f42 18) false) (.block 6 (.loop Si))))))) (.region 10 (rg f42 10) false)))
section
variable [Payload] [Zb] {B : List PF}
theorem Sn(e p k m d len n:Nat)(s key W:aN)(D:1<=k)(H:k+m<=12)(A:1<=d)(C:d<=8)(hl:len<=1000000)(G:key.size<=1000)(L:w.heap[e]? =some (.cells #[ah k,ah m,ah (8*d:Nat),ah len,.string key] 156))(F:e≠p)(hn:dz (k*(8*d)) len=n)(hn6:n<=65536)(hW:W.size=n*(k*(8*d)))(Z:W.size<=100000000)
 (hT:∀f u,Io e p k m d s f->Hx p w u->pE p (k+m) (k+m) fJ (λv=>(dF k m d (dz (k*(8*d)) len) len key)++qz key v (λi=>iO k d (kQ d (pF W k d i)) v) n) u->CP bT prog E Post ⟨base 42,fa 134 f,K⟩ B u):
 ∀j i,i+j=n->∀f u,Io e p k m d s f->f 12=.string W->f 13=ah i->Hx p w u->pE p (k+m) (k+m) fJ (λv=>(dF k m d (dz (k*(8*d)) len) len key)++qz key v (λi=>iO k d (kQ d (pF W k d i)) v) i) u->CP bT prog E Post ⟨base 42,fa 134 f,.code Sm:: .inLoop Sm:: .inBlock 2::K⟩ B u:=by
 intro j
 induction j with
 |zero=>
  intro i hi f u h Mf y hw J;have r:=h;cases r;have O:i=n:=by omega
  have z:=(hw.block e (bJ.1 L).1 F).trans L;unfold Sm;refine kg ?_;have e0:u.cell? (aB e 0)=some (ah k):=(aQ u _ 0 _ _ _ z).trans rfl;have e1:u.cell? (aB e 1)=some (ah m):=(aQ u _ 1 _ _ _ z).trans rfl;have e2:u.cell? (aB e 2)=some (ah (8*d:Nat)):=(aQ u _ 2 _ _ _ z).trans rfl;have e3:u.cell? (aB e 3)=some (ah len):=(aQ u _ 3 _ _ _ z).trans rfl;have e4:u.cell? (aB e 4)=some (.string key):=(aQ u _ 4 _ _ _ z).trans rfl;refine kv (.agg #[ah k,ah m,ah (8*d:Nat),ah len,.string key]) ?_;refine kf (rR k m d len key D Q0 A C hl) ?_;rintro _ S ⟨rfl,M⟩;rw[hn];refine kv (.bool false) ?_;refine kg ?_;refine kq false ?_;refine CP.ctl (λT V u=>stepG_exit (k':=K) rfl) ?_;subst O;exact hT _ S ⟨by simp[aC,h.h0],by simp[aC,h.h1],by simp only[aC];exact h.h2,by simp[aC,h.h3],by simp[aC,h.h9],by simp[aC,h.h10]⟩ (hw.step (Hb.x M)) (J.keep (M.block p J.lt))
 |succ j ih=>
  intro i hi f u h Mf y hw J;have r:=h;cases r;have O:i<n:=by omega
  have z:=(hw.block e (bJ.1 L).1 F).trans L;unfold Sm;refine kg ?_;have e0:u.cell? (aB e 0)=some (ah k):=(aQ u _ 0 _ _ _ z).trans rfl;have e1:u.cell? (aB e 1)=some (ah m):=(aQ u _ 1 _ _ _ z).trans rfl;have e2:u.cell? (aB e 2)=some (ah (8*d:Nat)):=(aQ u _ 2 _ _ _ z).trans rfl;have e3:u.cell? (aB e 3)=some (ah len):=(aQ u _ 3 _ _ _ z).trans rfl;have e4:u.cell? (aB e 4)=some (.string key):=(aQ u _ 4 _ _ _ z).trans rfl;refine kv (.agg #[ah k,ah m,ah (8*d:Nat),ah len,.string key]) ?_;refine kf (rR k m d len key D Q0 A C hl) ?_;rintro _ S ⟨rfl,M⟩;rw[hn];refine kv (.bool true) ?_;refine kg ?_;refine kq true ?_;refine kg ?_;have hw1:=hw.step (Hb.x (c:=p) M);have N:=J.keep (M.block p J.lt);clear z hw J M;generalize Q:aC _ 60 _=g;have I:Io e p k m d s g:=by rw[<-Q];exact⟨by simp[aC,h.h0],by simp[aC,h.h1],by simp only[aC];exact h.h2,by simp[aC,h.h3],by simp[aC,h.h9],by simp[aC,h.h10]⟩
  have X:g 12=.string W:=by rw[<-Q];simp[aC,Mf]
  have Y:g 13=ah i:=by rw[<-Q];simp[aC,y]
  clear Q h Mf y;refine kg ?_;refine CP.ctl (λT V u=>stepG_loop) ?_;refine Sl (w:=S) e p k m d i s W D H A C Q0 (by rw[hW];exact iR _ Q0) Z ?_ k 0 Q0 _ S (λ_=>0) (.slice none 0 0) ⟨by simp[aC,I.h0],by simp[aC,I.h1],by simp only[aC];exact I.h2,by simp[aC,I.h3],by simp[aC,I.h9],by simp[aC,I.h10]⟩ (by simp[aC,X]) (by simp[aC,Y]) J2 J2 ⟨World.ownsRow_nil _ _ _ _,λi hi=>aF hi (dO _),λb hb=>(by cases hb),⟨rfl,rfl,rfl,aS _,λ_ _ _=>rfl⟩⟩;intro f u2 LB v h Mf y x14 hs;have r:=h;cases r;have R:=hs.hw;obtain⟨ge,U,rfl,hM⟩:=hs.mat Q0 (λi q=>DR _ _ _ _);refine kg ?_;refine kf (Wm k m ge d U LB _ Q0 H A C hM) ?_;rintro _ u3 ⟨⟨ga,ca,rfl,hca,hg1,hA⟩,k3⟩;refine kg ?_;have P:=(hw1.step (Hb.x (c:=p) R)).step (Hb.x (c:=p) k3);have vl:=N.lt;have hc3:=(N.keep (R.block p vl)).keep (k3.block p (bG vl R.size));have z:=(P.block e (bJ.1 L).1 F).trans L;have lc:∀n,iO k d (kQ d (pF W k d i)) n=iO k d (kQ d (pF W k d i)) n:=λ_=>rfl;have hsz:∀v,(iO k d (kQ d (pF W k d i)) v).size<=1000:=λv=>by rw[EC];omega
  refine kg ?_;refine CP.ctl (λT V u=>stepG_loop) ?_;refine Sj (w:=u3) e p k m d len s key i ga ca W (λv=>(dF k m d (dz (k*(8*d)) len) len key)++qz key v (λi=>iO k d (kQ d (pF W k d i)) v) i) (λv=>iO k d (kQ d (pF W k d i)) v) D H A C hl G z F Q0 hA (by have:=R.size;omega) hca (λv _=>hsz v) (λv _=>?_) ?_ (k+m) 0 Q0 _ u3 ⟨by simp[aC,h.h0],by simp[aC,h.h1],by simp only[aC];exact h.h2,by simp[aC,h.h3],by simp[aC,h.h9],by simp[aC,h.h10]⟩ J2 U6 (by simp[aC,y]) J2 (Hx.refl _ _) (hc3.congr λj _=>by rw[av (dO j)])
  .have h1:=sQ key v (λi=>iO k d (kQ d (pF W k d i)) v) i G (λi _=>by rw[EC];omega);have h2:=qA k m d (dz (k*(8*d)) len) len key;rw[eB];omega
  intro f u4 h Mf y x17 hw4 hc4;have r:=h;cases r;refine kg ?_;refine kw (ah (i+1:Nat)) ?_ (hr:=(λt n' o ho=>by clear hT ih;exact dh (a:=i) (b:=1) ho (by simp[aj,aC,y]) rfl Q0));refine kg ?_;refine CP.ctl (λT V u=>stepG_inLoop) ?_;exact ih (i+1) Q0 _ u4 ⟨by simp[aC,h.h0],by simp[aC,h.h1],by simp only[aC];exact h.h2,by simp[aC,h.h3],by simp[aC,h.h9],by simp[aC,h.h10]⟩ U6 J2 (P.step hw4) (hc4.congr λj hj=>by rw[aI hj,ByteArray.append_assoc];rfl)
end
theorem Wq:f42.body=some (.seq (.region 0 (rg f42 0) false) (.seq (.region 1 (rg f42 1) false) (.seq (.region 2 (rg f42 2) false) (.seq (.seq (.region 3 (rg f42 3) false) (.block 0 (.loop Sb))) (.seq (.region 7 (rg f42 7) false) (.seq (.seq (.region 8 (rg f42 8) false) (.block 2 (.loop Sm))) (.seq (.seq (.region 22 (rg f42 22) false) (.block 8 (.loop Sd))) (.seq (.region 26 (rg f42 26) false) .ret)))))))):=by kernel_rfl
theorem ZK(a:Act)(u:au):(results f42 a.tmps).run prog u=.ok (a.tmps.getD 8 ak) u:=by simp[results,f42,go_sem]
theorem acO(a:Act)(u:au):(results f42 a.tmps).events prog u #[]=#[]:=by simp[results,f42,go_sem]
theorem Om{z a d e:Int}(m:o.op=.store 156 x y)(n:J x=aJ b 0)(p:J y=.agg #[ah z,ah a,ah d,ah e,.string s])(h:w.heap[b]? =some (.cells c 156))(hc:c.size=5):(execOp J o).run prog w=.ok .skip (((((w.setCell (aB b 0) (ah z)).setCell (aB b 1) (ah a)).setCell (aB b 2) (ah d)).setCell (aB b 3) (ah e)).setCell (aB b 4) (.string s)):=by
 obtain⟨l⟩:=c
 match l,hc with
 |[x0,x1,x2,x3,x4],_=>have f:=aQ w b 0 _ _ _ h;have g:=aQ w b 1 _ _ _ h;have i:=aQ w b 2 _ _ _ h;have j:=aQ w b 3 _ _ _ h;have k:=aQ w b 4 _ _ _ h;simp at f g i j k;have q:=Lib.frozen_of_heap h 0;have r:=Lib.frozen_of_heap h 1;have u:=Lib.frozen_of_heap h 2;have v:=Lib.frozen_of_heap h 3;have A:=Lib.frozen_of_heap h 4;clear h;unfold execOp;rw[m];simp only[n,p];go_simp
theorem Ws(u:au)(b p:Nat)(h:u.heap[b]? =some (.cells (madeCells #[.int .u8 0] p) 5)):(convert 95 9 (aU b p p)).run prog u=.ok (.string (zs p)) u:=by
 have:=run_convert_bytes_arg (P:=prog) u 95 5 underlying95 underlying5 b 0 p p (List.replicate p 0) X0 (λi a=>by rw[aQ u _ _ _ _ _ h,<-jE,toList_madeCells_one];simp[List.getD,a]) 9 underlying9
 rw[this]
 congr 2
 simp[strOfNums,zs]
def Mg(k m width:Nat)(s:aN)(w:au)(x:aA)(u:au):Prop:=∃vb,x=aU vb (k+m) (k+m)/\w.heap.size<=vb/\pE vb (k+m) (k+m) fJ (λv=>pz k m width s.size (iw k m width s) v (λi=>iO k width (kQ width (pF (jy k (8*width) s) k width i)) v) (dz (k*(8*width)) s.size)) u/\Hw w u
section
variable [Payload] [Zb]
theorem Ib(k m p:Nat)(s:aN)(D:1<=k)(M:k+m<=12)(F:1<=p)(G:p<=8)(hs:s.size<=60000):
 RC bT prog E Post 42 #[ah k,ah m,ah (8*p:Nat),.string s] w (Mg k m p s w):=by
 refine RC.of func42 M0 Wq (by show 4<=134;decide) λb₀ a₀ ops₀ i₀ Z k₀ seg T=>?_;change CP _ _ _ _ ⟨_,fa 134 _,_⟩ _ _;refine kg ?_;refine kf (ZJ k m p s Q0 Q0 Q0 Q0) ?_;rintro _ q ⟨rfl,k1⟩;refine CP.BP (t:=156) (d:=9) (z:=.agg #[ah 0,ah 0,ah 0,ah 0,.string ⟨#[]⟩]) rfl (.of M0) (dW M0) M0 λu2 a2=>?_;have n2:u2.heap[q.heap.size]? =some (.cells #[ah 0,ah 0,ah 0,ah 0,.string ⟨#[]⟩] 156):=a2.new;refine CP.fU (K:=.store 156 (.tmp 9) (.tmp 24)) aH rfl (.of M0) (dW M0) λt A o' r=>⟨_,Om (b:=q.heap.size) r ((aj U0).trans rfl) ((aj U0).trans rfl) n2 rfl,?_⟩;have S:=YD n2 rfl (k:Int) (m:Int) ((8*p:Nat):Int) (s.size:Int) (iw k m p s);refine CP.tp (w:=((((u2.setCell (aB q.heap.size 0) (ah k)).setCell (aB q.heap.size 1) (ah m)).setCell (aB q.heap.size 2) (ah (8*p:Nat))).setCell (aB q.heap.size 3) (ah s.size)).setCell (aB q.heap.size 4) (.string (iw k m p s))) (CP.jO ?_) t A;generalize((((u2.setCell (aB q.heap.size 0) (ah k)).setCell (aB q.heap.size 1) (ah m)).setCell (aB q.heap.size 2) (ah (8*p:Nat))).setCell (aB q.heap.size 3) (ah s.size)).setCell (aB q.heap.size 4) (.string (iw k m p s))=u3 at S ⊢;have n3:=S.new;have s2:=a2.size;have s3:=S.size;have k3:Hw q u3:=⟨Q0,λz R=>(S.old z Q0).trans (a2.old z R),S.os.trans a2.os⟩;have y:Hw w u3:=⟨bY k1.size k3.size,λz R=>(k3.block z (bG R k1.size)).trans (k1.block z R),k3.os.trans k1.os⟩;generalize Q:aC _ 9 _=g;have g0:g 0=ah k:=by rw[<-Q];simp[aC]
 have g1:g 1=ah m:=by rw[<-Q];simp[aC]
 have g2:g 2=ah (8*p:Nat):=by rw[<-Q];simp only[aC];rfl
 have g33:g 3=.string s:=by rw[<-Q];simp[aC]
 have g9:g 9=aJ q.heap.size 0:=by rw[<-Q];simp[aC]
 clear Q n2;refine kg ?_;refine kw (ah (k+m:Nat)) ?_ (hr:=(λt A o r=>by clear T;exact dh (a:=k) (b:=m) r (by simp[aj,aC,g0]) (by simp[aj,aC,g1]) Q0));obtain⟨ji,U,Im⟩:=gL.1 (show(prog.info? 38).map (λi=>(i.zero,i.size,i.bytes))=some (some (.agg #[.string ⟨#[]⟩,.string ⟨#[]⟩]),2,32)from by kernel_rfl);simp only[Prod.mk.injEq]at Im;refine CP.fW (K:=.makeSlice 30 (.tmp 27) (.tmp 27)) (d:=28) aH rfl (.of M0) (dW M0) λt A o r=>⟨aU u3.heap.size (k+m) (k+m),(Ren.tp u3 t A).alloc (.cells (madeCells #[.string ⟨#[]⟩,.string ⟨#[]⟩] ((k+m)*2)) 38),?_,?_⟩
 .have:=run_make (P:=prog) (Ren.tp u3 t A) 30 38 ji _ underlying30 U Im.1 .i64 .i64 ((k+m:Nat):Int) ((k+m:Nat):Int) Q0 (Int.le_refl _) D6 Q0;rw[Im.2.1]at this;unfold execOp;rw[r];simp only[aj (show(27:Nat)<134 from by decide)];rw[Sem.run_bind];erw [this];rfl
 have O:=JD.of u3 (.cells (madeCells #[.string ⟨#[]⟩,.string ⟨#[]⟩] ((k+m)*2)) 38);refine CP.tp (w:=u3.alloc (.cells (madeCells #[.string ⟨#[]⟩,.string ⟨#[]⟩] ((k+m)*2)) 38)) ?_ t A;generalize u3.alloc (.cells (madeCells #[.string ⟨#[]⟩,.string ⟨#[]⟩] ((k+m)*2)) 38)=u4 at O ⊢;refine kg ?_;have xl:q.heap.size<u3.heap.size:=by omega
 have x4:=(O.old _ xl).trans n3;have ky:(iw k m p s).size<=1000:=by show(nU _).size<=1000;rw[oC];omega
 refine kg ?_;refine CP.ctl (λa' cs u=>stepG_loop) ?_;refine Sc (w:=u4) q.heap.size u3.heap.size k m p s.size s (iw k m p s) D M F G Q0 ky x4 Q0 ?_ (k+m) 0 Q0 _ u4 ⟨by simp[aC,g0],by simp[aC,g1],by simp only[aC];exact g2,by simp[aC,g33],by simp[aC,g9],by simp[aC]⟩ J2 (Hx.refl _ _) ⟨_,O.new,size_madeCells _ _,λj U=>aF U (dO j)⟩;intro f C hf W J;have B:=hf;cases B;have Y:=(W.block q.heap.size (by rw[O.size];omega) Q0).trans x4;refine kg ?_;have e0:C.cell? (aB q.heap.size 0)=some (ah k):=(aQ C _ 0 _ _ _ Y).trans rfl;have e1:C.cell? (aB q.heap.size 1)=some (ah m):=(aQ C _ 1 _ _ _ Y).trans rfl;have e2:C.cell? (aB q.heap.size 2)=some (ah (8*p:Nat)):=(aQ C _ 2 _ _ _ Y).trans rfl;have e3:C.cell? (aB q.heap.size 3)=some (ah s.size):=(aQ C _ 3 _ _ _ Y).trans rfl;have e4:C.cell? (aB q.heap.size 4)=some (.string (iw k m p s)):=(aQ C _ 4 _ _ _ Y).trans rfl;refine kv (.agg #[ah k,ah m,ah (8*p:Nat),ah s.size,.string (iw k m p s)]) ?_;refine kf (rR k m p s.size (iw k m p s) D Q0 F G Q0) ?_;rintro _ u6 ⟨rfl,k6⟩;obtain⟨n,hn⟩:∃n,n=dz (k*(8*p)) s.size:=⟨_,rfl⟩;have hP:0<k*(8*p):=Nat.mul_pos Q0 Q0;have hb:=Er (L:=s.size) hP;have I:=qC k (8*p) s hP;have hkz:k*(8*p)<=12*64:=iJ Q0 Q0;have e3:(dz (k*(8*p)) s.size)*k*(8*p)=(dz (k*(8*p)) s.size)*(k*(8*p)):=Nat.mul_assoc _ _ _;have n6:dz (k*(8*p)) s.size<=65536:=by have:(dz (k*(8*p)) s.size)*1<=(dz (k*(8*p)) s.size)*(k*(8*p)):=Nat.mul_le_mul_left _ hP;omega
 rw[<-hn]at hb I e3 n6 ⊢;have nk:n*k<=n*(k*(8*p)):=Nat.mul_le_mul_left _ (Nat.le_mul_of_pos_right _ Q0);refine kg ?_;refine kw (ah (n*k:Nat)) ?_ (hr:=(λt A o r=>by clear T;exact jw (a:=n) (b:=k) r U3 R4 Q0));refine kg ?_;refine kw (ah (n*k*(8*p):Nat)) ?_ (hr:=(λt A o r=>by clear T;exact jw (a:=n*k) (b:=8*p) r U3 (by rw[aj U0];exact hf.h2) Q0));refine kg ?_;refine kv (ah s.size) ?_;refine kw (ah (n*k*(8*p)-s.size:Nat)) ?_ (hr:=(λt A o r=>by clear T;exact GY (a:=n*k*(8*p)) (b:=s.size) r U3 U3 Q0 Q0));refine CP.fmk (t:=95) (e:=5) (z:=.int .u8 0) (by':=1) (x:=53) (m:=n*k*(8*p)-s.size) (d:=54) rfl (.of M0) (dW M0) underlying95 infoByte U0 (by simp only[aC];rfl) Q0 Q0 λu7 a7=>?_;refine kw (.string (zs (n*k*(8*p)-s.size))) ?_ (hr:=(λt A o r=>by have q0:=Ws (Ren.tp u7 t A) u6.heap.size _ a7.new;clear T;unfold execOp;rw[r];simp only[aj (show(54:Nat)<134 from by decide)];rw[Sem.run_bind];erw [q0];rfl));have H:s++zs (n*k*(8*p)-s.size)=jy k (8*p) s:=by rw[jy,<-hn,e3]
 refine kw (.string (jy k (8*p) s)) ?_ (hr:=(λt A o r=>by clear T;rw[<-H];exact gW (a:=s) (b:=zs (n*k*(8*p)-s.size)) r (by simp[aj,aC,hf.h3]) U3 Y4));refine kg ?_;have k7:Hw u6 u7:=a7.hw;have hx7:=(W.step (Hb.x (c:=u3.heap.size) k6)).step (Hb.x (c:=u3.heap.size) k7);have hc7:=(J.keep (k6.block _ J.lt)).keep (k7.block _ (bG J.lt k6.size));refine kg ?_;refine CP.ctl (λa' cs u=>stepG_loop) ?_;refine Sn (w:=u4) q.heap.size u3.heap.size k m p s.size n s (iw k m p s) (jy k (8*p) s) D M F G Q0 ky x4 Q0 hn.symm n6 I (by rw[I];omega) ?_ n 0 Q0 _ u7 ⟨by simp[aC,hf.h0],by simp[aC,hf.h1],by simp only[aC];exact hf.h2,by simp[aC,hf.h3],by simp[aC,hf.h9],by simp[aC,hf.h10]⟩ J2 J2 hx7 (hc7.congr λj _=>by show _=_++(⟨#[]⟩:aN);rw[app0]);intro f u8 hf X hc8;have B:=hf;cases B;refine kg ?_;refine CP.ctl (λa' cs u=>stepG_loop) ?_;refine Sg (w:=u4) q.heap.size u3.heap.size k m p s.size s (iw k m p s) (λv=>dF k m p (dz (k*(8*p)) s.size) s.size (iw k m p s)++qz (iw k m p s) v (λi=>iO k p (kQ p (pF (jy k (8*p) s) k p i)) v) n) D M F G Q0 ky x4 Q0 (λv _=>?_) ?_ (k+m) 0 Q0 _ u8 ⟨by simp[aC,hf.h0],by simp[aC,hf.h1],by simp only[aC];exact hf.h2,by simp[aC,hf.h3],by simp[aC,hf.h9],by simp[aC,hf.h10]⟩ J2 X (hc8.congr λj _=>by rw[av (dO j)])
 .have h1:=sQ (iw k m p s) v (λi=>iO k p (kQ p (pF (jy k (8*p) s) k p i)) v) n ky (λi _=>by rw[EC];omega);have h2:=qA k m p (dz (k*(8*p)) s.size) s.size (iw k m p s);rw[eB];omega
 intro f u9 hf N hc9;have B:=hf;cases B;refine kg ?_;refine CP.out rfl rfl func42 (V:=λa=>a.tmps.getD 8 ak) ZK acO (λπ a a' h=>h.tmps.getD 8) ?_;refine T _ _ ⟨u3.heap.size,?_,y.size,?_,?_⟩
 .show(fa _ _).tmps.getD 8 ak=_;rw[bN U0];simp[aC,hf.h10]
 .refine hc9.congr λj U=>?_;rw[aI U];unfold pz;rw[<-hn]
 .have w4:=O.hw;exact⟨bY y.size (bY w4.size N.size),λz R=>(N.block z (by have:=y.size;have:=O.size;omega) (by have:=y.size;omega)).trans ((w4.block z (by have:=y.size;omega)).trans (y.block z R)),N.os.trans (w4.os.trans y.os)⟩
end
theorem acP{x y:aA}(h:w.heap[b]? =some (.cells #[x,y] t))(n d:aN):Sto b (.cells #[.string n,.string d] t) w ((w.setCell (aB b 0) (.string n)).setCell (aB b 1) (.string d)):=by have a:=setAt h 0 (.string n);have c:=setAt a 1 (.string d);exact⟨by simp[World.setCell],c,(Q9 w b 0 1 _ _).1,rfl⟩
theorem Ic{n d:aN}(e:o.op=.store 38 x y)(f:J x=aJ b 0)(g:J y=.agg #[.string n,.string d])(h:w.heap[b]? =some (.cells #[v,v'] 38)):(execOp J o).run prog w=.ok .skip ((w.setCell (aB b 0) (.string n)).setCell (aB b 1) (.string d)):=by have c:=aQ w b 0 _ _ _ h;have a:=aQ w b 1 _ _ _ h;simp at c a;have i:=Lib.frozen_of_heap h 0;have j:=Lib.frozen_of_heap h 1;clear h;unfold execOp;rw[e];simp only[f,g];go_simp
theorem Sq(n:Nat)(N F:Nat->aN)(i:Nat)(h:∀q,q<i->(N q).size<=12/\(F q).size<=200):(dI n N F i).size<=1+i*215:=by
 induction i with
 |zero=>exact Nat.le_of_eq (dB 1 n)
 |succ i a=>have b:=a λq d=>h q Q0;have c:=h i Q0;simp only[dI,eB,pG];omega
structure SmF(a:Option Addr)(n cap b i:Nat)(f:Nat->aA):Prop where
 h3:f 3=aJ b 0
 h10:f 10=.slice a n cap
 h11:f 11=ah n
 h12:f 12=ah i
theorem Wt:f111.body=some (.seq (.region 0 (rg f111 0) false) (.seq (.region 1 (rg f111 1) false) (.seq (.region 2 (rg f111 2) false) (.seq (.seq (.region 3 (rg f111 3) false) (.block 0 (.loop (.seq (.region 4 (rg f111 4) false) (.seq (.cond (.tmp 13) .skip (.exit 0)) (.seq (.block 1 (.seq (.region 5 (rg f111 5) false) (.seq (.region 6 (rg f111 6) false) (.seq (.region 7 (rg f111 7) false) (.seq (.region 8 (rg f111 8) false) (.region 9 (rg f111 9) false)))))) (.region 10 (rg f111 10) false))))))) (.seq (.region 11 (rg f111 11) false) .ret))))):=by kernel_rfl
theorem ZL(a:Act)(u:au):(results f111 a.tmps).run prog u=.ok (a.tmps.getD 2 ak) u:=by simp[results,f111,go_sem]
theorem acQ(a:Act)(u:au):(results f111 a.tmps).events prog u #[]=#[]:=by simp[results,f111,go_sem]
noncomputable def smX:Code:=match f111.body with|some (.seq _ (.seq _ (.seq _ (.seq (.seq _ (.block _ (.loop c))) _))))=>c|_=>.skip
theorem ED:smX=(.seq (.region 4 (rg f111 4) false) (.seq (.cond (.tmp 13) .skip (.exit 0)) (.seq (.block 1 (.seq (.region 5 (rg f111 5) false) (.seq (.region 6 (rg f111 6) false) (.seq (.region 7 (rg f111 7) false) (.seq (.region 8 (rg f111 8) false) (.region 9 (rg f111 9) false)))))) (.region 10 (rg f111 10) false)))):=by kernel_rfl
section
variable [Payload] [Zb] {B : List PF}
theorem Wu(g m n p b:Nat)(a:Option Addr)(ha:0<n->a=some ⟨g,m,none⟩)(N F:Nat->aN)(hn:n<=8)(Y:∀i,i<n->(N i).size<=12)(X:∀i,i<n->(F i).size<=200)(L:kH w g m n N F)(hb:w.heap.size<=b)
 (Z:∀f u,SmF a n p b n f->Hb b w u->Bs b b (aJ b 0) (dI n N F n) u->CP bT prog E Post ⟨base 111,fa 34 f,K⟩ B u):
 ∀j i,i+j=n->∀f u,SmF a n p b i f->Hb b w u->Bs b b (aJ b 0) (dI n N F i) u->CP bT prog E Post ⟨base 111,fa 34 f,.code smX:: .inLoop smX:: .inBlock 0::K⟩ B u:=by
 intro j
 induction j with
 |zero=>
  intro i hi f u h hw D;have r:=h;cases r;obtain rfl:i=n:=by omega
  rw[ED];refine kg ?_;refine kv (.bool false) ?_;refine kg ?_;refine kq false ?_;refine CP.ctl (λa' cs u=>stepG_exit (k':=K) rfl) ?_;exact Z _ u ⟨by simp[aC,h.h3],by simp[aC,h.h10],by simp[aC,h.h11],by simp[aC,h.h12]⟩ hw D
 |succ j ih=>
  intro i hi f u h hw D;have r:=h;cases r;have c:i<n:=by omega
  obtain rfl:=ha Q0;have hNi:=Y i c;have hDi:=X i c;have hsz:(dI n N F i).size<=1+i*215:=Sq n N F i λq hq=>⟨Y q Q0,X q Q0⟩;have W:g<b:=bG (fO (L i c).1) hb;have c0:=(eX (hw.block g W) (m+i*2)).trans (L i c).1;have c1:=(eX (hw.block g W) (m+i*2+1)).trans (L i c).2;rw[ED];refine kg ?_;refine kv (.bool true) ?_;refine kg ?_;refine kq true ?_;refine kg ?_;refine kv (aJ g (m+i*2)) ?_;have e0:u.cell? (aB g (m+i*2))=some (.string (N i)):=c0;have e1:u.cell? (aB g (m+i*2+1))=some (.string (F i)):=c1;refine kv (.agg #[.string (N i),.string (F i)]) ?_;refine CP.BP (t:=38) (d:=5) (z:=.agg #[.string ⟨#[]⟩,.string ⟨#[]⟩]) rfl (.of M0) (dW M0) M0 λR C=>?_;have n1:R.heap[u.heap.size]? =some (.cells #[.string ⟨#[]⟩,.string ⟨#[]⟩] 38):=C.new;refine CP.fU (K:=.store 38 (.tmp 5) (.tmp 15)) aH rfl (.of M0) (dW M0) λt n' o' M=>⟨_,Ic (n:=N i) (d:=F i) (b:=u.heap.size) M ((aj U0).trans rfl) ((aj U0).trans rfl) n1,?_⟩;have x:=acP n1 (N i) (F i);refine CP.tp (w:=(R.setCell (aB u.heap.size 0) (.string (N i))).setCell (aB u.heap.size 1) (.string (F i))) (CP.jO ?_) t n';generalize(R.setCell (aB u.heap.size 0) (.string (N i))).setCell (aB u.heap.size 1) (.string (F i))=u2 at x ⊢;have A:=x.new;have bl:=D.lt;have k:Hw u u2:=⟨by rw[x.size,C.size];omega,λz s=>(x.old z Q0).trans (C.old z s),x.os.trans C.os⟩;have U:Bs b b (aJ b 0) (dI n N F i) u2:=D.keep k;have h2:Hb b w u2:=hw.trans ⟨k.size,λz s=>k.block z Q0,k.os⟩;have T:u.heap.size≠b:=by omega
  generalize G:aC _ 5 _=e;have e3:e 3=aJ b 0:=by rw[<-G];simp[aC,h.h3]
  have e5:e 5=aJ u.heap.size 0:=by rw[<-G];simp[aC]
  have H:e 10=.slice (some ⟨g,m,none⟩) n p:=by rw[<-G];simp[aC,h.h10]
  have I:e 11=ah n:=by rw[<-G];simp[aC,h.h11]
  have J:e 12=ah i:=by rw[<-G];simp[aC,h.h12]
  clear G h;refine kg ?_;refine kv (aJ u.heap.size 0) ?_;have Q:u2.cell? (aB u.heap.size 0)=some (.string (N i)):=(aQ u2 _ 0 _ _ _ A).trans rfl;refine kv (.string (N i)) ?_;refine kv (ah ((N i).size)) ?_;refine kf (vs:=#[ah ((N i).size),ah 1]) (lu _ 1 Q0 U0) ?_;rintro _ u3 ⟨rfl,v⟩;refine kf (vs:=#[aJ b 0,.string (lo 1 (N i).size)]) (wsO b b (dI n N F i) _ (.inr (U.keep v)) (by rw[dB];omega)) ?_;rintro _ S ⟨rfl,b4,k4,o4⟩;have O:=(o4 u.heap.size _ _ _ ((v.block _ (bJ.1 A).1).trans A) U0 T).trans ((v.block _ (bJ.1 A).1).trans A);have h4:Hb b w S:=(h2.trans ⟨v.size,λz s=>v.block z (Nat.lt_trans s U.lt),v.os⟩).trans k4;refine kg ?_;refine kv (aJ u.heap.size 0) ?_;have Q:S.cell? (aB u.heap.size 0)=some (.string (N i)):=(aQ S _ 0 _ _ _ O).trans rfl;refine kv (.string (N i)) ?_;refine kf (vs:=#[aJ b 0,.string (N i)]) (wsO b b _ _ (.inr b4) (by rw[eB,dB];omega)) ?_;rintro _ u5 ⟨rfl,V,k5,o5⟩;have P:=(o5 u.heap.size _ _ _ O U0 T).trans O;refine kg ?_;refine kv (aJ u.heap.size 1) ?_;have Q:u5.cell? (aB u.heap.size 1)=some (.string (F i)):=(aQ u5 _ 1 _ _ _ P).trans rfl;refine kv (.string (F i)) ?_;refine kv (ah ((F i).size)) ?_;refine kf (vs:=#[ah ((F i).size),ah 2]) (lu _ 2 Q0 U0) ?_;rintro _ u6 ⟨rfl,y⟩;refine kf (vs:=#[aJ b 0,.string (lo 2 (F i).size)]) (wsO b b _ _ (.inr (V.keep y)) (by rw[eB,eB,dB,dB];omega)) ?_;rintro _ u7 ⟨rfl,b7,k7,o7⟩;have n6:=(y.block _ (bJ.1 P).1).trans P;have n7:=(o7 u.heap.size _ _ _ n6 U0 T).trans n6;refine kg ?_;refine kv (aJ u.heap.size 1) ?_;have Q:u7.cell? (aB u.heap.size 1)=some (.string (F i)):=(aQ u7 _ 1 _ _ _ n7).trans rfl;refine kv (.string (F i)) ?_;refine kf (vs:=#[aJ b 0,.string (F i)]) (wsO b b _ _ (.inr b7) (by rw[eB,eB,eB,dB,dB];omega)) ?_;rintro _ u8 ⟨rfl,b8,k8,o8⟩;have h8:Hb b w u8:=(((h4.trans k5).trans ⟨y.size,λz s=>y.block z (Nat.lt_trans s V.lt),y.os⟩).trans k7).trans k8;refine kg ?_;refine kw (ah (i+1:Nat)) ?_ (hr:=(λt n' o M=>by clear Z ih;exact dh (a:=i) (b:=1) M ((aj U0).trans J) rfl Q0));refine kg ?_;refine CP.ctl (λa' cs u=>stepG_inLoop) ?_;rw[<-ED];exact ih (i+1) Q0 _ u8 ⟨by simp[aC,e3],by simp[aC,H],by simp[aC,I],by simp[aC]⟩ h8 (by
   have e:dI n N F (i+1)=dI n N F i++lo 1 (N i).size++N i++lo 2 (F i).size++F i:=by simp only[dI,nE,lo,ByteArray.append_assoc]
   rw[e];exact b8)
theorem Oo(g b n c:Nat)(N F:Nat->aN)(a:Option Addr)(H:0<n->a=some ⟨g,b,none⟩)(J:n<=8)(G:∀i,i<n->(N i).size<=12)(D:∀i,i<n->(F i).size<=200)(C:kH w g b n N F):
 RC bT prog E Post 111 #[.slice a n c] w λx u=>x=.string (dI n N F n)/\Hw w u:=by
 refine RC.of func111 M0 Wt (by show 1<=34;decide) λq m o s r v seg T=>?_;change CP _ _ _ _ ⟨_,fa 34 _,_⟩ _ _;refine kg ?_;refine CP.BP (t:=124) (d:=3) (z:=.agg #[.pointer none,.slice none 0 0]) rfl (.of M0) (dW M0) M0 λO e=>?_;have B:Bs w.heap.size w.heap.size (.pointer none) ⟨#[]⟩ O:=Bt.fresh e.new;refine kg ?_;refine kv (ah n) ?_;refine kf (lu n 1 Q0 U0) ?_;rintro _ U ⟨rfl,k⟩;refine kf (vs:=#[aJ w.heap.size 0,.string (lo 1 n)]) (wsS _ _ ⟨#[]⟩ _ (.inl (B.keep k)) (by rw[dB];decide)) ?_;rintro _ y ⟨rfl,p,K⟩;rw[app0']at p;have S:=e.size;have kw:Hb w.heap.size w y:=(e.hw.trans ⟨k.size,λz R=>k.block z Q0,k.os⟩).trans K;refine kg ?_;refine kv (ah n) ?_;refine kg ?_;refine CP.ctl (λA Q u=>stepG_loop) ?_;rw[<-ED];refine Wu (w:=w) g b n c w.heap.size a H N F J G D C (aS _) ?_ n 0 Q0 _ y ⟨by simp[aC],by simp[aC],by simp[aC],by simp[aC]⟩ kw p;intro f W I L b4;have j:=I;cases j;refine kg ?_;refine kf (sgS _ _ _ _ b4 (by have h:∀i,0<(dI n N F i).size:=λi=>(by induction i with|zero=>exact Nat.lt_of_lt_of_eq U0 (dB 1 n).symm|succ i ih=>(simp only[dI,eB];omega));exact h n)) ?_;rintro _ X ⟨rfl,P,M⟩;refine kg ?_;refine CP.out rfl rfl func111 (V:=λa=>a.tmps.getD 2 ak) ZL acQ (λY a A h=>h.tmps.getD 2) ?_;refine T _ _ ⟨?_,L.trans M⟩;show(fa _ _).tmps.getD 2 ak=_;rw[bN U0];simp[aC]
end
end
section
open Go.Proofs.Tryz
open Go Go.Conc Go.ConcN Go.RowKit Go.Conc.Lib Go.ConcR.Gen Go.ConcN.Gen Go.Proofs.YtmhafipgbfaapaaGreatDoor.Ren
open Go.ConcR (KK WgAt wgBlock stA smA rd wr mk Payload DC0)
variable {F f : Nat -> aA} {L : List (Nat × Obj)} {N bp bs bz d dn i l r t : Nat} {O : aD} {P : Program} {Post : aA -> au -> Prop} {b c : Frame} {A : List Frame} {ds : List Deferred} {k : List Item} {Zvops : Array Oper} {R : List Nat} {E : bf} {p : au} {x : Bool} {y : aN} {z : aA}
section
variable [Payload] [Zb] {fn : Func} {x : aA}
theorem EF(P:Program)(r:aN)(c:Int)(u:au)(e:Array Event):(Extern.BytealgIndexByte.indexByte #[.string r,.int .u8 c]).events P u e=e:=by
 change Sem.events P (do
  let b <-Extern.Bytes.bytesOf (.string r)
  let a <-Extern.Bytes.asByte (.int .u8 c)
  match(List.range b.size).find? λi=>b[i]! ==a with
  |some i=>pure (goInt i)
  |none=>pure (goInt (-1))) u e=_
 simp only[Extern.Bytes.bytesOf,Extern.Bytes.asByte,Sem.events_bind,Sem.run_pure,Sem.events_pure,Result.evThen_ok]
 split<;>simp
theorem eG(x:aA):(fa N f).eval (.const x)=x:=rfl
theorem jB(t:bf)(r:aN)(u:au)(e:Array Event):(Builtin.len_ #[9] t #[.string r]).events prog u e=e:=by simp[Builtin.len_,go_sem]
theorem Ww(u:au):(do pure (Go.Next.value (<-Instr.index 9 (.string ⟨#[47]⟩) (ah 0))):Sem Go.Next).run prog u=.ok (.value (.int .u8 47)) u:=by simp[Instr.index,go_sem];rfl
theorem ZM(u:au):(do pure (Go.Next.value (<-Instr.index 9 (.string ⟨#[47]⟩) (ah 0))):Sem Go.Next).events prog u #[]=#[]:=by simp[Instr.index,go_sem]
theorem RO.leave1(s:St O p)(e:b.kind=.normal)(a:prog.funcs[b.fn]? =some fn)(h:fn.results=#[.tmp t])(g:t<N)(i:f t=x)
 (T:RO prog E Post d O p L (gr (c.finish x) A)):RO prog E Post d O p L (gr {b.atR (fd N f []) k with mode:=.returning} (c::A)):=by
 refine RO.leave s e rfl a (λu _ _=>⟨?_,?_⟩) T
 .have:(fd N f []).tmps.getD t ak=x:=(bN g).trans i;simp[results,h];simpa[oP]using this
 .rw[events_results_tmp h];simp
theorem acR(s:St O p)(r:aN)(T:RO prog E Post d O p L (gr (c.finish (ah (Lib.indexByte r.data.toList 47))) A)):∀x,f264.body=some x->RO prog E Post d O p L (gr ((base 264).atR (Ren.ent #[.string r,.int .u8 47] 8) [.code x]) (c::A)):=by
 intro x f;obtain rfl:=gH (f:some _=some x);clear f;rw[uT (by show 2<=8;decide)];refine RO.seq s<|RO.region s (l:=[0]) M0 ?_;refine RO.fK (x:=ah 0) (t:=4) s rfl (.inr (.of M0)) ?_;refine RO.jO s<|RO.seq s<|RO.region s (l:=[0,1,2,3]) M0 ?_;refine RO.fC (x:=0) (t:=5) s rfl U0 (.inl (.of M0)) ?_;refine RO.fC (x:=1) (t:=6) s rfl U0 (.inl (.of M0)) ?_;refine RO.fX (K:=.call {callee:=.value (.func 268),args:=#[.tmp 5,.tmp 6],argTypes:=#[9,5]}) (t:=7) (x:=ah (Lib.indexByte r.data.toList 47)) s rfl (.of M0) U2 (λu o b=>?_) ?_
 .have e:#[Operand.tmp 5,.tmp 6].map (fa 8 (aC (aC (aC (λi=>(#[.string r,.int .u8 47]:Array aA).getD i ak) 4 (ah 0)) 5 (.string r)) 6 (.int .u8 47))).eval=#[.string r,.int .u8 47]:=by simp[aj,aC]
  constructor
  .refine(El b func268 M0 M0 M0 (x:=Extern.BytealgIndexByte.indexByte) M0).trans ?_
   erw [e,Lib.run_indexByteString]
   rfl
  .intro fn;have h:=JC (w:=u) (a:=fa 8 (aC (aC (aC (λi=>(#[.string r,.int .u8 47]:Array aA).getD i ak) 4 (ah 0)) 5 (.string r)) 6 (.int .u8 47))) b func268 M0 M0 M0 (x:=Extern.BytealgIndexByte.indexByte) M0
   erw [h,e,EF]
   rw[seen_def];simp[seenStep]
 refine RO.fC (x:=7) (t:=4) s rfl U0 (.inr (.of M0)) ?_;refine RO.jO s<|RO.ret s rfl<|RO.leave1 (t:=4) s rfl func264 M0 U0 J2 T
theorem acS(s:St O p)(r:aN)(T:RO prog E Post d O p L (gr (c.finish (ah (Lib.indexByte r.data.toList 47))) A)):∀x,f256.body=some x->RO prog E Post d O p L (gr ((base 256).atR (Ren.ent #[.string r,.string ⟨#[47]⟩] 143) [.code x]) (c::A)):=by
 intro x b;obtain rfl:=gH (b:some _=some x);clear b;rw[uT (by show 2<=143;decide)];refine RO.seq s<|RO.region s (l:=[0]) M0 ?_;refine RO.fK (x:=ah 0) (t:=4) s rfl (.inr (.of M0)) ?_;refine RO.jO s<|RO.seq s<|RO.region s (l:=[0,1,2]) M0 ?_;refine RO.fC (x:=1) (t:=14) s rfl U0 (.inl (.of M0)) ?_;refine RO.fP (K:=.call {callee:=.builtin .len,args:=#[.tmp 14],argTypes:=#[9]}) (t:=15) (x:=ah 1) s rfl (.of M0) U2 (λu o a=>by constructor<;>(unfold execOp;simp only[a];simp[aj,aO,eG,aC,resolve,Deferred.ofValue,invoke,builtin,jB,go_sem])) ?_;refine RO.fC (x:=15) (t:=5) s rfl U0 (.inr (.of M0)) ?_;refine RO.jO s<|RO.seq s<|RO.block s<|RO.seq s<|RO.region s (l:=[0,1,2,3,4,5,6,7]) M0 ?_;refine RO.fC (x:=5) (t:=17) s rfl U0 (.inl (.of M0)) ?_;refine RO.fP (K:=.binOp .eql 3 (.tmp 17) (.const (ah 0)) 3) (t:=18) (x:=.bool false) s rfl (.of M0) U2 (λu o a=>by constructor<;>(unfold execOp;simp only[a];simp[aj,aO,eG,aC,resolve,Deferred.ofValue,invoke,builtin,jB,go_sem])) ?_;refine RO.fC (x:=18) (t:=19) s rfl U0 (.inl (.of M0)) ?_;refine RO.gP (K:=.move (.tmp 1)) (t:=20) (x:=.string ⟨#[47]⟩) s rfl ⟨_,rfl,rfl,rfl,by simp[Region.wanted,yielded,fd,fa,aC]⟩ U2 (λu o a=>by constructor<;>(unfold execOp;simp only[a];simp[aj,aO,eG,aC,resolve,Deferred.ofValue,invoke,builtin,jB,go_sem])) ?_;refine RO.gP (K:=.move (.tmp 0)) (t:=21) (x:=.string r) s rfl ⟨_,rfl,rfl,rfl,by simp[Region.wanted,yielded,fd,fa,aC]⟩ U2 (λu o a=>by constructor<;>(unfold execOp;simp only[a];simp[aj,aO,eG,aC,resolve,Deferred.ofValue,invoke,builtin,jB,go_sem])) ?_;refine RO.gP (K:=.binOp .eql 9 (.tmp 20) (.tmp 21) 9) (t:=22) (x:=.bool ([47]==r.toList)) s rfl ⟨_,rfl,rfl,rfl,by simp[Region.wanted,yielded,fd,fa,aC]⟩ U2 (λu o a=>by constructor<;>(unfold execOp;simp only[a];simp[aj,aO,eG,aC,resolve,Deferred.ofValue,invoke,builtin,jB,go_sem])) ?_;refine RO.fP (K:=.pick (.tmp 19) (.const (.bool true)) (.tmp 22)) (t:=23) (x:=.bool ([47]==r.toList)) s rfl (.of M0) U2 (λu o a=>by constructor<;>(unfold execOp;simp only[a];simp[aj,aO,eG,aC,resolve,Deferred.ofValue,invoke,builtin,jB,go_sem])) ?_;refine RO.fC (x:=23) (t:=16) s rfl U0 (.inr (.of M0)) ?_;refine RO.jO s<|RO.cond s (t:=[47]==r.toList) K3 ?_;cases h:([47]==r.toList)with
 |true=>
  have e:r.toList=[47]:=(eq_of_beq h).symm;have f:r.data.toList=[47]:=by rw[<-e,Lib.toList_data]
  have z:Lib.indexByte r.data.toList 47=0:=by rw[f];rfl
  rw[z]at T;refine RO.seq s<|RO.region s (l:=[0]) M0 ?_;refine RO.fK (x:=ah 0) (t:=4) s rfl (.inr (.of M0)) ?_;exact RO.jO s<|RO.ret s rfl<|RO.leave1 (t:=4) s rfl func256 M0 U0 J2 T
 |false=>refine RO.seq s<|RO.region s (l:=[0,1,2]) M0 ?_;refine RO.fC (x:=5) (t:=25) s rfl U0 (.inl (.of M0)) ?_;refine RO.fP (K:=.binOp .eql 3 (.tmp 25) (.const (ah 1)) 3) (t:=26) (x:=.bool true) s rfl (.of M0) U2 (λu o a=>by constructor<;>(unfold execOp;simp only[a];simp[aj,aO,eG,aC,resolve,Deferred.ofValue,invoke,builtin,jB,go_sem])) ?_;refine RO.fC (x:=26) (t:=24) s rfl U0 (.inr (.of M0)) ?_;refine RO.jO s<|RO.cond s (t:=true) K3 ?_;refine RO.seq s<|RO.region s (l:=[0,1,2,3,4]) M0 ?_;refine RO.fC (x:=0) (t:=27) s rfl U0 (.inl (.of M0)) ?_;refine RO.fC (x:=1) (t:=28) s rfl U0 (.inl (.of M0)) ?_;refine RO.fP (K:=.index 9 (.tmp 28) (.const (ah 0))) (t:=29) (x:=.int .u8 47) s rfl (.of M0) U2 (λu o a=>by unfold execOp;simp only[a];rw[aj U0,eG];exact⟨Ww u,ZM u⟩) ?_;refine RO.fE (g:=264) (xs:=#[.tmp 27,.tmp 29]) (ats:=#[9,5]) (vs:=#[.string r,.int .u8 47]) s rfl (.of (d:=some 30) M0) func264 M0 rfl X4 ?_;refine acR s r ?_ _ rfl;rw[iN (dt:=30) M0];refine RO.fC (x:=30) (t:=4) s rfl U0 (.inr (.of M0)) ?_;exact RO.jO s<|RO.ret s rfl<|RO.leave1 (t:=4) s rfl func256 M0 U0 J2 T
theorem acT(s:St O p)(r:aN)(T:RO prog E Post d O p L (gr (c.finish (ah (Lib.indexByte r.data.toList 47))) A)):∀x,f245.body=some x->RO prog E Post d O p L (gr ((base 245).atR (Ren.ent #[.string r,.string ⟨#[47]⟩] 8) [.code x]) (c::A)):=by intro x h;obtain rfl:=gH (h:some _=some x);clear h;rw[uT (by show 2<=8;decide)];refine RO.seq s<|RO.region s (l:=[0]) M0 ?_;refine RO.fK (x:=ah 0) (t:=4) s rfl (.inr (.of M0)) ?_;refine RO.jO s<|RO.seq s<|RO.region s (l:=[0,1,2,3]) M0 ?_;refine RO.fC (x:=0) (t:=5) s rfl U0 (.inl (.of M0)) ?_;refine RO.fC (x:=1) (t:=6) s rfl U0 (.inl (.of M0)) ?_;refine RO.fE (g:=256) (xs:=#[.tmp 5,.tmp 6]) (ats:=#[9,9]) (vs:=#[.string r,.string ⟨#[47]⟩]) s rfl (.of (d:=some 7) M0) func256 M0 rfl X4 ?_;refine acS s r ?_ _ rfl;rw[iN (dt:=7) M0];refine RO.fC (x:=7) (t:=4) s rfl U0 (.inr (.of M0)) ?_;exact RO.jO s<|RO.ret s rfl<|RO.leave1 (t:=4) s rfl func245 M0 U0 J2 T
theorem acU(s:St O p)(x:aN)(T:∀bs bp bz,RO prog E Post d O p ((bz,.cells #[ah 0] 3)::(bp,.cells #[.string ⟨#[47]⟩] 9)::(bs,.cells #[.string x] 9)::L) (gr (c.finish (.func (.func 243) #[] #[aJ bp 0,aJ bs 0,aJ bz 0])) A)):
 ∀y,f230.body=some y->RO prog E Post d O p L (gr ((base 230).atR (Ren.ent #[.string x,.string ⟨#[47]⟩,ah 0] 8) [.code y]) (c::A)):=by
 intro y h;obtain rfl:=gH (h:some _=some y);clear h;rw[uT (by show 3<=8;decide)];refine RO.seq s<|RO.region s (l:=[0,1,2,3]) M0 ?_;refine RO.fB (x:=.tmp 0) (y:=9) (t:=3) (c:=#[.string x]) s rfl (.of M0) U3 λbs=>?_;refine RO.fB (x:=.tmp 1) (y:=9) (t:=4) (c:=#[.string ⟨#[47]⟩]) s rfl (.of M0) U3 λbp=>?_;refine RO.fB (x:=.tmp 2) (y:=3) (t:=5) (c:=#[ah 0]) s rfl (.of M0) U3 λbz=>?_;refine RO.fK (x:=.nilFunc) (t:=6) s rfl (.inr (.of M0)) ?_;refine RO.jO s<|RO.seq s<|RO.region s (l:=[0,1]) M0 ?_;refine RO.fP (K:=.makeFunc (.func 243) #[] #[.tmp 4,.tmp 3,.tmp 5]) (t:=7) (x:=.func (.func 243) #[] #[aJ bp 0,aJ bs 0,aJ bz 0]) s rfl (.of M0) U2 (λu o a=>by unfold execOp;simp only[a];simp[aj,aC,Instr.makeFunc]) ?_;refine RO.fC (x:=7) (t:=6) s rfl U0 (.inr (.of M0)) ?_;exact RO.jO s<|RO.ret s rfl<|RO.leave1 (t:=6) s rfl func230 M0 U0 J2 (T bs bp bz)
theorem acV(s:St O p)(x:aN)(T:∀bs bp bz,RO prog E Post d O p ((bz,.cells #[ah 0] 3)::(bp,.cells #[.string ⟨#[47]⟩] 9)::(bs,.cells #[.string x] 9)::L) (gr (c.finish (.func (.func 243) #[] #[aJ bp 0,aJ bs 0,aJ bz 0])) A)):
 ∀y,f204.body=some y->RO prog E Post d O p L (gr ((base 204).atR (Ren.ent #[.string x,.string ⟨#[47]⟩] 8) [.code y]) (c::A)):=by
 intro y h;obtain rfl:=gH (h:some _=some y);clear h;rw[uT (by show 2<=8;decide)];refine RO.seq s<|RO.region s (l:=[0]) M0 ?_;refine RO.fK (x:=.nilFunc) (t:=4) s rfl (.inr (.of M0)) ?_;refine RO.jO s<|RO.seq s<|RO.region s (l:=[0,1,2,3]) M0 ?_;refine RO.fC (x:=0) (t:=5) s rfl U0 (.inl (.of M0)) ?_;refine RO.fC (x:=1) (t:=6) s rfl U0 (.inl (.of M0)) ?_;refine RO.fE (g:=230) (xs:=#[.tmp 5,.tmp 6,.const (ah 0)]) (ats:=#[9,9,3]) (vs:=#[.string x,.string ⟨#[47]⟩,ah 0]) s rfl (.of (d:=some 7) M0) func230 M0 rfl X4 ?_;refine acU s x (λbs bp bz=>?_) _ rfl;rw[iN (dt:=7) M0];refine RO.fC (x:=7) (t:=4) s rfl U0 (.inr (.of M0)) ?_;exact RO.jO s<|RO.ret s rfl<|RO.leave1 (t:=4) s rfl func204 M0 U0 J2 (T bs bp bz)
end
def SWd:List Nat:=[205]
theorem Wx:fH (λf=>SWd.contains f=true) prog:=Av SWd M0 M0
noncomputable def rfA:Code->Code|.seq _ (.seq _ (.seq (.seq _ (.block _ (.rangeFunc _ _ a _))) _))=>a|c=>c
noncomputable def rfB:Code->Code|.seq _ (.seq _ (.seq (.seq _ (.block _ (.rangeFunc _ _ _ b))) _))=>b|c=>c
noncomputable abbrev nmA:Code:=rfA (f161.body.getD .skip)
noncomputable abbrev nmB:Code:=rfB (f161.body.getD .skip)
noncomputable def Rc(f:Nat->aA)(dn:Nat)(st:LoopState)(pe:Option Code):Loop:={state:=st,pending:=pe,fn:=161,tmps:=(fa 13 f).tmps,params:=#[9],assign:=nmA,body:=nmB,defers:=dn}
def rb(l:Nat):Frame:={base 161 with roundOf:=some l}
section
variable [Payload] [Zb] {E : bf} {Post : aA -> au -> Prop} {d : Nat} {O : aD} {p : au} {L : List (Nat × Obj)} {c : Frame} {A : List Frame}
theorem uW(u:au)(ad:Addr)(x:aN)(hc:u.cell? ad=some (.string x)):(Instr.loadAt 9 (.pointer (some ad))).run prog u=.ok (.string x) u/\(Instr.loadAt 9 (.pointer (some ad))).events prog u #[]=#[⟨.cell ad,false,false⟩]:=by constructor<;>simp[go_sem,hc]
theorem ZN(u:au)(ad:Addr)(x:Int)(hc:u.cell? ad=some (ah x)):(Instr.loadAt 3 (.pointer (some ad))).run prog u=.ok (ah x) u/\(Instr.loadAt 3 (.pointer (some ad))).events prog u #[]=#[⟨.cell ad,false,false⟩]:=by constructor<;>simp[go_sem,hc]
theorem Wy(u:au)(ad:Addr)(v:aA)(x:aN)(hc:u.cell? ad=some v)(h:u.frozen? ad=false):(Instr.storeAt 9 (.pointer (some ad)) (.string x)).run prog u=.ok () (u.setCell ad (.string x))/\(Instr.storeAt 9 (.pointer (some ad)) (.string x)).events prog u #[]=#[⟨.cell ad,true,false⟩]:=by
 constructor
 .simp[go_sem,hc,h]
 .simp[go_sem,hc,h];rw[events_store (hv:=rfl)];simp[hc,h];try rfl
theorem Bh(u:au)(ad:Addr)(v:aA)(x:Bool)(hc:u.cell? ad=some v)(h:u.frozen? ad=false):(Instr.storeAt 4 (.pointer (some ad)) (.bool x)).run prog u=.ok () (u.setCell ad (.bool x))/\(Instr.storeAt 4 (.pointer (some ad)) (.bool x)).events prog u #[]=#[⟨.cell ad,true,false⟩]:=by
 constructor
 .simp[go_sem,hc,h]
 .simp[go_sem,hc,h];rw[events_store (hv:=rfl)];simp[hc,h];try rfl
open Classical in
theorem Sr(x:aN)(a:x.size<=12)(w:au):Calls prog 205 #[.string x] w λe u=>e=.returned (.bool (decide (lQ x))):=by
 by_cases h:lQ x
 .simp only[h,decide_true];exact(Iu x w Q0 h).mono λe u q=>q.1
 .simp only[h,decide_false];exact(Ml x w Q0 h).mono λe u q=>q.1
theorem acW(q:Xo O p)(G:prog.globals.size=Zb.z){l r dn:Nat}{f:Nat->aA}(x:aN)(F:x.size<=12)(v:f 2=aJ r 0)(k:(l,.loop (Rc f dn .ready none))∈L)(D:(r,.cells #[.bool false] 4)∈L)(a:r≠l)
 (e:lQ x->RO prog E Post d O p (lZ l (.loop (Rc f dn .ready none)) (lZ l (.loop (Rc f dn .busy none)) L)) (gr (c.finish (.bool true)) A))
 (i:¬lQ x->RO prog E Post d O p (lZ l (.loop (Rc f dn .done (some .ret))) (lZ r (.cells #[.bool false] 4) (lZ l (.loop (Rc f dn .busy none)) L))) (gr (c.finish (.bool false)) A)):
 RO prog E Post d O p L (gr (Frame.round l 161 (fa 13 (aC f 9 (.string x))).tmps nmA nmB .normal) (c::A)):=by
 classical
 have s:=q.toSt;show RO prog E Post d O p L (gr ((rb l).atR (fd 13 (aC f 9 (.string x)) []) [.code nmA,.beginRound,.code nmB]) (c::A));refine RO.region s (l:=[0]) M0 ?_;refine RO.fC (x:=9) (t:=3) s rfl U0 (.inr (.of M0)) ?_;refine RO.jO s<|RO.beginRound s rfl rfl k rfl ?_;have h:=mg (ob:=.loop (Rc f dn .busy none)) k;have j:=dw (ob:=.loop (Rc f dn .busy none)) D a;show RO prog E Post d O p (lZ l (.loop (Rc f dn .busy none)) L) _;generalize lZ l (.loop (Rc f dn .busy none)) L=L₁ at*;refine RO.block s<|RO.seq s<|RO.region s (l:=[0,1,2]) M0 ?_;refine RO.fC (x:=3) (t:=10) s rfl U0 (.inl (.of M0)) ?_;refine RO.fE (g:=205) (xs:=#[.tmp 10]) (ats:=#[9]) (vs:=#[.string x]) s rfl (.of (d:=some 11) M0) func205 M0 rfl X4 ?_;rw[Frame.atR_of_none (b:=base 205) rfl];show RO prog E Post d O p L₁ (gr ((base 205).at {tmps:=#[.string x]++Array.replicate (f205.ntmps-(#[Value.string x]).size) ak,defers:=[]} _) _);rw[<-enter_at _ func205 rfl];refine RO.lone s Wx U0 G q.zc q.zn (x:=.bool (decide (lQ x))) (by simp;exact .string x) (.bool _) (Sr x F) ?_;rw[iN (dt:=11) M0];refine RO.fP (K:=.unOp .not 4 (.tmp 11)) (t:=12) (x:=.bool !(decide (lQ x))) s rfl (.of M0) U2 (λu o C=>by constructor<;>(unfold execOp;simp only[C];simp[aj,aO,eG,aC,resolve,Deferred.ofValue,invoke,builtin,jB,go_sem])) ?_;refine RO.jO s<|RO.cond s (t:= !(decide (lQ x))) K3 ?_;by_cases hw:lQ x
 .simp only[hw,decide_true,Bool.not_true,gU,if_false];refine RO.skip s<|RO.inBlock s<|RO.roundEnd s rfl rfl h ?_;exact e hw
 .simp only[hw,decide_false,Bool.not_false,if_true];refine RO.seq s<|RO.region s (l:=[0]) M0 ?_;refine RO.fSt (x:=.bool false) (x':=.bool false) (p:=2) (n:=r) (q:=.const (.bool false)) (y:=4) s rfl (.of M0) U0 (by simp[aC];exact v) rfl j (λu m w B=>Bh u m _ _ w B) ?_;refine RO.jO s<|RO.QN s rfl rfl (dw h (Ne.symm a)) ?_;exact i hw
end
section
variable {J : Operand -> aA} {o : Oper} {x y z : Operand} {u : au}
set_option maxRecDepth 100000
theorem Sv{a b:Nat}(h:o.op=.binOp .add 3 x y 3)(c:J x=ah a)(d:J y=ah b)(s:a+b<=9223372036854775807):(execOp J o).run prog u=.ok (.value (ah (a+b:Nat))) u/\(execOp J o).events prog u #[]=#[]:=by refine⟨dh h c d s,?_⟩;unfold execOp;rw[h];simp only[c,d];simp[go_sem]
theorem acX{S:aN}{b:Nat}(h:o.op=.slice 9 x none (some z) none)(a:J x=.string S)(c:J z=ah b)(d:b<=S.size)(e:S.size<=9223372036854775807):(execOp J o).run prog u=.ok (.value (.string (S.extract 0 b))) u/\(execOp J o).events prog u #[]=#[]:=by
 constructor
 .unfold execOp;rw[h];simp only[a,c,gq,Option.map_none];go_simp
 .unfold execOp;rw[h];simp only[a,c,gq,Option.map_none];simp[go_sem,Instr.sliceAt,Instr.slice];simp[Instr.sliceBound,asIntOf,d]
theorem acY{S:aN}{a:Nat}(h:o.op=.slice 9 x (some y) none none)(b:J x=.string S)(c:J y=ah a)(d:a<=S.size)(e:S.size<=9223372036854775807):(execOp J o).run prog u=.ok (.value (.string (S.extract a S.size))) u/\(execOp J o).events prog u #[]=#[]:=by
 constructor
 .unfold execOp;rw[h];simp only[b,c,gq,Option.map_none];go_simp
 .unfold execOp;rw[h];simp only[b,c,gq,Option.map_none];simp[go_sem,Instr.sliceAt,Instr.slice];simp[Instr.sliceBound,asIntOf,d]
theorem ZO{v:Int}(h:o.op=.binOp .lss 3 x (.const (ah 0)) 3)(a:J x=ah v)(hc:J (.const (ah 0))=ah 0):(execOp J o).run prog u=.ok (.value (.bool (decide (v<0)))) u/\(execOp J o).events prog u #[]=#[]:=by constructor<;>(unfold execOp;rw[h];simp only[a,hc];simp[go_sem])
end
noncomputable def s1L:Code->Code|.seq _ (.seq (.block _ (.loop b)) _)=>b|c=>c
noncomputable def s1R:Code->Code|.seq _ (.seq (.block _ (.loop _)) r)=>r|c=>c
noncomputable abbrev lpB:Code:=s1L (f243.body.getD .skip)
noncomputable abbrev lpR:Code:=s1R (f243.body.getD .skip)
structure NL(f:Nat->aA)(l bp bs bz r dn:Nat)(y:aN)(L:List (Nat×Obj)):Prop where
 lp:(l,.loop (Rc f dn .ready none))∈L
 rs:(r,.cells #[.bool false] 4)∈L
 dn:(dn,.deferred (some []))∈L
 bp:(bp,.cells #[.string ⟨#[47]⟩] 9)∈L
 bs:(bs,.cells #[.string y] 9)∈L
 bz:(bz,.cells #[ah 0] 3)∈L
structure NX(f:Nat->aA)(l r dn:Nat)(L:List (Nat×Obj)):Prop where
 lp:(l,.loop (Rc f dn .done (some .ret)))∈L
 rs:(r,.cells #[.bool false] 4)∈L
 dn:(dn,.deferred (some []))∈L
structure F4(l bp bs bz:Nat)(f:Nat->aA):Prop where
 h0:f 0=.func (.yield l) #[] #[]
 h1:f 1=aJ bp 0
 h2:f 2=aJ bs 0
 h3:f 3=aJ bz 0
section
variable [Payload] [Zb]
theorem Xw(q:Xo O p)(I:prog.globals.size=Zb.z)(G:F 2=aJ r 0)(u:[l,bp,bs,bz,r,dn].Nodup)(h:NL F l bp bs bz r dn y L)(x:aN)(H:x.size<=12)
 (g:lQ x->∀f,NL F l bp bs bz r dn y f->RO prog E Post d O p f (gr (c.finish (.bool true)) A))(n:¬lQ x->∀f,NX F l r dn f->RO prog E Post d O p f (gr (c.finish (.bool false)) A)):
 RO prog E Post d O p L (gr (Frame.round l 161 (((Rc F dn .ready none).params.zip #[Value.string x]).foldl (λm(t,a)=>m.setIfInBounds t a) (fa 13 F).tmps) nmA nmB .normal) (c::A)):=by
 have e:((Rc F dn .ready none).params.zip #[Value.string x]).foldl (λm(t,a)=>m.setIfInBounds t a) (fa 13 F).tmps=(fa 13 (aC F 9 (.string x))).tmps:=by rw[<-jm];simp[Rc,Act.put]
 rw[e];simp only[List.nodup_cons,lS,List.not_mem_nil,or_false,not_or]at u;obtain⟨⟨k,o,s,b,i⟩,⟨J,K,M,N⟩,⟨v,w,B⟩,⟨C,D⟩,j,_⟩:=u;refine acW q I x H G h.lp h.rs (Ne.symm b) (λhw=>g hw _ ?_) (λhw=>n hw _ ?_)
 .exact⟨mg (mg h.lp),dw (dw h.rs (Ne.symm b)) (Ne.symm b),dw (dw h.dn (Ne.symm i)) (Ne.symm i),dw (dw h.bp (Ne.symm k)) (Ne.symm k),dw (dw h.bs (Ne.symm o)) (Ne.symm o),dw (dw h.bz (Ne.symm s)) (Ne.symm s)⟩
 .exact⟨mg (dw (mg h.lp) b),dw (mg (dw h.rs (Ne.symm b))) (Ne.symm b),dw (dw (dw h.dn (Ne.symm i)) (Ne.symm j)) (Ne.symm i)⟩
theorem acZ(q:Xo O p)(hz:prog.globals.size=Zb.z)(hF:F 2=aJ r 0)(Q:[l,bp,bs,bz,r,dn].Nodup)(S:aN)(h12:S.size<=12)
 (J:zI S->∀L y,NL F l bp bs bz r dn y L->RO prog E Post d O p L (gr (c.finish (.tuple #[])) A))(I:¬zI S->∀L,NX F l r dn L->RO prog E Post d O p L (gr (c.finish (.tuple #[])) A)):
 ∀(m k:Nat)(f:Nat->aA)(L:List (Nat×Obj)),S.size-k<=m->partAt S k->F4 l bp bs bz f->NL F l bp bs bz r dn (S.extract k S.size) L->RO prog E Post d O p L (gr ((base 243).atR (fd 52 f []) (.code lpB:: .inLoop lpB:: .inBlock 2::[.code lpR])) (c::A)):=by
 have s:=q.toSt;have hD:=Q;simp only[List.nodup_cons,lS,List.not_mem_nil,or_false,not_or]at hD;obtain⟨⟨d1,d2,d3,d4,d5⟩,⟨d6,d7,d8,d9⟩,⟨M,N,P⟩,⟨d13,d14⟩,d15,_⟩:=hD;intro m
 induction m using Nat.strongRecOn with
 |_ m ih=>
  intro k f L hm V hf C;have hk:k<=S.size:=V.1;have X:(S.extract k S.size).size=S.size-k:=ext_size _ _ _ (aS _);obtain⟨y,G⟩:∃y,S.extract k S.size=y:=⟨_,rfl⟩;rw[G]at C X;refine RO.block s<|RO.seq s<|RO.region s (l:=[0,1,2,3]) M0 ?_;refine RO.fL (x:=.string y) (p:=2) (n:=bs) (t:=29) s rfl (.of M0) U0 X3 C.bs (λu v w=>uW u v _ w) ?_;refine RO.fL (x:=.string ⟨#[47]⟩) (p:=1) (n:=bp) (t:=30) s rfl (.of M0) U0 X3 C.bp (λu v w=>uW u v _ w) ?_;refine RO.fE (g:=245) (xs:=#[.tmp 29,.tmp 30]) (ats:=#[9,9]) (vs:=#[.string y,.string ⟨#[47]⟩]) s rfl (.of (d:=some 31) M0) func245 M0 rfl X4 ?_;refine acT s y ?_ _ rfl;rw[iN (dt:=31) M0];refine RO.fC (x:=31) (t:=7) s rfl U0 (.inr (.of M0)) ?_;refine RO.jO s<|RO.seq s<|RO.seq s<|RO.region s (l:=[0,1]) M0 ?_;refine RO.fC (x:=7) (t:=32) s rfl U0 (.inl (.of M0)) ?_;refine RO.fP (K:=.binOp .lss 3 (.tmp 32) (.const (ah 0)) 3) (t:=33) (x:=.bool (decide (Lib.indexByte y.data.toList 47<0))) s rfl (.of M0) U2 (λu o B=>ZO B J3 rfl) ?_;refine RO.jO s<|RO.cond s (t:=decide (Lib.indexByte y.data.toList 47<0)) K3 ?_;obtain⟨Y,Z⟩|⟨j,Y,Z,x3,x4⟩:=EW y.data.toList
  .have U:∀i,k+i<S.size->jg S (k+i)≠47:=λi R c=>by
    refine Z i (by show i<y.size;omega) ((Dn _ _ Q0).2 ?_);rw[<-G,iW _ _ _ _ R (aS _)];exact c
   have H:lQ y↔zI S:=G▸Ms V U;rw[Y];refine RO.exit s rfl ?_;refine RO.region s (l:=[0,1,2]) M0 ?_;refine RO.fC (x:=0) (t:=49) s rfl U0 (.inl (.of M0)) ?_;refine RO.fL (x:=.string y) (p:=2) (n:=bs) (t:=50) s rfl (.of M0) U0 X3 C.bs (λu v w=>uW u v _ w) ?_;refine RO.fY (l:=l) (p:=49) (r:=Rc F dn .ready none) (xs:=#[.tmp 50]) (ats:=#[9]) (vs:=#[.string y]) s rfl (.of (d:=some 51) M0) U0 (by simp[aC,hf.h0]) Y2 C.lp rfl ?_;refine Xw q hz hF Q C y Q0 (λhw D e=>?_) (λhw D e=>?_)
   .rw[iN (dt:=51) M0];exact RO.jO s<|RO.fin s rfl<|RO.leave s rfl rfl func243 (λu _ _=>⟨results_none M0 _ _ _,by rw[events_results_none M0];simp⟩) (J (H.1 hw) D y e)
   .rw[iN (dt:=51) M0];exact RO.jO s<|RO.fin s rfl<|RO.leave s rfl rfl func243 (λu _ _=>⟨results_none M0 _ _ _,by rw[events_results_none M0];simp⟩) (I (λh=>hw (H.2 h)) D e)
  .have T:k+j<S.size:=by
    have:j<y.size:=Y;omega
   have W:jg S (k+j)=47:=by have:=(Dn _ _ Q0).1 x3;rwa[<-G,iW _ _ _ _ T (aS _)]at this
   have U:∀i,i<j->jg S (k+i)≠47:=λi R c=>by refine x4 i R ((Dn _ _ Q0).2 ?_);rw[<-G,iW _ _ _ _ Q0 (aS _)];exact c
   have H:=Mr V T W U;have HN:=Mt S k j T;rw[G]at H HN;rw[Z,show decide ((j:Int)<0)=false from iI Q0];simp only[gU,if_false];refine RO.skip s<|RO.seq s<|RO.region s (l:=[0,1,2,3,4,5]) M0 ?_;refine RO.fL (x:=.string y) (p:=2) (n:=bs) (t:=34) s rfl (.of M0) U0 X3 C.bs (λu v w=>uW u v _ w) ?_;refine RO.fC (x:=7) (t:=35) s rfl U0 (.inl (.of M0)) ?_;refine RO.fL (x:=ah 0) (p:=3) (n:=bz) (t:=36) s rfl (.of M0) U0 X3 C.bz (λu v w=>ZN u v _ w) ?_;refine RO.fP (K:=.binOp .add 3 (.tmp 35) (.tmp 36) 3) (t:=37) (x:=ah j) s rfl (.of M0) U2 (λu o B=>Sv (a:=j) (b:=0) B J3 J3 Q0) ?_;refine RO.fP (K:=.slice 9 (.tmp 34) none (some (.tmp 37)) none) (t:=38) (x:=.string (y.extract 0 j)) s rfl (.of M0) U2 (λu o B=>acX B J3 J3 Q0 Q0) ?_;refine RO.fC (x:=38) (t:=8) s rfl U0 (.inr (.of M0)) ?_;refine RO.jO s<|RO.seq s<|RO.seq s<|RO.region s (l:=[0,1,2,3]) M0 ?_;refine RO.fC (x:=0) (t:=39) s rfl U0 (.inl (.of M0)) ?_;refine RO.fC (x:=8) (t:=40) s rfl U0 (.inl (.of M0)) ?_;refine RO.fY (l:=l) (p:=39) (r:=Rc F dn .ready none) (xs:=#[.tmp 40]) (ats:=#[9]) (vs:=#[.string (y.extract 0 j)]) s rfl (.of (d:=some 41) M0) U0 (by simp[aC,hf.h0]) Y2 C.lp rfl ?_;refine Xw q hz hF Q C (y.extract 0 j) (by rw[ByteArray.size_extract];omega) (λhw D e=>?_) (λhw D e=>?_)
   .rw[iN (dt:=41) M0];refine RO.fP (K:=.unOp .not 4 (.tmp 41)) (t:=42) (x:=.bool false) s rfl (.of M0) U2 (λu o B=>by constructor<;>(unfold execOp;simp only[B];simp[aj,aO,eG,aC,resolve,Deferred.ofValue,invoke,builtin,jB,go_sem])) ?_;refine RO.jO s<|RO.cond s (t:=false) K3 ?_;simp only[gU,if_false];refine RO.skip s<|RO.region s (l:=[0,1,2,3,4,5,6]) M0 ?_;refine RO.fL (x:=.string y) (p:=2) (n:=bs) (t:=43) s rfl (.of M0) U0 X3 e.bs (λu v w=>uW u v _ w) ?_;refine RO.fC (x:=7) (t:=44) s rfl U0 (.inl (.of M0)) ?_;refine RO.fL (x:=.string ⟨#[47]⟩) (p:=1) (n:=bp) (t:=45) s rfl (.of M0) U0 X3 e.bp (λu v w=>uW u v _ w) ?_;refine RO.fP (K:=.call {callee:=.builtin .len,args:=#[.tmp 45],argTypes:=#[9]}) (t:=46) (x:=ah 1) s rfl (.of M0) U2 (λu o B=>by constructor<;>(unfold execOp;simp only[B];simp[aj,aO,eG,aC,resolve,Deferred.ofValue,invoke,builtin,jB,go_sem])) ?_;refine RO.fP (K:=.binOp .add 3 (.tmp 44) (.tmp 46) 3) (t:=47) (x:=ah (j+1:Nat)) s rfl (.of M0) U2 (λu o B=>Sv (a:=j) (b:=1) B J3 J3 Q0) ?_;refine RO.fP (K:=.slice 9 (.tmp 43) (some (.tmp 47)) none none) (t:=48) (x:=.string (y.extract (j+1) y.size)) s rfl (.of M0) U2 (λu o B=>acY B J3 J3 Q0 Q0) ?_;refine RO.fSt (x:=.string y) (x':=.string (y.extract (j+1) y.size)) (p:=2) (n:=bs) (q:=.tmp 48) (y:=9) s rfl (.of M0) U0 (by simp[aC,hf.h2]) J3 e.bs (λu v w hf=>Wy u v _ _ w hf) ?_;refine RO.jO s<|RO.inBlock s<|RO.inLoop s<|ih (m-1) Q0 (k+j+1) _ _ Q0 (H.1 hw) ⟨by simp[aC,hf.h0],by simp[aC,hf.h1],by simp[aC,hf.h2],by simp[aC,hf.h3]⟩ ?_;rw[HN];exact⟨dw e.lp d2,dw e.rs (Ne.symm N),dw e.dn (Ne.symm P),dw e.bp d6,mg e.bs,dw e.bz (Ne.symm M)⟩
   .rw[iN (dt:=41) M0];refine RO.fP (K:=.unOp .not 4 (.tmp 41)) (t:=42) (x:=.bool true) s rfl (.of M0) U2 (λu o B=>by constructor<;>(unfold execOp;simp only[B];simp[aj,aO,eG,aC,resolve,Deferred.ofValue,invoke,builtin,jB,go_sem])) ?_;refine RO.jO s<|RO.cond s (t:=true) K3 ?_;exact RO.ret s rfl<|RO.leave s rfl rfl func243 (λu _ _=>⟨results_none M0 _ _ _,by rw[events_results_none M0];simp⟩) (I (H.2 hw) D e)
theorem RO.fN{y:bf}(s:St O p)(r:b.kind=.normal)(e:At Zvops i (.alloc y) (some t))(h:(P.info? y).map (·.zero)=some (some z))
 (T:∀n,RO P E Post d O p ((n,.cells z.cells y)::L) (gr (b.atR (fd N (aC f t (aJ n 0)) ds) (aT Zvops R::k)) A)):RO P E Post d O p L (gr (b.atR (fd N f ds) (aT Zvops (i::R)::k)) A):=by
 obtain⟨o,l,g,m⟩:=e.opn (a:=fd N f ds) U2;refine RO.new s r l (x:=λn=>aJ n 0) (λu _ v=>?_) (λn=>by rw[m,xS];exact T n);rw[jT];refine⟨LG g h,?_⟩;obtain⟨j,q,h⟩:=gL.1 h;unfold execOp;rw[g];simp[Instr.alloc,zeroValue,typeInfo,q,h,newVar,newRow,newObj,Sem.events,Sem.runT,bind,Sem.bind,pure,program,-Sem.runT_eq]
theorem Kh(s:St O p)(g:f 2=aJ r 0)(b:(r,.cells #[.bool x] 4)∈L)(T:RO prog E Post d O p L (gr (c.finish (.bool x)) A)):RO prog E Post d O p L (gr {(base 161).atR (fd 13 f []) k with mode:=.returning} (c::A)):=by
 refine RO.leave s rfl rfl func161 (λu _ n=>?_) T;have h:u.cell? (aB r 0)=some (.bool x):=by unfold World.cell?;rw[n.ob _ _ b];rfl
 have e:(fd 13 f []).tmps[2]?.getD ak=aJ r 0:=(aO U0).trans g;constructor
 .simp[results,results161,go_sem,e,h]
 .intro v a;have:v=⟨.cell ⟨r,0,none⟩,false,false⟩:=by simp[results,results161,go_sem,e,h]at a;exact a
  rw[this];exact AZ (gQ.2 ⟨_,b,rfl⟩)
theorem ac0(q:Xo O p)(Q:prog.globals.size=Zb.z)(S:aN)(v:Bool)(H:v=true↔S.size<=12/\zI S)(R:S.size<=9223372036854775807)(T:∀L,RO prog E Post d O p L (gr (c.finish (.bool v)) A)):
 ∀x,f161.body=some x->RO prog E Post d O p [] (gr ((base 161).atR (Ren.ent #[.string S] 13) [.code x]) (c::A)):=by
 intro y N;obtain rfl:=gH (N:some _=some y);clear N;have s:=q.toSt;rw[uT (by show 1<=13;decide)];refine RO.seq s<|RO.region s (l:=[0]) M0 ?_;refine RO.fN (t:=2) (y:=4) (z:=.bool false) s rfl (.of M0) M0 λr=>?_;refine RO.jO s<|RO.seq s<|RO.seq s<|RO.region s (l:=[0,1,2]) M0 ?_;refine RO.fC (x:=0) (t:=4) s rfl U0 (.inl (.of M0)) ?_;refine RO.fP (K:=.call {callee:=.builtin .len,args:=#[.tmp 4],argTypes:=#[9]}) (t:=5) (x:=ah S.size) s rfl (.of M0) U2 (λu o m=>by constructor<;>(unfold execOp;simp only[m];simp[aj,aO,eG,aC,resolve,Deferred.ofValue,invoke,builtin,jB,go_sem])) ?_;refine RO.fP (K:=.binOp .gtr 3 (.tmp 5) (.const (ah 12)) 3) (t:=6) (x:=.bool (decide ((12:Int)<S.size))) s rfl (.of M0) U2 (λu o m=>by constructor<;>(unfold execOp;simp only[m];simp[aj,aO,eG,aC,resolve,Deferred.ofValue,invoke,builtin,jB,go_sem])) ?_;refine RO.jO s<|RO.cond s (t:=decide ((12:Int)<S.size)) K3 ?_;by_cases e:S.size<=12
 .rw[show decide ((12:Int)<S.size)=false from iI Q0];simp only[gU,if_false];refine RO.skip s<|RO.seq s<|RO.seq s<|RO.region s (l:=[0,1]) M0 ?_;refine RO.fC (x:=0) (t:=7) s rfl U0 (.inl (.of M0)) ?_;refine RO.fE (g:=204) (xs:=#[.tmp 7,.const (.string ⟨#[47]⟩)]) (ats:=#[9,9]) (vs:=#[.string S,.string ⟨#[47]⟩]) s rfl (.of (d:=some 8) M0) func204 M0 rfl X4 ?_;refine acV s S (λbs bp bz=>?_) _ rfl;rw[iN (dt:=8) M0];refine RO.jO s<|RO.block s ?_;generalize I:aC _ 8 _=G;have b:G 2=aJ r 0:=by rw[<-I];simp[aC]
  refine RO.range s rfl rfl (x:=.tmp 8) (f:=243) (xs:=#[aJ bp 0,aJ bs 0,aJ bz 0]) (by rw[Ej,aj U0,<-I];simp[aC]) func243 rfl M0 λn=>?_;refine RO.nd λk=>?_;generalize j:((n+1,_)::_:List (Nat×Obj))=L0 at k ⊢;have J:NL G (n+1) bp bs bz r n S L0:=by
   subst j;refine⟨.head _,?_,.tail _ (.head _),?_,?_,?_⟩
   .exact .tail _ (.tail _ (.tail _ (.tail _ (.tail _ (.head _)))))
   .exact .tail _ (.tail _ (.tail _ (.head _)))
   .exact .tail _ (.tail _ (.tail _ (.tail _ (.head _))))
   .exact .tail _ (.tail _ (.head _))
  have M:[n+1,bp,bs,bz,r,n].Nodup:=by subst j;simp only[kM,List.map_nil,List.nodup_cons,lS,List.not_mem_nil,or_false,not_or,List.nodup_nil,and_true,not_false_eq_true]at k ⊢;refine⟨?_,?_,?_,?_,?_⟩<;>omega
  clear k j;show RO prog E Post d O p L0 (gr ((base 243).atR (Ren.ent #[.func (.yield (n+1)) #[] #[],aJ bp 0,aJ bs 0,aJ bz 0] 52) _) (((base 161).atR (fd 13 G [{target:=.collected n,args:=#[]}]) (.inRangeFunc (n+1)::_))::_));rw[uT (by show 4<=52;decide)];have hf:F4 (n+1) bp bs bz (λi=>(#[.func (.yield (n+1)) #[] #[],aJ bp 0,aJ bs 0,aJ bz 0]:Array aA).getD i ak):=⟨rfl,rfl,rfl,rfl⟩;refine RO.seq s<|RO.seq s<|RO.region s (l:=[0,1,2]) M0 ?_;refine RO.fL (x:=.string ⟨#[47]⟩) (p:=1) (n:=bp) (t:=9) s rfl (.of M0) U0 X3 J.bp (λu B C=>uW u B _ C) ?_;refine RO.fP (K:=.call {callee:=.builtin .len,args:=#[.tmp 9],argTypes:=#[9]}) (t:=10) (x:=ah 1) s rfl (.of M0) U2 (λu o m=>by constructor<;>(unfold execOp;simp only[m];simp[aj,aO,eG,aC,resolve,Deferred.ofValue,invoke,builtin,jB,go_sem])) ?_;refine RO.fP (K:=.binOp .eql 3 (.tmp 10) (.const (ah 0)) 3) (t:=11) (x:=.bool false) s rfl (.of M0) U2 (λu o m=>by constructor<;>(unfold execOp;simp only[m];simp[aj,aO,eG,aC,resolve,Deferred.ofValue,invoke,builtin,jB,go_sem])) ?_;refine RO.jO s<|RO.cond s (t:=false) K3 ?_;simp only[gU,if_false];have P:=M;simp only[List.nodup_cons,lS,List.not_mem_nil,or_false,not_or]at P;refine RO.skip s<|RO.seq s<|RO.block s<|RO.loop s<|acZ q Q b M S e (λh F U h1=>?_) (λh F h1=>?_) S.size 0 _ L0 Q0 (EU S) ⟨by simp[aC],by simp[aC],by simp[aC],by simp[aC]⟩ (by rw[OD];exact J)
  .have a:v=true:=H.2 ⟨e,h⟩;subst a;rw[wR];refine RO.GN s h1.lp (by simp[Rc]) ?_;have w:=dw (ob:=.loop {Rc G n .ready none with state:=.exhausted}) h1.rs (by omega:r≠n+1);have D:=dw (ob:=.loop {Rc G n .ready none with state:=.exhausted}) h1.dn (by omega:n≠n+1);generalize lZ (n+1) _ F=L2 at w D ⊢;refine RO.inBlock s<|RO.seq s<|RO.region s (l:=[0]) M0 ?_;refine RO.fSt (x:=.bool false) (x':=.bool true) (p:=2) (n:=r) (q:=.const (.bool true)) (y:=4) s rfl (.of M0) U0 b rfl w (λu B C hf=>Bh u B _ _ C hf) ?_;refine RO.jO s<|RO.ret s rfl<|RO.take s (l:=n) (ds:=[]) (dw D Q0) rfl ?_;exact Kh s b (dw (mg w) Q0) (T _)
  .have a:v=false:=by
    cases v with
    |false=>rfl
    |true=>exact aF (H.1 rfl).2 h
   subst a;rw[wR];refine RO.GN s h1.lp (by simp[Rc]) ?_;have w:=dw (ob:=.loop {Rc G n .done (some .ret)with state:=.exhausted}) h1.rs (by omega:r≠n+1);have D:=dw (ob:=.loop {Rc G n .done (some .ret)with state:=.exhausted}) h1.dn (by omega:n≠n+1);generalize lZ (n+1) _ F=L2 at w D ⊢;refine RO.ret s rfl<|RO.take s (l:=n) (ds:=[]) D rfl ?_;exact Kh s b (dw w Q0) (T _)
 .have a:v=false:=by
   cases v with
   |false=>rfl
   |true=>exact aF (H.1 rfl).1 e
  subst a;rw[show decide ((12:Int)<S.size)=true from nG Q0];simp only[if_true];refine RO.seq s<|RO.region s (l:=[0]) M0 ?_;refine RO.fSt (x:=.bool false) (x':=.bool false) (p:=2) (n:=r) (q:=.const (.bool false)) (y:=4) s rfl (.of M0) U0 J2 rfl (.head _) (λu B C hf=>Bh u B _ _ C hf) ?_;refine RO.jO s<|RO.ret s rfl ?_;exact Kh (r:=r) s J2 (mg (.head _)) (T _)
end
theorem Oq(s:aN):nameP s↔s.size<=12/\zI s:=⟨λh=>⟨h.2.1,h.2.2⟩,λh=>⟨Nat.pos_of_ne_zero (λa=>by
 have:=(h.2 1 Q0 Q0).2
 have e:=Dm s
 rw[a]at e
 exact this ⟨e,zH s⟩),h.1,h.2⟩⟩
section
variable [Payload] [Zb] {S : aD} {E : bf} {Post : aA -> au -> Prop} {w : au}
open Classical in
theorem Ot(b:prog.globals.size=Zb.z)(s:aN)(a:s.size<=9223372036854775807):RC S prog E Post 161 #[.string s] w λv u=>v=.bool (decide (nameP s))/\u=w:=RC.right func161 M0 rfl (by simp;exact .string s) (.bool _) λd O u₀ c cs q h=>ac0 q b s _ (by rw[decide_eq_true_iff];exact Oq s) a h _ rfl
end
end
section
open Go.Proofs.Tryz
open Go Go.Conc Go.ConcN Go.RowKit Go.Conc.Lib Go.ConcR.Gen Go.ConcN.Gen Go.Proofs.YtmhafipgbfaapaaGreatDoor.Ren
open Go.ConcR (KK WgAt wgBlock stA smA rd wr mk Payload DC0)
attribute [local simp] execOp aj aO aC resolve Deferred.ofValue invoke builtin Act.eval
variable {Post Q : aA -> au -> Prop} {E : bf} {w : au}
theorem Wz:f110.body=some (.seq (.region 0 (rg f110 0) false) (.seq (.seq (.region 1 (rg f110 1) false) (.cond (.tmp 8) (.seq (.region 2 (rg f110 2) false) .ret) .skip)) (.seq (.region 3 (rg f110 3) false) (.seq (.seq (.region 4 (rg f110 4) false) (.block 0 (.loop (.seq (.region 5 (rg f110 5) false) (.seq (.cond (.tmp 12) .skip (.exit 0)) (.seq (.block 1 (.seq (.region 6 (rg f110 6) false) (.seq (.seq (.region 7 (rg f110 7) false) (.cond (.tmp 31) (.seq (.region 8 (rg f110 8) false) .ret) .skip)) (.region 9 (rg f110 9) false)))) (.region 10 (rg f110 10) false))))))) (.seq (.region 11 (rg f110 11) false) .ret))))):=by kernel_rfl
theorem Ki(a:Act)(u:au):(results f110 a.tmps).run prog u=.ok (a.tmps.getD 2 ak) u:=by simp[results,f110,go_sem]
theorem Sw(a:Act)(u:au):(results f110 a.tmps).events prog u #[]=#[]:=by simp[results,f110,go_sem]
noncomputable def isX:Code:=match f110.body with|some (.seq _ (.seq _ (.seq _ (.seq (.seq _ (.block _ (.loop c))) _))))=>c|_=>.skip
theorem EG:isX=(.seq (.region 5 (rg f110 5) false) (.seq (.cond (.tmp 12) .skip (.exit 0)) (.seq (.block 1 (.seq (.region 6 (rg f110 6) false) (.seq (.seq (.region 7 (rg f110 7) false) (.cond (.tmp 31) (.seq (.region 8 (rg f110 8) false) .ret) .skip)) (.region 9 (rg f110 9) false)))) (.region 10 (rg f110 10) false)))):=by kernel_rfl
section
variable [Payload] [Zb] {E : bf} {Post : aA -> au -> Prop} {w : au}
theorem Hw.thn{u v:au}(h:Hw w u)(k:Hw u v):Hw w v:=⟨bY h.size k.size,λz a=>(k.block z (bG a h.size)).trans (h.block z a),k.os.trans h.os⟩
open Classical in
theorem ac1(H:prog.globals.size=Zb.z)(B:Nat)(N D A:aN)(q:N.size<=9223372036854775807)(L:D.size<=9223372036854775807)(J:A.size<=12)(e:Nat->aA)(G:e 3=.string A)(p:e 5=aJ B 0)(i:w.heap[B]? =some (.cells #[.string N,.string D] 38)){K:List Item}{s:List PF}
 (T:∀f u,(∀x,x<15->f x=e x)->f 31=.bool (!decide (nameP N/\dK A N=true/\D.size<=200))->Hw w u->CP bT prog E Post ⟨base 110,fa 35 f,K⟩ s u):CP bT prog E Post ⟨base 110,fa 35 e,.code (.region 7 (rg f110 7) false)::K⟩ s w:=by
 refine(CP.reg (l:=[0,1,2,3,4,5,6,7,8,9,10,11,12,13,14,15,16]) M0 ?_);refine kv (aJ B 0) ?_;have C:w.cell? (aB B 0)=some (.string (N)):=(aQ w _ 0 _ _ _ i).trans rfl;refine kv (.string N) ?_;refine kf (Ot H N q) ?_;rintro _ M ⟨rfl,k⟩;replace k:=k.symm;subst k;by_cases g:nameP N
 .refine kv (.bool false) ?_;refine kC 18 19 ?_;refine CP.gV (K:=.fieldAddr 38 (.tmp 5) 0) (d:=20) (v:=aJ B 0) aH rfl (.of (j:=4) (x:=19) (b:=false) M0 M0 U0 (by simp[aC,g])) (dW M0) (λt n o a=>by clear T;unfold execOp;rw[a];simp[aj,aO,aC,resolve,Deferred.ofValue,invoke,builtin,p];try go_simp) ?_;refine CP.gV (K:=.load 9 (.tmp 20)) (d:=21) (v:=.string N) aH rfl (.of (j:=4) (x:=19) (b:=false) M0 M0 U0 J2) (dW M0) (λt n o a=>by have C:(Ren.tp w t n).cell? (aB B 0)=some (.string (N)):=(aQ w _ 0 _ _ _ i).trans rfl;clear T;unfold execOp;rw[a];simp[aj,aO,aC,resolve,Deferred.ofValue,invoke,builtin];try go_simp) ?_;refine CP.gV (K:=.move (.tmp 3)) (d:=22) (v:=.string A) aH rfl (.of (j:=4) (x:=19) (b:=false) M0 M0 U0 J2) (dW M0) (λt n o a=>by clear T;unfold execOp;rw[a];simp[aj,aO,aC,resolve,Deferred.ofValue,invoke,builtin,G];try go_simp) ?_;refine RC.QS (d:=23) rfl (.of (j:=4) (x:=19) (b:=false) M0 M0 U0 J2) (xs:=#[.tmp 21,.tmp 22]) (ats:=#[9,9]) Y1 (vs:=#[.string N,.string A]) R3 (RC.keep (v:=.bool (dK A N)) U0 λw=>Calls.mono (Bu A N w q Q0) λe u h=>⟨h.1,by rw[h.2];exact Keep.refl _ _⟩) ?_;rintro _ F ⟨rfl,m⟩;have I:=(m.block _ (bJ.1 i).1).trans i;refine CP.gV (K:=.unOp .not 4 (.tmp 23)) (d:=24) (v:=.bool (!dK A N)) aH rfl (.of (j:=4) (x:=19) (b:=false) M0 M0 U0 J2) (dW M0) (λt n o a=>by clear T;unfold execOp;rw[a];simp[aj,aO,aC,resolve,Deferred.ofValue,invoke,builtin];try go_simp) ?_;cases r:dK A N with
  |true=>
   refine kv (.bool false) ?_;refine kC 25 26 ?_;refine CP.gV (K:=.fieldAddr 38 (.tmp 5) 1) (d:=27) (v:=aJ B 1) aH rfl (.of (j:=11) (x:=26) (b:=false) M0 M0 U0 J2) (dW M0) (λt n o a=>by clear T;unfold execOp;rw[a];simp[aj,aO,aC,resolve,Deferred.ofValue,invoke,builtin,p];try go_simp) ?_;refine CP.gV (K:=.load 9 (.tmp 27)) (d:=28) (v:=.string D) aH rfl (.of (j:=11) (x:=26) (b:=false) M0 M0 U0 J2) (dW M0) (λt n o a=>by have C:(Ren.tp F t n).cell? (aB B 1)=some (.string (D)):=(aQ F _ 1 _ _ _ I).trans rfl;clear T;unfold execOp;rw[a];simp[aj,aO,aC,resolve,Deferred.ofValue,invoke,builtin];try go_simp) ?_;refine CP.gV (K:=.call {callee:=.builtin .len,args:=#[.tmp 28],argTypes:=#[9]}) (d:=29) (v:=ah D.size) aH rfl (.of (j:=11) (x:=26) (b:=false) M0 M0 U0 J2) (dW M0) (λt n o a=>by clear T;unfold execOp;rw[a];simp[aj,aO,aC,resolve,Deferred.ofValue,invoke,builtin];try go_simp) ?_;refine CP.gV (K:=.binOp .gtr 3 (.tmp 29) (.const (ah 200)) 3) (d:=30) (v:=.bool (decide (200<D.size))) aH rfl (.of (j:=11) (x:=26) (b:=false) M0 M0 U0 J2) (dW M0) (λt n o a=>by clear T;unfold execOp;rw[a];simp[aj,aO,aC];go_simp;omega) ?_;refine kv (.bool (decide (200<D.size))) ?_;refine CP.jO (T _ _ (λx y=>?_) ?_ m)
   .obtain _|_|_|_|_|_|_|_|_|_|_|_|_|_|_|x:=x<;>first|rfl|omega
   .show Value.bool _=_;congr 1;rw[Bool.eq_iff_iff];simp[g,r]
  |false=>
   refine kv (.bool true) ?_;refine kC 25 26 ?_;refine CP.pass (d:=27) (j:=11) (x:=26) (c:=false) M0 M0 U0 J2 ?_;refine CP.pass (d:=28) (j:=11) (x:=26) (c:=false) M0 M0 U0 J2 ?_;refine CP.pass (d:=29) (j:=11) (x:=26) (c:=false) M0 M0 U0 J2 ?_;refine CP.pass (d:=30) (j:=11) (x:=26) (c:=false) M0 M0 U0 J2 ?_;refine kv (.bool true) ?_;refine CP.jO (T _ _ (λx y=>?_) ?_ m)
   .obtain _|_|_|_|_|_|_|_|_|_|_|_|_|_|_|x:=x<;>first|rfl|omega
   .show Value.bool _=_;congr 1;rw[Bool.eq_iff_iff];simp[g,r]
 .refine kv (.bool true) ?_;refine kC 18 19 ?_;refine CP.pass (d:=20) (j:=4) (x:=19) (c:=false) M0 M0 U0 J2 ?_;refine CP.pass (d:=21) (j:=4) (x:=19) (c:=false) M0 M0 U0 J2 ?_;refine CP.pass (d:=22) (j:=4) (x:=19) (c:=false) M0 M0 U0 J2 ?_;refine CP.pass (d:=23) (j:=4) (x:=19) (c:=false) M0 M0 U0 J2 ?_;refine CP.pass (d:=24) (j:=4) (x:=19) (c:=false) M0 M0 U0 J2 ?_;refine kv (.bool true) ?_;refine kC 25 26 ?_;refine CP.pass (d:=27) (j:=11) (x:=26) (c:=false) M0 M0 U0 J2 ?_;refine CP.pass (d:=28) (j:=11) (x:=26) (c:=false) M0 M0 U0 J2 ?_;refine CP.pass (d:=29) (j:=11) (x:=26) (c:=false) M0 M0 U0 J2 ?_;refine CP.pass (d:=30) (j:=11) (x:=26) (c:=false) M0 M0 U0 J2 ?_;refine kv (.bool true) ?_;refine CP.jO (T _ _ (λx y=>?_) ?_ (Hb.refl _ _))
  .obtain _|_|_|_|_|_|_|_|_|_|_|_|_|_|_|x:=x<;>first|rfl|omega
  .show Value.bool _=_;congr 1;rw[Bool.eq_iff_iff];simp[g]
end
structure IsF(a:Option Addr)(n cap q:Nat)(A:aN)(f:Nat->aA):Prop where
 h3:f 3=.string A
 h9:f 9=.slice a n cap
 h10:f 10=ah n
 h11:f 11=ah q
section
variable [Payload] [Zb] {E : bf} {Post : aA -> au -> Prop} {w : au}
open Classical in
theorem WA(U:prog.globals.size=Zb.z)(g m n y:Nat)(a:Option Addr)(ha:0<n->a=some ⟨g,m,none⟩)(F D:Nat->aN){K:List Item}{s:List PF}(hn:n<=8)(hs:∀i,i<n->(F i).size<=9223372036854775807/\(D i).size<=9223372036854775807)(J:kH w g m n F D)
 (hT:(∀i,i<n->jD F D i)->∀f u,Hw w u->CP bT prog E Post ⟨base 110,fa 35 f,K⟩ s u)
 (hB:¬(∀i,i<n->jD F D i)->∀f u K,f 2=.bool false->Hw w u->CP bT prog E Post ⟨base 110,fa 35 f,.code .ret::K⟩ s u):
 ∀j q,q+j=n->(∀i,i<q->jD F D i)->∀f u,IsF a n y q (uj F q) f->Hw w u->CP bT prog E Post ⟨base 110,fa 35 f,.code isX:: .inLoop isX:: .inBlock 0::K⟩ s u:=by
 intro j
 induction j with
 |zero=>
  intro q hq L f u p hw;have r:=p;cases r;obtain rfl:q=n:=by omega
  rw[EG];refine CP.seq (CP.reg (l:=[0]) M0 ?_);refine kv (.bool false) ?_;refine CP.jO (CP.seq (CP.cond (t:=false) trivial Y2 ?_));refine CP.ctl (λN O u=>stepG_exit (k':=K) rfl) ?_;exact hT L _ u hw
 |succ j ih=>
  intro q hq L f u p hw;have r:=p;cases r;have c:q<n:=by omega
  obtain rfl:=ha Q0;have Y:=(eX (hw.block g (fO (J q c).1)) (m+q*2)).trans (J q c).1;have Z:=(eX (hw.block g (fO (J q c).1)) (m+q*2+1)).trans (J q c).2;rw[EG];refine CP.seq (CP.reg (l:=[0]) M0 ?_);refine kv (.bool true) ?_;refine CP.jO (CP.seq (CP.cond (t:=true) trivial Y2 (CP.dx (CP.seq ?_))));refine CP.ctl (λN O u=>stepG_block) (CP.seq (CP.reg (l:=[0,1,2,3]) M0 ?_));refine kv (aJ g (m+q*2)) ?_;have e0:u.cell? (aB g (m+q*2))=some (.string (F q)):=Y;have e1:u.cell? (aB g (m+q*2+1))=some (.string (D q)):=Z;refine kv (.agg #[.string (F q),.string (D q)]) ?_;refine CP.BP (t:=38) (d:=5) (z:=.agg #[.string ⟨#[]⟩,.string ⟨#[]⟩]) rfl (.of M0) (dW M0) M0 λX I=>?_;have n1:X.heap[u.heap.size]? =some (.cells #[.string ⟨#[]⟩,.string ⟨#[]⟩] 38):=I.new;refine CP.fU (K:=.store 38 (.tmp 5) (.tmp 14)) aH rfl (.of M0) (dW M0) λt n' o' T=>⟨_,Ic (n:=F q) (d:=D q) (b:=u.heap.size) T ((aj U0).trans rfl) ((aj U0).trans rfl) n1,?_⟩;have C:=acP n1 (F q) (D q);refine CP.tp (w:=(X.setCell (aB u.heap.size 0) (.string (F q))).setCell (aB u.heap.size 1) (.string (D q))) (CP.jO ?_) t n';generalize(X.setCell (aB u.heap.size 0) (.string (F q))).setCell (aB u.heap.size 1) (.string (D q))=u2 at C ⊢;have W:=C.new;have V:Hw u u2:=⟨by rw[C.size,I.size];omega,λz U=>(C.old z Q0).trans (I.old z U),C.os.trans I.os⟩;have h2:Hw w u2:=hw.thn V;generalize G:aC _ 5 _=e;have P:e 3=.string (uj F q):=by rw[<-G];simp[aC,p.h3]
  have Q:e 5=aJ u.heap.size 0:=by rw[<-G];simp[aC]
  have e9:e 9=.slice (some ⟨g,m,none⟩) n y:=by rw[<-G];simp[aC,p.h9]
  have A:e 10=ah n:=by rw[<-G];simp[aC,p.h10]
  have B:e 11=ah q:=by rw[<-G];simp[aC,p.h11]
  clear G p Y Z;refine CP.seq (CP.seq (ac1 U u.heap.size (F q) (D q) (uj F q) (hs q c).1 (hs q c).2 (Iy F D q L) e P Q W λf H v k k3=>?_));have h3:Hw w H:=h2.thn k3;have n3:=(k3.block _ (bJ.1 W).1).trans W;have f3:=(v 3 U0).trans P;have f5:=(v 5 U0).trans Q;have f9:=(v 9 U0).trans e9;have R:=(v 10 U0).trans A;have S:=(v 11 U0).trans B;clear v P Q e9 A B;by_cases M:jD F D q
  .rw[nG ((Cb F D q).1 M)]at k;refine CP.cond (t:=false) trivial (by simp[aj,k]) (CP.dx (CP.reg (l:=[0,1,2]) M0 ?_));refine kv (aJ u.heap.size 0) ?_;have q0:H.cell? (aB u.heap.size 0)=some (.string (F q)):=(aQ H _ 0 _ _ _ n3).trans rfl;refine kv (.string (F q)) ?_;refine kC 33 3 ?_;refine CP.jO (CP.ctl (λN O u=>stepG_inBlock) (CP.reg (l:=[0,1]) M0 ?_));refine kw (ah (q+1:Nat)) ?_ (hr:=(λt n' o T=>by clear hT hB ih;exact dh (a:=q) (b:=1) T ((aj U0).trans S) rfl Q0));refine kC 34 11 ?_;refine CP.jO (CP.ctl (λN O u=>stepG_inLoop) ?_);rw[<-EG];exact ih (q+1) Q0 (λi hi=>by obtain h|h:=jY i q;exact L i h;obtain rfl:i=q:=Q0;exact M) _ H ⟨by simp[aC,uj],by simp[aC,f9],by simp[aC,R],by simp[aC]⟩ h3
  .rw[iI λx=>M ((Cb F D q).2 x)]at k;refine CP.cond (t:=true) trivial (by simp[aj,k]) (CP.seq (CP.reg (l:=[0]) M0 ?_));refine kK (.bool false) 2 ?_;exact CP.jO (hB (λx=>M (x q c)) _ H _ J2 h3)
open Classical in
theorem ac2(I:prog.globals.size=Zb.z)(g d n c:Nat)(a:Option Addr)(D:0<n->a=some ⟨g,d,none⟩)(N F:Nat->aN)(M:n<=9223372036854775807)(H:∀i,i<n->(N i).size<=9223372036854775807/\(F i).size<=9223372036854775807)(C:kH w g d n N F):
 RC bT prog E Post 110 #[.slice a n c] w λv u=>v=.bool (decide (n<=8/\∀i,i<n->jD N F i))/\Hw w u:=by
 refine RC.of func110 M0 Wz (by show 1<=35;decide) λp m o s r y J T=>?_;change CP _ _ _ _ ⟨_,fa 35 _,_⟩ _ _;refine kg ?_;refine kv (ah n) ?_;refine kv (.bool (decide (8<n))) ?_;by_cases q:8<n
 .refine kg ?_;refine CP.cond (t:=true) trivial (by simp[aj,aC,q]) (CP.seq (CP.reg (l:=[0]) M0 ?_));refine kg ?_;refine CP.out rfl rfl func110 (V:=λa=>a.tmps.getD 2 ak) Ki Sw (λA a b h=>h.tmps.getD 2) ?_;refine T _ _ ⟨?_,Hb.refl _ _⟩;show(fa _ _).tmps.getD 2 ak=_;have e:decide (n<=8/\∀i,i<n->jD N F i)=false:=iI λx=>aF x.1 Q0;rw[bN U0,e];simp[aC]
 refine kg ?_;refine CP.cond (t:=false) trivial (by simp[aj,aC,q]) (CP.dx ?_);refine kg ?_;refine kv (ah n) ?_;refine kg ?_;refine CP.ctl (λb L u=>stepG_loop) ?_;rw[<-EG];refine WA (w:=w) I g d n c a D N F Q0 H C ?_ ?_ n 0 Q0 (λi G=>aF G (dO i)) _ w ⟨by simp[aC,uj],by simp[aC],by simp[aC],by simp[aC]⟩ (Hb.refl _ _)
 .intro j f u k;refine kg ?_;refine CP.out rfl rfl func110 (V:=λa=>a.tmps.getD 2 ak) Ki Sw (λA a b h=>h.tmps.getD 2) ?_;refine T _ _ ⟨?_,k⟩;show(fa _ _).tmps.getD 2 ak=_;have e:decide (n<=8/\∀i,i<n->jD N F i)=true:=nG ⟨Q0,j⟩;rw[bN U0,e];simp[aC]
 .intro j f u K B k;refine CP.out rfl rfl func110 (V:=λa=>a.tmps.getD 2 ak) Ki Sw (λA a b h=>h.tmps.getD 2) ?_;refine T _ _ ⟨?_,k⟩;show(fa _ _).tmps.getD 2 ak=_;have e:decide (n<=8/\∀i,i<n->jD N F i)=false:=iI λx=>j x.2;rw[bN U0,B,e]
end
section
variable [Payload] [Zb] {π : Map}
theorem nT{S:aD}{x y a b:aA}(h:aL S π x a)(k:aL S π y b):aL S π (.tuple #[x,y]) (.tuple #[a,b]):=by have:=(bq.nil.push h).push k;exact .tuple this.1 this.2
theorem Sy(a:Act)(u:au):(results f51 a.tmps).run prog u=.ok (.tuple #[a.tmps.getD 2 ak,a.tmps.getD 3 ak]) u:=by simp[results,results51,go_sem]
theorem Xx(a:Act)(u:au):(results f51 a.tmps).events prog u #[]=#[]:=events_results_tmp2 (t:=2) (u:=3) M0 _ _
theorem WC:f51.body=some (.seq (.region 0 (rg f51 0) false) (.seq (.seq (.region 1 (rg f51 1) false) (.cond (.tmp 6) (.seq (.region 2 (rg f51 2) false) .ret) .skip)) (.seq (.region 3 (rg f51 3) false) .ret))):=by kernel_rfl
theorem WE(a:Option Addr)(n c:Nat)(b:Bool)(t:aN)(I:RC bT prog E Post 110 #[.slice a n c] w λv u=>v=.bool b/\Hw w u)(S:b=true->∀u,Hw w u->RC bT prog E Post 111 #[.slice a n c] u λx p=>x=.string t/\Hw u p):
 RC bT prog E Post 51 #[.slice a n c] w λv u=>v=.tuple #[.string (if b then t else⟨#[]⟩),ah (if b then 0 else 2)]/\Hw w u:=by
 refine RC.of func51 M0 WC (by show 1<=9;decide) λg f o j r k s T=>?_;change CP _ _ _ _ ⟨_,fa 9 _,_⟩ _ _;refine kg ?_;refine kf (I) ?_;rintro _ q ⟨rfl,d⟩;cases b with
 |true=>refine kv (.bool false) ?_;refine kg ?_;refine kq false ?_;refine kg ?_;refine kf (S rfl q d) ?_;rintro _ y ⟨rfl,e⟩;refine kg ?_;refine CP.out rfl rfl func51 (V:=λa=>.tuple #[a.tmps.getD 2 ak,a.tmps.getD 3 ak]) Sy Xx (λπ a m h=>nT (h.tmps.getD 2) (h.tmps.getD 3)) ?_;refine T _ _ ⟨?_,⟨bY d.size e.size,λz i=>(e.block z (bG i d.size)).trans (d.block z i),e.os.trans d.os⟩⟩;show Value.tuple #[(fa _ _).tmps.getD 2 ak,(fa _ _).tmps.getD 3 ak]=_;rw[bN U0,bN U0];simp[aC]
 |false=>refine kv (.bool true) ?_;refine kg ?_;refine kq true ?_;refine kg ?_;refine CP.out rfl rfl func51 (V:=λa=>.tuple #[a.tmps.getD 2 ak,a.tmps.getD 3 ak]) Sy Xx (λπ a m h=>nT (h.tmps.getD 2) (h.tmps.getD 3)) ?_;refine T _ _ ⟨?_,d⟩;show Value.tuple #[(fa _ _).tmps.getD 2 ak,(fa _ _).tmps.getD 3 ak]=_;rw[bN U0,bN U0];simp[aC]
theorem Kj(a:Act)(u:au):(results f25 a.tmps).run prog u=.ok (.tuple #[a.tmps.getD 8 ak,a.tmps.getD 9 ak]) u:=by simp[results,results25,go_sem]
theorem Sz(a:Act)(u:au):(results f25 a.tmps).events prog u #[]=#[]:=events_results_tmp2 (t:=8) (u:=9) M0 _ _
theorem Hw.then{u v:au}(h:Hw w u)(k:Hw u v):Hw w v:=⟨bY h.size k.size,λz a=>(k.block z (bG a h.size)).trans (h.block z a),k.os.trans h.os⟩
theorem WG:f25.body=some (.seq (.region 0 (rg f25 0) false) (.seq (.seq (.region 1 (rg f25 1) false) (.cond (.tmp 16) (.seq (.region 2 (rg f25 2) false) .ret) .skip)) (.seq (.region 3 (rg f25 3) false) (.seq (.seq (.region 4 (rg f25 4) false) (.cond (.tmp 23) (.seq (.region 5 (rg f25 5) false) .ret) .skip)) (.seq (.region 6 (rg f25 6) false) .ret))))):=by kernel_rfl
theorem EH(a:Option Addr)(n c:Nat)(k m z e:Int)(b:Bool)(t:aN)(I:RC bT prog E Post 50 #[ah k,ah m,ah z] w λv u=>v=.bool b/\Hw w u)
 (S:b=true->∀u,Hw w u->RC bT prog E Post 51 #[.slice a n c] u λx C=>x=.tuple #[.string t,ah e]/\Hw u C)
 (y:b=true->e=0->∀u,Hw w u->RC bT prog E Post 52 #[.string t,ah k,ah m,ah z] u Q):
 RC bT prog E Post 25 #[.slice a n c,ah k,ah m,ah z] w λv u=>(b=false/\v=.tuple #[.slice none 0 0,ah 1]/\Hw w u)\/(b=true/\e≠0/\v=.tuple #[.slice none 0 0,ah e]/\Hw w u)\/(b=true/\e=0/\∃x,v=.tuple #[x,ah 0]/\Q x u):=by
 refine RC.of func25 M0 WG (by show 4<=30;decide) λi g o q r s B T=>?_;change CP _ _ _ _ ⟨_,fa 30 _,_⟩ _ _;refine kg ?_;refine kf (I) ?_;rintro _ D ⟨rfl,d⟩;cases b with
 |true=>
  refine kv (.bool false) ?_;refine kg ?_;refine kq false ?_;refine kg ?_;refine kf (S rfl D d) ?_;rintro _ F ⟨rfl,j⟩;refine kg ?_;refine kv (.string t) ?_;refine kv (ah e) ?_;refine kg ?_;by_cases p:e=0
  .subst p;refine kv (.bool false) ?_;refine kg ?_;refine kq false ?_;refine kg ?_;refine kf (y rfl rfl F (d.then j)) ?_;intro x G A;refine kg ?_;refine CP.out rfl rfl func25 (V:=λa=>.tuple #[a.tmps.getD 8 ak,a.tmps.getD 9 ak]) Kj Sz (λπ a f h=>nT (h.tmps.getD 8) (h.tmps.getD 9)) ?_;refine T _ _ (.inr (.inr ⟨rfl,rfl,x,?_,A⟩));show Value.tuple #[(fa _ _).tmps.getD 8 ak,(fa _ _).tmps.getD 9 ak]=_;rw[bN U0,bN U0];simp[aC]
  .refine kv (.bool true) ?_;refine kg ?_;refine kq true ?_;refine kg ?_;refine CP.out rfl rfl func25 (V:=λa=>.tuple #[a.tmps.getD 8 ak,a.tmps.getD 9 ak]) Kj Sz (λπ a f h=>nT (h.tmps.getD 8) (h.tmps.getD 9)) ?_;refine T _ _ (.inr (.inl ⟨rfl,p,?_,d.then j⟩));show Value.tuple #[(fa _ _).tmps.getD 8 ak,(fa _ _).tmps.getD 9 ak]=_;rw[bN U0,bN U0];simp[aC]
 |false=>refine kv (.bool true) ?_;refine kg ?_;refine kq true ?_;refine kg ?_;refine CP.out rfl rfl func25 (V:=λa=>.tuple #[a.tmps.getD 8 ak,a.tmps.getD 9 ak]) Kj Sz (λπ a f h=>nT (h.tmps.getD 8) (h.tmps.getD 9)) ?_;refine T _ _ (.inl ⟨rfl,?_,d⟩);show Value.tuple #[(fa _ _).tmps.getD 8 ak,(fa _ _).tmps.getD 9 ak]=_;rw[bN U0,bN U0];simp[aC]
theorem EI(a:Act)(u:au):(results f93 a.tmps).run prog u=.ok (.tuple #[a.tmps.getD 8 ak,a.tmps.getD 9 ak]) u:=by simp[results,results93,go_sem]
theorem Kk(a:Act)(u:au):(results f93 a.tmps).events prog u #[]=#[]:=events_results_tmp2 (t:=8) (u:=9) M0 _ _
theorem SA:f93.body=some (.seq (.region 0 (rg f93 0) false) (.seq (.region 1 (rg f93 1) false) (.seq (.seq (.region 2 (rg f93 2) false) (.cond (.tmp 18) (.seq (.region 3 (rg f93 3) false) .ret) .skip)) (.seq (.region 4 (rg f93 4) false) (.seq (.seq (.region 5 (rg f93 5) false) (.cond (.tmp 25) (.seq (.region 6 (rg f93 6) false) .ret) .skip)) (.seq (.region 7 (rg f93 7) false) .ret)))))):=by kernel_rfl
theorem Bj(a:Option Addr)(n c:Nat)(k m z e:Int)(b:Bool)(t:aN)(I:RC bT prog E Post 145 #[ah k,ah m,ah z] w λv u=>v=.bool b/\Hw w u)
 (S:b=true->∀u,Hw w u->RC bT prog E Post 91 #[.slice a n c] u λx C=>x=.tuple #[.string t,ah e]/\Hw u C)
 (y:b=true->e=0->∀u,Hw w u->RC bT prog E Post 42 #[ah k,ah m,ah z,.string t] u Q):
 RC bT prog E Post 93 #[.slice a n c,ah k,ah m,ah z] w λv u=>(b=false/\v=.tuple #[.slice none 0 0,ah 1]/\Hw w u)\/(b=true/\e≠0/\v=.tuple #[.slice none 0 0,ah e]/\Hw w u)\/(b=true/\e=0/\∃x,v=.tuple #[x,ah 0]/\Q x u):=by
 refine RC.of func93 M0 SA (by show 4<=32;decide) λi g o q r s B T=>?_;change CP _ _ _ _ ⟨_,fa 32 _,_⟩ _ _;refine kg ?_;refine kf (I) ?_;rintro _ D ⟨rfl,d⟩;refine kg ?_;cases b with
 |true=>
  refine kv (.bool false) ?_;refine kg ?_;refine kq false ?_;refine kg ?_;refine kf (S rfl D d) ?_;rintro _ F ⟨rfl,j⟩;refine kg ?_;refine kv (.string t) ?_;refine kv (ah e) ?_;refine kg ?_;by_cases p:e=0
  .subst p;refine kv (.bool false) ?_;refine kg ?_;refine kq false ?_;refine kg ?_;refine kf (y rfl rfl F (d.then j)) ?_;intro x G A;refine kg ?_;refine CP.out rfl rfl func93 (V:=λa=>.tuple #[a.tmps.getD 8 ak,a.tmps.getD 9 ak]) EI Kk (λπ a f h=>nT (h.tmps.getD 8) (h.tmps.getD 9)) ?_;refine T _ _ (.inr (.inr ⟨rfl,rfl,x,?_,A⟩));show Value.tuple #[(fa _ _).tmps.getD 8 ak,(fa _ _).tmps.getD 9 ak]=_;rw[bN U0,bN U0];simp[aC]
  .refine kv (.bool true) ?_;refine kg ?_;refine kq true ?_;refine kg ?_;refine CP.out rfl rfl func93 (V:=λa=>.tuple #[a.tmps.getD 8 ak,a.tmps.getD 9 ak]) EI Kk (λπ a f h=>nT (h.tmps.getD 8) (h.tmps.getD 9)) ?_;refine T _ _ (.inr (.inl ⟨rfl,p,?_,d.then j⟩));show Value.tuple #[(fa _ _).tmps.getD 8 ak,(fa _ _).tmps.getD 9 ak]=_;rw[bN U0,bN U0];simp[aC]
 |false=>refine kv (.bool true) ?_;refine kg ?_;refine kq true ?_;refine kg ?_;refine CP.out rfl rfl func93 (V:=λa=>.tuple #[a.tmps.getD 8 ak,a.tmps.getD 9 ak]) EI Kk (λπ a f h=>nT (h.tmps.getD 8) (h.tmps.getD 9)) ?_;refine T _ _ (.inl ⟨rfl,?_,d⟩);show Value.tuple #[(fa _ _).tmps.getD 8 ak,(fa _ _).tmps.getD 9 ak]=_;rw[bN U0,bN U0];simp[aC]
end
end
section
open Go.Proofs.Tryz
open Go Go.Conc Go.ConcN Go.RowKit Go.Conc.Lib Go.ConcR.Gen Go.ConcN.Gen Go.Proofs.YtmhafipgbfaapaaGreatDoor.Ren
open Go.ConcR (KK WgAt wgBlock stA smA rd wr mk Payload DC0)
variable {key : aN} {v : Nat}
theorem WH(k m s:Int)(w:au)(a:mG k)(hm:mG m)(b:mG s)(h:s<8):
 Calls prog 50 #[ah k,ah m,ah s] w λe c=>e=.returned (.bool false)/\c=w:=by
 unfold mG at a hm b;have i:¬8<=s:=by omega
 clear h
 go_enter func50,ntmps50
 by_cases d:k<1
 .go_wp2
  go_ret
  exact⟨rfl,rfl⟩
 .by_cases f:m<0
  .go_wp2
   go_ret
   exact⟨rfl,rfl⟩
  .by_cases g:12-k<m
   .go_wp2
    go_ret
    exact⟨rfl,rfl⟩
   .go_wp2
    go_ret
    exact⟨rfl,rfl⟩
theorem SB(k m s:Int)(w:au)(a:mG k)(hm:mG m)(b:mG s)(h:s<8):
 Calls prog 145 #[ah k,ah m,ah s] w λe c=>e=.returned (.bool false)/\c=w:=by
 unfold mG at a hm b;have i:¬8<=s:=by omega
 clear h
 go_enter func145,ntmps145
 by_cases d:1<=k
 .by_cases j:k<=12
  .by_cases f:0<=m
   .by_cases l:m<=12
    .by_cases g:k+m<=12
     .go_wp2
      go_ret
      exact⟨rfl,rfl⟩
     .go_wp2
      go_ret
      exact⟨rfl,rfl⟩
    .go_wp2
     go_ret
     exact⟨rfl,rfl⟩
   .go_wp2
    go_ret
    exact⟨rfl,rfl⟩
  .go_wp2
   go_ret
   exact⟨rfl,rfl⟩
 .go_wp2
  go_ret
  exact⟨rfl,rfl⟩
section
variable [Payload] [Zb] {E : bf} {Post : aA -> au -> Prop} {w : au}
theorem yJ{f:FuncId}{a:Array aA}{v:aA}(h:∀w,Calls prog f a w λe b=>e=.returned v/\b=w)(w:au):Calls prog f a w λe b=>e=.returned v/\Keep bD w b:=Calls.mono (h w) λe u h=>⟨h.1,by rw[h.2];exact Keep.refl _ _⟩
theorem EJ(k m z:Int)(a:mG k)(b:mG m)(c:mG z):RC bT prog E Post 50 #[ah k,ah m,ah z] w λv u=>v=.bool (decide (nK k m z))/\Hw w u:=by
 by_cases h:nK k m z
 .rw[nG h];obtain⟨d,e,l,f,g,i⟩:=h;exact RC.keep U0 (yJ λw=>Pk k m z w d e Q0 f g i)
 .rw[iI h];by_cases j:z<8
  .exact RC.keep U0 (yJ λw=>WH k m z w a b c j)
  .exact RC.keep U0 (yJ λw=>Tq k m z w a b ⟨Q0,c.2⟩ h)
theorem Bn(k m z:Int)(a:mG k)(b:mG m)(c:mG z):RC bT prog E Post 145 #[ah k,ah m,ah z] w λv u=>v=.bool (decide (nK k m z))/\Hw w u:=by
 by_cases h:nK k m z
 .rw[nG h];exact RC.keep U0 (yJ λw=>MB k m z w h)
 .rw[iI h];by_cases d:z<8
  .exact RC.keep U0 (yJ λw=>SB k m z w a b c d)
  .exact RC.keep U0 (yJ λw=>OG k m z w a b ⟨Q0,c.2⟩ h)
theorem cO.hw{w u:au}{a:Option Addr}{n:Nat}{N F:Nat->aN}(h:cO w a n N F)(k:Hw w u):cO u a n N F:=λi f=>by
 obtain⟨g,o,e,b,c,d⟩:=h i f
 exact⟨g,o,e,bG b k.size,(eX (k.block g b) _).trans c,(eX (k.block g b) _).trans d⟩
def qK(n:Nat)(FN FD:Nat->aN):Prop:=n<=8/\∀i,i<n->jD FN FD i
open Classical in
theorem Mh(r:prog.globals.size=Zb.z)(a:Option Addr)(n c:Nat)(N F:Nat->aN)(q:n<=9223372036854775807)(s:∀i,i<n->(N i).size<=9223372036854775807/\(F i).size<=9223372036854775807)(p:cO w a n N F):
 RC bT prog E Post 51 #[.slice a n c] w λv u=>v=.tuple #[.string (if decide (qK n N F)then dI n N F n else⟨#[]⟩),ah (if decide (qK n N F)then 0 else 2)]/\Hw w u:=by
 obtain⟨g,o,l,d⟩:∃g o,(0<n->a=some ⟨g,o,none⟩)/\kH w g o n N F:=by
  by_cases k:0<n
  .obtain⟨g,o,e,t,h⟩:=p.some k;exact⟨g,o,λ_=>e,h⟩
  .exact⟨0,0,λh=>aF h k,λi b=>aF b Q0⟩
 refine WE a n c (decide (qK n N F)) (dI n N F n) ((ac2 r g o n c a l N F q s d).mono λv u h=>⟨h.1.trans (congrArg Value.bool (decide_eq_decide.2 Iff.rfl)),h.2⟩) λf u m=>?_;have f:=of_decide_eq_true f;refine Oo g o n c N F a l f.1 (λi b=>(f.2 i b).1.2.1) (λi b=>(f.2 i b).2.1) λi b=>?_;have j:=d i b;exact⟨(eX (m.block g (fO j.1)) _).trans j.1,(eX (m.block g (fO j.1)) _).trans j.2⟩
open Classical in
theorem Ie(a:Option Addr)(n c:Nat)(N F:Nat->aN)(A:n<=9223372036854775807)(y:∀i,i<n->(N i).size<=9223372036854775807/\(F i).size<=9223372036854775807)(j:cO w a n N F):
 RC bT prog E Post 91 #[.slice a n c] w λv u=>v=.tuple #[.string (if decide (qK n N F)then dI n N F n else⟨#[]⟩),ah (if decide (qK n N F)then 0 else 2)]/\Hw w u:=by
 have key:∀w,cO w a n N F->Calls prog 91 #[.slice a n c] w λe B=>e=.returned (.tuple #[.string (if decide (qK n N F)then dI n N F n else⟨#[]⟩),ah (if decide (qK n N F)then 0 else 2)])/\Keep bD w B:=by
  intro w j;by_cases z:8<n
  .have k:decide (qK n N F)=false:=iI λx=>aF x.1 Q0;rw[k];exact Df a n c w z A
  obtain l|⟨f,s,l,p⟩:=tZ (λi=>jD N F i) n
  .have k:decide (qK n N F)=true:=nG ⟨Q0,l⟩;rw[k];by_cases q:0<n
   .obtain⟨g,o,rfl,r,j⟩:=j.some q;exact xZ g o n c N F w Q0 (λ_=>r) j l _ (λ_=>rfl)
   .exact xZ 0 0 n c N F w Q0 (λh=>aF h q) (λi m=>aF m Q0) l a (λh=>aF h q)
  .have k:decide (qK n N F)=false:=iI λx=>p (x.2 f s);rw[k];obtain⟨g,o,rfl,r,j⟩:=j.some Q0;exact ER g o n c f N F w Q0 r j (λi m=>(y i m).1) (λi m=>(y i m).2) s l p
 exact RC.lone aH U0 (λv w t d h=>⟨h.1,⟨h.2.size,h.2.block,h.2.os⟩⟩) λt d=>Calls.mono (key (Ren.tp w t d) j) λe u h=>⟨_,h.1,rfl,⟨h.2.size,λb p=>h.2.block b p λx=>x,h.2.os⟩⟩
end
theorem Kl{k w:Nat}{D E:Nat->Nat->Nat}(h:∀j,j<k->D j=E j)(n:Nat):iO k w D n=iO k w E n:=uI λq _=>aK.bH λj a=>by rw[h j a]
theorem SE(k w i j:Nat)(s:aN)(h:j<k)(d:(i+1)*(k*(8*w))<=(jy k (8*w) s).size):pF (jy k (8*w) s) k w i j=RX k (8*w) s i j:=by
 unfold pF RX;generalize jy k (8*w) s=W at*;generalize 8*w=z at*;have e:(i*k+j)*z=i*(k*z)+j*z:=by rw[Nat.add_mul,Nat.mul_assoc]
 have a:(j+1)*z=j*z+z:=jk j z;have b:(i+1)*(k*z)=i*(k*z)+k*z:=jk _ _;have c:(j+1)*z<=k*z:=iR _ h;apply ByteArray.ext;rw[vv,vv,vv,Array.extract_extract,e]
 congr 1<;>omega
theorem WI(k m w:Nat)(s:aN)(P:Nat->Nat->Nat->Nat)(i v:Nat)(hw:0<w)(a:(i+1)*(k*(8*w))<=(jy k (8*w) s).size)(d:gT k m (gZ (λj=>j) k) (P i))(e:v<k+m):
 Ka k m w s P i v=iO k w (kQ w (pF (jy k (8*w) s) k w i)) v:=by
 have b:=PG k m w (RX k (8*w) s i) (P i) hw d (λj h=>by
  rw[<-SE k w i j s h a];unfold pF;have f:(i*k+j)*(8*w)=i*(k*(8*w))+j*(8*w):=by rw[Nat.add_mul,Nat.mul_assoc]
  have g:(i+1)*(k*(8*w))=i*(k*(8*w))+k*(8*w):=jk _ _;have c:(j+1)*(8*w)<=k*(8*w):=iR _ h;rw[jk]at c;rw[ext_size _ _ _ Q0];omega) v e
 refine Eq.trans b (Kl (λj h=>?_) v)
 funext q
 unfold kQ;rw[SE k w i j s h a]
theorem Bo{D E:Nat->aN}:∀n,(∀i,i<n->D i=E i)->qz key v D n=qz key v E n
 |0,_=>rfl
 |n+1,h=>by unfold qz;rw[Bo n λi a=>h i Q0,h n Q0]
def Mi(er:Int)(q:Nat)(X Y:Nat->aN)(w:au)(v:aA)(u:au):Prop:=Hw w u/\((q=0/\v=.tuple #[.slice none 0 0,ah er])\/(0<q/\∃vb,v=.tuple #[aU vb q q,ah er]/\w.heap.size<=vb/\pE vb q q X Y u))
theorem SG(n:Nat)(N F:Nat->aN)(h:qK n N F):(dI n N F n).size<=60000:=by have:=uf n N F n h.2;have:=h.1;omega
section
variable [Payload] [Zb] {Post : aA -> au -> Prop}
open Classical in
theorem Ou(U:Payload.ety=34)(M:Zb.z=prog.globals.size)(n:Nat)(N F:Nat->aN)(k m z:Int)(A:mG k)(B:mG m)(j:mG z)(E:n<=9223372036854775807)(G:∀i,i<n->(N i).size<=9223372036854775807/\(F i).size<=9223372036854775807):
 ∃I q X Y,q<=12/\mG I/\
  (∀(w:au) a c,cO w a n N F->(∃x e z,w.heap[Zb.z]? =some (.cells x e z))->Zb.n<=w.heap.size->RC bT prog jH.tWg Post 25 #[.slice a n c,ah k,ah m,ah z] w (Mi I q X Y w))/\
  (∀(w:au) a c,cO w a n N F->RC bT prog jH.tWg Post 93 #[.slice a n c,ah k,ah m,ah z] w (Mi I q X Y w)):=by
 by_cases hf:nK k m z
 .by_cases D:qK n N F
  .have L:=hf;obtain⟨Z,f2,f3,f4,f5,f6⟩:=L;obtain⟨kk,rfl⟩:∃kk:Nat,k=(kk:Int):=⟨k.toNat,Q0⟩;obtain⟨o,rfl⟩:∃o:Nat,m=(o:Int):=⟨m.toNat,Q0⟩;obtain⟨b,rfl⟩:∃b:Nat,z=((8*b:Nat):Int):=⟨(z/8).toNat,Q0⟩;have C:=SG n N F D;have T:0<kk*(8*b):=Nat.mul_pos Q0 Q0;have J:=qC kk (8*b) (dI n N F n) T;refine⟨0,kk+o,fJ,λv=>pz kk o b (dI n N F n).size (iw kk o b (dI n N F n)) v (λi=>iO kk b (kQ b (pF (jy kk (8*b) (dI n N F n)) kk b i)) v) (dz (kk*(8*b)) (dI n N F n).size),Q0,⟨U0,U0⟩,λw a c r g K=>?_,λw a c r=>?_⟩
   .refine(EH a n c _ _ _ 0 true (dI n N F n) (Q:=λx u=>∃y,Hw w y/\RY kk o b (dI n N F n) y x u) ?_ ?_ ?_).mono ?_
    .exact(EJ _ _ _ A B j).mono λv u h=>⟨h.1.trans G7,h.2⟩
    .intro _ u f;exact(Mh M.symm a n c N F E G (r.hw f)).mono λv u h=>⟨h.1.trans (by rw[nG D];rfl),h.2⟩
    .intro _ _ u f;obtain⟨x,e,z,g⟩:=g;exact(Ke U M kk o b _ Q0 Q0 Q0 Q0 C ⟨x,e,z,(f.block _ (bJ.1 g).1).trans g⟩ (bY K f.size)).mono λv W h=>⟨u,f,h⟩
    .rintro v u (⟨d,_⟩|⟨_,p,_⟩|⟨_,_,x,rfl,y,l,O,S,rfl,t,P,s,H⟩)
     .cases d
     .exact aF rfl p
     .refine⟨l.then H,.inr ⟨Q0,O,rfl,bY l.size t,s.congr λv V=>?_⟩⟩;unfold pz;rw[Bo _ λi R=>WI kk o b _ S i v Q0 ?_ (P i R) V];rw[J];exact iR _ R
   .refine(Bj a n c _ _ _ 0 true (dI n N F n) (Q:=λx u=>∃y,Hw w y/\Mg kk o b (dI n N F n) y x u) ?_ ?_ ?_).mono ?_
    .exact(Bn _ _ _ A B j).mono λv u h=>⟨h.1.trans G7,h.2⟩
    .intro _ u f;exact(Ie a n c N F E G (r.hw f)).mono λv u h=>⟨h.1.trans (by rw[nG D];rfl),h.2⟩
    .intro _ _ u f;exact(Ib kk o b _ Q0 Q0 Q0 Q0 C).mono λv W h=>⟨u,f,h⟩
    .rintro v u (⟨d,_⟩|⟨_,p,_⟩|⟨_,_,x,rfl,y,l,O,rfl,t,s,H⟩)
     .cases d
     .exact aF rfl p
     .exact⟨l.then H,.inr ⟨Q0,O,rfl,bY l.size t,s⟩⟩
  .refine⟨2,0,fJ,fJ,Q0,⟨U0,U0⟩,λw a c r g K=>?_,λw a c r=>?_⟩
   .refine(EH a n c k m z 2 true ⟨#[]⟩ (Q:=λ_ _=>False) ?_ ?_ λ_ h=>aF h U0).mono ?_
    .exact(EJ _ _ _ A B j).mono λv u h=>⟨h.1.trans G7,h.2⟩
    .intro _ u f;exact(Mh M.symm a n c N F E G (r.hw f)).mono λv u h=>⟨h.1.trans (by rw[iI D];rfl),h.2⟩
    .rintro v u (⟨d,_⟩|⟨_,p,rfl,h⟩|⟨_,p,_⟩)
     .cases d
     .exact⟨h,.inl ⟨rfl,rfl⟩⟩
     .exact aF p U0
   .refine(Bj a n c k m z 2 true ⟨#[]⟩ (Q:=λ_ _=>False) ?_ ?_ λ_ h=>aF h U0).mono ?_
    .exact(Bn _ _ _ A B j).mono λv u h=>⟨h.1.trans G7,h.2⟩
    .intro _ u f;exact(Ie a n c N F E G (r.hw f)).mono λv u h=>⟨h.1.trans (by rw[iI D];rfl),h.2⟩
    .rintro v u (⟨d,_⟩|⟨_,p,rfl,h⟩|⟨_,p,_⟩)
     .cases d
     .exact⟨h,.inl ⟨rfl,rfl⟩⟩
     .exact aF p U0
 .refine⟨1,0,fJ,fJ,Q0,⟨U0,U0⟩,λw a c r g K=>?_,λw a c r=>?_⟩
  .refine(EH a n c k m z 0 false ⟨#[]⟩ (Q:=λ_ _=>False) ?_ (λh=>by cases h) (λh=>by cases h)).mono ?_
   .exact(EJ _ _ _ A B j).mono λv u h=>⟨h.1.trans (by rw[iI hf]),h.2⟩
   .rintro v u (⟨_,rfl,h⟩|⟨d,_⟩|⟨d,_⟩)
    .exact⟨h,.inl ⟨rfl,rfl⟩⟩
    .cases d
    .cases d
  .refine(Bj a n c k m z 0 false ⟨#[]⟩ (Q:=λ_ _=>False) ?_ (λh=>by cases h) (λh=>by cases h)).mono ?_
   .exact(Bn _ _ _ A B j).mono λv u h=>⟨h.1.trans (by rw[iI hf]),h.2⟩
   .rintro v u (⟨_,rfl,h⟩|⟨d,_⟩|⟨d,_⟩)
    .exact⟨h,.inl ⟨rfl,rfl⟩⟩
    .cases d
    .cases d
