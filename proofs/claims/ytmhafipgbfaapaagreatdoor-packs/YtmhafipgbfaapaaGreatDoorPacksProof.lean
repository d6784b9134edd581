/- PROVED: for every script (a list of steps, each any values at all) the statement Packs (promise P6: every Pack that the script asks for, of whatever files and numbers, answers as the document's own answer does, byte by byte, changes nothing that was handed in, and hands out lists that are the caller's alone; goroutines that share plans under a mutex are started and waited for on the way) returns true on every schedule, without a race; the card ties the two listed tables of the library's package unicode/utf8 to its text.
   CONDITIONS: none beyond the row's own (it speaks of every input that can be read and that the form reaches; the listed variables start as the program's text lays them; time may pass). The card's tie speaks of the pruned copy of the project that the seat was made of. -/
import Derived.Test.YtmhafipgbfaapaaGreatDoorAbb0
import Derived.Test.YtmhafipgbfaapaaGreatDoorRows
import Derived.Test.YtmhafipgbfaapaaGreatDoorCards
import Derived.Test.YtmhafipgbfaapaaGreatDoorTie
import Derived.Stop.Joined
import Derived.Test.YtmhafipgbfaapaaGreatDoorPck10
set_option maxRecDepth 100000
set_option maxHeartbeats 8000000
set_option linter.unusedVariables false
set_option linter.unusedSimpArgs false
set_option linter.unusedSectionVars false
namespace Go.Proofs.YtmhafipgbfaapaaGreatDoor.packs
open Go.Proofs.Tryz
open Go Go.Conc Go.ConcN Go.ChangeShapes Go.WideShapes Go.ChangeAt Go.RowKit Go.Deep Go.Proofs.YtmhafipgbfaapaaGreatDoor.Ren
open Go.ConcR (Payload)
section
variable {H : Type} {b : bf × aA -> H}
theorem BU{a:Assume}{C:Checked}{L:Os}{f:FuncId}{n:Func}{s:ChangeSpec}{F:Stop.Interp}{g:List PathCond}{p fresh h:Bool}{X:au->Array aA->Prop}
 (S:∀(w q:au)(r:Array aA),w.heap=q.heap->X w r->X q r)
 (own:ownKnob C.prog.godebug=none)(l:L.Started)(G:C.prog.funcs[f]? =some n)
 (m:∃(w:au)(c:Tape)(i:Input),w.os=L/\(w.forCall c i).Shaped C.prog/\i.vars=[]/\Input.okWide C.prog (w.forCall c i) .any w.heap.size f i/\((s.pre b C.prog n g p (w.forCall c i).memory i.args/\X (w.forCall c i).memory i.args)/\sizedMet b C.prog n (OpenSpec.ofChange s) p (w.forCall c i).memory i.args)/\a.holds C.prog (lone (Frame.enter C.prog f i.args .normal) [] (w.forCall c i)))
 (k:∀(W:au)(u:Nat)(r:Array aA)(x y:List (DataW H))(d:List MemPlace),
   (∀(j:Nat) t v,n.params[j]? =some t->r[j]? =some v->Value.okWide C.prog W .any u t v)->
   DataW.Whole b C.prog n.params.toList s.vars p W r.toList x y d->
   g.all (PathCond.test C.prog ⟨n.params.toList,x,s.plain.varTypes C.prog,y⟩)=true->
   (DataW.weightsEach C.prog (n.params.toList++s.plain.varTypes C.prog) (x++y)).all (·<=reachBytes)=true->X W r->W.ShapedOpen C.prog->
   ∃N last o q D,runNT C.prog (N+1) (solo (gr (Frame.enter C.prog f r .normal) []) W) #[]=(.ended o q,D)/\runN C.prog N (solo (gr (Frame.enter C.prog f r .normal) []) W)=.next last/\step C.prog last=.ended o q/\Go.Conc.Good C.prog (λv M=>s.post b C.prog n p fresh h false W r v {M with os:=W.os}/\ConcM.OsLater W.os M.os) last o q D):
 ReturnsInLeavingWide a C L f .any (λw r=>(s.pre b C.prog n g p w r/\X w r)/\sizedMet b C.prog n (OpenSpec.ofChange s) p w r) ((OpenSpec.ofChange s).postWith b C.prog n F (outsideKept [.timePasses]) p fresh h):=by
 refine returnsInLeavingWide_of_good own l m (λw c i _ J _ I A _=>?_);obtain⟨_,_,_,E,z,_,_,_,_,B⟩:=I;have e:E=n:=gH (z.symm.trans G);subst e;obtain⟨⟨⟨x,y,d,hw,T⟩,Z⟩,hz⟩:=A;have K:=DataW.Whole.of_heap (w':=w.forCall c i) K4 hw;obtain⟨N,last,o,q,D,O,P,Q,v,R,⟨V,U⟩,Y⟩:=k (w.forCall c i) w.heap.size i.args x y d B K T (hz.weights hw) (S _ _ _ K4 Z) J;refine⟨N,last,o,q,D,O,P,Q,v,R,?_,Y⟩;exact postWith_blind (postWith_of_post V U)
end
theorem own:ownKnob Tryz.prog.godebug=none:=by kernel_rfl
theorem laidOut:laidOutB Tryz.prog=true:=by kernel_rfl
theorem Ig(v:aA):Frame.enter Tryz.prog 6 #[v] .normal=(base 6).at ⟨#[v,ak,ak,ak,ak],[]⟩ [.code (f6.body.getD .skip)]:=by unfold Frame.enter;rw[func6];rfl
theorem Ih[Payload][Zb]{S:aD}{π:Map}(p:Option Addr)(l c:Nat)(h:∀a,p=some a->l<=c/\(0<c->π.sh a.block)):∃b,QB S π (.slice p l c)=.slice b l c/\(0<l->b=p):=by
 have H:=iL (S:=S) (π:=π) (.slice p l c);cases p with
 |none=>exact⟨none,H.nil l c rfl,λ_=>rfl⟩
 |some a=>
  obtain⟨i,f⟩:=h a rfl;by_cases g:0<c
  .exact⟨some a,H.win a l c rfl (f g),λ_=>rfl⟩
  .obtain rfl:c=0:=by omega
   obtain rfl:l=0:=by omega
   obtain⟨d,e⟩:=H.no a rfl;exact⟨d,e,λh=>aF h (iQ 0)⟩
section
variable {S : aD} {d : Map}
theorem wY[Payload][Zb](n:Int):QB S d (ah n)=ah n:=(iL _).int _ _ rfl U0
theorem adE[Payload][Zb](n:Int):QB S d (.int .u64 n)=.int .u64 n:=(iL _).int _ _ rfl U0
theorem zD[Payload][Zb](s:aN):QB S d (.string s)=.string s:=(iL _).str _ rfl
end
theorem lifted(os:Os)(J:os.Started)(H:Type)(E:bf×aA->H)(F:Stop.Interp):
 ReturnsInLeavingWide {calm:=true} checked os 6 .any (λw r=>(Rows.packsSpec.pre E Tryz.prog f6 Rows.packsRow.domain false w r/\laidMetH Tryz.prog Rows.packsRow.laid w)/\sizedMet E Tryz.prog f6 (OpenSpec.ofChange Rows.packsSpec) false w r)
  ((OpenSpec.ofChange Rows.packsSpec).postWith E Tryz.prog f6 F (outsideKept [.timePasses]) false true false):=by
 refine BU (C:=checked) (X:=λw _=>laidMetH Tryz.prog Rows.packsRow.laid w) (λ_ _ _ hh h=>h.of_heap hh) own J func6
  (Dc (enc:=E) (C:=checked) (os:=os) (X:=λw _=>laidMetH Tryz.prog Rows.packsRow.laid w) (World.laidAll Tryz.prog os Rows.packsRow.laid) #[.slice none 0 0] 8 (World.laidAll_os _ _ _)
    (World.shaped_of_ZipB M0 M0) M0 M0 M0
    (by rw[MakeChecks.laidMetH_plain _ _ _ M0];exact laidMet_laidAll _ M0 M0)) ?_
 intro W L r ds gs before I hW hcnd hsz hL afS;have hsh:W.ShapedOpen Tryz.prog:=afS;have K:∀(j:Nat) t v,f6.params[j]? =some t->r[j]? =some v->Value.okWide Tryz.prog W .any L t v:=I;have hW':=hW;obtain⟨p,q,U,hV,rfl,hfz,hnd⟩:=hW;have hA:DataW.TrodAll E Tryz.prog W 0 (λ_=>true) true f6.params.toList r.toList ds p:=U;have hts:(f6.params.toList++Rows.packsSpec.plain.varTypes Tryz.prog)[0]? =some 22:=by kernel_rfl
 rw[params6]at hA K;obtain⟨v0,vs0,d0,ds0,p0,q0,ahN,rfl,rfl,h0,r0⟩:=trodAll_cons hA;obtain⟨rfl,rfl,rfl⟩:=trodAll_nil r0;obtain rfl:r=#[v0]:=by cases r;simp_all
 obtain⟨rfl,rfl⟩:=trodVars_none hV;obtain⟨P,l,f,rfl⟩:=okWide_slice underlying22 (K 0 22 v0 rfl rfl);have k0:=h0;have lt0:∀x∈p0,x.block<W.heap.size:=by obtain⟨m,hm⟩:=k0;exact DataW.trod_lt m _ _ _ hm
 obtain⟨R,hf⟩:=h0;have NI:fits 22 d0:=λk hk=>by have:=List.all_eq_true.1 hsz _ (DataW.weights_mem_each hts (show([d0]++[])[0]? =some d0 from rfl) k hk);simpa using this
 have hf:DataW.trod E Tryz.prog W 0 (λ_=>true) true R 22 [.slice P l f]=some (d0,p0):=by simpa[Value.cells]using hf
 obtain⟨hlen,hx⟩:=DU hf NI;clear U I;obtain⟨c,e,z,Zz,h64⟩:=Ov hsh;have A:∃c e z,W.heap[Tryz.prog.globals.size]? =some (.cells c e z):=⟨c,e,z,Zz⟩
 letI:Payload:=⟨34⟩
 letI:Zb:=QD W Tryz.prog.globals.size
 obtain⟨a1,ea1,ha1⟩:=Ih (S:=bT) (π:=iT W Tryz.prog.globals.size A) P l f (λa ha=>by subst ha;exact yK underlying22 hf (by rw[vJ];decide))
 have V:fQ bT (iT W Tryz.prog.globals.size A) ⟨#[.slice a1 l f,ak,ak,ak,ak],[]⟩ ⟨#[.slice P l f,ak,ak,ak,ak],[]⟩:=by
  refine⟨bq.jc rfl λi v v' B d=>?_,rfl,rfl⟩
  match i,B,d with
  |0,B,d=>cases B;cases d;rw[<-ea1];exact(iL _).rel
  |1,B,d=>cases B;cases d;exact .undef
  |2,B,d=>cases B;cases d;exact .undef
  |3,B,d=>cases B;cases d;exact .undef
  |4,B,d=>cases B;cases d;exact .undef
  |n+5,B,d=>simp at B
 have hZ:∃x e z,(yV bT (iT W Tryz.prog.globals.size A) W).heap[Zb.z]? =some (.cells x e z):=⟨_,_,_,qw Zz⟩;have hN:Zb.n<=(yV bT (iT W Tryz.prog.globals.size A) W).heap.size:=by rw[sJ];exact aS _
 have hst:∀i,i<l->zC (yV bT (iT W Tryz.prog.globals.size A) W) a1 i:=by
  intro i hi;obtain⟨b,off,k,at_,x,y,z,n,s,al,nl,cl,ab,nb,cb,af,nf,cf,T,Z,D,FN,FD,e1,e2,G,⟨_,_,ix,iy,iz⟩,_,_,_,⟨e5,e6,e7⟩⟩:=hx i hi;have ea:a1=some ⟨b,off,none⟩:=(ha1 Q0).trans e1;subst e1;obtain⟨af',eaf,haf⟩:=Ih (S:=bT) (π:=iT W Tryz.prog.globals.size A) af nf cf (λa ha=>by subst ha;exact EK hf hi G.2.2.2.2.2.2.2.2.2)
  refine⟨b,off,k,at_,x,y,z,n,s,_,_,af',nf,cf,FN,FD,ea,by rw[sJ];exact e2,⟨?_,?_,?_,?_,?_,?_,?_,fI G.2.2.2.2.2.2.2.1,fI G.2.2.2.2.2.2.2.2.1,?_⟩,⟨ix,iy,iz⟩,e5,λj hj=>?_,λj hj=>by have:=e6 j hj;omega⟩
  .have:=fI (S:=bT) (π:=iT W Tryz.prog.globals.size A) G.1;rwa[wY]at this
  .have:=fI (S:=bT) (π:=iT W Tryz.prog.globals.size A) G.2.1;rwa[wY]at this
  .have:=fI (S:=bT) (π:=iT W Tryz.prog.globals.size A) G.2.2.1;rwa[wY]at this
  .have:=fI (S:=bT) (π:=iT W Tryz.prog.globals.size A) G.2.2.2.1;rwa[wY]at this
  .have:=fI (S:=bT) (π:=iT W Tryz.prog.globals.size A) G.2.2.2.2.1;rwa[wY]at this
  .have:=fI (S:=bT) (π:=iT W Tryz.prog.globals.size A) G.2.2.2.2.2.1;rwa[zD]at this
  .have:=fI (S:=bT) (π:=iT W Tryz.prog.globals.size A) G.2.2.2.2.2.2.1;rwa[zD]at this
  .have:=fI (S:=bT) (π:=iT W Tryz.prog.globals.size A) G.2.2.2.2.2.2.2.2.2;rwa[eaf]at this
  .obtain⟨g,o,e8,e9,f1,f2⟩:=e7 j hj;refine⟨g,o,(haf Q0).trans e8,by rw[sJ];exact e9,?_,?_⟩
   .have:=fI (S:=bT) (π:=iT W Tryz.prog.globals.size A) f1;rwa[zD]at this
   .have:=fI (S:=bT) (π:=iT W Tryz.prog.globals.size A) f2;rwa[zD]at this
 have hcp:=SQ (Post:=λv u=>v=.bool true/\(∀b,b<W.heap.size->u.heap[b]? =W.heap[b]?)/\W.heap.size<=u.heap.size/\ConcM.OsLater W.os u.os) (cap:=f) rfl rfl hlen hst hZ hN (λπ u hR⟨v,hH,hh⟩=>⟨rfl,hR.kd.kp,hR.kd.sz,(Ik.of hH.os).trans hh.os⟩);obtain⟨N,last,o,w',t',r1,r2,r3,v,r4,⟨⟨B,Y,M,Tc⟩,afT⟩,hr⟩:=Jy W A V hcp;refine⟨N,last,o,w',t',?_,?_,r3,v,r4,?_,hr⟩
 .show runNT Tryz.prog (N+1) (solo (gr (Frame.enter Tryz.prog 6 #[.slice P l f] .normal) []) W) #[]=_;rw[Ig];exact r1
 .show runN Tryz.prog N (solo (gr (Frame.enter Tryz.prog 6 #[.slice P l f] .normal) []) W)=_;rw[Ig];exact r2
 subst B;have Q:Below W.heap.size W {w' with tape:=W.tape,os:=W.os}:=⟨rfl,rfl,afT,M,Y⟩;have tr:=Below.trod laidOut M0 (of_decide_eq_true M0) k0 Q lt0;have fr:∀O,W.keptBut {w' with os:=W.os} O:=λO=>Q.frame O;exact⟨⟨_,_,_,[],_,[],hW',trodAll_mk1 (shut_bool underlying4 _),(trodAll_cons_mk (DataW.Trod.of_heap (w':={w' with os:=W.os}) K4 tr) trodAll_mk0),rfl,fr _,λh=>by cases h⟩,Tc⟩
theorem over:Rows.PacksSaid:=
 OpenClaim.holds_of_wide_leaving_time 6 f6 rfl rfl rfl rfl rfl rfl rfl ⟨rfl,rfl,rfl,rfl,rfl⟩ rfl rfl rfl rfl rfl M0 func6 M0
  (of_decide_eq_true M0) (by unfold Func.isWrapper;first|(rw[aI (by decide+kernel)];kernel_rfl)|(rw[av (by decide+kernel)];exact⟨rfl,rfl⟩))
  (λo s H e _ F=>lifted o s H e F)
theorem proved:Rows.PacksCardSaid:=
 Mj .later _ _ _ _ over M0 packs_row_tie rfl ⟨rfl,rfl⟩ M0 rfl
  (λf n c a=>by
    obtain rfl:f=6:=gH ((show Tryz.prog.funcNamed "salvage/salvagelaw.Packs" =some 6 by kernel_rfl).symm.trans c) |>.symm
    obtain rfl:n=f6:=(gH (func6.symm.trans a)).symm
    exact⟨M0,λj t b=>by
     rw[params6]at b
     have m:t∈[22]:=by simpa using qW b
     have h:([22].all λu=> !Tryz.prog.wantsStandIn u)=true:=by kernel_rfl
     exact(show Tryz.prog.wantsStandIn t=false by simpa using List.all_eq_true.1 h t m)⟩)
  M0
#print axioms proved
end Go.Proofs.YtmhafipgbfaapaaGreatDoor.packs
