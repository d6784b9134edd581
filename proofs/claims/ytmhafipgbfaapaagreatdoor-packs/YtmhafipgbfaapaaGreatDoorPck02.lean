import Derived.Test.YtmhafipgbfaapaaGreatDoorAbb0
import GoSem.Step
import Derived.StepT
import Derived.Laws.Sem
import Derived.KernelRfl
import Derived.Calls
import Derived.Conc.CrowdTrace
import Derived.Conc.CrowdRun
set_option maxRecDepth 100000
set_option maxHeartbeats 8000000
set_option linter.unusedVariables false
set_option linter.unusedSimpArgs false
set_option linter.unusedSectionVars false
section
namespace Go.Proofs.YtmhafipgbfaapaaGreatDoor.Ren
open Go Go.Conc Go.ConcN
variable {A : Prop} {Al SS : aD} {F : Frame -> au -> Prop} {Fz Gd Mx Sh Sh' : Loc -> Prop} {K K' : List Item} {Q : aA -> au -> Prop} {R R' W W' : Nat -> Loc -> Prop} {a' L : Addr} {b b' g i p0 r' : Nat} {c c' o x x' : Array aA} {cs cs' l l' seg E : List Frame} {e : RuntimeError} {C : bf} {es es' : Array Event} {f : FuncId} {fr fr' D n : Frame} {k : IntKind} {keep said sv : Bool} {o' : Obj} {op : BinOp} {p : Program} {s : Nat -> Bool} {G H v' : aA} {t : Trace} {ts : Array bf} {u w w' w₁ : au} {y : MemOp} {y' z z' : Option aA} {α β I J d : Type} {ρ ρ' : Operand -> aA}
section
variable {k' G : Sem β} {f : α -> Sem I} {f' : β -> Sem J}
structure Map where
 own:Nat->aD
 sh:aD
 g:Nat
 shg:sh g
structure Map.rel(π:Map)(b b':Nat):Prop where
 or:π.own b b'\/(π.sh b/\b'=b)
 high:π.g<=b\/b'=b
structure Map.le(π eH:Map):Prop where
 own:∀b b',π.own b b'->eH.own b b'
 sh:∀b,π.sh b↔eH.sh b
 g:eH.g=π.g
theorem Map.le.refl(a:Map):a.le a:=⟨λ_ _ h=>h,λ_=>Iff.rfl,rfl⟩
theorem Map.le.trans{a b c:Map}(h:a.le b)(d:b.le c):a.le c:=⟨λ_ _ x=>d.own _ _ (h.own _ _ x),λx=>(h.sh x).trans (d.sh x),d.g.trans h.g⟩
theorem Map.le.rel{π a:Map}(h:π.le a){b b':Nat}(x:π.rel b b'):a.rel b b':=⟨x.or.imp (h.own _ _) λ⟨y,z⟩=>⟨(h.sh _).1 y,z⟩,h.g▸x.high⟩
structure bR(π:Map)(a a':Addr):Prop where
 block:π.rel a.block a'.block
 off:a'.off=a.off
 spot:a'.spot=a.spot
variable {π eH mO bg : Map} {A : Map -> α -> β -> Prop} {B : Map -> I -> J -> Prop}
theorem bR.mono(h:π.le eH){a:Addr}(x:bR π a a'):bR eH a a':=⟨h.rel x.block,x.off,x.spot⟩
theorem bR.add{π:Map}{a a':Addr}(x:bR π a a')(n:Nat):bR π (a.add n) (a'.add n):=by
 unfold Addr.add
 split
 .exact x
 .exact⟨x.block,by simp[x.off],rfl⟩
def Nc:aA->Prop
 |.bool _=>False
 |.agg _=>False
 |.pointer none=>False
 |.nilIface=>False
 |.nilFunc=>False
 |.func (.method _) _ _=>False
 |_=>True
inductive aL(S:aD)(π:Map):aA->aA->Prop
 |bool (b:Bool):aL S π (.bool b) (.bool b)
 |int (k:IntKind) (n:Int):aL S π (.int k n) (.int k n)
 |string (s:aN):aL S π (.string s) (.string s)
 |jL:aL S π (.pointer none) (.pointer none)
 |ptr {a a':Addr}:bR π a a'->aL S π (.pointer (some a)) (.pointer (some a'))
 |dQ (l c:Nat):aL S π (.slice none l c) (.slice none l c)
 |slice {a a':Addr} (l c:Nat):bR π a a'->aL S π (.slice (some a) l c) (.slice (some a') l c)
 |iT:aL S π (.map none) (.map none)
 |map {r r':Nat}:π.rel r r'->aL S π (.map (some r)) (.map (some r'))
 |func {f:Nat} {x x' y y':Array aA}:S f->x.size=x'.size->(∀i,i<x.size->aL S π (x.getD i ak) (x'.getD i ak))->y.size=y'.size->(∀i,i<y.size->aL S π (y.getD i ak) (y'.getD i ak))->aL S π (.func (.func f) x y) (.func (.func f) x' y')
 |nilFunc:aL S π .nilFunc .nilFunc
 |iface (t:bf) {v v':aA}:aL S π v v'->aL S π (.iface t v) (.iface t v')
 |nilIface:aL S π .nilIface .nilIface
 |agg {x x':Array aA}:x.size=x'.size->(∀i,i<x.size->aL S π (x.getD i ak) (x'.getD i ak))->aL S π (.agg x) (.agg x')
 |tuple {x x':Array aA}:x.size=x'.size->(∀i,i<x.size->aL S π (x.getD i ak) (x'.getD i ak))->aL S π (.tuple x) (.tuple x')
 |junk {v':aA}:Nc v'->aL S π (.tuple #[]) v'
 |fG (a':Addr):aL S π (.slice (some ⟨0,0,some 0⟩) 0 0) (.slice (some a') 0 0)
 |DV (n:String) (f c:Array aA):aL S π (.func (.method "") #[.iface (π.g+1000000) (.tuple #[])] #[]) (.func (.method n) f c)
theorem aL.mono{S:aD}(h:π.le eH){v:aA}(x:aL S π v v'):aL S eH v v':=by
 induction x with
 |bool b=>exact .bool b
 |int k n=>exact .int k n
 |string s=>exact .string s
 |jL=>exact .jL
 |ptr a=>exact .ptr (a.mono h)
 |dQ l c=>exact .dQ l c
 |slice l c a=>exact .slice l c (a.mono h)
 |iT=>exact .iT
 |map r=>exact .map (h.rel r)
 |func s d _ y _ e j=>exact .func s d e y j
 |nilFunc=>exact .nilFunc
 |iface t _ i=>exact .iface t i
 |nilIface=>exact .nilIface
 |agg d _ i=>exact .agg d i
 |tuple d _ i=>exact .tuple d i
 |junk h=>exact .junk h
 |fG a'=>exact .fG a'
 |DV n f c=>rw[<-h.g];exact .DV n f c
theorem aL.undef{S:aD}:aL S π ak ak:=.tuple rfl λi h=>by simp at h
def bq(S:aD)(π:Map)(x x':Array aA):Prop:=x.size=x'.size/\∀i,i<x.size->aL S π (x.getD i Go.undef) (x'.getD i Go.undef)
theorem bq.mono{S:aD}(h:π.le eH)(r:bq S π x x'):bq S eH x x':=⟨r.1,λi a=>(r.2 i a).mono h⟩
theorem bq.getD{S:aD}(r:bq S π x x')(i:Nat):aL S π (x.getD i Go.undef) (x'.getD i Go.undef):=by
 by_cases h:i<x.size
 .exact r.2 i h
 .have b:¬i<x'.size:=by rw[<-r.1];exact h
  have e:x.getD i Go.undef=Go.undef:=by simp[Array.getD,h]
  have a:x'.getD i Go.undef=Go.undef:=by simp[Array.getD,b]
  rw[e,a];exact .undef
theorem bq.get?{S:aD}(r:bq S π x x')(i:Nat):(x[i]? =none/\x'[i]? =none)\/∃v v',x[i]? =some v/\x'[i]? =some v'/\aL S π v v':=by
 by_cases h:i<x.size
 .have a:i<x'.size:=by rw[<-r.1];exact h
  have:=r.2 i h;simp only[Array.getD,h,a,dite_true]at this;exact .inr ⟨x[i],x'[i],by simp[h],by simp[a],this⟩
 .have a:¬i<x'.size:=by rw[<-r.1];exact h
  exact .inl ⟨by simp;omega,by simp;omega⟩
theorem bq.jc{S:aD}(s:x.size=x'.size)(h:∀(i:Nat)(v v':aA),x[i]? =some v->x'[i]? =some v'->aL S π v v'):bq S π x x':=by
 refine⟨s,λi b=>?_⟩;have a:i<x'.size:=by omega
 simp only[Array.getD,b,a,dite_true];exact h i _ _ (by simp[b]) (by simp[a])
theorem bq.get{S:aD}(r:bq S π x x'){v:aA}(h:x[i]? =some v)(c:x'[i]? =some v'):aL S π v v':=by
 obtain⟨e,_⟩|⟨a,b,e,d,x⟩:=r.get? i
 .rw[e]at h;cases h
 .rw[e]at h;rw[d]at c;cases h;cases c;exact x
theorem bq.nil{S:aD}:bq S π #[] #[]:=⟨rfl,λi h=>by simp at h⟩
theorem bq.push{S:aD}(r:bq S π x x'){v:aA}(h:aL S π v v'):bq S π (x.push v) (x'.push v'):=by
 refine bq.jc (by simp[r.1]) λi a b c d=>?_;rw[oL]at c d;rw[r.1]at c
 split at c
 .rename_i e;rw[aI e]at d;cases c;cases d;exact h
 .rename_i e;rw[av e]at d;exact r.get c d
theorem bq.append{S:aD}{y y':Array aA}(r:bq S π x x')(q:bq S π y y'):bq S π (x++y) (x'++y'):=by
 refine bq.jc (by simp[r.1,q.1]) λi a b h c=>?_;rw[Array.getElem?_append]at h c;rw[r.1]at h
 split at h
 .rename_i e;rw[aI e]at c;exact r.get h c
 .rename_i e;rw[av e]at c;exact q.get h c
theorem bq.set{S:aD}(r:bq S π x x')(i:Nat){v:aA}(h:aL S π v v'):bq S π (x.setIfInBounds i v) (x'.setIfInBounds i v'):=by
 refine bq.jc (by simp[r.1]) λj a b c d=>?_;rw[Array.getElem?_setIfInBounds]at c d;rw[r.1]at c
 split at c
 .rename_i e;rw[aI e]at d
  split at c
  .rename_i f;rw[aI f]at d;cases c;cases d;exact h
  .cases c
 .rename_i e;rw[av e]at d;exact r.get c d
theorem bq.extract{S:aD}(r:bq S π x x')(i j:Nat):bq S π (x.extract i j) (x'.extract i j):=by
 refine bq.jc (by simp[r.1]) λk a b h c=>?_;rw[Array.getElem?_extract]at h c;rw[r.1]at h
 split at h
 .rename_i e;rw[aI e]at c;exact r.get h c
 .cases h
theorem bq.replicate{S:aD}(n:Nat){v:aA}(h:aL S π v v'):bq S π (Array.replicate n v) (Array.replicate n v'):=by
 refine bq.jc X0 λk a b c d=>?_;rw[Array.getElem?_replicate]at c d
 split at c
 .rename_i e;rw[aI e]at d;cases c;cases d;exact h
 .cases c
theorem bq.map{S:aD}{π:Map}{α:Type}(xs:Array α){f g:α->aA}(h:∀a∈xs,aL S π (f a) (g a)):bq S π (xs.map f) (xs.map g):=by
 refine bq.jc X0 λk a b c d=>?_;rw[Array.getElem?_map]at c d;cases e:xs[k]? with
 |none=>rw[e]at c;cases c
 |some y=>rw[e]at c d;cases c;cases d;exact h y (qW e)
theorem bq.one{S:aD}{v:aA}(h:aL S π v v'):bq S π #[v] #[v']:=bq.push .nil h
theorem Nc.cells{v:aA}(h:Nc v):v.cells=#[v]:=by cases v<;>first|rfl|(unfold Nc at h;exact h.elim)
theorem aL.cells{S:aD}{π:Map}{v v':aA}(h:aL S π v v'):bq S π v.cells v'.cells:=by
 by_cases j:v=.tuple #[]/\Nc v'
 .obtain⟨rfl,d⟩:=j;rw[d.cells];exact .one (.junk d)
 cases h<;>first|exact(j ⟨rfl,‹_›⟩).elim|exact bq.one (.fG _)|exact bq.one (.DV _ _ _)|exact⟨‹_›,‹_›⟩|(unfold Value.cells;refine .one ?_;constructor<;>assumption)
inductive Flat:aA->Prop
 |bool (b:Bool):Flat (.bool b)
 |int (k:IntKind) (n:Int):Flat (.int k n)
 |string (s:aN):Flat (.string s)
 |jL:Flat (.pointer none)
 |dQ (l c:Nat):Flat (.slice none l c)
 |iT:Flat (.map none)
 |nilFunc:Flat .nilFunc
 |iface (t:bf) {v:aA}:Flat v->Flat (.iface t v)
 |nilIface:Flat .nilIface
 |agg {x:Array aA}:(∀i,i<x.size->Flat (x.getD i Go.undef))->Flat (.agg x)
 |tuple {x:Array aA}:(∀i,i<x.size->Flat (x.getD i Go.undef))->Flat (.tuple x)
theorem Flat.rel{S:aD}{π:Map}{v:aA}(h:Flat v):aL S π v v:=by
 induction h with
 |bool b=>exact .bool b
 |int k n=>exact .int k n
 |string s=>exact .string s
 |jL=>exact .jL
 |dQ l c=>exact .dQ l c
 |iT=>exact .iT
 |nilFunc=>exact .nilFunc
 |iface t _ i=>exact .iface t i
 |nilIface=>exact .nilIface
 |agg _ i=>exact .agg rfl i
 |tuple _ i=>exact .tuple rfl i
inductive ko(S:aD)(π:Map):Obj->Obj->Prop
 |cells {c c':Array aA} (e:bf) (z:Nat×Nat):bq S π c c'->ko S π (.cells c e z) (.cells c' e z)
 |map {x x':Array MapEntry} (n:Nat):x.size=x'.size->(∀(i:Nat)(a a':MapEntry),x[i]? =some a->x'[i]? =some a'->aL S π a.key a'.key/\aL S π a.val a'.val/\a'.born=a.born)->ko S π (.map x n) (.map x' n)
 |number {a a':Addr} (l:Bool):bR π a a'->ko S π (.number a l) (.number a' l)
theorem ko.mono{S:aD}(h:π.le eH){o:Obj}(r:ko S π o o'):ko S eH o o':=by
 cases r with
 |cells e z a=>exact .cells e z (a.mono h)
 |map n s a=>exact .map n s λi x x' c b=>let⟨p,q,r⟩:=a i x x' c b;⟨p.mono h,q.mono h,r⟩
 |number l a=>exact .number l (a.mono h)
def Ab:Result α->Prop
 |.halt (.stuck _) _=>True
 |.halt (.unsupported u) _=>∀g,u≠ .initOrder g
 |_=>False
inductive ay(S:aD)(p:Program){α β:Type}(A:Map->α->β->Prop):Map->Sem α->Sem β->Prop
 |pure {π:Map} {a:α} {b:β}:A π a b->ay S p A π (.pure a) (.pure b)
 |load {π:Map} {a a':Addr} {k:aA->Sem α} {k':aA->Sem β}:bR π a a'->(∀v v',aL S π v v'->(π.own a.block a'.block\/∀n,v≠ .int .u8 n)->ay S p A π (k v) (k' v'))->ay S p A π (.load .plain a k) (.load .plain a' k')
 |store {π:Map} {a a':Addr} {v v':aA} {k:Sem α} {k':Sem β}:bR π a a'->aL S π v v'->ay S p A π k k'->ay S p A π (.store .plain a v k) (.store .plain a' v' k')
 |new {π:Map} {o o':Obj} {k:Nat->Sem α} {k':Nat->Sem β}:ko S π o o'->(∀eH r r',π.le eH->eH.own r r'->eH.g<=r->ay S p A eH (k r) (k' r'))->ay S p A π (.new o k) (.new o' k')
 |shape {π:Map} {r r':Nat} {k:Option (bf×Nat)->Sem α} {k':Option (bf×Nat)->Sem β}:π.rel r r'->(∀x,ay S p A π (k x) (k' x))->ay S p A π (.shape r k) (.shape r' k')
 |freeze {π:Map} {a a':Addr} {n:Nat} {k:Sem α} {k':Sem β}:π.own a.block a'.block->a'.off=a.off->ay S p A π k k'->ay S p A π (.freeze a n k) (.freeze a' n k')
 |getObj {π:Map} {r r':Nat} {k:Obj->Sem α} {k':Obj->Sem β}:π.rel r r'->(∀o o',ko S π o o'->ay S p A π (k o) (k' o'))->ay S p A π (.getObj r k) (.getObj r' k')
 |setObj {π:Map} {r r':Nat} {o o':Obj} {k:Sem α} {k':Sem β}:π.own r r'->ko S π o o'->(∀c e z,o≠ .cells c e z)->ay S p A π k k'->ay S p A π (.setObj r o k) (.setObj r' o' k')
 |choose {π:Map} {q:Question} {k:Nat->Sem α} {k':Nat->Sem β}:(∀n,ay S p A π (k n) (k' n))->ay S p A π (.choose q k) (.choose q k')
 |program {π:Map} {k:Program->Sem α} {k':Program->Sem β}:ay S p A π (k p) (k' p)->ay S p A π (.program k) (.program k')
 |vL {π:Map} {k:Program->Sem α} {k':Sem β}:ay S p A π (k p) k'->ay S p A π (.program k) k'
 |dead {π:Map} {s:Sem α} {k':Sem β}:(∀w,Ab (s.run p w))->ay S p A π s k'
 |env {π:Map} {k:SysRet->Sem α} {k':SysRet->Sem β}:(∀r,ay S p A π (k r) (k' r))->ay S p A π (.sys .env k) (.sys .env k')
 |room {π:Map} {k:Sem α} {k':Sem β}:ay S p A π k k'->ay S p A π (.mark .noRoom k) (.mark .noRoom k')
 |panic {π:Map} {v v':aA}:aL S π v v'->ay S p A π (.halt (.panic v)) (.halt (.panic v'))
 |stuck {π:Map} {s:String} {k':Sem β}:ay S p A π (.halt (.stuck s)) k'
 |refused {π:Map} {u:Unsupported} {k':Sem β}:(∀g,u≠ .initOrder g)->ay S p A π (.halt (.unsupported u)) k'
theorem ay.bind{S:aD}{s:Sem α}
 (h:ay S p A π s G)(c:∀eH a b,π.le eH->A eH a b->ay S p B eH (f a) (f' b)):ay S p B π (s.bind f) (G.bind f'):=by
 induction h with
 |pure a=>exact c _ _ _ (.refl _) a
 |load a _ i=>exact .load a λv v' q k=>i v v' q k c
 |store a v _ i=>exact .store a v (i c)
 |new o _ i=>exact .new o λeH r r' h m j=>i eH r r' h m j λd a b g=>c d a b (h.trans g)
 |shape r _ i=>exact .shape r λx=>i x c
 |freeze a o _ i=>exact .freeze a o (i c)
 |getObj r _ i=>exact .getObj r λo o' l=>i o o' l c
 |setObj r o n _ i=>exact .setObj r o n (i c)
 |choose _ i=>exact .choose λn=>i n c
 |program _ i=>exact .program (i c)
 |vL _ i=>exact .vL (i c)
 |dead h=>
  refine .dead λw=>?_;have:=h w;rw[Sem.run_bind'];cases e:(Sem.run p _ w)with
  |ok a w'=>rw[e]at this;exact this.elim
  |halt x w'=>rw[e]at this;cases x<;>exact this
 |env _ i=>exact .env λr=>i r c
 |room _ i=>exact .room (i c)
 |panic v=>exact .panic v
 |stuck=>exact .stuck
 |refused h=>exact .refused h
theorem ay.bind'{S:aD}{s:Sem α}
 (h:ay S p A π s G)(c:∀eH a b,π.le eH->A eH a b->ay S p B eH (f a) (f' b)):ay S p B π (s>>=f) (G>>=f'):=ay.bind h c
theorem ay.mono{S:aD}{B:Map->α->β->Prop}{s:Sem α}(h:ay S p A π s G)(c:∀eH a b,π.le eH->A eH a b->B eH a b):ay S p B π s G:=by
 have:=ay.bind (B:=B) (f:=Sem.pure) (f':=Sem.pure) h λeH a b h x=>.pure (c eH a b h x);have e:∀{α:Type}(s:Sem α),s.bind Sem.pure=s:=by
  intro α s
  induction s with
  |pure a=>rfl
  |halt h=>rfl
  |load m a k i=>simp[Sem.bind,i]
  |store m a v k i=>simp[Sem.bind,i]
  |new o k i=>simp[Sem.bind,i]
  |shape o k i=>simp[Sem.bind,i]
  |freeze a n k i=>simp[Sem.bind,i]
  |frozen a k i=>simp[Sem.bind,i]
  |getObj r k i=>simp[Sem.bind,i]
  |setObj r o k i=>simp[Sem.bind,i]
  |choose q k i=>simp[Sem.bind,i]
  |sys q k i=>simp[Sem.bind,i]
  |program k i=>simp[Sem.bind,i]
  |mark m k i=>simp[Sem.bind,i]
 rwa[e,e]at this
def Ik(o o':Os):Prop:=∃d:Nat,o'={o with wall:=o.wall+d,mono:=o.mono+d}
theorem Ik.refl(o:Os):Ik o o:=⟨0,rfl⟩
theorem Ik.of{o o':Os}(h:o'=o):Ik o o':=h▸Ik.refl _
theorem Ik.trans{a b c:Os}(h:Ik a b)(k:Ik b c):Ik a c:=by obtain⟨d,rfl⟩:=h;obtain⟨e,rfl⟩:=k;exact⟨d+e,by simp[Nat.add_assoc]⟩
theorem Ik.env{o o':Os}(h:Ik o o'):o'.env=o.env:=by obtain⟨d,rfl⟩:=h;rfl
structure bI(S:aD)(π:Map)(w w':au):Prop where
 own:∀b b',π.own b b'->∃o o',w.heap[b]? =some o/\w'.heap[b']? =some o'/\ko S π o o'
 sh:∀b,π.sh b->∃c c' e z z',w.heap[b]? =some (.cells c e (0,z))/\w'.heap[b]? =some (.cells c' e z')/\bq S π c c'/\c.size<=z/\∀(i:Nat) n,c[i]? ≠some (.int .u8 n)
 fn:∀b c d,π.own b c->π.own b d->c=d
 inj:∀b c d,π.own c b->π.own d b->c=d
 apart:∀b b',π.own b b'->¬π.sh b/\¬π.sh b'
 high:π.g<=w.heap.size
 os:Ik w.os w'.os
structure Turns(π bg:Map)(w w₁:au):Prop where
 le:π.le bg
 size:w.heap.size<=w₁.heap.size
 frame:∀b,b<w.heap.size->(∀c,¬π.own c b)->w₁.heap[b]? =w.heap[b]?
 fresh:∀c b,bg.own c b->π.own c b\/w.heap.size<=b
 tape:w₁.tape=w.tape
 os:w₁.os=w.os
 output:w₁.output=w.output
theorem Turns.refl(π:Map)(w:au):Turns π π w w:=⟨.refl π,aS _,λ_ _ _=>rfl,λ_ _ h=>.inl h,rfl,rfl,rfl⟩
theorem Turns.trans{a:Map}{d:au}(h:Turns π bg w w₁)(e:Turns bg a w₁ d):Turns π a w d:=by
 refine⟨h.le.trans e.le,bY h.size e.size,λb g n=>?_,λc b f=>?_,e.tape.trans h.tape,e.os.trans h.os,e.output.trans h.output⟩
 .refine(e.frame b (bG g h.size) λc f=>?_).trans (h.frame b g n);obtain x|x:=h.fresh c b f
  .exact n c x
  .omega
 .obtain x|x:=e.fresh c b f
  .exact h.fresh c b x
  .exact .inr (bY h.size x)
def vM(π:Map)(e:Event):Prop:=
 match e.loc with
 |.cell a=>e.sync=false/\((∃b,π.own b a.block)\/(π.sh a.block/\e.write=false))
 |.obj r=>e.sync=false/\∃b,π.own b r
 |.mark .noRoom=>True
 |.output=>True
 |_=>False
theorem vM.mono(h:π.le eH){e:Event}(x:vM π e):vM eH e:=by
 unfold vM at x ⊢
 split
 .rename_i a c;rw[c]at x;exact⟨x.1,x.2.imp (λ⟨b,y⟩=>⟨b,h.own _ _ y⟩) λ⟨y,z⟩=>⟨(h.sh _).1 y,z⟩⟩
 .rename_i r c;rw[c]at x;exact⟨x.1,let⟨b,y⟩:=x.2;⟨b,h.own _ _ y⟩⟩
 .trivial
 .trivial
 .rename_i n d f g
  split at x
  .rename_i a e;exact(n _ e).elim
  .rename_i a e;exact(d _ e).elim
  .rename_i e;exact(f e).elim
  .rename_i e;exact(g e).elim
  .exact x
def fin{α:Type}:Result α->au
 |.ok _ w=>w
 |.halt _ w=>w
theorem Nf(x:Ask α):∀(w:au),w.drawn<=(w.ask x).2.drawn:=by
 induction x with
 |done a=>intro w;exact aS _
 |ask h range k i=>
  intro w;unfold World.ask;simp only
  split
  .exact i 0 w
  .exact bY (Nat.le_succ _) (i _ {w with drawn:=w.drawn+1})
theorem Ng(w:au)(c:Sys):w.drawn<=(w.sys c).2.drawn:=by
 have:=Nf (Kernel.perform c w.os) w;unfold World.sys
 split
 .exact aS _
 .rename_i r o a e h;rw[h]at this;exact this
theorem yP{u:bf}{k:Addr}{v:aA}{b:Bool}{r:au×List Addr}(h:w.viewStore p L u k v b=.ok r):r.1.drawn=w.drawn:=by
 unfold World.viewStore at h;simp only[bind,Except.bind,pure,Except.pure,throw,throwThe,MonadExceptOf.throw]at h
 repeat' split at h
 all_goals first|(cases h;rfl)|cases h
theorem Ac{c:au}{a:Addr}{v:aA}{b:Bool}{l:List Addr}(h:w.farStore p a v b=.ok (c,l)):c.drawn=w.drawn:=by
 unfold World.farStore at h
 split at h
 .split at h
  .rename_i r e;simp only[Except.ok.injEq]at h;subst h;exact yP e
  .cases h
 .cases h
theorem sw(p:Program)(s:Sem α):∀w:au,w.drawn<=(fin (s.run p w)).drawn:=by
 induction s with
 |pure a=>intro w;exact aS _
 |halt h=>intro w;exact aS _
 |load m a k i=>
  intro w;unfold Sem.run
  split
  .exact i _ w
  .split
   .exact i _ w
   .exact aS _
 |store m a v k i=>
  intro w;have key:w.drawn<=(fin (match w.cell? a with
   |some _=>if w.frozen? a then .halt (.unsupported (.unsafePointer "a write to bytes that a string shares")) w else k.run p (w.setCell a v)
   |none=>match w.farStore p a v (m== .atomic)with
    |.ok (w,_)=>k.run p w
    |.error h=>.halt h w)).drawn:=by
   split
   .split
    .exact aS _
    .exact i (w.setCell a v)
   .split
    .rename_i b l e;have:=i b;rw[Ac e]at this;exact this
    .exact aS _
  cases v<;>first|exact key|exact aS _
 |new o k i=>intro w;simp only[Sem.run];exact i _ {w with heap:=w.heap.push o}
 |shape r k i=>intro w;exact i _ w
 |freeze a n k i=>
  intro w;have:=i (w.freeze a n);have e:(w.freeze a n).drawn=w.drawn:=by unfold World.freeze;split<;>rfl
  rw[e]at this;exact this
 |frozen a k i=>intro w;exact i _ w
 |getObj r k i=>
  intro w;unfold Sem.run
  split
  .exact aS _
  .exact i _ w
  .exact aS _
 |setObj r o k i=>
  intro w;unfold Sem.run
  split
  .exact aS _
  .exact i {w with heap:=w.heap.setIfInBounds r o}
  .exact aS _
 |choose q k i=>
  intro w;unfold Sem.run
  split
  .exact i _ w
  .exact bY (Nat.le_succ _) (i _ {w with drawn:=w.drawn+1})
 |sys c k i=>intro w;exact bY (Ng w c) (i _ _)
 |program k i=>intro w;exact i _ w
 |mark m k i=>intro w;exact i w
def Agree(w w':au)(d d':Nat):Prop:=∀i q,w.drawn+i<d->w'.drawn+i<d'->w.tape (w.drawn+i) q=w'.tape (w'.drawn+i) q
structure Ends{α β:Type}(S:aD)(A:Map->α->β->Prop)(π:Map)(w w':au)(es:Array Event)(a:α)(b:β)(w₁ w₁':au)(es':Array Event)(bg:Map):Prop where
 turns:Turns π bg w' w₁'
 heap:bI S bg w₁ w₁'
 ans:A bg a b
 evs:∀e∈es',e∈es\/vM bg e
 drawn:w₁.drawn+w'.drawn=w₁'.drawn+w.drawn
def lT(S:aD)(A:Map->α->β->Prop)(π:Map)(w w':au)(es:Array Event)(r:Result α)(r':Result β)(es':Array Event):Prop:=
 match r with
 |.ok a w₁=>∃b w₁',r'=.ok b w₁'/\∃bg,Ends S A π w w' es a b w₁ w₁' es' bg
 |.halt (.panic v) w₁=>∃v' w₁',r'=.halt (.panic v') w₁'/\∃bg,Ends S (λπ=>aL S π) π w w' es v v' w₁ w₁' es' bg
 |.halt (.stuck _) _=>True
 |.halt (.unsupported u) _=>∀g,u≠ .initOrder g
 |_=>False
theorem lT.after{S:aD}{w₁':au}{s:Array Event}{r:Result α}{r':Result β}(h:Turns π bg w' w₁')(k:w₁.drawn+w'.drawn=w₁'.drawn+w.drawn)(j:∀e∈s,e∈es\/vM bg e)
 (c:lT S A bg w₁ w₁' s r r' es'):lT S A π w w' es r r' es':=by
 have go:∀{α β:Type}{A:Map->α->β->Prop}{a:α}{b:β}{f g:au}{d:Map},Ends S A bg w₁ w₁' s a b f g es' d->Ends S A π w w' es a b f g es' d:=λ{α β A a b f g d} x=>⟨h.trans x.turns,x.heap,x.ans,λe i=>(x.evs e i).elim (λy=>(j e y).imp id λz=>z.mono x.turns.le) .inr,by have:=x.drawn;omega⟩
 cases r with
 |ok a f=>obtain⟨b,u,e,d,x⟩:=c;exact⟨b,u,e,d,go x⟩
 |halt h f=>
  cases h with
  |panic v=>obtain⟨b,u,e,d,x⟩:=c;exact⟨b,u,e,d,go x⟩
  |_=>exact c
theorem vN{S:aD}{a:Addr}(h:bI S π w w')(r:bR π a a'):(w.cell? a=none/\w.farLoad (p:=default) a true=.error (.stuck "load: no such cell")/\True)\/∃v v',w.cell? a=some v/\w'.cell? a'=some v'/\aL S π v v'/\(π.own a.block a'.block\/∀n,v≠ .int .u8 n):=by
 have i:=r.spot;obtain g|⟨f,j⟩:=r.block.or
 .obtain⟨o,o',e,b,q⟩:=h.own _ _ g;cases q with
  |cells t z d=>
   rename_i c c';obtain⟨x,x'⟩|⟨v,v',x,x',y⟩:=d.get? a.off
   .left;have:w.cell? a=none:=by simp[World.cell?,e,x]
    exact⟨this,by simp[World.farLoad,e,World.noCell],trivial⟩
   .cases s:a.spot with
    |some k=>left;exact⟨by simp[World.cell?,e,s],by simp[World.farLoad,e,World.noCell],trivial⟩
    |none=>right;exact⟨v,v',by simp[World.cell?,e,s,x],by simp[World.cell?,b,i,s,r.off,x'],y,.inl g⟩
  |map n C B=>left;exact⟨by simp[World.cell?,e],by simp[World.farLoad,e,World.noCell],trivial⟩
  |number l A=>left;exact⟨by simp[World.cell?,e],by simp[World.farLoad,e,World.noCell],trivial⟩
 .obtain⟨c,c',t,z,z',e,b,d,_,u⟩:=h.sh _ f;rw[<-j]at b;obtain⟨x,x'⟩|⟨v,v',x,x',y⟩:=d.get? a.off
  .left;have:w.cell? a=none:=by simp[World.cell?,e,x]
   exact⟨this,by simp[World.farLoad,e,World.noCell],trivial⟩
  .cases s:a.spot with
   |some k=>left;exact⟨by simp[World.cell?,e,s],by simp[World.farLoad,e,World.noCell],trivial⟩
   |none=>right;exact⟨v,v',by simp[World.cell?,e,s,x],by simp[World.cell?,b,i,s,r.off,x'],y,.inr λn m=>u a.off n (m▸x)⟩
theorem zk{S:aD}{a:Addr}(h:bI S π w w')(r:bR π a a')(p:Program)(b:Bool)(v:aA):w.farLoad p a b=.error (.stuck "load: no such cell")/\w.farStore p a v b=.error (.stuck "store: no such cell"):=by
 obtain f|⟨s,i⟩:=r.block.or
 .obtain⟨o,o',e,d,g⟩:=h.own _ _ f;cases g<;>exact⟨by simp[World.farLoad,e,World.noCell],by simp[World.farStore,e,World.noCell]⟩
 .obtain⟨c,c',t,z,z',e,d,j,_⟩:=h.sh _ s;exact⟨by simp[World.farLoad,e,World.noCell],by simp[World.farStore,e,World.noCell]⟩
theorem bI.lt{S:aD}(h:bI S π w w')(x:π.own b b'):b<w.heap.size/\b'<w'.heap.size:=by obtain⟨o,o',e,a,_⟩:=h.own _ _ x;exact⟨(bJ.1 e).1,(bJ.1 a).1⟩
theorem heap_setCell(w:au)(a:Addr)(v:aA)(b:Nat):(w.setCell a v).heap[b]? =if b=a.block then(w.heap[b]?).map (λ|.cells c C frozen=>.cells (if a.spot.isSome then c else c.setIfInBounds a.off v) C frozen|o=>o)else w.heap[b]? :=by
 simp only[World.setCell,Array.getElem?_modify]
 split
 .rename_i h;rw[aI h.symm];cases w.heap[b]? with
  |none=>rfl
  |some o=>cases o<;>rfl
 .rename_i h;rw[av (Ne.symm h)]
theorem bI.turn{S:aD}(h:bI S π w w')(x:π.own b b'){o:Obj}(r:ko S π o o'){v v':au}
 (e:∀c,v.heap[c]? =if c=b then some o else w.heap[c]?)(j:∀c,v'.heap[c]? =if c=b' then some o' else w'.heap[c]?)(s:v.heap.size=w.heap.size)(i:v.os=w.os)(g:v'.os=w'.os):bI S π v v':=by
 refine⟨λc c' a=>?_,λc a=>?_,h.fn,h.inj,h.apart,s▸h.high,by rw[i,g];exact h.os⟩
 .rw[e,j];by_cases d:c=b
  .subst d;rw[aI rfl,aI (h.fn _ _ _ a x)];exact⟨o,o',rfl,rfl,r⟩
  .rw[av d,av (λf:c'=b'=>d (h.inj _ _ _ (f▸a) x))];exact h.own _ _ a
 .have:=h.apart _ _ x;rw[e,j,av (λf:c=b=>this.1 (f▸a)),av (λf:c=b'=>this.2 (f▸a))];exact h.sh _ a
theorem Turns.one{S:aD}(h:bI S π w w')(x:π.own b b'){o:Obj}{v':au}(e:∀c,v'.heap[c]? =if c=b' then some o else w'.heap[c]?)(s:v'.heap.size=w'.heap.size)
 (t:v'.tape=w'.tape)(d:v'.os=w'.os)(p:v'.output=w'.output):Turns π π w' v':=
 ⟨.refl π,Q0,λc _ n=>by rw[e,av (λa:c=b'=>n b (a▸x))],λ_ _ y=>.inl y,t,d,p⟩
def Map.grow(π:Map)(b b':Nat):Map:=⟨λx y=>π.own x y\/(x=b/\y=b'),π.sh,π.g,π.shg⟩
theorem Map.vO(π:Map)(b b':Nat):π.le (π.grow b b'):=⟨λ_ _ h=>.inl h,λ_=>Iff.rfl,rfl⟩
theorem bI.push{S:aD}(h:bI S π w w'){o:Obj}(k:ko S π o o'):
 bI S (π.grow w.heap.size w'.heap.size) {w with heap:=w.heap.push o} {w' with heap:=w'.heap.push o'}:=by
 have le:=π.vO w.heap.size w'.heap.size;refine⟨λc c' a=>?_,λc a=>?_,λb c d a f=>?_,λb c d a f=>?_,λb c a=>?_,by have:=h.high;simp[Map.grow];omega,h.os⟩
 .obtain a|⟨rfl,rfl⟩:=a
  .have:=h.lt a;obtain⟨x,x',e,g,r⟩:=h.own _ _ a;refine⟨x,x',?_,?_,r.mono le⟩
   .rw[oL,av Q0];exact e
   .rw[oL,av Q0];exact g
  .exact⟨o,o',X0,X0,k.mono le⟩
 .obtain⟨x,x',t,z,z',e,g,r,i⟩:=h.sh _ a;have j:=(bJ.1 e).1;have l:=(bJ.1 g).1;refine⟨x,x',t,z,z',?_,?_,r.mono le,i⟩
  .rw[oL,av Q0];exact e
  .rw[oL,av Q0];exact g
 .obtain a|⟨rfl,rfl⟩:=a<;>obtain f|⟨j,rfl⟩:=f
  .exact h.fn _ _ _ a f
  .have:=h.lt a;omega
  .have:=h.lt f;omega
  .rfl
 .obtain a|⟨rfl,rfl⟩:=a<;>obtain f|⟨rfl,j⟩:=f
  .exact h.inj _ _ _ a f
  .have:=h.lt a;omega
  .have:=h.lt f;omega
  .rfl
 .obtain a|⟨rfl,rfl⟩:=a
  .exact h.apart _ _ a
  .refine⟨λs=>?_,λs=>?_⟩
   .obtain⟨x,x',t,z,z',e,g,r,i⟩:=h.sh _ s;have:=(bJ.1 e).1;omega
   .obtain⟨x,x',t,z,z',e,g,r,i⟩:=h.sh _ s;have:=(bJ.1 g).1;omega
theorem Agree.step{w w' w₁ c:au}{d f:Nat}(h:Agree w w' d f)(j:w₁.tape=w.tape)(t:c.tape=w'.tape)(n:Nat)(g:w₁.drawn=w.drawn+n)(e:c.drawn=w'.drawn+n):Agree w₁ c d f:=by intro i q a b;have:=h (n+i) q Q0 Q0;rw[j,t,g,e];rw[<-Nat.add_assoc,<-Nat.add_assoc]at this;exact this
theorem Cu{S:aD}(h:bI S π w w')(g:π.sh b){a:Addr}(e:a.block=b){v:aA}(d:w.cell? a=some v):w.frozen? a=true:=by
 obtain⟨c,c',t,z,z',f,j,i,k,_⟩:=h.sh _ g;subst e;have:a.off<c.size:=by
  simp only[World.cell?,f]at d
  split at d
  .cases d
  .exact(bJ.1 d).1
 simp[World.frozen?,f];omega
def SV(off n:Nat):Obj->Obj
 |.cells c C z=>.cells c C (if z.1==z.2 then(off,off+n)else(min z.1 off,max z.2 (off+n)))
 |o=>o
theorem kR(w:au)(a:Addr){n:Nat}(c:n≠0)(b:Nat):(w.freeze a n).heap[b]? =if b=a.block then(w.heap[b]?).map (SV a.off n)else w.heap[b]? :=by
 unfold World.freeze;rw[av c];simp only[Array.getElem?_modify];by_cases h:b=a.block
 .rw[aI h.symm,aI h];cases w.heap[b]? with
  |none=>rfl
  |some o=>cases o<;>rfl
 .rw[av (Ne.symm h),av h]
theorem kS(w:au)(a:Addr)(n:Nat):(w.freeze a n).drawn=w.drawn/\(w.freeze a n).tape=w.tape/\(w.freeze a n).os=w.os/\(w.freeze a n).output=w.output/\(w.freeze a n).heap.size=w.heap.size:=by
 unfold World.freeze
 split
 .exact⟨rfl,rfl,rfl,rfl,rfl⟩
 .exact⟨rfl,rfl,rfl,rfl,X0⟩
theorem ko.SV{S:aD}{o:Obj}(h:ko S π o o')(f n:Nat):ko S π (SV f n o) (SV f n o'):=by
 cases h with
 |cells e z a=>exact .cells e _ a
 |map m s a=>exact .map m s a
 |number l a=>exact .number l a
theorem runs{S:aD}{s:Sem α}(h:ay S p A π s G):∀(w w':au)(es:Array Event),bI S π w w'->Agree w w' (fin (s.run p w)).drawn (fin (G.run p w')).drawn->
 lT S A π w w' es (s.run p w) (G.run p w') (G.events p w' es):=by
 induction h with
 |pure a=>intro w w' es d _;exact⟨_,_,rfl,_,.refl _ _,d,a,λe he=>.inl he,Q0⟩
 |@load π a a' k k' M _ t=>
  intro w w' es d f;obtain⟨e,_,_⟩|⟨v,v',e,B,R,U⟩:=vN d M
  .have:=(zk d M p (Mode.plain== .atomic) ak).1;simp only[Sem.run,e,this];trivial
  .have r1:(Sem.load .plain a k).run p w=(k v).run p w:=by simp[Sem.run,e]
   have j:(Sem.load .plain a' k').run p w'=(k' v').run p w':=by simp[Sem.run,B]
   have D:(Sem.load .plain a' k').events p w' es=(k' v').events p w' (es.push ⟨.cell a',false,false⟩):=by unfold Sem.events;rw[Sem.runT];simp only[B];rfl
   rw[r1,j]at f;rw[r1,j,D];refine lT.after (.refl _ _) Q0 (λL i=>?_) (t v v' R U w w' _ d f);obtain x|rfl:=Array.mem_push.1 i
   .exact .inl x
   .right;obtain y|⟨y,z⟩:=M.block.or
    .exact⟨rfl,.inl ⟨_,y⟩⟩
    .exact⟨rfl,.inr ⟨z▸y,rfl⟩⟩
 |@store π a a' v v' k k' M R _ t=>
  intro w w' es d f;have far:=(zk d M p (Mode.plain== .atomic) v).2;have Y:∀x:Array aA,v=.agg x\/v=.tuple x->lT S A π w w' es ((Sem.store .plain a v k).run p w) ((Sem.store .plain a' v' k').run p w') ((Sem.store .plain a' v' k').events p w' es):=by intro x hx;obtain rfl|rfl:=hx<;>(simp only[Sem.run];trivial)
  have r1:(∀x,v≠ .agg x)->(∀x,v≠ .tuple x)->(Sem.store .plain a v k).run p w=(match w.cell? a with
   |some _=>if w.frozen? a then .halt (.unsupported (.unsafePointer "a write to bytes that a string shares")) w else k.run p (w.setCell a v)
   |none=>match w.farStore p a v (Mode.plain== .atomic)with
    |.ok (w,_)=>k.run p w
    |.error h=>.halt h w):=by
   intro X h2;cases v<;>first|rfl|exact(X _ rfl).elim|exact(h2 _ rfl).elim
  by_cases X:∃x,v=.agg x\/v=.tuple x
  .obtain⟨x,hx⟩:=X;exact Y x hx
  have n1:∀x,v≠ .agg x:=λx e=>X ⟨x,.inl e⟩;have n2:∀x,v≠ .tuple x:=λx e=>X ⟨x,.inr e⟩;have n1':∀x,v'≠ .agg x:=by intro x e;subst e;cases R<;>first|exact n1 _ rfl|exact n2 _ rfl
  have n2':∀x,v'≠ .tuple x:=by intro x e;subst e;cases R<;>first|exact n1 _ rfl|exact n2 _ rfl
  have r1:=r1 n1 n2;obtain⟨e,_,_⟩|⟨u,H,e,B,hu,_⟩:=vN d M
  .rw[r1,e];simp only[far];trivial
  .obtain y|⟨y,z⟩:=M.block.or
   .obtain⟨o,o',V,W,T⟩:=d.own _ _ y;cases T with
    |map n hz hm=>simp[World.cell?,V]at e
    |number l hl=>simp[World.cell?,V]at e
    |cells O z F=>
     rename_i c c';have hsp:a.spot=none:=by
      cases hs:a.spot with
      |none=>rfl
      |some k=>simp[World.cell?,V,hs]at e
     have ad9:a'.spot=none:=M.spot.trans hsp;by_cases I:w.frozen? a=true
     .rw[r1,e];simp only[I,if_true];intro g f;cases f
     .have Z:w'.frozen? a'=false:=by
       have:w'.frozen? a'=w.frozen? a:=by simp[World.frozen?,V,W,M.off]
       rw[this];simpa using I
      have I:w.frozen? a=false:=by simpa using I
      have q1:(Sem.store .plain a v k).run p w=k.run p (w.setCell a v):=by rw[r1,e];simp[I]
      have q2:(Sem.store .plain a' v' k').run p w'=k'.run p (w'.setCell a' v'):=by cases v'<;>first|(simp[Sem.run,B,Z];done)|exact(n1' _ rfl).elim|exact(n2' _ rfl).elim
      have q3:(Sem.store .plain a' v' k').events p w' es=k'.events p (w'.setCell a' v') (es.push ⟨.cell a',true,false⟩):=by
       have g:(Sem.store .plain a' v' k').runT p w' es=(match w'.cell? a' with
        |some _=>
         if w'.frozen? a' then(.halt (.unsupported (.unsafePointer "a write to bytes that a string shares")) w',es)
         else k'.runT p (w'.setCell a' v') (es.push ⟨.cell a',true,Mode.plain== .atomic⟩)
        |none=>match w'.farStore p a' v' (Mode.plain== .atomic)with
         |.ok (w,K)=>k'.runT p w (es++K.toArray.map (⟨.cell ·,true,Mode.plain== .atomic⟩))
         |.error h=>(.halt h w',es)):=by
        cases v'<;>first|rfl|exact(n1' _ rfl).elim|exact(n2' _ rfl).elim
       unfold Sem.events;rw[g];simp only[B,Z,gU,if_false];rfl
      rw[q1,q2]at f;rw[q1,q2,q3];have P:∀b,(w.setCell a v).heap[b]? =if b=a.block then some (.cells (c.setIfInBounds a.off v) O z)else w.heap[b]? :=λb=>by
       rw[heap_setCell];split
       .rename_i C;subst C;simp[V,hsp]
       .rfl
      have J:∀b,(w'.setCell a' v').heap[b]? =if b=a'.block then some (.cells (c'.setIfInBounds a'.off v') O z)else w'.heap[b]? :=λb=>by
       rw[heap_setCell];split
       .rename_i C;subst C;simp[W,ad9]
       .rfl
      have ht:=d.turn (v:=w.setCell a v) (v':=w'.setCell a' v') y (.cells O z (F.set a.off R)) P (by rw[<-M.off];exact J) Y6 rfl rfl;refine lT.after (bg:=π) (w₁:=w.setCell a v) (w₁':=w'.setCell a' v') (Turns.one d y J Y6 rfl rfl rfl) (by simp only[World.setCell];omega) (λL i=>?_) (t (w.setCell a v) (w'.setCell a' v') _ ht (f.step rfl rfl 0 rfl rfl));obtain x|rfl:=Array.mem_push.1 i
      .exact .inl x
      .exact .inr ⟨rfl,.inl ⟨_,y⟩⟩
   .have:=Cu d y rfl e;rw[r1,e];simp only[this,if_true];intro g f;cases f
 |@new π o o' k k' N _ t=>
  intro w w' es d f;have r1:(Sem.new o k).run p w=(k w.heap.size).run p {w with heap:=w.heap.push o}:=rfl;have j:(Sem.new o' k').run p w'=(k' w'.heap.size).run p {w' with heap:=w'.heap.push o'}:=rfl;have D:(Sem.new o' k').events p w' es=(k' w'.heap.size).events p {w' with heap:=w'.heap.push o'} es:=rfl;rw[r1,j]at f;rw[r1,j,D];have hp:=d.push N;have le:=π.vO w.heap.size w'.heap.size;refine lT.after (bg:=π.grow w.heap.size w'.heap.size) (w₁:={w with heap:=w.heap.push o}) (w₁':={w' with heap:=w'.heap.push o'}) ⟨le,X0,λb C _=>?_,λc b F=>?_,rfl,rfl,rfl⟩ Q5 (λL i=>.inl i)
   (t _ _ _ le (.inr ⟨rfl,rfl⟩) d.high _ _ _ hp (f.step rfl rfl 0 rfl rfl))
  .simp only;rw[oL,av Q0]
  .obtain F|⟨_,rfl⟩:=F
   .exact .inl F
   .exact .inr (aS _)
 |@shape π r r' k k' E _ t=>
  intro w w' es d f;have e:w'.shape? r'=w.shape? r:=by
   obtain y|⟨y,rfl⟩:=E.or
   .obtain⟨o,o',e,B,T⟩:=d.own _ _ y;cases T with
    |cells O z F=>simp[World.shape?,e,B,F.1]
    |map n hz hm=>simp[World.shape?,e,B]
    |number l hl=>simp[World.shape?,e,B]
   .obtain⟨c,c',O,z,z',e,B,F,_⟩:=d.sh _ y;simp[World.shape?,e,B,F.1]
  have r1:(Sem.shape r k).run p w=(k (w.shape? r)).run p w:=rfl;have j:(Sem.shape r' k').run p w'=(k' (w.shape? r)).run p w':=by rw[<-e];rfl
  have D:(Sem.shape r' k').events p w' es=(k' (w.shape? r)).events p w' es:=by rw[<-e];rfl
  rw[r1,j]at f;rw[r1,j,D];exact t _ _ _ _ d f
 |@freeze π a a' n k k' C N _ t=>
  intro w w' es d f;have r1:(Sem.freeze a n k).run p w=k.run p (w.freeze a n):=rfl;have j:(Sem.freeze a' n k').run p w'=k'.run p (w'.freeze a' n):=rfl;have D:(Sem.freeze a' n k').events p w' es=k'.events p (w'.freeze a' n) es:=rfl;rw[r1,j]at f;rw[r1,j,D];by_cases U:n=0
  .subst U;have f1:w.freeze a 0=w:=rfl;have f2:w'.freeze a' 0=w':=rfl;rw[f1,f2]at f ⊢;exact t _ _ _ d f
  obtain⟨o,o',e,B,T⟩:=d.own _ _ C;obtain⟨d1,t1,o1,_,s1⟩:=kS w a n;obtain⟨d2,t2,o2,p2,s2⟩:=kS w' a' n;have P:∀b,(w.freeze a n).heap[b]? =if b=a.block then some (SV a.off n o)else w.heap[b]? :=λb=>by
   rw[kR w a U];split
   .rename_i h;subst h;rw[e];rfl
   .rfl
  have J:∀b,(w'.freeze a' n).heap[b]? =if b=a'.block then some (SV a.off n o')else w'.heap[b]? :=λb=>by
   rw[kR w' a' U];split
   .rename_i h;subst h;rw[B,N];rfl
   .rfl
  exact lT.after (bg:=π) (w₁:=w.freeze a n) (w₁':=w'.freeze a' n) (Turns.one d C J s2 t2 o2 p2) Q0 (λL i=>.inl i) (t _ _ _ (d.turn C (T.SV a.off n) P J s1 o1 o2) (f.step t1 t2 0 Q0 Q0))
 |@getObj π r r' k k' E _ t=>
  intro w w' es d f;obtain y|⟨y,_⟩:=E.or
  .obtain⟨o,o',e,B,T⟩:=d.own _ _ y;cases T with
   |cells O z F=>
    have r1:(Sem.getObj r k).run p w=.halt (.stuck "getObj: a row of cells") w:=by simp[Sem.run,e]
    rw[r1];trivial
   |@map x x' n hz hm=>
    have r1:(Sem.getObj r k).run p w=(k (.map x n)).run p w:=by simp[Sem.run,e]
    have j:(Sem.getObj r' k').run p w'=(k' (.map x' n)).run p w':=by simp[Sem.run,B]
    have D:(Sem.getObj r' k').events p w' es=(k' (.map x' n)).events p w' (es.push ⟨.obj r',false,false⟩):=by unfold Sem.events;rw[Sem.runT];simp only[B];rfl
    rw[r1,j]at f;rw[r1,j,D];refine lT.after (.refl _ _) Q0 (λL i=>?_) (t _ _ (.map n hz hm) w w' _ d f);obtain x|rfl:=Array.mem_push.1 i
    .exact .inl x
    .exact .inr ⟨rfl,_,y⟩
   |@number x x' l hl=>
    have r1:(Sem.getObj r k).run p w=(k (.number x l)).run p w:=by simp[Sem.run,e]
    have j:(Sem.getObj r' k').run p w'=(k' (.number x' l)).run p w':=by simp[Sem.run,B]
    have D:(Sem.getObj r' k').events p w' es=(k' (.number x' l)).events p w' (es.push ⟨.obj r',false,false⟩):=by unfold Sem.events;rw[Sem.runT];simp only[B];rfl
    rw[r1,j]at f;rw[r1,j,D];refine lT.after (.refl _ _) Q0 (λL i=>?_) (t _ _ (.number l hl) w w' _ d f);obtain x|rfl:=Array.mem_push.1 i
    .exact .inl x
    .exact .inr ⟨rfl,_,y⟩
  .obtain⟨c,c',O,z,z',e,B,F,_⟩:=d.sh _ y;have r1:(Sem.getObj r k).run p w=.halt (.stuck "getObj: a row of cells") w:=by simp[Sem.run,e]
   rw[r1];trivial
 |@setObj π r r' o o' k k' E N U _ t=>
  intro w w' es d f;obtain⟨x,x',e,B,rx⟩:=d.own _ _ E;cases rx with
  |cells O z F=>
   have r1:(Sem.setObj r o k).run p w=.halt (.stuck "setObj: a row of cells") w:=by simp[Sem.run,e]
   rw[r1];trivial
  |map m hz hm=>
   have r1:(Sem.setObj r o k).run p w=k.run p {w with heap:=w.heap.setIfInBounds r o}:=by simp[Sem.run,e]
   have j:(Sem.setObj r' o' k').run p w'=k'.run p {w' with heap:=w'.heap.setIfInBounds r' o'}:=by simp[Sem.run,B]
   have Q:o'.isChan=false:=by cases N<;>rfl
   have D:(Sem.setObj r' o' k').events p w' es=k'.events p {w' with heap:=w'.heap.setIfInBounds r' o'} (es.push ⟨.obj r',true,false⟩):=by unfold Sem.events;rw[Sem.runT];simp only[B,Q]
   have l1:=(d.lt E).1;have l2:=(d.lt E).2;have P:∀b,({w with heap:=w.heap.setIfInBounds r o}:au).heap[b]? =if b=r then some o else w.heap[b]? :=λb=>by
    simp only[Array.getElem?_setIfInBounds];by_cases C:r=b
    .subst C;simp[l1]
    .rw[av C,av (Ne.symm C)]
   have J:∀b,({w' with heap:=w'.heap.setIfInBounds r' o'}:au).heap[b]? =if b=r' then some o' else w'.heap[b]? :=λb=>by
    simp only[Array.getElem?_setIfInBounds];by_cases C:r'=b
    .subst C;simp[l2]
    .rw[av C,av (Ne.symm C)]
   rw[r1,j]at f;rw[r1,j,D];refine lT.after (bg:=π) (w₁:={w with heap:=w.heap.setIfInBounds r o}) (w₁':={w' with heap:=w'.heap.setIfInBounds r' o'}) (Turns.one d E J X0 rfl rfl rfl) Q5 (λL i=>?_) (t _ _ _ (d.turn E N P J X0 rfl rfl) (f.step rfl rfl 0 rfl rfl));obtain x|rfl:=Array.mem_push.1 i
   .exact .inl x
   .exact .inr ⟨rfl,_,E⟩
  |number l hl=>
   have r1:(Sem.setObj r o k).run p w=k.run p {w with heap:=w.heap.setIfInBounds r o}:=by simp[Sem.run,e]
   have j:(Sem.setObj r' o' k').run p w'=k'.run p {w' with heap:=w'.heap.setIfInBounds r' o'}:=by simp[Sem.run,B]
   have Q:o'.isChan=false:=by cases N<;>rfl
   have D:(Sem.setObj r' o' k').events p w' es=k'.events p {w' with heap:=w'.heap.setIfInBounds r' o'} (es.push ⟨.obj r',true,false⟩):=by unfold Sem.events;rw[Sem.runT];simp only[B,Q]
   have l1:=(d.lt E).1;have l2:=(d.lt E).2;have P:∀b,({w with heap:=w.heap.setIfInBounds r o}:au).heap[b]? =if b=r then some o else w.heap[b]? :=λb=>by
    simp only[Array.getElem?_setIfInBounds];by_cases C:r=b
    .subst C;simp[l1]
    .rw[av C,av (Ne.symm C)]
   have J:∀b,({w' with heap:=w'.heap.setIfInBounds r' o'}:au).heap[b]? =if b=r' then some o' else w'.heap[b]? :=λb=>by
    simp only[Array.getElem?_setIfInBounds];by_cases C:r'=b
    .subst C;simp[l2]
    .rw[av C,av (Ne.symm C)]
   rw[r1,j]at f;rw[r1,j,D];refine lT.after (bg:=π) (w₁:={w with heap:=w.heap.setIfInBounds r o}) (w₁':={w' with heap:=w'.heap.setIfInBounds r' o'}) (Turns.one d E J X0 rfl rfl rfl) Q5 (λL i=>?_) (t _ _ _ (d.turn E N P J X0 rfl rfl) (f.step rfl rfl 0 rfl rfl));obtain x|rfl:=Array.mem_push.1 i
   .exact .inl x
   .exact .inr ⟨rfl,_,E⟩
 |@choose π q k k' _ t=>
  intro w w' es d f;by_cases I:q.forced=true
  .have r1:(Sem.choose q k).run p w=(k 0).run p w:=by simp[Sem.run,I]
   have j:(Sem.choose q k').run p w'=(k' 0).run p w':=by simp[Sem.run,I]
   have D:(Sem.choose q k').events p w' es=(k' 0).events p w' es:=by unfold Sem.events;rw[Sem.runT,aI I]
   rw[r1,j]at f;rw[r1,j,D];exact t _ _ _ _ d f
  .have r1:(Sem.choose q k).run p w=(k (q.cut (w.tape w.drawn q))).run p {w with drawn:=w.drawn+1}:=by simp[Sem.run,I]
   have j:(Sem.choose q k').run p w'=(k' (q.cut (w'.tape w'.drawn q))).run p {w' with drawn:=w'.drawn+1}:=by simp[Sem.run,I]
   have D:(Sem.choose q k').events p w' es=(k' (q.cut (w'.tape w'.drawn q))).events p {w' with drawn:=w'.drawn+1} es:=by unfold Sem.events;rw[Sem.runT,av I]
   have m1:=sw p (k (q.cut (w.tape w.drawn q))) {w with drawn:=w.drawn+1};have m2:=sw p (k' (q.cut (w'.tape w'.drawn q))) {w' with drawn:=w'.drawn+1};rw[r1,j]at f;rw[r1,j,D];have hq:w.tape w.drawn q=w'.tape w'.drawn q:=f 0 q m1 m2;rw[<-hq]at f m2 ⊢;have hh':bI S π {w with drawn:=w.drawn+1} {w' with drawn:=w'.drawn+1}:=⟨d.own,d.sh,d.fn,d.inj,d.apart,d.high,d.os⟩;exact lT.after (bg:=π) (w₁:={w with drawn:=w.drawn+1}) (w₁':={w' with drawn:=w'.drawn+1}) ⟨.refl π,aS _,λ_ _ _=>rfl,λ_ _ y=>.inl y,rfl,rfl,rfl⟩ Q5 (λL i=>.inl i) (t _ _ _ _ hh' (f.step rfl rfl 1 rfl rfl))
 |@program π k k' _ t=>intro w w' es d f;exact t _ _ _ d f
 |@vL π k k' _ t=>intro w w' es d f;exact t _ _ _ d f
 |@dead π s G h=>
  intro w w' es d f;have:=h w;cases e:s.run p w with
  |ok a w₁=>rw[e]at this;exact this.elim
  |halt x w₁=>rw[e]at this;cases x<;>first|exact this|exact this.elim
 |@env π k k' _ t=>
  intro w w' es d f;have q:∀u:au,u.sys .env=(.strings u.os.env,u):=λu=>rfl;have r1:(Sem.sys .env k).run p w=(k (.strings w.os.env)).run p w:=by rw[Sem.run,q]
  have j:(Sem.sys .env k').run p w'=(k' (.strings w.os.env)).run p w':=by rw[Sem.run,q,d.os.env]
  have D:(Sem.sys .env k').events p w' es=(k' (.strings w.os.env)).events p w' (es.push ⟨.output,true,false⟩):=by unfold Sem.events;rw[Sem.runT,q,d.os.env]
  rw[r1,j]at f;rw[r1,j,D];refine lT.after (.refl _ _) Q0 (λL i=>?_) (t _ w w' _ d f);obtain x|rfl:=Array.mem_push.1 i
  .exact .inl x
  .exact .inr trivial
 |@room π k k' _ t=>
  intro w w' es d f;have D:(Sem.mark .noRoom k').events p w' es=k'.events p w' (es.push ⟨.mark .noRoom,false,true⟩):=rfl;rw[D];refine lT.after (.refl _ _) Q0 (λL i=>?_) (t w w' _ d f);obtain x|rfl:=Array.mem_push.1 i
  .exact .inl x
  .exact .inr trivial
 |panic R=>intro w w' es d f;exact⟨_,_,rfl,_,.refl _ _,d,R,λe he=>.inl he,Q0⟩
 |stuck=>intro w w' es d f;trivial
 |refused h=>intro w w' es d f;exact h
def kU(p:Program)(t:bf):Prop:=∀i v,p.info? t=some i->i.zero=some v->Flat v
abbrev sV:Map->α->α->Prop:=λ_ a b=>a=b
theorem ay.aP{S:aD}{s G:Sem α}{f':α->Sem J}(h:ay S p sV π s G)(c:∀eH a,π.le eH->ay S p B eH (f a) (f' a)):ay S p B π (s>>=f) (G>>=f'):=ay.bind' h λeH a b l e=>by subst e;exact c eH a l
theorem dM{S:aD}{c:Prop}[Decidable c]{a b:Sem α}{a' b':Sem β}(h:c->ay S p A π a a')(d:¬c->ay S p A π b b'):ay S p A π (if c then a else b) (if c then a' else b'):=by
 split
 .exact h ‹_›
 .exact d ‹_›
theorem pW{S:aD}{s:String}:ay S p A π (Go.stuck s) k':=.stuck
theorem Nh{S:aD}{u:Unsupported}(h:∀g,u≠ .initOrder g):ay S p A π (Go.unsupported u) k':=.refused h
theorem kr{S:aD}{f:Program->Sem I}{f':Program->Sem J}(h:ay S p B π (f p) (f' p)):ay S p B π (program>>=f) (program>>=f'):=.program h
theorem aR{S:aD}{t:bf}{f:TypeDesc->Sem I}{f':TypeDesc->Sem J}(h:∀d,p.underlying t=some d->ay S p B π (f d) (f' d)):ay S p B π (underlying t>>=f) (underlying t>>=f'):=by
 unfold underlying;simp only[bind,Sem.bind,program,pure];refine .program ?_
 split
 .rename_i i e;exact h i e
 .exact .stuck
theorem ig{S:aD}{t:bf}{f:TypeInfo->Sem I}{f':TypeInfo->Sem J}(h:∀d,p.info? t=some d->ay S p B π (f d) (f' d)):ay S p B π (typeInfo t>>=f) (typeInfo t>>=f'):=by
 unfold typeInfo;simp only[bind,Sem.bind,program,pure];refine .program ?_
 split
 .rename_i i e;exact h i e
 .exact .stuck
theorem dR{S:aD}(t:bf):ay S p sV π (sizeOf t) (sizeOf t):=by unfold sizeOf;exact ig λd _=>.pure rfl
theorem KM{S:aD}(t:bf):ay S p sV π (isAgg t) (isAgg t):=by
 unfold isAgg;refine aR λd _=>?_
 split<;>exact .pure rfl
theorem PO{S:aD}(t:bf):ay S p sV π (elemOf t) (elemOf t):=by
 unfold elemOf;refine aR λd _=>?_
 split
 .exact .pure rfl
 .exact .stuck
theorem jG{S:aD}{t:bf}(z:kU p t):ay S p (λπ a b=>a=b/\Flat a) π (zeroValue t) (zeroValue t):=by
 unfold zeroValue;refine ig λd c=>?_
 split
 .rename_i v h;exact .pure ⟨rfl,z d v c h⟩
 .exact .refused P5
theorem PS{S:aD}{a:Addr}(h:bR π a a'):ay S p (λπ=>aL S π) π (load a) (load a'):=.load h λv v' b _=>.pure b
theorem Um{S:aD}{a:Addr}(h:bR π a a'){v:aA}(b:aL S π v v'):ay S p (sV (α:=Unit)) π (store a v) (store a' v'):=.store h b (.pure rfl)
theorem qG{S:aD}{a:Addr}:∀(n:Nat)(i:Nat){π:Map},bR π a a'->∀{c c':Array aA},bq S π c c'->ay S p (λπ=>bq S π) π (loadCellsFrom a i n c) (loadCellsFrom a' i n c')
 |0,_,_,_,_,_,b=>.pure b
 |n+1,i,π,h,c,c',b=>by
  unfold loadCellsFrom
  exact ay.bind' (PS (h.add i)) λeH v v' l d=>qG n (i+1) (h.mono l) ((b.mono l).push d)
theorem qX{S:aD}{a:Addr}(h:bR π a a')(n:Nat):ay S p (λπ=>bq S π) π (loadCells a n) (loadCells a' n):=qG n 0 h .nil
theorem vP{S:aD}{a:Addr}:∀(b s:List aA)(i:Nat){π:Map},bR π a a'->b.length=s.length->(∀(j:Nat) v v',b[j]? =some v->s[j]? =some v'->aL S π v v')->ay S p (sV (α:=Unit)) π (storeCells a b i) (storeCells a' s i)
 |[],[],_,_,_,_,_=>.pure rfl
 |[],_::_,_,_,_,h,_=>by simp at h
 |_::_,[],_,_,_,h,_=>by simp at h
 |v::b,v'::s,i,π,h,hl,d=>by
  unfold storeCells
  refine ay.bind' (Um (h.add i) (d 0 v v' rfl rfl)) λeH _ _ le _=>?_
  exact vP b s (i+1) (h.mono le) O6 λj u H e c=>(d (j+1) u H (by simpa using e) (by simpa using c)).mono le
theorem nX{S:aD}{a:Addr}(h:bR π a a')(d:bq S π c c')(i:Nat):ay S p (sV (α:=Unit)) π (storeCells a c.toList i) (storeCells a' c'.toList i):=vP _ _ _ h (by simpa using d.1) λj v v' e b=>d.get (i:=j) (by simpa using e) (by simpa using b)
theorem Cv{S:aD}(t:bf){a:Addr}(h:bR π a a'):ay S p (λπ=>aL S π) π (loadVar t a) (loadVar t a'):=by
 unfold loadVar;refine ay.aP (KM t) λeH b e=>?_
 split
 .refine ay.aP (dR t) λf n l=>?_;refine ay.bind' (qX (h.mono (e.trans l)) n) λi c c' g d=>.pure (.agg d.1 d.2)
 .exact PS (h.mono e)
theorem I9{S:aD}(t:bf){a:Addr}(h:bR π a a'){v:aA}(b:aL S π v v'):ay S p (sV (α:=Unit)) π (storeVar t a v) (storeVar t a' v'):=by
 unfold storeVar;refine ay.aP (dR t) λeH n l=>?_;rw[<-(b.cells).1]
 split
 .exact .stuck
 .exact nX (h.mono l) ((b.mono l).cells) 0
theorem oM{S:aD}(e:bf)(b:bq S π c c'):ay S p (λπ a a'=>bR π a a'/\π.own a.block a'.block) π (newRow e c) (newRow e c'):=by unfold newRow newObj;simp only[bind,Sem.bind,pure];exact .new (.cells e (0,0) b) λeH r r' l h g=>.pure ⟨⟨⟨.inl h,.inl g⟩,rfl,rfl⟩,h⟩
theorem FR{S:aD}(e:bf){v:aA}(h:aL S π v v'):ay S p (λπ a a'=>bR π a a'/\π.own a.block a'.block) π (newVar e v) (newVar e v'):=oM e h.cells
theorem PU{S:aD}(t:bf)(a:bq S π c c')(o:Nat):ay S p (λπ=>aL S π) π (part t c o) (part t c' o):=by
 unfold part;refine ay.aP (KM t) λeH b l=>?_
 split
 .refine ay.aP (dR t) λd n h=>?_;have:=(a.mono (l.trans h)).extract o (o+n);exact .pure (.agg this.1 this.2)
 .rcases(a.mono l).get? o with⟨e,_⟩|⟨v,v',e,f,r⟩
  .rw[e];exact .stuck
  .rw[e,f];exact .pure r
theorem oN{S:aD}{v:aA}(h:aL S π v v'):ay S p sV π (asIntOf v) (asIntOf v'):=by cases h<;>first|exact .pure rfl|exact .stuck|exact .refused P5
theorem nN{S:aD}{v:aA}(h:aL S π v v'):ay S p sV π (asInt v) (asInt v'):=by unfold asInt;exact ay.bind' (oN h) λeH a b l e=>by subst e;exact .pure rfl
theorem PV{S:aD}{v:aA}(h:aL S π v v'):ay S p sV π (asBool v) (asBool v'):=by cases h<;>first|exact .pure rfl|exact .stuck
theorem Un{S:aD}{v:aA}(h:aL S π v v'):ay S p (λπ=>bq S π) π (asAgg v) (asAgg v'):=by cases h<;>first|exact .stuck|(exact .pure ⟨‹_›,‹_›⟩)
theorem mQ{S:aD}{v:aA}(h:aL S π v v'):ay S p (λπ=>bR π) π (Instr.sureAddr v) (Instr.sureAddr v'):=by cases h<;>first|exact .stuck|(exact .pure ‹_›)
theorem mR{S:aD}(h:(∃x y s c,e=.bounds x y s c)\/(∃m,e=.error m)\/(∃m,e=.plain m)\/e=.nilDeref):ay S p A π (runtimePanic e) (runtimePanic e):=by
 unfold runtimePanic;refine kr ?_;obtain⟨x,y,s,c,rfl⟩|⟨m,rfl⟩|⟨m,rfl⟩|rfl:=h
 .refine .panic (.iface _ ?_);refine(Flat.agg λi a=>?_).rel;have:i=0\/i=1\/i=2\/i=3:=by simp at a;omega
  obtain rfl|rfl|rfl|rfl:=this<;>constructor
 .exact .panic (.iface _ (.string _))
 .exact .panic (.iface _ (.string _))
 .exact .panic (.iface _ (.string _))
theorem KN{S:aD}(m:String):ay S p A π (runtimePanic (.error m)) (runtimePanic (.error m)):=mR (.inr (.inl ⟨m,rfl⟩))
theorem pX{S:aD}:ay S p A π (runtimePanic .nilDeref) (runtimePanic .nilDeref):=mR (.inr (.inr (.inr rfl)))
theorem BG{S:aD}(k:IntKind)(x y:Int)(c:BoundsCode):ay S p A π (boundsPanic k x y c) (boundsPanic k x y c):=by
 unfold boundsPanic;have key:∀eH b,ay S p A eH (runtimePanic (.bounds (IntKind.i64.wrap x) y b c)) (runtimePanic (.bounds (IntKind.i64.wrap x) y b c)):=λeH b=>mR (.inl ⟨_,_,_,_,rfl⟩);simp only
 split
 .exact ay.aP (.choose λn=>.pure rfl) λeH b _=>key eH b
 .exact key π _
theorem xH{S:aD}(n:Nat):ay S p (sV (α:=Unit)) π (askRoom n) (askRoom n):=by
 unfold askRoom
 split
 .exact .room (.pure rfl)
 .exact .pure rfl
theorem oO{S:aD}(q:Question):ay S p sV π (Go.choose q) (Go.choose q):=.choose λn=>.pure rfl
theorem pY{S:aD}{r:Nat}(h:π.rel r r'):ay S p sV π (Go.shape r) (Go.shape r'):=.shape h λ_=>.pure rfl
theorem dx{A:Prop}(h:A:=by first|exact ay.stuck|exact ay.refused P5|exact pW|exact Nh P5|exact KN _|exact pX|exact BG _ _ _ _):A:=h
theorem Ad{S:aD}{r:Nat}(h:π.rel r r'):ay S p (λπ a b=>(a=none/\b=none)\/∃x x' l,a=some (x,l)/\b=some (x',l)/\bR π x x') π (numberAt r) (numberAt r'):=by
 unfold numberAt;refine ay.aP (pY h) λeH x e=>?_
 split
 .exact .pure (.inl ⟨rfl,rfl⟩)
 .refine ay.bind' (.getObj (A:=λπ=>ko S π) (e.rel h) λo o' c=>.pure c) λg o o' f c=>?_;cases c with
  |cells=>exact .pure (.inl ⟨rfl,rfl⟩)
  |map=>exact .pure (.inl ⟨rfl,rfl⟩)
  |number l d=>exact .pure (.inr ⟨_,_,l,rfl,rfl,d⟩)
theorem FT{S:aD}{r:Nat}(h:π.rel r r'):ay S p (λπ a b=>a=none/\b=none) π (viewAt r) (viewAt r'):=by
 unfold viewAt;refine ay.aP (pY h) λeH x l=>?_
 split
 .exact .pure ⟨rfl,rfl⟩
 .refine ay.bind' (.getObj (A:=λπ=>ko S π) (l.rel h) λo o' c=>.pure c) λe o o' d c=>?_;cases c<;>exact .pure ⟨rfl,rfl⟩
theorem PW{S:aD}{a:Addr}(h:bR π a a'):ay S p (sV (α:=Unit)) π (noView a) (noView a'):=by unfold noView;refine ay.bind' (FT h.block) λeH x x' l b=>?_;rw[b.1,b.2];exact .pure rfl
theorem dS{S:aD}{a:Addr}(h:bR π a a'):ay S p (λπ x y=>bR π x.1 y.1/\x.2=y.2) π (behindNumber a) (behindNumber a'):=by
 unfold behindNumber;refine ay.bind' (Ad h.block) λeH x x' b c=>?_;obtain⟨rfl,rfl⟩|⟨y,y',l,rfl,rfl,d⟩:=c
 .exact .pure ⟨h.mono b,rfl⟩
 .exact .pure ⟨d,rfl⟩
theorem mU{S:aD}{a:Addr}(h:bR π a a'):ay S p sV π (byteOf a) (byteOf a'):=by
 unfold byteOf;rw[h.spot]
 split
 .exact .pure rfl
 .refine kr ?_;refine ay.bind' (PW h) λeH _ _ l _=>?_;refine ay.aP (pY (l.rel h.block)) λc x b=>?_;rw[h.off]
  split
  .dsimp only
   split
   .exact .pure rfl
   .split
    .exact .pure rfl
    .exact dx
  .exact dx
theorem PX{S:aD}{a:Addr}(h:bR π a a')(cells bytes:Nat):ay S p (λπ=>bR π) π (partAt a cells bytes) (partAt a' cells bytes):=by
 unfold partAt;refine ay.aP (mU h) λeH b e=>?_;have d:bR eH {block:=a.block,off:=a.off+cells} {block:=a'.block,off:=a'.off+cells}:=⟨e.rel h.block,by simp[h.off],rfl⟩;refine ay.aP (mU d) λf c l=>?_
 split
 .exact .pure (d.mono l)
 .exact .pure ⟨l.rel d.block,d.off,rfl⟩
theorem DW{S:aD}{a:Addr}(h:bR π a a')(f:Field):ay S p (λπ=>bR π) π (fieldPlace a f) (fieldPlace a' f):=by
 unfold fieldPlace;refine ay.aP (dR _) λeH n l=>?_
 split
 .exact PX (h.mono l) _ _
 .exact .pure ((h.mono l).add _)
theorem yx{S:aD}(n:p.globals.size=π.g){a b b':Addr}(c:bR π a a')(d:bR π b b'):ay S p sV π (Op.twoPlaces a b) (Op.twoPlaces a' b'):=by
 unfold Op.twoPlaces;refine kr ?_;by_cases h:(a.block !=b.block||decide (a.block≥p.globals.size))=true
 .simp only[h,if_true];exact .refused P5
 .have m:a.block=b.block/\a.block<p.globals.size:=by
   simp only[Bool.or_eq_true,bne_iff_ne,ne_eq,decide_eq_true_iff,not_or,Decidable.not_not,ge_iff_le,Nat.not_le]at h;exact h
  have e:a'.block=a.block:=c.block.high.resolve_left Q0;have f:b'.block=b.block:=d.block.high.resolve_left Q0;rw[e,f];simp only[h,if_false];rw[av X0,av X0];refine ay.aP (mU c) λj x l=>?_;refine ay.aP (mU (d.mono l)) λk y i=>?_;exact .pure rfl
theorem Ni{S:aD}(d:p.globals.size=π.g){a b b':Addr}(h:bR π a a')(c:bR π b b'):ay S p (λπ=>aL S π) π (Op.addrCmp op a b) (Op.addrCmp op a' b'):=by unfold Op.addrCmp;refine ay.aP (yx d h c) λeH x l=>?_;cases op<;>first|exact .pure (.bool _)|exact .refused P5
theorem Nj{S:aD}(d:p.globals.size=π.g){a b b':Addr}(h:bR π a a')(c:bR π b b'):ay S p (λπ=>aL S π) π (Op.addrSub k a b) (Op.addrSub k a' b'):=by unfold Op.addrSub;refine ay.aP (yx d h c) λeH x l=>?_;exact .pure (.int _ _)
theorem Cw{S:aD}{a:Addr}(h:bR π a a')(n:Int):ay S p (λπ=>aL S π) π (Op.addrMod k a n) (Op.addrMod k a' n):=by
 unfold Op.addrMod;refine ay.aP (pY h.block) λeH x l=>?_
 split
 .refine ig λd f=>?_;dsimp only
  split
  .exact dx
  .exact ay.aP (mU (h.mono l)) λe b c=>.pure (.int _ _)
 .exact dx
theorem vQ{S:aD}{v u:aA}(f:aL S π v v')(d:aL S π u H)(ts:Array bf)(t:bf):ay S p (λπ v v'=>aL S π v v'/\∃x,v=.pointer x) π (Builtin.unsafeAdd_ ts t #[v,u]) (Builtin.unsafeAdd_ ts t #[v',H]):=by
 unfold Builtin.unsafeAdd_;cases f with
 |jL=>
  refine ay.aP (nN d) λeH n l=>?_;dsimp only
  split
  .exact dx
  .split
   .exact dx
   .exact dx
 |@ptr a a' b=>
  refine ay.aP (nN d) λeH n l=>?_;dsimp only
  split
  .refine ay.bind' (FT (l.rel b.block)) λc x x' h e=>?_;rw[e.1,e.2];exact .pure ⟨.ptr (b.mono (l.trans h)),_,rfl⟩
  .split
   .exact dx
   .refine ay.aP (pY (l.rel b.block)) λc x h=>?_
    split
    .refine kr ?_;rw[b.off]
     split
     .exact .pure ⟨.ptr ⟨(l.trans h).rel b.block,rfl,b.spot⟩,_,rfl⟩
     .exact dx
    .exact dx
 |_=>exact .stuck
theorem yA{S:aD}{v u:aA}(b:aL S π v v')(a:aL S π u H)(ts:Array bf)(t:bf):ay S p (λπ=>aL S π) π (Builtin.unsafeAdd_ ts t #[v,u]) (Builtin.unsafeAdd_ ts t #[v',H]):=(vQ b a ts t).mono λ_ _ _ _ h=>h.1
theorem Ja{S:aD}{a:Addr}(h:bR π a a')(l:Bool):ay S p (λπ=>aL S π) π (asNumber a l) (asNumber a' l):=by unfold asNumber newObj;simp only[bind,Sem.bind,pure];exact .new (.number l h) λeH r r' c b g=>.pure (.ptr ⟨⟨.inl b,.inl g⟩,rfl,rfl⟩)
theorem iM{S:aD}{v u:aA}(f:aL S π v v')(e:aL S π u H)(t:bf):ay S p (λπ=>aL S π) π (movedNumber t v u) (movedNumber t v' H):=by
 unfold movedNumber;refine aR λd j=>?_;have go:ay S p (λπ=>aL S π) π (Builtin.unsafeAdd_ #[] t #[v,u]) (Builtin.unsafeAdd_ #[] t #[v',H]):=yA f e _ _;cases f with
 |@ptr a a' g=>
  dsimp only;refine dM (λ_=>?_) (λ_=>?_)
  .exact dx
  refine ay.bind' (dS g) λeH x x' l m=>?_;obtain⟨o,q⟩:=x;obtain⟨y,r⟩:=x';obtain⟨h,b⟩:=m;simp only at h b;subst b;refine ay.bind' (vQ (.ptr h) (e.mono l) _ _) λn z z' k c=>?_;obtain⟨c,s,rfl⟩:=c;cases c with
  |ptr i=>exact Ja i _
  |jL=>exact .pure .jL
 |junk j=>
  dsimp only;refine dM (λ_=>?_) (λ_=>?_)
  .exact dx
  .exact .stuck
 |_=>
  dsimp only;refine dM (λ_=>?_) (λ_=>?_)
  .exact dx
  .exact go
theorem qY{S:aD}{v u:aA}(b:aL S π v v')(d:aL S π u H)(t:bf):ay S p (λπ=>aL S π) π (movedPointer t v u) (movedPointer t v' H):=by
 unfold movedPointer;have go:∀{eH:Map},π.le eH->ay S p (λπ=>aL S π) eH (Builtin.unsafeAdd_ #[] t #[v,u]) (Builtin.unsafeAdd_ #[] t #[v',H]):=λh=>yA (b.mono h) (d.mono h) _ _;cases b with
 |@ptr a a' c=>
  dsimp only;refine ay.bind' (Ad c.block) λeH x x' h e=>?_;obtain⟨rfl,rfl⟩|⟨y,y',l,rfl,rfl,g⟩:=e
  .exact go h
  .exact dx
 |junk f=>exact .stuck
 |_=>exact go (.refl _)
theorem Ae{S:aD}(op:BinOp)(k:IntKind)(x y:Int):ay S p (λπ=>aL S π) π (Op.intArith op k x y) (Op.intArith op k x y):=by
 unfold Op.intArith
 split<;>first|exact .pure (.int _ _)|exact dx
theorem PY{S:aD}(op:BinOp)(k:IntKind)(x y:Int):ay S p (λπ=>aL S π) π (Op.intDiv op k x y) (Op.intDiv op k x y):=by
 unfold Op.intDiv
 split
 .exact dx
 .split<;>first|exact .pure (.int _ _)|exact dx
theorem Cx{S:aD}(op:BinOp)(k:IntKind)(x y:Int):ay S p (λπ=>aL S π) π (Op.intBits op k x y) (Op.intBits op k x y):=by
 unfold Op.intBits;dsimp only
 split<;>first|exact .pure (.int _ _)|exact dx
theorem PZ{S:aD}(op:BinOp)(x y:Int):ay S p (λπ=>aL S π) π (Op.intCmp op x y) (Op.intCmp op x y):=by
 unfold Op.intCmp
 split<;>first|exact .pure (.bool _)|exact dx
theorem Uo{S:aD}(op:BinOp)(k:IntKind)(x:Int)(k':IntKind)(y:Int):ay S p (λπ=>aL S π) π (Op.shift op k x k' y) (Op.shift op k x k' y):=by
 unfold Op.shift
 split
 .exact dx
 .dsimp only
  split<;>first|exact .pure (.int _ _)|exact dx
theorem Jb{S:aD}(op:BinOp)(x y:aN):ay S p (λπ=>aL S π) π (Op.stringOp op x y) (Op.stringOp op x y):=by
 unfold Op.stringOp;dsimp only
 split<;>first|exact .pure (.bool _)|exact dx|(split<;>first|exact .pure (.string _)|exact dx)
inductive vR:aA->Prop
 |ptr:vR (.pointer none)
 |slice (l c:Nat):vR (.slice none l c)
 |map:vR (.map none)
 |func:vR .nilFunc
 |iface:vR .nilIface
inductive DX(p:Program)(t:bf)(x y:aA):Prop
 |bool:p.underlying t=some .bool->DX p t x y
 |string:p.underlying t=some .string->DX p t x y
 |int (k:IntKind):p.underlying t=some (.int k)->(∀i u,p.info? t=some i->i.desc≠ .named "sync.copyChecker" u)->DX p t x y
 |left:vR x->DX p t x y
 |right:vR y->DX p t x y
theorem KP{S:aD}(P:p.globals.size=π.g){t:bf}{x x' y y':aA}(o:aL S π x x')(j:aL S π y y')(h:DX p t x y):ay S p sV π (Op.equal t x y) (Op.equal t x' y'):=by
 have e:Op.maxDepth=9999+1:=rfl;unfold Op.equal;rw[e];generalize 9999=n;unfold Op.equalIn;refine aR λd c=>?_;cases h with
 |bool h=>rw[h]at c;cases c;cases o<;>cases j<;>first|exact .pure rfl|exact dx
 |string h=>rw[h]at c;cases c;cases o<;>cases j<;>first|exact .pure rfl|exact dx
 |int k h z=>
  rw[h]at c;cases c;cases o with
  |int k x=>
   cases j with
   |int k' y=>
    dsimp only
    split<;>first|exact .pure rfl|exact dx
   |ptr a=>
    cases x with
    |ofNat m=>cases m<;>first|exact .pure rfl|exact dx
    |negSucc m=>exact dx
   |jL=>
    cases x with
    |ofNat m=>cases m<;>exact dx
    |negSucc m=>exact dx
   |_=>exact dx
  |@ptr a a' D=>
   cases j with
   |@ptr b b' E=>
    dsimp only;refine ay.bind' (dS D) λL u H r A=>?_;refine ay.bind' (dS (E.mono r)) λw v v' l B=>?_;refine .program ?_;dsimp only[Sem.bind];by_cases q:(u.1.block==v.1.block&&decide (u.1.block<p.globals.size))=true
    .have O:u.1.block=v.1.block/\u.1.block<p.globals.size:=by simpa using q
     have J:H.1.block=u.1.block:=A.1.block.high.resolve_left (by have:=r.g;omega);have K:v'.1.block=v.1.block:=B.1.block.high.resolve_left (by have:=r.g;have:=l.g;omega);have C:(H.1.block==v'.1.block&&decide (H.1.block<p.globals.size))=true:=by rw[J,K];exact q
     rw[aI q,aI C];refine ay.aP (mU (A.1.mono l)) λM x s=>?_;refine ay.aP (mU (B.1.mono s)) λN y G=>?_;exact .pure rfl
    rw[av q];unfold typeInfo;refine .vL ?_;dsimp only[Sem.bind];cases F:p.info? t with
    |none=>exact dx
    |some i=>
     have I:=z i;have key:∀(d:TypeDesc),(∀u,d≠ .named "sync.copyChecker" u)->∀(f:bf->Sem Bool)(k':Sem Bool),ay S p sV w (match d with|.named "sync.copyChecker" u=>f u|_=>unsupported .addressObserved) k':=by
      intro d c f k'
      split
      .exact(c _ rfl).elim
      .exact dx
     exact key i.desc (λu=>z i u F) (λ_=>_) _
   |int k y=>
    cases y with
    |ofNat m=>cases m<;>first|exact .pure rfl|exact dx
    |negSucc m=>exact dx
   |_=>exact dx
  |jL=>
   cases j with
   |int k y=>
    cases y with
    |ofNat m=>cases m<;>exact dx
    |negSucc m=>exact dx
   |_=>exact dx
  |_=>cases j<;>exact dx
 |left h=>cases h<;>cases o<;>cases j<;>cases d<;>first|exact .pure rfl|exact dx
 |right h=>cases h<;>cases j<;>cases o<;>cases d<;>first|exact .pure rfl|exact dx
theorem vS{S:aD}(n:Nat)(t:bf){x x' y y':aA}(h:(x=.nilIface/\x'=.nilIface/\y=.nilIface/\y'=.nilIface)\/p.underlying t=some .bool\/p.underlying t=some .string\/∃k,p.underlying t=some (.int k)):ay S p sV π (Op.eqGuardIn (n+1) t x y) (Op.eqGuardIn (n+1) t x' y'):=by
 unfold Op.eqGuardIn;refine aR λd a=>?_;obtain⟨rfl,rfl,rfl,rfl⟩|h|h|⟨k,h⟩:=h
 .cases d<;>exact .pure rfl
 .rw[h]at a;cases a;exact .pure rfl
 .rw[h]at a;cases a;exact .pure rfl
 .rw[h]at a;cases a;exact .pure rfl
theorem Nk{S:aD}{t:bf}(o o':Operand){x x' y y':aA}(m:aL S π x x')(i:aL S π y y')(j:x≠ .tuple #[]/\y≠ .tuple #[])(h:(op=.eql\/op=.neq)->DX p t x y):ay S p (sV (α:=Unit)) π (eqGuard op t o o' x y) (eqGuard op t o o' x' y'):=by
 have e:Op.maxDepth=9999+1:=rfl;unfold eqGuard;by_cases f:op=.eql\/op=.neq
 .have E:=h f;clear h;rw[e];generalize 9999=n;obtain rfl|rfl:=f
  all_goals
   simp only[Bool.not_true,gU,if_false];by_cases l:x=.nilIface/\y=.nilIface
   .obtain⟨rfl,rfl⟩:=l;cases m;cases i;dsimp only;refine dM (λ_=>.pure rfl) (λ_=>?_);refine ay.aP (vS n t (.inl ⟨rfl,rfl,rfl,rfl⟩)) λeH b q=>?_;exact dM (λ_=>by exact dx) (λ_=>.pure rfl)
   .have g:(p.underlying t=some .bool\/p.underlying t=some .string\/∃k,p.underlying t=some (.int k))\/vR x\/vR y:=by
     cases E with
     |bool h=>exact .inl (.inl h)
     |string h=>exact .inl (.inr (.inl h))
     |int k h _=>exact .inl (.inr (.inr ⟨k,h⟩))
     |left h=>exact .inr (.inl h)
     |right h=>exact .inr (.inr h)
    obtain g|g:=g
    .have agg:ay S p (sV (α:=Unit)) π (do
      if !(<-program).eqGuardType (<-program).depth t then return
      if <-Op.eqGuardIn (n+1) t x y then unsupported (.noEntry "binop/eql: two nil values of an interface type with methods, in a part of a struct or an array")) (do
      if !(<-program).eqGuardType (<-program).depth t then return
      if <-Op.eqGuardIn (n+1) t x' y' then unsupported (.noEntry "binop/eql: two nil values of an interface type with methods, in a part of a struct or an array")):=by
      refine .program ?_;refine .program ?_;refine dM (λ_=>.pure rfl) (λ_=>?_);refine ay.aP (vS n t (.inr g)) λeH b q=>?_;exact dM (λ_=>by exact dx) (λ_=>.pure rfl)
     cases m with
     |junk _=>exact(j.1 rfl).elim
     |agg a b=>
      cases i with
      |agg c d=>exact agg
      |junk _=>exact(j.2 rfl).elim
      |_=>exact .pure rfl
     |nilIface=>
      cases i with
      |nilIface=>exact(l ⟨rfl,rfl⟩).elim
      |junk _=>exact(j.2 rfl).elim
      |_=>exact .pure rfl
     |_=>exact .pure rfl
    .obtain g|g:=g
     .cases g<;>cases m<;>cases i<;>first|exact(j.2 rfl).elim|exact(j.1 rfl).elim|exact .pure rfl|exact(l ⟨rfl,rfl⟩).elim
     .cases g<;>cases i<;>cases m<;>first|exact(j.2 rfl).elim|exact(j.1 rfl).elim|exact .pure rfl|exact(l ⟨rfl,rfl⟩).elim
 .cases op<;>first|exact .pure rfl|exact(f (.inl rfl)).elim|exact(f (.inr rfl)).elim
theorem Uq{S:aD}(r:p.globals.size=π.g){t:bf}{x x' y y':aA}(w:aL S π x x')(m:aL S π y y')(j:x≠ .tuple #[]/\y≠ .tuple #[])(h:(op=.eql\/op=.neq)->DX p t x y):ay S p (λπ=>aL S π) π (binOp op t x y) (binOp op t x' y'):=by
 have c:op=.eql->ay S p (λπ=>aL S π) π (do pure (.bool (<-Op.equal t x y))) (do pure (.bool (<-Op.equal t x' y'))):=λe=>ay.aP (KP r w m (h (.inl e))) λ_ b _=>.pure (.bool _);have n:op=.neq->ay S p (λπ=>aL S π) π (do pure (.bool (!(<-Op.equal t x y)))) (do pure (.bool (!(<-Op.equal t x' y')))):=λe=>ay.aP (KP r w m (h (.inr e))) λ_ b _=>.pure (.bool _);unfold binOp;cases w with
 |int k a=>
  cases m with
  |int k' b=>
   cases op<;>dsimp only<;>first
    |exact Uo _ _ _ _ _
    |exact dM (λ_=>by exact dx) (λ_=>by first|exact Ae _ _ _ _|exact PY _ _ _ _|exact Cx _ _ _ _|exact PZ _ _ _)
  |@ptr b b' q=>
   cases op<;>first
    |exact(j.2 rfl).elim|exact(j.1 rfl).elim|exact c rfl
    |exact n rfl
    |exact dx
    |exact iM (.ptr q) (.int k a) _
    |exact ay.bind' (dS q) λeH u H f i=>Cw i.1 _
  |jL=>
   cases op<;>first
    |exact(j.2 rfl).elim|exact(j.1 rfl).elim|exact c rfl
    |exact n rfl
    |exact dx
    |exact iM .jL (.int k a) _
  |_=>cases op<;>first|exact(j.2 rfl).elim|exact(j.1 rfl).elim|exact c rfl|exact n rfl|exact dx
 |@ptr a a' o=>
  cases m with
  |int k b=>
   cases op<;>first
    |exact(j.2 rfl).elim|exact(j.1 rfl).elim|exact c rfl
    |exact n rfl
    |exact dx
    |exact iM (.ptr o) (.int k _) _
    |exact ay.bind' (dS o) λeH u H f i=>Cw i.1 _
    |exact aR λd A=>dM (λ_=>qY (.ptr o) (.int k b) _) (λ_=>iM (.ptr o) (.int k b) _)
  |@ptr b b' q=>
   cases op<;>first
    |exact(j.2 rfl).elim|exact(j.1 rfl).elim|exact c rfl
    |exact n rfl
    |exact dx
    |exact ay.bind' (dS o) λeH u H f i=>ay.bind' (dS (q.mono f)) λz v v' l s=>Nj (by rw[r,l.g,f.g]) (i.1.mono l) s.1
    |exact ay.bind' (dS o) λeH u H f i=>ay.bind' (dS (q.mono f)) λz v v' l s=>Ni (by rw[r,l.g,f.g]) (i.1.mono l) s.1
  |_=>cases op<;>first|exact(j.2 rfl).elim|exact(j.1 rfl).elim|exact c rfl|exact n rfl|exact dx
 |jL=>
  cases m with
  |int k b=>
   cases op<;>first
    |exact(j.2 rfl).elim|exact(j.1 rfl).elim|exact c rfl
    |exact n rfl
    |exact dx
    |exact iM .jL (.int k _) _
    |exact aR λd A=>dM (λ_=>qY .jL (.int k b) _) (λ_=>iM .jL (.int k b) _)
  |_=>cases op<;>first|exact(j.2 rfl).elim|exact(j.1 rfl).elim|exact c rfl|exact n rfl|exact dx
 |string a=>
  cases m with
  |string b=>cases op<;>exact Jb _ _ _
  |_=>cases op<;>first|exact(j.2 rfl).elim|exact(j.1 rfl).elim|exact c rfl|exact n rfl|exact dx
 |_=>cases m<;>cases op<;>first|exact(j.2 rfl).elim|exact(j.1 rfl).elim|exact c rfl|exact n rfl|exact dx
theorem Ur{S:aD}{op:UnOp}{x x':aA}(h:aL S π x x'):ay S p (λπ=>aL S π) π (Op.unary op x) (Op.unary op x'):=by unfold Op.unary;cases h<;>cases op<;>first|exact .pure (.bool _)|exact Ae _ _ _ _|exact Cx _ _ _ _|exact dx
theorem ay.FU{S:aD}{s:Sem I}{f:I->Sem α}(h:ay S p (λ_ _ _=>False) π s (Sem.pure ())):ay S p A π (s>>=f) k':=ay.bind (f':=λ_=>k') h λ_ _ _ _ h=>h.elim
theorem FV{S:aD}(t:bf)(x y:aA)(h:x=.tuple #[]\/y=.tuple #[]):ay S p (λ_ _ _=>False) π (Op.equal t x y) (Sem.pure ()):=by
 have e:Op.maxDepth=9999+1:=rfl;unfold Op.equal;rw[e];generalize 9999=n;unfold Op.equalIn underlying;refine .vL ?_;dsimp only[Sem.bind];cases u:p.underlying t with
 |none=>exact dx
 |some d=>
  obtain rfl|rfl:=h
  .cases y<;>cases d<;>exact dx
  .cases x with
   |pointer a=>cases a<;>cases d<;>exact dx
   |slice a l c=>cases a<;>cases d<;>exact dx
   |map r=>cases r<;>cases d<;>exact dx
   |int k n=>cases d<;>first|exact dx|(cases n with|ofNat m=>cases m<;>exact dx|negSucc m=>exact dx)
   |_=>cases d<;>exact dx
theorem Nl{S:aD}(op:BinOp)(t:bf)(o o':Operand)(x y:aA)(h:x=.tuple #[]\/y=.tuple #[]){A:Map->aA->β->Prop}:ay S p A π (do eqGuard op t o o' x y;binOp op t x y) k':=by
 have e:eqGuard op t o o' x y=pure ():=by
  unfold eqGuard;obtain rfl|rfl:=h
  .cases op<;>rfl
  .cases op<;>cases x<;>rfl
 rw[e];show ay S p A π (binOp op t x y) k';have q:=FV (S:=S) (p:=p) (π:=π) t x y h;unfold binOp;obtain rfl|rfl:=h
 .cases op<;>first|exact dx|exact ay.FU q|(cases y<;>first|exact dx|exact ay.FU q)
 .cases op<;>cases x<;>first|exact dx|exact ay.FU q|(rename_i a;cases a<;>first|exact dx|exact ay.FU q)
theorem Us{S:aD}{t:bf}(z:kU p t):ay S p (λπ=>aL S π) π (Instr.alloc t true (.tuple #[])) (Instr.alloc t true (.tuple #[])):=by unfold Instr.alloc;refine ay.bind' (jG z) λeH v v' d b=>?_;obtain⟨rfl,f⟩:=b;exact ay.bind' (FR t f.rel) λc a a' l h=>.pure (.ptr h.1)
theorem aaK{S:aD}(t:bf){v:aA}(b:aL S π v v'):ay S p (λπ=>aL S π) π (Instr.box t v) (Instr.box t v'):=by unfold Instr.box;exact ay.bind' (FR t b) λc a a' l h=>.pure (.ptr h.1)
def FX(S:aD)(π:Map)(x x':List (Nat×aA)):Prop:=x.length=x'.length/\∀(i:Nat) a a',x[i]? =some a->x'[i]? =some a'->a'.1=a.1/\aL S π a.2 a'.2
theorem FX.mono{S:aD}(h:π.le eH){x x':List (Nat×aA)}(r:FX S π x x'):FX S eH x x':=⟨r.1,λi a a' c b=>⟨(r.2 i a a' c b).1,(r.2 i a a' c b).2.mono h⟩⟩
theorem P7{S:aD}{v v':Array aA}(e:bq S π v v')(o:Nat)(h:bq S π c c'):
 bq S π (v.zipIdx.foldl (λcs(c,j)=>cs.setIfInBounds (o+j) c) c) (v'.zipIdx.foldl (λcs(c,j)=>cs.setIfInBounds (o+j) c) c'):=by
 have key:∀(l l':List aA)(k:Nat)(c c':Array aA),l.length=l'.length->(∀(j:Nat) a a',l[j]? =some a->l'[j]? =some a'->aL S π a a')->bq S π c c'->
  bq S π ((l.zipIdx k).foldl (λcs x=>cs.setIfInBounds (o+x.2) x.1) c) ((l'.zipIdx k).foldl (λcs x=>cs.setIfInBounds (o+x.2) x.1) c'):=by
  intro l
  induction l with
  |nil=>intro l' k c c' hl _ h;cases l' with
   |nil=>exact h
   |cons=>simp at hl
  |cons a l m=>
   intro l' k c c' hl r h;cases l' with
   |nil=>simp at hl
   |cons a' l'=>simp only[List.zipIdx_cons,List.foldl_cons];exact m l' (k+1) _ _ O6 (λj x x' g d=>r (j+1) x x' (by simpa using g) (by simpa using d)) (h.set _ (r 0 a a' rfl rfl))
 have:=key v.toList v'.toList 0 c c' (by simpa using e.1) (λj a a' f b=>e.get (i:=j) (by simpa using f) (by simpa using b)) h;rw[<-Array.foldl_toList,<-Array.foldl_toList,Array.toList_zipIdx,Array.toList_zipIdx];exact this
theorem vT{S:aD}(place:Nat->Option (Nat×Nat)):∀(x x':List (Nat×aA)),FX S π x x'->∀{c c':Array aA},bq S π c c'->
 (Instr.fill place c x=none/\Instr.fill place c' x'=none)\/∃d l,Instr.fill place c x=some d/\Instr.fill place c' x'=some l/\bq S π d l
 |[],[],_,c,c',g=>.inr ⟨c,c',rfl,rfl,g⟩
 |[],_::_,h,_,_,_=>by have:=h.1;simp at this
 |_::_,[],h,_,_,_=>by have:=h.1;simp at this
 |(i,v)::x,(n,v')::x',h,c,c',g=>by
  obtain⟨e,m⟩:=h.2 0 (i,v) (n,v') rfl rfl
  simp only at e m
  subst e
  have q:FX S π x x':=⟨by have:=h.1;simpa using this,λj a a' p k=>h.2 (j+1) a a' (by simpa using p) (by simpa using k)⟩
  unfold Instr.fill
  cases place n with
  |none=>exact .inl ⟨rfl,rfl⟩
  |some r=>
   obtain⟨o,s⟩:=r
   have b:=m.cells
   dsimp only
   rw[<-b.1,<-g.1]
   by_cases f:(decide (v.cells.size≠s)||decide (o+v.cells.size>c.size))=true
   .rw[aI f,aI f];exact .inl ⟨rfl,rfl⟩
   .rw[av f,av f]
    exact vT place x x' q (P7 b o g)
theorem XO{S:aD}(l:List d){f:d->Sem I}(h:∀(a:d)(π:Map),ay S p sV π (f a) (f a)):∀(π:Map),ay S p sV π (l.mapM f) (l.mapM f):=by
 induction l with
 |nil=>intro π;exact .pure rfl
 |cons a l i=>intro π;rw[List.mapM_cons];exact ay.aP (h a π) λeH x e=>ay.aP (i eH) λc y b=>.pure rfl
theorem Ut{S:aD}{t:bf}(z:kU p t){x x':Array (Nat×aA)}(n:FX S π x.toList x'.toList):ay S p (λπ=>aL S π) π (Instr.build t x) (Instr.build t x'):=by
 unfold Instr.build;refine ay.bind' (jG z) λeH v v' m u=>?_;obtain⟨rfl,q⟩:=u;have o:bq S eH v.cells v.cells:=(q.rel (S:=S) (π:=eH)).cells;refine aR λd y=>?_
 split
 .rename_i j;refine ay.aP ?_ λk b h=>?_
  .rw[Array.mapM_eq_mapM_toList];exact ay.aP (XO _ (λa π=>ay.aP (dR _) λ_ _ _=>.pure rfl) eH) λw l r=>.pure rfl
  .obtain⟨e,f⟩|⟨c,c',e,f,g⟩:=vT (λi=>b[i]?) _ _ (n.mono (m.trans h)) (o.mono h)
   .rw[e];exact dx
   .rw[e,f];exact .pure (.agg g.1 g.2)
 .refine ay.aP (dR _) λk s h=>?_;obtain⟨e,f⟩|⟨c,c',e,f,g⟩:=vT (λi=>some (i*s,s)) _ _ (n.mono (m.trans h)) (o.mono h)
  .rw[e];exact dx
  .rw[e,f];exact .pure (.agg g.1 g.2)
 .exact dx
theorem xI{S:aD}{z:Array aA}(b:∀(i:Nat) v,z[i]? =some v->Flat v)(n:Nat):bq S π ((Array.range n).map (λi=>z[i%z.size]!)) ((Array.range n).map (λi=>z[i%z.size]!)):=by
 refine bq.map _ λa _=>?_;cases h:z[a%z.size]? with
 |none=>
  have:z[a%z.size]! =default:=by simp[getElem!_def,h]
  rw[this];exact .bool _
 |some v=>
  have:z[a%z.size]! =v:=by simp[getElem!_def,h]
  rw[this];exact(b _ _ h).rel
theorem Flat.cells{v:aA}(h:Flat v):∀(i:Nat) u,v.cells[i]? =some u->Flat u:=by
 have one:∀{v:aA},Flat v->∀(i:Nat) u,(#[v]:Array aA)[i]? =some u->Flat u:=by
  intro v h i u a;cases i with
  |zero=>simp at a;exact a▸h
  |succ=>simp at a
 cases h with
 |agg h=>intro i u a;have d:=(bJ.1 a).1;have:=h i d;simp only[Value.cells]at a d;have e:=(bJ.1 a).2;simp only[Array.getD,d,dite_true]at this;exact e▸this
 |bool b=>exact one (.bool b)
 |int k n=>exact one (.int k n)
 |string s=>exact one (.string s)
 |jL=>exact one .jL
 |dQ l c=>exact one (.dQ l c)
 |iT=>exact one .iT
 |nilFunc=>exact one .nilFunc
 |iface t h=>exact one (.iface t h)
 |nilIface=>exact one .nilIface
 |tuple h=>exact one (.tuple h)
theorem DY{S:aD}{t:bf}(z:∀e,p.underlying t=some (.slice e)->kU p e)(len:Nat){x x':Array (Nat×aA)}(u:FX S π x.toList x'.toList):ay S p (λπ=>aL S π) π (Instr.buildSlice t len x) (Instr.buildSlice t len x'):=by
 unfold Instr.buildSlice;refine aR λd n=>?_
 split
 .rename_i C;refine ay.aP (dR _) λg s f=>?_;refine dM (λ_=>by exact dx) (λ_=>?_);have fin:∀{b:Map},g.le b->∀zero:Array aA,(∀(i:Nat) v,zero[i]? =some v->Flat v)->ay S p (λπ=>aL S π) b
   (match Instr.fill (λi=>some (i*s,s)) ((Array.range (len*s)).map (λi=>zero[i%zero.size]!)) x.toList with
     |some cells=>do pure (.slice (some (<-newRow C cells)) len len)
     |_=>stuck "buildSlice: a part of the wrong size")
   (match Instr.fill (λi=>some (i*s,s)) ((Array.range (len*s)).map (λi=>zero[i%zero.size]!)) x'.toList with
     |some cells=>do pure (.slice (some (<-newRow C cells)) len len)
     |_=>stuck "buildSlice: a part of the wrong size"):=by
   intro b l zero w;obtain⟨e,j⟩|⟨c,c',e,j,m⟩:=vT (λi=>some (i*s,s)) _ _ (u.mono (f.trans l)) (xI (S:=S) (π:=b) w (len*s))
   .rw[e];exact dx
   .rw[e,j];exact ay.bind' (oM _ m) λy a a' q k=>.pure (.slice _ _ k.1)
  dsimp only;refine dM (λ_=>?_) (λ_=>?_)
  .exact fin (.refl _) #[] (λi v h=>by simp at h)
  .refine ay.bind' (jG (z _ n)) λb v v' l r=>?_;obtain⟨rfl,o⟩:=r;exact fin l _ o.cells
 .exact dx
theorem P8{S:aD}(t:bf){v:aA}(b:aL S π v v'):ay S p (λπ=>aL S π) π (Instr.loadAt t v) (Instr.loadAt t v'):=by unfold Instr.loadAt;exact ay.bind' (mQ b) λeH a a' l h=>Cv t h
theorem Nn{S:aD}(t:bf){v u:aA}(c:aL S π v v')(b:aL S π u H):ay S p (sV (α:=Unit)) π (Instr.storeAt t v u) (Instr.storeAt t v' H):=by unfold Instr.storeAt;exact ay.bind' (mQ c) λeH a a' l h=>I9 t h (b.mono l)
theorem Np{S:aD}(t:bf){v:aA}(e:aL S π v v')(f:Nat):ay S p (λπ=>aL S π) π (Instr.fieldAt t v f) (Instr.fieldAt t v' f):=by
 unfold Instr.fieldAt;refine aR λd i=>?_
 split
 .split
  .refine ay.bind' (mQ e) λeH a a' j h=>?_;exact ay.bind' (DW h _) λg b b' l c=>.pure (.ptr c)
  .exact dx
 .exact dx
theorem Nq{S:aD}(t:bf){v u:aA}(s:aL S π v v')(z:aL S π u H):ay S p (λπ=>aL S π) π (Instr.indexAt t v u) (Instr.indexAt t v' H):=by
 unfold Instr.indexAt;refine ay.aP (oN z) λeH A q=>?_;obtain⟨k,i⟩:=A;dsimp only;have r:∀{g:Map}(e b:Option Addr)(len:Nat)(C:bf)(d:TypeDesc),p.underlying t=some d->((e=none/\b=none)\/(∃a a',e=some a/\b=some a'/\bR g a a')\/(len=0/\∃a a',e=some a/\b=some a'))->
  ay S p (λπ=>aL S π) g (do
   let f:=len<=1&&(match <-underlying t with|.array .. =>true|_=>false)
   match e with
   |some a=>
    if 0<=i/\i<len then pure (.pointer (some (a.add (i.toNat*(<-sizeOf C)))))
    else if f then unsupported (.noEntry "op/indexAddr.an index out of range at an array of length 0 or 1 (ledger 616)")
    else boundsPanic k i len .index
   |none=>boundsPanic k i 0 .index) (do
   let f:=len<=1&&(match <-underlying t with|.array .. =>true|_=>false)
   match b with
   |some a=>
    if 0<=i/\i<len then pure (.pointer (some (a.add (i.toNat*(<-sizeOf C)))))
    else if f then unsupported (.noEntry "op/indexAddr.an index out of range at an array of length 0 or 1 (ledger 616)")
    else boundsPanic k i len .index
   |none=>boundsPanic k i 0 .index):=by
  intro g e b len C d m w;refine aR λD x=>?_;obtain⟨rfl,rfl⟩|⟨a,a',rfl,rfl,j⟩|⟨rfl,a,a',rfl,rfl⟩:=w
  rotate_left 2
  .dsimp only;refine dM (λh=>aF h Q0) (λ_=>?_);refine dM (λ_=>by exact dx) (λ_=>by exact dx)
  .exact dx
  .dsimp only;refine dM (λ_=>?_) (λ_=>?_)
   .exact ay.aP (dR _) λB n o=>.pure (.ptr ((j.mono o).add _))
   .refine dM (λ_=>by exact dx) (λ_=>by exact dx)
 refine aR λd m=>?_;cases d with
 |array len C=>dsimp only;exact ay.bind' (mQ (s.mono q)) λg a a' y j=>r (some a) (some a') len C _ m (.inr (.inl ⟨a,a',rfl,rfl,j⟩))
 |slice C=>
  cases s with
  |dQ l c=>exact r none none l C _ m (.inl ⟨rfl,rfl⟩)
  |slice l c j=>exact r (some _) (some _) l C _ m (.inr (.inl ⟨_,_,rfl,rfl,j.mono q⟩))
  |fG a'=>exact r (some _) (some _) 0 C _ m (.inr (.inr ⟨rfl,_,_,rfl,rfl⟩))
  |_=>exact dx
 |_=>exact dx
theorem lX{S:aD}{v:aA}(h:aL S π v v')(y:Nat)(c:BoundsCode):ay S p sV π (Instr.sliceBound v y c) (Instr.sliceBound v' y c):=by unfold Instr.sliceBound;refine ay.aP (oN h) λeH a l=>?_;obtain⟨k,i⟩:=a;dsimp only;exact dM (λ_=>.pure rfl) (λ_=>by exact dx)
inductive qL(S:aD)(π:Map):Option aA->Option aA->Prop
 |none:qL S π none none
 |some {v v':aA}:aL S π v v'->qL S π (some v) (some v')
theorem qL.mono{S:aD}(h:π.le eH){v v':Option aA}(x:qL S π v v'):qL S eH v v':=by
 cases x with
 |none=>exact .none
 |some x=>exact .some (x.mono h)
theorem jq{S:aD}(b:Bool)(len g:Nat){x x' y:Option aA}(n:qL S π x x')(j:qL S π y y')(q:qL S π z z'):ay S p sV π (Instr.sliceBounds b len g x y z) (Instr.sliceBounds b len g x' y' z'):=by
 unfold Instr.sliceBounds;have o:∀{a:Map}(d:π.le a)(m h:Nat)(c c':BoundsCode),c=c'->ay S p sV a (do
  let l <-match x with
   |some v=>Instr.sliceBound v h c
   |none=>pure 0
  pure (l,h,m)) (do
  let l <-match x' with
   |some v=>Instr.sliceBound v h c'
   |none=>pure 0
  pure (l,h,m)):=by
  intro a d m h c c' k;subst k;cases n with
  |none=>exact .pure rfl
  |some f=>exact ay.aP (lX (f.mono d) _ _) λ_ _ _=>.pure rfl
 cases q with
 |none=>
  refine ay.aP (.pure rfl) λr m e=>?_;cases j with
  |none=>exact ay.aP (.pure rfl) λa h d=>o (e.trans d) _ _ _ _ rfl
  |some f=>exact ay.aP (lX (f.mono e) _ _) λa h d=>o (e.trans d) _ _ _ _ rfl
 |some f=>
  refine ay.aP (lX f _ _) λa m d=>?_;cases j with
  |none=>exact dx
  |some f=>exact ay.aP (lX (f.mono d) _ _) λs h i=>o (d.trans i) _ _ _ _ rfl
theorem kL{S:aD}{v:aA}(d:aL S π v v')(c:BoundsCode):ay S p (λ_ a b=>a=0/\b=0) π (Instr.sliceBound v 0 c) (Instr.sliceBound v' 0 c):=by unfold Instr.sliceBound;refine ay.aP (oN d) λeH e l=>?_;obtain⟨k,i⟩:=e;dsimp only;exact dM (λh=>.pure ⟨Q0,Q0⟩) (λ_=>by exact dx)
theorem Af{S:aD}(b:Bool){x x' y:Option aA}(t:qL S π x x')(r:qL S π y y')(u:qL S π z z'):ay S p (λ_ a b=>a=(0,0,0)/\b=(0,0,0)) π (Instr.sliceBounds b 0 0 x y z) (Instr.sliceBounds b 0 0 x' y' z'):=by
 unfold Instr.sliceBounds;have o:∀{d:Map}(e:π.le d)(m h n f:Nat)(c c':BoundsCode),c=c'->(m=0/\n=0)->(h=0/\f=0)->ay S p (λ_ a b=>a=(0,0,0)/\b=(0,0,0)) d (do
  let l <-match x with
   |some v=>Instr.sliceBound v h c
   |none=>pure 0
  pure (l,h,m)) (do
  let l <-match x' with
   |some v=>Instr.sliceBound v f c'
   |none=>pure 0
  pure (l,f,n)):=by
  intro d e m h n f c c' s k g;subst s;obtain⟨rfl,rfl⟩:=k;obtain⟨rfl,rfl⟩:=g;cases t with
  |none=>exact .pure ⟨rfl,rfl⟩
  |some j=>exact ay.bind' (kL (j.mono e) _) λ_ a b _ h=>by obtain⟨rfl,rfl⟩:=h;exact .pure ⟨rfl,rfl⟩
 cases u with
 |none=>
  refine ay.bind' (A:=λ_ a b=>a=0/\b=0) (.pure ⟨rfl,rfl⟩) λw m n i k=>?_;cases r with
  |none=>exact ay.bind' (A:=λ_ a b=>a=0/\b=0) (.pure ⟨rfl,rfl⟩) λd h f e g=>o (i.trans e) _ _ _ _ _ _ rfl k g
  |some j=>obtain⟨rfl,rfl⟩:=k;exact ay.bind' (kL (j.mono i) _) λd h f e g=>o (i.trans e) _ _ _ _ _ _ rfl ⟨rfl,rfl⟩ g
 |some j=>
  refine ay.bind' (kL j _) λd m n e k=>?_;obtain⟨rfl,rfl⟩:=k;cases r with
  |none=>exact dx
  |some j=>exact ay.bind' (kL (j.mono e) _) λB h f q g=>o (e.trans q) _ _ _ _ _ _ rfl ⟨rfl,rfl⟩ g
theorem Uu{S:aD}(t:bf){v:aA}(B:aL S π v v'){x x' y:Option aA}(u:qL S π x x')(w:qL S π y y')(A:qL S π z z'):ay S p (λπ=>aL S π) π (Instr.slice t v x y z) (Instr.slice t v' x' y' z'):=by
 unfold Instr.slice;refine aR λd D=>?_;have str:∀s:aN,ay S p (λπ=>aL S π) π (do
  if z.isSome then stuck "Slice: full slice of a string"
  let(l,h,_) <-Instr.sliceBounds false s.size s.size x y none
  pure (.string (s.extract l h))) (do
  if z'.isSome then stuck "Slice: full slice of a string"
  let(l,h,_) <-Instr.sliceBounds false s.size s.size x' y' none
  pure (.string (s.extract l h))):=by
  intro s;cases A with
  |none=>refine ay.aP (jq _ _ _ u w .none) λg m j=>?_;exact .pure (.string _)
  |some h=>exact dx
 cases d with
 |string=>
  cases B with
  |string s=>exact str s
  |_=>exact dx
 |slice C=>
  cases B with
  |dQ l c=>
   refine ay.aP (jq _ _ _ u w A) λg m j=>?_;refine ay.aP (dR _) λo n b=>?_;have e:∀k:Nat,(if m.2.2=m.1 then(none:Option Addr)else(none:Option Addr).map (·.add k))=none:=λk=>by split<;>rfl
   simp only[e];exact .pure (.dQ _ _)
  |@slice a a' l c q=>
   refine ay.aP (jq _ _ _ u w A) λg m j=>?_;refine ay.aP (dR _) λo n b=>?_;by_cases f:m.2.2=m.1
   .rw[aI f,aI f];exact .pure (.slice _ _ (q.mono (j.trans b)))
   .rw[av f,av f];exact .pure (.slice _ _ ((q.mono (j.trans b)).add _))
  |fG a'=>refine ay.bind' (Af _ u w A) λg m E j f=>?_;obtain⟨rfl,rfl⟩:=f;refine ay.aP (dR _) λo n b=>?_;exact .pure (.fG _)
  |_=>exact dx
 |pointer r=>
  have key:ay S p (λπ=>aL S π) π (do
   let a <-asAddr v
   let .array n C <-underlying r|stuck "Slice: array type expected"
   let(l,h,m) <-Instr.sliceBounds false n n x y z
   let i <-sizeOf C
   pure (.slice (some (if m=l then a else a.add (l*i))) (h-l) (m-l))) (do
   let a <-asAddr v'
   let .array n C <-underlying r|stuck "Slice: array type expected"
   let(l,h,m) <-Instr.sliceBounds false n n x' y' z'
   let i <-sizeOf C
   pure (.slice (some (if m=l then a else a.add (l*i))) (h-l) (m-l))):=by
   cases B with
   |@ptr a a' q=>
    refine aR λd D=>?_
    split
    .refine ay.aP (jq _ _ _ u w A) λg m j=>?_;refine ay.aP (dR _) λo n b=>?_;by_cases f:m.2.2=m.1
     .rw[aI f,aI f];exact .pure (.slice _ _ (q.mono (j.trans b)))
     .rw[av f,av f];exact .pure (.slice _ _ ((q.mono (j.trans b)).add _))
    .exact dx
   |jL=>exact pX
   |_=>exact dx
  cases B<;>exact key
 |_=>exact dx
theorem Nr{S:aD}(t:bf){v:aA}(f:aL S π v v'){x x' y:Option aA}(g:qL S π x x')(i:qL S π y y')(j:qL S π z z'):ay S p (λπ=>aL S π) π (Instr.sliceAt t v x y z) (Instr.sliceAt t v' x' y' z'):=by
 unfold Instr.sliceAt;refine aR λd r=>?_
 split
 .refine ay.bind' (mQ f) λk a a' h c=>?_;refine ay.aP (jq _ _ _ (g.mono h) (i.mono h) (j.mono h)) λo m e=>?_;refine ay.aP (dR _) λq n l=>?_;by_cases b:m.2.2=m.1
  .rw[aI b,aI b];exact .pure (.slice _ _ (c.mono (e.trans l)))
  .rw[av b,av b];exact .pure (.slice _ _ ((c.mono (e.trans l)).add _))
 .exact Uu t f g i j
theorem Uv{S:aD}(t:bf){v u:aA}(a:aL S π v v')(e:aL S π u H):ay S p (λπ=>aL S π) π (Instr.index t v u) (Instr.index t v' H):=by
 unfold Instr.index;refine ay.aP (oN e) λeH f l=>?_;obtain⟨k,i⟩:=f;dsimp only;refine aR λd j=>?_;cases d with
 |array len C=>
  cases a with
  |agg b c=>refine dM (λ_=>?_) (λ_=>by exact dx);exact ay.aP (dR _) λg n h=>PU _ (bq.mono (l.trans h) ⟨b,c⟩) _
  |_=>exact dx
 |string=>
  cases a with
  |string s=>
   dsimp only
   split
   .exact .pure (.int _ _)
   .exact dx
  |_=>exact dx
 |_=>exact dx
theorem Uw{S:aD}(t:bf){v:aA}(a:aL S π v v')(f:Nat):ay S p (λπ=>aL S π) π (Instr.field t v f) (Instr.field t v' f):=by
 unfold Instr.field;refine aR λd e=>?_
 split
 .split
  .exact ay.bind' (Un a) λb c c' l h=>PU _ h _
  .exact dx
 .exact dx
theorem Ns{S:aD}{v:aA}(d:aL S π v v')(i:Nat):ay S p (λπ=>aL S π) π (Instr.extract v i) (Instr.extract v' i):=by
 unfold Instr.extract;cases d with
 |@tuple x x' h c=>
  dsimp only;obtain⟨e,b⟩|⟨a,a',e,b,r⟩:=bq.get? (S:=S) (π:=π) ⟨h,c⟩ i
  .rw[e];exact dx
  .rw[e,b];exact .pure r
 |_=>exact dx
theorem FY{S:aD}{t:bf}(z:∀e,p.underlying t=some (.slice e)->kU p e){v u:aA}(g:aL S π v v')(y:aL S π u H):ay S p (λπ=>aL S π) π (Instr.makeSlice t v u) (Instr.makeSlice t v' H):=by
 unfold Instr.makeSlice;refine aR λd m=>?_
 split
 .rename_i C;refine ay.aP (nN g) λB len l=>?_;refine ay.aP (nN (y.mono l)) λD c r=>?_;refine ig λG o=>?_;dsimp only;refine dM (λ_=>?_) (λ_=>?_)
  .refine dM (λ_=>by exact dx) (λ_=>?_);refine dM (λ_=>by exact dx) (λ_=>?_);exact ay.aP (oO _) λj n f=>by exact dx
  .refine ay.aP (xH _) λj _ f=>?_;refine ay.aP (dR _) λE n s=>?_;have fin:∀{b:Map}(zero:Array aA),(∀(i:Nat) v,zero[i]? =some v->Flat v)->ay S p (λπ=>aL S π) b
    (do let a <-newRow C ((Array.range ((IntKind.i64.wrap c).toNat*n)).map (λi=>zero[i%zero.size]!));pure (.slice (some a) (IntKind.i64.wrap len).toNat (IntKind.i64.wrap c).toNat))
    (do let a <-newRow C ((Array.range ((IntKind.i64.wrap c).toNat*n)).map (λi=>zero[i%zero.size]!));pure (.slice (some a) (IntKind.i64.wrap len).toNat (IntKind.i64.wrap c).toNat)):=
    λ{b} zero A=>ay.bind' (oM _ (xI A _)) λF a a' x k=>.pure (.slice _ _ k.1)
   refine dM (λ_=>?_) (λ_=>?_)
   .exact fin #[] (λi v h=>by simp at h)
   .refine ay.bind' (jG (z _ m)) λb v v' w g=>?_;obtain⟨rfl,q⟩:=g;exact fin _ q.cells
 .exact dx
theorem vU{S:aD}{v:aA}(h:aL S π v v'):ay S p (λ_ a b=>b=a/\∀x,v=.slice (some x) 0 0->a=0) π (Builtin.lenOf v) (Builtin.lenOf v'):=by unfold Builtin.lenOf;cases h<;>first|exact .pure ⟨rfl,λx e=>by cases e<;>rfl⟩|exact dx
theorem tL{S:aD}(i:Nat){v:aA}(h:aL S π v v'):ay S p (λ_ c c'=>c=#[]/\c'=#[]) π (Builtin.firstCells i 0 v) (Builtin.firstCells i 0 v'):=by
 unfold Builtin.firstCells;cases h with
 |dQ l c=>exact .pure ⟨rfl,rfl⟩
 |slice l c a=>simp only[Nat.zero_mul];exact .pure ⟨rfl,rfl⟩
 |fG a'=>simp only[Nat.zero_mul];exact .pure ⟨rfl,rfl⟩
 |string s=>exact .pure ⟨X0,X0⟩
 |_=>exact dx
theorem lY{S:aD}(i n:Nat){v:aA}(d:aL S π v v')(b:∀a,v=.slice (some a) 0 0->n=0):ay S p (λπ=>bq S π) π (Builtin.firstCells i n v) (Builtin.firstCells i n v'):=by
 unfold Builtin.firstCells;cases d with
 |dQ l c=>exact .pure .nil
 |slice l c h=>exact qX h _
 |fG a'=>obtain rfl:=b _ rfl;simp only[Nat.zero_mul];exact .pure .nil
 |string s=>exact .pure (bq.map _ λa _=>.int _ _)
 |_=>exact dx
theorem aaL{S:aD}(t:bf)(l:bq S π x x')(h:∀t d,ts[0]? =some t->p.underlying t=some d->(∀k v,d≠ .map k v)/\(∀k v,d≠ .chan k v)):ay S p (λπ=>aL S π) π (Builtin.len_ ts t x) (Builtin.len_ ts t x'):=by
 unfold Builtin.len_;cases j:ts[0]? with
 |none=>exact dx
 |some m=>
  obtain⟨e,b⟩|⟨a,a',e,b,r⟩:=l.get? 0
  .rw[e];exact dx
  .rw[e,b];dsimp only;refine aR λd g=>?_;have c:=h m d j g;cases d with
   |string=>cases r<;>first|exact .pure (.int _ _)|exact dx
   |array n e=>exact .pure (.int _ _)
   |slice e=>cases r<;>first|exact .pure (.int _ _)|exact dx
   |pointer f=>
    refine aR λo i=>?_
    split
    .exact .pure (.int _ _)
    .exact dx
   |map k v=>exact(c.1 _ _ rfl).elim
   |chan k v=>exact(c.2 _ _ rfl).elim
   |_=>exact dx
theorem XP{S:aD}(t:bf)(y:bq S π x x'):ay S p (λπ=>aL S π) π (Builtin.copy_ ts t x) (Builtin.copy_ ts t x'):=by
 unfold Builtin.copy_;cases E:ts[0]? with
 |none=>exact dx
 |some F=>
  obtain⟨e,w⟩|⟨a,a',e,w,r⟩:=y.get? 0
  .rw[e];exact dx
  .obtain⟨u,j⟩|⟨b,b',u,j,r1⟩:=y.get? 1
   .rw[e,u];exact dx
   .rw[e,w,u,j];dsimp only;refine aR λd D=>?_
    split
    .cases r with
     |dQ l c=>dsimp only;refine ay.bind' (vU r1) λk n v h g=>?_;obtain⟨rfl,g⟩:=g;refine ay.aP (dR _) λm s f=>?_;refine ay.bind' (lY _ _ (r1.mono (h.trans f)) (λx e=>by rw[g x e];exact Nat.zero_min _)) λo cs cs' i q=>?_;exact .pure (.int _ _)
     |@slice a a' l c A=>dsimp only;refine ay.bind' (vU r1) λk n v h g=>?_;obtain⟨rfl,g⟩:=g;refine ay.aP (dR _) λm s f=>?_;refine ay.bind' (lY _ _ (r1.mono (h.trans f)) (λx e=>by rw[g x e];exact Nat.zero_min _)) λo cs cs' i q=>?_;exact ay.bind' (nX (A.mono ((h.trans f).trans i)) q 0) λC _ _ B _=>.pure (.int _ _)
     |fG a'=>dsimp only;refine ay.bind' (vU r1) λk n v h g=>?_;obtain⟨rfl,g⟩:=g;refine ay.aP (dR _) λm s f=>?_;have z:v.min 0=0:=Nat.min_zero _;rw[z];refine ay.bind' (tL _ (r1.mono (h.trans f))) λo cs cs' i q=>?_;obtain⟨rfl,rfl⟩:=q;exact .pure (.int _ _)
     |_=>exact dx
    .exact dx
theorem qZ(a:Addr)(n:Nat)(w:au):∃b,(Builtin.holdsCells a n).run p w=.ok b w:=by
 unfold Builtin.holdsCells;simp only[bind,Sem.bind,Go.shape,pure,Sem.run]
 split<;>exact⟨_,rfl⟩
theorem DZ(s L n:Nat)(c:Option Addr)(x:aA)(w:au):∃b,(Builtin.mayShare s L n c x).run p w=.ok b w:=by
 unfold Builtin.mayShare;have d:∃b,(match x with
  |.slice (some b) _ _=>do pure (!(<-Builtin.holdsCells b (n*s))||c.any (·.block==b.block))
  |_=>pure false:Sem Bool).run p w=.ok b w:=by
  split
  .obtain⟨b,h⟩:=qZ (p:=p) ‹Addr› (n*s) w;rw[Sem.run_bind,h];exact⟨_,rfl⟩
  .exact⟨_,rfl⟩
 cases c with
 |none=>exact d
 |some a=>
  obtain⟨b,h⟩:=qZ (p:=p) a (L*s) w;rw[Sem.run_bind,h];simp only[Result.andThen_ok,Go.frozen,Sem.run,bind,Sem.bind,pure]
  split
  .exact⟨_,rfl⟩
  .exact d
theorem tN{S:aD}{v:aA}(h:Flat v)(n:Nat):bq S π (Builtin.zeroCells v.cells n) (Builtin.zeroCells v.cells n):=xI h.cells _
theorem mq{S:aD}{m:String}:ay S p B π ((runtimePanic (.error m):Sem α)>>=f) ((runtimePanic (.error m):Sem β)>>=f'):=by unfold runtimePanic;simp only[bind,Sem.bind,program,goPanic];exact .program (.panic (.iface _ (.string _)))
def qb(C:bf)(size:Nat)(x:aA)(zeros:Bool)(n:Nat):Sem (Array aA):=
 if !zeros then Builtin.firstCells size n x
 else if n*size=0 then pure #[]
 else do pure (Builtin.zeroCells (<-zeroValue C).cells n)
theorem Nt{S:aD}(s:Nat){x x':aA}(h:aL S π x x')(z:Bool):ay S p (λ_ c c'=>c=#[]/\c'=#[]) π (qb C s x z 0) (qb C s x' z 0):=by unfold qb;refine dM (λ_=>tL _ h) (λ_=>?_);rw[aI (Nat.zero_mul _)];exact .pure ⟨rfl,rfl⟩
theorem FZ{S:aD}(e:kU p C)(s:Nat){x x':aA}(d:aL S π x x')(z:Bool)(n:Nat)(b:z=false->∀a,x=.slice (some a) 0 0->n=0):ay S p (λπ=>bq S π) π (qb C s x z n) (qb C s x' z n):=by unfold qb;refine dM (λh=>lY _ _ d (b X5)) (λ_=>?_);refine dM (λ_=>.pure .nil) (λ_=>?_);refine ay.bind' (jG e) λg v v' l c=>?_;obtain⟨rfl,f⟩:=c;exact .pure (tN f n)
def vV(C:bf)(size sLen sCap:Nat)(s x:aA)(zeros:Bool)(n:Nat):Sem aA:=do
 let newCap <-choose (.appendCap (sLen+n) sCap C)
 askRoom (newCap*(<-typeInfo C).bytes)
 let old <-Builtin.firstCells size sLen s
 let new <-qb C size x zeros n
 let rest:=Builtin.zeroCells (<-zeroValue C).cells (newCap-(sLen+n))
 pure (.slice (some (<-newRow C (old++new++rest))) (sLen+n) newCap)
theorem Nu{S:aD}(m:kU p C)(d L b:Nat){s G x x':aA}(D:aL S π s G)(F:aL S π x x')(z:Bool)(n:Nat)(A:z=false->∀a,x=.slice (some a) 0 0->n=0)(w:∀a,s=.slice (some a) 0 0->L=0):ay S p (λπ=>aL S π) π (vV C d L b s x z n) (vV C d L b G x' z n):=by unfold vV;refine ay.aP (oO _) λH e l=>?_;refine ig λi O=>?_;refine ay.aP (xH _) λI _ f=>?_;have k:=l.trans f;refine ay.bind' (lY _ _ (D.mono k) w) λJ o o' g B=>?_;have q:=k.trans g;refine ay.bind' (FZ m _ (F.mono q) _ _ A) λK c c' j t=>?_;refine ay.bind' (jG m) λM v v' h E=>?_;obtain⟨rfl,u⟩:=E;exact ay.bind' (oM C (((B.mono (j.trans h)).append (t.mono h)).append (tN u _))) λN a a' y r=>.pure (.slice _ _ r.1)
def vW(C:bf)(size sLen sCap:Nat)(base:Option Addr)(s x:aA)(zeros:Bool)(n:Nat):Sem aA:=do
 if Builtin.nextslicecap (sLen+n) sCap*(<-typeInfo C).bytes>2^48 then(if zeros then runtimePanic (.error "growslice: len out of range")else do
  if !(<-Builtin.mayShare size sLen n base x)then mark .noRoom
  unsupported (.resourceLimit "append: a slice or a string whose bytes no memory bears"))
 vV C size sLen sCap s x zeros n
theorem Nv{S:aD}(o:kU p C)(c L e:Nat)(d f:Option Addr){s G x x':aA}(k:aL S π s G)(m:aL S π x x')(z:Bool)(n:Nat)(j:z=false->∀a,x=.slice (some a) 0 0->n=0)(l:∀a,s=.slice (some a) 0 0->L=0):ay S p (λπ=>aL S π) π (vW C c L e d s x z n) (vW C c L e f G x' z n):=by
 unfold vW;refine ig λi q=>?_;refine dM (λ_=>?_) (λ_=>Nu o _ _ _ k m _ _ j l);cases z with
 |true=>exact mq
 |false=>refine .dead λw=>?_;obtain⟨b,h⟩:=DZ (p:=p) c L n d x w;simp only[gU,if_false];rw[Sem.run_bind,Sem.run_bind,h];cases b<;>(simp[mark,unsupported,Sem.run,bind,Sem.bind,Ab];try intro g;try simp)
def jh(C:bf)(size sLen sCap:Nat)(base:Option Addr)(s x:aA)(zeros:Bool)(n:Nat):Sem aA:=do
 if sLen+n<=sCap then
  let new <-qb C size x zeros n
  if let some a:=base then storeCells (a.add (sLen*size)) new.toList
  pure (.slice base (sLen+n) sCap)
 else
  if((sLen+n:Nat):Int)>IntKind.i64.max/\(zeros\/(<-typeInfo C).bytes=0)then runtimePanic (.error "growslice: len out of range")
  vW C size sLen sCap base s x zeros n
theorem Ny{S:aD}(r:kU p C)(f L e:Nat){d b:Option Addr}{s G x x':aA}(g:(d=none/\b=none)\/(∃a a',d=some a/\b=some a'/\bR π a a')\/(L=0/\e=0/\d=some ⟨0,0,some 0⟩/\∃a',b=some a'))(u:aL S π s G)(k:aL S π x x')(z:Bool)(n:Nat)(q:z=false->∀a,x=.slice (some a) 0 0->n=0)(t:∀a,s=.slice (some a) 0 0->L=0):ay S p (λπ=>aL S π) π (jh C f L e d s x z n) (jh C f L e b G x' z n):=by
 unfold jh;refine dM (λ_=>?_) (λ_=>?_)
 .by_cases hw:L=0/\e=0/\d=some ⟨0,0,some 0⟩/\∃a',b=some a'
  .obtain⟨rfl,rfl,rfl,a',rfl⟩:=hw;obtain rfl:n=0:=by omega
   refine ay.bind' (Nt _ k _) λm c c' h j=>?_;obtain⟨rfl,rfl⟩:=j;exact .pure (.fG _)
  refine ay.bind' (FZ r _ k _ _ q) λm c c' h j=>?_;obtain⟨rfl,rfl⟩|⟨a,a',rfl,rfl,o⟩|g:=g
  rotate_left 2
  .exact(hw g).elim
  .exact .pure (.dQ _ _)
  .exact ay.bind' (nX ((o.mono h).add _) j 0) λv _ _ l _=>.pure (.slice _ _ (o.mono (h.trans l)))
 .refine ig λi w=>?_;refine dM (λ_=>mq) (λ_=>Nv r _ _ _ _ _ u k _ _ q t)
theorem append_eq(ts:Array bf)(t:bf)(a:Array aA):Builtin.append_ ts t a=(do
 let(some sType,some s,some x):=(ts[0]?,a[0]?,a[1]?)|stuck "append: two arguments expected"
 let .slice C <-underlying sType|stuck "append: slice type expected"
 let .slice base sLen sCap:=s|stuck "append: slice expected"
 let i <-sizeOf C
 let z <-match ts[1]? with
  |some T=>do pure ((<-underlying T) matches .int _)
  |none=>pure false
 let n <-if z then do
  let l:=IntKind.i64.wrap (<-asInt x)
  if l<0 then runtimePanic (.error "makeslice: len out of range")
  if l*(<-typeInfo C).bytes>2^48 then
   let m <-choose (.extern "append.ofMake.carriedOut" 2)
   runtimePanic (.error (if m==1 then "makeslice: len out of range" else "growslice: len out of range"))
  pure l.toNat
  else Builtin.lenOf x
 jh C i sLen sCap base s x z n):=by
 unfold Builtin.append_ jh vW vV qb;rfl
def nY(C:bf)(x:aA)(zeros:Bool):Sem Nat:=
 if zeros then do
  let l:=IntKind.i64.wrap (<-asInt x)
  if l<0 then runtimePanic (.error "makeslice: len out of range")
  if l*(<-typeInfo C).bytes>2^48 then
   let made <-choose (.extern "append.ofMake.carriedOut" 2)
   runtimePanic (.error (if made==1 then "makeslice: len out of range" else "growslice: len out of range"))
  pure l.toNat
 else Builtin.lenOf x
theorem P9{S:aD}(C:bf){x x':aA}(d:aL S π x x')(z:Bool):ay S p (λ_ a b=>b=a/\(z=false->∀y,x=.slice (some y) 0 0->a=0)) π (nY C x z) (nY C x' z):=by unfold nY;refine dM (λc=>?_) (λ_=>(vU d).mono λ_ _ _ _ h=>⟨h.1,λ_=>h.2⟩);refine ay.aP (nN d) λf l k=>?_;dsimp only;refine dM (λ_=>mq) (λ_=>?_);refine ig λi j=>?_;refine dM (λ_=>?_) (λ_=>.pure ⟨rfl,λh=>by rw[c]at h;cases h⟩);exact ay.aP (oO _) λg m e=>mq
theorem Ag(ts:Array bf)(t:bf)(r:Array aA):Builtin.append_ ts t r=(do
 let(some sType,some s,some x):=(ts[0]?,r[0]?,r[1]?)|stuck "append: two arguments expected"
 let .slice C <-underlying sType|stuck "append: slice type expected"
 let .slice e L g:=s|stuck "append: slice expected"
 let i <-sizeOf C
 let z <-match ts[1]? with
  |some T=>do pure ((<-underlying T) matches .int _)
  |none=>pure false
 let n <-nY C x z
 jh C i L g e s x z n):=by
 rw[append_eq];have h:∀{α β:Type}(c:Prop)[Decidable c](a b:Sem α)(f:α->Sem β),((if c then a else b)>>=f)=if c then a>>=f else b>>=f:=λc _ a b f=>by split<;>rfl
 cases ts[0]? with
 |none=>rfl
 |some j=>
  cases r[0]? with
  |none=>rfl
  |some s=>
   cases r[1]? with
   |none=>rfl
   |some x=>
    dsimp only
    congr 1
    funext d
    cases d with
    |slice C=>
     cases s with
     |slice e L g=>
      dsimp only
      congr 1
      funext i
      have key:∀z:Bool,(if z=true then do
       let l:=IntKind.i64.wrap (<-asInt x)
       if l<0 then runtimePanic (.error "makeslice: len out of range")
       if l*(<-typeInfo C).bytes>2^48 then
        let m <-choose (.extern "append.ofMake.carriedOut" 2)
        runtimePanic (.error (if m==1 then "makeslice: len out of range" else "growslice: len out of range"))
       let n <-pure l.toNat
       jh C i L g e (.slice e L g) x z n
       else do
        let n <-Builtin.lenOf x
        jh C i L g e (.slice e L g) x z n)=(nY C x z>>=λn=>jh C i L g e (.slice e L g) x z n):=by
       intro z;unfold nY;cases z with
       |false=>rfl
       |true=>simp only[if_true,bind_assoc,h]
      cases ts[1]? with
      |none=>exact key false
      |some xt=>
       dsimp only
       congr 1
       funext d2
       exact key _
     |_=>rfl
    |_=>rfl
theorem Qa{S:aD}(z:∀t e,ts[0]? =some t->p.underlying t=some (.slice e)->kU p e)(t:bf)(B:bq S π x x'):ay S p (λπ=>aL S π) π (Builtin.append_ ts t x) (Builtin.append_ ts t x'):=by
 rw[Ag,Ag];cases K:ts[0]? with
 |none=>exact dx
 |some N=>
  obtain⟨e,w⟩|⟨s,G,e,w,D⟩:=B.get? 0
  .rw[e];exact dx
  obtain⟨m,k⟩|⟨y,y',m,k,E⟩:=B.get? 1
  .rw[e,m];exact dx
  rw[e,w,m,k];dsimp only;refine aR λd I=>?_
  split
  .rename_i C;have M:=z N C K I;have go:∀(g f:Option Addr)(L c:Nat),((g=none/\f=none)\/(∃a a',g=some a/\f=some a'/\bR π a a')\/(L=0/\c=0/\g=some ⟨0,0,some 0⟩/\∃a',f=some a'))->(∀a,s=.slice (some a) 0 0->L=0)->ay S p (λπ=>aL S π) π
    (do
      let i <-sizeOf C
      let b <-match ts[1]? with
       |some T=>do pure ((<-underlying T) matches .int _)
       |none=>pure false
      let n <-nY C y b
      jh C i L c g s y b n)
    (do
      let i <-sizeOf C
      let b <-match ts[1]? with
       |some T=>do pure ((<-underlying T) matches .int _)
       |none=>pure false
      let n <-nY C y' b
      jh C i L c f G y' b n):=by
    intro g f L c H v;refine ay.aP (dR _) λO i l=>?_;have fin:∀{j:Map}(b:Bool),π.le j->ay S p (λπ=>aL S π) j (do
     let n <-nY C y b
     jh C i L c g s y b n) (do
     let n <-nY C y' b
     jh C i L c f G y' b n):=by
     intro j b A;refine ay.bind' (P9 _ (E.mono A) _) λP n R r u=>?_;obtain⟨rfl,u⟩:=u;have o:=A.trans r;exact Ny M _ _ _ (H.imp id λh=>h.imp (λ⟨a,a',h,F,q⟩=>⟨a,a',h,F,q.mono o⟩) id) (D.mono o) (E.mono o) _ _ u v
    dsimp only;cases ts[1]? with
    |none=>exact fin false l
    |some xt=>exact aR λQ J=>fin _ l
   cases D with
   |dQ L c=>exact go none none L c (.inl ⟨rfl,rfl⟩) (λ_ e=>by cases e)
   |slice L c q=>exact go _ _ L c (.inr (.inl ⟨_,_,rfl,rfl,q⟩)) (λ_ e=>by cases e;rfl)
   |fG a'=>exact go _ _ 0 0 (.inr (.inr ⟨rfl,rfl,rfl,_,rfl⟩)) (λ_ _=>rfl)
   |_=>exact dx
  .exact dx
theorem yB{S:aD}:∀(n:Nat){π:Map}{a a':Addr},bR π a a'->∀(c:aN),ay S p (λπ x y=>x=y/\(n=0\/π.own a.block a'.block)) π (loadBytes a c n) (loadBytes a' c n)
 |0,π,a,a',h,c=>.pure ⟨rfl,.inl rfl⟩
 |n+1,π,a,a',h,c=>by
  unfold loadBytes
  refine .load h λv v' d o=>?_
  dsimp only[Sem.bind]
  cases d with
  |int k m=>
   cases k with
   |u8=>
    have own:π.own a.block a'.block:=o.elim id λh=>(h m rfl).elim
    refine(yB n (h.add 1) _).mono λe x y l b=>⟨b.1,.inr (l.own _ _ own)⟩
   |_=>exact dx
  |_=>exact dx
theorem BH{S:aD}{a:Addr}(h:bR π a a')(u:bf)(n:Nat):ay S p sV π (variablesAt a u n) (variablesAt a' u n):=by
 unfold variablesAt;refine kr ?_;refine ay.aP (pY h.block) λb x l=>?_;rw[h.off]
 split<;>exact .pure rfl
theorem Ah{S:aD}(ts:Array bf)(t:bf)(m:bq S π x x'):ay S p (λπ=>aL S π) π (Builtin.unsafeString_ ts t x) (Builtin.unsafeString_ ts t x'):=by
 unfold Builtin.unsafeString_;have r:(∀q v,x≠#[.pointer q,v])->ay S p (λπ=>aL S π) π (Builtin.unsafeString_ ts t x) (Builtin.unsafeString_ ts t x'):=by
  intro h;refine .dead λw=>?_;unfold Builtin.unsafeString_;clear m;obtain⟨l⟩:=x;obtain _|⟨a,_|⟨b,_|⟨c,l⟩⟩⟩:=l
  .cases ts[0]? <;>trivial
  .cases ts[0]? <;>trivial
  .cases a<;>first|exact(h _ _ rfl).elim|(cases ts[0]? <;>trivial)
  .cases ts[0]? <;>first|trivial|simp[Ab,stuck,Sem.run]
 by_cases s:∃q v,x=#[.pointer q,v]
 .obtain⟨q,v,rfl⟩:=s;have g:=m.2 0 X0;have d:=m.2 1 X0;have B:x'.size=2:=m.1.symm;obtain⟨C,D,rfl⟩:∃C D,x'=#[C,D]:=by
   refine⟨x'[0],x'[1],Array.ext (by simp[B]) λi d j=>?_⟩;have:i=0\/i=1:=by simp at j;omega
   obtain rfl|rfl:=this<;>rfl
  simp only[Array.getD]at g d;have g:aL S π (.pointer q) C:=g;have d:aL S π v D:=d;cases ts[0]? with
  |none=>cases g<;>exact ay.aP (nN d) λk n f=>by exact dx
  |some L=>
   cases g with
   |jL=>refine ay.aP (nN d) λk n f=>?_;dsimp only;refine dM (λ_=>mq) (λ_=>?_);refine dM (λ_=>by exact dx) (λ_=>?_);exact dM (λ_=>.pure (.string _)) (λ_=>by exact dx)
   |@ptr a a' u=>
    refine ay.aP (nN d) λk n f=>?_;dsimp only;refine dM (λ_=>mq) (λ_=>?_);refine dM (λ_=>by exact dx) (λ_=>?_);refine dM (λ_=>.pure (.string _)) (λK=>?_);refine ay.aP (PO _) λH e z=>?_;have j:=f.trans z;refine ay.aP (BH (u.mono j) _ _) λI b A=>?_;have E:=j.trans A;refine dM (λ_=>?_) (λ_=>by exact dx);refine ay.bind' (yB _ (u.mono E) _) λJ y y' F G=>?_;obtain⟨rfl,o⟩:=G;obtain o|o:=o
    .have:n.toNat≠0:=by rename_i d j E;omega
     exact(this o).elim
    .exact .freeze o u.off (.pure (.string _))
 .have:=r λq v h=>s ⟨q,v,h⟩;unfold Builtin.unsafeString_ at this;exact this
theorem yQ{S:aD}{v:aA}(e:aL S π v v'):ay S p (λπ=>aL S π) π (Conv.bytesToString v) (Conv.bytesToString v'):=by
 unfold Conv.bytesToString;cases e with
 |dQ l c=>exact .pure (.string _)
 |slice l c o=>
  dsimp only;refine ay.bind' (qX o _) λa x x' hl h=>?_;refine ay.aP ?_ λm b d=>.pure (.string _);rw[<-Array.forIn_toList,<-Array.forIn_toList];have key:∀(l l':List aA),l.length=l'.length->(∀(j:Nat) v v',l[j]? =some v->l'[j]? =some v'->aL S a v v')->∀(b:aN),ay S p sV a
   (forIn l b λc s=>match c with|.int .u8 n=>pure (ForInStep.yield (s.push (UInt8.ofNat n.toNat)))|_=>stuck "bytesToString: byte expected")
   (forIn l' b λc s=>match c with|.int .u8 n=>pure (ForInStep.yield (s.push (UInt8.ofNat n.toNat)))|_=>stuck "bytesToString: byte expected"):=by
   intro l
   induction l with
   |nil=>intro l' hl _ b;cases l' with
    |nil=>exact .pure rfl
    |cons=>simp at hl
   |cons v l q=>
    intro l' hl r b;cases l' with
    |nil=>simp at hl
    |cons v' l'=>
     rw[List.forIn_cons,List.forIn_cons];cases r 0 v v' rfl rfl with
     |int k n=>
      cases k with
      |u8=>exact q l' O6 (λj x x' h g=>r (j+1) x x' (by simpa using h) (by simpa using g)) _
      |_=>exact dx
     |_=>exact dx
  exact key _ _ (by simpa using h.1) (λj v v' e f=>h.get (i:=j) (by simpa using e) (by simpa using f)) _
 |fG a'=>dsimp only;refine ay.bind' (A:=λ_ x y=>x=#[]/\y=#[]) (.pure ⟨rfl,rfl⟩) λa x x' hl h=>?_;obtain⟨rfl,rfl⟩:=h;refine ay.aP ?_ λm b d=>.pure (.string _);rw[<-Array.forIn_toList];exact .pure rfl
 |_=>exact dx
inductive uJ(p:Program)(src dst:bf):Prop
 |int (k:IntKind):p.underlying dst=some (.int k)->p.underlying src≠some .unsafePointer->uJ p src dst
 |str (e:bf):p.underlying src=some (.slice e)->p.underlying dst=some .string->p.underlying e=some (.int .u8)->uJ p src dst
 |bytes (e:bf):p.underlying src=some .string->p.underlying dst=some (.slice e)->p.underlying e=some (.int .u8)->uJ p src dst
 |same:p.underlying src=some .string->p.underlying dst=some .string->uJ p src dst
theorem yR{S:aD}{a:Addr}(h:bR π a a')(o:π.own a.block a'.block):ay S p (sV (α:=Unit)) π (markStringish a) (markStringish a'):=by
 unfold markStringish;refine ay.aP (pY h.block) λb x l=>?_
 split
 .exact .freeze (l.own _ _ o) rfl (.pure rfl)
 .exact .pure rfl
theorem yS{S:aD}(e:bf)(s:aN):ay S p (λπ=>aL S π) π (Conv.stringToBytes e s) (Conv.stringToBytes e s):=by unfold Conv.stringToBytes;refine ay.aP (oO _) λd c i=>?_;refine ay.bind' (oM e ((bq.map _ λa _=>.int _ _).append (bq.replicate _ (.int _ _)))) λf a a' b h=>?_;exact ay.bind' (yR h.1 h.2) λg _ _ l _=>.pure (.slice _ _ (h.1.mono l))
theorem tO{S:aD}(n:Int):ay S p (λπ=>aL S π) π (Conv.intToString n) (Conv.intToString n):=.pure (.string _)
theorem Nz{S:aD}{r j:bf}(h:uJ p r j){v:aA}(q:aL S π v v'):ay S p (λπ=>aL S π) π (convert r j v) (convert r j v'):=by
 unfold convert;refine aR λd i=>?_;refine aR λx g=>?_;cases h with
 |int k m o=>
  rw[m]at g;cases g;have w:d≠ .unsafePointer:=λe=>o (by rw[i,e]);cases q with
  |int k n=>cases d<;>exact .pure (.int _ _)
  |_=>cases d<;>first|exact dx|exact(w rfl).elim
 |str e m o u=>
  rw[m]at i;cases i;rw[o]at g;cases g;have go:∀{v v':aA},aL S π v v'->ay S p (λπ=>aL S π) π (do
   match <-underlying e with
   |.int .u8=>Conv.bytesToString v
   |.int .i32=>Conv.runesToString v
   |_=>stuck "Convert: a slice of what to string?") (do
   match <-underlying e with
   |.int .u8=>Conv.bytesToString v'
   |.int .i32=>Conv.runesToString v'
   |_=>stuck "Convert: a slice of what to string?"):=λq=>aR λd i=>by
   rw[u]at i;cases i;exact yQ q
  cases q with
  |int k n=>exact tO n
  |string s=>exact .pure (.string s)
  |jL=>exact go .jL
  |ptr h=>exact go (.ptr h)
  |bool b=>exact go (.bool b)
  |dQ l c=>exact go (.dQ l c)
  |slice l c h=>exact go (.slice l c h)
  |iT=>exact go .iT
  |map h=>exact go (.map h)
  |func a b c d e=>exact go (.func a b c d e)
  |nilFunc=>exact go .nilFunc
  |iface t h=>exact go (.iface t h)
  |nilIface=>exact go .nilIface
  |agg a b=>exact go (.agg a b)
  |tuple a b=>exact go (.tuple a b)
  |fG a'=>exact go (.fG a')
  |DV n f c=>exact go (.DV n f c)
  |junk i=>unfold underlying;refine .vL ?_;dsimp only[Sem.bind];rw[u];exact .stuck
 |bytes e m o u=>
  rw[m]at i;cases i;rw[o]at g;cases g;cases q with
  |string s=>refine aR λd i=>?_;rw[u]at i;cases i;exact yS e s
  |_=>exact dx
 |same m o=>
  rw[m]at i;cases i;rw[o]at g;cases g;cases q with
  |int k n=>exact tO n
  |string s=>exact .pure (.string s)
  |_=>exact dx
inductive BI(S:aD)(π:Map):Next->Next->Prop
 |value {v v':aA}:aL S π v v'->BI S π (.value v) (.value v')
 |skip:BI S π .skip .skip
 |enter {f:Nat} {a a':Array aA}:S f->bq S π a a'->BI S π (.enter f a) (.enter f a')
structure Jc(p:Program)(S:aD):Prop where
 fn:∀f,S f->∃fn c,p.funcs[f]? =some fn/\fn.body=some c/\(fn.name== "runtime.NumGoroutine")=false
 big:p.info? (p.globals.size+1000000)=none
theorem Jd{S:aD}(g:Jc p S){f:Nat}(h:S f){a a':Array aA}(i:bq S π a a'):ay S p (λπ=>BI S π) π (callFunc f a) (callFunc f a'):=by obtain⟨n,c,b,d,e⟩:=g.fn f h;unfold callFunc;refine kr ?_;rw[b];simp only[e,d,gU,if_false,Option.isNone_some];exact .pure (.enter h i)
def bE(S:aD):Operand->Prop
 |.tmp _=>True
 |.const v=>Flat v
 |.global _=>False
 |.func f=>S f
structure Cy(S:aD)(π:Map)(ρ ρ':Operand->aA):Prop where
 rel:∀o,bE S o->aL S π (ρ o) (ρ' o)
 const:∀v,ρ (.const v)=v
 func:∀f,ρ (.func f)=.func (.func f) #[] #[]/\ρ' (.func f)=.func (.func f) #[] #[]
theorem KT{S:aD}(h:Cy S π ρ ρ'){xs:Array Operand}(x:∀o∈xs,bE S o):bq S π (xs.map ρ) (xs.map ρ'):=bq.map _ λa b=>h.rel a (x a b)
theorem eval?{S:aD}(h:Cy S π ρ ρ'){x:Option Operand}(a:∀o∈x,bE S o):qL S π (x.map ρ) (x.map ρ'):=by
 cases x with
 |none=>exact .none
 |some o=>exact .some (h.rel o (a o rfl))
theorem Xa{S:aD}(h:Cy S π ρ ρ'){x:Array (Nat×Operand)}(d:∀o∈x,bE S o.2):FX S π (x.map λ(i,o)=>(i,ρ o)).toList (x.map λ(i,o)=>(i,ρ' o)).toList:=by
 refine⟨X0,λi a a' c b=>?_⟩;simp only[Array.toList_map,List.getElem?_map]at c b;cases e:x.toList[i]? with
 |none=>rw[e]at c;simp at c
 |some y=>rw[e]at c b;simp only[gq,iV]at c b;subst c;subst b;exact⟨rfl,h.rel _ (d y (by simpa using List.mem_of_getElem? e))⟩
inductive mD(p:Program)(ts:Array bf):Builtin->Prop
 |append:(∀t e,ts[0]? =some t->p.underlying t=some (.slice e)->kU p e)->mD p ts .append
 |len:(∀t d,ts[0]? =some t->p.underlying t=some d->(∀k v,d≠ .map k v)/\(∀k v,d≠ .chan k v))->mD p ts .len
 |copy:mD p ts .copy
 |str:mD p ts .unsafeString
inductive vX(S:aD)(p:Program)(c:Call):Prop
 |value (f:FuncId):c.callee=.value (.func f)->S f->(∀o∈c.args,bE S o)->vX S p c
 |builtin (b:Builtin):c.callee=.builtin b->mD p c.argTypes b->(∀o∈c.args,bE S o)->vX S p c
inductive gF(S:aD)(p:Program):Op->Prop
 |move (x:Operand):bE S x->gF S p (.move x)
 |assign (x:Operand):bE S x->gF S p (.assign x)
 |pick (c a b:Operand):bE S c->bE S a->bE S b->gF S p (.pick c a b)
 |alloc (t:bf):kU p t->gF S p (.alloc t)
 |box (t:bf) (x:Operand):bE S x->gF S p (.box t x)
 |build (t:bf) (x:Array (Nat×Operand)):kU p t->(∀o∈x,bE S o.2)->gF S p (.build t x)
 |buildSlice (t:bf) (n:Nat) (x:Array (Nat×Operand)):(∀e,p.underlying t=some (.slice e)->kU p e)->(∀o∈x,bE S o.2)->gF S p (.buildSlice t n x)
 |load (t:bf) (x:Operand):bE S x->gF S p (.load t x)
 |store (t:bf) (x y:Operand):bE S x->bE S y->gF S p (.store t x y)
 |nilCheck (x:Operand):bE S x->gF S p (.nilCheck x)
 |binOp (op:BinOp) (t:bf) (x y:Operand) (u:bf):bE S x->bE S y->((op=.eql\/op=.neq)->p.underlying t=some .bool\/p.underlying t=some .string\/(∃k,p.underlying t=some (.int k)/\∀i u,p.info? t=some i->i.desc≠ .named "sync.copyChecker" u)\/(∃v,x=.const v/\vR v)\/(∃v,y=.const v/\vR v))->gF S p (.binOp op t x y u)
 |unOp (op:UnOp) (t:bf) (x:Operand):bE S x->gF S p (.unOp op t x)
 |convert (s d:bf) (x:Operand):bE S x->uJ p s d->gF S p (.convert s d x)
 |makeSlice (t:bf) (x y:Operand):(∀e,p.underlying t=some (.slice e)->kU p e)->bE S x->bE S y->gF S p (.makeSlice t x y)
 |slice (t:bf) (x:Operand) (a b c:Option Operand):bE S x->(∀o∈a,bE S o)->(∀o∈b,bE S o)->(∀o∈c,bE S o)->gF S p (.slice t x a b c)
 |fieldAddr (t:bf) (x:Operand) (f:Nat):bE S x->gF S p (.fieldAddr t x f)
 |field (t:bf) (x:Operand) (f:Nat):bE S x->gF S p (.field t x f)
 |indexAddr (t:bf) (x y:Operand):bE S x->bE S y->gF S p (.indexAddr t x y)
 |index (t:bf) (x y:Operand):bE S x->bE S y->gF S p (.index t x y)
 |extract (x:Operand) (i:Nat):bE S x->gF S p (.extract x i)
 |call (c:Call):vX S p c->gF S p (.call c)
theorem Cz{S:aD}{s G:Sem aA}(h:ay S p (λπ=>aL S π) π s G):ay S p (λπ=>BI S π) π (do pure (.value (<-s))) (do pure (.value (<-G))):=ay.bind' h λ_ _ _ _ h=>.pure (.value h)
theorem s_u{S:aD}{s G:Sem Unit}(h:ay S p (sV (α:=Unit)) π s G):ay S p (λπ=>BI S π) π (do s;pure .skip) (do G;pure .skip):=ay.bind' h λ_ _ _ _ h=>.pure .skip
theorem Ai{S:aD}(I:Jc p S)(K:p.globals.size=π.g)(h:Cy S π ρ ρ'){o:Oper}(J:gF S p o.op):ay S p (λπ=>BI S π) π (execOp ρ o) (execOp ρ' o):=by
 unfold execOp;generalize o.op=op at J ⊢;cases J with
 |move x j=>exact .pure (.value (h.rel x j))
 |assign x j=>exact .pure (.value (h.rel x j))
 |pick c a b r q m=>
  refine ay.aP (PV (h.rel c r)) λG x C=>?_;cases x
  .exact .pure (.value ((h.rel b m).mono C))
  .exact .pure (.value ((h.rel a q).mono C))
 |alloc t A=>exact Cz (Us A)
 |box t x j=>exact Cz (aaK t (h.rel x j))
 |build t x A j=>exact Cz (Ut A (Xa h j))
 |buildSlice t n x A j=>exact Cz (DY A n (Xa h j))
 |load t x j=>exact Cz (P8 t (h.rel x j))
 |store t x y j l=>exact s_u (Nn t (h.rel x j) (h.rel y l))
 |nilCheck x j=>
  have w:=h.rel x j;dsimp only;generalize ρ x=v at w;generalize ρ' x=v' at w;cases w with
  |junk B=>
   cases v' with
   |bool b=>exact(show False from B).elim
   |agg x=>exact(show False from B).elim
   |nilFunc=>exact(show False from B).elim
   |nilIface=>exact(show False from B).elim
   |pointer a=>cases a with
    |none=>exact(show False from B).elim
    |some a=>exact .pure (BI.value (.junk trivial))
   |func L x y=>cases L with
    |method n=>exact(show False from B).elim
    |_=>exact .pure (BI.value (.junk trivial))
   |_=>exact .pure (BI.value (.junk trivial))
  |DV n f c=>
   refine .vL ?_;dsimp only[Sem.bind];have O:∀n,ay S p (λ_ _ _=>False) π (nilAhead (n+1) (π.g+1000000) (.tuple #[]) "") (Sem.pure ()):=by intro n;unfold nilAhead typeInfo;refine .vL ?_;dsimp only[Sem.bind];have m:=I.big;rw[K]at m;rw[m];exact .stuck
   exact ay.FU (O _)
  |fG a'=>exact .pure (.value (.fG a'))
  |_=>first|exact pX|exact .pure (.value (by constructor<;>assumption))
 |binOp op t x y u j l M=>
  have H:(op=.eql\/op=.neq)->DX p t (ρ x) (ρ y):=λF=>by
   obtain a|a|⟨k,a,b⟩|⟨v,rfl,w⟩|⟨v,rfl,w⟩:=M F
   .exact .bool a
   .exact .string a
   .exact .int k a b
   .exact .left (by rw[h.const];exact w)
   .exact .right (by rw[h.const];exact w)
  by_cases D:ρ x=.tuple #[]\/ρ y=.tuple #[]
  .exact Cz (Nl _ _ _ _ _ _ D)
  exact Cz (ay.bind' (Nk x y (h.rel x j) (h.rel y l) ⟨λe=>D (.inl e),λe=>D (.inr e)⟩ H) λG _ _ C _=>Uq (by rw[K,C.g]) ((h.rel x j).mono C) ((h.rel y l).mono C) ⟨λe=>D (.inl e),λe=>D (.inr e)⟩ H)
 |unOp op t x j=>exact Cz (Ur (h.rel x j))
 |convert s d x j r=>exact Cz (Nz r (h.rel x j))
 |makeSlice t x y A j l=>exact Cz (FY A (h.rel x j) (h.rel y l))
 |slice t x a b c j q m r=>exact Cz (Nr t (h.rel x j) (eval? h q) (eval? h m) (eval? h r))
 |fieldAddr t x f j=>exact Cz (Np t (h.rel x j) f)
 |field t x f j=>exact Cz (Uw t (h.rel x j) f)
 |indexAddr t x y j l=>exact Cz (Nq t (h.rel x j) (h.rel y l))
 |index t x y j l=>exact Cz (Uv t (h.rel x j) (h.rel y l))
 |extract x i j=>exact Cz (Ns (h.rel x j) i)
 |call c r=>
  dsimp only;cases r with
  |value f e N q=>unfold resolve;rw[e];dsimp only;rw[(h.func f).1,(h.func f).2];exact Jd I N ((bq.nil.append (KT h q)).append .nil)
  |builtin b e m q=>
   unfold resolve;rw[e];have E:=KT h q;cases m with
   |append z=>exact Cz (Qa z _ E)
   |len z=>exact Cz (aaL _ E z)
   |copy=>exact Cz (XP _ E)
   |str=>exact Cz (Ah _ _ E)
inductive q9{α:Type}(R:α->α->Prop):List α->List α->Prop
 |nil:q9 R [] []
 |cons {a a':α} {l l':List α}:R a a'->q9 R l l'->q9 R (a::l) (a'::l')
theorem q9.mono{R R':α->α->Prop}(h:∀a a',R a a'->R' a a'){l l':List α}(x:q9 R l l'):q9 R' l l':=by
 induction x with
 |nil=>exact .nil
 |cons a _ i=>exact .cons (h _ _ a) i
theorem q9.append{R:α->α->Prop}{l l' m b:List α}(x:q9 R l l')(y:q9 R m b):q9 R (l++m) (l'++b):=by
 induction x with
 |nil=>exact y
 |cons a _ i=>exact .cons a i
structure ZX(S:aD)(π:Map)(e e':PanicEntry):Prop where
 v:aL S π e.v e'.v
 r:e'.recovered=e.recovered
 g:e'.goexit=e.goexit
inductive XQ(S:aD)(π:Map):FrameMode->FrameMode->Prop
 |run:XQ S π .run .run
 |returning:XQ S π .returning .returning
 |panicking {c c':List PanicEntry}:q9 (ZX S π) c c'->XQ S π (.panicking c) (.panicking c')
inductive eF(S:aD)(p:Program):Code->Prop
 |skip:eF S p .skip
 |ret:eF S p .ret
 |label (l:Nat):eF S p (.label l)
 |exit (l:Nat):eF S p (.exit l)
 |refuse (s:String):eF S p (.refuse s)
 |region (id:Nat) (ops:Array Oper) (d:Bool):(∀o∈ops,gF S p o.op)->eF S p (.region id ops d)
 |seq {a b:Code}:eF S p a->eF S p b->eF S p (.seq a b)
 |cond {c:Operand} {a b:Code}:bE S c->eF S p a->eF S p b->eF S p (.cond c a b)
 |block (id:Nat) {a:Code}:eF S p a->eF S p (.block id a)
 |loop {a:Code}:eF S p a->eF S p (.loop a)
 |scope {a:Code}:eF S p a->eF S p (.scope a)
inductive jl(S:aD)(p:Program):Item->Prop
 |code {c:Code}:eF S p c->jl S p (.code c)
 |inBlock (id:Nat):jl S p (.inBlock id)
 |inLoop {c:Code}:eF S p c->jl S p (.inLoop c)
 |inScope {c:Code}:eF S p c->jl S p (.inScope c)
 |inRegion (ops:Array Oper) (l:List Nat):(∀o∈ops,gF S p o.op)->jl S p (.inRegion ops l)
structure fH(S:aD)(p:Program):Prop where
 fn:∀f,S f->∃fn c,p.funcs[f]? =some fn/\fn.body=some c/\(fn.name== "runtime.NumGoroutine")=false/\eF S p c
 big:p.info? (p.globals.size+1000000)=none
theorem fH.D8{S:aD}(h:fH S p):Jc p S:=⟨λf e=>let⟨n,c,a,b,d,_⟩:=h.fn f e;⟨n,c,a,b,d⟩,h.big⟩
structure ng(S:aD)(p:Program)(π:Map)(K K':List Item)(fr fr':Frame):Prop where
 fn:fr'.fn=fr.fn
 inF:∃fn,p.funcs[fr.fn]? =some fn
 tmps:bq S π fr.tmps fr'.tmps
 todo:∃l,fr.todo=l++K/\fr'.todo=l++K'/\∀i∈l,jl S p i
 defers:fr.defers=[]/\fr'.defers=[]
 mode:XQ S π fr.mode fr'.mode
 kind:fr'.kind=fr.kind
 kinds:fr.kind=.normal
 round:fr.roundOf=none
 round':fr'.roundOf=none
def Waits(K K':List Item)(fr fr':Frame):Prop:=(K=[]/\K'=[])\/∃i l,fr.todo=i::l++K/\fr'.todo=i::l++K'
theorem Waits.of(h:Waits K K' fr fr')(e:D.todo=fr.todo)(c:n.todo=fr'.todo):Waits K K' D n:=h.imp id λ⟨i,l,a,b⟩=>⟨i,l,e.trans a,c.trans b⟩
theorem ZX.mono{S:aD}(h:π.le eH){e a:PanicEntry}(x:ZX S π e a):ZX S eH e a:=⟨x.v.mono h,x.r,x.g⟩
theorem XQ.mono{S:aD}(h:π.le eH){e a:FrameMode}(x:XQ S π e a):XQ S eH e a:=by
 cases x with
 |run=>exact .run
 |returning=>exact .returning
 |panicking c=>exact .panicking (c.mono λ_ _ y=>y.mono h)
theorem ng.mono{S:aD}(h:π.le eH)(x:ng S p π K K' fr fr'):ng S p eH K K' fr fr':=⟨x.fn,x.inF,x.tmps.mono h,x.todo,x.defers,x.mode.mono h,x.kind,x.kinds,x.round,x.round'⟩
theorem ng.eval{S:aD}(x:ng S p π K K' fr fr'):Cy S π fr.eval fr'.eval:=by
 refine⟨λo a=>?_,λv=>rfl,λf=>⟨rfl,rfl⟩⟩;cases o with
 |tmp t=>exact x.tmps.getD t
 |const v=>exact Flat.rel a
 |global g=>exact a.elim
 |func f=>exact .func a rfl (λi h=>by simp at h) rfl (λi h=>by simp at h)
theorem ng.enter{S:aD}{p:Program}{π:Map}(B:fH S p){f:Nat}(j:S f){a a':Array aA}(d:bq S π a a'):ng S p π [] [] (Frame.enter p f a .normal) (Frame.enter p f a' .normal):=by
 obtain⟨n,c,h,b,k,g⟩:=B.fn f j;refine⟨rfl,⟨n,h⟩,?_,⟨[.code c],?_,?_,?_⟩,⟨rfl,rfl⟩,.run,rfl,rfl,rfl,rfl⟩
 .simp only[Frame.enter,d.1];exact d.append (bq.replicate _ .undef)
 .simp[Frame.enter,h,b]
 .simp[Frame.enter,h,b]
 .intro i e;rw[List.mem_singleton]at e;subst e;exact .code g
theorem ng.finish{S:aD}(x:ng S p π K K' fr fr')(hw:Waits K K' fr fr'){v:aA}(R:aL S π v v'):ng S p π K K' (fr.finish v) (fr'.finish v'):=by
 obtain⟨V,J,L,t,I,H,A⟩:=fr;obtain⟨M,B,C,m,z,y,u⟩:=fr';have W:=x;obtain⟨D,b,a,⟨l,E,q,c⟩,d,f,F,g,n,o⟩:=x;simp only at D b a E q d f F g n o;subst D E q F n o;cases l with
 |nil=>
  have N:K=[]/\K'=[]:=by
   obtain h|⟨i,l,e,U⟩:=hw
   .exact h
   .exfalso;have:=congrArg List.length e;simp at this;omega
  obtain⟨rfl,rfl⟩:=N;exact⟨rfl,b,a,⟨[],rfl,rfl,c⟩,d,f,rfl,g,rfl,rfl⟩
 |cons T k=>
  have P:∀i∈k,jl S p i:=λi O=>c i (List.mem_cons_of_mem _ O);cases c T (List.mem_cons_self ..)with
  |inRegion r l Q=>
   cases l with
   |nil=>exact⟨rfl,b,a,⟨aT r []::k,rfl,rfl,c⟩,d,f,rfl,g,rfl,rfl⟩
   |cons i s=>
    refine⟨rfl,b,?_,⟨aT r s::k,rfl,rfl,?_⟩,d,f,rfl,g,rfl,rfl⟩
    .simp only[Frame.finish,List.cons_append]
     split
     .exact a.set _ R
     .exact a
    .intro j w;obtain rfl|w:=lS.1 w
     .exact .inRegion _ _ Q
     .exact P j w
  |code G=>exact⟨rfl,b,a,⟨_::k,rfl,rfl,c⟩,d,f,rfl,g,rfl,rfl⟩
  |inBlock X=>exact⟨rfl,b,a,⟨_::k,rfl,rfl,c⟩,d,f,rfl,g,rfl,rfl⟩
  |inLoop G=>exact⟨rfl,b,a,⟨_::k,rfl,rfl,c⟩,d,f,rfl,g,rfl,rfl⟩
  |inScope G=>exact⟨rfl,b,a,⟨_::k,rfl,rfl,c⟩,d,f,rfl,g,rfl,rfl⟩
theorem ng.D9{S:aD}(x:ng S p π K K' fr fr')(hw:Waits K K' fr fr')(v v':aA):Waits K K' (fr.finish v) (fr'.finish v'):=by
 obtain h|⟨i,l,e,u⟩:=hw
 .exact .inl h
 .right;obtain⟨m,w,y,z⟩:=x.todo;have A:m=i::l:=List.append_cancel_right (w.symm.trans e);subst A;have g:∀(f:Frame)(K:List Item)(v:aA),f.todo=i::l++K->∃j,(f.finish v).todo=j::l++K/\j=(match i with|.inRegion o (_::r)=>.inRegion o r|i=>i):=by
   intro f K v k;obtain⟨B,t,s,d,q,n,c⟩:=f;simp only at k;subst k;cases z i (List.mem_cons_self ..)with
   |inRegion o l C=>
    cases l with
    |nil=>exact⟨_,rfl,rfl⟩
    |cons=>exact⟨_,rfl,rfl⟩
   |code=>exact⟨_,rfl,rfl⟩
   |inBlock=>exact⟨_,rfl,rfl⟩
   |inLoop=>exact⟨_,rfl,rfl⟩
   |inScope=>exact⟨_,rfl,rfl⟩
  obtain⟨j,a,b⟩:=g fr K v e;obtain⟨D,a',b'⟩:=g fr' K' v' u;exact⟨j,l,a,by rw[a',b',b]⟩
theorem ng.raise{S:aD}(x:ng S p π K K' fr fr'){c c':List PanicEntry}(l:q9 (ZX S π) c c'):ng S p π K K' (fr.raise c) (fr'.raise c'):=by
 obtain⟨C,z,A,b,y,w,n⟩:=fr;obtain⟨B,t,q,e,o,m,r⟩:=fr';obtain⟨s,f,g,i,j,u,v,k,h,a⟩:=x;simp only at s f g i j u v k h a;subst s v h a;cases u with
 |run=>exact⟨rfl,f,g,i,j,.panicking l,rfl,k,rfl,rfl⟩
 |returning=>exact⟨rfl,f,g,i,j,.panicking l,rfl,k,rfl,rfl⟩
 |panicking d=>exact⟨rfl,f,g,i,j,.panicking (l.append d),rfl,k,rfl,rfl⟩
theorem qc(fr:Frame)(c:List PanicEntry):(fr.raise c).todo=fr.todo:=by
 unfold Frame.raise
 split<;>rfl
theorem F8(fr:Frame)(v:aA):(fr.finish v).mode=fr.mode:=by
 unfold Frame.finish
 split<;>rfl
theorem ru{S:aD}{t:Array aA}(h:bq S π t o)(p:Array Oper)(j:Nat):yielded p o j=yielded p t j:=by
 unfold yielded;cases((p[j]?).bind (·.dst))with
 |none=>rfl
 |some d=>
  simp only[Option.bind_some];obtain⟨e,a⟩|⟨v,v',e,a,r⟩:=h.get? d
  .rw[e,a]
  .rw[e,a];cases r with
   |junk c=>
    cases v' with
    |bool b=>exact(show False from c).elim
    |_=>rfl
   |_=>rfl
theorem NA{S:aD}(f:Nat):∀(k:List Item)(k':List Item),(∀i∈k,jl S p i)->exitTo f k=some k'->∀i∈k',jl S p i:=by
 intro k
 induction k with
 |nil=>intro k' _ h;simp[exitTo]at h
 |cons t k b=>
  intro k' d h;have a:∀i∈k,jl S p i:=λi c=>d i (List.mem_cons_of_mem _ c);unfold exitTo at h
  split at h
  .rename_i g j e;cases e
   split at h
   .cases h;exact a
   .exact b _ a h
  .rename_i e;cases e;exact b _ a h
  .rename_i e;cases e
theorem tQ(i:Nat)(K:List Item):∀l:List Item,exitTo i (l++K)=(match exitTo i l with|some m=>some (m++K)|none=>exitTo i K):=by
 intro l
 induction l with
 |nil=>rfl
 |cons t l h=>
  cases t with
  |inBlock d=>
   simp only[List.cons_append,exitTo]
   split
   .rfl
   .exact h
  |_=>simp only[List.cons_append,exitTo];exact h
def tp(w:au)(t:Nat->Question->Nat)(d:Nat):au:={w with tape:=t,drawn:=d}
def XR(t:Nat->Question->Nat)(d:Nat):Result α->Result α
 |.ok a w=>.ok a (tp w t d)
 |.halt h w=>.halt h (tp w t d)
theorem loc{S:aD}{s:Sem α}(h:ay S p A π s G):∀(w w':au),bI S π w w'->¬Ab (s.run p w)->∀t d,(∀i q,w.drawn+i<(fin (s.run p w)).drawn->w.tape (w.drawn+i) q=t (d+i) q)->
 s.run p (tp w t d)=XR t (d+((fin (s.run p w)).drawn -w.drawn)) (s.run p w):=by
 induction h with
 |pure a=>intro w w' j f t d B;simp[Sem.run,XR,fin]
 |@load π a a' k k' F _ C=>
  intro w w' j f t d B;obtain⟨e,_,_⟩|⟨v,v',e,M,X,J⟩:=vN j F
  .have:=(zk j F p (Mode.plain== .atomic) ak).1;exact(f (by simp only[Sem.run,e,this];trivial)).elim
  .have r1:(Sem.load .plain a k).run p w=(k v).run p w:=by simp[Sem.run,e]
   have E:(Sem.load .plain a k).run p (tp w t d)=(k v).run p (tp w t d):=by have:(tp w t d).cell? a=some v:=e;simp[Sem.run,this]
   rw[r1]at f B;rw[r1,E];exact C v v' X J w w' j f t d B
 |@store π a a' v v' k k' F X _ C=>
  intro w w' j f t d B;have U:∀u:au,(∀x,v≠ .agg x)->(∀x,v≠ .tuple x)->(Sem.store .plain a v k).run p u=(match u.cell? a with
   |some _=>if u.frozen? a then .halt (.unsupported (.unsafePointer "a write to bytes that a string shares")) u else k.run p (u.setCell a v)
   |none=>match u.farStore p a v (Mode.plain== .atomic)with
    |.ok (w,_)=>k.run p w
    |.error h=>.halt h u):=by
   intro u h1 h2;cases v<;>first|rfl|exact(h1 _ rfl).elim|exact(h2 _ rfl).elim
  have Y:∀x,v≠ .agg x:=by intro x e;subst e;exact f (by simp only[Sem.run];trivial)
  have Z:∀x,v≠ .tuple x:=by intro x e;subst e;exact f (by simp only[Sem.run];trivial)
  obtain⟨e,_,_⟩|⟨u,H,e,M,hu,_⟩:=vN j F
  .have:=(zk j F p (Mode.plain== .atomic) v).2;exact(f (by rw[U w Y Z,e];simp only[this];trivial)).elim
  .cases I:w.frozen? a with
   |true=>exact(f (by rw[U w Y Z,e];simp only[I,if_true];intro g B;cases B)).elim
   |false=>
    have r1:(Sem.store .plain a v k).run p w=k.run p (w.setCell a v):=by rw[U w Y Z,e];simp[I]
    have E:(Sem.store .plain a v k).run p (tp w t d)=k.run p (tp (w.setCell a v) t d):=by have h1:(tp w t d).cell? a=some u:=e;have h2:(tp w t d).frozen? a=false:=I;rw[U _ Y Z,h1];simp only[h2,gU,if_false];rfl
    rw[r1]at f B;rw[r1,E];obtain y|⟨y,z⟩:=F.block.or
    .obtain⟨o,o',V,eo',T⟩:=j.own _ _ y;cases T with
     |map n hz hm=>simp[World.cell?,V]at e
     |number l hl=>simp[World.cell?,V]at e
     |cells P z W=>
      rename_i c c';have Q:a.spot=none:=by
       cases hs:a.spot with
       |none=>rfl
       |some k=>simp[World.cell?,V,hs]at e
      have R:a'.spot=none:=F.spot.trans Q;have N:∀b,(w.setCell a v).heap[b]? =if b=a.block then some (.cells (c.setIfInBounds a.off v) P z)else w.heap[b]? :=λb=>by
       rw[heap_setCell];split
       .rename_i D;subst D;simp[V,Q]
       .rfl
      have O:∀b,(w'.setCell a' v').heap[b]? =if b=a'.block then some (.cells (c'.setIfInBounds a'.off v') P z)else w'.heap[b]? :=λb=>by
       rw[heap_setCell];split
       .rename_i D;subst D;simp[eo',R]
       .rfl
      have ht:=j.turn (v:=w.setCell a v) (v':=w'.setCell a' v') y (.cells P z (W.set a.off X)) N (by rw[<-F.off];exact O) Y6 rfl rfl;exact C _ _ ht f t d B
    .have:=Cu j y rfl e;rw[this]at I;cases I
 |@new π o o' k k' J _ C=>intro w w' j f t d B;have le:=π.vO w.heap.size w'.heap.size;exact C _ _ _ le (.inr ⟨rfl,rfl⟩) j.high {w with heap:=w.heap.push o} {w' with heap:=w'.heap.push o'} (j.push J) f t d B
 |@shape π r r' k k' K _ C=>intro w w' j f t d B;exact C _ w w' j f t d B
 |@freeze π a a' n k k' D J _ C=>
  intro w w' j f t d B;obtain⟨d1,t1,o1,_,s1⟩:=kS w a n;obtain⟨d2,t2,o2,_,s2⟩:=kS w' a' n;have q:tp (w.freeze a n) t d=(tp w t d).freeze a n:=by
   unfold World.freeze tp
   split<;>rfl
  have r1:(Sem.freeze a n k).run p w=k.run p (w.freeze a n):=rfl;have E:(Sem.freeze a n k).run p (tp w t d)=k.run p (tp (w.freeze a n) t d):=by rw[q];rfl
  rw[r1]at f B;rw[r1,E];have L:bI S π (w.freeze a n) (w'.freeze a' n):=by
   by_cases f:n=0
   .subst f;exact j
   obtain⟨o,o',e,M,T⟩:=j.own _ _ D;have N:∀b,(w.freeze a n).heap[b]? =if b=a.block then some (SV a.off n o)else w.heap[b]? :=λb=>by
    rw[kR w a f];split
    .rename_i h;subst h;rw[e];rfl
    .rfl
   have O:∀b,(w'.freeze a' n).heap[b]? =if b=a'.block then some (SV a.off n o')else w'.heap[b]? :=λb=>by
    rw[kR w' a' f];split
    .rename_i h;subst h;rw[M,J];rfl
    .rfl
   exact j.turn D (T.SV a.off n) N O s1 o1 o2
  have:=C _ _ L f t d (by rw[d1,t1];exact B);rw[d1]at this;exact this
 |@getObj π r r' k k' K _ C=>
  intro w w' j f t d B;obtain y|⟨y,_⟩:=K.or
  .obtain⟨o,o',e,M,T⟩:=j.own _ _ y;cases T with
   |cells P z W=>exact(f Z5).elim
   |@map x x' n hz hm=>
    have r1:(Sem.getObj r k).run p w=(k (.map x n)).run p w:=by simp[Sem.run,e]
    have E:(Sem.getObj r k).run p (tp w t d)=(k (.map x n)).run p (tp w t d):=by have:(tp w t d).heap[r]? =some (.map x n):=e;simp[Sem.run,this]
    rw[r1]at f B;rw[r1,E];exact C _ _ (.map n hz hm) w w' j f t d B
   |@number x x' l hl=>
    have r1:(Sem.getObj r k).run p w=(k (.number x l)).run p w:=by simp[Sem.run,e]
    have E:(Sem.getObj r k).run p (tp w t d)=(k (.number x l)).run p (tp w t d):=by have:(tp w t d).heap[r]? =some (.number x l):=e;simp[Sem.run,this]
    rw[r1]at f B;rw[r1,E];exact C _ _ (.number l hl) w w' j f t d B
  .obtain⟨c,c',P,z,z',e,M,W,_⟩:=j.sh _ y;exact(f Z5).elim
 |@setObj π r r' o o' k k' K J hno _ C=>
  intro w w' j f t d B;obtain⟨x,x',e,M,rx⟩:=j.own _ _ K;have l1:=(j.lt K).1;have l2:=(j.lt K).2;have N:∀b,({w with heap:=w.heap.setIfInBounds r o}:au).heap[b]? =if b=r then some o else w.heap[b]? :=λb=>by
   simp only[Array.getElem?_setIfInBounds];by_cases D:r=b
   .subst D;simp[l1]
   .rw[av D,av (Ne.symm D)]
  have O:∀b,({w' with heap:=w'.heap.setIfInBounds r' o'}:au).heap[b]? =if b=r' then some o' else w'.heap[b]? :=λb=>by
   simp only[Array.getElem?_setIfInBounds];by_cases D:r'=b
   .subst D;simp[l2]
   .rw[av D,av (Ne.symm D)]
  cases rx with
  |cells P z W=>exact(f Z5).elim
  |@map y y' m hz hm=>
   have r1:(Sem.setObj r o k).run p w=k.run p {w with heap:=w.heap.setIfInBounds r o}:=by simp[Sem.run,e]
   have E:(Sem.setObj r o k).run p (tp w t d)=k.run p (tp {w with heap:=w.heap.setIfInBounds r o} t d):=by have:(tp w t d).heap[r]? =some (.map y m):=e;simp only[Sem.run,this];rfl
   rw[r1]at f B;rw[r1,E];exact C _ {w' with heap:=w'.heap.setIfInBounds r' o'} (j.turn K J N O X0 rfl rfl) f t d B
  |@number y y' l hl=>
   have r1:(Sem.setObj r o k).run p w=k.run p {w with heap:=w.heap.setIfInBounds r o}:=by simp[Sem.run,e]
   have E:(Sem.setObj r o k).run p (tp w t d)=k.run p (tp {w with heap:=w.heap.setIfInBounds r o} t d):=by have:(tp w t d).heap[r]? =some (.number y l):=e;simp only[Sem.run,this];rfl
   rw[r1]at f B;rw[r1,E];exact C _ {w' with heap:=w'.heap.setIfInBounds r' o'} (j.turn K J N O X0 rfl rfl) f t d B
 |@choose π q k k' _ C=>
  intro w w' j f t d B;by_cases I:q.forced=true
  .have r1:∀u,(Sem.choose q k).run p u=(k 0).run p u:=λu=>by simp[Sem.run,I]
   rw[r1]at f B;rw[r1,r1];exact C _ w w' j f t d B
  .have r1:∀u:au,(Sem.choose q k).run p u=(k (q.cut (u.tape u.drawn q))).run p {u with drawn:=u.drawn+1}:=λu=>by simp[Sem.run,I]
   rw[r1]at f B;rw[r1,r1];have m1:=sw p (k (q.cut (w.tape w.drawn q))) {w with drawn:=w.drawn+1};have hq:w.tape w.drawn q=t d q:=B 0 q (by simp only at m1;omega);have L:bI S π {w with drawn:=w.drawn+1} w':=⟨j.own,j.sh,j.fn,j.inj,j.apart,j.high,j.os⟩;have:=C (q.cut (w.tape w.drawn q)) {w with drawn:=w.drawn+1} w' L f t (d+1) (λi q' hi=>by have:=B (1+i) q' (by simp only at hi;omega);rw[<-Nat.add_assoc,<-Nat.add_assoc]at this;exact this)
   have e:(tp w t d).tape (tp w t d).drawn q=w.tape w.drawn q:=hq.symm;rw[e];refine this.trans ?_
   congr 1
   simp only at m1 ⊢;omega
 |@program π k k' _ C=>intro w w' j f t d B;exact C _ _ j f t d B
 |@vL π k k' _ C=>intro w w' j f t d B;exact C _ _ j f t d B
 |@dead π s G h=>intro w w' j f t d B;exact(f (h w)).elim
 |@env π k k' _ C=>intro w w' j f t d B;exact C (.strings w.os.env) w w' j f t d B
 |@room π k k' _ C=>intro w w' j f t d B;exact C w w' j f t d B
 |panic X=>intro w w' j f t d B;simp[Sem.run,XR,fin]
 |stuck=>intro w w' j f t d B;exact(f trivial).elim
 |refused h=>intro w w' j f t d B;exact(f h).elim
def gr(fr:Frame)(cs:List Frame):dN:={frame:=fr,callers:=cs,status:=.running,dying:=none}
inductive Tail(S:aD)(p:Program)(π:Map)(K K':List Item):List Frame->List Frame->Prop
 |one {f f':Frame}:ng S p π K K' f f'->Waits K K' f f'->Tail S p π K K' [f] [f']
 |cons {f f':Frame} {l l':List Frame}:ng S p π [] [] f f'->Tail S p π K K' l l'->Tail S p π K K' (f::l) (f'::l')
theorem Tail.mono{S:aD}(h:π.le eH)(x:Tail S p π K K' l l'):Tail S p eH K K' l l':=by
 induction x with
 |one a b=>exact .one (a.mono h) b
 |cons a _ i=>exact .cons (a.mono h) i
inductive Rest(S:aD)(p:Program)(π:Map)(K K':List Item):List Item->List Item->List Frame->List Frame->Prop
 |nil:Rest S p π K K' K K' [] []
 |cons {l l':List Frame}:Tail S p π K K' l l'->Rest S p π K K' [] [] l l'
theorem Rest.mono{S:aD}{k k':List Item}(h:π.le eH)(x:Rest S p π K K' k k' l l'):Rest S p eH K K' k k' l l':=by
 cases x with
 |nil=>exact .nil
 |cons a=>exact .cons (a.mono h)
def Je(S:aD)(p:Program)(π:Map)(K K':List Item)(fr fr':Frame)(seg E:List Frame):Prop:=∃k k',ng S p π k k' fr fr'/\Rest S p π K K' k k' seg E/\(fr.mode≠ .run->Waits k k' fr fr')
def qd(S:aD)(p:Program)(π:Map)(K K':List Item)(w w':au)(cs cs':List Frame)(r r':GStep)(rt:(Nat->Question->Nat)->Nat->GStep):Prop:=
 (∃o u es,r=.ended o u es)\/
 ∃bg D n Jf KU w₁ w₁' es es',r=.go (gr D (Jf++cs)) w₁ es/\r'=.go (gr n (KU++cs')) w₁' es'/\Je S p bg K K' D n Jf KU/\Turns π bg w' w₁'/\bI S bg w₁ w₁'/\(∀e∈es',vM bg e)/\
  w₁.drawn=w₁'.drawn/\w.drawn<=w₁.drawn/\
  (∀t d,(∀i q,w.drawn+i<w₁.drawn->w.tape (w.drawn+i) q=t (d+i) q)->∃es₂,rt t d=.go (gr D (Jf++cs)) (tp w₁ t (d+(w₁.drawn-w.drawn))) es₂)
theorem qd.quiet{S:aD}{r r':GStep}{b:(Nat->Question->Nat)->Nat->GStep}{s a:List Frame}(j:bI S π w w')(g:w'.drawn=w.drawn)(h:Je S p π K K' D n s a)(e:r=.go (gr D (s++cs)) w #[])(c:r'=.go (gr n (a++cs')) w' #[])
 (f:∀t d,b t d=.go (gr D (s++cs)) (tp w t d) #[]):qd S p π K K' w w' cs cs' r r' b:=
 .inr ⟨π,D,n,s,a,w,w',#[],#[],e,c,h,.refl _ _,j,λe i=>by simp at i,g.symm,aS _,λt d _=>⟨#[],by rw[f];simp⟩⟩
theorem jr(p:Program)(f:FuncId)(es:Array Event):∀e∈seen p f es,e∈es:=by
 unfold seen;refine Array.foldl_induction (motive:=λ_(x:Bool×Array Event)=>∀e∈x.2,e∈es) (by intro e h;simp at h) (λi x a=>?_);obtain⟨q,k⟩:=x;dsimp only
 split
 .exact a
 .dsimp only
  split
  .exact a
  .intro e h;obtain x|rfl:=Array.mem_push.1 h
   .exact a e x
   .exact Array.getElem_mem _
theorem qd.sem{S:aD}{p:Program}{π:Map}{K K':List Item}{w w':au}{cs cs':List Frame}{α β:Type}{A:Map->α->β->Prop}{s:Sem α}{G:Sem β}(W:bI S π w w')(Y:w'.tape=w.tape)(X:w'.drawn=w.drawn)(h:ay S p A π s G)
 (L C:au->GStep)
 (k:∀u,Ab (s.run p u)->∃o v es,L u=.ended o v es)
 (R:∀bg a b,π.le bg->A bg a b->(∀u v,s.run p u=.ok a v->∃o x es,L u=.ended o x es)\/∃D n f c,Je S p bg K K' D n f c/\(∀u v,s.run p u=.ok a v->∃es,L u=.go (gr D (f++cs)) v es)/\(∀u v,G.run p u=.ok b v->∃es,C u=.go (gr n (c++cs')) v es/\∀e∈es,e∈G.events p u #[]))
 (T:∀bg x x',π.le bg->aL S bg x x'->(∀u v,s.run p u=.halt (.panic x) v->∃o y es,L u=.ended o y es)\/∃D n f c,Je S p bg K K' D n f c/\(∀u v,s.run p u=.halt (.panic x) v->∃es,L u=.go (gr D (f++cs)) v es)/\(∀u v,G.run p u=.halt (.panic x') v->∃es,C u=.go (gr n (c++cs')) v es/\∀e∈es,e∈G.events p u #[])):
 qd S p π K K' w w' cs cs' (L w) (C w') (λt d=>L (tp w t d)):=by
 have O:Agree w w' (fin (s.run p w)).drawn (fin (G.run p w')).drawn:=λi q _ _=>by rw[Y,X]
 have m:=runs h w w' #[] W O;have H:=sw p s w;by_cases B:Ab (s.run p w)
 .exact .inl (k _ B)
 have l:=loc h w w' W B;cases r:s.run p w with
 |ok a w₁=>
  rw[r]at m l H;obtain⟨b,g,P,bg,E⟩:=m;obtain U|⟨D,n,f,c,N,F,V⟩:=R bg a b E.turns.le E.ans
  .exact .inl (U w w₁ r)
  .obtain⟨es,I⟩:=F w w₁ r;obtain⟨es',J,M⟩:=V w' g P;refine .inr ⟨bg,D,n,f,c,w₁,g,es,es',I,J,N,E.turns,E.heap,λz j=>?_,?_,H,λt d Q=>?_⟩
   .obtain x|x:=E.evs z (M z j)
    .simp at x
    .exact x
   .have:=E.drawn;omega
   .have:=l t d Q;simp only[XR,fin]at this;exact F _ _ this
 |halt x w₁=>
  rw[r]at m l H B;cases x with
  |panic v=>
   obtain⟨v',g,P,bg,E⟩:=m;obtain U|⟨D,n,f,c,N,F,V⟩:=T bg v v' E.turns.le E.ans
   .exact .inl (U w w₁ r)
   .obtain⟨es,I⟩:=F w w₁ r;obtain⟨es',J,M⟩:=V w' g P;refine .inr ⟨bg,D,n,f,c,w₁,g,es,es',I,J,N,E.turns,E.heap,λz j=>?_,?_,H,λt d Q=>?_⟩
    .obtain x|x:=E.evs z (M z j)
     .simp at x
     .exact x
    .have:=E.drawn;omega
    .have:=l t d Q;simp only[XR,fin]at this;exact F _ _ this
  |stuck s=>exact(B trivial).elim
  |unsupported u=>exact(B m).elim
  |_=>exact m.elim
structure Plain(fr:Frame):Prop where
 kind:fr.kind≠ .early
 round:fr.roundOf=none
 todo:∃ops i l k,fr.todo=aT ops (i::l)::k
theorem F9{q:List Frame}{s:Sem Next}{x:au}(h:Plain fr){v:aA}(e:s.run p u=.ok (.value v) x):stepG.apply p true fr q none s u=.go (gr (fr.finish v) q) x (seen p fr.fn (s.events p u #[])):=by
 have k:(fr.kind==CallKind.early)=false:=by simpa using h.kind
 simp[stepG.apply,e,k,GStep.after,gr]
theorem KV{q:List Frame}{s:Sem Next}{x:au}(h:Plain fr)(e:s.run p u=.ok .skip x):stepG.apply p true fr q none s u=.go (gr (fr.finish ak) q) x (seen p fr.fn (s.events p u #[])):=by
 have k:(fr.kind==CallKind.early)=false:=by simpa using h.kind
 simp[stepG.apply,e,k,GStep.after,gr]
theorem Ga{q:List Frame}{s:Sem Next}{x:au}(h:Plain fr){f:FuncId}{a:Array aA}(e:s.run p u=.ok (.enter f a) x):stepG.apply p true fr q none s u=.go (gr (Frame.enter p f a .normal) (fr::q)) x (seen p fr.fn (s.events p u #[])):=by
 have b:(fr.kind==CallKind.early)=false:=by simpa using h.kind
 obtain⟨o,i,l,k,t⟩:=h.todo;simp[stepG.apply,e,b,GStep.after,gr,t]
theorem Gb{q:List Frame}{s:Sem Next}{x:au}(h:Plain fr){v:aA}(e:s.run p u=.halt (.panic v) x):stepG.apply p true fr q none s u=.go (gr (fr.raise [{v,recovered:=false}]) q) x (seen p fr.fn (s.events p u #[])):=by
 have k:(fr.kind==CallKind.early)=false:=by simpa using h.kind
 simp[stepG.apply,e,k,GStep.after,gr]
theorem Ux{q:List Frame}{s:Sem Next}(h:Plain fr)(e:Ab (s.run p u)):∃o v es,stepG.apply p true fr q none s u=.ended o v es:=by
 have k:(fr.kind==CallKind.early)=false:=by simpa using h.kind
 cases r:s.run p u with
 |ok a v=>rw[r]at e;exact e.elim
 |halt z v=>
  rw[r]at e;cases z with
  |stuck m=>exact⟨_,_,_,by simp only[stepG.apply,Sem.runT_eq,r,if_true,GStep.after];rfl⟩
  |unsupported m=>
   have e:∀g,m≠ .initOrder g:=e;cases m with
   |initOrder g=>exact(e g rfl).elim
   |_=>exact⟨_,_,_,by simp only[stepG.apply,Sem.runT_eq,r,if_true,GStep.after];rfl⟩
  |_=>exact e.elim
theorem Jg(q:Question)(h:q.forced=false)(u:au):(Go.choose q).run p u=.ok (q.cut (u.tape u.drawn q)) {u with drawn:=u.drawn+1}:=by simp[Go.choose,Sem.run,h]
def sent:List Item:=[.code (.refuse "")]
def AtEnd(K:List Item)(fr:Frame)(seg:List Frame):Prop:=seg=[]/\((fr.defers=[]/\fr.mode≠ .run)\/(fr.mode=.run/\K=sent/\fr.todo=K))
def XT(K K':List Item):Prop:=(K=[]/\K'=[])\/K=sent
theorem Qb{S:aD}(hB:fH S p)(hp:p.globals.size=π.g)(hK:XT K K')(I:bI S π w w')(ht:w'.tape=w.tape)(M:w'.drawn=w.drawn)(h:Je S p π K K' fr fr' seg E)(hm:fr.mode=.run)(hne:¬AtEnd K fr seg)(O mn':Bool):
 qd S p π K K' w w' cs cs' (stepG p O (gr fr (seg++cs)) w) (stepG p mn' (gr fr' (E++cs')) w') (λt d=>stepG p O (gr fr (seg++cs)) (tp w t d)):=by
 obtain⟨k,k',hf,H,agE⟩:=h;have xJ:=hf.eval;obtain⟨fn,G,todo,D,mode,kind,round⟩:=fr;obtain⟨A,F,todo',B,agF,n,round'⟩:=fr';have Y:=hf;obtain⟨h1,h2,h3,⟨W,h4,h4',h5⟩,h6,h7,h8,h9,h10,h11⟩:=hf;simp only at h1 h2 h3 h4 h4' h6 h7 h8 h9 h10 h11 hm;subst h1 h4 h4' h8 h10 h11 hm;cases h7;have R:∀(l:List Item),(∀i∈l,jl S p i)->Je S p π K K' ⟨A,G,l++k,D,.run,n,none⟩ ⟨A,F,l++k',B,.run,n,none⟩ seg E:=λl L=>⟨k,k',⟨rfl,h2,h3,⟨l,rfl,rfl,L⟩,h6,.run,rfl,h9,rfl,rfl⟩,H,λh=>(h rfl).elim⟩
 have rt:∀(l:List Item),(∀i∈l,jl S p i)->(l≠[]\/(k=[]/\k'=[]))->Je S p π K K' ⟨A,G,l++k,D,.returning,n,none⟩ ⟨A,F,l++k',B,.returning,n,none⟩ seg E:=
  λl L hn=>⟨k,k',⟨rfl,h2,h3,⟨l,rfl,rfl,L⟩,h6,.returning,rfl,h9,rfl,rfl⟩,H,λ_=>by
   obtain hn|hn:=hn
   .cases l with
    |nil=>exact(hn rfl).elim
    |cons i l=>exact .inr ⟨i,l,rfl,rfl⟩
   .exact .inl hn⟩
 cases W with
 |nil=>
  have hkk:k=[]/\k'=[]:=by
   cases H with
   |cons _=>exact⟨rfl,rfl⟩
   |nil=>
    obtain hK|hK:=hK
    .exact hK
    .exact(hne ⟨rfl,.inr ⟨rfl,hK,rfl⟩⟩).elim
  obtain⟨rfl,rfl⟩:=hkk;exact .quiet I M (rt [] X0 (.inr ⟨rfl,rfl⟩)) rfl rfl (λ_ _=>rfl)
 |cons it r=>
  have P:∀i∈r,jl S p i:=λi hi=>h5 i (List.mem_cons_of_mem _ hi);have cons:∀{it:Item}{k:List Item},jl S p it->(∀i∈k,jl S p i)->∀i∈it::k,jl S p i:=λh1 h2 i hi=>by
   obtain rfl|hi:=lS.1 hi
   .exact h1
   .exact h2 i hi
  cases h5 it (List.mem_cons_self ..)with
  |inBlock N=>exact .quiet I M (R r P) rfl rfl (λ_ _=>rfl)
  |inScope hc=>exact .quiet I M (R r P) rfl rfl (λ_ _=>rfl)
  |inLoop hc=>exact .quiet I M (R (.code _:: .inLoop _::r) (cons (.code hc) (cons (.inLoop hc) P))) rfl rfl (λ_ _=>rfl)
  |code hc=>
   cases hc with
   |skip=>exact .quiet I M (R r P) rfl rfl (λ_ _=>rfl)
   |label l=>exact .quiet I M (R r P) rfl rfl (λ_ _=>rfl)
   |ret=>exact .quiet I M (rt (.code .ret::r) h5 (.inl X0)) rfl rfl (λ_ _=>rfl)
   |seq T hb=>exact .quiet I M (R (.code _:: .code _::r) (cons (.code T) (cons (.code hb) P))) rfl rfl (λ_ _=>rfl)
   |block N T=>exact .quiet I M (R (.code _:: .inBlock N::r) (cons (.code T) (cons (.inBlock N) P))) rfl rfl (λ_ _=>rfl)
   |loop T=>exact .quiet I M (R (.code _:: .inLoop _::r) (cons (.code T) (cons (.inLoop T) P))) rfl rfl (λ_ _=>rfl)
   |scope T=>exact .quiet I M (R (.code _:: .inScope _::r) (cons (.code T) (cons (.inScope T) P))) rfl rfl (λ_ _=>rfl)
   |refuse s=>exact .inl ⟨_,_,_,rfl⟩
   |exit N=>
    have exk:exitTo N k=none:=by
     cases H with
     |cons _=>rfl
     |nil=>
      obtain⟨rfl,_⟩|rfl:=hK
      .rfl
      .rfl
    cases he:exitTo N r with
    |none=>
     have he1:exitTo N (r++k)=none:=by rw[tQ,he];exact exk
     left;simp only[stepG,gr,stepG.exec,List.cons_append,he1,Option.elim_none];exact⟨_,_,_,rfl⟩
    |some m=>
     have he1:∀k,exitTo N (r++k)=some (m++k):=λk=>by rw[tQ,he]
     refine .quiet I M (R m (NA N r m P he)) ?_ ?_ (λt d=>?_)<;>(simp only[stepG,gr,stepG.exec,List.cons_append,he1,Option.elim_some])
   |@cond c a b ho T hb=>
    have hv:=xJ.rel c ho;have step:∀(O:Bool)(t:Array aA)(l:List Item)(J:List Deferred)(q:List Frame)(u:au)(x:Bool),(Frame.eval ⟨A,t,.code (.cond c a b)::l,J,.run,n,none⟩ c)=.bool x->
     stepG p O (gr ⟨A,t,.code (.cond c a b)::l,J,.run,n,none⟩ q) u=.go (gr ⟨A,t,.code (if x then a else b)::l,J,.run,n,none⟩ q) u #[]:=by
     intro O t l J q u x hx;simp only[stepG,gr,stepG.exec,hx]
    simp only[List.cons_append]at hv ⊢;generalize hx:(Frame.eval ⟨A,G,.code (.cond c a b)::(r++k),D,.run,n,none⟩ c)=x at hv;generalize SX:(Frame.eval ⟨A,F,.code (.cond c a b)::(r++k'),B,.run,n,none⟩ c)=x' at hv;cases hv with
    |bool x=>refine .quiet I M (R (.code (if x then a else b)::r) (cons (.code (by cases x;exact hb;exact T)) P)) (step _ _ _ _ _ _ _ hx) (step _ _ _ _ _ _ _ SX) (λt d=>step _ _ _ _ _ _ _ hx)
    |_=>left;simp only[stepG,gr,stepG.exec,hx];exact⟨_,_,_,rfl⟩
   |region N z dr ho=>
    cases dr with
    |false=>exact .quiet I M (R (aT z _::r) (cons (.inRegion z _ ho) P)) rfl rfl (λ_ _=>rfl)
    |true=>
     have step:∀(O:Bool)(t:Array aA)(l:List Item)(J:List Deferred)(q:List Frame)(u:au),
      stepG p O (gr ⟨A,t,.code (.region N z true)::l,J,.run,n,none⟩ q) u=.go (gr ⟨A,t,aT z (Region.schedule (p.follows .mixedOrders) z (u.tape u.drawn (.order A N)))::l,J,.run,n,none⟩ q) {u with drawn:=u.drawn+1} #[]:=by
      intro O t l J q u;simp only[stepG,gr,stepG.exec,Bool.not_true,gU,if_false,Jg _ (show(Question.order A N).forced=false from rfl),Question.cut]
     right;refine⟨π,_,_,seg,E,_,_,#[],#[],step _ _ _ _ _ _,step _ _ _ _ _ _,?_,⟨.refl π,aS _,λ_ _ _=>rfl,λ_ _ y=>.inl y,rfl,rfl,rfl⟩,⟨I.own,I.sh,I.fn,I.inj,I.apart,I.high,I.os⟩,λe he=>by simp at he,by simp only[M],by simp only;omega,λt d hg=>⟨#[],?_⟩⟩
     .rw[ht,M];exact R (aT z _::r) (cons (.inRegion z _ ho) P)
     .simp only[List.cons_append];rw[step];have hq:=hg 0 (.order A N) Q5;have e:(tp w t d).tape (tp w t d).drawn (.order A N)=w.tape w.drawn (.order A N):=hq.symm;rw[e];have:w.drawn+1-w.drawn=1:=by omega
      simp only[this];rfl
  |inRegion z l ho=>
   cases l with
   |nil=>exact .quiet I M (R r P) rfl rfl (λ_ _=>rfl)
   |cons i C=>
    have hy:yielded z F=yielded z G:=funext λj=>ru h3 z j;have hwt:Waits k k' ⟨A,G,aT z (i::C)::r++k,D,.run,n,none⟩ ⟨A,F,aT z (i::C)::r++k',B,.run,n,none⟩:=.inr ⟨_,_,rfl,rfl⟩;have V:∀{bg:Map}{v v':aA},π.le bg->aL S bg v v'->Je S p bg K K' (Frame.finish ⟨A,G,aT z (i::C)::r++k,D,.run,n,none⟩ v) (Frame.finish ⟨A,F,aT z (i::C)::r++k',B,.run,n,none⟩ v') seg E:=λL hv=>⟨k,k',(Y.mono L).finish hwt hv,H.mono L,λh=>(h (F8 _ _)).elim⟩
    have aaP:∀{bg:Map},π.le bg->Tail S p bg K K' (⟨A,G,aT z (i::C)::r++k,D,.run,n,none⟩::seg) (⟨A,F,aT z (i::C)::r++k',B,.run,n,none⟩::E):=by
     intro bg L;cases H with
     |nil=>exact .one (Y.mono L) hwt
     |cons ht=>exact .cons (Y.mono L) (ht.mono L)
    by_cases hw:((z[i]?).map (Region.wanted · (yielded z G))).getD false=true
    .cases Z:z[i]? with
     |none=>rw[Z]at hw;simp at hw
     |some o=>
      have U:Region.wanted o (yielded z G)=true:=by rw[Z]at hw;simpa using hw
      have Q:Region.wanted o (yielded z F)=true:=by rw[hy];exact U
      have hok:=ho o (qW Z);have hSR:=Ai hB.D8 hp xJ hok;have pl:∀(t:Array aA)(l:List Item)(J:List Deferred),Plain ⟨A,t,aT z (i::C)::l,J,.run,n,none⟩:=λt l J=>⟨by simp[h9],rfl,⟨_,_,_,_,rfl⟩⟩;have X:∀(O:Bool)(t:Array aA)(l:List Item)(J:List Deferred)(q:List Frame)(u:au),Region.wanted o (yielded z t)=true->
       stepG p O (gr ⟨A,t,aT z (i::C)::l,J,.run,n,none⟩ q) u=stepG.apply p true ⟨A,t,aT z (i::C)::l,J,.run,n,none⟩ q none (execOp (Frame.eval ⟨A,t,aT z (i::C)::l,J,.run,n,none⟩) o) u:=by
       intro O t l J q u hw;simp[gr,stepG,stepG.exec,stepG.oper,Frame.oper?,Z,hw]
      refine qd.sem I ht M hSR (λu=>stepG p O (gr ⟨A,G,aT z (i::C)::r++k,D,.run,n,none⟩ (seg++cs)) u) (λu=>stepG p mn' (gr ⟨A,F,aT z (i::C)::r++k',B,.run,n,none⟩ (E++cs')) u) ?_ ?_ ?_
      .intro u L;simp only[List.cons_append]at L ⊢;rw[X _ _ _ _ _ _ U];exact Ux (pl _ _ _) L
      .intro bg a b L hab;right;cases hab with
       |value hv=>exact⟨_,_,seg,E,V L hv,λu v e=>⟨_,(X _ _ _ _ _ _ U).trans (F9 (pl _ _ _) e)⟩,λu v e=>⟨_,(X _ _ _ _ _ _ Q).trans (F9 (pl _ _ _) e),jr p A _⟩⟩
       |skip=>exact⟨_,_,seg,E,V L .undef,λu v e=>⟨_,(X _ _ _ _ _ _ U).trans (KV (pl _ _ _) e)⟩,λu v e=>⟨_,(X _ _ _ _ _ _ Q).trans (KV (pl _ _ _) e),jr p A _⟩⟩
       |@enter f a a' hf T=>exact⟨_,_,_::seg,_::E,⟨[],[],.enter hB hf T,.cons (aaP L),λh=>(h rfl).elim⟩,λu v e=>⟨_,(X _ _ _ _ _ _ U).trans (Ga (pl _ _ _) e)⟩,λu v e=>⟨_,(X _ _ _ _ _ _ Q).trans (Ga (pl _ _ _) e),jr p A _⟩⟩
      .intro bg x x' L hx;right;have hpe:q9 (ZX S bg) [{v:=x,recovered:=false}] [{v:=x',recovered:=false}]:=.cons ⟨hx,rfl,rfl⟩ .nil;exact⟨_,_,seg,E,⟨k,k',(Y.mono L).raise hpe,H.mono L,λ_=>hwt.of (qc _ _) (qc _ _)⟩,λu v e=>⟨_,(X _ _ _ _ _ _ U).trans (Gb (pl _ _ _) e)⟩,λu v e=>⟨_,(X _ _ _ _ _ _ Q).trans (Gb (pl _ _ _) e),jr p A _⟩⟩
    .have e:∀(O:Bool)(t:Array aA)(l:List Item)(J:List Deferred)(q:List Frame)(u:au),yielded z t=yielded z G->
      stepG p O (gr ⟨A,t,aT z (i::C)::l,J,.run,n,none⟩ q) u=.go (gr (Frame.finish ⟨A,t,aT z (i::C)::l,J,.run,n,none⟩ ak) q) u #[]:=by
      intro O t l J q u hy;have hw':¬((z[i]?).map (Region.wanted · (yielded z t))).getD false=true:=by rw[hy];exact hw
      simp only[stepG,gr,stepG.exec];exact av hw'
     exact .quiet I M (V (.refl _) .undef) (e _ _ _ _ _ _ rfl) (e _ _ _ _ _ _ hy) (λt d=>e _ _ _ _ _ _ rfl)
theorem Qc{S:aD}{v:aA}(h:aL S π v v'):ay S p (λπ=>bR π) π (asAddr v) (asAddr v'):=by
 unfold asAddr;cases h with
 |ptr a=>exact .pure a
 |jL=>exact pX
 |_=>exact dx
theorem sG{S:aD}(n:Func){t:Array aA}(h:bq S π t o):ay S p (λπ=>aL S π) π (results n t) (results n o):=by
 unfold results;have key:∀(l:List ResultVar)(π:Map),bq S π t o->ay S p (λπ(x y:List aA)=>bq S π x.toArray y.toArray) π
  (l.mapM λ|.tmp i=>pure (t.getD i ak)|.cell a u=>do loadVar u (<-asAddr (t.getD a ak)))
  (l.mapM λ|.tmp i=>pure (o.getD i ak)|.cell a u=>do loadVar u (<-asAddr (o.getD a ak))):=by
  intro l
  induction l with
  |nil=>intro π h;exact .pure .nil
  |cons r l q=>
   intro π h;rw[List.mapM_cons,List.mapM_cons];have one:ay S p (λπ=>aL S π) π
    ((λ|.tmp i=>pure (t.getD i ak)|.cell a u=>do loadVar u (<-asAddr (t.getD a ak)):ResultVar->Sem aA) r)
    ((λ|.tmp i=>pure (o.getD i ak)|.cell a u=>do loadVar u (<-asAddr (o.getD a ak)):ResultVar->Sem aA) r):=by
    cases r with
    |tmp i=>exact .pure (h.getD i)
    |cell a u=>exact ay.bind' (Qc (h.getD a)) λe b b' g k=>Cv u k
   refine ay.bind' one λe v v' g m=>?_;refine ay.bind' (q e (h.mono g)) λs x x' j d=>.pure ?_;have:=(bq.one (m.mono j)).append d;simpa using this
 rw[Array.mapM_eq_mapM_toList,Array.mapM_eq_mapM_toList];refine ay.bind' (A:=λπ=>bq S π) ?_ λe x x' g d=>.pure ?_
 .exact ay.bind' (key n.results.toList π h) λe x x' g d=>.pure d
 .by_cases f:x.size=1
  .have c:x'.size=1:=d.1▸f;simp only[f,c,dite_true];exact d.get (i:=0) (by simp[f]) (by simp[c])
  .have c:¬x'.size=1:=d.1▸f;simp only[f,c,dite_false];exact .tuple d.1 d.2
theorem Gc{S:aD}{c c':Frame}(h:Tail S p π K K' (c::seg) (c'::E)):∃k k',ng S p π k k' c c'/\Waits k k' c c'/\Rest S p π K K' k k' seg E:=by
 cases h with
 |one a b=>exact⟨K,K',a,b,.nil⟩
 |cons a b=>exact⟨[],[],a,.inl ⟨rfl,rfl⟩,.cons b⟩
theorem Jh{S:aD}{c c':Frame}(f:ng S p π [] [] fr fr')(T:Tail S p π K K' (c::seg) (c'::E)){v:aA}(g:aL S π v v')(mn mn':Bool):
 ∃b a,Je S p π K K' b a seg E/\(∀u,doReturn p mn fr (c::(seg++cs)) none v u=.go (gr b (seg++cs)) u #[])/\(∀u,doReturn p mn' fr' (c'::(E++cs')) none v' u=.go (gr a (E++cs')) u #[]):=by
 have e:=f.kinds;have h:=f.kind.trans e;obtain⟨k,k',d,hw,s⟩:=Gc T;exact⟨c.finish v,c'.finish v',⟨k,k',d.finish hw g,s,λ_=>d.D9 hw _ _⟩,λu=>by simp[doReturn,e,gr],λu=>by simp[doReturn,h,gr]⟩
theorem Gf{S:aD}(hB:fH S p)(hp:p.globals.size=π.g)(hh:bI S π w w')(ht:w'.tape=w.tape)(hd:w'.drawn=w.drawn)(h:Je S p π K K' fr fr' seg E)(O:fr.mode≠ .run)(hn:¬(seg=[]/\fr.defers=[]))(n D:Bool):
 qd S p π K K' w w' cs cs' (stepG p n (gr fr (seg++cs)) w) (stepG p D (gr fr' (E++cs')) w') (λt d=>stepG p n (gr fr (seg++cs)) (tp w t d)):=by
 obtain⟨k,k',hf,B,b⟩:=h;have b:=b O;obtain⟨fn,l,Q,T,mode,kind,round⟩:=fr;obtain⟨f,G,H,L,F,i,V⟩:=fr';have hf0:=hf;obtain⟨h1,⟨func,U⟩,h3,h5,h6,Y,h8,h9,M,N⟩:=hf;simp only at h1 U h3 h5 h6 Y h8 h9 M N O hn b;subst h1 h8 M N;have un:∀(n:Bool)(t:Array aA)(j:List Item)(X:List Deferred)(m:FrameMode)(q:List Frame)(u:au),m≠ .run->stepG p n (gr ⟨f,t,j,X,m,i,none⟩ q) u=unwind p n ⟨f,t,j,X,m,i,none⟩ q none u:=by intro n t j X m q u O;cases m<;>first|exact(O rfl).elim|rfl
 have hm':F≠ .run:=by cases Y<;>simp_all
 obtain⟨rfl,rfl⟩:=h6;cases B with
 |nil=>exact(hn ⟨rfl,rfl⟩).elim
 |@cons seg E hT=>
  obtain⟨c,c',W,s,rfl,rfl⟩:∃c c' W s,seg=c::W/\E=c'::s:=by cases hT<;>exact⟨_,_,_,_,rfl,rfl⟩
  cases Y with
  |run=>exact(O rfl).elim
  |@panicking R ch' hch=>
   have st:∀(n:Bool)(t:Array aA)(j:List Item)(R:List PanicEntry)(c:Frame)(q:List Frame)(u:au),stepG p n (gr ⟨f,t,j,[],.panicking R,i,none⟩ (c::q)) u=.go (gr (c.raise R) q) u #[]:=by intro n t j R c q u;rw[un _ _ _ _ _ _ _ X0];simp[unwind,Frame.catches,U,gr]
   obtain⟨P,C,hc,hw,hs⟩:=Gc hT;exact .quiet hh hd ⟨P,C,hc.raise hch,hs,λ_=>hw.of (qc _ _) (qc _ _)⟩ (st _ _ _ _ _ _ _) (st _ _ _ _ _ _ _) (λt d=>st _ _ _ _ _ _ _)
  |returning=>
   have Z:=sG (p:=p) func h3;have r:∀(n:Bool)(t:Array aA)(j:List Item)(q:List Frame)(u:au),
    (∀v x,(results func t).run p u=.ok v x->∀g es,(doReturn p n ⟨f,t,j,[],.returning,i,none⟩ q none v x=.go g x es)->stepG p n (gr ⟨f,t,j,[],.returning,i,none⟩ q) u=.go g x (seen p f ((results func t).events p u #[])++es))/\
    (∀z x,(results func t).run p u=.halt z x->∃o y es,stepG p n (gr ⟨f,t,j,[],.returning,i,none⟩ q) u=.ended o y es):=by
    intro n t j q u;refine⟨λv x e g es hg=>?_,λz x e=>?_⟩
    .rw[un _ _ _ _ _ _ _ X0];simp only[unwind,U,Sem.runT_eq,e,hg,GStep.after]
    .rw[un _ _ _ _ _ _ _ X0];simp only[unwind,U,Sem.runT_eq,e];cases z<;>exact⟨_,_,_,rfl⟩
   refine qd.sem hh ht hd Z (λu=>stepG p n (gr ⟨f,l,Q,[],.returning,i,none⟩ (c::W++cs)) u) (λu=>stepG p D (gr ⟨f,G,H,[],.returning,i,none⟩ (c'::s++cs')) u) ?_ ?_ ?_
   .intro u I;cases hr:(results func l).run p u with
    |ok a v=>rw[hr]at I;exact I.elim
    |halt z v=>exact(r _ _ _ _ _).2 z v hr
   .intro bg v v' I hv;right;obtain⟨J,A,hS,r1,r2⟩:=Jh (cs:=cs) (cs':=cs') (mn:=n) (mn':=D) (hf0.mono I) (hT.mono I) hv;exact⟨J,A,W,s,hS,λu x e=>⟨_,(r _ _ _ _ _).1 v x e _ _ (r1 x)⟩,λu x e=>⟨_,(r _ _ _ _ _).1 v' x e _ _ (r2 x),λev xJ=>jr p f _ ev (by simpa using xJ)⟩⟩
   .intro bg x x' I hx;left;intro u v e;exact(r _ _ _ _ _).2 _ v e
theorem Gg{S:aD}(B:fH S p)(f:p.globals.size=π.g)(j:XT K K')(c:bI S π w w')(i:w'.tape=w.tape)(b:w'.drawn=w.drawn)(h:Je S p π K K' fr fr' seg E)(e:¬AtEnd K fr seg)(n m:Bool):
 qd S p π K K' w w' cs cs' (stepG p n (gr fr (seg++cs)) w) (stepG p m (gr fr' (E++cs')) w') (λt d=>stepG p n (gr fr (seg++cs)) (tp w t d)):=by
 by_cases a:fr.mode=.run
 .exact Qb B f j c i b h a e n m
 .exact Gf B f c i b h a (λx=>e ⟨x.1,.inl ⟨x.2,a⟩⟩) n m
theorem aaQ:(Extern.next "fmt's door").isNone=true:=by kernel_rfl
theorem XU:("fmt's door").startsWith "fmt's door" =true:=by kernel_rfl
def door(p:Program):Frame:={fn:=p.funcs.size,tmps:=#[ak],todo:=[.call {target:=.nil,args:=#[]} false "fmt's door" #[]],defers:=[],mode:=.run,kind:=.normal}
theorem yC{c:List Frame}{v:au}(h:stepG p true (gr fr cs) u=.go (gr D c) v es):step p (lone fr cs u)=.next (lone D c v):=by refine step_lone_go ?_;have a:stepG p true {frame:=fr,callers:=cs,status:=.running,dying:=none} u=.go (gr D c) v es:=h;rw[a];rfl
theorem Aj{v:au}{o:Outcome}(h:stepG p true (gr fr cs) u=.ended o v es):step p (lone fr cs u)=.ended o v:=by refine step_lone_ended ?_;have a:stepG p true {frame:=fr,callers:=cs,status:=.running,dying:=none} u=.ended o v es:=h;rw[a];rfl
theorem rz(h:∃o v es,stepG p true (gr fr cs) u=.ended o v es):∃o v,step p (lone fr cs u)=.ended o v:=let⟨o,v,es,e⟩:=h;⟨o,v,Aj e⟩
theorem runN_ended{m:Machine}{o:Outcome}{v:au}(h:step p m=.ended o v)(n:Nat):runN p (n+1) m=.ended o v:=by simp[runN,h]
theorem mE{m a:Machine}(h:step p m=.next a)(n:Nat):runN p (n+1) m=runN p n a:=by simp[runN,h]
theorem Gi{e:Frame}{v:au}(S:∃i,p.funcs[fr.fn]? =some i)(C:fr.kind=.normal)(D:fr.roundOf=none)(h:AtEnd K fr []){n:Nat}(a:runN p n (lone fr [door p] u)=.next (lone e [door p] v)):n=0:=by
 obtain⟨func,q⟩:=S;obtain⟨i,t,b,d,l,E,A⟩:=fr;simp only at C D q;subst C D;obtain⟨_,⟨B,j⟩|⟨j,F,k⟩⟩:=h
 case inr=>
  simp only at j k;subst j F k;cases n with
  |zero=>rfl
  |succ n=>exfalso;have s:∃o x,step p (lone ⟨i,t,sent,d,.run,.normal,none⟩ [door p] u)=.ended o x:=rz ⟨_,_,_,rfl⟩;obtain⟨o,x,s⟩:=s;rw[runN_ended s]at a;cases a
 simp only at B j;subst B;cases n with
 |zero=>rfl
 |succ n=>
  exfalso;have f:p.funcs[p.funcs.size]? =none:=by simp
  cases l with
  |run=>exact j rfl
  |panicking w=>
   have s:step p (lone ⟨i,t,b,[],.panicking w,.normal,none⟩ [door p] u)=.next (lone ((door p).raise w) [] u):=by refine step_lone_go ?_;simp[stepG,unwind,Frame.catches,q]
   rw[mE s]at a;cases n with
   |zero=>simp only[runN,Stepped.next.injEq]at a;have:=congrArg (λm:Machine=>(m.gs[0]?).map (·.callers)) a;simp[lone]at this
   |succ n=>
    have g:∃o x,step p (lone ((door p).raise w) [] u)=.ended o x:=by refine rz ?_;simp only[stepG,gr,door,Frame.raise,unwind,Frame.catches,f,XU,if_true];exact⟨_,_,_,rfl⟩
    obtain⟨o,x,g⟩:=g;rw[runN_ended g]at a;cases a
  |returning=>
   cases c:(results func t).run p u with
   |halt z x=>
    have s:∃o x,step p (lone ⟨i,t,b,[],.returning,.normal,none⟩ [door p] u)=.ended o x:=by refine rz ?_;cases z<;>(simp only[stepG,gr,unwind,q,Sem.runT_eq,c,GStep.after];exact⟨_,_,_,rfl⟩)
    obtain⟨o,x,s⟩:=s;rw[runN_ended s]at a;cases a
   |ok r x=>
    have s:step p (lone ⟨i,t,b,[],.returning,.normal,none⟩ [door p] u)=.next (lone ((door p).finish r) [] x):=by refine step_lone_go ?_;simp[stepG,unwind,q,c,doReturn,GStep.after]
    rw[mE s]at a;cases n with
    |zero=>simp only[runN,Stepped.next.injEq]at a;have:=congrArg (λm:Machine=>(m.gs[0]?).map (·.callers)) a;simp[lone]at this
    |succ n=>
     have g:∃o y,step p (lone ((door p).finish r) [] x)=.ended o y:=by
      have G:Extern.next "fmt's door" =none:=by simpa using aaQ
      refine rz ?_;simp only[stepG,gr,door,Frame.finish,stepG.exec,G,Option.elim_none];exact⟨_,_,_,rfl⟩
     obtain⟨o,y,g⟩:=g;rw[runN_ended g]at a;cases a
section
variable {S : aD} {p : Program} {α : Type} {β : Type} {A : Map -> α -> β -> Prop}
section
variable {S : aD} {p : Program} {K : List Item}
structure rA where
 fr:Frame
 seg:List Frame
 w:au
def rA.m(p:Program)(c:rA):Machine:=lone c.fr (c.seg++[door p]) c.w
def rA.tp(c:rA)(t:Nat->Question->Nat)(d:Nat):rA:=⟨c.fr,c.seg,Ren.tp c.w t d⟩
def ku(S:aD)(p:Program)(K:List Item)(c:rA):Prop:=∃π:Map,p.globals.size=π.g/\Je S p π K K c.fr c.fr c.seg c.seg/\bI S π c.w c.w
structure tT(p:Program)(c c₁:rA):Prop where
 go1:∃es,stepG p true (gr c.fr (c.seg++[door p])) c.w=.go (gr c₁.fr (c₁.seg++[door p])) c₁.w es
 le:c.w.drawn<=c₁.w.drawn
 tape:c₁.w.tape=c.w.tape
 any:∀t d,(∀i q,c.w.drawn+i<c₁.w.drawn->c.w.tape (c.w.drawn+i) q=t (d+i) q)->∃es,stepG p true (gr c.fr (c.seg++[door p])) (tp c.w t d)=.go (gr c₁.fr (c₁.seg++[door p])) (tp c₁.w t (d+(c₁.w.drawn-c.w.drawn))) es
theorem tT.next{c a:rA}(h:tT p c a):Go.step p (c.m p)=.next (a.m p):=by obtain⟨es,e⟩:=h.go1;exact yC e
theorem tT.Qd{c a:rA}(h:tT p c a){t:Nat->Question->Nat}{d:Nat}(g:∀i q,c.w.drawn+i<a.w.drawn->c.w.tape (c.w.drawn+i) q=t (d+i) q):
 Go.step p ((c.tp t d).m p)=.next ((a.tp t (d+(a.w.drawn-c.w.drawn))).m p):=by
 obtain⟨es,e⟩:=h.any t d g;exact yC e
theorem ku.tp{c:rA}(h:ku S p K c)(t:Nat->Question->Nat)(d:Nat):ku S p K (c.tp t d):=by obtain⟨π,g,s,a⟩:=h;exact⟨π,g,s,⟨a.own,a.sh,a.fn,a.inj,a.apart,a.high,a.os⟩⟩
theorem CB(B:fH S p)(k:XT K K){c:rA}(h:ku S p K c)(t:¬AtEnd K c.fr c.seg):(∃o v,Go.step p (c.m p)=.ended o v)\/∃b,tT p c b/\ku S p K b:=by
 obtain⟨π,j,u,r⟩:=h;have:=Gg (cs:=[door p]) (cs':=[door p]) B j k r rfl rfl u t true true;obtain x|⟨bg,D,n,s,e,w₁,w,es,es',i,f,q,T,H,E,y,l,d⟩:=this
 .exact .inl (rz x)
 .right;rw[i]at f;simp only[GStep.go.injEq,gr,Goroutine.mk.injEq,true_and,and_true]at f;obtain⟨⟨rfl,a⟩,rfl,_⟩:=f;have a:s=e:=List.append_cancel_right a;subst a;exact⟨⟨D,s,w₁⟩,⟨⟨es,i⟩,l,T.tape,d⟩,bg,by rw[T.le.g];exact j,q,H⟩
variable (F : Frame -> au -> Prop)
structure Final(K:List Item)(c:rA):Prop where
 atEnd:AtEnd K c.fr c.seg
 ans:F c.fr c.w
def Free(S:aD)(p:Program)(K:List Item)(F:Frame->au->Prop):Prop:=∀c:rA,ku S p K c->AtEnd K c.fr c.seg->F c.fr c.w->∀t d,F c.fr (Ren.tp c.w t d)
def Ak(p:Program)(K:List Item)(c:rA):Prop:=∀t d,∃n c₂,runN p n ((c.tp t d).m p)=.next (c₂.m p)/\Final F K c₂
theorem Gj{c:rA}(h:ku S p K c)(s:c.seg=[]):c.fr.kind=.normal/\(∃n,p.funcs[c.fr.fn]? =some n)/\c.fr.roundOf=none:=by obtain⟨π,g,⟨k,k',f,_,_⟩,a⟩:=h;exact⟨f.kinds,f.inF,f.round⟩
theorem Qe(J:fH S p)(L:XT K K)(Q:Free S p K F):∀(n:Nat)(c:rA),ku S p K c->∀f,runN p n (c.m p)=.next (f.m p)->Final F K f->∀t d,(∀i q,c.w.tape (c.w.drawn+i) q=t (d+i) q)->
 ∃G h,runN p G ((c.tp t d).m p)=.next (h.m p)/\Final F K h:=by
 intro n
 induction n with
 |zero=>
  intro c u f r k t d z;simp only[runN,Stepped.next.injEq]at r;have e:c=f:=by have j:=congrArg (λm:Machine=>(m.gs[0]?).map (·.frame)) r;have l:=congrArg (λm:Machine=>(m.gs[0]?).map (·.callers)) r;have x:=congrArg (λm:Machine=>m.world) r;simp only[rA.m,lone]at j l x;simp at j l;obtain⟨a,b,d⟩:=c;obtain⟨a',b',P⟩:=f;simp_all
  subst e;exact⟨0,c.tp t d,rfl,k.atEnd,Q c u k.atEnd k.ans t d⟩
 |succ n O=>
  intro c u f r k t d z;by_cases B:AtEnd K c.fr c.seg
  .exfalso;have s:c.seg=[]:=B.1;obtain⟨M,A,D⟩:=Gj u s;have H:=k.atEnd.1;have C:runN p (n+1) (lone c.fr [door p] c.w)=.next (lone f.fr [door p] f.w):=by
    have:=r;simp only[rA.m,s,H,List.nil_append]at this;exact this
   have R:=Gi (n:=n+1) A M D ⟨rfl,B.2⟩ C;omega
  .obtain⟨o,v,e⟩|⟨g,j,y⟩:=CB J L u B
   .rw[runN_ended e]at r;cases r
   .rw[mE j.next]at r;have l:=j.Qd (t:=t) (d:=d) (λi q _=>z i q);obtain⟨G,h,x,I⟩:=O g y f r k t (d+(g.w.drawn-c.w.drawn)) (λi q=>by
     have E:g.w.tape=c.w.tape:=j.tape;have:=z (g.w.drawn-c.w.drawn+i) q;have N:=j.le;rw[E];rw[show c.w.drawn+(g.w.drawn-c.w.drawn+i)=g.w.drawn+i by omega]at this;rw[this]
     congr 1
     omega)
    exact⟨G+1,h,by rw[mE l];exact x,I⟩
def splice(t:Nat->Question->Nat)(d k:Nat)(o:Nat->Question->Nat)(d':Nat):Nat->Question->Nat:=λi q=>if i<k then t (d+i) q else o (d'+(i-k)) q
theorem NC(B:fH S p)(u:XT K K)(Q:Free S p K F){c a:rA}(A:ku S p K c)(L:Ak F p K c)(z:¬AtEnd K c.fr c.seg){t:Nat->Question->Nat}{d:Nat}(h:tT p (c.tp t d) a)(e:ku S p K a):Ak F p K a:=by
 intro o b;have y:d<=a.w.drawn:=h.le;have C:a.w.drawn-(c.tp t d).w.drawn=a.w.drawn-d:=rfl;obtain⟨n,f,r,k⟩:=L (splice t d (a.w.drawn-d) o b) 0;have s:=h.Qd (t:=splice t d (a.w.drawn-d) o b) (d:=0) (λi q v=>by have x:d+i<a.w.drawn:=v;show t (d+i) q=splice t d (a.w.drawn-d) o b (0+i) q;unfold splice;rw[aI Q0,eu])
 cases n with
 |zero=>exfalso;simp only[runN,Stepped.next.injEq]at r;have g:=congrArg (λm:Machine=>(m.gs[0]?).map (·.frame)) r;have j:=congrArg (λm:Machine=>(m.gs[0]?).map (·.callers)) r;simp only[rA.m,lone,rA.tp]at g j;simp at g j;apply z;rw[g,j];exact k.atEnd
 |succ n=>
  have l:(c.tp t d).tp (splice t d (a.w.drawn-d) o b) 0=c.tp (splice t d (a.w.drawn-d) o b) 0:=rfl;rw[l]at s;rw[mE s]at r;have key:=Qe F B u Q n _ (e.tp _ _) f r k o b (λi q=>by
   show splice t d (a.w.drawn-d) o b (0+(a.w.drawn-d)+i) q=o (b+i) q;unfold splice;rw[av Q0]
   congr 1
   omega)
  exact key
theorem Qf{c:rA}(q:ku S p K c)(L:Ak F p K c)(j:AtEnd K c.fr c.seg)(t:Nat->Question->Nat)(d:Nat):Final F K (c.tp t d):=by
 obtain⟨n,e,v,g⟩:=L t d;have s:c.seg=[]:=j.1;obtain⟨u,i,r⟩:=Gj q s;have k:=g.atEnd.1;have h:runN p n (lone c.fr [door p] (tp c.w t d))=.next (lone e.fr [door p] e.w):=by have:=v;simp only[rA.m,rA.tp,s,k,List.nil_append]at this;exact this
 have l:=Gi i u r ⟨rfl,j.2⟩ h;subst l;simp only[runN,Stepped.next.injEq]at h;have f:=congrArg (λm:Machine=>(m.gs[0]?).map (·.frame)) h;have o:=congrArg (λm:Machine=>m.world) h;simp only[lone]at f o;simp at f;have:c.tp t d=e:=by obtain⟨a,b,x⟩:=c;obtain⟨a',b',x'⟩:=e;simp only[rA.tp]at*;simp_all
 rw[this];exact g
inductive Am(p:Program)(K:List Item)(F:Frame->au->Prop):rA->Prop
 |fin {c:rA}:(∀t d,Final F K (c.tp t d))->Am p K F c
 |step {c:rA} (c₁:(Nat->Question->Nat)->Nat->rA):¬AtEnd K c.fr c.seg->(∀t d,tT p (c.tp t d) (c₁ t d))->(∀t d,Am p K F (c₁ t d))->Am p K F c
theorem Gl(U:fH S p)(V:XT K K)(hQ:Free S p K F){c:rA}(W:ku S p K c)(O:Ak F p K c):Am p K F c:=by
 apply Classical.byContradiction;intro J
 let X:={c:rA//ku S p K c/\Ak F p K c/\¬Am p K F c}
 have b:∀x:X,¬AtEnd K x.1.fr x.1.seg:=λx h=>x.2.2.2 (.fin λt d=>Qf F x.2.1 x.2.2.1 h t d);have r:∀x:X,∃(t:Nat->Question->Nat)(d:Nat)(y:X),tT p (x.1.tp t d) y.1:=by
  intro x;apply Classical.byContradiction;intro hx;apply x.2.2.2;have z:∀t d,∃f,tT p (x.1.tp t d) f/\Am p K F f:=by
   intro t d;have I:¬AtEnd K (x.1.tp t d).fr (x.1.tp t d).seg:=b x;obtain⟨o,v,e⟩|⟨f,g,H⟩:=CB U V (x.2.1.tp t d) I
   .exfalso;obtain⟨n,G,C,M⟩:=x.2.2.1 t d;cases n with
    |zero=>simp only[runN,Stepped.next.injEq]at C;have g:=congrArg (λm:Machine=>(m.gs[0]?).map (·.frame)) C;have A:=congrArg (λm:Machine=>(m.gs[0]?).map (·.callers)) C;simp only[rA.m,lone]at g A;simp at g A;apply I;rw[g,A];exact M.atEnd
    |succ n=>rw[runN_ended e]at C;cases C
   .refine⟨f,g,Classical.byContradiction λhg=>?_⟩;exact hx ⟨t,d,⟨f,H,NC F U V hQ x.2.1 x.2.2.1 (b x) g H,hg⟩,g⟩
  exact .step (λt d=>(z t d).choose) (b x) (λt d=>(z t d).choose_spec.1) (λt d=>(z t d).choose_spec.2)
 let T:X->(Nat->Question->Nat):=λx=>(r x).choose
 let D:X->Nat:=λx=>(r x).choose_spec.choose
 let N:X->X:=λx=>(r x).choose_spec.choose_spec.choose
 have hN:∀x:X,tT p (x.1.tp (T x) (D x)) (N x).1:=λx=>(r x).choose_spec.choose_spec.choose_spec
 let x:Nat->X:=λi=>Nat.rec ⟨c,W,O,J⟩ (λ_ y=>N y) i
 have hx0:x 0=⟨c,W,O,J⟩:=rfl;have R:∀i,x (i+1)=N (x i):=λi=>rfl
 let k:Nat->Nat:=λi=>(x (i+1)).1.w.drawn -D (x i)
 let K:Nat->Nat:=λi=>Nat.rec 0 (λj s=>s+k j) i
 have hK0:K 0=0:=rfl;have B:∀i,K (i+1)=K i+k i:=λi=>rfl;have l:∀i j,i<=j->K i<=K j:=by
  intro i j P
  induction P with
  |refl=>exact aS _
  |step _ ih=>rw[B];omega
 let a:Nat->Question->Nat:=λn q=>@dite _ (∃i,K i<=n/\n<K (i+1)) (Classical.propDecidable _) (λh=>T (x h.choose) (D (x h.choose)+(n-K h.choose)) q) (λ_=>0)
 have E:∀i j q,j<k i->a (K i+j) q=T (x i) (D (x i)+j) q:=by
  intro i j q Y;have h:∃Z,K Z<=K i+j/\K i+j<K (Z+1):=⟨i,Q0,by rw[B];omega⟩;have e:a (K i+j) q=T (x h.choose) (D (x h.choose)+(K i+j-K h.choose)) q:=@dif_pos _ (Classical.propDecidable _) h _ _ _;have u:h.choose=i:=by
   have hs:=h.choose_spec;obtain Q|he|Q:=Nat.lt_trichotomy h.choose i
   .have:=l (h.choose+1) i Q;omega
   .exact he
   .have:=l (i+1) h.choose Q;rw[B]at this;omega
  rw[e,u]
  congr 2
  omega
 have L:∀i n,runN p (i+n) ((c.tp a 0).m p)=runN p n (((x i).1.tp a (K i)).m p):=by
  intro i
  induction i with
  |zero=>intro n;rw[eu];rfl
  |succ i ih=>
   intro n;rw[show i+1+n=i+(n+1)by omega,ih];have h:=hN (x i);have:=h.Qd (t:=a) (d:=K i) (λj q Y=>by have hj':D (x i)+j<(N (x i)).1.w.drawn:=Y;show T (x i) (D (x i)+j) q=a (K i+j) q;rw[E i j q (by show j<(x (i+1)).1.w.drawn -D (x i);rw[R];omega)])
   have e:((x i).1.tp (T (x i)) (D (x i))).tp a (K i)=(x i).1.tp a (K i):=rfl;rw[e]at this;rw[mE this];rfl
 obtain⟨n,G,C,M⟩:=O a 0;have:=L n 0;rw[oI,C]at this;simp only[runN,Stepped.next.injEq]at this;have g:=congrArg (λm:Machine=>(m.gs[0]?).map (·.frame)) this;have A:=congrArg (λm:Machine=>(m.gs[0]?).map (·.callers)) this;simp only[rA.m,lone,rA.tp]at g A;simp at g A;apply b (x n);rw[<-g,<-A];exact M.atEnd
end
end
structure bB(Sh O:aD)(w u:au):Prop where
 size:w.heap.size<=u.heap.size
 keep:∀b,O b\/Sh b->u.heap[b]? =w.heap[b]?
 os:Ik w.os u.os
structure jW(O O':aD)(u v:au):Prop where
 sub:∀b,O b->O' b
 fresh:∀b,O' b->O b\/u.heap.size<=b
 bound:∀b,O' b->b<v.heap.size
 size:u.heap.size<=v.heap.size
 frame:∀b,b<u.heap.size->¬O b->v.heap[b]? =u.heap[b]?
 tape:v.tape=u.tape
 os:v.os=u.os
 output:v.output=u.output
def qH(Sh O:aD)(e:Event):Prop:=
 match e.loc with
 |.cell a=>e.sync=false/\(O a.block\/(Sh a.block/\e.write=false))
 |.obj r=>e.sync=false/\O r
 |.mark .noRoom=>True
 |.output=>True
 |_=>False
inductive iK(P:Program)(mn:Bool)(Sh:aD)(Stop:(aD)->dN->au->Prop):(aD)->dN->au->Prop
 |stop {O:aD} {g:dN} {w:au}:(∀u,bB Sh O w u->Stop O g u)->iK P mn Sh Stop O g w
 |step {O:aD} {g:dN} {w:au} (g':au->dN) (w':au->au) (es:au->Array Event) (O':au->aD):g.status=.running->
   (∀u,bB Sh O w u->stepG P mn g u=.go (g' u) (w' u) (es u))->(∀u,bB Sh O w u->jW O (O' u) u (w' u))->(∀u,bB Sh O w u->∀e∈es u,qH Sh (O' u) e)->
   (∀u,bB Sh O w u->iK P mn Sh Stop (O' u) (g' u) (w' u))->iK P mn Sh Stop O g w
def Map.img(π:Map)(b:Nat):Prop:=∃a,π.own a b
structure XV(S:aD)(p:Program)(K K':List Item)(F:Frame->au->Prop)(mO:Map)(cs:List Frame)(O:aD)(g:dN)(u:au):Prop where
 ex:∃π fr fr' w,(∀b,O b↔π.img b)/\mO.le π/\g=gr fr' cs/\ng S p π K K' fr fr'/\bI S π w u/\w.tape=u.tape/\w.drawn=u.drawn/\AtEnd K fr []/\F fr w
theorem bI.rely{S:aD}(h:bI S π w w')(r:bB π.sh π.img w' u)(t:Nat->Question->Nat)(d:Nat):bI S π (tp w t d) u:=by
 refine⟨λb b' a=>?_,λb a=>?_,h.fn,h.inj,h.apart,h.high,h.os.trans r.os⟩
 .obtain⟨o,o',e,f,g⟩:=h.own b b' a;exact⟨o,o',e,(r.keep b' (.inl ⟨b,a⟩)).trans f,g⟩
 .obtain⟨c,c',y,z,z',e,f,x⟩:=h.sh b a;exact⟨c,c',y,z,z',e,(r.keep b (.inr a)).trans f,x⟩
theorem CG{S:aD}(hB:fH S p)(hK:XT K K')(O:Bool)(cs:List Frame){c:rA}(h:Am p K F c):∀(π:Map)(fr':Frame)(E:List Frame)(w':au),mO.le π->p.globals.size=π.g->Je S p π K K' c.fr fr' c.seg E->bI S π c.w w'->
 iK p O mO.sh (XV S p K K' F mO cs) π.img (gr fr' (E++cs)) w':=by
 induction h with
 |@fin c J=>
  intro π fr' E w' A W Z X;refine .stop λu l=>?_;have G:bB π.sh π.img w' u:=⟨l.size,λb M=>l.keep b (M.imp id λx=>(A.sh b).2 x),l.os⟩;have J:=J u.tape u.drawn;have j:c.seg=[]:=J.atEnd.1;obtain⟨k,k',hf,B,_⟩:=Z;rw[j]at B;cases B with
  |nil=>exact⟨π,c.fr,fr',tp c.w u.tape u.drawn,λb=>Iff.rfl,A,rfl,hf,X.rely G _ _,rfl,rfl,⟨rfl,J.atEnd.2⟩,J.ans⟩
  |cons ht=>cases ht
 |@step c f Y h1 _ ih=>
  intro π fr' E w' A W Z X;have y:∀u,bB mO.sh π.img w' u->∃bg n s d es',stepG p O (gr fr' (E++cs)) u=.go (gr n (s++cs)) d es'/\Je S p bg K K' (f u.tape u.drawn).fr n (f u.tape u.drawn).seg s/\Turns π bg u d/\bI S bg (f u.tape u.drawn).w d/\(∀e∈es',vM bg e):=by
   intro u l;have G:bB π.sh π.img w' u:=⟨l.size,λb M=>l.keep b (M.imp id λx=>(A.sh b).2 x),l.os⟩;obtain⟨es,q⟩:=(h1 u.tape u.drawn).go1;obtain⟨o,v,R,e⟩|⟨bg,D,n,Q,s,w₁,d,R,es',e1,e2,V,T,L,hE,_⟩:=Gg (cs:=[door p]) (cs':=cs) hB W hK (X.rely G u.tape u.drawn) rfl rfl Z Y true O
   .have z:stepG p true (gr c.fr (c.seg++[door p])) (tp c.w u.tape u.drawn)=_:=q;rw[e]at z;cases z
   .have z:stepG p true (gr c.fr (c.seg++[door p])) (tp c.w u.tape u.drawn)=_:=q;rw[e1]at z;simp only[GStep.go.injEq,gr,Goroutine.mk.injEq,true_and,and_true]at z;obtain⟨⟨rfl,j⟩,rfl,_⟩:=z;have j:=List.append_cancel_right j;subst j;exact⟨bg,n,s,d,es',e2,V,T,L,hE⟩
  have guar:∀{u d:au}{bg:Map}{w₁:au},Turns π bg u d->bI S bg w₁ d->jW π.img bg.img u d:=by intro u d bg w₁ T L;refine⟨λb⟨a,C⟩=>⟨a,T.le.own _ _ C⟩,λb⟨a,C⟩=>?_,λb⟨a,C⟩=>(L.lt C).2,T.size,λb M Y=>T.frame b M λa C=>Y ⟨a,C⟩,T.tape,T.os,T.output⟩;exact(T.fresh a b C).imp (λx=>⟨a,x⟩) id
  have U:∀{bg:Map}{e:Event},π.le bg->vM bg e->qH mO.sh bg.img e:=by
   intro bg e hl q;unfold vM at q;unfold qH;cases t:e.loc with
   |cell a=>rw[t]at q;exact⟨q.1,q.2.imp id λx=>⟨(A.sh _).2 ((hl.sh _).2 x.1),x.2⟩⟩
   |obj r=>rw[t]at q;exact q
   |output=>trivial
   |goroutines=>rw[t]at q;exact q
   |mark m=>rw[t]at q;cases m<;>exact q
  classical
  let P:au->Map:=λu=>if h:bB mO.sh π.img w' u then(y u h).choose else π
  let H:au->Frame:=λu=>if h:bB mO.sh π.img w' u then(y u h).choose_spec.choose else fr'
  let I:au->List Frame:=λu=>if h:bB mO.sh π.img w' u then(y u h).choose_spec.choose_spec.choose else E
  let Wd:au->au:=λu=>if h:bB mO.sh π.img w' u then(y u h).choose_spec.choose_spec.choose_spec.choose else w'
  let N:au->Array Event:=λu=>if h:bB mO.sh π.img w' u then(y u h).choose_spec.choose_spec.choose_spec.choose_spec.choose else #[]
  have i:∀u,bB mO.sh π.img w' u->stepG p O (gr fr' (E++cs)) u=.go (gr (H u) (I u++cs)) (Wd u) (N u)/\Je S p (P u) K K' (f u.tape u.drawn).fr (H u) (f u.tape u.drawn).seg (I u)/\Turns π (P u) u (Wd u)/\bI S (P u) (f u.tape u.drawn).w (Wd u)/\(∀e∈N u,vM (P u) e):=by intro u h;have:=(y u h).choose_spec.choose_spec.choose_spec.choose_spec.choose_spec;simp only[H,I,Wd,N,P,h,dite_true];exact this
  refine .step (λu=>gr (H u) (I u++cs)) Wd N (λu=>(P u).img) rfl (λu l=>(i u l).1) (λu l=>guar (i u l).2.2.1 (i u l).2.2.2.1) (λu l e q=>U (i u l).2.2.1.le ((i u l).2.2.2.2 e q)) (λu l=>?_);obtain⟨_,V,T,L,_⟩:=i u l;exact ih u.tape u.drawn (P u) (H u) (I u) (Wd u) (A.trans T.le) (by rw[T.le.g];exact W) V L
def Ao(p:Program)(Q:aA->au->Prop)(f:FuncId)(fr:Frame)(w:au):Prop:=fr.fn=f/\∃v,fr.leaving p w (.returned v)/\Q v w
theorem BJ{S:aD}(e:∀v w t d,Q v w->Q v (tp w t d))(f:FuncId):Free S p [] (Ao p Q f):=by intro c g _ F t d;obtain⟨b,v,⟨o,r,s,func,u,l5⟩,n⟩:=F;refine⟨b,v,⟨o,r,s,func,u,?_⟩,e _ _ _ _ n⟩;obtain⟨π,l,⟨k,k',j,_,_⟩,m⟩:=g;have a:=sG (S:=S) (p:=p) (π:=π) func j.tmps;have:=loc a c.w c.w m (by rw[l5];exactλh=>h) t d Q6;rw[l5]at this;simp only[fin,XR,Nat.sub_self,oI]at this;exact this
theorem lift{S:aD}(B:fH S p)(x:∀v w t d,Q v w->Q v (tp w t d)){f:FuncId}(o:S f){a r:Array aA}(z:p.globals.size=π.g)
 (b:∀t d,Calls p f a (tp w t d) (λe u=>∃v,e=.returned v/\Q v u))(s:∃bg:Map,p.globals.size=bg.g/\bq S bg a a/\bI S bg w w)
 (y:bq S π a r)(A:bI S π w w')(q:Bool)(cs:List Frame):
 iK p q π.sh (XV S p [] [] (Ao p Q f) π cs) π.img (gr (Frame.enter p f r .normal) cs) w':=by
 have L:Ak (Ao p Q f) p [] ⟨Frame.enter p f a .normal,[],w⟩:=by intro t d;obtain⟨e,u,fr,⟨v,rfl,D⟩,⟨n,C⟩,l,m⟩:=b t d [door p];exact⟨n,⟨fr,[],u⟩,C,⟨rfl,.inl ⟨m.2.1,by rw[m.1];simp⟩⟩,l,v,m,D⟩
 obtain⟨bg,j,i,k⟩:=s;have T:=Gl _ B (.inl ⟨rfl,rfl⟩) (BJ x f) (c:=⟨Frame.enter p f a .normal,[],w⟩) ⟨bg,j,⟨[],[],.enter B o i,.nil,λh=>(h rfl).elim⟩,k⟩ L;exact CG B (.inl ⟨rfl,rfl⟩) q cs T π _ [] w' (.refl _) z ⟨[],[],.enter B o y,.nil,λh=>(h rfl).elim⟩ A
structure fQ(S:aD)(π:Map)(a a':Act):Prop where
 tmps:bq S π a.tmps a'.tmps
 defers:a.defers=[]/\a'.defers=[]
def qI:Nat->aA->Bool
 |0,_=>false
 |n+1,v=>match v with
  |.bool _|.int _ _|.string _|.pointer none|.slice none _ _|.map none|.nilFunc|.nilIface=>true
  |.iface _ x=>qI n x
  |.agg xs|.tuple xs=>xs.all (qI n)
  |_=>false
theorem nO:∀(n:Nat)(v:aA),qI n v=true->Flat v
 |0,_,h=>by simp[qI]at h
 |n+1,v,h=>by
  have d:∀xs:Array aA,xs.all (qI n)=true->∀i,i<xs.size->Flat (xs.getD i ak):=by intro xs f i e;have:=nO n xs[i] (by rw[Array.all_eq_true]at f;exact f i e);simpa[Array.getD,e]using this
  cases v with
  |bool b=>exact .bool b
  |int k m=>exact .int k m
  |string s=>exact .string s
  |pointer a=>cases a with
   |none=>exact .jL
   |some a=>simp[qI]at h
  |slice a l c=>cases a with
   |none=>exact .dQ l c
   |some a=>simp[qI]at h
  |map r=>cases r with
   |none=>exact .iT
   |some a=>simp[qI]at h
  |nilFunc=>exact .nilFunc
  |nilIface=>exact .nilIface
  |iface t x=>exact .iface t (nO n x Z6)
  |agg xs=>exact .agg (d xs Z6)
  |tuple xs=>exact .tuple (d xs Z6)
  |_=>simp[qI]at h
def Ap(p:Program)(t:bf):Bool:=
 match p.info? t with
 |none=>true
 |some i=>match i.zero with
  |none=>true
  |some v=>qI 20 v
theorem qj{t:bf}(h:Ap p t=true):kU p t:=by intro i v a b;unfold Ap at h;rw[a]at h;simp only[b]at h;exact nO _ _ h
def Gm(p:Program)(t:bf):Bool:=
 match p.underlying t with
 |some (.slice e)=>Ap p e
 |_=>true
theorem rC{t:bf}(h:Gm p t=true):∀e,p.underlying t=some (.slice e)->kU p e:=by intro e a;unfold Gm at h;rw[a]at h;exact qj h
def jd(s:Nat->Bool):Operand->Bool
 |.tmp _=>true
 |.const v=>qI 20 v
 |.global _=>false
 |.func f=>s f
theorem aY{o:Operand}(h:jd s o=true):bE (λf=>s f=true) o:=by
 cases o with
 |tmp t=>trivial
 |const v=>exact nO _ _ h
 |global g=>cases h
 |func f=>exact h
theorem vY{x:Array Operand}(h:x.all (jd s)=true):∀o∈x,bE (λf=>s f=true) o:=by intro o a;rw[Aq]at h;exact aY (h o a)
theorem uL{x:Option Operand}(h:x.all (jd s)=true):∀o∈x,bE (λf=>s f=true) o:=by
 intro o a;cases x with
 |none=>cases a
 |some y=>cases a;exact aY X5
theorem vZ{x:Array (Nat×Operand)}(h:x.all (λy=>jd s y.2)=true):∀o∈x,bE (λf=>s f=true) o.2:=by intro o a;rw[Aq]at h;exact aY (h o a)
def XW:Operand->Bool
 |.const (.pointer none)|.const (.slice none _ _)|.const (.map none)|.const .nilFunc|.const .nilIface=>true
 |_=>false
theorem Ar{o:Operand}(h:XW o=true):∃v,o=.const v/\vR v:=by
 cases o with
 |const v=>
  refine⟨v,rfl,?_⟩;cases v with
  |pointer a=>cases a with
   |none=>exact .ptr
   |some a=>cases h
  |slice a l c=>cases a with
   |none=>exact .slice l c
   |some a=>cases h
  |map r=>cases r with
   |none=>exact .map
   |some a=>cases h
  |nilFunc=>exact .func
  |nilIface=>exact .iface
  |_=>cases h
 |_=>cases h
def Gp(p:Program)(t:bf):Bool:=
 match p.info? t with
 |none=>true
 |some i=>match i.desc with
  |.named n _=>n != "sync.copyChecker"
  |_=>true
def eqB(p:Program)(t:bf)(x y:Operand):Bool:=
 XW x||XW y||(match p.underlying t with
  |some .bool|some .string=>true
  |some (.int _)=>Gp p t
  |_=>false)
theorem ND{t:bf}{x y:Operand}(h:eqB p t x y=true):p.underlying t=some .bool\/p.underlying t=some .string\/(∃k,p.underlying t=some (.int k)/\∀i u,p.info? t=some i->i.desc≠ .named "sync.copyChecker" u)\/(∃v,x=.const v/\vR v)\/(∃v,y=.const v/\vR v):=by
 unfold eqB at h;rw[Bool.or_eq_true,Bool.or_eq_true]at h;obtain(h|h)|h:=h
 .exact .inr (.inr (.inr (.inl (Ar h))))
 .exact .inr (.inr (.inr (.inr (Ar h))))
 .split at h
  .rename_i e;exact .inl e
  .rename_i e;exact .inr (.inl e)
  .rename_i k e;refine .inr (.inr (.inl ⟨k,e,λi u a d=>?_⟩));unfold Gp at h;rw[a]at h;simp only[d]at h;simp at h
  .cases h
def KX(p:Program)(e:bf):Bool:=
 match p.underlying e with
 |some (.int .u8)=>true
 |_=>false
theorem yD{e:bf}(h:KX p e=true):p.underlying e=some (.int .u8):=by
 unfold KX at h
 split at h
 .assumption
 .cases h
def Qg(p:Program)(a b:bf):Bool:=
 match p.underlying a with
 |some .unsafePointer=>false
 |some (.slice e)=>(match p.underlying b with|some (.int _)=>true|some .string=>KX p e|_=>false)
 |some .string=>(match p.underlying b with|some (.int _)=>true|some .string=>true|some (.slice e)=>KX p e|_=>false)
 |_=>(match p.underlying b with|some (.int _)=>true|_=>false)
theorem Gq{a b:bf}(h:Qg p a b=true):uJ p a b:=by
 unfold Qg at h
 split at h
 .cases h
 .rename_i e d
  split at h
  .rename_i k c;exact .int k c (by rw[d];simp)
  .rename_i c;exact .str e d c (yD h)
  .cases h
 .rename_i d
  split at h
  .rename_i k c;exact .int k c (by rw[d];simp)
  .rename_i c;exact .same d c
  .rename_i e c;exact .bytes e d c (yD h)
  .cases h
 .rename_i n f g
  split at h
  .rename_i k c;exact .int k c n
  .cases h
def wh(p:Program)(ts:Array bf):Builtin->Bool
 |.append=>(match ts[0]? with|some t=>Gm p t|none=>true)
 |.len=>(match ts[0]? with|some t=>(match p.underlying t with|some (.map ..)|some (.chan ..)=>false|_=>true)|none=>true)
 |.copy|.unsafeString=>true
 |_=>false
theorem Au{b:Builtin}(h:wh p ts b=true):mD p ts b:=by
 cases b with
 |append=>refine .append λt e a f=>?_;simp only[wh,a]at h;exact rC h e f
 |len=>refine .len λt d a c=>?_;simp only[wh,a,c]at h;cases d<;>first|(cases h;done)|exact⟨X0,X0⟩
 |copy=>exact .copy
 |unsafeString=>exact .str
 |_=>cases h
def Ea(s:Nat->Bool)(p:Program)(c:Call):Bool:=c.args.all (jd s)&&(match c.callee with|.value (.func f)=>s f|.builtin b=>wh p c.argTypes b|_=>false)
theorem BK{c:Call}(h:Ea s p c=true):vX (λf=>s f=true) p c:=by
 unfold Ea at h;rw[gu]at h;obtain⟨d,a⟩:=h
 split at a
 .rename_i f e;exact .value f e a (vY d)
 .rename_i b e;exact .builtin b e (Au a) (vY d)
 .cases a
def Cn(s:Nat->Bool)(p:Program):Op->Bool
 |.move x|.assign x|.box _ x|.load _ x|.nilCheck x|.unOp _ _ x|.fieldAddr _ x _|.field _ x _|.extract x _=>jd s x
 |.pick c a b=>jd s c&&jd s a&&jd s b
 |.alloc t=>Ap p t
 |.build t x=>Ap p t&&x.all (λy=>jd s y.2)
 |.buildSlice t _ x=>Gm p t&&x.all (λy=>jd s y.2)
 |.store _ x y|.indexAddr _ x y|.index _ x y=>jd s x&&jd s y
 |.binOp op t x y _=>jd s x&&jd s y&&(match op with|.eql|.neq=>eqB p t x y|_=>true)
 |.convert a b x=>jd s x&&Qg p a b
 |.makeSlice t x y=>Gm p t&&jd s x&&jd s y
 |.slice _ x a b c=>jd s x&&a.all (jd s)&&b.all (jd s)&&c.all (jd s)
 |.call c=>Ea s p c
 |_=>false
theorem CJ{o:Op}(h:Cn s p o=true):gF (λf=>s f=true) p o:=by
 cases o with
 |move x=>exact .move x (aY h)
 |assign x=>exact .assign x (aY h)
 |box t x=>exact .box t x (aY h)
 |load t x=>exact .load t x (aY h)
 |nilCheck x=>exact .nilCheck x (aY h)
 |unOp op t x=>exact .unOp op t x (aY h)
 |fieldAddr t x f=>exact .fieldAddr t x f (aY h)
 |field t x f=>exact .field t x f (aY h)
 |extract x i=>exact .extract x i (aY h)
 |pick c a b=>simp only[Cn,gu]at h;exact .pick c a b (aY h.1.1) (aY h.1.2) (aY h.2)
 |alloc t=>exact .alloc t (qj h)
 |build t x=>simp only[Cn,gu]at h;exact .build t x (qj h.1) (vZ h.2)
 |buildSlice t n x=>simp only[Cn,gu]at h;exact .buildSlice t n x (rC h.1) (vZ h.2)
 |store t x y=>simp only[Cn,gu]at h;exact .store t x y (aY h.1) (aY h.2)
 |indexAddr t x y=>simp only[Cn,gu]at h;exact .indexAddr t x y (aY h.1) (aY h.2)
 |index t x y=>simp only[Cn,gu]at h;exact .index t x y (aY h.1) (aY h.2)
 |binOp op t x y u=>simp only[Cn,gu]at h;refine .binOp op t x y u (aY h.1.1) (aY h.1.2) λd=>?_;have e:=h.2;obtain rfl|rfl:=d<;>exact ND e
 |convert a b x=>simp only[Cn,gu]at h;exact .convert a b x (aY h.1) (Gq h.2)
 |makeSlice t x y=>simp only[Cn,gu]at h;exact .makeSlice t x y (rC h.1.1) (aY h.1.2) (aY h.2)
 |slice t x a b c=>simp only[Cn,gu]at h;exact .slice t x a b c (aY h.1.1.1) (uL h.1.1.2) (uL h.1.2) (uL h.2)
 |call c=>exact .call c (BK h)
 |_=>cases h
def rD(s:Nat->Bool)(p:Program):Code->Bool
 |.skip|.ret|.label _|.exit _|.refuse _=>true
 |.region _ ops _=>ops.all λo=>Cn s p o.op
 |.seq a b=>rD s p a&&rD s p b
 |.cond c a b=>jd s c&&rD s p a&&rD s p b
 |.block _ a|.loop a|.scope a=>rD s p a
 |_=>false
theorem gy:∀{c:Code},rD s p c=true->eF (λf=>s f=true) p c
 |.skip,_=>.skip
 |.ret,_=>.ret
 |.label l,_=>.label l
 |.exit l,_=>.exit l
 |.refuse m,_=>.refuse m
 |.region id e d,h=>.region id e d λo g=>by
  simp only[rD,Aq]at h
  exact CJ (h o g)
 |.seq a b,h=>by simp only[rD,gu]at h;exact .seq (gy h.1) (gy h.2)
 |.cond c a b,h=>by simp only[rD,gu]at h;exact .cond (aY h.1.1) (gy h.1.2) (gy h.2)
 |.block id a,h=>.block id (gy y7)
 |.loop a,h=>.loop (gy y7)
 |.scope a,h=>.scope (gy y7)
 |.rangeFunc ..,h=>by cases h
 |.goto _,h=>by cases h
def aaR(s:Nat->Bool)(p:Program)(f:Nat):Bool:=
 match p.funcs[f]? with
 |some fn=>(match fn.body with|some c=> !(fn.name== "runtime.NumGoroutine")&&rD s p c|none=>false)
 |none=>false
theorem Av(fs:List Nat)(h:fs.all (aaR (fs.contains ·) p)=true)(d:p.info? (p.globals.size+1000000)=none):fH (λf=>fs.contains f=true) p:=by
 refine⟨λf g=>?_,d⟩;have a:f∈fs:=by simpa using g
 have:=List.all_eq_true.1 h f a;unfold aaR at this
 split at this
 .rename_i n e
  split at this
  .rename_i c b;rw[gu]at this;exact⟨n,c,e,b,by simpa using this.1,gy this.2⟩
  .cases this
 .cases this
structure Apt(Sh Mx:Loc->Prop)(W R:Nat->Loc->Prop):Prop where
 ww:∀g g' l,W g l->W g' l->g=g'
 wr:∀g g' l,W g l->¬R g' l
 ws:∀g l,W g l->¬Sh l
 rs:∀g l,R g l->¬Sh l
 wm:∀g l,W g l->l.isMemory=true
 rm:∀g l,R g l->l.isMemory=true
 sm:∀l,Sh l->l.isMemory=true
 mm:∀l,Mx l->l.isMemory=true
 ms:∀l,Mx l->¬Sh l
 mw:∀g l,W g l->¬Mx l
 mr:∀g l,R g l->¬Mx l
structure TL(Sh Mx:Loc->Prop)(Al:aD)(W R:Nat->Loc->Prop)(t:Trace):Prop where
 quiet:Quiet Sh t
 mx:∀i x,touchAt t i=some x->Mx x.loc->x.kind=.atomic\/∀g,Al g->Knows t g i
 w:∀g l,W g l->Perm t g l
 r:∀g l,R g l->PermW t g l
 nr:∀said,¬Race said t
def Okm(Sh Mx:Loc->Prop)(Al:aD)(W R:Nat->Loc->Prop)(g:Nat)(op:MemOp):Prop:=op.g=g/\∀x,op.act.touch?=some x->x.loc.isMemory=true->(Sh x.loc/\x.kind≠ .plain/\(x.kind=.said->g=0))\/W g x.loc\/(R g x.loc/\x.write=false)\/(Mx x.loc/\x.kind=.atomic/\Al g)
theorem BL{a b:Touch}(h:a.conflicts said b):¬(a.kind=.atomic/\b.kind=.atomic):=by
 rintro⟨c,d⟩;obtain e|e|⟨_,e,_⟩:=h.2.2.2
 .rw[c]at e;cases e
 .rw[d]at e;cases e
 .rw[c]at e;cases e
theorem TL.app{u:Trace}(A:Apt Sh Mx W R)(h:TL Sh Mx Al W R t)(n:∀op∈u,Okm Sh Mx Al W R g op):TL Sh Mx Al W R (t++u):=by
 refine⟨h.quiet.app λop o x y s=>?_,λi x y m=>?_,λf l c=>(h.w f l c).app λop o b v e=>?_,λf l c=>(h.r f l c).app λop o b v e hw=>?_,λsaid=>noRace_append (h.nr said) (λop o=>(n op o).1) λi a z op o b v k=>?_⟩
 .rcases(n op o).2 x y (A.sm _ s)with⟨_,q,D⟩|d|⟨j,_⟩|⟨m,_⟩
  .exact⟨q,λe=>(n op o).1.trans (D e)⟩
  .exact aF s (A.ws g _ d)
  .exact aF s (A.rs g _ j)
  .exact aF s (A.ms _ m)
 .obtain⟨op,d,SY⟩:=touch_of y;obtain⟨G,Ji⟩|⟨_,E⟩:=getElem?_append_cases d
  .obtain p|p:=h.mx i x E5 m
   .exact .inl p
   .exact .inr λg F=>(p g F).app u
  .rcases(n op E).2 x SY (A.mm _ m)with⟨s,_⟩|d|⟨j,_⟩|⟨_,q,_⟩
   .exact aF s (A.ms _ m)
   .exact aF m (A.mw g _ d)
   .exact aF m (A.mr g _ j)
   .exact .inl q
 .rcases(n op o).2 b v (by rw[e];exact A.wm _ _ c)with⟨s,_⟩|d|⟨j,_⟩|⟨m,_⟩
  .exact aF (e▸s) (A.ws f l c)
  .rw[(n op o).1];exact A.ww g f l (e▸d) c
  .exact aF (e▸j) (A.wr f g l c)
  .exact aF (e▸m) (A.mw f l c)
 .rcases(n op o).2 b v (by rw[e];exact A.rm _ _ c)with⟨s,_⟩|d|⟨_,j⟩|⟨m,_⟩
  .exact aF (e▸s) (A.rs f l c)
  .exact aF c (A.wr g f l (e▸d))
  .rw[j]at hw;cases hw
  .exact aF (e▸m) (A.mr f l c)
 .have m:b.loc.isMemory=true:=by have:=k.2.1;rw[k.1]at this;exact this
  rcases(n op o).2 b v m with⟨s,q,D⟩|d|⟨j,C⟩|⟨y,q,B⟩
  .exact h.quiet.known s q D i a z k
  .exact h.w g b.loc d i a z k.1
  .exact h.r g b.loc j i a z k.1 (k.2.2.1.resolve_right (by simp[C]))
  .obtain p|p:=h.mx i a z (by rw[k.1];exact y)
   .exact aF ⟨p,q⟩ (BL k)
   .exact p g B
theorem TL.turn{M:Loc->Prop}(h:TL Sh Mx Al W R t)(o:∀l,Sh' l->Sh l\/∀i a,touchAt t i=some a->a.loc≠l)(b:∀l,M l->(Mx l/\∀g,SS g->Al g)\/∀g,SS g->W g l)(hw:∀g l,W' g l->W g l\/∀i a,touchAt t i=some a->a.loc≠l)(n:∀g l,R' g l->R g l\/W g l):TL Sh' M SS W' R' t:=
 ⟨λi op x f b s=>(o x.loc s).elim (h.quiet i op x f b) λy=>(y i x (by rw[touchAt_of f];exact b) rfl).elim,
   λi x j m=>(b _ m).elim (λy=>(h.mx i x j y.1).imp id λz g c=>z g (y.2 g c)) λy=>.inr λg c=>h.w g _ (y g c) i x j rfl,
   λg l d=>(hw g l d).elim (h.w g l) λy i a k e=>(y i a k e).elim,
   λg l d=>(n g l d).elim (h.r g l) λy=>.of (h.w g l y),h.nr⟩
theorem rE{k:Nat}{x:MemOp}(e:x.g=0/\x.act=.go k)(f:y.g=k/\y.act=.start){a:Touch}(d:touchAt (t++#[x,y]) i=some a):touchAt t i=some a:=by
 obtain⟨z,j,h⟩:=touch_of d;obtain⟨_,c⟩|⟨_,b⟩:=getElem?_append_cases j
 .rw[touchAt_of c];exact h
 .simp only[List.mem_toArray,lS,List.not_mem_nil,or_false]at b;obtain rfl|rfl:=b
  .rw[e.2]at h;cases h
  .rw[f.2]at h;cases h
theorem TL.fork(h:TL Sh Mx Al W R t){k:Nat}{x:MemOp}(f:x.g=0/\x.act=.go k)(j:y.g=k/\y.act=.start)(p:Deaf t 0=0)(u:Deaf t k=0)(q:Al 0)(m:∀g,SS g->Al g\/g=k)
 (hw:∀g l,W' g l->W g l\/(g=k/\W 0 l))(B:∀g l,R' g l->R g l\/(g=k/\R 0 l)):TL Sh Mx SS W' R' (t++#[x,y]):=by
 have n:∀op∈#[x,y],∀b,op.act.touch?=some b->False:=by
  intro op o b c;simp only[List.mem_toArray,lS,List.not_mem_nil,or_false]at o;obtain rfl|rfl:=o
  .rw[f.2]at c;cases c
  .rw[j.2]at c;cases c
 refine⟨h.quiet.app λop o b c _=>(n op o b c).elim,λi a v A=>?_,λg l d=>?_,λg l d=>?_,λsaid=>?_⟩
 .refine(h.mx i a (rE f j v) A).imp id λz g s=>?_;obtain s|rfl:=m g s
  .exact(z g s).app _
  .exact fork_knows f j p u (z 0 q)
 .obtain d|⟨rfl,d⟩:=hw g l d
  .exact(h.w g l d).app λop o b c _=>(n op o b c).elim
  .exact λi a m e=>fork_knows f j p u (h.w 0 l d i a (rE f j m) e)
 .obtain d|⟨rfl,d⟩:=B g l d
  .exact(h.r g l d).app λop o b c _ _=>(n op o b c).elim
  .exact λi a m e w=>fork_knows f j p u (h.r 0 l d i a (rE f j m) e w)
 .have e:t++#[x,y]=(t++#[x])++#[y]:=by apply Array.ext';simp
  rw[e];refine noRace_append (g:=k) (noRace_append (g:=0) (h.nr said) (λop o=>by simp at o;rw[o];exact f.1) (λi a _ op o b c _=>(n op (by simp at o ⊢;exact .inl o) b c).elim))
   (λop o=>by simp at o;rw[o];exact j.1) (λi a _ op o b c _=>(n op (by simp at o ⊢;exact .inr o) b c).elim)
theorem TL.join(h:TL Sh Mx Al W R t)(s:∀l,Sh' l->Sh l)(hw:∀g l,W' g l->g=0/\¬Sh' l/\l.isMemory=true)(r:∀g l,R' g l->g=0/\¬Sh' l/\l.isMemory=true)(b:∀i a,touchAt t i=some a->¬Sh' a.loc->a.loc.isMemory=true->Knows t 0 i):TL Sh' (λ_=>False) SS W' R' t:=⟨λi op x j k f=>h.quiet i op x j k (s _ f),λ_ _ _ h=>h.elim,λg l d i a c e=>by obtain⟨rfl,s,m⟩:=hw g l d;exact b i a c (e▸s) (e▸m),λg l d i a c e _=>by obtain⟨rfl,s,m⟩:=r g l d;exact b i a c (e▸s) (e▸m),h.nr⟩
def KL(Al:aD)(a:Addr)(p0:Nat)(t:Trace)(i:Nat):Prop:=(∀g,Al g->Knows t g i)\/∃p,p0<=p/\t.act? p=some (.mark (.releaseMerge a))/\t.heard p/\Before t i p
structure TK(Gd Fz:Loc->Prop)(Al:aD)(a:Addr)(p0:Nat)(t:Trace):Prop where
 gd:∀i x,touchAt t i=some x->Gd x.loc->KL Al a p0 t i
 fz:∀i x,touchAt t i=some x->Fz x.loc->x.write=true->KL Al a p0 t i
 Qh:∀k,p0<=k->t.act? k≠some (.mark (.release a))
theorem KL.app{a:Addr}(h:KL Al a p0 t i)(u:Trace):KL Al a p0 (t++u) i:=by
 obtain h|⟨p,d,b,e,f⟩:=h
 .exact .inl λg j=>(h g j).app u
 .have c:=lt_of_act? b;exact .inr ⟨p,d,by rw[act?_old c];exact b,(heard_old c).2 e,f.app u⟩
theorem KL.acquire{a:Addr}(h:KL Al a p0 t i){z:MemOp}(m:z.act=.mark (.acquire a))(l:Deaf t z.g=0)(b:Al z.g)(n:∀k,p0<=k->(t++#[z]).act? k≠some (.mark (.release a))):Knows (t++#[z]) z.g i:=by
 have q:(t++#[z])[t.size]? =some z:=by simp
 obtain h|⟨p,o,d,f,j⟩:=h
 .exact(h _ b).app _
 .have c:=lt_of_act? d;have e:HappensBefore (t++#[z]) p t.size:=.single (.inr ⟨.marked c (.inr (by rw[act?_old c];exact d)) (by rw[act?_of q,m]) (λk r _=>n k Q0),(heard_old c).2 f,
   ⟨z.g,by simp[Trace.g?],by rw[deaf_old (aS _)];exact l⟩⟩)
  exact⟨t.size,z,q,rfl,.inr ((j.app #[z]).hb e)⟩
theorem KL.release{a:Addr}(k:Knows t g i)(h:y.g=g)(b:y.act=.mark (.releaseMerge a))(d:Deaf t g=0)(p:p0<=t.size):KL Al a p0 (t++#[y]) i:=by
 have q:(t++#[y])[t.size]? =some y:=by simp
 exact .inr ⟨t.size,p,by rw[act?_of q,b],⟨g,by simp[Trace.g?,h],by rw[deaf_old (aS _)];exact d⟩,.inr (k.hb_new (aS _) q h)⟩
theorem TK.app{u:Trace}{a:Addr}(h:TK Gd Fz Al a p0 t)(g:∀op∈u,∀x,op.act.touch?=some x->¬Gd x.loc/\(Fz x.loc->x.write=false))(r:∀op∈u,op.act≠ .mark (.release a)):TK Gd Fz Al a p0 (t++u):=by
 refine⟨λi x c l=>?_,λi x c l hw=>?_,λk d e=>?_⟩
 .obtain⟨op,b,SY⟩:=touch_of c;obtain⟨_,Ji⟩|⟨_,o⟩:=getElem?_append_cases b
  .exact(h.gd i x E5 l).app u
  .exact((g op o x SY).1 l).elim
 .obtain⟨op,b,SY⟩:=touch_of c;obtain⟨_,Ji⟩|⟨_,o⟩:=getElem?_append_cases b
  .exact(h.fz i x E5 l hw).app u
  .rw[(g op o x SY).2 l]at hw;cases hw
 .obtain⟨op,b,xK⟩:=gL.1 e;obtain⟨_,Ji⟩|⟨_,o⟩:=getElem?_append_cases b
  .exact h.Qh k d H6
  .exact r op o xK
theorem TK.turn{G F:Loc->Prop}{a:Addr}(h:TK Gd Fz Al a p0 t)(e:∀g,SS g->Al g)(b:∀l,G l->Gd l)(f:∀l,F l->Fz l):TK G F SS a p0 t:=
 have k:∀{i},KL Al a p0 t i->KL SS a p0 t i:=λh=>h.imp (λz g b=>z g (e g b)) id
 ⟨λi x d c=>k (h.gd i x d (b _ c)),λi x d c hw=>k (h.fz i x d (f _ c) hw),h.Qh⟩
structure yT(Sh:Loc->Prop)(a:Addr)(t:Trace)(k r:Nat):Prop where
 act:t.act? r=some (.mark (.releaseMerge a))
 g:t.g? r=some k
 heard:t.heard r
 after:∀i x,r<i->t.g? i=some k->touchAt t i=some x->x.loc.isMemory=true->Sh x.loc
theorem yT.app{u:Trace}{a:Addr}{k r:Nat}(h:yT Sh a t k r)(f:∀op∈u,op.g=k->∀x,op.act.touch?=some x->x.loc.isMemory=true->Sh x.loc):yT Sh a (t++u) k r:=by
 have c:r<t.size:=lt_of_act? h.act;refine⟨by rw[act?_old c];exact h.act,by rw[g?_old c];exact h.g,(heard_old c).2 h.heard,λi x e b j=>?_⟩;obtain⟨op,d,SY⟩:=touch_of j;obtain⟨l,Ji⟩|⟨_,o⟩:=getElem?_append_cases d
 .exact h.after i x e (by rw[<-g?_old (u:=u) l];exact b) E5
 .refine f op o ?_ x SY;simp only[Trace.g?,d,gq,iV]at b;exact b
theorem Qi{a:Addr}{q:Nat}(u:t.act? q=some (.mark (.acquire a)))(n:t.g? q=some 0)(z:t.heard q)(B:∀k,p0<=k->t.act? k≠some (.mark (.release a)))
 (d:∀i x g,touchAt t i=some x->¬Sh x.loc->x.loc.isMemory=true->t.g? i=some g->g=0\/Knows t 0 i\/∃r,p0<=r/\yT Sh a t g r/\r<q):∀i x,touchAt t i=some x->¬Sh x.loc->x.loc.isMemory=true->Knows t 0 i:=by
 intro i x m v p;obtain⟨op,s,C⟩:=touch_of m;have b:t.g? i=some op.g:=by simp[Trace.g?,s]
 obtain⟨w,o,_⟩:=gL.1 u;have f:w.g=0:=by simp only[Trace.g?,o,gq,iV]at n;exact n
 obtain h|h|⟨r,D,c,j⟩:=d i x op.g m v p b
 .rw[<-h];exact knows_own s
 .exact h
 .have e:HappensBefore t r q:=.single (.inr ⟨.marked j (.inr c.act) u (λk E _=>B k Q0),c.heard,z⟩);have A:¬r<i:=λl=>v (c.after i x l b m p);refine⟨q,w,o,f,?_⟩;obtain l|y:=jY i r
  .exact .inr (.trans (.single (.inl ⟨l,op.g,b,c.g⟩)) e)
  .obtain rfl:i=r:=by omega
   exact .inr e
inductive Rk where
 |zero
 |node (f:au->Rk)
inductive Many{α:Type}(r:α->α->Prop):List α->List α->Prop
 |head {x y:α} (l:List α):r y x->Many r (y::l) (x::l)
 |tail (x:α) {l m:List α}:Many r m l->Many r (x::m) (x::l)
theorem Many.wf{r:α->α->Prop}(h:WellFounded r):WellFounded (Many r):=by
 have cons:∀x,Acc r x->∀l,Acc (Many r) l->Acc (Many r) (x::l):=by
  intro x d
  induction d with
  |intro x _ c=>
   intro l b
   induction b with
   |intro l b i=>
    refine⟨_,λm a=>?_⟩;cases a with
    |head _ y=>exact c _ y l ⟨_,b⟩
    |tail _ a=>exact i _ a
 refine⟨λl=>?_⟩
 induction l with
 |nil=>exact⟨_,λm a=>by cases a⟩
 |cons x l e=>exact cons x (h.apply x) l e
theorem Many.set{r:α->α->Prop}:∀(l:List α)(i:Nat)(x y:α),l[i]? =some x->r y x->Many r (l.set i y) l
 |[],i,x,y,h,_=>by simp at h
 |a::l,0,x,y,h,b=>by simp at h;subst h;exact .head l b
 |a::l,i+1,x,y,h,b=>by
  simp only[List.getElem?_cons_succ]at h
  exact .tail a (Many.set l i x y h b)
structure Phase where
 rely:au->au->Prop
 ex:aD
 guar:au->au->Prop
 ev:Event->Prop
structure Qj(F:Phase)(O O':aD)(u v:au):Prop where
 sub:∀b,O b->O' b
 fresh:∀b,O' b->O b\/u.heap.size<=b
 bound:∀b,O' b->b<v.heap.size
 size:u.heap.size<=v.heap.size
 frame:∀b,b<u.heap.size->¬O b->¬F.ex b->v.heap[b]? =u.heap[b]?
 tape:v.tape=u.tape
 os:v.os=u.os
 output:v.output=u.output
 guar:F.guar u v
def Qk(P:Program)(mn:Bool)(Sh:aD)(F:Phase)(Stop:(aD)->dN->au->Prop):Rk->(aD)->dN->au->Prop
 |.zero,O,g,w=>∀u,bB Sh O w u->F.rely w u->Stop O g u
 |.node f,O,g,w=>(∀u,bB Sh O w u->F.rely w u->Stop O g u)\/
   (g.status=.running/\∀u,bB Sh O w u->F.rely w u->∃g' w' es O',stepG P mn g u=.go g' w' es/\Qj F O O' u w'/\(∀e∈es,qH Sh O' e\/F.ev e)/\Qk P mn Sh F Stop (f u) O' g' w')
def bM(P:Program)(mn:Bool)(Sh:aD)(F:Phase)(Stop:(aD)->dN->au->Prop)(O:aD)(g:dN)(w:au):Prop:=∃ρ,Qk P mn Sh F Stop ρ O g w
theorem bM.stop{P:Program}{m:Bool}{Sh:aD}{F:Phase}{S:(aD)->dN->au->Prop}{O:aD}{g:dN}{w:au}(h:∀u,bB Sh O w u->F.rely w u->S O g u):bM P m Sh F S O g w:=⟨.zero,h⟩
theorem bM.step{P:Program}{m:Bool}{Sh:aD}{F:Phase}{S:(aD)->dN->au->Prop}{O:aD}{g:dN}{w:au}(r:g.status=.running)(h:∀u,bB Sh O w u->F.rely w u->∃i w' es f,stepG P m g u=.go i w' es/\Qj F O f u w'/\(∀e∈es,qH Sh f e\/F.ev e)/\bM P m Sh F S f i w'):bM P m Sh F S O g w:=by
 classical
 have k:∀u,∃ρ,bB Sh O w u->F.rely w u->∃i w' es f,stepG P m g u=.go i w' es/\Qj F O f u w'/\(∀e∈es,qH Sh f e\/F.ev e)/\Qk P m Sh F S ρ f i w':=by
  intro u;by_cases j:bB Sh O w u/\F.rely w u
  .obtain⟨i,w',es,f,a,b,c,ρ,d⟩:=h u j.1 j.2;exact⟨ρ,λ_ _=>⟨i,w',es,f,a,b,c,d⟩⟩
  .exact⟨.zero,λx y=>(j ⟨x,y⟩).elim⟩
 exact⟨.node λu=>(k u).choose,.inr ⟨r,λu a b=>(k u).choose_spec a b⟩⟩
theorem bB.refl(Sh O:aD)(w:au):bB Sh O w w:=⟨aS _,λ_ _=>rfl,.refl _⟩
theorem bB.trans{Sh O:aD}{a b c:au}(h:bB Sh O a b)(d:bB Sh O b c):bB Sh O a c:=⟨bY h.size d.size,λx e=>(d.keep x e).trans (h.keep x e),h.os.trans d.os⟩
structure Wd where
 l:Bool
 k:Bool
 v:Bool
 n:Nat
 deriving DecidableEq
def Wd.int(w:Wd):Int:=(w.l.toNat+2*w.k.toNat+4*w.v.toNat+8*w.n:Nat)
theorem Wd.int_inj{a b:Wd}(h:a.int=b.int):a=b:=by
 obtain⟨l,k,v,n⟩:=a;obtain⟨l',k',v',c⟩:=b;simp only[Wd.int]at h;have:n=c/\l=l'/\k=k'/\v=v':=by cases l<;>cases k<;>cases v<;>cases l'<;>cases k'<;>cases v'<;>simp at h ⊢ <;>omega
 obtain⟨rfl,rfl,rfl,rfl⟩:=this;rfl
inductive Lt where
 |pre
 |loop (aw sv:Bool)
 |q (sv:Bool)
 |r (sv:Bool)
 |a (keep:Bool)
 |hold
 |uc
 |us
 |done
 deriving DecidableEq
section
variable {S : aD} {p : Program} {α : Type} {β : Type} {A : Map -> α -> β -> Prop}
namespace Lt
def cH:Lt->Nat|hold=>1|_=>0
def cA:Lt->Nat|loop true _=>1|_=>0
def cQ:Lt->Nat|q _=>1|_=>0
def cR:Lt->Nat|r _=>1|a _=>1|_=>0
def cP:Lt->Nat|a _=>1|_=>0
def cK:Lt->Nat|a true=>1|_=>0
def cB:Lt->Nat|us=>1|_=>0
def cE:Lt->Nat|uc=>1|_=>0
def cX:Lt->Nat|loop false true=>1|_=>0
def phi:Lt->Nat
 |pre=>8
 |loop false _=>7
 |loop true _=>6
 |q _=>5
 |r _=>6
 |a _=>6
 |hold=>5
 |uc=>4
 |us=>3
 |done=>0
end Lt
end
def cnt(c:Lt->Nat)(j:Nat)(st:Nat->Lt):Nat:=sumTo j λi=>c (st i)
theorem jM(c:Lt->Nat){j:Nat}(st:Nat->Lt)(x:Lt)(h:i<j):cnt c j (upd st i x)+c (st i)=cnt c j st+c x:=sumTo_upd st x c h
theorem je(c:Lt->Nat){j:Nat}(st:Nat->Lt)(h:i<j):c (st i)<=cnt c j st:=le_sumTo (f:=λi=>c (st i)) h
theorem Gs(c:Lt->Nat){j:Nat}(st:Nat->Lt)(x:Lt):cnt c (j+1) (upd st j x)=cnt c j st+c x:=by simp only[cnt,sumTo,upd_same];rw[sumTo_congr (g:=λi=>c (st i)) λi h=>by rw[upd_ne st _ Q0]]
variable {st : Nat -> Lt}
theorem Aw{c:Lt->Nat}:∀{j:Nat},1<=cnt c j st->∃i,i<j/\1<=c (st i)
 |0,h=>by simp[cnt,sumTo]at h
 |j+1,h=>by
  by_cases b:1<=c (st j)
  .exact⟨j,Q0,b⟩
  .have:1<=cnt c j st:=by simp only[cnt,sumTo]at h ⊢;omega
   obtain⟨i,d,a⟩:=Aw this
   exact⟨i,Q0,a⟩
theorem cnt_mono{c d:Lt->Nat}(h:∀x,c x<=d x)(st:Nat->Lt):∀j,cnt c j st<=cnt d j st
 |0=>aS _
 |j+1=>by have:=cnt_mono h st j;have:=h (st j);simp only[cnt,sumTo]at*;omega
theorem Xb(x:Lt):x.cK<=x.cP:=by cases x<;>simp[Lt.cK,Lt.cP]<;>split<;>simp
theorem Xc(x:Lt):x.cP<=x.cR:=by cases x<;>simp[Lt.cP,Lt.cR]
theorem KY{c:Lt->Nat}(h:∀x,c x<=1)(j:Nat)(st:Nat->Lt):cnt c j st<=j:=by have:=sumTo_le (f:=λi=>c (st i)) (c:=1) (j:=j) λi _=>h _;simpa[cnt]using this
structure LI(j:Nat)(st:Nat->Lt)(w:Wd)(s:Nat):Prop where
 h:w.l.toNat=cnt Lt.cH j st
 x:cnt Lt.cX j st=0
 n0:w.v=false->w.k.toNat=cnt Lt.cA j st+cnt Lt.cR j st+s+cnt Lt.cB j st/\cnt Lt.cQ j st=w.n+s+cnt Lt.cB j st/\cnt Lt.cP j st=0/\(w.l=false->w.k=false->0<w.n->1<=cnt Lt.cE j st)
 n1:w.v=true->w.k=false/\cnt Lt.cA j st=0/\cnt Lt.cH j st+s+cnt Lt.cR j st+cnt Lt.cB j st=1/\w.n=cnt Lt.cQ j st+cnt Lt.cR j st/\1<=w.n/\(1<=cnt Lt.cK j st->2<=w.n)
def Uy(j:Nat)(st:Nat->Lt)(s:Nat):Nat:=cnt Lt.phi j st+2*s
inductive Lm:Lt->Wd->Nat->Lt->Wd->aD
 |fast {s:Nat}:Lm .pre ⟨false,false,false,0⟩ s .hold ⟨true,false,false,0⟩ s
 |slow {w:Wd} {s:Nat}:w≠⟨false,false,false,0⟩->Lm .pre w s (.loop false false) w s
 |stay {T:Lt} {w:Wd} {s:Nat}:Lm T w s T w s
 |spin {sv:Bool} {n s:Nat}:0<n->Lm (.loop false sv) ⟨true,false,false,n⟩ s (.loop true sv) ⟨true,true,false,n⟩ s
 |take {aw sv k:Bool} {n s:Nat}:Lm (.loop aw sv) ⟨false,k,false,n⟩ s .hold ⟨true,if aw then false else k,false,n⟩ s
 |queue {aw sv:Bool} {w:Wd} {s:Nat}:(w.l=true\/w.v=true)->Lm (.loop aw sv) w s (.q sv) ⟨w.l,if aw then false else w.k,w.v||(sv&&w.l),w.n+1⟩ s
 |sem {sv:Bool} {w:Wd} {s:Nat}:Lm (.q sv) w (s+1) (.r sv) w s
 |late {sv:Bool} {w:Wd} {s:Nat}:Lm (.r sv) w s (.r true) w s
 |wake {sv:Bool} {w:Wd} {s:Nat}:w.v=false->Lm (.r sv) w s (.loop true sv) w s
 |hand {sv keep:Bool} {w:Wd} {s:Nat}:w.v=true->(keep=true->w.n≠1)->Lm (.r sv) w s (.a keep) w s
 |add {keep k:Bool} {n s:Nat}:Lm (.a keep) ⟨false,k,true,n+1⟩ s .hold ⟨true,k,keep,n⟩ s
 |aaS {l k:Bool} {n s:Nat}:Lm .hold ⟨l,k,true,n⟩ s .us ⟨false,k,true,n⟩ s
 |XY {l k:Bool} {n s:Nat}:(n=0\/k=true)->Lm .hold ⟨l,k,false,n⟩ s .done ⟨false,k,false,n⟩ s
 |aaT {l:Bool} {n s:Nat}:Lm .hold ⟨l,false,false,n+1⟩ s .uc ⟨false,false,false,n+1⟩ s
 |cas {n s:Nat}:Lm .uc ⟨false,false,false,n+1⟩ s .us ⟨false,true,false,n⟩ s
 |leave {w:Wd} {s:Nat}:(w.n=0\/w.l=true\/w.k=true\/w.v=true)->Lm .uc w s .done w s
 |rel {w:Wd} {s:Nat}:Lm .us w s .done w (s+1)
theorem LI.move{j:Nat}{w w':Wd}{s G:Nat}{T g:Lt}(h:LI j st w s)(o:i<j)(C:st i=T)(m:Lm T w s g w' G):LI j (upd st i g) w' G/\Uy j (upd st i g) G<=Uy j st s/\(w'≠w\/G≠s->Uy j (upd st i g) G<Uy j st s):=by
 obtain⟨V,hx,W,Y⟩:=h;have M:=je Lt.cH st o;have D:=je Lt.cA st o;have O:=je Lt.cQ st o;have S:=je Lt.cR st o;have gP:=je Lt.cP st o;have N:=je Lt.cK st o;have I:=je Lt.cB st o;have J:=je Lt.cE st o;have U:=je Lt.cX st o;have L:=je Lt.phi st o;have mK:=cnt_mono Xb st j;have mK':=cnt_mono Xb (upd st i g) j;have mP:=cnt_mono Xc st j;have mP':=cnt_mono Xc (upd st i g) j;have uH:=jM Lt.cH st g o;have uA:=jM Lt.cA st g o;have uQ:=jM Lt.cQ st g o;have uR:=jM Lt.cR st g o;have uP:=jM Lt.cP st g o;have uK:=jM Lt.cK st g o;have uB:=jM Lt.cB st g o;have uE:=jM Lt.cE st g o;have uX:=jM Lt.cX st g o;have uF:=jM Lt.phi st g o;rw[C]at M D O S gP N I J U L uH uA uQ uR uP uK uB uE uX uF;unfold Uy;generalize cnt Lt.cH j st=H at*;generalize cnt Lt.cA j st=A at*;generalize cnt Lt.cQ j st=Q at*;generalize cnt Lt.cR j st=R at*;generalize cnt Lt.cP j st=P at*;generalize cnt Lt.cK j st=K at*;generalize cnt Lt.cB j st=B at*;generalize cnt Lt.cE j st=E at*;generalize cnt Lt.cX j st=X at*;generalize cnt Lt.phi j st=F at*;have fin:∀(t q u R' y K' p x z r:Nat),cnt Lt.cH j (upd st i g)=t->cnt Lt.cA j (upd st i g)=q->cnt Lt.cQ j (upd st i g)=u->cnt Lt.cR j (upd st i g)=R'->cnt Lt.cP j (upd st i g)=y->cnt Lt.cK j (upd st i g)=K'->cnt Lt.cB j (upd st i g)=p->cnt Lt.cE j (upd st i g)=x->cnt Lt.cX j (upd st i g)=z->cnt Lt.phi j (upd st i g)=r->
  (w'.l.toNat=t/\z=0/\(w'.v=false->w'.k.toNat=q+R'+G+p/\u=w'.n+G+p/\y=0/\(w'.l=false->w'.k=false->0<w'.n->1<=x))/\(w'.v=true->w'.k=false/\q=0/\t+G+R'+p=1/\w'.n=u+R'/\1<=w'.n/\(1<=K'->2<=w'.n))/\r+2*G<=F+2*s/\(w'≠w\/G≠s->r+2*G<F+2*s))->
  LI j (upd st i g) w' G/\cnt Lt.phi j (upd st i g)+2*G<=F+2*s/\(w'≠w\/G≠s->cnt Lt.phi j (upd st i g)+2*G<F+2*s):=by
  rintro _ _ _ _ _ _ _ _ _ _ rfl rfl rfl rfl rfl rfl rfl rfl rfl rfl ⟨a,b,c,d,e,f⟩;exact⟨⟨a,b,c,d⟩,e,f⟩
 refine fin _ _ _ _ _ _ _ _ _ _ rfl rfl rfl rfl rfl rfl rfl rfl rfl rfl ?_;generalize cnt Lt.cH j (upd st i g)=t at*;generalize cnt Lt.cA j (upd st i g)=q at*;generalize cnt Lt.cQ j (upd st i g)=u at*;generalize cnt Lt.cR j (upd st i g)=R' at*;generalize cnt Lt.cP j (upd st i g)=y at*;generalize cnt Lt.cK j (upd st i g)=K' at*;generalize cnt Lt.cB j (upd st i g)=p at*;generalize cnt Lt.cE j (upd st i g)=x at*;generalize cnt Lt.cX j (upd st i g)=z at*;generalize cnt Lt.phi j (upd st i g)=r at*;clear fin C o;obtain⟨l,k,v,n⟩:=w;cases m with
 |stay=>
  have e:t=H/\q=A/\u=Q/\R'=R/\y=P/\K'=K/\p=B/\x=E/\z=X/\r=F:=by omega
  obtain⟨rfl,rfl,rfl,rfl,rfl,rfl,rfl,rfl,rfl,rfl⟩:=e;exact⟨V,hx,W,Y,aS _,λh=>by simp at h⟩
 |fast=>simp[Lt.cH,Lt.cA,Lt.cQ,Lt.cR,Lt.cP,Lt.cK,Lt.cB,Lt.cE,Lt.cX,Lt.phi]at* <;>omega
 |slow hw=>cases v<;>cases l<;>cases k<;>simp[Lt.cH,Lt.cA,Lt.cQ,Lt.cR,Lt.cP,Lt.cK,Lt.cB,Lt.cE,Lt.cX,Lt.phi]at* <;>omega
 |@spin sv _ _ Z=>cases sv<;>simp[Lt.cH,Lt.cA,Lt.cQ,Lt.cR,Lt.cP,Lt.cK,Lt.cB,Lt.cE,Lt.cX,Lt.phi]at* <;>omega
 |@take aw sv=>cases aw<;>cases sv<;>cases k<;>simp[Lt.cH,Lt.cA,Lt.cQ,Lt.cR,Lt.cP,Lt.cK,Lt.cB,Lt.cE,Lt.cX,Lt.phi]at* <;>omega
 |@queue aw sv _ _ hw=>cases aw<;>cases sv<;>cases k<;>cases l<;>cases v<;>simp[Lt.cH,Lt.cA,Lt.cQ,Lt.cR,Lt.cP,Lt.cK,Lt.cB,Lt.cE,Lt.cX,Lt.phi]at* <;>omega
 |@sem sv=>cases v<;>cases l<;>cases k<;>simp[Lt.cH,Lt.cA,Lt.cQ,Lt.cR,Lt.cP,Lt.cK,Lt.cB,Lt.cE,Lt.cX,Lt.phi]at* <;>omega
 |@late sv=>cases v<;>cases l<;>cases k<;>simp[Lt.cH,Lt.cA,Lt.cQ,Lt.cR,Lt.cP,Lt.cK,Lt.cB,Lt.cE,Lt.cX,Lt.phi]at* <;>omega
 |@wake sv _ _ hv=>cases sv<;>cases v<;>cases l<;>cases k<;>simp[Lt.cH,Lt.cA,Lt.cQ,Lt.cR,Lt.cP,Lt.cK,Lt.cB,Lt.cE,Lt.cX,Lt.phi]at* <;>omega
 |@hand sv keep _ _ hv hk=>cases sv<;>cases v<;>cases l<;>cases k<;>cases keep<;>simp[Lt.cH,Lt.cA,Lt.cQ,Lt.cR,Lt.cP,Lt.cK,Lt.cB,Lt.cE,Lt.cX,Lt.phi]at* <;>omega
 |@add keep _ _ _=>cases keep<;>cases k<;>simp[Lt.cH,Lt.cA,Lt.cQ,Lt.cR,Lt.cP,Lt.cK,Lt.cB,Lt.cE,Lt.cX,Lt.phi]at* <;>omega
 |aaS=>cases k<;>cases l<;>simp[Lt.cH,Lt.cA,Lt.cQ,Lt.cR,Lt.cP,Lt.cK,Lt.cB,Lt.cE,Lt.cX,Lt.phi]at* <;>omega
 |XY Z=>cases k<;>cases l<;>simp[Lt.cH,Lt.cA,Lt.cQ,Lt.cR,Lt.cP,Lt.cK,Lt.cB,Lt.cE,Lt.cX,Lt.phi]at* <;>omega
 |aaT=>cases l<;>simp[Lt.cH,Lt.cA,Lt.cQ,Lt.cR,Lt.cP,Lt.cK,Lt.cB,Lt.cE,Lt.cX,Lt.phi]at* <;>omega
 |cas=>simp[Lt.cH,Lt.cA,Lt.cQ,Lt.cR,Lt.cP,Lt.cK,Lt.cB,Lt.cE,Lt.cX,Lt.phi]at* <;>omega
 |leave hw=>cases v<;>cases k<;>cases l<;>simp[Lt.cH,Lt.cA,Lt.cQ,Lt.cR,Lt.cP,Lt.cK,Lt.cB,Lt.cE,Lt.cX,Lt.phi]at* <;>omega
 |rel=>cases v<;>cases l<;>cases k<;>simp[Lt.cH,Lt.cA,Lt.cQ,Lt.cR,Lt.cP,Lt.cK,Lt.cB,Lt.cE,Lt.cX,Lt.phi]at* <;>omega
theorem LI.aw{j:Nat}{w:Wd}{s:Nat}(h:LI j st w s)(b:i<j)(T:st i=.loop true sv):w.k=true/\w.v=false:=by
 have g:=je Lt.cA st b;rw[T]at g;simp only[Lt.cA]at g;cases a:w.v with
 |true=>have:=(h.n1 a).2.1;omega
 |false=>
  have:=(h.n0 a).1;cases c:w.k with
  |true=>exact⟨rfl,rfl⟩
  |false=>rw[c]at this;simp at this;omega
theorem LI.woken{j:Nat}{w:Wd}{s:Nat}(h:LI j st w s)(d:i<j)(T:st i=.r sv):(w.v=false->w.k=true)/\(w.v=true->w.l=false/\w.k=false/\1<=w.n):=by
 have g:=je Lt.cR st d;rw[T]at g;simp only[Lt.cR]at g;refine⟨λa=>?_,λa=>?_⟩
 .have:=(h.n0 a).1;cases e:w.k with
  |true=>rfl
  |false=>rw[e]at this;simp at this;omega
 .obtain⟨b,_,m,o,c,_⟩:=h.n1 a;refine⟨?_,b,c⟩;have:=h.h;cases f:w.l with
  |true=>rw[f]at this;simp at this;omega
  |false=>rfl
theorem LI.handed{j:Nat}{w:Wd}{s:Nat}(h:LI j st w s)(b:i<j)(T:st i=.a keep):w.l=false/\w.k=false/\w.v=true/\1<=w.n:=by
 have g:=je Lt.cR st b;have gP:=je Lt.cP st b;rw[T]at g gP;simp only[Lt.cR,Lt.cP]at g gP;cases c:w.v with
 |false=>have:=(h.n0 c).2.2.1;omega
 |true=>
  obtain⟨d,_,m,o,e,_⟩:=h.n1 c;refine⟨?_,d,rfl,e⟩;have:=h.h;cases f:w.l with
  |true=>rw[f]at this;simp at this;omega
  |false=>rfl
theorem LI.held{j:Nat}{w:Wd}{s:Nat}(h:LI j st w s)(f:i<j)(c:st i=.hold):w.l=true/\∀a,a<j->st a=.hold->a=i:=by
 have H:=je Lt.cH st f;rw[c]at H;simp only[Lt.cH]at H;have d:=h.h;refine⟨?_,λa b T=>?_⟩
 .cases k:w.l with
  |true=>rfl
  |false=>rw[k]at d;simp at d;omega
 .by_cases e:a=i
  .exact e
  .exfalso;have u:=jM Lt.cH st .done f;have g:=je Lt.cH (upd st i .done) b;rw[upd_ne _ _ e,T]at g;rw[c]at u;simp only[Lt.cH]at u g;have:w.l.toNat<=1:=by cases w.l<;>simp
   omega
theorem LI.small{j:Nat}{w:Wd}{s:Nat}(h:LI j st w s):w.n<=j+j/\s<=1:=by
 have l:=KY (c:=Lt.cQ) (λx=>by cases x<;>simp[Lt.cQ]) j st;have R:=KY (c:=Lt.cR) (λx=>by cases x<;>simp[Lt.cR]) j st;have:w.k.toNat<=1:=by cases w.k<;>simp
 cases d:w.v with
 |false=>obtain⟨a,b,_⟩:=h.n0 d;omega
 |true=>obtain⟨_,_,a,b,_⟩:=h.n1 d;omega
theorem LI.other{j:Nat}{w:Wd}(h:LI j st w 0)(r:i<j)(T:st i=.q sv):∃d,d<j/\(∀sv,st d≠ .q sv)/\st d≠ .pre/\st d≠ .done:=by
 have Q:=je Lt.cQ st r;rw[T]at Q;simp only[Lt.cQ]at Q;have key:1<=cnt Lt.cH j st\/1<=cnt Lt.cA j st\/1<=cnt Lt.cR j st\/1<=cnt Lt.cB j st\/1<=cnt Lt.cE j st:=by
  have n:=h.h;cases p:w.v with
  |true=>obtain⟨_,_,a,_⟩:=h.n1 p;omega
  |false=>
   obtain⟨a,b,_,c⟩:=h.n0 p;cases o:w.l with
   |true=>rw[o]at n;simp at n;omega
   |false=>
    cases g:w.k with
    |true=>rw[g]at a;simp at a;omega
    |false=>rw[g]at a;simp at a;have:=c o g Q0;omega
 obtain k|k|k|k|k:=key<;>obtain⟨d,f,m⟩:=Aw k<;>refine⟨d,f,λsv e=>?_,λe=>?_,λe=>?_⟩<;>rw[e]at m<;>simp[Lt.cH,Lt.cA,Lt.cR,Lt.cB,Lt.cE]at m
theorem LI.start(s:Nat->Lt):LI 0 s ⟨false,false,false,0⟩ 0:=by refine⟨rfl,rfl,λ_=>⟨rfl,rfl,rfl,λ_ _ h=>aF h U0⟩,λh=>by cases h⟩
theorem LI.spawn{j:Nat}{w:Wd}{s:Nat}(h:LI j st w s):LI (j+1) (upd st j .pre) w s:=by
 refine⟨?_,?_,λv=>?_,λv=>?_⟩
 all_goals simp only[Gs,Lt.cH,Lt.cA,Lt.cQ,Lt.cR,Lt.cP,Lt.cK,Lt.cB,Lt.cE,Lt.cX,oI]
 .exact h.h
 .exact h.x
 .exact h.n0 v
 .exact h.n1 v
theorem LI.finish{j:Nat}{w:Wd}{s:Nat}(h:LI j st w s)(q:∀i,i<j->st i=.done):w=⟨false,false,false,0⟩/\s=0:=by
 have z:∀c:Lt->Nat,c .done=0->cnt c j st=0:=by
  intro c p;obtain e|e:=Nat.eq_zero_or_pos (cnt c j st)
  .exact e
  .obtain⟨i,r,o⟩:=Aw (c:=c) e;rw[q i r,p]at o;omega
 have f:=h.h;rw[z Lt.cH rfl]at f;cases d:w.v with
 |true=>obtain⟨_,_,_,a,b,_⟩:=h.n1 d;rw[z Lt.cQ rfl,z Lt.cR rfl]at a;omega
 |false=>
  obtain⟨a,b,_⟩:=h.n0 d;rw[z Lt.cQ rfl,z Lt.cB rfl]at b;rw[z Lt.cA rfl,z Lt.cR rfl,z Lt.cB rfl]at a;obtain⟨l,k,v,n⟩:=w;simp only at*;refine⟨?_,Q0⟩;have g:l=false:=by cases l<;>simp at f ⊢
  have m:k=false:=by cases k<;>simp at a ⊢;omega
  rw[g,m,d,show n=0 by omega]
end
end Go.Proofs.YtmhafipgbfaapaaGreatDoor.Ren
end
