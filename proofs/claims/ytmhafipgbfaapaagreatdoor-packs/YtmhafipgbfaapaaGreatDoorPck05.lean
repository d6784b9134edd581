import Derived.Test.YtmhafipgbfaapaaGreatDoorAbb0
import Derived.Test.YtmhafipgbfaapaaGreatDoorAbb1
import Derived.Lib.FrozenHead
import Derived.Lib.MakeNoZero
import Derived.Test.YtmhafipgbfaapaaGreatDoorPck00
import Derived.Test.YtmhafipgbfaapaaGreatDoorPck04
set_option maxRecDepth 100000
set_option maxHeartbeats 8000000
namespace Go.Proofs
open Go.Proofs.Tryz
theorem aQ:∀(w:Go.World)(g j:Nat)(c:Array Go.Value)(t:Go.TypeId)(fr:Nat×Nat),w.heap[g]? =Option.some (Go.Obj.cells c t fr)->w.cell? {block:=g,off:=j}=c[j]? :=@Go.cell_of_row
end Go.Proofs
set_option linter.unusedVariables false
set_option linter.unusedSimpArgs false
set_option linter.unusedSectionVars false
namespace Go.Proofs.YtmhafipgbfaapaaGreatDoor
section
open Go.Proofs.Tryz
open Go Go.Proofs.YtmhafipgbfaapaaGreatDoor.Ren Go.Conc Go.ConcN Go.RowKit Go.Conc.Lib Go.ConcR.Gen Go.ConcN.Gen
open Go.ConcR (KK WgAt wgBlock stA smA rd wr mk Payload DC0)
variable {K : Op} {N by' cells d i : Nat} {P : Program} {E Q : aA -> au -> Prop} {a : Act} {args : Array Operand} {ats : Array bf} {b : Frame} {c v v' z : aA} {LA e LD t ty : bf} {dt : Option Tmp} {es : Array Event} {f : Nat -> aA} {Z : Func} {g : FuncId} {j : TypeInfo} {k : List Item} {o : Oper} {p : Array Oper} {C : List Nat} {u w : au} {vs : Array aA} {y : Operand} {ρ : Operand -> aA}
section
variable {f : FuncId} {π : Map} {b : Nat}
def SPk:List Nat:=[50,66,126,57,117,195,196,220,228,125,163,113,194,193,190,224,225,115,127,183,208,219,191,226,82,84,90,92,46,94,22,107,41,103,152,153,101,201,202,106,102,145,200,74,137,42,43,45,89,91,93,95,100,104,105,109,140,142,146,148,149,150,151,158,159,160,162,198,199]
abbrev bT:aD:=λf=>SPk.contains f=true
theorem aH:fH bT prog:=Av SPk M0 M0
theorem dW(h:Cn (λf=>SPk.contains f) prog K=true):gF bT prog K:=CJ h
abbrev rg(f:Func)(n:Nat):Array Oper:=Xn (f.body.getD .skip) n
theorem QT{S:aD}(b:bI S π w u){r d:Nat}(f:π.rel r d):u.shape? d=w.shape? r:=by
 obtain y|⟨y,rfl⟩:=f.or
 .obtain⟨o,p,e,a,g⟩:=b.own _ _ y;cases g with
  |cells ty z h=>simp[World.shape?,e,a,h.1]
  |map n k m=>simp[World.shape?,e,a]
  |number l j=>simp[World.shape?,e,a]
 .obtain⟨c,i,ty,z,q,e,a,h,_⟩:=b.sh _ y;simp[World.shape?,e,a,h.1]
theorem abr{S:aD}(f:bI S π w u){a b c:Addr}(h:bR π a b)(e:bR π a c):b=c:=by
 obtain⟨i,j,k⟩:=b;obtain⟨l,m,n⟩:=c;have o:i=l:=by
  obtain y|⟨y,z⟩:=h.block.or
  .obtain d|⟨d,g⟩:=e.block.or
   .exact f.fn _ _ _ y d
   .exact aF d (f.apart _ _ y).1
  .obtain d|⟨d,g⟩:=e.block.or
   .exact aF y (f.apart _ _ d).1
   .exact z.trans g.symm
 have p:j=m:=h.off.trans e.off.symm;have q:k=n:=h.spot.trans e.spot.symm;rw[o,p,q]
theorem QU{S:aD}{a:Addr}(h:aL S π (.pointer (some a)) v'):∃b,v'=.pointer (some b)/\bR π a b:=by
 cases h with
 |ptr r=>exact⟨_,rfl,r⟩
theorem abt(a:Addr)(c:P.underlying LD=some (.pointer t))(d:P.underlying LA=some .unsafePointer)(f:P.info? t=some j)(b:j.size≠0)(s:w.shape? a.block=some (e,cells))(o:a.off<cells):(convert LD LA (.pointer (some a))).events P w es=es:=by
 have h:¬cells<=a.off:=by omega
 simp[convert,underlying,program,Conv.unsafePointer,Conv.seenAt,viewAt,cellsIn,shape,s,Go.sizeOf,typeInfo,f,b,c,d,Sem.events,Sem.runT,bind,Sem.bind,pure,h,-Sem.runT_eq]
theorem U7(a:Addr)(b:P.underlying LD=some .unsafePointer)(d:P.underlying LA=some (.pointer t))(c:P.info? t=some j)(s:w.shape? a.block=some (e,cells))(h:liesAt P P.depth e (cells/P.cellsOf e) a.off t 1=true):(convert LD LA (.pointer (some a))).events P w es=es:=by simp[convert,underlying,program,Conv.unsafePointer,Conv.seenAt,viewAt,cellsIn,shape,s,Go.sizeOf,typeInfo,c,b,d,Sem.events,Sem.runT,bind,Sem.bind,pure,variablesAt,h,-Sem.runT_eq]
theorem Yq{tp e:bf}(a:Addr)(p:P.underlying tp=some (.pointer e))(t:P.info? e=some j):(binOp .neq tp (.pointer (some a)) (.pointer (some a))).events P w es=es:=by
 have h:∀d:Nat,(Op.equalIn (d+1) tp (.pointer (some a)) (.pointer (some a))).events P w es=es:=λd=>by simp[Op.equalIn,underlying,program,p,Go.sizeOf,typeInfo,t,Sem.events,Sem.runT,bind,Sem.bind,pure,sameAddr,-Sem.runT_eq]
 simp only[binOp];simp[Op.equal,Op.maxDepth,h 9999]
theorem El{x:Array aA->Sem aA}(b:o.op=.call {callee:=.value (.func f),args,argTypes:=ats})(d:P.funcs[f]? =some Z)(h:(Z.name== "runtime.NumGoroutine")=false)(c:Z.body.isNone=true)(n:Extern.findNext Z=none)(e:Extern.find Z=some x):(execOp a.eval o).run P w=((x (args.map a.eval)).run P w).andThen λv g=>.ok (.value v) g:=by unfold execOp;simp[b,resolve,Deferred.ofValue,invoke,Act.eval,run_callFunc_extern d h c n e]
theorem JC{x:Array aA->Sem aA}(b:o.op=.call {callee:=.value (.func f),args,argTypes:=ats})(i:P.funcs[f]? =some Z)(h:(Z.name== "runtime.NumGoroutine")=false)(e:Z.body.isNone=true)(n:Extern.findNext Z=none)(g:Extern.find Z=some x):(execOp a.eval o).events P w #[]=(x (args.map a.eval)).events P w #[⟨.mark (.extern f),false,true⟩]:=by
 have c:¬Z.name= "runtime.NumGoroutine" :=by simpa using h
 have d:Z.body=none:=by simpa using e
 have m:∀es,(mark (.extern f)).events P w es=es.push ⟨.mark (.extern f),false,true⟩:=λes=>rfl;have r:(mark (.extern f)).run P w=.ok () w:=rfl;unfold execOp;simp[b,resolve,Deferred.ofValue,invoke,callFunc,i,c,d,n,g,Act.eval,m,r]
theorem QV(Z:FuncId):seen P Z #[⟨.mark (.extern f),false,true⟩]=#[]:=by simp[seen]
theorem U8(h:o.op=.box t y):(execOp ρ o).run P w=.ok (.value (aJ w.heap.size 0)) (w.alloc (.cells (ρ y).cells t)):=by unfold execOp;rw[h];rfl
theorem LG(b:o.op=.alloc t)(h:(P.info? t).map (·.zero)=some (some z)):(execOp ρ o).run P w=.ok (.value (aJ w.heap.size 0)) (w.alloc (.cells z.cells t)):=by obtain⟨j,a,h⟩:=gL.1 h;unfold execOp;rw[b];simp[Instr.alloc,zeroValue,typeInfo,a,h,newVar,newRow,newObj,Sem.run]
structure JD(w:au)(o:Obj)(u:au):Prop where
 size:u.heap.size=w.heap.size+1
 new:u.heap[w.heap.size]? =some o
 old:∀b,b<w.heap.size->u.heap[b]? =w.heap[b]?
 os:u.os=w.os
theorem JD.of(w:au)(o:Obj):JD w o (w.alloc o):=⟨X0,heap_alloc_new _ _,λb h=>by show(w.heap.push o)[b]? =_;rw[Array.getElem?_push_lt h,iU h],rfl⟩
theorem Yr{x:aA}(h:w.heap[b]? =some (.cells #[x] t)):(w.setCell (aB b 0) v).heap[b]? =some (.cells #[v] t):=by rw[setCell_eq_setRow w b 0 _ _ (0,0) _ h,setRow_heap w b _ _ _ _ h];rfl
end
section
variable [Payload] [Zb] {H : List PF}
theorem CP.yX{y:Nat}(a:b.kind=.normal)(h:At p i (.box t (.tmp y)) (some d))(g:y<N)(c:∀u,JD w (.cells (f y).cells t) u->CP bT prog ty E ⟨b,fa N (aC f d (aJ w.heap.size 0)),aT p C::k⟩ H u):CP bT prog ty E ⟨b,fa N f,aT p (i::C)::k⟩ H w:=CP.fW aH a h (.box t _ trivial) λt n o e=>⟨_,_,U8 e,by rw[aj g];exact(c _ (.of w _)).tp t n⟩
theorem CP.BP(a:b.kind=.normal)(h:At p i (.alloc t) (some d))(c:gF bT prog (.alloc t))(j:(prog.info? t).map (·.zero)=some (some z))(e:∀u,JD w (.cells z.cells t) u->CP bT prog ty E ⟨b,fa N (aC f d (aJ w.heap.size 0)),aT p C::k⟩ H u):CP bT prog ty E ⟨b,fa N f,aT p (i::C)::k⟩ H w:=CP.fW aH a h c λt n o g=>⟨_,_,LG g j,(e _ (.of w _)).tp t n⟩
theorem CP.fmk(c:b.kind=.normal){x m:Nat}(a:At p i (.makeSlice t (.tmp x) (.tmp x)) (some d))(g:gF bT prog (.makeSlice t (.tmp x) (.tmp x)))(B:prog.underlying t=some (.slice e))(r:(prog.info? e).map (λi=>(i.zero,i.size,i.bytes))=some (some z,1,by'))(D:x<N)(y:f x=ah m)(F:by'*m<=281474976710656)(q:m<=9223372036854775807)
 (v:∀u,JD w (.cells (madeCells z.cells m) e) u->CP bT prog ty E ⟨b,fa N (aC f d (aU w.heap.size m m)),aT p C::k⟩ H u):CP bT prog ty E ⟨b,fa N f,aT p (i::C)::k⟩ H w:=by
 obtain⟨j,s,h⟩:=gL.1 r;simp only[Prod.mk.injEq]at h;refine CP.fW aH c a g λl n o A=>⟨_,_,?_,(v _ (.of w _)).tp l n⟩;have:=run_make (P:=prog) (Ren.tp w l n) t e j _ B s h.1 .i64 .i64 (m:Int) (m:Int) Q0 (Int.le_refl _) (by rw[h.2.2,<-Int.natCast_mul];omega) Q0;rw[h.2.1,Nat.mul_one]at this;unfold execOp;rw[A];simp only[aj D,y];rw[Sem.run_bind,this];rfl
end
def cpB(p:Array Oper)(i x d:Nat):Bool:=match p[i]? with
 |some o=>(match o.op with|.move (.tmp y)=>y==x|.assign (.tmp y)=>y==x|_=>false)&&o.dst==some d&&o.guard.isNone
 |none=>false
theorem Yt{x:Nat}(h:cpB p i x d=true):At p i (.move (.tmp x)) (some d)\/At p i (.assign (.tmp x)) (some d):=by
 unfold cpB at h;cases e:p[i]? with
 |none=>rw[e]at h;cases h
 |some o=>
  rw[e]at h;simp only[gu,beq_iff_eq,Option.isNone_iff_eq_none]at h;obtain⟨⟨a,b⟩,c⟩:=h
  split at a
  .rename_i y q;exact .inl ⟨o,e,by rw[q,beq_iff_eq.1 a],b,c⟩
  .rename_i y q;exact .inr ⟨o,e,by rw[q,beq_iff_eq.1 a],b,c⟩
  .cases a
def ksB(p:Array Oper)(i d:Nat):Bool:=match p[i]? with
 |some o=>(match o.op with|.move (.const _)=>true|.assign (.const _)=>true|_=>false)&&o.dst==some d&&o.guard.isNone
 |none=>false
def ksV(p:Array Oper)(i:Nat):aA:=match p[i]? with
 |some o=>(match o.op with|.move (.const c)=>c|.assign (.const c)=>c|_=>ak)
 |none=>ak
theorem Yu(h:ksB p i d=true)(a:ksV p i=c):At p i (.move (.const c)) (some d)\/At p i (.assign (.const c)) (some d):=by
 unfold ksB at h;unfold ksV at a;cases e:p[i]? with
 |none=>rw[e]at h;cases h
 |some o=>
  rw[e]at h a;simp only[gu,beq_iff_eq,Option.isNone_iff_eq_none]at h a;obtain⟨⟨b,f⟩,g⟩:=h
  split at b
  .rename_i y q;rw[q]at a;simp only at a;exact .inl ⟨o,e,by rw[q,a],f,g⟩
  .rename_i y q;rw[q]at a;simp only at a;exact .inr ⟨o,e,by rw[q,a],f,g⟩
  .cases b
section
variable [Payload] [Zb] {H : List PF}
theorem GQ(h:o.op=K):o={o with op:=K}:=by cases o;cases h;rfl
theorem kC(x d:Nat)(h:CP bT prog ty E ⟨b,fa N (aC f d (f x)),aT p C::k⟩ H w)(e:x<N:=by decide)(c:b.kind=.normal:=by rfl)(a:cpB p i x d=true:=by kernel_rfl):CP bT prog ty E ⟨b,fa N f,aT p (i::C)::k⟩ H w:=CP.fC e aH c (Yt a) h
theorem kK(c:aA)(d:Nat)(h:CP bT prog ty E ⟨b,fa N (aC f d c),aT p C::k⟩ H w)(j:Flat c:=by first|exact .int _ _|exact .bool _|exact .string _|exact .dQ _ _|exact .jL|exact .nilIface)(g:b.kind=.normal:=by rfl)(a:ksB p i d=true:=by kernel_rfl)(e:ksV p i=c:=by kernel_rfl):CP bT prog ty E ⟨b,fa N f,aT p (i::C)::k⟩ H w:=CP.fK j aH g (Yu a e) h
theorem kV(K:Op)(d:Nat)(v:aA)(hr:∀t n(o:Oper),(execOp (fa N f).eval {o with op:=K}).run prog (Ren.tp w t n)=.ok (.value v) (Ren.tp w t n))(h:CP bT prog ty E ⟨b,fa N (aC f d v),aT p C::k⟩ H w)(c:b.kind=.normal:=by rfl)(a:At p i K (some d):=by exact .of M0)(g:gF bT prog K:=by exact dW M0):CP bT prog ty E ⟨b,fa N f,aT p (i::C)::k⟩ H w:=CP.fV aH c a g (λt n o e=>by rw[GQ e];exact hr t n o) h
theorem kW(K:Op)(d:Nat)(v:aA)(r:∀t n(o:Oper),o.op=K->(execOp (fa N f).eval o).run prog (Ren.tp w t n)=.ok (.value v) (Ren.tp w t n))(h:CP bT prog ty E ⟨b,fa N (aC f d v),aT p C::k⟩ H w)(c:b.kind=.normal:=by rfl)(a:At p i K (some d):=by exact .of M0)(e:gF bT prog K:=by exact dW M0):CP bT prog ty E ⟨b,fa N f,aT p (i::C)::k⟩ H w:=CP.fV aH c a e r h
theorem kT(K:Op)(r:∀t n(o:Oper),(execOp a.eval {o with op:=K}).run prog (Ren.tp w t n)=.ok (.value v) (Ren.tp w t n))(h:CP bT prog ty E ⟨b,a.put dt v,aT p C::k⟩ H w)(d:b.kind=.normal:=by rfl)(c:At p i K dt:=by exact .of M0)(f:gF bT prog K:=by exact dW M0):CP bT prog ty E ⟨b,a,aT p (i::C)::k⟩ H w:=CP.oQ aH d c f (λt n o e=>by rw[GQ e];exact r t n o) h
theorem kX(K:Op)(r:∀t n(o:Oper),o.op=K->(execOp a.eval o).run prog (Ren.tp w t n)=.ok (.value v) (Ren.tp w t n))(h:CP bT prog ty E ⟨b,a.put dt v,aT p C::k⟩ H w)(d:b.kind=.normal:=by rfl)(c:At p i K dt:=by exact .of M0)(e:gF bT prog K:=by exact dW M0):CP bT prog ty E ⟨b,a,aT p (i::C)::k⟩ H w:=CP.oQ aH d c e r h
theorem U9{u:au}{t:Nat->Question->Nat}{n:Nat}{p:Addr}:(Ren.tp u t n).cell? p=u.cell? p:=rfl
theorem atK(h:At p i K dt:=by first|exact .of (K:=.binOp _ _ _ _ _) rfl|exact .of (K:=.load _ _) rfl|exact .of (K:=.fieldAddr _ _ _) rfl|exact .of (K:=.indexAddr _ _ _) rfl|exact .of (K:=.call _) rfl|exact .of (K:=.nilCheck _) rfl|exact .of (K:=.extract _ _) rfl|exact .of (K:=.move _) rfl|exact .of (K:=.assign _) rfl|exact .of (K:=.convert _ _ _) rfl|exact .of (K:=.field _ _ _) rfl|exact .of (K:=.slice _ _ _ _ _) rfl|exact .of (K:=.index _ _ _) rfl|exact .of (K:=.build _ _) rfl|exact .of (K:=.unOp _ _ _) rfl|exact .of (K:=.makeInterface _ _) rfl|exact .of (K:=.pick _ _ _) rfl):At p i K dt:=h
theorem runK(h:∀t n(o:Oper),(execOp a.eval {o with op:=K}).run prog (Ren.tp w t n)=.ok (.value v) (Ren.tp w t n):=by intro t n o;have b:=@U9;simp[*];try go_simp;try omega):∀t n(o:Oper),(execOp a.eval {o with op:=K}).run prog (Ren.tp w t n)=.ok (.value v) (Ren.tp w t n):=h
theorem kv(v:aA)(h:CP bT prog ty E ⟨b,fa N (aC f d v),aT p C::k⟩ H w)(a:At p i K (some d):=by exact atK)(hr:∀t n(o:Oper),(execOp (fa N f).eval {o with op:=K}).run prog (Ren.tp w t n)=.ok (.value v) (Ren.tp w t n):=by exact runK)(c:b.kind=.normal:=by rfl)(e:gF bT prog K:=by exact dW M0):CP bT prog ty E ⟨b,fa N f,aT p (i::C)::k⟩ H w:=kV K d v hr h c a e
theorem kw(v:aA)(h:CP bT prog ty E ⟨b,fa N (aC f d v),aT p C::k⟩ H w)(a:At p i K (some d):=by exact atK)(hr:∀t n(o:Oper),o.op=K->(execOp (fa N f).eval o).run prog (Ren.tp w t n)=.ok (.value v) (Ren.tp w t n))(c:b.kind=.normal:=by rfl)(e:gF bT prog K:=by exact dW M0):CP bT prog ty E ⟨b,fa N f,aT p (i::C)::k⟩ H w:=kW K d v hr h c a e
theorem kt(h:CP bT prog ty E ⟨b,a.put dt v,aT p C::k⟩ H w)(c:At p i K dt:=by exact atK)(r:∀t n(o:Oper),(execOp a.eval {o with op:=K}).run prog (Ren.tp w t n)=.ok (.value v) (Ren.tp w t n):=by exact runK)(d:b.kind=.normal:=by rfl)(e:gF bT prog K:=by exact dW M0):CP bT prog ty E ⟨b,a,aT p (i::C)::k⟩ H w:=kT K r h d c e
theorem kf{xs:Array Operand}(h:RC bT prog ty E g vs w Q)(e:∀v u,Q v u->CP bT prog ty E ⟨b,fa N (aC f d v),aT p C::k⟩ H u)(a:At p i (.call ⟨.value (.func g),xs,ats⟩) (some d):=by exact .of rfl)(hv:xs.map (fa N f).eval=vs:=by simp[*])(c:b.kind=.normal:=by rfl)(j:∀x∈xs,bE bT x:=by(simp[bE];try exact .int _ _)):CP bT prog ty E ⟨b,fa N f,aT p (i::C)::k⟩ H w:=RC.mX c a j hv h e
theorem kc{x:Nat}(h:CP bT prog ty E ⟨b,fa N (aC f d (f x)),aT p C::k⟩ H w)(a:At p i (.move (.tmp x)) (some d)\/At p i (.assign (.tmp x)) (some d):=by first|exact .inl (.of rfl)|exact .inr (.of rfl))(e:x<N:=by decide)(c:b.kind=.normal:=by rfl):CP bT prog ty E ⟨b,fa N f,aT p (i::C)::k⟩ H w:=CP.fC e aH c a h
theorem kk(h:CP bT prog ty E ⟨b,fa N (aC f d c),aT p C::k⟩ H w)(a:At p i (.move (.const c)) (some d)\/At p i (.assign (.const c)) (some d):=by first|exact .inl (.of rfl)|exact .inr (.of rfl))(g:Flat c:=by first|exact .int _ _|exact .bool _|exact .string _|exact .dQ _ _|exact .jL|exact .nilIface)(e:b.kind=.normal:=by rfl):CP bT prog ty E ⟨b,fa N f,aT p (i::C)::k⟩ H w:=CP.fK g aH e a h
theorem kg{s a:PF}(h:CP bT prog ty E a H w)(d:CP bT prog ty E a H w->CP bT prog ty E s H w:=by
 intro h
 repeat(first|refine CP.seq ?_|refine CP.jO ?_|refine CP.dx ?_|refine kc ?_|refine kk ?_|refine CP.ctl (λb c u=>stepG_block) ?_|refine CP.ctl (λb c u=>stepG_inBlock) ?_|refine CP.reg (l:=[0]) rfl ?_|refine CP.reg (l:=[0,1]) rfl ?_|refine CP.reg (l:=[0,1,2]) rfl ?_|refine CP.reg (l:=[0,1,2,3]) rfl ?_|refine CP.reg (l:=[0,1,2,3,4]) rfl ?_|refine CP.reg (l:=[0,1,2,3,4,5]) rfl ?_|refine CP.reg (l:=[0,1,2,3,4,5,6]) rfl ?_|refine CP.reg (l:=[0,1,2,3,4,5,6,7]) rfl ?_|refine CP.reg (l:=[0,1,2,3,4,5,6,7,8]) rfl ?_|refine CP.reg (l:=[0,1,2,3,4,5,6,7,8,9]) rfl ?_|refine CP.reg (l:=[0,1,2,3,4,5,6,7,8,9,10]) rfl ?_|refine CP.reg (l:=[0,1,2,3,4,5,6,7,8,9,10,11]) rfl ?_|refine CP.reg (l:=[0,1,2,3,4,5,6,7,8,9,10,11,12]) rfl ?_|refine CP.reg (l:=[0,1,2,3,4,5,6,7,8,9,10,11,12,13]) rfl ?_|refine CP.reg (l:=[0,1,2,3,4,5,6,7,8,9,10,11,12,13,14]) rfl ?_)
 exact h):CP bT prog ty E s H w:=d h
theorem kq(t:Bool){c:Operand}{x y:Code}(h:CP bT prog ty E ⟨b,a,.code (if t then x else y)::k⟩ H w)(e:a.eval c=.bool t:=by simp[aj,aC])(d:bE bT c:=by trivial):CP bT prog ty E ⟨b,a,.code (.cond c x y)::k⟩ H w:=CP.cond d e h
end
end
section
open Go.Proofs.Tryz
open Go Go.Proofs.YtmhafipgbfaapaaGreatDoor.Ren Go.Conc Go.ConcN Go.RowKit Go.Conc.Lib Go.ConcR.Gen Go.ConcN.Gen
open Go.ConcR (KK WgAt wgBlock stA smA rd wr mk Payload DC0)
attribute [local simp] execOp aj aO aC resolve Deferred.ofValue invoke builtin Act.eval
variable {B b : Nat} {E : aA -> au -> Prop} {ty : bf} {u w : au}
section
variable [Payload] [Zb]
noncomputable def ccx:Code:=match f124.body with|some (.seq _ (.cond _ _ (.seq _ (.cond _ c _))))=>c|_=>.skip
theorem LH:f124.body=some (.seq (.region 0 (rg f124 0) false) (.cond (.tmp 6) (.region 1 (rg f124 1) false) (.seq (.region 2 (rg f124 2) false) (.cond (.tmp 19) ccx .skip)))):=by kernel_rfl
theorem QW(a:Act)(u:au):(results f124 a.tmps).run prog u=.ok (.tuple #[]) u:=by simp[results,f124,go_sem]
theorem Xp(a:Act)(u:au):(results f124 a.tmps).events prog u #[]=#[]:=by simp[results,f124,go_sem]
theorem wS{S:aD}(a:Map):aL S a (.tuple #[]) (.tuple #[]):=.tuple rfl λi h=>aF h (dO i)
theorem Xq:(prog.info? 124).map (λi=>i.size)=some 2:=by kernel_rfl
theorem GR(b:Nat)(w:au)(G:w.cell? (aB b 0)=some (.pointer none))(k:w.shape? b=some (124,2))(y:w.frozen? (aB b 0)=false):
 RC bT prog ty E 124 #[aJ b 0] w λv u=>v=.tuple #[]/\u=w.setCell (aB b 0) (aJ b 0):=by
 obtain⟨j,g,c⟩:=gL.1 Xq;refine RC.of func124 M0 LH (by show 1<=20;decide) λB A q C m D H T=>?_;change CP _ _ _ _ ⟨_,fa 20 _,_⟩ _ _;refine kg ?_;refine kv (aJ b 0) ?_;refine kv (aJ b 0) ?_;refine kv (.pointer none) ?_;refine kv (.bool true) ?_;refine kg ?_;refine kq true ?_;refine kg ?_;refine CP.fS (K:=.convert 122 229 (.tmp 8)) (d:=9) (v:=aJ b 0) rfl (.of M0) (λF z u o i p h=>?_) ?_
 .have a:=i.eval.rel (.tmp 8) trivial;rw[show(fa 20 _).eval (.tmp 8)=aJ b 0 from by simp[aj,aC]]at a;obtain⟨x,e,r⟩:=QU a;have s:=(QT p r.block).trans k;have Ji:x.off=0:=r.off;unfold execOp;rw[h];simp only[e];refine⟨.pointer (some x),?_,λf=>?_,.ptr r⟩
  .rw[Sem.run_bind,Lib.run_to_unsafe u x underlying122 underlying229 g (by rw[c];decide) s (by rw[Ji];decide)];rfl
  .rw[Sem.events_bind,Lib.run_to_unsafe u x underlying122 underlying229 g (by rw[c];decide) s (by rw[Ji];decide)];show seen prog f ((_:Sem aA).events prog u #[])=#[];rw[abt x underlying122 underlying229 g (by rw[c];decide) s (by rw[Ji];decide)];exact seen_none prog f
 refine CP.fS (K:=.call {callee:=.value (.func 186),args:=#[.tmp 9],argTypes:=#[229]}) (d:=10) (v:=aJ b 0) rfl (.of M0) (λF z u o i p h=>?_) ?_
 .have a:=i.eval.rel (.tmp 9) trivial;rw[show(fa 20 _).eval (.tmp 9)=aJ b 0 from by simp[aj,aC]]at a;obtain⟨x,e,r⟩:=QU a;refine⟨.pointer (some x),?_,λf=>?_,.ptr r⟩
  .rw[El h func186 M0 M0 M0 (x:=Extern.AbiNoEscape.same) M0];simp only[Array.map_singleton,e];rfl
  .rw[JC h func186 M0 M0 M0 (x:=Extern.AbiNoEscape.same) M0];simp only[Array.map_singleton,e];exact QV f
 refine CP.fS (K:=.convert 229 122 (.tmp 10)) (d:=11) (v:=aJ b 0) rfl (.of M0) (λF z u o i p h=>?_) ?_
 .have a:=i.eval.rel (.tmp 10) trivial;rw[show(fa 20 _).eval (.tmp 10)=aJ b 0 from by simp[aj,aC]]at a;obtain⟨x,e,r⟩:=QU a;have s:=(QT p r.block).trans k;have Ji:x.off=0:=r.off;unfold execOp;rw[h];simp only[e];refine⟨.pointer (some x),?_,λf=>?_,.ptr r⟩
  .rw[Sem.run_bind,Lib.run_from_unsafe u x underlying229 underlying122 g s O7];rfl
  .rw[Sem.events_bind,Lib.run_from_unsafe u x underlying229 underlying122 g s O7];show seen prog f ((_:Sem aA).events prog u #[])=#[];rw[U7 x underlying229 underlying122 g s O7];exact seen_none prog f
 refine kv (aJ b 0) ?_;refine kv (aJ b 0) ?_;refine CP.fU (K:=.store 122 (.tmp 13) (.tmp 11)) aH rfl (.of M0) (dW M0) λt n o h=>⟨(Ren.tp w t n).setCell (aB b 0) (aJ b 0),?_,?_⟩
 .have I:(Ren.tp w t n).cell? (aB b 0)=some (.pointer none):=G;have J:(Ren.tp w t n).frozen? (aB b 0)=false:=y;unfold execOp;rw[h];simp[aj,aC];go_simp
 refine CP.tp (w:=w.setCell (aB b 0) (aJ b 0)) (CP.jO ?_) t n;exact CP.UJ rfl rfl func124 QW Xp wS (T _ _ ⟨rfl,rfl⟩)
theorem Va(b:Nat)(w:au)(G:w.cell? (aB b 0)=some (aJ b 0)):
 RC bT prog ty E 124 #[aJ b 0] w λv u=>v=.tuple #[]/\u=w:=by
 obtain⟨j,c,A⟩:=gL.1 Xq;refine RC.of func124 M0 LH (by show 1<=20;decide) λg f p m a n D T=>?_;change CP _ _ _ _ ⟨_,fa 20 _,_⟩ _ _;refine kg ?_;refine kv (aJ b 0) ?_;refine kv (aJ b 0) ?_;refine kv (aJ b 0) ?_;refine kv (.bool false) ?_;refine kg ?_;refine kq false ?_;refine kg ?_;refine kv (aJ b 0) ?_;refine kv (aJ b 0) ?_;refine kv (aJ b 0) ?_;refine kg ?_;refine CP.fS (K:=.binOp .neq 122 (.tmp 17) (.tmp 18) 122) (d:=19) (v:=.bool false) rfl (.of M0) (λH F u o i z B=>?_) ?_
 .have k:=i.eval.rel (.tmp 17) trivial;have h:=i.eval.rel (.tmp 18) trivial;rw[show(fa 20 _).eval (.tmp 17)=aJ b 0 from by simp[aj,aC]]at k;rw[show(fa 20 _).eval (.tmp 18)=aJ b 0 from by simp[aj,aC]]at h;obtain⟨x,e,r⟩:=QU k;obtain⟨y,q,C⟩:=QU h;obtain rfl:x=y:=abr z r C;unfold execOp;rw[B];have t:eqGuard .neq 122 (.tmp 17) (.tmp 18) (.pointer (some x)) (.pointer (some x))=pure ():=rfl;simp only[e,q,t];refine⟨.bool false,?_,λs=>?_,.bool _⟩
  .simp[Lib.run_neq_ptr_same u x underlying122 c]
  .simp[Lib.run_neq_ptr_same u x underlying122 c,Yq x underlying122 c];exact seen_none prog s
 refine kg ?_;refine kq false ?_;refine kg ?_;exact CP.UJ rfl rfl func124 QW Xp wS (T _ _ ⟨rfl,rfl⟩)
end
structure Hb(B:Nat)(w u:au):Prop where
 size:w.heap.size<=u.heap.size
 block:∀b,b<B->u.heap[b]? =w.heap[b]?
 os:u.os=w.os
theorem Hb.refl(B:Nat)(w:au):Hb B w w:=⟨aS _,λ_ _=>rfl,rfl⟩
theorem Hb.trans{v:au}(h:Hb B w u)(k:Hb B u v):Hb B w v:=⟨bY h.size k.size,λx a=>(k.block x a).trans (h.block x a),k.os.trans h.os⟩
theorem Hb.set(h:Hb B w u)(a:Addr)(d:B<=a.block)(v:aA):Hb B w (u.setCell a v):=by have s:=aside_setCell u a v;exact⟨by rw[s.size];exact h.size,λb c=>(s.block b Q0).trans (h.block b c),s.os.trans h.os⟩
def QX(b:Nat)(w u:au):Prop:=∀k c t z,w.heap[k]? =some (.cells c t z)->t≠5->k≠b->u.heap[k]? =w.heap[k]?
theorem QX.refl(b:Nat)(w:au):QX b w w:=λ_ _ _ _ _ _ _=>rfl
theorem QX.set(h:QX b w u)(i:Nat)(v:aA):QX b w (u.setCell (aB b i) v):=λk c t z d e a=>((aside_setCell u ⟨b,i,none⟩ v).block k a).trans (h k c t z d e a)
abbrev Bt:=Lib.BuilderAtF 124 5
section
variable [Payload] [Zb]
theorem abu(B b:Nat)(s:List aA)(w:au)(h:Lib.IsBuilderF 124 5 B b s w):RC bT prog ty E 124 #[aJ b 0] w λv u=>v=.tuple #[]/\Bt B b (aJ b 0) s u/\Hb B w u/\QX b w u:=by
 obtain h|h:=h
 .refine(GR b w h.cell0 h.shape h.frozen0).mono ?_;rintro v u ⟨rfl,rfl⟩;exact⟨rfl,h.used _,(Hb.refl B w).set _ h.1 _,(QX.refl b w).set _ _⟩
 .refine(Va b w h.cell0).mono ?_;rintro v u ⟨rfl,rfl⟩;exact⟨rfl,h,.refl B _,QX.refl _ _⟩
theorem Vb:f64.body=some (.seq (.region 0 (rg f64 0) false) (.seq (.region 1 (rg f64 1) false) (.seq (.region 2 (rg f64 2) false) (.seq (.region 3 (rg f64 3) false) .ret)))):=by kernel_rfl
def QY(a:Act):aA:=.tuple #[a.tmps.getD 4 ak,a.tmps.getD 5 ak]
theorem Yv(a:Act)(u:au):(results f64 a.tmps).run prog u=.ok (QY a) u:=by simp[results,f64,go_sem,QY]
theorem abv(a:Act)(u:au):(results f64 a.tmps).events prog u #[]=#[]:=by simp[results,f64,go_sem]
theorem Yw{S:aD}(c:Map)(a b:Act)(h:fQ S c a b):aL S c (QY a) (QY b):=by
 refine .tuple rfl λi d=>?_
 match i,d with
 |0,_=>exact h.tmps.getD 4
 |1,_=>exact h.tmps.getD 5
theorem abw:(prog.info? 5).map (λi=>(i.zero,i.size,i.bytes))=some (some (.int .u8 0),1,1):=by kernel_rfl
theorem abx(B b:Nat)(p:List aA)(s:aN)(w:au)(h:Lib.IsBuilderF 124 5 B b p w)(C:p.length+s.size<=140737488355328)(hBw:B<=w.heap.size):
 RC bT prog ty E 64 #[aJ b 0,.string s] w λv u=>v=.tuple #[ah s.size,.nilIface]/\Bt B b (aJ b 0) (p++Lib.strCells s) u/\Hb B w u/\QX b w u:=by
 obtain⟨i0,hi,I⟩:=gL.1 abw;simp only[Prod.mk.injEq]at I;refine RC.of func64 M0 Vb (by show 2<=19;decide) λV U L i₀ F k₀ seg Z=>?_;change CP _ _ _ _ ⟨_,fa 19 _,_⟩ _ _;refine kg ?_;refine RC.mX (d:=7) rfl (.of M0) (xs:=#[.tmp 6]) (ats:=#[122]) j5 (vs:=#[aJ b 0]) Y2 (abu B b p w h) ?_;rintro _ y ⟨rfl,⟨Y,v,r,j,Q⟩,f,R⟩;have c1:y.cell? (aB b 1)=some v:=by rw[Lib.cell_of_heap r];rfl
 refine kg ?_;refine kv (aJ b 0) ?_;refine kv (aJ b 1) ?_;refine kv v ?_;refine kg ?_;refine CP.fW (K:=.call {callee:=.builtin .append,args:=#[.tmp 12,.tmp 13],argTypes:=#[95,9]}) (d:=14) aH rfl (.of M0) (dW M0) λt n o H=>?_;have m:(Ren.tp y t n).ownsRowF B 5 1 v p.length p:=j;obtain⟨v',w2,hr,D,i,_⟩:=Lib.run_append_own_stringF (P:=prog) (Ren.tp y t n) B 95 9 o.type 5 i0 underlying95 underlying9 hi I.1 I.2.1 I.2.2 v p.length p m s U4 C (by have:=f.size;show B<=y.heap.size;omega);have O:b<y.heap.size:=(bJ.1 r).1;have q:w2.heap[b]? =some (.cells #[aJ b 0,v] 124 (0,0)):=(i.block b O (λe=>Q e.symm)).trans r;have M:Hb B w w2:=⟨bY f.size i.size,λk hk=>(i.block k (by have:=f.size;show k<y.heap.size;omega) (λe=>by have:=(j.lt k e.symm).1;omega)).trans (f.block k hk),i.os.trans f.os⟩;have S:QX b w w2:=λk c t z A X h3=>by
  have W:=R k c t z A X h3;have N:k<y.heap.size:=bG (bJ.1 A).1 f.size;refine(i.block k N λe=>?_).trans W;obtain⟨x,_⟩|⟨g,a,cur,fz,x,_,hg,_⟩:=j.2
  .rw[x]at e;simp[Value.ownBlock]at e
  .rw[x]at e;simp[Value.ownBlock]at e;rw[<-W,e,hg]at A;simp at A;exact X A.2.1.symm
 refine⟨v',w2,?_,?_⟩
 .unfold execOp;rw[H];simp[aj,aC,resolve,Deferred.ofValue,invoke,builtin,hr]
 clear hr i m H;refine kv (aJ b 0) ?_;refine kv (aJ b 1) ?_;obtain⟨G,J,a,rfl⟩:∃G J a,v'=.slice G J a:=by
  obtain⟨x,_⟩|⟨g,a,cur,fz,x,_⟩:=D.2
  .exact⟨_,_,_,x⟩
  .exact⟨_,_,_,x⟩
 refine CP.fU (K:=.store 95 (.tmp 16) (.tmp 14)) aH rfl (.of M0) (dW M0) λt n o H=>⟨(Ren.tp w2 t n).setCell (aB b 1) (.slice G J a),?_,?_⟩
 .have c0:(Ren.tp w2 t n).cell? (aB b 1)=some v:=by show w2.cell? _=_;rw[Lib.cell_of_heap q];rfl
  have f0:(Ren.tp w2 t n).frozen? (aB b 1)=false:=Lib.frozen_of_heap q 1;clear Z;unfold execOp;rw[H];simp[aj,aC];go_simp
 refine CP.tp (w:=w2.setCell (aB b 1) (.slice G J a)) ?_ t n;refine kg ?_;refine kv (ah s.size) ?_;refine kg ?_;refine CP.out rfl rfl func64 Yv abv Yw ?_;refine Z _ _ ⟨?_,?_,M.set _ Y _,S.set _ _⟩
 .rw[QY,bN U0,bN U0];simp[aC]
 .exact Lib.BuilderAtF.put (T:=124) (e:=5) Y q (bs':=p++Lib.strCells s) (by simpa[Lib.strCells_length]using D) U0
end
end
section
open Go.Proofs.Tryz
open Go Go.Proofs.YtmhafipgbfaapaaGreatDoor.Ren Go.Conc Go.ConcN Go.RowKit Go.Conc.Lib Go.ConcR.Gen Go.ConcN.Gen
open Go.ConcR (KK WgAt wgBlock stA smA rd wr mk Payload DC0)
variable {l : List UInt8} {q : aA}
section
variable [Payload] [Zb]
theorem Vd:f65.body=some (.seq (.region 0 (rg f65 0) false) (.seq (.region 1 (rg f65 1) true) .ret)):=by kernel_rfl
theorem Yx(a:Act)(u:au):(results f65 a.tmps).run prog u=.ok (a.tmps.getD 2 ak) u:=by simp[results,f65,go_sem]
theorem aby(a:Act)(u:au):(results f65 a.tmps).events prog u #[]=#[]:=by simp[results,f65,go_sem]
structure SgJ(B b g cap:Nat)(q:aA)(l:List UInt8)(w u:au):Prop where
 bt:Bt B b q (Lib.byteCells l) u
 c1:u.cell? (aB b 1)=some (aU g l.length cap)
 hb:Hb B w u
theorem SgJ.row{B b g c:Nat}{w u:au}(h:SgJ B b g c q l w u):B<=g/\g≠b/\∃cur fz,u.heap[g]? =some (.cells cur 5 fz)/\l.length<=c/\c<=maxLen/\cur.size=c/\∀j x,l[j]? =some x->u.cell? ((⟨g,0,none⟩:Addr).add j)=some (.int .u8 x.toNat):=by
 obtain⟨⟨D,v,d,o,n⟩,i,E⟩:=h;rw[Lib.byteCells_length]at o;have e:v=aU g l.length c:=by rw[Lib.cell_of_heap d]at i;exact gH i
 subst e;have a:=o.cells (g:=g) rfl;obtain⟨f,_⟩|⟨y,k,cur,fz,f,m,p,z,r,s,A,C⟩:=o.2
 .cases f
 .cases f;exact⟨m,λe=>n V6,cur,fz,p,r,s,Q0,λj x t=>a j (.int .u8 x.toNat) (by simp[Lib.byteCells,t])⟩
theorem Yy:prog.cellsOf 5=1:=by kernel_rfl
theorem abz{ty:bf}{G:aA->au->Prop}(B b:Nat)(q:aA)(l:List UInt8)(w:au)(h:Bt B b q (Lib.byteCells l) w)(hl:l≠[]):
 RC bT prog ty G 65 #[aJ b 0] w λv u=>v=.string ⟨l.toArray⟩/\Bt B b q (Lib.byteCells l) u/\Hb B w u:=by
 have I:l.length≠0:=by simpa using hl
 obtain⟨g,j,c1⟩:∃g j,w.cell? (aB b 1)=some (aU g l.length j):=by
  obtain⟨hB,v,Z,C,hne⟩:=h;rw[Lib.byteCells_length]at C;obtain⟨_,hz⟩|⟨g,j,cur,fz,M,_⟩:=C.2
  .exact aF hz I
  .exact⟨g,j,by rw[Lib.cell_of_heap Z];exact congrArg some M⟩
 refine RC.of func65 M0 Vd (by show 1<=14;decide) λb₀ a₀ O i₀ N k₀ seg hT=>?_;change CP _ _ _ _ ⟨_,fa 14 _,_⟩ _ _;refine kg ?_;have D:SgJ B b g j q l w w:=⟨h,c1,.refl B w⟩;have hcap:j≠0:=by obtain⟨_,_,_,_,_,h1,_⟩:=D.row;omega
 generalize hF:aC _ 2 _=F;have X:F 0=aJ b 0:=by rw[<-hF];simp[aC]
 clear hF c1 h;generalize A:rg f65 1=ops';have L:ops'.size=12:=by rw[<-A];kernel_rfl
 subst A
 let p:=rg f65 1
 refine CP.NP M0 M0 M0 (λi _ v=>v=match i with|0|1|5|6=>aJ b 0|2|7=>aJ b 1|3|8=>aU g l.length j|4=>aJ g 0|9=>ah l.length|_=>.string ⟨l.toArray⟩) (SgJ B b g j q l w) (λ_ _=>True) (λ_ _ _ _ _ h=>h) D ?_ ?_
 .intro i f u rest hi hold J m d;have z:f 0=aJ b 0:=(hold 0 M0 U0).trans X;clear hold hT D
  match i,hi,m,d with
  |0,_,m,d=>exact CP.oQ (K:=.move (.tmp 0)) (dt:=fM p 0) aH rfl (.of M0) (dW M0) (λt n o s=>by unfold execOp;rw[s];simp[aj,aO,resolve,Deferred.ofValue,invoke,builtin,z];try go_simp) (d _ _ trivial J rfl)
  |1,_,m,d=>have h3:=m 0 3 M0 M0;exact CP.oQ (K:=.nilCheck (.tmp 3)) (dt:=fM p 1) aH rfl (.of M0) (dW M0) (λt n o s=>by unfold execOp;rw[s];simp[aj,aO,resolve,Deferred.ofValue,invoke,builtin,z,h3];try go_simp) (d _ _ trivial J rfl)
  |2,_,m,d=>have h4:=m 1 4 M0 M0;exact CP.oQ (K:=.fieldAddr 124 (.tmp 4) 1) (dt:=fM p 2) aH rfl (.of M0) (dW M0) (λt n o s=>by unfold execOp;rw[s];simp[aj,aO,resolve,Deferred.ofValue,invoke,builtin,z,h4];try go_simp) (d _ _ trivial J rfl)
  |3,_,m,d=>have h5:=m 2 5 M0 M0;exact CP.oQ (K:=.load 95 (.tmp 5)) (dt:=fM p 3) aH rfl (.of M0) (dW M0) (λt n o s=>by have c0:(Ren.tp u t n).cell? (aB b 1)=some (aU g l.length j):=J.c1;unfold execOp;rw[s];simp[aj,aO,resolve,Deferred.ofValue,invoke,builtin,z,h5];try go_simp) (d _ _ trivial J rfl)
  |4,_,m,d=>
   have h6:=m 3 6 M0 M0;refine CP.opS (K:=.call {callee:=.builtin .unsafeSliceData,args:=#[.tmp 6],argTypes:=#[95]}) (dt:=fM p 4) (v:=aJ g 0) rfl (.of M0) (λπ Q u' o ha hh s=>?_) (d _ _ trivial J rfl);have M:=ha.eval.rel (.tmp 6) trivial;rw[aj U0,h6]at M;obtain⟨x,e,r⟩:∃x,Q.eval (.tmp 6)=.slice (some x) l.length j/\bR π ⟨g,0,none⟩ x:=by
    generalize Q.eval (.tmp 6)=y at M;cases M with
    |slice _ _ r=>exact⟨_,rfl,r⟩
   obtain⟨c,rfl⟩:∃c,j=c+1:=⟨j-1,Q0⟩;refine⟨.pointer (some x),?_,λfn=>?_,.ptr r⟩
   .unfold execOp;rw[s];simp[resolve,Deferred.ofValue,invoke,builtin,e];rfl
   .unfold execOp;rw[s];simp[resolve,Deferred.ofValue,invoke,builtin,e];exact seen_none prog fn
  |5,_,m,d=>exact CP.oQ (K:=.move (.tmp 0)) (dt:=fM p 5) aH rfl (.of M0) (dW M0) (λt n o s=>by unfold execOp;rw[s];simp[aj,aO,resolve,Deferred.ofValue,invoke,builtin,z];try go_simp) (d _ _ trivial J rfl)
  |6,_,m,d=>have h8:=m 5 8 M0 M0;exact CP.oQ (K:=.nilCheck (.tmp 8)) (dt:=fM p 6) aH rfl (.of M0) (dW M0) (λt n o s=>by unfold execOp;rw[s];simp[aj,aO,resolve,Deferred.ofValue,invoke,builtin,z,h8];try go_simp) (d _ _ trivial J rfl)
  |7,_,m,d=>have h9:=m 6 9 M0 M0;exact CP.oQ (K:=.fieldAddr 124 (.tmp 9) 1) (dt:=fM p 7) aH rfl (.of M0) (dW M0) (λt n o s=>by unfold execOp;rw[s];simp[aj,aO,resolve,Deferred.ofValue,invoke,builtin,z,h9];try go_simp) (d _ _ trivial J rfl)
  |8,_,m,d=>have R:=m 7 10 M0 M0;exact CP.oQ (K:=.load 95 (.tmp 10)) (dt:=fM p 8) aH rfl (.of M0) (dW M0) (λt n o s=>by have c0:(Ren.tp u t n).cell? (aB b 1)=some (aU g l.length j):=J.c1;unfold execOp;rw[s];simp[aj,aO,resolve,Deferred.ofValue,invoke,builtin,z,R];try go_simp) (d _ _ trivial J rfl)
  |9,_,m,d=>have S:=m 8 11 M0 M0;exact CP.oQ (K:=.call {callee:=.builtin .len,args:=#[.tmp 11],argTypes:=#[95]}) (dt:=fM p 9) aH rfl (.of M0) (dW M0) (λt n o s=>by unfold execOp;rw[s];simp[aj,aO,resolve,Deferred.ofValue,invoke,builtin,z,S];try go_simp) (d _ _ trivial J rfl)
  |10,_,m,d=>
   have h7:=m 4 7 M0 M0;have T:=m 9 12 M0 M0;refine CP.opW (K:=.call {callee:=.builtin .unsafeString,args:=#[.tmp 7,.tmp 12],argTypes:=#[190,3]}) (dt:=fM p 10) aH rfl (.of M0) (dW M0) λt n o s=>⟨.string ⟨l.toArray⟩,(Ren.tp u t n).freeze ⟨g,0,none⟩ l.length,?_,d _ _ trivial ?_ rfl⟩
   .obtain⟨_,_,cur,fz,hg,hlc,hcm,hcs,E⟩:=J.row;have Y:=Lib.run_unsafeString_row (P:=prog) (Ren.tp u t n) 190 3 o.type 5 underlying190 Yy g cur.size (by have hg':(Ren.tp u t n).heap[g]? =some (.cells cur 5 fz):=hg;simp[World.shape?,hg']) l hl Q0 (by unfold maxLen at hcm;omega) E;clear d m;unfold execOp;rw[s];simp[aj,aO,h7,T,resolve,Deferred.ofValue,invoke,builtin,Y]
   .have hA:=(show Bt B b q (Lib.byteCells l) (Ren.tp u t n)from J.bt).froze (g:=g) (cap:=j) (by rw[Lib.byteCells_length];exact J.c1);rw[Lib.byteCells_length]at hA;obtain⟨h1,W,_⟩:=J.row;obtain⟨_,_,o1,_,s1⟩:=kS (Ren.tp u t n) ⟨g,0,none⟩ l.length;have H:∀k,k≠g->((Ren.tp u t n).freeze ⟨g,0,none⟩ l.length).heap[k]? =u.heap[k]? :=λk d=>by rw[kR _ _ I,av d];rfl
    exact⟨hA,(World.cell?_of_block (a:=⟨b,1,none⟩) (H b (Ne.symm W))).trans J.c1,⟨by rw[s1];exact J.hb.size,λk d=>(H k Q0).trans (J.hb.block k d),o1.trans J.hb.os⟩⟩
  |11,_,m,d=>have U:=m 10 13 M0 M0;exact CP.oQ (K:=.assign (.tmp 13)) (dt:=fM p 11) aH rfl (.of M0) (dW M0) (λt n o s=>by unfold execOp;rw[s];simp[aj,aO,resolve,Deferred.ofValue,invoke,builtin,z,U];try go_simp) (d _ _ trivial J rfl)
  |i+12,hi,_,_=>exact aF hi (by rw[L];omega)
 .intro f u hold J m _;refine CP.out rfl rfl func65 (V:=λa=>a.tmps.getD 2 ak) Yx aby (λπ a Q h=>h.tmps.getD 2) ?_;have W:=m 11 2 (by rw[L];decide) M0;refine hT _ _ ⟨?_,J.bt,J.hb⟩;show(fa 14 f).tmps.getD 2 ak=_;rw[bN U0];exact W
end
end
section
open Go.Proofs.Tryz
open Go Go.Proofs.YtmhafipgbfaapaaGreatDoor.Ren Go.Conc Go.ConcN Go.RowKit Go.Conc.Lib Go.ConcR.Gen Go.ConcN.Gen
open Go.ConcR (KK WgAt wgBlock stA smA rd wr mk Payload DC0)
attribute [local simp] execOp aj aO aC resolve Deferred.ofValue invoke builtin Act.eval
variable {B a b i : Nat} {D X : Nat -> aN} {K : List Item} {E : aA -> au -> Prop} {args c : Array aA} {bs : List aA} {f : FuncId} {gs : Nat -> Nat} {o : Oper} {q v : aA} {s : aN} {t ty : bf} {u w : au} {y : Operand} {ρ : Operand -> aA}
abbrev Hw(w u:au):Prop:=Hb w.heap.size w u
theorem Hw.step{w u v:au}(h:Hw w u)(k:Hw u v):Hw w v:=⟨bY h.size k.size,λb a=>(k.block b (bG a h.size)).trans (h.block b a),k.os.trans h.os⟩
theorem JD.hw{o:Obj}(h:JD w o u):Hw w u:=⟨by rw[h.size];omega,h.old,h.os⟩
theorem gW{x:Operand}{a b:aN}(c:o.op=.binOp .add 9 x y 9)(d:ρ x=.string a)(e:ρ y=.string b)(s:a.size+b.size<=9223372036854775807):(execOp ρ o).run prog w=.ok (.value (.string (a++b))) w:=by
 have h:¬9223372036854775807<a.size+b.size:=by omega
 unfold execOp;rw[c];simp only[d,e];go_simp
section
variable [Payload] [Zb]
theorem RC.keep(g:SPk.contains f=true)(c:∀w,Calls prog f args w λe i=>e=.returned v/\Keep bD w i):RC bT prog ty E f args w λx u=>x=v/\Hw w u:=RC.lone aH g (λv w t d h=>⟨h.1,⟨h.2.size,h.2.block,h.2.os⟩⟩) λt d=>Calls.mono (c _) λe u h=>⟨v,h.1,rfl,⟨h.2.size,λb a=>h.2.block b a λx=>x,h.2.os⟩⟩
theorem lu(v n:Nat)(a:v<9223372036854775808)(h:n<=7):RC bT prog ty E 163 #[ah v,ah n] w λx u=>x=.string (lo n v)/\Hw w u:=RC.keep U0 λw=>nH v n a h w
theorem QZ(s:aN)(h:s.size<=maxLen):RC bT prog ty E 125 #[.string s] w λx u=>x=.string (nU s)/\Hw w u:=RC.keep U0 λw=>Mw s h w
theorem Ve:f228.body=some (.seq (.region 0 (rg f228 0) false) (.seq (.region 1 (rg f228 1) false) .ret)):=by kernel_rfl
theorem Yz(a:Act)(u:au):(results f228 a.tmps).run prog u=.ok (a.tmps.getD 2 ak) u:=by simp[results,f228,go_sem]
theorem abA(a:Act)(u:au):(results f228 a.tmps).events prog u #[]=#[]:=by simp[results,f228,go_sem]
theorem C8(s:aN)(n:s.size<=1000000):RC bT prog ty E 228 #[.string s] w λx u=>x=.string (s++nU s)/\Hw w u:=by refine RC.of func228 M0 Ve (by show 1<=7;decide) λe c p i r k j T=>?_;change CP _ _ _ _ ⟨_,fa 7 _,_⟩ _ _;refine kg ?_;refine RC.mX (d:=5) rfl (.of M0) (xs:=#[.tmp 4]) (ats:=#[9]) j5 (vs:=#[.string s]) Y2 (QZ s U4) ?_;rintro _ u ⟨rfl,f⟩;refine kw (.string (s++nU s)) ?_ (hr:=(λt q o g=>by exact gW (a:=s) (b:=nU s) g R3 R3 (by show _+8<=_;omega)));refine kg ?_;refine CP.out rfl rfl func228 (V:=λa=>a.tmps.getD 2 ak) Yz abA (λv a m h=>h.tmps.getD 2) ?_;refine T _ _ ⟨?_,f⟩;show(fa _ _).tmps.getD 2 ak=_;rw[bN U0];simp[aC]
theorem Vf:f196.body=some (.seq (.region 0 (rg f196 0) false) (.seq (.region 1 (rg f196 1) false) .ret)):=by kernel_rfl
theorem YA(a:Act)(u:au):(results f196 a.tmps).run prog u=.ok (a.tmps.getD 8 ak) u:=by simp[results,f196,go_sem]
theorem abB(a:Act)(u:au):(results f196 a.tmps).events prog u #[]=#[]:=by simp[results,f196,go_sem]
theorem Q7(k m s len v st:Nat)(key d:aN)(H:v<=1000)(e:st<=1000000)(c:key.size<=1000)(P:d.size<=1000):RC bT prog ty E 196 #[.agg #[ah k,ah m,ah s,ah len,.string key],ah v,ah st,.string d] w λx u=>x=.string (eY key v st d)/\Hw w u:=by
 refine RC.of func196 M0 Vf (by show 4<=16;decide) λg f o j r p I T=>?_;change CP _ _ _ _ ⟨_,fa 16 _,_⟩ _ _;refine kg ?_;refine CP.yX (t:=101) (y:=0) (d:=4) rfl (.of M0) U0 λb i=>?_;refine kg ?_;have n:b.heap[w.heap.size]? =some (.cells #[ah k,ah m,ah s,ah len,.string key] 101):=i.new;have q:=aQ b _ 0 _ _ _ n;have z:=aQ b _ 1 _ _ _ n;have A:=aQ b _ 2 _ _ _ n;have B:=aQ b _ 3 _ _ _ n;have C:=aQ b _ 4 _ _ _ n;have K:b.cell? (aB w.heap.size 0)=some (ah k):=q.trans rfl;have L:b.cell? (aB w.heap.size 1)=some (ah m):=z.trans rfl;have M:b.cell? (aB w.heap.size 2)=some (ah s):=A.trans rfl;have N:b.cell? (aB w.heap.size 3)=some (ah len):=B.trans rfl;have O:b.cell? (aB w.heap.size 4)=some (.string key):=C.trans rfl;refine kv (.agg #[ah k,ah m,ah s,ah len,.string key]) ?_;refine kg ?_;refine RC.mX (d:=12) rfl (.of M0) (xs:=#[.tmp 9,.tmp 10,.tmp 11]) (ats:=#[101,3,3]) j5 (vs:=#[.agg #[ah k,ah m,ah s,ah len,.string key],ah v,ah st]) Y2 (RC.keep U0 λw=>yM k m s len v st key w H e c) ?_;rintro _ R ⟨rfl,F⟩;have Q:(um key v st).size=4+key.size:=by have D:(⟨#[66]⟩:aN).size=1:=rfl;rw[show um key v st=(⟨#[66]⟩:aN)++lo 1 v++lo 2 st++key from rfl];simp only[eB,dB,D]
 refine kg ?_;refine kv (.string (um key v st++d)) ?_;refine RC.mX (d:=15) rfl (.of M0) (xs:=#[.tmp 14]) (ats:=#[9]) j5 (vs:=#[.string (um key v st++d)]) Y2 (C8 _ (by rw[eB];omega)) ?_;rintro _ S ⟨rfl,G⟩;refine kg ?_;refine CP.out rfl rfl func196 (V:=λa=>a.tmps.getD 8 ak) YA abB (λU a J h=>h.tmps.getD 8) ?_;refine T _ _ ⟨?_,(i.hw.step F).step G⟩;show(fa _ _).tmps.getD 8 ak=_;rw[bN U0];simp[aC];rfl
def tx0:aN:=⟨#[77]⟩
def qM(k m width:Nat):aN:=lo 1 k++lo 1 m++lo 1 width
theorem pq(k m w:Nat):(qM k m w).size=3:=by simp[qM,eB,dB]
def tx1(k m width:Nat):aN:=tx0++qM k m width
def tx2(k m width len:Nat):aN:=tx1 k m width++lo 2 (dz (k*(8*width)) len)
def tx3(k m width len:Nat):aN:=tx2 k m width len++lo 3 len
theorem GU:tx0.size=1:=rfl
theorem Vg(k m w len:Nat):(tx1 k m w).size=4/\(tx2 k m w len).size=6/\(tx3 k m w len).size=9:=by simp[tx1,tx2,tx3,eB,dB,pq,GU]
theorem Vh:f126.body=some (.seq (.region 0 (rg f126 0) false) (.seq (.region 1 (rg f126 1) true) .ret)):=by kernel_rfl
theorem YB(a:Act)(u:au):(results f126 a.tmps).run prog u=.ok (a.tmps.getD 2 ak) u:=by simp[results,f126,go_sem]
theorem abC(a:Act)(u:au):(results f126 a.tmps).events prog u #[]=#[]:=by simp[results,f126,go_sem]
theorem A9(k m c len:Nat)(key:aN)(K:k<=12)(hm:m<=12)(hw:c<=8):RC bT prog ty E 126 #[.agg #[ah k,ah m,ah (8*c:Nat),ah len,.string key]] w λx u=>x=.string (qM k m c)/\Hw w u:=by
 refine RC.of func126 M0 Vh (by show 1<=15;decide) λH G p L r M Y T=>?_;change CP _ _ _ _ ⟨_,fa 15 _,_⟩ _ _;refine kg ?_;refine CP.yX (t:=101) (y:=0) (d:=1) rfl (.of M0) U0 λP s=>?_;refine kg ?_;have X:P.heap[w.heap.size]? =some (.cells #[ah k,ah m,ah (8*c:Nat),ah len,.string key] 101):=s.new;generalize I:aC _ 2 _=F;have B:F 1=aJ w.heap.size 0:=by rw[<-I];simp[aC]
 clear I;refine CP.NP M0 M0 M0 (λi _ v=>v=match i with|0=>aJ w.heap.size 0|1=>ah k|2=>.string (lo 1 k)|3=>aJ w.heap.size 1|4=>ah m|5=>.string (lo 1 m)|6=>.string (lo 1 k++lo 1 m)|7=>aJ w.heap.size 2|8=>ah (8*c:Nat)|9=>ah c|10=>.string (lo 1 c)|11=>.string (qM k m c)|12=>.string (qM k m c)|_=>ak) (Hw P) (λ_ _=>True) (λ_ _ _ _ _ h=>h) (Hb.refl _ _) ?_ ?_
 .intro i f u O C hold J e g;have h1:f 1=aJ w.heap.size 0:=(hold 1 M0 U0).trans B;have n:=(J.block _ (by rw[s.size];omega)).trans X;have d0:=aQ u _ 0 _ _ _ n;have d1:=aQ u _ 1 _ _ _ n;have d2:=aQ u _ 2 _ _ _ n;have d3:=aQ u _ 3 _ _ _ n;have d4:=aQ u _ 4 _ _ _ n;clear hold T
  match i,C,e,g with
  |0,_,e,g=>exact kt (g _ _ trivial J rfl)
  |1,_,e,g=>have h3:=e 0 3 M0 M0;exact kt (g _ _ trivial J rfl)
  |2,_,e,g=>have U:=e 1 4 M0 M0;exact RC.call (dt:=fM (rg f126 1) 2) rfl (.of M0) (xs:=#[.tmp 4,.const (ah 1)]) (ats:=#[3,3]) Y1 (vs:=#[ah k,ah 1]) (by simp[aj,aO,Act.eval,U]) (lu k 1 Q0 U0) (λv j q=>g v j trivial (J.step q.2) q.1)
  |3,_,e,g=>exact kt (g _ _ trivial J rfl)
  |4,_,e,g=>have h6:=e 3 6 M0 M0;exact kt (g _ _ trivial J rfl)
  |5,_,e,g=>have W:=e 4 7 M0 M0;exact RC.call (dt:=fM (rg f126 1) 5) rfl (.of M0) (xs:=#[.tmp 7,.const (ah 1)]) (ats:=#[3,3]) Y1 (vs:=#[ah m,ah 1]) (by simp[aj,aO,Act.eval,W]) (lu m 1 Q0 U0) (λv j q=>g v j trivial (J.step q.2) q.1)
  |6,_,e,g=>have h5:=e 2 5 M0 M0;have h8:=e 5 8 M0 M0;exact kX (.binOp .add 9 (.tmp 5) (.tmp 8) 9) (λt N o D=>by exact gW (a:=lo 1 k) (b:=lo 1 m) D G5 G5 (by simp only[dB];decide)) (g _ _ trivial J rfl)
  |7,_,e,g=>exact kt (g _ _ trivial J rfl)
  |8,_,e,g=>have Q:=e 7 10 M0 M0;exact kt (g _ _ trivial J rfl)
  |9,_,e,g=>have z:=e 8 11 M0 M0;exact kT (.binOp .quo 3 (.tmp 11) (.const (ah 8)) 3) (λt N o=>by simp[z];go_simp;rw[IntKind.wrap_i64];omega) (g _ _ trivial J rfl)
  |10,_,e,g=>have A:=e 9 12 M0 M0;exact RC.call (dt:=fM (rg f126 1) 10) rfl (.of M0) (xs:=#[.tmp 12,.const (ah 1)]) (ats:=#[3,3]) Y1 (vs:=#[ah c,ah 1]) (by simp[aj,aO,Act.eval,A]) (lu c 1 Q0 U0) (λv j q=>g v j trivial (J.step q.2) q.1)
  |11,_,e,g=>have h9:=e 6 9 M0 M0;have A8:=e 10 13 M0 M0;exact kX (.binOp .add 9 (.tmp 9) (.tmp 13) 9) (λt N o D=>by exact gW (a:=lo 1 k++lo 1 m) (b:=lo 1 c) D H7 H7 (by simp only[dB,eB];decide)) (g _ _ trivial J rfl)
  |12,_,e,g=>have R:=e 11 14 M0 M0;exact kt (g _ _ trivial J rfl)
  |i+13,C,_,_=>exact aF C (by rw[show(rg f126 1).size=13 from by kernel_rfl];omega)
 .intro f u hold J e _;refine CP.out rfl rfl func126 (V:=λa=>a.tmps.getD 2 ak) YB abC (λπ a Z h=>h.tmps.getD 2) ?_;have S:=e 12 2 (by rw[show(rg f126 1).size=13 from by kernel_rfl];decide) M0;refine T _ _ ⟨?_,s.hw.step J⟩;show(fa _ _).tmps.getD 2 ak=_;rw[bN U0];exact S
theorem Vi:f195.body=some (.seq (.region 0 (rg f195 0) false) (.seq (.region 1 (rg f195 1) true) .ret)):=by kernel_rfl
theorem YC(a:Act)(u:au):(results f195 a.tmps).run prog u=.ok (a.tmps.getD 2 ak) u:=by simp[results,f195,go_sem]
theorem abD(a:Act)(u:au):(results f195 a.tmps).events prog u #[]=#[]:=by simp[results,f195,go_sem]
theorem LJ(k m width len:Nat)(key:aN)(G:1<=k)(g:k<=12)(hm:m<=12)(OC:1<=width)(hw:width<=8)(hl:len<=1000000)(M:key.size<=1000):RC bT prog ty E 195 #[.agg #[ah k,ah m,ah (8*width:Nat),ah len,.string key]] w λx u=>x=.string (dF k m width (dz (k*(8*width)) len) len key)/\Hw w u:=by
 have hst:dz (k*(8*width)) len<9223372036854775808:=by unfold dz;exact Nat.lt_of_le_of_lt (Nat.div_le_self _ _) (by have:k*(8*width)<=12*64:=iJ g Q0;omega)
 refine RC.of func195 M0 Vi (by show 1<=18;decide) λK I s N r O seg T=>?_;change CP _ _ _ _ ⟨_,fa 18 _,_⟩ _ _;refine kg ?_;refine CP.yX (t:=101) (y:=0) (d:=1) rfl (.of M0) U0 λQ z=>?_;refine kg ?_;have n1:Q.heap[w.heap.size]? =some (.cells #[ah k,ah m,ah (8*width:Nat),ah len,.string key] 101):=z.new;generalize L:aC _ 2 _=F;have C:F 1=aJ w.heap.size 0:=by rw[<-L];simp[aC]
 clear L;refine CP.NP M0 M0 M0 (λi _ v=>v=match i with|0=>.agg #[ah k,ah m,ah (8*width:Nat),ah len,.string key]|1=>.string (qM k m width)|2=>.string (tx1 k m width)|3=>.agg #[ah k,ah m,ah (8*width:Nat),ah len,.string key]|4=>ah (dz (k*(8*width)) len)|5=>.string (lo 2 (dz (k*(8*width)) len))|6=>.string (tx2 k m width len)|7=>aJ w.heap.size 3|8=>ah len|9=>.string (lo 3 len)|10=>.string (tx3 k m width len)|11=>aJ w.heap.size 4|12=>.string key|13=>.string (kN k m width (dz (k*(8*width)) len) len key)|14=>.string (dF k m width (dz (k*(8*width)) len) len key)|15=>.string (dF k m width (dz (k*(8*width)) len) len key)|_=>ak) (Hw Q) (λ_ _=>True) (λ_ _ _ _ _ h=>h) (Hb.refl _ _) ?_ ?_
 .intro i f u P D hold J c e;have h1:f 1=aJ w.heap.size 0:=(hold 1 M0 U0).trans C;have p:=(J.block _ (by rw[z.size];omega)).trans n1;have d0:=aQ u _ 0 _ _ _ p;have d1:=aQ u _ 1 _ _ _ p;have d2:=aQ u _ 2 _ _ _ p;have d3:=aQ u _ 3 _ _ _ p;have d4:=aQ u _ 4 _ _ _ p;clear hold T
  match i,D,c,e with
  |0,_,c,e=>exact kt (e _ _ trivial J rfl)
  |1,_,c,e=>have X:=c 0 3 M0 M0;exact RC.call (dt:=fM (rg f195 1) 1) rfl (.of M0) (xs:=#[.tmp 3]) (ats:=#[101]) Y1 (vs:=#[.agg #[ah k,ah m,ah (8*width:Nat),ah len,.string key]]) (by simp[aj,aO,Act.eval,X]) (A9 k m width len key g hm hw) (λv j q=>e v j trivial (J.step q.2) q.1)
  |2,_,c,e=>have Y:=c 1 4 M0 M0;exact kX (.binOp .add 9 (.const (.string {data:=#[77]})) (.tmp 4) 9) (λt H o n=>by exact gW (a:=tx0) (b:=qM k m width) n rfl (by simp[aj,aO,aC,Act.eval,Y]) Y3) (e _ _ trivial J rfl)
  |3,_,c,e=>exact kt (e _ _ trivial J rfl)
  |4,_,c,e=>have Z:=c 3 6 M0 M0;exact RC.call (dt:=fM (rg f195 1) 4) rfl (.of M0) (xs:=#[.tmp 6]) (ats:=#[101]) Y1 (vs:=#[.agg #[ah k,ah m,ah (8*width:Nat),ah len,.string key]]) (by simp[aj,aO,Act.eval,Z]) (RC.keep U0 λw=>nL k m (8*width) len key w G g Q0 Q0 hl) (λv j q=>e v j trivial (J.step q.2) q.1)
  |5,_,c,e=>have h7:=c 4 7 M0 M0;exact RC.call (dt:=fM (rg f195 1) 5) rfl (.of M0) (xs:=#[.tmp 7,.const (ah 2)]) (ats:=#[3,3]) Y1 (vs:=#[ah (dz (k*(8*width)) len),ah 2]) (by simp[aj,aO,Act.eval,h7]) (lu _ 2 Q0 U0) (λv j q=>e v j trivial (J.step q.2) q.1)
  |6,_,c,e=>have h5:=c 2 5 M0 M0;have h8:=c 5 8 M0 M0;exact kX (.binOp .add 9 (.tmp 5) (.tmp 8) 9) (λt H o n=>by exact gW (a:=tx1 k m width) (b:=lo 2 (dz (k*(8*width)) len)) n G5 G5 Y3) (e _ _ trivial J rfl)
  |7,_,c,e=>exact kt (e _ _ trivial J rfl)
  |8,_,c,e=>have R:=c 7 10 M0 M0;exact kt (e _ _ trivial J rfl)
  |9,_,c,e=>have A:=c 8 11 M0 M0;exact RC.call (dt:=fM (rg f195 1) 9) rfl (.of M0) (xs:=#[.tmp 11,.const (ah 3)]) (ats:=#[3,3]) Y1 (vs:=#[ah len,ah 3]) (by simp[aj,aO,Act.eval,A]) (lu len 3 Q0 U0) (λv j q=>e v j trivial (J.step q.2) q.1)
  |10,_,c,e=>have h9:=c 6 9 M0 M0;have h12:=c 9 12 M0 M0;exact kX (.binOp .add 9 (.tmp 9) (.tmp 12) 9) (λt H o n=>by exact gW (a:=tx2 k m width len) (b:=lo 3 len) n I7 I7 Y3) (e _ _ trivial J rfl)
  |11,_,c,e=>exact kt (e _ _ trivial J rfl)
  |12,_,c,e=>have S:=c 11 14 M0 M0;exact kt (e _ _ trivial J rfl)
  |13,_,c,e=>have A8:=c 10 13 M0 M0;have Q8:=c 12 15 M0 M0;exact kX (v:=.string (tx3 k m width len++key)) (.binOp .add 9 (.tmp 13) (.tmp 15) 9) (λt H o n=>by exact gW (a:=tx3 k m width len) (b:=key) n F7 F7 Y3) (e _ _ trivial J (by simp only[tx3,tx2,tx1,tx0,qM,kN,ByteArray.append_assoc]))
  |14,_,c,e=>have B:=c 13 16 M0 M0;exact RC.call (dt:=fM (rg f195 1) 14) rfl (.of M0) (xs:=#[.tmp 16]) (ats:=#[9]) Y1 (vs:=#[.string (kN k m width (dz (k*(8*width)) len) len key)]) (by simp[aj,aO,Act.eval,B]) (C8 _ (by have h:(⟨#[77]⟩:aN).size=1:=rfl;simp only[kN,dB,eB,h];omega)) (λv j q=>e v j trivial (J.step q.2) q.1)
  |15,_,c,e=>have U:=c 14 17 M0 M0;exact kt (e _ _ trivial J rfl)
  |i+16,D,_,_=>exact aF D (by rw[show(rg f195 1).size=16 from by kernel_rfl];omega)
 .intro f u hold J c _;refine CP.out rfl rfl func195 (V:=λa=>a.tmps.getD 2 ak) YC abD (λπ a a' h=>h.tmps.getD 2) ?_;have W:=c 15 2 (by rw[show(rg f195 1).size=16 from by kernel_rfl];decide) M0;refine T _ _ ⟨?_,z.hw.step J⟩;show(fa _ _).tmps.getD 2 ak=_;rw[bN U0];exact W
end
theorem setAt(h:w.heap[b]? =some (.cells c t))(j:Nat)(v:aA):(w.setCell (aB b j) v).heap[b]? =some (.cells (c.setIfInBounds j v) t):=by rw[setCell_eq_setRow w b j _ _ (0,0) _ h,setRow_heap w b _ _ _ _ h]
structure Sto(b:Nat)(o:Obj)(w u:au):Prop where
 size:u.heap.size=w.heap.size
 new:u.heap[b]? =some o
 old:∀k,k≠b->u.heap[k]? =w.heap[k]?
 os:u.os=w.os
theorem YD(h:w.heap[b]? =some (.cells c t))(p:c.size=5)(z a d f:Int)(s:aN):Sto b (.cells #[ah z,ah a,ah d,ah f,.string s] t) w (((((w.setCell (aB b 0) (ah z)).setCell (aB b 1) (ah a)).setCell (aB b 2) (ah d)).setCell (aB b 3) (ah f)).setCell (aB b 4) (.string s)):=by
 obtain⟨l⟩:=c
 match l,p with
 |[x0,x1,x2,x3,x4],_=>
  have g:=setAt h 0 (ah z);have i:=setAt g 1 (ah a);have m:=setAt i 2 (ah d);have n:=setAt m 3 (ah f);have o:=setAt n 4 (.string s);refine⟨?_,o,λk q=>?_,rfl⟩
  .simp[World.setCell]
  .have e:∀(w:au) j v,(w.setCell (aB b j) v).heap[k]? =w.heap[k]? :=λw j v=>(aside_setCell w ⟨b,j,none⟩ v).block k q;rw[e,e,e,e,e]
theorem GV{x:Operand}{z0 z1 z2 z3:Int}(i:o.op=.store 101 x y)(j:ρ x=aJ b 0)(k:ρ y=.agg #[ah z0,ah z1,ah z2,ah z3,.string s])(h:w.heap[b]? =some (.cells c 101))(hc:c.size=5):(execOp ρ o).run prog w=.ok .skip (((((w.setCell (aB b 0) (ah z0)).setCell (aB b 1) (ah z1)).setCell (aB b 2) (ah z2)).setCell (aB b 3) (ah z3)).setCell (aB b 4) (.string s)):=by
 obtain⟨l⟩:=c
 match l,hc with
 |[x0,x1,x2,x3,x4],_=>have a:=aQ w b 0 _ _ _ h;have d:=aQ w b 1 _ _ _ h;have e:=aQ w b 2 _ _ _ h;have f:=aQ w b 3 _ _ _ h;have g:=aQ w b 4 _ _ _ h;simp at a d e f g;have m:=Lib.frozen_of_heap h 0;have n:=Lib.frozen_of_heap h 1;have p:=Lib.frozen_of_heap h 2;have q:=Lib.frozen_of_heap h 3;have r:=Lib.frozen_of_heap h 4;clear h;unfold execOp;rw[i];simp only[j,k];go_simp
section
variable [Payload] [Zb]
theorem Vj:f66.body=some (.seq (.region 0 (rg f66 0) false) (.seq (.region 1 (rg f66 1) false) (.seq (.region 2 (rg f66 2) false) (.seq (.region 3 (rg f66 3) false) .ret)))):=by kernel_rfl
theorem GX(k m i:Nat)(s:aN)(hk:k<=12)(hm:m<=12)(hw:i<=8)(hs:s.size<=1000000):RC bT prog ty E 66 #[.string s,ah k,ah m,ah (8*i:Nat)] w λx u=>x=.agg #[ah k,ah m,ah (8*i:Nat),ah s.size,.string (iw k m i s)]/\Hw w u:=by
 refine RC.of func66 M0 Vj (by show 4<=24;decide) λS R I V F W seg T=>?_;change CP _ _ _ _ ⟨_,fa 24 _,_⟩ _ _;refine kg ?_;refine CP.BP (t:=101) (d:=8) (z:=.agg #[ah 0,ah 0,ah 0,ah 0,.string ⟨#[]⟩]) rfl (.of M0) (dW M0) M0 λe G=>?_;refine kg ?_;refine kv (ah s.size) ?_;refine kv (.agg #[ah k,ah m,ah (8*i:Nat),ah s.size,.string ⟨#[]⟩]) ?_;refine CP.BP (t:=101) (d:=9) (z:=.agg #[ah 0,ah 0,ah 0,ah 0,.string ⟨#[]⟩]) rfl (.of M0) (dW M0) M0 λN C=>?_;have J:=G.size;have L:=C.size;have P:N.heap[e.heap.size]? =some (.cells #[ah 0,ah 0,ah 0,ah 0,.string ⟨#[]⟩] 101):=C.new;have X:N.heap[w.heap.size]? =some (.cells #[ah 0,ah 0,ah 0,ah 0,.string ⟨#[]⟩] 101):=(C.old _ Q0).trans G.new;refine CP.fU (K:=.store 101 (.tmp 9) (.tmp 15)) aH rfl (.of M0) (dW M0) λt n o h=>⟨_,GV (c:=#[ah 0,ah 0,ah 0,ah 0,.string ⟨#[]⟩]) (z0:=(k:Int)) (z1:=(m:Int)) (z2:=((8*i:Nat):Int)) (z3:=(s.size:Int)) (s:=⟨#[]⟩) (b:=e.heap.size) h ((aj U0).trans rfl) ((aj U0).trans rfl) P rfl,?_⟩;have q:=YD P rfl (k:Int) (m:Int) ((8*i:Nat):Int) (s.size:Int) ⟨#[]⟩;refine CP.tp (w:=((((N.setCell (aB e.heap.size 0) (ah k)).setCell (aB e.heap.size 1) (ah m)).setCell (aB e.heap.size 2) (ah (8*i:Nat))).setCell (aB e.heap.size 3) (ah s.size)).setCell (aB e.heap.size 4) (.string ⟨#[]⟩)) ?_ t n;generalize((((N.setCell (aB e.heap.size 0) (ah k)).setCell (aB e.heap.size 1) (ah m)).setCell (aB e.heap.size 2) (ah (8*i:Nat))).setCell (aB e.heap.size 3) (ah s.size)).setCell (aB e.heap.size 4) (.string ⟨#[]⟩)=u3 at q ⊢;have M:=q.size;have j:=q.new;refine kg ?_;refine kV (.load 101 (.tmp 9)) 16 (.agg #[ah k,ah m,ah (8*i:Nat),ah s.size,.string ⟨#[]⟩]) (λt n o=>by have Y:(Ren.tp u3 t n).cell? (aB e.heap.size 0)=some (ah k):=(aQ u3 _ 0 _ _ _ j).trans rfl;have Z:(Ren.tp u3 t n).cell? (aB e.heap.size 1)=some (ah m):=(aQ u3 _ 1 _ _ _ j).trans rfl;have q2:(Ren.tp u3 t n).cell? (aB e.heap.size 2)=some (ah (8*i:Nat)):=(aQ u3 _ 2 _ _ _ j).trans rfl;have q3:(Ren.tp u3 t n).cell? (aB e.heap.size 3)=some (ah s.size):=(aQ u3 _ 3 _ _ _ j).trans rfl;have q4:(Ren.tp u3 t n).cell? (aB e.heap.size 4)=some (.string ⟨#[]⟩):=(aQ u3 _ 4 _ _ _ j).trans rfl;clear T;(try clear J);(try clear L);(try clear M);(try clear s4);clear j;simp;try go_simp) ?_;refine kf (A9 k m i s.size ⟨#[]⟩ hk hm hw) ?_;rintro _ u4 ⟨rfl,g⟩;refine kw (.string (Bq++qM k m i)) ?_ (hr:=(λt n o h=>by exact gW (a:=Bq) (b:=qM k m i) h rfl R3 (by rw[pq];decide)));refine kg ?_;refine kw (.string (Bq++qM k m i++s)) ?_ (hr:=(λt n o h=>by exact gW (a:=Bq++qM k m i) (b:=s) h R3 R3 (by rw[eB,pq];show 7+3+_<=_;omega)));refine kf (vs:=#[.string (Bq++qM k m i++s)]) (QZ _ (by rw[eB,eB,pq];show 7+3+_<=maxLen;unfold maxLen;omega)) ?_;rintro _ p ⟨rfl,r⟩;refine kv (aJ e.heap.size 4) ?_;have Q:=bY g.size r.size;have H:p.heap[e.heap.size]? =some (.cells #[ah k,ah m,ah (8*i:Nat),ah s.size,.string ⟨#[]⟩] 101):=(r.block _ (by have:=g.size;omega)).trans ((g.block _ Q0).trans j);refine CP.fU (K:=.store 9 (.tmp 22) (.tmp 21)) aH rfl (.of M0) (dW M0) λt n o h=>⟨(Ren.tp p t n).setCell (aB e.heap.size 4) (.string (iw k m i s)),?_,?_⟩
 .have c0:(Ren.tp p t n).cell? (aB e.heap.size 4)=some (.string ⟨#[]⟩):=(aQ p _ 4 _ _ _ H).trans rfl;have f0:(Ren.tp p t n).frozen? (aB e.heap.size 4)=false:=Lib.frozen_of_heap H 4;have ek:nU (Bq++qM k m i++s)=iw k m i s:=by simp only[iw,qM,ByteArray.append_assoc]
  clear T J L M Q H j P X;unfold execOp;rw[h];simp[aj,aC,ek];go_simp
 refine CP.tp (w:=p.setCell (aB e.heap.size 4) (.string (iw k m i s))) ?_ t n;have f:=setAt H 4 (.string (iw k m i s));have B:=aside_setCell p ⟨e.heap.size,4,none⟩ (.string (iw k m i s));generalize p.setCell (aB e.heap.size 4) (.string (iw k m i s))=u6 at f B ⊢;have f:u6.heap[e.heap.size]? =some (.cells #[ah k,ah m,ah (8*i:Nat),ah s.size,.string (iw k m i s)] 101):=f;have s6:=B.size;have O:u6.heap[w.heap.size]? =some (.cells #[ah 0,ah 0,ah 0,ah 0,.string ⟨#[]⟩] 101):=(B.block _ (by show w.heap.size≠e.heap.size;omega)).trans ((r.block _ (by have:=g.size;omega)).trans ((g.block _ Q0).trans ((q.old _ Q0).trans X)));refine kg ?_;refine kV (.load 101 (.tmp 9)) 23 (.agg #[ah k,ah m,ah (8*i:Nat),ah s.size,.string (iw k m i s)]) (λt n o=>by have Y:(Ren.tp u6 t n).cell? (aB e.heap.size 0)=some (ah k):=(aQ u6 _ 0 _ _ _ f).trans rfl;have Z:(Ren.tp u6 t n).cell? (aB e.heap.size 1)=some (ah m):=(aQ u6 _ 1 _ _ _ f).trans rfl;have q2:(Ren.tp u6 t n).cell? (aB e.heap.size 2)=some (ah (8*i:Nat)):=(aQ u6 _ 2 _ _ _ f).trans rfl;have q3:(Ren.tp u6 t n).cell? (aB e.heap.size 3)=some (ah s.size):=(aQ u6 _ 3 _ _ _ f).trans rfl;have q4:(Ren.tp u6 t n).cell? (aB e.heap.size 4)=some (.string (iw k m i s)):=(aQ u6 _ 4 _ _ _ f).trans rfl;clear T J L M Q s6 f O;simp;try go_simp) ?_;refine CP.fU (K:=.store 101 (.tmp 8) (.tmp 23)) aH rfl (.of M0) (dW M0) λt n o h=>⟨_,GV (c:=#[ah 0,ah 0,ah 0,ah 0,.string ⟨#[]⟩]) (z0:=(k:Int)) (z1:=(m:Int)) (z2:=((8*i:Nat):Int)) (z3:=(s.size:Int)) (s:=iw k m i s) (b:=w.heap.size) h ((aj U0).trans rfl) ((aj U0).trans rfl) O rfl,?_⟩;have D:=YD O rfl (k:Int) (m:Int) ((8*i:Nat):Int) (s.size:Int) (iw k m i s);refine CP.tp (w:=((((u6.setCell (aB w.heap.size 0) (ah k)).setCell (aB w.heap.size 1) (ah m)).setCell (aB w.heap.size 2) (ah (8*i:Nat))).setCell (aB w.heap.size 3) (ah s.size)).setCell (aB w.heap.size 4) (.string (iw k m i s))) ?_ t n;generalize((((u6.setCell (aB w.heap.size 0) (ah k)).setCell (aB w.heap.size 1) (ah m)).setCell (aB w.heap.size 2) (ah (8*i:Nat))).setCell (aB w.heap.size 3) (ah s.size)).setCell (aB w.heap.size 4) (.string (iw k m i s))=u7 at D ⊢;have y:=D.new;refine kg ?_;refine CP.aeH rfl func66 (v:=.agg #[ah k,ah m,ah (8*i:Nat),ah s.size,.string (iw k m i s)]) (λt n=>?_) (T _ _ ⟨rfl,?_⟩)
 .have Y:(Ren.tp u7 t n).cell? (aB w.heap.size 0)=_:=(aQ u7 _ 0 _ _ _ y).trans rfl;have Z:(Ren.tp u7 t n).cell? (aB w.heap.size 1)=_:=(aQ u7 _ 1 _ _ _ y).trans rfl;have q2:(Ren.tp u7 t n).cell? (aB w.heap.size 2)=_:=(aQ u7 _ 2 _ _ _ y).trans rfl;have q3:(Ren.tp u7 t n).cell? (aB w.heap.size 3)=_:=(aQ u7 _ 3 _ _ _ y).trans rfl;have q4:(Ren.tp u7 t n).cell? (aB w.heap.size 4)=_:=(aQ u7 _ 4 _ _ _ y).trans rfl;generalize U:fa 24 _=A;have e8:A.tmps[8]?.getD ak=aJ w.heap.size 0:=by rw[<-U,aO U0];rfl
  clear T U y J L M Q s6;simp[results,f66,e8];go_simp
 .have l4:=g.size;have l5:=r.size;have s7:=D.size;refine⟨Q0,λb hb=>?_,D.os.trans (B.os.trans (r.os.trans (g.os.trans (q.os.trans (C.os.trans G.os)))))⟩;exact(D.old b Q0).trans ((B.block b (by show b≠e.heap.size;omega)).trans ((r.block b Q0).trans ((g.block b Q0).trans ((q.old b Q0).trans ((C.old b Q0).trans (G.old b hb))))))
end
abbrev Bs(B b:Nat)(q:aA)(s:aN)(u:au):Prop:=Bt B b q (Lib.strCells s) u
theorem Bt.keep{i:au}(h:Bt B b q bs u)(k:Hw u i):Bt B b q bs i:=by
 obtain⟨m,v,d,f,n⟩:=h;refine⟨m,v,(k.block b (bJ.1 d).1).trans d,⟨f.1,?_⟩,n⟩;obtain h|⟨g,c,cur,fz,e,j,a,l⟩:=f.2
 .exact .inl h
 .exact .inr ⟨g,c,cur,fz,e,j,(k.block g (bJ.1 a).1).trans a,l⟩
theorem Bt.lt(h:Bt B b q bs u):b<u.heap.size:=let⟨_,_,a,_⟩:=h;(bJ.1 a).1
theorem Bt.fresh(h:u.heap[b]? =some (.cells #[.pointer none,.slice none 0 0] 124)):Bs b b (.pointer none) ⟨#[]⟩ u:=⟨aS _,_,h,⟨rfl,.inl ⟨rfl,rfl⟩⟩,by simp[Value.ownBlock]⟩
section
variable [Payload] [Zb] {H : List PF}
theorem wsO(B b:Nat)(S s:aN)(h:Bs B b (.pointer none) S w\/Bs B b (aJ b 0) S w)(l:S.size+s.size<=140737488355328):RC bT prog ty E 64 #[aJ b 0,.string s] w λv u=>v=.tuple #[ah s.size,.nilIface]/\Bs B b (aJ b 0) (S++s) u/\Hb B w u/\QX b w u:=by have f:B<=w.heap.size:=h.elim (λh=>bY h.1 (Nat.le_of_lt h.lt)) λh=>bY h.1 (Nat.le_of_lt h.lt);refine(abx B b (Lib.strCells S) s w h (by rw[Lib.strCells_length];exact l) f).mono ?_;rintro v u ⟨a,c,d,e⟩;exact⟨a,by unfold Bs;rw[Dp];exact c,d,e⟩
theorem wsS(B b:Nat)(S s:aN)(h:Bs B b (.pointer none) S w\/Bs B b (aJ b 0) S w)(l:S.size+s.size<=140737488355328):RC bT prog ty E 64 #[aJ b 0,.string s] w λv u=>v=.tuple #[ah s.size,.nilIface]/\Bs B b (aJ b 0) (S++s) u/\Hb B w u:=(wsO B b S s h l).mono λv u h=>⟨h.1,h.2.1,h.2.2.1⟩
theorem sgS(B b:Nat)(q:aA)(S:aN)(h:Bs B b q S w)(d:0<S.size):RC bT prog ty E 65 #[aJ b 0] w λv u=>v=.string S/\Bs B b q S u/\Hb B w u:=by
 have l:S.data.toList≠[]:=by
  intro e;have:S.data.size=0:=by rw[<-uZ,e];rfl
  have a:S.size=S.data.size:=rfl;omega
 refine(abz B b q S.data.toList w h l).mono ?_;rintro v u ⟨rfl,c,a⟩;exact⟨X0,c,a⟩
def qz(key:aN)(v:Nat)(D:Nat->aN):Nat->aN
 |0=>⟨#[]⟩
 |n+1=>qz key v D n++eY key v n (D n)
def pz(k m width len:Nat)(key:aN)(v:Nat)(D:Nat->aN)(n:Nat):aN:=dF k m width (dz (k*(8*width)) len) len key++qz key v D n++dF k m width (dz (k*(8*width)) len) len key
theorem rJ(key:aN)(v st:Nat)(d:aN):(eY key v st d).size=12+key.size+d.size:=by have h:(⟨#[66]⟩:aN).size=1:=rfl;simp only[eY,eB,dB,oC,h];omega
theorem qA(k m w st len:Nat)(key:aN):(dF k m w st len key).size=17+key.size:=by have h:(⟨#[77]⟩:aN).size=1:=rfl;simp only[dF,kN,eB,dB,oC,h];omega
theorem sQ(key:aN)(v:Nat)(D:Nat->aN)(n:Nat)(k:key.size<=1000)(h:∀i,i<n->(D i).size<=1000):(qz key v D n).size<=3000*n:=by
 induction n with
 |zero=>exact aS _
 |succ n a=>have:=a λi b=>h i Q0;have:=h n Q0;simp only[qz,eB,rJ];omega
theorem Vk:f133.body=some (.seq (.region 0 (rg f133 0) false) (.seq (.region 1 (rg f133 1) false) (.seq (.region 2 (rg f133 2) false) (.seq (.seq (.region 3 (rg f133 3) false) (.block 0 (.loop (.seq (.region 4 (rg f133 4) false) (.seq (.cond (.tmp 16) .skip (.exit 0)) (.seq (.block 1 (.seq (.region 5 (rg f133 5) false) (.region 6 (rg f133 6) true))) (.region 7 (rg f133 7) false))))))) (.seq (.region 8 (rg f133 8) false) (.seq (.region 9 (rg f133 9) false) .ret)))))):=by kernel_rfl
theorem YE(a:Act)(u:au):(results f133 a.tmps).run prog u=.ok (a.tmps.getD 6 ak) u:=by simp[results,f133,go_sem]
theorem abF(a:Act)(u:au):(results f133 a.tmps).events prog u #[]=#[]:=by simp[results,f133,go_sem]
structure NU(C n k m v:Nat)(gs:Nat->Nat)(D:Nat->aN)(w:au):Prop where
 c:∀i,i<n->w.cell? (aB C i)=some (aU (gs i) (k+m) (k+m))
 g:∀i,i<n->w.cell? (aB (gs i) v)=some (.string (D i))
theorem fO{x:aA}(h:w.cell? (aB b i)=some x):b<w.heap.size:=World.block_lt_of_cell? _ _ h
theorem NU.keep{C n k m v:Nat}(h:NU C n k m v gs D w)(b:Hw w u):NU C n k m v gs D u:=⟨λi a=>(cell_of_block (b.block C (fO (h.c i a))) _).trans (h.c i a),λi a=>(cell_of_block (b.block (gs i) (fO (h.g i a))) _).trans (h.g i a)⟩
structure VoF(xb b C n v i:Nat)(f:Nat->aA):Prop where
 h1:f 1=ah v
 h3:f 3=aJ xb 0
 h7:f 7=aJ b 0
 A8:f 13=aU C n n
 Oy:f 14=ah n
 Q8:f 15=ah i
noncomputable def voX:Code:=match f133.body with|some (.seq _ (.seq _ (.seq _ (.seq (.seq _ (.block _ (.loop c))) _))))=>c|_=>.skip
theorem Em:voX=.seq (.region 4 (rg f133 4) false) (.seq (.cond (.tmp 16) .skip (.exit 0)) (.seq (.block 1 (.seq (.region 5 (rg f133 5) false) (.region 6 (rg f133 6) true))) (.region 7 (rg f133 7) false))):=by kernel_rfl
theorem Vl(C n k m a len v b B:Nat)(key T:aN)(gs:Nat->Nat)(D:Nat->aN)(hn:n<=65536)(hv:v<k+m)(xq:k+m<=12)(F:key.size<=1000)(hD:∀i,i<n->(D i).size<=1000)(hT0:T.size<=10000)(A:NU C n k m v gs D w)(hx:w.heap[B]? =some (.cells #[ah k,ah m,ah (8*a:Nat),ah len,.string key] 101))(N:w.heap.size<=b)
 (hT:∀f u,VoF B b C n v n f->Hb b w u->Bs b b (aJ b 0) (T++qz key v D n) u->CP bT prog ty E ⟨base 133,fa 34 f,K⟩ H u):
 ∀j i,i+j=n->∀f u,VoF B b C n v i f->Hb b w u->Bs b b (aJ b 0) (T++qz key v D i) u->CP bT prog ty E ⟨base 133,fa 34 f,.code voX:: .inLoop voX:: .inBlock 0::K⟩ H u:=by
 intro j
 induction j with
 |zero=>
  intro i M f u s hw I;have J:=s;cases J;obtain rfl:i=n:=by omega
  rw[Em];refine kg ?_;refine kv (.bool false) ?_;refine kg ?_;refine kq false ?_;refine CP.ctl (λa' cs u=>stepG_exit (k':=K) rfl) ?_;exact hT _ u ⟨by simp[aC,s.h1],by simp[aC,s.h3],by simp[aC,s.h7],by simp[aC,s.A8],by simp[aC,s.Oy],by simp[aC,s.Q8]⟩ hw I
 |succ j ih=>
  intro i M f u s hw I;have J:=s;cases J;have d:i<n:=by omega
  rw[Em];refine kg ?_;refine kv (.bool true) ?_;refine kg ?_;refine kq true ?_;refine kg ?_;have cC:u.cell? (aB C i)=some (aU (gs i) (k+m) (k+m)):=(cell_of_block (hw.block C (bG (fO (A.c i d)) N)) _).trans (A.c i d);have cG:u.cell? (aB (gs i) v)=some (.string (D i)):=(cell_of_block (hw.block (gs i) (bG (fO (A.g i d)) N)) _).trans (A.g i d);refine kg ?_;refine kv (aJ C i) ?_;have c0:u.cell? (aB C i)=some (aU (gs i) (k+m) (k+m)):=cC;refine kv (aU (gs i) (k+m) (k+m)) ?_;refine kg ?_;generalize G:aC _ 9 _=g;have g1:g 1=ah v:=by rw[<-G];simp[aC,s.h1]
  have g3:g 3=aJ B 0:=by rw[<-G];simp[aC,s.h3]
  have g7:g 7=aJ b 0:=by rw[<-G];simp[aC,s.h7]
  have g8:g 8=ah i:=by rw[<-G];simp[aC,s.Q8]
  have g9:g 9=aU (gs i) (k+m) (k+m):=by rw[<-G];simp[aC]
  have O:g 13=aU C n n:=by rw[<-G];simp[aC,s.A8]
  have P:g 14=ah n:=by rw[<-G];simp[aC,s.Oy]
  have Q:g 15=ah i:=by rw[<-G];simp[aC,s.Q8]
  have hz:=sQ key v D i F λq y=>hD q Q0;have xl:B<b:=bG (bJ.1 hx).1 N;have gl:gs i<b:=bG (fO (A.g i d)) N;have SX:u.heap[B]? =some (.cells #[ah k,ah m,ah (8*a:Nat),ah len,.string key] 101):=(hw.block B xl).trans hx;have hDi:=hD i d;clear G s;refine CP.GD M0 M0 M0 (λq _ x=>x=match q with|0=>.agg #[ah k,ah m,ah (8*a:Nat),ah len,.string key]|1=>ah v|2=>ah i|3=>aU (gs i) (k+m) (k+m)|4=>ah v|5=>aJ (gs i) v|6=>.string (D i)|7=>.string (eY key v i (D i))|_=>.tuple #[ah (eY key v i (D i)).size,.nilIface]) 8 (λq L=>Hb b u L/\Bs b b (aJ b 0) (if q then T++qz key v D (i+1)else T++qz key v D i) L) (λ_ _=>True) (λ_ _ _ _ _ h=>h) ⟨.refl _ _,I⟩ ?_ ?_
  .intro q i2 f u2 rest M y hold hJ e p;have h1:f 1=ah v:=(hold 1 M0 U0).trans g1;have h3:f 3=aJ B 0:=(hold 3 M0 U0).trans g3;have h7:f 7=aJ b 0:=(hold 7 M0 U0).trans g7;have h8:f 8=ah i:=(hold 8 M0 U0).trans g8;have h9:f 9=aU (gs i) (k+m) (k+m):=(hold 9 M0 U0).trans g9;have nb:=(hJ.1.block B xl).trans SX;have cG':=(cell_of_block (hJ.1.block (gs i) gl) v).trans cG;clear hold hT ih
   match i2,M,y,e,p with
   |0,_,y,e,p=>have YF:=λj=>aQ u2 _ j _ _ _ nb;exact kt (p _ _ trivial U1 rfl)
   |1,_,y,e,p=>exact kt (p _ _ trivial U1 rfl)
   |2,_,y,e,p=>exact kt (p _ _ trivial U1 rfl)
   |3,_,y,e,p=>exact kt (p _ _ trivial U1 rfl)
   |4,_,y,e,p=>exact kt (p _ _ trivial U1 rfl)
   |5,_,y,e,p=>have h23:=e 3 23 M0 M0;have h24:=e 4 24 M0 M0;exact kt (p _ _ trivial U1 rfl)
   |6,_,y,e,p=>have h25:=e 5 25 M0 M0;exact kt (p _ _ trivial U1 rfl)
   |7,_,y,e,p=>have V:=e 0 20 M0 M0;have W:=e 1 21 M0 M0;have X:=e 2 22 M0 M0;have Y:=e 6 26 M0 M0;exact RC.call (dt:=fM (rg f133 6) 7) rfl (.of M0) (xs:=#[.tmp 20,.tmp 21,.tmp 22,.tmp 26]) (ats:=#[101,3,3,9]) Y1 (vs:=#[.agg #[ah k,ah m,ah (8*a:Nat),ah len,.string key],ah v,ah i,.string (D i)]) (by simp[aj,aO,Act.eval,V,W,X,Y]) (Q7 k m (8*a) len v i key (D i) Q0 Q0 F hDi) (λx L r=>p x L trivial (by refine⟨hJ.1.trans ⟨r.2.size,λz hz=>r.2.block z (Nat.lt_trans hz hJ.2.lt),r.2.os⟩,?_⟩;simpa using hJ.2.keep r.2) r.1)
   |8,_,y,e,p=>have Z:=e 7 27 M0 M0;exact RC.call (dt:=fM (rg f133 6) 8) rfl (.of M0) (xs:=#[.tmp 7,.tmp 27]) (ats:=#[124,9]) Y1 (vs:=#[aJ b 0,.string (eY key v i (D i))]) (by simp[aj,aO,Act.eval,Z,h7]) (wsS b b (T++qz key v D i) _ (.inr (by have:=hJ.2;rw[y rfl]at this;exact this)) (by rw[eB,rJ];omega)) (λx L r=>p x L trivial (by refine⟨hJ.1.trans r.2.2,?_⟩;simp only[beq_self_eq_true,Bool.or_true,if_true,qz];rw[<-ByteArray.append_assoc];exact r.2.1) r.1)
   |i2+9,M,_,_,_=>exact aF M (by rw[show(rg f133 6).size=9 from by kernel_rfl];omega)
  .intro q f u2 y hold hJ e _;have y:q=true:=y (by rw[show(rg f133 6).size=9 from by kernel_rfl];decide);subst y;have h1:=(hold 1 M0 U0).trans g1;have h3:=(hold 3 M0 U0).trans g3;have h7:=(hold 7 M0 U0).trans g7;have R:=(hold 13 M0 U0).trans O;have S:=(hold 14 M0 U0).trans P;have U:=(hold 15 M0 U0).trans Q;refine kg ?_;refine kV (.binOp .add 3 (.tmp 15) (.const (ah 1)) 3) 29 (ah (i+1:Nat)) (λt n' o=>by clear hT ih;simp[U];go_simp;rw[IntKind.wrap_i64];omega) ?_;refine kg ?_;refine CP.ctl (λa' cs u=>stepG_inLoop) ?_;rw[<-Em];exact ih (i+1) Q0 _ u2 ⟨by simp[aC,h1],by simp[aC,h3],by simp[aC,h7],by simp[aC,R],by simp[aC,S],by simp[aC]⟩ (hw.trans hJ.1) hJ.2
end
theorem app0(s:aN):s++⟨#[]⟩=s:=ByteArray.ext (by simp[ByteArray.data_append])
theorem app0'(s:aN):(⟨#[]⟩:aN)++s=s:=ByteArray.ext (by simp[ByteArray.data_append])
section
variable [Payload] [Zb]
theorem NV(C n k m b len v:Nat)(key:aN)(gs:Nat->Nat)(D:Nat->aN)(hn:n<=65536)(o:1<=k)(L:k+m<=12)(p:1<=b)(q:b<=8)(S:len<=1000000)(hv:v<k+m)(e:key.size<=1000)(R:∀i,i<n->(D i).size<=1000)(K:NU C n k m v gs D w):
 RC bT prog ty E 133 #[.agg #[ah k,ah m,ah (8*b:Nat),ah len,.string key],ah v,aU C n n] w λx u=>x=.string (pz k m b len key v D n)/\Hw w u:=by
 refine RC.of func133 M0 Vk (by show 3<=34;decide) λP N I U A W seg hT=>?_;change CP _ _ _ _ ⟨_,fa 34 _,_⟩ _ _;refine kg ?_;refine CP.yX (t:=101) (y:=0) (d:=3) rfl (.of M0) U0 λc B=>?_;refine kg ?_;refine CP.BP (t:=124) (d:=7) (z:=.agg #[.pointer none,.slice none 0 0]) rfl (.of M0) (dW M0) M0 λg F=>?_;have M:c.heap[w.heap.size]? =some (.cells #[ah k,ah m,ah (8*b:Nat),ah len,.string key] 101):=B.new;have s1:=B.size;have s2:=F.size;have Z:Bs c.heap.size c.heap.size (.pointer none) ⟨#[]⟩ g:=Bt.fresh F.new;have hT9:(dF k m b (dz (k*(8*b)) len) len key).size=17+key.size:=qA _ _ _ _ _ _;have r:=(F.old _ Q0).trans M;refine kg ?_;have e0:g.cell? (aB w.heap.size 0)=some (ah k):=(aQ g _ 0 _ _ _ r).trans rfl;have e1:g.cell? (aB w.heap.size 1)=some (ah m):=(aQ g _ 1 _ _ _ r).trans rfl;have e2:g.cell? (aB w.heap.size 2)=some (ah (8*b:Nat)):=(aQ g _ 2 _ _ _ r).trans rfl;have e3:g.cell? (aB w.heap.size 3)=some (ah len):=(aQ g _ 3 _ _ _ r).trans rfl;have e4:g.cell? (aB w.heap.size 4)=some (.string key):=(aQ g _ 4 _ _ _ r).trans rfl;refine kv (.agg #[ah k,ah m,ah (8*b:Nat),ah len,.string key]) ?_;refine kf (LJ k m b len key o Q0 Q0 p q S e) ?_;rintro _ u3 ⟨rfl,G⟩;refine kf (vs:=#[aJ c.heap.size 0,.string (dF k m b (dz (k*(8*b)) len) len key)]) (wsS c.heap.size c.heap.size ⟨#[]⟩ _ (.inl (Z.keep G)) (by show 0+_<=_;omega)) ?_;rintro _ X ⟨rfl,b4,h4⟩;rw[app0']at b4;have k4:Hb c.heap.size c X:=(F.hw.trans ⟨G.size,λz T=>G.block z Q0,G.os⟩).trans h4;refine kg ?_;refine kv (ah n) ?_;refine kg ?_;refine CP.ctl (λY cs u=>stepG_loop) ?_;rw[<-Em];refine Vl (w:=c) C n k m b len v c.heap.size w.heap.size key (dF k m b (dz (k*(8*b)) len) len key) gs D hn hv L e R Q0 (K.keep B.hw) M (aS _) ?_ n 0 Q0 _ X ⟨by simp[aC],by simp[aC],by simp[aC],by simp[aC],by simp[aC],by simp[aC]⟩ k4 (by rw[show qz key v D 0=⟨#[]⟩from rfl,app0];exact b4);intro f j hf Q O;have J:=hf;cases J;have s:=(Q.block _ Q0).trans M;refine kg ?_;have e0:j.cell? (aB w.heap.size 0)=some (ah k):=(aQ j _ 0 _ _ _ s).trans rfl;have e1:j.cell? (aB w.heap.size 1)=some (ah m):=(aQ j _ 1 _ _ _ s).trans rfl;have e2:j.cell? (aB w.heap.size 2)=some (ah (8*b:Nat)):=(aQ j _ 2 _ _ _ s).trans rfl;have e3:j.cell? (aB w.heap.size 3)=some (ah len):=(aQ j _ 3 _ _ _ s).trans rfl;have e4:j.cell? (aB w.heap.size 4)=some (.string key):=(aQ j _ 4 _ _ _ s).trans rfl;refine kv (.agg #[ah k,ah m,ah (8*b:Nat),ah len,.string key]) ?_;refine kf (LJ k m b len key o Q0 Q0 p q S e) ?_;rintro _ u6 ⟨rfl,H⟩;have T:=sQ key v D n e R;have l5:=O.lt;refine kf (vs:=#[aJ c.heap.size 0,.string (dF k m b (dz (k*(8*b)) len) len key)]) (wsS c.heap.size c.heap.size (dF k m b (dz (k*(8*b)) len) len key++qz key v D n) _ (.inr (O.keep H)) (by rw[eB];omega)) ?_;rintro _ u7 ⟨rfl,b7,h7⟩;refine kg ?_;refine kf (sgS c.heap.size c.heap.size _ _ b7 (by rw[eB,eB];omega)) ?_;rintro _ u8 ⟨rfl,b8,h8⟩;refine kg ?_;refine CP.out rfl rfl func133 (V:=λa=>a.tmps.getD 6 ak) YE abF (λπ a Y h=>h.tmps.getD 6) ?_;refine hT _ _ ⟨?_,?_⟩
 .show(fa _ _).tmps.getD 6 ak=_;rw[bN U0];simp[aC,pz]
 .have k8:Hb c.heap.size c u8:=((Q.trans ⟨H.size,λz T=>H.block z Q0,H.os⟩).trans h7).trans h8;exact B.hw.step k8
end
theorem YG:(prog.info? 188).map (λi=>(i.zero,i.size,i.bytes))=some (some (.agg #[ah 0,.string ⟨#[]⟩]),2,24):=by kernel_rfl
theorem jw{x:Operand}(h:o.op=.binOp .mul 3 x y 3)(d:ρ x=ah a)(e:ρ y=ah b)(s:a*b<=9223372036854775807):(execOp ρ o).run prog w=.ok (.value (ah (a*b:Nat))) w:=by
 have K:IntKind.i64.wrap ((a:Int)*(b:Int))=((a*b:Nat):Int):=by rw[<-Int.natCast_mul,IntKind.wrap_i64];omega
 clear s;unfold execOp;rw[h];simp only[d,e];generalize((a*b:Nat):Int)=c at*;go_simp
theorem dh{x:Operand}(h:o.op=.binOp .add 3 x y 3)(c:ρ x=ah a)(d:ρ y=ah b)(s:a+b<=9223372036854775807):(execOp ρ o).run prog w=.ok (.value (ah (a+b:Nat))) w:=by unfold execOp;rw[h];simp only[c,d];go_simp;rw[IntKind.wrap_i64];omega
theorem Ba{x z:Operand}{S:aN}(c:o.op=.slice 9 x (some y) (some z) none)(d:ρ x=.string S)(e:ρ y=ah a)(f:ρ z=ah b)(h:a<=b)(i:b<=S.size)(g:S.size<=9223372036854775807):(execOp ρ o).run prog w=.ok (.value (.string (S.extract a b))) w:=by unfold execOp;rw[c];simp only[d,e,f,gq,Option.map_none];go_simp
structure uU(g k i:Nat)(X:Nat->aN)(u:au):Prop where
 row:∃c,u.heap[g]? =some (.cells c 188)/\c.size=k*2/\∀j,j<i->c[j*2]? =some (ah j)/\c[j*2+1]? =some (.string (X j))
theorem uU.set{g k:Nat}(h:uU g k i X u)(f:i<k):uU g k (i+1) X ((u.setCell (aB g (i*2)) (ah i)).setCell (aB g (i*2+1)) (.string (X i))):=by
 obtain⟨c,a,b,d⟩:=h.row;refine⟨_,setAt (setAt a _ _) _ _,by simp[b],λj l=>?_⟩;by_cases e:j=i
 .subst e;constructor
  .rw[jN Q0,C9 Q0]
  .rw[C9 M4]
 .have:=d j Q0;constructor
  .rw[jN Q0,jN Q0];exact this.1
  .rw[jN Q0,jN Q0];exact this.2
theorem Q9(u:au)(g i j:Nat)(a b:aA):(∀k,k≠g->((u.setCell (aB g i) a).setCell (aB g j) b).heap[k]? =u.heap[k]?)/\((u.setCell (aB g i) a).setCell (aB g j) b).heap.size=u.heap.size:=⟨λk h=>((aside_setCell _ ⟨g,j,none⟩ b).block k h).trans ((aside_setCell u ⟨g,i,none⟩ a).block k h),by simp[World.setCell]⟩
structure CuF(g k z i:Nat)(S:aN)(f:Nat->aA):Prop where
 h0:f 0=.string S
 h1:f 1=ah z
 h5:f 5=aU g k k
 A8:f 13=ah k
 Oy:f 14=ah i
theorem Vm:f194.body=some (.seq (.region 0 (rg f194 0) false) (.seq (.region 1 (rg f194 1) false) (.seq (.seq (.region 2 (rg f194 2) false) (.block 0 (.loop (.seq (.region 3 (rg f194 3) false) (.seq (.cond (.tmp 15) .skip (.exit 0)) (.seq (.block 1 (.seq (.region 4 (rg f194 4) false) (.region 5 (rg f194 5) false))) (.region 6 (rg f194 6) false))))))) (.seq (.region 7 (rg f194 7) false) .ret)))):=by kernel_rfl
theorem YH(a:Act)(u:au):(results f194 a.tmps).run prog u=.ok (a.tmps.getD 4 ak) u:=by simp[results,f194,go_sem]
theorem abH(a:Act)(u:au):(results f194 a.tmps).events prog u #[]=#[]:=by simp[results,f194,go_sem]
noncomputable def cuX:Code:=match f194.body with|some (.seq _ (.seq _ (.seq (.seq _ (.block _ (.loop c))) _)))=>c|_=>.skip
theorem En:cuX=(.seq (.region 3 (rg f194 3) false) (.seq (.cond (.tmp 15) .skip (.exit 0)) (.seq (.block 1 (.seq (.region 4 (rg f194 4) false) (.region 5 (rg f194 5) false))) (.region 6 (rg f194 6) false)))):=by kernel_rfl
section
variable [Payload] [Zb] {H : List PF}
theorem Vn(g k z:Nat)(S:aN)(L:k<=12)(A:z<=64)(y:S.size=k*z)
 (T:∀f u,CuF g k z k S f->Hb g w u->uU g k k (λj=>S.extract (j*z) ((j+1)*z)) u->CP bT prog ty E ⟨base 194,fa 33 f,K⟩ H u):
 ∀j i,i+j=k->∀f u,CuF g k z i S f->Hb g w u->uU g k i (λj=>S.extract (j*z) ((j+1)*z)) u->CP bT prog ty E ⟨base 194,fa 33 f,.code cuX:: .inLoop cuX:: .inBlock 0::K⟩ H u:=by
 intro j
 induction j with
 |zero=>
  intro i J f u h hw q;have m:=h;cases m;obtain rfl:i=k:=by omega
  rw[En];refine kg ?_;refine kv (.bool false) ?_;refine kg ?_;refine kq false ?_;refine CP.ctl (λD F u=>stepG_exit (k':=K) rfl) ?_;exact T _ u ⟨by simp[aC,h.h0],by simp[aC,h.h1],by simp[aC,h.h5],by simp[aC,h.A8],by simp[aC,h.Oy]⟩ hw q
 |succ j p=>
  intro i J f u h hw q;have m:=h;cases m;have x:i<k:=by omega
  have M:i*z<=12*64:=iJ Q0 A;have B:(i+1)*z<=k*z:=iR _ Q0;have N:(i+1)*z=i*z+z:=jk _ _;rw[En];refine kg ?_;refine kv (.bool true) ?_;refine kg ?_;refine kq true ?_;refine kg ?_;generalize G:aC _ 6 _=e;have e0:e 0=.string S:=by rw[<-G];simp[aC,h.h0]
  have e1:e 1=ah z:=by rw[<-G];simp[aC,h.h1]
  have e5:e 5=aU g k k:=by rw[<-G];simp[aC,h.h5]
  have e6:e 6=ah i:=by rw[<-G];simp[aC,h.Oy]
  have e13:e 13=ah k:=by rw[<-G];simp[aC,h.A8]
  have e14:e 14=ah i:=by rw[<-G];simp[aC,h.Oy]
  clear G h;refine kg ?_;refine kw (ah (i*z:Nat)) ?_ (hr:=(λt n o d=>by clear T p;exact jw (a:=i) (b:=z) d J4 J4 Q0));refine kg ?_;refine kV (.binOp .add 3 (.tmp 24) (.const (ah 1)) 3) 25 (ah (i+1:Nat)) (λt n o=>by clear T p;simp[e0,e1,e5,e6,e13,e14];go_simp;rw[IntKind.wrap_i64];omega) ?_;refine kg ?_;refine kw (ah ((i+1)*z:Nat)) ?_ (hr:=(λt n o d=>by clear T p;exact jw (a:=i+1) (b:=z) d J4 J4 Q0));refine kw (.string (S.extract (i*z) ((i+1)*z))) ?_ (hr:=(λt n o d=>by clear T p;exact Ba d J4 ((aj U0).trans rfl) ((aj U0).trans rfl) (iR _ Q0) (by rw[y];exact B) (by rw[y];exact bY (iJ L A) U0)));refine kv (.agg #[ah i,.string (S.extract (i*z) ((i+1)*z))]) ?_;refine kv (aJ g (i*2)) ?_;refine CP.fU (K:=.store 188 (.tmp 30) (.tmp 29)) aH rfl (.of M0) (dW M0) λt n o d=>⟨((Ren.tp u t n).setCell (aB g (i*2)) (ah i)).setCell (aB g (i*2+1)) (.string (S.extract (i*z) ((i+1)*z))),?_,?_⟩
  .obtain⟨c,r,v,_⟩:=q.row;have Q:(Ren.tp u t n).cell? (aB g (i*2))=some (c[i*2]' Q0):=(aQ u g _ _ _ _ r).trans (iU Q0);have R:(Ren.tp u t n).cell? (aB g (i*2+1))=some (c[i*2+1]' Q0):=(aQ u g _ _ _ _ r).trans (iU Q0);have O:(Ren.tp u t n).frozen? (aB g (i*2))=false:=Lib.frozen_of_heap r _;have P:(Ren.tp u t n).frozen? (aB g (i*2+1))=false:=Lib.frozen_of_heap r _;generalize S.extract (i*z) ((i+1)*z)=xi at*;clear T p q M B N;unfold execOp;rw[d];simp[aj,aC];go_simp
  refine CP.tp (w:=(u.setCell (aB g (i*2)) (ah i)).setCell (aB g (i*2+1)) (.string (S.extract (i*z) ((i+1)*z)))) (CP.jO ?_) t n;have s:=Q9 u g (i*2) (i*2+1) (ah i) (.string (S.extract (i*z) ((i+1)*z)));have v:=q.set x;have C:((u.setCell (aB g (i*2)) (ah i)).setCell (aB g (i*2+1)) (.string (S.extract (i*z) ((i+1)*z)))).os=u.os:=rfl;generalize(u.setCell (aB g (i*2)) (ah i)).setCell (aB g (i*2+1)) (.string (S.extract (i*z) ((i+1)*z)))=u2 at s v C ⊢;refine kg ?_;refine kw (ah (i+1:Nat)) ?_ (hr:=(λt n o d=>by clear T p;exact dh (a:=i) (b:=1) d J4 rfl Q0));refine kg ?_;refine CP.ctl (λD F u=>stepG_inLoop) ?_;rw[<-En];exact p (i+1) Q0 _ u2 ⟨by simp[aC,e0],by simp[aC,e1],by simp[aC,e5],by simp[aC,e13],by simp[aC]⟩ ⟨by rw[s.2];exact hw.size,λb I=>(s.1 b Q0).trans (hw.block b I),C.trans hw.os⟩ v
end
theorem Ra{x:Operand}{c:Nat}(f:o.op=.binOp .quo 3 x y 3)(g:ρ x=ah a)(i:ρ y=ah b)(k:b≠0)(d:a<=9223372036854775807)(hc:a/b=c):(execOp ρ o).run prog w=.ok (.value (ah c)) w:=by
 have K:IntKind.i64.wrap ((a:Int).tdiv (b:Int))=(c:Int):=by
  have h:(a:Int).tdiv (b:Int)=((a/b:Nat):Int):=rfl;rw[h,hc,IntKind.wrap_i64];have:c<=a:=by rw[<-hc];exact Nat.div_le_self _ _
  omega
 have e:¬((b:Int)=0):=by omega
 have j:IntKind.i64.wrap ((a:Int)/(b:Int))=(c:Int):=by rw[<-K];rfl
 clear d hc;unfold execOp;rw[f];simp only[g,i];go_simp
theorem GY{x:Operand}(d:o.op=.binOp .sub 3 x y 3)(e:ρ x=ah a)(f:ρ y=ah b)(s:b<=a)(h:a<=9223372036854775807):(execOp ρ o).run prog w=.ok (.value (ah (a-b:Nat))) w:=by
 have K:IntKind.i64.wrap ((a:Int)-(b:Int))=((a-b:Nat):Int):=by rw[IntKind.wrap_i64];omega
 clear s h;unfold execOp;rw[d];simp only[e,f];generalize((a-b:Nat):Int)=c at*;go_simp
section
variable [Payload] [Zb]
theorem YI(k z:Nat)(S:aN)(B:k<=12)(q:z≠0)(C:z<=64)(y:S.size=k*z):RC bT prog ty E 194 #[.string S,ah z] w λx u=>∃g,x=aU g k k/\w.heap.size<=g/\uU g k k (λj=>S.extract (j*z) ((j+1)*z)) u/\Hw w u:=by
 have J:k*z<=12*64:=iJ B C;refine RC.of func194 M0 Vm (by show 2<=33;decide) λv s p D r F M T=>?_;change CP _ _ _ _ ⟨_,fa 33 _,_⟩ _ _;refine kg ?_;refine kv (ah S.size) ?_;refine kg ?_;refine kw (ah k) ?_ (hr:=(λt n o m=>by clear T;exact Ra (a:=S.size) (b:=z) m Y2 Y2 q Q0 (by rw[y];exact Nat.mul_div_cancel _ Q0)));obtain⟨L,i,Im⟩:=gL.1 YG;simp only[Prod.mk.injEq]at Im;refine CP.fW (K:=.makeSlice 49 (.tmp 10) (.tmp 10)) (d:=11) aH rfl (.of M0) (dW M0) λt n o m=>⟨aU w.heap.size k k,(Ren.tp w t n).alloc (.cells (madeCells #[ah 0,.string ⟨#[]⟩] (k*2)) 188),?_,?_⟩
 .have:=run_make (P:=prog) (Ren.tp w t n) 49 188 L _ underlying49 i Im.1 .i64 .i64 (k:Int) (k:Int) Q0 (Int.le_refl _) D6 Q0;rw[Im.2.1]at this;unfold execOp;rw[m];simp only[aj (show(10:Nat)<33 from by decide)];rw[Sem.run_bind];erw [this];rfl
 have c:=JD.of w (.cells (madeCells #[ah 0,.string ⟨#[]⟩] (k*2)) 188);refine CP.tp (w:=w.alloc (.cells (madeCells #[ah 0,.string ⟨#[]⟩] (k*2)) 188)) ?_ t n;generalize w.alloc (.cells (madeCells #[ah 0,.string ⟨#[]⟩] (k*2)) 188)=u1 at c ⊢;refine kg ?_;refine kv (ah k) ?_;refine kg ?_;refine CP.ctl (λG N u=>stepG_loop) ?_;rw[<-En];refine Vn (w:=w) w.heap.size k z S B C y ?_ k 0 Q0 _ u1 ⟨by simp[aC],by simp[aC],by simp[aC],by simp[aC],by simp[aC]⟩ c.hw ⟨_,c.new,size_madeCells _ _,λj i=>aF i (dO j)⟩;intro f O A I H;have e:=A;cases e;refine kg ?_;refine CP.out rfl rfl func194 (V:=λa=>a.tmps.getD 4 ak) YH abH (λQ a G h=>h.tmps.getD 4) ?_;refine T _ _ ⟨w.heap.size,?_,aS _,H,I⟩;show(fa _ _).tmps.getD 4 ak=_;rw[bN U0];simp[aC,A.h5]
end
end
section
open Go.Proofs.Tryz
open Go Go.Proofs.YtmhafipgbfaapaaGreatDoor.Ren Go.Conc Go.ConcN Go.RowKit Go.Conc.Lib Go.ConcR.Gen Go.ConcN.Gen
open Go.ConcR (KK WgAt wgBlock stA smA rd wr mk Payload DC0)
variable {K : List Item} {P : Program} {E : aA -> au -> Prop} {args : Array Operand} {ats : Array bf} {b : Nat} {f : FuncId} {Z : Func} {k : IntKind} {n : Int} {o : Oper} {t ty : bf} {u w : au} {v : aA} {ρ : Operand -> aA}
theorem JE(p:Program)(f:FuncId)(s:Array Event):∀e∈seen p f s,∀g,e.loc≠ .mark (.extern g):=by
 unfold seen;refine Array.foldl_induction (motive:=λ_(x:Bool×Array Event)=>∀e∈x.2,∀g,e.loc≠ .mark (.extern g)) (by intro e h;simp at h) (λi x a=>?_);obtain⟨q,k⟩:=x;dsimp only
 split
 .exact a
 .rename_i n;dsimp only
  split
  .exact a
  .intro e h;obtain x|rfl:=Array.mem_push.1 h
   .exact a e x
   .exact λg b=>n g b
section
variable [Payload] [Zb] {π : Map}
theorem CP.opE{S:aD}{b:Frame}{a:Act}{k:List Item}{B:Array Oper}{i:Nat}{r:List Nat}{dt:Option Tmp}{K:List PF}(NI:b.kind=.normal){x:Array aA->Sem aA}(T:At B i (.call {callee:=.value (.func f),args,argTypes:=ats}) dt)(s:∀y∈args,bE S y)(hf:P.funcs[f]? =some Z)(l:(Z.name== "runtime.NumGoroutine")=false)(O:Z.body.isNone=true)(hn:Extern.findNext Z=none)(he:Extern.find Z=some x)
 (hx:∀π vs N,bq S π vs N->ay S P (λπ=>aL S π) π (x vs) (x N))(h:∀t n,∃v m,(x (args.map a.eval)).run P (Ren.tp w t n)=.ok v m/\CP S P ty E ⟨b,a.put dt v,aT B r::k⟩ K m):CP S P ty E ⟨b,a,aT B (i::r)::k⟩ K w:=by
 obtain⟨o,ho,I,rfl,hg⟩:=T;intro d π f' M w' R A hs hh;obtain⟨W,Q,V⟩:=f';obtain⟨rfl,rfl,Y⟩:W=b/\V=_/\fQ S π a Q:=⟨A.b,A.k,A.a⟩;refine .mk (.idle rfl λu hu=>?_);obtain⟨v,m,e1,hk⟩:=h u.tape u.drawn;have U:=hh.rely (dG R hu) u.tape u.drawn;have C:=R.rely hu;have hr:=runs (hx π _ _ (KT Y.eval s)) (Ren.tp w u.tape u.drawn) u #[⟨.mark (.extern f),false,true⟩] U (λi q _ _=>rfl);rw[e1]at hr;obtain⟨v',c,e2,p,j⟩:=hr;have G:=rG j.turns j.heap;have J:(execOp Q.eval o).run P u=.ok (.value v') c:=by rw[El I hf l O hn he,e2];rfl
 refine⟨_,c,_,own p.img,stepG_value ho F5 G6 J,G.own C.kd,λe D=>wJ R.sh (AO j.turns.le ?_),?_⟩
 .have X:=jr P _ _ e D;rw[JC I hf l O hn he]at X;obtain y|y:=j.evs e X
  .have:e=⟨.mark (.extern f),false,true⟩:=by simpa using y
   exact aF (by rw[this]) (JE P _ _ e D f)
  .exact y
 .exact hk d p ⟨W,Q.put o.dst v',_⟩ M c ⟨R.g.trans j.turns.le.g.symm,λb O=>R.sh b ((j.turns.le.sh b).2 O),(j.turns.le.sh _).1 R.z,C.kd.guar G⟩ ⟨rfl,rfl,(Y.mono j.turns.le).put _ j.ans⟩ (hs.mono λ_ _ x=>x.mono j.turns.le) j.heap
theorem Bb{S:aD}:∀(n t:Nat){c a:Array aA},bq S π c a->bq S π (Extern.BytealgMakeNoZero.digits n t c) (Extern.BytealgMakeNoZero.digits n t a)
 |0,_,_,_,h=>h
 |n+1,t,_,_,h=>Bb n (t/256) (h.push (.int _ _))
theorem Rb{S:aD}(p r:Array bf){s v:Array aA}(h:bq S π s v):ay S P (λπ=>aL S π) π (Extern.BytealgMakeNoZero.makeNoZero p r s) (Extern.BytealgMakeNoZero.makeNoZero p r v):=by
 by_cases g:∃n,s=#[ah n]
 .obtain⟨n,rfl⟩:=g;obtain rfl:v=#[ah n]:=by
   have D:v.size=1:=h.1.symm;apply Array.ext_getElem?;intro j;obtain⟨f,i⟩|⟨x,E,f,i,m⟩:=h.get? j
   .rw[f,i]
   .rw[f,i]
    match j,f with
    |0,f=>cases f;cases m;rfl
    |j+1,f=>simp at f
  unfold Extern.BytealgMakeNoZero.makeNoZero;dsimp only;cases r[0]? with
  |none=>exact pW
  |some t=>
   dsimp only;refine aR λd C=>?_
   split
   .rename_i e;have b:∀{π:Map},ay S P (λπ=>aL S π) π (do
     let c <-choose (.appendCap n.toNat 0 e)
     askRoom c
     let bytes <-choose (.extern "internal/bytealg.MakeNoZero.bytes" 0)
     let a <-newRow e (Extern.BytealgMakeNoZero.digits c bytes #[])
     pure (.slice (some a) n.toNat c)) (do
     let c <-choose (.appendCap n.toNat 0 e)
     askRoom c
     let bytes <-choose (.extern "internal/bytealg.MakeNoZero.bytes" 0)
     let a <-newRow e (Extern.BytealgMakeNoZero.digits c bytes #[])
     pure (.slice (some a) n.toNat c)):=λ{π}=>by
     refine ay.aP (oO _) λq c _=>?_;refine ay.aP (xH _) λu _ _=>?_;refine ay.aP (oO _) λw bytes _=>?_;refine ay.bind' (oM e (Bb c bytes .nil)) λz a B _ k=>?_;exact .pure (.slice _ _ k.1)
    exact dM (λ_=>ay.bind' (A:=sV) (KN _) λo _ _ _ _=>b) λ_=>b
   .exact pW
 .obtain⟨l⟩:=s
  match l,g with
  |[],_=>exact pW
  |[y],g=>cases y with
   |int kk n=>cases kk<;>first|exact aF ⟨_,rfl⟩ g|exact pW
   |_=>exact pW
  |_::_::_,_=>exact pW
end
def Rm(w:au)(n m:Nat)(u:au)(v:aA):Prop:=∃g cs,v=aU g m cs.size/\w.heap.size<=g/\u.heap[g]? =some (.cells cs 5)/\n<=cs.size/\cs.size<=maxLen
theorem Rm.keep{b:au}{n m:Nat}(h:Rm w n m u v)(k:Hw u b):Rm w n m b v:=let⟨g,c,d,e,a,f⟩:=h;⟨g,c,d,e,(k.block g (bJ.1 a).1).trans a,f⟩
theorem qB{q:aA}(h:u.heap[b]? =some (.cells #[q,v] t)):u.cell? (aB b 1)=some v:=(aQ u b 1 _ _ _ h).trans rfl
section
variable [Payload] [Zb]
theorem Vo:f227.body=some (.seq (.region 0 (rg f227 0) true) (.seq (.region 1 (rg f227 1) false) (.region 2 (rg f227 2) false))):=by kernel_rfl
theorem YJ(a:Act)(u:au):(results f227 a.tmps).run prog u=.ok (.tuple #[]) u:=by simp[results,f227,go_sem]
theorem abI(a:Act)(u:au):(results f227 a.tmps).events prog u #[]=#[]:=by simp[results,f227,go_sem]
theorem Vp(b n:Nat)(q:aA)(hn:n<=1000000)(hb:w.heap[b]? =some (.cells #[q,.slice none 0 0] 124)):RC bT prog ty E 227 #[aJ b 0,ah n] w λx u=>x=.tuple #[]/\Bs b b q ⟨#[]⟩ u/\Hb b w u:=by
 refine RC.of func227 M0 Vo (by show 2<=30;decide) λb₀ a₀ I i₀ G k₀ seg T=>?_;change CP _ _ _ _ ⟨_,fa 30 _,_⟩ _ _;refine kg ?_;generalize Z:(λi=>(#[aJ b 0,ah n]:Array aA).getD i ak)=F;have D:F 0=aJ b 0:=by rw[<-Z];rfl
 have hF1:F 1=ah n:=by rw[<-Z];rfl
 clear Z;refine CP.NP M0 M0 M0 (λi u x=>match i with|0=>x=aJ b 0|1=>x=aJ b 0|2=>x=aJ b 1|3=>x=.slice none 0 0|4=>x=ah 0|5=>x=ah 0|6=>x=ah n|7=>x=ah n|9=>x=aJ b 0|10=>x=aJ b 0|11=>x=aJ b 1|12=>x=.slice none 0 0|13=>x=ah 0|8=>Rm w n n u x|_=>Rm w n 0 u x) (λu=>Hw w u/\u.heap[b]? =some (.cells #[q,.slice none 0 0] 124)) (Hw) (λu u' k j x h=>by
  match j,h with
  |0,h=>exact h
  |1,h=>exact h
  |2,h=>exact h
  |3,h=>exact h
  |4,h=>exact h
  |5,h=>exact h
  |6,h=>exact h
  |7,h=>exact h
  |8,h=>exact Rm.keep h k
  |9,h=>exact h
  |10,h=>exact h
  |11,h=>exact h
  |12,h=>exact h
  |13,h=>exact h
  |j+14,h=>exact Rm.keep h k) ⟨Hb.refl _ _,hb⟩ ?_ ?_
 .intro i f u rest hi hold J c k;have r:f 0=aJ b 0:=(hold 0 M0 U0).trans D;have h1:f 1=ah n:=(hold 1 M0 U0).trans hF1;clear hold T
  match i,hi,c,k with
  |0,_,c,k=>exact CP.oQ (K:=.move (.tmp 0)) (dt:=fM (rg f227 0) 0) aH rfl (.of M0) (dW M0) (λt p o m=>by clear J c k;unfold execOp;rw[m];simp[aj,aO,aC,resolve,Deferred.ofValue,invoke,builtin,r];try go_simp) (k _ _ (Hb.refl _ _) J rfl)
  |1,_,c,k=>have A:f 5=aJ b 0:=c 0 5 M0 M0;exact CP.oQ (K:=.nilCheck (.tmp 5)) (dt:=fM (rg f227 0) 1) aH rfl (.of M0) (dW M0) (λt p o m=>by clear J c k;unfold execOp;rw[m];simp[aj,aO,aC,resolve,Deferred.ofValue,invoke,builtin,A];try go_simp) (k _ _ (Hb.refl _ _) J rfl)
  |2,_,c,k=>have h6:f 6=aJ b 0:=c 1 6 M0 M0;exact CP.oQ (K:=.fieldAddr 124 (.tmp 6) 1) (dt:=fM (rg f227 0) 2) aH rfl (.of M0) (dW M0) (λt p o m=>by clear J c k;unfold execOp;rw[m];simp[aj,aO,aC,resolve,Deferred.ofValue,invoke,builtin,h6];try go_simp) (k _ _ (Hb.refl _ _) J rfl)
  |3,_,c,k=>have h7:f 7=aJ b 1:=c 2 7 M0 M0;exact CP.oQ (K:=.load 95 (.tmp 7)) (dt:=fM (rg f227 0) 3) aH rfl (.of M0) (dW M0) (λt p o m=>by have L:(Ren.tp u t p).cell? (aB b 1)=some (.slice none 0 0):=qB J.2;clear J c k;unfold execOp;rw[m];simp[aj,aO,aC,resolve,Deferred.ofValue,invoke,builtin,h7];try go_simp) (k _ _ (Hb.refl _ _) J rfl)
  |4,_,c,k=>
   have h8:f 8=.slice none 0 0:=c 3 8 M0 M0;refine CP.opS (K:=.call {callee:=.builtin .cap,args:=#[.tmp 8],argTypes:=#[95]}) (dt:=fM (rg f227 0) 4) (v:=ah 0) rfl (.of M0) (λπ a' u' o ha hh m=>?_) (k _ _ (Hb.refl _ _) J rfl);have hv:=ha.eval.rel (.tmp 8) trivial;rw[aj U0,h8]at hv;have e:a'.eval (.tmp 8)=.slice none 0 0:=by
    generalize a'.eval (.tmp 8)=y at hv;cases hv with
    |dQ=>rfl
   refine⟨ah 0,?_,λfn=>?_,.int _ _⟩
   .unfold execOp;rw[m];simp[resolve,Deferred.ofValue,invoke,builtin,e,Builtin.cap_,underlying95];try rfl
   .unfold execOp;rw[m];simp[resolve,Deferred.ofValue,invoke,builtin,e,Builtin.cap_,underlying95];exact seen_none prog fn
  |5,_,c,k=>have h9:f 9=ah 0:=c 4 9 M0 M0;exact CP.oQ (K:=.binOp .mul 3 (.const (ah 2)) (.tmp 9) 3) (dt:=fM (rg f227 0) 5) aH rfl (.of M0) (dW M0) (λt p o m=>by clear J c k;exact jw (a:=2) (b:=0) m rfl (by simp[aj,h9]) U0) (k _ _ (Hb.refl _ _) J rfl)
  |6,_,c,k=>exact CP.oQ (K:=.move (.tmp 1)) (dt:=fM (rg f227 0) 6) aH rfl (.of M0) (dW M0) (λt p o m=>by clear J c k;unfold execOp;rw[m];simp[aj,aO,aC,resolve,Deferred.ofValue,invoke,builtin,h1];try go_simp) (k _ _ (Hb.refl _ _) J rfl)
  |7,_,c,k=>have M:f 10=ah 0:=c 5 10 M0 M0;have N:f 11=ah n:=c 6 11 M0 M0;exact CP.oQ (K:=.binOp .add 3 (.tmp 10) (.tmp 11) 3) (v:=ah (0+n:Nat)) (dt:=fM (rg f227 0) 7) aH rfl (.of M0) (dW M0) (λt p o m=>by clear J c k;exact dh (a:=0) (b:=n) m (by simp[aj,M]) (by simp[aj,N]) Q0) (k _ _ (Hb.refl _ _) J (by rw[eu];rfl))
  |8,_,c,k=>have O:f 12=ah n:=c 7 12 M0 M0;refine CP.opE (dt:=fM (rg f227 0) 8) (args:=#[.tmp 12]) (ats:=#[3]) rfl (.of M0) j5 func242 M0 M0 M0 (x:=Extern.BytealgMakeNoZero.makeNoZero #[3] #[95]) M0 (λπ vs vs' h=>Rb _ _ h) λt p=>?_;obtain⟨s,e1,e2,e3⟩:=Lib.run_makeNoZero (P:=prog) (Ren.tp u t p) #[3] 95 5 underlying95 n Q0;have B:=JD.of u (.cells s 5);refine⟨_,_,by simp only[List.map_toArray,kM,List.map_nil,aj (show(12:Nat)<30 from by decide),O];exact e1,?_⟩;refine k _ _ ⟨by have:=B.size;show u.heap.size<=(u.heap.push _).size;simp,B.old,rfl⟩ ⟨J.1.step ⟨by show u.heap.size<=(u.heap.push _).size;simp,B.old,rfl⟩,(B.old b (bJ.1 J.2).1).trans J.2⟩ ⟨u.heap.size,s,rfl,J.1.size,B.new,e2,e3 U4⟩
  |9,_,c,k=>exact CP.oQ (K:=.move (.tmp 0)) (dt:=fM (rg f227 0) 9) aH rfl (.of M0) (dW M0) (λt p o m=>by clear J c k;unfold execOp;rw[m];simp[aj,aO,aC,resolve,Deferred.ofValue,invoke,builtin,r];try go_simp) (k _ _ (Hb.refl _ _) J rfl)
  |10,_,c,k=>have R:f 14=aJ b 0:=c 9 14 M0 M0;exact CP.oQ (K:=.nilCheck (.tmp 14)) (dt:=fM (rg f227 0) 10) aH rfl (.of M0) (dW M0) (λt p o m=>by clear J c k;unfold execOp;rw[m];simp[aj,aO,aC,resolve,Deferred.ofValue,invoke,builtin,R];try go_simp) (k _ _ (Hb.refl _ _) J rfl)
  |11,_,c,k=>have S:f 15=aJ b 0:=c 10 15 M0 M0;exact CP.oQ (K:=.fieldAddr 124 (.tmp 15) 1) (dt:=fM (rg f227 0) 11) aH rfl (.of M0) (dW M0) (λt p o m=>by clear J c k;unfold execOp;rw[m];simp[aj,aO,aC,resolve,Deferred.ofValue,invoke,builtin,S];try go_simp) (k _ _ (Hb.refl _ _) J rfl)
  |12,_,c,k=>have U:f 16=aJ b 1:=c 11 16 M0 M0;exact CP.oQ (K:=.load 95 (.tmp 16)) (dt:=fM (rg f227 0) 12) aH rfl (.of M0) (dW M0) (λt p o m=>by have L:(Ren.tp u t p).cell? (aB b 1)=some (.slice none 0 0):=qB J.2;clear J c k;unfold execOp;rw[m];simp[aj,aO,aC,resolve,Deferred.ofValue,invoke,builtin,U];try go_simp) (k _ _ (Hb.refl _ _) J rfl)
  |13,_,c,k=>have V:f 17=.slice none 0 0:=c 12 17 M0 M0;exact CP.oQ (K:=.call {callee:=.builtin .len,args:=#[.tmp 17],argTypes:=#[95]}) (dt:=fM (rg f227 0) 13) aH rfl (.of M0) (dW M0) (λt p o m=>by clear J c k;unfold execOp;rw[m];simp[aj,aO,aC,resolve,Deferred.ofValue,invoke,builtin,V];try go_simp) (k _ _ (Hb.refl _ _) J rfl)
  |14,_,c,k=>obtain⟨g,s,Q,Y,H,C,A⟩:=c 8 13 M0 M0;have W:f 18=ah 0:=c 13 18 M0 M0;exact CP.oQ (K:=.slice 95 (.tmp 13) none (some (.tmp 18)) none) (dt:=fM (rg f227 0) 14) (v:=aU g 0 s.size) aH rfl (.of M0) (dW M0) (λt p o m=>by clear J c k Y H C;unfold maxLen at A;unfold execOp;rw[m];simp[aj,aO,Q,W];try go_simp) (k _ _ (Hb.refl _ _) J ⟨g,s,rfl,Y,H,C,A⟩)
  |15,_,c,k=>have X:=c 14 19 M0 M0;exact CP.oQ (K:=.assign (.tmp 19)) (dt:=fM (rg f227 0) 15) aH rfl (.of M0) (dW M0) (λt p o m=>by unfold execOp;rw[m];rfl) (k _ _ (Hb.refl _ _) J (by rw[aj U0];exact X))
  |i+16,hi,_,_=>exact aF hi (by rw[show(rg f227 0).size=16 from by kernel_rfl];omega)
 .intro f u hold J c _;have r:f 0=aJ b 0:=(hold 0 M0 U0).trans D;obtain⟨g,s,C,Y,H,_,A⟩:=c 15 4 (by rw[show(rg f227 0).size=16 from by kernel_rfl];decide) M0;clear c hold;refine kg ?_;refine CP.fV (K:=.nilCheck (.tmp 21)) (d:=22) (v:=aJ b 0) aH rfl (.of M0) (dW M0) (λt p o m=>by clear T;unfold execOp;rw[m];simp[aj,aO,aC,resolve,Deferred.ofValue,invoke,builtin,r];try go_simp) ?_;refine CP.fV (K:=.fieldAddr 124 (.tmp 22) 1) (d:=23) (v:=aJ b 1) aH rfl (.of M0) (dW M0) (λt p o m=>by clear T;unfold execOp;rw[m];simp[aj,aO,aC,resolve,Deferred.ofValue,invoke,builtin,r];try go_simp) ?_;refine CP.fV (K:=.load 95 (.tmp 23)) (d:=24) (v:=.slice none 0 0) aH rfl (.of M0) (dW M0) (λt p o m=>by have L:(Ren.tp u t p).cell? (aB b 1)=some (.slice none 0 0):=qB J.2;clear T J;unfold execOp;rw[m];simp[aj,aO,aC,resolve,Deferred.ofValue,invoke,builtin,r];try go_simp) ?_;refine CP.fV (K:=.call {callee:=.builtin .copy,args:=#[.tmp 20,.tmp 24],argTypes:=#[95,95]}) (d:=25) (v:=ah 0) aH rfl (.of M0) (dW M0) (λt p o m=>by clear T J;unfold execOp;rw[m];simp[aj,aO,aC,resolve,Deferred.ofValue,invoke,builtin,r,C,Builtin.copy_];go_simp) ?_;refine kg ?_;refine CP.fV (K:=.nilCheck (.tmp 26)) (d:=28) (v:=aJ b 0) aH rfl (.of M0) (dW M0) (λt p o m=>by clear T;unfold execOp;rw[m];simp[aj,aO,aC,resolve,Deferred.ofValue,invoke,builtin,r];try go_simp) ?_;refine CP.fV (K:=.fieldAddr 124 (.tmp 28) 1) (d:=29) (v:=aJ b 1) aH rfl (.of M0) (dW M0) (λt p o m=>by clear T;unfold execOp;rw[m];simp[aj,aO,aC,resolve,Deferred.ofValue,invoke,builtin,r];try go_simp) ?_;refine CP.fU (K:=.store 95 (.tmp 29) (.tmp 27)) aH rfl (.of M0) (dW M0) λt p o m=>⟨(Ren.tp u t p).setCell (aB b 1) (aU g 0 s.size),?_,?_⟩
  .have L:(Ren.tp u t p).cell? (aB b 1)=some (.slice none 0 0):=qB J.2;have f0:(Ren.tp u t p).frozen? (aB b 1)=false:=Lib.frozen_of_heap J.2 1;clear T J;unfold execOp;rw[m];simp[aj,aC,r,C];go_simp
  refine CP.tp (w:=u.setCell (aB b 1) (aU g 0 s.size)) (CP.jO ?_) t p;refine CP.UJ rfl rfl func227 YJ abI wS (T _ _ ⟨rfl,?_,?_⟩)
  .have bl:b<w.heap.size:=(bJ.1 hb).1;refine⟨aS _,_,setAt J.2 1 _,⟨rfl,.inr ⟨g,s.size,s,(0,0),rfl,Q0,?_,aS _,bU _,A,(Nat.mul_one _).symm,rfl⟩⟩,by simp[Value.ownBlock];omega⟩;exact((aside_setCell u ⟨b,1,none⟩ _).block g (by show g≠b;omega)).trans H
  .exact(Hb.set ⟨J.1.size,λz hz=>J.1.block z (Nat.lt_trans hz (bJ.1 hb).1),J.1.os⟩ ⟨b,1,none⟩ (aS _) _)
theorem Vq:f192.body=some (.seq (.region 0 (rg f192 0) false) (.seq (.seq (.region 1 (rg f192 1) false) (.cond (.tmp 7) (.region 2 (rg f192 2) false) .skip)) (.seq (.region 3 (rg f192 3) true) (.cond (.tmp 21) (.region 4 (rg f192 4) false) .skip)))):=by kernel_rfl
theorem YK(a:Act)(u:au):(results f192 a.tmps).run prog u=.ok (.tuple #[]) u:=by simp[results,f192,go_sem]
theorem abJ(a:Act)(u:au):(results f192 a.tmps).events prog u #[]=#[]:=by simp[results,f192,go_sem]
theorem Vr(b n:Nat)(S:0<n)(hn:n<=1000000)(q:w.heap[b]? =some (.cells #[.pointer none,.slice none 0 0] 124)):RC bT prog ty E 192 #[aJ b 0,ah n] w λx u=>x=.tuple #[]/\Bs b b (aJ b 0) ⟨#[]⟩ u/\Hb b w u:=by
 refine RC.of func192 M0 Vq (by show 2<=25;decide) λY W s Z r k₀ seg T=>?_;change CP _ _ _ _ ⟨_,fa 25 _,_⟩ _ _;refine kg ?_;refine RC.mX (d:=5) rfl (.of M0) (xs:=#[.tmp 4]) (ats:=#[122]) Y1 (vs:=#[aJ b 0]) R3 (GR b w ((aQ w b 0 _ _ _ q).trans rfl) (by simp[World.shape?,q]) (Lib.frozen_of_heap q 0)) ?_;rintro _ _ ⟨rfl,rfl⟩;have X:(w.setCell (aB b 0) (aJ b 0)).heap[b]? =some (.cells #[aJ b 0,.slice none 0 0] 124):=setAt q 0 _;have k1:Hb b w (w.setCell (aB b 0) (aJ b 0)):=(Hb.refl b w).set ⟨b,0,none⟩ (aS _) _;generalize w.setCell (aB b 0) (aJ b 0)=u1 at X k1 ⊢;refine kg ?_;refine CP.fV (K:=.binOp .lss 3 (.tmp 6) (.const (ah 0)) 3) (d:=7) (v:=.bool false) aH rfl (.of M0) (dW M0) (λt g o c=>by clear T;unfold execOp;rw[c];simp[aj,aO,aC,resolve,Deferred.ofValue,invoke,builtin];try go_simp) ?_;refine kg ?_;refine kq false ?_;refine kg ?_;generalize Q:aC _ 7 _=F;have j:F 0=aJ b 0:=by rw[<-Q];simp[aC]
 have m:F 1=ah n:=by rw[<-Q];simp[aC]
 clear Q;refine CP.NP M0 M0 M0 (λi _ v=>v=match i with|0=>aJ b 0|1=>aJ b 0|2=>aJ b 1|3=>.slice none 0 0|4=>ah 0|5=>aJ b 0|6=>aJ b 0|7=>aJ b 1|8=>.slice none 0 0|9=>ah 0|10=>ah 0|11=>ah n|12=>.bool true|_=>ak) (λu=>u.heap[b]? =some (.cells #[aJ b 0,.slice none 0 0] 124)/\u=u1) (λu u'=>Hw u u') (λ_ _ _ _ _ h=>h) ⟨X,rfl⟩ ?_ ?_
 .intro i f u rest R hold J a k;have p:f 0=aJ b 0:=(hold 0 M0 U0).trans j;have z:f 1=ah n:=(hold 1 M0 U0).trans m;clear hold T
  match i,R,a,k with
  |0,_,a,k=>exact CP.oQ (K:=.move (.tmp 0)) (dt:=fM (rg f192 3) 0) aH rfl (.of M0) (dW M0) (λt g o c=>by clear J a k;unfold execOp;rw[c];simp[aj,aO,aC,resolve,Deferred.ofValue,invoke,builtin,p];try go_simp) (k _ _ (Hb.refl _ _) J rfl)
  |1,_,a,k=>have h9:f 9=aJ b 0:=a 0 9 M0 M0;exact CP.oQ (K:=.nilCheck (.tmp 9)) (dt:=fM (rg f192 3) 1) aH rfl (.of M0) (dW M0) (λt g o c=>by clear J a k;unfold execOp;rw[c];simp[aj,aO,aC,resolve,Deferred.ofValue,invoke,builtin,h9];try go_simp) (k _ _ (Hb.refl _ _) J rfl)
  |2,_,a,k=>have A:f 10=aJ b 0:=a 1 10 M0 M0;exact CP.oQ (K:=.fieldAddr 124 (.tmp 10) 1) (dt:=fM (rg f192 3) 2) aH rfl (.of M0) (dW M0) (λt g o c=>by clear J a k;unfold execOp;rw[c];simp[aj,aO,aC,resolve,Deferred.ofValue,invoke,builtin,A];try go_simp) (k _ _ (Hb.refl _ _) J rfl)
  |3,_,a,k=>have B:f 11=aJ b 1:=a 2 11 M0 M0;exact CP.oQ (K:=.load 95 (.tmp 11)) (dt:=fM (rg f192 3) 3) aH rfl (.of M0) (dW M0) (λt g o c=>by have c0:(Ren.tp u t g).cell? (aB b 1)=some (.slice none 0 0):=qB J.1;clear J a k;unfold execOp;rw[c];simp[aj,aO,aC,resolve,Deferred.ofValue,invoke,builtin,B];try go_simp) (k _ _ (Hb.refl _ _) J rfl)
  |4,_,a,k=>
   have C:f 12=.slice none 0 0:=a 3 12 M0 M0;refine CP.opS (K:=.call {callee:=.builtin .cap,args:=#[.tmp 12],argTypes:=#[95]}) (dt:=fM (rg f192 3) 4) (v:=ah 0) rfl (.of M0) (λπ V u' o ha hh c=>?_) (k _ _ (Hb.refl _ _) J rfl);have U:=ha.eval.rel (.tmp 12) trivial;rw[aj U0,C]at U;have e:V.eval (.tmp 12)=.slice none 0 0:=by
    generalize V.eval (.tmp 12)=y at U;cases U with
    |dQ=>rfl
   refine⟨ah 0,?_,λfn=>?_,.int _ _⟩
   .unfold execOp;rw[c];simp[resolve,Deferred.ofValue,invoke,builtin,e,Builtin.cap_,underlying95];try rfl
   .unfold execOp;rw[c];simp[resolve,Deferred.ofValue,invoke,builtin,e,Builtin.cap_,underlying95];exact seen_none prog fn
  |5,_,a,k=>exact CP.oQ (K:=.move (.tmp 0)) (dt:=fM (rg f192 3) 5) aH rfl (.of M0) (dW M0) (λt g o c=>by clear J a k;unfold execOp;rw[c];simp[aj,aO,aC,resolve,Deferred.ofValue,invoke,builtin,p];try go_simp) (k _ _ (Hb.refl _ _) J rfl)
  |6,_,a,k=>have G:f 14=aJ b 0:=a 5 14 M0 M0;exact CP.oQ (K:=.nilCheck (.tmp 14)) (dt:=fM (rg f192 3) 6) aH rfl (.of M0) (dW M0) (λt g o c=>by clear J a k;unfold execOp;rw[c];simp[aj,aO,aC,resolve,Deferred.ofValue,invoke,builtin,G];try go_simp) (k _ _ (Hb.refl _ _) J rfl)
  |7,_,a,k=>have H:f 15=aJ b 0:=a 6 15 M0 M0;exact CP.oQ (K:=.fieldAddr 124 (.tmp 15) 1) (dt:=fM (rg f192 3) 7) aH rfl (.of M0) (dW M0) (λt g o c=>by clear J a k;unfold execOp;rw[c];simp[aj,aO,aC,resolve,Deferred.ofValue,invoke,builtin,H];try go_simp) (k _ _ (Hb.refl _ _) J rfl)
  |8,_,a,k=>have I:f 16=aJ b 1:=a 7 16 M0 M0;exact CP.oQ (K:=.load 95 (.tmp 16)) (dt:=fM (rg f192 3) 8) aH rfl (.of M0) (dW M0) (λt g o c=>by have c0:(Ren.tp u t g).cell? (aB b 1)=some (.slice none 0 0):=qB J.1;clear J a k;unfold execOp;rw[c];simp[aj,aO,aC,resolve,Deferred.ofValue,invoke,builtin,I];try go_simp) (k _ _ (Hb.refl _ _) J rfl)
  |9,_,a,k=>have L:f 17=.slice none 0 0:=a 8 17 M0 M0;exact CP.oQ (K:=.call {callee:=.builtin .len,args:=#[.tmp 17],argTypes:=#[95]}) (dt:=fM (rg f192 3) 9) aH rfl (.of M0) (dW M0) (λt g o c=>by clear J a k;unfold execOp;rw[c];simp[aj,aO,aC,resolve,Deferred.ofValue,invoke,builtin,L];try go_simp) (k _ _ (Hb.refl _ _) J rfl)
  |10,_,a,k=>have D:f 13=ah 0:=a 4 13 M0 M0;have M:f 18=ah 0:=a 9 18 M0 M0;exact CP.oQ (K:=.binOp .sub 3 (.tmp 13) (.tmp 18) 3) (dt:=fM (rg f192 3) 10) aH rfl (.of M0) (dW M0) (λt g o c=>by clear J a k;unfold execOp;rw[c];simp[aj,aO,aC,resolve,Deferred.ofValue,invoke,builtin,D,M];try go_simp;rfl) (k _ _ (Hb.refl _ _) J rfl)
  |11,_,a,k=>exact CP.oQ (K:=.move (.tmp 1)) (dt:=fM (rg f192 3) 11) aH rfl (.of M0) (dW M0) (λt g o c=>by clear J a k;unfold execOp;rw[c];simp[aj,aO,aC,resolve,Deferred.ofValue,invoke,builtin,z];try go_simp) (k _ _ (Hb.refl _ _) J rfl)
  |12,_,a,k=>have N:f 19=ah 0:=a 10 19 M0 M0;have O:f 20=ah n:=a 11 20 M0 M0;exact CP.oQ (K:=.binOp .lss 3 (.tmp 19) (.tmp 20) 3) (dt:=fM (rg f192 3) 12) aH rfl (.of M0) (dW M0) (λt g o c=>by have hn1:(0:Int)<(n:Int):=Q0;clear J a k;unfold execOp;rw[c];simp[aj,aO,aC,resolve,Deferred.ofValue,invoke,builtin,N,O,S];try go_simp) (k _ _ (Hb.refl _ _) J rfl)
  |i+13,R,_,_=>exact aF R (by rw[show(rg f192 3).size=13 from by kernel_rfl];omega)
 .intro f u hold J a _;obtain⟨b2,rfl⟩:=J;have p:f 0=aJ b 0:=(hold 0 M0 U0).trans j;have z:f 1=ah n:=(hold 1 M0 U0).trans m;have P:f 21=.bool true:=a 12 21 (by rw[show(rg f192 3).size=13 from by kernel_rfl];decide) M0;clear a hold;refine CP.cond (t:=true) trivial (by rw[aj U0];exact P) (CP.reg (l:=[0,1,2]) M0 ?_);refine kg ?_;refine RC.mX (d:=24) rfl (.of M0) (xs:=#[.tmp 22,.tmp 23]) (ats:=#[122,3]) Y1 (vs:=#[aJ b 0,ah n]) (by simp[aj,aO,aC,Act.eval,p,z]) (Vp b n _ hn b2) ?_;rintro _ u2 ⟨rfl,b3,k3⟩;exact CP.jO (CP.UJ rfl rfl func192 YK abJ wS (T _ _ ⟨rfl,b3,k1.trans k3⟩))
end
def zs(n:Nat):aN:=⟨Array.replicate n 0⟩
theorem nS(n:Nat):(zs n).size=n:=by simp[zs,ByteArray.size]
theorem YL(a b:Nat):zs a++zs b=zs (a+b):=ByteArray.ext (by simp[zs,ByteArray.data_append])
theorem YM(a b:Nat)(h:b<=a):(zs a).extract 0 b=zs b:=ByteArray.ext (by simp[zs,vv,h])
theorem Rf{x z:Operand}{S:aN}(h:o.op=.slice 9 x none (some z) none)(a:ρ x=.string S)(c:ρ z=ah b)(e:b<=S.size)(d:S.size<=9223372036854775807):(execOp ρ o).run prog w=.ok (.value (.string (S.extract 0 b))) w:=by unfold execOp;rw[h];simp only[a,c,gq,Option.map_none];go_simp
section
variable [Payload] [Zb] {H : List PF} {π : Map}
theorem JF(B b:Nat)(q:aA)(S:aN)(h:Bs B b q S w)(x:0<S.size):RC bT prog ty E 193 #[aJ b 0] w λv u=>v=ah S.size/\Bs B b q S u/\Hw w u:=by
 obtain⟨l,v,i,f,m⟩:=h;obtain⟨g,c,cur,fz,rfl,s⟩:∃g c cur fz,v=aU g S.size c/\_:=by
  rw[Lib.strCells_length]at f;obtain⟨_,e⟩|⟨g,c,cur,fz,e,r⟩:=f.2
  .omega
  .exact⟨g,c,cur,fz,e,r⟩
 have a:Bs B b q S w:=⟨l,_,i,f,m⟩;refine RC.lone aH U0 (Q:=λv u=>v=ah S.size/\Bs B b q S u/\Hw w u) (λv u t d h=>⟨h.1,h.2.1,⟨h.2.2.size,h.2.2.block,h.2.2.os⟩⟩) λt d=>?_;have p:(Ren.tp w t d).cell? (aB b 1)=some (aU g S.size c):=qB i;have o:Hid (Bs B b q S w):=a;clear l i f m s a;generalize n:Ren.tp w t d=W at p;have j:Hid (Ren.tp w t d=W):=n;clear n
 go_enter func193,ntmps193
 go_wp2
 go_ret
 refine⟨_,rfl,rfl,?_,?_⟩
 .rw[<-j.out];exact o.out
 .rw[<-j.out];exact⟨aS _,λ_ _=>rfl,rfl⟩
theorem YN{S:aD}{a x:aA}(h:v=x)(c:x=.int k n)(b:aL S π v a):a=.int k n:=by
 subst h c;cases b with
 |int=>rfl
structure RpF(b c:Nat)(f:Nat->aA):Prop where
 h7:f 7=ah c
 h8:f 8=ah c
 h9:f 9=aJ b 0
noncomputable def rpB:Code:=match f131.body with|some (.seq _ (.seq _ (.seq _ (.seq _ (.seq _ (.seq _ (.seq _ (.seq (.seq _ (.block _ (.seq _ (.cond _ c _)))) _))))))))=>c|_=>.skip
noncomputable def rpC:Code:=match f131.body with|some (.seq _ (.seq _ (.seq _ (.seq _ (.seq _ (.seq _ (.seq _ (.seq _ (.seq _ (.seq (.seq _ (.cond _ c _)) _))))))))))=>c|_=>.skip
noncomputable def rpX:Code:=match f131.body with|some (.seq _ (.seq _ (.seq _ (.seq _ (.seq _ (.seq _ (.seq _ (.seq _ (.seq _ (.seq _ (.seq _ (.seq _ (.seq _ (.seq (.block _ (.loop c)) _))))))))))))))=>c|_=>.skip
theorem JG:rpX=(.seq (.seq (.region 38 (rg f131 38) false) (.cond (.tmp 113) .skip (.exit 3))) (.block 4 (.seq (.region 39 (rg f131 39) false) (.region 40 (rg f131 40) false)))):=by kernel_rfl
theorem Vt(b c:Nat)(hc:c<=1000000)
 (T:∀f u,RpF b c f->Hb b w u->Bs b b (aJ b 0) (zs c) u->CP bT prog ty E ⟨base 131,fa 125 f,K⟩ H u):
 ∀j L,L+j=c->1<=L->∀f u,RpF b c f->Hb b w u->Bs b b (aJ b 0) (zs L) u->CP bT prog ty E ⟨base 131,fa 125 f,.code rpX:: .inLoop rpX:: .inBlock 3::K⟩ H u:=by
 intro j
 induction j using Nat.strongRecOn with
 |_ j i=>
  intro L hL R f u hf hw e;rw[JG];refine kg ?_;refine RC.mX (d:=111) rfl (.of M0) (xs:=#[.tmp 9]) (ats:=#[124]) Y1 (vs:=#[aJ b 0]) I4 (JF b b _ _ e Y4) ?_;rintro _ O ⟨rfl,r,y⟩;rw[nS];have kw:Hb b w O:=hw.trans ⟨y.size,λz q=>y.block z (Nat.lt_trans q e.lt),y.os⟩;refine kg ?_;refine CP.fV (K:=.binOp .lss 3 (.tmp 111) (.tmp 112) 3) (d:=113) (v:=.bool (decide (L<c))) aH rfl (.of M0) (dW M0) (λt N o a=>by clear T i;unfold execOp;rw[a];simp[aj,aO,aC,hf.h7,hf.h8,hf.h9];go_simp) ?_;refine kg ?_;by_cases U:L<c
  .refine CP.cond (t:=true) trivial (by simp[aj,aC,U]) (CP.dx ?_);refine kg ?_;refine RC.mX (d:=115) rfl (.of M0) (xs:=#[.tmp 9]) (ats:=#[124]) Y1 (vs:=#[aJ b 0]) I4 (JF b b _ _ r Y4) ?_;rintro _ u2 ⟨rfl,F,A⟩;rw[nS];refine CP.fV (K:=.binOp .sub 3 (.tmp 114) (.tmp 115) 3) (d:=116) (v:=ah (c-L:Nat)) aH rfl (.of M0) (dW M0) (λt N o a=>by clear T i;unfold execOp;rw[a];simp[aj,aO,aC,hf.h7,hf.h8,hf.h9];go_simp;rw[IntKind.wrap_i64];omega) ?_;refine RC.mX (d:=117) rfl (.of M0) (xs:=#[.tmp 9]) (ats:=#[124]) Y1 (vs:=#[aJ b 0]) I4 (JF b b _ _ F Y4) ?_;rintro _ Z ⟨rfl,P,B⟩;rw[nS];refine kg ?_;have C:Hb b w Z:=(kw.trans ⟨A.size,λz q=>A.block z (Nat.lt_trans q r.lt),A.os⟩).trans ⟨B.size,λz q=>B.block z (Nat.lt_trans q F.lt),B.os⟩;obtain⟨m,V,W,p⟩:∃m:Nat,(if(c:Int)<(if(L:Int)<((c-L:Nat):Int)then(L:Int)else((c-L:Nat):Int))then(c:Int)else(if(L:Int)<((c-L:Nat):Int)then(L:Int)else((c-L:Nat):Int)))=(m:Int)/\1<=m/\m<=L/\m<=c-L:=by
    by_cases h:L<c-L
    .exact⟨L,by rw[aI (by omega:(L:Int)<((c-L:Nat):Int)),av Q0],Q0⟩
    .exact⟨c-L,by rw[av (by omega:¬(L:Int)<((c-L:Nat):Int)),av Q0],Q0⟩
   refine CP.fS (K:=.call {callee:=.builtin .min,args:=#[.tmp 116,.tmp 117,.tmp 118],argTypes:=#[3,3,3]}) (d:=119) (v:=ah m) rfl (.of M0) (λπ D v o s hh a=>?_) ?_
   .have I:=YN (aj U0) rfl (s.eval.rel (.tmp 116) trivial);have J:=YN (aj U0) rfl (s.eval.rel (.tmp 117) trivial);have M:=YN (k:=.i64) (n:=(c:Int)) (x:=ah c) ((aj U0).trans (by simp[aC,hf.h8])) rfl (s.eval.rel (.tmp 118) trivial);refine⟨ah m,?_,λfn=>?_,.int _ _⟩
    .clear T i;unfold execOp;rw[a];simp only[resolve,Deferred.ofValue,invoke,builtin];simpa[I,J,M,run_min_int3]using V
    .clear T i;unfold execOp;rw[a];simp[resolve,Deferred.ofValue,invoke,builtin,I,J,M,Builtin.min_,Builtin.min2];exact seen_none prog fn
   refine kg ?_;refine RC.mX (d:=120) rfl (.of M0) (xs:=#[.tmp 9]) (ats:=#[124]) Y1 (vs:=#[aJ b 0]) I4 (sgS b b _ _ P Y4) ?_;rintro _ u4 ⟨rfl,b4,X⟩;refine kg ?_;refine CP.fV (K:=.slice 9 (.tmp 120) none (some (.tmp 121)) none) (d:=122) (v:=.string (zs m)) aH rfl (.of M0) (dW M0) (λt N o a=>by clear T i;have g:=YM L m p.1;rw[<-g];exact Rf (S:=zs L) (b:=m) a Y2 Y2 (by rw[nS];exact p.1) Y4) ?_;refine RC.mX (d:=123) rfl (.of M0) (xs:=#[.tmp 9,.tmp 122]) (ats:=#[124,9]) Y1 (vs:=#[aJ b 0,.string (zs m)]) I4 (wsS b b (zs L) _ (.inr b4) (by rw[nS,nS];omega)) ?_;rintro _ u5 ⟨rfl,G,Y⟩;rw[YL]at G;refine kg ?_;refine CP.ctl (λD Q u=>stepG_inLoop) ?_;rw[<-JG];exact i (j-m) Q0 (L+m) Q0 Q0 _ u5 ⟨by simp[aC,hf.h7],by simp[aC,hf.h8],by simp[aC,hf.h9]⟩ ((C.trans X).trans Y) G
  .obtain rfl:L=c:=by omega
   refine kq false ?_;refine CP.ctl (λD Q u=>stepG_exit (k':=K) rfl) ?_;exact T _ O ⟨by simp[aC,hf.h7],by simp[aC,hf.h8],by simp[aC,hf.h9]⟩ kw r
end
end
section
open Go.Proofs.Tryz
open Go Go.Proofs.YtmhafipgbfaapaaGreatDoor.Ren Go.Conc Go.ConcN Go.RowKit Go.Conc.Lib Go.ConcR.Gen Go.ConcN.Gen
open Go.ConcR (KK WgAt wgBlock stA smA rd wr mk Payload DC0)
attribute [local simp] execOp aj aO aC resolve Deferred.ofValue invoke builtin Act.eval
variable {B N c g i k n q sb z : Nat} {FL : aN} {K : List Item} {E : aA -> au -> Prop} {X Y : Nat -> aN} {b : Bool} {f : Nat -> aA} {o : Oper} {p : Array Oper} {ty : bf} {u U w : au}
theorem LK{j x:Nat}(g:o.guard=some (j,b))(a:(p[j]?).bind (·.dst)=some x)(n:x<N)(h:f x=.bool b):Region.wanted o (yielded p (fa N f).tmps)=true:=by simp[Region.wanted,g,yielded,a,fa,n,h]
section
variable [Payload] [Zb]
theorem Vu:f131.body=some (.seq (.region 0 (rg f131 0) false) (.seq (.seq (.region 1 (rg f131 1) false) (.block 0 (.seq (.region 2 (rg f131 2) false) (.cond (.tmp 12) (.seq (.region 3 (rg f131 3) false) .ret) (.seq (.region 4 (rg f131 4) false) (.cond (.tmp 14) (.seq (.region 5 (rg f131 5) false) .ret) .skip)))))) (.seq (.seq (.region 6 (rg f131 6) false) (.cond (.tmp 18) (.region 7 (rg f131 7) false) .skip)) (.seq (.region 8 (rg f131 8) false) (.seq (.seq (.region 9 (rg f131 9) false) (.cond (.tmp 34) (.region 10 (rg f131 10) false) .skip)) (.seq (.region 11 (rg f131 11) false) (.seq (.seq (.region 12 (rg f131 12) false) (.cond (.tmp 40) (.seq (.region 13 (rg f131 13) false) .ret) .skip)) (.seq (.seq (.region 14 (rg f131 14) false) (.block 1 (.seq (.seq (.region 15 (rg f131 15) false) (.cond (.tmp 43) .skip (.seq (.region 16 (rg f131 16) false) (.cond (.tmp 43) .skip (.seq (.region 17 (rg f131 17) false) (.cond (.tmp 43) .skip (.seq (.region 18 (rg f131 18) false) (.cond (.tmp 43) .skip (.region 19 (rg f131 19) false))))))))) (.cond (.tmp 43) rpB .skip)))) (.seq (.region 30 (rg f131 30) false) (.seq (.seq (.region 31 (rg f131 31) false) (.cond (.tmp 96) rpC .skip)) (.seq (.region 35 (rg f131 35) false) (.seq (.region 36 (rg f131 36) false) (.seq (.region 37 (rg f131 37) false) (.seq (.block 3 (.loop (.seq (.seq (.region 38 (rg f131 38) false) (.cond (.tmp 113) .skip (.exit 3))) (.block 4 (.seq (.region 39 (rg f131 39) false) (.region 40 (rg f131 40) false)))))) (.seq (.region 41 (rg f131 41) false) .ret))))))))))))))):=by kernel_rfl
theorem JH(a:Act)(u:au):(results f131 a.tmps).run prog u=.ok (a.tmps.getD 4 ak) u:=by simp[results,f131,go_sem]
theorem Rh(a:Act)(u:au):(results f131 a.tmps).events prog u #[]=#[]:=by simp[results,f131,go_sem]
theorem NW(c:Nat)(hc:c<=1000):RC bT prog ty E 131 #[.string ⟨#[0]⟩,ah c] w λx u=>x=.string (zs c)/\Hw w u:=by
 refine RC.of func131 M0 Vu (by show 2<=125;decide) λK J p O r P seg T=>?_;change CP _ _ _ _ ⟨_,fa 125 _,_⟩ _ _;refine kg ?_;refine kV (.binOp .eql 3 (.tmp 11) (.const (ah 0)) 3) 13 (.bool (decide (c=0))) (λt n o=>by clear T;simp;go_simp;rw[Bool.eq_iff_iff];simp) ?_;refine kg ?_;by_cases M:c=0
 .subst M;refine kq true ?_;refine kg ?_;refine CP.out rfl rfl func131 (V:=λa=>a.tmps.getD 4 ak) JH Rh (λR a q h=>h.tmps.getD 4) ?_;exact T _ _ ⟨by show(fa _ _).tmps.getD 4 ak=_;rw[bN U0];simp[aC,zs],Hb.refl _ _⟩
 refine CP.cond (t:=false) trivial (by simp[aj,aC,M]) (CP.seq (CP.reg (l:=[0,1]) M0 ?_));refine kV (.binOp .eql 3 (.tmp 11) (.const (ah 1)) 3) 15 (.bool (decide (c=1))) (λt n o=>by clear T;simp;go_simp;rw[Bool.eq_iff_iff];simp;omega) ?_;refine kg ?_;by_cases N:c=1
 .subst N;refine kq true ?_;refine kg ?_;refine CP.out rfl rfl func131 (V:=λa=>a.tmps.getD 4 ak) JH Rh (λR a q h=>h.tmps.getD 4) ?_;exact T _ _ ⟨by show(fa _ _).tmps.getD 4 ak=_;rw[bN U0];simp[aC,zs],Hb.refl _ _⟩
 refine CP.cond (t:=false) trivial (by simp[aj,aC,N]) (CP.dx ?_);refine kg ?_;generalize G:aC _ 14 _=f;have B:f 0=.string ⟨#[0]⟩:=by rw[<-G];simp[aC]
 have L:f 1=ah c:=by rw[<-G];simp[aC]
 clear G;refine kg ?_;refine kv (.bool false) ?_;refine kg ?_;refine kq false ?_;refine kg ?_;refine kv (ah 1) ?_;refine kV (.convert 3 227 (.tmp 22)) 23 (.int .u64 1) (λt n o=>by clear T;simp[B];go_simp;decide) ?_;refine kg ?_;refine kV (.convert 3 227 (.tmp 24)) 25 (.int .u64 (c:Int)) (λt n o=>by clear T;simp[L];go_simp;simp[IntKind.wrap,IntKind.signed,IntKind.bits];omega) ?_;refine kf (RC.keep (v:=.tuple #[.int .u64 0,.int .u64 (c:Int)]) U0 λw=>Calls.mono (Tv c w Q0) λe u h=>⟨h.1,by rw[h.2];exact Keep.refl _ _⟩) ?_;rintro _ i ⟨rfl,k1⟩;refine kg ?_;refine kv (.int .u64 0) ?_;refine kv (.int .u64 (c:Int)) ?_;refine kg ?_;generalize G:aC _ 6 _=g;have C:g 0=.string ⟨#[0]⟩:=by rw[<-G];simp[aC,B]
 have Y:g 5=.int .u64 0:=by rw[<-G];simp[aC]
 have m:g 6=.int .u64 (c:Int):=by rw[<-G];simp[aC]
 clear G B L f;refine kg ?_;refine kv (.bool false) ?_;refine kg ?_;refine CP.op aH rfl (o:=((rg f131 9)[3]?).getD default) M0 (LK (j:=2) (x:=31) (b:=false) M0 M0 U0 J2) (dW M0) λt n=>⟨.int .u64 (c:Int),Ren.tp i t n,?_,CP.tp ?_ t n⟩
 .have A:(((rg f131 9)[3]?).getD default).op=.move (.tmp 6):=by kernel_rfl
  unfold execOp;rw[A];simp[aj,aO,aC,m]
 have s:(((rg f131 9)[3]?).getD default).dst=some 32:=by kernel_rfl
 rw[s,jm];refine CP.op aH rfl (o:=((rg f131 9)[4]?).getD default) M0 (LK (j:=2) (x:=31) (b:=false) M0 M0 U0 J2) (dW M0) λt n=>⟨.bool false,Ren.tp i t n,?_,CP.tp ?_ t n⟩
 .have A:(((rg f131 9)[4]?).getD default).op=.binOp .gtr 227 (.tmp 32) (.const (.int .u64 9223372036854775807)) 227:=by kernel_rfl
  have Z:¬(9223372036854775807:Int)<(c:Int):=by omega
  clear T;unfold execOp;rw[A];simp[aj,aO,aC,m];go_simp
 have y:(((rg f131 9)[4]?).getD default).dst=some 33:=by kernel_rfl
 rw[y,jm];refine kv (.bool false) ?_;refine kg ?_;refine kq false ?_;refine kg ?_;refine kV (.convert 227 3 (.tmp 36)) 37 (ah c) (λt n o=>by clear T;simp[m];go_simp;rw[IntKind.wrap_i64];omega) ?_;refine kg ?_;refine kv (ah 1) ?_;refine kv (.bool false) ?_;refine kg ?_;refine kq false ?_;refine kg ?_;refine kV (.index 9 (.tmp 41) (.const (ah 0))) 42 (.int .u8 0) (λt n o=>by clear T;simp[C];go_simp;rfl) ?_;generalize G:aC _ 42 _=h;have k:h 0=.string ⟨#[0]⟩:=by rw[<-G];simp[aC,C]
 have F:h 7=ah c:=by rw[<-G];simp[aC]
 have D:h 42=.int .u8 0:=by rw[<-G];simp[aC]
 clear G C Y m g;refine kg ?_;refine kv (.bool false) ?_;refine kg ?_;refine kq false ?_;refine kg ?_;refine kv (.bool false) ?_;refine kg ?_;refine kq false ?_;refine kg ?_;refine kv (.bool false) ?_;refine kg ?_;refine kq false ?_;refine kg ?_;refine kv (.bool false) ?_;refine kg ?_;refine kq false ?_;refine kg ?_;refine kv (.bool false) ?_;refine kg ?_;refine kq false ?_;refine kg ?_;refine kv (.bool false) ?_;refine kg ?_;refine kq false ?_;refine kg ?_;generalize G:aC _ 96 _=e;have e0:e 0=.string ⟨#[0]⟩:=by rw[<-G];simp[aC,k]
 have W:e 7=ah c:=by rw[<-G];simp[aC,F]
 have X:e 8=ah c:=by rw[<-G];simp[aC,F]
 clear G k F D h;refine kg ?_;refine CP.BP (t:=124) (d:=9) (z:=.agg #[.pointer none,.slice none 0 0]) rfl (.of M0) (dW M0) M0 λu2 I=>?_;have n2:u2.heap[i.heap.size]? =some (.cells #[.pointer none,.slice none 0 0] 124):=I.new;refine kg ?_;refine kf (Vr i.heap.size c Q0 Q0 n2) ?_;rintro _ u3 ⟨rfl,S,k3⟩;refine kg ?_;refine kf (vs:=#[aJ i.heap.size 0,.string ⟨#[0]⟩]) (wsS i.heap.size i.heap.size ⟨#[]⟩ _ (.inr S) U0) ?_;rintro _ Q ⟨rfl,b4,k4⟩;have kk:Hb i.heap.size i Q:=(I.hw.trans k3).trans k4;refine kg ?_;refine CP.ctl (λq cs u=>stepG_loop) ?_;rw[<-JG];refine Vt (w:=i) i.heap.size c Q0 ?_ (c-1) 1 Q0 (aS _) _ Q ⟨by simp[aC,W],by simp[aC,X],by simp[aC]⟩ kk (by rw[app0']at b4;exact b4);intro f u5 hf k5 U;have H:=hf;cases H;refine kg ?_;refine kf (sgS _ _ _ _ U Y4) ?_;rintro _ u6 ⟨rfl,b6,k6⟩;refine kg ?_;refine CP.out rfl rfl func131 (V:=λa=>a.tmps.getD 4 ak) JH Rh (λR a q h=>h.tmps.getD 4) ?_;refine T _ _ ⟨?_,k1.step (k5.trans k6)⟩;show(fa _ _).tmps.getD 4 ak=_;rw[bN U0];simp[aC]
end
theorem uU.keep(h:uU g k i X u)(e:U.heap[g]? =u.heap[g]?):uU g k i X U:=let⟨c,a,b⟩:=h.row;⟨c,e.trans a,b⟩
theorem uU.lt(h:uU g k i X u):g<u.heap.size:=let⟨c,a,b⟩:=h.row;(bJ.1 a).1
structure Hx(c:Nat)(w u:au):Prop where
 size:w.heap.size<=u.heap.size
 block:∀b,b<w.heap.size->b≠c->u.heap[b]? =w.heap[b]?
 os:u.os=w.os
theorem Hx.refl(c:Nat)(w:au):Hx c w w:=⟨aS _,λ_ _ _=>rfl,rfl⟩
theorem Hb.x(h:Hw w u):Hx c w u:=⟨h.size,λb a _=>h.block b a,h.os⟩
theorem Hx.step{c:Nat}{w u v:au}(h:Hx c w u)(k:Hx c u v):Hx c w v:=⟨bY h.size k.size,λb a d=>(k.block b (bG a h.size) d).trans (h.block b a d),k.os.trans h.os⟩
theorem Hx.set(c i:Nat)(w:au)(v:aA):Hx c w (w.setCell (aB c i) v):=by have h:=aside_setCell w ⟨c,i,none⟩ v;exact⟨Nat.le_of_eq h.size.symm,λb _ a=>h.block b a,h.os⟩
structure Eo(sb n k z i:Nat)(FL:aN)(B:Nat)(u:au):Prop where
 row:∃c,u.heap[sb]? =some (.cells c 49)/\c.size=n/\∀s,s<i->∃g,c[s]? =some (aU g k k)/\B<=g/\g≠sb/\uU g k k (λj=>(FL.extract (s*(k*z)) ((s+1)*(k*z))).extract (j*z) ((j+1)*z)) u
theorem Eo.lt(h:Eo sb n k z i FL B u):sb<u.heap.size:=let⟨c,a,b⟩:=h.row;(bJ.1 a).1
theorem Eo.keep(h:Eo sb n k z i FL B u)(f:Hw u U):Eo sb n k z i FL B U:=by obtain⟨c,j,l,m⟩:=h.row;refine⟨c,(f.block sb h.lt).trans j,l,λs o=>?_⟩;obtain⟨g,a,b,d,e⟩:=m s o;exact⟨g,a,b,d,e.keep (f.block g e.lt)⟩
theorem Eo.set(h:Eo sb n k z i FL B u)(x:i<n)(t:B<=g)(o:g≠sb)(w:uU g k k (λj=>(FL.extract (i*(k*z)) ((i+1)*(k*z))).extract (j*z) ((j+1)*z)) u):Eo sb n k z (i+1) FL B (u.setCell (aB sb i) (aU g k k)):=by
 obtain⟨c,p,q,r⟩:=h.row;have m:∀b,b≠sb->(u.setCell (aB sb i) (aU g k k)).heap[b]? =u.heap[b]? :=λb v=>(aside_setCell u ⟨sb,i,none⟩ _).block b v;refine⟨_,setAt p _ _,by simp[q],λs y=>?_⟩;by_cases e:s=i
 .subst e;exact⟨g,by rw[C9 Q0],t,o,w.keep (m g o)⟩
 .obtain⟨l,a,b,d,f⟩:=r s Q0;exact⟨l,by rw[jN (Ne.symm e)];exact a,b,d,f.keep (m l d)⟩
structure DbF(xb sb n k z i:Nat)(FL:aN)(f:Nat->aA):Prop where
 h2:f 2=aJ xb 0
 h5:f 5=aU sb n n
 h6:f 6=ah (k*z:Nat)
 h7:f 7=.string FL
 h25:f 25=ah n
 h26:f 26=ah i
theorem Vv:f132.body=some (.seq (.region 0 (rg f132 0) false) (.seq (.region 1 (rg f132 1) true) (.seq (.region 2 (rg f132 2) false) (.seq (.seq (.region 3 (rg f132 3) false) (.block 0 (.loop (.seq (.region 4 (rg f132 4) false) (.seq (.cond (.tmp 27) .skip (.exit 0)) (.seq (.block 1 (.seq (.region 5 (rg f132 5) false) (.region 6 (rg f132 6) true))) (.region 7 (rg f132 7) false))))))) (.seq (.region 8 (rg f132 8) false) .ret))))):=by kernel_rfl
theorem YO(a:Act)(u:au):(results f132 a.tmps).run prog u=.ok (a.tmps.getD 4 ak) u:=by simp[results,f132,go_sem]
theorem abK(a:Act)(u:au):(results f132 a.tmps).events prog u #[]=#[]:=by simp[results,f132,go_sem]
noncomputable def dbX:Code:=match f132.body with|some (.seq _ (.seq _ (.seq _ (.seq (.seq _ (.block _ (.loop c))) _))))=>c|_=>.skip
theorem Ep:dbX=(.seq (.region 4 (rg f132 4) false) (.seq (.cond (.tmp 27) .skip (.exit 0)) (.seq (.block 1 (.seq (.region 5 (rg f132 5) false) (.region 6 (rg f132 6) true))) (.region 7 (rg f132 7) false)))):=by kernel_rfl
section
variable [Payload] [Zb] {H : List PF}
theorem Vw(D sb n k m z len B:Nat)(key FL:aN)(O:k<=12)(hz0:z≠0)(hz:z<=64)(hn:n<=65536)(hFL:FL.size=n*(k*z))(hx:w.heap[D]? =some (.cells #[ah k,ah m,ah z,ah len,.string key] 101))(hB:w.heap.size<=sb)(hBB:B<=w.heap.size)
 (hT:∀f u,DbF D sb n k z n FL f->Hw w u->Eo sb n k z n FL B u->CP bT prog ty E ⟨base 132,fa 46 f,K⟩ H u):
 ∀j i,i+j=n->∀f u,DbF D sb n k z i FL f->Hw w u->Eo sb n k z i FL B u->CP bT prog ty E ⟨base 132,fa 46 f,.code dbX:: .inLoop dbX:: .inBlock 0::K⟩ H u:=by
 intro j
 induction j with
 |zero=>
  intro i M f u v hw L;have I:=v;cases I;obtain rfl:i=n:=by omega
  rw[Ep];refine kg ?_;refine kv (.bool false) ?_;refine kg ?_;refine kq false ?_;refine CP.ctl (λa' cs u=>stepG_exit (k':=K) rfl) ?_;exact hT _ u ⟨by simp[aC,v.h2],by simp[aC,v.h5],by simp[aC,v.h6],by simp[aC,v.h7],by simp[aC,v.h25],by simp[aC,v.h26]⟩ hw L
 |succ j ih=>
  intro i M f u v hw L;have I:=v;cases I;have hin:i<n:=by omega
  have kz:k*z<=12*64:=iJ O hz;have m1:i*(k*z)<=65536*768:=iJ Q0 kz;have m2:(i+1)*(k*z)<=n*(k*z):=iR _ Q0;have m3:(i+1)*(k*z)=i*(k*z)+k*z:=jk _ _;have m4:n*(k*z)<=65536*768:=iJ hn kz;have hXs:(FL.extract (i*(k*z)) ((i+1)*(k*z))).size=k*z:=by rw[ByteArray.size_extract,hFL];omega
  rw[Ep];refine kg ?_;refine kv (.bool true) ?_;refine kg ?_;refine kq true ?_;refine kg ?_;generalize G:aC _ 8 _=g;have g2:g 2=aJ D 0:=by rw[<-G];simp[aC,v.h2]
  have g5:g 5=aU sb n n:=by rw[<-G];simp[aC,v.h5]
  have g6:g 6=ah (k*z:Nat):=by rw[<-G];simp only[aC];exact v.h6
  have g7:g 7=.string FL:=by rw[<-G];simp[aC,v.h7]
  have g8:g 8=ah i:=by rw[<-G];simp[aC,v.h26]
  have P:g 25=ah n:=by rw[<-G];simp[aC,v.h25]
  have Q:g 26=ah i:=by rw[<-G];simp[aC,v.h26]
  have xl:D<w.heap.size:=(bJ.1 hx).1;clear G v;refine CP.GD M0 M0 M0 (λq u3 x=>match q with|0=>x=aU sb n n|1=>x=ah i|2=>x=.string FL|3=>x=ah i|4=>x=ah (k*z:Nat)|5=>x=ah (i*(k*z):Nat)|6=>x=ah i|7=>x=ah (i+1:Nat)|8=>x=ah (k*z:Nat)|9=>x=ah ((i+1)*(k*z):Nat)|10=>x=.string (FL.extract (i*(k*z)) ((i+1)*(k*z)))|11=>x=aJ D 2|12=>x=ah z|14=>x=aJ sb i|13=>∃A,x=aU A k k/\u.heap.size<=A/\uU A k k (λj=>(FL.extract (i*(k*z)) ((i+1)*(k*z))).extract (j*z) ((j+1)*z)) u3|_=>True) 15 (λq u'=>Hx sb u u'/\Eo sb n k z (if q then i+1 else i) FL B u') (Hx sb) (λu u' O j x h=>by
   match j,h with
   |0,h=>exact h
   |1,h=>exact h
   |2,h=>exact h
   |3,h=>exact h
   |4,h=>exact h
   |5,h=>exact h
   |6,h=>exact h
   |7,h=>exact h
   |8,h=>exact h
   |9,h=>exact h
   |10,h=>exact h
   |11,h=>exact h
   |12,h=>exact h
   |13,h=>obtain⟨A,a,b,d⟩:=h;exact⟨A,a,b,d.keep (O.block A d.lt (by have:=L.lt;omega))⟩
   |14,h=>exact h
   |j+15,h=>exact h) ⟨Hx.refl _ _,L⟩ ?_ ?_
  .intro q i2 f F rest M s hold hJ r p;have h2:f 2=aJ D 0:=(hold 2 M0 U0).trans g2;have h5:f 5=aU sb n n:=(hold 5 M0 U0).trans g5;have N:f 6=ah (k*z:Nat):=(hold 6 M0 U0).trans g6;have h7:f 7=.string FL:=(hold 7 M0 U0).trans g7;have h8:f 8=ah i:=(hold 8 M0 U0).trans g8;have nb:=(hJ.1.block D (bG xl hw.size) Q0).trans ((hw.block D xl).trans hx);clear hold hT ih
   match i2,M,s,r,p with
   |0,_,s,r,p=>exact kt (p _ _ (Hx.refl _ _) U1 rfl)
   |1,_,s,r,p=>exact kt (p _ _ (Hx.refl _ _) U1 rfl)
   |2,_,s,r,p=>exact kt (p _ _ (Hx.refl _ _) U1 rfl)
   |3,_,s,r,p=>exact kt (p _ _ (Hx.refl _ _) U1 rfl)
   |4,_,s,r,p=>exact kX (.move (.tmp 6)) (λt C o y=>by clear hJ r p;unfold execOp;rw[y];simp only[aj (show(6:Nat)<46 from by decide),N];rfl) (p _ _ (Hx.refl _ _) U1 rfl)
   |5,_,s,r,p=>have V:f 32=ah i:=r 3 32 M0 M0;have W:f 33=ah (k*z:Nat):=r 4 33 M0 M0;exact kX (.binOp .mul 3 (.tmp 32) (.tmp 33) 3) (λt C o y=>by clear hJ r p;exact jw (a:=i) (b:=k*z) y ((aj U0).trans V) ((aj U0).trans W) Q0) (p _ _ (Hx.refl _ _) U1 rfl)
   |6,_,s,r,p=>exact kt (p _ _ (Hx.refl _ _) U1 rfl)
   |7,_,s,r,p=>have Y:f 35=ah i:=r 6 35 M0 M0;exact kX (.binOp .add 3 (.tmp 35) (.const (ah 1)) 3) (λt C o y=>by clear hJ r p;exact dh (a:=i) (b:=1) y ((aj U0).trans Y) rfl Q0) (p _ _ (Hx.refl _ _) U1 rfl)
   |8,_,s,r,p=>exact kX (.move (.tmp 6)) (λt C o y=>by clear hJ r p;unfold execOp;rw[y];simp only[aj (show(6:Nat)<46 from by decide),N];rfl) (p _ _ (Hx.refl _ _) U1 rfl)
   |9,_,s,r,p=>have Z:f 36=ah (i+1:Nat):=r 7 36 M0 M0;have h37:f 37=ah (k*z:Nat):=r 8 37 M0 M0;exact kX (.binOp .mul 3 (.tmp 36) (.tmp 37) 3) (λt C o y=>by clear hJ r p;exact jw (a:=i+1) (b:=k*z) y ((aj U0).trans Z) ((aj U0).trans h37) Q0) (p _ _ (Hx.refl _ _) U1 rfl)
   |10,_,s,r,p=>have U:f 31=.string FL:=r 2 31 M0 M0;have X:f 34=ah (i*(k*z):Nat):=r 5 34 M0 M0;have h38:f 38=ah ((i+1)*(k*z):Nat):=r 9 38 M0 M0;exact kX (.slice 9 (.tmp 31) (some (.tmp 34)) (some (.tmp 38)) none) (λt C o y=>by clear hJ r p;exact Ba (S:=FL) (a:=i*(k*z)) (b:=(i+1)*(k*z)) y ((aj U0).trans U) ((aj U0).trans X) ((aj U0).trans h38) Q0 Q0 Q0) (p _ _ (Hx.refl _ _) U1 rfl)
   |11,_,s,r,p=>exact kt (p _ _ (Hx.refl _ _) U1 rfl)
   |12,_,s,r,p=>have h40:f 40=aJ D 2:=r 11 40 M0 M0;have YF:=λj=>aQ F _ j _ _ _ nb;exact kt (p _ _ (Hx.refl _ _) U1 rfl)
   |13,_,s,r,p=>have h39:f 39=.string (FL.extract (i*(k*z)) ((i+1)*(k*z))):=r 10 39 M0 M0;have h41:f 41=ah z:=r 12 41 M0 M0;refine RC.call (dt:=fM (rg f132 6) 13) rfl (.of M0) (xs:=#[.tmp 39,.tmp 41]) (ats:=#[9,3]) j5 (vs:=#[.string (FL.extract (i*(k*z)) ((i+1)*(k*z))),ah z]) (by simp[aj,h39,h41]) (YI k z _ O hz0 hz hXs) ?_;rintro x u3 ⟨A,rfl,q1,q2,q3⟩;exact p _ _ (Hb.x q3) (by refine⟨hJ.1.step (Hb.x q3),?_⟩;simpa using hJ.2.keep q3) ⟨A,rfl,bY hJ.1.size q1,q2⟩
   |14,_,s,r,p=>have h29:f 29=aU sb n n:=r 0 29 M0 M0;have h30:f 30=ah i:=r 1 30 M0 M0;exact kt (p _ _ (Hx.refl _ _) U1 rfl)
   |15,_,s,r,p=>
     have h43:f 43=aJ sb i:=r 14 43 M0 M0;obtain⟨A,h42,q1,q2⟩:=r 13 42 M0 M0;have YP:=s rfl;subst YP;have J:Eo sb n k z i FL B F:=by simpa using hJ.2
     have gs:A≠sb:=λe=>by have:=L.lt;omega
     refine CP.opU (K:=.store 49 (.tmp 43) (.tmp 42)) (dt:=fM (rg f132 6) 15) aH rfl (.of M0) (dW M0) λt C o y=>⟨(Ren.tp F t C).setCell (aB sb i) (aU A k k),?_,?_⟩
     .obtain⟨c,c1,c2,_⟩:=J.row;have c0:(Ren.tp F t C).cell? (aB sb i)=some (c[i]' Q0):=(aQ F _ _ _ _ _ c1).trans (iU Q0);have f0:(Ren.tp F t C).frozen? (aB sb i)=false:=Lib.frozen_of_heap c1 _;clear hJ r p;unfold execOp;rw[y];simp[aj,h42,h43];go_simp
     .refine CP.tp (w:=F.setCell (aB sb i) (aU A k k)) ?_ t C;exact p _ _ (Hx.set _ _ _ _) (by refine⟨hJ.1.step (Hx.set _ _ _ _),?_⟩;simpa using J.set hin (by have:=hw.size;omega) gs q2) trivial
   |i2+16,M,_,_,_=>exact aF M (by rw[show(rg f132 6).size=16 from by kernel_rfl];omega)
  .intro q f F s hold hJ r _;have s:q=true:=s (by rw[show(rg f132 6).size=16 from by kernel_rfl];decide);subst s;have h2:=(hold 2 M0 U0).trans g2;have h5:=(hold 5 M0 U0).trans g5;have N:=(hold 6 M0 U0).trans g6;have h7:=(hold 7 M0 U0).trans g7;have R:=(hold 25 M0 U0).trans P;have T:=(hold 26 M0 U0).trans Q;refine kg ?_;refine kw (ah (i+1:Nat)) ?_ (hr:=(λt C o y=>by clear hT ih;exact dh (a:=i) (b:=1) y ((aj U0).trans T) rfl Q0));refine kg ?_;refine CP.ctl (λa' cs u=>stepG_inLoop) ?_;rw[<-Ep];exact ih (i+1) Q0 _ F ⟨by simp[aC,h2],by simp[aC,h5],by simp only[aC];exact N,by simp[aC,h7],by simp[aC,R],by simp[aC]⟩ ⟨bY hw.size hJ.1.size,λb hb=>(hJ.1.block b (bG hb hw.size) Q0).trans (hw.block b hb),hJ.1.os.trans hw.os⟩ hJ.2
end
theorem Er{P L:Nat}(h:0<P):L<=dz P L*P/\dz P L*P<L+P:=by unfold dz;have a:=Nat.div_add_mod (L+P-1) P;have b:=Nat.mod_lt (L+P-1) h;rw[lN];omega
def jy(k z:Nat)(s:aN):aN:=s++zs ((dz (k*z) s.size)*(k*z)-s.size)
theorem qC(k z:Nat)(s:aN)(h:0<k*z):(jy k z s).size=(dz (k*z) s.size)*(k*z):=by have:=Er (L:=s.size) h;rw[jy,eB,nS];omega
theorem YQ:(prog.info? 49).map (λi=>(i.zero,i.size,i.bytes))=some (some (.slice none 0 0),1,24):=by kernel_rfl
def YR(w:au)(n:Nat)(u:au)(x:aA):Prop:=∃sb,x=aU sb n n/\w.heap.size<=sb/\u.heap[sb]? =some (.cells (madeCells #[.slice none 0 0] n) 49)
theorem YR.keep{x:aA}(h:YR w n u x)(k:Hw u U):YR w n U x:=let⟨sb,a,b,c⟩:=h;⟨sb,a,b,(k.block sb (bJ.1 c).1).trans c⟩
section
variable [Payload] [Zb]
theorem BQ(k m z:Nat)(key s:aN)(yG:1<=k)(q:k<=12)(hz0:1<=z)(G:z<=64)(hs:s.size<=60000):RC bT prog ty E 132 #[.agg #[ah k,ah m,ah z,ah s.size,.string key],.string s] w λx u=>∃sb,x=aU sb (dz (k*z) s.size) (dz (k*z) s.size)/\w.heap.size<=sb/\Eo sb (dz (k*z) s.size) k z (dz (k*z) s.size) (jy k z s) w.heap.size u/\Hw w u:=by
 have A:0<k*z:=Nat.mul_pos Q0 Q0;have kz:k*z<=12*64:=iJ q G;have U:=Er (L:=s.size) A;have hn:(dz (k*z) s.size)<=65536:=by have:(dz (k*z) s.size)*1<=(dz (k*z) s.size)*(k*z):=Nat.mul_le_mul_left _ A;omega
 have X:=qC k z s A;refine RC.of func132 M0 Vv (by show 2<=46;decide) λb₀ a₀ H i₀ D k₀ seg T=>?_;change CP _ _ _ _ ⟨_,fa 46 _,_⟩ _ _;refine kg ?_;refine CP.yX (t:=101) (y:=0) (d:=2) rfl (.of M0) U0 λu1 C=>?_;refine kg ?_;have n1:u1.heap[w.heap.size]? =some (.cells #[ah k,ah m,ah z,ah s.size,.string key] 101):=C.new;generalize S:aC _ 4 _=F;have F1:F 1=.string s:=by rw[<-S];simp[aC]
 have F2:F 2=aJ w.heap.size 0:=by rw[<-S];simp[aC]
 clear S;refine CP.NP M0 M0 M0 (λi u x=>match i with|0=>x=.agg #[ah k,ah m,ah z,ah s.size,.string key]|1=>x=ah (dz (k*z) s.size)|3=>x=.agg #[ah k,ah m,ah z,ah s.size,.string key]|4=>x=ah (k*z:Nat)|6=>x=ah (k*z:Nat)|_=>YR w (dz (k*z) s.size) u x) (Hw u1) (Hw) (λu u' q j x h=>by
  match j,h with
  |0,h=>exact h
  |1,h=>exact h
  |2,h=>exact YR.keep h q
  |3,h=>exact h
  |4,h=>exact h
  |5,h=>exact YR.keep h q
  |6,h=>exact h
  |j+7,h=>exact YR.keep h q) (Hb.refl _ _) ?_ ?_
 .intro i f u rest Y hold J g c;have h2:f 2=aJ w.heap.size 0:=(hold 2 M0 U0).trans F2;have nb:=(J.block _ (by rw[C.size];omega)).trans n1;clear hold T
  match i,Y,g,c with
  |0,_,g,c=>have I:=λj=>aQ u _ j _ _ _ nb;exact kt (c _ _ (Hb.refl _ _) J rfl)
  |1,_,g,c=>have h9:f 9=.agg #[ah k,ah m,ah z,ah s.size,.string key]:=g 0 9 M0 M0;exact RC.call (dt:=fM (rg f132 1) 1) rfl (.of M0) (xs:=#[.tmp 9]) (ats:=#[101]) Y1 (vs:=#[.agg #[ah k,ah m,ah z,ah s.size,.string key]]) (by simp[aj,aO,Act.eval,h9]) (RC.keep U0 λw=>nL k m z s.size key w yG q hz0 G Q0) (λv u' B=>c v u' B.2 (J.step B.2) B.1)
  |2,_,g,c=>
   have N:f 10=ah (dz (k*z) s.size):=g 1 10 M0 M0;obtain⟨ji,Z,Im⟩:=gL.1 YQ;simp only[Prod.mk.injEq]at Im;refine CP.opW (K:=.makeSlice 104 (.tmp 10) (.tmp 10)) (dt:=fM (rg f132 1) 2) aH rfl (.of M0) (dW M0) λt r o n=>⟨aU u.heap.size (dz (k*z) s.size) (dz (k*z) s.size),(Ren.tp u t r).alloc (.cells (madeCells #[.slice none 0 0] (dz (k*z) s.size)) 49),?_,?_⟩
   .have:=run_make (P:=prog) (Ren.tp u t r) 104 49 ji _ underlying104 Z Im.1 .i64 .i64 ((dz (k*z) s.size):Int) ((dz (k*z) s.size):Int) Q0 (Int.le_refl _) D6 Q0;rw[Im.2.1,Nat.mul_one]at this;unfold execOp;rw[n];simp only[aj (show(10:Nat)<46 from by decide),N];rw[Sem.run_bind,this];rfl
   .have M:=JD.of u (.cells (madeCells #[.slice none 0 0] (dz (k*z) s.size)) 49);refine CP.tp (w:=u.alloc (.cells (madeCells #[.slice none 0 0] (dz (k*z) s.size)) 49)) ?_ t r;exact c _ _ M.hw (J.step M.hw) ⟨u.heap.size,rfl,by have:=J.size;have:=C.size;omega,M.new⟩
  |3,_,g,c=>have I:=λj=>aQ u _ j _ _ _ nb;exact kt (c _ _ (Hb.refl _ _) J rfl)
  |4,_,g,c=>have Q:f 12=.agg #[ah k,ah m,ah z,ah s.size,.string key]:=g 3 12 M0 M0;exact RC.call (dt:=fM (rg f132 1) 4) rfl (.of M0) (xs:=#[.tmp 12]) (ats:=#[101]) Y1 (vs:=#[.agg #[ah k,ah m,ah z,ah s.size,.string key]]) (by simp[aj,aO,Act.eval,Q]) (RC.keep U0 λw=>oD k m z s.size key w q G) (λv u' B=>c v u' B.2 (J.step B.2) B.1)
  |5,_,g,c=>have O:=g 2 11 M0 M0;exact kX (.assign (.tmp 11)) (λt r o n=>by unfold execOp;rw[n];rfl) (c _ _ (Hb.refl _ _) J (by rw[aj U0];exact O))
  |6,_,g,c=>have R:f 13=ah (k*z:Nat):=g 4 13 M0 M0;exact kX (.assign (.tmp 13)) (λt r o n=>by unfold execOp;rw[n];rfl) (c _ _ (Hb.refl _ _) J (by rw[aj U0];exact R))
  |i+7,Y,_,_=>exact aF Y (by rw[show(rg f132 1).size=7 from by kernel_rfl];omega)
 .intro f u2 hold J g _;have h1:f 1=.string s:=(hold 1 M0 U0).trans F1;have h2:f 2=aJ w.heap.size 0:=(hold 2 M0 U0).trans F2;obtain⟨sb,h5,sb1,p⟩:=g 5 5 L6 M0;have h6:f 6=ah (k*z:Nat):=g 6 6 L6 M0;clear g hold;refine kg ?_;refine kv (ah (dz (k*z) s.size)) ?_;refine kg ?_;refine kw (ah ((dz (k*z) s.size)*(k*z):Nat)) ?_ (hr:=(λt r o n=>by clear T;exact jw (a:=(dz (k*z) s.size)) (b:=k*z) n ((aj U0).trans rfl) ((aj U0).trans h6) Q0));refine kg ?_;refine kv (ah s.size) ?_;refine kw (ah ((dz (k*z) s.size)*(k*z)-s.size:Nat)) ?_ (hr:=(λt r o n=>by clear T;exact GY (a:=(dz (k*z) s.size)*(k*z)) (b:=s.size) n ((aj U0).trans rfl) ((aj U0).trans rfl) U.1 Q0));refine RC.mX (d:=22) rfl (.of M0) (xs:=#[.const (.string ⟨#[0]⟩),.tmp 21]) (ats:=#[9,3]) (by simp[bE];exact .string _) (vs:=#[.string ⟨#[0]⟩,ah ((dz (k*z) s.size)*(k*z)-s.size:Nat)]) (by simp only[List.map_toArray,kM,List.map_nil,aj (show(21:Nat)<46 from by decide)];rfl) (NW _ Q0) ?_;rintro _ u3 ⟨rfl,h3⟩;refine kw (.string (jy k z s)) ?_ (hr:=(λt r o n=>by clear T;exact gW (a:=s) (b:=zs ((dz (k*z) s.size)*(k*z)-s.size)) n ((aj U0).trans h1) ((aj U0).trans rfl) Y4));refine kg ?_;refine kv (ah (dz (k*z) s.size)) ?_;refine kg ?_;refine CP.ctl (λa' cs u=>stepG_loop) ?_;rw[<-Ep];have s1:=C.size;have l2:sb<u2.heap.size:=(bJ.1 p).1;have sx:w.heap.size≠sb:=λe=>by
   rw[<-e,(J.block _ Q0).trans n1]at p;simp at p
  refine Vw (w:=u1) w.heap.size sb (dz (k*z) s.size) k m z s.size w.heap.size key (jy k z s) q Q0 G hn X n1 Q0 Q0 ?_ (dz (k*z) s.size) 0 Q0 _ u3 ⟨by simp[aC,h2],by simp[aC,h5],by simp only[aC];exact h6,by simp[aC],by simp[aC],by simp[aC]⟩ (J.step h3) ⟨_,(h3.block sb l2).trans p,size_madeCells _ _,λj Z=>aF Z (dO j)⟩;intro f u4 hf k4 d4;have W:=hf;cases W;refine kg ?_;refine CP.out rfl rfl func132 (V:=λa=>a.tmps.getD 4 ak) YO abK (λπ a a' h=>h.tmps.getD 4) ?_;refine T _ _ ⟨sb,?_,sb1,d4,C.hw.step k4⟩;show(fa _ _).tmps.getD 4 ak=_;rw[bN U0];simp[aC,hf.h5]
end
structure pE(g q i:Nat)(X Y:Nat->aN)(u:au):Prop where
 row:∃c,u.heap[g]? =some (.cells c 38)/\c.size=q*2/\∀j,j<i->c[j*2]? =some (.string (X j))/\c[j*2+1]? =some (.string (Y j))
theorem pE.lt(h:pE g q i X Y u):g<u.heap.size:=let⟨c,a,_⟩:=h.row;(bJ.1 a).1
theorem pE.keep(h:pE g q i X Y u)(e:U.heap[g]? =u.heap[g]?):pE g q i X Y U:=let⟨c,a,b⟩:=h.row;⟨c,e.trans a,b⟩
theorem pE.set(h:pE g k i X Y u)(f:i<k):pE g k (i+1) X Y ((u.setCell (aB g (i*2)) (.string (X i))).setCell (aB g (i*2+1)) (.string (Y i))):=by
 obtain⟨c,a,b,d⟩:=h.row;refine⟨_,setAt (setAt a _ _) _ _,by simp[b],λj l=>?_⟩;by_cases e:j=i
 .subst e;constructor
  .rw[jN Q0,C9 Q0]
  .rw[C9 M4]
 .have:=d j Q0;constructor
  .rw[jN Q0,jN Q0];exact this.1
  .rw[jN Q0,jN Q0];exact this.2
structure VsF(xb C vb n q i:Nat)(f:Nat->aA):Prop where
 h3:f 3=aJ xb 0
 h7:f 7=aU C n n
 h8:f 8=aU vb q q
 h23:f 23=ah q
 h24:f 24=ah i
structure StR(C n q:Nat)(gs:Nat->Nat)(D:Nat->Nat->aN)(w:au):Prop where
 c:∀i,i<n->w.cell? (aB C i)=some (aU (gs i) q q)
 g:∀i,i<n->∀v,v<q->w.cell? (aB (gs i) v)=some (.string (D i v))
theorem Vx:f71.body=some (.seq (.region 0 (rg f71 0) false) (.seq (.region 1 (rg f71 1) true) (.seq (.region 2 (rg f71 2) false) (.seq (.seq (.region 3 (rg f71 3) false) (.block 0 (.loop (.seq (.region 4 (rg f71 4) false) (.seq (.cond (.tmp 25) .skip (.exit 0)) (.seq (.block 1 (.seq (.region 5 (rg f71 5) false) (.region 6 (rg f71 6) true))) (.region 7 (rg f71 7) false))))))) (.seq (.region 8 (rg f71 8) false) .ret))))):=by kernel_rfl
theorem YS(a:Act)(u:au):(results f71 a.tmps).run prog u=.ok (a.tmps.getD 6 ak) u:=by simp[results,f71,go_sem]
theorem abL(a:Act)(u:au):(results f71 a.tmps).events prog u #[]=#[]:=by simp[results,f71,go_sem]
noncomputable def vsX:Code:=match f71.body with|some (.seq _ (.seq _ (.seq _ (.seq (.seq _ (.block _ (.loop c))) _))))=>c|_=>.skip
theorem Es:vsX=(.seq (.region 4 (rg f71 4) false) (.seq (.cond (.tmp 25) .skip (.exit 0)) (.seq (.block 1 (.seq (.region 5 (rg f71 5) false) (.region 6 (rg f71 6) true))) (.region 7 (rg f71 7) false)))):=by kernel_rfl
section
variable [Payload] [Zb] {H : List PF}
theorem Vy(G C p n k m d len:Nat)(key:aN)(T:Nat->Nat)(D:Nat->Nat->aN)(hn:n<=65536)(yG:1<=k)(xq:k+m<=12)(OC:1<=d)(Ri:d<=8)(hl:len<=1000000)(Q:key.size<=1000)(hD:∀i,i<n->∀v,v<k+m->(D i v).size<=1000)(hx:w.heap[G]? =some (.cells #[ah k,ah m,ah (8*d:Nat),ah len,.string key] 101))(F:StR C n (k+m) T D w)(hB:w.heap.size<=p)
 (hT:∀f u,VsF G C p n (k+m) (k+m) f->Hw w u->pE p (k+m) (k+m) fJ (λv=>pz k m d len key v (λs=>D s v) n) u->CP bT prog ty E ⟨base 71,fa 39 f,K⟩ H u):
 ∀j i,i+j=k+m->∀f u,VsF G C p n (k+m) i f->Hw w u->pE p (k+m) i fJ (λv=>pz k m d len key v (λs=>D s v) n) u->CP bT prog ty E ⟨base 71,fa 39 f,.code vsX:: .inLoop vsX:: .inBlock 0::K⟩ H u:=by
 intro j
 induction j with
 |zero=>
  intro i P f u A hw hc;have L:=A;cases L;obtain rfl:i=k+m:=by omega
  rw[Es];refine kg ?_;refine kv (.bool false) ?_;refine kg ?_;refine kq false ?_;refine CP.ctl (λa' cs u=>stepG_exit (k':=K) rfl) ?_;exact hT _ u ⟨by simp[aC,A.h3],by simp[aC,A.h7],by simp[aC,A.h8],by simp[aC,A.h23],by simp[aC,A.h24]⟩ hw hc
 |succ j ih=>
  intro i P f u A hw hc;have L:=A;cases L;have B:i<k+m:=by omega
  rw[Es];refine kg ?_;refine kv (.bool true) ?_;refine kg ?_;refine kq true ?_;refine kg ?_;generalize I:aC _ 9 _=g;have g3:g 3=aJ G 0:=by rw[<-I];simp[aC,A.h3]
  have g7:g 7=aU C n n:=by rw[<-I];simp[aC,A.h7]
  have g8:g 8=aU p (k+m) (k+m):=by rw[<-I];simp[aC,A.h8]
  have g9:g 9=ah i:=by rw[<-I];simp[aC,A.h24]
  have U:g 23=ah (k+m:Nat):=by rw[<-I];simp only[aC];exact A.h23
  have V:g 24=ah i:=by rw[<-I];simp[aC,A.h24]
  have xl:G<w.heap.size:=(bJ.1 hx).1;clear I A;have hst:∀z,Hx p u z->NU C n k m i T (λs=>D s i) z:=λz h2=>by have kp:∀b,b<w.heap.size->z.heap[b]? =w.heap[b]? :=λb O=>(h2.block b (bG O hw.size) Q0).trans (hw.block b O);exact⟨λs M=>(cell_of_block (kp C (fO (F.c s M))) _).trans (F.c s M),λs M=>(cell_of_block (kp (T s) (fO (F.g s M i B))) _).trans (F.g s M i B)⟩
  refine CP.GD M0 M0 M0 (λq _ x=>match q with|0=>x=aU p (k+m) (k+m)|1=>x=ah i|2=>x=ah i|3=>x=.string (fJ i)|4=>x=.agg #[ah k,ah m,ah (8*d:Nat),ah len,.string key]|5=>x=ah i|6=>x=aU C n n|7=>x=.string (pz k m d len key i (λs=>D s i) n)|8=>x=.agg #[.string (fJ i),.string (pz k m d len key i (λs=>D s i) n)]|9=>x=aJ p (i*2)|_=>True) 10 (λq u'=>Hx p u u'/\pE p (k+m) (if q then i+1 else i) fJ (λv=>pz k m d len key v (λs=>D s v) n) u') (Hx p) (λ_ _ _ j x h=>h) ⟨Hx.refl _ _,hc⟩ ?_ ?_
  .intro q i2 f z rest P r hold hJ y e;have h3:f 3=aJ G 0:=(hold 3 M0 U0).trans g3;have h7:f 7=aU C n n:=(hold 7 M0 U0).trans g7;have h8:f 8=aU p (k+m) (k+m):=(hold 8 M0 U0).trans g8;have h9:f 9=ah i:=(hold 9 M0 U0).trans g9;have nb:=(hJ.1.block G (bG xl hw.size) Q0).trans ((hw.block G xl).trans hx);clear hold hT ih
   match i2,P,r,y,e with
   |0,_,r,y,e=>exact kt (e _ _ (Hx.refl _ _) U1 rfl)
   |1,_,r,y,e=>exact kt (e _ _ (Hx.refl _ _) U1 rfl)
   |2,_,r,y,e=>exact kt (e _ _ (Hx.refl _ _) U1 rfl)
   |3,_,r,y,e=>have Y:f 29=ah i:=y 2 29 M0 M0;exact RC.call (dt:=fM (rg f71 6) 3) rfl (.of M0) (xs:=#[.tmp 29]) (ats:=#[3]) Y1 (vs:=#[ah i]) (by simp[aj,aO,Act.eval,Y]) (RC.keep U0 λw=>Dr i w Q0) (λx u' r=>e x u' (Hb.x r.2) (by refine⟨hJ.1.step (Hb.x r.2),?_⟩;simpa using hJ.2.keep (r.2.block p hJ.2.lt)) r.1)
   |4,_,r,y,e=>have YF:=λj=>aQ z _ j _ _ _ nb;exact kt (e _ _ (Hx.refl _ _) U1 rfl)
   |5,_,r,y,e=>exact kt (e _ _ (Hx.refl _ _) U1 rfl)
   |6,_,r,y,e=>exact kt (e _ _ (Hx.refl _ _) U1 rfl)
   |7,_,r,y,e=>have Z:f 31=.agg #[ah k,ah m,ah (8*d:Nat),ah len,.string key]:=y 4 31 M0 M0;have h32:f 32=ah i:=y 5 32 M0 M0;have h33:f 33=aU C n n:=y 6 33 M0 M0;exact RC.call (dt:=fM (rg f71 6) 7) rfl (.of M0) (xs:=#[.tmp 31,.tmp 32,.tmp 33]) (ats:=#[101,3,45]) Y1 (vs:=#[.agg #[ah k,ah m,ah (8*d:Nat),ah len,.string key],ah i,aU C n n]) (by simp[aj,aO,Act.eval,Z,h32,h33]) (NV C n k m d len i key T (λs=>D s i) hn yG xq OC Ri hl Q0 Q (λs M=>hD s M i B) (hst z hJ.1)) (λx u' r=>e x u' (Hb.x r.2) (by refine⟨hJ.1.step (Hb.x r.2),?_⟩;simpa using hJ.2.keep (r.2.block p hJ.2.lt)) r.1)
   |8,_,r,y,e=>have h30:f 30=.string (fJ i):=y 3 30 M0 M0;have h34:f 34=.string (pz k m d len key i (λs=>D s i) n):=y 7 34 M0 M0;exact kt (e _ _ (Hx.refl _ _) U1 rfl)
   |9,_,r,y,e=>have h27:f 27=aU p (k+m) (k+m):=y 0 27 M0 M0;have h28:f 28=ah i:=y 1 28 M0 M0;exact kt (e _ _ (Hx.refl _ _) U1 rfl)
   |10,_,r,y,e=>
     have h35:f 35=.agg #[.string (fJ i),.string (pz k m d len key i (λs=>D s i) n)]:=y 8 35 M0 M0;have h36:f 36=aJ p (i*2):=y 9 36 M0 M0;have YP:=r rfl;subst YP;have J:pE p (k+m) i fJ (λv=>pz k m d len key v (λs=>D s v) n) z:=by simpa using hJ.2
     refine CP.opU (K:=.store 38 (.tmp 36) (.tmp 35)) (dt:=fM (rg f71 6) 10) aH rfl (.of M0) (dW M0) λt N o ho=>⟨((Ren.tp z t N).setCell (aB p (i*2)) (.string (fJ i))).setCell (aB p (i*2+1)) (.string (pz k m d len key i (λs=>D s i) n)),?_,?_⟩
     .obtain⟨c,S,c2,_⟩:=J.row;have q0:(Ren.tp z t N).cell? (aB p (i*2))=some (c[i*2]' Q0):=(aQ z _ _ _ _ _ S).trans (iU Q0);have q1:(Ren.tp z t N).cell? (aB p (i*2+1))=some (c[i*2+1]' Q0):=(aQ z _ _ _ _ _ S).trans (iU Q0);have f0:(Ren.tp z t N).frozen? (aB p (i*2))=false:=Lib.frozen_of_heap S _;have f1:(Ren.tp z t N).frozen? (aB p (i*2+1))=false:=Lib.frozen_of_heap S _;generalize pz k m d len key i (λs=>D s i) n=yi at*;generalize fJ i=xi at*;clear hJ y e J nb;unfold execOp;rw[ho];simp[aj,h35,h36];go_simp
     .refine CP.tp (w:=(z.setCell (aB p (i*2)) (.string (fJ i))).setCell (aB p (i*2+1)) (.string (pz k m d len key i (λs=>D s i) n))) ?_ t N;have R:Hx p z ((z.setCell (aB p (i*2)) (.string (fJ i))).setCell (aB p (i*2+1)) (.string (pz k m d len key i (λs=>D s i) n))):=(Hx.set p _ z _).step (Hx.set p _ _ _);exact e _ _ R (by refine⟨hJ.1.step R,?_⟩;simpa using J.set B) trivial
   |i2+11,P,_,_,_=>exact aF P (by rw[show(rg f71 6).size=11 from by kernel_rfl];omega)
  .intro q f z r hold hJ y _;have r:q=true:=r (by rw[show(rg f71 6).size=11 from by kernel_rfl];decide);subst r;have h3:=(hold 3 M0 U0).trans g3;have h7:=(hold 7 M0 U0).trans g7;have h8:=(hold 8 M0 U0).trans g8;have W:=(hold 23 M0 U0).trans U;have X:=(hold 24 M0 U0).trans V;refine kg ?_;refine kw (ah (i+1:Nat)) ?_ (hr:=(λt N o ho=>by clear hT ih;exact dh (a:=i) (b:=1) ho ((aj U0).trans X) rfl Q0));refine kg ?_;refine CP.ctl (λa' cs u=>stepG_inLoop) ?_;rw[<-Es];exact ih (i+1) Q0 _ z ⟨by simp[aC,h3],by simp[aC,h7],by simp[aC,h8],by simp only[aC];exact W,by simp[aC]⟩ ⟨bY hw.size hJ.1.size,λb O=>(hJ.1.block b (bG O hw.size) Q0).trans (hw.block b O),hJ.1.os.trans hw.os⟩ hJ.2
end
end
section
open Go.Proofs.Tryz
open Go Go.Proofs.YtmhafipgbfaapaaGreatDoor.Ren Go.Conc Go.ConcN Go.RowKit Go.Conc.Lib Go.ConcR.Gen Go.ConcN.Gen
open Go.ConcR (KK WgAt wgBlock stA smA rd wr mk Payload DC0)
variable {Fx : au -> Prop} {K : dN -> au -> Array Event -> Prop} {O : aD} {P : Program} {Rj : (aD) -> dN -> au -> Prop} {T y z : Array aA} {X Y c : Code} {a Zvaq75 : Act} {ad : Addr} {ats : Array bf} {b Zvbq75 : Frame} {sS fc i Zviq75 m n sc wc wp M : Nat} {R : List Frame} {ds : List Deferred} {f : FuncId} {it V : Int} {k Zvkq75 Et : List Item} {mn sv : Bool} {o : Oper} {p I : Array Oper} {C h : List Nat} {t : Nat -> Bool} {v : aA}
section
variable {es : Array MapEntry} {v : Int} {L : Lk} {k mb : Nat} {old : Wd} {w : au}
theorem rM(k m:Nat)(t:Nat->Bool):Pl (.agg (dA k m t)):=by refine .inr ⟨_,rfl,λc h=>?_⟩;simp[dA]at h;obtain rfl|rfl|rfl|rfl|rfl|rfl|rfl|rfl|rfl|rfl|rfl|rfl|rfl|rfl:=h<;>first|exact .int _ _|exact .bool _
theorem Rl:∀k m:Fin 13,∀c d e f b4 g h i j l b a:Bool,(keyOf prog 238 (.agg #[ah k.val,ah m.val,.bool c,.bool d,.bool e,.bool f,.bool b4,.bool g,.bool h,.bool i,.bool j,.bool l,.bool b,.bool a])).isSome=true:=by intro k m c d e f b4 g h i j l b a;obtain⟨k,n⟩:=k;obtain⟨m,o⟩:=m;obtain _|_|_|_|_|_|_|_|_|_|_|_|_|k:=k<;>first|omega|(obtain _|_|_|_|_|_|_|_|_|_|_|_|_|m:=m<;>first|omega|kernel_rfl)
theorem zw(k m:Nat)(t:Nat->Bool)(h:k+m<=12):∃l,keyOf prog 238 (.agg (dA k m t))=some l:=Option.isSome_iff_exists.1 (Rl ⟨k,Q0⟩ ⟨m,Q0⟩ _ _ _ _ _ _ _ _ _ _ _ _)
theorem zx:WideMaps.KeyLaw prog 238:=deep_law (m:=3) U0 M0 M0 M0
theorem xU(h:w.heap[mb]? =some (.map es sS))(e:Array Event):(getObj mb).events prog w e=e.push ⟨.obj mb,false,false⟩:=by simp[getObj,Sem.events,Sem.runT,h,Obj.isChan,-Sem.runT_eq]
theorem NY(h:w.heap[mb]? =some (.map es sS))(e:Array MapEntry)(c:Nat)(a:Array Event):(setObj mb (.map e c)).events prog w a=a.push ⟨.obj mb,true,false⟩:=by simp[setObj,Sem.events,Sem.runT,h,Obj.isChan,-Sem.runT_eq]
theorem Rn[Payload][Zb](d:k+m<=12)(b:w.heap[mb]? =some (.map es sS))(r:∀e∈es.toList,∃i,e.key=.agg (dA k m i)):
 ((∃e∈es.toList,e.key=.agg (dA k m t)/\(Instr.lookup 112 (.map (some mb)) (.agg (dA k m t)) true).run prog w=.ok (.tuple #[e.val,.bool true]) w)\/
   (∀e∈es.toList,e.key≠ .agg (dA k m t))/\(Instr.lookup 112 (.map (some mb)) (.agg (dA k m t)) true).run prog w=.ok (.tuple #[.slice none 0 0,.bool false]) w)/\
 ∀g,(Instr.lookup 112 (.map (some mb)) (.agg (dA k m t)) true).events prog w g=g.push ⟨.obj mb,false,false⟩:=by
 obtain⟨l,s⟩:=zw k m t d;have c:∀e∈es.toList,∃l,keyOf prog 238 e.key=some l:=λe o=>by obtain⟨i,h⟩:=r e o;rw[h];exact zw k m i d
 have p:∀e∈es.toList,Pl e.key:=λe o=>by obtain⟨i,h⟩:=r e o;rw[h];exact rM _ _ _
 have hc:=zx.check w es.isEmpty s;have q:=AQ (P:=prog) 10000 es.isEmpty 238 _ (rM k m t);have f:=uO (P:=prog) (kt:=238) (rM k m t) es.toList p;have z:∀w:au,(zeroValue 240).run prog w=.ok (.slice none 0 0) w:=zeroValue240;obtain⟨a,n⟩|⟨j,e,a,n,u⟩:=zx.find w s es.toList c
 .refine⟨.inr ⟨n,?_⟩,λg=>?_⟩
  .simp[Instr.lookup,run_underlying underlying112,MapKept.run_getObj_map b,hc,a,z,Result.andThen]
  .simp[Instr.lookup,run_underlying underlying112,MapKept.run_getObj_map b,hc,a,z,xU b,q w,f w]
 .refine⟨.inl ⟨e,List.mem_of_getElem? n,u,?_⟩,λg=>?_⟩
  .simp[Instr.lookup,run_underlying underlying112,MapKept.run_getObj_map b,hc,a,Result.andThen]
  .simp[Instr.lookup,run_underlying underlying112,MapKept.run_getObj_map b,hc,a,xU b,q w,f w]
theorem GZ[Payload][Zb](w:au)(e:Array Event):(Instr.lookup 112 (.map none) (.agg (dA k m t)) true).events prog w e=e:=by have h:=AQ (P:=prog) 10000 true 238 _ (rM k m t);have hc:(Instr.checkKey true 10000 238 (.agg (dA k m t))).run prog w=.ok () w:=chk true _ _ _ _ _ _ _ _ _ _ _ _ _ _ w;have f:∀d k,Instr.findNow d k ([]:List MapEntry) 0=some none:=λ_ _=>rfl;have a:=MapKept.run_findKey (P:=prog) (w:=w) (k:=.agg (dA k m t)) underlying238 (f _ _);have q:=uO (P:=prog) (kt:=238) (rM k m t) [] X0;simp[Instr.lookup,run_underlying underlying112,hc,a,h w,q w,zeroValue240]
theorem Vz[Payload][Zb](c:k+m<=12)(b:w.heap[mb]? =some (.map es sS))(s:∀e∈es.toList,∃d,e.key=.agg (dA k m d))(n:∀e∈es.toList,e.key≠ .agg (dA k m t))(val:aA):
 (Instr.mapUpdate 112 (.map (some mb)) (.agg (dA k m t)) val).run prog w=.ok () {w with heap:=w.heap.setIfInBounds mb (.map (es.push {key:=.agg (dA k m t),val:=val,born:=sS}) (sS+1))}/\
 ∀f,(Instr.mapUpdate 112 (.map (some mb)) (.agg (dA k m t)) val).events prog w f=(f.push ⟨.obj mb,false,false⟩).push ⟨.obj mb,true,false⟩:=by
 obtain⟨l,u⟩:=zw k m t c;have a:∀e∈es.toList,∃l,keyOf prog 238 e.key=some l:=λe i=>by obtain⟨d,h⟩:=s e i;rw[h];exact zw k m d c
 have p:∀e∈es.toList,Pl e.key:=λe i=>by obtain⟨d,h⟩:=s e i;rw[h];exact rM _ _ _
 have hc:=zx.check w false u;have q:=AQ (P:=prog) 10000 false 238 _ (rM k m t);have o:=uO (P:=prog) (kt:=238) (rM k m t) es.toList p;obtain⟨g,r⟩|⟨j,e,g,r,v⟩:=zx.find w u es.toList a
 .refine⟨?_,λf=>?_⟩
  .simp[Instr.mapUpdate,run_underlying underlying112,MapKept.run_getObj_map b,hc,g,MapKept.run_setObj_map _ b,Result.andThen]
  .simp[Instr.mapUpdate,run_underlying underlying112,MapKept.run_getObj_map b,hc,g,xU b,NY b,q w,o w]
 .exact aF v (n e (List.mem_of_getElem? r))
theorem gD:(prog.funcs[(base 247).fn]?).any (·.norace)=true:=by kernel_rfl
theorem bV{m:Bool}{kk:List Item}{x:Operand}(d:p[i]? =some o)(hw:Region.wanted o (yielded p a.tmps)=true)(k:b.kind≠ .early)(h:o.op=.load 21 x)(c:a.eval x=.pointer (some ad))(hc:w.cell? ad=some (.int .i32 v))(q:(prog.funcs[b.fn]?).any (·.norace)=true):
 stepG prog m (G (b.at a (aT p (i::C)::kk)) R) w=.go (G (b.at (a.put o.dst (.int .i32 v)) (aT p C::kk)) R) w #[]:=by
 have r:(execOp a.eval o).run prog w=.ok (.value (.int .i32 v)) w:=by unfold execOp;simp only[h,c];simp[go_sem,hc]
 have e:(execOp a.eval o).events prog w #[]=#[⟨.cell ad,false,false⟩]:=by unfold execOp;simp only[h,c];simp[go_sem,hc]
 rw[stepG_value (v:=.int .i32 v) (w':=w) d hw k r];unfold listed;rw[e,seen_def];simp[seenStep,Frame.at,q]
noncomputable def aG:Code->Code|.seq _ b=>b|c=>c
noncomputable def bZ:Code->Code|.seq a _=>a|c=>c
noncomputable def Bc:Code->Code|.block _ (.loop c)=>c|c=>c
noncomputable def gX:Code:=aG (aG (aG (aG (aG (f247.body.getD .skip)))))
noncomputable def aM:Code:=Bc (bZ gX)
noncomputable def dJ:Code:=aG gX
noncomputable def TM(L:Lk)(J:Nat->aA)(V:Int)(sv aw:Bool)(it:Int)(old:Wd):Array aA:=#[.pointer (some L.mu),J 1,ah V,.bool sv,.bool aw,ah it,.int .i32 old.int,J 7,J 8,J 9,J 10,J 11,J 12,J 13,J 14,J 15,J 16,J 17,J 18,J 19,J 20,J 21,J 22,J 23,J 24,J 25,J 26,J 27,J 28,J 29,J 30,J 31,J 32,J 33,J 34,J 35,J 36,J 37,J 38,J 39,J 40,J 41,J 42,J 43,J 44,J 45,J 46,J 47,J 48,J 49,J 50,J 51,J 52,J 53,J 54,J 55,J 56,J 57,J 58,J 59,J 60,J 61,J 62,J 63,J 64,J 65,J 66,J 67,J 68,J 69,J 70,J 71,J 72,J 73,J 74,J 75,J 76,J 77,J 78,J 79,J 80,J 81,J 82,J 83,J 84,J 85,J 86,J 87,J 88,J 89,J 90,J 91,J 92,J 93,J 94,J 95,J 96,J 97,J 98,J 99,J 100,J 101,J 102,J 103,J 104,J 105,J 106,J 107,J 108,J 109,J 110,J 111,J 112,J 113,J 114,J 115,J 116,J 117,J 118,J 119,J 120,J 121,J 122,J 123,J 124,J 125,J 126,J 127,J 128,J 129,J 130,J 131,J 132,J 133,J 134,J 135,J 136,J 137,J 138]
theorem VA(L:Lk)(J:Nat->aA)(V:Int)(sv aw:Bool)(it:Int)(old:Wd):(TM L J V sv aw it old).toList=(List.range 139).map λk=>if k=0 then .pointer (some L.mu)else if k=2 then ah V else if k=3 then .bool sv else if k=4 then .bool aw else if k=5 then ah it else if k=6 then .int .i32 old.int else J k:=by rfl
theorem JI{aw:Bool}(s:T.size=139)(h:T[0]? =some (.pointer (some L.mu)))(g:T[2]? =some (ah V))(i:T[3]? =some (.bool sv))(j:T[4]? =some (.bool aw))(l:T[5]? =some (ah it))(m:T[6]? =some (.int .i32 old.int)):
 T=TM L (λk=>(T[k]?).getD ak) V sv aw it old:=by
 apply Array.ext';rw[VA];apply List.ext_getElem?;intro k;rw[List.getElem?_map];obtain hk|hk:=jY k 139
 .rw[List.getElem?_range hk,gq,jE];by_cases e:k=0
  .rw[aI e,e,h]
  by_cases a:k=2
  .rw[av e,aI a,a,g]
  by_cases b:k=3
  .rw[av e,av a,aI b,b,i]
  by_cases c:k=4
  .rw[av e,av a,av b,aI c,c,j]
  by_cases d:k=5
  .rw[av e,av a,av b,av c,aI d,d,l]
  by_cases f:k=6
  .rw[av e,av a,av b,av c,av d,aI f,f,m]
  rw[av e,av a,av b,av c,av d,av f,iU Q0];rfl
 .rw[jE,Array.getElem?_eq_none Q0,vH V5];rfl
theorem ni:(f246.name== "runtime.NumGoroutine")=false:=by kernel_rfl
theorem nu:f246.body.isNone=true:=by kernel_rfl
theorem ny:Extern.findNext f246=none:=by kernel_rfl
theorem nC:Extern.find f246=some (Extern.Atomic.casT (.int .i32)):=by kernel_rfl
noncomputable def tX:Code->Code|.block _ c=>c|c=>c
noncomputable def cnd:Code->Code|.cond _ a _=>a|c=>c
noncomputable def mY:Code:=aG (cnd (aG (aG (aG (aG (aG (aG (aG (tX aM)))))))))
noncomputable def oh:Code:=aG (aG mY)
noncomputable def Bd:Code:=aG (aG oh)
noncomputable def TQ(L:Lk)(J:Nat->aA)(V:Int)(sv:Bool):Array aA:=#[.pointer (some L.mu),J 1,ah V,.bool sv,J 4,J 5,J 6,J 7,J 8,J 9,J 10,J 11,J 12,J 13,J 14,J 15,J 16,J 17,J 18,J 19,J 20,J 21,J 22,J 23,J 24,J 25,J 26,J 27,J 28,J 29,J 30,J 31,J 32,J 33,J 34,J 35,J 36,J 37,J 38,J 39,J 40,J 41,J 42,J 43,J 44,J 45,J 46,J 47,J 48,J 49,J 50,J 51,J 52,J 53,J 54,J 55,J 56,J 57,J 58,J 59,J 60,J 61,J 62,J 63,J 64,J 65,J 66,J 67,J 68,J 69,J 70,J 71,J 72,J 73,J 74,J 75,J 76,J 77,J 78,J 79,J 80,J 81,J 82,J 83,J 84,J 85,J 86,J 87,J 88,J 89,J 90,J 91,J 92,J 93,J 94,J 95,J 96,J 97,J 98,J 99,J 100,J 101,J 102,J 103,J 104,J 105,J 106,J 107,J 108,J 109,J 110,J 111,J 112,J 113,J 114,J 115,J 116,J 117,J 118,J 119,J 120,J 121,J 122,J 123,J 124,J 125,J 126,J 127,J 128,J 129,J 130,J 131,J 132,J 133,J 134,J 135,J 136,J 137,J 138]
theorem abN:(f260.name== "runtime.NumGoroutine")=false:=by kernel_rfl
theorem abO:f260.body.isNone=true:=by kernel_rfl
theorem abP:Extern.findNext f260=none:=by kernel_rfl
theorem abQ:Extern.find f260=some Extern.OsHooks.nano:=by kernel_rfl
theorem abR:(f261.name== "runtime.NumGoroutine")=false:=by kernel_rfl
theorem abS:f261.body.isNone=true:=by kernel_rfl
theorem abT:Extern.findNext f261=none:=by kernel_rfl
theorem abU:Extern.find f261=some Extern.Sync.semacquire:=by kernel_rfl
theorem abV:(f257.name== "runtime.NumGoroutine")=false:=by kernel_rfl
theorem abW:f257.body.isNone=true:=by kernel_rfl
theorem abX:Extern.findNext f257=none:=by kernel_rfl
theorem abY:Extern.find f257=some Extern.Sync.canSpin:=by kernel_rfl
theorem addN:(f248.name== "runtime.NumGoroutine")=false:=by kernel_rfl
theorem JJ:f248.body.isNone=true:=by kernel_rfl
theorem JK:Extern.findNext f248=none:=by kernel_rfl
theorem JL:Extern.find f248=some (Extern.Atomic.update (Op.intArith .add) .i32 true):=by kernel_rfl
theorem abZ:f260.norace=true:=by kernel_rfl
theorem NZ:f247.body.getD .skip=.seq (bZ (f247.body.getD .skip)) (.seq (bZ (aG (f247.body.getD .skip))) (.seq (bZ (aG (aG (f247.body.getD .skip)))) (.seq (bZ (aG (aG (aG (f247.body.getD .skip))))) (.seq (bZ (aG (aG (aG (aG (f247.body.getD .skip)))))) (.seq (.block 0 (.loop aM)) dJ))))):=by kernel_rfl
end
section
variable [Payload] [Zb] {L : Lk} {F : Ph} {old : Wd}
def Head(ty:bf)(F:Ph)(L:Lk)(i:Nat)(Z O:aD)(Fx:au->Prop)(R:List Frame)(M:Nat)(r:Nat):Prop:=
 ∀(T:Array aA)(V:Int)(sv aw:Bool)(it:Int)(old:Wd)(κ:Nat)(w:au),T.size=139->T[0]? =some (.pointer (some L.mu))->T[2]? =some (ah V)->T[3]? =some (.bool sv)->T[4]? =some (.bool aw)->T[5]? =some (ah it)->T[6]? =some (.int .i32 old.int)->
  4-it<=r->0<=it->(aw=true->old.k=true/\old.v=false)->(sv=true->aw=true)->old.n<=131072->KS ty F L O Fx M old κ w->
  bS prog ty F i ⟨.loop aw sv,false,Z,1⟩ κ O (G ((base 247).at ⟨T,[]⟩ [.code aM,.inLoop aM,.inBlock 0,.code dJ]) R) w
def Behind(ty:bf)(F:Ph)(L:Lk)(i:Nat)(Z O:aD)(Fx:au->Prop)(R:List Frame):Prop:=∀(T:Array aA)(κ:Nat)(w:au),T.size=139->T[0]? =some (.pointer (some L.mu))->KQ ty F L O Fx w->bS prog ty F i ⟨.hold,false,Z,1⟩ κ O (G ((base 247).at ⟨T,[]⟩ [.code dJ]) R) w
theorem YT:(f173.name== "runtime.NumGoroutine")=false:=by kernel_rfl
theorem YU:f173.body.isNone=true:=by kernel_rfl
theorem YV:Extern.findNext f173=none:=by kernel_rfl
theorem YW:Extern.find f173=some (λ_=>do mark .enable;pure Extern.Race.none_):=by kernel_rfl
theorem ab0:(f171.name== "runtime.NumGoroutine")=false:=by kernel_rfl
theorem ab1:f171.body.isNone=true:=by kernel_rfl
theorem ab2:Extern.findNext f171=none:=by kernel_rfl
theorem ab3:Extern.find f171=some (λ_=>do mark .disable;pure Extern.Race.none_):=by kernel_rfl
theorem LM:(f174.name== "runtime.NumGoroutine")=false:=by kernel_rfl
theorem LP:f174.body.isNone=true:=by kernel_rfl
theorem LQ:Extern.findNext f174=none:=by kernel_rfl
theorem LU:Extern.find f174=some (Extern.Race.marked .acquire):=by kernel_rfl
noncomputable def TB(L:Lk)(J:Nat->aA):Array aA:=#[.pointer (some L.mu),J 1,J 2,J 3,J 4,J 5,J 6,J 7,J 8,J 9,J 10,J 11,J 12,J 13,J 14,J 15,J 16,J 17,J 18,J 19,J 20,J 21,J 22,J 23,J 24,J 25,J 26,J 27,J 28,J 29,J 30,J 31,J 32,J 33,J 34,J 35,J 36,J 37,J 38,J 39,J 40,J 41,J 42,J 43,J 44,J 45,J 46,J 47,J 48,J 49,J 50,J 51,J 52,J 53,J 54,J 55,J 56,J 57,J 58,J 59,J 60,J 61,J 62,J 63,J 64,J 65,J 66,J 67,J 68,J 69,J 70,J 71,J 72,J 73,J 74,J 75,J 76,J 77,J 78,J 79,J 80,J 81,J 82,J 83,J 84,J 85,J 86,J 87,J 88,J 89,J 90,J 91,J 92,J 93,J 94,J 95,J 96,J 97,J 98,J 99,J 100,J 101,J 102,J 103,J 104,J 105,J 106,J 107,J 108,J 109,J 110,J 111,J 112,J 113,J 114,J 115,J 116,J 117,J 118,J 119,J 120,J 121,J 122,J 123,J 124,J 125,J 126,J 127,J 128,J 129,J 130,J 131,J 132,J 133,J 134,J 135,J 136,J 137,J 138]
theorem VB(L:Lk)(J:Nat->aA):(TB L J).toList=(List.range 139).map λk=>if k=0 then .pointer (some L.mu)else J k:=by rfl
theorem YX(s:T.size=139)(h:T[0]? =some (.pointer (some L.mu))):T=TB L (λk=>(T[k]?).getD ak):=by
 apply Array.ext';rw[VB];apply List.ext_getElem?;intro k;rw[List.getElem?_map];obtain hk|hk:=jY k 139
 .rw[List.getElem?_range hk,gq,jE];by_cases e:k=0
  .rw[aI e,e,h]
  rw[av e,iU Q0];rfl
 .rw[jE,Array.getElem?_eq_none Q0,vH V5];rfl
theorem JM{ty:bf}(j:F.lk=some L)(hst:FC F (λ_=>False) O Fx)(z:∀b,O b\/F.Sh b\/False\/b=F.Wg\/b=F.C->b≠L.B)(q:∀f u g Z,KH ty F L O g Z Fx u->bS prog ty F i ⟨.hold,true,Z,0⟩ f (λb=>O b\/g b) (G (Zvbq75.at (Zvaq75.put ((I[Zviq75]?).bind (·.dst)) (.tuple #[])) (aT I h::Zvkq75)) R) u):Behind ty F L i (λ_=>False) O Fx (Zvbq75.at Zvaq75 (aT I (Zviq75::h)::Zvkq75)::R):=by
 intro T f w x o a;obtain⟨J,rfl⟩:∃J,T=TB L J:=⟨_,YX x o⟩;simp only[dJ,TB,gX,aG,f247,fq];have c:=kF (i:=i) (γ:=⟨.hold,false,λ_=>False,1⟩) (ty:=ty) j hst;refine c.run (g':=?_) a ?_;clear a;intro f u a;refine bS.en rfl rfl λy u r=>⟨_,stepG_mark0 .enable X0 rfl rfl Y0 rfl func173 YT YU YV YW,?_⟩;replace a:=c.rely _ _ _ _ a r;clear r c
 walk_nrm
 have c:=kF (i:=i) (γ:=⟨.hold,false,λ_=>False,0⟩) (ty:=ty) j hst;refine c.run (g':=?_) a ?_;clear a;intro f u a;refine c.step a rfl ?_;clear a;intro f u a;obtain⟨W,A,M⟩:=a.mu;refine goes_oper_k rfl rfl Y0 (λK n=>?_);have l:=run_convert_to_unsafe (P:=prog) underlying297 underlying229 muLib.room_tIMutex M.mu;have k:=λs=>events_convert_to_unsafe (P:=prog) underlying297 underlying229 muLib.room_tIMutex M.mu s;go_simp;refine n _ _ ⟨Z0,?_,?_⟩
 .intro e p;have v:=mem_listed p;simp[go_sem, *]at v
 clear n K l k M;refine c.run (g':=?_) a ?_;clear a;intro f u a;refine bS.acq j hst a rfl rfl rfl rfl (λf u g Z m=>⟨_,stepG_markAt .acquire X0 rfl rfl Y0 rfl func174 LM LP LQ LU (ad:=L.mu) O1,?_⟩) (λu=>⟨_,stepG_markAt .acquire X0 rfl rfl Y0 rfl func174 LM LP LQ LU (ad:=L.mu) O1⟩);clear a c;have a:=m;clear m;have c:=UQ (i:=i) (T:=.hold) (d:=0) (G:=g) (ty:=ty) j (hst.any Z)
 walk_nrm
 have hlv:=func247;refine c.run (g':=?_) a ?_;clear a;intro f u a;clear hlv;exact q _ _ _ _ a
theorem YZ:(f169.name== "runtime.NumGoroutine")=false:=by kernel_rfl
theorem Y7:(f119.name== "runtime.NumGoroutine")=false:=by kernel_rfl
theorem Y8:(f170.name== "runtime.NumGoroutine")=false:=by kernel_rfl
theorem ab4:(f167.name== "runtime.NumGoroutine")=false:=by kernel_rfl
theorem Eu{w:au}{n:Func}{t:Tmp}{x:Array aA}{args:Array Operand}(b:o.op=.call {callee:=.value (.tmp t),args,argTypes:=ats})(v:a.eval (.tmp t)=.func (.func f) x y)
 (e:P.funcs[f]? =some n)(h:(n.name== "runtime.NumGoroutine")=false)(g:n.body.isNone=false):(execOp a.eval o).run P w=.ok (.enter f (x++args.map a.eval++y)) w/\(execOp a.eval o).events P w #[]=#[]:=by
 have c:¬n.name= "runtime.NumGoroutine" :=by simpa using h
 have d:¬n.body=none:=by cases i:n.body<;>simp_all
 unfold execOp;constructor<;>simp[b,resolve,Deferred.ofValue,invoke,callFunc,e,c,d,v]
theorem G8{w:au}{d:Func}{t:Tmp}{x:Array aA}{args:Array Operand}
 (s:p[i]? =some o)(hw:Region.wanted o (yielded p a.tmps)=true)(r:b.kind≠ .early)(g:o.op=.call {callee:=.value (.tmp t),args,argTypes:=ats})(v:a.eval (.tmp t)=.func (.func f) x y)(u:x++args.map a.eval++y=z)
 (l:P.funcs[f]? =some d)(n:(d.name== "runtime.NumGoroutine")=false)(j:d.body=some c)
 (h:K (G ((base f).at {tmps:=z++Array.replicate (d.ntmps-z.size) ak,defers:=[]} [.code c]) (b.at a (aT p (i::C)::k)::R)) w #[]):
 (stepG P mn (G (b.at a (aT p (i::C)::k)) R) w).goes K:=by
 subst u;have e:d.body.isNone=false:=by rw[j];rfl
 obtain⟨m,q⟩:=Eu (P:=P) (w:=w) g v l n e;rw[stepG_enter s hw r m,enter_at _ l j];have:listed P b.fn a o w=#[]:=by unfold listed;rw[q];exact seen_none P _
 rw[this];exact h
theorem G9{w:au}{t:Tmp}{x:Array aA}(j:p[i]? =some o)(hw:Region.wanted o (yielded p a.tmps)=true)(n:b.kind≠ .early)
 (d:o.op=.defer {callee:=.value (.tmp t),args:=#[],argTypes:=ats})(v:a.eval (.tmp t)=.func (.func f) x y)
 (h:K (G (b.at {(a.put o.dst ak)with defers:={target:=.fn (.func f) y,args:=x}::a.defers} (aT p C::k)) R) w #[]):(stepG P mn (G (b.at a (aT p (i::C)::k)) R) w).goes K:=by
 have r:(execOp a.eval o).run P w=.ok (.defer {target:=.fn (.func f) y,args:=x}) w:=by unfold execOp;simp[d,resolve,Deferred.ofValue,v]
 have m:(execOp a.eval o).events P w #[]=#[]:=by unfold execOp;simp[d,resolve,Deferred.ofValue,v]
 have c:({b.at a (aT p (i::C)::k)with defers:={target:=.fn (.func f) y,args:=x}::a.defers}:Frame).finish ak=b.at {(a.put o.dst ak)with defers:={target:=.fn (.func f) y,args:=x}::a.defers} (aT p C::k):=by have e:({b.at a (aT p (i::C)::k)with defers:={target:=.fn (.func f) y,args:=x}::a.defers}:Frame)=b.at ⟨a.tmps,{target:=.fn (.func f) y,args:=x}::a.defers⟩ (aT p (i::C)::k):=rfl;rw[e,Frame.finish_at,j];cases l:o.dst<;>simp[Act.put,l]
 have g:(b.kind==CallKind.early)=false:=by simpa using n
 rw[stepG_oper j hw];have:stepG.apply P true (b.at a (aT p (i::C)::k)) R none (execOp a.eval o) w=.go (G (b.at {(a.put o.dst ak)with defers:={target:=.fn (.func f) y,args:=x}::a.defers} (aT p C::k)) R) w #[]:=by rw[<-c];simp[stepG.apply,r,m,G,Frame.at,g,GStep.after,seen_none]
 rw[this];exact h
noncomputable def yY:Frame:={(default:Frame)with fn:=prog.funcs.size,defers:=[],mode:=.panicking [goexitEntry]}
def rO(wp fc:Nat):Deferred:={target:=.fn (.func 168) #[aJ wp 0,aJ fc 0],args:=#[]}
theorem N8(wp fc:Nat)(w:au):stepG prog false (born prog (rO wp fc)) w=.go (G ((baseD 168).at ⟨#[aJ wp 0,aJ fc 0,ak,ak,ak],[]⟩ [.code (f168.body.getD .skip)]) [yY]) w #[]:=by simp[born,rO,stepG,unwind,callDeferred,invoke,callFunc,func168,f168,seen,GStep.after,G,Frame.enter,Frame.at,baseD,yY]
structure WF(Wg wp fc sc wc i:Nat)(f:FuncId)(y:Array aA)(w:au):Prop where
 wp:w.cell? (aB wp 0)=some (aJ Wg 0)
 fc:w.cell? (aB fc 0)=some (.func (.func 119) #[] #[aJ wc 0,aJ sc 0])
 sc:w.cell? (aB sc 0)=some (ah i)
 wc:w.cell? (aB wc 0)=some (.func (.func f) #[] y)
noncomputable def Da(wp fc sc wc:Nat):Frame:=(baseD 168).at ⟨#[aJ wp 0,aJ fc 0,.func (.func 169) #[] #[aJ wp 0],.func (.func 119) #[] #[aJ wc 0,aJ sc 0],ak],[{target:=.fn (.func 169) #[aJ wp 0],args:=#[]}]⟩ (match f168.body with|some (.seq _ (.region _ p _))=>[.inRegion p [1]]|_=>[])
noncomputable def Ev:Array Oper:=match f119.body with|some (.region _ p _)=>p|_=>#[]
def LV(sc wc i:Nat)(f:FuncId)(y:Array aA):Array aA:=#[aJ wc 0,aJ sc 0,.func (.func f) #[] y,ah i,ak]
noncomputable def LW(sc wc i:Nat)(f:FuncId)(y:Array aA):Frame:=(base 119).at ⟨LV sc wc i f y,[]⟩ [.inRegion Ev [2]]
theorem N9{H:aD}{k:Func}(s:StW F H Fx)(x:∀w,Fx w->WF F.Wg wp fc sc wc i f y w)(o:H wp/\H fc/\H sc)(r:F.Sh wc)(q:prog.funcs[f]? =some k)(n:(k.name== "runtime.NumGoroutine")=false)(p:k.body=some c)
 (l:∀w,KW jH.tWg F i H Fx w->bM prog false F.Sh (KZ jH.tWg F i) Rj H (G ((base f).at {tmps:=(#[ah i]++y)++Array.replicate (k.ntmps-(#[ah i]++y).size) ak,defers:=[]} [.code c]) [LW sc wc i f y,Da wp fc sc wc,yY]) w)
 (w:au)(b:KW jH.tWg F i H Fx w):bM prog false F.Sh (KZ jH.tWg F i) Rj H (born prog (rO wp fc)) w:=by
 simp only[Da,LW,Ev,LV,f168,f119]at l
 (refine bM.goes b.bd aZ rfl (λu h a=>?_);replace b:=b.rely s h a;clear h a;rw[N8];simp only[goes_go];refine⟨Z0,by intro e d;simp at d,?_⟩)
 simp only[f168,fq]
 (refine bM.goes b.bd aZ rfl (λu h a=>?_);replace b:=b.rely s h a;clear h a;rw[stepG_seq];simp only[goes_go];refine⟨Z0,by intro e d;simp at d,?_⟩)
 (refine bM.goes b.bd aZ rfl (λu h a=>?_);replace b:=b.rely s h a;clear h a;rw[stepG_region];simp only[goes_go,List.size_toArray,List.length_cons,List.length_nil,Nat.reduceAdd,eu,List.range,List.range.loop];refine⟨Z0,by intro e d;simp at d,?_⟩)
 (refine bM.goes b.bd aZ rfl (λu h a=>?_);replace b:=b.rely s h a;clear h a
  refine goes_oper_k rfl rfl Y0 (λK g=>?_);go_simp;refine g _ _ ⟨Z0,?_,?_⟩
  .intro e d;have m:=mem_listed d;simp[go_sem,Instr.makeFunc, *]at m
  clear g K)
 (refine bM.goes b.bd aZ rfl (λu h a=>?_);replace b:=b.rely s h a;clear h a;refine G9 rfl rfl Y0 rfl rfl ⟨Z0,by intro e d;simp at d,?_⟩;walk_nrm)
 (refine bM.goes b.bd aZ rfl (λu h a=>?_);replace b:=b.rely s h a;clear h a;rw[stepG_region_end];simp only[goes_go];refine⟨Z0,by intro e d;simp at d,?_⟩)
 (refine bM.goes b.bd aZ rfl (λu h a=>?_);replace b:=b.rely s h a;clear h a;rw[stepG_region];simp only[goes_go,List.size_toArray,List.length_cons,List.length_nil,Nat.reduceAdd,eu,List.range,List.range.loop];refine⟨Z0,by intro e d;simp at d,?_⟩)
 (refine bM.goes b.bd aZ rfl (λu h a=>?_);replace b:=b.rely s h a;clear h a
  refine goes_oper_k rfl rfl Y0 (λK g=>?_);have j:=(x _ b.fx).fc;go_simp;refine g _ _ ⟨Z0,?_,?_⟩
  .intro e d;have m:=mem_listed d;simp[go_sem, *]at m;subst m;exact⟨rfl,.inl o.2.1⟩
  clear g K j)
 (refine bM.goes b.bd aZ rfl (λu h a=>?_);replace b:=b.rely s h a;clear h a;refine G8 rfl rfl Y0 rfl rfl (z:=#[aJ wc 0,aJ sc 0]) X0 func119 Y7 rfl ⟨Z0,by intro e d;simp at d,?_⟩;walk_nrmf f119)
 (refine bM.goes b.bd aZ rfl (λu h a=>?_);replace b:=b.rely s h a;clear h a;rw[stepG_region];simp only[goes_go,List.size_toArray,List.length_cons,List.length_nil,Nat.reduceAdd,eu,List.range,List.range.loop];refine⟨Z0,by intro e d;simp at d,?_⟩)
 (refine bM.goes b.bd aZ rfl (λu h a=>?_);replace b:=b.rely s h a;clear h a
  refine goes_oper_k rfl rfl Y0 (λK g=>?_);have j:=(x _ b.fx).wc;go_simp;refine g _ _ ⟨Z0,?_,?_⟩
  .intro e d;have m:=mem_listed d;simp[go_sem, *]at m;subst m;exact⟨rfl,.inr ⟨r,rfl⟩⟩
  clear g K j)
 (refine bM.goes b.bd aZ rfl (λu h a=>?_);replace b:=b.rely s h a;clear h a
  refine goes_oper_k rfl rfl Y0 (λK g=>?_);have j:=(x _ b.fx).sc;go_simp;refine g _ _ ⟨Z0,?_,?_⟩
  .intro e d;have m:=mem_listed d;simp[go_sem, *]at m;subst m;exact⟨rfl,.inl o.2.2⟩
  clear g K j)
 (refine bM.goes b.bd aZ rfl (λu h a=>?_);replace b:=b.rely s h a;clear h a;refine G8 rfl rfl Y0 rfl rfl (z:=#[ah i]++y) I5 q n p ⟨Z0,by intro e d;simp at d,?_⟩)
 exact l _ b
theorem qJ{w:au}{d:Func}{args:Array aA}(k:a.defers={target:=.fn (.func f) y,args}::ds)(l:args++y=z)(i:P.funcs[f]? =some d)(n:(d.name== "runtime.NumGoroutine")=false)(g:d.body=some c)
 (h:K (G ((baseD f).at {tmps:=z++Array.replicate (d.ntmps-z.size) ak,defers:=[]} [.code c]) ({b.at ⟨a.tmps,ds⟩ Et with mode:=.returning}::R)) w #[]):(stepG P mn (G {b.at a Et with mode:=.returning} R) w).goes K:=by
 have j:¬d.name= "runtime.NumGoroutine" :=by simpa using n
 have e:stepG P mn (G {b.at a Et with mode:=.returning} R) w=.go (G ((baseD f).at {tmps:=z++Array.replicate (d.ntmps-z.size) ak,defers:=[]} [.code c]) ({b.at ⟨a.tmps,ds⟩ Et with mode:=.returning}::R)) w #[]:=by rw[<-enter_atD z i g];subst l;simp[G,stepG,unwind,callDeferred,Frame.at,k,invoke,callFunc,i,j,g,GStep.after,seen_none]
 rw[e];exact h
theorem Ew{w:au}{c:Frame}(j:p[i]? =some o)(hw:Region.wanted o (yielded p a.tmps)=true)(g:b.kind=.deferred)
 (d:o.op=.call {callee:=.builtin .recover,args:=#[],argTypes:=ats})(hc:c.mode=.returning)
 (h:K (G (b.at (a.put o.dst .nilIface) (aT p C::k)) (c::R)) w #[]):(stepG P mn (G (b.at a (aT p (i::C)::k)) (c::R)) w).goes K:=by
 have m:(execOp a.eval o).run P w=.ok .recover w:=by unfold execOp;simp[d,resolve,invoke,go_sem]
 have l:(execOp a.eval o).events P w #[]=#[]:=by unfold execOp;simp[d,resolve,invoke,go_sem]
 have f:(b.at a (aT p (i::C)::k)).finish .nilIface=b.at (a.put o.dst .nilIface) (aT p C::k):=by rw[Frame.finish_at,j];rfl
 have e:tryRecover (b.at a (aT p (i::C)::k)) (c::R)=none:=by unfold tryRecover;simp[Frame.at,g,hc]
 have:stepG P mn (G (b.at a (aT p (i::C)::k)) (c::R)) w=.go (G (b.at (a.put o.dst .nilIface) (aT p C::k)) (c::R)) w #[]:=by rw[stepG_oper j hw,<-f];have r:(b.at a (aT p (i::C)::k)).roundOf=none:=rfl;simp only[stepG.apply,Sem.runT_eq,m,l,r,e,if_true];simp[G,Frame.at,g,GStep.after,seen_none]
 rw[this];exact h
theorem Ro(w:au)(e:Array Event):(binOp .neq 20 .nilIface .nilIface).events prog w e=e:=by simp[binOp,Op.equal,go_sem];rw[show Op.maxDepth=(Op.maxDepth-1)+1 from rfl,Op.equalIn];simp[go_sem]
theorem Y9(t:Array aA)(w:au):stepG prog false (G {(baseD 168).at ⟨t,[]⟩ []with mode:=.returning} [yY]) w=.go (G yY []) w #[]:=by simp[G,stepG,unwind,doReturn,Frame.at,baseD,func168,f168,results,yY,seen,GStep.after,goexitEntry]
theorem Za:∃g:dN,g.status=.finished/\∀w,stepG prog false (G yY []) w=.go g w #[]:=by refine⟨{G yY []with status:=.finished},rfl,λw=>?_⟩;have h:(default:Frame).todo=[]:=rfl;simp[G,stepG,unwind,yY,goexitEntry,Frame.catches,h]
structure KO(F:Ph)(i wp:Nat)(O:aD)(v:aA)(w:au):Prop where
 bd:∀b,O b->b<w.heap.size
 live:WgLive jH.tWg F.Wg w
 pay:PayAt F.C F.n w
 wpc:w.cell? (aB wp 0)=some (aJ F.Wg 0)
 has:Has F.C i v w
 res:F.Gt i O v w
 own:O wp
theorem KO.rely{w u:au}(h:KO F i wp O v w)(r:bB F.Sh O w u)(a:(KZ jH.tWg F i).rely w u):KO F i wp O v u:=by have a:RW jH.tWg F.Wg F.C F.n 0 i w u:=a;exact⟨λb c=>bG (h.bd b c) r.size,a.live h.live,a.pay h.pay,(cell_of_block (r.keep _ (.inl h.own)) 0).trans h.wpc,a.cell.trans h.has,F.iG _ _ _ _ _ r h.res,h.own⟩
theorem JN(w:au)(c:KO F i wp O v w):
 bM prog false F.Sh (KZ jH.tWg F i) (Jk prog jH.tWg F i) O (G ((base 119).at ((⟨LV sc wc i f y,[]⟩:Act).put (some 4) (.tuple #[])) [.inRegion Ev []]) [Da wp fc sc wc,yY]) w:=by
 simp only[Da,Ev,LV,f168,f119,Act.put]
 (refine bM.goes c.bd aZ rfl (λu a b=>?_);replace c:=c.rely a b;clear a b;rw[stepG_region_end];simp only[goes_go];refine⟨Z0,by intro e d;simp at d,?_⟩)
 (refine bM.goes c.bd aZ rfl (λu a b=>?_);replace c:=c.rely a b;clear a b;rw[stepG_end];simp only[goes_go];refine⟨Z0,by intro e d;simp at d,?_⟩)
 (refine bM.goes c.bd aZ rfl (λu a b=>?_);replace c:=c.rely a b;clear a b;refine goes_leave0 rfl rfl func119 rfl ⟨Z0,by intro e d;simp at d,?_⟩;walk_nrm)
 (refine bM.goes c.bd aZ rfl (λu a b=>?_);replace c:=c.rely a b;clear a b;rw[stepG_region_end];simp only[goes_go];refine⟨Z0,by intro e d;simp at d,?_⟩)
 (refine bM.goes c.bd aZ rfl (λu a b=>?_);replace c:=c.rely a b;clear a b;rw[stepG_end];simp only[goes_go];refine⟨Z0,by intro e d;simp at d,?_⟩)
 (refine bM.goes c.bd aZ rfl (λu a b=>?_);replace c:=c.rely a b;clear a b;refine qJ rfl (z:=#[aJ wp 0]) X0 func169 YZ rfl ⟨Z0,by intro e d;simp at d,?_⟩;walk_nrmf f169)
 (refine bM.goes c.bd aZ rfl (λu a b=>?_);replace c:=c.rely a b;clear a b;rw[stepG_seq];simp only[goes_go];refine⟨Z0,by intro e d;simp at d,?_⟩)
 (refine bM.goes c.bd aZ rfl (λu a b=>?_);replace c:=c.rely a b;clear a b;rw[stepG_seq];simp only[goes_go];refine⟨Z0,by intro e d;simp at d,?_⟩)
 (refine bM.goes c.bd aZ rfl (λu a b=>?_);replace c:=c.rely a b;clear a b;rw[stepG_region];simp only[goes_go,List.size_toArray,List.length_cons,List.length_nil,Nat.reduceAdd,eu,List.range,List.range.loop];refine⟨Z0,by intro e d;simp at d,?_⟩)
 (refine bM.goes c.bd aZ rfl (λu a b=>?_);replace c:=c.rely a b;clear a b;refine Ew rfl rfl rfl rfl rfl ⟨Z0,by intro e d;simp at d,?_⟩;walk_nrm)
 (refine bM.goes c.bd aZ rfl (λu a b=>?_);replace c:=c.rely a b;clear a b
  refine goes_oper_k rfl rfl Y0 (λK g=>?_);go_simp;refine g _ _ ⟨Z0,?_,?_⟩
  .intro e d;have m:=mem_listed d;simp[go_sem, *]at m
  clear g K)
 (refine bM.goes c.bd aZ rfl (λu a b=>?_);replace c:=c.rely a b;clear a b;rw[stepG_region_end];simp only[goes_go];refine⟨Z0,by intro e d;simp at d,?_⟩)
 (refine bM.goes c.bd aZ rfl (λu a b=>?_);replace c:=c.rely a b;clear a b;rw[stepG_seq];simp only[goes_go];refine⟨Z0,by intro e d;simp at d,?_⟩)
 (refine bM.goes c.bd aZ rfl (λu a b=>?_);replace c:=c.rely a b;clear a b;rw[stepG_region];simp only[goes_go,List.size_toArray,List.length_cons,List.length_nil,Nat.reduceAdd,eu,List.range,List.range.loop];refine⟨Z0,by intro e d;simp at d,?_⟩)
 (refine bM.goes c.bd aZ rfl (λu a b=>?_);replace c:=c.rely a b;clear a b
  refine goes_oper_k rfl rfl Y0 (λK g=>?_);go_simp;refine g _ _ ⟨Z0,?_,?_⟩
  .intro e d;have m:=mem_listed d;simp[go_sem, *]at m
  clear g K)
 (refine bM.goes c.bd aZ rfl (λu a b=>?_);replace c:=c.rely a b;clear a b
  refine goes_oper_k rfl rfl Y0 (λK g=>?_);go_simp;refine g _ _ ⟨Z0,?_,?_⟩
  .intro e d;have m:=mem_listed d;simp[go_sem, *]at m;rw[Ro]at m;simp at m
  clear g K)
 (refine bM.goes c.bd aZ rfl (λu a b=>?_);replace c:=c.rely a b;clear a b;rw[stepG_region_end];simp only[goes_go];refine⟨Z0,by intro e d;simp at d,?_⟩)
 (refine bM.goes c.bd aZ rfl (λu a b=>?_);replace c:=c.rely a b;clear a b;rw[stepG_cond (t:=false) rfl];simp only[goes_go,if_true,if_false,gU,↓reduceIte];refine⟨Z0,by intro e d;simp at d,?_⟩)
 (refine bM.goes c.bd aZ rfl (λu a b=>?_);replace c:=c.rely a b;clear a b;rw[stepG_skip];simp only[goes_go];refine⟨Z0,by intro e d;simp at d,?_⟩)
 (refine bM.goes c.bd aZ rfl (λu a b=>?_);replace c:=c.rely a b;clear a b;rw[stepG_region];simp only[goes_go,List.size_toArray,List.length_cons,List.length_nil,Nat.reduceAdd,eu,List.range,List.range.loop];refine⟨Z0,by intro e d;simp at d,?_⟩)
 (refine bM.goes c.bd aZ rfl (λu a b=>?_);replace c:=c.rely a b;clear a b
  refine goes_oper_k rfl rfl Y0 (λK g=>?_);have n:=c.wpc;go_simp;refine g _ _ ⟨Z0,?_,?_⟩
  .intro e d;have m:=mem_listed d;simp[go_sem, *]at m;subst m;exact⟨rfl,.inl c.own⟩
  clear g K n)
 (refine bM.goes c.bd aZ rfl (λu a b=>?_);replace c:=c.rely a b;clear a b;refine goes_call rfl rfl Y0 rfl func170 Y8 rfl ⟨Z0,by intro e d;simp at d,?_⟩;walk_nrmf f170)
 (refine bM.goes c.bd aZ rfl (λu a b=>?_);replace c:=c.rely a b;clear a b;rw[stepG_region];simp only[goes_go,List.size_toArray,List.length_cons,List.length_nil,Nat.reduceAdd,eu,List.range,List.range.loop];refine⟨Z0,by intro e d;simp at d,?_⟩)
 (refine bM.goes c.bd aZ rfl (λu a b=>?_);replace c:=c.rely a b;clear a b
  refine goes_oper_k rfl rfl Y0 (λK g=>?_);go_simp;refine g _ _ ⟨Z0,?_,?_⟩
  .intro e d;have m:=mem_listed d;simp[go_sem, *]at m
  clear g K)
 (refine bM.goes c.bd aZ rfl (λu a b=>?_);replace c:=c.rely a b;clear a b;refine goes_call rfl rfl Y0 rfl func167 ab4 rfl ⟨Z0,by intro e d;simp at d,?_⟩)
 obtain⟨o,l,k⟩:=Za;have j:=@aey _ _ prog F i O u jH Fp F.Sh (λ_ h=>h) v;simp only[body_add,addFn,fq]at j
 walk_nrmf f167
 refine j (D:=9) ?_ ⟨⟨c.has,c.res⟩,c.live,c.pay,c.bd⟩
 walk_nrm
 refine QuitsD.ctl rfl (λ_=>stepG_region_end) ?_;refine QuitsD.ctl rfl (λ_=>stepG_end) ?_;refine QuitsD.leave0 rfl rfl func170 rfl ?_
 walk_nrm
 refine QuitsD.ctl rfl (λ_=>stepG_region_end) ?_;refine QuitsD.ctl rfl (λ_=>stepG_end) ?_;refine QuitsD.leaveD rfl rfl func169 rfl rfl ?_;refine QuitsD.ctl rfl (λw=>Y9 _ w) ?_;refine QuitsD.ctl rfl (λw=>k w) ?_;exact .inl ⟨l,rfl⟩
def wT(k m:Nat)(t:Nat->Bool)(Z:aD)(v:aA)(w:au):Prop:=∃P,gT k m t P/\w.ownsRow 0 272 2 v (dD k m t P).length (bW (dD k m t P))/\∀g,v.ownBlock=some g->Z g
theorem wT.keep{k:Nat}{Z e:aD}{w u:au}(h:wT k m t Z v w)(z:∀b,Z b->e b)(o:∀b,Z b->u.heap[b]? =w.heap[b]?):wT k m t e v u:=by obtain⟨P,i,⟨j,l⟩,f⟩:=h;refine⟨P,i,⟨j,l.imp id ?_⟩,λg n=>z g (f g n)⟩;rintro⟨g,d,cur,rfl,a,b,c⟩;exact⟨g,d,cur,rfl,a,(o g (f g rfl)).trans b,c⟩
def Zc(k m B e:Nat)(X:Nat->Option aA)(Gd Z:aD)(w:au):Prop:=∃r,w.cell? (aB B (e+2))=some (.map r)/\(∀mb,r=some mb->Gd mb/\∃es cl,w.heap[mb]? =some (.map es cl)/\∀en∈es.toList,∃t',en.key=.agg (dA k m t')/\wT k m t' Z en.val w)/\∀j,j≠e->j≠e+1->j≠e+2->w.cell? (aB B j)=X j
def gI(k m B e:Nat)(X:Nat->Option aA):Lk where
 B:=B
 e:=e
 ty:=if e=0 then 114 else 116
 J:=Zc k m B e X
 iG:=by
  rintro G Z w u hk hc ⟨r,h1,h2,hX⟩
  refine⟨r,(hc (e+2) Q0 Q0).trans h1,λmb hm=>?_,λj a b c=>(hc j a b).trans (hX j a b c)⟩
  obtain⟨g,es,cl,h3,h4⟩:=h2 mb hm
  refine⟨g,es,cl,(hk mb (.inl g)).trans h3,λen he=>?_⟩
  obtain⟨t',h5,h6⟩:=h4 en he
  exact⟨t',h5,h6.keep (λ_ h=>h) λb hb=>hk b (.inr hb)⟩
def SP:List Nat:=[223,236,237,238,239,240,241,250,251,252,253,254,139,141,185]
abbrev qN:aD:=λf=>SP.contains f=true
theorem JO:fH qN prog:=Av SP M0 M0
theorem BR(L:List (Nat×Nat)):∀x∈bW L,Num x:=by intro x h;simp only[bW,List.mem_flatMap,lS,List.not_mem_nil,or_false]at h;obtain⟨p,_,rfl|rfl⟩:=h<;>exact .int _ _
theorem VD(k m:Nat)(t:Nat->Bool):∀x∈dA k m t,Num x:=by intro c h;simp[dA]at h;obtain rfl|rfl|rfl|rfl|rfl|rfl|rfl|rfl|rfl|rfl|rfl|rfl|rfl|rfl:=h<;>first|exact .int _ _|exact .bool _
theorem Rq:f223.body=some (f223.body.getD .skip):=rfl
theorem Ey(p:Zb.z=prog.globals.size)(k m:Nat)(t:Nat->Bool)(K:0<k)(y:k+m<=12)(n:(aV t (k+m)).length=k)(u:au)(Z:∃c e z,u.heap[Zb.z]? =some (.cells c e z))(c:Frame)(R:List Frame):
 iK prog false (λb=>b=Zb.z) (λO g i=>∃v,g=G (c.finish v) R/\wT k m t O v i) (λ_=>False)
  (G ((base 223).at {tmps:=#[.agg (dA k m t)]++Array.replicate (f223.ntmps-1) ak,defers:=[]} [.code (f223.body.getD .skip)]) (c::R)) u:=by
 have E:bI qN (jv (λ_=>False) (λb=>b=Zb.z) prog.globals.size p.symm) _ u:=wP (λb j=>by rw[j];exact Z) nofun;generalize B:nR qN (jv (λ_=>False) (λb=>b=Zb.z) prog.globals.size p.symm) (λb=>b=Zb.z) u=wl at E;have M:Zb.z<wl.heap.size:=by obtain⟨c,e,z,h⟩:=Z;rw[<-B,qy];exact(bJ.1 h).1
 have J:bq qN (jv (λ_=>False) (λb=>b=Zb.z) prog.globals.size p.symm) #[.agg (dA k m t)] #[.agg (dA k m t)]:=bq.nil.push (v:=.agg (dA k m t)) (.agg rfl (AY (VD k m t)).2);have a:∀C d,Calls prog 223 #[.agg (dA k m t)] (tp wl C d) (λe i=>∃v,e=.returned v/\∃P,gT k m t P/\i.ownsRow wl.heap.size 272 2 v (dD k m t P).length (bW (dD k m t P))):=by intro C d;refine Calls.mono (zQ k m t (tp wl C d) K y n) ?_;rintro e i ⟨v,P,rfl,q,r,_⟩;exact⟨v,rfl,P,q,r⟩
 have l:=sI (S:=qN) JO (Q:=λv i=>∃P,gT k m t P/\i.ownsRow wl.heap.size 272 2 v (dD k m t P).length (bW (dD k m t P))) (λv w t d h=>h) (f:=223) U0 (π:=jv (λ_=>False) (λb=>b=Zb.z) prog.globals.size p.symm) rfl a J E false c R;rw[enter_at _ func223 Rq,sO]at l;refine l.then ?_;rintro O g i ⟨V,v,F,w,s,A,rfl,T,x,P,I,o⟩;refine .stop λU N=>?_;have j:∀g,wl.heap.size<=g->¬V.sh g:=λg D L=>by have:g=Zb.z:=(A.sh g).2 L;omega
 obtain⟨q,r⟩:=x.ownsRow o T (BR _) j;have H:wT k m t O F i:=⟨P,I,q,λg D=>(s g).2 (r g D)⟩;exact⟨F,rfl,H.keep (λ_ h=>h) λb j=>N.keep b (.inl j)⟩
theorem qD{w:au}{e:Func}{args:Array Operand}
 (r:p[i]? =some o)(hw:Region.wanted o (yielded p a.tmps)=true)(m:b.kind≠ .early)(g:o.op=.call {callee:=.value (.func f),args,argTypes:=ats})(s:args.map a.eval=z)(q:z.size=n)
 (l:P.funcs[f]? =some e)(d:(e.name== "runtime.NumGoroutine")=false)(j:e.body=some c)
 (h:K (G ((base f).at {tmps:=z++Array.replicate (e.ntmps-n) ak,defers:=[]} [.code c]) (b.at a (aT p (i::C)::k)::R)) w #[]):
 (stepG P mn (G (b.at a (aT p (i::C)::k)) R) w).goes K:=by
 subst s q;exact goes_call r hw m g l d j h
theorem He{w:au}{args:Array Operand}(j:p[i]? =some o)(hw:Region.wanted o (yielded p a.tmps)=true)(n:b.kind≠ .early)
 (d:o.op=.defer {callee:=.value (.func f),args,argTypes:=ats})(q:args.map a.eval=z)
 (h:K (G (b.at {(a.put o.dst ak)with defers:={target:=.fn (.func f) #[],args:=z}::a.defers} (aT p C::k)) R) w #[]):(stepG P mn (G (b.at a (aT p (i::C)::k)) R) w).goes K:=by
 subst q;have r:(execOp a.eval o).run P w=.ok (.defer {target:=.fn (.func f) #[],args:=args.map a.eval}) w:=by unfold execOp;simp[d,resolve,Deferred.ofValue,Act.eval]
 have m:(execOp a.eval o).events P w #[]=#[]:=by unfold execOp;simp[d,resolve,Deferred.ofValue,Act.eval]
 have c:({b.at a (aT p (i::C)::k)with defers:={target:=.fn (.func f) #[],args:=args.map a.eval}::a.defers}:Frame).finish ak=b.at {(a.put o.dst ak)with defers:={target:=.fn (.func f) #[],args:=args.map a.eval}::a.defers} (aT p C::k):=by have e:({b.at a (aT p (i::C)::k)with defers:={target:=.fn (.func f) #[],args:=args.map a.eval}::a.defers}:Frame)=b.at ⟨a.tmps,{target:=.fn (.func f) #[],args:=args.map a.eval}::a.defers⟩ (aT p (i::C)::k):=rfl;rw[e,Frame.finish_at,j];cases l:o.dst<;>simp[Act.put,l]
 have g:(b.kind==CallKind.early)=false:=by simpa using n
 rw[stepG_oper j hw];have:stepG.apply P true (b.at a (aT p (i::C)::k)) R none (execOp a.eval o) w=.go (G (b.at {(a.put o.dst ak)with defers:={target:=.fn (.func f) #[],args:=args.map a.eval}::a.defers} (aT p C::k)) R) w #[]:=by rw[<-c];simp[stepG.apply,r,m,G,Frame.at,g,GStep.after,seen_none]
 rw[this];exact h
noncomputable def Hf:Code->Code|.cond _ _ b=>b|c=>c
theorem Rt:aM=.block 1 (.seq (bZ (tX aM)) (.seq (bZ (aG (tX aM))) (.seq (bZ (aG (aG (tX aM)))) (.seq (bZ (aG (aG (aG (tX aM))))) (.seq (bZ (aG (aG (aG (aG (tX aM)))))) (.seq (bZ (aG (aG (aG (aG (aG (tX aM))))))) (.seq (bZ (aG (aG (aG (aG (aG (aG (tX aM)))))))) (.cond (.tmp 80) (.seq (bZ (cnd (aG (aG (aG (aG (aG (aG (aG (tX aM)))))))))) mY) (Hf (aG (aG (aG (aG (aG (aG (aG (tX aM))))))))))))))))):=by kernel_rfl
noncomputable def uV:Code:=aG (tX aM)
noncomputable def rP:Code:=aG (cnd (aG (bZ (tX aM))))
theorem go_eq:uV=.seq (bZ (aG (tX aM))) (.seq (bZ (aG (aG (tX aM)))) (.seq (bZ (aG (aG (aG (tX aM))))) (.seq (bZ (aG (aG (aG (aG (tX aM)))))) (.seq (bZ (aG (aG (aG (aG (aG (tX aM))))))) (.seq (bZ (aG (aG (aG (aG (aG (aG (tX aM)))))))) (.cond (.tmp 80) (.seq (bZ (cnd (aG (aG (aG (aG (aG (aG (aG (tX aM)))))))))) mY) (Hf (aG (aG (aG (aG (aG (aG (aG (tX aM))))))))))))))):=by kernel_rfl
theorem Ru:aM=.block 1 (.seq (.seq (bZ (bZ (tX aM))) (.cond (.tmp 20) (.seq (bZ (cnd (aG (bZ (tX aM))))) rP) (Hf (aG (bZ (tX aM)))))) uV):=by kernel_rfl
theorem aeZ:(f258.name== "runtime.NumGoroutine")=false:=by kernel_rfl
theorem ae0:f258.body.isNone=true:=by kernel_rfl
theorem ae1:Extern.findNext f258=none:=by kernel_rfl
theorem ae2:Extern.find f258=some (λ_=>pure (.tuple #[])):=by kernel_rfl
theorem ae3{y:bf}{Z:aD}(l:F.lk=some L)(hst:FC F Z O Fx)(hO:∀b,O b\/F.Sh b\/Z b\/b=F.Wg\/b=F.C->b≠L.B){r:Nat}(ih:∀j,j<M->Head y F L i Z O Fx R j 4)(K:Head y F L i Z O Fx R M r){a:Code}(hX:X=aM)(hY:Y=dJ)
 (V:Int)(sv aw:Bool)(it:Int)(o1 T:Wd)(n:Nat)(w:au)(h0:0<=it)(h4:it<4)(hr:4-(it+1)<=r)(I:sv=true->aw=true)(f:KS y F L O Fx M T n w)(J:Nat->aA):bS prog y F i ⟨.loop aw sv,false,Z,1⟩ n O (G ((base 247).at ⟨TM L J V sv aw it o1,[]⟩ [.code rP,.code a,.inBlock 1,.inLoop X,.inBlock 0,.code Y]) R) w:=by
 have S:=hst;have hit:IntKind.i64.wrap (it+1)=it+1:=by unfold IntKind.wrap;simp[IntKind.signed,IntKind.bits];omega
 simp only[TM,rP,tX,cnd,aM,gX,aG,bZ,Bc,f247,fq];refine(dZ l hst).run (g':=?_) f ?_;clear f;intro n u f;refine bS.goes f.q.bd rfl (λn u c=>?_);replace f:=f.rely l hst c;clear c;rw[stepG_entry_pure (.tuple #[]) rfl rfl Y0 rfl func258 aeZ ae0 ae1 ae2];simp only[goes_go];refine⟨Z0,by intro e he;simp at he,?_⟩
 walk_nrm
 refine(dZ l hst).run (g':=?_) f ?_;clear f;intro n u f;refine bS.look l rfl rfl rfl (λXt u c W s z E m=>⟨_,u,#[],_,.stay,bV rfl rfl Y0 rfl O1 z.mu gD,.refl u,z,X0,rfl,λd p=>?_⟩);have Q:=(f.rely l hst c).q;have D:d<=M:=bY p (f.rely l hst c).k;clear f c;have m:aw=true->W.k=true/\W.v=false:=λh=>by subst h;exact m
 obtain⟨g,N,x,A,U,o⟩:∃g N,g=d/\4-(it+1)<=((N:Nat):Int)/\Head y F L i Z O Fx R g N/\d<=g:=by
  obtain h|h:=jY d M
  .exact⟨d,4,rfl,Q0,ih d h,aS _⟩
  .exact⟨d,r,rfl,hr,by rw[show d=M by omega];exact K,aS _⟩
 have f:KS y F L O Fx g W d u:=⟨Q,o,λ_=>⟨s,z⟩⟩;clear p x o Q z D
 walk_nrm
 refine(dZ l hst).run (g':=?_) f ?_;clear f;intro n u f;rw[hX,hY];refine(U _ V sv aw (it+1) W _ _ ?_ ?_ ?_ ?_ ?_ ?_ ?_ A Q0 m I E f)<;>rfl
theorem Hg{t:bf}{Z:aD}(v:F.lk=some L)(e:FC F Z O Fx)(x:∀b,O b\/F.Sh b\/Z b\/b=F.Wg\/b=F.C->b≠L.B){r:Nat}(D:∀c,c<M->Head t F L i Z O Fx R c 4)(g:Head t F L i Z O Fx R M r){a:Code}(y:X=aM)(z:Y=dJ)
 (V:Int)(sv aw:Bool)(it:Int)(o W:Wd)(j:Nat)(w:au)(k:0<=it)(n:it<4)(A:4-(it+1)<=r)(f:sv=true->aw=true)(u:KS t F L O Fx M W j w)(T:Array aA)(s:T.size=139)(h:T[0]? =some (.pointer (some L.mu)))(l:T[2]? =some (ah V))(m:T[3]? =some (.bool sv))(d:T[4]? =some (.bool aw))(p:T[5]? =some (ah it))(q:T[6]? =some (.int .i32 o.int)):bS prog t F i ⟨.loop aw sv,false,Z,1⟩ j O (G ((base 247).at ⟨T,[]⟩ [.code rP,.code a,.inBlock 1,.inLoop X,.inBlock 0,.code Y]) R) w:=by
 rw[JI s h l m d p q];exact ae3 v e x D g y z V sv aw it o W j w k n A f u _
theorem VE{S:bf}{Z:aD}(y:F.lk=some L)(hst:FC F Z O Fx)(hO:∀b,O b\/F.Sh b\/Z b\/b=F.Wg\/b=F.C->b≠L.B)(hT:Behind S F L i Z O Fx R)(ih:∀U,U<M->Head S F L i Z O Fx R U 4)(hX:X=aM)(hY:Y=dJ)
 (J:Nat->aA)(V:Int)(sv:Bool)(z:Nat)(w:au)(c:KS S F L O Fx M old z w)(hlt:z<M):bS prog S F i ⟨.r sv,false,Z,1⟩ z O (G ((base 247).at ⟨TQ L J V sv,[]⟩ [.code Bd,.inBlock 1,.inLoop X,.inBlock 0,.code Y]) R) w:=by
 have N:=hst;have A:z<=z:=aS _;obtain⟨κs,ae4⟩:∃κs,κs=z:=⟨_,rfl⟩;have A:z<=κs:=by omega
 have hls:κs<M:=by omega
 clear ae4;simp only[TQ,mY,oh,Bd,tX,cnd,aM,gX,aG,bZ,Bc,f247,fq];refine(BO y hst).run (g':=?_) ⟨c,A⟩ ?_;clear c A;intro z u ⟨c,A⟩;refine .mk (.lock y rfl rfl rfl λbF u f W s D Xr ZV hf=>?_);have hq:=(c.rely y hst f).q;have A:=bY f.k A;clear c f;have hf:(W.v=false->W.k=true)/\(W.v=true->W.l=false/\W.k=false/\1<=W.n):=hf;obtain⟨l,k,v,n⟩:=W;simp only at Xr hf;have hn:n<=131072:=Xr;have nums:=uS hn;cases v with
 |false=>
  obtain rfl:k=true:=hf.1 rfl;refine⟨_,u,#[],.loop true sv,_,s,.wake rfl,bV rfl rfl Y0 rfl O1 D.mu gD,.refl u,D,X0,rfl,.inl (aS _),λo hκ _=>?_⟩;obtain⟨T,ae5⟩:∃T,T=o:=⟨_,rfl⟩;have c:KS S F L O Fx T ⟨l,true,false,n⟩ o u:=⟨hq,Q0,λ_=>⟨s,D⟩⟩;have ab5:T<M:=by omega
  clear hκ ae5
  walk_nrm
  refine(dZ y hst).run (g':=?_) c ?_;clear c;intro z u c;rw[hX,hY];refine(ih T ab5 _ V sv true 0 ⟨l,true,false,n⟩ _ _ ?_ ?_ ?_ ?_ ?_ ?_ ?_ Q0 Q0 ?_ (λ_=>rfl) Xr c)<;>first|rfl|exactλ_=>⟨rfl,rfl⟩
 |true=>
  obtain⟨rfl,rfl,h1⟩:=hf.2 rfl;clear hf;have ae6:((n:Int)==0)=false:=beq_false_of_ne Q0;have ab6:(n=0)=False:=by simp;omega
  cases sv with
  |false=>
   refine⟨_,u,#[],.a false,_,s,.hand rfl (λh=>nomatch h),bV rfl rfl Y0 rfl O1 D.mu gD,.refl u,D,X0,rfl,.inl (aS _),λo hκ _=>?_⟩;have c:KS S F L O Fx o ⟨false,false,true,n⟩ o u:=⟨hq,Q0,λ_=>⟨s,D⟩⟩
   walk_nrm
   refine(dZ y hst).run (g':=?_) c ?_;clear c;intro z u c;refine .mk (.lock y rfl rfl rfl λbF u' f W2 s2 g I hs2 E=>?_);have K:=(c.rely y hst f).q;clear c f;obtain⟨l2,k2,v2,Q⟩:=W2;obtain⟨rfl,rfl,rfl,h12⟩:l2=false/\k2=false/\v2=true/\1<=Q:=E;obtain⟨m,rfl⟩:∃m,Q=m+1:=⟨Q-1,Q0⟩;have j:IntKind.i32.wrap (Wd.int ⟨false,false,true,m+1⟩+(-11))=Wd.int ⟨true,false,false,m⟩:=by have hm2:m+1<=131072:=I;rw[show Wd.int ⟨false,false,true,m+1⟩+(-11)=((8*m+1:Nat):Int)by simp[Wd.int];omega,wrap32 _ Q0];simp[Wd.int];omega
   refine⟨_,_,_,.hold,⟨true,false,false,m⟩,s2,.add,stepG_add_atomic rfl rfl Y0 rfl func248 addN JJ JK .i32 JL (ad:=L.mu) (v:=Wd.int ⟨false,false,true,m+1⟩) (d:= -11) O1 rfl g.mu g.fm,Eff.set (.inl rfl) _,by rw[j];exact g.setMu ⟨true,false,false,m⟩,qx _ (.inl rfl),rfl,.inl (aS _),λx h61 h62=>?_⟩;rw[j];have p:=K.xO (γ:=⟨.hold,false,Z,1⟩) N hO (Eff.set (.inl rfl) _) (g.setMu ⟨true,false,false,m⟩);generalize u'.setCell L.mu _=u1 at p ⊢;have c:KS S F L O Fx (x+1) ⟨true,false,false,m⟩ x u1:=⟨p,Q0,λe=>Q0⟩
   walk_nrm
   refine(dZ y hst).run (g':=?_) c ?_;clear c;intro z u c;rw[hY];exact hT _ _ _ rfl rfl c.q
  |true=>
   by_cases ae7:n=1
   .have kQ:((n:Int)==1)=true:=beq_iff_eq.2 Q0;have ab7:(n=1)=True:=by simp;omega
    refine⟨_,u,#[],.a false,_,s,.hand rfl (λh=>nomatch h),bV rfl rfl Y0 rfl O1 D.mu gD,.refl u,D,X0,rfl,.inl (aS _),λo hκ _=>?_⟩;have c:KS S F L O Fx o ⟨false,false,true,n⟩ o u:=⟨hq,Q0,λ_=>⟨s,D⟩⟩
    walk_nrm
    refine(dZ y hst).run (g':=?_) c ?_;clear c;intro z u c;refine .mk (.lock y rfl rfl rfl λbF u' f W2 s2 g I hs2 E=>?_);have K:=(c.rely y hst f).q;clear c f;obtain⟨l2,k2,v2,Q⟩:=W2;obtain⟨rfl,rfl,rfl,h12⟩:l2=false/\k2=false/\v2=true/\1<=Q:=E;obtain⟨m,rfl⟩:∃m,Q=m+1:=⟨Q-1,Q0⟩;have j:IntKind.i32.wrap (Wd.int ⟨false,false,true,m+1⟩+(-11))=Wd.int ⟨true,false,false,m⟩:=by have hm2:m+1<=131072:=I;rw[show Wd.int ⟨false,false,true,m+1⟩+(-11)=((8*m+1:Nat):Int)by simp[Wd.int];omega,wrap32 _ Q0];simp[Wd.int];omega
    refine⟨_,_,_,.hold,⟨true,false,false,m⟩,s2,.add,stepG_add_atomic rfl rfl Y0 rfl func248 addN JJ JK .i32 JL (ad:=L.mu) (v:=Wd.int ⟨false,false,true,m+1⟩) (d:= -11) O1 rfl g.mu g.fm,Eff.set (.inl rfl) _,by rw[j];exact g.setMu ⟨true,false,false,m⟩,qx _ (.inl rfl),rfl,.inl (aS _),λx h61 h62=>?_⟩;rw[j];have p:=K.xO (γ:=⟨.hold,false,Z,1⟩) N hO (Eff.set (.inl rfl) _) (g.setMu ⟨true,false,false,m⟩);generalize u'.setCell L.mu _=u1 at p ⊢;have c:KS S F L O Fx (x+1) ⟨true,false,false,m⟩ x u1:=⟨p,Q0,λe=>Q0⟩
    walk_nrm
    refine(dZ y hst).run (g':=?_) c ?_;clear c;intro z u c;rw[hY];exact hT _ _ _ rfl rfl c.q
   .have kQ:((n:Int)==1)=false:=beq_false_of_ne Q0;have ab7:(n=1)=False:=by simp;omega
    refine⟨_,u,#[],.a true,_,s,.hand rfl (λ_=>ae7),bV rfl rfl Y0 rfl O1 D.mu gD,.refl u,D,X0,rfl,.inl (aS _),λo hκ _=>?_⟩;have c:KS S F L O Fx o ⟨false,false,true,n⟩ o u:=⟨hq,Q0,λ_=>⟨s,D⟩⟩
    walk_nrm
    refine(dZ y hst).run (g':=?_) c ?_;clear c;intro z u c;refine .mk (.lock y rfl rfl rfl λbF u' f W2 s2 g I hs2 E=>?_);have K:=(c.rely y hst f).q;clear c f;obtain⟨l2,k2,v2,Q⟩:=W2;obtain⟨rfl,rfl,rfl,h12⟩:l2=false/\k2=false/\v2=true/\1<=Q:=E;obtain⟨m,rfl⟩:∃m,Q=m+1:=⟨Q-1,Q0⟩;have j:IntKind.i32.wrap (Wd.int ⟨false,false,true,m+1⟩+(-7))=Wd.int ⟨true,false,true,m⟩:=by have hm2:m+1<=131072:=I;rw[show Wd.int ⟨false,false,true,m+1⟩+(-7)=((8*m+5:Nat):Int)by simp[Wd.int];omega,wrap32 _ Q0];simp[Wd.int];omega
    refine⟨_,_,_,.hold,⟨true,false,true,m⟩,s2,.add,stepG_add_atomic rfl rfl Y0 rfl func248 addN JJ JK .i32 JL (ad:=L.mu) (v:=Wd.int ⟨false,false,true,m+1⟩) (d:= -7) O1 rfl g.mu g.fm,Eff.set (.inl rfl) _,by rw[j];exact g.setMu ⟨true,false,true,m⟩,qx _ (.inl rfl),rfl,.inl (aS _),λx h61 h62=>?_⟩;rw[j];have p:=K.xO (γ:=⟨.hold,false,Z,1⟩) N hO (Eff.set (.inl rfl) _) (g.setMu ⟨true,false,true,m⟩);generalize u'.setCell L.mu _=u1 at p ⊢;have c:KS S F L O Fx (x+1) ⟨true,false,true,m⟩ x u1:=⟨p,Q0,λe=>Q0⟩
    walk_nrm
    refine(dZ y hst).run (g':=?_) c ?_;clear c;intro z u c;rw[hY];exact hT _ _ _ rfl rfl c.q
theorem VF(L:Lk)(J:Nat->aA)(V:Int)(sv:Bool):(TQ L J V sv).toList=(List.range 139).map λk=>if k=0 then .pointer (some L.mu)else if k=2 then ah V else if k=3 then .bool sv else J k:=by rfl
theorem JQ(s:T.size=139)(h:T[0]? =some (.pointer (some L.mu)))(c:T[2]? =some (ah V))(d:T[3]? =some (.bool sv)):T=TQ L (λk=>(T[k]?).getD ak) V sv:=by
 apply Array.ext';rw[VF];apply List.ext_getElem?;intro k;rw[List.getElem?_map];obtain hk|hk:=jY k 139
 .rw[List.getElem?_range hk,gq,jE];by_cases e:k=0
  .rw[aI e,e,h]
  by_cases a:k=2
  .rw[av e,aI a,a,c]
  by_cases b:k=3
  .rw[av e,av a,aI b,b,d]
  rw[av e,av a,av b,iU Q0];rfl
 .rw[jE,Array.getElem?_eq_none Q0,vH V5];rfl
theorem ab8:oh=.seq (bZ oh) (.seq (bZ (aG oh)) Bd):=by kernel_rfl
theorem Hl{t:bf}{Z:aD}(k:F.lk=some L)(d:FC F Z O Fx)(l:∀b,O b\/F.Sh b\/Z b\/b=F.Wg\/b=F.C->b≠L.B)(m:Behind t F L i Z O Fx R)(p:∀a,a<M->Head t F L i Z O Fx R a 4)(n:X=aM)(o:Y=dJ)
 (T:Array aA)(s:T.size=139)(e:T[0]? =some (.pointer (some L.mu)))(V:Int)(f:T[2]? =some (ah V))(sv:Bool)(g:T[3]? =some (.bool sv))(c:Nat)(w:au)(j:KS t F L O Fx M old c w)(h:c<M):bS prog t F i ⟨.r sv,false,Z,1⟩ c O (G ((base 247).at ⟨T,[]⟩ [.code Bd,.inBlock 1,.inLoop X,.inBlock 0,.code Y]) R) w:=by
 rw[JQ s e f g];exact VE k d l m p n o _ V sv c w j h
theorem VG{y:bf}{Z:aD}(j:F.lk=some L)(hst:FC F Z O Fx)(D:∀b,O b\/F.Sh b\/Z b\/b=F.Wg\/b=F.C->b≠L.B)(T:Behind y F L i Z O Fx R)(Q:∀n,n<M->Head y F L i Z O Fx R n 4)(K:X=aM)(N:Y=dJ)
 (J:Nat->aA)(V:Int)(sv:Bool)(x:Nat)(w:au)(h:KS y F L O Fx M old x w):bS prog y F i ⟨.q sv,false,Z,1⟩ x O (G ((base 247).at ⟨TQ L J V sv,[]⟩ [.code oh,.inBlock 1,.inLoop X,.inBlock 0,.code Y]) R) w:=by
 have f:=hst;obtain⟨a,E⟩:∃a,a=Bd:=⟨_,rfl⟩;rw[ab8,<-E];simp only[TQ,oh,mY,tX,cnd,aM,gX,aG,bZ,Bc,f247,fq];refine(dZ j hst).run (g':=?_) h ?_;clear h;intro x u h;refine .mk (.sem j rfl rfl rfl rfl rfl λI u c W=>⟨λl=>stepG_semacquire_wait rfl rfl rfl func261 abR abS abT abU M5 l.sm,λs ZV l=>⟨_,_,stepG_semacquire rfl rfl Y0 rfl func261 abR abS abT abU M5 l.sm Q0 l.fs,Eff.set (.inr rfl) _,by rw[show((s+1:Nat):Int)-1=((s:Nat):Int)by omega];exact l.setSm s,λd v=>?_⟩⟩);rw[show((s+1:Nat):Int)-1=((s:Nat):Int)by omega];have m:=(h.rely j hst c).k;have p:=(h.rely j hst c).q.xO (γ:=⟨.q sv,false,Z,1⟩) f D (Eff.set (.inr rfl) _) (l.setSm s);have o:=l.setSm s;generalize u.setCell L.sm _=u1 at p o ⊢;obtain⟨g,A⟩:∃g,g=d:=⟨_,rfl⟩;have z:g<M:=by omega
 clear h c l;have h:KS y F L O Fx g W d u1:=⟨p,Q0,λ_=>⟨s,o⟩⟩;clear A v o p
 walk_nrm
 cases sv with
 |true=>refine(dZ j hst).run (g':=?_) h ?_;clear h;intro x u h;rw[E];refine Hl j f D T Q K N _ ?_ ?_ V ?_ true ?_ _ _ (old:=W) ⟨h.q,Nat.le_of_lt (Nat.lt_of_le_of_lt h.k z),λe=>aF e (by have:=h.k;omega)⟩ (Nat.lt_of_le_of_lt h.k z)<;>rfl
 |false=>
  refine(dZ j hst).run (g':=?_) h ?_;clear h;intro x u h;refine bS.look j rfl rfl rfl (λI u c W2 s2 l U S=>⟨_,u.later,#[],.r (decide (1000000<IntKind.i64.wrap (((u.os.mono+u.tick:Nat):Int)-V))),?_,stepG_nanotime rfl rfl Y0 rfl func260 abN abO abP abQ abZ,Eff.later u,l.later,X0,rfl,λd v=>?_⟩)
  .generalize decide (1000000<IntKind.i64.wrap (((u.os.mono+u.tick:Nat):Int)-V))=bb;cases bb
   .exact .stay
   .exact .late
  have m:=(h.rely j hst c).k;have p:=(h.rely j hst c).q.xO (γ:=⟨.q false,false,Z,1⟩) f D (Eff.later u) l.later;generalize((u.os.mono+u.tick:Nat):Int)=tv;generalize u.later=u2 at p ⊢;clear h c l;have h:KS y F L O Fx (g+1) W d u2:=⟨p,Q0,λe=>Q0⟩;have m:d<=g:=by omega
  clear v p
  walk_nrm
  refine(BO j hst).run (g':=?_) ⟨h,m⟩ ?_;clear h m;intro x u ⟨h,m⟩;rw[E];refine Hl j f D T Q K N _ ?_ ?_ V ?_ _ ?_ _ _ (old:=W) ⟨h.q,Q0,λe=>aF e Q0⟩ Q0<;>rfl
