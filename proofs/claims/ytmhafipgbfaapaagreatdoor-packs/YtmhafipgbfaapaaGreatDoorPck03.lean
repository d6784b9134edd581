import Derived.Test.YtmhafipgbfaapaaGreatDoorAbb0
import Derived.Test.YtmhafipgbfaapaaGreatDoorAbb1
import Derived.Conc.WgGenN3
import Derived.Conc.CompanyDraw
import Derived.Test.YtmhafipgbfaapaaGreatDoorPck02
set_option maxRecDepth 100000
set_option maxHeartbeats 8000000
set_option linter.unusedVariables false
set_option linter.unusedSimpArgs false
set_option linter.unusedSectionVars false
section
namespace Go.Proofs.YtmhafipgbfaapaaGreatDoor.Ren
open Go Go.Conc Go.ConcN Go.RowKit Go.Conc.Lib Go.ConcR.Gen Go.ConcN.Gen
open Go.ConcR (KK WgAt wgBlock stA smA rd wr mk Payload DC0 Bk g_of_ofEvents ofEvent_loc_mark again_blocked ofEvent_mk ofEvent_cell bk_of_mute)
variable {B J N Wg b' bl bn d i n p0 q s' κ bF κ₁ : Nat} {Fx : au -> Prop} {G' H O O' Oi ZvShq39 V V' Z Z' : aD} {K : dN -> au -> Array Event -> Prop} {Os : Nat -> aD} {P : Program} {Post Q : aA -> au -> Prop} {Stop : (aD) -> dN -> au -> Prop} {a C child g g' g₁ : dN} {args : Array Operand} {Zvats : Array bf} {bs bs' s : Nat -> Nat} {cs : List Frame} {es : Array Event} {f fn : FuncId} {gs : Array dN} {k : List Item} {l : Loc} {p : Array Bool} {Zvmain mn : Bool} {md : Region.Mode} {o : Oper} {A : Array Oper} {pos : String} {T : List Nat} {sl : Option (Nat × Nat)} {Zvsmq39 st Y : Int} {t : Trace} {ty : bf} {v' : aA} {vs : Nat -> aA} {w w' w₁ : au} {x : Touch} {y : MemOp} {α : Type}
section
variable [Payload]
class Zb where
 z:Nat
 n:Nat
 h:Nat->Option Obj
 o:Array (Nat×aN)
end
section
variable [Payload] [Zb] {T' : Lt} {W W' : Wd}
structure Lk where
 B:Nat
 e:Nat
 ty:bf
 J:(aD)->(aD)->au->Prop
 iG:∀G Z w u,(∀b,G b\/Z b->u.heap[b]? =w.heap[b]?)->(∀j,j≠e->j≠e+1->u.cell? (aB B j)=w.cell? (aB B j))->J G Z w->J G Z u
def Lk.mu(L:Lk):Addr:=⟨L.B,L.e,none⟩
def Lk.sm(L:Lk):Addr:=⟨L.B,L.e+1,none⟩
def Lk.gd(L:Lk)(l:Loc):Prop:=∃j,j≠L.e/\j≠L.e+1/\l=.cell ⟨L.B,j,none⟩
structure MuAt(L:Lk)(W:Wd)(s:Nat)(w:au):Prop where
 mu:w.cell? L.mu=some (.int .i32 W.int)
 sm:w.cell? L.sm=some (.int .u32 s)
 ro:∃c,w.heap[L.B]? =some (.cells c L.ty (0,0))
variable {L : Lk}
theorem MuAt.fz{s:Nat}(h:MuAt L W s w)(j:Nat):w.frozen? (aB L.B j)=false:=by obtain⟨c,a⟩:=h.ro;simp[World.frozen?,a]
theorem MuAt.fm{s:Nat}(h:MuAt L W s w):w.frozen? L.mu=false:=h.fz _
theorem MuAt.fs{s:Nat}(h:MuAt L W s w):w.frozen? L.sm=false:=h.fz _
theorem Jj{j:Nat}(h:∃c,w.heap[B]? =some (.cells c ty (0,0)))(x:aA):∃c,(w.setCell (aB B j) x).heap[B]? =some (.cells c ty (0,0)):=by obtain⟨c,a⟩:=h;exact⟨c.setIfInBounds j x,by rw[setCell_eq_setRow w B j c ty (0,0) x a,setRow_heap w B _ _ ty _ a]⟩
theorem MuAt.of_block{s:Nat}{u:au}(h:MuAt L W s w)(e:u.heap[L.B]? =w.heap[L.B]?):MuAt L W s u:=⟨(cell_of_block e _).trans h.mu,(cell_of_block e _).trans h.sm,by obtain⟨c,a⟩:=h.ro;exact⟨c,e.trans a⟩⟩
theorem MuAt.unique{s:Nat}(h:MuAt L W s w)(a:MuAt L W' s' w):W=W'/\s=s':=by have b:=h.mu.symm.trans a.mu;have c:=h.sm.symm.trans a.sm;simp only[iV,Value.int.injEq,true_and]at b c;exact⟨Wd.int_inj b,Q0⟩
structure Eff(L:Lk)(u v:au):Prop where
 tape:v.tape=u.tape
 output:v.output=u.output
 size:v.heap.size=u.heap.size
 os:Ik u.os v.os
 block:∀b,b≠L.B->v.heap[b]? =u.heap[b]?
 cell:∀j,j≠L.e->j≠L.e+1->v.cell? (aB L.B j)=u.cell? (aB L.B j)
def XZ(L:Lk)(e:Event):Prop:=e.loc=.mark .disable\/e.loc=.mark .enable\/∃a x,e=⟨.cell a,x,true⟩/\(a=L.mu\/a=L.sm)
structure Ph where
 d:Nat
 Wg:Nat
 C:Nat
 n:Nat
 lk:Option Lk
 Sh:aD
 Gt:Nat->(aD)->aA->au->Prop
 iG:∀i O v w u,bB Sh O w u->Gt i O v w->Gt i O v u
def bot:Nat->Loc->Prop:=λ_ _=>False
def KZ(ty:bf)(F:Ph)(i:Nat):Phase where
 rely:=RW ty F.Wg F.C F.n 0 i
 ex b:=b=F.C
 guar u v:=(PayAt F.C F.n u->PayAt F.C F.n v)/\∀i',i'≠i->v.cell? (aB F.C i')=u.cell? (aB F.C i')
 ev e:=e.loc=.cell ⟨F.C,i,none⟩/\e.sync=false
def Jk(P:Program)(ty:bf)(F:Ph)(i:Nat)(O:aD)(g:dN)(u:au):Prop:=∃v,(∀u',RW ty F.Wg F.C F.n 0 i u u'->AtR0 P ty F.Wg F.C F.n 0 (i+1) v g u')/\F.Gt i O v u
structure Gh where
 T:Lt
 ow:Bool
 Z:aD
 df:Nat
structure fA(ty:bf)(F:Ph)(i:Nat)(γ:Gh)(O:aD)(κ:Nat)(w:au)(bF:Nat)(u:au):Prop where
 o:bB (λb=>F.Sh b\/γ.Z b) O w u
 r:RW ty F.Wg F.C F.n 0 i w u
 k:bF<=κ
 m:∀L,F.lk=some L->bF=κ->∀W s,MuAt L W s w->MuAt L W s u
 g:∀L,F.lk=some L->γ.ow=true->∀j,j≠L.e->j≠L.e+1->u.cell? (aB L.B j)=w.cell? (aB L.B j)
 l:∀L,F.lk=some L->(∃W s,MuAt L W s w)->∃W s,MuAt L W s u
structure mV(F:Ph)(i:Nat)(γ:Gh)(O O':aD)(u v:au):Prop where
 sub:∀b,O b->O' b
 fresh:∀b,O' b->O b\/u.heap.size<=b
 bound:∀b,O' b->b<v.heap.size
 size:u.heap.size<=v.heap.size
 frame:∀b,b<u.heap.size->¬O b->b≠F.C->(∀L,F.lk=some L->γ.ow=true->b≠L.B)->v.heap[b]? =u.heap[b]?
 tape:v.tape=u.tape
 os:v.os=u.os
 output:v.output=u.output
 pay:PayAt F.C F.n u->PayAt F.C F.n v
 cells:∀i',i'≠i->v.cell? (aB F.C i')=u.cell? (aB F.C i')
 mu:∀L,F.lk=some L->∀W s,MuAt L W s u->MuAt L W s v
def EvW(F:Ph)(i:Nat)(γ:Gh)(O:aD)(e:Event):Prop:=qH (λb=>F.Sh b\/γ.Z b) O e\/(e.loc=.cell ⟨F.C,i,none⟩/\e.sync=false)\/∃L,F.lk=some L/\γ.ow=true/\L.gd e.loc/\e.sync=false
def Lf:Lt->Wd->Prop
 |.loop true _,W=>W.k=true/\W.v=false
 |.r _,W=>(W.v=false->W.k=true)/\(W.v=true->W.l=false/\W.k=false/\1<=W.n)
 |.a _,W=>W.l=false/\W.k=false/\W.v=true/\1<=W.n
 |.hold,W=>W.l=true
 |_,_=>True
structure Got(F:Ph)(L:Lk)(O G Z:aD)(u:au):Prop where
 j:L.J G Z u
 g:∀b,G b->b<u.heap.size/\¬O b/\¬F.Sh b/\b≠F.C/\b≠L.B/\b≠F.Wg/\b≠Zb.z/\¬Z b
 z:∀b,Z b->b<u.heap.size/\¬O b/\¬F.Sh b/\b≠F.C/\b≠L.B/\b≠F.Wg/\b≠Zb.z
inductive Wv(P:Program)(ty:bf)(F:Ph)(i:Nat)(K:Gh->Nat->(aD)->dN->au->Prop):Gh->Nat->(aD)->dN->au->Prop
 |fin {γ:Gh} {κ:Nat} {O:aD} {g:dN} {w:au}:γ.df=0->γ.ow=false->(F.lk≠none->γ.T=.done)->(∀bF u,fA ty F i γ O κ w bF u->Jk P ty F i O g u)->Wv P ty F i K γ κ O g w
 |idle {γ:Gh} {κ:Nat} {O:aD} {g:dN} {w:au}:g.status=.running->(∀bF u,fA ty F i γ O κ w bF u->∃g' w' es O',stepG P false g u=.go g' w' es/\mV F i γ O O' u w'/\(∀e∈es,EvW F i γ O' e)/\K γ bF O' g' w')->Wv P ty F i K γ κ O g w
 |CK {γ:Gh} {κ:Nat} {O:aD} {g:dN} {w:au}:g.status=.running->γ.df=0->(∀bF u,fA ty F i γ O κ w bF u->∃g',stepG P false g u=.go g' u #[mk .disable]/\K {γ with df:=1} bF O g' u)->Wv P ty F i K γ κ O g w
 |en {γ:Gh} {κ:Nat} {O:aD} {g:dN} {w:au}:g.status=.running->γ.df=1->(∀bF u,fA ty F i γ O κ w bF u->∃g',stepG P false g u=.go g' u #[mk .enable]/\K {γ with df:=0} bF O g' u)->Wv P ty F i K γ κ O g w
 |lock {L:Lk} {γ:Gh} {κ:Nat} {O:aD} {g:dN} {w:au}:F.lk=some L->g.status=.running->γ.df=1->γ.ow=false->(∀bF u,fA ty F i γ O κ w bF u->∀W s,MuAt L W s u->W.n<=131072->s<=1->Lf γ.T W->∃g' w' es T' W' s',Lm γ.T W s T' W' s'/\stepG P false g u=.go g' w' es/\Eff L u w'/\MuAt L W' s' w'/\(∀e∈es,XZ L e)/\deafBehind 1 es=1/\(s'<=s\/(mayWake P g=true/\g'.status=.running))/\∀Ay,Ay<=bF->(W'≠W\/s'≠s->Ay<bF)->K {γ with T:=T'} Ay O g' w')->Wv P ty F i K γ κ O g w
 |sem {L:Lk} {sv:Bool} {γ:Gh} {κ:Nat} {O:aD} {g:dN} {w:au}:F.lk=some L->γ.T=.q sv->g.status=.running->g.offers=none->γ.df=1->γ.ow=false->(∀bF u,fA ty F i γ O κ w bF u->∀W,
   (MuAt L W 0 u->stepG P false g u=.go {g with status:=.blocked} u #[])/\
   (∀s,s<=1->MuAt L W (s+1) u->∃g' w',stepG P false g u=.go g' w' (semEvents L.sm)/\Eff L u w'/\MuAt L W s w'/\∀Ay,Ay<bF->K {γ with T:=.r sv} Ay O g' w'))->Wv P ty F i K γ κ O g w
 |acq {L:Lk} {γ:Gh} {κ:Nat} {O:aD} {g:dN} {w:au}:F.lk=some L->g.status=.running->γ.T=.hold->γ.ow=false->γ.df=0->(∀bF u,fA ty F i γ O κ w bF u->∃g',stepG P false g u=.go g' u #[mk (.acquire L.mu)]/\∀G Z,Got F L O G Z u->K ⟨.hold,true,Z,0⟩ bF (λb=>O b\/G b) g' u)->Wv P ty F i K γ κ O g w
 |rel {L:Lk} {γ:Gh} {κ:Nat} {O:aD} {g:dN} {w:au}:F.lk=some L->g.status=.running->γ.T=.hold->γ.ow=true->γ.df=0->(∀bF u,fA ty F i γ O κ w bF u->∃(g':dN)(G Z' O':aD),stepG P false g u=.go g' u #[mk (.releaseMerge L.mu)]/\L.J G (λb=>γ.Z b\/Z' b) u/\(∀b,G b->O b/\¬Z' b)/\(∀b,Z' b->O b)/\(∀b,O' b->O b/\¬G b/\¬Z' b)/\K ⟨.hold,false,λb=>γ.Z b\/Z' b,0⟩ bF O' g' u)->Wv P ty F i K γ κ O g w
inductive Rw where
 |zero
 |node (f:Gh->Nat->(aD)->dN->au->Rw)
def Rw.lt(a b:Rw):Prop:=∃f γ κ O g w,b=.node f/\a=f γ κ O g w
theorem Rw.wf:WellFounded Rw.lt:=by
 refine⟨λa=>?_⟩
 induction a with
 |zero=>exact⟨_,λb⟨f,_,_,_,_,_,h,_⟩=>by cases h⟩
 |node f i=>exact⟨_,λb⟨g,c,κ,O,x,w,h,e⟩=>by cases h;exact e▸i c κ O x w⟩
theorem Rw.gB(f:Gh->Nat->(aD)->dN->au->Rw)(a:Gh)(κ:Nat)(O:aD)(g:dN)(w:au):Rw.lt (f a κ O g w) (.node f):=⟨f,a,κ,O,g,w,rfl,rfl⟩
def nat:Nat->Rw
 |0=>.zero
 |m+1=>.node λ_ _ _ _ _=>nat m
theorem Ql(m:Nat):Rw.lt (nat m) (nat (m+1)):=Rw.gB (λ_ _ _ _ _=>nat m) ⟨.pre,false,λ_=>False,0⟩ 0 (λ_=>False) default default
def GW(P:Program)(ty:bf)(F:Ph)(i:Nat):Rw->Gh->Nat->(aD)->dN->au->Prop
 |.zero,_,_,_,_,_=>False
 |.node f,γ,κ,O,g,w=>Wv P ty F i (λγ' bF O' g' w'=>GW P ty F i (f γ' bF O' g' w') γ' bF O' g' w') γ κ O g w
def bS(P:Program)(ty:bf)(F:Ph)(i:Nat)(γ:Gh)(κ:Nat)(O:aD)(g:dN)(w:au):Prop:=∃ρ,GW P ty F i ρ γ κ O g w
variable {γ : Gh} {x : List (Nat × Rw) × Nat} {F : Ph}
theorem fA.refl(κ:Nat)(w:au):fA ty F i γ O κ w κ w:=⟨.refl _ _ _,RW.refl w,aS _,λ_ _ _ _ _ h=>h,λ_ _ _ _ _ _=>rfl,λ_ _ h=>h⟩
theorem fA.trans{a b c:au}{x y z:Nat}(h:fA ty F i γ O x a y b)(f:fA ty F i γ O y b z c):fA ty F i γ O x a z c:=
 ⟨h.o.trans f.o,h.r.trans f.r,bY f.k h.k,λL d e W s t=>by
   have n:=h.k;have p:=f.k
   exact f.m L d Q0 W s (h.m L d Q0 W s t),λL d q j n p=>(f.g L d q j n p).trans (h.g L d q j n p),λL d x=>f.l L d (h.l L d x)⟩
theorem Wv.mono{K C:Gh->Nat->(aD)->dN->au->Prop}(h:Wv P ty F i K γ κ O g w)(m:∀γ κ O g w,K γ κ O g w->C γ κ O g w):Wv P ty F i C γ κ O g w:=by
 cases h with
 |fin j o q h=>exact .fin j o q h
 |idle j h=>exact .idle j λbF u l=>let⟨a,b,c,d,n,r,t,k⟩:=h bF u l;⟨a,b,c,d,n,r,t,m _ _ _ _ _ k⟩
 |CK j o h=>exact .CK j o λbF u l=>let⟨a,n,k⟩:=h bF u l;⟨a,n,m _ _ _ _ _ k⟩
 |en j o h=>exact .en j o λbF u l=>let⟨a,n,k⟩:=h bF u l;⟨a,n,m _ _ _ _ _ k⟩
 |lock L j o q h=>exact .lock L j o q λbF u l W s y E H I=>let⟨a,b,c,d,e,f,n,r,t,A,B,M,N,k⟩:=h bF u l W s y E H I;⟨a,b,c,d,e,f,n,r,t,A,B,M,N,λp z J=>m _ _ _ _ _ (k p z J)⟩
 |sem L j o q v Q h=>exact .sem L j o q v Q λbF u l W=>⟨(h bF u l W).1,λs D y=>let⟨a,b,n,r,t,k⟩:=(h bF u l W).2 s D y;⟨a,b,n,r,t,λp z=>m _ _ _ _ _ (k p z)⟩⟩
 |acq L j o q v h=>exact .acq L j o q v λbF u l=>let⟨a,n,k⟩:=h bF u l;⟨a,n,λG Z x=>m _ _ _ _ _ (k G Z x)⟩
 |rel L j o q v h=>exact .rel L j o q v λbF u l=>let⟨a,b,c,d,n,r,t,A,B,k⟩:=h bF u l;⟨a,b,c,d,n,r,t,A,B,m _ _ _ _ _ k⟩
theorem Wv.rely{K:Gh->Nat->(aD)->dN->au->Prop}(h:Wv P ty F i K γ κ O g w)(r:fA ty F i γ O κ w κ₁ w₁):Wv P ty F i K γ κ₁ O g w₁:=by
 cases h with
 |fin a c d h=>exact .fin a c d λbF u b=>h bF u (r.trans b)
 |idle a h=>exact .idle a λbF u b=>h bF u (r.trans b)
 |CK a c h=>exact .CK a c λbF u b=>h bF u (r.trans b)
 |en a c h=>exact .en a c λbF u b=>h bF u (r.trans b)
 |lock L a c d h=>exact .lock L a c d λbF u b=>h bF u (r.trans b)
 |sem L a c d e f h=>exact .sem L a c d e f λbF u b=>h bF u (r.trans b)
 |acq L a c d e h=>exact .acq L a c d e λbF u b=>h bF u (r.trans b)
 |rel L a c d e h=>exact .rel L a c d e λbF u b=>h bF u (r.trans b)
theorem bS.mk(h:Wv P ty F i (bS P ty F i) γ κ O g w):bS P ty F i γ κ O g w:=by
 classical
 refine⟨.node λa bF O' g' w'=>if h:bS P ty F i a bF O' g' w' then h.choose else .zero,h.mono λa bF O' g' w' k=>?_⟩;show GW P ty F i (if h:bS P ty F i a bF O' g' w' then h.choose else .zero) a bF O' g' w';rw[dif_pos k];exact k.choose_spec
theorem GW.rely{a:Rw}(h:GW P ty F i a γ κ O g w)(r:fA ty F i γ O κ w κ₁ w₁):GW P ty F i a γ κ₁ O g w₁:=by
 cases a with
 |zero=>exact h.elim
 |node f=>exact Wv.rely h r
theorem GW.running{b:Rw}(h:GW P ty F i b γ κ O g w):g.status=.running:=by
 cases b with
 |zero=>exact h.elim
 |node f=>
  have h:Wv P ty F i _ γ κ O g w:=h;cases h with
  |fin _ _ _ h=>obtain⟨v,s,_⟩:=h κ w (.refl _ _);exact(s w (RW.refl w)).1
  |idle a _=>exact a
  |CK a _ _=>exact a
  |en a _ _=>exact a
  |lock _ a _ _ _=>exact a
  |sem _ _ a _ _ _ _=>exact a
  |acq _ a _ _ _ _=>exact a
  |rel _ a _ _ _ _=>exact a
theorem bS.Qm(d:∀L,F.lk=some L->L.B≠F.C/\L.B<w.heap.size)(l:∀L,F.lk=some L->¬O L.B)(h:bM P false (λb=>F.Sh b\/γ.Z b) (KZ ty F i) Stop O g w)
 (k:∀O' bF g' u,(∀L,F.lk=some L->¬O' L.B)->(∀t,bB (λb=>F.Sh b\/γ.Z b) O' u t->RW ty F.Wg F.C F.n 0 i u t->Stop O' g' t)->bS P ty F i γ bF O' g' u):bS P ty F i γ κ O g w:=by
 obtain⟨K,h⟩:=h
 induction K generalizing κ O g w with
 |zero=>exact k O κ g w l h
 |node f J=>
  obtain h|⟨H,h⟩:=h
  .exact k O κ g w l h
  .refine .mk (.idle H λbF u q=>?_);obtain⟨g',w',es,O',v,a,x,z⟩:=h u q.o q.r;have m:∀L,F.lk=some L->L.B<u.heap.size:=λL c=>bG (d L c).2 q.o.size;have p:∀L,F.lk=some L->¬O' L.B:=λL c I=>(a.fresh _ I).elim (l L c) λy=>by have:=m L c;omega
   have j:∀L,F.lk=some L->w'.heap[L.B]? =u.heap[L.B]? :=λL c=>a.frame _ (m L c) (l L c) (d L c).1;refine⟨g',w',es,O',v,⟨a.sub,a.fresh,a.bound,a.size,λb A D E _=>a.frame b A D E,a.tape,a.os,a.output,a.guar.1,a.guar.2,λL c=>?_⟩,λe G=>(x e G).imp id λy=>.inl y,J u (λL c=>⟨(d L c).1,bG (m L c) a.size⟩) p z⟩;exactλW s M=>M.of_block (j L c)
structure nP where
 O:aD
 v:aA
 stage:Nat
 rk:Rw
 deaf:Nat
 T:Lt
 ow:Bool
 Z:aD
def nP.gh(D:nP):Gh:=⟨D.T,D.ow,D.Z,D.deaf⟩
inductive WS(P:Program)(ty:bf)(F:Ph)(i:Nat):nP->Nat->dN->au->Prop
 |work {D:nP} {κ:Nat} {g:dN} {w:au}:D.stage=8->GW P ty F i D.rk D.gh κ D.O g w->WS P ty F i D κ g w
 |lib {D:nP} {m κ:Nat} {g:dN} {w:au}:D.stage<=7->(D.stage=7->m=0)->D.rk=nat m->D.ow=false->(F.lk≠none->D.T=.done)->WSit P ty F.Wg F.C F.n bot bot 0 (i+1) D.v D.stage m D.deaf g w->F.Gt i D.O D.v w->(D.stage<=6->Has F.C i D.v w)->WS P ty F i D κ g w
inductive Md where
 |calm (d:Nat)
 |opn (F:Ph) (j p B df:Nat)
 |w2 (F:Ph) (vs:Nat)
 |w3 (F:Ph)
 |fin (F:Ph) (df:Nat)
def Md.ph:Md->Option Ph
 |.calm _=>none
 |.opn F .. =>some F
 |.w2 F _=>some F
 |.w3 F=>some F
 |.fin F _=>some F
def Md.Sh(M:Md)(b:Nat):Prop:=b=Zb.z\/∃F,M.ph=some F/\F.Sh b
def Md.live(ty:bf)(M:Md)(w:au):Prop:=∀F,M.ph=some F->WgLive ty F.Wg w
def Md.old:Md->Nat
 |.calm d=>d
 |.opn F .. =>F.d
 |.w2 F _=>F.d
 |.w3 F=>F.d
 |.fin F _=>F.d
def Md.cur:Md->Nat
 |.calm _=>0
 |.opn _ j .. =>j
 |.w2 F _=>F.n
 |.w3 F=>F.n
 |.fin F _=>F.n
def Md.df:Md->Nat
 |.calm _=>0
 |.opn _ _ _ _ df=>df
 |.w2 .. =>1
 |.w3 _=>1
 |.fin _ df=>df
variable {M M' : Md} {K : Md -> (aD) -> dN -> au -> Prop} {D D' Dn : Nat -> nP}
structure dU(ty:bf)(M:Md)(O:aD)(w u:au):Prop where
 o:bB M.Sh O w u
 live:M.live ty u
def aaU(Wg:Nat)(e:Event):Prop:=∃a:Addr,a.block=Wg/\(e.loc=.mark (.read a)\/e.loc=.mark (.write a))
def EvM(M:Md)(O:aD)(e:Event):Prop:=qH M.Sh O e\/∃F,M.ph=some F/\aaU F.Wg e
structure Joined(F:Ph)(O G Z:aD)(vs:Nat->aA)(Os:Nat->aD)(u:au):Prop where
 has:∀i,i<F.n->Has F.C i (vs i) u
 res:∀i,i<F.n->F.Gt i (Os i) (vs i) u
 pay:PayAt F.C F.n u
 own:∀i,i<F.n->∀b,Os i b->b<u.heap.size/\¬O b/\¬F.Sh b/\b≠F.C
 apart:∀i i',i<F.n->i'<F.n->i≠i'->∀b,Os i b->¬Os i' b
 mine:∀b,O b->b<u.heap.size/\¬F.Sh b/\b≠F.C
 sh:∀b,F.Sh b->b<u.heap.size
 lk:∀L,F.lk=some L->L.B<u.heap.size/\¬O L.B/\¬F.Sh L.B/\L.B≠F.C/\(∀i,i<F.n->¬Os i L.B)/\MuAt L ⟨false,false,false,0⟩ 0 u/\Got F L O G Z u/\∀i,i<F.n->∀b,Os i b->¬G b/\¬Z b
def lM(F:Ph)(O G Z:aD)(Os:Nat->aD)(b:Nat):Prop:=O b\/b=F.C\/(F.Sh b/\b≠Zb.z)\/(∃i,i<F.n/\Os i b)\/∃L,F.lk=some L/\(b=L.B\/G b\/Z b)
inductive Mv(P:Program)(ty:bf)(Post:aA->au->Prop)(K:Md->(aD)->dN->au->Prop):Md->(aD)->dN->au->Prop
 |idle {M:Md} {O:aD} {g:dN} {w:au}:g.status=.running->(∀u,dU ty M O w u->∃g' w' es O',stepG P true g u=.go g' w' es/\jW O O' u w'/\(∀e∈es,EvM M O' e)/\K M O' g' w')->Mv P ty Post K M O g w
 |CK {F:Ph} {j p B:Nat} {O:aD} {g:dN} {w:au}:g.status=.running->(∀u,dU ty (.opn F j p B 0) O w u->∃g',stepG P true g u=.go g' u #[mk .disable]/\K (.opn F j p B 1) O g' u)->Mv P ty Post K (.opn F j p B 0) O g w
 |en {F:Ph} {j p B:Nat} {O:aD} {g:dN} {w:au}:g.status=.running->(∀u,dU ty (.opn F j p B 1) O w u->∃g',stepG P true g u=.go g' u #[mk .enable]/\K (.opn F j p B 0) O g' u)->Mv P ty Post K (.opn F j p B 1) O g w
 |Uz {F:Ph} {O:aD} {g:dN} {w:au}:g.status=.running->(∀u,dU ty (.fin F 1) O w u->∃g',stepG P true g u=.go g' u #[mk .enable]/\K (.fin F 0) O g' u)->Mv P ty Post K (.fin F 1) O g w
 |begin {d:Nat} {O:aD} {g:dN} {w:au}:g.status=.running->(∀u,dU ty (.calm d) O w u->∃g' w' es F O',stepG P true g u=.go g' w' es/\(∀e∈es,EvM (.calm d) O e)/\
   w'.heap=u.heap.push (wgBlock ty 0 0)/\(w'.os=u.os/\w'.output=u.output)/\F.Wg=u.heap.size/\F.d=d/\F.n<2147483648/\O F.C/\PayAt F.C F.n u/\(∀b,F.Sh b->b=Zb.z\/(O b/\b≠F.C))/\(∀b,O' b->O b/\b≠F.C/\¬F.Sh b)/\
   (∀L,F.lk=some L->F.n<=65536/\O L.B/\L.B≠F.C/\¬F.Sh L.B/\¬O' L.B/\MuAt L ⟨false,false,false,0⟩ 0 u/\∃G Z,L.J G Z u/\(∀b,G b->O b/\b≠F.C/\¬F.Sh b/\b≠L.B/\¬O' b/\¬Z b)/\(∀b,Z b->O b/\b≠F.C/\¬F.Sh b/\b≠L.B/\¬O' b))/\
   K (.opn F 0 0 F.n 0) O' g' w')->Mv P ty Post K (.calm d) O g w
 |add {F:Ph} {j B:Nat} {O:aD} {g:dN} {w:au}:g.status=.running->j<F.n->(∀u,dU ty (.opn F j 0 B 1) O w u->∀v:Nat,v<2147483647->WgAt ty F.Wg u ((v:Int)*KK) 0->∃g',stepG P true g u=.go g' (u.setCell (stA F.Wg) (.int .u64 (((v:Int)+1)*KK))) #[rd (stA F.Wg),wr (stA F.Wg)]/\K (.opn F j 1 F.n 1) O g' (u.setCell (stA F.Wg) (.int .u64 (((v:Int)+1)*KK))))->Mv P ty Post K (.opn F j 0 B 1) O g w
 |spawn {F:Ph} {j B:Nat} {O:aD} {g:dN} {w:au}:g.status=.running->(∀u,dU ty (.opn F j 1 B 0) O w u->∃g' child H O',stepG P true g u=.spawn g' child u #[]/\(∀b,H b->O b)/\(∀b,O' b->O b/\¬H b)/\(PayAt F.C F.n u->(∀L,F.lk=some L->∃W s,MuAt L W s u)->∀κ,bS P ty F j ⟨.pre,false,λ_=>False,0⟩ κ H child u)/\K (.opn F (j+1) 0 F.n 0) O' g' u)->Mv P ty Post K (.opn F j 1 B 0) O g w
 |load {F:Ph} {B:Nat} {O:aD} {g:dN} {w:au}:g.status=.running->(∀u,dU ty (.opn F F.n 0 B 1) O w u->∀v:Nat,v<=B->v<2147483648->WgAt ty F.Wg u ((v:Int)*KK) 0->∃g',stepG P true g u=.go g' u #[rd (stA F.Wg)]/\(v=0->K (.fin F 1) O g' u)/\(v≠0->K (.w2 F v) O g' u))->Mv P ty Post K (.opn F F.n 0 B 1) O g w
 |cas {F:Ph} {vs:Nat} {O:aD} {g:dN} {w:au}:g.status=.running->(∀u,dU ty (.w2 F vs) O w u->∀v:Nat,v<=vs->v<2147483648->WgAt ty F.Wg u ((v:Int)*KK) 0->
   (v=vs->∃g',stepG P true g u=.go g' (u.setCell (stA F.Wg) (.int .u64 ((v:Int)*KK+1))) #[rd (stA F.Wg),wr (stA F.Wg)]/\K (.w3 F) O g' (u.setCell (stA F.Wg) (.int .u64 ((v:Int)*KK+1))))/\
   (v≠vs->∃g',stepG P true g u=.go g' u #[rd (stA F.Wg)]/\K (.opn F F.n 0 (vs-1) 1) O g' u))->Mv P ty Post K (.w2 F vs) O g w
 |sem {F:Ph} {O:aD} {g:dN} {w:au}:g.status=.running->g.offers=none->(∀u,dU ty (.w3 F) O w u->
   ((∃st,WgAt ty F.Wg u st 0)->stepG P true g u=.go {g with status:=.blocked} u #[])/\
   (WgAt ty F.Wg u 0 1->∃g',stepG P true g u=.go g' (u.setCell (smA F.Wg) (.int .u32 0)) (semEvents (smA F.Wg))/\K (.fin F 1) O g' (u.setCell (smA F.Wg) (.int .u32 0))))->Mv P ty Post K (.w3 F) O g w
 |Xd {F:Ph} {O:aD} {g:dN} {w:au}:g.status=.running->(∀u,dU ty (.fin F 1) O w u->WgAt ty F.Wg u 0 0->∃g',stepG P true g u=.go g' u #[rd (stA F.Wg)]/\K (.fin F 1) O g' u)->Mv P ty Post K (.fin F 1) O g w
 |acq {F:Ph} {O:aD} {g:dN} {w:au}:g.status=.running->(∀u,dU ty (.fin F 0) O w u->∃g',stepG P true g u=.go g' u #[mk (.acquire (stA F.Wg))]/\∀G Z vs Os,Joined F O G Z vs Os u->K (.calm (F.d+F.n)) (lM F O G Z Os) g' u)->Mv P ty Post K (.fin F 0) O g w
 |done {d:Nat} {O:aD} {g:dN} {w:au}:g.status=.running->(∀u,dU ty (.calm d) O w u->∃v es,stepG P true g u=.ended (.done v) u es/\(∀e∈es,EvM (.calm d) O e)/\Post v u)->Mv P ty Post K (.calm d) O g w
theorem Mv.mono{q:Md->(aD)->dN->au->Prop}(h:Mv P ty Post K M O g w)(m:∀M O g w,K M O g w->q M O g w):Mv P ty Post q M O g w:=by
 cases h with
 |idle i h=>exact .idle i λu l=>let⟨a,b,c,d,f,n,o,k⟩:=h u l;⟨a,b,c,d,f,n,o,m _ _ _ _ k⟩
 |CK i h=>exact .CK i λu l=>let⟨a,f,k⟩:=h u l;⟨a,f,m _ _ _ _ k⟩
 |en i h=>exact .en i λu l=>let⟨a,f,k⟩:=h u l;⟨a,f,m _ _ _ _ k⟩
 |Uz i h=>exact .Uz i λu l=>let⟨a,f,k⟩:=h u l;⟨a,f,m _ _ _ _ k⟩
 |begin i h=>exact .begin i λu l=>let⟨a,b,c,d,e,f,n,o,p,r,s,t,y,A,B,C,D,k⟩:=h u l;⟨a,b,c,d,e,f,n,o,p,r,s,t,y,A,B,C,D,m _ _ _ _ k⟩
 |add i F h=>exact .add i F λu l v a b=>let⟨x,f,k⟩:=h u l v a b;⟨x,f,m _ _ _ _ k⟩
 |spawn i h=>exact .spawn i λu l=>let⟨a,b,c,d,f,n,o,p,k⟩:=h u l;⟨a,b,c,d,f,n,o,p,m _ _ _ _ k⟩
 |load i h=>exact .load i λu l v a b c=>let⟨x,f,H,I⟩:=h u l v a b c;⟨x,f,λz=>m _ _ _ _ (H z),λz=>m _ _ _ _ (I z)⟩
 |cas i h=>exact .cas i λu l v a b c=>⟨λz=>let⟨x,f,k⟩:=(h u l v a b c).1 z;⟨x,f,m _ _ _ _ k⟩,λz=>let⟨x,f,k⟩:=(h u l v a b c).2 z;⟨x,f,m _ _ _ _ k⟩⟩
 |sem i E h=>exact .sem i E λu l=>⟨(h u l).1,λz=>let⟨x,f,k⟩:=(h u l).2 z;⟨x,f,m _ _ _ _ k⟩⟩
 |Xd i h=>exact .Xd i λu l a=>let⟨x,f,k⟩:=h u l a;⟨x,f,m _ _ _ _ k⟩
 |acq i h=>exact .acq i λu l=>let⟨a,f,k⟩:=h u l;⟨a,f,λG Z vs Os j=>m _ _ _ _ (k G Z vs Os j)⟩
 |done i h=>exact .done i h
theorem dU.trans{a b c:au}(h:dU ty M O a b)(d:dU ty M O b c):dU ty M O a c:=⟨h.o.trans d.o,d.live⟩
theorem Mv.rely(h:Mv P ty Post K M O g w)(r:dU ty M O w w₁):Mv P ty Post K M O g w₁:=by
 cases h with
 |idle a h=>exact .idle a λu b=>h u (r.trans b)
 |CK a h=>exact .CK a λu b=>h u (r.trans b)
 |en a h=>exact .en a λu b=>h u (r.trans b)
 |Uz a h=>exact .Uz a λu b=>h u (r.trans b)
 |begin a h=>exact .begin a λu b=>h u (r.trans b)
 |add a j h=>exact .add a j λu b=>h u (r.trans b)
 |spawn a h=>exact .spawn a λu b=>h u (r.trans b)
 |load a h=>exact .load a λu b=>h u (r.trans b)
 |cas a h=>exact .cas a λu b=>h u (r.trans b)
 |sem a c h=>exact .sem a c λu b=>h u (r.trans b)
 |Xd a h=>exact .Xd a λu b=>h u (r.trans b)
 |acq a h=>exact .acq a λu b=>h u (r.trans b)
 |done a h=>exact .done a λu b=>h u (r.trans b)
theorem Mv.running(h:Mv P ty Post K M O g w):g.status=.running:=by cases h<;>assumption
inductive Rs where
 |zero
 |node (f:Md->(aD)->dN->au->Rs)
def Rs.lt(a b:Rs):Prop:=∃f M O g w,b=.node f/\a=f M O g w
theorem Rs.wf:WellFounded Rs.lt:=by
 refine⟨λa=>?_⟩
 induction a with
 |zero=>exact⟨_,λb⟨f,_,_,_,_,h,_⟩=>by cases h⟩
 |node f i=>exact⟨_,λb⟨g,M,O,x,w,h,e⟩=>by cases h;exact e▸i M O x w⟩
def GS(P:Program)(ty:bf)(Post:aA->au->Prop):Rs->Md->(aD)->dN->au->Prop
 |.zero,_,_,_,_=>False
 |.node f,M,O,g,w=>Mv P ty Post (λM' O' g' w'=>GS P ty Post (f M' O' g' w') M' O' g' w') M O g w
def GE(P:Program)(ty:bf)(Post:aA->au->Prop)(M:Md)(O:aD)(g:dN)(w:au):Prop:=∃ρ,GS P ty Post ρ M O g w
theorem GE.mk(h:Mv P ty Post (GE P ty Post) M O g w):GE P ty Post M O g w:=by
 classical
 refine⟨.node λM' O' g' w'=>if h:GE P ty Post M' O' g' w' then h.choose else .zero,h.mono λM' O' g' w' k=>?_⟩;show GS P ty Post (if h:GE P ty Post M' O' g' w' then h.choose else .zero) M' O' g' w';rw[dif_pos k];exact k.choose_spec
variable {U h : Rs}
theorem GS.rely(h:GS P ty Post U M O g w)(r:dU ty M O w w₁):GS P ty Post U M O g w₁:=by
 cases U with
 |zero=>exact h.elim
 |node f=>exact Mv.rely h r
theorem GS.running(h:GS P ty Post U M O g w):g.status=.running:=by
 cases U with
 |zero=>exact h.elim
 |node f=>exact Mv.running h
theorem WS.status{D:nP}(h:WS P ty F i D κ g w):g.status=.running\/g.status=.finished:=by
 cases h with
 |work _ h=>exact .inl h.running
 |lib _ _ _ _ _ h _ _=>exact h.status
theorem WS.rely{D:nP}(h:WS P ty F i D κ g w)(r:fA ty F i D.gh D.O κ w κ₁ w₁):WS P ty F i D κ₁ g w₁:=by
 cases h with
 |work c h=>exact .work c (h.rely r)
 |lib s a k f t h j e=>exact .lib s a k f t (h.rely (by simpa using r.r)) (F.iG _ _ _ _ _ ⟨r.o.size,λb d=>r.o.keep b (d.imp id .inl),r.o.os⟩ j) λx=>r.r.cell.trans (e x)
inductive Seat(F:Ph)(w:au)(D:nP)(g:dN):Nat->Option dN->Prop
 |run:Seat F w D g 1 (some g)
 |blocked {L:Lk} {W:Wd} {sv:Bool}:F.lk=some L->D.stage=8->D.T=.q sv->MuAt L W 0 w->g.status=.running->g.offers=none->Seat F w D g 0 (some {g with status:=.blocked})
def WB(O:aD):Loc->Prop
 |.cell a=>O a.block
 |.obj r=>O r
 |_=>False
def wZ(V:aD)(l:Loc):Prop:=∃a,l=.cell a/\V a.block
def blk:Loc->Option Nat
 |.cell a=>some a.block
 |.obj r=>some r
 |_=>none
def Wp(M:Md)(O:aD)(D:Nat->nP)(g:Nat)(l:Loc):Prop:=
 (g=0/\(WB O l\/∃F i,M.ph=some F/\M.cur<=i/\l=.cell ⟨F.C,i,none⟩))\/
 ∃F i,M.ph=some F/\i<M.cur/\g=F.d+i+1/\(WB (D (F.d+i)).O l\/l=.cell ⟨F.C,i,none⟩\/∃L,F.lk=some L/\(D (F.d+i)).ow=true/\L.gd l)
def Rp(M:Md)(D:Nat->nP)(g:Nat)(l:Loc):Prop:=(g=0/\∃a,l=.cell a/\a.block=Zb.z)\/(∃F a,M.ph=some F/\l=.cell a/\F.Sh a.block/\(g=0\/∃i,i<M.cur/\g=F.d+i+1))\/
 ∃F i a,M.ph=some F/\i<M.cur/\g=F.d+i+1/\l=.cell a/\(D (F.d+i)).Z a.block
def BM(M:Md)(l:Loc):Prop:=∃F L,M.ph=some F/\F.lk=some L/\(l=.cell L.mu\/l=.cell L.sm)
def tV(M:Md)(g:Nat):Prop:=g=0\/∃F i,M.ph=some F/\i<M.cur/\g=F.d+i+1
def UA(M:Md)(D:Nat->nP)(G:aD)(l:Loc):Prop:=∃F L,M.ph=some F/\F.lk=some L/\(∀i,i<M.cur->(D (F.d+i)).ow=false)/\(L.gd l\/WB G l)
def ZY(Z:aD)(l:Loc):Prop:=∃a,l=.cell a/\Z a.block
inductive Ky where
 |st
 |wk (i:Nat)
 |c
 |v
 |sh
 |lb
 |lg
 |lz
def Hd(M:Md)(O:aD)(D:Nat->nP)(V G Z:aD):Ky->aD
 |.st,b=>O b
 |.wk i,b=>∃F,M.ph=some F/\i<M.cur/\(D (F.d+i)).O b
 |.c,b=>∃F,M.ph=some F/\b=F.C
 |.v,b=>V b
 |.sh,b=>b=Zb.z\/∃F,M.ph=some F/\F.Sh b
 |.lb,b=>∃F L,M.ph=some F/\F.lk=some L/\b=L.B
 |.lg,b=>G b
 |.lz,b=>Z b
structure Sep(M:Md)(O:aD)(D:Nat->nP)(V G Z:aD)(w:au):Prop where
 bd:∀k b,Hd M O D V G Z k b->b<w.heap.size
 un:∀k k' b,Hd M O D V G Z k b->Hd M O D V G Z k' b->k=k'
 wg:∀F,M.ph=some F->V F.Wg
 n:∀F,M.ph=some F->F.n<2147483648/\M.cur<=F.n
 pay:∀F,M.ph=some F->PayAt F.C F.n w
 zz:∀F,M.ph=some F->∀i,i<M.cur->∀b,(D (F.d+i)).Z b->Z b
 ou:∀F,M.ph=some F->∀i i',i<M.cur->i'<M.cur->(D (F.d+i)).ow=true->(D (F.d+i')).ow=true->i=i'
 og:∀F,M.ph=some F->∀i,i<M.cur->(D (F.d+i)).ow=true->(∀b,¬G b)/\∀b,Z b->(D (F.d+i)).Z b
theorem WB.mem(h:WB O l):l.isMemory=true:=by cases l<;>first|rfl|exact h.elim
theorem WB.blk(h:WB O l):∃b,blk l=some b/\O b:=by cases l<;>first|exact⟨_,rfl,h⟩|exact h.elim
theorem WB.ql{b:Nat}(h:Ren.blk l=some b)(o:O b):WB O l:=by
 cases l with
 |cell a=>simp only[Ren.blk,iV]at h;subst h;exact o
 |obj r=>simp only[Ren.blk,iV]at h;subst h;exact o
 |_=>simp[Ren.blk]at h
theorem wu{b:Nat}(h:blk l=some b):l.isMemory=true:=by cases l<;>first|rfl|cases h
theorem Md.bO{a:Ph}(h:M.ph=some F)(b:M.ph=some a):F=a:=gH (h.symm.trans b)
theorem jA{a:Lk}(h:F.lk=some L)(b:F.lk=some a):L=a:=gH (h.symm.trans b)
theorem Sep.ne{G:aD}{b:Nat}(s:Sep M O D V G Z w){k k':Ky}(c:k≠k')(h:Hd M O D V G Z k b):¬Hd M O D V G Z k' b:=λa=>c (s.un _ _ _ h a)
theorem Sep.z{G:aD}(s:Sep M O D V G Z w):Zb.z<w.heap.size/\¬V Zb.z/\¬O Zb.z:=
 have h:Hd M O D V G Z .sh Zb.z:=.inl rfl
 ⟨s.bd _ _ h,s.ne (k':=.v) X0 h,s.ne (k':=.st) X0 h⟩
theorem Sep.zc{G:aD}(s:Sep M O D V G Z w)(F:Ph)(a:M.ph=some F):F.C≠Zb.z/\∀i,i<M.cur->¬(D (F.d+i)).O Zb.z:=
 have h:Hd M O D V G Z .sh Zb.z:=.inl rfl
 ⟨λe=>s.ne (k':=.c) X0 h ⟨F,a,e.symm⟩,λi f b=>s.ne (k':=.wk i) X0 h ⟨F,a,f,b⟩⟩
theorem Sep.own{G:aD}(s:Sep M O D V G Z w)(b:Nat)(h:O b):b<w.heap.size/\¬V b:=⟨s.bd .st b h,s.ne (k:=.st) (k':=.v) X0 h⟩
theorem Sep.v{G:aD}(s:Sep M O D V G Z w)(b:Nat)(h:V b):b<w.heap.size:=s.bd .v b h
theorem Sep.c{G:aD}(s:Sep M O D V G Z w)(F:Ph)(a:M.ph=some F):F.C<w.heap.size/\¬V F.C/\¬O F.C:=
 have h:Hd M O D V G Z .c F.C:=⟨F,a,rfl⟩
 ⟨s.bd _ _ h,s.ne (k':=.v) X0 h,s.ne (k':=.st) X0 h⟩
theorem Sep.sh{G:aD}(s:Sep M O D V G Z w)(F:Ph)(a:M.ph=some F)(b:Nat)(d:F.Sh b):b<w.heap.size/\¬V b/\b≠F.C/\¬O b:=
 have h:Hd M O D V G Z .sh b:=.inr ⟨F,a,d⟩
 ⟨s.bd _ _ h,s.ne (k':=.v) X0 h,λe=>s.ne (k':=.c) X0 h ⟨F,a,e⟩,s.ne (k':=.st) X0 h⟩
theorem Sep.wo{G:aD}(s:Sep M O D V G Z w)(F:Ph)(a:M.ph=some F)(i:Nat)(g:i<M.cur)(b:Nat)(f:(D (F.d+i)).O b):b<w.heap.size/\¬V b/\b≠F.C/\¬F.Sh b/\¬O b:=
 have h:Hd M O D V G Z (.wk i) b:=⟨F,a,g,f⟩
 ⟨s.bd _ _ h,s.ne (k':=.v) X0 h,λe=>s.ne (k':=.c) X0 h ⟨F,a,e⟩,λe=>s.ne (k':=.sh) X0 h (.inr ⟨F,a,e⟩),s.ne (k':=.st) X0 h⟩
theorem Sep.ww{G:aD}(s:Sep M O D V G Z w)(F:Ph)(e:M.ph=some F)(i a:Nat)(g:i<M.cur)(c:a<M.cur)(n:i≠a)(b:Nat)(f:(D (F.d+i)).O b):¬(D (F.d+a)).O b:=λh=>n (by have:=s.un (.wk i) (.wk a) b ⟨F,e,g,f⟩ ⟨F,e,c,h⟩;cases this;rfl)
def WK(M:Md)(D:Nat->nP)(g:Nat)(l:Loc):Ky->Prop
 |.st=>g=0
 |.wk i=>∃F,M.ph=some F/\g=F.d+i+1
 |.c=>∃F i,M.ph=some F/\l=.cell ⟨F.C,i,none⟩/\((g=0/\M.cur<=i)\/(i<M.cur/\g=F.d+i+1))
 |.lb=>∃F L i,M.ph=some F/\F.lk=some L/\i<M.cur/\g=F.d+i+1/\(D (F.d+i)).ow=true/\L.gd l
 |_=>False
theorem Wp.key{G:aD}{g:Nat}(h:Wp M O D g l):∃k b,blk l=some b/\Hd M O D V G Z k b/\WK M D g l k:=by
 obtain⟨rfl,h|⟨F,i,a,d,rfl⟩⟩|⟨F,i,a,d,rfl,h|rfl|⟨L,f,o,j,m,n,rfl⟩⟩:=h
 .obtain⟨b,e,o⟩:=h.blk;exact⟨.st,b,e,o,rfl⟩
 .exact⟨.c,F.C,rfl,⟨F,a,rfl⟩,F,i,a,rfl,.inl ⟨rfl,d⟩⟩
 .obtain⟨b,e,o⟩:=h.blk;exact⟨.wk i,b,e,⟨F,a,d,o⟩,F,a,rfl⟩
 .exact⟨.c,F.C,rfl,⟨F,a,rfl⟩,F,i,a,rfl,.inr ⟨d,rfl⟩⟩
 .exact⟨.lb,L.B,rfl,⟨F,L,a,f,rfl⟩,F,L,i,a,f,d,rfl,o,j,m,n,rfl⟩
theorem Rp.key{G:aD}(s:Sep M O D V G Z w){g:Nat}(h:Rp M D g l):∃k a,l=.cell a/\Hd M O D V G Z k a.block/\(k=.sh\/k=.lz):=by
 obtain⟨_,a,rfl,z⟩|⟨F,a,b,rfl,d,_⟩|⟨F,i,a,b,c,_,rfl,z⟩:=h
 .exact⟨.sh,a,rfl,.inl z,.inl rfl⟩
 .exact⟨.sh,a,rfl,.inr ⟨F,b,d⟩,.inl rfl⟩
 .exact⟨.lz,a,rfl,s.zz F b i c _ z,.inr rfl⟩
theorem BM.key{G:aD}(h:BM M l):∃F L a,M.ph=some F/\F.lk=some L/\l=.cell a/\(a=L.mu\/a=L.sm)/\Hd M O D V G Z .lb a.block:=by
 obtain⟨F,L,b,c,rfl|rfl⟩:=h
 .exact⟨F,L,_,b,c,rfl,.inl rfl,F,L,b,c,rfl⟩
 .exact⟨F,L,_,b,c,rfl,.inr rfl,F,L,b,c,rfl⟩
theorem K6(h:L.gd l):l≠ .cell L.mu/\l≠ .cell L.sm:=by obtain⟨j,a,b,rfl⟩:=h;exact⟨λe=>a (by simpa[Lk.mu]using e),λe=>b (by simpa[Lk.sm]using e)⟩
theorem Sep.Xe{G:aD}(s:Sep M O D V G Z w):Apt (wZ V) (BM M) (Wp M O D) (Rp M D):=by
 refine⟨?_,?_,?_,?_,?_,?_,?_,?_,?_,?_,?_⟩
 .intro g g' l h z;obtain⟨k,b,m,o,wk⟩:=h.key (V:=V) (G:=G) (Z:=Z);obtain⟨I,b',q,f,n⟩:=z.key (V:=V) (G:=G) (Z:=Z);rw[m]at q;cases q;obtain rfl:=s.un _ _ _ o f;cases k with
  |st=>exact wk.trans n.symm
  |wk i=>obtain⟨F,j,rfl⟩:=wk;obtain⟨x,d,rfl⟩:=n;rw[Md.bO j d]
  |c=>obtain⟨F,i,j,rfl,N⟩:=wk;obtain⟨x,H,d,e,t⟩:=n;obtain rfl:=Md.bO j d;simp only[Loc.cell.injEq,Addr.mk.injEq,true_and,and_true]at e;omega
  |lb=>obtain⟨F,L,i,j,A,N,rfl,Q,_⟩:=wk;obtain⟨x,P,H,d,p,t,rfl,E,_⟩:=n;obtain rfl:=Md.bO j d;rw[s.ou F j i H N t Q E]
  |_=>exact wk.elim
 .intro g g' l h z;obtain⟨k,b,m,o,wk⟩:=h.key (V:=V) (G:=G) (Z:=Z);obtain⟨I,a,rfl,f,e⟩:=Rp.key s z;cases m;obtain rfl:=s.un _ _ _ o f;obtain rfl|rfl:=e<;>exact wk
 .rintro g l h ⟨a,rfl,u⟩;obtain⟨k,b,m,o,wk⟩:=h.key (V:=V) (G:=G) (Z:=Z);cases m;obtain rfl:=s.un _ .v _ o u;exact wk
 .rintro g l h ⟨a,rfl,u⟩;obtain⟨I,C,y,f,e⟩:=Rp.key s h;cases y;obtain rfl:=s.un _ .v _ f u;obtain e|e:=e<;>cases e
 .intro g l h;obtain⟨k,b,m,_⟩:=h.key (V:=V) (G:=G) (Z:=Z);exact wu m
 .intro g l h;obtain⟨_,a,rfl,_⟩:=Rp.key s h;rfl
 .rintro l ⟨a,rfl,_⟩;rfl
 .intro l h;obtain⟨_,_,a,_,_,rfl,_⟩:=h.key (O:=O) (D:=D) (V:=V) (G:=G) (Z:=Z);rfl
 .rintro l h ⟨a,rfl,u⟩;obtain⟨_,_,C,_,_,e,_,r⟩:=h.key (O:=O) (D:=D) (V:=V) (G:=G) (Z:=Z);cases e;have:=s.un _ .v _ r u;cases this
 .intro g l h B;obtain⟨F,L,a,j,A,rfl,J,r⟩:=B.key (O:=O) (D:=D) (V:=V) (G:=G) (Z:=Z);obtain⟨k,b,m,o,wk⟩:=h.key (V:=V) (G:=G) (Z:=Z);cases m;obtain rfl:=s.un _ .lb _ o r;obtain⟨x,P,H,d,p,_,_,_,K⟩:=wk;obtain rfl:=Md.bO j d;obtain rfl:=jA A p;obtain rfl|rfl:=J
  .exact(K6 K).1 rfl
  .exact(K6 K).2 rfl
 .intro g l h B;obtain⟨F,L,a,j,A,rfl,J,r⟩:=B.key (O:=O) (D:=D) (V:=V) (G:=G) (Z:=Z);obtain⟨I,C,y,f,e⟩:=Rp.key s h;cases y;obtain rfl:=s.un _ .lb _ f r;obtain e|e:=e<;>cases e
def Jl(V:aD)(Wg p0:Nat)(t:Trace)(k:Nat):Prop:=∃r,p0<=r/\yT (wZ V) (stA Wg) t k r/\RelBy (stA Wg) t k r
structure LkA(M:Md)(F:Ph)(L:Lk)(D:Nat->nP)(κ:Nat)(G Z:aD)(w:au)(W:Wd)(s:Nat):Prop where
 at_:MuAt L W s w
 li:LI M.cur (λi=>(D (F.d+i)).T) W s
 ka:κ=Uy M.cur (λi=>(D (F.d+i)).T) s+8*(F.n-M.cur)
 sm:F.n<=65536
 ow:∀i,i<M.cur->(D (F.d+i)).ow=true->(D (F.d+i)).T=.hold
 j:(∀i,i<M.cur->(D (F.d+i)).ow=false)->L.J G Z w
def LkI(M:Md)(D:Nat->nP)(κ:Nat)(G Z:aD)(w:au):Prop:=∀F L,M.ph=some F->F.lk=some L->∃W s,LkA M F L D κ G Z w W s
structure Cm(P:Program)(ty:bf)(M:Md)(O:aD)(gs:Array dN)(w:au)(t:Trace)(D:Nat->nP)(bs:Nat->Nat)(V:aD)(κ:Nat)(G Z:aD):Prop where
 sep:Sep M O D V G Z w
 out:w.output=Zb.o
 size:gs.size=M.old+M.cur+1
 old:∀k,k<M.old->∃g q,gs[k+1]? =some g/\QuitsD P q (D k).deaf g/\(D k).rk=nat q
 cur:∀F,M.ph=some F->∀i,i<M.cur->∃g,Seat F w (D (F.d+i)) g (bs (F.d+i)) gs[F.d+i+1]? /\WS P ty F i (D (F.d+i)) κ g w
 tl:TL (wZ V) (BM M) (tV M) (Wp M O D) (Rp M D) t
 tk:∀F L,M.ph=some F->F.lk=some L->∃p0,p0<=t.size/\TK (UA M D G) (ZY Z) (tV M) L.mu p0 t
 lk:LkI M D κ G Z w
 bd:∀i x b,touchAt t i=some x->blk x.loc=some b->b<w.heap.size
 deaf0:Deaf t 0=M.df
 deafW:∀k,k<M.old+M.cur->Deaf t (k+1)=(D k).deaf
 S9:∀(i:Nat)(op:MemOp),t[i]? =some op->op.g<=M.old+M.cur
 rel:∀F,M.ph=some F->∃p0,p0<=t.size/\(∀k,p0<=k->t.act? k≠some (.mark (.release (stA F.Wg))))/\∀i,i<M.cur->(D (F.d+i)).stage<=6->Jl V F.Wg p0 t (F.d+i+1)
 ho:∀i g,t.g? i=some g->1<=g->g<=M.old->t.counts i->∃q,t.g? q=some 0/\HappensBefore t i q
 kn:∀i x g,touchAt t i=some x->¬wZ V x.loc->x.loc.isMemory=true->t.g? i=some g->1<=g->g<=M.old->Knows t 0 i
theorem Md.kD(h:M.ph=some F):M.old=F.d:=by cases M<;>simp[Md.ph]at h<;>subst h<;>rfl
theorem uM{u:Trace}(h:∀i g,t.g? i=some g->1<=g->g<=N->t.counts i->∃q,t.g? q=some 0/\HappensBefore t i q)(s:∀op∈u,1<=op.g->op.g<=N->op.act.touch?=none):
 ∀i g,(t++u).g? i=some g->1<=g->g<=N->(t++u).counts i->∃q,(t++u).g? q=some 0/\HappensBefore (t++u) i q:=by
 intro i g r e f j;obtain⟨op,k,rfl⟩:=gL.1 r;obtain⟨l,o⟩|⟨_,d⟩:=getElem?_append_cases k
 .obtain⟨q,m,p⟩:=h i op.g (by simp[Trace.g?,o]) e f ((counts_old l).1 j);obtain⟨y,c,_⟩:=gL.1 m;exact⟨q,by rw[g?_old (lt_size_of_getElem? c)];exact m,hb_app u p⟩
 .obtain⟨x,v,_⟩:=j;obtain⟨n,a,b⟩:=Option.bind_eq_some_iff.1 v;obtain⟨w,o,rfl⟩:=gL.1 a;rw[k]at o;cases o;rw[s op d e f]at b;cases b
theorem xL{u:Trace}(h:∀i x g,touchAt t i=some x->¬wZ V x.loc->x.loc.isMemory=true->t.g? i=some g->1<=g->g<=N->Knows t 0 i)(j:∀op∈u,1<=op.g->op.g<=N->op.act.touch?=none):
 ∀i x g,touchAt (t++u) i=some x->¬wZ V x.loc->x.loc.isMemory=true->(t++u).g? i=some g->1<=g->g<=N->Knows (t++u) 0 i:=by
 intro i x g a s m f c d;obtain⟨op,e,rfl⟩:=gL.1 f;obtain⟨l,o⟩|⟨_,b⟩:=getElem?_append_cases e
 .exact(h i x op.g (by rw[touchAt_old l]at a;exact a) s m (by simp[Trace.g?,o]) c d).app u
 .rw[touchAt_of e,j op b c d]at a;cases a
theorem xM{u:Trace}{n:Nat}(h:∀i x b,touchAt t i=some x->blk x.loc=some b->b<w.heap.size)(s:w.heap.size<=w'.heap.size)(d:∀op∈u,∀x b,op.act.touch?=some x->blk x.loc=some b->b<w'.heap.size):
 ∀i x b,touchAt (t++u) i=some x->blk x.loc=some b->b<w'.heap.size:=by
 intro i x b e a;obtain⟨op,c,SY⟩:=touch_of e;obtain⟨l,Ji⟩|⟨_,o⟩:=getElem?_append_cases c
 .exact bG (h i x b E5 a) s
 .exact d op o x b SY a
theorem qm{u:Trace}(h:∀(i:Nat)(op:MemOp),t[i]? =some op->op.g<=N)(c:∀op∈u,op.g<=N):∀(i:Nat)(op:MemOp),(t++u)[i]? =some op->op.g<=N:=by
 intro i op b;obtain⟨_,o⟩|⟨_,a⟩:=getElem?_append_cases b
 .exact h i op o
 .exact c op a
theorem sH{g:Nat}(h:∀k,p0<=k->t.act? k≠some (.mark (.release (stA Wg))))(u:∀e∈es,e.loc≠ .mark (.release (stA Wg))):∀k,p0<=k->(t++MemOp.ofEvents g fn pos es).act? k≠some (.mark (.release (stA Wg))):=by
 intro k a e;obtain⟨op,b,xK⟩:=gL.1 e;obtain⟨l,Ji⟩|⟨_,o⟩:=getElem?_append_cases b
 .exact h k a H6
 .rw[ofEvents_eq]at o;obtain⟨x,c,rfl⟩:=Array.mem_map.1 o;exact u x c (Go.ConcR.loc_of_ofEvent xK)
def wakes(P:Program)(g g':dN):Bool:=mayWake P g&&g'.status != .blocked&&g'.status != .waiting
theorem Seat.other{b:Nat}{x:nP}{o:Option dN}(h:Seat F w x g₁ b o)(s:g₁.status=.running\/g₁.status=.finished)(n:wakes P g g'=false->∀L W,F.lk=some L->MuAt L W 0 w->∃W',MuAt L W' 0 w'):Seat F w' x g₁ (if wakes P g g' then 1 else b) (o.map (woken P g g' w')):=by
 cases h with
 |run=>
  have:woken P g g' w' g₁=g₁:=by
   unfold Go.Conc.woken
   split
   .exact again_running _ s
   .rfl
  rw[gq,this];have e:(if wakes P g g' then 1 else 1)=1:=by split<;>rfl
  rw[e];exact .run
 |@blocked L W v d j k l f i=>
  rw[gq];by_cases a:wakes P g g'=true
  .have:woken P g g' w' {g₁ with status:=.blocked}=g₁:=by
    have c:=a;unfold wakes at c;unfold Go.Conc.woken;rw[aI c];exact again_blocked f i w'
   rw[this,aI a];exact .run
  .have:woken P g g' w' {g₁ with status:=.blocked}={g₁ with status:=.blocked}:=by
    have c:=a;unfold wakes at c;unfold Go.Conc.woken;rw[av c]
   rw[this,av a];obtain⟨W',m⟩:=n (by simpa using a) L W d l;exact .blocked d j k m f i
theorem Cm.stepW{G:aD}(h:Cm P ty M O gs w t D bs V κ G Z)(m:M.ph=some F)(hi:i<M.cur)(D':nP)
 (B:w.heap.size<=w'.heap.size)(out:w'.output=w.output)(keep:∀a,a<M.cur->a≠i->fA ty F a (D (F.d+a)).gh (D (F.d+a)).O κ w bF w')
 (A:Sep M O (upd D (F.d+i) D') V G' Z' w')(R:LkI M (upd D (F.d+i) D') bF G' Z' w')
 (z:Seat F w' D' g₁ b' (some g'))(ws:WS P ty F i D' bF g₁ w')(hm:wakes P g g'=false->∀L W,F.lk=some L->MuAt L W 0 w->∃W',MuAt L W' 0 w')
 (T:TL (wZ V) (BM M) (tV M) (Wp M O (upd D (F.d+i) D')) (Rp M (upd D (F.d+i) D')) (t++MemOp.ofEvents (F.d+i+1) fn pos es))
 (S:∀L,F.lk=some L->∀p0,p0<=t.size->TK (UA M D G) (ZY Z) (tV M) L.mu p0 t->TK (UA M (upd D (F.d+i) D') G') (ZY Z') (tV M) L.mu p0 (t++MemOp.ofEvents (F.d+i+1) fn pos es))
 (ev:∀e∈es,∀x b,(MemAct.ofEvent e).touch?=some x->blk x.loc=some b->b<w'.heap.size)(nr:∀e∈es,e.loc≠ .mark (.release (stA F.Wg)))(p:deafBehind (D (F.d+i)).deaf es=D'.deaf)
 (v:D'.stage<=6->∀p0,p0<=t.size->((D (F.d+i)).stage<=6->Jl V F.Wg p0 t (F.d+i+1))->Jl V F.Wg p0 (t++MemOp.ofEvents (F.d+i+1) fn pos es) (F.d+i+1)):
 Cm P ty M O ((gs.map (woken P g g' w')).setIfInBounds (F.d+i+1) g') w' (t++MemOp.ofEvents (F.d+i+1) fn pos es) (upd D (F.d+i) D') (upd (λk=>if wakes P g g' then 1 else bs k) (F.d+i) b') V bF G' Z':=by
 have hN:=Md.kD m;have opsE:∀op∈MemOp.ofEvents (F.d+i+1) fn pos es,op.g=F.d+i+1/\∃e∈es,op.act=.ofEvent e:=by intro op o;rw[ofEvents_eq]at o;obtain⟨e,H,rfl⟩:=Array.mem_map.1 o;exact⟨rfl,e,H,rfl⟩
 refine⟨A,out.trans h.out,by simp[h.size],λk C=>?_,λU c a f=>?_,T,λU L c X=>?_,R,xM (n:=0) h.bd B λop o x b l hb=>?_,by rw[Deaf_other t Q0 _ g_of_ofEvents,h.deaf0],λk C=>?_,qm h.S9 λop o=>by rw[(opsE op o).1];omega,λU c=>?_,uM h.ho λop o h1 E=>by rw[(opsE op o).1]at E;omega,xL h.kn λop o h1 E=>by rw[(opsE op o).1]at E;omega⟩
 .obtain⟨x,q,l,hq,N⟩:=h.old k C;refine⟨x,q,?_,by rw[upd_ne D _ Q0];exact hq,by rw[upd_ne D _ Q0];exact N⟩;rw[get_map_set _ _ _ _ Q0,l,gq]
  congr 1
  unfold Go.Conc.woken
  split
  .exact again_running _ hq.status
  .rfl
 .obtain rfl:=Md.bO m c;by_cases e:a=i
  .subst e;refine⟨g₁,?_,by rw[upd_same];exact ws⟩;rw[get_map_set_same _ _ _ (by rw[h.size];omega),upd_same,upd_same];exact z
  .obtain⟨x,l,y⟩:=h.cur F m a f;refine⟨x,?_,?_⟩
   .rw[get_map_set _ _ _ _ Q0,upd_ne D _ Q0,upd_ne _ _ Q0];exact l.other y.status hm
   .rw[upd_ne D _ Q0];exact y.rely (keep a f e)
 .obtain rfl:=Md.bO m c;obtain⟨p0,J,l⟩:=h.tk F L m X;exact⟨p0,by simp;omega,S L X p0 J l⟩
 .obtain⟨Y,e,H,u⟩:=opsE op o;rw[u]at l;exact ev e H x b l hb
 .by_cases e:k=F.d+i
  .subst e;rw[Deaf_own,h.deafW _ C,upd_same];exact p
  .rw[Deaf_other t Q0 _ g_of_ofEvents,h.deafW k C,upd_ne D _ e]
 .obtain rfl:=Md.bO m c;obtain⟨p0,J,I,j⟩:=h.rel F m;refine⟨p0,by simp;omega,sH I nr,λa f s=>?_⟩;by_cases e:a=i
  .subst e;rw[upd_same]at s;exact v s p0 J (j a f)
  .rw[upd_ne D _ Q0]at s;obtain⟨r,K,N,Q⟩:=j a f s;exact⟨r,K,N.app λop o Y=>by rw[(opsE op o).1]at Y;omega,Q.appOther g_of_ofEvents Q0⟩
variable {k0 : Ky}
theorem Sep.wH{G:aD}(s:Sep M O D V G Z w)(e:∀k b,Hd M' O' Dn V' G' Z' k b->Hd M O D V G Z k b\/(k=k0/\w.heap.size<=b/\b<w'.heap.size))(c:w.heap.size<=w'.heap.size)
 (wg:∀F,M'.ph=some F->V' F.Wg)(n:∀F,M'.ph=some F->F.n<2147483648/\M'.cur<=F.n)(p:∀F,M'.ph=some F->PayAt F.C F.n w')(z:∀F,M'.ph=some F->∀i,i<M'.cur->∀b,(Dn (F.d+i)).Z b->Z' b)
 (u:∀F,M'.ph=some F->∀i f,i<M'.cur->f<M'.cur->(Dn (F.d+i)).ow=true->(Dn (F.d+f)).ow=true->i=f)
 (o:∀F,M'.ph=some F->∀i,i<M'.cur->(Dn (F.d+i)).ow=true->(∀b,¬G' b)/\∀b,Z' b->(Dn (F.d+i)).Z b):Sep M' O' Dn V' G' Z' w':=by
 refine⟨λk b h=>?_,λk g b h a=>?_,wg,n,p,z,u,o⟩
 .obtain h|h:=e k b h
  .exact bG (s.bd k b h) c
  .exact h.2.2
 .obtain h|h:=e k b h<;>obtain a|a:=e g b a
  .exact s.un k g b h a
  .have:=s.bd k b h;omega
  .have:=s.bd g b a;omega
  .rw[h.1,a.1]
def Qn(V:aD)(F:Ph)(i:Nat)(x:nP)(e:Event):Prop:=
 ∀a,(MemAct.ofEvent e).touch?=some a->a.loc.isMemory=true->(wZ V a.loc/\a.kind≠ .plain/\a.kind≠ .said)\/WB x.O a.loc\/a.loc=.cell ⟨F.C,i,none⟩\/(∃c,a.loc=.cell c/\(F.Sh c.block\/x.Z c.block)/\a.write=false)\/
  (∃L,F.lk=some L/\x.ow=true/\L.gd a.loc)\/∃L,F.lk=some L/\(a.loc=.cell L.mu\/a.loc=.cell L.sm)/\a.kind=.atomic
theorem opsE{k:Nat}:∀op∈MemOp.ofEvents k fn pos es,op.g=k/\∃e∈es,op.act=.ofEvent e:=by intro op h;rw[ofEvents_eq]at h;obtain⟨e,a,rfl⟩:=Array.mem_map.1 h;exact⟨rfl,e,a,rfl⟩
theorem Qn.key{G:aD}(s:Sep M O Dn V G Z w)(g:M.ph=some F)(n:i<M.cur){e:Event}(t:Qn V F i (Dn (F.d+i)) e){a:Touch}(p:(MemAct.ofEvent e).touch?=some a){b:Nat}(h:blk a.loc=some b):
 ∃k,Hd M O Dn V G Z k b/\((k=.v)\/(∃j,k=.wk j)\/k=.c\/k=.sh\/(k=.lz/\a.write=false)\/(k=.lb/\((Dn (F.d+i)).ow=true\/BM M a.loc))):=by
 obtain⟨⟨c,f,r⟩,_⟩|hw|f|⟨c,f,q|z,hw⟩|⟨L,l,o,j,u,y,f⟩|⟨L,l,f,_⟩:=t a p (wu h)
 .rw[f]at h;cases h;exact⟨.v,r,.inl rfl⟩
 .obtain⟨b',m,o⟩:=hw.blk;rw[h]at m;cases m;exact⟨.wk i,⟨F,g,n,o⟩,.inr (.inl ⟨i,rfl⟩)⟩
 .rw[f]at h;cases h;exact⟨.c,⟨F,g,rfl⟩,.inr (.inr (.inl rfl))⟩
 .rw[f]at h;cases h;exact⟨.sh,.inr ⟨F,g,q⟩,.inr (.inr (.inr (.inl rfl)))⟩
 .rw[f]at h;cases h;exact⟨.lz,s.zz F g i n _ z,.inr (.inr (.inr (.inr (.inl ⟨rfl,hw⟩))))⟩
 .rw[f]at h;cases h;exact⟨.lb,⟨F,L,g,l,rfl⟩,.inr (.inr (.inr (.inr (.inr ⟨rfl,.inl o⟩))))⟩
 .have x:BM M a.loc:=⟨F,L,g,l,f⟩;obtain f|f:=f
  .rw[f]at h;cases h;exact⟨.lb,⟨F,L,g,l,rfl⟩,.inr (.inr (.inr (.inr (.inr ⟨rfl,.inr x⟩))))⟩
  .rw[f]at h;cases h;exact⟨.lb,⟨F,L,g,l,rfl⟩,.inr (.inr (.inr (.inr (.inr ⟨rfl,.inr x⟩))))⟩
theorem K7{G:aD}(s:Sep M O Dn V G Z w)(h:M.ph=some F)(f:i<M.cur)(C:TL (wZ V) (BM M) (tV M) (Wp M O Dn) (Rp M Dn) t)(B:∀e∈es,Qn V F i (Dn (F.d+i)) e):
 TL (wZ V) (BM M) (tV M) (Wp M O Dn) (Rp M Dn) (t++MemOp.ofEvents (F.d+i+1) fn pos es):=by
 refine C.app s.Xe (g:=F.d+i+1) λop o=>?_;obtain⟨r,e,q,j⟩:=opsE op o;refine⟨r,λx p v=>?_⟩;rw[j]at p;obtain⟨a,b,c⟩|hw|l|⟨a,n,z|A,hw⟩|⟨L,k,y,m⟩|⟨L,k,l,u⟩:=B e q x p v
 .exact .inl ⟨a,b,λe=>aF e c⟩
 .exact .inr (.inl (.inr ⟨F,i,h,f,rfl,.inl hw⟩))
 .exact .inr (.inl (.inr ⟨F,i,h,f,rfl,.inr (.inl l)⟩))
 .exact .inr (.inr (.inl ⟨.inr (.inl ⟨F,a,h,n,z,.inr ⟨i,f,rfl⟩⟩),hw⟩))
 .exact .inr (.inr (.inl ⟨.inr (.inr ⟨F,i,a,h,f,rfl,n,A⟩),hw⟩))
 .exact .inr (.inl (.inr ⟨F,i,h,f,rfl,.inr (.inr ⟨L,k,y,m⟩)⟩))
 .exact .inr (.inr (.inr ⟨⟨F,L,h,k,l⟩,u,.inr ⟨F,i,h,f,rfl⟩⟩))
theorem Qo{G:aD}(s:Sep M O Dn V G Z w)(h:M.ph=some F)(f:i<M.cur)(o:∀e∈es,Qn V F i (Dn (F.d+i)) e):∀e∈es,∀x b,(MemAct.ofEvent e).touch?=some x->blk x.loc=some b->b<w.heap.size:=by intro e c x b j a;obtain⟨k,g,_⟩:=(o e c).key s h f j a;exact s.bd k b g
theorem Qp{G:aD}(s:Sep M O Dn V G Z w)(m:M.ph=some F)(z:i<M.cur){a:Addr}(X:TK (UA M Dn G) (ZY Z) (tV M) a p0 t)(K:∀e∈es,Qn V F i (Dn (F.d+i)) e)(W:∀e∈es,e.loc≠ .mark (.release a)):
 TK (UA M Dn G) (ZY Z) (tV M) a p0 (t++MemOp.ofEvents (F.d+i+1) fn pos es):=by
 refine X.app (λop o x H=>?_) λop o e=>?_
 .obtain⟨T,e,q,f⟩:=opsE op o;rw[f]at H;refine⟨λg=>?_,λy=>?_⟩
  .obtain⟨N,L,l,I,E,p⟩:=g;obtain rfl:=Md.bO m l;have n:∃b r,blk x.loc=some b/\Hd M O Dn V G Z r b/\((r=.lb/\L.gd x.loc)\/r=.lg):=by
    obtain p|p:=p
    .obtain⟨j,Q,R,e⟩:=p;exact⟨L.B,.lb,by rw[e];rfl,⟨F,L,m,I,rfl⟩,.inl ⟨rfl,j,Q,R,e⟩⟩
    .obtain⟨b,n,S⟩:=p.blk;exact⟨b,.lg,n,S,.inr rfl⟩
   obtain⟨b,r,n,C,v⟩:=n;obtain⟨k,A,h⟩:=(K e q).key s m z H n;obtain rfl:=s.un _ _ _ A C;obtain⟨rfl,g⟩|rfl:=v
   .obtain h|⟨_,h⟩|h|h|⟨h,_⟩|⟨_,J|D⟩:=h<;>first|cases h|skip
    .rw[E i z]at J;cases J
    .obtain⟨N,Y,l,u,D⟩:=D;obtain rfl:=Md.bO m l;obtain rfl:=jA I u;exact D.elim (K6 g).1 (K6 g).2
   .obtain h|⟨_,h⟩|h|h|⟨h,_⟩|⟨h,_⟩:=h<;>cases h
  .obtain⟨c,v,U⟩:=y;obtain⟨k,A,h⟩:=(K e q).key s m z H (by rw[v];rfl);obtain rfl:=s.un _ .lz _ A U;obtain h|⟨_,h⟩|h|h|⟨_,h⟩|⟨h,_⟩:=h<;>first|cases h|exact h
 .obtain⟨T,P,q,f⟩:=opsE op o;rw[f]at e;exact W P q (Go.ConcR.loc_of_ofEvent e)
structure iH(ty:bf)(F:Ph)(i:Nat)(x:nP)(w w':au):Prop where
 size:w.heap.size<=w'.heap.size
 frame:∀b,b<w.heap.size->¬x.O b->b≠F.C->b≠F.Wg->(∀L,F.lk=some L->b≠L.B)->w'.heap[b]? =w.heap[b]?
 os:Ik w.os w'.os
 out:w'.output=w.output
 live:WgLive ty F.Wg w'
 pay:PayAt F.C F.n w'
 cells:∀i',i'≠i->w'.cell? (aB F.C i')=w.cell? (aB F.C i')
 gd:∀L,F.lk=some L->x.ow=false->∀j,j≠L.e->j≠L.e+1->w'.cell? (aB L.B j)=w.cell? (aB L.B j)
theorem iH.keeps{G:aD}{b:Nat}(s:Sep M O D V G Z w)(f:M.ph=some F)(o:i<M.cur)(h:iH ty F i (D (F.d+i)) w w'){k:Ky}(a:Hd M O D V G Z k b)(g:k≠ .wk i)(j:k≠ .c)(l:k≠ .v)(m:k≠ .lb):w'.heap[b]? =w.heap[b]? :=h.frame b (s.bd k b a) (λp=>g (s.un _ _ _ a ⟨F,f,o,p⟩)) (λe=>j (s.un _ _ _ a ⟨F,f,e⟩)) (λe=>l (s.un _ .v _ a (show V b by rw[e];exact s.wg F f))) λL n e=>m (s.un _ _ _ a ⟨F,L,f,n,e⟩)
theorem iH.rely{G:aD}(s:Sep M O D V G Z w)(f:M.ph=some F)(l:i<M.cur)(h:iH ty F i (D (F.d+i)) w w')(q:bF<=κ)(t:∀L,F.lk=some L->bF=κ->∀W s,MuAt L W s w->MuAt L W s w')(r:∀L,F.lk=some L->(∃W s,MuAt L W s w)->∃W s,MuAt L W s w'):
 ∀a,a<M.cur->a≠i->fA ty F a (D (F.d+a)).gh (D (F.d+a)).O κ w bF w':=by
 intro a g n;refine⟨⟨h.size,λb c=>?_,h.os⟩,⟨λb c=>aF c (dO b),λ_=>h.live,λ_=>h.pay,h.cells a n⟩,q,t,λL p u j m o=>h.gd L p ?_ j m o,r⟩
 .obtain c|c|c:=c
  .exact h.keeps s f l (k:=.wk a) ⟨F,f,g,c⟩ (λe=>n (by cases e;rfl)) X0 X0 X0
  .exact h.keeps s f l (k:=.sh) (.inr ⟨F,f,c⟩) X0 X0 X0 X0
  .exact h.keeps s f l (k:=.lz) (s.zz F f a g b c) X0 X0 X0 X0
 .cases e:(D (F.d+i)).ow with
  |false=>rfl
  |true=>exact aF (s.ou F f a i g l u e) n
theorem iH.j{G:aD}(s:Sep M O D V G Z w)(c:M.ph=some F)(e:i<M.cur)(h:iH ty F i (D (F.d+i)) w w')(f:F.lk=some L)(ho:(D (F.d+i)).ow=false)(g:L.J G Z w):L.J G Z w':=
 L.iG G Z w w' (λb a=>by
  obtain a|a:=a
  .exact h.keeps s c e (k:=.lg) a X0 X0 X0 X0
  .exact h.keeps s c e (k:=.lz) a X0 X0 X0 X0) (h.gd L f ho) g
theorem Cm.quiet{G:aD}(h:Cm P ty M O gs w t D bs V κ G Z)(p:M.ph=some F)(z:i<M.cur)(D':nP)(hT:D'.T=(D (F.d+i)).T)(N:D'.ow=(D (F.d+i)).ow)(hZ:D'.Z=(D (F.d+i)).Z)
 (st:iH ty F i (D (F.d+i)) w w')(mu:∀L,F.lk=some L->∀W s,MuAt L W s w->MuAt L W s w')
 (y:∀b,D'.O b->(D (F.d+i)).O b\/w.heap.size<=b)(R:∀b,D'.O b->b<w'.heap.size)
 (ws:WS P ty F i D' κ g' w')(ok:∀e∈es,Qn V F i D' e)(Y:∀e∈es,∀a,e.loc≠ .mark (.release a))(B:deafBehind (D (F.d+i)).deaf es=D'.deaf)
 (H:D'.stage<=6->∀p0,p0<=t.size->((D (F.d+i)).stage<=6->Jl V F.Wg p0 t (F.d+i+1))->Jl V F.Wg p0 (t++MemOp.ofEvents (F.d+i+1) fn pos es) (F.d+i+1)):
 Cm P ty M O ((gs.map (woken P g g' w')).setIfInBounds (F.d+i+1) g') w' (t++MemOp.ofEvents (F.d+i+1) fn pos es) (upd D (F.d+i) D') (upd (λk=>if wakes P g g' then 1 else bs k) (F.d+i) 1) V κ G Z:=by
 have s:=h.sep;have U:∀k,(upd D (F.d+i) D' k).T=(D k).T:=λk=>by
  by_cases e:k=F.d+i
  .subst e;rw[upd_same,hT]
  .rw[upd_ne D _ e]
 have v:∀k,(upd D (F.d+i) D' k).ow=(D k).ow:=λk=>by
  by_cases e:k=F.d+i
  .subst e;rw[upd_same,N]
  .rw[upd_ne D _ e]
 have J:∀k,(upd D (F.d+i) D' k).Z=(D k).Z:=λk=>by
  by_cases e:k=F.d+i
  .subst e;rw[upd_same,hZ]
  .rw[upd_ne D _ e]
 have q:Sep M O (upd D (F.d+i) D') V G Z w':=by
  refine s.wH (k0:=.wk i) (λk b X=>?_) st.size s.wg s.n (λr f=>by obtain rfl:=Md.bO p f;exact st.pay) (λr f o c b=>by rw[J];exact s.zz r f o c b) (λr f o Q=>by rw[v,v];exact s.ou r f o Q) (λr f o=>by rw[v,J];exact s.og r f o);cases k with
  |wk o=>
   obtain⟨r,f,c,x⟩:=X;obtain rfl:=Md.bO p f;by_cases e:o=i
   .subst e;rw[upd_same]at x;obtain C|C:=y b x
    .exact .inl ⟨F,p,c,C⟩
    .exact .inr ⟨rfl,C,R b x⟩
   .rw[upd_ne D _ Q0]at x;exact .inl ⟨F,p,c,x⟩
  |_=>exact .inl X
 have S:TL (wZ V) (BM M) (tV M) (Wp M O (upd D (F.d+i) D')) (Rp M (upd D (F.d+i) D')) t:=by
  refine h.tl.turn (λl m=>.inl m) (λl m=>.inl ⟨m,λ_ h=>h⟩) (λg l m=>?_) (λg l m=>.inl ?_)
  .obtain⟨rfl,m⟩|⟨r,o,f,c,rfl,m⟩:=m
   .exact .inl (.inl ⟨rfl,m⟩)
   .obtain rfl:=Md.bO p f;rw[v]at m;obtain m|m:=m
    .by_cases e:o=i
     .subst e;rw[upd_same]at m;obtain⟨b,x,I⟩:=m.blk;obtain I|I:=y b I
      .exact .inl (.inr ⟨F,o,p,c,rfl,.inl (WB.ql x I)⟩)
      .right;intro k a ha e;have:=h.bd k a b ha (by rw[e];exact x);omega
     .rw[upd_ne D _ Q0]at m;exact .inl (.inr ⟨F,o,p,c,rfl,.inl m⟩)
    .exact .inl (.inr ⟨F,o,p,c,rfl,.inr m⟩)
  .simpa only[Rp,J]using m
 have A:∀e∈es,Qn V F i (upd D (F.d+i) D' (F.d+i)) e:=by rw[upd_same];exact ok
 refine h.stepW p z D' (g₁:=g') st.size st.out (st.rely s p z (aS _) (λL u _=>mu L u) λL u⟨W,s,h⟩=>⟨W,s,mu L u W s h⟩) q ?_ .run ws (λ_ L W u hM=>⟨W,mu L u W 0 hM⟩) (K7 q p z S A) (λL u p0 hp hx=>Qp q p z ?_ A λe K=>Y e K _) (Qo q p z A) (λe K=>Y e K _) B H
 .intro r L f u;obtain rfl:=Md.bO p f;obtain⟨W,s',a⟩:=h.lk F L p u;have e:(λo=>(upd D (F.d+i) D' (F.d+o)).T)=λo=>(D (F.d+o)).T:=funext λo=>U _;exact⟨W,s',mu L u W s' a.at_,by rw[e];exact a.li,by rw[e];exact a.ka,a.sm,λo c=>by rw[v,U];exact a.ow o c,λE=>st.j s p z u (by have:=E i z;rwa[v]at this) (a.j λo c=>by have:=E o c;rwa[v]at this)⟩
 .refine hx.turn (λg hg=>hg) (λl m=>?_) λl m=>m;obtain⟨r,L',C,h2,h3,h4⟩:=m;exact⟨r,L',C,h2,λo c=>by have:=h3 o c;rwa[v]at this,h4⟩
theorem Xf(D:Nat->nP)(d i:Nat)(x:nP):(λa=>(upd D (d+i) x (d+a)).T)=upd (λa=>(D (d+a)).T) i x.T:=by
 funext y
 by_cases e:y=i
 .subst e;simp[upd_same]
 .rw[upd_ne _ _ e,upd_ne D _ Q0]
theorem Jm{x:nP}(f:F.lk=some L){e:Event}(h:XZ L e):Qn V F i x e:=by
 intro a b _;obtain d|d|⟨c,w,rfl,g⟩:=h
 .rw[ofEvent_loc_mark d]at b;cases b
 .rw[ofEvent_loc_mark d]at b;cases b
 .simp only[ofEvent_cell,MemAct.touch?,iV]at b;subst b;exact .inr (.inr (.inr (.inr (.inr ⟨L,f,g.imp (λe=>by rw[e]) λe=>by rw[e],rfl⟩))))
theorem CO{e:Event}{a:Addr}(h:XZ L e):e.loc≠ .mark (.release a):=by
 intro l;obtain b|b|⟨a,w,rfl,_⟩:=h
 .rw[b]at l;cases l
 .rw[b]at l;cases l
 .cases l
theorem Eff.stands{G:aD}(s:Sep M O D V G Z w)(a:M.ph=some F)(g:F.lk=some L)(l:WgLive ty F.Wg w)(e:Eff L w w')(x:nP):iH ty F i x w w':=by
 have m:Hd M O D V G Z .lb L.B:=⟨F,L,a,g,rfl⟩;have W:w'.heap[F.Wg]? =w.heap[F.Wg]? :=e.block _ λh=>by have:=s.un .v .lb F.Wg (s.wg F a) (h▸m);cases this
 have n:w'.heap[F.C]? =w.heap[F.C]? :=e.block _ λh=>by have:=s.un .c .lb F.C ⟨F,a,rfl⟩ (h▸m);cases this
 refine⟨by rw[e.size];exact aS _,λb _ _ _ _ o=>e.block b (o L g),e.os,e.output,?_,?_,λp _=>cell_of_block n p,λq k _ j d f=>?_⟩
 .obtain⟨st,sm,h⟩:=l;exact⟨st,sm,W.trans h⟩
 .obtain⟨cs,d,f⟩:=s.pay F a;exact⟨cs,n.trans d,f⟩
 .obtain rfl:=jA g k;exact e.cell j d f
theorem Cm.CQ{G:aD}{s:Nat}(h:Cm P ty M O gs w t D bs V κ G Z)(y:M.ph=some F)(K:i<M.cur)(I:F.lk=some L)(E:Nat->nP)(hO:∀bF,(E bF).O=(D (F.d+i)).O)(Q:(D (F.d+i)).ow=false)(R:∀bF,(E bF).ow=false)(hZ:∀bF,(E bF).Z=(D (F.d+i)).Z)(N:WgLive ty F.Wg w)
 (a:LkA M F L D κ G Z w W s)(J:∀bF,(E bF).T=T')(m:Lm (D (F.d+i)).T W s T' W' s')(xO:Eff L w w')(z:MuAt L W' s' w')(ws:∀bF,bF<=κ->(W'≠W\/s'≠s->bF<κ)->WS P ty F i (E bF) bF g' w')
 (bk:∀e∈es,XZ L e)(u:∀bF,deafBehind (D (F.d+i)).deaf es=(E bF).deaf)(hwk:s'<=s\/wakes P g g'=true)(hst:∀bF,7<=(E bF).stage):
 ∃bF,Cm P ty M O ((gs.map (woken P g g' w')).setIfInBounds (F.d+i+1) g') w' (t++MemOp.ofEvents (F.d+i+1) fn pos es) (upd D (F.d+i) (E bF)) (upd (λk=>if wakes P g g' then 1 else bs k) (F.d+i) 1) V bF G Z:=by
 have A:=h.sep;obtain⟨li',hle,hlt⟩:=a.li.move K rfl m;obtain⟨bF,S⟩:∃bF,bF=Uy M.cur (upd (λp=>(D (F.d+p)).T) i T') s'+8*(F.n-M.cur):=⟨_,rfl⟩;have hO:=hO bF;have R:=R bF;have hZ:=hZ bF;have J:=J bF;have u:=u bF;have hst:=hst bF;have ws:=ws bF;refine⟨bF,?_⟩;generalize E bF=D' at*;subst J;have H:∀k,(upd D (F.d+i) D' k).ow=(D k).ow:=λk=>by
  by_cases e:k=F.d+i
  .subst e;rw[upd_same,R,Q]
  .rw[upd_ne D _ e]
 have eZ:∀k,(upd D (F.d+i) D' k).Z=(D k).Z:=λk=>by
  by_cases e:k=F.d+i
  .subst e;rw[upd_same,hZ]
  .rw[upd_ne D _ e]
 have eO:∀k,(upd D (F.d+i) D' k).O=(D k).O:=λk=>by
  by_cases e:k=F.d+i
  .subst e;rw[upd_same,hO]
  .rw[upd_ne D _ e]
 have eT:=Xf D F.d i D';have B:bF<=κ:=by rw[S,a.ka];omega
 have C:W'≠W\/s'≠s->bF<κ:=λx=>by have:=hlt x;rw[S,a.ka];omega
 have st:iH ty F i (D (F.d+i)) w w':=xO.stands A y I N _;have q:Sep M O (upd D (F.d+i) D') V G Z w':=by
  refine A.wH (k0:=.st) (λk b hk=>.inl ?_) st.size A.wg A.n (λr c=>by obtain rfl:=Md.bO y c;exact st.pay) (λr c p f b=>by rw[eZ];exact A.zz r c p f b) (λr c p i''=>by rw[H,H];exact A.ou r c p i'') (λr c p=>by rw[H,eZ];exact A.og r c p);cases k with
  |wk p=>obtain⟨r,c,f,hb⟩:=hk;rw[eO]at hb;exact⟨r,c,f,hb⟩
  |_=>exact hk
 have tl0:TL (wZ V) (BM M) (tV M) (Wp M O (upd D (F.d+i) D')) (Rp M (upd D (F.d+i) D')) t:=by
  refine h.tl.turn (λl v=>.inl v) (λl v=>.inl ⟨v,λ_ h=>h⟩) (λg l v=>.inl ?_) (λg l v=>.inl ?_)
  .simpa only[Wp,eO,H]using v
  .simpa only[Rp,eZ]using v
 have U:∀e∈es,Qn V F i (upd D (F.d+i) D' (F.d+i)) e:=λe Y=>Jm I (bk e Y);refine h.stepW y K D' (g₁:=g') st.size st.out (st.rely A y K B (λX o e W1 s1 hm=>?_) λX o _=>⟨W',s',by obtain rfl:=jA I o;exact z⟩) q ?_ .run (ws B C) (λhw X W1 o hM=>?_) (K7 q y K tl0 U) (λX o p0 hp hx=>Qp q y K ?_ U λe Y=>CO (bk e Y)) (Qo q y K U) (λe Y=>CO (bk e Y)) u (λh6=>Q0)
 .obtain rfl:=jA I o;obtain⟨rfl,rfl⟩:=hm.unique a.at_;have hn:¬(W'≠W1\/s'≠s1):=λx=>by have:=C x;omega
  have e1:W'=W1:=Classical.not_not.1 λx=>hn (.inl x);have e2:s'=s1:=Classical.not_not.1 λx=>hn (.inr x);rw[<-e1,<-e2];exact z
 .intro r X c o;obtain rfl:=Md.bO y c;obtain rfl:=jA I o;refine⟨W',s',z,by rw[eT];exact li',by rw[eT];exact S,a.sm,λp f ho=>?_,λhno=>st.j A y K I Q (a.j λp f=>by have:=hno p f;rwa[H]at this)⟩;rw[H]at ho;have hne:p≠i:=λe=>by subst e;rw[Q]at ho;cases ho
  rw[upd_ne D _ Q0];exact a.ow p f ho
 .obtain rfl:=jA I o;obtain⟨_,e⟩:=hM.unique a.at_;obtain h1|h1:=hwk
  .exact⟨W',by have:s'=0:=by omega
               rw[<-this];exact z⟩
  .rw[h1]at hw;cases hw
 .refine hx.turn (λg hg=>hg) (λl v=>?_) λl v=>v;obtain⟨r,X,h1,h2,h3,h4⟩:=v;exact⟨r,X,h1,h2,λp f=>by have:=h3 p f;rwa[H]at this,h4⟩
theorem uN(d:y.act.touch?=none){j:Nat}{x:Touch}(h:touchAt (t++#[y]) j=some x):touchAt t j=some x:=by
 obtain⟨z,e,a⟩:=touch_of h;obtain⟨_,c⟩|⟨_,b⟩:=getElem?_append_cases e
 .rw[touchAt_of c];exact a
 .simp at b;subst b;rw[d]at a;cases a
theorem Cm.acq{P:Program}{ty:bf}{M:Md}{O:aD}{gs:Array dN}{w:au}{t:Trace}{D:Nat->nP}{bs:Nat->Nat}{V G Z:aD}{κ:Nat}{F:Ph}{L:Lk}{i:Nat}{g g':dN}{fn:FuncId}{pos:String}(h:Cm P ty M O gs w t D bs V κ G Z)(hF:M.ph=some F)(hi:i<M.cur)(hL:F.lk=some L)(D':nP)(hO:D'.O=λb=>(D (F.d+i)).O b\/G b)(hT:(D (F.d+i)).T=.hold)(hT':D'.T=.hold)(hoo:(D (F.d+i)).ow=false)(how:D'.ow=true)(hZ:D'.Z=Z)(Y:WgLive ty F.Wg w)
 (hd:(D (F.d+i)).deaf=0)(hd':D'.deaf=0)(ws:WS P ty F i D' κ g' w)(hst:7<=D'.stage):
 Cm P ty M O ((gs.map (woken P g g' w)).setIfInBounds (F.d+i+1) g') w (t++MemOp.ofEvents (F.d+i+1) fn pos #[Go.ConcR.mk (.acquire L.mu)]) (upd D (F.d+i) D') (upd (λk=>if wakes P g g' then 1 else bs k) (F.d+i) 1) V κ (λ_=>False) Z:=by
 have Q:=h.sep;obtain⟨W,s,a⟩:=h.lk F L hF hL;have S:∀m,m<M.cur->(D (F.d+m)).ow=false:=λm f=>by
  cases e:(D (F.d+m)).ow with
  |false=>rfl
  |true=>have:=(a.li.held hi hT).2 m f (a.ow m f e);subst this;rw[hoo]at e;cases e
 have eT:∀k,(upd D (F.d+i) D' k).T=(D k).T:=λk=>by
  by_cases e:k=F.d+i
  .subst e;rw[upd_same,hT,hT']
  .rw[upd_ne D _ e]
 have K:∀m,m<M.cur->(upd D (F.d+i) D' (F.d+m)).ow=true->m=i:=λm f E=>by
  by_cases e:m=i
  .exact e
  .rw[upd_ne D _ Q0,S m f]at E;cases E
 have st:iH ty F i (D (F.d+i)) w w:=⟨aS _,λ_ _ _ _ _ _=>rfl,.refl _,rfl,Y,Q.pay F hF,λ_ _=>rfl,λ_ _ _ _ _ _=>rfl⟩;have I:∀k b,Hd M O (upd D (F.d+i) D') V (λ_=>False) Z k b->k≠ .lg/\∃k1,Hd M O D V G Z k1 b/\(k1=k\/(k=.wk i/\k1=.lg)):=by
  intro k b H;cases k with
  |wk m=>
   refine⟨X0,?_⟩;obtain⟨U,A,f,C⟩:=H;obtain rfl:=Md.bO hF A;by_cases e:m=i
   .subst e;rw[upd_same,hO]at C;obtain C|C:=C
    .exact⟨.wk m,⟨F,hF,f,C⟩,.inl rfl⟩
    .exact⟨.lg,C,.inr ⟨rfl,rfl⟩⟩
   .rw[upd_ne D _ Q0]at C;exact⟨.wk m,⟨F,hF,f,C⟩,.inl rfl⟩
  |lg=>exact H.elim
  |st=>exact⟨X0,.st,H,.inl rfl⟩
  |c=>exact⟨X0,.c,H,.inl rfl⟩
  |v=>exact⟨X0,.v,H,.inl rfl⟩
  |sh=>exact⟨X0,.sh,H,.inl rfl⟩
  |lb=>exact⟨X0,.lb,H,.inl rfl⟩
  |lz=>exact⟨X0,.lz,H,.inl rfl⟩
 have sep':Sep M O (upd D (F.d+i) D') V (λ_=>False) Z w:=by
  refine⟨λk b H=>?_,λk k' b H Jo=>?_,Q.wg,Q.n,Q.pay,λU A m f b C=>?_,λU A m i'' f aaY X h2=>?_,λU A m f E=>?_⟩
  .obtain⟨_,k1,X,_⟩:=I k b H;exact Q.bd k1 b X
  .obtain⟨n1,k1,X,e1⟩:=I k b H;obtain⟨n2,k2,h2,e2⟩:=I k' b Jo;obtain rfl:=Q.un _ _ _ X h2;obtain rfl|⟨rfl,rfl⟩:=e1<;>obtain e2|⟨e2,e3⟩:=e2
   .exact e2
   .exact aF e3 n1
   .exact aF e2.symm n2
   .rw[e2]
  all_goals obtain rfl:=Md.bO hF A
  .by_cases e:m=i
   .subst e;rw[upd_same,hZ]at C;exact C
   .rw[upd_ne D _ Q0]at C;exact Q.zz F hF m f b C
  .rw[K m f X,K i'' aaY h2]
  .obtain rfl:=K m f E;rw[upd_same,hZ];exact⟨λ_ h=>h,λ_ h=>h⟩
 have R:MemOp.ofEvents (F.d+i+1) fn pos #[Go.ConcR.mk (.acquire L.mu)]=#[{g:=F.d+i+1,fn:=fn,pos:=pos,act:=.mark (.acquire L.mu)}]:=by rw[ofEvents_eq];simp[ofEvent_mk]
 have hal:tV M (F.d+i+1):=.inr ⟨F,i,hF,hi,rfl⟩;have UC:Deaf t (F.d+i+1)=0:=by rw[h.deafW _ M6];exact hd
 obtain⟨p0,hp,tk⟩:=h.tk F L hF hL;have nrl:∀k,p0<=k->(t++#[({g:=F.d+i+1,fn:=fn,pos:=pos,act:=.mark (.acquire L.mu)}:MemOp)]).act? k≠some (.mark (.release L.mu)):=(tk.app (u:=#[{g:=F.d+i+1,fn:=fn,pos:=pos,act:=.mark (.acquire L.mu)}]) (λop o x q=>by simp at o;subst o;cases q) (λop o=>by simp at o;subst o;simp)).Qh
 have J:∀{j x},touchAt (t++#[({g:=F.d+i+1,fn:=fn,pos:=pos,act:=.mark (.acquire L.mu)}:MemOp)]) j=some x->(UA M D G x.loc\/(ZY Z x.loc/\x.write=true))->Knows (t++#[({g:=F.d+i+1,fn:=fn,pos:=pos,act:=.mark (.acquire L.mu)}:MemOp)]) (F.d+i+1) j:=by intro j x q p;have q:=uN rfl q;refine KL.acquire (Al:=tV M) (p0:=p0) (z:={g:=F.d+i+1,fn:=fn,pos:=pos,act:=.mark (.acquire L.mu)}) ?_ rfl UC hal nrl;exact p.elim (tk.gd j x q) λy=>tk.fz j x q y.1 y.2
 have B:TL (wZ V) (BM M) (tV M) (Wp M O D) (Rp M D) (t++#[{g:=F.d+i+1,fn:=fn,pos:=pos,act:=.mark (.acquire L.mu)}]):=h.tl.app Q.Xe (g:=F.d+i+1) λop o=>by simp at o;subst o;exact⟨rfl,λx q=>by cases q⟩
 have Z7:∀l,L.gd l\/WB G l->UA M D G l:=λl p=>⟨F,L,hF,hL,S,p⟩;refine h.stepW hF hi D' (g₁:=g') (es:=#[Go.ConcR.mk (.acquire L.mu)]) (aS _) rfl (st.rely Q hF hi (aS _) (λ_ _ _ _ _ h=>h) λ_ _ h=>h) sep' ?_ .run ws (λ_ L' W1 _ hM=>⟨W1,hM⟩) ?_ (λL' N p1 hp1 q=>?_) (λe he x b q=>by simp at he;subst he;cases q) (λe he=>by simp at he;subst he;simp[Go.ConcR.mk]) (by rw[hd,hd'];rfl) (λh6=>Q0)
 .intro U L' A N;obtain rfl:=Md.bO hF A;obtain rfl:=jA hL N;have e:(λm=>(upd D (F.d+i) D' (F.d+m)).T)=λm=>(D (F.d+m)).T:=funext λm=>eT _;exact⟨W,s,a.at_,by rw[e];exact a.li,by rw[e];exact a.ka,a.sm,λm f E=>by obtain rfl:=K m f E;rw[upd_same];exact hT',λhno=>by have:=hno i hi;rw[upd_same,how]at this;cases this⟩
 .rw[R];refine⟨B.quiet,B.mx,λg l p j x q e=>?_,λg l p j x q e hw=>?_,B.nr⟩
  .obtain⟨rfl,p⟩|⟨U,m,A,f,rfl,p⟩:=p
   .exact B.w 0 l (.inl ⟨rfl,p⟩) j x q e
   .obtain rfl:=Md.bO hF A;by_cases e':m=i
    .subst e';rw[upd_same]at p;obtain p|p|⟨L',N,_,p⟩:=p
     .obtain⟨b,C,E⟩:=p.blk;rw[hO]at E;obtain E|E:=E
      .exact B.w _ l (.inr ⟨F,m,hF,f,rfl,.inl (WB.ql C E)⟩) j x q e
      .exact J q (.inl (Z7 _ (.inr (by rw[e];exact WB.ql C E))))
     .exact B.w _ l (.inr ⟨F,m,hF,f,rfl,.inr (.inl p)⟩) j x q e
     .obtain rfl:=jA hL N;exact J q (.inl (Z7 _ (.inl (by rw[e];exact p))))
    .rw[upd_ne D _ Q0]at p;exact B.w _ l (.inr ⟨F,m,hF,f,rfl,p⟩) j x q e
  .obtain p|p|⟨U,m,c,A,f,rfl,rfl,hz⟩:=p
   .exact B.r g l (.inl p) j x q e hw
   .exact B.r g l (.inr (.inl p)) j x q e hw
   .obtain rfl:=Md.bO hF A;by_cases e':m=i
    .subst e';rw[upd_same,hZ]at hz;exact J q (.inr ⟨by rw[e];exact⟨c,rfl,hz⟩,hw⟩)
    .rw[upd_ne D _ Q0]at hz;exact B.r _ _ (.inr (.inr ⟨F,m,c,hF,f,rfl,rfl,hz⟩)) j x q e hw
 .rw[R];refine(q.app (u:=#[{g:=F.d+i+1,fn:=fn,pos:=pos,act:=.mark (.acquire L.mu)}]) (λop o x q=>by simp at o;subst o;cases q) (λop o=>by simp at o;subst o;simp)).turn (λg hg=>hg) (λl p=>?_) λl p=>p;obtain⟨U,L',X,h2,h3,h4⟩:=p;obtain rfl:=Md.bO hF X;have:=h3 i hi;rw[upd_same,how]at this;cases this
theorem Cm.give{G:aD}(h:Cm P ty M O gs w t D bs V κ G Z)(hF:M.ph=some F)(C:i<M.cur)(hL:F.lk=some L)(D':nP){Gn Z1:aD}(hT:(D (F.d+i)).T=.hold)(hT':D'.T=.hold)(hoo:(D (F.d+i)).ow=true)(how:D'.ow=false)(hZ:D'.Z=λb=>(D (F.d+i)).Z b\/Z1 b)(X:WgLive ty F.Wg w)
 (hj:L.J Gn (λb=>(D (F.d+i)).Z b\/Z1 b) w)(hG:∀b,Gn b->(D (F.d+i)).O b/\¬Z1 b)(U:∀b,Z1 b->(D (F.d+i)).O b)(hO:∀b,D'.O b->(D (F.d+i)).O b/\¬Gn b/\¬Z1 b)
 (hd:(D (F.d+i)).deaf=0)(hd':D'.deaf=0)(ws:WS P ty F i D' κ g' w)(hst:7<=D'.stage):
 Cm P ty M O ((gs.map (woken P g g' w)).setIfInBounds (F.d+i+1) g') w (t++MemOp.ofEvents (F.d+i+1) fn pos #[Go.ConcR.mk (.releaseMerge L.mu)]) (upd D (F.d+i) D') (upd (λk=>if wakes P g g' then 1 else bs k) (F.d+i) 1) V κ Gn (λb=>(D (F.d+i)).Z b\/Z1 b):=by
 have y:=h.sep;obtain⟨W,s,a⟩:=h.lk F L hF hL;obtain⟨noG,aeg⟩:=y.og F hF i C hoo;have eT:∀k,(upd D (F.d+i) D' k).T=(D k).T:=λk=>by
  by_cases e:k=F.d+i
  .subst e;rw[upd_same,hT,hT']
  .rw[upd_ne D _ e]
 have K:∀m,m<M.cur->(upd D (F.d+i) D' (F.d+m)).ow=false:=λm f=>by
  by_cases e:m=i
  .subst e;rw[upd_same];exact how
  .rw[upd_ne D _ Q0];cases e2:(D (F.d+m)).ow with
   |false=>rfl
   |true=>exact aF (y.ou F hF m i f C e2 hoo) e
 have st:iH ty F i (D (F.d+i)) w w:=⟨aS _,λ_ _ _ _ _ _=>rfl,.refl _,rfl,X,y.pay F hF,λ_ _=>rfl,λ_ _ _ _ _ _=>rfl⟩;have E:∀k b,Hd M O (upd D (F.d+i) D') V Gn (λb=>(D (F.d+i)).Z b\/Z1 b) k b->(Hd M O D V G Z k b/\k≠ .wk i)\/(Hd M O D V G Z (.wk i) b/\((k=.wk i/\¬Gn b/\¬Z1 b)\/(k=.lg/\Gn b/\¬Z1 b)\/(k=.lz/\Z1 b/\¬Gn b))):=by
  intro k b v;cases k with
  |wk m=>
   obtain⟨R,p,f,A⟩:=v;obtain rfl:=Md.bO hF p;by_cases e:m=i
   .subst e;rw[upd_same]at A;obtain⟨z,N,h3⟩:=hO b A;exact .inr ⟨⟨F,hF,f,z⟩,.inl ⟨rfl,N,h3⟩⟩
   .rw[upd_ne D _ Q0]at A;exact .inl ⟨⟨F,hF,f,A⟩,λx=>e (by cases x;rfl)⟩
  |lg=>exact .inr ⟨⟨F,hF,C,(hG b v).1⟩,.inr (.inl ⟨rfl,v,(hG b v).2⟩)⟩
  |lz=>
   obtain v|v:=v
   .exact .inl ⟨y.zz F hF i C b v,X0⟩
   .exact .inr ⟨⟨F,hF,C,U b v⟩,.inr (.inr ⟨rfl,v,λx=>(hG b x).2 v⟩)⟩
  |_=>exact .inl ⟨v,X0⟩
 have sep':Sep M O (upd D (F.d+i) D') V Gn (λb=>(D (F.d+i)).Z b\/Z1 b) w:=by
  refine⟨λk b v=>?_,λk k' b v Jo=>?_,y.wg,y.n,y.pay,λR p m f b A=>?_,λR p m i'' f aaY z N=>?_,λR p m f Y=>?_⟩
  .obtain⟨z,_⟩|⟨z,_⟩:=E k b v<;>exact y.bd _ b z
  .obtain⟨z,n1⟩|⟨z,e1⟩:=E k b v<;>obtain⟨N,n2⟩|⟨N,e2⟩:=E k' b Jo
   .exact y.un _ _ _ z N
   .exact aF (y.un _ _ _ z N) n1
   .exact aF (y.un _ _ _ N z) n2
   .obtain⟨rfl,a1,a2⟩|⟨rfl,a1,a2⟩|⟨rfl,a1,a2⟩:=e1<;>obtain⟨rfl,b1,b2⟩|⟨rfl,b1,b2⟩|⟨rfl,b1,b2⟩:=e2<;>first|rfl|contradiction
  all_goals obtain rfl:=Md.bO hF p
  .by_cases e:m=i
   .subst e;rw[upd_same,hZ]at A;exact A
   .rw[upd_ne D _ Q0]at A;exact .inl (aeg b (y.zz F hF m f b A))
  .rw[K m f]at z;cases z
  .rw[K m f]at Y;cases Y
 have Q:MemOp.ofEvents (F.d+i+1) fn pos #[Go.ConcR.mk (.releaseMerge L.mu)]=#[{g:=F.d+i+1,fn:=fn,pos:=pos,act:=.mark (.releaseMerge L.mu)}]:=by rw[ofEvents_eq];simp[ofEvent_mk]
 have UC:Deaf t (F.d+i+1)=0:=by rw[h.deafW _ M6];exact hd
 have tlA:TL (wZ V) (BM M) (tV M) (Wp M O D) (Rp M D) (t++#[{g:=F.d+i+1,fn:=fn,pos:=pos,act:=.mark (.releaseMerge L.mu)}]):=h.tl.app y.Xe (g:=F.d+i+1) λop r=>by simp at r;subst r;exact⟨rfl,λx I=>by cases I⟩
 refine h.stepW hF C D' (g₁:=g') (es:=#[Go.ConcR.mk (.releaseMerge L.mu)]) (aS _) rfl (st.rely y hF C (aS _) (λ_ _ _ _ _ h=>h) λ_ _ h=>h) sep' ?_ .run ws (λ_ L' W1 _ hM=>⟨W1,hM⟩) ?_ (λL' S p1 hp1 I=>?_) (λe he x b I=>by simp at he;subst he;cases I) (λe he=>by simp at he;subst he;simp[Go.ConcR.mk]) (by rw[hd,hd'];rfl) (λh6=>Q0)
 .intro R L' p S;obtain rfl:=Md.bO hF p;obtain rfl:=jA hL S;have e:(λm=>(upd D (F.d+i) D' (F.d+m)).T)=λm=>(D (F.d+m)).T:=funext λm=>eT _;exact⟨W,s,a.at_,by rw[e];exact a.li,by rw[e];exact a.ka,a.sm,λm f Y=>by{rw[K m f]at Y;cases Y},λ_=>hj⟩
 .rw[Q];refine tlA.turn (λl o=>.inl o) (λl o=>.inl ⟨o,λ_ h=>h⟩) (λg l o=>.inl ?_) (λg l o=>?_)
  .obtain⟨rfl,o⟩|⟨R,m,p,f,rfl,o⟩:=o
   .exact .inl ⟨rfl,o⟩
   .obtain rfl:=Md.bO hF p;refine .inr ⟨F,m,hF,f,rfl,?_⟩;rw[K m f]at o;obtain o|o|⟨_,_,o,_⟩:=o
    .left;by_cases e:m=i
     .subst e;rw[upd_same]at o;obtain⟨b,A,Y⟩:=o.blk;exact WB.ql A (hO b Y).1
     .rwa[upd_ne D _ Q0]at o
    .exact .inr (.inl o)
    .cases o
  .obtain o|o|⟨R,m,c,p,f,rfl,rfl,B⟩:=o
   .exact .inl (.inl o)
   .exact .inl (.inr (.inl o))
   .obtain rfl:=Md.bO hF p;by_cases e':m=i
    .subst e';rw[upd_same,hZ]at B;obtain B|B:=B
     .exact .inl (.inr (.inr ⟨F,m,c,hF,f,rfl,rfl,B⟩))
     .exact .inr (.inr ⟨F,m,hF,f,rfl,.inl (U _ B)⟩)
    .rw[upd_ne D _ Q0]at B;exact .inl (.inr (.inr ⟨F,m,c,hF,f,rfl,rfl,B⟩))
 .obtain rfl:=jA hL S;rw[Q];have H:∀{j x},touchAt t j=some x->Wp M O D (F.d+i+1) x.loc->KL (tV M) L.mu p1 (t++#[({g:=F.d+i+1,fn:=fn,pos:=pos,act:=.mark (.releaseMerge L.mu)}:MemOp)]) j:=λI hw=>KL.release (h.tl.w _ _ hw _ _ I rfl) rfl rfl UC hp1;refine⟨λj x q o=>?_,λj x q o hw=>?_,?_⟩
  .have q:=uN rfl q;obtain⟨R,L',z,N,_,h4⟩:=o;obtain rfl:=Md.bO hF z;obtain rfl:=jA hL N;obtain h4|h4:=h4
   .exact H q (.inr ⟨F,i,hF,C,rfl,.inr (.inr ⟨L,hL,hoo,h4⟩)⟩)
   .obtain⟨b,A,X7⟩:=h4.blk;exact H q (.inr ⟨F,i,hF,C,rfl,.inl (WB.ql A (hG b X7).1)⟩)
  .have q:=uN rfl q;obtain⟨c,hc,B|B⟩:=o
   .exact(I.fz j x q ⟨c,hc,y.zz F hF i C _ B⟩ hw).app _
   .exact H q (.inr ⟨F,i,hF,C,rfl,.inl (by rw[hc];exact U _ B)⟩)
  .exact(I.app (u:=#[{g:=F.d+i+1,fn:=fn,pos:=pos,act:=.mark (.releaseMerge L.mu)}]) (λop r x I=>by simp at r;subst r;cases I) (λop r=>by simp at r;subst r;simp)).Qh
theorem Cm.UD{G:aD}(h:Cm P ty M O gs w t D bs V κ G Z){k:Nat}(hk:k<M.old)(J:∀e∈es,Event.mute e=true)(hq:QuitsD P q (deafBehind (D k).deaf es) g'):
 Cm P ty M O ((gs.map (woken P g g' w)).setIfInBounds (k+1) g') w (t++MemOp.ofEvents (k+1) fn pos es) (upd D k ⟨(D k).O,(D k).v,(D k).stage,nat q,deafBehind (D k).deaf es,(D k).T,(D k).ow,(D k).Z⟩) (upd (λk=>if wakes P g g' then 1 else bs k) k 1) V κ G Z:=by
 have s:=h.sep;have p:∀e∈es,e.loc=.mark .disable\/e.loc=.mark .enable:=λe A=>by
  have:=J e A;obtain⟨l,a,b⟩:=e;unfold Event.mute at this
  split at this<;>rename_i f
  .cases f;exact .inl rfl
  .cases f;exact .inr rfl
  .cases this
 have opsE:∀op∈MemOp.ofEvents (k+1) fn pos es,op.g=k+1/\op.act.touch?=none:=by intro op o;rw[ofEvents_eq]at o;obtain⟨e,A,rfl⟩:=Array.mem_map.1 o;refine⟨rfl,?_⟩;obtain y|y:=p e A<;>(simp only[ofEvent_loc_mark y];rfl)
 have same:∀F,M.ph=some F->∀i,upd D k ⟨(D k).O,(D k).v,(D k).stage,nat q,deafBehind (D k).deaf es,(D k).T,(D k).ow,(D k).Z⟩ (F.d+i)=D (F.d+i):=λF hF i=>upd_ne D _ M6;have z:Sep M O (upd D k ⟨(D k).O,(D k).v,(D k).stage,nat q,deafBehind (D k).deaf es,(D k).T,(D k).ow,(D k).Z⟩) V G Z w:=by
  refine s.wH (k0:=.st) (λB b m=>.inl ?_) (aS _) s.wg s.n s.pay (λF hF i u b=>by rw[same F hF];exact s.zz F hF i u b) (λF hF i i'=>by rw[same F hF,same F hF];exact s.ou F hF i i') (λF hF i=>by rw[same F hF];exact s.og F hF i);cases B with
  |wk i'=>obtain⟨F,hF,u,Y⟩:=m;rw[same F hF]at Y;exact⟨F,hF,u,Y⟩
  |_=>exact m
 have U:TL (wZ V) (BM M) (tV M) (Wp M O (upd D k ⟨(D k).O,(D k).v,(D k).stage,nat q,deafBehind (D k).deaf es,(D k).T,(D k).ow,(D k).Z⟩)) (Rp M (upd D k ⟨(D k).O,(D k).v,(D k).stage,nat q,deafBehind (D k).deaf es,(D k).T,(D k).ow,(D k).Z⟩)) t:=by
  refine h.tl.turn (λl c=>.inl c) (λl c=>.inl ⟨c,λ_ h=>h⟩) (λg l c=>.inl ?_) (λg l c=>.inl ?_)
  .obtain c|⟨F,i,hF,u,rfl,c⟩:=c
   .exact .inl c
   .rw[same F hF]at c;exact .inr ⟨F,i,hF,u,rfl,c⟩
  .obtain c|c|⟨F,i,a,hF,u,rfl,e,c⟩:=c
   .exact .inl c
   .exact .inr (.inl c)
   .rw[same F hF]at c;exact .inr (.inr ⟨F,i,a,hF,u,rfl,e,c⟩)
 refine⟨z,h.out,by simp[h.size],λB m=>?_,λF hF i u=>?_,U.app z.Xe (g:=k+1) λop o=>⟨(opsE op o).1,λx f=>by{rw[(opsE op o).2]at f;cases f}⟩,λF L hF K=>?_,λF L hF K=>?_,xM (n:=0) h.bd (aS _) λop o x b f=>by{rw[(opsE op o).2]at f;cases f},by rw[Deaf_other t Q0 _ g_of_ofEvents,h.deaf0],λB m=>?_,qm h.S9 λop o=>by rw[(opsE op o).1];omega,λF hF=>?_,uM h.ho λop o _ _=>(opsE op o).2,xL h.kn λop o _ _=>(opsE op o).2⟩
 .by_cases e:B=k
  .subst e;exact⟨g',q,get_map_set_same _ _ _ (by rw[h.size];omega),by rw[upd_same];exact hq,by rw[upd_same]⟩
  .obtain⟨x,q',f,E,R⟩:=h.old B m;refine⟨x,q',?_,by rw[upd_ne D _ e];exact E,by rw[upd_ne D _ e];exact R⟩;rw[get_map_set _ _ _ _ Q0,f,gq]
   congr 1
   unfold Go.Conc.woken
   split
   .exact again_running _ E.status
   .rfl
 .obtain⟨x,f,I⟩:=h.cur F hF i u;have:=Md.kD hF;rw[same F hF,get_map_set _ _ _ _ Q0,upd_ne _ _ Q0];exact⟨x,f.other I.status λ_ L W _ hM=>⟨W,hM⟩,I⟩
 .obtain⟨p0,hp,f⟩:=h.tk F L hF K;refine⟨p0,by simp;omega,(f.app (λop o x f=>by{rw[(opsE op o).2]at f;cases f}) λop o e=>?_).turn (λ_ h=>h) (λl c=>?_) λl c=>c⟩
  .rw[ofEvents_eq]at o;obtain⟨e',A,rfl⟩:=Array.mem_map.1 o;have:=Go.ConcR.loc_of_ofEvent e;obtain y|y:=p e' A<;>rw[y]at this<;>cases this
  .obtain⟨X,L',y,h2,h3,h4⟩:=c;exact⟨X,L',y,h2,λi u=>by have:=h3 i u;rwa[same X y]at this,h4⟩
 .obtain⟨W,s',a⟩:=h.lk F L hF K;have e:∀i,upd D k ⟨(D k).O,(D k).v,(D k).stage,nat q,deafBehind (D k).deaf es,(D k).T,(D k).ow,(D k).Z⟩ (F.d+i)=D (F.d+i):=same F hF;exact⟨W,s',a.at_,by simpa only[e]using a.li,by simpa only[e]using a.ka,a.sm,by simpa only[e]using a.ow,by simpa only[e]using a.j⟩
 .by_cases e:B=k
  .subst e;rw[Deaf_own,h.deafW _ m,upd_same]
  .rw[Deaf_other t Q0 _ g_of_ofEvents,h.deafW B m,upd_ne D _ e]
 .obtain⟨p0,hp,N,C⟩:=h.rel F hF;refine⟨p0,by simp;omega,sH N λe A=>by{obtain y|y:=p e A<;>rw[y]<;>simp},λi u H=>?_⟩;rw[same F hF]at H;obtain⟨r,Q,R,S⟩:=C i u H;have:=Md.kD hF;exact⟨r,Q,R.app λop o hg=>by rw[(opsE op o).1]at hg;omega,S.appOther g_of_ofEvents Q0⟩
def OkS(M:Md)(V:aD)(O:aD)(e:Event):Prop:=∀x,(MemAct.ofEvent e).touch?=some x->x.loc.isMemory=true->(wZ V x.loc/\x.kind≠ .plain)\/WB O x.loc\/∃a,x.loc=.cell a/\M.Sh a.block/\x.write=false
theorem Cm.step0{G:aD}(h:Cm P ty M O gs w t D bs V κ G Z)(p:M'.ph=M.ph)(hold:M'.old=M.old)(d:M'.cur=M.cur)
 (U:w.heap.size<=w'.heap.size)(frame:∀b,b<w.heap.size->¬O b->¬(∃F,M.ph=some F/\b=F.Wg)->w'.heap[b]? =w.heap[b]?)(os:w'.os=w.os/\w'.output=w.output)
 (live:M.live ty w')(S:∀b,O' b->O b\/w.heap.size<=b)(Xg:∀b,O' b->b<w'.heap.size)
 (ok:∀e∈es,OkS M V O' e)(nra:∀e∈es,∀a,e.loc≠ .mark (.release a))(deaf:deafBehind M.df es=M'.df):
 Cm P ty M' O' ((gs.map (woken P g g' w')).setIfInBounds 0 g') w' (t++MemOp.ofEvents 0 fn pos es) D (λk=>if wakes P g g' then 1 else bs k) V κ G Z:=by
 have s:=h.sep;have R:∀b,b<w.heap.size->¬O b->¬V b->w'.heap[b]? =w.heap[b]? :=λb h1 h2 h4=>frame b h1 h2 λ⟨F,f,e⟩=>h4 (e▸s.wg F f);have T:∀F,M.ph=some F->w'.heap[F.C]? =w.heap[F.C]? :=λF f=>R _ (s.c F f).1 (s.c F f).2.2 (s.c F f).2.1;have aiO:∀b,O' b->¬O b->w.heap.size<=b:=λb m hn=>(S b m).resolve_left hn;have H:Sep M' O' D V G Z w':=by
  refine s.wH (k0:=.st) (λk b E=>?_) U (by rw[p];exact s.wg) (by rw[p,d];exact s.n) (λF f=>?_) (by rw[p,d];exact s.zz) (by rw[p,d];exact s.ou) (by rw[p,d];exact s.og)
  .cases k with
   |st=>exact(S b E).imp id λx=>⟨rfl,x,Xg b E⟩
   |wk i=>obtain⟨F,f,K,m⟩:=E;exact .inl ⟨F,by rw[<-p];exact f,by rw[<-d];exact K,m⟩
   |c=>obtain⟨F,f,m⟩:=E;exact .inl ⟨F,by rw[<-p];exact f,m⟩
   |sh=>exact .inl (E.imp id λ⟨F,f,m⟩=>⟨F,by rw[<-p];exact f,m⟩)
   |lb=>obtain⟨F,L,f,m⟩:=E;exact .inl ⟨F,L,by rw[<-p];exact f,m⟩
   |v=>exact .inl E
   |lg=>exact .inl E
   |lz=>exact .inl E
  .rw[p]at f;obtain⟨cs,hc,hn⟩:=s.pay F f;exact⟨cs,(T F f).trans hc,hn⟩
 have u:∀{k b},Hd M O D V G Z k b->k≠ .st->k≠ .v->w'.heap[b]? =w.heap[b]? :=λE h1 h2=>R _ (s.bd _ _ E) (λY=>h1 (s.un _ .st _ E Y)) λhv=>h2 (s.un _ .v _ E hv);have opsE:∀op∈MemOp.ofEvents 0 fn pos es,op.g=0/\∃e∈es,op.act=.ofEvent e:=by intro op o;rw[ofEvents_eq]at o;obtain⟨e,N,rfl⟩:=Array.mem_map.1 o;exact⟨rfl,e,N,rfl⟩
 have tl':TL (wZ V) (BM M') (tV M') (Wp M' O' D) (Rp M' D) t:=by
  refine h.tl.turn (λl A=>.inl A) (λl A=>.inl ⟨by simpa only[BM,p]using A,λg X=>by simpa only[tV,p,d]using X⟩) (λg l A=>?_) (λg l A=>.inl ?_)
  .obtain⟨rfl,A|⟨F,i,f,K,A⟩⟩|⟨F,i,f,K,rfl,A⟩:=A
   .obtain⟨b,m,Y⟩:=A.blk;obtain Y|Y:=S b Y
    .exact .inl (.inl ⟨rfl,.inl (WB.ql m Y)⟩)
    .right;intro k a J e;have:=h.bd k a b J (by rw[e];exact m);omega
   .exact .inl (.inl ⟨rfl,.inr ⟨F,i,by rw[<-p];exact f,by rw[<-d];exact K,A⟩⟩)
   .exact .inl (.inr ⟨F,i,by rw[<-p];exact f,by rw[<-d];exact K,rfl,A⟩)
  .simpa only[Rp,p,d]using A
 refine⟨H,os.2.trans h.out,by simp[h.size,hold,d],λk E=>?_,λF f i K=>?_,tl'.app H.Xe (g:=0) λop o=>?_,λF L f I=>?_,λF L f I=>?_,xM (n:=0) h.bd U λop o x b Q m=>?_,by rw[Deaf_own,h.deaf0];exact deaf,λk E=>?_,qm (by rw[hold,d];exact h.S9) λop o=>by rw[(opsE op o).1];omega,λF f=>?_,by rw[hold];exact uM h.ho λop o h1 h2=>by rw[(opsE op o).1]at h1;omega,by rw[hold];exact xL h.kn λop o h1 h2=>by rw[(opsE op o).1]at h1;omega⟩
 .rw[hold]at E;obtain⟨x,q,Q,hq,hr⟩:=h.old k E;refine⟨x,q,?_,hq,hr⟩;rw[get_map_set _ _ _ _ Q0,Q,gq]
  congr 1
  unfold Go.Conc.woken
  split
  .exact again_running _ hq.status
  .rfl
 .rw[p]at f;rw[d]at K;obtain⟨x,Q,hsx⟩:=h.cur F f i K;rw[get_map_set _ _ _ _ Q0];have Z9:∀L,F.lk=some L->w'.heap[L.B]? =w.heap[L.B]? :=λL I=>u (k:=.lb) ⟨F,L,f,I,rfl⟩ X0 X0;have mu:∀L,F.lk=some L->∀W s,MuAt L W s w->MuAt L W s w':=λL I W s hM=>hM.of_block (Z9 L I);refine⟨x,Q.other hsx.status λ_ L W I hM=>⟨W,mu L I W 0 hM⟩,hsx.rely ⟨⟨U,λb m=>?_,.of os.1⟩,⟨λb m=>aF m (dO b),λ_=>live F f,λ_=>?_,cell_of_block (T F f) i⟩,aS _,λL I _=>mu L I,λL I _ j _ _=>cell_of_block (Z9 L I) j,λL I⟨W,s,h⟩=>⟨W,s,mu L I W s h⟩⟩⟩
  .obtain m|m|m:=m
   .exact u (k:=.wk i) ⟨F,f,K,m⟩ X0 X0
   .exact u (k:=.sh) (.inr ⟨F,f,m⟩) X0 X0
   .exact u (k:=.lz) (s.zz F f i K b m) X0 X0
  .obtain⟨cs,hc,hn⟩:=s.pay F f;exact⟨cs,(T F f).trans hc,hn⟩
 .obtain⟨X,e,N,y⟩:=opsE op o;refine⟨X,λx Q hm=>?_⟩;rw[y]at Q;obtain⟨a,b⟩|hw|⟨a,J,hz|⟨F,f,hs⟩,hw⟩:=ok e N x Q hm
  .exact .inl ⟨a,b,λ_=>rfl⟩
  .exact .inr (.inl (.inl ⟨rfl,.inl hw⟩))
  .exact .inr (.inr (.inl ⟨.inl ⟨rfl,a,J,hz⟩,hw⟩))
  .exact .inr (.inr (.inl ⟨.inr (.inl ⟨F,a,by rw[p];exact f,J,hs,.inl rfl⟩),hw⟩))
 .rw[p]at f;obtain⟨p0,hp,Q⟩:=h.tk F L f I;refine⟨p0,by simp;omega,(Q.app (λop o x SX=>?_) λop o e=>?_).turn (λg X=>by simpa only[tV,p,d]using X) (λl A=>by simpa only[UA,p,d]using A) λl A=>A⟩
  .obtain⟨_,e,N,y⟩:=opsE op o;rw[y]at SX;have key:x.loc.isMemory=true->∃b k,blk x.loc=some b/\Hd M' O' D V G Z k b/\(k=.v\/k=.st\/k=.sh):=λhm=>by
    obtain⟨⟨a,J,hv⟩,_⟩|hw|⟨a,J,hz,_⟩:=ok e N x SX hm
    .exact⟨a.block,.v,by rw[J];rfl,hv,.inl rfl⟩
    .obtain⟨b,m,Y⟩:=hw.blk;exact⟨b,.st,m,Y,.inr (.inl rfl)⟩
    .exact⟨a.block,.sh,by rw[J];rfl,hz.imp id λ⟨F,f,hs⟩=>⟨F,by rw[p];exact f,hs⟩,.inr (.inr rfl)⟩
   have no:∀{k' b'},blk x.loc=some b'->Hd M' O' D V G Z k' b'->k'≠ .v->k'≠ .st->k'≠ .sh->False:=λm Jo h1 h2 h3=>by
    obtain⟨b,k,hb2,E,h⟩:=key (wu m);rw[m]at hb2;cases hb2;obtain rfl:=H.un _ _ _ E Jo;obtain h|h|h:=h
    .exact h1 h
    .exact h2 h
    .exact h3 h
   refine⟨λZ7=>?_,λ⟨c,hc,hz⟩=>(no (k':=.lz) (by rw[hc];rfl) hz X0 X0 X0).elim⟩;obtain⟨F',L',Xh,Eb,_,A⟩:=Z7;obtain⟨j,_,_,A⟩|A:=A
   .exact no (k':=.lb) (by rw[A];rfl) ⟨F',L',by rw[p];exact Xh,Eb,rfl⟩ X0 X0 X0
   .obtain⟨b,m,X⟩:=A.blk;exact no (k':=.lg) m X X0 X0 X0
  .obtain⟨_,e',N,y⟩:=opsE op o;rw[y]at e;exact nra e' N _ (Go.ConcR.loc_of_ofEvent e)
 .rw[p]at f;obtain⟨W,s',a⟩:=h.lk F L f I;have hB:=u (k:=.lb) ⟨F,L,f,I,rfl⟩ X0 X0;refine⟨W,s',a.at_.of_block hB,by rw[d];exact a.li,by rw[d];exact a.ka,a.sm,by rw[d];exact a.ow,λhno=>L.iG G Z w w' (λb m=>?_) (λj _ _=>cell_of_block hB j) (a.j (by rw[<-d];exact hno))⟩;obtain m|m:=m
  .exact u (k:=.lg) m X0 X0
  .exact u (k:=.lz) m X0 X0
 .obtain⟨X,e,N,y⟩:=opsE op o;rw[y]at Q;obtain⟨⟨a,J,hv⟩,_⟩|hw|⟨a,J,hz|⟨F,f,hs⟩,hw⟩:=ok e N x Q (wu m)
  .rw[J]at m;cases m;exact H.v _ hv
  .obtain⟨b',X8,Y⟩:=hw.blk;rw[m]at X8;cases X8;exact Xg b Y
  .rw[J]at m;cases m;rw[hz];exact H.z.1
  .rw[J]at m;cases m;exact(H.sh F (by rw[p];exact f) _ hs).1
 .rw[hold,d]at E;rw[Deaf_other t Q0 _ g_of_ofEvents,h.deafW k E]
 .rw[p]at f;obtain⟨p0,hp,hnr,xP⟩:=h.rel F f;refine⟨p0,by simp;omega,sH hnr λe N=>nra e N _,λi K hst=>?_⟩;rw[d]at K;obtain⟨r,Ta,hr,Ya⟩:=xP i K hst;exact⟨r,Ta,hr.app λop o X=>by rw[(opsE op o).1]at X;omega,Ya.appOther g_of_ofEvents Q0⟩
def c5(s:Nat):Nat:=if 5<=s then 1 else 0
def Vs(j:Nat)(s:Nat->Nat):Nat:=sumTo j λi=>c5 (s i)
def yE(j:Nat)(s:Nat->Nat):Prop:=∀i,i<j->5<=s i\/s i=1
def Yb(j:Nat)(s:Nat->Nat):Prop:=∀i,i<j->s i=1
inductive WM:Md->(Nat->Nat)->Int->Int->Prop
 |opn {F:Ph} {j p B df:Nat} {s:Nat->Nat}:yE j s->Vs j s+p<=B->j+p<=F.n->WM (.opn F j p B df) s (((Vs j s+p:Nat):Int)*KK) 0
 |w2 {F:Ph} {vs:Nat} {s:Nat->Nat}:yE F.n s->Vs F.n s<=vs->1<=vs->WM (.w2 F vs) s (((Vs F.n s:Nat):Int)*KK) 0
 |reg {F:Ph} {s:Nat->Nat}:yE F.n s->1<=Vs F.n s->WM (.w3 F) s (((Vs F.n s:Nat):Int)*KK+1) 0
 |last {F:Ph} {s:Nat->Nat} (L:Nat):L<F.n->(s L=4\/s L=3\/s L=2)->(∀i,i<F.n->i≠L->s i=1)->WM (.w3 F) s (if s L=2 then 0 else 1) 0
 |sema {F:Ph} {s:Nat->Nat}:Yb F.n s->WM (.w3 F) s 0 1
 |fin {F:Ph} {df:Nat} {s:Nat->Nat}:Yb F.n s->WM (.fin F df) s 0 0
theorem Az{j:Nat}(s:Nat->Nat)(x:Nat)(h:i<j):Vs j (upd s i x)+c5 (s i)=Vs j s+c5 x:=sumTo_upd s x c5 h
theorem AA(j:Nat)(s:Nat->Nat):Vs j s<=j:=by
 have:=sumTo_le (f:=λi=>c5 (s i)) (c:=1) (j:=j) λi _=>by simp only[c5];split<;>omega
 simpa[Vs]using this
theorem NG{j:Nat}(g:i<j)(b:Vs j s=1)(d:5<=s i):∀a,a<j->a≠i->c5 (s a)=0:=by
 intro a c e;have h:=Az s 0 g;have k:c5 0=0:=rfl;have l:c5 (s i)=1:=by simp[c5,d]
 have:=le_sumTo (f:=λx=>c5 (upd s i 0 x)) c;simp only[upd_ne s _ e]at this;simp only[Vs]at h b;omega
theorem mW(s:Nat->α)(i:Nat):upd s i (s i)=s:=by funext a;simp only[upd];split<;>simp_all
theorem WM.counted{sm:Int}{x:Nat}(h:WM M s st sm)(hi:i<M.cur)(f:5<=s i)(d:5<=x):WM M (upd s i x) st sm:=by
 have hv:∀j,i<j->Vs j (upd s i x)=Vs j s:=λj k=>by
  have:=Az s x k;have l:c5 (s i)=1:=by simp[c5,f]
  have m:c5 x=1:=by simp[c5,d]
  omega
 have o:∀j,yE j s->yE j (upd s i x):=λj h a g=>by
  by_cases e:a=i
  .subst e;rw[upd_same];exact .inl d
  .rw[upd_ne s _ e];exact h a g
 cases h with
 |opn b h2 c=>simp only[Md.cur]at hi;rw[<-hv _ hi];exact .opn (o _ b) X6 c
 |w2 b h2 c=>simp only[Md.cur]at hi;rw[<-hv _ hi];exact .w2 (o _ b) X6 c
 |reg b h2=>simp only[Md.cur]at hi;rw[<-hv _ hi];exact .reg (o _ b) X6
 |last L b h2 c=>
  by_cases e:i=L
  .subst e;omega
  .have:=c i hi e;omega
 |sema b=>have:=b i hi;omega
 |fin b=>have:=b i hi;omega
theorem WM.isLast{sm:Int}(h:WM M s st sm)(c:i<M.cur)(g:s i=4\/s i=3\/s i=2):
 ∃F,M=.w3 F/\(∀a,a<F.n->a≠i->s a=1)/\st=(if s i=2 then 0 else 1)/\sm=0:=by
 cases h with
 |opn b _ _=>have:=b i c;omega
 |w2 b _ _=>have:=b i c;omega
 |reg b _=>have:=b i c;omega
 |last L b f d=>
  by_cases e:i=L
  .subst e;exact⟨_,rfl,d,rfl,rfl⟩
  .have:=d i c e;omega
 |sema b=>have:=b i c;omega
 |fin b=>have:=b i c;omega
theorem aa0{x:Nat}(h:5<=x):c5 x=1:=aI h
theorem WM.minus{sm:Int}(h:WM M s st sm)(d:i<M.cur)(A:5<=s i):
 sm=0/\∃v wt:Nat,wt<=1/\(∀F,M.ph=some F->v<F.n)/\st=((v:Int)+1)*KK+wt/\(¬(v=0/\wt=1)->WM M (upd s i 1) ((v:Int)*KK+wt) 0)/\((v=0/\wt=1)->WM M (upd s i 4) ((v:Int)*KK+wt) 0):=by
 have E:=aa0 A;have D:c5 1=0:=rfl;have w:∀j,i<j->1<=Vs j s:=λj u=>by have:=le_sumTo (f:=λx=>c5 (s x)) u;simp only[Vs];omega
 have o:∀j,yE j s->yE j (upd s i 1):=λj h a l=>by
  by_cases e:a=i
  .subst e;rw[upd_same];exact .inr rfl
  .rw[upd_ne s _ e];exact h a l
 cases h with
 |@opn F j p B df _ b y r=>
  have g:=w j d;obtain⟨v,m⟩:∃v,Vs j s+p=v+1:=⟨Vs j s+p-1,Q0⟩;have u:=AA j s;have k:Vs j (upd s i 1)+p=v:=by have:=Az s 1 (show i<j from d);omega
  refine⟨rfl,v,0,Q0,λq c=>by{have e:F=q:=gH c;subst e;omega},by rw[m];simp,λ_=>?_,λx=>Q0⟩;have e:((v:Nat):Int)*KK+((0:Nat):Int)=((Vs j (upd s i 1)+p:Nat):Int)*KK:=by rw[k];simp
  rw[e];exact .opn (o _ b) Q0 r
 |@w2 F vs _ b y r=>
  have g:=w F.n d;obtain⟨v,m⟩:∃v,Vs F.n s=v+1:=⟨Vs F.n s-1,Q0⟩;have u:=AA F.n s;have k:Vs F.n (upd s i 1)=v:=by have:=Az s 1 (show i<F.n from d);omega
  refine⟨rfl,v,0,Q0,λq c=>by{have e:F=q:=gH c;subst e;omega},by rw[m];simp,λ_=>?_,λx=>Q0⟩;have e:((v:Nat):Int)*KK+((0:Nat):Int)=((Vs F.n (upd s i 1):Nat):Int)*KK:=by rw[k];simp
  rw[e];exact .w2 (o _ b) Q0 r
 |@reg F _ b y=>
  have g:=w F.n d;obtain⟨v,m⟩:∃v,Vs F.n s=v+1:=⟨Vs F.n s-1,Q0⟩;have u:=AA F.n s;have k:Vs F.n (upd s i 1)=v:=by have:=Az s 1 (show i<F.n from d);omega
  refine⟨rfl,v,1,Q0,λq c=>by{have e:F=q:=gH c;subst e;omega},by rw[m];simp,λC=>?_,λx=>?_⟩
  .have e:((v:Nat):Int)*KK+((1:Nat):Int)=((Vs F.n (upd s i 1):Nat):Int)*KK+1:=by rw[k];simp
   rw[e];exact .reg (o _ b) Q0
  .obtain⟨rfl,_⟩:=x;have t:∀a,a<F.n->a≠i->s a=1:=λa l e=>by
    have z:=NG d m A a l e;have:=b a l;simp only[c5]at z
    split at z<;>omega
   have:=WM.last (F:=F) (s:=upd s i 4) i d (by rw[upd_same];simp) (λa l e=>by rw[upd_ne s _ e];exact t a l e);rw[upd_same]at this;simpa using this
 |last L b y r=>
  by_cases e:i=L
  .subst e;omega
  .have:=r i d e;omega
 |sema b=>have:=b i d;omega
 |fin b=>have:=b i d;omega
def AB(D:Nat->nP)(J:Nat):List (Nat×Rw):=(List.range J).map λk=>((D k).stage,(D k).rk)
abbrev Mu:=Rs×List (Nat×Rw)×Nat
def rW:Nat×Rw->Nat×Rw->Prop:=Prod.Lex (·<·) Rw.lt
def r1:Mu->Mu->Prop:=Prod.Lex Rs.lt (Prod.Lex (Many rW) (·<·))
theorem aa1:WellFounded rW:=(Prod.lex ⟨_,Nat.lt_wfRel.wf⟩ ⟨_,Rw.wf⟩).wf
theorem aa2:WellFounded r1:=(Prod.lex ⟨_,Rs.wf⟩ (Prod.lex ⟨_,Many.wf aa1⟩ ⟨_,Nat.lt_wfRel.wf⟩)).wf
theorem UE{k:Nat}(a:k<J)(x:nP):AB (upd D k x) J=(AB D J).set k (x.stage,x.rk):=by
 apply List.ext_getElem?;intro i;simp only[AB,List.getElem?_map,List.getElem?_set,List.length_map,List.length_range];by_cases e:k=i
 .subst e;simp[a,upd_same]
 .rw[av e];by_cases h:i<J
  .simp[h,upd_ne D x (Ne.symm e)]
  .simp[Nat.not_lt.1 h]
theorem Jp{k:Nat}(a:k<J){x:nP}(h:rW (x.stage,x.rk) ((D k).stage,(D k).rk)):Many rW (AB (upd D k x) J) (AB D J):=by rw[UE a];exact Many.set _ _ _ _ (by simp[AB,a]) h
inductive K8(ty:bf)(M:Md)(w:au)(a:dN):Option dN->aD
 |run:K8 ty M w a (some a) 1
 |blocked {F:Ph} {st:Int}:M=.w3 F->WgAt ty F.Wg w st 0->a.status=.running->a.offers=none->K8 ty M w a (some {a with status:=.blocked}) 0
def AJ(ty:bf)(M:Md)(D:Nat->nP)(w:au):Prop:=∀F,M.ph=some F->∃st sm,WgAt ty F.Wg w st sm/\WM M (λi=>(D (F.d+i)).stage) st sm
def Ivt(P:Program)(ty:bf)(Post:aA->au->Prop)(μ:Mu)(m:Machine)(t:Trace):Prop:=∃gs w sl M O D bs V κ G Z U a bl,m=crowd gs w sl/\GS P ty Post U M O a w/\Cm P ty M O gs w t D bs V κ G Z/\K8 ty M w a gs[0]? bl/\AJ ty M D w/\μ=(U,AB D (M.old+M.cur),bl+sumTo (M.old+M.cur) bs)
def Next(P:Program)(ty:bf)(Post:aA->au->Prop)(μ:Mu)(t:Trace)(r:Stepped×Array MemOp):Prop:=∃m₁ A μ',r=(.next m₁,A)/\Relation.TransGen r1 μ' μ/\Ivt P ty Post μ' m₁ (t++A)
theorem K8.other(h:K8 ty M w a gs[0]? bl)(r:a.status=.running){k:Nat}(m:k≠0){x:dN}(e:(mayWake P g=true/\x.status=.running)\/∀F,M=.w3 F->(∃st,WgAt ty F.Wg w st 0)->∃st,WgAt ty F.Wg w' st 0):∃b,K8 ty M w' a ((gs.map (woken P g x w')).setIfInBounds k x)[0]? b:=by
 rw[get_map_set _ _ _ _ m];generalize gs[0]? =o at h;cases h with
 |run=>
  refine⟨1,?_⟩;have:woken P g x w' a=a:=by
   unfold Go.Conc.woken
   split
   .exact again_running _ (.inl r)
   .rfl
  rw[gq,this];exact .run
 |@blocked F st f hw i j=>
  rw[gq];by_cases d:(mayWake P g&&x.status != .blocked&&x.status != .waiting)=true
  .have:woken P g x w' {a with status:=.blocked}=a:=by
    unfold Go.Conc.woken;rw[aI d];exact again_blocked i j w'
   rw[this];exact⟨1,.run⟩
  .have:woken P g x w' {a with status:=.blocked}={a with status:=.blocked}:=by
    unfold Go.Conc.woken;rw[av d]
   rw[this];obtain⟨c,l⟩|c:=e
   .exact aF (by simp[c,l]) d
   .obtain⟨Y,s⟩:=c F f ⟨_,hw⟩;exact⟨0,.blocked f s i j⟩
theorem iH.Xi{G:aD}(s:Sep M O D V G Z w)(c:M.ph=some F)(f:i<M.cur)(h:iH ty F i (D (F.d+i)) w w'):dU ty M O w w':=by
 refine⟨⟨h.size,λb a=>?_,h.os⟩,λg e=>by obtain rfl:=Md.bO c e;exact h.live⟩;obtain a|a:=a
 .exact h.keeps s c f (k:=.st) a X0 X0 X0 X0
 .exact h.keeps s c f (k:=.sh) a X0 X0 X0 X0
theorem CS{G:aD}(l:GS P ty Post U M O a w)(N:Sep M O D V G Z w)(y:K8 ty M w a gs[0]? bl)(q:M.ph=some F)(J:i<M.cur)(I:gs[F.d+i+1]? =some g)(hgo:stepG P false g w=.go g' w' es)(D':nP)
 (p:Cm P ty M O ((gs.map (woken P g g' w')).setIfInBounds (F.d+i+1) g') w' (t++MemOp.ofEvents (F.d+i+1) g.frame.fn g.frame.place es) (upd D (F.d+i) D') bs' V bF G' Z')(st:iH ty F i (D (F.d+i)) w w')(wg:WgAt ty F.Wg w' Y Zvsmq39)(wm:WM M (upd (λi=>(D (F.d+i)).stage) i D'.stage) Y Zvsmq39)(E:(mayWake P g=true/\g'.status=.running)\/((∃st,WgAt ty F.Wg w st 0)->Zvsmq39=0))
 (m:rW (D'.stage,D'.rk) ((D (F.d+i)).stage,(D (F.d+i)).rk)\/(D'=D (F.d+i)/\bs'=upd bs (F.d+i) 0/\bs (F.d+i)=1/\wakes P g g'=false))(C:bn=bl+sumTo (M.old+M.cur) bs):
 Next P ty Post (U,AB D (M.old+M.cur),bn) t (runT P (crowd gs w sl) (F.d+i+1)):=by
 have hN:=Md.kD q;have f:AJ ty M (upd D (F.d+i) D') w':=λb A=>by
  obtain rfl:=Md.bO q A;refine⟨Y,Zvsmq39,wg,?_⟩;have:(λH=>(upd D (F.d+i) D' (F.d+H)).stage)=upd (λi=>(D (F.d+i)).stage) i D'.stage:=by
   funext x
   by_cases e:x=i
   .subst e;simp[upd_same]
   .rw[upd_ne _ _ e,upd_ne D _ Q0]
  rw[this];exact wm
 have c:(mayWake P g=true/\g'.status=.running)\/∀b,M=.w3 b->(∃st,WgAt ty b.Wg w st 0)->∃st,WgAt ty b.Wg w' st 0:=E.imp id λe b v W=>by
  have:b=F:=by have:=q;rw[v]at this;exact gH this
  subst this;have:=e W;subst this;exact⟨Y,wg⟩
 obtain⟨n,s⟩:=y.other (P:=P) (g:=g) (x:=g') (w':=w') (k:=F.d+i+1) l.running Q0 c;obtain m|⟨rfl,rfl,B,h⟩:=m
 .exact⟨_,_,(U,AB (upd D (F.d+i) D') (M.old+M.cur),n+sumTo (M.old+M.cur) bs'),runT_crowd_go I R5,.single (Prod.Lex.right _ (Prod.Lex.left _ _ (Jp Q0 m))),_,w',sl,M,O,upd D (F.d+i) D',bs',V,bF,G',Z',U,a,n,rfl,l.rely (st.Xi N q J),p,s,f,rfl⟩
 .have r:K8 ty M w' a ((gs.map (woken P g g' w')).setIfInBounds (F.d+i+1) g')[0]? bl:=by
   rw[get_map_set _ _ _ _ Q0];generalize gs[0]? =o at y;have L:∀x:dN,woken P g g' w' x=x:=λx=>by unfold wakes at h;unfold Go.Conc.woken;rw[av (by rw[h];simp)]
   cases y with
   |run=>rw[gq,L];exact .run
   |@blocked b X v hw R S=>
    rw[gq,L];obtain⟨z,Q⟩|z:=c
    .unfold wakes at h;rw[z,Q]at h;cases h
    .obtain⟨st2,u⟩:=z b v ⟨_,hw⟩;exact .blocked v u R S
  have K:sumTo (M.old+M.cur) (upd bs (F.d+i) 0)+1=sumTo (M.old+M.cur) bs:=by have:=sumTo_upd bs 0 (λx=>x) (i:=F.d+i) (j:=M.old+M.cur) Q0;rw[B]at this;simpa using this
  have T:AB (upd D (F.d+i) (D (F.d+i))) (M.old+M.cur)=AB D (M.old+M.cur):=by rw[mW]
  exact⟨_,_,(U,AB (upd D (F.d+i) (D (F.d+i))) (M.old+M.cur),bl+sumTo (M.old+M.cur) (upd bs (F.d+i) 0)),runT_crowd_go I R5,.single (Prod.Lex.right _ (by rw[T];exact Prod.Lex.right _ (by rw[C];omega))),_,w',sl,M,O,upd D (F.d+i) (D (F.d+i)),upd bs (F.d+i) 0,V,bF,G',Z',U,a,bl,rfl,l.rely (st.Xi N q J),p,r,f,rfl⟩
theorem AL{G:aD}(E:GS P ty Post U M O a w)(p:Cm P ty M O gs w t D bs V κ G Z)(h0:K8 ty M w a gs[0]? bl)(l:M.ph=some F)(H:i<M.cur)(hg:gs[F.d+i+1]? =some g)(A:stepG P false g w=.go g' w' es)(D':nP)(hT:D'.T=(D (F.d+i)).T)(J:D'.ow=(D (F.d+i)).ow)(hZ:D'.Z=(D (F.d+i)).Z)
 (u:w.heap.size<=w'.heap.size)(f:∀b,b<w.heap.size->¬(D (F.d+i)).O b->b≠F.C->b≠F.Wg->(∀L,F.lk=some L->(D (F.d+i)).ow=true->b≠L.B)->w'.heap[b]? =w.heap[b]?)(os:w'.os=w.os/\w'.output=w.output)
 (R:PayAt F.C F.n w')(cells:∀N,N≠i->w'.cell? (aB F.C N)=w.cell? (aB F.C N))(mu:∀L,F.lk=some L->(D (F.d+i)).ow=true->∀W s,MuAt L W s w->MuAt L W s w')
 (q:∀b,D'.O b->(D (F.d+i)).O b\/w.heap.size<=b)(Q:∀b,D'.O b->b<w'.heap.size)
 (ws:WS P ty F i D' κ g' w')(ok:∀e∈es,Qn V F i D' e)(nr:∀e∈es,∀a,e.loc≠ .mark (.release a))(m:deafBehind (D (F.d+i)).deaf es=D'.deaf)
 (r:D'.stage<=6->∀p0,p0<=t.size->((D (F.d+i)).stage<=6->Jl V F.Wg p0 t (F.d+i+1))->Jl V F.Wg p0 (t++MemOp.ofEvents (F.d+i+1) g.frame.fn g.frame.place es) (F.d+i+1))(wg:WgAt ty F.Wg w' Y Zvsmq39)(wm:WM M (upd (λi=>(D (F.d+i)).stage) i D'.stage) Y Zvsmq39)(K:(mayWake P g=true/\g'.status=.running)\/((∃st,WgAt ty F.Wg w st 0)->Zvsmq39=0))
 (I:rW (D'.stage,D'.rk) ((D (F.d+i)).stage,(D (F.d+i)).rk))(z:bn=bl+sumTo (M.old+M.cur) bs):
 Next P ty Post (U,AB D (M.old+M.cur),bn) t (runT P (crowd gs w sl) (F.d+i+1)):=by
 have s:=p.sep;have S:∀L,F.lk=some L->(D (F.d+i)).ow=false->w'.heap[L.B]? =w.heap[L.B]? :=λL k o=>by have y:Hd M O D V G Z .lb L.B:=⟨F,L,l,k,rfl⟩;exact f _ (s.bd _ _ y) (λx=>by have:=s.un _ (.wk i) _ y ⟨F,l,H,x⟩;cases this) (λx=>by have:=s.un _ .c _ y ⟨F,l,x⟩;cases this) (λx=>by have:=s.un _ .v _ y (show V L.B by rw[x];exact s.wg F l);cases this) λ_ _ h=>by rw[o]at h;cases h
 have st:iH ty F i (D (F.d+i)) w w':=⟨u,λb h1 h2 h3 h4 h5=>f b h1 h2 h3 h4 λL k _=>h5 L k,.of os.1,os.2,⟨_,_,wg⟩,R,cells,λL k o j _ _=>cell_of_block (S L k o) j⟩;refine CS E s h0 l H hg A D' (p.quiet l H D' hT J hZ st (λL k W s' X=>?_) q Q ws ok nr m r) st wg wm K (.inl I) z;cases o:(D (F.d+i)).ow with
 |true=>exact mu L k o W s' X
 |false=>exact X.of_block (S L k o)
theorem Cm.ghost{G:aD}(h:Cm P ty M O gs w t D bs V κ G Z)(v:M.ph=some F)(hi:i<M.cur)(D':nP)(X:Seat F w D' g (bs (F.d+i)) gs[F.d+i+1]?)(Q:D'.O=(D (F.d+i)).O)(R:D'.T=(D (F.d+i)).T)(H:D'.ow=(D (F.d+i)).ow)(S:D'.Z=(D (F.d+i)).Z)(hs:7<=D'.stage)(U:D'.deaf=(D (F.d+i)).deaf)(ws:WS P ty F i D' κ g w):
 Cm P ty M O gs w t (upd D (F.d+i) D') bs V κ G Z:=by
 have s:=h.sep;have hN:=Md.kD v;have K:∀x,(upd D (F.d+i) D' x).O=(D x).O:=λx=>by
  by_cases e:x=F.d+i
  .subst e;rw[upd_same];exact Q
  .rw[upd_ne D _ e]
 have A:∀x,(upd D (F.d+i) D' x).T=(D x).T:=λx=>by
  by_cases e:x=F.d+i
  .subst e;rw[upd_same];exact R
  .rw[upd_ne D _ e]
 have q:∀x,(upd D (F.d+i) D' x).ow=(D x).ow:=λx=>by
  by_cases e:x=F.d+i
  .subst e;rw[upd_same];exact H
  .rw[upd_ne D _ e]
 have B:∀x,(upd D (F.d+i) D' x).Z=(D x).Z:=λx=>by
  by_cases e:x=F.d+i
  .subst e;rw[upd_same];exact S
  .rw[upd_ne D _ e]
 have z:Sep M O (upd D (F.d+i) D') V G Z w:=by
  refine s.wH (k0:=.st) (λk b r=>.inl ?_) (aS _) s.wg s.n s.pay (λm c o f b=>by rw[B];exact s.zz m c o f b) (λm c o J=>by rw[q,q];exact s.ou m c o J) (λm c o=>by rw[q,B];exact s.og m c o);cases k with
  |wk o=>obtain⟨m,c,f,N⟩:=r;rw[K]at N;exact⟨m,c,f,N⟩
  |_=>exact r
 refine⟨z,h.out,h.size,λk r=>by rw[upd_ne D _ Q0];exact h.old k r,λm c o f=>?_,h.tl.turn (λl p=>.inl p) (λl p=>.inl ⟨p,λ_ h=>h⟩) (λx l p=>.inl (by simpa only[Wp,K,q]using p)) (λx l p=>.inl (by simpa only[Rp,B]using p)),λm L c C=>?_,λm L c C=>?_,h.bd,h.deaf0,λk r=>?_,h.S9,λm c=>?_,h.ho,h.kn⟩
 .obtain rfl:=Md.bO v c;by_cases e:o=i
  .subst e;exact⟨g,by rw[upd_same];exact X,by rw[upd_same];exact ws⟩
  .rw[upd_ne D _ Q0];exact h.cur F v o f
 .obtain⟨p0,I,Y⟩:=h.tk m L c C;exact⟨p0,I,Y.turn (λ_ h=>h) (λl p=>by simpa only[UA,q]using p) λl p=>p⟩
 .obtain⟨W,s',a⟩:=h.lk m L c C;exact⟨W,s',a.at_,by simpa only[A]using a.li,by simpa only[A]using a.ka,a.sm,by simpa only[q,A]using a.ow,by simpa only[q]using a.j⟩
 .by_cases e:k=F.d+i
  .subst e;rw[upd_same,U];exact h.deafW _ r
  .rw[upd_ne D _ e];exact h.deafW k r
 .obtain rfl:=Md.bO v c;obtain⟨p0,I,E,y⟩:=h.rel F v;refine⟨p0,I,E,λo f u=>?_⟩;by_cases e:o=i
  .subst e;rw[upd_same]at u;omega
  .rw[upd_ne D _ Q0]at u;exact y o f u
theorem NH{y:nP}(d:V F.Wg){e:Event}(h:Bk F.Wg e):Qn V F i y e:=by
 intro x b _;obtain c|c|⟨a,w,rfl,f⟩:=h
 .rw[ofEvent_loc_mark c]at b;cases b
 .rw[ofEvent_loc_mark c]at b;cases b
 .simp only[ofEvent_cell,MemAct.touch?,iV]at b;subst b;exact .inl ⟨⟨a,rfl,by rw[f];exact d⟩,X0,X0⟩
theorem Gu{e:Event}{a:Addr}(h:Bk Wg e):e.loc≠ .mark (.release a):=by
 intro l;obtain b|b|⟨a,w,rfl,_⟩:=h
 .rw[b]at l;cases l
 .rw[b]at l;cases l
 .cases l
theorem yT.book{k r:Nat}(f:V F.Wg)(h:yT (wZ V) (stA F.Wg) t k r)(d:∀e∈es,Bk F.Wg e):yT (wZ V) (stA F.Wg) (t++MemOp.ofEvents k fn pos es) k r:=by
 refine h.app λop o _ x b m=>?_;rw[ofEvents_eq]at o;obtain⟨e,i,rfl⟩:=Array.mem_map.1 o;obtain c|c|⟨a,w,rfl,g⟩:=d e i
 .simp only[ofEvent_loc_mark c]at b;cases b
 .simp only[ofEvent_loc_mark c]at b;cases b
 .simp only[ofEvent_cell,MemAct.touch?,iV]at b;subst b;exact⟨a,rfl,by rw[g];exact f⟩
theorem yT.new{t:Trace}{Sh:Loc->Prop}{a:Addr}{k:Nat}(h:Deaf t k=0)(fn:FuncId)(pos:String):yT Sh a (t++MemOp.ofEvents k fn pos #[Go.ConcR.mk (.releaseMerge a)]) k t.size:=by have b:=RelBy.new (a:=a) h fn pos;refine⟨b.act,b.g,b.heard,λi x d c=>?_⟩;obtain⟨op,o,_⟩:=gL.1 c;have:=lt_size_of_getElem? o;rw[ofEvents_eq]at this;simp at this;omega
theorem La{G:aD}(Jq:GS P ty Post U M O a w)(W:Cm P ty M O gs w t D bs V κ G Z)(h0:K8 ty M w a gs[0]? bl)(Yc:AJ ty M D w)(E:M.ph=some F)(H:i<M.cur)(hg:gs[F.d+i+1]? =some g)(K:g.status=.running)
 {s m dd:Nat}{v:aA}(B:(D (F.d+i)).stage=s)(UC:(D (F.d+i)).deaf=dd)(hrk:(D (F.d+i)).rk=nat m)(hOi:(D (F.d+i)).O=Oi)(how:(D (F.d+i)).ow=false)(Yd:F.lk≠none->(D (F.d+i)).T=.done)(hs7:s<=7)(h70:s=7->m=0)(hs:WSit P ty F.Wg F.C F.n bot bot 0 (i+1) v s m dd g w)(Gv:F.Gt i Oi v w)(Qq:s<=6->Has F.C i v w)(Ow:bn=bl+sumTo (M.old+M.cur) bs):
 Next P ty Post (U,AB D (M.old+M.cur),bn) t (runT P (crowd gs w sl) (F.d+i+1)):=by
 have sp:=W.sep;obtain⟨st,sm,nZ,l⟩:=Yc F E;have hsi:(λi=>(D (F.d+i)).stage) i=s:=B;have o:∀{p:aD},p s->p ((λi=>(D (F.d+i)).stage) i):=λh=>by rw[hsi];exact h
 have hN:=Md.kD E;have hdk:Deaf t (F.d+i+1)=dd:=by rw[W.deafW _ Q0,UC]
 have hV:=sp.wg F E;have hCW:F.C≠F.Wg:=λe=>(sp.c F E).2.1 (e▸hV);have Xg:∀b,Oi b->b<w.heap.size:=λb hb=>(sp.wo F E i H b I6).1;have hn:=(sp.n F E).1;have book:∀{g':dN}{w':au}{es:Array Event}{s' I S:Nat}{Y Zvsmq39:Int},stepG P false g w=.go g' w' es->Aside F.Wg w w'->WgAt ty F.Wg w' Y Zvsmq39->(∀e∈es,Bk F.Wg e)->
  (∀jx e,es[jx]? =some e->(MemAct.ofEvent e).touch?=none\/0<deafBehind dd (es.extract 0 jx))->WSit P ty F.Wg F.C F.n bot bot 0 (i+1) v s' I S g' w'->deafBehind dd es=S->s<=6->
  WM M (upd (λi=>(D (F.d+i)).stage) i s') Y Zvsmq39->((mayWake P g=true/\g'.status=.running)\/((∃st,WgAt ty F.Wg w st 0)->Zvsmq39=0))->(s'<s\/(s'=s/\I+1=m))->
  Next P ty Post (U,AB D (M.old+M.cur),bn) t (runT P (crowd gs w sl) (F.d+i+1)):=by
  intro g' w' es s' I S Y Zvsmq39 f A aej N hd hs' hdd h6 ael hwk hlt;obtain⟨cs,hc1,hc2⟩:=sp.pay F E;have hro:bB F.Sh Oi w w':=⟨by rw[A.size];exact aS _,λb hb=>A.block b λe=>by
   obtain hb|hb:=hb
   .exact(sp.wo F E i H b I6).2.1 (e▸hV)
   .exact(sp.sh F E b hb).2.1 (e▸hV),.of A.os⟩
  refine AL Jq W h0 E H hg f ⟨Oi,v,s',nat I,S,(D (F.d+i)).T,(D (F.d+i)).ow,(D (F.d+i)).Z⟩ rfl rfl rfl (by rw[A.size];exact aS _) (λb _ _ _ hb _=>A.block b hb) ⟨A.os,A.output⟩ ⟨cs,(A.block F.C hCW).trans hc1,hc2⟩ (λi' _=>cell_of_block (A.block F.C hCW) i') (λL _ ho=>by rw[how]at ho;cases ho)
   (λb hb=>.inl I6) (λb hb=>by rw[A.size];exact Xg b hb) (.lib (m:=I) (show s'<=7 by omega) (λ(e:s'=7)=>Q0) rfl how Yd hs' (F.iG _ _ _ _ _ hro Gv) λ_=>(cell_of_block (A.block F.C hCW) i).trans (Qq h6)) (λe he=>NH hV (N e he)) (λe he a=>Gu (N e he)) (by rw[UC];exact hdd)
   (λ_ p0 hp hx=>?_) aej ael hwk ?_ Ow
  .obtain⟨r,Ta,hr,Ya⟩:=hx Q0;exact⟨r,Ta,hr.book hV N,Ya.book hdk _ _ N hd⟩
  .rw[B,hrk];obtain h|⟨rfl,h⟩:=hlt
   .exact Prod.Lex.left _ _ h
   .subst h;exact Prod.Lex.right _ (Ql I)
 have sm0:s≠1->sm=0\/5<=s:=λh=>by
  by_cases h5:5<=s
  .exact .inr h5
  .left;cases hs with
   |quit _=>exact aF rfl h
   |r0 _=>omega
   |k1 _=>omega
   |d1 _=>omega
   |d2 _=>exact(l.isLast H (o (p:=λx=>x=4\/x=3\/x=2) Q0)).choose_spec.2.2.2
   |d3 _=>exact(l.isLast H (o (p:=λx=>x=4\/x=3\/x=2) Q0)).choose_spec.2.2.2
   |d4 _=>exact(l.isLast H (o (p:=λx=>x=4\/x=3\/x=2) Q0)).choose_spec.2.2.2
 have R:s≠1->sm=0:=λh=>(sm0 h).elim id λh5=>(l.minus H (o (p:=λx=>5<=x) h5)).1;have idle:∀{g':dN}{I:Nat},stepG P false g w=.go g' w #[]->WSit P ty F.Wg F.C F.n bot bot 0 (i+1) v s I dd g' w->I+1=m->s<=6->s≠1->
  Next P ty Post (U,AB D (M.old+M.cur),bn) t (runT P (crowd gs w sl) (F.d+i+1)):=by
  intro g' I f hs' hm h6 h1;refine book f (.refl F.Wg w) nZ X0 X0 hs' rfl h6 ?_ (.inr λ_=>R h1) (.inr ⟨rfl,hm⟩);have:=mW (λi=>(D (F.d+i)).stage) i;rw[B]at this;rw[this];exact l
 cases hs with
 |r0 h=>
  obtain k|⟨I,rfl,j⟩:=Goes.cases h
  .obtain⟨_,hh,g',f,u,X⟩:=k w (RW.refl w);have hh':Has F.C i v w:=by simpa using hh
   refine AL Jq W h0 E H hg f ⟨Oi,v,6,nat u,0,(D (F.d+i)).T,(D (F.d+i)).ow,(D (F.d+i)).Z⟩ rfl rfl rfl (aS _) (λ_ _ _ _ _ _=>rfl) ⟨rfl,rfl⟩ (sp.pay F E) (λ_ _=>rfl) (λL _ ho=>by rw[how]at ho;cases ho) (λb hb=>.inl I6) Xg (.lib (m:=u) (show 6<=7 by omega) (λ(e:(6:Nat)=7)=>Q0) rfl how Yd (.k1 X) Gv λ_=>hh')
    (λe he x hx=>by simp at he;subst he;cases hx) (λe he a=>by simp at he;subst he;simp[mk]) (by rw[UC];rfl) (λ_ p0 hp _=>⟨t.size,hp,yT.new hdk _ _,RelBy.new hdk _ _⟩) nZ (l.counted H (o (p:=λx=>5<=x) Q0) X0) (.inr λ_=>R Q0) ?_ Ow
   rw[B];exact Prod.Lex.left _ _ (show 6<7 by omega)
  .have:=h70 rfl;omega
 |k1 h=>
  obtain k|⟨I,rfl,j⟩:=Goes.cases h
  .obtain⟨_,g',f,u,X⟩:=k w (RW.refl w);exact book f (.refl F.Wg w) nZ (by intro e he;simp at he;subst he;exact .inl rfl) (by intro jx e he;exact .inl (by have:=qW he;simp at this;subst this;rfl)) (.d1 X) rfl Q0 (l.counted H (o (p:=λx=>5<=x) Q0) X0) (.inr λ_=>R Q0) (.inl Q0)
  .obtain⟨g',w',es,f,⟨rfl,rfl⟩,y⟩:=j w (RW.refl w);exact idle f (.k1 y) rfl Q0 Q0
 |d1 h=>
  obtain k|⟨I,rfl,j⟩:=Goes.cases h
  .obtain⟨_,xP⟩:=k w (RW.refl w);obtain⟨rfl,v',wt,hwt,hvn,rfl,hq,hl⟩:=l.minus H (o (p:=λx=>5<=x) Q0);obtain⟨g',f,h1,h2⟩:=xP v' wt hwt (by have:=hvn F E;omega) nZ;have bk2:∀e∈#[rd (stA F.Wg),wr (stA F.Wg)],Bk F.Wg e:=by intro e he;simp at he;obtain rfl|rfl:=he<;>exact bk_cell _ _ rfl
   have df2:∀jx e,(#[rd (stA F.Wg),wr (stA F.Wg)]:Array Event)[jx]? =some e->(MemAct.ofEvent e).touch?=none\/0<deafBehind 1 ((#[rd (stA F.Wg),wr (stA F.Wg)]:Array Event).extract 0 jx):=by
    intro jx e he
    match jx,he with
    |0,_=>exact .inr (by simp[deafBehind])
    |1,_=>exact .inr (by simp[deafBehind,rd])
    |jx+2,he=>simp at he
   by_cases hc:v'=0/\wt=1
   .obtain⟨u,X⟩:=h1 hc;exact book f (aside_setCell w (stA F.Wg) _) (nZ.setSt _) bk2 df2 (.d2 X) rfl Q0 (hl hc) (.inr λ_=>rfl) (.inl Q0)
   .obtain⟨q,hqq⟩:=h2 hc;exact book f (aside_setCell w (stA F.Wg) _) (nZ.setSt _) bk2 df2 (.quit hqq) rfl Q0 (hq hc) (.inr λ_=>rfl) (.inl Q0)
  .obtain⟨g',w',es,f,⟨rfl,rfl⟩,y⟩:=j w (RW.refl w);exact idle f (.d1 y) rfl Q0 Q0
 |d2 h=>
  obtain k|⟨I,rfl,j⟩:=Goes.cases h
  .obtain⟨_,hx⟩:=k w (RW.refl w);obtain⟨Q,rfl,z,rfl,rfl⟩:=l.isLast H (o (p:=λx=>x=4\/x=3\/x=2) Q0);obtain rfl:Q=F:=gH E;simp only[B]at nZ;obtain⟨g',f,u,X⟩:=hx U5;refine book f (.refl _ w) nZ J6 K5 (.d3 X) rfl Q0 ?_ (.inr λ_=>rfl) (.inl Q0);have:=WM.last (F:=Q) (s:=upd (λi=>(D (Q.d+i)).stage) i 3) i H (by rw[upd_same];simp) (λa ha e=>by rw[upd_ne _ _ e];exact z a ha e);rw[upd_same]at this;simpa using this
  .obtain⟨g',w',es,f,⟨rfl,rfl⟩,y⟩:=j w (RW.refl w);exact idle f (.d2 y) rfl Q0 Q0
 |d3 h=>
  obtain k|⟨I,rfl,j⟩:=Goes.cases h
  .obtain⟨_,hx⟩:=k w (RW.refl w);obtain⟨Q,rfl,z,rfl,rfl⟩:=l.isLast H (o (p:=λx=>x=4\/x=3\/x=2) Q0);obtain rfl:Q=F:=gH E;simp only[B]at nZ;obtain⟨g',f,u,X⟩:=hx U5;refine book f (aside_setCell w (stA Q.Wg) _) (nZ.setSt 0) J6 K5 (.d4 X) rfl Q0 ?_ (.inr λ_=>rfl) (.inl Q0);have:=WM.last (F:=Q) (s:=upd (λi=>(D (Q.d+i)).stage) i 2) i H (by rw[upd_same];simp) (λa ha e=>by rw[upd_ne _ _ e];exact z a ha e);rw[upd_same]at this;simpa using this
  .obtain⟨g',w',es,f,⟨rfl,rfl⟩,y⟩:=j w (RW.refl w);exact idle f (.d3 y) rfl Q0 Q0
 |d4 h=>
  obtain k|⟨I,rfl,j⟩:=Goes.cases h
  .obtain⟨_,hmw,hx⟩:=k w (RW.refl w);obtain⟨Q,rfl,z,rfl,rfl⟩:=l.isLast H (o (p:=λx=>x=4\/x=3\/x=2) Q0);obtain rfl:Q=F:=gH E;simp only[B]at nZ;obtain⟨g',f,q,hq⟩:=hx U5;have aa4:g'.status=.running:=by
    cases q with
    |zero=>exact aF hq.2 U0
    |succ q=>exact hq.elim (λx=>aF x.2 U0) (λx=>x.1)
   refine book f (aside_setCell w (smA Q.Wg) _) (nZ.setSm 1) (es:=semEvents (smA Q.Wg)) ?_ ?_ (.quit hq) F6 Q0 ?_ (.inl ⟨hmw,aa4⟩) (.inl Q0)
   .intro e he;simp[semEvents]at he;obtain rfl|rfl|rfl|rfl:=he
    .exact .inl rfl
    .exact bk_cell _ _ rfl
    .exact bk_cell _ _ rfl
    .exact .inr (.inl rfl)
   .intro jx e he
    match jx,he with
    |0,he=>simp[semEvents]at he;subst he;exact .inl rfl
    |1,_=>exact .inr F6
    |2,_=>exact .inr F6
    |3,he=>simp[semEvents]at he;subst he;exact .inl rfl
    |jx+4,he=>simp[semEvents]at he
   .simp only[if_true];exact .sema λa ha=>by
     by_cases e:a=i
     .subst e;rw[upd_same]
     .rw[upd_ne _ _ e];exact z a ha e
  .obtain⟨g',w',es,f,⟨rfl,rfl⟩,y⟩:=j w (RW.refl w);exact idle f (.d4 y) rfl Q0 Q0
 |quit h=>
  cases m with
  |zero=>rw[h.1]at K;cases K
  |succ q=>
   obtain⟨hf,_⟩|⟨_,g',es,J,j,hq⟩:=h
   .rw[hf]at K;cases K
   .have N:∀e∈es,Bk F.Wg e:=λe he=>bk_of_mute (J e he);have hno:∀jx e,es[jx]? =some e->(MemAct.ofEvent e).touch?=none\/0<deafBehind dd (es.extract 0 jx):=λjx e he=>.inl (by
     obtain h1|h1|⟨a,wr,rfl,_⟩:=bk_of_mute (Wg:=F.Wg) (J e (qW he))
     .rw[ofEvent_loc_mark h1];rfl
     .rw[ofEvent_loc_mark h1];rfl
     .have:=J _ (qW he);simp[Event.mute]at this)
    refine book (j w) (.refl F.Wg w) nZ N hno (.quit hq) rfl Q0 ?_ (.inr λ⟨Y,h'⟩=>(nZ.unique h').2) (.inr ⟨rfl,rfl⟩);have:=mW (λi=>(D (F.d+i)).stage) i;rw[B]at this;rw[this];exact l
theorem wI{Sh:aD}{e:Event}(h:qH Sh O e):e.loc≠ .mark .disable/\e.loc≠ .mark .enable/\∀a,e.loc≠ .mark (.release a):=by unfold qH at h;refine⟨λe=>?_,λe=>?_,λa e=>?_⟩<;>(rw[e]at h;exact h)
theorem CU{Sh:aD}{e:Event}(h:qH Sh O e){x:Touch}(b:(MemAct.ofEvent e).touch?=some x)(c:x.loc.isMemory=true):WB O x.loc\/∃a,x.loc=.cell a/\Sh a.block/\x.write=false:=by
 obtain⟨l,w,s⟩:=e;unfold qH at h;cases l with
 |cell a=>
  simp only at h;obtain⟨rfl,h⟩:=h;simp only[MemAct.ofEvent,MemAct.touch?,iV]at b;subst b;obtain h|⟨h,rfl⟩:=h
  .exact .inl h
  .exact .inr ⟨a,rfl,h,rfl⟩
 |obj r=>simp only at h;obtain⟨rfl,h⟩:=h;cases w<;>(simp only[MemAct.ofEvent,MemAct.touch?,iV]at b;subst b;exact .inl h)
 |output=>cases w<;>cases s<;>(simp only[MemAct.ofEvent,MemAct.touch?,iV]at b;subst b;cases c)
 |goroutines=>exact h.elim
 |mark m=>cases m<;>first|exact h.elim|(simp only[MemAct.ofEvent,MemAct.touch?]at b;cases b)
theorem Next.trans{c a:Mu}{r:Stepped×Array MemOp}(h:Next P ty Post a t r)(l:r1 a c):Next P ty Post c t r:=by obtain⟨m,A,b,e,d,f⟩:=h;exact⟨m,A,b,e,.trans d (.single l),f⟩
theorem Qr{G:aD}(Jq:GS P ty Post U M O a w)(H:Cm P ty M O gs w t D bs V κ G Z)(h0:K8 ty M w a gs[0]? bl)(Yc:AJ ty M D w)(o:M.ph=some F)(Q:i<M.cur)(hg:gs[F.d+i+1]? =some g)(hb1:bs (F.d+i)=1)
 (hst:(D (F.d+i)).stage=8)(h:GW P ty F i (D (F.d+i)).rk (D (F.d+i)).gh κ (D (F.d+i)).O g w)(Ow:bn=bl+sumTo (M.old+M.cur) bs):
 Next P ty Post (U,AB D (M.old+M.cur),bn) t (runT P (crowd gs w sl) (F.d+i+1)):=by
 have K:=H.sep;have hN:=Md.kD o;obtain⟨st,sm,X,Xj⟩:=Yc F o;have J:WgLive ty F.Wg w:=⟨_,_,X⟩;have hs5:∀{p:aD},p 8->p ((λi=>(D (F.d+i)).stage) i):=λh=>by show _;simp only[hst];exact h
 have hrun:=h.running;generalize hrk:(D (F.d+i)).rk=q at h;cases q with
 |zero=>exact h.elim
 |node f=>
  have h:Wv P ty F i _ _ κ _ g w:=h;have hsm:∀{w':au},iH ty F i (D (F.d+i)) w w'->w'.heap[F.Wg]? =w.heap[F.Wg]? ->WgAt ty F.Wg w' st sm:=λ_ h=>X.of_block h;have Xk:WM M (upd (λi=>(D (F.d+i)).stage) i 8) st sm:=Xj.counted Q (hs5 (p:=λx=>5<=x) Q0) Q0;have down:∀γ' bF O' g' w',rW (8,f γ' bF O' g' w') ((D (F.d+i)).stage,(D (F.d+i)).rk):=λγ' bF O' g' w'=>by rw[hst,hrk];exact Prod.Lex.right _ (Rw.gB f γ' bF O' g' w')
  have Xl:(∃Y,WgAt ty F.Wg w Y 0)->sm=0:=λ⟨Y,h'⟩=>(X.unique h').2;have Xg:∀b,(D (F.d+i)).O b->b<w.heap.size:=λb hb=>(K.wo F o i Q b hb).1;have same:iH ty F i (D (F.d+i)) w w:=⟨aS _,λ_ _ _ _ _ _=>rfl,.refl _,rfl,J,K.pay F o,λ_ _=>rfl,λ_ _ _ _ _ _=>rfl⟩;cases h with
  |fin E how Yd hs=>
   obtain⟨v',aen,Gv⟩:=hs κ w (.refl _ _);have sit:WSit P ty F.Wg F.C F.n bot bot 0 (i+1) v' 7 0 0 g w:=.r0 (Goes.stop λu hu=>aen u (by simpa using hu));have R:=H.ghost o Q (g:=g) ⟨(D (F.d+i)).O,v',7,nat 0,0,(D (F.d+i)).T,(D (F.d+i)).ow,(D (F.d+i)).Z⟩ (by rw[hb1,hg];exact .run) rfl rfl rfl rfl (aS _) E.symm (.lib (m:=0) (aS _) (λ_=>rfl) rfl how Yd sit Gv λh=>by simp at h);refine(La (sl:=sl) (s:=7) (m:=0) (dd:=0) (v:=v') (Oi:=(D (F.d+i)).O) (bl:=bl) (bn:=bn) Jq R h0 (λF' Xh=>?_) o Q hg hrun D7 D7 D7 D7 (by rw[upd_same];exact how) (λh=>by rw[upd_same];exact Yd h) (aS _) (λ_=>rfl) sit Gv (λh=>Q0) Ow).trans (Prod.Lex.right _ (Prod.Lex.left _ _ (Jp Q0 (Prod.Lex.left _ _ (by rw[hst];show 7<8;omega)))));obtain rfl:=Md.bO o Xh;refine⟨st,sm,X,?_⟩;have e:(λi_1=>(upd D (F.d+i) ⟨(D (F.d+i)).O,v',7,nat 0,0,(D (F.d+i)).T,(D (F.d+i)).ow,(D (F.d+i)).Z⟩ (F.d+i_1)).stage)=upd (λi=>(D (F.d+i)).stage) i 7:=by
    funext x
    by_cases e:x=i
    .subst e;simp[upd_same]
    .rw[upd_ne _ _ e,upd_ne D _ Q0]
   rw[e];exact Xj.counted Q (hs5 (p:=λx=>5<=x) Q0) Q0
  |idle _ h=>
   obtain⟨g',w',es,O',I,Ox,xJ,N⟩:=h κ w (.refl _ _);have hV:Hd M O D V G Z .v F.Wg:=K.wg F o;have UF:w'.heap[F.Wg]? =w.heap[F.Wg]? :=Ox.frame _ (K.bd _ _ hV) (λho=>by have:=K.un _ (.wk i) _ hV ⟨F,o,Q,ho⟩;cases this) (λe=>by have:=K.un _ .c _ hV ⟨F,o,e⟩;cases this) λL S _ e=>by have:=K.un _ .lb _ hV ⟨F,L,o,S,e⟩;cases this
   refine AL Jq H h0 o Q hg I ⟨O',(D (F.d+i)).v,8,f (D (F.d+i)).gh κ O' g' w',(D (F.d+i)).deaf,(D (F.d+i)).T,(D (F.d+i)).ow,(D (F.d+i)).Z⟩ rfl rfl rfl Ox.size (λb hb hn hc _ hl=>Ox.frame b hb hn hc hl) ⟨Ox.os,Ox.output⟩ (Ox.pay (K.pay F o)) Ox.cells (λL S _=>Ox.mu L S) Ox.fresh Ox.bound (.work rfl N) (λe A x N hm=>?_) (λe A a=>?_) ?_ (λh=>by simp at h)
    (X.of_block UF) Xk (.inr Xl) (down _ _ _ _ _) Ow
   .obtain A|A|⟨L,S,ho,Z7,hsy⟩:=xJ e A
    .obtain h|h:=CU A N hm
     .exact .inr (.inl h)
     .exact .inr (.inr (.inr (.inl h)))
    .obtain⟨l,x1,x2⟩:=e;obtain⟨rfl,rfl⟩:l=.cell ⟨F.C,i,none⟩/\x2=false:=A;simp only[MemAct.ofEvent,MemAct.touch?,iV]at N;subst N;exact .inr (.inr (.inl rfl))
    .obtain⟨l,x1,x2⟩:=e;obtain⟨j,h1,h2,h3⟩:=Z7;simp only at h3 hsy;subst h3;subst hsy;simp only[MemAct.ofEvent,MemAct.touch?,iV]at N;subst N;exact .inr (.inr (.inr (.inr (.inl ⟨L,S,ho,j,h1,h2,rfl⟩))))
   .obtain A|A|⟨L,S,ho,⟨j,_,_,h3⟩,_⟩:=xJ e A
    .exact(wI A).2.2 _
    .rw[show e.loc=_ from A.1];simp
    .rw[h3];simp
   .refine deafBehind_idle (λe A=>?_) _;obtain A|A|⟨L,S,ho,⟨j,_,_,h3⟩,_⟩:=xJ e A
    .exact⟨(wI A).1,(wI A).2.1⟩
    .rw[show e.loc=_ from A.1];simp
    .rw[h3];simp
  |CK _ E h=>obtain⟨g',I,N⟩:=h κ w (.refl _ _);have E:(D (F.d+i)).deaf=0:=E;exact AL Jq H h0 o Q hg I ⟨(D (F.d+i)).O,(D (F.d+i)).v,8,f {(D (F.d+i)).gh with df:=1} κ (D (F.d+i)).O g' w,1,(D (F.d+i)).T,(D (F.d+i)).ow,(D (F.d+i)).Z⟩ rfl rfl rfl (aS _) (λ_ _ _ _ _ _=>rfl) ⟨rfl,rfl⟩ (K.pay F o) (λ_ _=>rfl) (λ_ _ _ _ _ h=>h) (λb hb=>.inl hb) Xg (.work rfl N) (λe A x N=>by simp at A;subst A;cases N) (λe A a=>by simp at A;subst A;simp[mk]) (by rw[E];rfl) (λh=>by simp at h) X Xk (.inr Xl) (down _ _ _ _ _) Ow
  |en _ E h=>obtain⟨g',I,N⟩:=h κ w (.refl _ _);have E:(D (F.d+i)).deaf=1:=E;exact AL Jq H h0 o Q hg I ⟨(D (F.d+i)).O,(D (F.d+i)).v,8,f {(D (F.d+i)).gh with df:=0} κ (D (F.d+i)).O g' w,0,(D (F.d+i)).T,(D (F.d+i)).ow,(D (F.d+i)).Z⟩ rfl rfl rfl (aS _) (λ_ _ _ _ _ _=>rfl) ⟨rfl,rfl⟩ (K.pay F o) (λ_ _=>rfl) (λ_ _ _ _ _ h=>h) (λb hb=>.inl hb) Xg (.work rfl N) (λe A x N=>by simp at A;subst A;cases N) (λe A a=>by simp at A;subst A;simp[mk]) (by rw[E];rfl) (λh=>by simp at h) X Xk (.inr Xl) (down _ _ _ _ _) Ow
  |@lock L _ _ _ _ _ S _ UG y h=>
   obtain⟨W,s,al⟩:=H.lk F L o S;have UG:(D (F.d+i)).deaf=1:=UG;have y:(D (F.d+i)).ow=false:=y;have small:=al.li.small;have hlf:Lf (D (F.d+i)).T W:=by
    generalize hT:(D (F.d+i)).T=T;cases T with
    |loop aw sv=>
     cases aw with
     |true=>exact al.li.aw Q hT
     |false=>trivial
    |r sv=>exact al.li.woken Q hT
    |a keep=>exact al.li.handed Q hT
    |hold=>exact(al.li.held Q hT).1
    |_=>trivial
   obtain⟨g',w',es,T',W',s',hm,I,Jr,Z9,NI,UC,hwk,N⟩:=h κ w (.refl _ _) W s al.at_ (by have:=al.sm;have:=(K.n F o).2;omega) small.2 hlf;have stn:iH ty F i (D (F.d+i)) w w':=Jr.stands K o S J _;have UF:w'.heap[F.Wg]? =w.heap[F.Wg]? :=Jr.block _ λe=>by have:=K.un .v .lb F.Wg (K.wg F o) ⟨F,L,o,S,e⟩;cases this
   let D':Nat->nP:=λAy=>⟨(D (F.d+i)).O,(D (F.d+i)).v,8,f {(D (F.d+i)).gh with T:=T'} Ay (D (F.d+i)).O g' w',(D (F.d+i)).deaf,T',(D (F.d+i)).ow,(D (F.d+i)).Z⟩
   have aer:s'<=s\/wakes P g g'=true:=hwk.imp id λ⟨h1,h2⟩=>by unfold wakes;rw[h1,h2];rfl
   obtain⟨bF,R⟩:=H.CQ (g:=g) (fn:=g.frame.fn) (pos:=g.frame.place) o Q S D' (λ_=>rfl) y (λ_=>y) (λ_=>rfl) J al (λ_=>rfl) hm Jr Z9 (λbF h1 h2=>.work rfl (N bF h1 h2)) NI (λ_=>by rw[UG,UC]) aer (λ_=>by simp[D']);exact CS Jq K h0 o Q hg I (D' bF) R stn (X.of_block UF) Xk (.inr Xl) (.inl (down _ _ _ _ _)) Ow
  |@sem L sv _ _ _ _ _ S hT _ aa5 UG y h=>
   obtain⟨W,s,al⟩:=H.lk F L o S;have UG:(D (F.d+i)).deaf=1:=UG;have y:(D (F.d+i)).ow=false:=y;have hT:(D (F.d+i)).T=.q sv:=hT;have small:=al.li.small;obtain⟨NI,hup⟩:=h κ w (.refl _ _) W;cases s with
   |zero=>
    have I:=NI al.at_;have hnw:wakes P g {g with status:=.blocked}=false:=by simp[wakes]
    have R:=H.stepW (g:=g) (g':={g with status:=.blocked}) (g₁:=g) (fn:=g.frame.fn) (pos:=g.frame.place) (es:=#[]) (w':=w) (bF:=κ) (G':=G) (Z':=Z) (b':=0) o Q (D (F.d+i)) (aS _) rfl (same.rely K o Q (aS _) (λ_ _ _ _ _ h=>h) λ_ _ h=>h) (by rw[mW];exact K) (by rw[mW];exact H.lk) (.blocked S hst hT al.at_ hrun aa5) (.work hst (by rw[hrk];exact Wv.sem S hT hrun aa5 UG y h)) (λ_ L' W1 _ hM=>⟨W1,hM⟩) (by rw[mW];simpa[MemOp.ofEvents]using H.tl) (λL' Eb p0 hp N=>by rw[mW];simpa[MemOp.ofEvents]using N) (λe A=>by simp at A) (λe A=>by simp at A) rfl (λh=>Q0);rw[hnw]at R;exact CS Jq K h0 o Q hg I (D (F.d+i)) R same X (by rw[hst];exact Xk) (.inr Xl) (.inr ⟨rfl,X0,hb1,hnw⟩) Ow
   |succ s=>
    obtain⟨g',w',I,Jr,Z9,N⟩:=hup s Q0 al.at_;have stn:iH ty F i (D (F.d+i)) w w':=Jr.stands K o S J _;have UF:w'.heap[F.Wg]? =w.heap[F.Wg]? :=Jr.block _ λe=>by have:=K.un .v .lb F.Wg (K.wg F o) ⟨F,L,o,S,e⟩;cases this
    let D':Nat->nP:=λAy=>⟨(D (F.d+i)).O,(D (F.d+i)).v,8,f {(D (F.d+i)).gh with T:=.r sv} Ay (D (F.d+i)).O g' w',(D (F.d+i)).deaf,.r sv,(D (F.d+i)).ow,(D (F.d+i)).Z⟩
    obtain⟨bF,R⟩:=H.CQ (g:=g) (fn:=g.frame.fn) (pos:=g.frame.place) o Q S D' (λ_=>rfl) y (λ_=>y) (λ_=>rfl) J al (W':=W) (s':=s) (λ_=>rfl) (by rw[hT];exact .sem) Jr Z9 (λbF h1 h2=>.work rfl (N bF (h2 (.inr Q0)))) (es:=semEvents L.sm) (λe A=>by
     simp[semEvents]at A;obtain rfl|rfl|rfl|rfl:=A
     .exact .inl rfl
     .exact .inr (.inr ⟨L.sm,false,rfl,.inr rfl⟩)
     .exact .inr (.inr ⟨L.sm,true,rfl,.inr rfl⟩)
     .exact .inr (.inl rfl)) (λ_=>by rw[UG];simp[deafBehind,semEvents,D',UG]) (.inl Q0) (λ_=>by simp[D'])
    exact CS Jq K h0 o Q hg I (D' bF) R stn (X.of_block UF) Xk (.inr Xl) (.inl (down _ _ _ _ _)) Ow
  |@acq L _ _ _ _ _ S _ hT y E h=>
   obtain⟨g',I,N⟩:=h κ w (.refl _ _);have E:(D (F.d+i)).deaf=0:=E;have y:(D (F.d+i)).ow=false:=y;have hT:(D (F.d+i)).T=.hold:=hT;obtain⟨W,s,al⟩:=H.lk F L o S;have free:∀i',i'<M.cur->(D (F.d+i')).ow=false:=λi' Qs=>by
    cases e:(D (F.d+i')).ow with
    |false=>rfl
    |true=>have:=(al.li.held Q hT).2 i' Qs (al.ow i' Qs e);subst this;rw[y]at e;cases e
   have no:∀{k:Ky}{b:Nat},Hd M O D V G Z k b->(k=.lg\/k=.lz)->b<w.heap.size/\¬(D (F.d+i)).O b/\¬F.Sh b/\b≠F.C/\b≠L.B/\b≠F.Wg/\b≠Zb.z:=λ{k b} hk hkk=>by
    have n1:∀{k'},Hd M O D V G Z k' b->k'≠ .lg->k'≠ .lz->False:=λJo h1 h2=>by
     have:=K.un _ _ _ hk Jo;obtain e|e:=hkk<;>rw[e]at this
     .exact h1 this.symm
     .exact h2 this.symm
    exact⟨K.bd _ _ hk,λho=>n1 (k':=.wk i) ⟨F,o,Q,ho⟩ X0 X0,λhs=>n1 (k':=.sh) (.inr ⟨F,o,hs⟩) X0 X0,λe=>n1 (k':=.c) ⟨F,o,e⟩ X0 X0,λe=>n1 (k':=.lb) ⟨F,L,o,S,e⟩ X0 X0,λe=>n1 (k':=.v) (show V b by rw[e];exact K.wg F o) X0 X0,λe=>n1 (k':=.sh) (.inl e) X0 X0⟩
   have got:Got F L (D (F.d+i)).O G Z w:=⟨al.j free,λb hb=>by obtain⟨h1,h2,h3,h4,h5,h6,h7⟩:=no (k:=.lg) hb (.inl rfl);exact⟨h1,h2,h3,h4,h5,h6,h7,λhz=>by have:=K.un .lg .lz b hb hz;cases this⟩,λb hb=>no (k:=.lz) hb (.inr rfl)⟩
   have N:=N G Z got;have R:=H.acq (g:=g) (g':=g') (fn:=g.frame.fn) (pos:=g.frame.place) o Q S ⟨λb=>(D (F.d+i)).O b\/G b,(D (F.d+i)).v,8,f ⟨.hold,true,Z,0⟩ κ (λb=>(D (F.d+i)).O b\/G b) g' w,0,.hold,true,Z⟩ rfl hT rfl y rfl rfl J E rfl (.work rfl N) X0;exact CS Jq K h0 o Q hg I _ R same X Xk (.inr Xl) (.inl (down _ _ _ _ _)) Ow
  |@rel L _ _ _ _ _ S _ hT y E h=>obtain⟨g',Gn,Z1,O',I,hj,hG,hZ1,UH,N⟩:=h κ w (.refl _ _);have E:(D (F.d+i)).deaf=0:=E;have y:(D (F.d+i)).ow=true:=y;have hT:(D (F.d+i)).T=.hold:=hT;have R:=H.give (g:=g) (g':=g') (fn:=g.frame.fn) (pos:=g.frame.place) o Q S ⟨O',(D (F.d+i)).v,8,f ⟨.hold,false,λb=>(D (F.d+i)).Z b\/Z1 b,0⟩ κ O' g' w,0,.hold,false,λb=>(D (F.d+i)).Z b\/Z1 b⟩ (Gn:=Gn) (Z1:=Z1) hT rfl y rfl rfl J hj hG hZ1 UH E rfl (.work rfl N) X0;exact CS Jq K h0 o Q hg I _ R same X Xk (.inr Xl) (.inl (down _ _ _ _ _)) Ow
theorem Lb(s:gs[0]? =some a)(hgo:stepG P true a w=.go C w' es)(c:Cm P ty M' O' ((gs.map (woken P a C w')).setIfInBounds 0 C) w' (t++MemOp.ofEvents 0 a.frame.fn a.frame.place es) D' bs' V' bF G' Z')(g:GS P ty Post h M' O' C w')(l:Rs.lt h U)(b:AJ ty M' D' w'):
 Next P ty Post (U,x) t (runT P (crowd gs w sl) 0):=
 ⟨_,_,(h,AB D' (M'.old+M'.cur),1+sumTo (M'.old+M'.cur) bs'),runT_crowd_go s R5,.single (Prod.Lex.left _ _ l),_,w',sl,M',O',D',bs',V',bF,G',Z',h,C,1,rfl,g,c,by
   have l:0<gs.size:=(bJ.1 s).1
   rw[get_map_set_same _ _ _ l]
   exact .run,b,rfl⟩
theorem Ec{e:Event}(c:∀F,M.ph=some F->V F.Wg)(h:EvM M O e):OkS M V O e:=by
 intro x a m;obtain h|⟨F,b,d,f,h⟩:=h
 .obtain h|h:=CU h a m
  .exact .inr (.inl h)
  .exact .inr (.inr h)
 .left;obtain⟨l,w,s⟩:=e;obtain h|h:=h<;>(simp only at h;subst h;simp only[MemAct.ofEvent,MemAct.touch?,iV]at a;subst a;exact⟨⟨d,rfl,by rw[f];exact c F b⟩,X0⟩)
theorem rF{e:Event}(h:EvM M O e):e.loc≠ .mark .disable/\e.loc≠ .mark .enable/\∀a,e.loc≠ .mark (.release a):=by
 obtain h|⟨F,b,d,c,h|h⟩:=h
 .exact wI h
 .rw[h];simp
 .rw[h];simp
theorem book0{G:aD}(m:Cm P ty M O gs w t D bs V κ G Z)(y:gs[0]? =some a)(k:M.ph=some F)(f:M'.ph=some F)(n:M'.cur=M.cur)(u:stepG P true a w=.go C w' es)(A:Aside F.Wg w w')(wg:WgAt ty F.Wg w' Y Zvsmq39)
 (o:∀e∈es,Bk F.Wg e)(r:deafBehind M.df es=M'.df)(p:GS P ty Post h M' O C w')(v:Rs.lt h U)(I:WM M' (λi=>(D (F.d+i)).stage) Y Zvsmq39):Next P ty Post (U,x) t (runT P (crowd gs w sl) 0):=by
 have z:=m.sep;have E:=z.wg F k;refine Lb y u (m.step0 (fn:=a.frame.fn) (pos:=a.frame.place) (by rw[k,f]) (by rw[Md.kD k,Md.kD f]) n (by rw[A.size];exact aS _) (λb _ _ l=>A.block b λe=>l ⟨F,k,e⟩) ⟨A.os,A.output⟩ (λj c=>by obtain rfl:=Md.bO k c;exact⟨_,_,wg⟩) (λb l=>.inl l) (λb l=>by rw[A.size];exact(z.own b l).1)
  (λe s x g J=>?_) (λe s a=>Gu (o e s)) r) p v λj c=>?_
 .left;obtain q|q|⟨B,K,rfl,H⟩:=o e s
  .rw[ofEvent_loc_mark q]at g;cases g
  .rw[ofEvent_loc_mark q]at g;cases g
  .simp only[ofEvent_cell,MemAct.touch?,iV]at g;subst g;exact⟨⟨B,rfl,by rw[H];exact E⟩,X0⟩
 .obtain rfl:=Md.bO f c;exact⟨Y,Zvsmq39,wg,I⟩
theorem idle0{G:aD}(j:Cm P ty M O gs w t D bs V κ G Z)(m:AJ ty M D w)(p:gs[0]? =some a)(n:stepG P true a w=.go C w' es)(g:jW O O' w w')(c:∀e∈es,EvM M O' e)(k:GS P ty Post h M O' C w')(o:Rs.lt h U):Next P ty Post (U,x) t (runT P (crowd gs w sl) 0):=by
 have s:=j.sep;have l:∀F,M.ph=some F->w'.heap[F.Wg]? =w.heap[F.Wg]? :=λF d=>g.frame _ (s.v _ (s.wg F d)) λy=>(s.own _ y).2 (s.wg F d);refine Lb p n (j.step0 (fn:=a.frame.fn) (pos:=a.frame.place) rfl rfl rfl g.size (λb r u _=>g.frame b r u) ⟨g.os,g.output⟩ (λF d=>?_) g.fresh g.bound (λe i=>Ec s.wg (c e i)) (λe i=>(rF (c e i)).2.2) (deafBehind_idle (λe i=>⟨(rF (c e i)).1,(rF (c e i)).2.1⟩) _)) k o λF d=>?_
 .obtain⟨st,sm,f,_⟩:=m F d;exact⟨st,sm,f.of_block (l F d)⟩
 .obtain⟨st,sm,f,q⟩:=m F d;exact⟨st,sm,f.of_block (l F d),q⟩
theorem Ed{x:dN}(h:QuitsD P q d x):woken P g g' w' x=x:=by
 unfold Go.Conc.woken
 split
 .exact again_running _ h.status
 .rfl
theorem Ye{G:aD}(H:Cm P ty (.calm d) O gs w t D bs V κ G Z)(hst:gs[0]? =some a)(hgo:stepG P true a w=.go C w' es)(hes:∀e∈es,EvM (.calm d) O e)(hh:w'.heap=w.heap.push (wgBlock ty 0 0))(Tc:w'.os=w.os/\w'.output=w.output)
 (UF:F.Wg=w.heap.size)(hd:F.d=d)(hn:F.n<2147483648)(hC:O F.C)(hp:PayAt F.C F.n w)(hSh:∀b,F.Sh b->b=Zb.z\/(O b/\b≠F.C))(UH:∀b,O' b->O b/\b≠F.C/\¬F.Sh b)
 (W:∀L,F.lk=some L->F.n<=65536/\O L.B/\L.B≠F.C/\¬F.Sh L.B/\¬O' L.B/\MuAt L ⟨false,false,false,0⟩ 0 w/\∃G Z,L.J G Z w/\(∀b,G b->O b/\b≠F.C/\¬F.Sh b/\b≠L.B/\¬O' b/\¬Z b)/\(∀b,Z b->O b/\b≠F.C/\¬F.Sh b/\b≠L.B/\¬O' b))
 (Qu:GS P ty Post h (.opn F 0 0 F.n 0) O' C w')(hlt:Rs.lt h U):Next P ty Post (U,x) t (runT P (crowd gs w sl) 0):=by
 have s:=H.sep;have Y:w'.heap.size=w.heap.size+1:=by rw[hh];simp
 have old:∀b,b<w.heap.size->w'.heap[b]? =w.heap[b]? :=λb u=>by rw[hh,Array.getElem?_push_lt u,iU u]
 let V':aD:=λb=>V b\/b=F.Wg
 have nV':∀b,O b->¬V' b:=λb u=>by
  rintro(f|f)
  .exact(s.own b u).2 f
  .have:=(s.own b u).1;omega
 have opsE:∀op∈MemOp.ofEvents 0 a.frame.fn a.frame.place es,op.g=0/\∃e∈es,op.act=.ofEvent e:=by intro op A;rw[ofEvents_eq]at A;obtain⟨e,he,rfl⟩:=Array.mem_map.1 A;exact⟨rfl,e,he,rfl⟩
 have okE:∀e∈es,OkS (.calm d) V O e:=λe he=>Ec s.wg (hes e he);have bd':∀i x b,touchAt (t++MemOp.ofEvents 0 a.frame.fn a.frame.place es) i=some x->blk x.loc=some b->b<w.heap.size:=by
  refine xM (n:=0) H.bd (aS _) λop A x b N u=>?_;obtain⟨_,e,he,xK⟩:=opsE op A;rw[xK]at N;obtain⟨⟨ad,ha,hv⟩,_⟩|hw|⟨ad,ha,hz|⟨r,m,_⟩,_⟩:=okE e he x N (wu u)
  .rw[ha]at u;cases u;exact s.v _ hv
  .obtain⟨b',X8,ho⟩:=hw.blk;rw[u]at X8;cases X8;exact(s.own b ho).1
  .rw[ha]at u;cases u;rw[hz];exact s.z.1
  .cases m
 have tl1:TL (wZ V) (BM (.calm d)) (tV (.calm d)) (Wp (.calm d) O D) (Rp (.calm d) D) (t++MemOp.ofEvents 0 a.frame.fn a.frame.place es):=by
  refine H.tl.app s.Xe (g:=0) λop A=>?_;obtain⟨hg,e,he,xK⟩:=opsE op A;refine⟨hg,λx N hm=>?_⟩;rw[xK]at N;obtain⟨E,R⟩|hw|⟨ad,ha,hz|⟨r,m,_⟩,hw⟩:=okE e he x N hm
  .exact .inl ⟨E,R,λ_=>rfl⟩
  .exact .inr (.inl (.inl ⟨rfl,.inl hw⟩))
  .exact .inr (.inr (.inl ⟨.inl ⟨rfl,ad,ha,hz⟩,hw⟩))
  .cases m
 have zV':¬V' Zb.z:=by
  rintro(f|f)
  .exact s.z.2.1 f
  .have:=s.z.1;omega
 obtain⟨G',Z',X7,hZ',hJ⟩:∃G' Z':aD,(∀b,G' b->O b/\b≠F.C/\¬F.Sh b/\(∀L,F.lk=some L->b≠L.B)/\¬O' b/\¬Z' b)/\(∀b,Z' b->O b/\b≠F.C/\¬F.Sh b/\(∀L,F.lk=some L->b≠L.B)/\¬O' b)/\∀L,F.lk=some L->L.J G' Z' w:=by
  cases I:F.lk with
  |none=>exact⟨λ_=>False,λ_=>False,λ_ f=>f.elim,λ_ f=>f.elim,λ_ f=>by cases f⟩
  |some L=>obtain⟨_,_,_,_,_,_,G',Z',E,R,h3⟩:=W L I;exact⟨G',Z',λb u=>let⟨a1,a2,a3,a4,a5,a6⟩:=R b u;⟨a1,a2,a3,λL' S=>by cases S;exact a4,a5,a6⟩,λb u=>let⟨a1,a2,a3,a4,a5⟩:=h3 b u;⟨a1,a2,a3,λL' S=>by cases S;exact a4,a5⟩,λL' S=>by cases S;exact E⟩
 have X:∀{r:Ph},(Md.opn F 0 0 F.n 0).ph=some r->F=r:=λf=>gH f;have zO:¬O Zb.z:=s.z.2.2;have M:∀{i:Nat},¬i<(Md.opn F 0 0 F.n 0).cur:=λf=>aF f (dO _);have sep':Sep (.opn F 0 0 F.n 0) O' D V' G' Z' w':=by
  classical
  have code:∀k b,Hd (.opn F 0 0 F.n 0) O' D V' G' Z' k b->(if V' b then Ky.v else if b=Zb.z\/F.Sh b then .sh else if b=F.C then .c else if∃L,F.lk=some L/\b=L.B then .lb else if Z' b then .lz else if G' b then .lg else .st)=k:=by
   intro k b o;have shV:b=Zb.z\/F.Sh b->¬V' b:=λf=>by
    obtain rfl|f:=f
    .exact zV'
    .obtain rfl|f:=hSh b f
     .exact zV'
     .exact nV' b f.1
   have oz:O b->¬(b=Zb.z):=λf e=>zO (e▸f);cases k with
   |st=>obtain⟨E,R,h3⟩:=UH b o;rw[av (nV' b E),av (λf=>f.elim (oz E) h3),av R,av (λ⟨L,Q,e⟩=>(W L Q).2.2.2.2.1 (e▸o)),av (λf=>(hZ' b f).2.2.2.2 o),av (λf=>(X7 b f).2.2.2.2.1 o)]
   |wk i=>obtain⟨_,_,f,_⟩:=o;exact(M f).elim
   |c=>obtain⟨r,m,rfl⟩:=o;obtain rfl:=X m;rw[av (nV' _ hC),av (λf=>f.elim (oz hC) λf=>(hSh _ f).elim (oz hC) λy=>y.2 rfl),aI rfl]
   |v=>exact aI (show V' b from o)
   |sh=>
    have f:b=Zb.z\/F.Sh b:=o.imp id λ⟨r,m,f⟩=>by obtain rfl:=X m;exact f
    rw[av (shV f),aI f]
   |lb=>obtain⟨r,L,m,Q,rfl⟩:=o;obtain rfl:=X m;obtain⟨_,E,R,h3,_⟩:=W L Q;rw[av (nV' _ E),av (λf=>f.elim (oz E) h3),av R,aI ⟨L,Q,rfl⟩]
   |lg=>obtain⟨E,R,h3,h4,_,h6⟩:=X7 b o;have o:G' b:=o;rw[av (nV' b E),av (λf=>f.elim (oz E) h3),av R,av (λ⟨L,Q,e⟩=>h4 L Q e),av h6,aI o]
   |lz=>obtain⟨E,R,h3,h4,_⟩:=hZ' b o;have o:Z' b:=o;rw[av (nV' b E),av (λf=>f.elim (oz E) h3),av R,av (λ⟨L,Q,e⟩=>h4 L Q e),aI o]
  refine⟨λk b o=>?_,λk k' b o Jo=>(code k b o).symm.trans (code k' b Jo),λr m=>by obtain rfl:=X m;exact .inr rfl,λr m=>by obtain rfl:=X m;exact⟨hn,bU _⟩,λr m=>?_,λr _ i K=>(M K).elim,λr _ i i' K=>(M K).elim,λr _ i K=>(M K).elim⟩
  .have ob:O b->b<w'.heap.size:=λf=>by rw[Y];have:=(s.own b f).1;omega
   cases k with
   |st=>exact ob (UH b o).1
   |wk i=>obtain⟨_,_,f,_⟩:=o;exact(M f).elim
   |c=>obtain⟨r,m,rfl⟩:=o;obtain rfl:=X m;exact ob hC
   |v=>
    obtain o|o:=o
    .rw[Y];have:=s.v b o;omega
    .rw[Y];omega
   |sh=>
    have hz:=s.z.1;obtain rfl|⟨r,m,f⟩:=o
    .rw[Y];omega
    .obtain rfl:=X m;obtain rfl|f:=hSh b f
     .rw[Y];omega
     .exact ob f.1
   |lb=>obtain⟨r,L,m,Q,rfl⟩:=o;obtain rfl:=X m;exact ob (W L Q).2.1
   |lg=>exact ob (X7 b o).1
   |lz=>exact ob (hZ' b o).1
  .obtain rfl:=X m;obtain⟨cs,hc,hcn⟩:=hp;exact⟨cs,(old _ (s.own _ hC).1).trans hc,hcn⟩
 have al0:∀g,tV (.opn F 0 0 F.n 0) g->g=0:=λg hg=>hg.elim id λ⟨_,_,_,K,_⟩=>(M K).elim;have w0:∀{l:Loc}{b:Nat},blk l=some b->O b->Wp (.calm d) O D 0 l:=λu ho=>.inl ⟨rfl,.inl (WB.ql u ho)⟩;have tl':TL (wZ V') (BM (.opn F 0 0 F.n 0)) (tV (.opn F 0 0 F.n 0)) (Wp (.opn F 0 0 F.n 0) O' D) (Rp (.opn F 0 0 F.n 0) D) (t++MemOp.ofEvents 0 a.frame.fn a.frame.place es):=by
  refine tl1.turn (λl I=>?_) (λl I=>.inr λg hg=>?_) (λg l I=>.inl ?_) (λg l I=>?_)
  .obtain⟨ad,rfl,hv|hv⟩:=I
   .exact .inl ⟨ad,rfl,hv⟩
   .right;intro k x N e;have:=bd' k x ad.block N V6;omega
  .obtain rfl:=al0 g hg;obtain⟨r,L,m,Q,I⟩:=I;obtain rfl:=X m;obtain rfl|rfl:=I<;>exact w0 rfl (W L Q).2.1
  .obtain⟨rfl,I|⟨r,i,m,_,rfl⟩⟩|⟨r,i,m,K,_⟩:=I
   .obtain⟨b,u,ho⟩:=I.blk;exact w0 u (UH b ho).1
   .obtain rfl:=X m;exact w0 rfl hC
   .exact(M K).elim
  .obtain I|⟨r,ad,m,rfl,hs,hg⟩|⟨r,i,ad,m,K,_⟩:=I
   .exact .inl (.inl I)
   .obtain rfl:=X m;obtain rfl|⟨i,K,_⟩:=hg
    .obtain hz|⟨E,_⟩:=hSh _ hs
     .exact .inl (.inl ⟨rfl,ad,rfl,hz⟩)
     .exact .inr (w0 rfl E)
    .exact(M K).elim
   .exact(M K).elim
 have hold:(Md.opn F 0 0 F.n 0).old=d:=hd;refine Lb hst hgo (D':=D) (bs':=bs) (V':=V') (bF:=Uy 0 (λi=>(D (F.d+i)).T) 0+8*(F.n-0)) (G':=G') (Z':=Z') ⟨sep',Tc.2.trans H.out,?_,λk o=>?_,λr m i K=>aF K (dO i),tl',λr L m Q=>?_,λr L m Q=>?_,λi x b N u=>by rw[Y];have:=bd' i x b N u;omega,?_,λk o=>?_,?_,λr m=>?_,?_,?_⟩ Qu hlt λr m=>?_
 .have:=H.size;simp only[Md.old,Md.cur]at this ⊢;simp[this,hd]
 .rw[hold]at o;obtain⟨x,q,N,hq,hr⟩:=H.old k o;refine⟨x,q,?_,hq,hr⟩;rw[get_map_set _ _ _ _ Q0,N,gq,Ed hq]
 .obtain rfl:=X m;have kl:∀{i x b},touchAt (t++MemOp.ofEvents 0 a.frame.fn a.frame.place es) i=some x->blk x.loc=some b->O b->KL (tV (.opn F 0 0 F.n 0)) L.mu (t++MemOp.ofEvents 0 a.frame.fn a.frame.place es).size (t++MemOp.ofEvents 0 a.frame.fn a.frame.place es) i:=λN u ho=>.inl λg hg=>by obtain rfl:=al0 g hg;exact tl1.w 0 _ (w0 u ho) _ _ N rfl
  refine⟨_,aS _,λi x N I=>?_,λi x N I hw=>?_,λk o e=>?_⟩
  .obtain⟨r,L',m,S,_,I⟩:=I;obtain rfl:=X m;obtain⟨j,_,_,e⟩|I:=I
   .exact kl N V6 (W L' S).2.1
   .obtain⟨b,u,hg⟩:=I.blk;exact kl N u (X7 b hg).1
  .obtain⟨c,e,hz⟩:=I;exact kl N V6 (hZ' _ hz).1
  .have:=lt_of_act? e;omega
 .obtain rfl:=X m;obtain⟨E,R,_,_,_,h6,_⟩:=W L Q;have hB:=old _ (s.own _ R).1;exact⟨⟨false,false,false,0⟩,0,h6.of_block hB,LI.start _,rfl,E,λi K=>(M K).elim,λ_=>L.iG G' Z' w w' (λb u=>old b (u.elim (λf=>(s.own _ (X7 b f).1).1) λf=>(s.own _ (hZ' b f).1).1)) (λj _ _=>cell_of_block hB j) (hJ L Q)⟩
 .rw[Deaf_own,H.deaf0];exact deafBehind_idle (λe he=>⟨(rF (hes e he)).1,(rF (hes e he)).2.1⟩) _
 .rw[hold]at o;rw[Deaf_other t Q0 _ g_of_ofEvents,H.deafW k o]
 .rw[hold];exact qm H.S9 λop A=>by rw[(opsE op A).1];omega
 .refine⟨_,aS _,λk o e=>?_,λi K=>aF K (dO i)⟩;have:=lt_of_act? e;omega
 .rw[hold];exact uM H.ho λop A E R=>by rw[(opsE op A).1]at E;omega
 .rw[hold];intro i x g N hs hm;exact xL H.kn (λop A E R=>by rw[(opsE op A).1]at E;omega) i x g N (λ⟨ad,ha,hv⟩=>hs ⟨ad,ha,.inl hv⟩) hm
 .obtain rfl:F=r:=gH m;refine⟨0,0,?_,?_⟩
  .show w'.heap[F.Wg]? =_;rw[hh,UF];simp
  .have:=WM.opn (F:=F) (j:=0) (p:=0) (B:=F.n) (df:=0) (s:=λi=>(D (F.d+i)).stage) (λi K=>aF K (dO i)) (by simp[Vs,sumTo]) (bU _);simpa[Vs,sumTo]using this
theorem Yf{G:aD}{j:Nat}{q:Rw}(I:Cm P ty (.opn F j 1 B 0) O gs w t D bs V κ G Z)(Yc:AJ ty (.opn F j 1 B 0) D w)(hst:gs[0]? =some a)(hgo:stepG P true a w=.spawn C child w #[])
 (hH:∀b,H b->O b)(UH:∀b,O' b->O b/\¬H b)(hch:GW P ty F j q ⟨.pre,false,λ_=>False,0⟩ κ H child w)
 (Qu:GS P ty Post h (.opn F (j+1) 0 F.n 0) O' C w)(hlt:Rs.lt h U):Next P ty Post (U,x) t (runT P (crowd gs w sl) 0):=by
 have s:=I.sep;have hF:(Md.opn F j 1 B 0).ph=some F:=rfl;have uF:∀{M:Ph}{j' p' B' df':Nat},(Md.opn F j' p' B' df').ph=some M->F=M:=λf=>gH f;obtain⟨st,sm,nZ,Xj⟩:=Yc F hF;obtain⟨S,hB,hj,rfl,rfl⟩:yE j (λi=>(D (F.d+i)).stage)/\Vs j (λi=>(D (F.d+i)).stage)+1<=B/\j+1<=F.n/\st=((Vs j (λi=>(D (F.d+i)).stage)+1:Nat):Int)*KK/\sm=0:=by
  cases Xj with
  |opn h1 h2 h3=>exact⟨h1,h2,h3,rfl,rfl⟩
 have hsz:gs.size=F.d+j+1:=I.size;have hrun:=runT_crowd_spawn (P:=P) (gs:=gs) (w:=w) (sl:=sl) (i:=0) hst R5;obtain⟨X,Y,hX,hY,aa7⟩:∃X Y:MemOp,(X.g=0/\X.act=.go (F.d+j+1))/\(Y.g=F.d+j+1/\Y.act=.start)/\((MemOp.ofEvents 0 a.frame.fn a.frame.place #[]).push {g:=0,fn:=a.frame.fn,pos:=a.frame.place,act:=.go gs.size}).push {g:=gs.size,fn:=child.frame.fn,pos:=a.frame.place,act:=.start}=#[X,Y]:=by refine⟨{g:=0,fn:=a.frame.fn,pos:=a.frame.place,act:=.go gs.size},{g:=gs.size,fn:=child.frame.fn,pos:=a.frame.place,act:=.start},⟨rfl,by rw[hsz]⟩,⟨hsz,rfl⟩,?_⟩;simp[MemOp.ofEvents]
 have aa8:=aa7;simp only[Array.push_eq_append]at aa8
 let D':Nat->nP:=upd D (F.d+j) ⟨H,default,8,q,0,.pre,false,λ_=>False⟩
 have A:∀k,k≠F.d+j->D' k=D k:=λk J=>upd_ne D _ J;have N:D' (F.d+j)=⟨H,default,8,q,0,.pre,false,λ_=>False⟩:=upd_same D _ _;have hm:∀op∈#[X,Y],op=X\/op=Y:=by intro op E;simpa using E
 have hnt:∀op∈#[X,Y],op.act.touch?=none:=by
  intro op E;obtain rfl|rfl:=hm op E
  .rw[hX.2];rfl
  .rw[hY.2];rfl
 have abb:∀op∈#[X,Y],op.act≠ .mark .disable/\op.act≠ .mark .enable:=by
  intro op E;obtain rfl|rfl:=hm op E
  .rw[hX.2];exact⟨X0,X0⟩
  .rw[hY.2];exact⟨X0,X0⟩
 have Q:Deaf t (F.d+j+1)=0:=Deaf_absent λi op o e=>by have:=I.S9 i op o;simp only[Md.old,Md.cur]at this;omega
 have uB:∀{M:Ph},(Md.opn F j 1 B 0).ph=some M->F=M:=λf=>gH f;have split:∀{i:Nat},i<(Md.opn F (j+1) 0 F.n 0).cur->i=j\/(i≠j/\i<(Md.opn F j 1 B 0).cur):=λ{i} o=>by simp only[Md.cur]at o ⊢;omega
 have keys:∀k b,Hd (.opn F (j+1) 0 F.n 0) O' D' V G Z k b->(Hd (.opn F j 1 B 0) O D V G Z k b/\(k=.st->¬H b)/\k≠ .wk j)\/(k=.wk j/\O b/\H b):=by
  intro k b J;cases k with
  |st=>exact .inl ⟨(UH b J).1,λ_=>(UH b J).2,X0⟩
  |wk i=>
   obtain⟨M,z,o,hb⟩:=J;obtain rfl:=uF z;obtain rfl|⟨e,o⟩:=split o
   .rw[N]at hb;exact .inr ⟨rfl,hH b hb,hb⟩
   .rw[A _ Q0]at hb;exact .inl ⟨⟨F,rfl,o,hb⟩,X0,λx=>e (by cases x;rfl)⟩
  |c=>exact .inl ⟨J,X0,X0⟩
  |v=>exact .inl ⟨J,X0,X0⟩
  |sh=>exact .inl ⟨J,X0,X0⟩
  |lb=>exact .inl ⟨J,X0,X0⟩
  |lg=>exact .inl ⟨J,X0,X0⟩
  |lz=>exact .inl ⟨J,X0,X0⟩
 have sep':Sep (.opn F (j+1) 0 F.n 0) O' D' V G Z w:=by
  refine⟨λk b J=>?_,λk k' b J Jo=>?_,s.wg,λM z=>?_,s.pay,λM z i o b hb=>?_,λM z i i' o Qs h1 h2=>?_,λM z i o S=>?_⟩
  .obtain⟨f,_⟩|⟨_,f,_⟩:=keys k b J
   .exact s.bd k b f
   .exact(s.own b f).1
  .obtain⟨f,n,m⟩|⟨rfl,f,y⟩:=keys k b J<;>obtain⟨h',n',m'⟩|⟨rfl,h',y'⟩:=keys k' b Jo
   .exact s.un _ _ _ f h'
   .exact aF y' (n (s.un _ .st _ f h'))
   .exact aF y (n' (s.un _ .st _ h' f))
   .rfl
  all_goals obtain rfl:=uF z
  .exact⟨(s.n F hF).1,hj⟩
  .obtain rfl|⟨e,o⟩:=split o
   .rw[N]at hb;exact hb.elim
   .rw[A _ Q0]at hb;exact s.zz F hF i o b hb
  .obtain rfl|⟨e,o⟩:=split o
   .rw[N]at h1;cases h1
   .obtain rfl|⟨e',Qs⟩:=split Qs
    .rw[N]at h2;cases h2
    .rw[A _ Q0]at h1 h2;exact s.ou F hF i i' o Qs h1 h2
  .obtain rfl|⟨e,o⟩:=split o
   .rw[N]at S;cases S
   .rw[A _ Q0]at S ⊢;exact s.og F hF i o S
 have al':∀g,tV (.opn F (j+1) 0 F.n 0) g->tV (.opn F j 1 B 0) g\/g=F.d+j+1:=λg hg=>by
  obtain rfl|⟨M,i,z,o,rfl⟩:=hg
  .exact .inl (.inl rfl)
  .obtain rfl:=uF z;obtain rfl|⟨e,o⟩:=split o
   .exact .inr rfl
   .exact .inl (.inr ⟨F,i,rfl,o,rfl⟩)
 have tl':TL (wZ V) (BM (.opn F (j+1) 0 F.n 0)) (tV (.opn F (j+1) 0 F.n 0)) (Wp (.opn F (j+1) 0 F.n 0) O' D') (Rp (.opn F (j+1) 0 F.n 0) D') (t++#[X,Y]):=by
  refine I.tl.fork hX hY I.deaf0 Q (.inl rfl) al' (λg l K=>?_) (λg l K=>?_)
  .obtain⟨rfl,K|⟨M,i,z,o,rfl⟩⟩|⟨M,i,z,o,rfl,K⟩:=K
   .obtain⟨b,hb,S⟩:=K.blk;exact .inl (.inl ⟨rfl,.inl (WB.ql hb (UH b S).1)⟩)
   .obtain rfl:=uF z;simp only[Md.cur]at o;exact .inl (.inl ⟨rfl,.inr ⟨F,i,hF,by simp only[Md.cur];omega,rfl⟩⟩)
   .obtain rfl:=uF z;obtain rfl|⟨e,o⟩:=split o
    .rw[N]at K;refine .inr ⟨rfl,.inl ⟨rfl,?_⟩⟩;obtain K|K|⟨_,_,K,_⟩:=K
     .obtain⟨b,hb,S⟩:=K.blk;exact .inl (WB.ql hb (hH b S))
     .exact .inr ⟨F,i,hF,by simp only[Md.cur];omega,K⟩
     .cases K
    .rw[A _ Q0]at K;exact .inl (.inr ⟨F,i,hF,o,rfl,K⟩)
  .obtain K|⟨M,ad,z,rfl,hs,hg⟩|⟨M,i,ad,z,o,rfl,rfl,hz⟩:=K
   .exact .inl (.inl K)
   .obtain rfl:=uF z;obtain rfl|⟨i,o,rfl⟩:=hg
    .exact .inl (.inr (.inl ⟨F,ad,hF,rfl,hs,.inl rfl⟩))
    .obtain rfl|⟨e,o⟩:=split o
     .exact .inr ⟨rfl,.inr (.inl ⟨F,ad,hF,rfl,hs,.inl rfl⟩)⟩
     .exact .inl (.inr (.inl ⟨F,ad,hF,rfl,hs,.inr ⟨i,o,rfl⟩⟩))
   .obtain rfl:=uF z;obtain rfl|⟨e,o⟩:=split o
    .rw[N]at hz;exact hz.elim
    .rw[A _ Q0]at hz;exact .inl (.inr (.inr ⟨F,i,ad,hF,o,rfl,rfl,hz⟩))
 have get:∀k x,gs[k+1]? =some x->((gs.setIfInBounds 0 C).push child)[k+1]? =some x:=λk x R=>by have hlt:=(bJ.1 R).1;rw[Array.getElem?_push_lt (by simpa using hlt),<-iU,jN Q0];exact R
 have cm':Cm P ty (.opn F (j+1) 0 F.n 0) O' ((gs.setIfInBounds 0 C).push child) w (t++#[X,Y]) D' (upd bs (F.d+j) 1) V κ G Z:=by
  refine⟨sep',I.out,by simp[hsz,Md.old,Md.cur];omega,λk J=>?_,λM z i o=>?_,tl',λM L z hL=>?_,λM L z hL=>?_,xM (n:=0) I.bd (aS _) λop E x b R=>by{rw[hnt op E]at R;cases R},by rw[Deaf_still t 0 _ abb];exact I.deaf0,λk J=>?_,qm (λi op o=>by have:=I.S9 i op o;simp only[Md.old,Md.cur]at this ⊢;omega) λop E=>?_,λM z=>?_,uM I.ho λop E _ _=>hnt op E,xL I.kn λop E _ _=>hnt op E⟩
  .simp only[Md.old]at J;obtain⟨x,q',R,hq,hr⟩:=I.old k J;exact⟨x,q',get k x R,by rw[A _ Q0];exact hq,by rw[A _ Q0];exact hr⟩
  .obtain rfl:=uF z;obtain rfl|⟨e,o⟩:=split o
   .refine⟨child,?_,by rw[N];exact .work rfl hch⟩;rw[show F.d+i+1=(gs.setIfInBounds 0 C).size by simp[hsz],Array.getElem?_push_size,upd_same];exact .run
   .obtain⟨x,R,hsx⟩:=I.cur F hF i o;have hlt:F.d+i+1<gs.size:=by rw[hsz];simp only[Md.cur]at o;omega
    refine⟨x,?_,by rw[A _ Q0];exact hsx⟩;rw[A _ Q0,upd_ne _ _ Q0,Array.getElem?_push_lt (by simpa using hlt),<-iU,jN Q0];exact R
  .obtain rfl:=uF z;obtain⟨p0,hp,R⟩:=I.tk F L hF hL;have kl:∀{i},KL (tV (.opn F j 1 B 0)) L.mu p0 t i->KL (tV (.opn F (j+1) 0 F.n 0)) L.mu p0 (t++#[X,Y]) i:=λf=>by
    obtain f|⟨p,h0,h1,h2,h3⟩:=f
    .refine .inl λg hg=>?_;obtain hg|rfl:=al' g hg
     .exact(f g hg).app _
     .exact fork_knows hX hY I.deaf0 Q (f 0 (.inl rfl))
    .have hp:=lt_of_act? h1;exact .inr ⟨p,h0,by rw[act?_old hp];exact h1,(heard_old hp).2 h2,h3.app _⟩
   refine⟨p0,by simp;omega,λi x SX K=>kl (R.gd i x (rE hX hY SX) ?_),λi x SX K hw=>kl (R.fz i x (rE hX hY SX) K hw),(R.app (u:=#[X,Y]) (λop E x R=>by rw[hnt op E]at R;cases R) λop E e=>?_).Qh⟩
   .obtain⟨M,L',z,Eb,h3,h4⟩:=K;obtain rfl:=uF z;exact⟨F,L',rfl,Eb,λi o=>by have:=h3 i (by simp only[Md.cur]at o ⊢;omega);rwa[A _ (by simp only[Md.cur]at o;omega)]at this,h4⟩
   .obtain rfl|rfl:=hm op E
    .rw[hX.2]at e;cases e
    .rw[hY.2]at e;cases e
  .obtain rfl:=uF z;obtain⟨W,s',al⟩:=I.lk F L hF hL;have eT:(λi=>(D' (F.d+i)).T)=upd (λi=>(D (F.d+i)).T) j .pre:=Xf D F.d j _;refine⟨W,s',al.at_,?_,?_,al.sm,λi o S=>?_,λhno=>al.j λi o=>?_⟩
   .rw[eT];exact al.li.spawn
   .rw[eT,al.ka];simp only[Md.cur,Uy,Gs,Lt.phi];omega
   .obtain rfl|⟨e,o⟩:=split o
    .rw[N]at S;cases S
    .rw[A _ Q0]at S ⊢;exact al.ow i o S
   .have:=hno i (by simp only[Md.cur]at o ⊢;omega);rwa[A _ (by simp only[Md.cur]at o;omega)]at this
  .rw[Deaf_still t _ _ abb];simp only[Md.old,Md.cur]at J;by_cases e:k=F.d+j
   .subst e;rw[N];exact Q
   .rw[A _ e];exact I.deafW k (by simp only[Md.old,Md.cur];omega)
  .simp only[Md.old,Md.cur];obtain rfl|rfl:=hm op E
   .rw[hX.1];omega
   .rw[hY.1];omega
  .obtain rfl:=uF z;obtain⟨p0,hp,hnr,xP⟩:=I.rel F hF;refine⟨p0,by simp;omega,λk J e=>?_,λi o hs=>?_⟩
   .obtain⟨op,S,xK⟩:=gL.1 e;obtain⟨hlt,Ji⟩|⟨_,hou⟩:=getElem?_append_cases S
    .exact hnr k J H6
    .obtain rfl|rfl:=hm op hou
     .rw[hX.2]at xK;cases xK
     .rw[hY.2]at xK;cases xK
   .simp only[Md.cur]at o;by_cases e:i=j
    .subst e;rw[N]at hs;simp at hs
    .rw[A _ Q0]at hs;obtain⟨r,Ta,hr,Ya⟩:=xP i (by simp only[Md.cur];omega) hs;exact⟨r,Ta,hr.app λop E _ x R=>by{rw[hnt op E]at R;cases R},Ya.appNot λop E=>by
      obtain rfl|rfl:=hm op E
      .rw[hX.1];omega
      .rw[hY.1];omega⟩
 refine⟨_,_,(h,AB D' (F.d+(j+1)),1+sumTo (F.d+(j+1)) (upd bs (F.d+j) 1)),hrun,.single (Prod.Lex.left _ _ hlt),_,w,sl,.opn F (j+1) 0 F.n 0,O',D',upd bs (F.d+j) 1,V,κ,G,Z,h,C,1,rfl,Qu,by rw[aa7];exact cm',?_,λM z=>?_,rfl⟩
 .have:((gs.setIfInBounds 0 C).push child)[0]? =some C:=by
   rw[Array.getElem?_push_lt (by simp[hsz]),<-iU];simp[hsz]
  rw[this];exact .run
 .obtain rfl:=uF z;refine⟨_,_,nZ,?_⟩;have e1:Vs (j+1) (λi=>(D' (F.d+i)).stage)=Vs j (λi=>(D (F.d+i)).stage)+1:=by
   simp only[Vs,sumTo];rw[sumTo_congr (g:=λi=>c5 (D (F.d+i)).stage) λi o=>by rw[A _ Q0]];rw[N];rfl
  have:=WM.opn (F:=F) (j:=j+1) (p:=0) (B:=F.n) (df:=0) (s:=λi=>(D' (F.d+i)).stage) (λi o=>?_) (by rw[e1];have:=AA j (λi=>(D (F.d+i)).stage);omega) hj
  .rw[e1]at this;exact this
  .show 5<=(D' (F.d+i)).stage\/(D' (F.d+i)).stage=1;by_cases e:i=j
   .subst e;rw[N];exact .inl X0
   .rw[A _ Q0];exact S i Q0
theorem WS.at1{x:nP}(h:WS P ty F i x κ g w)(b:x.stage=1):∃q,x.rk=nat q/\x.ow=false/\(F.lk≠none->x.T=.done)/\QuitsD P q x.deaf g/\F.Gt i x.O x.v w/\Has F.C i x.v w:=by
 cases h with
 |work h=>omega
 |@lib m _ _ _ s _ k o t h r a=>
  have a:=a Q0;rw[b]at h;generalize d:x.deaf=dd at h;cases h with
  |quit h=>exact⟨m,k,o,t,h,r,a⟩
theorem qo(h:(Md.calm d).ph=some F):False:=by cases h
theorem aes{G:aD}(y:Cm P ty (.fin F 0) O gs w t D bs V κ G Z)(Yc:AJ ty (.fin F 0) D w)(hst:gs[0]? =some a)(hgo:stepG P true a w=.go C w #[mk (.acquire (stA F.Wg))])
 (Qu:∀G Z vs Os,Joined F O G Z vs Os w->∃h,GS P ty Post h (.calm (F.d+F.n)) (lM F O G Z Os) C w/\Rs.lt h U):Next P ty Post (U,x) t (runT P (crowd gs w sl) 0):=by
 have s:=y.sep;have A:(Md.fin F 0).ph=some F:=rfl;obtain⟨st,sm,nZ,Xj⟩:=Yc F A;have hq:Yb F.n (λi=>(D (F.d+i)).stage):=by
  cases Xj with
  |fin f=>exact f
 have w0:∀i,i<F.n->∃g q,gs[F.d+i+1]? =some g/\(D (F.d+i)).rk=nat q/\QuitsD P q (D (F.d+i)).deaf g/\(F.Gt i (D (F.d+i)).O (D (F.d+i)).v w/\Has F.C i (D (F.d+i)).v w)/\(D (F.d+i)).ow=false/\(F.lk≠none->(D (F.d+i)).T=.done):=λi p=>by
  obtain⟨g,M,hs⟩:=y.cur F A i p;obtain⟨q,R,ho,ht,Y,h3,h4⟩:=hs.at1 (hq i p);refine⟨g,q,?_,R,Y,⟨h3,h4⟩,ho,ht⟩;generalize gs[F.d+i+1]? =o at M;generalize bs (F.d+i)=b at M;cases M with
  |run=>rfl
  |blocked _ h8=>have:=hq i p;simp only at this;omega
 have w1:∀i,i<F.n->∃g q,gs[F.d+i+1]? =some g/\(D (F.d+i)).rk=nat q/\QuitsD P q (D (F.d+i)).deaf g/\F.Gt i (D (F.d+i)).O (D (F.d+i)).v w/\Has F.C i (D (F.d+i)).v w:=λi p=>let⟨g,q,R,Y,h3,h4,_⟩:=w0 i p;⟨g,q,R,Y,h3,h4.1,h4.2⟩;have free:∀i,i<F.n->(D (F.d+i)).ow=false:=λi p=>let⟨_,_,_,_,_,_,f,_⟩:=w0 i p;f;have hj:Joined F O G Z (λi=>(D (F.d+i)).v) (λi=>(D (F.d+i)).O) w:=by
  refine⟨λi p=>let⟨_,_,_,_,_,_,f⟩:=w1 i p;f,λi p=>let⟨_,_,_,_,_,f,_⟩:=w1 i p;f,s.pay F A,λi p b I=>let f:=s.wo F A i p b I;⟨f.1,f.2.2.2.2,f.2.2.2.1,f.2.2.1⟩,λi i' p Qs hne b I=>s.ww F A i i' p Qs hne b I,λb I=>⟨(s.own b I).1,λf=>(s.sh F A b f).2.2.2 I,λe=>(s.c F A).2.2 (e▸I)⟩,λb I=>(s.sh F A b I).1,λL hL=>?_⟩
  obtain⟨W,s',al⟩:=y.lk F L A hL;have hB:Hd (.fin F 0) O D V G Z .lb L.B:=⟨F,L,A,hL,rfl⟩;obtain⟨rfl,rfl⟩:=al.li.finish λi p=>(w0 i p).choose_spec.choose_spec.2.2.2.2.2 (by rw[hL];simp);have no:∀{k:Ky}{b:Nat},Hd (.fin F 0) O D V G Z k b->(k=.lg\/k=.lz)->b<w.heap.size/\¬O b/\¬F.Sh b/\b≠F.C/\b≠L.B/\b≠F.Wg/\b≠Zb.z/\∀i,i<F.n->¬(D (F.d+i)).O b:=λ{k b} E hkk=>by
   have n1:∀{k'},Hd (.fin F 0) O D V G Z k' b->k'≠ .lg->k'≠ .lz->False:=λJo R Y=>by
    have:=s.un _ _ _ E Jo;obtain e|e:=hkk<;>rw[e]at this
    .exact R this.symm
    .exact Y this.symm
   exact⟨s.bd _ _ E,λho=>n1 (k':=.st) ho X0 X0,λhs=>n1 (k':=.sh) (.inr ⟨F,A,hs⟩) X0 X0,λe=>n1 (k':=.c) ⟨F,A,e⟩ X0 X0,λe=>n1 (k':=.lb) ⟨F,L,A,hL,e⟩ X0 X0,λe=>n1 (k':=.v) (show V b by rw[e];exact s.wg F A) X0 X0,λe=>n1 (k':=.sh) (.inl e) X0 X0,λi p ho=>n1 (k':=.wk i) ⟨F,A,p,ho⟩ X0 X0⟩
  refine⟨s.bd _ _ hB,s.ne (k':=.st) X0 hB,λf=>s.ne (k':=.sh) X0 hB (.inr ⟨F,A,f⟩),λf=>s.ne (k':=.c) X0 hB ⟨F,A,f⟩,λi p f=>s.ne (k':=.wk i) X0 hB ⟨F,A,p,f⟩,al.at_,⟨al.j free,λb I=>?_,λb I=>?_⟩,λi p b I=>⟨λM=>(no (k:=.lg) M (.inl rfl)).2.2.2.2.2.2.2 i p I,λhz=>(no (k:=.lz) hz (.inr rfl)).2.2.2.2.2.2.2 i p I⟩⟩
  .obtain⟨R,Y,h3,h4,h5,h6,h7,_⟩:=no (k:=.lg) I (.inl rfl);exact⟨R,Y,h3,h4,h5,h6,h7,λhz=>by have:=s.un .lg .lz b I hz;cases this⟩
  .obtain⟨R,Y,h3,h4,h5,h6,h7,_⟩:=no (k:=.lz) I (.inr rfl);exact⟨R,Y,h3,h4,h5,h6,h7⟩
 obtain⟨agW,hg1,S⟩:=Qu _ _ _ _ hj;have abd:MemOp.ofEvents 0 a.frame.fn a.frame.place #[mk (.acquire (stA F.Wg))]=#[{g:=0,fn:=a.frame.fn,pos:=a.frame.place,act:=.mark (.acquire (stA F.Wg))}]:=by rw[ofEvents_eq];simp[ofEvent_mk]
 have opsE:∀op∈MemOp.ofEvents 0 a.frame.fn a.frame.place #[mk (.acquire (stA F.Wg))],op.g=0/\op.act.touch?=none:=by intro op m;rw[abd]at m;simp at m;subst m;exact⟨rfl,rfl⟩
 have hy:(t++MemOp.ofEvents 0 a.frame.fn a.frame.place #[mk (.acquire (stA F.Wg))])[t.size]? =some {g:=0,fn:=a.frame.fn,pos:=a.frame.place,act:=.mark (.acquire (stA F.Wg))}:=by rw[abd];simp
 have qa:(t++MemOp.ofEvents 0 a.frame.fn a.frame.place #[mk (.acquire (stA F.Wg))]).act? t.size=some (.mark (.acquire (stA F.Wg))):=by rw[act?_of hy]
 have qg:(t++MemOp.ofEvents 0 a.frame.fn a.frame.place #[mk (.acquire (stA F.Wg))]).g? t.size=some 0:=by simp[Trace.g?,hy]
 have qh:(t++MemOp.ofEvents 0 a.frame.fn a.frame.place #[mk (.acquire (stA F.Wg))]).heard t.size:=⟨0,qg,by rw[deaf_old (aS _)];exact y.deaf0⟩;generalize hu:MemOp.ofEvents 0 a.frame.fn a.frame.place #[mk (.acquire (stA F.Wg))]=u at opsE qa qg qh hy;obtain⟨p0,hp,hnr,xP⟩:=y.rel F A;have abe:∀i,i<F.n->∃r,p0<=r/\r<t.size/\yT (wZ V) (stA F.Wg) (t++u) (F.d+i+1) r/\RelBy (stA F.Wg) (t++u) (F.d+i+1) r:=λi p=>by obtain⟨r,Ta,J,Ya⟩:=xP i p (by have:=hq i p;simp only at this;omega);exact⟨r,Ta,lt_of_act? J.act,J.app λop m M=>by{rw[(opsE op m).1]at M;omega},Ya.appNot λop m=>by rw[(opsE op m).1];omega⟩
 have abf:∀k,p0<=k->(t++u).act? k≠some (.mark (.release (stA F.Wg))):=by rw[<-hu];exact sH hnr λe he=>by{simp at he;subst he;simp[mk]}
 have gN:∀(i:Nat)(op:MemOp),(t++u)[i]? =some op->op.g<=F.d+F.n:=qm y.S9 λop m=>by rw[(opsE op m).1];omega
 have kn1:=xL (V:=V) (N:=F.d) y.kn λop m R Y=>(opsE op m).2;have all:∀i x,touchAt (t++u) i=some x->¬wZ V x.loc->x.loc.isMemory=true->Knows (t++u) 0 i:=by
  refine Qi (Sh:=wZ V) (p0:=p0) qa qg qh abf λi x g Q hs hm M=>?_;obtain⟨op,ho,rfl⟩:=gL.1 M;obtain f|f:=Nat.eq_zero_or_pos op.g
  .exact .inl f
  .right;obtain K|K:=jY F.d op.g
   .right;have:=gN i op ho;obtain⟨r,Ta,hrq,J,_⟩:=abe (op.g-F.d-1) Q0;rw[show F.d+(op.g-F.d-1)+1=op.g by omega]at J;exact⟨r,Ta,J,hrq⟩
   .exact .inl (kn1 i x op.g Q hs hm M f K)
 have tl1:TL (wZ V) (BM (.fin F 0)) (tV (.fin F 0)) (Wp (.fin F 0) O D) (Rp (.fin F 0) D) (t++u):=y.tl.app s.Xe (g:=0) λop m=>⟨(opsE op m).1,λx Q=>by{rw[(opsE op m).2]at Q;cases Q}⟩;have X:∀b,lM F O G Z (λi=>(D (F.d+i)).O) b->b<w.heap.size/\¬V b:=by
  rintro b (f|rfl|f|⟨i,p,f⟩|⟨L,hL,rfl|f|f⟩)
  .exact s.own b f
  .exact⟨(s.c F A).1,(s.c F A).2.1⟩
  .exact⟨(s.sh F A b f.1).1,(s.sh F A b f.1).2.1⟩
  .exact⟨(s.wo F A i p b f).1,(s.wo F A i p b f).2.1⟩
  .have hB:Hd (.fin F 0) O D V G Z .lb L.B:=⟨F,L,A,hL,rfl⟩;exact⟨s.bd _ _ hB,s.ne (k':=.v) X0 hB⟩
  .exact⟨s.bd .lg b f,s.ne (k:=.lg) (k':=.v) X0 f⟩
  .exact⟨s.bd .lz b f,s.ne (k:=.lz) (k':=.v) X0 f⟩
 have abg:¬lM F O G Z (λi=>(D (F.d+i)).O) Zb.z:=by
  have hz:Hd (.fin F 0) O D V G Z .sh Zb.z:=.inl rfl;rintro(f|f|f|⟨i,p,f⟩|⟨L,hL,f|f|f⟩)
  .exact s.z.2.2 f
  .exact(s.zc F A).1 f.symm
  .exact f.2 rfl
  .exact(s.zc F A).2 i p f
  .exact s.ne (k':=.lb) X0 hz ⟨F,L,A,hL,f⟩
  .exact s.ne (k':=.lg) X0 hz f
  .exact s.ne (k':=.lz) X0 hz f
 have cm':Cm P ty (.calm (F.d+F.n)) (lM F O G Z λi=>(D (F.d+i)).O) ((gs.map (woken P a C w)).setIfInBounds 0 C) w (t++u) D bs V 0 (λ_=>False) (λ_=>False):=by
  have nA:∀{b},lM F O G Z (λi=>(D (F.d+i)).O) b->¬V b:=λf=>(X _ f).2;have sp':Sep (.calm (F.d+F.n)) (lM F O G Z λi=>(D (F.d+i)).O) D V (λ_=>False) (λ_=>False) w:=by
   refine⟨λk b E=>?_,λk k' b E Jo=>?_,λH f=>(qo f).elim,λH f=>(qo f).elim,λH f=>(qo f).elim,λH f=>(qo f).elim,λH f=>(qo f).elim,λH f=>(qo f).elim⟩
   .cases k with
    |st=>exact(X b E).1
    |wk i=>obtain⟨H,f,_⟩:=E;exact(qo f).elim
    |c=>obtain⟨H,f,_⟩:=E;exact(qo f).elim
    |v=>exact s.v b E
    |sh=>
     obtain rfl|⟨H,f,_⟩:=E
     .exact s.z.1
     .exact(qo f).elim
    |lb=>obtain⟨H,_,f,_⟩:=E;exact(qo f).elim
    |lg=>exact E.elim
    |lz=>exact E.elim
   .have cls:∀{k},Hd (.calm (F.d+F.n)) (lM F O G Z λi=>(D (F.d+i)).O) D V (λ_=>False) (λ_=>False) k b->(k=.st/\lM F O G Z (λi=>(D (F.d+i)).O) b)\/(k=.v/\V b)\/(k=.sh/\b=Zb.z):=λ{k} E=>by
     cases k with
     |st=>exact .inl ⟨rfl,E⟩
     |wk i=>obtain⟨H,f,_⟩:=E;exact(qo f).elim
     |c=>obtain⟨H,f,_⟩:=E;exact(qo f).elim
     |v=>exact .inr (.inl ⟨rfl,E⟩)
     |sh=>
      obtain rfl|⟨H,f,_⟩:=E
      .exact .inr (.inr ⟨rfl,rfl⟩)
      .exact(qo f).elim
     |lb=>obtain⟨H,_,f,_⟩:=E;exact(qo f).elim
     |lg=>exact E.elim
     |lz=>exact E.elim
    obtain⟨rfl,f⟩|⟨rfl,f⟩|⟨rfl,f⟩:=cls E<;>obtain⟨rfl,K⟩|⟨rfl,K⟩|⟨rfl,K⟩:=cls Jo
    .rfl
    .exact(nA f K).elim
    .subst K;exact(abg f).elim
    .exact(nA K f).elim
    .rfl
    .subst K;exact(s.z.2.1 f).elim
    .subst f;exact(abg K).elim
    .subst f;exact(s.z.2.1 K).elim
    .rfl
  refine⟨sp',y.out,?_,λk E=>?_,λH f=>(qo f).elim,?_,λH L f=>(qo f).elim,λH L f=>(qo f).elim,?_,?_,λk E=>?_,gN,λH f=>(qo f).elim,?_,?_⟩
  .have:=y.size;simp only[Md.old,Md.cur]at this ⊢;simp[this]
  .simp only[Md.old]at E;obtain f|f:=jY k F.d
   .obtain⟨x,q,Q,hq,J⟩:=y.old k f;exact⟨x,q,by rw[get_map_set _ _ _ _ Q0,Q,gq,Ed hq],hq,J⟩
   .obtain⟨x,q,Q,J,hq,_⟩:=w1 (k-F.d) Q0;rw[show F.d+(k-F.d)=k by omega]at Q J hq;exact⟨x,q,by rw[get_map_set _ _ _ _ Q0,Q,gq,Ed hq],hq,J⟩
  .have tlj:=tl1.join (Sh':=wZ V) (SS:=tV (.calm (F.d+F.n))) (W':=Wp (.calm (F.d+F.n)) (lM F O G Z λi=>(D (F.d+i)).O) D) (R':=Rp (.calm (F.d+F.n)) D) (λl hl=>hl) (λg l hl=>?_) (λg l hl=>?_) all
   .exact⟨tlj.quiet,λi x _⟨H,_,f,_⟩=>(qo f).elim,tlj.w,tlj.r,tlj.nr⟩
   .obtain⟨rfl,hl|⟨H,_,f,_⟩⟩|⟨H,_,f,_⟩:=hl
    .obtain⟨b,I,ho⟩:=hl.blk;refine⟨rfl,λ⟨ad,ha,hv⟩=>?_,hl.mem⟩;rw[ha]at I;cases I;exact(X _ ho).2 hv
    .exact(qo f).elim
    .exact(qo f).elim
   .obtain⟨rfl,ad,rfl,hz⟩|⟨H,_,f,_⟩|⟨H,_,_,f,_⟩:=hl
    .refine⟨rfl,λ⟨ad',ha,hv⟩=>?_,rfl⟩;cases ha;rw[hz]at hv;exact s.z.2.1 hv
    .exact(qo f).elim
    .exact(qo f).elim
  .exact xM (n:=0) y.bd (aS _) λop m x b Q=>by{rw[(opsE op m).2]at Q;cases Q}
  .rw[<-hu,Deaf_own,y.deaf0];rfl
  .simp only[Md.old,Md.cur]at E;rw[<-hu,Deaf_other t Q0 _ g_of_ofEvents];exact y.deafW k (by simp only[Md.old,Md.cur];omega)
  .intro i g M R hN hc;simp only[Md.old]at hN;obtain K|K:=jY F.d g
   .obtain⟨r,Ta,hrq,_,J⟩:=abe (g-F.d-1) Q0;rw[show F.d+(g-F.d-1)+1=g by omega]at J;have edge:HappensBefore (t++u) r t.size:=.single (.inr ⟨.marked hrq (.inr J.act) qa (λk E _=>abf k Q0),J.heard,qh⟩);have hle:i<=r:=Nat.le_of_not_lt λS=>J.after i S M hc;obtain S|hge:=jY i r
    .exact⟨t.size,qg,.trans (.single (.inl ⟨S,g,M,J.g⟩)) edge⟩
    .obtain rfl:i=r:=by omega
     exact⟨t.size,qg,edge⟩
   .exact uM (N:=F.d) y.ho (λop m _ _=>(opsE op m).2) i g M R K hc
  .intro i x g Q hs hm _ _ _;exact all i x Q hs hm
 exact Lb (M':=.calm (F.d+F.n)) (D':=D) (bs':=bs) (V':=V) (bF:=0) (G':=λ_=>False) (Z':=λ_=>False) hst hgo (by rw[hu];exact cm') hg1 S λH f=>(qo f).elim
theorem Cm.at{G:aD}(h:Cm P ty M O gs w t D bs V κ G Z)(d:Nat):Cm P ty M O gs (w.at d) t D bs V κ G Z:=by
 have s:=h.sep;refine⟨⟨s.bd,s.un,s.wg,s.n,s.pay,s.zz,s.ou,s.og⟩,h.out,h.size,h.old,λF f i x=>?_,h.tl,h.tk,λF L f v=>?_,h.bd,h.deaf0,h.deafW,h.S9,h.rel,h.ho,h.kn⟩
 .obtain⟨g,k,y⟩:=h.cur F f i x;refine⟨g,?_,y.rely ⟨⟨aS _,λ_ _=>rfl,.refl _⟩,RW.at w d,aS _,λ_ _ _ _ _ c=>⟨c.mu,c.sm,c.ro⟩,λ_ _ _ _ _ _=>rfl,λ_ _⟨W,s,c⟩=>⟨W,s,c.mu,c.sm,c.ro⟩⟩⟩;generalize gs[F.d+i+1]? =o at k;generalize bs (F.d+i)=b at k;cases k with
  |run=>exact .run
  |blocked m p q e r u=>exact .blocked m p q ⟨e.mu,e.sm,e.ro⟩ r u
 .obtain⟨W,s',a⟩:=h.lk F L f v;exact⟨W,s',⟨a.at_.mu,a.at_.sm,a.at_.ro⟩,a.li,a.ka,a.sm,a.ow,λl=>L.iG G Z w (w.at d) (λ_ _=>rfl) (λ_ _ _=>rfl) (a.j l)⟩
theorem WS.running_of{x:nP}(h:WS P ty F i x κ g w)(s:x.stage≠1):g.status=.running:=by
 cases h with
 |work _ h=>exact h.running
 |lib _ _ _ _ _ h _ _=>exact h.running_of s
theorem Lc:∀{j:Nat},1<=Vs j s->∃i,i<j/\5<=s i
 |0,h=>by simp[Vs,sumTo]at h
 |j+1,h=>by
  by_cases c:5<=s j
  .exact⟨j,Q0,c⟩
  .have:1<=Vs j s:=by simp only[Vs,sumTo,c5,av c]at h ⊢;simpa using h
   obtain⟨i,b,a⟩:=Lc this
   exact⟨i,Q0,a⟩
theorem Ld{G:aD}(h:Cm P ty M O gs w t D bs V κ G Z)(f:M.ph=some F)(j:i<M.cur)(n:(D (F.d+i)).stage≠1):∃(k:Nat)(g:dN),gs[k]? =some g/\g.status=.running:=by
 have run:∀{i:Nat},i<M.cur->(D (F.d+i)).stage≠1->(∀v,(D (F.d+i)).T≠ .q v)->∃(k:Nat)(g:dN),gs[k]? =some g/\g.status=.running:=λ{i} j E m=>by
  obtain⟨x,a,s⟩:=h.cur F f i j;refine⟨F.d+i+1,x,?_,s.running_of E⟩;generalize gs[F.d+i+1]? =o at a;generalize bs (F.d+i)=b at a;cases a with
  |run=>rfl
  |blocked _ _ l=>exact aF l (m _)
 obtain⟨x,a,s⟩:=h.cur F f i j;generalize C:gs[F.d+i+1]? =o at a;generalize bs (F.d+i)=b at a;cases a with
 |run=>exact⟨_,x,C,s.running_of n⟩
 |@blocked L W v u A m B _ _=>
  obtain⟨W',s',r⟩:=h.lk F L f u;obtain⟨rfl,rfl⟩:=B.unique r.at_;obtain⟨I,c,z,A,l⟩:=r.li.other j m;refine run c (λe=>?_) z;obtain⟨y,_,p⟩:=h.cur F f I c;cases p with
  |work J _=>omega
  |lib _ _ _ _ H _ _ _=>exact l (H (by rw[u];simp))
theorem someone{G:aD}(c:GS P ty Post U M O a w)(h:Cm P ty M O gs w t D bs V κ G Z)(j:K8 ty M w a gs[0]? bl)(f:AJ ty M D w):∃(i:Nat)(g:dN),gs[i]? =some g/\g.status=.running:=by
 generalize n:gs[0]? =o at j;cases j with
 |run=>exact⟨0,a,n,c.running⟩
 |@blocked F st l hw r s=>
  subst l;obtain⟨Y,Zvsmq39,d,e⟩:=f F rfl;obtain⟨rfl,rfl⟩:=hw.unique d;cases e with
  |reg k b=>obtain⟨i,m,q⟩:=Lc b;exact Ld h rfl m Q0
  |last L k b p=>simp only at b;exact Ld h rfl k Q0
theorem NJ{G:aD}(j:GS P ty Post U M O a w)(c:Cm P ty M O gs w t D bs V κ G Z)(k:K8 ty M w a gs[0]? bl):∀g∈gs,awake g:=by
 intro g n r;obtain⟨i,f⟩:=Array.mem_iff_getElem?.1 n;cases i with
 |zero=>
  rw[f]at k;cases k with
  |run=>rw[j.running];simp
  |blocked=>simp
 |succ i=>
  have l:i<M.old+M.cur:=by have:=(bJ.1 f).1;rw[c.size]at this;omega
  obtain h|h:=jY i M.old
  .obtain⟨x,q,e,o,_⟩:=c.old i h;rw[f]at e;cases e;obtain h|h:=o.status<;>rw[h]<;>simp
  .have p:∃F,M.ph=some F:=by
    cases M with
    |calm d=>simp only[Md.old,Md.cur]at l h;omega
    |_=>exact⟨_,rfl⟩
   obtain⟨F,m⟩:=p;have:=Md.kD m;obtain⟨x,e,s⟩:=c.cur F m (i-M.old) Q0;rw[show F.d+(i-M.old)+1=i+1 by omega,f]at e;generalize bs (F.d+(i-M.old))=b at e;cases e with
   |run=>obtain h|h:=s.status<;>rw[h]<;>simp
   |blocked=>simp
theorem abh{G:aD}(c:Cm P ty (.calm d) O gs w t D bs V κ G Z)(H:gs[0]? =some a){v:aA}(n:stepG P true a w=.ended (.done v) w es)(E:∀e∈es,EvM (.calm d) O e)(p:Post v w)(z:au)(k:Option (Nat×Nat)):
 ∃A,runT P (crowd gs w sl) 0=(.ended (.done v) w,A)/\Good P Post (crowd gs z k) (.done v) w (t++A):=by
 have s:=c.sep;have opsE:∀op∈MemOp.ofEvents 0 a.frame.fn a.frame.place es,op.g=0/\∃e∈es,op.act=.ofEvent e:=by intro op h;rw[ofEvents_eq]at h;obtain⟨e,C,rfl⟩:=Array.mem_map.1 h;exact⟨rfl,e,C,rfl⟩
 have I:TL (wZ V) (BM (.calm d)) (tV (.calm d)) (Wp (.calm d) O D) (Rp (.calm d) D) (t++MemOp.ofEvents 0 a.frame.fn a.frame.place es):=by
  refine c.tl.app s.Xe (g:=0) λop h=>?_;obtain⟨f,e,C,m⟩:=opsE op h;refine⟨f,λx K S=>?_⟩;rw[m]at K;obtain⟨B,M⟩|hw|⟨L,Q,X|⟨Y,F,_⟩,hw⟩:=Ec s.wg (E e C) x K S
  .exact .inl ⟨B,M,λ_=>rfl⟩
  .exact .inr (.inl (.inl ⟨rfl,.inl hw⟩))
  .exact .inr (.inr (.inl ⟨.inl ⟨rfl,L,Q,X⟩,hw⟩))
  .cases F
 have y:∀i g,gs[i]? =some g->i≠0->∃b q,i=b+1/\b<d/\QuitsD P q (D b).deaf g:=by
  intro i g f r;obtain⟨b,rfl⟩:∃b,i=b+1:=⟨i-1,Q0⟩;have l:b<d:=by have:=(bJ.1 f).1;rw[c.size]at this;simp only[Md.old,Md.cur]at this;omega
  obtain⟨g',q,o,W,_⟩:=c.old b l;rw[f]at o;cases o;exact⟨b,q,rfl,l,W⟩
 refine⟨_,runT_crowd_ended H (by simpa using n),v,rfl,p,I.nr,λi g f T R=>?_,⟨λg f=>?_,rfl⟩,λi g f r=>?_⟩
 .obtain⟨op,U,rfl⟩:=gL.1 f;have:=qm (N:=d) (u:=MemOp.ofEvents 0 a.frame.fn a.frame.place es) c.S9 (λop h=>by rw[(opsE op h).1];omega) i op U;exact uM (N:=d) c.ho (λop h B _=>by rw[(opsE op h).1]at B;omega) i op.g f Q0 this R
 .obtain⟨i,J⟩:=List.mem_iff_getElem?.1 f;rw[List.getElem?_drop]at J;obtain⟨b,q,_,_,j⟩:=y (1+i) g (by simpa[crowd]using J) Q0;exact⟨_,j.leaves⟩
 .obtain⟨b,q,rfl,l,j⟩:=y i g f r;refine⟨q,?_⟩;have:(t++MemOp.ofEvents 0 a.frame.fn a.frame.place es).deaf (b+1) (t++MemOp.ofEvents 0 a.frame.fn a.frame.place es).size=(D b).deaf:=by
   have:=Deaf_other t (g:=b+1) (g':=0) Q0 _ (g_of_ofEvents (fn:=a.frame.fn) (pos:=a.frame.place) (es:=es));rw[c.deafW b l]at this;exact this
  rw[this];exact j.hears _
theorem Rs.gB(f:Md->(aD)->dN->au->Rs)(M:Md)(O:aD)(g:dN)(w:au):Rs.lt (f M O g w) (.node f):=⟨f,M,O,g,w,rfl,rfl⟩
theorem abj{G:aD}(Jq:GS P ty Post U M O a w)(c:Cm P ty M O gs w t D bs V κ G Z)(k:gs[0]? =some a)(r:AJ ty M D w)(S:au)(K:Option (Nat×Nat)):
 (∃o w₁ A,runT P (crowd gs w sl) 0=(.ended o w₁,A)/\Good P (λv u=>Post v u/\u.output=Zb.o) (crowd gs S K) o w₁ (t++A))\/Next P ty Post (U,AB D (M.old+M.cur),1+sumTo (M.old+M.cur) bs) t (runT P (crowd gs w sl) 0):=by
 cases U with
 |zero=>exact Jq.elim
 |node f=>
  have sp:=c.sep;have live:M.live ty w:=λF hF=>let⟨st,sm,h,_⟩:=r F hF;⟨st,sm,h⟩;have refl:dU ty M O w w:=⟨.refl _ _ _,live⟩;have T:∀(m:Mark),m=.disable\/m=.enable->∀Wg,∀e∈#[mk m],Bk Wg e:=λm hm Wg e I=>by
   simp at I;subst I;obtain rfl|rfl:=hm
   .exact .inl rfl
   .exact .inr (.inl rfl)
  have N:∀Wg,∀e∈#[rd (stA Wg)],Bk Wg e:=λWg e I=>by simp at I;subst I;exact bk_cell _ _ rfl
  have bk2:∀Wg,∀e∈#[rd (stA Wg),wr (stA Wg)],Bk Wg e:=λWg e I=>by simp at I;obtain rfl|rfl:=I<;>exact bk_cell _ _ rfl
  cases Jq with
  |idle z h=>obtain⟨C,w',es,O',hgo,Ox,J,y⟩:=h w refl;exact .inr (idle0 c r k hgo Ox J y (Rs.gB f _ _ _ _))
  |@CK F j p B _ _ _ z h=>
   obtain⟨C,hgo,y⟩:=h w refl;obtain⟨st,sm,nZ,l⟩:=r _ rfl;refine .inr (book0 (M':=.opn F j p B 1) c k rfl rfl rfl hgo (.refl _ w) nZ (T _ (.inl rfl) _) rfl y (Rs.gB f _ _ _ _) ?_);cases l with
   |opn z h2 h3=>exact .opn z h2 h3
  |@en F j p B _ _ _ z h=>
   obtain⟨C,hgo,y⟩:=h w refl;obtain⟨st,sm,nZ,l⟩:=r _ rfl;refine .inr (book0 (M':=.opn F j p B 0) c k rfl rfl rfl hgo (.refl _ w) nZ (T _ (.inr rfl) _) rfl y (Rs.gB f _ _ _ _) ?_);cases l with
   |opn z h2 h3=>exact .opn z h2 h3
  |@Uz F _ _ _ z h=>
   obtain⟨C,hgo,y⟩:=h w refl;obtain⟨st,sm,nZ,l⟩:=r _ rfl;refine .inr (book0 (M':=.fin F 0) c k rfl rfl rfl hgo (.refl _ w) nZ (T _ (.inr rfl) _) rfl y (Rs.gB f _ _ _ _) ?_);cases l with
   |fin z=>exact .fin z
  |begin z h=>obtain⟨C,w',es,F,O',hgo,J,hh,Tc,UF,hd,hn,hC,hp,hSh,X,hlk,y⟩:=h w refl;exact .inr (Ye c k hgo J hh Tc UF hd hn hC hp hSh X hlk y (Rs.gB f _ _ _ _))
  |@add F j B _ _ _ z hj h=>
   obtain⟨st,sm,nZ,l⟩:=r F rfl;cases l with
   |opn E k2 k3=>have hV:=AA j (λi=>(D (F.d+i)).stage);have hn:=(sp.n F rfl).1;obtain⟨C,hgo,y⟩:=h w refl (Vs j (λi=>(D (F.d+i)).stage)) Q0 U5;refine .inr (book0 (M':=.opn F j 1 F.n 1) c k rfl rfl rfl hgo (aside_setCell w (stA F.Wg) _) (nZ.setSt _) (bk2 _) rfl y (Rs.gB f _ _ _ _) ?_);have:=WM.opn (F:=F) (j:=j) (p:=1) (B:=F.n) (df:=1) (s:=λi=>(D (F.d+i)).stage) E Q0 Q0;simpa using this
  |spawn z h=>obtain⟨C,child,H,O',hgo,hH,X,hx,y⟩:=h w refl;obtain⟨q,hch⟩:=hx (sp.pay _ rfl) (λL hL=>let⟨W,s,al⟩:=c.lk _ L rfl hL;⟨W,s,al.at_⟩) κ;exact .inr (Yf c r k hgo hH X hch y (Rs.gB f _ _ _ _))
  |@load F B _ _ _ z h=>
   obtain⟨st,sm,nZ,l⟩:=r F rfl;cases l with
   |opn E k2 k3=>
    have hV:=AA F.n (λi=>(D (F.d+i)).stage);have hn:=(sp.n F rfl).1;obtain⟨C,hgo,hz,Y⟩:=h w refl (Vs F.n (λi=>(D (F.d+i)).stage)) Q0 Q0 U5;by_cases hv:Vs F.n (λi=>(D (F.d+i)).stage)=0
    .refine .inr (book0 (M':=.fin F 1) c k rfl rfl rfl hgo (.refl _ w) nZ (N _) rfl (hz hv) (Rs.gB f _ _ _ _) ?_);have e:((Vs F.n (λi=>(D (F.d+i)).stage)+0:Nat):Int)*KK=0:=by rw[hv];simp
     rw[e];refine .fin λi hi=>?_;have h5:=le_sumTo (f:=λx=>c5 (D (F.d+x)).stage) hi;have c0:c5 (D (F.d+i)).stage=0:=by simp only[Vs]at hv;omega
     have:=E i hi;simp only at this ⊢;simp only[c5]at c0
     split at c0<;>omega
    .refine .inr (book0 (M':=.w2 F (Vs F.n (λi=>(D (F.d+i)).stage))) c k rfl rfl rfl hgo (.refl _ w) nZ (N _) rfl (Y hv) (Rs.gB f _ _ _ _) ?_);exact .w2 E (aS _) Q0
  |@cas F vs _ _ _ z h=>
   obtain⟨st,sm,nZ,l⟩:=r F rfl;cases l with
   |w2 E k2 k3=>
    have hV:=AA F.n (λi=>(D (F.d+i)).stage);have hn:=(sp.n F rfl).1;obtain⟨hz,Y⟩:=h w refl (Vs F.n (λi=>(D (F.d+i)).stage)) Q0 Q0 nZ;by_cases hv:Vs F.n (λi=>(D (F.d+i)).stage)=vs
    .obtain⟨C,hgo,y⟩:=hz hv;exact .inr (book0 (M':=.w3 F) c k rfl rfl rfl hgo (aside_setCell w (stA F.Wg) _) (nZ.setSt _) (bk2 _) rfl y (Rs.gB f _ _ _ _) (.reg E Q0))
    .obtain⟨C,hgo,y⟩:=Y hv;refine .inr (book0 (M':=.opn F F.n 0 (vs-1) 1) c k rfl rfl rfl hgo (.refl _ w) nZ (N _) rfl y (Rs.gB f _ _ _ _) ?_);exact .opn E Q0 Q0
  |@sem F _ _ _ z h2 h=>
   obtain⟨st,sm,nZ,l⟩:=r F rfl;obtain⟨hb,hu⟩:=h w refl;have Q:∀{st:Int},WgAt ty F.Wg w st 0->Next P ty Post (.node f,AB D ((Md.w3 F).old+(Md.w3 F).cur),1+sumTo ((Md.w3 F).old+(Md.w3 F).cur) bs) t (runT P (crowd gs w sl) 0):=by
    intro st R;have hgo:=hb ⟨_,R⟩;have hnw:wakes P a {a with status:=.blocked}=false:=by simp[wakes]
    have cm':=c.step0 (M':=.w3 F) (O':=O) (g:=a) (g':={a with status:=.blocked}) (w':=w) (es:=#[]) (fn:=a.frame.fn) (pos:=a.frame.place) rfl rfl rfl (aS _) (λ_ _ _ _=>rfl) ⟨rfl,rfl⟩ live (λb hb=>.inl hb) (λb hb=>(sp.own b hb).1) X0 X0 rfl;simp only[hnw,gU,if_false]at cm';refine⟨_,_,(.node f,AB D ((Md.w3 F).old+(Md.w3 F).cur),0+sumTo ((Md.w3 F).old+(Md.w3 F).cur) bs),runT_crowd_go k R5,.single (Prod.Lex.right _ (Prod.Lex.right _ Q0)),_,w,sl,.w3 F,O,D,bs,V,κ,G,Z,.node f,a,0,rfl,?_,cm',?_,r,rfl⟩
    .exact Mv.sem z h2 h
    .have hlt:0<gs.size:=(bJ.1 k).1;rw[get_map_set_same _ _ _ hlt];exact .blocked rfl R z h2
   cases l with
   |reg E k2=>exact .inr (Q nZ)
   |last L E k2 k3=>exact .inr (Q nZ)
   |sema E=>
    obtain⟨C,hgo,y⟩:=hu nZ;refine .inr (book0 (M':=.fin F 1) c k rfl rfl rfl hgo (aside_setCell w (smA F.Wg) _) (nZ.setSm _) ?_ ?_ y (Rs.gB f _ _ _ _) (.fin E))
    .intro e I;simp[semEvents]at I;obtain rfl|rfl|rfl|rfl:=I
     .exact .inl rfl
     .exact bk_cell _ _ rfl
     .exact bk_cell _ _ rfl
     .exact .inr (.inl rfl)
    .simp[deafBehind,semEvents,Md.df]
  |@Xd F _ _ _ z h=>
   obtain⟨st,sm,nZ,l⟩:=r F rfl;cases l with
   |fin E=>obtain⟨C,hgo,y⟩:=h w refl nZ;exact .inr (book0 (M':=.fin F 1) c k rfl rfl rfl hgo (.refl _ w) nZ (N _) rfl y (Rs.gB f _ _ _ _) (.fin E))
  |@acq F _ _ _ z h=>obtain⟨C,hgo,y⟩:=h w refl;exact .inr (aes c r k hgo λG Z vs Os hj=>⟨_,y G Z vs Os hj,Rs.gB f _ _ _ _⟩)
  |done z h=>obtain⟨v,es,Qv,J,abk⟩:=h w refl;obtain⟨A,e1,e2⟩:=abh (Post:=λv u=>Post v u/\u.output=Zb.o) (sl:=sl) c k Qv J ⟨abk,c.out⟩ S K;exact .inl ⟨_,_,A,e1,e2⟩
theorem Qw:∀μ m t,Ivt P ty Post μ m t->(∃o w A,stepT P m=(.ended o w,A)/\Good P (λv u=>Post v u/\u.output=Zb.o) m o w (t++A))\/(∃m' A R,stepT P m=(.next m',A)/\Relation.TransGen r1 R μ/\Ivt P ty Post R m' (t++A)):=by
 rintro μ m t ⟨gs,w,sl,M,O,D,bs,V,κ,G,Z,U,a,bl,rfl,B,l,I,H,rfl⟩;obtain⟨i,g,d,s,p,r,E⟩:=crowd_pick (P:=P) (w:=w) (sl:=sl) (NJ B l I) (someone B l I H);rw[E];have live:M.live ty w:=λF n=>let⟨st,sm,h,_⟩:=H F n;⟨st,sm,h⟩;have b:=B.rely (w₁:=w.at d) ⟨⟨aS _,λ_ _=>rfl,.refl _⟩,live⟩;have c:=l.at d;have f:AJ ty M D (w.at d):=H;have z:K8 ty M (w.at d) a gs[0]? bl:=by
  generalize gs[0]? =o at I;cases I with
  |run=>exact .run
  |blocked h1 h2 h3 h4=>exact .blocked h1 h2 h3 h4
 cases i with
 |zero=>
  have ha:gs[0]? =some a/\bl=1:=by
   generalize ho:gs[0]? =o at I;cases I with
   |run=>exact⟨rfl,rfl⟩
   |blocked=>rw[ho]at p;cases p;cases r
  obtain⟨ha,rfl⟩:=ha;exact abj (sl:=s) b c ha f w sl
 |succ i=>
  right;have K:i<M.old+M.cur:=by have:=(bJ.1 p).1;rw[l.size]at this;omega
  obtain h|h:=jY i M.old
  .obtain⟨x,q,y,S,hr⟩:=l.old i h;rw[p]at y;cases y;cases q with
   |zero=>rw[S.1]at r;cases r
   |succ q=>
    obtain⟨hf,_⟩|⟨_,g',es,C,hst,S⟩:=S
    .rw[hf]at r;cases r
    .have X:=c.UD (g:=g) (fn:=g.frame.fn) (pos:=g.frame.place) h C S;obtain⟨W,Q⟩:=z.other (P:=P) (g:=g) (x:=g') (w':=w.at d) (k:=i+1) b.running Q0 (.inr λF hM y=>y);refine⟨_,_,_,runT_crowd_go p (by simpa using hst (w.at d)),.single (Prod.Lex.right _ (Prod.Lex.left _ _ (Jp K ?_))),_,w.at d,s,M,O,_,_,V,κ,G,Z,U,a,W,rfl,b,X,Q,λF n=>?_,rfl⟩
     .rw[hr];exact Prod.Lex.right _ (Ql q)
     .obtain⟨st,sm,nZ,Xj⟩:=f F n;refine⟨st,sm,nZ,?_⟩;have hN:=Md.kD n;have e:(λi_1=>(upd D i ⟨(D i).O,(D i).v,(D i).stage,nat q,deafBehind (D i).deaf es,(D i).T,(D i).ow,(D i).Z⟩ (F.d+i_1)).stage)=λi=>(D (F.d+i)).stage:=by
       funext x
       rw[upd_ne D _ Q0]
      rw[e];exact Xj
  .have hph:∃F,M.ph=some F:=by
    cases M with
    |calm d=>simp only[Md.old,Md.cur]at K h;omega
    |_=>exact⟨_,rfl⟩
   obtain⟨F,n⟩:=hph;have hN:=Md.kD n;obtain⟨j,rfl⟩:∃j,i=F.d+j:=⟨i-F.d,Q0⟩;obtain⟨x,y,hs⟩:=c.cur F n j Q0;rw[p]at y;generalize hb:bs (F.d+j)=bj at y;cases y with
   |blocked=>cases r
   |run=>
    cases hs with
    |work h8 hw=>exact Qr (sl:=s) b c z f n Q0 p hb h8 hw rfl
    |lib h7 Y hrk how Yd N L J=>exact La (sl:=s) b c z f n Q0 p r rfl rfl hrk rfl how Yd h7 Y N L J rfl
theorem Ee(j:GE P ty Post (.calm 0) O a w)(m:w.output=Zb.o)(A:∀b,O b->b<w.heap.size)(C:Zb.z<w.heap.size)(p:¬O Zb.z):
 ∃N last o w' y,runNT P (N+1) (solo a w) #[]=(.ended o w',y)/\runN P N (solo a w)=.next last/\step P last=.ended o w'/\Good P (λv u=>Post v u/\u.output=Zb.o) last o w' y:=by
 obtain⟨U,j⟩:=j;refine run_of_inv (aa2.transGen) (Ivt P ty Post) (Good P λv u=>Post v u/\u.output=Zb.o) Qw (U,AB (λ_=>⟨λ_=>False,default,0,.zero,0,.pre,false,λ_=>False⟩) 0,1+sumTo 0 λ_=>0) _ _ ⟨#[a],w,none,.calm 0,O,λ_=>⟨λ_=>False,default,0,.zero,0,.pre,false,λ_=>False⟩,λ_=>0,λ_=>False,0,λ_=>False,λ_=>False,U,a,1,rfl,j,?_,.run,λF h=>(qo h).elim,rfl⟩;have f:∀{k:Ky}{b:Nat},Hd (.calm 0) O (λ_=>⟨λ_=>False,default,0,.zero,0,.pre,false,λ_=>False⟩) (λ_=>False) (λ_=>False) (λ_=>False) k b->(k=.st/\O b)\/(k=.sh/\b=Zb.z):=λ{k b} d=>by
  cases k with
  |st=>exact .inl ⟨rfl,d⟩
  |wk i=>obtain⟨e,h,_⟩:=d;exact(qo h).elim
  |c=>obtain⟨e,h,_⟩:=d;exact(qo h).elim
  |sh=>
   obtain rfl|⟨e,h,_⟩:=d
   .exact .inr ⟨rfl,rfl⟩
   .exact(qo h).elim
  |lb=>obtain⟨e,_,h,_⟩:=d;exact(qo h).elim
  |_=>exact d.elim
 refine⟨⟨λk b d=>?_,λk D b d t=>?_,λe h=>(qo h).elim,λe h=>(qo h).elim,λe h=>(qo h).elim,λe h=>(qo h).elim,λe h=>(qo h).elim,λe h=>(qo h).elim⟩,m,rfl,λk d=>aF d (dO k),λe h=>(qo h).elim,⟨λi op x r=>by simp at r,λi x n=>?_,λg l _ i x n=>?_,λg l _ i x n=>?_,λs=>noRace_nil s⟩,λe L h=>(qo h).elim,λe L h=>(qo h).elim,λi x b n=>?_,rfl,λk d=>aF d (dO k),λi op r=>by simp at r,λe h=>(qo h).elim,λi g B=>by simp[Trace.g?]at B,λi x g n=>?_⟩
 .obtain⟨_,h⟩|⟨_,rfl⟩:=f d
  .exact A b h
  .exact C
 .obtain⟨rfl,h⟩|⟨rfl,h⟩:=f d<;>obtain⟨rfl,q⟩|⟨rfl,q⟩:=f t
  .rfl
  .subst q;exact(p h).elim
  .subst h;exact(p q).elim
  .rfl
 all_goals(simp[touchAt,Trace.act?]at n)
def Map.left(π:Map):Map:=⟨λa b=>a=b/\∃c,π.own a c,π.sh,π.g,π.shg⟩
variable {π eH E : Map}
theorem Map.rel.left{b:Nat}(h:π.rel b b'):π.left.rel b b:=⟨h.or.imp (λx=>⟨rfl,_,x⟩) λx=>⟨x.1,rfl⟩,.inr rfl⟩
theorem bR.left{a C:Addr}(h:bR π a C):bR π.left a a:=⟨h.block.left,rfl,rfl⟩
theorem aL.left{S:aD}{v:aA}(h:aL S π v v'):aL S π.left v v:=by
 induction h with
 |bool b=>exact .bool b
 |int k n=>exact .int k n
 |string s=>exact .string s
 |jL=>exact .jL
 |ptr a=>exact .ptr a.left
 |dQ l c=>exact .dQ l c
 |slice l c a=>exact .slice l c a.left
 |iT=>exact .iT
 |map r=>exact .map r.left
 |func s x _ e _ d y=>exact .func s rfl d rfl y
 |nilFunc=>exact .nilFunc
 |iface t _ i=>exact .iface t i
 |nilIface=>exact .nilIface
 |agg x _ i=>exact .agg rfl i
 |tuple x _ i=>exact .tuple rfl i
 |junk h=>exact .undef
 |fG C=>exact .fG _
 |DV n f c=>exact .DV _ _ _
theorem bq.left{S:aD}{x b:Array aA}(h:bq S π x b):bq S π.left x x:=⟨rfl,λi a=>(h.2 i a).left⟩
theorem ko.left{S:aD}{o f:Obj}(h:ko S π o f):ko S π.left o o:=by
 cases h with
 |cells e z a=>exact .cells e z a.left
 |@map x g n s a=>
  refine .map n rfl λi y j c b=>?_;rw[c]at b;cases b;have d:i<g.size:=by rw[<-s];exact(bJ.1 c).1
  obtain⟨q,r,_⟩:=a i y _ c (iU d);exact⟨q.left,r.left,rfl⟩
 |number l a=>exact .number l a.left
theorem bI.left{S:aD}(h:bI S π w w'):bI S π.left w w:=by
 refine⟨λb b' f=>?_,λb f=>?_,λb c d a g=>a.1.symm.trans g.1,λb c d a g=>a.1.trans g.1.symm,λb b' f=>?_,h.high,.refl _⟩
 .obtain⟨rfl,c,a⟩:=f;obtain⟨o,p,e,_,r⟩:=h.own b c a;exact⟨o,o,e,e,r.left⟩
 .obtain⟨c,m,e,z,q,i,n,j,k,l⟩:=h.sh b f;exact⟨c,c,e,z,(0,z),i,i,j.left,k,l⟩
 .obtain⟨rfl,c,a⟩:=f;exact⟨(h.apart b c a).1,(h.apart b c a).1⟩
theorem fQ.left{S:aD}{a C:Act}(h:fQ S π a C):fQ S π.left a a:=⟨h.tmps.left,h.defers.1,h.defers.1⟩
theorem fQ.mono{S:aD}(l:π.le eH){a C:Act}(h:fQ S π a C):fQ S eH a C:=⟨h.tmps.mono l,h.defers⟩
theorem fQ.eval{S:aD}{a C:Act}(h:fQ S π a C):Cy S π a.eval C.eval:=by
 refine⟨λo c=>?_,λv=>rfl,λf=>⟨rfl,rfl⟩⟩;cases o with
 |tmp t=>exact h.tmps.getD t
 |const v=>exact Flat.rel c
 |global g=>exact c.elim
 |func f=>exact .func c rfl (λi b=>by simp at b) rfl (λi b=>by simp at b)
theorem fQ.put{S:aD}{a C:Act}(h:fQ S π a C)(d:Option Tmp){v:aA}(b:aL S π v v'):fQ S π (a.put d v) (C.put d v'):=by
 cases d with
 |none=>exact h
 |some d=>exact⟨h.tmps.set d b,h.defers⟩
structure PF where
 b:Frame
 a:Act
 k:List Item
def PF.fr(f:PF):Frame:=f.b.at f.a f.k
structure Td(S:aD)(π:Map)(f f':PF):Prop where
 b:f'.b=f.b
 k:f'.k=f.k
 a:fQ S π f.a f'.a
variable {X R : List PF} {f' : PF}
theorem Td.mono{S:aD}(l:π.le eH){f:PF}(h:Td S π f f'):Td S eH f f':=⟨h.b,h.k,h.a.mono l⟩
structure Kd(O:aD)(w:au):Prop where
 img:∀b,O b->Zb.n<=b
 kp:∀b,b<Zb.n->w.heap[b]? =Zb.h b
 sz:Zb.n<=w.heap.size
structure Rd(P:Program)(π:Map)(w:au):Prop where
 g:P.globals.size=π.g
 sh:∀b,π.sh b->b=Zb.z\/b<Zb.n
 z:π.sh Zb.z
 kd:Kd π.img w
def own(O:aD)(b:Nat):Prop:=O b\/(b<Zb.n/\b≠Zb.z)
def CP(S:aD)(P:Program)(ty:bf)(Post:aA->au->Prop)(f:PF)(X:List PF)(w:au):Prop:=∀(d:Nat)(π:Map)(f':PF)(R:List PF)(w':au),Rd P π w'->Td S π f f'->q9 (Td S π) X R->bI S π w w'->GE P ty Post (.calm d) (own π.img) (gr f'.fr (R.map PF.fr)) w'
def CPE(S:aD)(P:Program)(ty:bf)(Post:aA->au->Prop)(n:Nat)(f:PF)(X:List PF)(w:au):Prop:=∀(d:Nat)(π:Map)(f':PF)(R:List PF)(w':au),Rd P π w'->Td S π f f'->(∀i,n<=i->f'.a.tmps[i]? =f.a.tmps[i]?)->q9 (Td S π) X R->bI S π w w'->GE P ty Post (.calm d) (own π.img) (gr f'.fr (R.map PF.fr)) w'
theorem CP.e{S:aD}{f:PF}(h:CP S P ty Post f X w):CPE S P ty Post n f X w:=λd π f' R w' a b _ c e=>h d π f' R w' a b c e
theorem CV{Sh:aD}(s:∀b,Sh b->b=Zb.z\/b<Zb.n){u:au}(h:dU ty (.calm d) (own O) w u):bB Sh O w u:=
 ⟨h.o.size,λb a=>by
   obtain a|a:=a
   .exact h.o.keep b (.inl (.inl a))
   .by_cases e:b=Zb.z
    .exact h.o.keep b (.inr (.inl e))
    .exact h.o.keep b (.inl (.inr ⟨(s b a).resolve_left e,e⟩)),h.o.os⟩
theorem dG{u:au}(R:Rd P π w)(h:dU ty (.calm d) (own π.img) w u):bB π.sh π.img w u:=CV R.sh h
theorem Kd.rely{u:au}(h:Kd O w)(r:dU ty (.calm d) (own O) w u):Kd O u:=
 ⟨h.img,λb a=>by
   refine Eq.trans ?_ (h.kp b a)
   by_cases e:b=Zb.z
   .exact r.o.keep b (.inr (.inl e))
   .exact r.o.keep b (.inl (.inr ⟨a,e⟩)),bY h.sz r.o.size⟩
theorem Rd.rely{u:au}(h:Rd P π w)(r:dU ty (.calm d) (own π.img) w u):Rd P π u:=⟨h.g,h.sh,h.z,h.kd.rely r⟩
theorem Kd.guar{u v:au}(h:Kd O u)(g:jW O O' u v):Kd O' v:=⟨λb a=>(g.fresh b a).elim (h.img b) λx=>bY h.sz x,λb a=>(g.frame b (bG a h.sz) λx=>Nat.not_lt.2 (h.img b x) a).trans (h.kp b a),bY h.sz g.size⟩
theorem jW.own{u v:au}(h:Kd O u)(g:jW O O' u v):jW (own O) (own O') u v:=⟨λb a=>a.imp (g.sub b) id,λb a=>a.elim (λx=>(g.fresh b x).imp .inl id) λx=>.inl (.inr x),λb a=>a.elim (g.bound b) λx=>bG x.1 (bY h.sz g.size),g.size,λb a n=>g.frame b a λx=>n (.inl x),g.tape,g.os,g.output⟩
theorem wJ{Sh:aD}(s:∀b,Sh b->b=Zb.z\/b<Zb.n){e:Event}(h:qH Sh O e):EvM (.calm d) (own O) e:=by
 left;unfold qH at h ⊢;cases l:e.loc with
 |cell a=>
  rw[l]at h;refine⟨h.1,?_⟩;obtain x|⟨x,y⟩:=h.2
  .exact .inl (.inl x)
  .by_cases c:a.block=Zb.z
   .exact .inr ⟨.inl c,y⟩
   .exact .inl (.inr ⟨(s _ x).resolve_left c,c⟩)
 |obj r=>rw[l]at h;exact⟨h.1,.inl h.2⟩
 |output=>trivial
 |goroutines=>rw[l]at h;exact h
 |mark m=>rw[l]at h;cases m<;>exact h
theorem GE.wK{Sh:aD}(i:∀b,Sh b->b=Zb.z\/b<Zb.n)(h:iK P true Sh Stop O g w)(f:Kd O w)(s:∀O g u,Stop O g u->Kd O u->GE P ty Post (.calm d) (own O) g u):GE P ty Post (.calm d) (own O) g w:=by
 induction h with
 |@stop O g w h=>exact s O g w (h w (.refl _ _ _)) f
 |@step O g w g' w' es O' r l c m _ p=>refine .mk (.idle r λu j=>?_);have a:=CV i j;have k:=f.rely j;exact⟨g' u,w' u,es u,own (O' u),l u a,(c u a).own k,λe o=>wJ i (m u a e o),p u a (k.guar (c u a))⟩
theorem rG{S:aD}{u w:au}(h:Turns π E u w)(H:bI S E w₁ w):jW π.img E.img u w:=⟨λb⟨a,c⟩=>⟨a,h.le.own _ _ c⟩,λb⟨a,c⟩=>(h.fresh a b c).imp (λx=>⟨a,x⟩) id,λb⟨a,c⟩=>(H.lt c).2,h.size,λb d n=>h.frame b d λa c=>n ⟨a,c⟩,h.tape,h.os,h.output⟩
theorem AO(l:π.le E){e:Event}(b:vM E e):qH π.sh E.img e:=by
 unfold vM at b;unfold qH;cases h:e.loc with
 |cell a=>rw[h]at b;exact⟨b.1,b.2.imp id λx=>⟨(l.sh _).2 x.1,x.2⟩⟩
 |obj r=>rw[h]at b;exact b
 |output=>trivial
 |goroutines=>rw[h]at b;exact b
 |mark m=>rw[h]at b;cases m<;>exact b
theorem dV{S:aD}{u:au}(h:Rd P π w')(g:bI S π w w')(a:dU ty (.calm d) (own π.img) w' u):jW (own π.img) (own π.img) u u:=⟨λ_ x=>x,λ_ x=>.inl x,λb e=>e.elim (λ⟨c,f⟩=>((g.rely (dG h a) w.tape w.drawn).lt f).2) λx=>bG x.1 (h.rely a).kd.sz,aS _,λ_ _ _=>rfl,rfl,rfl,rfl⟩
theorem CP.stay{S:aD}{f:PF}{u:au}(h:CP S P ty Post f X w)(a:Rd P π w')(c:Td S π f f')(s:q9 (Td S π) X R)(e:bI S π w w')(b:dU ty (.calm d) (own π.img) w' u):GE P ty Post (.calm d) (own π.img) (gr f'.fr (R.map PF.fr)) u:=h d π f' R u (a.rely b) c s (e.rely (dG a b) w.tape w.drawn)
theorem CP.ctl{S:aD}{b:Frame}{a:Act}{k':List Item}(h:∀(C:Act)(cs:List Frame)(u:au),stepG P true (gr (b.at C k) cs) u=.go (gr (b.at C k') cs) u #[])(l:CP S P ty Post ⟨b,a,k'⟩ X w):CP S P ty Post ⟨b,a,k⟩ X w:=by intro d π f' R w' c f s i;obtain⟨b',C,g⟩:=f';obtain⟨rfl,rfl,j⟩:b'=b/\g=k/\fQ S π a C:=⟨f.b,f.k,f.a⟩;refine .mk (.idle rfl λu e=>⟨_,u,#[],_,h C _ u,dV c i e,X0,?_⟩);exact l d π ⟨b',C,k'⟩ R u (c.rely e) ⟨rfl,rfl,j⟩ s (i.rely (dG c e) w.tape w.drawn)
theorem CP.cond{S:aD}{P:Program}{ty:bf}{Post:aA->au->Prop}{b:Frame}{a:Act}{k:List Item}{c:Operand}{x y:Code}{t:Bool}{X:List PF}{w:au}(m:bE S c)(n:a.eval c=.bool t)(o:CP S P ty Post ⟨b,a,.code (if t then x else y)::k⟩ X w):CP S P ty Post ⟨b,a,.code (.cond c x y)::k⟩ X w:=by
 intro d π f' R w' h f s l;obtain⟨b',C,i⟩:=f';obtain⟨rfl,rfl,j⟩:b'=b/\i=_/\fQ S π a C:=⟨f.b,f.k,f.a⟩;have e:C.eval c=.bool t:=by
  have:=j.eval.rel c m;rw[n]at this;generalize C.eval c=x at this;cases this with
  |bool=>rfl
 refine .mk (.idle rfl λu g=>⟨_,u,#[],_,stepG_cond e,dV h l g,X0,?_⟩);exact o d π ⟨b',C,_⟩ R u (h.rely g) ⟨rfl,rfl,j⟩ s (l.rely (dG h g) w.tape w.drawn)
theorem CP.op{S:aD}(K:fH S P){b:Frame}(NI:b.kind=.normal){a:Act}(U:A[i]? =some o)(hw:Region.wanted o (yielded A a.tmps)=true)(D:gF S P o.op)
 (h:∀t d,∃v w₁,(execOp a.eval o).run P (tp w t d)=.ok (.value v) w₁/\CP S P ty Post ⟨b,a.put o.dst v,aT A T::k⟩ X w₁):CP S P ty Post ⟨b,a,aT A (i::T)::k⟩ X w:=by
 intro d π f' R w' l y V N;obtain⟨b',C,F⟩:=f';obtain⟨rfl,rfl,s⟩:b'=b/\F=_/\fQ S π a C:=⟨y.b,y.k,y.a⟩;refine .mk (.idle rfl λu H=>?_);obtain⟨v,w₁,I,O⟩:=h u.tape u.drawn;have B:=N.rely (dG l H) u.tape u.drawn;have m:=l.rely H;have r:=Ai (o:=o) K.D8 l.g s.eval D;have G:=runs r (tp w u.tape u.drawn) u #[] B (λi q _ _=>rfl);rw[I]at G;obtain⟨n,f,J,E,c⟩:=G;have Q:=c.ans;obtain⟨v',rfl,W⟩:∃v',n=.value v'/\aL S E v v':=by cases Q with|value h=>exact⟨_,rfl,h⟩
 have Y:yielded A C.tmps=yielded A a.tmps:=funext λj=>ru s.tmps A j;have p:=rG c.turns c.heap;refine⟨_,f,_,own E.img,stepG_value U (by rw[Y];exact hw) G6 J,p.own m.kd,λe M=>wJ l.sh (AO c.turns.le ?_),?_⟩
 .have:=jr P _ _ e M;obtain x|x:=c.evs e this
  .simp at x
  .exact x
 .exact O d E ⟨b',C.put o.dst v',_⟩ R f ⟨l.g.trans c.turns.le.g.symm,λb L=>l.sh b ((c.turns.le.sh b).2 L),(c.turns.le.sh _).1 l.z,m.kd.guar p⟩ ⟨rfl,rfl,(s.mono c.turns.le).put _ W⟩ (V.mono λ_ _ x=>x.mono c.turns.le) c.heap
theorem CP.Xm{S:aD}{b:Frame}(NI:b.kind=.normal){a:Act}{fn:Func}{c:Code}
 (L:A[i]? =some o)(hw:Region.wanted o (yielded A a.tmps)=true)(q:o.op=.call {callee:=.value (.func f),args,argTypes:=Zvats})(e:∀x∈args,bE S x)(B:P.funcs[f]? =some fn)(h:(fn.name== "runtime.NumGoroutine")=false)(G:fn.body=some c)
 (K:CPE S P ty Post args.size ⟨base f,{tmps:=args.map a.eval++Array.replicate (fn.ntmps-(args.map a.eval).size) ak,defers:=[]},[.code c]⟩ (⟨b,a,aT A (i::T)::k⟩::X) w):CP S P ty Post ⟨b,a,aT A (i::T)::k⟩ X w:=by
 intro d π f' R w' v g M H;obtain⟨b',C,F⟩:=f';obtain⟨rfl,rfl,z⟩:b'=b/\F=_/\fQ S π a C:=⟨g.b,g.k,g.a⟩;have l:fn.body.isNone=false:=by rw[G];rfl
 have s:yielded A C.tmps=yielded A a.tmps:=funext λj=>ru z.tmps A j;have D:∀cs u,stepG P true (gr (b'.at C (aT A (i::T)::k)) cs) u=.go (gr ((base f).at {tmps:=args.map C.eval++Array.replicate (fn.ntmps-(args.map C.eval).size) ak,defers:=[]} [.code c]) (b'.at C (aT A (i::T)::k)::cs)) u #[]:=by
  intro cs u;have t:=stepG_enter (P:=P) (main:=true) (k:=k) (cs:=cs) (rest:=T) L (by rw[s];exact hw) G6 (run_call_body (P:=P) (w:=u) q B h l);rw[enter_at _ B G]at t;have:listed P b'.fn C o u=#[]:=by unfold listed;rw[events_call_body q B h l];exact seen_none P _
  rw[this]at t;exact t
 refine .mk (.idle rfl λu E=>⟨_,u,#[],own π.img,D _ u,dV v H E,X0,?_⟩);have m:=KT z.eval e;refine K d π ⟨base f,{tmps:=args.map C.eval++Array.replicate (fn.ntmps-(args.map C.eval).size) ak,defers:=[]},[.code c]⟩ (⟨b',C,aT A (i::T)::k⟩::R) u (v.rely E) ⟨rfl,rfl,⟨?_,rfl,rfl⟩⟩ (λj r=>?_) (.cons ⟨rfl,rfl,z⟩ M) (H.rely (dG v E) w.tape w.drawn)
 rotate_left 1
 .show(args.map C.eval++Array.replicate (fn.ntmps-(args.map C.eval).size) ak)[j]? =(args.map a.eval++Array.replicate (fn.ntmps-(args.map a.eval).size) ak)[j]?;rw[Array.getElem?_append_right (by simpa using r),Array.getElem?_append_right (by simpa using r)];simp
 show bq S π (args.map a.eval++Array.replicate (fn.ntmps-(args.map a.eval).size) ak) (args.map C.eval++Array.replicate (fn.ntmps-(args.map C.eval).size) ak);rw[<-m.1];refine m.append (bq.jc rfl λj x y I s=>?_);rw[I]at s;cases s;have r:=(bJ.1 I);obtain⟨J,n⟩:=r;simp at n;subst n;exact .undef
theorem CP.out{S:aD}{b h:Frame}(q:b.kind=.normal){a g:Act}{c:List Item}{fn:Func}(J:a.defers=[])(H:P.funcs[b.fn]? =some fn){V:Act->aA}
 (r:∀(a:Act) u,(results fn a.tmps).run P u=.ok (V a) u)(x:∀(a:Act) u,(results fn a.tmps).events P u #[]=#[])(G:∀(π:Map) a C,fQ S π a C->aL S π (V a) (V C))
 (I:CP S P ty Post ⟨h,g.put ((A[i]?).bind (·.dst)) (V a),aT A T::c⟩ X w):CP S P ty Post ⟨b,a,.code .ret::k⟩ (⟨h,g,aT A (i::T)::c⟩::X) w:=by
 intro d π f' R w' m l z y;obtain⟨b',C,B⟩:=f';obtain⟨rfl,rfl,E⟩:b'=b/\B=_/\fQ S π a C:=⟨l.b,l.k,l.a⟩;cases z with
 |@cons _ F _ s t z=>
  obtain⟨f,e,p⟩:=F;obtain⟨rfl,rfl,j⟩:f=h/\p=_/\fQ S π g e:=⟨t.b,t.k,t.a⟩;have v:C.defers=[]:=E.defers.2;refine .mk (.idle rfl λu n=>⟨_,u,#[],own π.img,stepG_ret',dV m y n,X0,?_⟩);refine .mk (.idle rfl λD o=>⟨_,D,#[],own π.img,stepG_leave q v H (r C D) (x C D),?_,X0,?_⟩)
  .exact dV (m.rely n) (y.rely (dG m n) w.tape w.drawn) o
  .rw[show(PF.fr ⟨f,e,aT A (i::T)::c⟩)=f.at e (aT A (i::T)::c)from rfl,Frame.finish_at];exact I.stay (f':=⟨f,e.put ((A[i]?).bind (·.dst)) (V C),aT A T::c⟩) (m.rely n) ⟨rfl,rfl,j.put _ (G π a C E)⟩ z (y.rely (dG m n) w.tape w.drawn) o
structure Kn(ty:bf)(F:Ph)(O:aD)(Fx:au->Prop)(w:au):Prop where
 fx:Fx w
 live:WgLive ty F.Wg w
 bd:∀b,O b->b<w.heap.size
def Il(F:Ph)(O:aD)(Fx:au->Prop):Prop:=∀w u,bB (λb=>b=Zb.z\/F.Sh b) O w u->Fx w->Fx u
theorem Kn.rely{u:au}(h:Kn ty F O Fx w)(s:Il F O Fx)(c:M.ph=some F)(r:dU ty M O w u):Kn ty F O Fx u:=by refine⟨s w u ⟨r.o.size,λb a=>r.o.keep b (a.imp id λx=>x.imp id λy=>⟨F,c,y⟩),r.o.os⟩ h.fx,r.live F c,λb a=>bG (h.bd b a) r.o.size⟩
theorem Kn.wg(h:Kn ty F O Fx w)(d:Il F O Fx)(W:∀b,O b\/b=Zb.z\/F.Sh b->b≠F.Wg){a:Addr}(e:a.block=F.Wg)(v:aA)(l:WgLive ty F.Wg (w.setCell a v)):Kn ty F O Fx (w.setCell a v):=by have s:=aside_setCell w a v;rw[e]at s;exact⟨d _ _ ⟨by rw[s.size];exact aS _,λb c=>s.block b (W b c),.of s.os⟩ h.fx,l,λb c=>by rw[s.size];exact h.bd b c⟩
theorem GE.goes(c:∀b,O b->b<w.heap.size)(r:g.status=.running)(h:∀u,dU ty M O w u->(stepG P true g u).goes (λg' w' es=>w'=u/\(∀e∈es,EvM M O e)/\GE P ty Post M O g' u)):GE P ty Post M O g w:=by
 refine .mk (.idle r λu a=>?_);have:=h u a;cases s:stepG P true g u with
 |go g' w' es=>rw[s]at this;obtain⟨rfl,d,k⟩:=this;exact⟨g',w',es,O,rfl,⟨λ_ x=>x,λ_ x=>.inl x,λb x=>bG (c b x) a.o.size,aS _,λ_ _ _=>rfl,rfl,rfl,rfl⟩,d,k⟩
 |_=>rw[s]at this;exact this.elim
theorem goes_mono{s:GStep}{K a:dN->au->Array Event->Prop}(h:s.goes K)(k:∀g w es,K g w es->a g w es):s.goes a:=by cases s<;>first|exact k _ _ _ h|exact h
def Gw(P:Program)(K:au->Prop)(E:Event->Prop)(g g':dN):Prop:=∀R:dN->Prop,R g'->(∀g,g.status=.running->(∀u,K u->(stepG P true g u).goes λx w' es=>w'=u/\(∀e∈es,E e)/\R x)->R g)->R g
def Yg:Op->Nat
 |.convert .. =>1
 |.defer .. =>2
 |.call ⟨.value (.func _),_,_⟩=>2
 |_=>0
theorem xQ(n:Nat){b:Frame}{a:Act}{K:dN->au->Array Event->Prop}
 (d:A[i]? =some o)(c:Yg o.op=n)(h:(stepG P Zvmain (G (b.at a (aT A (i::T)::k)) cs) w).goes K):(stepG P Zvmain (G (b.at a (aT A (i::T)::k)) cs) w).goes K:=h
theorem Gw.refl{K:au->Prop}{E:Event->Prop}:Gw P K E g g:=λ_ h _=>h
theorem Gw.step{P:Program}{K:au->Prop}{E:Event->Prop}{g g':dN}(r:g.status=.running)(h:∀u,K u->(stepG P true g u).goes λx w' es=>w'=u/\(∀e∈es,E e)/\Gw P K E x g'):Gw P K E g g':=λR d c=>c g r λu k=>goes_mono (h u k) λx w' es⟨a,b,k⟩=>⟨a,b,k R d c⟩
theorem GE.run{K:au->Prop}(hF:K w)(h:∀u,K u->GE P ty Post M O g' u)
 (l:∀w,K w->∀b,O b->b<w.heap.size:=by intro w h;exact h.bd)
 (j:∀w u,K w->dU ty M O w u->K u:=by intro w u h r;exact h.rely hst rfl r)
 (s:Gw P K (EvM M O) g g':=by
   repeat(try clear hF
          refine Gw.step rfl (λu hF=>?_);first
    |(first
      |(first|rw[stepG_seq]|rw[stepG_region_end]|rw[stepG_skip]|rw[stepG_ret']|rw[stepG_end]|rw[stepG_block]|rw[stepG_inLoop]|rw[stepG_inBlock]);simp only[goes_go]
      |rw[stepG_region];simp only[goes_go,List.size_toArray,List.length_cons,List.length_nil,Nat.reduceAdd,eu,List.range,List.range.loop]
      |(first|(rw[stepG_cond (t:=true) ?hc];case hc=>(simp[Act.eval]<;>fail))|(rw[stepG_cond (t:=false) ?hc];case hc=>(simp[Act.eval]<;>fail))|(rw[stepG_cond (t:=true) ?hc];case hc=>(simp[Act.eval];omega))|(rw[stepG_cond (t:=false) ?hc];case hc=>(simp[Act.eval];omega)));simp only[goes_go,if_true,if_false,gU,↓reduceIte]
      |refine goes_exit rfl ?_)
     refine⟨Z0,by intro e he;simp at he,?_⟩
    |refine xQ 0 rfl rfl ?_;refine goes_oper_k rfl rfl Y0 (λK hK=>?_)
     go_simp
     refine hK _ _ ⟨Z0,?_,?_⟩
     .intro e he
      have hm:=mem_listed he
      simp[go_sem,Instr.makeFunc, *]at hm
     clear hK K
     try w_num
    |(first|rw[stepG_unwanted rfl rfl]|rw[stepG_defer rfl rfl Y0 rfl]);simp only[goes_go];refine⟨Z0,by intro e he;simp at he,?_⟩;walk_nrm
    |refine xQ 1 rfl rfl ?_;refine goes_oper_k rfl rfl Y0 (λK hK=>?_)
     have hcv:=run_convert_to_unsafe (P:=P) H.underlying_tPU32 H.underlying_tUP H.room_tU32 (WgLive.cell1 hF.live).choose_spec
     have hce:=λes=>events_convert_to_unsafe (P:=P) H.underlying_tPU32 H.underlying_tUP H.room_tU32 (WgLive.cell1 hF.live).choose_spec es
     have f:=run_convert_to_unsafe (P:=P) H.underlying_tWgP H.underlying_tUP H.room_tWg (WgLive.cell0 hF.live).choose_spec
     have d:=λes=>events_convert_to_unsafe (P:=P) H.underlying_tWgP H.underlying_tUP H.room_tWg (WgLive.cell0 hF.live).choose_spec es
     go_simp
     refine hK _ _ ⟨Z0,?_,?_⟩
     .intro e he
      have hm:=mem_listed he
      simp[go_sem,Instr.makeFunc, *]at hm
     clear hK K hcv hce f d
     try w_num
    |refine xQ 1 rfl rfl ?_;refine goes_oper_k rfl rfl Y0 (λK hK=>?_)
     go_simp
     refine hK _ _ ⟨Z0,?_,?_⟩
     .intro e he
      have hm:=mem_listed he
      simp[go_sem,Instr.makeFunc, *]at hm
     clear hK K
     try w_num
    |(first|refine goes_leave1 rfl rfl H.f_uLoad rfl ?_|refine goes_leave1 rfl rfl H.f_uCas rfl ?_|refine goes_leave1 rfl rfl H.f_uAdd rfl ?_|refine goes_leave0 rfl rfl H.f_add rfl ?_|refine goes_leave0 rfl rfl H.f_wait rfl ?_);refine⟨Z0,by intro e he;simp at he,?_⟩;walk_nrm
    |refine xQ 2 rfl rfl ?_;(first|refine goes_call rfl rfl Y0 rfl H.f_uLoad (nm_uLoad L) rfl ⟨Z0,by intro e he;simp at he,?_⟩;walk_nrmf uLoadFn|refine goes_call rfl rfl Y0 rfl H.f_uCas (nm_uCas L) rfl ⟨Z0,by intro e he;simp at he,?_⟩;walk_nrmf uCasFn|refine goes_call rfl rfl Y0 rfl H.f_uAdd (nm_uAdd L) rfl ⟨Z0,by intro e he;simp at he,?_⟩;walk_nrmf uAddFn)
    |rw[stepG_entry_pure (.bool false) rfl rfl Y0 rfl H.f_inBubble (x_inBubble_n L) (x_inBubble_b L) (x_inBubble_x L) (x_inBubble_f L)];simp only[goes_go];refine⟨Z0,by intro e he;simp at he,?_⟩;walk_nrm
    |(first
      |rw[stepG_markAt .read X0 rfl rfl Y0 rfl H.f_raceRead (x_raceRead_n L) (x_raceRead_b L) (x_raceRead_x L) (x_raceRead_f L) (ad:=⟨F.Wg,1,none⟩) I5]
      |rw[stepG_markAt .write X0 rfl rfl Y0 rfl H.f_raceWrite (x_raceWrite_n L) (x_raceWrite_b L) (x_raceWrite_x L) (x_raceWrite_f L) (ad:=⟨F.Wg,1,none⟩) I5])
     simp only[goes_go]
     refine⟨Z0,λe he=>?_,?_⟩
     .rw[Array.mem_singleton]at he
      subst he
      first|exact .inr ⟨F,rfl,⟨F.Wg,1,none⟩,rfl,.inl rfl⟩|exact .inr ⟨F,rfl,⟨F.Wg,1,none⟩,rfl,.inr rfl⟩
     walk_nrm)
   exact Gw.refl):GE P ty Post M O g w:=
 s (λg=>∀w,K w->GE P ty Post M O g w) h (λg i m w hF=>GE.goes (l w hF) i λu r=>goes_mono (m u (j w u hF r)) λx w' es⟨a,b,c⟩=>⟨a,b,c u (j w u hF r)⟩) w hF
theorem addPos{L:WgLink}{P:Program}{Post:aA->au->Prop}{F:Ph}{O:aD}{Fx:au->Prop}{g:Frame}{f:Act}{o:Array Oper}{i:Nat}{d:List Nat}{l:List Item}{cs:List Frame}(H:WgLib P L)(hst:Il F O Fx)(W:∀b,O b\/b=Zb.z\/F.Sh b->b≠F.Wg){j B:Nat}(y:j<F.n)
 (T:∀w,Kn L.tWg F O Fx w->GE P L.tWg Post (.opn F j 1 F.n 0) O (G (g.at (f.put ((o[i]?).bind (·.dst)) (.tuple #[])) (aT o d::l)) cs) w)(w:au)(hF:Kn L.tWg F O Fx w):
 GE P L.tWg Post (.opn F j 0 B 0) O (G ((base L.add).at ⟨#[aJ F.Wg 0,ah 1,ak,ak,ak,ak,ak,ak,ak,ak,ak,ak,ak,ak,ak,ak,ak,ak,ak,ak,ak,ak,ak,ak,ak,ak,ak,ak,ak,ak,ak,ak,ak,ak,ak,ak,ak,ak,ak,ak,ak,ak,ak,ak,ak,ak,ak,ak,ak,ak,ak,ak,ak,ak,ak,ak,ak,ak,ak,ak,ak,ak,ak,ak,ak,ak,ak,ak,ak,ak,ak,ak,ak,ak,ak,ak,ak,ak,ak,ak,ak,ak,ak,ak,ak,ak,ak,ak,ak,ak,ak,ak,ak,ak,ak,ak,ak,ak,ak,ak,ak,ak,ak,ak,ak,ak,ak,ak,ak,ak,ak,ak,ak,ak,ak,ak,ak],[]⟩ [.code (body_add L)]) (g.at f (aT o (i::d)::l)::cs)) w:=by
 lib_facts
 simp only[body_add,addFn,fq];refine GE.run (g':=?_) hF (λu hF=>?_);refine .mk (.CK rfl λu c=>⟨_,stepG_mark0 .disable X0 rfl rfl Y0 rfl H.f_disable (x_disable_n L) (x_disable_b L) (x_disable_x L) (x_disable_f L),?_⟩);replace hF:=hF.rely hst rfl c;clear c
 walk_nrm
 refine GE.run (g':=?_) hF (λu hF=>?_);refine .mk (.add rfl y λu c v I hw=>?_);replace hF:=hF.rely hst rfl c;clear c;obtain rfl|hvp:=Nat.eq_zero_or_pos v
 .replace hw:WgAt L.tWg F.Wg u 0 0:=by simpa using hw
  have z:(((0:Nat):Int)+1)*KK=KK:=by simp
  rw[z];have s:IntKind.u64.wrap (0+4294967296)=KK:=by decide
  refine⟨_,(stepG_add_atomic rfl rfl Y0 rfl H.f_addU64 (x_addU64_n L) (x_addU64_b L) (x_addU64_x L) .u64 (x_addU64_f L) rfl rfl hw.cellSt (hw.thaw 0)).trans (by rw[s];rfl),?_⟩;replace hF:=hF.wg hst W (a:=stA F.Wg) rfl (.int .u64 KK) ⟨_,_,hw.setSt _⟩;clear hw;simp only[KK]at hF ⊢
  walk_nrm
  refine GE.run (g':=?_) hF (λu hF=>?_);refine .mk (.en rfl λu c=>⟨_,stepG_unwind_entry (v:=.tuple #[]) (evs:=#[mk .enable]) rfl H.f_enable (x_enable_n L) (x_enable_b L) (x_enable_x L) (x_enable_f L) (by simp[Extern.Race.none_]) (by simp[mk]) (by simp[mk]),?_⟩);replace hF:=hF.rely hst rfl c;clear c;refine GE.run (g':=?_) hF (λu hF=>?_);exact T _ hF
 .obtain⟨V,p⟩:∃V:Int,V=(v:Int)+1:=⟨_,rfl⟩;obtain⟨S,m⟩:∃S:Int,S=V*KK:=⟨_,rfl⟩;have q:IntKind.u64.wrap ((v:Int)*KK+4294967296)=S:=by rw[IntKind.wrap_u64,m,p];simp only[KK];omega
  rw[<-p,<-m];have A:S/4294967296=V:=by rw[m];simp only[KK];omega
  have C:bits .and .u64 S 2147483648=0:=by rw[m,p];have:=st_flag (v+1) 0 Q0 Q0;simpa[KK]using this
  have D:bits .and .u64 S 2147483647=0:=by rw[m,p];have:=st_waiters (v+1) 0 Q0 Q0;simpa[KK]using this
  have E:IntKind.i32.wrap V=V:=by rw[IntKind.wrap_i32];omega
  have t:1<V:=by omega
  have x:V<2147483648:=by omega
  have J:(V==1)=false:=by simp;omega
  have M:decide (V=1)=false:=iI Q0;have N:decide (V<0)=false:=iI Q0;have Q:decide (0<V)=true:=nG Q0;have R:(V==0)=false:=by simp;omega
  have U:decide (V=0)=false:=iI Q0;refine⟨_,(stepG_add_atomic rfl rfl Y0 rfl H.f_addU64 (x_addU64_n L) (x_addU64_b L) (x_addU64_x L) .u64 (x_addU64_f L) rfl rfl hw.cellSt (hw.thaw 0)).trans (by rw[q];rfl),?_⟩;replace hF:=hF.wg hst W (a:=stA F.Wg) rfl (.int .u64 S) ⟨_,_,hw.setSt _⟩;clear hw m p q
  walk_nrm
  refine GE.run (g':=?_) hF (λu hF=>?_);refine .mk (.en rfl λu c=>⟨_,stepG_unwind_entry (v:=.tuple #[]) (evs:=#[mk .enable]) rfl H.f_enable (x_enable_n L) (x_enable_b L) (x_enable_x L) (x_enable_f L) (by simp[Extern.Race.none_]) (by simp[mk]) (by simp[mk]),?_⟩);replace hF:=hF.rely hst rfl c;clear c;refine GE.run (g':=?_) hF (λu hF=>?_);exact T _ hF
structure Qx(O:aD)(u w:au):Prop where
 o:bB (λb=>b=Zb.z) O u w
 bd:∀b,O b->b<w.heap.size
def StC:Prop:=True
theorem Qx.rely{u x:au}(h:Qx O u w)(_:StC)(M:(Md.calm d).ph=none)(r:dU ty (.calm d) O w x):Qx O u x:=⟨h.o.trans ⟨r.o.size,λb a=>r.o.keep b (a.imp id .inl),r.o.os⟩,λb a=>bG (h.bd b a) r.o.size⟩
theorem wL{G Z:aD}{u:au}(h:Joined F O G Z vs Os u):∀b,lM F O G Z Os b->b<u.heap.size:=by
 rintro b (a|rfl|a|⟨i,e,a⟩|⟨K,c,rfl|a|a⟩)
 .exact(h.mine b a).1
 .obtain⟨cs,d,_⟩:=h.pay;exact(bJ.1 d).1
 .exact h.sh b a.1
 .exact(h.own i e b a).1
 .exact(h.lk K c).1
 .exact((h.lk K c).2.2.2.2.2.2.1.g b a).1
 .exact((h.lk K c).2.2.2.2.2.2.1.z b a).1
theorem waitRound{L:WgLink}{P:Program}{Post:aA->au->Prop}{F:Ph}{O:aD}{Fx:au->Prop}{j:Frame}{i:Act}{p:Array Oper}{l:Nat}{f:List Nat}{m:List Item}{cs:List Frame}(H:WgLib P L)(hst:Il F O Fx)(W:∀b,O b\/b=Zb.z\/F.Sh b->b≠F.Wg)
 (q:∀x Z vs Os u w,Fx u->Joined F O x Z vs Os u->bB (λb=>b=Zb.z) (lM F O x Z Os) u w->GE P L.tWg Post (.calm (F.d+F.n)) (lM F O x Z Os) (G (j.at (i.put ((p[l]?).bind (·.dst)) (.tuple #[])) (aT p f::m)) cs) w):
 ∀(B:Nat)(T:Array aA)(w:au),T.size=84->T[0]? =some (aJ F.Wg 0)->Kn L.tWg F O Fx w->
 GE P L.tWg Post (.opn F F.n 0 B 1) O (G ((base L.wait).at ⟨T,[]⟩ [.code (L7 L),.inLoop (L7 L),.inBlock 0]) (j.at i (aT p (l::f)::m)::cs)) w:=by
 intro B
 induction B using Nat.strongRecOn with
 |_ B J=>
 intro T w hT84 M hF
 lib_facts
 obtain⟨v0,v1,v2,v3,v4,v5,v6,v7,v8,v9,v10,v11,v12,v13,v14,v15,v16,v17,v18,v19,v20,v21,v22,v23,v24,v25,v26,v27,v28,v29,v30,v31,v32,v33,v34,v35,v36,v37,v38,v39,v40,v41,v42,v43,v44,v45,v46,v47,v48,v49,v50,v51,v52,v53,v54,v55,v56,v57,v58,v59,v60,v61,v62,v63,v64,v65,v66,v67,v68,v69,v70,v71,v72,v73,v74,v75,v76,v77,v78,v79,v80,v81,v82,v83,rfl⟩:=array84 T hT84;simp only[List.getElem?_toArray,List.getElem?_cons_zero,iV]at M;subst M;clear hT84;have A:∀E,E<B->∀(T:Array aA)(w:au),T.size=84->T[0]? =some (aJ F.Wg 0)->Kn L.tWg F O Fx w->GE P L.tWg Post (.opn F F.n 0 E 1) O (G ((base L.wait).at ⟨T,[]⟩ [.code (L7 L),.inLoop (L7 L),.inBlock 0]) (j.at i (aT p (l::f)::m)::cs)) w:=J
 clear J;generalize V:Item.inLoop (L7 L)=I;simp only[L7,body_wait,waitFn,fq];refine GE.run (g':=?_) hF (λu hF=>?_);refine .mk (.load rfl λu c v Y hv hw=>?_);replace hF:=hF.rely hst rfl c;clear c;obtain rfl|hvp:=Nat.eq_zero_or_pos v
 .replace hw:WgAt L.tWg F.Wg u 0 0:=by simpa using hw
  refine⟨_,stepG_load_atomic (v:=0) rfl rfl Y0 rfl H.f_loadU64 (x_loadU64_n L) (x_loadU64_b L) (x_loadU64_x L) .u64 (x_loadU64_f L) rfl hw.cellSt,λ_=>?_,λh=>aF rfl h⟩;clear hw A
  walk_nrm
  refine GE.run (g':=?_) hF (λu hF=>?_);refine .mk (.Uz rfl λu c=>⟨_,stepG_mark0 .enable X0 rfl rfl Y0 rfl H.f_enable (x_enable_n L) (x_enable_b L) (x_enable_x L) (x_enable_f L),?_⟩);replace hF:=hF.rely hst rfl c;clear c
  walk_nrm
  refine GE.run (g':=?_) hF (λu hF=>?_);refine .mk (.acq rfl λu c=>⟨_,stepG_markAt .acquire X0 rfl rfl Y0 rfl H.f_acquire (x_acquire_n L) (x_acquire_b L) (x_acquire_x L) (x_acquire_f L) N7,λx Z vs Os C=>?_⟩);replace hF:=hF.rely hst rfl c;clear c;have q:=q x Z vs Os u;replace q:=λw=>q w hF.fx C;replace hF:Qx (lM F O x Z Os) u u:=⟨.refl _ _ _,wL C⟩;clear hst;have hst:StC:=trivial
  walk_nrm
  refine GE.run (K:=Qx _ u) (g':=?_) hF (λu hF=>?_);exact q _ hF.o
 .obtain⟨S,y⟩:∃S:Int,(v:Int)*KK=S:=⟨_,rfl⟩;have a1:S/4294967296=(v:Int):=by rw[<-y];simp only[KK];omega
  have b1:bits .and .u64 S 2147483648=0:=by rw[<-y];have:=st_flag v 0 Q0 Q0;simpa[KK]using this
  have b2:bits .and .u64 S 2147483647=0:=by rw[<-y];have:=st_waiters v 0 Q0 Q0;simpa[KK]using this
  have c1:IntKind.i32.wrap (v:Int)=(v:Int):=by rw[IntKind.wrap_i32];omega
  have w1:IntKind.u64.wrap (S+1)=S+1:=by rw[IntKind.wrap_u64,<-y];simp only[KK];omega
  have q3:decide ((v:Int)<0)=false:=iI Q0;have q4:decide (0<(v:Int))=true:=nG Q0;have q5:((v:Int)==0)=false:=by simp;omega
  have q6:decide ((v:Int)=0)=false:=iI Q0;rw[y]at hw;refine⟨_,stepG_load_atomic (v:=S) rfl rfl Y0 rfl H.f_loadU64 (x_loadU64_n L) (x_loadU64_b L) (x_loadU64_x L) .u64 (x_loadU64_f L) rfl hw.cellSt,λU=>aF U Q0,λ_=>?_⟩;clear hw
  walk_nrm
  refine GE.run (g':=?_) hF (λu hF=>?_);refine .mk (.cas rfl λN g v' hvs X hw=>⟨λe=>?_,λe=>?_⟩)
  .replace hF:=hF.rely hst rfl g;clear g A;subst e;rw[y]at hw ⊢;refine⟨_,(stepG_cas_hit (v:=S) (n:=S+1) rfl rfl Y0 rfl H.f_casU64 (x_casU64_n L) (x_casU64_b L) (x_casU64_x L) .u64 (x_casU64_f L) rfl rfl rfl hw.cellSt (hw.thaw 0)).trans K4,?_⟩;replace hF:=hF.wg hst W (a:=stA F.Wg) rfl (.int .u64 (S+1)) ⟨_,_,hw.setSt _⟩;clear hw
   walk_nrm
   refine GE.run (g':=?_) hF (λu hF=>?_);refine .mk (.sem rfl rfl λQ s=>?_);replace hF:=hF.rely hst rfl s;clear s;refine⟨λ⟨st,hw⟩=>stepG_semacquire_wait rfl rfl rfl H.f_semacquire (x_semacquire_n L) (x_semacquire_b L) (x_semacquire_x L) (x_semacquire_f L) (by simp[Act.eval,smA]) hw.cellSm,λD=>?_⟩;refine⟨_,(stepG_semacquire (n:=1) rfl rfl Y0 rfl H.f_semacquire (x_semacquire_n L) (x_semacquire_b L) (x_semacquire_x L) (x_semacquire_f L) (by simp[Act.eval,smA]) D.cellSm Y0 (D.thaw 1)).trans K4,?_⟩;replace hF:=hF.wg hst W (a:=smA F.Wg) rfl (.int .u32 0) ⟨_,_,D.setSm 0⟩;clear D
   walk_nrm
   refine GE.run (g':=?_) hF (λu hF=>?_);refine .mk (.Xd rfl λR t hw=>?_);replace hF:=hF.rely hst rfl t;clear t;refine⟨_,stepG_load_atomic (v:=0) rfl rfl Y0 rfl H.f_loadU64 (x_loadU64_n L) (x_loadU64_b L) (x_loadU64_x L) .u64 (x_loadU64_f L) rfl hw.cellSt,?_⟩;clear hw
   walk_nrm
   refine GE.run (g':=?_) hF (λu hF=>?_);refine .mk (.Uz rfl λu c=>⟨_,stepG_mark0 .enable X0 rfl rfl Y0 rfl H.f_enable (x_enable_n L) (x_enable_b L) (x_enable_x L) (x_enable_f L),?_⟩);replace hF:=hF.rely hst rfl c;clear c
   walk_nrm
   refine GE.run (g':=?_) hF (λu hF=>?_);refine .mk (.acq rfl λu c=>⟨_,stepG_markAt .acquire X0 rfl rfl Y0 rfl H.f_acquire (x_acquire_n L) (x_acquire_b L) (x_acquire_x L) (x_acquire_f L) N7,λx Z vs Os C=>?_⟩);replace hF:=hF.rely hst rfl c;clear c;have q:=q x Z vs Os u;replace q:=λw=>q w hF.fx C;replace hF:Qx (lM F O x Z Os) u u:=⟨.refl _ _ _,wL C⟩;clear hst;have hst:StC:=trivial
   walk_nrm
   refine GE.run (K:=Qx _ u) (g':=?_) hF (λu hF=>?_);exact q _ hF.o
  .replace hF:=hF.rely hst rfl g;clear g;refine⟨_,stepG_cas_miss (v:=(v':Int)*KK) (old:=S) (n:=S+1) rfl rfl Y0 rfl H.f_casU64 (x_casU64_n L) (x_casU64_b L) (x_casU64_x L) .u64 (x_casU64_f L) rfl rfl rfl hw.cellSt (hw.thaw 0) (by rw[<-y];simp only[KK];omega),?_⟩;clear hw
   walk_nrm
   refine GE.run (g':=?_) hF (λu hF=>?_);subst V;refine GE.run (g':=?_) hF (λu hF=>?_);exact A (v-1) Q0 _ _ X0 X0 hF
theorem waitAll{L:WgLink}{P:Program}{Post:aA->au->Prop}{F:Ph}{O:aD}{Fx:au->Prop}{g:Frame}{f:Act}{o:Array Oper}{i:Nat}{a:List Nat}{j:List Item}{cs:List Frame}(H:WgLib P L)(hst:Il F O Fx)(W:∀b,O b\/b=Zb.z\/F.Sh b->b≠F.Wg){B:Nat}
 (T:∀x Z vs Os u w,Fx u->Joined F O x Z vs Os u->bB (λb=>b=Zb.z) (lM F O x Z Os) u w->GE P L.tWg Post (.calm (F.d+F.n)) (lM F O x Z Os) (G (g.at (f.put ((o[i]?).bind (·.dst)) (.tuple #[])) (aT o a::j)) cs) w)
 (w:au)(hF:Kn L.tWg F O Fx w):
 GE P L.tWg Post (.opn F F.n 0 B 0) O (G ((base L.wait).at ⟨#[aJ F.Wg 0,ak,ak,ak,ak,ak,ak,ak,ak,ak,ak,ak,ak,ak,ak,ak,ak,ak,ak,ak,ak,ak,ak,ak,ak,ak,ak,ak,ak,ak,ak,ak,ak,ak,ak,ak,ak,ak,ak,ak,ak,ak,ak,ak,ak,ak,ak,ak,ak,ak,ak,ak,ak,ak,ak,ak,ak,ak,ak,ak,ak,ak,ak,ak,ak,ak,ak,ak,ak,ak,ak,ak,ak,ak,ak,ak,ak,ak,ak,ak,ak,ak,ak,ak],[]⟩ [.code (body_wait L)]) (g.at f (aT o (i::a)::j)::cs)) w:=by
 have R:=@waitRound _ _ L P Post F O Fx g f o i a j cs H hst W T B
 lib_facts
 simp only[L7,body_wait,waitFn,fq]at R ⊢;refine GE.run (g':=?_) hF (λu hF=>?_);refine .mk (.CK rfl λu c=>⟨_,stepG_mark0 .disable X0 rfl rfl Y0 rfl H.f_disable (x_disable_n L) (x_disable_b L) (x_disable_x L) (x_disable_f L),?_⟩);replace hF:=hF.rely hst rfl c;clear c
 walk_nrm
 refine GE.run (g':=?_) hF (λu hF=>GE.goes hF.bd rfl λu c=>?_);rw[stepG_loop];simp only[goes_go];exact⟨trivial,X0,R _ _ X0 X0 (hF.rely hst rfl c)⟩
theorem bM.goes{Sh:aD}{X:Phase}(d:∀b,O b->b<w.heap.size)(i:∀u,X.guar u u)(r:g.status=.running)(h:∀u,bB Sh O w u->X.rely w u->(stepG P mn g u).goes (λg' w' es=>w'=u/\(∀e∈es,qH Sh O e)/\bM P mn Sh X Stop O g' u)):bM P mn Sh X Stop O g w:=by
 refine .step r λu a c=>?_;have:=h u a c;cases s:stepG P mn g u with
 |go g' w' es=>rw[s]at this;obtain⟨rfl,f,k⟩:=this;exact⟨g',w',es,O,rfl,⟨λ_ x=>x,λ_ x=>.inl x,λb x=>bG (d b x) a.size,aS _,λ_ _ _ _=>rfl,rfl,rfl,rfl,i w'⟩,λe j=>.inl (f e j),k⟩
 |_=>rw[s]at this;exact this.elim
def Te(n:Nat)(p:Array Bool):Nat:=sumTo n λj=>if p.getD j true then 0 else 1
theorem Le(b:i<n)(s:i<p.size)(h:p.getD i true=false):Te n (p.setIfInBounds i true)+1=Te n p:=by
 have e:(λj=>if(p.setIfInBounds i true).getD j true then 0 else 1)=λj=>(λx:Nat=>x) (upd (λj=>if p.getD j true then 0 else 1) i 0 j):=by
  funext j
  by_cases a:j=i
  .subst a;simp[upd,Array.getD,s]
  .simp only[upd,av a]
   congr 2
   simp only[oP,jN (Ne.symm a)]
 have:=sumTo_upd (λj=>if p.getD j true then 0 else 1) 0 (λx:Nat=>x) b;unfold Te;rw[e];simp only[h,gU,if_false]at this;omega
theorem Gy(h:Te n p=0)(a:i<n):p.getD i true=true:=by
 have:=le_sumTo (f:=λj=>if p.getD j true then 0 else 1) a;unfold Te at h;cases c:p.getD i true with
 |true=>rfl
 |false=>simp only[c,gU,if_false]at this;omega
theorem kE(h:i∈Region.ready md A p):i<A.size/\p.getD i true=false/\((A[i]?).map (·.after.all λe=> !Region.binds md e||p.getD e.on false)).getD false=true:=by unfold Region.ready at h;simp only[List.mem_filter,gY,gu,Bool.not_eq_true']at h;exact⟨h.1,h.2.1,h.2.2⟩
structure KW(ty:bf)(F:Ph)(i:Nat)(O:aD)(Fx:au->Prop)(w:au):Prop where
 fx:Fx w
 live:WgLive ty F.Wg w
 pay:PayAt F.C F.n w
 bd:∀b,O b->b<w.heap.size
def StW(F:Ph)(O:aD)(Fx:au->Prop):Prop:=∀w u,bB F.Sh O w u->Fx w->Fx u
theorem KW.rely{u:au}(h:KW ty F i O Fx w)(s:StW F O Fx)(r:bB F.Sh O w u)(a:(KZ ty F i).rely w u):KW ty F i O Fx u:=by have a:RW ty F.Wg F.C F.n 0 i w u:=a;exact⟨s w u r h.fx,a.live h.live,a.pay h.pay,λb c=>bG (h.bd b c) r.size⟩
theorem aZ(u:au):(KZ ty F i).guar u u:=⟨id,λ_ _=>rfl⟩
theorem Lg{es:Array α}(h:∀e∈es,False):es=#[]:=by
 obtain⟨l⟩:=es;cases l with
 |nil=>rfl
 |cons x l=>exact(h x X0).elim
def NK(P:Program)(ty:bf)(F:Ph)(i:Nat)(v:aA):Nat->dN->au->Prop:=Goes P false (RW ty F.Wg F.C F.n 0 (i+1-1)) (DWs F.Wg bot bot F.C F.n (i+1)) (AtR0 P ty F.Wg F.C F.n 0 (i+1) v)
theorem NK.sil{v:aA}(h:NK P ty F i v (n+1) g w)(s:stepG P false g w=.go g' w #[]):NK P ty F i v n g' w:=by
 obtain h|⟨_,h⟩:=h
 .obtain⟨_,_,a,e,_⟩:=h w (RW.refl w);rw[s]at e;simp at e
 .have:=h w (RW.refl w);rw[s]at this;simp only[goes_go]at this;exact this.2
theorem NK.no{v:aA}(h:NK P ty F i v (n+1) g w)(s:stepG P false g w=.go g' w #[Go.ConcR.mk .disable]):False:=by
 obtain h|⟨_,h⟩:=h
 .obtain⟨_,_,a,e,_⟩:=h w (RW.refl w);rw[s]at e;simp[Go.ConcR.mk]at e
 .have:=h w (RW.refl w);rw[s]at this;simp only[goes_go]at this;exact(this.1.2 (Go.ConcR.mk .disable) X0).2.1 rfl
theorem NK.rel{P:Program}{ty:bf}{F:Ph}{i:Nat}{w:au}{v:aA}{n:Nat}{g g':dN}(h:NK P ty F i v (n+1) g w)(s:stepG P false g w=.go g' w #[Go.ConcR.mk (.releaseMerge (stA F.Wg))]):(∀u,RW ty F.Wg F.C F.n 0 i w u->AtR0 P ty F.Wg F.C F.n 0 (i+1) v g u)\/NK P ty F i v n g' w:=by
 obtain h|⟨_,h⟩:=h
 .exact .inl λu a=>h u a
 .have:=h w (RW.refl w);rw[s]at this;simp only[goes_go]at this;exact .inr this.2
theorem NK.par{v:aA}(h:NK P ty F i v (n+1) g w)(r:g.status=.running)(l:∀b,O b->b<w.heap.size)
 (s:∀u,bB ZvShq39 O w u->(KZ ty F i).rely w u->(stepG P false g u).goes λg' w' es=>w'=u/\es=#[]/\(NK P ty F i v n g' u->bM P false ZvShq39 (KZ ty F i) (Jk P ty F i) O g' u)):bM P false ZvShq39 (KZ ty F i) (Jk P ty F i) O g w:=by
 refine .step r λu f j=>?_;have x:=s u f j;have c:RW ty F.Wg F.C F.n 0 i w u:=j;have p:NK P ty F i v (n+1) g u:=by
  obtain h|⟨k,h⟩:=h
  .exact .inl λd a=>h d (RW.trans c a)
  .exact .inr ⟨k,λd a=>h d (RW.trans c a)⟩
 cases e:stepG P false g u with
 |go g' w' es=>rw[e]at x;simp only[goes_go]at x;obtain⟨rfl,rfl,o⟩:=x;refine⟨g',w',#[],O,rfl,⟨λb h=>h,λb h=>.inl h,λb h=>bG (l b h) f.size,aS _,λ_ _ _ _=>rfl,rfl,rfl,rfl,aZ w'⟩,λe m=>by simp at m,o (p.sil e)⟩
 |_=>rw[e]at x;exact x.elim
theorem aey{P:Program}{F:Ph}{i:Nat}{O:aD}{w:au}{L:WgLink}(H:WgLib P L){ZvShq39:aD}(y:∀b,F.Sh b->ZvShq39 b){v:aA}{j:Frame}{g:Act}{o:Array Oper}{l:Nat}{f:List Nat}{m:List Item}{cs:List Frame}{D:Nat}
 (B:QuitsD P D 0 (G (j.at (g.put ((o[l]?).bind (·.dst)) (.tuple #[])) (aT o f::m)) cs))(hF:KW L.tWg F i O (λu=>Has F.C i v u/\F.Gt i O v u) w):
 bM P false ZvShq39 (KZ L.tWg F i) (Jk P L.tWg F i) O (G ((base L.add).at ⟨#[aJ F.Wg 0,ah (-1),ak,ak,ak,ak,ak,ak,ak,ak,ak,ak,ak,ak,ak,ak,ak,ak,ak,ak,ak,ak,ak,ak,ak,ak,ak,ak,ak,ak,ak,ak,ak,ak,ak,ak,ak,ak,ak,ak,ak,ak,ak,ak,ak,ak,ak,ak,ak,ak,ak,ak,ak,ak,ak,ak,ak,ak,ak,ak,ak,ak,ak,ak,ak,ak,ak,ak,ak,ak,ak,ak,ak,ak,ak,ak,ak,ak,ak,ak,ak,ak,ak,ak,ak,ak,ak,ak,ak,ak,ak,ak,ak,ak,ak,ak,ak,ak,ak,ak,ak,ak,ak,ak,ak,ak,ak,ak,ak,ak,ak,ak,ak,ak,ak,ak,ak],[]⟩ [.code (body_add L)]) (j.at g (aT o (l::f)::m)::cs)) w:=by
 have d:NK P L.tWg F i v 20 _ w:=addNegN H B w ⟨hF.live,by simpa using hF.fx.1⟩;have s:∀{w u:au},KW L.tWg F i O (λu=>Has F.C i v u/\F.Gt i O v u) w->bB ZvShq39 O w u->(KZ L.tWg F i).rely w u->KW L.tWg F i O (λu=>Has F.C i v u/\F.Gt i O v u) u:=λ{w u} h r E=>by have q:RW L.tWg F.Wg F.C F.n 0 i w u:=E;exact⟨⟨q.cell.trans h.fx.1,F.iG _ _ _ _ _ ⟨r.size,λb x=>r.keep b (x.imp id (y b)),r.os⟩ h.fx.2⟩,q.live h.live,q.pay h.pay,λb x=>bG (h.bd b x) r.size⟩
 lib_facts
 simp only[body_add,addFn,fq]at d ⊢
 iterate 11 (first
  |(refine d.par rfl hF.bd (λu c a=>?_);replace hF:=s hF c a;clear c a d;rw[stepG_seq];simp only[goes_go];refine⟨Z0,Z0,λd=>?_⟩)
  |(refine d.par rfl hF.bd (λu c a=>?_);replace hF:=s hF c a;clear c a d;rw[stepG_region];simp only[goes_go,List.size_toArray,List.length_cons,List.length_nil,Nat.reduceAdd,eu,List.range,List.range.loop];refine⟨Z0,Z0,λd=>?_⟩)
  |(refine d.par rfl hF.bd (λu c a=>?_);replace hF:=s hF c a;clear c a d;rw[stepG_region_end];simp only[goes_go];refine⟨Z0,Z0,λd=>?_⟩)
  |(refine d.par rfl hF.bd (λu c a=>?_);replace hF:=s hF c a;clear c a d;rw[stepG_cond (t:=true) rfl];simp only[goes_go,if_true,if_false,gU,↓reduceIte];refine⟨Z0,Z0,λd=>?_⟩)
  |(refine d.par rfl hF.bd (λu c a=>?_);replace hF:=s hF c a;clear c a d
    refine goes_oper_k rfl rfl Y0 (λK hK=>?_);go_simp;refine hK _ _ ⟨Z0,?_,λd=>?_⟩
    .refine Lg λe he=>?_;have hm:=mem_listed he;simp[go_sem, *]at hm
    clear hK K))
 refine d.par rfl hF.bd (λu c a=>?_);replace hF:=s hF c a;clear c a d;refine goes_oper_k rfl rfl Y0 (λK hK=>?_);have hcv:=run_convert_to_unsafe (P:=P) H.underlying_tWgP H.underlying_tUP H.room_tWg (WgLive.cell0 hF.live).choose_spec;have hce:=λes=>events_convert_to_unsafe (P:=P) H.underlying_tWgP H.underlying_tUP H.room_tWg (WgLive.cell0 hF.live).choose_spec es;go_simp;refine hK _ _ ⟨Z0,?_,λd=>?_⟩
 .refine Lg λe he=>?_;have hm:=mem_listed he;simp[go_sem,hce]at hm
 clear hK K hcv hce;refine .stop λu c a=>⟨v,?_,(s hF c a).fx.2⟩;have p:RW L.tWg F.Wg F.C F.n 0 i _ u:=a;obtain d|d:=d.rel (stepG_markAt .releaseMerge X0 rfl rfl Y0 rfl H.f_relMerge (x_relMerge_n L) (x_relMerge_b L) (x_relMerge_x L) (x_relMerge_f L) N7)
 .exact λI A=>d I (RW.trans p A)
 .exfalso;have d:=d.sil (by rw[stepG_region_end]);have d:=d.sil (by rw[stepG_seq]);have d:=d.sil (by rw[stepG_region]);exact d.no (stepG_mark0 .disable X0 rfl rfl Y0 rfl H.f_disable (x_disable_n L) (x_disable_b L) (x_disable_x L) (x_disable_f L))
theorem iK.then{Sh:aD}{S:(aD)->dN->au->Prop}(h:iK P mn Sh Stop O g w)(k:∀O g u,Stop O g u->iK P mn Sh S O g u):iK P mn Sh S O g w:=by
 induction h with
 |@stop O g w h=>exact k O g w (h w (.refl _ _ _))
 |step g' w' es O' r a b c _ i=>exact .step g' w' es O' r a b c i
theorem iK.step1{Sh:aD}(j:g.status=.running)(h:∀u,bB Sh O w u->∃g' w' es O',stepG P mn g u=.go g' w' es/\jW O O' u w'/\(∀e∈es,qH Sh O' e)/\iK P mn Sh Stop O' g' w'):iK P mn Sh Stop O g w:=by
 classical
 have i:∀u,∃r:dN×au×Array Event×(aD),bB Sh O w u->stepG P mn g u=.go r.1 r.2.1 r.2.2.1/\jW O r.2.2.2 u r.2.1/\(∀e∈r.2.2.1,qH Sh r.2.2.2 e)/\iK P mn Sh Stop r.2.2.2 r.1 r.2.1:=by
  intro u;by_cases f:bB Sh O w u
  .obtain⟨g',w',es,O',a,b,c,d⟩:=h u f;exact⟨(g',w',es,O'),λ_=>⟨a,b,c,d⟩⟩
  .exact⟨(g,w,#[],O),λx=>(f x).elim⟩
 exact .step (λu=>(i u).choose.1) (λu=>(i u).choose.2.1) (λu=>(i u).choose.2.2.1) (λu=>(i u).choose.2.2.2) j (λu f=>((i u).choose_spec f).1) (λu f=>((i u).choose_spec f).2.1) (λu f=>((i u).choose_spec f).2.2.1) (λu f=>((i u).choose_spec f).2.2.2)
structure aez(S:aD)(p:Program)(Q:aA->au->Prop)(mO:Map)(c:Frame)(cs:List Frame)(O:aD)(g:dN)(u:au):Prop where
 ex:∃π v v' w,(∀b,O b↔π.img b)/\mO.le π/\g=gr (c.finish v') cs/\aL S π v v'/\bI S π w u/\Q v w
theorem sI{S:aD}{p:Program}(hB:fH S p)(W:∀v w t d,Q v w->Q v (tp w t d))(hf:S f){args z:Array aA}(Z:p.globals.size=π.g)
 (A:∀t d,Calls p f args (tp w t d) (λe u=>∃v,e=.returned v/\Q v u))(X:bq S π args z)(hh:bI S π w w')(mn:Bool)(c:Frame)(cs:List Frame):
 iK p mn π.sh (aez S p Q π c cs) π.img (gr (Frame.enter p f z .normal) (c::cs)) w':=by
 refine(lift hB W hf Z A ⟨π.left,Z,X.left,hh.left⟩ X hh mn (c::cs)).then ?_;rintro O g u ⟨j,fr,n,l,hO,I,rfl,s,C,ht,hd,Y,⟨hfn,v,⟨l1,l2,l3,func,l4,l5⟩,hq⟩⟩;have J:O=j.img:=funext λb=>propext (hO b);subst J;have m1:n.mode=.returning:=by
  have:=s.mode;rw[l1]at this;generalize n.mode=m at this;cases this with
  |returning=>rfl
 have m2:=s.defers.2;have m3:n.kind=.normal:=s.kind.trans l3;have m4:p.funcs[n.fn]? =some func:=by rw[s.fn];exact l4
 have key:∀k,bB π.sh j.img u k->∃v' w₁ es E,stepG p mn (gr n (c::cs)) k=.go (gr (c.finish v') cs) w₁ es/\Turns j E k w₁/\bI S E (tp l k.tape k.drawn) w₁/\aL S E v v'/\∀e∈es,vM E e:=by
  intro k F;have N:bB j.sh j.img u k:=⟨F.size,λb K=>F.keep b (K.imp id λx=>(I.sh b).2 x),F.os⟩;have M:=C.rely N k.tape k.drawn;have B:=sG (S:=S) (p:=p) (π:=j) func s.tmps;have T:(results func fr.tmps).run p (tp l k.tape k.drawn)=.ok v (tp l k.tape k.drawn):=by have:=loc B l u C (by rw[l5];exactλh=>h) k.tape k.drawn Q6;rw[l5]at this;simp only[fin,XR,Nat.sub_self,oI]at this;exact this
  have hr:=runs B (tp l k.tape k.drawn) k #[] M (λi q _ _=>rfl);rw[T]at hr;obtain⟨v',w₁,U,E,H⟩:=hr;refine⟨v',w₁,seen p n.fn ((results func n.tmps).events p k #[]),E,?_,H.turns,H.heap,H.ans,λe L=>?_⟩
  .obtain⟨f1,f2,f3,f4,f5,f6,f7⟩:=n;have D:=s.round';simp only at m1 m2 m3 m4 U D;subst m1 m2 m3 D;simp[gr,stepG,unwind,doReturn,m4,U,GStep.after]
  .obtain x|x:=H.evs e (jr p _ _ e L)
   .simp at x
   .exact x
 refine .step1 rfl λk F=>?_;obtain⟨v',w₁,es,E,h1,G,V,h4,h5⟩:=key k F;refine⟨_,w₁,es,E.img,h1,rG G V,λe L=>?_,.stop λx P=>?_⟩
 .have:=AO G.le (h5 e L);unfold qH at this ⊢;cases o:e.loc with
  |cell a=>rw[o]at this;exact⟨this.1,this.2.imp id λy=>⟨(I.sh _).2 y.1,y.2⟩⟩
  |obj r=>rw[o]at this;exact this
  |output=>trivial
  |goroutines=>rw[o]at this;exact this
  |mark m=>rw[o]at this;cases m<;>exact this
 .have R:bB E.sh E.img w₁ x:=⟨P.size,λb K=>P.keep b (K.imp id λy=>(I.sh b).2 ((G.le.sh b).2 y)),P.os⟩;exact⟨E,v,v',tp l x.tape x.drawn,λb=>Iff.rfl,I.trans G.le,rfl,h4,V.rely R _ _,W _ _ _ _ hq⟩
end
end Go.Proofs.YtmhafipgbfaapaaGreatDoor.Ren
end
