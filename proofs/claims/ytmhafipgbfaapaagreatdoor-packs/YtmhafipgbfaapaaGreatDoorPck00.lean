import Derived.Test.YtmhafipgbfaapaaGreatDoorAbb0
import Derived.Conc.HoldsTime
import Derived.LaidLaws
import Derived.Lay
import Derived.LaidMore
import Derived.SevenTiedAt
import Derived.Test.YtmhafipgbfaapaaGreatDoorProg
import Derived.WalkKit
import Derived.WalkSpells
import Derived.WalkLawsBesides
import Derived.Laws.BitsAllLaws
import Derived.Laws.BytesArg
import Derived.Deep.OwnRows
import Derived.Deep.RegionHeld3
import Derived.BigQuiet
import Derived.Maps.AppendAt
import Derived.Lib.Bytealg
import Derived.Laws.Externs
import Derived.Lib.Builder
import Derived.Lib.AppendStr
import Derived.Lib.UnsafeStr
import Derived.Lib.LazyBuf
import Derived.RangeFuncNested
import Derived.RangeFuncBound
import Derived.RangeFuncCalls
import Derived.RangeFuncLeaves
import Derived.Shelf.Abstract
import Derived.Shelf.RegionOpen
import Derived.OwnWalkIn
import Derived.TacticsInMore
import Derived.LoopNIn
import Derived.LoopIn
import Derived.WalkSmall
import Derived.Laws.IdiomStrings
import Derived.Laws.Bits64b
import Derived.Defers
import Derived.Recover
import Derived.Deep.AppendLies
import Derived.Deep.Heap
import Derived.Deep.QuietTactic
import Derived.Conc.MuLib
import Derived.KernelRfl
import Derived.Conc.MuLone
import Derived.MapKept
import Derived.Conc.WgGenN3
import Derived.Test.YtmhafipgbfaapaaGreatDoorChecked
import Derived.Lib.SlBytesRow
set_option maxRecDepth 100000
set_option maxHeartbeats 8000000
set_option linter.unusedVariables false
set_option linter.unusedSimpArgs false
set_option linter.unusedSectionVars false
namespace Go.Proofs.YtmhafipgbfaapaaGreatDoor
section
open Go.Proofs.Tryz
open Go Go.RowKit Go.MuLone
section
variable {H : Type} {enc : bf × aA -> H}
theorem Dc{C:Checked}{os:Os}{f:FuncId}{n:Func}{s:ChangeSpec}{c:List PathCond}{p:Bool}{X:au->Array aA->Prop}(t:au)(a:Array aA)(u:Nat)(o:t.os=os)
 (e:(t.forCall (λ_ _=>0) ⟨#[],a,[]⟩).Shaped C.prog)
 (h:Input.okWideB C.prog (t.forCall (λ_ _=>0) ⟨#[],a,[]⟩) f ⟨#[],a,[]⟩=true)
 (d:s.preB enc C.prog n c p (t.forCall (λ_ _=>0) ⟨#[],a,[]⟩).memory a u=true)
 (g:s.sizedB enc C.prog n p (t.forCall (λ_ _=>0) ⟨#[],a,[]⟩).memory a u=true)
 (x:X (t.forCall (λ_ _=>0) ⟨#[],a,[]⟩).memory a):
 ∃(w:au)(b:Tape)(i:Input),w.os=os/\(w.forCall b i).Shaped C.prog/\i.vars=[]/\Input.okWide C.prog (w.forCall b i) .any w.heap.size f i/\((s.pre enc C.prog n c p (w.forCall b i).memory i.args/\X (w.forCall b i).memory i.args)/\sizedMet enc C.prog n (OpenSpec.ofChange s) p (w.forCall b i).memory i.args)/\({calm:=true}:Assume).holds C.prog (lone (Frame.enter C.prog f i.args .normal) [] (w.forCall b i)):=
 ⟨t,λ_ _=>0,⟨#[],a,[]⟩,o,e,(Input.okWide_of_okWideB (base:=0) h).1,(Input.okWide_of_okWideB h).2,⟨⟨ChangeSpec.pre_of_preB d,x⟩,sizedMet_of_sizedB g⟩,by
   simp only[Assume.holds]
   exact⟨X0,λ_ _ _ _=>rfl,X0,X0,X0⟩⟩
end
theorem Mj(Lk:Looks){p:Pinned}{s:OpenSpec}{c:OpenClaim}(k:List LaidKind)(e:Bool)(a:Bool×String)(l:Bool)
 (o:c.holds p s)(hw:c.wfByText s=true)(b:c.laidByTextAt Lk p k e)
 (d:c.start=.entering)(n:c.noBlocks=false/\c.again=false)(v:p.checked.prog.mainIs=some (a.1,a.2.toList))(w:(!a.1&&a.2.isEmpty&& !l)=false)
 (u:∀f g,p.checked.prog.funcNamed c.func=some f->p.checked.prog.funcs[f]? =some g->l=p.checked.prog.looks []/\∀(j:Nat) t,g.params[j]? =some t->p.checked.prog.wantsStandIn t=false)
 (q:true=c.goesBy p.checked.prog):
 Claim7.holds p (.plain s) {stood:={row:=c,standIns:=[],harness:=a,looks:=l},kinds:=[],alts:=[],goes:=true,laidByText:=true,laidKinds:=k,laidTests:=e,laidLooks:=Lk}:=by
 have i:∀r:OpenClaim,Claim7.isSixth {stood:={row:=r,standIns:=[],harness:=a,looks:=l},kinds:=[]}=false:=λr=>by simpa[Claim7.isSixth]using w
 exact⟨Claim7.tied_new_at Lk k e (Claim7.new_of_sixth o a l d n v (i c) u) hw,λD m=>(by cases m),b,(λh=>by cases h),q⟩
theorem cat(l r:List UInt8):(ByteArray.mk l.toArray)++(ByteArray.mk r.toArray)=⟨(l++r).toArray⟩:=by apply ByteArray.ext;simp
def iq:Nat->Nat->List UInt8
 |0,_=>[]
 |k+1,v=>UInt8.ofNat v::iq k (v/256)
theorem BX(k:Nat):∀v,iq (k+1) v=iq k v++[UInt8.ofNat (v/256^k)]:=by
 induction k with
 |zero=>intro v;simp[iq]
 |succ k i=>
  intro v;rw[iq,i (v/256),iq,List.cons_append]
  congr 3
  rw[Nat.div_div_eq_div_mul,Nat.pow_succ,lN]
theorem xY(k v:Nat):(iq k v).length=k:=by
 induction k generalizing v with
 |zero=>rfl
 |succ k i=>simp[iq,i]
def jg(s:aN)(i:Nat):Nat:=(s.data[i]?.getD 0).toNat
theorem nD(s:aN)(i:Nat)(h:i<s.size):jg s i=s[i].toNat:=by unfold jg;have a:i<s.data.size:=h;rw[iU a];rfl
def slash:aN:=⟨#[47]⟩
def za(s:aN):aN:=slash++s++slash
def yL(t:aN)(i:Nat):Prop:=((97<=jg t i/\jg t i<=122)\/jg t i=47)/\¬(jg t i=47/\jg t (i-1)=47)
def nameP(s:aN):Prop:=0<s.size/\s.size<=12/\∀i,1<=i->i<s.size+2->yL (za s) i
theorem EN(s:aN):(za s).size=s.size+2:=by unfold za slash;rw[eB,eB];show 1+s.size+1=_;omega
theorem Km{s:aN}(h:0<s.size):((s.size:Int)==0)=false:=by rw[beq_eq_false_iff_ne];omega
theorem BZ{t:aN}{q:Nat}(a:q<t.size)(p:q-1<t.size)(h:yL t q):
 ((97:Int)<=((t[q]'a).toNat:Int)/\((t[q]'a).toNat:Int)<=122/\(((t[q]'a).toNat:Int)==47)=false)\/(¬(97:Int)<=((t[q]'a).toNat:Int)/\(((t[q]'a).toNat:Int)==47)=true/\(((t[q-1]'p).toNat:Int)==47)=false):=by
 obtain⟨l,b⟩:=h;rw[nD _ _ a,nD _ _ p]at b;rw[nD _ _ a]at l;rw[beq_eq_false_iff_ne,beq_iff_eq,beq_eq_false_iff_ne];obtain⟨d,e⟩|c:=l
 .exact .inl ⟨Q0,Q0,Q0⟩
 .exact .inr ⟨Q0,Q0,Q0⟩
theorem tZ(g:aD)(n:Nat):(∀i,i<n->g i)\/∃f,f<n/\(∀i,i<f->g i)/\¬g f:=by
 induction n with
 |zero=>exact .inl (λi a=>aF a (dO _))
 |succ n j=>
  obtain h|⟨f,k,c,d⟩:=j
  .by_cases e:g n
   .exact .inl (λi a=>by by_cases b:i=n;exact b▸e;exact h i Q0)
   .exact .inr ⟨n,Q0,h,e⟩
  .exact .inr ⟨f,Q0,c,d⟩
theorem Ti{t:aN}{q:Nat}(a:q<t.size)(p:q-1<t.size)(h:¬yL t q):
 (¬(97:Int)<=((t[q]'a).toNat:Int)/\(((t[q]'a).toNat:Int)!=47)=true)\/((97:Int)<=((t[q]'a).toNat:Int)/\¬((t[q]'a).toNat:Int)<=122/\(((t[q]'a).toNat:Int)!=47)=true)\/(¬(97:Int)<=((t[q]'a).toNat:Int)/\(((t[q]'a).toNat:Int)!=47)=false/\(((t[q]'a).toNat:Int)==47)=true/\(((t[q-1]'p).toNat:Int)==47)=true):=by
 unfold yL at h;rw[nD _ _ a,nD _ _ p]at h;simp only[bne_iff_ne,beq_iff_eq,bne_eq_false_iff_eq];generalize(t[q]'a).toNat=C at*;generalize(t[q-1]'p).toNat=D at*;omega
def dK(l s:aN):Bool:= !(Op.bytesLess s.toList l.toList||s.toList==l.toList)&&(decide (s.size<l.size+1)|| !((s.extract 0 (l.size+1)).toList==(l++slash).toList))
def Xz(s:aN):Nat->Nat
 |0=>0
 |k+1=>Xz s k*256+jg s (s.size-1-k)
def nE(n d:aN):aN:=⟨(iq 1 n.size).toArray⟩++n++⟨(iq 2 d.size).toArray⟩++d
theorem jC(k v:Nat):(ByteArray.mk (iq k v).toArray).size=k:=by have:=xY k v;simpa[ByteArray.size]using this
def jD(FN FD:Nat->aN)(i:Nat):Prop:=nameP (FN i)/\(FD i).size<=200/\(0<i->dK (FN (i-1)) (FN i)=true)
def dI(n:Nat)(FN FD:Nat->aN):Nat->aN
 |0=>⟨(iq 1 n).toArray⟩
 |q+1=>dI n FN FD q++nE (FN q) (FD q)
theorem pG(n d:aN):(nE n d).size=3+n.size+d.size:=by unfold nE;rw[eB,eB,eB,jC,jC];omega
theorem uf(n:Nat)(N F:Nat->aN)(q:Nat)(h:∀i,i<q->jD N F i):(dI n N F q).size<=1+300*q:=by
 induction q with
 |zero=>show(ByteArray.mk (iq 1 n).toArray).size<=_;rw[jC];omega
 |succ q a=>have b:=a (λi e=>h i Q0);obtain⟨⟨_,c,_⟩,d,_⟩:=h q Q0;show(dI n N F q++nE (N q) (F q)).size<=_;rw[eB,pG];omega
open Classical in
theorem ext_size(s:aN)(a b:Nat)(h:b<=s.size):(s.extract a b).size=b-a:=by rw[ByteArray.size_extract];omega
theorem ne_nil{l:aN}(h:0<l.size):(l.toList==[])=false:=by
 cases a:l.toList==[]with
 |false=>rfl
 |true=>
  have e:=eq_of_beq a;rw[ByteArray.toList_eq]at e;have:l.data.size=0:=by rw[<-uZ,e];rfl
  have b:0<l.data.size:=h;omega
theorem aau(x:Int)(w:au):(convert 95 9 (aU w.heap.size 1 1)).run Tryz.prog (w.alloc (.cells #[.int .u8 x] 5))=
 .ok (aW (strOfNums [x])) (w.alloc (.cells #[.int .u8 x] 5)):=by
 refine run_convert_bytes_arg _ 95 5 underlying95 underlying5 w.heap.size 0 1 1 [x] rfl ?_ 9 underlying9;intro i h
 match i,h with
 |0,_=>simp[go_sem]
theorem mh(v n:Nat)(g:v<9223372036854775808)(q:n<1000)(w:au):
 Calls Tryz.prog 137 #[ah v,ah n] w λe o=>e=.returned (aW ⟨(iq n v).toArray⟩)/\Below w.heap.size w o:=by
 have kc:=aau
 go_enter func137,ntmps137
 go_wp2
 go_loopw [0,5,6] (λu s i wr=>∃k:Nat,k<=n/\i=ah k/\u=ah (v/256^k:Nat)/\s=aW ⟨(iq k v).toArray⟩/\Below w.heap.size w wr) (λ_ _ i _=>n-(intOf i).toNat)
 case atStart=>exact⟨0,bU _,X0,X0,rfl,Below.refl _ _⟩
 case round=>
  obtain⟨k,p,rfl,rfl,rfl,b⟩:=hrel;have j:v/256^k<9223372036854775808:=Nat.lt_of_le_of_lt (Nat.div_le_self _ _) g;have d:v/256^(k+1)=v/256^k/256:=by rw[Nat.pow_succ,Nat.div_div_eq_div_mul]
  have l:=BX k v;have hlen:=xY k v;have D:Hid _:=d;have L:Hid _:=l;have N:Hid _:=hlen;have hsz:(ByteArray.mk (iq k v).toArray).size=k:=by simpa[ByteArray.size]using hlen
  have f:∀x:Int,(strOfNums [x]).size=1:=λ_=>rfl;clear d l hlen;generalize v/256^k=V at*;by_cases hlt:k<n
  .go_wp2;refine⟨⟨k+1,Q0,by go_num,?_,?_,b.alloc b.size _⟩,by simp[intOf];omega⟩
   .rw[D.out];simp
   .rw[L.out,<-cat];have m:UInt8.ofNat (V%256)=UInt8.ofNat V:=by apply UInt8.toNat_inj.1;simp
    have c:((V:Int)%256).toNat=V%256:=by omega
    simp[strOfNums,c,m]
  .have a:k=n:=by omega
   subst a;go_wp2
   go_ret
   exact⟨rfl,b⟩
structure Keep(S:aD)(w w':au):Prop where
 os:w'.os=w.os
 tape:w'.tape=w.tape
 output:w'.output=w.output
 size:w.heap.size<=w'.heap.size
 block:∀k,k<w.heap.size->¬S k->w'.heap[k]? =w.heap[k]?
def bD:aD:=λ_=>False
theorem Keep.refl(S:aD)(w:au):Keep S w w:=⟨rfl,rfl,rfl,aS _,λ_ _ _=>rfl⟩
theorem Keep.trans{S T:aD}{a b c:au}(h:Keep S a b)(k:Keep T b c)(e:∀i,i<a.heap.size->T i->S i):Keep S a c:=⟨k.os.trans h.os,k.tape.trans h.tape,k.output.trans h.output,bY h.size k.size,λi d s=>(k.block i (bG d h.size) (λt=>s (e i d t))).trans (h.block i d s)⟩
theorem Keep.drew{S:aD}{a w:au}(h:Keep S a w):Keep S a w.drew:=⟨h.os,h.tape,h.output,h.size,h.block⟩
theorem Keep.drewN{S:aD}{a w:au}(h:Keep S a w)(n:Nat):Keep S a (w.drewN n):=⟨h.os,h.tape,h.output,h.size,h.block⟩
theorem Keep.alloc{S:aD}{a w:au}(h:Keep S a w)(o:Obj):Keep S a (w.alloc o):=h.trans (T:=bD) ⟨rfl,rfl,rfl,X0,λk b _=>Below.heap_alloc _ _ _ b⟩ (λ_ _ h=>h.elim)
theorem Keep.setCell{S:aD}{a w:au}(h:Keep S a w){p:Addr}(d:p.block<a.heap.size->S p.block)(u:aA):Keep S a (w.setCell p u):=h.trans (T:=λk=>k=p.block) ⟨rfl,rfl,rfl,by simp[World.setCell],λk _ c=>Below.heap_setCell _ _ _ _ c⟩ (λi b e=>by subst e;exact d b)
theorem Keep.mono{S T:aD}{w b:au}(h:Keep S w b)(c:∀i,i<w.heap.size->S i->T i):Keep T w b:=⟨h.os,h.tape,h.output,h.size,λk a t=>h.block k a (λs=>t (c k a s))⟩
theorem Keep.below{S:aD}{B:Nat}{w a:au}(h:Keep S w a)(d:B<=w.heap.size)(b:∀i,i<B->¬S i):Below B w a:=⟨h.os,h.tape,h.output,h.size,λk c=>h.block k Q0 (b k c)⟩
theorem Keep.of_below{w a:au}(h:Below w.heap.size w a):Keep bD w a:=⟨h.os,h.tape,h.output,h.size,λk b _=>h.block k b⟩
theorem Keep.row{S:aD}{w a:au}(h:Keep S w a){b t n:Nat}{f:Nat->aA}(r:w.rowIs b t n f)(c:¬S b):a.rowIs b t n f:=r.of_block (h.block b r.lt c)
theorem Keep.cell{S:aD}{w a:au}(h:Keep S w a){p:Addr}(c:p.block<w.heap.size)(b:¬S p.block):a.cell? p=w.cell? p:=World.cell?_of_block (w:=w) (h.block _ c b)
theorem Keep.grown{S:aD}{a w c:au}{row:Option Nat}(h:Keep S a w)(g:w.grownBy c row)(r:∀b,row=some b->b<a.heap.size->S b):Keep S a c:=h.trans (T:=λb=>row=some b) ⟨g.os,g.tape,g.output,g.size,λk f n=>g.block k f (λe=>n e.symm)⟩ (λi d e=>r i e d)
theorem EO{w f:au}{d e s n:Nat}{v:aA}{xs:List aA}{row:Option Nat}(h:w.ownsRow d e s v n xs)(g:w.grownBy f row)(r:∀b,v.ownBlock=some b->row≠some b):f.ownsRow d e s v n xs:=by
 refine⟨h.1,?_⟩;obtain i|⟨b,c,cur,rfl,k,a,j⟩:=h.2
 .exact .inl i
 .refine .inr ⟨b,c,cur,rfl,k,?_,j⟩;have l:b<w.heap.size:=by obtain⟨l,_⟩:=bJ.1 a;exact l
  rw[g.block b l (λe=>r b rfl e.symm)];exact a
theorem dP{S:aD}{w a:au}{d e s n:Nat}{v:aA}{xs:List aA}(h:w.ownsRow d e s v n xs)(k:Keep S w a)(j:∀b,v.ownBlock=some b->¬S b):a.ownsRow d e s v n xs:=by
 refine⟨h.1,?_⟩;obtain f|⟨b,c,cur,rfl,m,g,i⟩:=h.2
 .exact .inl f
 .refine .inr ⟨b,c,cur,rfl,m,?_,i⟩;have l:b<w.heap.size:=by obtain⟨l,_⟩:=bJ.1 g;exact l
  rw[k.block b l (j b rfl)];exact g
theorem mF{w:au}{d e s n b:Nat}{v:aA}{xs:List aA}(h:w.ownsRow d e s v n xs)(a:v.ownBlock=some b):d<=b/\b<w.heap.size:=by
 obtain⟨rfl,_⟩|⟨g,c,cur,rfl,f,i,_⟩:=h.2
 .cases a
 .simp only[Value.ownBlock,iV]at a;subst a;obtain⟨l,_⟩:=bJ.1 i;exact⟨f,l⟩
section
variable {P : Program} {w : au}
theorem uh{p:Array Oper}{r:List Oper}{o:Oper}{a:Act}{Q:Exit->Act->au->Prop}{v x b:aA}{c:au}{s y:Operand}{t:bf}(e:(Builtin.append_ #[t,t] o.type #[v,x]).run P w=.ok b c)(g:o.guard=none)
 (d:o.op=.call {callee:=.builtin .append,args:=#[s,y],argTypes:=#[t,t]})(f:a.eval s=v)(i:a.eval y=x)
 (h:wpList P p Q r (a.put o.dst b) c):wpList P p Q (o::r) a w:=
 wpList_plain g λ_ K=>by
  unfold Oper.wp execOp
  simp only[d,resolve,invoke,builtin,Sem.run_bind,Sem.run_pure,Result.andThen_ok,List.map_toArray,kM,List.map_nil,f,i,e]
  exact K _ _ h
end
theorem ze:(Tryz.prog.info? 9).map (λi=>(i.zero,i.size,i.bytes))=some (some (aW ByteArray.empty),1,16):=by kernel_rfl
theorem sW{S:aD}{a:au}{b:Nat}(c:b<a.heap.size->S b):∀(s:List aA)(o:Nat)(w:au),Keep S a w->Keep S a (w.setCells b o s)
 |[],_,_,h=>h
 |v::r,o,_,h=>sW c r (o+1) _ (h.setCell (p:=⟨b,o,none⟩) c v)
theorem zF(s:aN)(w:au)(h:nameP s):Calls Tryz.prog 149 #[aW s] w λe o=>e=.returned (.bool true)/\o=w:=by
 obtain⟨f,g,l⟩:=h;have y:=Km f;have A:¬(12:Int)<(s.size:Int):=by omega
 have L:Hid (∀i,1<=i->i<s.size+2->yL (za s) i):=l;have j:(ByteArray.mk #[47]++s++ByteArray.mk #[47])=za s:=rfl;have x:(za s).size=s.size+2:=EN s;clear l
 go_enter func149,ntmps149
 go_wp2;clear j;generalize za s=T at*
 go_loop [4,5] (λi _=>∃q:Nat,1<=q/\q<=s.size+2/\i=ah q) (λi _=>s.size+2-(intOf i).toNat)
 case atStart=>exact⟨1,aS _,Q0,X0⟩
 case round=>
  obtain⟨q,a,m,rfl⟩:=hrel;by_cases hlt:q<s.size+2
  .have c:q<T.size:=by omega
   have p:q-1<T.size:=by omega
   have n:(q:Int)<(s.size:Int)+2:=by omega
   obtain⟨d,t,b⟩|⟨d,b,u⟩:=BZ c p (L.out q a hlt)
   .go_wp2;exact⟨⟨q+1,Q0,Q0,by go_num⟩,by simp[intOf];omega⟩
   .have v:(((T[q]'c).toNat:Int)!=47)=false:=by rw[bne,b];rfl
    go_wp2;exact⟨⟨q+1,Q0,Q0,by go_num⟩,by simp[intOf];omega⟩
  .have:q=s.size+2:=by omega
   subst this;have n:¬((s.size+2:Nat):Int)<(s.size:Int)+2:=by omega
   go_wp2
   go_ret
   exact⟨rfl,rfl⟩
theorem Tj(s:aN)(w:au)(M:s.size<=9223372036854775807)(h:¬nameP s):Calls Tryz.prog 149 #[aW s] w λe I=>e=.returned (.bool false)/\I=w:=by
 by_cases x:s.size=0
 .have E:((s.size:Int)==0)=true:=by rw[x];rfl
  clear h
  go_enter func149,ntmps149
  go_wp2
  go_ret
  exact⟨rfl,rfl⟩
 .have E:=Km (s:=s) Q0;by_cases j:s.size<=12
  .have F:¬(12:Int)<(s.size:Int):=by omega
   obtain a|⟨f,L,t,b⟩:=tZ (λi=>yL (za s) (i+1)) (s.size+1)
   .exact aF ⟨Q0,j,λi y A=>by have l:yL (za s) (i-1+1):=a (i-1) Q0;rwa[show i-1+1=i by omega]at l⟩ h
   .have G:Hid (∀i,1<=i->i<f+1->yL (za s) i):=λi y A=>by have l:yL (za s) (i-1+1):=t (i-1) Q0;rwa[show i-1+1=i by omega]at l
    have B:Hid (¬yL (za s) (f+1)):=b;have C:(ByteArray.mk #[47]++s++ByteArray.mk #[47])=za s:=rfl;have N:(za s).size=s.size+2:=EN s;clear h t b
    go_enter func149,ntmps149
    go_wp2;clear C;generalize za s=T at*
    go_loop [4,5] (λi _=>∃q:Nat,1<=q/\q<=f+1/\i=ah q) (λi _=>s.size+2-(intOf i).toNat)
    case atStart=>exact⟨1,aS _,Q0,X0⟩
    case round=>
     obtain⟨q,o,p,rfl⟩:=hrel;have n:q<T.size:=by omega
     have u:q-1<T.size:=by omega
     have O:(q:Int)<(s.size:Int)+2:=by omega
     by_cases hlt:q<f+1
     .obtain⟨c,g,d⟩|⟨c,d,v⟩:=BZ n u (G.out q o hlt)
      .go_wp2;exact⟨⟨q+1,Q0,Q0,by go_num⟩,by simp[intOf];omega⟩
      .have J:(((T[q]'n).toNat:Int)!=47)=false:=by rw[bne,d];rfl
       go_wp2;exact⟨⟨q+1,Q0,Q0,by go_num⟩,by simp[intOf];omega⟩
     .have e:q=f+1:=by omega
      have m:=B.out;rw[<-e]at m;have D:=Ti n u m;clear e m B G p hlt;obtain⟨c,g⟩|⟨c,g,d⟩|⟨c,g,d,v⟩:=D
      .go_wp2
       go_ret
       exact⟨rfl,rfl⟩
      .go_wp2
       go_ret
       exact⟨rfl,rfl⟩
      .go_wp2
       go_ret
       exact⟨rfl,rfl⟩
  .have F:(12:Int)<(s.size:Int):=by omega
   clear h
   go_enter func149,ntmps149
   go_wp2
   go_ret
   exact⟨rfl,rfl⟩
theorem qO(l s:aN)(w:au)(g:l.size<=1000000):Calls Tryz.prog 150 #[aW l,aW s] w λe d=>e=.returned (.bool (dK l s))/\d=w:=by
 by_cases b:(Op.bytesLess s.toList l.toList||s.toList==l.toList)=true
 .have R:Hid (dK l s=false):=by show dK l s=false;unfold dK;rw[b];rfl
  generalize dK l s=r at*
  go_enter func150,ntmps150
  go_wp2
  go_ret
  exact⟨by rw[R.out];rfl,rfl⟩
 .have a:(Op.bytesLess s.toList l.toList||s.toList==l.toList)=false:=by simpa using b
  by_cases c:s.size<l.size+1
  .have R:Hid (dK l s=true):=by show dK l s=true;unfold dK;rw[a,nG c];rfl
   have i:(s.size:Int)<(l.size:Int)+1:=by omega
   clear b;generalize dK l s=r at*
   go_enter func150,ntmps150
   go_wp2
   go_ret
   exact⟨by rw[R.out];rfl,rfl⟩
  .have R:Hid (dK l s= !((s.extract 0 (l.size+1)).toList==(l++slash).toList)):=by
    show dK l s=_;unfold dK;rw[a,iI c];simp
   have i:¬(s.size:Int)<(l.size:Int)+1:=by omega
   have f:decide ((s.size:Int)<(l.size:Int)+1)=false:=iI i;clear b;generalize dK l s=r at*
   go_enter func150,ntmps150
   go_wp2
   go_ret
   exact⟨by rw[R.out];rfl,rfl⟩
def kH(w:au)(b o n:Nat)(FN FD:Nat->aN):Prop:=∀i,i<n->w.cell? (aB b (o+i*2))=some (aW (FN i))/\w.cell? (aB b (o+i*2+1))=some (aW (FD i))
def vg(r:aN)(er:Int)(w:au)(e:Ending)(w':au):Prop:=e=.returned (.tuple #[aW r,ah er])/\Keep bD w w'
theorem EP:(Tryz.prog.info? 38).map (λi=>(i.zero,i.size,i.bytes))=some (some (.agg #[aW ByteArray.empty,aW ByteArray.empty]),2,32):=by kernel_rfl
theorem zG(n d:aN)(w:au)(T:n.size<=1000000)(Q:d.size<=1000000):Calls Tryz.prog 151 #[.agg #[aW n,aW d]] w λe a=>e=.returned (aW (nE n d))/\Keep bD w a:=by
 have L:Hid (∀w:au,Calls Tryz.prog 137 #[ah n.size,ah 1] w λe a=>e=.returned (aW ⟨(iq 1 n.size).toArray⟩)/\Below w.heap.size w a):=λw=>mh n.size 1 Q0 U0 w;have y:Hid (∀w:au,Calls Tryz.prog 137 #[ah d.size,ah 2] w λe a=>e=.returned (aW ⟨(iq 2 d.size).toArray⟩)/\Below w.heap.size w a):=λw=>mh d.size 2 Q0 U0 w;have F:Hid (nE n d=⟨(iq 1 n.size).toArray⟩++n++⟨(iq 2 d.size).toArray⟩++d):=rfl;have U:=jC 1 n.size;have V:=jC 2 d.size;have M:¬9223372036854775807<1+n.size:=by omega
 have N:¬9223372036854775807<1+n.size+2:=by omega
 have O:¬9223372036854775807<1+n.size+2+d.size:=by omega
 generalize ByteArray.mk (iq 1 n.size).toArray=A1 at*;generalize ByteArray.mk (iq 2 d.size).toArray=A2 at*;generalize nE n d=R at*
 go_enter func151,ntmps151
 go_wp2;obtain⟨W,f⟩:∃W,W=w.alloc (.cells #[aW n,aW d] 38):=⟨_,rfl⟩;have g:Keep bD w W:=f▸(Keep.refl bD w).alloc _;have B:W.cell? (aB w.heap.size 0)=some (aW n):=by rw[f,cell_of_row _ _ 0 _ _ (0,0) (Go.Deep.blk_alloc_new _ _)];rfl
 have D:W.cell? (aB w.heap.size 1)=some (aW d):=by rw[f,cell_of_row _ _ 1 _ _ (0,0) (Go.Deep.blk_alloc_new _ _)];rfl
 have lb:w.heap.size<W.heap.size:=by rw[f];simp
 rw[<-f];have i:Hid (Keep bD w W):=g;clear f g;have S:∀{u a:au},Below u.heap.size u a->w.heap.size<u.heap.size->(u.cell? (aB w.heap.size 0)=some (aW n)/\u.cell? (aB w.heap.size 1)=some (aW d))->a.cell? (aB w.heap.size 0)=some (aW n)/\a.cell? (aB w.heap.size 1)=some (aW d):=λq v t=>⟨(q.cell (p:=⟨w.heap.size,0,none⟩) v).trans t.1,(q.cell (p:=⟨w.heap.size,1,none⟩) v).trans t.2⟩
 have C:Hid (∀{u a:au},Below u.heap.size u a->w.heap.size<u.heap.size->(u.cell? (aB w.heap.size 0)=some (aW n)/\u.cell? (aB w.heap.size 1)=some (aW d))->a.cell? (aB w.heap.size 0)=some (aW n)/\a.cell? (aB w.heap.size 1)=some (aW d)):=S;clear S
 go_region_held3 (λa=>a.cell? (aB w.heap.size 0)=some (aW n)/\a.cell? (aB w.heap.size 1)=some (aW d)) (first|assumption|go_keep)
  (first
    |(go_at_call 137;(with_reducible refine Calls.mono (L.out _) ?_);rintro e x ⟨rfl,b⟩;have s:=C.out b lb ⟨B,D⟩;obtain⟨A,m⟩:=s;have j:Hid (Keep bD w x):=i.out.drew.trans (Keep.of_below b) (λ_ _ h=>h);have I:w.heap.size<x.heap.size:=bG lb b.size;clear b)
    |(go_at_call 137;(with_reducible refine Calls.mono (y.out _) ?_);rintro e J ⟨rfl,c⟩;have o:=C.out c I ⟨A,m⟩;obtain⟨E,G⟩:=o;have l:Hid (Keep bD w J):=j.out.trans (Keep.of_below c) (λ_ _ h=>h);clear c))
 go_wp2
 go_ret
 exact⟨by rw[F.out];rfl,l.out⟩
theorem xZ(b o n x:Nat)(F D:Nat->aN)(w:au)(hn:n<=8)(y:0<n->b<w.heap.size)(hF:kH w b o n F D)(O:∀i,i<n->jD F D i)(a:Option Addr)(M:0<n->a=some ⟨b,o,none⟩):
 Calls Tryz.prog 91 #[.slice a n x] w λe c=>vg (dI n F D n) 0 w e c:=by
 have LC:Hid (∀w:au,Calls Tryz.prog 137 #[ah n,ah 1] w λe c=>e=.returned (aW (dI n F D 0))/\Below w.heap.size w c):=λw=>mh n 1 Q0 U0 w;have n1:¬(8:Int)<(n:Int):=by omega
 have J:Hid (kH w b o n F D):=hF;have G:Hid (∀i,i<n->jD F D i):=O;have A:Hid (∀r L w e c,vg r L w e c↔(e=.returned (.tuple #[aW r,ah L])/\Keep bD w c)):=λ_ _ _ _ _=>Iff.rfl;have R:Hid (0<n->a=some ⟨b,o,none⟩):=M;clear hF O M
 go_enter func91,ntmps91
 go_wp2_with fail
 refine(LC.out _).mono ?_;rintro e w1 ⟨rfl,s⟩;have u:Hid (Keep bD w w1):=Keep.of_below s;clear s;go_wp2
 go_loopw [4,5,6] (λv i _ wr=>∃q:Nat,q<=n/\i=ah q/\v=aW (dI n F D q)/\Keep bD w wr) (λ_ i _ _=>n-(intOf i).toNat)
 case atStart=>exact⟨0,bU _,X0,rfl,u.out⟩
 case round=>
  obtain⟨q,hq,rfl,rfl,hK⟩:=hrel;by_cases hlt:q<n
  .have Y:(q:Int)<(n:Int):=by omega
   have S:=R.out Q0;subst S;have lb:=y Q0;obtain⟨U,V⟩:=J.out q hlt;rw[<-hK.cell (p:=⟨b,o+q*2,none⟩) lb (λh=>h)]at U;rw[<-hK.cell (p:=⟨b,o+q*2+1,none⟩) lb (λh=>h)]at V;obtain⟨C,p2,E⟩:=G.out q hlt;have Q:(F q).size<=12:=C.2.1;have N:Hid (∀w:au,Calls Tryz.prog 149 #[aW (F q)] w λe c=>e=.returned (.bool true)/\c=w):=λw=>zF (F q) w C;have d2:¬(200:Int)<((D q).size:Int):=by omega
   have hsz:=uf n F D q (λi hi=>G.out i Q0);have m:Hid (dI n F D (q+1)=dI n F D q++nE (F q) (D q)):=rfl;have X:=pG (F q) (D q);have I:Hid (∀w:au,Calls Tryz.prog 151 #[.agg #[aW (F q),aW (D q)]] w λe c=>e=.returned (aW (nE (F q) (D q)))/\Keep bD w c):=λw=>zG (F q) (D q) w Q0 Q0;have t:Hid (Keep bD w wr):=hK;clear hK C;generalize dI n F D q=F0 at*;generalize nE (F q) (D q)=F1 at*;by_cases B:0<q
   .have Z:(0:Int)<(q:Int):=by omega
    obtain⟨f,g⟩:∃f,f=q-1:=⟨_,rfl⟩;have e0:(q:Int)-1=(f:Int):=by omega
    have i2:(f:Int)<(n:Int):=by omega
    have W:=(J.out f Q0).1;rw[<-t.out.cell (p:=⟨b,o+f*2,none⟩) lb (λh=>h)]at W;have p0:=(G.out f Q0).1.2.1;have l:=E B;rw[<-g]at l;have T:Hid (∀w:au,Calls Tryz.prog 150 #[aW (F f),aW (F q)] w λe c=>e=.returned (.bool true)/\c=w):=λw=>by rw[<-l];exact qO (F f) (F q) w Q0
    clear E l g
    go_wp2_with fail
    refine(N.out _).mono ?_;rintro e w2 ⟨rfl,rfl⟩;go_wp2
    go_quiet ((go_at_call 150;(with_reducible exact Calls.quiet_of_same (T.out _))))
    go_wp2_with fail
    refine(I.out _).mono ?_;rintro e w3 ⟨rfl,d⟩;have j:Hid (Keep bD w w3):=(t.out.drewN _).trans d (λ_ _ h=>h);clear d;go_wp2;exact⟨⟨q+1,Q0,by go_num,by rw[m.out],j.out⟩,by simp[intOf];omega⟩
   .have Z:¬(0:Int)<(q:Int):=by omega
    clear E
    go_wp2_with fail
    refine(N.out _).mono ?_;rintro e w2 ⟨rfl,rfl⟩
    go_wp2_with fail
    refine(I.out _).mono ?_;rintro e w3 ⟨rfl,d⟩;have j:Hid (Keep bD w w3):=t.out.trans d (λ_ _ h=>h);clear d;go_wp2;exact⟨⟨q+1,Q0,by go_num,by rw[m.out],j.out⟩,by simp[intOf];omega⟩
  .have:q=n:=by omega
   subst this;have Y:¬(q:Int)<(q:Int):=by omega
   go_wp2
   go_ret2
   exact(A.out _ _ _ _ _).2 ⟨rfl,hK⟩
theorem Df(a:Option Addr)(n c:Nat)(w:au)(f:8<n)(b:n<=9223372036854775807):Calls Tryz.prog 91 #[.slice a n c] w λe d=>vg ByteArray.empty 2 w e d:=by
 have g:(8:Int)<(n:Int):=by omega
 go_enter func91,ntmps91
 go_wp2
 go_ret2
 exact⟨rfl,Keep.refl _ _⟩
theorem ER(b o n Q f:Nat)(F D:Nat->aN)(w:au)(hn:n<=8)(l:b<w.heap.size)(hF:kH w b o n F D)(I:∀i,i<n->(F i).size<=9223372036854775807)(G:∀i,i<n->(D i).size<=9223372036854775807)(hf:f<n)(hg:∀i,i<f->jD F D i)(s:¬jD F D f):
 Calls Tryz.prog 91 #[.slice (some ⟨b,o,none⟩) n Q] w λe d=>vg ByteArray.empty 2 w e d:=by
 have LC:Hid (∀w:au,Calls Tryz.prog 137 #[ah n,ah 1] w λe d=>e=.returned (aW (dI n F D 0))/\Below w.heap.size w d):=λw=>mh n 1 Q0 U0 w;have n1:¬(8:Int)<(n:Int):=by omega
 have J:Hid (kH w b o n F D):=hF;have L:Hid (∀i,i<f->jD F D i):=hg;have HB:Hid (¬jD F D f):=s;have O:Hid (∀i,i<n->(F i).size<=9223372036854775807):=I;have S:Hid (∀i,i<n->(D i).size<=9223372036854775807):=G;have A:Hid (∀r er w e d,vg r er w e d↔(e=.returned (.tuple #[aW r,ah er])/\Keep bD w d)):=λ_ _ _ _ _=>Iff.rfl;clear hF hg s I G
 go_enter func91,ntmps91
 go_wp2_with fail
 refine(LC.out _).mono ?_;rintro e w1 ⟨rfl,C⟩;have M:Hid (Keep bD w w1):=Keep.of_below C;clear C;go_wp2
 go_loopw [4,5,6] (λv i _ wr=>∃q:Nat,q<=f/\i=ah q/\v=aW (dI n F D q)/\Keep bD w wr) (λ_ i _ _=>n-(intOf i).toNat)
 case atStart=>exact⟨0,bU _,X0,rfl,M.out⟩
 case round=>
  obtain⟨q,hq,rfl,rfl,hK⟩:=hrel;by_cases hlt:q<f
  .have i1:(q:Int)<(n:Int):=by omega
   have lb:=l;obtain⟨R,U⟩:=J.out q Q0;rw[<-hK.cell (p:=⟨b,o+q*2,none⟩) lb (λh=>h)]at R;rw[<-hK.cell (p:=⟨b,o+q*2+1,none⟩) lb (λh=>h)]at U;obtain⟨X,p2,Y⟩:=L.out q hlt;have ahO:(F q).size<=12:=X.2.1;have N:Hid (∀w:au,Calls Tryz.prog 149 #[aW (F q)] w λe d=>e=.returned (.bool true)/\d=w):=λw=>zF (F q) w X;have d2:¬(200:Int)<((D q).size:Int):=by omega
   have hsz:=uf n F D q (λi hi=>L.out i Q0);have B:Hid (dI n F D (q+1)=dI n F D q++nE (F q) (D q)):=rfl;have hfz:=pG (F q) (D q);have Z:Hid (∀w:au,Calls Tryz.prog 151 #[.agg #[aW (F q),aW (D q)]] w λe d=>e=.returned (aW (nE (F q) (D q)))/\Keep bD w d):=λw=>zG (F q) (D q) w Q0 Q0;have m:Hid (Keep bD w wr):=hK;clear hK X;generalize dI n F D q=F0 at*;generalize nE (F q) (D q)=F1 at*;by_cases E:0<q
   .have j1:(0:Int)<(q:Int):=by omega
    obtain⟨c,g⟩:∃c,c=q-1:=⟨_,rfl⟩;have e0:(q:Int)-1=(c:Int):=by omega
    have i2:(c:Int)<(n:Int):=by omega
    have V:=(J.out c Q0).1;rw[<-m.out.cell (p:=⟨b,o+c*2,none⟩) lb (λh=>h)]at V;have p0:=(L.out c Q0).1.2.1;have y:=Y E;rw[<-g]at y;have T:Hid (∀w:au,Calls Tryz.prog 150 #[aW (F c),aW (F q)] w λe d=>e=.returned (.bool true)/\d=w):=λw=>by rw[<-y];exact qO (F c) (F q) w Q0
    clear Y y g
    go_wp2_with fail
    refine(N.out _).mono ?_;rintro e w2 ⟨rfl,rfl⟩;go_wp2
    go_quiet ((go_at_call 150;(with_reducible exact Calls.quiet_of_same (T.out _))))
    go_wp2_with fail
    refine(Z.out _).mono ?_;rintro e w3 ⟨rfl,j⟩;have u:Hid (Keep bD w w3):=(m.out.drewN _).trans j (λ_ _ h=>h);clear j;go_wp2;exact⟨⟨q+1,Q0,by go_num,by rw[B.out],u.out⟩,by simp[intOf];omega⟩
   .have j1:¬(0:Int)<(q:Int):=by omega
    clear Y
    go_wp2_with fail
    refine(N.out _).mono ?_;rintro e w2 ⟨rfl,rfl⟩
    go_wp2_with fail
    refine(Z.out _).mono ?_;rintro e w3 ⟨rfl,j⟩;have u:Hid (Keep bD w w3):=m.out.trans j (λ_ _ h=>h);clear j;go_wp2;exact⟨⟨q+1,Q0,by go_num,by rw[B.out],u.out⟩,by simp[intOf];omega⟩
  .have W:q=f:=by omega
   subst W;have i1:(q:Int)<(n:Int):=by omega
   obtain⟨R,U⟩:=J.out q Q0;rw[<-hK.cell (p:=⟨b,o+q*2,none⟩) l (λh=>h)]at R;rw[<-hK.cell (p:=⟨b,o+q*2+1,none⟩) l (λh=>h)]at U;have sN:=O.out q Q0;have sD:=S.out q Q0;have m:Hid (Keep bD w wr):=hK;clear hK;by_cases a:nameP (F q)
   .have N:Hid (∀w:au,Calls Tryz.prog 149 #[aW (F q)] w λe d=>e=.returned (.bool true)/\d=w):=λw=>zF (F q) w a;by_cases t:(D q).size<=200
    .have d2:¬(200:Int)<((D q).size:Int):=by omega
     have E:0<q:=by
      obtain h|h:=Nat.eq_zero_or_pos q
      .exact aF ⟨a,t,λh'=>Q0⟩ HB.out
      .exact h
     have x:dK (F (q-1)) (F q)=false:=by
      cases h:dK (F (q-1)) (F q)with
      |false=>rfl
      |true=>exact aF ⟨a,t,λ_=>h⟩ HB.out
     have j1:(0:Int)<(q:Int):=by omega
     obtain⟨c,g⟩:∃c,c=q-1:=⟨_,rfl⟩;have e0:(q:Int)-1=(c:Int):=by omega
     have i2:(c:Int)<(n:Int):=by omega
     have V:=(J.out c Q0).1;rw[<-m.out.cell (p:=⟨b,o+c*2,none⟩) l (λh=>h)]at V;have p0:=(L.out c Q0).1.2.1;rw[<-g]at x;have T:Hid (∀w:au,Calls Tryz.prog 150 #[aW (F c),aW (F q)] w λe d=>e=.returned (.bool false)/\d=w):=λw=>by rw[<-x];exact qO (F c) (F q) w Q0
     clear x g a
     go_wp2_with fail
     refine(N.out _).mono ?_;rintro e w2 ⟨rfl,rfl⟩;go_wp2
     go_quiet ((go_at_call 150;(with_reducible exact Calls.quiet_of_same (T.out _))))
     go_wp2
     go_ret2
     exact(A.out _ _ _ _ _).2 ⟨rfl,m.out.drewN _⟩
    .have d2:(200:Int)<((D q).size:Int):=by omega
     clear a
     go_wp2_with fail
     refine(N.out _).mono ?_;rintro e w2 ⟨rfl,rfl⟩;go_wp2
     go_ret2
     exact(A.out _ _ _ _ _).2 ⟨rfl,m.out⟩
   .have N:Hid (∀w:au,Calls Tryz.prog 149 #[aW (F q)] w λe d=>e=.returned (.bool false)/\d=w):=λw=>Tj (F q) w sN a;clear a
    go_wp2_with fail
    refine(N.out _).mono ?_;rintro e w2 ⟨rfl,rfl⟩;go_wp2
    go_ret2
    exact(A.out _ _ _ _ _).2 ⟨rfl,m.out⟩
def isRow(w:au)(b n:Nat)(X:Nat->Nat):Prop:=w.rowIs b 5 n (λj=>.int .u8 ((X j:Nat):Int))
theorem isRow.cell{w:au}{b n:Nat}{X:Nat->Nat}(h:isRow w b n X){i:Nat}(a:i<n):w.cell? (aB b i)=some (.int .u8 ((X i:Nat):Int)):=World.rowIs.cell h a
theorem isRow.frozen{w:au}{b n:Nat}{X:Nat->Nat}(h:isRow w b n X)(i:Nat):w.frozen? (aB b i)=false:=World.rowIs.frozen h i
theorem isRow.lt{w:au}{b n:Nat}{X:Nat->Nat}(h:isRow w b n X):b<w.heap.size:=World.rowIs.lt h
theorem isRow.congr{w:au}{b n:Nat}{X Y:Nat->Nat}(h:isRow w b n X)(e:∀i,i<n->X i=Y i):isRow w b n Y:=World.rowIs.congr h (λi a=>by rw[e i a])
theorem isRow.set{w:au}{b n:Nat}{X:Nat->Nat}(h:isRow w b n X)(i v:Nat):isRow (w.setCell (aB b i) (.int .u8 ((v:Nat):Int))) b n (λj=>if j=i then v else X j):=World.rowIs.congr (World.rowIs.set h i _) (λj _=>by by_cases e:j=i<;>simp[e])
theorem isRow.keep{S:aD}{w w':au}{b n:Nat}{X:Nat->Nat}(h:isRow w b n X)(k:Keep S w w')(a:¬S b):isRow w' b n X:=k.row h a
theorem isRow.step{w:au}{t n k:Nat}{A B:Nat->Nat}{v:Int}(h:isRow w t n (λj=>if j<k then B j else A j))(b:v=((B k:Nat):Int)):isRow (w.setCell (aB t k) (.int .u8 v)) t n (λj=>if j<k+1 then B j else A j):=by
 subst b;refine(h.set k (B k)).congr (λi _=>?_);by_cases e:i=k
 .subst e;simp
 .by_cases a:i<k
  .simp[e,a,oq a]
  .simp[e,a,show¬i<k+1 by omega]
theorem isRow.drew{w:au}{t n:Nat}{A:Nat->Nat}(h:isRow w t n A):isRow w.drew t n A:=h
theorem infoByte:(Tryz.prog.info? 5).map (λi=>(i.zero,i.size,i.bytes))=some (some (.int .u8 0),1,1):=by kernel_rfl
def jo(Z:Nat->Nat)(off n:Nat):aN:=⟨((List.range n).map λj=>UInt8.ofNat (Z (off+j))).toArray⟩
theorem Dg(w:au)(b N o n c:Nat)(Z:Nat->Nat)(h:isRow w b N Z)(d:o+n<=N):
 (convert 95 9 (.slice (some ⟨b,o,none⟩) n c)).run Tryz.prog w=.ok (aW (jo Z o n)) w:=by
 have:=run_convert_bytes_arg (P:=Tryz.prog) w 95 5 underlying95 underlying5 b o n c ((List.range n).map λj=>((Z (o+j):Nat):Int)) X0 (λi a=>by rw[h.cell (i:=o+i) Q0];simp[List.getD,a]) 9 underlying9
 rw[this]
 congr 2
 simp[strOfNums,jo,List.map_map,Function.comp_def]
theorem Ip(k v:Nat):iq k v=(List.range k).map (λj=>UInt8.ofNat (v/256^j)):=by
 induction k with
 |zero=>rfl
 |succ k i=>rw[BX,i,List.range_succ,List.map_append];rfl
theorem OA(k v:Nat)(Z:Nat->Nat)(h:∀j,j<k->Z j=v/256^j%256):jo Z 0 k=⟨(iq k v).toArray⟩:=by
 unfold jo;rw[Ip]
 congr 2
 apply List.map_congr_left;intro j a;rw[eu,h j (gY.1 a)];apply UInt8.toNat_inj.1;simp
theorem nH(v k:Nat)(c:v<9223372036854775808)(g:k<=7)(w:au):
 Calls Tryz.prog 163 #[ah v,ah k] w λe f=>e=.returned (aW ⟨(iq k v).toArray⟩)/\Keep bD w f:=by
 have m:=run_make_row' (P:=Tryz.prog) 95 5 (.int .u8 0) 1 underlying95 infoByte rfl .i64 .i64 k Q0 Q0
 go_enter func163,ntmps163
 go_wp2
 go_loopw [6,11] (λ_ i wr=>∃q:Nat,q<=k/\i=ah q/\isRow wr w.heap.size k (λj=>if j<q then v/256^j%256 else 0)/\Keep bD w wr) (λ_ i _=>k-(intOf i).toNat)
 case atStart=>exact⟨0,bU _,X0,World.rowIs.congr (World.rowIs_made w _ k _) (λi _=>X0),(Keep.refl bD w).alloc _⟩
 case round=>
  obtain⟨q,l,rfl,a,hK⟩:=hrel;by_cases hlt:q<k
  .have t:=a.cell hlt;have o:=a.frozen q;have n:(q:Int)<(k:Int):=by omega
   have R:Hid (isRow wr w.heap.size k (λj=>if j<q then v/256^j%256 else 0)):=a;have b:Hid (Keep bD w wr):=hK;clear a hK;go_wp2;have p:(v:Int)/2^(8*q)%256=((v/256^q%256:Nat):Int):=by rw[show(2:Int)^(8*q)=((256^q:Nat):Int)by rw[Int.pow_mul];push_cast;rfl];push_cast;rfl
   exact⟨⟨q+1,Q0,by go_num,isRow.step (A:=λ_=>0) (B:=λj=>v/256^j%256) R.out p,b.out.setCell (λh=>aF h (iQ _)) _⟩,by simp[intOf];omega⟩
  .have:q=k:=by omega
   subst this;have hcv:=Dg wr w.heap.size q 0 q q _ a Q0;have S:Hid (jo (λj=>if j<q then v/256^j%256 else 0) 0 q=⟨(iq q v).toArray⟩):=OA q v _ (λj d=>by simp[d]);go_wp2
   go_ret
   exact⟨by rw[<-S.out];rfl,hK⟩
def b4(n:Nat):aN:=⟨#[UInt8.ofNat n,UInt8.ofNat (n/256),UInt8.ofNat (n/65536),UInt8.ofNat (n/16777216)]⟩
theorem Dh(n:Nat):b4 n=⟨(iq 4 n).toArray⟩:=by simp[b4,iq,Nat.div_div_eq_div_mul]
def Di(m c v:Nat)(b:UInt8):Nat:=(m*v+b.toNat+c)%2147483647
def sumTo(m c:Nat)(l:List UInt8):Nat:=l.foldl (Di m c) 1
theorem vk(m c:Nat)(l:List UInt8):sumTo m c l<2147483647:=by
 unfold sumTo;have:∀(l:List UInt8)(v:Nat),v<2147483647->l.foldl (Di m c) v<2147483647:=by
  intro l
  induction l with
  |nil=>intro v h;exact h
  |cons a l i=>intro v _;exact i _ (Nat.mod_lt _ U0)
 exact this l 1 U0
theorem pI(m c:Nat)(l:List UInt8)(b:UInt8):sumTo m c (l++[b])=(m*sumTo m c l+b.toNat+c)%2147483647:=by simp[sumTo,Di]
theorem Ca(s:aN)(k:Nat)(h:k<s.size):s.data.toList.take (k+1)=s.data.toList.take k++[s[k]]:=by rw[List.take_succ_eq_append_getElem X5];rfl
def nU(s:aN):aN:=b4 (sumTo 48271 1 s.data.toList)++b4 (sumTo 69621 3 s.data.toList)
theorem ES(s:aN)(o:s.size<=maxLen)(w:au):
 Calls Tryz.prog 125 #[aW s] w λe g=>e=.returned (aW (nU s))/\Below w.heap.size w g:=by
 unfold maxLen at o
 go_enter func125,ntmps125
 go_wp2
 go_loop [3,4,9] (λa b i=>∃k:Nat,k<=s.size/\i=ah k/\a=.int .u64 ((sumTo 48271 1 (s.data.toList.take k):Nat):Int)/\b=.int .u64 ((sumTo 69621 3 (s.data.toList.take k):Nat):Int)) (λ_ _ i=>s.size-(intOf i).toNat)
 case atStart=>exact⟨0,bU _,X0,rfl,rfl⟩
 case round=>
  obtain⟨k,x,rfl,rfl,rfl⟩:=hrel;have t:=vk 48271 1 (s.data.toList.take k);have u:=vk 69621 3 (s.data.toList.take k);by_cases hlt:k<s.size
  .have c:=pI 48271 1 (s.data.toList.take k) s[k];have d:=pI 69621 3 (s.data.toList.take k) s[k];rw[<-Ca s k hlt]at c d;have E:Hid _:=c;have j:Hid _:=d;clear c d;have v:s[k].toNat<256:=s[k].toNat_lt;generalize sumTo 48271 1 (s.data.toList.take k)=A at*;generalize sumTo 69621 3 (s.data.toList.take k)=B at*;go_wp2;refine⟨⟨k+1,Q0,by go_num,?_,?_⟩,by simp[intOf];omega⟩
   .rw[E.out];simp
   .rw[j.out];simp
  .have f:k=s.size:=by omega
   subst f;rw[List.take_of_length_le X0]at*;have l:∀m:Nat,m<9223372036854775808->∀w:au,Calls Tryz.prog 163 #[ah m,ah 4] w λe g=>e=.returned (aW ⟨(iq 4 m).toArray⟩)/\Keep bD w g:=λm hm w=>nH m 4 hm U0 w;have L:Hid _:=l;clear l
   go_wp2_with fail
   refine(L.out _ Q0 _).mono ?_;rintro e y ⟨rfl,q⟩
   go_wp2_with fail
   refine(L.out _ Q0 _).mono ?_;rintro e w2 ⟨rfl,p⟩;rw[<-Dh,<-Dh];have C:∀n:Nat,(b4 n).size=4:=λ_=>rfl
   go_wp2_with fail
   go_ret
   exact⟨rfl,(q.trans p (λ_ _ h=>h)).below (aS _) (λ_ _ h=>h)⟩
theorem Dj(s:aN)(o:s.size<=maxLen)(w:au):
 Calls Tryz.prog 74 #[aW s] w λe g=>e=.returned (aW (nU s))/\Below w.heap.size w g:=by
 unfold maxLen at o
 go_enter func74,ntmps74
 go_wp2
 go_loop [3,4,5] (λa b i=>∃k:Nat,k<=s.size/\i=ah k/\a=ah (sumTo 48271 1 (s.data.toList.take k):Nat)/\b=ah (sumTo 69621 3 (s.data.toList.take k):Nat)) (λ_ _ i=>s.size-(intOf i).toNat)
 case atStart=>exact⟨0,bU _,X0,rfl,rfl⟩
 case round=>
  obtain⟨k,x,rfl,rfl,rfl⟩:=hrel;have t:=vk 48271 1 (s.data.toList.take k);have u:=vk 69621 3 (s.data.toList.take k);by_cases hlt:k<s.size
  .have c:=pI 48271 1 (s.data.toList.take k) s[k];have d:=pI 69621 3 (s.data.toList.take k) s[k];rw[<-Ca s k hlt]at c d;have E:Hid _:=c;have j:Hid _:=d;clear c d;have v:s[k].toNat<256:=s[k].toNat_lt;generalize sumTo 48271 1 (s.data.toList.take k)=A at*;generalize sumTo 69621 3 (s.data.toList.take k)=B at*;go_wp2;refine⟨⟨k+1,Q0,by go_num,?_,?_⟩,by simp[intOf];omega⟩
   .rw[E.out];simp
   .rw[j.out];simp
  .have f:k=s.size:=by omega
   subst f;rw[List.take_of_length_le X0]at*;have l:∀m:Nat,m<9223372036854775808->∀w:au,Calls Tryz.prog 137 #[ah m,ah 4] w λe g=>e=.returned (aW ⟨(iq 4 m).toArray⟩)/\Below w.heap.size w g:=λm hm w=>mh m 4 hm U0 w;have L:Hid _:=l;clear l
   go_wp2_with fail
   refine(L.out _ Q0 _).mono ?_;rintro e y ⟨rfl,q⟩
   go_wp2_with fail
   refine(L.out _ Q0 _).mono ?_;rintro e w2 ⟨rfl,p⟩;rw[<-Dh,<-Dh];have C:∀n:Nat,(b4 n).size=4:=λ_=>rfl
   go_wp2_with fail
   go_ret
   exact⟨rfl,q.trans (p.mono q.size)⟩
def lo(k v:Nat):aN:=⟨(iq k v).toArray⟩
theorem dB(k v:Nat):(lo k v).size=k:=jC k v
def Bq:aN:=⟨#[115,97,108,118,97,103,101]⟩
def iw(k m w8:Nat)(s:aN):aN:=nU (Bq++lo 1 k++lo 1 m++lo 1 w8++s)
def XC(k m size bytes:Nat)(key:aN):aA:=.agg #[ah k,ah m,ah size,ah bytes,aW key]
theorem Br(v n:Nat)(b:v<9223372036854775808)(a:n<1000)(w:au):Calls Tryz.prog 137 #[ah v,ah n] w λe c=>e=.returned (aW (lo n v))/\Keep bD w c:=(mh v n b a w).mono (λ_ _ h=>⟨h.1,Keep.of_below h.2⟩)
theorem XD(s:aN)(a:s.size<=maxLen)(w:au):Calls Tryz.prog 74 #[aW s] w λe b=>e=.returned (aW (nU s))/\Keep bD w b:=(Dj s a w).mono (λ_ _ h=>⟨h.1,Keep.of_below h.2⟩)
theorem OB(k m a:Nat)(s:aN)(w:au)(Z:k<=1000)(hm:m<=1000)(hw:a<=1000)(hs:s.size<=1000000):
 Calls Tryz.prog 100 #[ah k,ah m,ah (8*(a:Int)),aW s] w λe c=>e=.returned (XC k m (8*a) s.size (iw k m a s))/\Keep bD w c:=by
 have L:Hid (∀w:au,Calls Tryz.prog 137 #[ah k,ah 1] w λe c=>e=.returned (aW (lo 1 k))/\Keep bD w c):=λw=>Br k 1 Q0 U0 w;have x:Hid (∀w:au,Calls Tryz.prog 137 #[ah m,ah 1] w λe c=>e=.returned (aW (lo 1 m))/\Keep bD w c):=λw=>Br m 1 Q0 U0 w;have y:Hid (∀w:au,Calls Tryz.prog 137 #[ah a,ah 1] w λe c=>e=.returned (aW (lo 1 a))/\Keep bD w c):=λw=>Br a 1 Q0 U0 w;have U:=dB 1 k;have V:=dB 1 m;have X:=dB 1 a;have Y:(8*(a:Int))/8=(a:Int):=by omega
 have S:Hid (∀w:au,Calls Tryz.prog 74 #[aW (Bq++lo 1 k++lo 1 m++lo 1 a++s)] w λe c=>e=.returned (aW (iw k m a s))/\Keep bD w c):=λw=>XD _ (by rw[eB,eB,eB,eB,U,V,X];show 7+1+1+1+s.size<=maxLen;unfold maxLen;omega) w
 have B:(ByteArray.mk #[115,97,108,118,97,103,101])=Bq:=rfl;have zs:Bq.size=7:=rfl;generalize iw k m a s=key at*;generalize lo 1 k=A1 at*;generalize lo 1 m=A2 at*;generalize lo 1 a=A3 at*
 go_enter func100,ntmps100
 go_wp2_with fail
 obtain⟨W,q⟩:∃W,W=w.alloc (.cells #[ah 0,ah 0,ah 0,ah 0,aW ⟨#[]⟩] 156):=⟨_,rfl⟩;have A:W.rowIs w.heap.size 156 5 (λj=>(#[ah 0,ah 0,ah 0,ah 0,aW ⟨#[]⟩]:Array aA)[j]?.getD default):=by rw[q];exact World.rowIs_alloc w #[ah 0,ah 0,ah 0,ah 0,aW ⟨#[]⟩] _ _ (λi T=>by rw[iU T];rfl)
 have u:Hid (W.rowIs w.heap.size 156 5 (λj=>(#[ah 0,ah 0,ah 0,ah 0,aW ⟨#[]⟩]:Array aA)[j]?.getD default)):=A;have d:Hid (Keep bD w W):=q▸(Keep.refl bD w).alloc _;rw[<-q];clear q A;refine(L.out _).mono ?_;rintro e w1 ⟨rfl,f⟩
 go_wp2_with fail
 refine(x.out _).mono ?_;rintro e w2 ⟨rfl,g⟩
 go_wp2_with fail
 refine(y.out _).mono ?_;rintro e w3 ⟨rfl,l⟩
 go_wp2_with fail
 refine(S.out _).mono ?_;rintro e t ⟨rfl,n⟩;have hK:Keep bD W t:=((f.trans g (λ_ _ h=>h)).trans l (λ_ _ h=>h)).trans n (λ_ _ h=>h);have b:=hK.row u.out (λh=>h);have J:=b.cell (i:=0) U0;have M:=b.cell (i:=1) U0;have N:=b.cell (i:=2) U0;have O:=b.cell (i:=3) U0;have Q:=b.cell (i:=4) U0;have y0:=b.frozen 0;have y1:=b.frozen 1;have y2:=b.frozen 2;have y3:=b.frozen 3;have y4:=b.frozen 4;have R:Hid (t.rowIs w.heap.size 156 5 (λj=>(#[ah 0,ah 0,ah 0,ah 0,aW ⟨#[]⟩]:Array aA)[j]?.getD default)):=b;have I:Hid (Keep bD w t):=d.out.trans hK (λ_ _ h=>h);clear f g l n hK b L x y S u d;simp at J M N O Q;go_wp2;have o:=((((R.out.set 0 (ah k)).set 1 (ah m)).set 2 (ah (8*(a:Int)))).set 3 (ah s.size)).set 4 (aW key);have C:=o.cell (i:=0) U0;have D:=o.cell (i:=1) U0;have E:=o.cell (i:=2) U0;have F:=o.cell (i:=3) U0;have G:=o.cell (i:=4) U0;simp at C D E F G;refine bodyPost_ret (v:=.agg #[ah k,ah m,ah (8*(a:Int)),ah s.size,aW key]) (by simp[results,results100,go_sem,C,D,E,F,G]) rfl ?_;refine⟨by unfold XC;push_cast;rfl,?_⟩;exact((((I.out.setCell (p:=⟨w.heap.size,0,none⟩) (λh=>aF h (iQ _)) _).setCell (p:=⟨w.heap.size,1,none⟩) (λh=>aF h (iQ _)) _).setCell (p:=⟨w.heap.size,2,none⟩) (λh=>aF h (iQ _)) _).setCell (p:=⟨w.heap.size,3,none⟩) (λh=>aF h (iQ _)) _).setCell (p:=⟨w.heap.size,4,none⟩) (λh=>aF h (iQ _)) _
def dz(P bytes:Nat):Nat:=(bytes+P-1)/P
theorem Iq{P bytes n:Nat}(h:0<P):n*P<bytes↔n<dz P bytes:=by unfold dz;rw[Nat.lt_div_iff_mul_lt h];omega
theorem sZ(k m s bytes:Nat)(key:aN)(w:au)(g:0<k)(p:k<=12)(j:0<s)(q:s<=64)(F:bytes<=1000000):
 Calls Tryz.prog 103 #[.agg #[ah k,ah m,ah s,ah bytes,aW key]] w λe u=>e=.returned (ah (dz (k*s) bytes))/\Keep bD w u:=by
 have f:0<k*s:=Nat.mul_pos g j;have L:Hid (∀n,n*(k*s)<bytes↔n<dz (k*s) bytes):=λn=>Iq f;have hst:dz (k*s) bytes<=1000000:=by
  by_cases h:bytes<dz (k*s) bytes
  .have D:=(Iq f).2 h;have E:=Nat.le_mul_of_pos_right bytes f;omega
  .omega
 generalize dz (k*s) bytes=st at*
 go_enter func103,ntmps103
 go_wp2;obtain⟨W,c⟩:∃W,W=w.alloc (.cells #[ah k,ah m,ah s,ah bytes,aW key] 156):=⟨_,rfl⟩;have x:W.cell? (aB w.heap.size 0)=some (ah k):=by rw[c,cell_of_row _ _ 0 _ _ (0,0) (Go.Deep.blk_alloc_new _ _)];rfl
 have y:W.cell? (aB w.heap.size 2)=some (ah s):=by rw[c,cell_of_row _ _ 2 _ _ (0,0) (Go.Deep.blk_alloc_new _ _)];rfl
 have A:W.cell? (aB w.heap.size 3)=some (ah bytes):=by rw[c,cell_of_row _ _ 3 _ _ (0,0) (Go.Deep.blk_alloc_new _ _)];rfl
 have d:Hid (Keep bD w W):=c▸(Keep.refl bD w).alloc _;rw[<-c];clear c
 go_loop [3] (λi=>∃n:Nat,n<=st/\i=ah n) (λi=>st-(intOf i).toNat)
 case atStart=>exact⟨0,bU _,X0⟩
 case round=>
  obtain⟨n,G,rfl⟩:=hrel;obtain⟨b,N⟩:∃b,b=n*k:=⟨_,rfl⟩;obtain⟨S,a⟩:∃S,S=b*s:=⟨_,rfl⟩;have B:(n:Int)*(k:Int)=(b:Int):=by rw[N];push_cast;rfl
  have C:(b:Int)*(s:Int)=(S:Int):=by rw[a];push_cast;rfl
  have o:b<=12000000:=by rw[N];exact iJ (show n<=1000000 by omega) p
  have v:S<=12000000*64:=by rw[a];exact iJ o q
  have l:=L.out n;rw[show n*(k*s)=S by rw[a,N,Nat.mul_assoc]]at l;clear N a;by_cases hlt:n<st
  .have t:(S:Int)<(bytes:Int):=by have:=l.2 hlt;omega
   clear l;go_wp2;exact⟨⟨n+1,Q0,by go_num⟩,by simp[intOf];omega⟩
  .have t:¬(S:Int)<(bytes:Int):=by have:=λh=>hlt (l.1 h);omega
   have:n=st:=by omega
   subst this;clear l;go_wp2
   go_ret
   exact⟨rfl,d.out⟩
def eY(key:aN)(v st:Nat)(b:aN):aN:=((⟨#[66]⟩:aN)++lo 1 v++lo 2 st++key++b)++nU ((⟨#[66]⟩:aN)++lo 1 v++lo 2 st++key++b)
theorem oC(s:aN):(nU s).size=8:=rfl
theorem ET(v st:Nat)(key b:aN)(x q s t:Int)(w:au)(O:v<=1000)(hst:st<=1000000)(o:key.size<=1000)(N:b.size<=1000):
 Calls Tryz.prog 106 #[.agg #[ah x,ah q,ah s,ah t,aW key],ah v,ah st,aW b] w λe c=>e=.returned (aW (eY key v st b))/\Keep bD w c:=by
 have L:Hid (∀w:au,Calls Tryz.prog 137 #[ah v,ah 1] w λe c=>e=.returned (aW (lo 1 v))/\Keep bD w c):=λw=>Br v 1 Q0 U0 w;have u:Hid (∀w:au,Calls Tryz.prog 137 #[ah st,ah 2] w λe c=>e=.returned (aW (lo 2 st))/\Keep bD w c):=λw=>Br st 2 Q0 U0 w;have G:=dB 1 v;have I:=dB 2 st;have Q:((⟨#[66]⟩:aN)++lo 1 v++lo 2 st++key++b).size<=2004:=by rw[eB,eB,eB,eB,G,I];show 1+1+2+key.size+b.size<=2004;omega
 have C:Hid (∀w:au,Calls Tryz.prog 74 #[aW ((⟨#[66]⟩:aN)++lo 1 v++lo 2 st++key++b)] w λe c=>e=.returned (aW (nU ((⟨#[66]⟩:aN)++lo 1 v++lo 2 st++key++b)))/\Keep bD w c):=λw=>XD _ U4 w;have T:=oC ((⟨#[66]⟩:aN)++lo 1 v++lo 2 st++key++b);have F:Hid (eY key v st b=((⟨#[66]⟩:aN)++lo 1 v++lo 2 st++key++b)++nU ((⟨#[66]⟩:aN)++lo 1 v++lo 2 st++key++b)):=rfl;generalize eY key v st b=R at*;generalize lo 1 v=A1 at*;generalize lo 2 st=A2 at*;generalize S:nU ((⟨#[66]⟩:aN)++A1++A2++key++b)=S8 at*;clear S;have J:¬9223372036854775807<4+key.size:=by omega
 have M:¬9223372036854775807<4+key.size+b.size:=by omega
 go_enter func106,ntmps106
 go_wp2;obtain⟨W,f⟩:∃W,W=w.alloc (.cells #[ah x,ah q,ah s,ah t,aW key] 156):=⟨_,rfl⟩;have y:W.cell? (aB w.heap.size 4)=some (aW key):=by rw[f,cell_of_row _ _ 4 _ _ (0,0) (Go.Deep.blk_alloc_new _ _)];rfl
 have i:Hid (Keep bD w W):=f▸(Keep.refl bD w).alloc _;have lb:w.heap.size<W.heap.size:=by rw[f];simp
 rw[<-f];clear f
 go_region_held3 (λc=>c.cell? (aB w.heap.size 4)=some (aW key)) (first|assumption|go_keep)
  (first
    |(go_at_call 137;(with_reducible refine Calls.mono (L.out _) ?_);rintro e A ⟨rfl,a⟩;have n:A.cell? (aB w.heap.size 4)=some (.string key):=(a.cell (p:=⟨w.heap.size,4,none⟩) lb (λh=>h)).trans y;have j:Hid (Keep bD w A):=i.out.drew.trans a (λ_ _ h=>h);have D:w.heap.size<A.heap.size:=bG lb a.size;clear a)
    |(go_at_call 137;(with_reducible refine Calls.mono (u.out _) ?_);rintro e B ⟨rfl,d⟩;have hcB:B.cell? (aB w.heap.size 4)=some (.string key):=(d.cell (p:=⟨w.heap.size,4,none⟩) D (λh=>h)).trans n;have l:Hid (Keep bD w B):=j.out.trans d (λ_ _ h=>h);clear d))
 go_wp2_with fail
 refine(C.out _).mono ?_;rintro e E ⟨rfl,g⟩;have m:Hid (Keep bD w E):=l.out.trans g (λ_ _ h=>h);clear g;go_wp2
 go_ret
 exact⟨by rw[F.out];rfl,m.out⟩
def kN(k m width st bytes:Nat)(key:aN):aN:=(⟨#[77]⟩:aN)++lo 1 k++lo 1 m++lo 1 width++lo 2 st++lo 3 bytes++key
def dF(k m width st bytes:Nat)(key:aN):aN:=kN k m width st bytes key++nU (kN k m width st bytes key)
theorem Ir(k m i bytes:Nat)(key:aN)(w:au)(q:0<k)(n:k<=12)(hm:m<=12)(OC:0<i)(hw:i<=8)(hb:bytes<=1000000)(Tk:key.size<=1000):
 Calls Tryz.prog 102 #[.agg #[ah k,ah m,ah (8*(i:Int)),ah bytes,aW key]] w λe a=>e=.returned (aW (dF k m i (dz (k*(8*i)) bytes) bytes key))/\Keep bD w a:=by
 obtain⟨st,hst⟩:∃st,st=dz (k*(8*i)) bytes:=⟨_,rfl⟩;have hP:0<k*(8*i):=Nat.mul_pos q Q0;have ahP:st<=1000000:=by
  rw[hst];by_cases h:bytes<dz (k*(8*i)) bytes
  .have h1:=(Iq hP).2 h;have h2:=Nat.le_mul_of_pos_right bytes hP;omega
  .omega
 have TC:Hid (∀w:au,Calls Tryz.prog 103 #[.agg #[ah k,ah m,ah (8*(i:Int)),ah bytes,aW key]] w λe a=>e=.returned (ah st)/\Keep bD w a):=λw=>by rw[hst];have:=sZ k m (8*i) bytes key w q n Q0 Q0 hb;rw[show((8*i:Nat):Int)=8*(i:Int)by push_cast;rfl]at this;exact this
 rw[<-hst];clear hst hP;have e3:IntKind.i64.wrap (i:Int)=(i:Int):=IntWalk.i64_in _ Q0;have L1:Hid (∀w:au,Calls Tryz.prog 137 #[ah k,ah 1] w λe a=>e=.returned (aW (lo 1 k))/\Keep bD w a):=λw=>Br k 1 Q0 U0 w;have L2:Hid (∀w:au,Calls Tryz.prog 137 #[ah m,ah 1] w λe a=>e=.returned (aW (lo 1 m))/\Keep bD w a):=λw=>Br m 1 Q0 U0 w;have L3:Hid (∀w:au,Calls Tryz.prog 137 #[ah (IntKind.i64.wrap (i:Int)),ah 1] w λe a=>e=.returned (aW (lo 1 i))/\Keep bD w a):=λw=>by rw[e3];exact Br i 1 Q0 U0 w
 have L4:Hid (∀w:au,Calls Tryz.prog 137 #[ah st,ah 2] w λe a=>e=.returned (aW (lo 2 st))/\Keep bD w a):=λw=>Br st 2 Q0 U0 w;have L5:Hid (∀w:au,Calls Tryz.prog 137 #[ah bytes,ah 3] w λe a=>e=.returned (aW (lo 3 bytes))/\Keep bD w a):=λw=>Br bytes 3 Q0 U0 w;have z1:=dB 1 k;have z2:=dB 1 m;have z3:=dB 1 i;have z4:=dB 2 st;have z5:=dB 3 bytes;have hz:(kN k m i st bytes key).size=9+key.size:=by unfold kN;rw[eB,eB,eB,eB,eB,eB,z1,z2,z3,z4,z5];show 1+1+1+1+2+3+key.size=_;omega
 have SC:Hid (∀w:au,Calls Tryz.prog 74 #[aW (kN k m i st bytes key)] w λe a=>e=.returned (aW (nU (kN k m i st bytes key)))/\Keep bD w a):=λw=>XD _ U4 w;have z8:=oC (kN k m i st bytes key);have HF:Hid (dF k m i st bytes key=kN k m i st bytes key++nU (kN k m i st bytes key)):=rfl;have hH:(⟨#[77]⟩:aN)++lo 1 k++lo 1 m++lo 1 i++lo 2 st++lo 3 bytes++key=kN k m i st bytes key:=rfl;generalize dF k m i st bytes key=R at*;generalize nU (kN k m i st bytes key)=S8 at*;generalize kN k m i st bytes key=HS at*;generalize lo 1 k=A1 at*;generalize lo 1 m=A2 at*;generalize lo 1 i=A3 at*;generalize lo 2 st=A4 at*;generalize lo 3 bytes=A5 at*;clear e3;have f1:¬9223372036854775807<9+key.size:=by omega
 go_enter func102,ntmps102
 go_wp2;obtain⟨W,b⟩:∃W,W=w.alloc (.cells #[ah k,ah m,ah (8*(i:Int)),ah bytes,aW key] 156):=⟨_,rfl⟩;have c0:W.cell? (aB w.heap.size 0)=some (ah k):=by rw[b,cell_of_row _ _ 0 _ _ (0,0) (Go.Deep.blk_alloc_new _ _)];rfl
 have c1:W.cell? (aB w.heap.size 1)=some (ah m):=by rw[b,cell_of_row _ _ 1 _ _ (0,0) (Go.Deep.blk_alloc_new _ _)];rfl
 have c2:W.cell? (aB w.heap.size 2)=some (ah (8*(i:Int))):=by rw[b,cell_of_row _ _ 2 _ _ (0,0) (Go.Deep.blk_alloc_new _ _)];rfl
 have c3:W.cell? (aB w.heap.size 3)=some (ah bytes):=by rw[b,cell_of_row _ _ 3 _ _ (0,0) (Go.Deep.blk_alloc_new _ _)];rfl
 have c4:W.cell? (aB w.heap.size 4)=some (aW key):=by rw[b,cell_of_row _ _ 4 _ _ (0,0) (Go.Deep.blk_alloc_new _ _)];rfl
 have v:Hid (Keep bD w W):=b▸(Keep.refl bD w).alloc _;have lb:w.heap.size<W.heap.size:=by rw[b];simp
 have C:Hid (∀u a:au,Keep bD u a->w.heap.size<u.heap.size->(u.cell? (aB w.heap.size 0)=some (ah k)/\u.cell? (aB w.heap.size 1)=some (ah m)/\u.cell? (aB w.heap.size 2)=some (ah (8*(i:Int)))/\u.cell? (aB w.heap.size 3)=some (ah bytes)/\u.cell? (aB w.heap.size 4)=some (aW key))->(a.cell? (aB w.heap.size 0)=some (ah k)/\a.cell? (aB w.heap.size 1)=some (ah m)/\a.cell? (aB w.heap.size 2)=some (ah (8*(i:Int)))/\a.cell? (aB w.heap.size 3)=some (ah bytes)/\a.cell? (aB w.heap.size 4)=some (aW key))):=λu a n t o=>⟨(n.cell (p:=⟨w.heap.size,0,none⟩) t (λh=>h)).trans o.1,(n.cell (p:=⟨w.heap.size,1,none⟩) t (λh=>h)).trans o.2.1,(n.cell (p:=⟨w.heap.size,2,none⟩) t (λh=>h)).trans o.2.2.1,(n.cell (p:=⟨w.heap.size,3,none⟩) t (λh=>h)).trans o.2.2.2.1,(n.cell (p:=⟨w.heap.size,4,none⟩) t (λh=>h)).trans o.2.2.2.2⟩
 rw[<-b];clear b
 go_region_held3 (λa=>a.cell? (aB w.heap.size 0)=some (ah k)/\a.cell? (aB w.heap.size 1)=some (ah m)/\a.cell? (aB w.heap.size 2)=some (ah (8*(i:Int)))/\a.cell? (aB w.heap.size 3)=some (ah bytes)/\a.cell? (aB w.heap.size 4)=some (aW key)) (first|assumption|go_keep)
  (first
    |(go_at_call 137;(with_reducible refine Calls.mono (L1.out _) ?_);rintro e wA ⟨rfl,c⟩;obtain⟨G,I,J,L,M⟩:=C.out _ _ c lb ⟨c0,c1,c2,c3,c4⟩;have x:Hid (Keep bD w wA):=v.out.drew.trans c (λ_ _ h=>h);have lA:w.heap.size<wA.heap.size:=bG lb c.size;clear c)
    |(go_at_call 137;(with_reducible refine Calls.mono (L2.out _) ?_);rintro e wB ⟨rfl,d⟩;obtain⟨N,O,Q,S,T⟩:=C.out _ _ d lA ⟨G,I,J,L,M⟩;have y:Hid (Keep bD w wB):=x.out.trans d (λ_ _ h=>h);have lB:w.heap.size<wB.heap.size:=bG lA d.size;clear d)
    |(go_at_call 137;(with_reducible refine Calls.mono (L3.out _) ?_);rintro e wC ⟨rfl,f⟩;obtain⟨U,V,X,Y,Z⟩:=C.out _ _ f lB ⟨N,O,Q,S,T⟩;have A:Hid (Keep bD w wC):=y.out.trans f (λ_ _ h=>h);have lC:w.heap.size<wC.heap.size:=bG lB f.size;clear f)
    |(go_at_call 103;(with_reducible refine Calls.mono (TC.out _) ?_);rintro e wD ⟨rfl,g⟩;obtain⟨aD0,aD1,aD2,aD3,aD4⟩:=C.out _ _ g lC ⟨U,V,X,Y,Z⟩;have B:Hid (Keep bD w wD):=A.out.trans g (λ_ _ h=>h);have lD:w.heap.size<wD.heap.size:=bG lC g.size;clear g)
    |(go_at_call 137;(with_reducible refine Calls.mono (L4.out _) ?_);rintro e wE ⟨rfl,j⟩;obtain⟨aE0,aE1,aE2,aE3,aE4⟩:=C.out _ _ j lD ⟨aD0,aD1,aD2,aD3,aD4⟩;have D:Hid (Keep bD w wE):=B.out.trans j (λ_ _ h=>h);have lE:w.heap.size<wE.heap.size:=bG lD j.size;clear j)
    |(go_at_call 137;(with_reducible refine Calls.mono (L5.out _) ?_);rintro e wF ⟨rfl,l⟩;obtain⟨aF0,aF1,aF2,aF3,aF4⟩:=C.out _ _ l lE ⟨aE0,aE1,aE2,aE3,aE4⟩;have E:Hid (Keep bD w wF):=D.out.trans l (λ_ _ h=>h);have lF:w.heap.size<wF.heap.size:=bG lE l.size;clear l))
 go_wp2_with fail
 refine(SC.out _).mono ?_;rintro e wG ⟨rfl,s⟩;have F:Hid (Keep bD w wG):=E.out.trans s (λ_ _ h=>h);clear s;go_wp2
 go_ret
 exact⟨by rw[HF.out];rfl,F.out⟩
def aav:aN:=⟨#[48,49,50,51,52,53,54,55,56,57]⟩
def fJ(v:Nat):aN:=(⟨#[118]⟩:aN)++aav.extract (v/10) (v/10+1)++aav.extract (v%10) (v%10+1)
theorem Dk(v:Nat)(w:au)(b:v<12):Calls Tryz.prog 101 #[ah v] w λe a=>e=.returned (aW (fJ v))/\Keep bD w a:=by
 have h:v=0\/v=1\/v=2\/v=3\/v=4\/v=5\/v=6\/v=7\/v=8\/v=9\/v=10\/v=11:=by omega
 obtain rfl|rfl|rfl|rfl|rfl|rfl|rfl|rfl|rfl|rfl|rfl|rfl:=h
 all_goals
  go_enter func101,ntmps101
  go_wp2
  go_quiet (fail)
  go_wp2
  go_ret
  exact⟨K4,(Keep.refl bD w).drewN _⟩
def lQ(s:aN):Prop:=0<s.size/\∀i,i<s.size->97<=jg s i/\jg s i<=122
theorem Iu(s:aN)(w:au)(j:s.size<=9223372036854775807)(h:lQ s):Calls Tryz.prog 205 #[aW s] w λe c=>e=.returned (.bool true)/\c=w:=by
 obtain⟨a,l⟩:=h;have L:Hid (∀i,i<s.size->97<=jg s i/\jg s i<=122):=l;have n:=ne_nil a;clear l
 go_enter func205,ntmps205
 go_wp2
 go_loop [3,6] (λ_ i=>∃q:Nat,q<=s.size/\i=ah q) (λ_ i=>s.size-(intOf i).toNat)
 case atStart=>exact⟨0,bU _,X0⟩
 case round=>
  obtain⟨q,g,rfl⟩:=hrel;by_cases hlt:q<s.size
  .have m:(q:Int)<(s.size:Int):=by omega
   have b:=L.out q hlt;rw[nD _ _ hlt]at b;have d:¬((s[q]'hlt).toNat:Int)<97:=by omega
   have f:¬(122:Int)<((s[q]'hlt).toNat:Int):=by omega
   go_wp2;exact⟨⟨q+1,Q0,by go_num⟩,by simp[intOf];omega⟩
  .have:q=s.size:=by omega
   subst this;go_wp2
   go_ret
   exact⟨X0,rfl⟩
theorem Ml(s:aN)(w:au)(u:s.size<=9223372036854775807)(h:¬lQ s):Calls Tryz.prog 205 #[aW s] w λe o=>e=.returned (.bool false)/\o=w:=by
 by_cases g:s.size=0
 .have n:s=⟨#[]⟩:=by
   have:s.data=#[]:=Array.eq_empty_of_size_eq_zero g;cases s;simp at this;rw[this]
  subst n;clear h g
  go_enter func205,ntmps205
  go_wp2
  go_loop [3,6] (λ_ i=>i=ah 0) (λ_ i=>0)
  case atStart=>rfl
  case round=>
   subst hrel;go_wp2
   go_ret
   exact⟨by first|rfl|simp,rfl⟩
 .obtain a|⟨f,p,j,b⟩:=tZ (λi=>97<=jg s i/\jg s i<=122) s.size
  .exact aF ⟨Q0,a⟩ h
  .have G:Hid (∀i,i<f->97<=jg s i/\jg s i<=122):=j;have B:Hid (¬(97<=jg s f/\jg s f<=122)):=b;clear h j b
   go_enter func205,ntmps205
   go_wp2
   go_loop [3,6] (λ_ i=>∃q:Nat,q<=f/\i=ah q) (λ_ i=>s.size-(intOf i).toNat)
   case atStart=>exact⟨0,bU _,X0⟩
   case round=>
    obtain⟨q,t,rfl⟩:=hrel;have hlt:q<s.size:=by omega
    have v:(q:Int)<(s.size:Int):=by omega
    by_cases d:q<f
    .have c:=G.out q d;rw[nD _ _ hlt]at c;have l:¬((s[q]'hlt).toNat:Int)<97:=by omega
     have m:¬(122:Int)<((s[q]'hlt).toNat:Int):=by omega
     go_wp2;exact⟨⟨q+1,Q0,by go_num⟩,by simp[intOf];omega⟩
    .have e:q=f:=by omega
     subst e;have c:=B.out;rw[nD _ _ hlt]at c;clear B G;by_cases l:((s[q]'hlt).toNat:Int)<97
     .go_wp2
      go_ret
      exact⟨rfl,rfl⟩
     .have m:(122:Int)<((s[q]'hlt).toNat:Int):=by omega
      go_wp2
      go_ret
      exact⟨rfl,rfl⟩
theorem Dl(s p:aN)(w:au)(b:s.size<=9223372036854775807)(a:p.size<=9223372036854775807):Calls Tryz.prog 191 #[aW s,aW p] w λe c=>e=.returned (.bool (decide (p.size<=s.size)&&((s.extract 0 p.size).toList==p.toList)))/\c=w:=by
 by_cases h:p.size<=s.size
 .have i:(p.size:Int)<=(s.size:Int):=by omega
  have d:decide (p.size<=s.size)=true:=nG h
  go_enter func191,ntmps191
  go_wp2
  go_ret
  exact⟨by rw[d];rfl,rfl⟩
 .have i:¬(p.size:Int)<=(s.size:Int):=by omega
  have d:decide (p.size<=s.size)=false:=iI h
  go_enter func191,ntmps191
  go_wp2
  go_ret
  exact⟨rfl,rfl⟩
theorem Mq(l s P:aN)(b:l++ByteArray.mk #[47]=P):dK l s=(!(Op.bytesLess s.toList l.toList||s.toList==l.toList)&& !(decide (P.size<=s.size)&&((s.extract 0 P.size).toList==P.toList))):=by
 subst b;have z:(l++ByteArray.mk #[47]).size=l.size+1:=by rw[eB];rfl
 unfold dK slash;rw[z];by_cases h:s.size<l.size+1
 .have a:¬l.size+1<=s.size:=by omega
  simp[h,a]
 .have a:l.size+1<=s.size:=by omega
  simp[h,a]
theorem Bu(l s:aN)(w:au)(j:s.size<=9223372036854775807)(i:l.size<=1000000):Calls Tryz.prog 162 #[aW s,aW l] w λe a=>e=.returned (.bool (dK l s))/\a=w:=by
 obtain⟨P,b⟩:∃P:aN,l++ByteArray.mk #[47]=P:=⟨_,rfl⟩;have A:Hid (dK l s=_):=Mq l s P b;have m:P.size=l.size+1:=by rw[<-b,eB];rfl
 have f:¬9223372036854775807<l.size+1:=by omega
 have C:=λw=>Dl s P w Q0 Q0;generalize(decide (P.size<=s.size)&&((s.extract 0 P.size).toList==P.toList))=B at C A;have c:Hid (∀w:au,Calls Tryz.prog 191 #[aW s,aW P] w λe a=>e=.returned (.bool B)/\a=w):=C;clear C;cases g:(Op.bytesLess s.toList l.toList||s.toList==l.toList)with
 |true=>
  rw[g]at A;have d:(!(Op.bytesLess s.toList l.toList||s.toList==l.toList))=false:=by rw[g];rfl
  generalize dK l s=r at*
  go_enter func162,ntmps162
  go_wp2
  go_ret
  exact⟨by rw[A.out];rfl,rfl⟩
 |false=>
  rw[g]at A;have d:(!(Op.bytesLess s.toList l.toList||s.toList==l.toList))=true:=by rw[g];rfl
  generalize dK l s=r at*
  go_enter func162,ntmps162
  go_wp2_with fail
  refine Calls.mono (c.out _) ?_;rintro e w2 ⟨rfl,rfl⟩;go_wp2
  go_ret
  exact⟨by rw[A.out];simp,rfl⟩
theorem pJ(a b:aN)(i:Nat)(h:i<a.size):jg (a++b) i=jg a i:=by unfold jg;rw[ByteArray.data_append,Array.getElem?_append_left h]
theorem vo(a b:aN)(i:Nat)(h:a.size<=i):jg (a++b) i=jg b (i-a.size):=by unfold jg;rw[ByteArray.data_append,Array.getElem?_append_right h];rfl
theorem iW(s:aN)(a b i:Nat)(h:a+i<b)(d:b<=s.size):jg (s.extract a b) i=jg s (a+i):=by
 unfold jg;rw[vv,Array.getElem?_extract];have c:s.data.size=s.size:=rfl;have:i<min b s.size-a:=by omega
 rw[c,aI this]
theorem zH(s:aN):jg (za s) 0=47:=by unfold za;rw[pJ _ _ _ (by rw[eB];show 0<1+s.size;omega),pJ _ _ _ (by show 0<1;omega)];rfl
theorem lH(s:aN)(i:Nat)(h:i<s.size):jg (za s) (i+1)=jg s i:=by unfold za;rw[pJ _ _ _ (by rw[eB];show i+1<1+s.size;omega),vo _ _ _ (by show 1<=i+1;omega)];show jg s (i+1-1)=_;rw[Nat.add_sub_cancel]
theorem Dm(s:aN):jg (za s) (s.size+1)=47:=by
 unfold za;have h:(slash++s).size=s.size+1:=by rw[eB];show 1+s.size=_;omega
 rw[vo _ _ _ Q0,h,Nat.sub_self];rfl
def zI(s:aN):Prop:=∀i,1<=i->i<s.size+2->yL (za s) i
def partAt(s:aN)(k:Nat):Prop:=k<=s.size/\jg (za s) k=47/\∀i,1<=i->i<=k->yL (za s) i
theorem EU(s:aN):partAt s 0:=⟨bU _,zH s,λi h a=>Q0⟩
theorem EW(l:List UInt8):(Lib.indexByte l 47= -1/\∀i,i<l.length->l[i]? ≠some 47)\/∃j:Nat,j<l.length/\Lib.indexByte l 47=(j:Int)/\l[j]? =some 47/\∀i,i<j->l[i]? ≠some 47:=by
 induction l with
 |nil=>exact .inl ⟨rfl,λi h=>aF h (dO _)⟩
 |cons b l k=>
  unfold Lib.indexByte;by_cases e:b=47
  .subst e;exact .inr ⟨0,X0,X0,X0,λi h=>aF h (dO _)⟩
  .have g:(b==47)=false:=by simpa using e
   rw[g];obtain⟨a,c⟩|⟨j,a,c,d,f⟩:=k
   .left;refine⟨by rw[a];rfl,λi h=>?_⟩;cases i with
    |zero=>simpa using e
    |succ i=>simpa using c i (by simpa using h)
   .right;have n:((j:Int)== -1)=false:=by rw[beq_eq_false_iff_ne];omega
    refine⟨j+1,by simpa using a,by rw[c,n];simp,by simpa using d,λi h=>?_⟩;cases i with
    |zero=>simpa using e
    |succ i=>simpa using f i Q0
theorem Dn(s:aN)(i:Nat)(h:i<s.size):s.data.toList[i]? =some 47↔jg s i=47:=by
 unfold jg;have a:i<s.data.size:=h;rw[jE,iU a];simp only[iV,fq];constructor
 .intro e;rw[e];rfl
 .intro e;apply UInt8.toNat_inj.1;rw[e];rfl
theorem Mr{s:aN}{k j:Nat}(h:partAt s k)(f:k+j<s.size)(b:jg s (k+j)=47)(n:∀i,i<j->jg s (k+i)≠47):
 (lQ ((s.extract k s.size).extract 0 j)->partAt s (k+j+1))/\(¬lQ ((s.extract k s.size).extract 0 j)->¬zI s):=by
 have z:((s.extract k s.size).extract 0 j).size=j:=by rw[ext_size _ _ _ (by rw[ext_size _ _ _ (aS _)];omega)];omega
 have d:∀i,i<j->jg ((s.extract k s.size).extract 0 j) i=jg s (k+i):=λi a=>by rw[iW _ _ _ _ Q0 (by rw[ext_size _ _ _ (aS _)];omega),eu,iW _ _ _ _ Q0 (aS _)]
 obtain⟨u,p,r⟩:=h;refine⟨λ⟨w,w2⟩=>⟨Q0,by rw[lH _ _ f];exact b,λi m t=>?_⟩,λhw l=>hw ⟨?_,λi a=>?_⟩⟩
 .by_cases e:i<=k
  .exact r i m e
  .rw[z]at w w2;by_cases o:i=k+j+1
   .subst o;refine⟨.inr (by rw[lH _ _ f];exact b),λ⟨_,c⟩=>?_⟩;rw[show k+j+1-1=k+(j-1)+1 by omega,lH _ _ Q0]at c;exact n (j-1) Q0 c
   .obtain⟨q,rfl⟩:∃q,i=k+q+1:=⟨i-k-1,Q0⟩;have g:q<j:=by omega
    have hw:=w2 q g;rw[d q g]at hw;refine⟨.inl (by rw[lH _ _ Q0];exact hw),λ⟨c,_⟩=>?_⟩;rw[lH _ _ Q0]at c;omega
 .rw[z];refine Nat.pos_of_ne_zero (λe=>?_);subst e;have:=(l (k+1) Q0 Q0).2;rw[lH _ _ Q0]at this;exact this ⟨b,by simpa using p⟩
 .rw[z]at a;have:=(l (k+i+1) Q0 Q0).1;rw[lH _ _ Q0]at this;rw[d i a];obtain c|c:=this
  .exact c
  .exact aF c (n i a)
theorem Ms{s:aN}{k:Nat}(h:partAt s k)(n:∀i,k+i<s.size->jg s (k+i)≠47):lQ (s.extract k s.size)↔zI s:=by
 have z:(s.extract k s.size).size=s.size-k:=ext_size _ _ _ (aS _);have b:∀i,k+i<s.size->jg (s.extract k s.size) i=jg s (k+i):=λi a=>iW _ _ _ _ a (aS _);obtain⟨p,j,m⟩:=h;constructor
 .rintro⟨w,w2⟩ i d o;rw[z]at w w2;by_cases e:i<=k
  .exact m i d e
  .by_cases g:i=s.size+1
   .subst g;refine⟨.inr (Dm s),λ⟨_,c⟩=>?_⟩;rw[show s.size+1-1=k+(s.size-k-1)+1 by omega,lH _ _ Q0]at c;exact n _ Q0 c
   .obtain⟨q,rfl⟩:∃q,i=k+q+1:=⟨i-k-1,Q0⟩;have hw:=w2 q Q0;rw[b q Q0]at hw;refine⟨.inl (by rw[lH _ _ Q0];exact hw),λ⟨c,_⟩=>?_⟩;rw[lH _ _ Q0]at c;omega
 .intro l;refine⟨?_,λi a=>?_⟩
  .rw[z];refine Nat.pos_of_ne_zero (λe=>?_);have f:k=s.size:=by omega
   subst f;have:=(l (s.size+1) Q0 Q0).2;rw[Dm]at this;exact this ⟨rfl,by simpa using j⟩
  .rw[z]at a;have:=(l (k+i+1) Q0 Q0).1;rw[lH _ _ Q0]at this;rw[b i Q0];obtain c|c:=this
   .exact c
   .exact aF c (n i Q0)
theorem Mt(s:aN)(k j:Nat)(h:k+j<s.size):(s.extract k s.size).extract (j+1) (s.extract k s.size).size=s.extract (k+j+1) s.size:=by
 apply ByteArray.ext;rw[vv,vv,vv,Array.extract_extract,ext_size _ _ _ (aS _)]
 congr 1<;>omega
theorem OD(s:aN):s.extract 0 s.size=s:=by apply ByteArray.ext;rw[vv];exact Array.extract_size
theorem Dp(a b:aN):Lib.strCells (a++b)=Lib.strCells a++Lib.strCells b:=by unfold Lib.strCells;rw[ByteArray.data_append,Array.toList_append,List.map_append]
theorem zJ(s:aN):(s.toList==[])=decide (s.size=0):=by
 rw[ByteArray.toList_eq];cases h:s.data.toList with
 |nil=>have:s.size=0:=by rw[<-show s.data.toList.length=s.size from uZ,h];rfl
       simp[this]
 |cons a l=>have:¬s.size=0:=by rw[<-show s.data.toList.length=s.size from uZ,h];simp
            simp[this]
theorem Bv(l:List UInt8):Op.bytesLess l []=false:=by cases l<;>rfl
theorem Iw(s:aN)(h:nameP s):dK ⟨#[]⟩ s=true:=by
 have i:¬s.size=0:=by have:=h.1;omega
 have l:=(h.2.2 1 Q0 Q0).2;rw[lH _ _ Q0]at l;have b:jg s 0≠47:=λe=>l ⟨e,by simpa using zH s⟩;have d:(ByteArray.mk #[]).toList=[]:=by rw[ByteArray.toList_eq]
 unfold dK;rw[d,Bv,zJ,iI i];have j:¬s.size<(ByteArray.mk #[]).size+1:=by show¬s.size<0+1;omega
 rw[iI j];have f:((s.extract 0 ((ByteArray.mk #[]).size+1)).toList==(ByteArray.mk #[]++slash).toList)=false:=by
  rw[beq_eq_false_iff_ne];intro e;have g:s.extract 0 1=slash:=by have c:(s.extract 0 1).toList=slash.toList:=e;rw[ByteArray.toList_eq,ByteArray.toList_eq]at c;apply ByteArray.ext;exact Array.toList_inj.1 c
  have a:=iW s 0 1 0 Q0 Q0;rw[g]at a;exact b (by rw[eu]at a;rw[<-a];rfl)
 rw[f];rfl
def uj(FN:Nat->aN):Nat->aN
 |0=>⟨#[]⟩
 |q+1=>FN q
theorem Cb(F D:Nat->aN)(q:Nat):jD F D q↔nameP (F q)/\dK (uj F q) (F q)=true/\(D q).size<=200:=by
 unfold jD;cases q with
 |zero=>
  constructor
  .rintro⟨a,b,_⟩;exact⟨a,Iw _ a,b⟩
  .rintro⟨a,_,b⟩;exact⟨a,b,λh=>aF h (iQ _)⟩
 |succ q=>
  constructor
  .rintro⟨a,b,c⟩;exact⟨a,c Q0,b⟩
  .rintro⟨a,b,c⟩;exact⟨a,c,λ_=>b⟩
theorem Iy(F D:Nat->aN)(q:Nat)(h:∀i,i<q->jD F D i):(uj F q).size<=12:=by
 cases q with
 |zero=>exact bU _
 |succ q=>exact(h q Q0).1.2.1
def mG(k:Int):Prop:= -9223372036854775808<=k/\k<=9223372036854775807
def EX(w:au)(a:Option Addr)(n:Nat)(T:Nat->aN):Prop:=∀i,i<n->∃g o,a=some ⟨g,o,none⟩/\g<w.heap.size/\w.cell? (aB g (o+i))=some (aW (T i))
def Cc(w:au)(a:Option Addr)(n:Nat)(Z:Nat->Int)(D:Nat->aN):Prop:=∀i,i<n->∃g o,a=some ⟨g,o,none⟩/\g<w.heap.size/\w.cell? (aB g (o+i*2))=some (ah (Z i))/\w.cell? (aB g (o+i*2+1))=some (aW (D i))
def Iz(k m sz len:Nat)(key:aN):Array aA:=#[ah k,ah m,ah sz,ah len,aW key]
def um(key:aN)(v st:Nat):aN:=(⟨#[66]⟩:aN)++⟨(iq 1 v).toArray⟩++⟨(iq 2 st).toArray⟩++key
theorem yM(k m s len v st:Nat)(key:aN)(w:au)(x:v<=1000)(hst:st<=1000000)(l:key.size<=1000):
 Calls Tryz.prog 220 #[.agg (Iz k m s len key),ah v,ah st] w λe c=>e=.returned (aW (um key v st))/\Keep bD w c:=by
 have n:Hid (∀w:au,Calls Tryz.prog 163 #[ah v,ah 1] w λe c=>e=.returned (aW ⟨(iq 1 v).toArray⟩)/\Keep bD w c):=λw=>nH v 1 Q0 U0 w;have o:Hid (∀w:au,Calls Tryz.prog 163 #[ah st,ah 2] w λe c=>e=.returned (aW ⟨(iq 2 st).toArray⟩)/\Keep bD w c):=λw=>nH st 2 Q0 U0 w;have y:(⟨(iq 1 v).toArray⟩:aN).size=1:=jC 1 v;have C:(⟨(iq 2 st).toArray⟩:aN).size=2:=jC 2 st;unfold um Iz;generalize(⟨(iq 1 v).toArray⟩:aN)=A1 at*;generalize(⟨(iq 2 st).toArray⟩:aN)=A2 at*;have u:¬9223372036854775807<4+key.size:=by omega
 go_enter func220,ntmps220
 go_wp2;obtain⟨W,d⟩:∃W,W=w.alloc (.cells #[ah k,ah m,ah s,ah len,aW key] 101):=⟨_,rfl⟩;have q:W.cell? (aB w.heap.size 4)=some (aW key):=by rw[d,Lib.cell_of_heap (Go.Deep.blk_alloc_new _ _)];rfl
 have f:Hid (Keep bD w W):=d▸(Keep.refl bD w).alloc _;have lb:w.heap.size<W.heap.size:=by rw[d];simp
 rw[<-d];clear d
 go_region_held3 (λc=>c.cell? (aB w.heap.size 4)=some (aW key)) (first|assumption|go_keep)
  (first
    |(go_at_call 163;(with_reducible refine Calls.mono (n.out _) ?_);rintro e A ⟨rfl,a⟩;have j:A.cell? (aB w.heap.size 4)=some (.string key):=(a.cell (p:=⟨w.heap.size,4,none⟩) lb (λh=>h)).trans q;have g:Hid (Keep bD w A):=f.out.drew.trans a (λ_ _ h=>h);have t:w.heap.size<A.heap.size:=bG lb a.size;clear a)
    |(go_at_call 163;(with_reducible refine Calls.mono (o.out _) ?_);rintro e B ⟨rfl,b⟩;have hcB:B.cell? (aB w.heap.size 4)=some (.string key):=(b.cell (p:=⟨w.heap.size,4,none⟩) t (λh=>h)).trans j;have i:Hid (Keep bD w B):=g.out.trans b (λ_ _ h=>h);clear b))
 go_wp2
 go_ret
 exact⟨rfl,i.out⟩
theorem Mw(s:aN)(c:s.size<=maxLen)(w:au):Calls Tryz.prog 125 #[aW s] w λe a=>e=.returned (aW (nU s))/\Keep bD w a:=(ES s c w).mono λe a⟨b,h⟩=>⟨b,Keep.of_below h⟩
def sU(w:au)(b k m sz len:Nat)(key:aN):Prop:=w.heap[b]? =some (.cells #[ah k,ah m,ah sz,ah len,aW key] 101 (0,0))
theorem sU.lt{w:au}{b k m s len:Nat}{key:aN}(h:sU w b k m s len key):b<w.heap.size:=(bJ.1 h).1
theorem sU.keep{S:aD}{w w':au}{b k m s len:Nat}{key:aN}(h:sU w b k m s len key)(c:Keep S w w')(a:¬S b):sU w' b k m s len key:=(c.block b h.lt a).trans h
theorem sU.cells{w:au}{b k m s len:Nat}{key:aN}(h:sU w b k m s len key):w.cell? (aB b 0)=some (ah k)/\w.cell? (aB b 1)=some (ah m)/\w.cell? (aB b 2)=some (ah s)/\w.cell? (aB b 3)=some (ah len)/\w.cell? (aB b 4)=some (aW key):=by refine⟨?_,?_,?_,?_,?_⟩<;>(rw[Lib.cell_of_heap h];rfl)
theorem sU.drew{w:au}{b k m s len:Nat}{key:aN}(h:sU w b k m s len key):sU w.drew b k m s len key:=h
theorem appG{t e:Nat}{z:aA}{bytes:Nat}(E:Tryz.prog.underlying t=some (.slice e))(g:(Tryz.prog.info? e).map (λi=>(i.zero,i.size,i.bytes))=some (some z,1,bytes))(F:z.cells.size=1)(A:bytes<=24)
 {w:au}{d n:Nat}{v:aA}{xs:List aA}(o:w.ownsRow d e 1 v n xs)(q:Addr)(m c:Nat)(a:List aA)(H:a.length=m)(k:∀j u,a[j]? =some u->w.cell? (q.add j)=some u)(r:∀u∈a,u.oneCell'=true)(h:n+m<=5864062014805)(f:d<=w.heap.size):
 ∃l p,(Builtin.append_ #[t,t] t #[v,.slice (some q) m c]).run Tryz.prog w=.ok l p/\p.ownsRow d e 1 l (n+m) (xs++a)/\w.grownBy p v.ownBlock/\(l.ownBlock=v.ownBlock\/l.ownBlock=some w.heap.size):=by
 obtain⟨G,C,b⟩:=gL.1 g;simp only[Prod.mk.injEq]at b;have B:(n+m)*bytes<=5864062014805*24:=iJ h A;obtain⟨l,p,D,s,x,_,y⟩:=run_append_own_at (P:=Tryz.prog) w d t t e G z 1 bytes E C b.1 b.2.1 b.2.2 F U0 v n xs o q m c a Q0 k r U4 Q0 f;exact⟨l,p,D,s,x,y⟩
theorem XG{t e:Nat}{z:aA}{bytes:Nat}(f:Tryz.prog.underlying t=some (.slice e))(a:(Tryz.prog.info? e).map (λi=>(i.zero,i.size,i.bytes))=some (some z,1,bytes))(q:z.cells.size=1)(p:bytes<=24)
 {w:au}{d n:Nat}{v:aA}{xs:List aA}(o:w.ownsRow d e 1 v n xs)(x:aA)(j:x.oneCell'=true)(h:n+1<=5864062014805)(g:d<=w.heap.size):
 ∃b c,(Builtin.append_ #[t,t] t #[v,aU w.heap.size 1 1]).run Tryz.prog (w.alloc (.cells #[x] e))=.ok b c/\c.ownsRow d e 1 b (n+1) (xs++[x])/\(w.alloc (.cells #[x] e)).grownBy c v.ownBlock/\(b.ownBlock=v.ownBlock\/b.ownBlock=some (w.heap.size+1)):=by
 obtain⟨b,c,r,k,l,m⟩:=appG f a q p (o.alloc (.cells #[x] e)) ⟨w.heap.size,0,none⟩ 1 1 [x] rfl (World.news_of_block (Go.Deep.blk_alloc_new w _)) (by intro u f;simp at f;subst f;exact j) h M4;exact⟨b,c,r,k,l,by simpa using m⟩
theorem iX(b o i:Nat):(⟨b,o,none⟩:Addr).add i=⟨b,o+i,none⟩:=by unfold Addr.add;split<;>simp_all
theorem zf{w:au}{d e n g c:Nat}{xs:List aA}(h:w.ownsRow d e 1 (aU g n c) n xs)(i:Nat)(p:i<n):w.cell? (aB g i)=xs[i]? :=by
 obtain⟨e,_⟩|⟨j,a,cur,e,o,f,k,l,m,b⟩:=h.2
 .cases e
 .simp at e;obtain⟨rfl,rfl⟩:=e;rw[cell_of_row w g i cur _ (0,0) f,<-b,vw Q0,jE]
def upTo(f:Nat->aA)(n:Nat):List aA:=(List.range n).map f
theorem gM(f:Nat->aA)(n:Nat):upTo f (n+1)=upTo f n++[f n]:=by simp[upTo,List.range_succ]
theorem vB(f:Nat->aA)(n:Nat):(upTo f n).length=n:=by simp[upTo]
theorem nJ(f:Nat->aA)(n i:Nat)(h:i<n):(upTo f n)[i]? =some (f i):=by simp[upTo,h]
theorem uo{f g:Nat->aA}{n:Nat}(h:∀i,i<n->f i=g i):upTo f n=upTo g n:=List.map_congr_left (λi a=>h i (gY.1 a))
theorem OE(f:Nat->aA)(n m:Nat):upTo f (n+m)=upTo f n++upTo (λi=>f (n+i)) m:=by simp[upTo,List.range_add]
theorem Dq{t e:Nat}{z:aA}{bytes:Nat}(u:Tryz.prog.underlying t=some (.slice e))(c:(Tryz.prog.info? e).map (λi=>(i.zero,i.size,i.bytes))=some (some z,1,bytes))(q:z.cells.size=1)(p:bytes<=24)
 {w:au}{d n:Nat}{v:aA}{xs:List aA}(o:w.ownsRow d e 1 v n xs)(x:aA)(j:x.oneCell'=true)(h:n+1<=5864062014805)(a:d<=w.heap.size):
 ∃f g,(Builtin.append_ #[t,t] t #[v,aU w.heap.size 1 1]).run Tryz.prog (w.alloc (.cells #[x] e))=.ok f g/\g.ownsRow d e 1 f (n+1) (xs++[x])/\Keep (λb=>v.ownBlock=some b) w g/\(f.ownBlock=v.ownBlock\/f.ownBlock=some (w.heap.size+1)):=by
 obtain⟨f,g,r,k,l,m⟩:=XG u c q p o x j h a;exact⟨f,g,r,k,((Keep.refl _ w).alloc _).grown l (λb e _=>e),m⟩
theorem jJ{w:au}{d e s n:Nat}{v:aA}{xs:List aA}(h:w.ownsRow d e s v n xs)(j:0<n):∃g c,v=aU g n c/\d<=g/\g<w.heap.size/\n<=c:=by
 obtain⟨_,i⟩|⟨g,c,cur,rfl,a,f,b,_⟩:=h.2
 .omega
 .obtain⟨l,_⟩:=bJ.1 f;exact⟨g,c,rfl,a,l,b⟩
def cO(w:au)(a:Option Addr)(n:Nat)(Z D:Nat->aN):Prop:=∀i,i<n->∃g o,a=some ⟨g,o,none⟩/\g<w.heap.size/\w.cell? (aB g (o+i*2))=some (aW (Z i))/\w.cell? (aB g (o+i*2+1))=some (aW (D i))
theorem cO.some{w:au}{a:Option Addr}{n:Nat}{Z D:Nat->aN}(h:cO w a n Z D)(j:0<n):∃g o,a=Option.some ⟨g,o,none⟩/\g<w.heap.size/\kH w g o n Z D:=by obtain⟨g,o,e,c,_⟩:=h 0 j;refine⟨g,o,e,c,λi f=>?_⟩;obtain⟨k,l,b,_,d⟩:=h i f;rw[e]at b;simp at b;obtain⟨rfl,rfl⟩:=b;exact d
def nK(k m size:Int):Prop:=1<=k/\0<=m/\k+m<=12/\8<=size/\size<=64/\size%8=0
instance(k m size:Int):Decidable (nK k m size):=by unfold nK;infer_instance
theorem Tq(k m s:Int)(w:au)(a:mG k)(hm:mG m)(l:0<=s/\s<=9223372036854775807)(h:¬nK k m s):
 Calls Tryz.prog 50 #[ah k,ah m,ah s] w λe b=>e=.returned (.bool false)/\b=w:=by
 unfold mG at a hm;unfold nK at h
 go_enter func50,ntmps50
 by_cases c:k<1
 .go_wp2
  go_ret
  exact⟨rfl,rfl⟩
 .by_cases d:m<0
  .go_wp2
   go_ret
   exact⟨rfl,rfl⟩
  .by_cases f:12-k<m
   .go_wp2
    go_ret
    exact⟨rfl,rfl⟩
   .by_cases g:8<=s
    .by_cases i:s<=64
     .have j:(s%8==0)=false:=by simp;omega
      clear h;go_wp2
      go_ret
      exact⟨rfl,rfl⟩
     .clear h;go_wp2
      go_ret
      exact⟨rfl,rfl⟩
    .clear h;go_wp2
     go_ret
     exact⟨rfl,rfl⟩
theorem MB(k m s:Int)(w:au)(h:nK k m s):
 Calls Tryz.prog 145 #[ah k,ah m,ah s] w λe b=>e=.returned (.bool true)/\b=w:=by
 unfold nK at h;obtain⟨g,i,j,l,n,a⟩:=h;have c:(s%8==0)=true:=by simpa using a
 have d:k<=12:=by omega
 have f:m<=12:=by omega
 clear a
 go_enter func145,ntmps145
 go_wp2
 go_ret
 exact⟨rfl,rfl⟩
theorem OG(k m s:Int)(w:au)(a:mG k)(hm:mG m)(o:0<=s/\s<=9223372036854775807)(h:¬nK k m s):
 Calls Tryz.prog 145 #[ah k,ah m,ah s] w λe b=>e=.returned (.bool false)/\b=w:=by
 unfold mG at a hm;unfold nK at h
 go_enter func145,ntmps145
 by_cases c:1<=k
 .by_cases l:k<=12
  .by_cases d:0<=m
   .by_cases n:m<=12
    .by_cases f:k+m<=12
     .by_cases g:8<=s
      .by_cases i:s<=64
       .have j:(s%8==0)=false:=by simp;omega
        clear h;go_wp2
        go_ret
        exact⟨rfl,rfl⟩
       .clear h;go_wp2
        go_ret
        exact⟨rfl,rfl⟩
      .clear h;go_wp2
       go_ret
       exact⟨rfl,rfl⟩
     .clear h;go_wp2
      go_ret
      exact⟨rfl,rfl⟩
    .clear h;go_wp2
     go_ret
     exact⟨rfl,rfl⟩
   .clear h;go_wp2
    go_ret
    exact⟨rfl,rfl⟩
  .clear h;go_wp2
   go_ret
   exact⟨rfl,rfl⟩
 .clear h;go_wp2
  go_ret
  exact⟨rfl,rfl⟩
def rdK(s:aN):Nat:=jg s 1
def rdM(s:aN):Nat:=jg s 2
def rdW(s:aN):Nat:=jg s 3
def rdB(s:aN):Nat:=Xz (s.extract 6 9) 3
theorem oD(k m s len:Nat)(key:aN)(w:au)(d:k<=12)(hsz:s<=64):
 Calls Tryz.prog 117 #[.agg (Iz k m s len key)] w λe f=>e=.returned (ah (k*s:Nat))/\Keep bD w f:=by
 obtain⟨P,a⟩:∃P,P=k*s:=⟨_,rfl⟩;have b:P<=768:=by rw[a];exact bY (iJ d hsz) U0
 have c:(k:Int)*(s:Int)=(P:Int):=by rw[a];push_cast;rfl
 rw[<-a];clear a;unfold Iz
 go_enter func117,ntmps117
 go_wp2
 go_ret
 exact⟨rfl,(Keep.refl _ _).alloc _⟩
theorem Tt(P len:Nat)(h:1<=P):((len:Int)+(P:Int)-1).tdiv (P:Int)=(dz P len:Int):=by unfold dz;rw[show(len:Int)+(P:Int)-1=((len+P-1:Nat):Int)by omega];exact(Int.ofNat_tdiv _ _).symm
theorem nL(k m s len:Nat)(key:aN)(w:au)(A:1<=k)(f:k<=12)(B:1<=s)(hsz:s<=64)(J:len<=1000000):
 Calls Tryz.prog 57 #[.agg (Iz k m s len key)] w λe c=>e=.returned (ah (dz (k*s) len))/\Keep bD w c:=by
 have Q:Hid (∀w:au,Calls Tryz.prog 117 #[.agg (Iz k m s len key)] w λe c=>e=.returned (ah (k*s:Nat))/\Keep bD w c):=λw=>oD k m s len key w f hsz;obtain⟨P,p⟩:∃P,P=k*s:=⟨_,rfl⟩;have x:1<=P:=by rw[p];exact iJ A B
 have E:P<=768:=by rw[p];exact bY (iJ f hsz) U0
 have F:(P:Int)≠0:=by omega
 have G:¬P=0:=by omega
 have I:IntKind.i64.wrap ((IntKind.i64.wrap (IntKind.i64.wrap ((len:Int)+(P:Int))-1)).tdiv (P:Int))=(dz P len:Int):=by
  have y:dz P len<=1000768:=by unfold dz;exact bY (Nat.div_le_self _ _) Q0
  rw[IntWalk.i64_in ((len:Int)+(P:Int)) Q0,IntWalk.i64_in ((len:Int)+(P:Int)-1) Q0,Tt P len x];exact IntWalk.i64_in _ Q0
 have y:dz P len<=1000768:=by unfold dz;exact bY (Nat.div_le_self _ _) Q0
 rw[<-p]at Q ⊢;clear p;generalize dz P len=ST at*;unfold Iz at*
 go_enter func57,ntmps57
 go_wp2_with fail
 obtain⟨W,t⟩:∃W,W=w.alloc (.cells #[ah k,ah m,ah s,ah len,aW key] 101):=⟨_,rfl⟩;have M:Hid (sU W w.heap.size k m s len key):=by show sU W w.heap.size k m s len key;rw[t];exact Go.Deep.blk_alloc_new _ _
 have u:Hid (Keep bD w W):=by show Keep bD w W;rw[t];exact(Keep.refl bD w).alloc _
 rw[<-t];clear t;have b:Hid (sU W.drew w.heap.size k m s len key/\Keep bD w W.drew):=⟨M.out.drew,u.out.drew⟩;refine wp_region_held_drew (S:=λc=>sU c w.heap.size k m s len key/\Keep bD w c) M0 b.out (λ_=>?_);refine wpAnyH_take (i:=0) (v:=?_) rfl M0 M0 M0 (λ_ _ _ h=>h) (Or.inl ⟨K4,?hy0⟩) b.out ?_
 case hy0=>intro c a;obtain⟨q,j,l,n,o⟩:=a.1.cells;clear a;go_simp;try with_reducible rfl
 try simp only[tq,List.getElem_cons_zero,List.getElem_cons_succ,Act.put,tu,tC,List.set_cons_succ]
 refine wpAnyH_take (i:=1) (v:=?_) rfl M0 M0 M0 (λ_ _ _ h=>h) (Or.inl ⟨K4,?hy1⟩) b.out ?_
 case hy1=>intro c a;obtain⟨q,j,l,n,o⟩:=a.1.cells;clear a;go_simp;try with_reducible rfl
 try simp only[tq,List.getElem_cons_zero,List.getElem_cons_succ,Act.put,tu,tC,List.set_cons_succ]
 refine wpAnyH_take (i:=2) (v:=?_) rfl M0 M0 M0 (λ_ _ _ h=>h) (Or.inl ⟨K4,?hy2⟩) b.out ?_
 case hy2=>intro c a;obtain⟨q,j,l,n,o⟩:=a.1.cells;clear a;go_simp;try with_reducible rfl
 try simp only[tq,List.getElem_cons_zero,List.getElem_cons_succ,Act.put,tu,tC,List.set_cons_succ]
 refine wpAnyH_take (i:=6) (v:=?_) rfl M0 M0 M0 (λ_ _ _ h=>h) (Or.inl ⟨K4,?hy6⟩) b.out ?_
 case hy6=>intro c a;obtain⟨q,j,l,n,o⟩:=a.1.cells;clear a;go_simp;try with_reducible rfl
 try simp only[tq,List.getElem_cons_zero,List.getElem_cons_succ,Act.put,tu,tC,List.set_cons_succ]
 refine wpAnyH_ready (rs:=[3]) M0 X0 ?_;refine AllReadyH.cons rfl (λK hK=>?_) ?_
 case refine_2=>first|exact AllReadyH.nil|trivial
 go_simp;refine Calls.mono (Q.out _) ?_;rintro e C ⟨rfl,f⟩;have d:Hid (sU C w.heap.size k m s len key/\Keep bD w C):=⟨b.out.1.keep f (λh=>h),b.out.2.trans f (λ_ _ h=>h)⟩;clear f;go_simp;refine hK.out _ _ d.out (λ_=>?_);clear hK K
 try simp only[tq,List.getElem_cons_zero,List.getElem_cons_succ,Act.put,tu,tC,List.set_cons_succ]
 refine wpAnyH_take (i:=4) (v:=?_) rfl M0 M0 M0 (λ_ _ _ h=>h) (Or.inl ⟨K4,?hy4⟩) d.out ?_
 case hy4=>intro c a;obtain⟨q,j,l,n,o⟩:=a.1.cells;clear a;go_simp;try with_reducible rfl
 try simp only[tq,List.getElem_cons_zero,List.getElem_cons_succ,Act.put,tu,tC,List.set_cons_succ]
 refine wpAnyH_take (i:=5) (v:=?_) rfl M0 M0 M0 (λ_ _ _ h=>h) (Or.inl ⟨K4,?hy5⟩) d.out ?_
 case hy5=>intro c a;obtain⟨q,j,l,n,o⟩:=a.1.cells;clear a;go_simp;try with_reducible rfl
 try simp only[tq,List.getElem_cons_zero,List.getElem_cons_succ,Act.put,tu,tC,List.set_cons_succ]
 refine wpAnyH_ready (rs:=[7]) M0 X0 ?_;refine AllReadyH.cons rfl (λK hK=>?_) ?_
 case refine_2=>first|exact AllReadyH.nil|trivial
 go_simp;refine Calls.mono (Q.out _) ?_;rintro e D ⟨rfl,f⟩;have g:Hid (sU D w.heap.size k m s len key/\Keep bD w D):=⟨d.out.1.keep f (λh=>h),d.out.2.trans f (λ_ _ h=>h)⟩;clear f;go_simp;refine hK.out _ _ g.out (λ_=>?_);clear hK K
 try simp only[tq,List.getElem_cons_zero,List.getElem_cons_succ,Act.put,tu,tC,List.set_cons_succ]
 refine wpAnyH_ready (rs:=[8]) M0 X0 ?_;refine AllReadyH.cons rfl (λK hK=>?_) ?_
 case refine_2=>first|exact AllReadyH.nil|trivial
 go_simp;refine hK.out _ _ g.out (λ_=>?_);clear hK K
 try simp only[tq,List.getElem_cons_zero,List.getElem_cons_succ,Act.put,tu,tC,List.set_cons_succ]
 refine wpAnyH_ready (rs:=[9]) M0 X0 ?_;refine AllReadyH.cons rfl (λK hK=>?_) ?_
 case refine_2=>first|exact AllReadyH.nil|trivial
 go_simp;refine hK.out _ _ g.out (λ_=>?_);clear hK K
 try simp only[tq,List.getElem_cons_zero,List.getElem_cons_succ,Act.put,tu,tC,List.set_cons_succ]
 refine wpAnyH_done M0 ?_ _
 go_wp2_with fail
 go_ret
 exact⟨rfl,g.out.2⟩
def aaw(X:aN):Nat:=Xz (X.extract 4 6) 2
def mP(X:aN):Prop:=(X.extract 0 1=⟨#[77]⟩/\(1<=rdK X/\rdK X<=12)/\rdM X<=12/\(1<=rdW X/\rdW X<=8))/\nK (rdK X) (rdM X) (8*(rdW X:Int))/\aaw X<=2000/\rdB X<=2000/\aaw X=dz (rdK X*(8*rdW X)) (rdB X)
theorem aax(x a:Int)(w:au):(convert 95 9 (aU w.heap.size 2 2)).run Tryz.prog (w.alloc (.cells #[.int .u8 x,.int .u8 a] 5))=
 .ok (aW (strOfNums [x,a])) (w.alloc (.cells #[.int .u8 x,.int .u8 a] 5)):=by
 refine run_convert_bytes_arg _ 95 5 underlying95 underlying5 w.heap.size 0 2 2 [x,a] rfl ?_ 9 underlying9;intro i h
 match i,h with
 |0,_=>simp[go_sem]
 |1,_=>simp[go_sem]
theorem Dr(v:Nat)(w:au)(b:v<12):Calls Tryz.prog 113 #[ah v] w λe a=>e=.returned (aW (fJ v))/\Keep bD w a:=by
 have kc:=aax;have h:v=0\/v=1\/v=2\/v=3\/v=4\/v=5\/v=6\/v=7\/v=8\/v=9\/v=10\/v=11:=by omega
 obtain rfl|rfl|rfl|rfl|rfl|rfl|rfl|rfl|rfl|rfl|rfl|rfl:=h
 all_goals
  go_enter func113,ntmps113
  go_wp2
  go_ret
  exact⟨K4,(Keep.refl bD w).alloc _⟩
theorem aay(c:Nat)(a:c<4294967296):bits .and .u64 (c:Int) 4294967295=(c:Int):=by
 have e:(4294967295:Int)=((4294967295:Nat):Int):=rfl;have h:c&&&4294967295=c:=by have:=Nat.and_two_pow_sub_one_eq_mod c 32;simp at this;rw[this];omega
 rw[e];show IntKind.u64.wrap ((BitVec.ofInt 64 (c:Int)&&&BitVec.ofInt 64 ((4294967295:Nat):Int)).toNat:Int)=_;rw[BitVec.toNat_and,ofInt_u64 c Q0,ofInt_u64 4294967295 Q0,h];simp[IntKind.wrap,IntKind.bits,IntKind.signed];omega
theorem Tv(c:Nat)(w:au)(f:c<4294967296):Calls Tryz.prog 190 #[.int .u64 1,.int .u64 (c:Int)] w λe g=>e=.returned (.tuple #[.int .u64 0,.int .u64 (c:Int)])/\g=w:=by
 go_enter func190,ntmps190
 go_wp2
 go_ret2
 have a:bits .and .u64 1 4294967295=1:=by decide
 have b:bits .and .u64 0 4294967295=0:=by decide
 have d:=aay c f;have z:(c:Int)/4294967296=0:=by omega
 have t:IntKind.u64.wrap 0=0:=by decide
 have wc:IntKind.u64.wrap (c:Int)=(c:Int):=by simp[IntKind.wrap,IntKind.signed,IntKind.bits];omega
 simp[a,b,d,z,t,wc,Int.one_mul,Int.mul_zero]
end
end Go.Proofs.YtmhafipgbfaapaaGreatDoor
namespace Go.Proofs.YtmhafipgbfaapaaGreatDoor.aK
section
open Go.Proofs.Tryz
variable {a b x y : Nat} {s : Type}
section
variable {l : List s} {f : s -> Nat}
def xt(s:Nat):Nat:=if 255<2*s then(2*s)^^^285 else 2*s
def mulL:Nat->Nat->Nat->Nat->Nat
 |0,p,_,_=>p
 |n+1,p,s,r=>mulL n (if r%2=1 then p^^^s else p) (xt s) (r/2)
def mul(a b:Nat):Nat:=mulL 8 0 a b
theorem qP:∀a,a<256->xt a<256:=by decide+kernel
theorem OH:∀a,a<256->xt a=(2*a)^^^(a/128*285):=by decide+kernel
theorem fD(h:a<256)(c:b<256):a^^^b<256:=Nat.xor_lt_two_pow (n:=8) h c
theorem Tw(a b:Nat):2*(a^^^b)=(2*a)^^^(2*b):=by have h:=Nat.shiftLeft_xor_distrib (i:=1) (a:=a) (b:=b);simp only[Nat.shiftLeft_eq,Nat.pow_one]at h;rw[lN 2,lN 2,lN 2,h]
theorem Tx(a b:Nat):(a^^^b)/128=(a/128)^^^(b/128):=by have h:=Nat.shiftRight_xor_distrib (i:=7) (a:=a) (b:=b);simpa only[Nat.shiftRight_eq_div_pow]using h
theorem XH:∀a,a<2->∀b,b<2->(a^^^b)*285=(a*285)^^^(b*285):=by decide
theorem OI(a b c d:Nat):(a^^^b)^^^(c^^^d)=(a^^^c)^^^(b^^^d):=by rw[jV,jV,<-jV b c d,<-jV c b d,Nat.xor_comm b c]
theorem OJ(a b:Nat)(h:a<256)(c:b<256):xt (a^^^b)=xt a^^^xt b:=by rw[OH _ (fD h c),OH _ h,OH _ c,Tw,Tx,XH _ Q0 _ Q0,OI]
theorem Tz:xt 0=0:=rfl
theorem Ce(n p s:Nat):mulL n p s 0=p:=by
 induction n generalizing p s with
 |zero=>rfl
 |succ n i=>simp[mulL,i]
theorem TA(n:Nat):∀p s r,p<256->s<256->mulL n p s r<256:=by
 induction n with
 |zero=>intro p s r h _;exact h
 |succ n i=>
  intro p s r h a;simp only[mulL];apply i
  .split
   .exact fD h a
   .exact h
  .exact qP _ a
theorem mul_lt(b:Nat)(h:a<256):mul a b<256:=TA 8 0 a b U0 h
theorem MC(n:Nat):∀p q s t r,s<256->t<256->mulL n (p^^^q) (s^^^t) r=mulL n p s r^^^mulL n q t r:=by
 induction n with
 |zero=>intros;rfl
 |succ n i=>
  intro p q s t r a b;simp only[mulL];rw[OJ _ _ a b];by_cases h:r%2=1
  .simp only[h,if_true];rw[OI];exact i _ _ _ _ _ (qP _ a) (qP _ b)
  .simp only[h,if_false];exact i _ _ _ _ _ (qP _ a) (qP _ b)
theorem add_mul(a b c:Nat)(h:a<256)(d:b<256):mul (a^^^b) c=mul a c^^^mul b c:=by have:=MC 8 0 0 a b c h d;simpa[mul]using this
theorem OL(a b:Nat):(a^^^b)/2=(a/2)^^^(b/2):=by have h:=Nat.shiftRight_xor_distrib (i:=1) (a:=a) (b:=b);simpa only[Nat.shiftRight_eq_div_pow,Nat.pow_one]using h
theorem OM(a b:Nat):(a^^^b)%2=(a%2+b%2)%2:=by have h:=Nat.xor_mod_two_pow (a:=a) (b:=b) (n:=1);rw[Nat.pow_one]at h;rw[h];obtain e|e:=zK a<;>obtain f|f:=zK b<;>rw[e,f]<;>rfl
theorem ME(n:Nat):∀p q s r t,mulL n (p^^^q) s (r^^^t)=mulL n p s r^^^mulL n q s t:=by
 induction n with
 |zero=>intros;rfl
 |succ n i=>
  intro p q s r t;simp only[mulL];rw[OL,<-i,OM]
  congr 1
  have h:=zK r;have a:=zK t;obtain h|h:=h<;>obtain a|a:=a<;>simp[h,a]
  .rw[jV]
  .rw[jV,jV,Nat.xor_comm q s]
  .rw[jV,<-jV s q s,Nat.xor_comm s q,jV q s s,Nat.xor_self,nM]
theorem mul_add(a b c:Nat):mul a (b^^^c)=mul a b^^^mul a c:=by have:=ME 8 0 0 a b c;simpa[mul]using this
theorem mul_zero(a:Nat):mul a 0=0:=Ce 8 0 a
theorem zero_mul(a:Nat):mul 0 a=0:=by
 have:=mul_add 0 a a;have h:∀n r,mulL n 0 0 r=0:=by
  intro n;induction n with
  |zero=>intro r;rfl
  |succ n i=>intro r;simp[mulL,Tz,i]
 exact h 8 a
theorem TD:∀a,a<256->a=(a&&&1)^^^(a&&&2)^^^(a&&&4)^^^(a&&&8)^^^(a&&&16)^^^(a&&&32)^^^(a&&&64)^^^(a&&&128):=by decide+kernel
theorem XI:∀a,a<256->(a&&&1=0\/a&&&1=1)/\(a&&&2=0\/a&&&2=2)/\(a&&&4=0\/a&&&4=4)/\(a&&&8=0\/a&&&8=8)/\(a&&&16=0\/a&&&16=16)/\(a&&&32=0\/a&&&32=32)/\(a&&&64=0\/a&&&64=64)/\(a&&&128=0\/a&&&128=128):=by decide+kernel
theorem MG(f g:Nat->Nat)(i:∀a b,a<256->b<256->f (a^^^b)=f a^^^f b)(j:∀a b,a<256->b<256->g (a^^^b)=g a^^^g b)
 (h:f 1=g 1/\f 2=g 2/\f 4=g 4/\f 8=g 8/\f 16=g 16/\f 32=g 32/\f 64=g 64/\f 128=g 128)(a:Nat)(M:a<256):f a=g a:=by
 obtain⟨Q,R,S,T,z,A,B,s⟩:=h;have c:f 0=0:=by have:=i 0 0 U0 U0;simpa using this
 have d:g 0=0:=by have:=j 0 0 U0 U0;simpa using this
 have l:∀m,m<256->a&&&m<256:=λm U=>Nat.lt_of_le_of_lt Nat.and_le_right U;obtain⟨N,O,b4,P,v,w,y,r⟩:=XI a M;have V:f (a&&&1)=g (a&&&1):=by obtain e|e:=N<;>rw[e]<;>simp[c,d,Q]
 have W:f (a&&&2)=g (a&&&2):=by obtain e|e:=O<;>rw[e]<;>simp[c,d,R]
 have X:f (a&&&4)=g (a&&&4):=by obtain e|e:=b4<;>rw[e]<;>simp[c,d,S]
 have Y:f (a&&&8)=g (a&&&8):=by obtain e|e:=P<;>rw[e]<;>simp[c,d,T]
 have C:f (a&&&16)=g (a&&&16):=by obtain e|e:=v<;>rw[e]<;>simp[c,d,z]
 have D:f (a&&&32)=g (a&&&32):=by obtain e|e:=w<;>rw[e]<;>simp[c,d,A]
 have E:f (a&&&64)=g (a&&&64):=by obtain e|e:=y<;>rw[e]<;>simp[c,d,B]
 have t:f (a&&&128)=g (a&&&128):=by obtain e|e:=r<;>rw[e]<;>simp[c,d,s]
 have F:=l 1 U0;have G:=l 2 U0;have H:=l 4 U0;have I:=l 8 U0;have n:=l 16 U0;have o:=l 32 U0;have p:=l 64 U0;have k:=l 128 U0;have J:=fD F G;have K:=fD J H;have L:=fD K I;have x:=fD L n;have q:=fD x o;have u:=fD q p;rw[TD a M,i _ _ u k,i _ _ q p,i _ _ x o,i _ _ L n,i _ _ K I,i _ _ J H,i _ _ F G,j _ _ u k,j _ _ q p,j _ _ x o,j _ _ L n,j _ _ K I,j _ _ J H,j _ _ F G,V,W,X,Y,C,D,E,t]
theorem mul_comm(a b:Nat)(g:a<256)(h:b<256):mul a b=mul b a:=by
 refine MG (λx=>mul x b) (λx=>mul b x) (λx y e f=>add_mul x y b e f) (λx y _ _=>mul_add b x y) ?_ a g;have key:∀c,c<256->∀b,b<256->(c=1\/c=2\/c=4\/c=8\/c=16\/c=32\/c=64\/c=128)->mul c b=mul b c:=by intro c i b h d;refine MG (λx=>mul c x) (λx=>mul x c) (λx y _ _=>mul_add c x y) (λx y e f=>add_mul x y c e f) ?_ b h;obtain rfl|rfl|rfl|rfl|rfl|rfl|rfl|rfl:=d<;>decide+kernel
 refine⟨?_,?_,?_,?_,?_,?_,?_,?_⟩<;>exact key _ U0 b h U0
theorem mul_assoc(a b c:Nat)(i:a<256)(g:b<256)(e:c<256):mul (mul a b) c=mul a (mul b c):=by
 let p (x:Nat):Prop:=x=1\/x=2\/x=4\/x=8\/x=16\/x=32\/x=64\/x=128
 have k:∀a b c,p a->p b->c<256->mul (mul a b) c=mul a (mul b c):=by intro a b c f j e;refine MG (λx=>mul (mul a b) x) (λx=>mul a (mul b x)) (λx y _ _=>mul_add _ x y) (λx y _ _=>by rw[mul_add,mul_add]) ?_ c e;obtain rfl|rfl|rfl|rfl|rfl|rfl|rfl|rfl:=f<;>obtain rfl|rfl|rfl|rfl|rfl|rfl|rfl|rfl:=j<;>decide+kernel
 have lt:∀x,p x->x<256:=by rintro x (rfl|rfl|rfl|rfl|rfl|rfl|rfl|rfl)<;>decide
 have s:∀a b c,p a->b<256->c<256->mul (mul a b) c=mul a (mul b c):=by intro a b c f g e;have l:=lt a f;refine MG (λx=>mul (mul a x) c) (λx=>mul a (mul x c)) (λx y _ _=>by rw[mul_add,add_mul _ _ _ (mul_lt _ l) (mul_lt _ l)]) (λx y h d=>by rw[add_mul _ _ _ h d,mul_add]) ?_ b g;refine⟨?_,?_,?_,?_,?_,?_,?_,?_⟩<;>exact k _ _ c f U0 e
 refine MG (λx=>mul (mul x b) c) (λx=>mul x (mul b c)) (λx y h d=>by rw[add_mul _ _ _ h d,add_mul _ _ _ (mul_lt _ h) (mul_lt _ d)]) (λx y h d=>by rw[add_mul _ _ _ h d]) ?_ a i;refine⟨?_,?_,?_,?_,?_,?_,?_,?_⟩<;>exact s _ b c U0 g e
theorem mul_one:∀a,a<256->mul a 1=a:=by decide+kernel
def TF:Nat->Nat->Nat->Nat
 |0,v,_=>v
 |n+1,v,q=>TF n (mul v q) (mul q q)
def inv(a:Nat):Nat:=TF 7 1 (mul a a)
theorem uq:∀a,a<256->inv a<256:=by decide+kernel
theorem Dt:∀a,a<256->a=0\/mul a (inv a)=1:=by decide+kernel
def oF(a b:Nat):Nat->Nat->Nat
 |0,v=>v
 |n+1,v=>oF a b n (if b/2^n%2=1 then xt v^^^a else xt v)
theorem OO(b:Nat)(n:Nat):∀a c v u,v<256->u<256->a<256->c<256->oF (a^^^c) b n (v^^^u)=oF a b n v^^^oF c b n u:=by
 induction n with
 |zero=>intros;rfl
 |succ n i=>
  intro a c v u g f d e;simp only[oF];rw[OJ _ _ g f];by_cases h:b/2^n%2=1
  .simp only[h,if_true];rw[OI];exact i _ _ _ _ (fD (qP _ g) d) (fD (qP _ f) e) d e
  .simp only[h,if_false];exact i _ _ _ _ (qP _ g) (qP _ f) d e
theorem OP(a b:Nat)(d:a<256)(e:b<256):oF a b 8 0=mul a b:=by
 refine MG (λx=>oF x b 8 0) (λx=>mul x b) (λx y h c=>?_) (λx y h c=>add_mul x y b h c) ?_ a d
 .have:=OO b 8 x y 0 0 U0 U0 h c;simpa using this
 .have key:∀b,b<256->oF 1 b 8 0=mul 1 b/\oF 2 b 8 0=mul 2 b/\oF 4 b 8 0=mul 4 b/\oF 8 b 8 0=mul 8 b/\oF 16 b 8 0=mul 16 b/\oF 32 b 8 0=mul 32 b/\oF 64 b 8 0=mul 64 b/\oF 128 b 8 0=mul 128 b:=by decide+kernel
  exact key b e
def fm(a b:Nat):Nat:=mul (a%256) (b%256)
def fi(a:Nat):Nat:=inv (a%256)
theorem yN(a:Nat):a%256<256:=Nat.mod_lt _ U0
theorem aaz(a b:Nat):(a^^^b)%256=(a%256)^^^(b%256):=Nat.xor_mod_two_pow (n:=8)
theorem tF(a b:Nat):fm a b<256:=mul_lt _ (yN a)
theorem OQ(a b:Nat):fm a b%256=fm a b:=eP (tF a b)
theorem Ko(a:Nat):fi a<256:=uq _ (yN a)
theorem EY(h:a<256)(c:b<256):fm a b=mul a b:=by unfold fm;rw[eP h,eP c]
theorem aaA(h:a<256):fi a=inv a:=by unfold fi;rw[eP h]
theorem gJ(a b:Nat):fm a b=fm b a:=mul_comm _ _ (yN a) (yN b)
theorem eD(a b c:Nat):fm (fm a b) c=fm a (fm b c):=by unfold fm;rw[eP (mul_lt _ (yN a)),eP (mul_lt _ (yN b))];exact mul_assoc _ _ _ (yN a) (yN b) (yN c)
theorem zL(a b c:Nat):fm a (b^^^c)=fm a b^^^fm a c:=by unfold fm;rw[aaz];exact mul_add _ _ _
theorem Du(a b c:Nat):fm (a^^^b) c=fm a c^^^fm b c:=by rw[gJ,zL,gJ c a,gJ c b]
theorem kI(a:Nat):fm a 0=0:=mul_zero _
theorem pO(a:Nat):fm 0 a=0:=zero_mul _
theorem uw(a:Nat):fm a 1=a%256:=mul_one _ (yN a)
theorem uy(a:Nat):fm 1 a=a%256:=by rw[gJ];exact uw a
theorem EZ(h:a%256≠0):fm a (fi a)=1:=by
 unfold fm fi;rw[eP (uq _ (yN a))];obtain b|b:=Dt _ (yN a)
 .exact aF b h
 .exact b
theorem OT(h:a%256≠0):fm (fi a) a=1:=by rw[gJ];exact EZ h
theorem oG(h:a%256≠0)(z:fm a b=0):b%256=0:=by
 have:fm (fi a) (fm a b)=b%256:=by rw[<-eD,OT h,uy]
 rw[z,kI]at this;exact this.symm
theorem pQ(a b c:Nat):fm a (fm b c)=fm b (fm a c):=by rw[<-eD,<-eD,gJ a b]
theorem IB(c:a<256)(d:b<256)(h:a≠b):(a^^^b)%256≠0:=by
 rw[eP (fD c d)];intro e;apply h;have:(a^^^b)^^^b=0^^^b:=by rw[e]
 rw[jV,Nat.xor_self,nM,Nat.zero_xor]at this;exact this
def xs:List Nat->Nat
 |[]=>0
 |a::l=>a^^^xs l
theorem xk(l r:List Nat):xs (l++r)=xs l^^^xs r:=by
 induction l with
 |nil=>simp[xs]
 |cons a l i=>simp[xs,i,jV]
theorem WW(l:List Nat)(h:∀a∈l,a<256):xs l<256:=by
 induction l with
 |nil=>decide
 |cons a l i=>exact fD (h a X0) (i λb hb=>h b J7)
theorem pR(l:List s)(f g:s->Nat):xs (l.map λa=>f a^^^g a)=xs (l.map f)^^^xs (l.map g):=by
 induction l with
 |nil=>simp[xs]
 |cons a l i=>simp only[kM,xs,i];exact OI _ _ _ _
theorem OU(l:List s)(c:Nat)(f:s->Nat):fm c (xs (l.map f))=xs (l.map λa=>fm c (f a)):=by
 induction l with
 |nil=>exact kI c
 |cons a l i=>simp only[kM,xs,zL,i]
theorem WX(l:List s)(c:Nat)(f:s->Nat):fm (xs (l.map f)) c=xs (l.map λa=>fm (f a) c):=by rw[gJ,OU];congr 1;exact List.map_congr_left λa _=>gJ _ _
theorem mH{g:s->Nat}(h:∀a∈l,f a=g a):xs (l.map f)=xs (l.map g):=by rw[List.map_congr_left h]
theorem Dv(h:∀a∈l,f a=0):xs (l.map f)=0:=by
 induction l with
 |nil=>rfl
 |cons a l i=>simp only[kM,xs];rw[h a X0,i λb hb=>h b J7];rfl
theorem TG{c:Type}(l:List s)(r:List c)(f:s->c->Nat):xs (l.map λa=>xs (r.map λb=>f a b))=xs (r.map λb=>xs (l.map λa=>f a b)):=by
 induction l with
 |nil=>simp only[List.map_nil,xs];exact(Dv (λ_ _=>rfl)).symm
 |cons a l i=>simp only[kM,xs,i,pR]
theorem E8(h:a^^^b=0):a=b:=by
 have:(a^^^b)^^^b=0^^^b:=by rw[h]
 rw[jV,Nat.xor_self,nM,Nat.zero_xor]at this;exact this
theorem aaB{a:Nat}(h:(x^^^y)%256≠0):fm (fi (x^^^y)) (x^^^a)=1^^^fm (fi (x^^^y)) (y^^^a):=by
 have e:x^^^a=(x^^^y)^^^(y^^^a):=by rw[jV,<-jV y y a,Nat.xor_self,Nat.zero_xor]
 rw[e,zL,OT h]
theorem aaC{a:Nat}(h:(x^^^y)%256≠0)(b:(a^^^y)%256≠0):fi (x^^^y)^^^fi (a^^^y)=fm (x^^^a) (fm (fi (x^^^y)) (fi (a^^^y))):=by
 have e:x^^^a=(x^^^y)^^^(a^^^y):=by rw[OI,Nat.xor_self,nM]
 rw[e,Du,<-eD,EZ h,uy,eP (Ko _),pQ,EZ b,uw,eP (Ko _),Nat.xor_comm]
theorem XJ(Y:List Nat):∀(X:List Nat)(c:Nat->Nat),X.length=Y.length->(∀x∈X,x<256)->(∀y∈Y,y<256)->X.Nodup->Y.Nodup->(∀x∈X,∀y∈Y,x≠y)->
 (∀x∈X,xs (Y.map λy=>fm (c y) (fi (x^^^y)))=0)->∀y∈Y,c y%256=0:=by
 induction Y with
 |nil=>intro X c _ _ _ _ _ _ _ y hy;cases hy
 |cons b Y A=>
  intro X c j g i v w t h
  match X,j with
  |x0::X,j=>
  simp only[List.length_cons,Nat.add_right_cancel_iff]at j;have o:=g x0 X0;have p:=i b X0;have n:∀x∈x0::X,∀y∈b::Y,(x^^^y)%256≠0:=λx hx y hy=>IB (g x hx) (i y hy) (t x hx y hy)
  let S:=(c b%256)^^^xs (Y.map λy=>c y%256)
  have row:∀x∈x0::X,S=xs (Y.map λy=>fm (c y) (fm (fi (x^^^y)) (y^^^b))):=by
   intro x hx;have d:=h x hx;have f:fm (xs ((b::Y).map λy=>fm (c y) (fi (x^^^y)))) (x^^^b)=0:=by rw[d];exact pO _
   rw[WX]at f;simp only[kM,xs]at f;rw[eD,OT (n x hx b X0),uw]at f;have e:xs (Y.map λy=>fm (fm (c y) (fi (x^^^y))) (x^^^b))=xs (Y.map λy=>(c y%256)^^^fm (c y) (fm (fi (x^^^y)) (y^^^b))):=by apply mH;intro y hy;rw[eD,aaB (n x hx y O5),zL,uw]
   rw[e,pR,<-jV]at f;exact E8 f
  have key:∀y∈Y,fm (c y) (fm (y^^^b) (fi (x0^^^y)))%256=0:=by
   refine A X (λy=>fm (c y) (fm (y^^^b) (fi (x0^^^y)))) j (λx hx=>g x Y5) (λy hy=>i y O5) (List.nodup_cons.1 v).2 (List.nodup_cons.1 w).2 (λx hx y hy=>t x Y5 y O5) ?_;intro x hx;have m:(x^^^x0)%256≠0:=IB (g x Y5) o (by rintro rfl;exact(List.nodup_cons.1 v).1 hx);have B:=row x0 X0;have r1:=row x Y5;have r:fm (x^^^x0) (xs (Y.map λy=>fm (fm (c y) (fm (y^^^b) (fi (x0^^^y)))) (fi (x^^^y))))=0:=by
    rw[OU];have e:xs (Y.map λy=>fm (x^^^x0) (fm (fm (c y) (fm (y^^^b) (fi (x0^^^y)))) (fi (x^^^y))))=xs (Y.map λy=>fm (c y) (fm (fi (x^^^y)) (y^^^b))^^^fm (c y) (fm (fi (x0^^^y)) (y^^^b))):=by apply mH;intro y hy;rw[<-zL,<-Du,aaC (n x Y5 y O5) (n x0 X0 y O5)];rw[eD (c y),pQ _ (c y),eD (y^^^b),gJ (y^^^b),gJ (fi (x^^^y)) (fi (x0^^^y)),eD,eD,eD]
    rw[e,pR,<-r1,<-B,Nat.xor_self]
   have:=oG m r;rwa[eP (WW _ (by simp only[gQ];rintro a ⟨y,_,rfl⟩;exact tF _ _))]at this
  have s:∀y∈Y,c y%256=0:=by intro y hy;have k:=key y hy;rw[OQ]at k;have q:(y^^^b)%256≠0:=IB (i y O5) p (by rintro rfl;exact(List.nodup_cons.1 w).1 hy);rw[pQ]at k;have u:=oG q k;rw[OQ,gJ]at u;refine oG (a:=fi (x0^^^y)) ?_ u;intro e;have:=EZ (n x0 X0 y O5);rw[eP (Ko _)]at e;rw[e,kI]at this;cases this
  intro y hy;obtain rfl|hy:=lS.1 hy
  .have d:=h x0 X0;simp only[kM,xs]at d;rw[Dv (l:=Y),nM]at d
   .rw[gJ]at d;refine oG (a:=fi (x0^^^y)) ?_ d;intro e;have:=EZ (n x0 X0 y X0);rw[eP (Ko _)]at e;rw[e,kI]at this;cases this
   .intro z r;unfold fm;rw[s z r];exact zero_mul _
  .exact s y hy
end
end
end Go.Proofs.YtmhafipgbfaapaaGreatDoor.aK
namespace Go.Proofs.YtmhafipgbfaapaaGreatDoor
section
open Go.Proofs.Tryz
open Go Go.RowKit Go.MuLone
variable {M : Nat -> Nat -> Nat} {R : Nat -> Nat}
theorem iY(a b:Nat)(h:a<65536)(c:b<65536):bits .xor .i64 (a:Int) (b:Int)=((a^^^b:Nat):Int):=by have x:a^^^b<2^16:=Nat.xor_lt_two_pow Q0 Q0;show IntKind.i64.wrap ((BitVec.ofInt 64 (a:Int)^^^BitVec.ofInt 64 (b:Int)).toNat:Int)=_;rw[BitVec.toNat_xor,ofInt_u64 a Q0,ofInt_u64 b Q0];simp[IntKind.wrap,IntKind.bits,IntKind.signed];omega
theorem OV{n q t u a b:Nat}(h:aK.mulL n q t u=aK.mul a b)(c:u<2^n)(e:u≠0):
 ∃d,n=d+1/\u/2<2^d/\aK.mulL d (if u%2=1 then q^^^t else q) (aK.xt t) (u/2)=aK.mul a b:=by
 match n,h,c with
 |0,_,c=>simp at c;omega
 |n+1,h,c=>exact⟨n,rfl,by rw[Nat.pow_succ]at c;omega,h⟩
theorem jF(a b:Nat)(Q:a<256)(R:b<256)(w:au):
 Calls Tryz.prog 139 #[.int .u8 (a:Int),.int .u8 (b:Int)] w λe U=>e=.returned (.int .u8 ((aK.mul a b:Nat):Int))/\U=w:=by
 go_enter func139,ntmps139
 go_wp2
 go_loop [5,6,7] (λp s r=>∃n q t u:Nat,q<256/\t<256/\u<2^n/\n<=8/\Hid (aK.mulL n q t u=aK.mul a b)/\p=ah q/\s=ah t/\r=.int .u8 (u:Int)) (λ_ _ r=>(intOf r).toNat)
 case atStart=>exact⟨8,0,a,b,U0,Q,R,aS _,rfl,X0,X0,X0⟩
 case round=>
  obtain⟨n,q,t,u,B,L,N,S,J,rfl,rfl,rfl⟩:=hrel;have C:u<256:=bG N (tH U0 S:2^n<=2^8);have y:bits .and .u8 (u:Int) 1=((u%2:Nat):Int):=by have:=u8_and_nat u 1 C U0;rw[nat_mask1]at this;exact this
  have D:bits .xor .i64 (q:Int) (t:Int)=((q^^^t:Nat):Int):=iY q t Q0 Q0;have E:bits .xor .i64 ((t:Int)*2) 285=(((2*t)^^^285:Nat):Int):=by have:=iY (2*t) 285 Q0 U0;rw[<-this];congr 1;omega
  have o:=aK.fD B L;have x:=aK.qP t L;by_cases A:u=0
  .subst A;have l:q=aK.mul a b:=(aK.Ce n q t).symm.trans J.out;clear y D E;go_wp2
   go_ret
   refine⟨?_,rfl⟩;rw[<-l]
   congr 2
  .obtain⟨v,rfl,c,g⟩:=OV J.out N A;have hne:((u:Int)!=0)=true:=by simpa using A
   have d:aK.xt t=if 255<2*t then(2*t)^^^285 else 2*t:=rfl
   have X:Hid (aK.xt t=if 255<2*t then(2*t)^^^285 else 2*t):=d;have M:Hid (aK.mulL v (if u%2=1 then q^^^t else q) (aK.xt t) (u/2)=aK.mul a b):=g;have F:Hid (bits .and .u8 (u:Int) 1=((u%2:Nat):Int)):=y;have G:Hid (bits .xor .i64 (q:Int) (t:Int)=((q^^^t:Nat):Int)):=D;have I:Hid (bits .xor .i64 ((t:Int)*2) 285=(((2*t)^^^285:Nat):Int)):=E;clear d g y D E;obtain i|j:=zK u
   .have O:(bits BinOp.and IntKind.u8 (u:Int) 1 !=0)=false:=by rw[F.out,i];rfl
    have hm:=M.out;rw[i]at hm;have m:Hid _:=hm;clear hm;by_cases T:255<t*2
    .have f:255<(t:Int)*2:=by omega
     go_wp2;refine⟨⟨v,q,aK.xt t,u/2,B,x,c,Q0,m.out,rfl,?_,X0⟩,by simp[intOf];omega⟩;rw[I.out,X.out,aI Q0]
    .have f:(t:Int)*2<=255:=by omega
     go_wp2;refine⟨⟨v,q,aK.xt t,u/2,B,x,c,Q0,m.out,rfl,?_,X0⟩,by simp[intOf];omega⟩;rw[X.out,av Q0];congr 1;omega
   .have O:(bits BinOp.and IntKind.u8 (u:Int) 1 !=0)=true:=by rw[F.out,j];rfl
    have hm:=M.out;rw[j]at hm;have m:Hid _:=hm;clear hm;by_cases T:255<t*2
    .have f:255<(t:Int)*2:=by omega
     go_wp2;refine⟨⟨v,q^^^t,aK.xt t,u/2,o,x,c,Q0,m.out,?_,?_,X0⟩,by simp[intOf];omega⟩
     .rw[G.out]
     .rw[I.out,X.out,aI Q0]
    .have f:(t:Int)*2<=255:=by omega
     go_wp2;refine⟨⟨v,q^^^t,aK.xt t,u/2,o,x,c,Q0,m.out,?_,?_,X0⟩,by simp[intOf];omega⟩
     .rw[G.out]
     .rw[X.out,av Q0];congr 1;omega
theorem tJ(a:Nat)(f:a<256)(w:au):
 Calls Tryz.prog 141 #[.int .u8 (a:Int)] w λe l=>e=.returned (.int .u8 ((aK.inv a:Nat):Int))/\l=w:=by
 go_enter func141,ntmps141
 go_wp2_with (go_at_call 139;refine(jF _ _ f f _).mono ?_;rintro e l ⟨rfl,rfl⟩)
 go_loop [3,4,5] (λv s p=>∃n c d:Nat,c<256/\d<256/\n<=7/\Hid (aK.TF n c d=aK.inv a)/\v=.int .u8 (c:Int)/\s=.int .u8 (d:Int)/\p=ah (2^(8-n):Nat)) (λ_ _ p=>256-(intOf p).toNat)
 case atStart=>exact⟨7,1,aK.mul a a,U0,aK.mul_lt _ f,aS _,rfl,X0,X0,X0⟩
 case round=>
  obtain⟨n,c,d,i,b,j,M,rfl,rfl,rfl⟩:=hrel
  match n,j,M with
  |0,_,M=>
   go_wp2_with fail
   go_ret
   exact⟨by rw[<-M.out];rfl,rfl⟩
  |n+1,j,M=>
   have t:2^(8-(n+1))<=128:=(tH U0 Q0:2^(8-(n+1))<=2^7);have m:1<=2^(8-(n+1)):=Nat.one_le_two_pow;have q:2^(8-n)=2^(8-(n+1))*2:=by rw[<-Nat.pow_succ];congr 1;omega
   have Q:Hid (2^(8-n)=2^(8-(n+1))*2):=q;clear q;generalize 2^(8-(n+1))=P at*;have hlt:(P:Int)<256:=by omega
   have g:=aK.mul_lt d i;have hdd:=aK.mul_lt d b
   go_wp2_with fail
   refine(jF c d i b _).mono ?_;rintro e o ⟨rfl,rfl⟩
   go_wp2_with fail
   refine(jF d d b b _).mono ?_;rintro e o ⟨rfl,rfl⟩
   go_wp2_with fail
   refine⟨⟨n,aK.mul c d,aK.mul d d,g,hdd,Q0,M.out,rfl,rfl,?_⟩,by simp[intOf];omega⟩;rw[Q.out];congr 1
structure bQ(w:au)(g n c:Nat)(R:Nat->Nat)(M:Nat->Nat->Nat):Prop where
 outer:w.rowIs g 95 n (λi=>aU (R i) c c)
 rows:∀i,i<n->isRow w (R i) c (M i)
 inj:∀i j,i<n->j<n->R i=R j->i=j
 off:∀i,i<n->R i≠g
theorem bQ.keep{S:aD}{w w':au}{g n c:Nat}(h:bQ w g n c R M)(k:Keep S w w')(d:¬S g)(b:∀i,i<n->¬S (R i)):bQ w' g n c R M:=⟨k.row h.outer d,λi a=>(h.rows i a).keep k (b i a),h.inj,h.off⟩
theorem MH:(Tryz.prog.info? 95).map (λi=>(i.zero,i.size,i.bytes))=some (some (.slice none 0 0),1,24):=by kernel_rfl
theorem mI(t f n F:Nat)(X Y:Nat->Nat)(w:au)(g:t≠f)(y:n<=1000)(q:isRow w t n X)(s:isRow w f n Y)(o:∀i,i<n->X i<256)(p:∀i,i<n->Y i<256)(m:F<256):
 Calls Tryz.prog 251 #[aU t n n,aU f n n,.int .u8 (F:Int)] w λe l=>e=.returned (.tuple #[])/\isRow l t n (λj=>X j^^^aK.mul (Y j) F)/\Keep (λk=>k=t) w l:=by
 go_enter func251,ntmps251
 go_wp2
 go_loopw [6,7,10] (λ_ _ i wr=>∃k:Nat,k<=n/\i=ah k/\isRow wr t n (λj=>if j<k then X j^^^aK.mul (Y j) F else X j)/\Keep (λk=>k=t) w wr) (λ_ _ i _=>n-(intOf i).toNat)
 case atStart=>exact⟨0,bU _,X0,q.congr (λi _=>X0),Keep.refl _ _⟩
 case round=>
  obtain⟨k,x,rfl,a,hK⟩:=hrel;by_cases hlt:k<n
  .have R:Hid (isRow wr t n (λj=>if j<k then X j^^^aK.mul (Y j) F else X j)):=a;have c:Hid (Keep (λk=>k=t) w wr):=hK;have cf:wr.cell? (aB f k)=some (.int .u8 ((Y k:Nat):Int)):=(s.keep hK (Ne.symm g)).cell hlt;have u:wr.cell? (aB t k)=some (.int .u8 ((X k:Nat):Int)):=by have:=a.cell hlt;simpa using this
   have C:=a.frozen k;have A:(0:Int)<=(k:Int):=by omega
   have B:(k:Int)<(n:Int):=by omega
   have b:=p k hlt;have d:=o k hlt;have hm:=aK.mul_lt F b;clear a hK;go_wp2
   go_region_with (go_at_call 139;refine(jF (Y k) F b m _).mono ?_;rintro e l ⟨rfl,rfl⟩)
   all_goals
    go_wp2;refine⟨⟨k+1,Q0,by go_num,(isRow.step R.out ?_).drew,(c.out.setCell (λ_=>rfl) _).drew⟩,by simp[intOf];omega⟩;rw[u8_xor_nat _ _ d hm]
  .go_wp2
   go_end0
   exact⟨rfl,a.congr (λi v=>by simp;omega),hK⟩
theorem yc(t n F:Nat)(X:Nat->Nat)(w:au)(q:n<=1000)(l:isRow w t n X)(g:∀i,i<n->X i<256)(f:F<256):
 Calls Tryz.prog 253 #[aU t n n,.int .u8 (F:Int)] w λe d=>e=.returned (.tuple #[])/\isRow d t n (λj=>aK.mul (X j) F)/\Keep (λk=>k=t) w d:=by
 go_enter func253,ntmps253
 go_wp2
 go_loopw [4,7] (λ_ i wr=>∃k:Nat,k<=n/\i=ah k/\isRow wr t n (λj=>if j<k then aK.mul (X j) F else X j)/\Keep (λk=>k=t) w wr) (λ_ i _=>n-(intOf i).toNat)
 case atStart=>exact⟨0,bU _,X0,l.congr (λi _=>X0),Keep.refl _ _⟩
 case round=>
  obtain⟨k,p,rfl,a,hK⟩:=hrel;by_cases hlt:k<n
  .have R:Hid (isRow wr t n (λj=>if j<k then aK.mul (X j) F else X j)):=a;have b:Hid (Keep (λk=>k=t) w wr):=hK;have m:wr.cell? (aB t k)=some (.int .u8 ((X k:Nat):Int)):=by have:=a.cell hlt;simpa using this
   have s:=a.frozen k;have c:=g k hlt;clear a hK
   go_wp2_with (go_at_call 139;refine(jF (X k) F c f _).mono ?_;rintro e d ⟨rfl,rfl⟩)
   refine⟨⟨k+1,Q0,by go_num,(isRow.step R.out rfl),(b.out.setCell (λ_=>rfl) _)⟩,by simp[intOf];omega⟩
  .go_wp2
   go_end0
   exact⟨rfl,a.congr (λi o=>by simp;omega),hK⟩
end
end Go.Proofs.YtmhafipgbfaapaaGreatDoor
namespace Go.Proofs.YtmhafipgbfaapaaGreatDoor.aK
section
open Go.Proofs.Tryz
variable {A A0 B : Nat -> Nat -> Nat} {f : Nat -> Nat} {l : List Nat} {m n : Nat}
def sm(n:Nat)(f:Nat->Nat):Nat:=xs ((List.range n).map f)
theorem pU(n:Nat)(f:Nat->Nat):sm (n+1) f=sm n f^^^f n:=by unfold sm;rw[List.range_succ,List.map_append,xk];simp[xs]
theorem bH{g:Nat->Nat}(h:∀i,i<n->f i=g i):sm n f=sm n g:=mH (λi a=>h i (gY.1 a))
theorem Dw(n:Nat)(f g:Nat->Nat):sm n (λi=>f i^^^g i)=sm n f^^^sm n g:=pR _ f g
theorem zM(n c:Nat)(f:Nat->Nat):fm c (sm n f)=sm n (λi=>fm c (f i)):=OU _ c f
theorem WY(n c:Nat)(f:Nat->Nat):fm (sm n f) c=sm n (λi=>fm (f i) c):=WX _ c f
theorem Kq(h:∀i,i<n->f i=0):sm n f=0:=Dv (λi a=>h i (gY.1 a))
theorem Kr(n m:Nat)(f:Nat->Nat->Nat):sm n (λi=>sm m (λj=>f i j))=sm m (λj=>sm n (λi=>f i j)):=TG _ _ f
theorem Kt(h:∀i,i<n->f i<256):sm n f<256:=by apply WW;simp only[gQ,gY];rintro a ⟨i,b,rfl⟩;exact h i b
theorem kP{i:Nat}(f:Nat->Nat)(b:i<n):sm n (λj=>if j=i then f j else 0)=f i:=by
 induction n with
 |zero=>omega
 |succ n a=>
  rw[pU];by_cases e:i=n
  .subst e;rw[Kq (λj c=>by rw[av Q0])];simp
  .rw[a Q0,av (λh=>e h.symm),nM]
structure Inv(n m:Nat)(A0 A B:Nat->Nat->Nat):Prop where
 ba:∀r j,r<n->j<n->A r j<256
 bb:∀r j,r<n->j<n->B r j<256
 prod:∀r c,r<n->c<n->A r c=sm n (λl=>fm (B r l) (A0 l c))
 ker:∀x:Nat->Nat,(∀r,r<n->sm n (λc=>fm (A r c) (x c))=0)->∀r,r<n->sm n (λc=>fm (A0 r c) (x c))=0
 unit:∀r c,r<n->c<m->A r c=if r=c then 1 else 0
theorem Inv.start(h:∀r j,r<n->j<n->A0 r j<256):Inv n 0 A0 A0 (λr c=>if r=c then 1 else 0):=by
 refine⟨h,λr j _ _=>by split<;>decide,λr c d a=>?_,λx f=>f,λr c _ a=>aF a (dO _)⟩;rw[bH (g:=λl=>if l=r then A0 l c else 0),kP _ d];intro l b;by_cases e:r=l
 .subst e;simp only[if_true];rw[uy,eP (h _ _ b a)]
 .rw[av e,av (λh=>e h.symm)];exact pO _
def TH(n:Nat)(A:Nat->Nat->Nat):Prop:=∀x:Nat->Nat,(∀j,j<n->x j<256)->(∀r,r<n->sm n (λc=>fm (A r c) (x c))=0)->∀j,j<n->x j=0
theorem Inv.pivot(h:Inv n m A0 A B)(g:m<n)(v:TH n A0):∃p,m<=p/\p<n/\A p m≠0:=by
 apply Classical.byContradiction;intro k;have z:∀p,m<=p->p<n->A p m=0:=λp o q=>Classical.byContradiction λs=>k ⟨p,o,q,s⟩
 let x:Nat->Nat:=λc=>if c=m then 1 else if c<m then A c m else 0
 have l:∀j,j<n->x j<256:=λj u=>by
  show(if j=m then 1 else if j<m then A j m else 0)<256
  split
  .decide
  .split
   .exact h.ba j m u g
   .decide
 have key:∀r,r<n->sm n (λc=>fm (A r c) (x c))=0:=by
  intro r d;have e:sm n (λc=>fm (A r c) (x c))=sm n (λc=>(if c=r then(if r<m then A r m else 0)else 0)^^^(if c=m then A r m else 0)):=by
   apply bH;intro c t;show fm (A r c) (if c=m then 1 else if c<m then A c m else 0)=_;by_cases i:c=m
   .subst i;rw[aI rfl,aI rfl,uw,eP (h.ba r c d t)];by_cases a:c=r
    .subst a;simp
    .simp[a]
   .rw[av i,av i];by_cases a:c<m
    .rw[aI a,h.unit r c d a];by_cases b:r=c
     .subst b;simp only[if_true,a];rw[uy,eP (h.ba r m d g),nM]
     .rw[av b,av (λh=>b h.symm),pO];rfl
    .rw[av a,kI];by_cases b:c=r
     .subst b;simp[a]
     .simp[b]
  rw[e,Dw,kP (f:=λ_=>if r<m then A r m else 0) d,kP (f:=λ_=>A r m) g];by_cases a:r<m
  .simp[a]
  .simp[a,z r Q0 d]
 have:=v x l (h.ker x key) m g;have e:x m=1:=by show(if m=m then 1 else _)=1;simp
 rw[e]at this;cases this
def swp(m p r:Nat):Nat:=if r=m then p else if r=p then m else r
theorem iZ{p r:Nat}(h:m<n)(a:p<n)(b:r<n):swp m p r<n:=by unfold swp;split<;>(try split)<;>omega
theorem Dx(m p r:Nat):swp m p (swp m p r)=r:=by
 unfold swp;by_cases a:r=m
 .subst a;by_cases e:p=r
  .simp[e]
  .simp[e]
 .by_cases e:r=p
  .subst e;simp[a]
  .simp[a,e]
theorem Inv.swap{p:Nat}(h:Inv n m A0 A B)(b:m<n)(k:m<=p)(d:p<n):Inv n m A0 (λr=>A (swp m p r)) (λr=>B (swp m p r)):=by
 refine⟨λr j a f=>h.ba _ j (iZ b d a) f,λr j a f=>h.bb _ j (iZ b d a) f,λr c a e=>h.prod _ c (iZ b d a) e,λx l=>h.ker x (λr a=>?_),λr c a e=>?_⟩
 .have:=l (swp m p r) (iZ b d a);rwa[Dx]at this
 .rw[h.unit _ c (iZ b d a) e];unfold swp;by_cases g:r=m
  .subst g;simp only[if_true];rw[av Q0,av Q0]
  .rw[av g];by_cases i:r=p
   .subst i;rw[aI rfl,av Q0,av Q0]
   .rw[av i]
def EL(A:Nat->Nat->Nat)(m f:Nat):Nat->Nat->Nat:=λr j=>if r=m then mul (A r j) f else A r j
theorem Inv.scale{f:Nat}(h:Inv n m A0 A B)(w:m<n)(q:f<256)(o:f≠0):Inv n m A0 (EL A m f) (EL B m f):=by
 have s:∀(C:Nat->Nat->Nat),(∀r j,r<n->j<n->C r j<256)->∀r j,r<n->j<n->EL C m f r j=if r=m then fm f (C r j)else C r j:=by
  intro C u r j b k;unfold EL;by_cases e:r=m
  .subst e;rw[aI rfl,aI rfl,gJ,EY (u r j b k) q]
  .rw[av e,av e]
 refine⟨λr j b k=>?_,λr j b k=>?_,λr c b d=>?_,λx v=>h.ker x (λr b=>?_),λr c b d=>?_⟩
 .rw[s A h.ba r j b k];split
  .exact tF _ _
  .exact h.ba r j b k
 .rw[s B h.bb r j b k];split
  .exact tF _ _
  .exact h.bb r j b k
 .rw[s A h.ba r c b d];by_cases e:r=m
  .subst e;rw[aI rfl,h.prod r c b d,zM];apply bH;intro l p;rw[s B h.bb r l b p,aI rfl,eD]
  .rw[av e,h.prod r c b d];apply bH;intro l p;rw[s B h.bb r l b p,av e]
 .have:=v r b;by_cases e:r=m
  .subst e;rw[bH (g:=λc=>fm f (fm (A r c) (x c))) (λc d=>by rw[s A h.ba r c b d,aI rfl,eD]),<-zM]at this;have t:=oG (a:=f) (by rw[eP q];exact o) this;rwa[eP (Kt λi _=>tF _ _)]at t
  .rwa[bH (g:=λc=>fm (A r c) (x c)) (λc d=>by rw[s A h.ba r c b d,av e])]at this
 .rw[s A h.ba r c b Q0,h.unit r c b d];by_cases e:r=m
  .subst e;rw[aI rfl,av Q0,kI]
  .rw[av e]
def TI(n:Nat)(A C:Nat->Nat->Nat)(m:Nat):Nat->Nat->Nat:=λr j=>if r<n/\r≠m then C r j^^^mul (C m j) (A r m)else C r j
theorem Inv.clear(h:Inv n m A0 A B)(d:m<n)(q:A m m=1):Inv n (m+1) A0 (TI n A A m) (TI n A B m):=by
 have s:∀(C:Nat->Nat->Nat),(∀r j,r<n->j<n->C r j<256)->∀r j,r<n->j<n->TI n A C m r j=C r j^^^(if r=m then 0 else fm (A r m) (C m j)):=by
  intro C v r j a f;unfold TI;by_cases e:r=m
  .subst e;simp
  .rw[aI ⟨a,e⟩,av e,gJ,EY (v m j d f) (h.ba r m a d)]
 refine⟨λr j a f=>?_,λr j a f=>?_,λr c a b=>?_,λx t=>h.ker x (λr a=>?_),λr c a b=>?_⟩
 .rw[s A h.ba r j a f];exact fD (h.ba r j a f) (by split;decide;exact tF _ _)
 .rw[s B h.bb r j a f];exact fD (h.bb r j a f) (by split;decide;exact tF _ _)
 .rw[s A h.ba r c a b,h.prod r c a b,h.prod m c d b];by_cases e:r=m
  .rw[aI e,nM];apply bH;intro l o;rw[s B h.bb r l a o,aI e,nM]
  .rw[av e,zM,<-Dw];apply bH;intro l o;rw[s B h.bb r l a o,av e,Du,eD]
 .have k:sm n (λc=>fm (A m c) (x c))=0:=by
   have:=t m d;rwa[bH (g:=λc=>fm (A m c) (x c)) (λc b=>by rw[s A h.ba m c d b,aI rfl,nM])]at this
  by_cases e:r=m
  .subst e;exact k
  .have:=t r a;rw[bH (g:=λc=>fm (A r c) (x c)^^^fm (A r m) (fm (A m c) (x c))) (λc b=>by rw[s A h.ba r c a b,av e,Du,eD]),Dw,<-zM,k,kI,nM]at this;exact this
 .by_cases p:c=m
  .subst p;rw[s A h.ba r c a d];by_cases e:r=c
   .subst e;simp[q]
   .rw[av e,av e,q,uw,eP (h.ba r c a d),Nat.xor_self]
  .have i:c<m:=by omega
   have u:(if m=c then 1 else 0)=0:=av (λh=>p h.symm);rw[s A h.ba r c a Q0,h.unit r c a i,h.unit m c d i,u,kI];by_cases e:r=m
   .rw[aI e,nM]
   .rw[av e,nM]
theorem Inv.done(h:Inv n n A0 A B):∀r c,r<n->c<n->sm n (λl=>fm (B r l) (A0 l c))=if r=c then 1 else 0:=by intro r c b a;rw[<-h.prod r c b a,h.unit r c b a]
def entry(k n j:Nat):Nat:=if n<k then(if j=n then 1 else 0)else inv (n^^^j)
theorem E9(k n j:Nat)(a:n<256)(h:j<256):entry k n j<256:=by
 unfold entry
 split
 .split<;>decide
 .exact uq _ (fD a h)
theorem Cg(p:Nat->Bool)(h:∀a∈l,p a=false->f a=0):xs (l.map f)=xs ((l.filter p).map f):=by
 induction l with
 |nil=>rfl
 |cons a l i=>
  have:=i (λb hb=>h b J7);by_cases e:p a=true
  .simp[e,xs,this]
  .simp[e,xs,this,h a X0 (by simpa using e)]
theorem same_length{r:List Nat}(b:l.Nodup)(c:r.Nodup)(h:∀a,a∈l↔a∈r):l.length=r.length:=((List.perm_ext_iff_of_nodup b c).2 h).length_eq
theorem yg(l:List Nat)(p:Nat->Bool):(l.filter p).length+(l.filter λa=> !p a).length=l.length:=by
 induction l with
 |nil=>rfl
 |cons a l i=>by_cases e:p a=true<;>simp[e]<;>omega
theorem Ch(c:l.Nodup)(h:∀a b,a∈l->b∈l->f a=f b->a=b):(l.map f).Nodup:=by
 induction l with
 |nil=>simp
 |cons a l i=>rw[List.nodup_cons]at c;rw[kM,List.nodup_cons];refine⟨λm=>?_,i c.2 (λx y hx hy=>h x y Y5 O5)⟩;obtain⟨b,hb,e⟩:=gQ.1 m;have:=h b a J7 X0 e;subst this;exact c.1 hb
theorem MI(k:Nat)(T:Nat->Nat)(P:k<=128)(C:∀l,l<k->T l<128)(n:∀a b,a<k->b<k->T a=T b->a=b):TH k (λl j=>entry k (T l) j):=by
 intro x B D
 let L:=(List.range k).map T
 have E:L.Nodup:=Ch List.nodup_range (λa b i J=>n a b (gY.1 i) (gY.1 J));have A:∀a,a∈L↔∃l,l<k/\T l=a:=λa=>by simp[L]
 have F:∀j,j<k->j∈L->x j=0:=by
  intro j d q;obtain⟨l,m,e⟩:=(A j).1 q;have h:=D l m;rw[bH (g:=λc=>if c=j then x c else 0),kP _ d]at h
  .exact h
  .intro c w;show fm (entry k (T l) c) (x c)=_;rw[e];unfold entry;rw[aI d];by_cases r:c=j
   .subst r;rw[aI rfl,aI rfl,uy,eP (B c w)]
   .rw[av r,av r,pO]
 let Y:=(List.range k).filter λj=> !(L.contains j)
 let X:=L.filter λa=> !(decide (a<k))
 have t:∀y,y∈Y↔y<k/\y∉L:=λy=>by simp[Y]
 have s:∀a,a∈X↔a∈L/\k<=a:=λa=>by simp[X]
 have p:X.length=Y.length:=by
  have G:=yg (List.range k) (λj=>L.contains j);have H:=yg L (λa=>decide (a<k));have M:((List.range k).filter λj=>L.contains j).length=(L.filter λa=>decide (a<k)).length:=by apply same_length (List.nodup_range.filter _) (E.filter _);intro a;simp only[List.mem_filter,gY,List.contains_iff_mem,decide_eq_true_eq];exact⟨λh=>⟨h.2,h.1⟩,λh=>⟨h.2,h.1⟩⟩
  have N:L.length=k:=by simp[L]
  have O:(List.range k).length=k:=List.length_range;show(L.filter λa=> !(decide (a<k))).length=((List.range k).filter λj=> !(L.contains j)).length;omega
 have K:=XJ Y X x p (λa i=>by obtain⟨l,m,rfl⟩:=(A a).1 ((s a).1 i).1;have:=C l m;omega) (λy z=>by have:=((t y).1 z).1;omega)
  (E.filter _) (List.nodup_range.filter _) (λa i y z=>by have G:=((s a).1 i).2;have H:=((t y).1 z).1;omega) ?_
 .intro j d;by_cases q:j∈L
  .exact F j d q
  .have:=K j ((t j).2 ⟨d,q⟩);rwa[eP (B j d)]at this
 .intro a i;obtain⟨v,I⟩:=(s a).1 i;obtain⟨l,m,e⟩:=(A a).1 v;have u:a<128:=by rw[<-e];exact C l m
  have h:=D l m;show xs (((List.range k).filter λj=> !(L.contains j)).map λy=>fm (x y) (fi (a^^^y)))=0;rw[<-Cg (l:=List.range k) (f:=λy=>fm (x y) (fi (a^^^y))) (λj=> !(L.contains j))]
  .rw[<-h];apply mH;intro j d;have o:=gY.1 d;rw[gJ]
   congr 1
   show fi (a^^^j)=entry k (T l) j;rw[e];unfold entry;rw[av Q0,aaA (fD Q0 Q0)]
  .intro j d w;have o:=gY.1 d;rw[F j o (by simpa using w),pO]
end
end Go.Proofs.YtmhafipgbfaapaaGreatDoor.aK
namespace Go.Proofs.YtmhafipgbfaapaaGreatDoor
section
open Go.Proofs.Tryz
open Go Go.RowKit Go.MuLone
variable {A B C M : Nat -> Nat -> Nat} {L : List (Nat × Nat)} {N R RA RB X Y : Nat -> Nat} {V : Nat -> Nat -> aA} {a : Option Addr} {d c g ga gb i j k m n p : Nat} {f : Nat -> aA} {l : List Nat} {o : Obj} {u v : aA} {w w' t : au}
theorem lI(n c:Nat)(A:n<=1000)(x:c<=1000)(w:au):
 Calls Tryz.prog 250 #[ah n,ah c] w λe w'=>e=.returned (aU w.heap.size n n)/\bQ w' w.heap.size n c (λi=>w.heap.size+1+i) (λ_ _=>0)/\Keep bD w w':=by
 have t:=run_make_row' (P:=Tryz.prog) 285 95 (.slice none 0 0) 24 underlying285 MH rfl .i64 .i64 n Q0 Q0;have u:=run_make_row' (P:=Tryz.prog) 95 5 (.int .u8 0) 1 underlying95 infoByte rfl .i64 .i64 c Q0 Q0
 go_enter func250,ntmps250
 go_wp2
 go_loopw [6,11] (λ_ i wr=>∃k:Nat,k<=n/\i=ah k/\wr.heap.size=w.heap.size+1+k/\wr.rowIs w.heap.size 95 n (λi=>if i<k then aU (w.heap.size+1+i) c c else .slice none 0 0)/\(∀i,i<k->isRow wr (w.heap.size+1+i) c (λ_=>0))/\Keep bD w wr) (λ_ i _=>n-(intOf i).toNat)
 case atStart=>exact⟨0,bU _,X0,X0,World.rowIs.congr (World.rowIs_made w _ n _) (λi _=>X0),λi f=>aF f (dO _),(Keep.refl _ w).alloc _⟩
 case round=>
  obtain⟨k,y,rfl,q,d,a,hK⟩:=hrel;by_cases hlt:k<n
  .have Z:Hid (wr.heap.size=w.heap.size+1+k):=q;have s:Hid (wr.rowIs w.heap.size 95 n (λi=>if i<k then aU (w.heap.size+1+i) c c else .slice none 0 0)):=d;have R:Hid (∀i,i<k->isRow wr (w.heap.size+1+i) c (λ_=>0)):=a;have g:Hid (Keep bD w wr):=hK;have m:w.heap.size<wr.heap.size:=by omega
   have v:∀o,(wr.alloc o).cell? (aB w.heap.size k)=some (.slice none 0 0):=λo=>by have:=(d.alloc o).cell hlt;simpa using this
   have B:∀o,(wr.alloc o).frozen? (aB w.heap.size k)=false:=λo=>(d.alloc o).frozen k;clear q d a hK;go_wp2;have b:=Z.out;refine⟨⟨k+1,Q0,by go_num,by simp[b];omega,?_,?_,(g.out.setCell (p:=⟨w.heap.size,k,none⟩) (λh=>aF h (iQ _)) _).alloc _⟩,by simp[intOf];omega⟩
   .refine World.rowIs.congr ((s.out.set k _).alloc _) (λi _=>?_);by_cases e:i=k
    .subst e;simp[b]
    .by_cases l:i<k
     .simp[e,l,oq l]
     .simp[e,l,show¬i<k+1 by omega]
   .intro i f;by_cases e:i=k
    .subst e;have:=World.rowIs_made (wr.setCell (aB w.heap.size i) (aU wr.heap.size c c)) (.int .u8 0) c 5;rw[show(wr.setCell (aB w.heap.size i) (aU wr.heap.size c c)).heap.size=w.heap.size+1+i from by simp[b]]at this;exact this
    .exact World.rowIs.alloc (World.rowIs.setOther (R.out i Q0) M4 _) _
  .have:k=n:=by omega
   subst this;go_wp2
   go_ret
   refine⟨rfl,⟨d.congr (λi f=>by simp[f]),a,λi j _ _ e=>Q0,λi _=>Q0⟩,hK⟩
theorem bQ.congr{N:Nat->Nat->Nat}(h:bQ w g n c R M)(e:∀i j,i<n->j<c->M i j=N i j):bQ w g n c R N:=⟨h.outer,λi a=>(h.rows i a).congr (λj b=>e i j a b),h.inj,h.off⟩
theorem bQ.setRow(h:bQ w g n c R M)(f:i<n)(k:Keep (λb=>b=R i) w w')(l:isRow w' (R i) c X):bQ w' g n c R (λa=>if a=i then X else M a):=by
 refine⟨k.row h.outer (Ne.symm (h.off i f)),λa d=>?_,h.inj,h.off⟩;by_cases e:a=i
 .subst e;simpa using l
 .simp only[e,if_false];exact(h.rows a d).keep k (λj=>e (h.inj a i d f j))
theorem bQ.setCell{v:Nat}(h:bQ w g n c R M)(d:i<n):bQ (w.setCell (aB (R i) j) (.int .u8 ((v:Nat):Int))) g n c R (λa b=>if a=i/\b=j then v else M a b):=by
 refine(h.setRow d ((Keep.refl (λb=>b=R i) w).setCell (p:=⟨R i,j,none⟩) (λ_=>rfl) _) ((h.rows i d).set j v)).congr (λa b _ _=>?_);by_cases e:a=i
 .subst e;by_cases f:b=j<;>simp[f]
 .simp[e]
theorem bQ.drew(h:bQ w g n c R M):bQ w.drew g n c R M:=⟨h.outer,h.rows,h.inj,h.off⟩
theorem bQ.cell(h:bQ w g n c R M)(a:i<n):w.cell? (aB g i)=some (aU (R i) c c):=World.rowIs.cell h.outer a
def jK(w:au)(a:Option Addr)(n:Nat)(N:Nat->Nat):Prop:=n=0\/∃b,a=some ⟨b,0,none⟩/\b<w.heap.size/\∀i,i<n->w.cell? (aB b i)=some (ah (N i:Nat))
theorem jK.keep{S:aD}(h:jK w a n N)(k:Keep S w w')(d:∀b,a=some ⟨b,0,none⟩->¬S b):jK w' a n N:=by
 obtain h|⟨b,rfl,c,e⟩:=h
 .exact .inl h
 .exact .inr ⟨b,rfl,bG c k.size,λi f=>by rw[k.cell (p:=⟨b,i,none⟩) c (d b rfl)];exact e i f⟩
theorem OW(h:¬N m<k)(x y:Nat):
 (if x=m/\y=j then aK.inv (N m^^^j)else if x<m then aK.entry k (N x) y else if x=m/\y<j then aK.entry k (N x) y else 0)=if x<m then aK.entry k (N x) y else if x=m/\y<j+1 then aK.entry k (N x) y else 0:=by
 by_cases e:x=m
 .subst e;by_cases a:y=j
  .subst a;simp[aK.entry,h]
  .by_cases b:y<j
   .simp[a,b,oq b]
   .simp[a,b,show¬y<j+1 by omega]
 .simp[e]
theorem TJ(x y:Nat)(h:y<k):
 (if x<m then aK.entry k (N x) y else if x=m/\y<k then aK.entry k (N x) y else 0)=if x<m+1 then aK.entry k (N x) y else 0:=by
 by_cases e:x=m
 .subst e;simp[h]
 .by_cases a:x<m
  .simp[a,oq a]
  .simp[e,a,show¬x<m+1 by omega]
theorem vC(a:Option Addr)(n q k:Nat)(N:Nat->Nat)(w:au)(hn:n<=12)(Z:k<=12)(Q:∀i,i<n->N i<128)(I:jK w a n N):
 Calls Tryz.prog 238 #[.slice a n q,ah k] w λe w'=>e=.returned (aU w.heap.size n n)/\bQ w' w.heap.size n k (λi=>w.heap.size+1+i) (λi j=>aK.entry k (N i) j)/\Keep bD w w':=by
 have G:Hid (jK w a n N):=I;clear I
 go_enter func238,ntmps238
 go_wp2_with fail
 refine(lI n k Q0 Q0 _).mono ?_;rintro e E ⟨rfl,M,hK⟩;have o:Hid (bQ E w.heap.size n k (λi=>w.heap.size+1+i) (λ_ _=>0)):=M;have g:Hid (Keep bD w E):=hK;clear M hK;go_wp2
 go_loopw [6,7,8,15,30] (λ_ _ _ i _ wr=>∃m:Nat,m<=n/\i=ah m/\bQ wr w.heap.size n k (λi=>w.heap.size+1+i) (λa b=>if a<m then aK.entry k (N a) b else 0)/\Keep bD w wr) (λ_ _ _ i _ _=>n-(intOf i).toNat)
 case atStart=>exact⟨0,bU _,X0,o.out.congr (λi j _ _=>X0),g.out⟩
 case round=>
  obtain⟨m,hm,rfl,M,hK⟩:=hrel;by_cases hlt:m<n
  .have I:jK wr a n N:=G.out.keep hK (λ_ _ h=>h);obtain W|⟨b,rfl,X,B⟩:=I
   .omega
   have J:=B m hlt;have O:=M.cell hlt;have s:=Q m hlt;have f:Hid (bQ wr w.heap.size n k (λi=>w.heap.size+1+i) (λa b=>if a<m then aK.entry k (N a) b else 0)):=M;have A:Hid (Keep bD w wr):=hK;clear B M hK;by_cases c:N m<k
   .have V:=(f.out.rows m hlt).frozen (N m);have L:=(f.out.rows m hlt).cell c;have U:(N m:Int)<(k:Int):=by omega
    go_wp2;refine⟨⟨m+1,Q0,by go_num,(f.out.setCell (j:=N m) (v:=1) hlt).congr (λx y R D=>?_),A.out.setCell (λh=>aF h M4) _⟩,by simp[intOf];omega⟩;by_cases e:x=m
    .subst e;by_cases d:y=N x<;>simp[d,aK.entry,c]
    .by_cases d:x<m
     .simp[e,d,oq d]
     .simp[e,d,show¬x<m+1 by omega]
   .have U:¬(N m:Int)<(k:Int):=by omega
    go_wp2
    go_loopw [8,30] (λ_ i F=>∃j:Nat,j<=k/\i=ah j/\bQ F w.heap.size n k (λi=>w.heap.size+1+i) (λa b=>if a<m then aK.entry k (N a) b else if a=m/\b<j then aK.entry k (N a) b else 0)/\Keep bD w F) (λ_ i _=>k-(intOf i).toNat)
    case atStart=>exact⟨0,bU _,X0,f.out.congr (λi j _ _=>X0),A.out⟩
    case round=>
     obtain⟨j,Y,rfl,M,hK⟩:=hrel;by_cases t:j<k
     .clear J O;have O:=M.cell hlt;have V:=(M.rows m hlt).frozen j;have L:=(M.rows m hlt).cell t;have R:=iY (N m) j Q0 Q0;have T:N m^^^j<128:=Nat.xor_lt_two_pow (n:=7) s Q0;have S:((N m^^^j:Nat):Int)<256:=by omega
      have C:=aK.uq (N m^^^j) Q0;have u:N m^^^j<256:=by omega
      have hw:IntKind.u8.wrap ((N m^^^j:Nat):Int)=((N m^^^j:Nat):Int):=by rw[IntKind.wrap_u8'];omega
      have p:Hid (bQ wr w.heap.size n k (λi=>w.heap.size+1+i) (λa b=>if a<m then aK.entry k (N a) b else if a=m/\b<j then aK.entry k (N a) b else 0)):=M;have l:Hid (Keep bD w wr):=hK;have i0:(j:Int)<(k:Int):=by omega
      have i1:(m:Int)<(n:Int):=by omega
      clear M hK;go_wp2
      go_region_with (go_at_call 141;refine(tJ (N m^^^j) u _).mono ?_;rintro e w' ⟨rfl,rfl⟩)
      all_goals
       go_wp2;exact⟨⟨j+1,Q0,by go_num,((p.out.setCell (j:=j) (v:=aK.inv (N m^^^j)) hlt).congr (λx y _ _=>OW c x y)).drew,(l.out.setCell (λh=>aF h M4) _).drew⟩,by simp[intOf];omega⟩
     .have:j=k:=by omega
      subst this;go_wp2;exact⟨⟨m+1,Q0,by go_num,M.congr (λx y _ D=>TJ x y D),hK⟩,by simp[intOf];omega⟩
  .have:m=n:=by omega
   subst this;go_wp2
   go_ret
   exact⟨rfl,M.congr (λi j C _=>by simp[C]),hK⟩
def dot(A B:Nat->Nat->Nat)(i l:Nat):Nat->Nat
 |0=>0
 |m+1=>dot A B i l m^^^aK.mul (B m l) (A i m)
theorem IC{l:Nat}:∀m,(∀j,j<m->B j l<256)->dot A B i l m<256
 |0,_=>by show 0<256;decide
 |m+1,h=>aK.fD (IC m (λj a=>h j Q0)) (aK.mul_lt _ (h m Q0))
theorem OX(x l:Nat):
 (if x=m then(λl=>dot A B m l j^^^aK.mul (B j l) (A m j))else λl=>if x<m then dot A B x l k else if x=m then dot A B x l j else 0) l=if x<m then dot A B x l k else if x=m then dot A B x l (j+1)else 0:=by
 by_cases e:x=m
 .subst e;simp[dot]
 .simp[e]
theorem TP(x l:Nat):
 (if x<m then dot A B x l k else if x=m then dot A B x l k else 0)=if x<m+1 then dot A B x l k else 0:=by
 by_cases e:x=m
 .subst e;simp
 .by_cases a:x<m
  .simp[a,oq a]
  .simp[e,a,show¬x<m+1 by omega]
theorem vD(ga gb n k c:Nat)(RA RB:Nat->Nat)(A B:Nat->Nat->Nat)(w:au)(Z:n<=12)(D:0<k)(Y:k<=12)(W:c<=12)(I:bQ w ga n k RA A)(o:bQ w gb k c RB B)
 (Q:∀i j,i<n->j<k->A i j<256)(G:∀i j,i<k->j<c->B i j<256):
 Calls Tryz.prog 237 #[aU ga n n,aU gb k k] w λe w'=>e=.returned (aU w.heap.size n n)/\bQ w' w.heap.size n c (λi=>w.heap.size+1+i) (λi l=>dot A B i l k)/\Keep bD w w':=by
 have E:Hid (bQ w ga n k RA A):=I;have F:Hid (bQ w gb k c RB B):=o;have lb:=o.outer.lt;have U:=o.cell D;clear I o;have k0:(0:Int)<(k:Int):=by omega
 go_enter func237,ntmps237
 go_wp2_with fail
 refine(lI n c Q0 Q0 _).mono ?_;rintro e J ⟨rfl,M,hK⟩;have u:Hid (bQ J w.heap.size n c (λi=>w.heap.size+1+i) (λ_ _=>0)):=M;have s:Hid (Keep bD w J):=hK;clear M hK;go_wp2
 go_loopw [6,7,8,9,19,24,25,26] (λ_ _ _ _ i _ _ _ wr=>∃m:Nat,m<=n/\i=ah m/\bQ wr w.heap.size n c (λi=>w.heap.size+1+i) (λx l=>if x<m then dot A B x l k else 0)/\Keep bD w wr) (λ_ _ _ _ i _ _ _ _=>n-(intOf i).toNat)
 case atStart=>exact⟨0,bU _,X0,u.out.congr (λi j _ _=>X0),s.out⟩
 case round=>
  obtain⟨m,hm,rfl,M,hK⟩:=hrel;by_cases hlt:m<n
  .have cA:=(E.out.keep hK (λh=>h) (λ_ _ h=>h)).cell hlt;have O:Hid (bQ wr w.heap.size n c (λi=>w.heap.size+1+i) (λx l=>if x<m then dot A B x l k else 0)):=M;have N:Hid (Keep bD w wr):=hK;clear M hK;go_wp2
   go_loopw [8,9,26] (λ_ _ i L=>∃j:Nat,j<=k/\i=ah j/\bQ L w.heap.size n c (λi=>w.heap.size+1+i) (λx l=>if x<m then dot A B x l k else if x=m then dot A B x l j else 0)/\Keep bD w L) (λ_ _ i _=>k-(intOf i).toNat)
   case atStart=>exact⟨0,bU _,X0,O.out.congr (λi j _ _=>by simp[dot]),N.out⟩
   case round=>
    obtain⟨j,X,rfl,M,hK⟩:=hrel;by_cases a:j<k
    .clear cA;have f:=E.out.keep hK (λh=>h) (λ_ _ h=>h);have b:=F.out.keep hK (λh=>h) (λ_ _ h=>h);have R:=(f.rows m hlt).cell a;have S:=b.cell a;have T:=M.cell hlt;have p:Hid (isRow wr (RB j) c (B j)):=b.rows j a;have C:Hid (isRow wr (w.heap.size+1+m) c (λl=>dot A B m l j)):=(M.rows m hlt).congr (λi _=>X0);have hne:w.heap.size+1+m≠RB j:=by have:=(F.out.rows j a).lt;omega
     have y:=Q m j hlt a;have v:Hid (bQ wr w.heap.size n c (λi=>w.heap.size+1+i) (λx l=>if x<m then dot A B x l k else if x=m then dot A B x l j else 0)):=M;have t:Hid (Keep bD w wr):=hK;have i0:(j:Int)<(k:Int):=by omega
     have i1:(m:Int)<(n:Int):=by omega
     clear M hK f b;go_wp2
     go_region_with (go_at_call 251;refine(mI (w.heap.size+1+m) (RB j) c (A m j) (λl=>dot A B m l j) (B j) _ hne Q0 (by exact C.out) (by exact p.out) (by exactλi d=>IC j (λq hq=>G q i Q0 d)) (by exactλi d=>G j i a d) y).mono ?_;rintro e w' ⟨rfl,V,g⟩)
     all_goals
      go_wp2;refine⟨⟨j+1,Q0,by go_num,(v.out.drew.setRow hlt g V).congr (λx l _ _=>?_),t.out.drew.trans g (λi d e=>aF d Q0)⟩,by simp[intOf];omega⟩;exact OX x l
    .have:j=k:=by omega
     subst this;go_wp2;exact⟨⟨m+1,Q0,by go_num,M.congr (λx l _ _=>TP x l),hK⟩,by simp[intOf];omega⟩
  .have:m=n:=by omega
   subst this;go_wp2
   go_ret
   exact⟨rfl,M.congr (λi j d _=>by simp[d]),hK⟩
theorem Fa(g n c i:Nat)(R:Nat->Nat)(M:Nat->Nat->Nat)(w:au)(x:n<=12)(j:i<c)(d:bQ w g n c R M)(hex:∃p,i<=p/\p<n/\M p i≠0):
 Calls Tryz.prog 252 #[aU g n n,ah i] w λe w'=>∃p,i<=p/\p<n/\M p i≠0/\e=.returned (ah (p:Nat))/\w'=w:=by
 obtain⟨q,s,C,t⟩:=hex;have b:Hid (bQ w g n c R M):=d;clear d
 go_enter func252,ntmps252
 go_wp2
 go_loop [5] (λv=>∃p:Nat,i<=p/\p<=q/\v=ah p) (λv=>q-(intOf v).toNat)
 case atStart=>exact⟨i,aS _,s,rfl⟩
 case round=>
  obtain⟨p,o,B,rfl⟩:=hrel;have u:=b.out.cell (show p<n by omega);have f:=(b.out.rows p Q0).cell j;have y:(i:Int)<(c:Int):=by omega
  have A:(p:Int)<(n:Int):=by omega
  by_cases a:M p i=0
  .have l:p≠q:=by rintro rfl;exact t a
   rw[a]at f;go_wp2;exact⟨⟨p+1,Q0,Q0,by go_num⟩,by simp[intOf];omega⟩
  .have m:(((M p i:Nat):Int)==0)=false:=by simpa using a
   go_wp2
   go_ret
   exact⟨p,o,Q0,a,rfl,rfl⟩
structure dL(w:au)(ga gb n c:Nat)(RA RB:Nat->Nat)(A B:Nat->Nat->Nat):Prop where
 a:bQ w ga n c RA A
 b:bQ w gb n c RB B
 x:∀r s,r<n->s<n->RA r≠RB s
 xa:∀r,r<n->RA r≠gb
 xb:∀r,r<n->RB r≠ga
 xg:ga≠gb
def jZ(ga gb n:Nat)(RA RB:Nat->Nat):aD:=λb=>b=ga\/b=gb\/∃r,r<n/\(b=RA r\/b=RB r)
theorem dL.aaD(h:dL w ga gb n c RA RB A B)(d:i<n)(k:Keep (λb=>b=RA i) w w')(f:isRow w' (RA i) c X):dL w' ga gb n c RA RB (λa=>if a=i then X else A a) B:=⟨h.a.setRow d k f,h.b.keep k (λe=>h.xa i d e.symm) (λr g e=>h.x i r d g e.symm),h.x,h.xa,h.xb,h.xg⟩
theorem dL.aaE(h:dL w ga gb n c RA RB A B)(d:i<n)(k:Keep (λb=>b=RB i) w w')(f:isRow w' (RB i) c X):dL w' ga gb n c RA RB A (λa=>if a=i then X else B a):=⟨h.a.keep k (λe=>h.xb i d e.symm) (λr g e=>h.x r i g d e),h.b.setRow d k f,h.x,h.xa,h.xb,h.xg⟩
theorem dL.congr{d e:Nat->Nat->Nat}(h:dL w ga gb n c RA RB A B)(f:∀i j,i<n->j<c->A i j=d i j)(g:∀i j,i<n->j<c->B i j=e i j):dL w ga gb n c RA RB d e:=⟨h.a.congr f,h.b.congr g,h.x,h.xa,h.xb,h.xg⟩
theorem dL.drew(h:dL w ga gb n c RA RB A B):dL w.drew ga gb n c RA RB A B:=⟨h.a.drew,h.b.drew,h.x,h.xa,h.xb,h.xg⟩
theorem adL{r:Nat}(h:r<n):jZ ga gb n RA RB (RA r):=.inr (.inr ⟨r,h,.inl rfl⟩)
theorem adM{r:Nat}(h:r<n):jZ ga gb n RA RB (RB r):=.inr (.inr ⟨r,h,.inr rfl⟩)
def rT(A C:Nat->Nat->Nat)(i m:Nat):Nat->Nat->Nat:=λr j=>if r<m/\r≠i then C r j^^^aK.mul (C i j) (A r i)else C r j
theorem Fb(r j:Nat):rT A C m m r j=rT A C m (m+1) r j:=by
 unfold rT;by_cases e:r=m
 .subst e;simp
 .by_cases a:r<m
  .simp[a,oq a]
  .simp[a,show¬r<m+1 by omega]
theorem Fe(e:m≠i)(r j:Nat):(if r=m then(λj=>rT A C i m m j^^^aK.mul (rT A C i m i j) (A m i))else rT A C i m r) j=rT A C i (m+1) r j:=by
 by_cases h:r=m
 .subst h;simp[rT,e]
 .unfold rT;by_cases a:r<m
  .simp[h,a,oq a]
  .simp[h,a,show¬r<m+1 by omega]
theorem Dy(c:i<n)(b:∀r j,r<n->j<n->C r j<256)(r j:Nat)(a:r<n)(h:j<n):rT A C i m r j<256:=by
 unfold rT
 split
 .exact aK.fD (b r j a h) (aK.mul_lt _ (b i j c h))
 .exact b r j a h
theorem Fg(ga gb n i:Nat)(RA RB:Nat->Nat)(A B:Nat->Nat->Nat)(w:au)(Y:n<=12)(c:i<n)(T:dL w ga gb n n RA RB A B)(x:∀r j,r<n->j<n->A r j<256)(E:∀r j,r<n->j<n->B r j<256):
 Calls Tryz.prog 254 #[aU ga n n,aU gb n n,ah i] w λe w'=>e=.returned (.tuple #[])/\dL w' ga gb n n RA RB (rT A A i n) (rT A B i n)/\Keep (jZ ga gb n RA RB) w w':=by
 go_enter func254,ntmps254
 go_wp2
 go_loopw [6,7,10] (λ_ _ v wr=>∃m:Nat,m<=n/\v=ah m/\dL wr ga gb n n RA RB (rT A A i m) (rT A B i m)/\Keep (jZ ga gb n RA RB) w wr) (λ_ _ v _=>n-(intOf v).toNat)
 case atStart=>exact⟨0,bU _,X0,T.congr (λr j _ _=>by simp[rT]) (λr j _ _=>by simp[rT]),Keep.refl _ _⟩
 case round=>
  obtain⟨m,hm,rfl,d,hK⟩:=hrel;by_cases hlt:m<n
  .have M:=d.a.cell hlt;have N:wr.cell? (aB (RA m) i)=some (.int .u8 ((A m i:Nat):Int)):=by have:=(d.a.rows m hlt).cell c;simpa[rT]using this
   have O:=d.a.cell c;have S:=d.b.cell hlt;have c5:=d.b.cell c;have Z:(i:Int)<(n:Int):=by omega
   have i1:(m:Int)<(n:Int):=by omega
   have l:Hid (dL wr ga gb n n RA RB (rT A A i m) (rT A B i m)):=d;have D:Hid (Keep (jZ ga gb n RA RB) w wr):=hK;clear d hK;by_cases e:m=i
   .subst e;go_wp2;refine⟨⟨m+1,Q0,by go_num,l.out.congr (λr j _ _=>?_) (λr j _ _=>?_),D.out⟩,by simp[intOf];omega⟩
    .exact Fb r j
    .exact Fb r j
   .have hne:((m:Int)!=(i:Int))=true:=by simpa using(λh=>e Q0)
    have o:=x m i hlt c;have F:=l.out.a.inj m i hlt c;have q:=l.out.b.inj m i hlt c;have U:RA m≠RA i:=λh=>e (F h);have V:RB m≠RB i:=λh=>e (q h);have G:Hid (isRow wr (RA m) n (rT A A i m m)):=l.out.a.rows m hlt;have I:Hid (isRow wr (RA i) n (rT A A i m i)):=l.out.a.rows i c;clear F q;go_wp2
    go_region_with (go_at_call 251;refine(mI (RA m) (RA i) n (A m i) (rT A A i m m) (rT A A i m i) _ U Q0 (by exact G.out) (by exact I.out) (by exactλj g=>Dy c x m j hlt g) (by exactλj g=>Dy c x i j c g) o).mono ?_;rintro e s ⟨rfl,R,f⟩)
    all_goals
     have Q:=l.out.drew.aaD hlt f R;have W:=Q.b.cell hlt;have X:=Q.b.cell c;have J:Hid (isRow s (RB m) n (rT A B i m m)):=Q.b.rows m hlt;have L:Hid (isRow s (RB i) n (rT A B i m i)):=Q.b.rows i c;have u:Hid (dL s ga gb n n RA RB (λa=>if a=m then(λj=>rT A A i m m j^^^aK.mul (rT A A i m i j) (A m i))else rT A A i m a) (rT A B i m)):=Q;have t:Hid (Keep (jZ ga gb n RA RB) w s):=D.out.drew.trans f (λb _ C=>C▸adL hlt);clear Q R f M N O S c5;go_wp2
     go_region_with (go_at_call 251;refine(mI (RB m) (RB i) n (A m i) (rT A B i m m) (rT A B i m i) _ V Q0 (by exact J.out) (by exact L.out) (by exactλj g=>Dy c E m j hlt g) (by exactλj g=>Dy c E i j c g) o).mono ?_;rintro e w2 ⟨rfl,y,p⟩)
     all_goals
      go_wp2;exact⟨⟨m+1,Q0,by go_num,(u.out.drew.aaE hlt p y).congr (λr j _ _=>Fe e r j) (λr j _ _=>Fe e r j),t.out.drew.trans p (λb _ C=>C▸adM hlt)⟩,by simp[intOf];omega⟩
  .have:m=n:=by omega
   subst this;go_wp2
   go_end0
   exact⟨rfl,d,hK⟩
theorem IE{t:Nat}(h:w.rowIs g t n f):((w.setCell (aB g i) u).setCell (aB g p) v).rowIs g t n (λj=>if j=p then v else if j=i then u else f j):=(h.set i u).set p v
theorem bQ.swap(h:bQ w g n c R M)(f:i<n)(k:p<n):
 bQ ((w.setCell (aB g i) (aU (R p) c c)).setCell (aB g p) (aU (R i) c c)) g n c (λr=>R (aK.swp i p r)) (λr=>M (aK.swp i p r)):=by
 refine⟨(IE h.outer).congr (λj _=>?_),λr l=>?_,λa b o q e=>?_,λr l=>h.off _ (aK.iZ f k l)⟩
 .unfold aK.swp;by_cases m:j=p
  .subst m;by_cases d:j=i
   .subst d;simp
   .simp[d]
  .by_cases d:j=i
   .subst d;simp[m]
   .simp[m,d]
 .have:=h.rows (aK.swp i p r) (aK.iZ f k l);exact World.rowIs.setOther (World.rowIs.setOther this (h.off _ (aK.iZ f k l)) _) (h.off _ (aK.iZ f k l)) _
 .have:=h.inj _ _ (aK.iZ f k o) (aK.iZ f k q) e;have d:aK.swp i p (aK.swp i p a)=aK.swp i p (aK.swp i p b):=by rw[this]
  rwa[aK.Dx,aK.Dx]at d
theorem rU{S:aD}(k:Keep S t w)(h:g<t.heap.size->S g):Keep S t ((w.setCell (aB g i) u).setCell (aB g p) v):=(k.setCell (p:=⟨g,i,none⟩) h u).setCell (p:=⟨g,p,none⟩) h v
theorem dL.aaF(h:dL w ga gb n c RA RB A B)(d:i<n)(e:p<n):
 dL ((w.setCell (aB ga i) (aU (RA p) c c)).setCell (aB ga p) (aU (RA i) c c)) ga gb n c (λr=>RA (aK.swp i p r)) RB (λr=>A (aK.swp i p r)) B:=
 ⟨h.a.swap d e,h.b.keep (rU (S:=λb=>b=ga) (Keep.refl _ w) (λ_=>rfl)) (Ne.symm h.xg) h.xb,λ_ s f g=>h.x _ s (aK.iZ d e f) g,λ_ f=>h.xa _ (aK.iZ d e f),h.xb,h.xg⟩
theorem dL.aaG(h:dL w ga gb n c RA RB A B)(d:i<n)(e:p<n):
 dL ((w.setCell (aB gb i) (aU (RB p) c c)).setCell (aB gb p) (aU (RB i) c c)) ga gb n c RA (λr=>RB (aK.swp i p r)) A (λr=>B (aK.swp i p r)):=
 ⟨h.a.keep (rU (S:=λb=>b=gb) (Keep.refl _ w) (λ_=>rfl)) h.xg h.xa,h.b.swap d e,λr _ f s=>h.x r _ f (aK.iZ d e s),h.xa,λ_ f=>h.xb _ (aK.iZ d e f),h.xg⟩
def eU(ga n:Nat)(RA:Nat->Nat):aD:=λb=>b=ga\/∃r,r<n/\b=RA r
theorem vE(ga n:Nat)(R:Nat->Nat)(q:Nat->Nat->Nat)(w:au)(hn:n<=12)(hA:bQ w ga n n R q)(bA:∀i j,i<n->j<n->q i j<256)(hs:aK.TH n q):
 Calls Tryz.prog 239 #[aU ga n n] w λe w'=>e=.returned (aU w.heap.size n n)/\(∃RB B,bQ w' w.heap.size n n RB B/\(∀i j,i<n->j<n->B i j<256)/\(∀r c,r<n->c<n->aK.sm n (λl=>aK.fm (B r l) (q l c))=if r=c then 1 else 0))/\Keep (eU ga n R) w w':=by
 have HA:Hid (bQ w ga n n R q):=hA;have lga:=hA.outer.lt;clear hA
 go_enter func239,ntmps239
 go_wp2_with fail
 refine(lI n n Q0 Q0 _).mono ?_;rintro e w1 ⟨rfl,M,hK⟩;have HM1:Hid (bQ w1 w.heap.size n n (λi=>w.heap.size+1+i) (λ_ _=>0)):=M;have C:Hid (Keep bD w w1):=hK;clear M hK;go_wp2
 go_loopw [4,15] (λ_ i wr=>∃m:Nat,m<=n/\i=ah m/\bQ wr w.heap.size n n (λi=>w.heap.size+1+i) (λx y=>if x<m then(if x=y then 1 else 0)else 0)/\Keep bD w wr) (λ_ i _=>n-(intOf i).toNat)
 case atStart=>exact⟨0,bU _,X0,HM1.out.congr (λi j _ _=>X0),C.out⟩
 case round=>
  obtain⟨m,hm,rfl,M,hK⟩:=hrel;by_cases hlt:m<n
  .have T:=M.cell hlt;have c2:=(M.rows m hlt).cell hlt;have z2:=(M.rows m hlt).frozen m;have i1:(m:Int)<(n:Int):=by omega
   have HM:Hid (bQ wr w.heap.size n n (λi=>w.heap.size+1+i) (λx y=>if x<m then(if x=y then 1 else 0)else 0)):=M;have Y:Hid (Keep bD w wr):=hK;clear M hK;go_wp2;refine⟨⟨m+1,Q0,by go_num,(HM.out.setCell (j:=m) (v:=1) hlt).congr (λx y _ _=>?_),Y.out.setCell (λh=>aF h M4) _⟩,by simp[intOf];omega⟩;by_cases e:x=m
   .subst e;by_cases U:y=x
    .subst U;simp
    .simp[U,Ne.symm U]
   .by_cases U:x<m
    .simp[e,U,oq U]
    .simp[e,U,show¬x<m+1 by omega]
  .have hP:dL wr ga w.heap.size n n R (λi=>w.heap.size+1+i) q (λx y=>if x=y then 1 else 0):=
    ⟨HA.out.keep hK (λh=>h) (λ_ _ h=>h),M.congr (λx y hx _=>by simp[show x<m by omega]),λr s t _ e=>by have:=(HA.out.rows r t).lt;have U:R r=w.heap.size+1+s:=e;omega,λr t e=>by have:=(HA.out.rows r t).lt;omega,λr _=>by show w.heap.size+1+r≠ga;omega,Q0⟩
   have D:Hid (dL wr ga w.heap.size n n R (λi=>w.heap.size+1+i) q (λx y=>if x=y then 1 else 0)):=hP;have Y:Hid (Keep (eU ga n R) w wr):=hK.mono (λ_ _ h=>h.elim);clear hP M hK HM1 C;go_wp2
   go_loopw [5,6,7,27] (λ_ _ _ i wx=>∃m:Nat,∃RA RB A B,m<=n/\i=ah m/\aK.Inv n m q A B/\dL wx ga w.heap.size n n RA RB A B/\(∀r,r<n->eU ga n R (RA r))/\(∀r,r<n->w.heap.size<=RB r)/\Keep (eU ga n R) w wx) (λ_ _ _ i _=>n-(intOf i).toNat)
   case atStart=>exact⟨0,R,λi=>w.heap.size+1+i,q,λx y=>if x=y then 1 else 0,bU _,rfl,aK.Inv.start bA,D.out,λr t=>.inr ⟨r,t,rfl⟩,λr _=>by show w.heap.size<=w.heap.size+1+r;omega,Y.out⟩
   case round=>
    clear D Y;obtain⟨m,RA,RB,A,B,hm,rfl,hI,hP,hRA,hRB,hK⟩:=hrel;by_cases hlt:m<n
    .obtain hex:=hI.pivot hlt hs;have HI:Hid (aK.Inv n m q A B):=hI;have D:Hid (dL wr ga w.heap.size n n RA RB A B):=hP;have HRA:Hid (∀r,r<n->eU ga n R (RA r)):=hRA;have HRB:Hid (∀r,r<n->w.heap.size<=RB r):=hRB;have Y:Hid (Keep (eU ga n R) w wr):=hK;have HX:Hid _:=hex;clear hI hP hRA hRB hK hex
     go_wp2_with fail
     refine(Fa ga n n m RA A _ hn hlt D.out.a HX.out).mono ?_;rintro e w2 ⟨p,p1,S,p3,rfl,rfl⟩;have T:=D.out.a.cell hlt;have c2:=D.out.a.cell S;have z1:=D.out.a.outer.frozen m;have z2:=D.out.a.outer.frozen p;have i0:(m:Int)<(n:Int):=by omega
     have i1:(p:Int)<(n:Int):=by omega
     obtain⟨u3,c3⟩:∃u,(w2.setCell (aB ga m) (aU (RA p) n n)).cell? (aB ga p)=some u:=⟨_,(D.out.a.outer.set m _).cell S⟩;go_wp2
     go_region
     have o:Hid _:=D.out.aaF hlt S;have C:Hid (Keep (eU ga n R) w _):=rU (i:=m) (p:=p) (u:=aU (RA p) n n) (v:=aU (RA m) n n) Y.out (λ_=>.inl rfl);generalize((w2.setCell (aB ga m) (aU (RA p) n n)).setCell (aB ga p) (aU (RA m) n n))=w3 at*;clear T c2 c3 z1 z2 Y;have T:=o.out.b.cell hlt;have c2:=o.out.b.cell S;have z1:=o.out.b.outer.frozen m;have z2:=o.out.b.outer.frozen p;obtain⟨u3,c3⟩:∃u,(w3.setCell (aB w.heap.size m) (aU (RB p) n n)).cell? (aB w.heap.size p)=some u:=⟨_,(o.out.b.outer.set m _).cell S⟩;go_wp2
     go_region
     have HP2:Hid _:=o.out.aaG hlt S;have HK2:Hid (Keep (eU ga n R) w _):=rU (i:=m) (p:=p) (u:=aU (RB p) n n) (v:=aU (RB m) n n) C.out (λh=>aF h (iQ _));generalize((w3.setCell (aB w.heap.size m) (aU (RB p) n n)).setCell (aB w.heap.size p) (aU (RB m) n n))=w4 at*;clear T c2 c3 z1 z2 C o;have emp:aK.swp m p m=p:=by simp[aK.swp]
     obtain⟨f,g,d,L,N,E,V,W,hA1⟩:∃f g d L,Hid (aK.Inv n m q d L)/\Hid (dL w4 ga w.heap.size n n f g d L)/\(∀r,r<n->eU ga n R (f r))/\(∀r,r<n->w.heap.size<=g r)/\d m m≠0:=⟨_,_,_,_,HI.out.swap hlt p1 S,HP2.out,λr t=>HRA.out _ (aK.iZ hlt S t),λr t=>HRB.out _ (aK.iZ hlt S t),by rw[emp];exact p3⟩
     have G:Hid (∀r,r<n->eU ga n R (f r)):=V;have I:Hid (∀r,r<n->w.heap.size<=g r):=W;clear HI D HP2 HRA HRB HX V W emp;have T:=E.out.a.cell hlt;have c2:=(E.out.a.rows m hlt).cell hlt;have Q:=N.out.ba m m hlt hlt;have hf:=aK.uq _ Q;have hf0:aK.inv (d m m)≠0:=λh0=>by have J:=(aK.Dt _ Q).resolve_left hA1;rw[h0,aK.mul_zero]at J;cases J
     have J:=(aK.Dt _ Q).resolve_left hA1;have HMI:Hid (aK.mul (d m m) (aK.inv (d m m))=1):=J;clear J
     go_wp2_with fail
     refine(tJ (d m m) Q _).mono ?_;rintro e w5 ⟨rfl,rfl⟩;generalize aK.inv (d m m)=F at*
     go_wp2_with fail
     refine(yc (f m) n F (d m) _ Q0 (by exact E.out.a.rows m hlt) (λj hj=>N.out.ba m j hlt hj) hf).mono ?_;rintro e w5 ⟨rfl,hR5,Z⟩;have O:Hid (dL w5 ga w.heap.size n n f g (aK.EL d m F) L):=(E.out.drew.drew.aaD hlt Z hR5).congr (λr j _ _=>by unfold aK.EL;by_cases e:r=m<;>simp[e]) (λ_ _ _ _=>rfl);have HK5:Hid (Keep (eU ga n R) w w5):=HK2.out.drew.drew.trans Z (λb _ hb=>hb▸G.out m hlt);clear hR5 Z T c2 E HK2;have T:=O.out.b.cell hlt
     go_wp2_with fail
     refine(yc (g m) n F (L m) _ Q0 (by exact O.out.b.rows m hlt) (λj hj=>N.out.bb m j hlt hj) hf).mono ?_;rintro e w6 ⟨rfl,hR6,hK6⟩;have HP6:Hid (dL w6 ga w.heap.size n n f g (aK.EL d m F) (aK.EL L m F)):=(O.out.aaE hlt hK6 hR6).congr (λ_ _ _ _=>rfl) (λr j _ _=>by unfold aK.EL;by_cases e:r=m<;>simp[e]);have HK6:Hid (Keep (eU ga n R) w w6):=HK5.out.trans hK6 (λb hb e=>aF hb (by have:=I.out m hlt;omega));clear hR6 hK6 T O HK5;have X:Hid (aK.Inv n m q (aK.EL d m F) (aK.EL L m F)):=N.out.scale hlt hf hf0;have H1:Hid (aK.EL d m F m m=1):=by show(if m=m then aK.mul (d m m) F else _)=1;rw[aI rfl];exact HMI.out
     go_wp2_with fail
     refine(Fg ga w.heap.size n m f g (aK.EL d m F) (aK.EL L m F) _ hn hlt (by exact HP6.out) X.out.ba X.out.bb).mono ?_;rintro e w7 ⟨rfl,hP7,hK7⟩
     go_wp2_with fail
     refine⟨⟨m+1,f,g,rT (aK.EL d m F) (aK.EL d m F) m n,rT (aK.EL d m F) (aK.EL L m F) m n,Q0,by go_num,X.out.clear hlt H1.out,hP7,G.out,I.out,HK6.out.trans hK7 ?_⟩,by simp[intOf];omega⟩;rintro b hb (rfl|rfl|⟨r,t,rfl|rfl⟩)
     .exact .inl rfl
     .exact aF hb (iQ _)
     .exact G.out r t
     .exact aF hb (by have:=I.out r t;omega)
    .have:m=n:=by omega
     subst this;go_wp2
     go_ret
     exact⟨rfl,⟨RB,B,hP.b,hI.bb,hI.done⟩,hK⟩
structure Fh(w:au)(g to ti n c:Nat)(R:Nat->Nat)(V:Nat->Nat->aA):Prop where
 outer:w.rowIs g to n (λi=>aU (R i) c c)
 rows:∀i,i<n->w.rowIs (R i) ti c (V i)
theorem Fh.keep{S:aD}{o t:Nat}(h:Fh w g o t n c R V)(k:Keep S w w')(d:¬S g)(b:∀i,i<n->¬S (R i)):Fh w' g o t n c R V:=⟨k.row h.outer d,λi a=>k.row (h.rows i a) (b i a)⟩
theorem OY:(Tryz.prog.info? 4).map (λi=>(i.zero,i.size,i.bytes))=some (some (.bool false),1,1):=by kernel_rfl
theorem MJ:(Tryz.prog.info? 292).map (λi=>(i.zero,i.size,i.bytes))=some (some (.slice none 0 0),1,24):=by kernel_rfl
def Ci(a p q:Nat):Bool:=(aK.mul a (2^q)).testBit p
def mJ(A:Nat->Nat->Nat)(i j:Nat):aA:=.bool (Ci (A (i/8) (j/8)) (i%8) (j%8))
theorem TR(I p:Nat)(a:I<256):(bits .and .u8 ((I:Int)/2^p) 1 !=0)=I.testBit p:=by
 have e:(I:Int)/2^p=((I/2^p:Nat):Int):=by push_cast;rfl
 have h:I/2^p<256:=Nat.lt_of_le_of_lt (Nat.div_le_self _ _) a;have b:=u8_and_nat (I/2^p) 1 h U0;rw[nat_mask1]at b;rw[e];rw[show((1:Nat):Int)=1 from rfl]at b;rw[b,Nat.testBit_eq_decide_div_mod_eq];obtain e|e:=zK (I/2^p)<;>rw[e]<;>rfl
theorem Dz(q:Nat)(h:q<8):2^q<256:=(Nat.pow_lt_pow_right U0 h:2^q<2^8)
theorem DC(ga n c:Nat)(RA:Nat->Nat)(A:Nat->Nat->Nat)(w:au)(hn:n<=12)(hc:c<=12)(hA:bQ w ga n c RA A)(bA:∀i j,i<n->j<c->A i j<256):
 Calls Tryz.prog 240 #[aU ga n n] w λe w'=>e=.returned (aU w.heap.size (8*n) (8*n))/\Fh w' w.heap.size 292 4 (8*n) (8*c) (λi=>w.heap.size+1+i) (mJ A)/\Keep bD w w':=by
 have Y:Hid (bQ w ga n c RA A):=hA;clear hA;have F:=run_make_row' (P:=Tryz.prog) 290 292 (.slice none 0 0) 24 underlying290 MJ rfl .i64 .i64 (8*n) Q0 Q0;have G:=run_make_row' (P:=Tryz.prog) 292 4 (.bool false) 1 underlying292 OY rfl .i64 .i64 (8*c) Q0 Q0;have e1:((8*n:Nat):Int)=8*(n:Int):=by omega
 have l:((8*c:Nat):Int)=8*(c:Int):=by omega
 rw[e1]at F;rw[l]at G;clear e1 l
 go_enter func240,ntmps240
 go_wp2
 go_loopw [4,5,6,7,14,33,34] (λ_ _ _ _ i _ _ wr=>∃k:Nat,k<=8*n/\i=ah k/\wr.heap.size=w.heap.size+1+k/\wr.rowIs w.heap.size 292 (8*n) (λi=>if i<k then aU (w.heap.size+1+i) (8*c) (8*c)else .slice none 0 0)/\(∀i,i<k->wr.rowIs (w.heap.size+1+i) 4 (8*c) (mJ A i))/\Keep bD w wr) (λ_ _ _ _ i _ _ _=>8*n-(intOf i).toNat)
 case atStart=>exact⟨0,bU _,X0,X0,World.rowIs.congr (World.rowIs_made w _ (8*n) _) (λi _=>X0),λi s=>aF s (dO _),(Keep.refl _ w).alloc _⟩
 case round=>
  obtain⟨k,hk,rfl,u,g,a,hK⟩:=hrel;by_cases hlt:k<8*n
  .have M:Hid (wr.heap.size=w.heap.size+1+k):=u;have L:Hid (wr.rowIs w.heap.size 292 (8*n) (λi=>if i<k then aU (w.heap.size+1+i) (8*c) (8*c)else .slice none 0 0)):=g;have R:Hid (∀i,i<k->wr.rowIs (w.heap.size+1+i) 4 (8*c) (mJ A i)):=a;have m:Hid (Keep bD w wr):=hK;have f:=Y.out.keep hK (λh=>h) (λ_ _ h=>h);have t:k/8<n:=by omega
   have cA:wr.cell? (aB ga (k/8))=some (aU (RA (k/8)) c c):=f.cell t;have aif:w.heap.size<wr.heap.size:=by omega
   have ct:∀o,(wr.alloc o).cell? (aB w.heap.size k)=some (.slice none 0 0):=λo=>by have:=(g.alloc o).cell hlt;simpa using this
   have zt:∀o,(wr.alloc o).frozen? (aB w.heap.size k)=false:=λo=>(g.alloc o).frozen k;have i0:(k:Int)<8*(n:Int):=by omega
   have i1:(k:Int)/8<(n:Int):=by omega
   have cl:∀o,((wr.setCell (aB w.heap.size k) (aU wr.heap.size (8*c) (8*c))).alloc o).cell? (aB w.heap.size k)=some (aU wr.heap.size (8*c) (8*c)):=λo=>by have:=((g.set k (aU wr.heap.size (8*c) (8*c))).alloc o).cell hlt;simpa using this
   clear u g a hK f;go_wp2;have d:=M.out;have y:((wr.setCell (aB w.heap.size k) (aU wr.heap.size (8*c) (8*c))).alloc (.cells (madeCells #[.bool false] (8*c)) 4)).rowIs w.heap.size 292 (8*n) (λi=>if i<k+1 then aU (w.heap.size+1+i) (8*c) (8*c)else .slice none 0 0):=by
    refine World.rowIs.congr ((L.out.set k _).alloc _) (λi _=>?_);by_cases e:i=k
    .subst e;simp[d]
    .by_cases l:i<k
     .simp[e,l,oq l]
     .simp[e,l,show¬i<k+1 by omega]
   have B:∀i,i<k->((wr.setCell (aB w.heap.size k) (aU wr.heap.size (8*c) (8*c))).alloc (.cells (madeCells #[.bool false] (8*c)) 4)).rowIs (w.heap.size+1+i) 4 (8*c) (mJ A i):=λi s=>World.rowIs.alloc (World.rowIs.setOther (R.out i s) M4 _) _
   have C:((wr.setCell (aB w.heap.size k) (aU wr.heap.size (8*c) (8*c))).alloc (.cells (madeCells #[.bool false] (8*c)) 4)).rowIs (w.heap.size+1+k) 4 (8*c) (λ_=>.bool false):=by have:=World.rowIs_made (wr.setCell (aB w.heap.size k) (aU wr.heap.size (8*c) (8*c))) (.bool false) (8*c) 4;rw[show(wr.setCell (aB w.heap.size k) (aU wr.heap.size (8*c) (8*c))).heap.size=w.heap.size+1+k from by simp[d]]at this;exact this
   have x:Keep bD w ((wr.setCell (aB w.heap.size k) (aU wr.heap.size (8*c) (8*c))).alloc (.cells (madeCells #[.bool false] (8*c)) 4)):=(m.out.setCell (p:=⟨w.heap.size,k,none⟩) (λh=>aF h (iQ _)) _).alloc _;have Z:((wr.setCell (aB w.heap.size k) (aU wr.heap.size (8*c) (8*c))).alloc (.cells (madeCells #[.bool false] (8*c)) 4)).heap.size=w.heap.size+1+(k+1):=by simp[d];omega
   rw[d]at*;generalize((wr.setCell (aB w.heap.size k) (aU (w.heap.size+1+k) (8*c) (8*c))).alloc (.cells (madeCells #[.bool false] (8*c)) 4))=w1 at*;have Q:Hid _:=y;have S:Hid _:=B;have T:Hid _:=C;have O:Hid (Keep bD w w1):=x;have V:Hid (w1.heap.size=w.heap.size+1+(k+1)):=Z;clear y B C x Z L R m M cl ct zt cA d F G
   go_loopw [6,7,34] (λ_ _ i J=>∃j:Nat,j<=8*c/\i=ah j/\J.heap.size=w.heap.size+1+(k+1)/\J.rowIs w.heap.size 292 (8*n) (λi=>if i<k+1 then aU (w.heap.size+1+i) (8*c) (8*c)else .slice none 0 0)/\(∀i,i<k->J.rowIs (w.heap.size+1+i) 4 (8*c) (mJ A i))/\J.rowIs (w.heap.size+1+k) 4 (8*c) (λq=>if q<j then mJ A k q else .bool false)/\Keep bD w J) (λ_ _ i _=>8*c-(intOf i).toNat)
   case atStart=>exact⟨0,bU _,X0,V.out,Q.out,S.out,World.rowIs.congr T.out (λi _=>X0),O.out⟩
   case round=>
    obtain⟨j,hj,rfl,u,g,a,b,hK⟩:=hrel;by_cases X:j<8*c
    .have M:Hid (wr.heap.size=w.heap.size+1+(k+1)):=u;have L:Hid (wr.rowIs w.heap.size 292 (8*n) (λi=>if i<k+1 then aU (w.heap.size+1+i) (8*c) (8*c)else .slice none 0 0)):=g;have R:Hid (∀i,i<k->wr.rowIs (w.heap.size+1+i) 4 (8*c) (mJ A i)):=a;have U:Hid (wr.rowIs (w.heap.size+1+k) 4 (8*c) (λq=>if q<j then mJ A k q else .bool false)):=b;have m:Hid (Keep bD w wr):=hK;have f:=Y.out.keep hK (λh=>h) (λ_ _ h=>h);have E:j/8<c:=by omega
     have cA:wr.cell? (aB (RA (k/8)) (j/8))=some (.int .u8 ((A (k/8) (j/8):Nat):Int)):=(f.rows _ t).cell E;have co:wr.cell? (aB w.heap.size k)=some (aU (w.heap.size+1+k) (8*c) (8*c)):=by have:=g.cell hlt;simpa using this
     have cr:=b.cell X;have zr:=b.frozen j;have j0:(j:Int)<8*(c:Int):=by omega
     have j1:(j:Int)/8<(c:Int):=by omega
     have v:=bA _ _ t E;have TC:Hid (∀w:au,Calls Tryz.prog 139 #[.int .u8 ((A (k/8) (j/8):Nat):Int),.int .u8 (2^(j%8)%256)] w λe w'=>e=.returned (.int .u8 ((aK.mul (A (k/8) (j/8)) (2^(j%8)):Nat):Int))/\w'=w):=by
      intro w;have hp:=Dz (j%8) Q0;have e:(2^(j%8)%256:Int)=((2^(j%8):Nat):Int):=by
       have e0:((2^(j%8):Nat):Int)=2^(j%8):=by push_cast;rfl
       rw[<-e0];exact Int.emod_eq_of_lt (Int.natCast_nonneg _) (Int.ofNat_lt.2 hp)
      rw[e];exact jF _ _ v hp w
     have W:=aK.mul_lt (2^(j%8)) v;clear u g a b hK f;go_wp2
     go_quiet ((go_at_call 139;exact Calls.quiet_of_same (TC.out _)))
     have HB:Hid (mJ A k j=.bool ((aK.mul (A (k/8) (j/8)) (2^(j%8))).testBit (k%8))):=rfl;generalize aK.mul (A (k/8) (j/8)) (2^(j%8))=I at*;have D:=TR I (k%8) W;have N:Hid _:=D;clear D;go_wp2
     go_region
     go_wp2;rw[N.out,<-HB.out];have d:=M.out;refine⟨⟨j+1,Q0,by go_num,by simp[d],World.rowIs.setOther L.out M4 _,λi s=>World.rowIs.setOther (R.out i s) M4 _,?_,(m.out.drewN _).setCell (λh=>aF h M4) _⟩,by simp[intOf];omega⟩;refine World.rowIs.congr (World.rowIs.set (show(wr.drewN _).rowIs _ _ _ _ from U.out) j _) (λq _=>?_);by_cases e:q=j
     .subst e;simp
     .by_cases l:q<j
      .simp[e,l,oq l]
      .simp[e,l,show¬q<j+1 by omega]
    .have:j=8*c:=by omega
     subst this;go_wp2;refine⟨⟨k+1,Q0,by go_num,u,g,λi s=>?_,hK⟩,by simp[intOf];omega⟩;by_cases e:i=k
     .subst e;exact b.congr (λq hq=>by simp[hq])
     .exact a i Q0
  .have:k=8*n:=by omega
   subst this;go_wp2
   go_ret
   exact⟨rfl,⟨g.congr (λi s=>by simp[s]),a⟩,hK⟩
theorem Fj{S:aD}{k:au}{e q n H len cap:Nat}{v i:aA}{s x:List aA}(p:w.ownsRow d e 1 v q s)(m:w.ownsRow d e 1 i n x)(c:∀g,v.ownBlock=some g->i.ownBlock≠some g)
 (a:(w.alloc o).grownBy k v.ownBlock)(j:v.ownBlock=some g\/g=H)(r:w.heap.size<=H)(K:Keep S t w)(f:t.heap.size<=d):
 k.ownsRow d e 1 i n x/\(∀b,(aU g len cap).ownBlock=some b->i.ownBlock≠some b)/\Keep S t k:=by
 refine⟨EO (m.alloc o) a (λb f e=>c b e f),λb f e=>?_,(K.alloc o).grown a (λb e l=>aF l (by have:=(mF p e).1;omega))⟩;simp only[Value.ownBlock,iV]at f;subst f;obtain h|h:=j
 .exact c g h e
 .have:=(mF m e).2;omega
def dA(k m:Nat)(t:Nat->Bool):Array aA:=#[ah k,ah m,.bool (t 0),.bool (t 1),.bool (t 2),.bool (t 3),.bool (t 4),.bool (t 5),.bool (t 6),.bool (t 7),.bool (t 8),.bool (t 9),.bool (t 10),.bool (t 11)]
theorem TS(k m:Nat)(t:Nat->Bool)(i:Nat)(h:i<12):(dA k m t)[2+i]? =some (.bool (t i)):=by
 match i,h with
 |0,_=>rfl
 |1,_=>rfl
 |2,_=>rfl
 |3,_=>rfl
 |4,_=>rfl
 |5,_=>rfl
 |6,_=>rfl
 |7,_=>rfl
 |8,_=>rfl
 |9,_=>rfl
 |10,_=>rfl
 |11,_=>rfl
theorem TT:(Tryz.prog.info? 3).map (λi=>(i.zero,i.size,i.bytes))=some (some (ah 0),1,8):=by kernel_rfl
def aV(t:Nat->Bool)(n:Nat):List Nat:=(List.range n).filter t
theorem rV(t:Nat->Bool)(n:Nat):aV t (n+1)=if t n then aV t n++[n]else aV t n:=by unfold aV;rw[List.range_succ,List.filter_append];by_cases h:t n<;>simp[h]
theorem rX(t:Nat->Bool)(n:Nat):(aV t n).length<=n:=by unfold aV;have:=List.length_filter_le t (List.range n);simpa using this
def nums(l:List Nat):List aA:=l.map λa=>ah (a:Nat)
theorem Cj(l:List Nat)(a:Nat):nums (l++[a])=nums l++[ah (a:Nat)]:=by simp[nums]
theorem Bw(k m:Nat)(t:Nat->Bool)(w:au)(V:k+m<=12):
 Calls Tryz.prog 236 #[.agg (dA k m t)] w λe w'=>∃N Q,e=.returned (.tuple #[N,Q])/\w'.ownsRow (w.heap.size+1) 3 1 N (aV t (k+m)).length (nums (aV t (k+m)))/\w'.ownsRow (w.heap.size+1) 3 1 Q (aV (λi=> !t i) (k+m)).length (nums (aV (λi=> !t i) (k+m)))/\Keep bD w w':=by
 obtain⟨D,U,M⟩:=gL.1 TT;simp only[Prod.mk.injEq]at M;obtain⟨I,J,L⟩:=M;have Y:(w.alloc (.cells (dA k m t) 238)).heap.size=w.heap.size+1:=by simp
 unfold dA;have Z:Hid (Tryz.prog.info? 3=some D/\D.zero=some (ah 0)/\D.size=1/\D.bytes=8):=⟨U,I,J,L⟩;clear U I J L
 go_enter func236,ntmps236
 go_wp2
 go_loopw [2,3,4,10] (λN Q _ i wr=>∃q:Nat,q<=k+m/\i=ah q/\wr.ownsRow (w.heap.size+1) 3 1 N (aV t q).length (nums (aV t q))/\wr.ownsRow (w.heap.size+1) 3 1 Q (aV (λi=> !t i) q).length (nums (aV (λi=> !t i) q))/\(∀g,N.ownBlock=some g->Q.ownBlock≠some g)/\Keep bD (w.alloc (.cells (dA k m t) 238)) wr) (λ_ _ _ i _=>k+m-(intOf i).toNat)
 case atStart=>exact⟨0,bU _,X0,World.ownsRow_nil _ _ _ _,World.ownsRow_nil _ _ _ _,(λg h=>by cases h),Keep.refl _ _⟩
 case round=>
  obtain⟨q,hq,rfl,B,C,F,hK⟩:=hrel;by_cases hlt:q<k+m
  .have T:wr.cell? (aB w.heap.size (2+q))=some (.bool (t q)):=by
    rw[hK.cell (p:=⟨w.heap.size,2+q,none⟩) X0 (λh=>h)];rw[cell_of_row _ w.heap.size (2+q) (dA k m t) 238 (0,0) (Go.Deep.blk_alloc_new _ _)];exact TS k m t q Q0
   have W:(q:Int)<(k:Int)+(m:Int):=by omega
   have i1:(q:Int)<12:=by omega
   have R:Hid (Keep bD (w.alloc (.cells (dA k m t) 238)) wr):=hK;have O:Hid (wr.ownsRow (w.heap.size+1) 3 1 u2 (aV t q).length (nums (aV t q))):=B;have y:Hid (wr.ownsRow (w.heap.size+1) 3 1 u3 (aV (λi=> !t i) q).length (nums (aV (λi=> !t i) q))):=C;have E:Hid (∀g,u2.ownBlock=some g->u3.ownBlock≠some g):=F;clear hK B C F;cases c:t q with
   |true=>
    rw[c]at T
    go_wp2_with (at_builtin;(refine wpList_append_lies _ rfl _ _ 25 rfl (w.heap.size+1) 3 D (ah 0) 1 8 underlying25 Z.out.1 Z.out.2.1 Z.out.2.2.1 Z.out.2.2.2 rfl U0 u2 _ _ rfl (O.out.alloc _) ⟨wr.heap.size,0,none⟩ 1 1 [ah q] rfl rfl ?c1 ?c2 U0 ?c3 ?c4 ?c5 (wr.heap.size+1) ?c6 ?_))
    case c1=>
     intro j u s
     match j,s with
     |0,s=>simp at s;subst s;simp[Addr.add]
    case c2=>intro u G;simp at G;subst G;rfl
    case c3=>have:=rX t q;unfold maxLen;omega
    case c4=>have:=rX t q;omega
    case c5=>have:=R.out.size;simp at this ⊢;omega
    case c6=>simp
    intro g A X o a d l;obtain⟨r1,v,x⟩:=Fj (len:=(aV t q).length+1) (cap:=A) O.out y.out E.out a d Q0 R.out X0;have f:aV t (q+1)=aV t q++[q]:=by rw[rV,aI c]
    have n:aV (λi=> !t i) (q+1)=aV (λi=> !t i) q:=by rw[rV,av (by simp[c])]
    have S:Hid _:=fu r1 (fu v (fu x (fu o (fu f n))));clear r1 v x o a d l f n;go_wp2;obtain⟨r1,v,x,o,f,n⟩:=S.out;refine⟨⟨q+1,Q0,by go_num,?_,?_,v,x⟩,by simp[intOf];omega⟩
    .rw[f,Cj,List.length_append];exact o
    .rw[n];exact r1
   |false=>
    rw[c]at T
    go_wp2_with (at_builtin;(refine wpList_append_lies _ rfl _ _ 25 rfl (w.heap.size+1) 3 D (ah 0) 1 8 underlying25 Z.out.1 Z.out.2.1 Z.out.2.2.1 Z.out.2.2.2 rfl U0 u3 _ _ rfl (y.out.alloc _) ⟨wr.heap.size,0,none⟩ 1 1 [ah q] rfl rfl ?c1 ?c2 U0 ?c3 ?c4 ?c5 (wr.heap.size+1) ?c6 ?_))
    case c1=>
     intro j u s
     match j,s with
     |0,s=>simp at s;subst s;simp[Addr.add]
    case c2=>intro u G;simp at G;subst G;rfl
    case c3=>have:=rX (λi=> !t i) q;unfold maxLen;omega
    case c4=>have:=rX (λi=> !t i) q;omega
    case c5=>have:=R.out.size;simp at this ⊢;omega
    case c6=>simp
    intro g A X o a d l;obtain⟨r1,v,x⟩:=Fj (len:=(aV (λi=> !t i) q).length+1) (cap:=A) y.out O.out (λg h e=>E.out g e h) a d Q0 R.out X0;have f:aV (λi=> !t i) (q+1)=aV (λi=> !t i) q++[q]:=by rw[rV,aI (by simp[c])]
    have n:aV t (q+1)=aV t q:=by rw[rV,av (by simp[c])]
    have S:Hid _:=fu r1 (fu v (fu x (fu o (fu f n))));clear r1 v x o a d l f n;go_wp2;obtain⟨r1,v,x,o,f,n⟩:=S.out;refine⟨⟨q+1,Q0,by go_num,?_,?_,λb h e=>v b e h,x⟩,by simp[intOf];omega⟩
    .rw[n];exact r1
    .rw[f,Cj,List.length_append];exact o
  .have:q=k+m:=by omega
   subst this;go_wp2
   go_ret2
   exact⟨_,_,rfl,B,C,((Keep.refl bD w).alloc _).trans hK (λ_ _ h=>h)⟩
theorem OZ{l:Nat}:∀m,(∀j,j<m->A i j<256)->(∀j,j<m->B j l<256)->dot A B i l m=aK.sm m (λj=>aK.fm (A i j) (B j l))
 |0,_,_=>rfl
 |m+1,h,a=>by
  rw[aK.pU,<-OZ m (λj b=>h j Q0) (λj b=>a j Q0),aK.gJ,aK.EY (a m Q0) (h m Q0)]
  rfl
theorem O8{A:Nat->Nat->Nat}(b:∀i j,i<n->j<k->M i j<256)(g:∀i j,i<k->j<k->B i j<256)(o:∀r c,r<k->c<k->aK.sm k (λl=>aK.fm (B r l) (A l c))=if r=c then 1 else 0)
 (i c:Nat)(f:i<n)(d:c<k):aK.sm k (λl=>aK.fm (dot M B i l k) (A l c))=M i c:=by
 have e:aK.sm k (λl=>aK.fm (dot M B i l k) (A l c))=aK.sm k (λl=>aK.sm k (λj=>aK.fm (M i j) (aK.fm (B j l) (A l c)))):=by apply aK.bH;intro l p;rw[OZ k (λj a=>b i j f a) (λj a=>g j l a p),aK.WY];apply aK.bH;intro j _;exact aK.eD _ _ _
 rw[e,aK.Kr];have m:aK.sm k (λj=>aK.sm k (λl=>aK.fm (M i j) (aK.fm (B j l) (A l c))))=aK.sm k (λj=>if j=c then M i j else 0):=by
  apply aK.bH;intro j a;rw[<-aK.zM,o j c a d];by_cases h:j=c
  .rw[aI h,aI h,aK.uw,eP (b i j f a)]
  .rw[av h,av h,aK.kI]
 rw[m,aK.kP _ d]
theorem yh(h:w.ownsRow d 3 1 v l.length (nums l)):∃a c,v=.slice a l.length c/\jK w a l.length (λi=>l.getD i 0):=by
 obtain⟨rfl,b⟩|⟨g,c,cur,rfl,p,f,m,n,o,j⟩:=h.2
 .exact⟨none,0,by rw[b],.inl b⟩
 .refine⟨_,c,rfl,.inr ⟨g,rfl,(bJ.1 f).1,λi k=>?_⟩⟩;rw[cell_of_row w g i cur 3 (0,0) f];have e:cur.toList[i]? =(nums l)[i]? :=by
   rw[<-j,vw Q0]
  rw[jE]at e;rw[e];simp[nums,k,List.getD]
theorem qQ(a:Option Addr)(n c i:Nat)(N:Nat->Nat)(w:au)(q:n<=12)(p:i<8*n)(g:∀i,i<n->N i<128)(I:jK w a n N):
 Calls Tryz.prog 241 #[.slice a n c,ah i] w λe w'=>e=.returned (ah (8*N (i/8)+i%8:Nat))/\w'=w:=by
 obtain m|⟨b,rfl,o,d⟩:=I
 .omega
 have f:i/8<n:=by omega
 have l:=d (i/8) f;have j:=g _ f;have s:(i:Int)/8<(n:Int):=by omega
 clear d
 go_enter func241,ntmps241
 go_wp2
 go_ret
 refine⟨?_,rfl⟩
 congr 2
def dH(bt:Nat->Nat->Bool)(F G:Nat->Nat)(i j:Nat):List (Nat×Nat):=((List.range j).filter (bt i)).map λq=>(F q,G i)
def iA(bt:Nat->Nat->Bool)(F G:Nat->Nat)(c i:Nat):List (Nat×Nat):=(List.range i).flatMap λr=>dH bt F G r c
theorem Bz(b:Nat->Nat->Bool)(F G:Nat->Nat)(i j:Nat):dH b F G i (j+1)=if b i j then dH b F G i j++[(F j,G i)]else dH b F G i j:=by unfold dH;rw[List.range_succ,List.filter_append];by_cases h:b i j<;>simp[h]
theorem vF(b:Nat->Nat->Bool)(F G:Nat->Nat)(c i:Nat):iA b F G c (i+1)=iA b F G c i++dH b F G i c:=by unfold iA;rw[List.range_succ,List.flatMap_append];simp
theorem yj(b:Nat->Nat->Bool)(F G:Nat->Nat)(i j:Nat):(dH b F G i j).length<=j:=by unfold dH;rw[List.length_map];have:=List.length_filter_le (b i) (List.range j);simpa using this
theorem zN(b:Nat->Nat->Bool)(F G:Nat->Nat)(c i:Nat):(iA b F G c i).length<=i*c:=by
 induction i with
 |zero=>simp[iA]
 |succ i h=>rw[vF,List.length_append,jk];have:=yj b F G i c;omega
def bW(l:List (Nat×Nat)):List aA:=l.flatMap λp=>[ah (p.1:Nat),ah (p.2:Nat)]
theorem zP(l:List (Nat×Nat))(a b:Nat):bW (l++[(a,b)])=bW l++[ah (a:Nat),ah (b:Nat)]:=by simp[bW]
theorem O9:(Tryz.prog.info? 272).map (λi=>(i.zero,i.size,i.bytes))=some (some (.agg #[ah 0,ah 0]),2,16):=by kernel_rfl
theorem vG(t:Nat->Bool)(n i:Nat)(a:i<(aV t n).length):(aV t n).getD i 0<n:=by
 have h:(aV t n)[i]∈aV t n:=List.getElem_mem a;have e:(aV t n).getD i 0=(aV t n)[i]:=by simp[List.getD,a]
 rw[e];unfold aV at h;rw[List.mem_filter,gY]at h;exact h.1
theorem uz(t:Nat->Bool)(n:Nat):(aV t n).Nodup:=List.nodup_range.filter _
theorem Pb(t:Nat->Bool)(n a b:Nat)(d:a<(aV t n).length)(f:b<(aV t n).length)(h:(aV t n).getD a 0=(aV t n).getD b 0):a=b:=by
 have e:(aV t n).getD a 0=(aV t n)[a]:=by simp[List.getD,d]
 have c:(aV t n).getD b 0=(aV t n)[b]:=by simp[List.getD,f]
 rw[e,c]at h;exact(List.getElem_inj (uz t n)).1 h
def pkt(l:List Nat)(j:Nat):Nat:=8*l.getD (j/8) 0+j%8
def cZ(P:Nat->Nat->Nat)(i j:Nat):Bool:=Ci (P (i/8) (j/8)) (i%8) (j%8)
def dD(k m:Nat)(t:Nat->Bool)(P:Nat->Nat->Nat):List (Nat×Nat):=iA (cZ P) (pkt (aV t (k+m))) (pkt (aV (λi=> !t i) (k+m))) (8*k) (8*(aV (λi=> !t i) (k+m)).length)
structure gT(k m:Nat)(t:Nat->Bool)(P:Nat->Nat->Nat):Prop where
 lt:∀i l,i<(aV (λi=> !t i) (k+m)).length->l<k->P i l<256
 eq:∀i c,i<(aV (λi=> !t i) (k+m)).length->c<k->aK.sm k (λl=>aK.fm (P i l) (aK.entry k ((aV t (k+m)).getD l 0) c))=aK.entry k ((aV (λi=> !t i) (k+m)).getD i 0) c
theorem adP{w B C:au}(h:bQ w g n c R M)(b:Keep bD w B)(d:Keep (eU w.heap.size k (λi=>w.heap.size+1+i)) B C):bQ C g n c R M:=by
 refine(h.keep b (λh=>h) (λ_ _ h=>h)).keep d ?_ ?_
 .have:=h.outer.lt;rintro(e|⟨r,_,e⟩)
  .omega
  .have a:g=w.heap.size+1+r:=e;omega
 .intro i f;have:=(h.rows i f).lt;rintro(e|⟨r,_,e⟩)
  .omega
  .have a:R i=w.heap.size+1+r:=e;omega
theorem Pd{a e s:Nat}{xs:List aA}(h:w.ownsRow d e s v n xs)(j:a<=d):w.ownsRow a e s v n xs:=by
 refine⟨h.1,?_⟩;obtain g|⟨b,c,cur,rfl,f,i⟩:=h.2
 .exact .inl g
 .exact .inr ⟨b,c,cur,rfl,bY j f,i⟩
theorem zQ(k m:Nat)(t:Nat->Bool)(w:au)(hk:0<k)(xq:k+m<=12)(hlen:(aV t (k+m)).length=k):
 Calls Tryz.prog 223 #[.agg (dA k m t)] w λe w'=>∃v P,e=.returned v/\gT k m t P/\w'.ownsRow w.heap.size 272 2 v (dD k m t P).length (bW (dD k m t P))/\Keep bD w w':=by
 have nc:Hid (∀w:au,Calls Tryz.prog 236 #[.agg (dA k m t)] w λe w'=>∃v2 v3,e=.returned (.tuple #[v2,v3])/\w'.ownsRow (w.heap.size+1) 3 1 v2 (aV t (k+m)).length (nums (aV t (k+m)))/\w'.ownsRow (w.heap.size+1) 3 1 v3 (aV (λi=> !t i) (k+m)).length (nums (aV (λi=> !t i) (k+m)))/\Keep bD w w'):=λw=>Bw k m t w xq;have hl3:=rX (λi=> !t i) (k+m);have L:Hid ((aV t (k+m)).length=k):=hlen;clear hlen;unfold dA at nc ⊢
 go_enter func223,ntmps223
 go_wp2_with fail
 refine(nc.out _).mono ?_;rintro e A ⟨v2,v3,rfl,ho2,ho3,X⟩;obtain⟨a2,O,rfl,hi2⟩:=yh ho2;obtain⟨a3,Q,rfl,hi3⟩:=yh ho3;have ZV:A.cell? (aB w.heap.size 0)=some (ah k):=by rw[X.cell (p:=⟨w.heap.size,0,none⟩) X0 (λh=>h)];simp[go_sem]
 have adR:w.heap.size<A.heap.size:=by have:=X.size;simp at this;omega
 have HK1:Hid (Keep bD w A):=((Keep.refl bD w).alloc _).trans X (λ_ _ h=>h);have HI2:Hid (jK A a2 k (λi=>(aV t (k+m)).getD i 0)):=by have:=L.out;rw[this]at hi2;exact hi2
 have HI3:Hid (jK A a3 (aV (λi=> !t i) (k+m)).length (λi=>(aV (λi=> !t i) (k+m)).getD i 0)):=hi3;rw[L.out];have V:Hid (∀i,i<k->(aV t (k+m)).getD i 0<128):=λi I=>by have:=vG t (k+m) i (by rw[L.out];exact I);omega
 have HN3:Hid (∀i,i<(aV (λi=> !t i) (k+m)).length->(aV (λi=> !t i) (k+m)).getD i 0<128):=λi I=>by have:=vG _ (k+m) i I;omega
 have HJ2:Hid (∀a b,a<k->b<k->(aV t (k+m)).getD a 0=(aV t (k+m)).getD b 0->a=b):=λa b ha hb h=>Pb t (k+m) a b (by rw[L.out];exact ha) (by rw[L.out];exact hb) h;clear ho2 ho3 hi2 hi3 X nc;have HOK:Hid (∀P,dD k m t P=iA (cZ P) (pkt (aV t (k+m))) (pkt (aV (λi=> !t i) (k+m))) (8*k) (8*(aV (λi=> !t i) (k+m)).length)):=λ_=>rfl;have HPO:Hid (∀P,(∀i l,i<(aV (λi=> !t i) (k+m)).length->l<k->P i l<256)->(∀i c,i<(aV (λi=> !t i) (k+m)).length->c<k->aK.sm k (λl=>aK.fm (P i l) (aK.entry k ((aV t (k+m)).getD l 0) c))=aK.entry k ((aV (λi=> !t i) (k+m)).getD i 0) c)->gT k m t P):=λP h1 h2=>⟨h1,h2⟩;generalize aV t (k+m)=T at*;generalize aV (λi=> !t i) (k+m)=U at*;go_wp2;have d:k<=12:=by omega
 have s:U.length<=12:=by omega
 have HbT:Hid (∀i j,i<k->j<k->aK.entry k (T.getD i 0) j<256):=λi j I hj=>aK.E9 _ _ _ (by have:=V.out i I;omega) Q0;have HbU:Hid (∀i j,i<U.length->j<k->aK.entry k (U.getD i 0) j<256):=λi j I hj=>aK.E9 _ _ _ (by have:=HN3.out i I;omega) Q0;have HsT:Hid (aK.TH k (λi j=>aK.entry k (T.getD i 0) j)):=aK.MI k (λi=>T.getD i 0) Q0 V.out HJ2.out
 go_region_held3 (λw'=>w'.cell? (aB w.heap.size 0)=some (ah k)) (first|assumption|go_keep)
  (first
    |(go_at_call_of 238 (a3);refine(vC a3 U.length Q k (λi=>U.getD i 0) _ s d HN3.out (by exact HI3.out)).mono ?_;rintro e J ⟨rfl,hMA,hKA⟩;have hsA:J.cell? (aB w.heap.size 0)=some (ah k):=(hKA.cell (p:=⟨w.heap.size,0,none⟩) adR (λh=>h)).trans ZV;have HMA:Hid (bQ J A.heap.size U.length k (λi=>A.heap.size+1+i) (λi j=>aK.entry k (U.getD i 0) j)):=hMA;have f:Hid (Keep bD A J):=((Keep.refl bD A).drew).trans hKA (λ_ _ h=>h);clear hMA hKA)
    |(go_at_call_of 238 (a2);refine(vC a2 k O k (λi=>T.getD i 0) _ d d V.out (by exact HI2.out.keep f.out (λ_ _ h=>h))).mono ?_;rintro e wB ⟨rfl,hMB,hKB⟩;have hsB:wB.cell? (aB w.heap.size 0)=some (ah k):=(hKB.cell (p:=⟨w.heap.size,0,none⟩) (by have:=f.out.size;show w.heap.size<J.heap.size;omega) (λh=>h)).trans hsA;have HMB:Hid (bQ wB J.heap.size k k (λi=>J.heap.size+1+i) (λi j=>aK.entry k (T.getD i 0) j)):=hMB;have B:Hid (Keep bD J wB):=hKB;clear hMB hKB)
    |(go_at_call 239;refine(vE J.heap.size k (λi=>J.heap.size+1+i) (λi j=>aK.entry k (T.getD i 0) j) _ d (by exact HMB.out) HbT.out HsT.out).mono ?_;rintro e M ⟨rfl,hC,Y⟩;have hsC:M.cell? (aB w.heap.size 0)=some (ah k):=(Y.cell (p:=⟨w.heap.size,0,none⟩) (by have h1:=f.out.size;have h2:=B.out.size;show w.heap.size<wB.heap.size;omega) (by have h1:=f.out.size;rintro(h|⟨r,_,h⟩)<;>simp at h<;>omega)).trans hsB;obtain⟨RC,C,hMC,bC,hiC⟩:=hC;have HMC:Hid (bQ M wB.heap.size k k RC C):=hMC;have W:Hid (∀i j,i<k->j<k->C i j<256):=bC;have HiC:Hid (∀r c,r<k->c<k->aK.sm k (λl=>aK.fm (C r l) (aK.entry k (T.getD l 0) c))=if r=c then 1 else 0):=hiC;have HKC:Hid (Keep (eU J.heap.size k (λi=>J.heap.size+1+i)) wB M):=Y;have aaH:Hid (bQ M A.heap.size U.length k (λi=>A.heap.size+1+i) (λi j=>aK.entry k (U.getD i 0) j)):=adP HMA.out B.out Y;clear hMC bC hiC Y)
    |(go_at_call 237;refine(vD A.heap.size wB.heap.size U.length k k (λi=>A.heap.size+1+i) RC (λi j=>aK.entry k (U.getD i 0) j) C _ s hk d d (by exact aaH.out) (by exact HMC.out) HbU.out W.out).mono ?_;rintro e S ⟨rfl,hMD,hKD⟩;have hsD:S.cell? (aB w.heap.size 0)=some (ah k):=(hKD.cell (p:=⟨w.heap.size,0,none⟩) (by have h1:=f.out.size;have h2:=B.out.size;have h3:=HKC.out.size;show w.heap.size<M.heap.size;omega) (λh=>h)).trans hsC;have HMD:Hid (bQ S M.heap.size U.length k (λi=>M.heap.size+1+i) (λi l=>dot (λi j=>aK.entry k (U.getD i 0) j) C i l k)):=hMD;have HKD:Hid (Keep bD M S):=hKD;clear hMD hKD))
 have n:Keep bD A S:=by
  have hA:=f.out.size;have hB:=B.out.size;refine(((f.out.trans B.out (λ_ _ h=>h)).trans HKC.out ?_).trans HKD.out (λ_ _ h=>h));rintro b hb (e|⟨r,_,e⟩)
  .omega
  .have e2:b=J.heap.size+1+r:=e;omega
 obtain⟨P,HP,HMP,HbP⟩:∃P,Hid (gT k m t P)/\Hid (bQ S M.heap.size U.length k (λi=>M.heap.size+1+i) P)/\Hid (∀i l,i<U.length->l<k->P i l<256):=by have bP:∀i l,i<U.length->l<k->dot (λi j=>aK.entry k (U.getD i 0) j) C i l k<256:=λi l _ hl=>IC k (λj hj=>W.out j l hj hl);exact⟨_,HPO.out _ bP (λi c I hc=>O8 HbU.out W.out HiC.out i c I hc),HMD.out,bP⟩
 have HKw:Hid (Keep bD w S):=HK1.out.trans n (λ_ _ h=>h);have aaI:Hid (jK S a2 k (λi=>T.getD i 0)):=HI2.out.keep n (λ_ _ h=>h);have aaJ:Hid (jK S a3 U.length (λi=>U.getD i 0)):=HI3.out.keep n (λ_ _ h=>h);have aik:w.heap.size<=S.heap.size:=HKw.out.size;clear HMA aaH HMB HMC HMD W HiC f B HKC HKD hsA hsB hsC hsD HI2 HI3 HPO HsT HbT HbU HJ2 HK1 ZV n
 go_wp2_with fail
 refine(DC M.heap.size U.length k (λi=>M.heap.size+1+i) P _ s d (by exact HMP.out) HbP.out).mono ?_;rintro e E ⟨rfl,hT,Z⟩;have HT:Hid (Fh E S.heap.size 292 4 (8*U.length) (8*k) (λi=>S.heap.size+1+i) (mJ P)):=hT;have adZ:Hid (jK E a2 k (λi=>T.getD i 0)):=aaI.out.keep Z (λ_ _ h=>h);have ad1:Hid (jK E a3 U.length (λi=>U.getD i 0)):=aaJ.out.keep Z (λ_ _ h=>h);have HKE:Hid (Keep bD w E):=HKw.out.trans Z (λ_ _ h=>h);obtain⟨i0,I,hzz⟩:=gL.1 O9;simp only[Prod.mk.injEq]at hzz;have HZ:Hid (Tryz.prog.info? 272=some i0/\i0.zero=some (.agg #[ah 0,ah 0])/\i0.size=2/\i0.bytes=16):=⟨I,hzz⟩;clear I hzz hT Z aaI aaJ HKw HMP HbP;have H8:Hid (∀P i j,mJ P i j=.bool (cZ P i j)):=λ_ _ _=>rfl;have HL:Hid (∀i,(iA (cZ P) (pkt T) (pkt U) (8*k) i).length<=i*(8*k)):=λi=>zN _ _ _ _ i;have HL2:Hid (∀i j,(dH (cZ P) (pkt T) (pkt U) i j).length<=j):=λi j=>yj _ _ _ i j;have HS:Hid (∀i,iA (cZ P) (pkt T) (pkt U) (8*k) (i+1)=iA (cZ P) (pkt T) (pkt U) (8*k) i++dH (cZ P) (pkt T) (pkt U) i (8*k)):=λi=>vF _ _ _ _ i;have HS2:Hid (∀i j,dH (cZ P) (pkt T) (pkt U) i (j+1)=if cZ P i j then dH (cZ P) (pkt T) (pkt U) i j++[(pkt T j,pkt U i)]else dH (cZ P) (pkt T) (pkt U) i j):=λi j=>Bz _ _ _ i j;have HE:Hid (dD k m t P=iA (cZ P) (pkt T) (pkt U) (8*k) (8*U.length)):=HOK.out P;have HL0:Hid (iA (cZ P) (pkt T) (pkt U) (8*k) 0=[]):=rfl;have HR0:Hid (∀i,dH (cZ P) (pkt T) (pkt U) i 0=[]):=λ_=>rfl;generalize iA (cZ P) (pkt T) (pkt U) (8*k)=ST at*;generalize dH (cZ P) (pkt T) (pkt U)=SR at*;go_wp2
 go_loopw [6,7,8,9,10,29,34,35,36] (λv _ _ _ _ i _ _ _ wr=>∃q:Nat,q<=8*U.length/\i=ah q/\wr.ownsRow E.heap.size 272 2 v (ST q).length (bW (ST q))/\Keep bD E wr) (λ_ _ _ _ _ i _ _ _ _=>8*U.length-(intOf i).toNat)
 case atStart=>exact⟨0,bU _,X0,by rw[HL0.out];exact World.ownsRow_nil _ _ _ _,Keep.refl _ _⟩
 case round=>
  obtain⟨q,hq,rfl,o,hK⟩:=hrel;by_cases hlt:q<8*U.length
  .have c1:=(HT.out.keep hK (λh=>h) (λ_ _ h=>h)).outer.cell hlt;have i1:(q:Int)<8*(U.length:Int):=by omega
   have HO:Hid (wr.ownsRow E.heap.size 272 2 u6 (ST q).length (bW (ST q))):=o;have HK:Hid (Keep bD E wr):=hK;clear o hK;go_wp2
   go_loopw [6,9,10,36] (λv _ _ i wx=>∃j:Nat,j<=8*k/\i=ah j/\wx.ownsRow E.heap.size 272 2 v (ST q++SR q j).length (bW (ST q++SR q j))/\Keep bD E wx) (λ_ _ _ i _=>8*k-(intOf i).toNat)
   case atStart=>exact⟨0,bU _,X0,by rw[HR0.out,List.append_nil];exact HO.out,HK.out⟩
   case round=>
    obtain⟨j,hj,rfl,o,hK⟩:=hrel;by_cases hlj:j<8*k
    .have c2:=((HT.out.keep hK (λh=>h) (λ_ _ h=>h)).rows q hlt).cell hlj;have j1:(j:Int)<8*(k:Int):=by omega
     have HO2:Hid (wr.ownsRow E.heap.size 272 2 u6 (ST q++SR q j).length (bW (ST q++SR q j))):=o;have N:Hid (Keep bD E wr):=hK;rw[H8.out]at c2;have D:=HS2.out q j;clear o hK;cases y:cZ P q j with
     |true=>
      rw[y]at c2;rw[y,aI rfl]at D;have HS3:Hid _:=D;clear D;have P2:Hid (Calls Tryz.prog 241 #[.slice a2 k O,ah j] wr λe w'=>e=.returned (ah (pkt T j:Nat))/\w'=wr):=qQ a2 k O j (λi=>T.getD i 0) wr d hlj V.out (adZ.out.keep N.out (λ_ _ h=>h));have P3:Hid (Calls Tryz.prog 241 #[.slice a3 U.length Q,ah q] wr λe w'=>e=.returned (ah (pkt U q:Nat))/\w'=wr):=qQ a3 U.length Q q (λi=>U.getD i 0) wr s hlt HN3.out (ad1.out.keep N.out (λ_ _ h=>h));generalize pkt T j=F at*;generalize pkt U q=G at*
      go_wp2_with fail
      refine Calls.mono P2.out ?_;rintro e w2 ⟨rfl,rfl⟩
      go_wp2_with fail
      refine Calls.mono P3.out ?_;rintro e w2 ⟨rfl,rfl⟩;clear P2 P3
      go_wp2_with (at_builtin;(refine wpList_append_lies _ rfl _ _ 240 rfl E.heap.size 272 i0 (.agg #[ah 0,ah 0]) 2 16 underlying240 HZ.out.1 HZ.out.2.1 HZ.out.2.2.1 HZ.out.2.2.2 rfl U0 u6 _ _ rfl (HO2.out.alloc _) ⟨w2.heap.size,0,none⟩ 1 1 [ah F,ah G] rfl rfl ?c1 ?c2 U0 ?c3 ?c4 ?c5 (w2.heap.size+1) ?c6 ?_))
      case c1=>
       intro x u hx
       match x,hx with
       |0,hx=>simp at hx;subst hx;simp[Addr.add]
       |1,hx=>simp at hx;subst hx;simp[Addr.add]
      case c2=>intro u hu;simp at hu;obtain rfl|rfl:=hu<;>rfl
      case c3=>have h1:=HL.out q;have h2:=HL2.out q j;have h3:q*(8*k)<=96*96:=iJ Q0 Q0;rw[List.length_append];unfold maxLen;omega
      case c4=>have h1:=HL.out q;have h2:=HL2.out q j;have h3:q*(8*k)<=96*96:=iJ Q0 Q0;rw[List.length_append];omega
      case c5=>have:=N.out.size;simp;omega
      case c6=>simp
      intro g cap w3 o R hat ad6;have R1:Hid (w3.ownsRow E.heap.size 272 2 (aU g ((ST q).length+(SR q j).length+1) cap) ((ST q).length+(SR q j).length+1) (bW (ST q++SR q j)++[ah F,ah G])):=o;have R2:Hid (Keep bD E w3):=(N.out.alloc _).grown R (λb e hlt=>aF hlt (by have:=(mF HO2.out e).1;omega));clear o R hat ad6;go_wp2;refine⟨⟨j+1,Q0,by go_num,?_,R2.out⟩,by simp[intOf];omega⟩;rw[HS3.out,<-List.append_assoc,zP];have:=R1.out;simpa[Nat.add_assoc]using this
     |false=>rw[y]at c2;rw[y,av U0]at D;have HS3:Hid _:=D;clear D;go_wp2;refine⟨⟨j+1,Q0,by go_num,?_,N.out⟩,by simp[intOf];omega⟩;rw[HS3.out];exact HO2.out
    .have:j=8*k:=by omega
     subst this;go_wp2;refine⟨⟨q+1,Q0,by go_num,?_,hK⟩,by simp[intOf];omega⟩;rw[HS.out];exact o
  .have:q=8*U.length:=by omega
   subst this;go_wp2
   go_ret
   refine⟨_,P,rfl,HP.out,?_,HKE.out.trans hK (λ_ _ h=>h)⟩;rw[HE.out];exact Pd o HKE.out.size
def add1(width:Nat)(p:Nat×Nat)(Y:Nat->Nat):Nat->Nat:=λx=>if p.2*width<=x/\x<p.2*width+width then Y x^^^Y (p.1*width+(x-p.2*width))else Y x
def iD(width:Nat)(L:List (Nat×Nat))(Y:Nat->Nat):Nat->Nat:=L.foldl (λY p=>add1 width p Y) Y
theorem MK(w:Nat)(L:List (Nat×Nat))(p:Nat×Nat)(Y:Nat->Nat):iD w (L++[p]) Y=add1 w p (iD w L Y):=by simp[iD]
theorem TV{w N:Nat}{p:Nat×Nat}(h:∀x,x<N->Y x<256)(b:p.1*w+w<=N):∀x,x<N->add1 w p Y x<256:=by
 intro x a;unfold add1
 split
 .exact aK.fD (h x a) (h _ Q0)
 .exact h x a
theorem step_cells(h:w.ownsRow d 272 2 v n (bW L)):n=L.length/\((L=[]/\∃a c,v=.slice a 0 c)\/∃g c,v=aU g L.length c/\g<w.heap.size/\d<=g/\∀q,q<L.length->w.cell? (aB g (q*2))=some (ah ((L.getD q (0,0)).1:Nat))/\w.cell? (aB g (q*2+1))=some (ah ((L.getD q (0,0)).2:Nat))):=by
 have s:∀(L:List (Nat×Nat)),(bW L).length=L.length*2:=λL=>by
  induction L with
  |nil=>rfl
  |cons p L i=>show(bW (p::L)).length=_;simp only[bW,List.flatMap_cons,List.length_append,List.length_cons,List.length_nil]at i ⊢;omega
 have e:∀(L:List (Nat×Nat))(q:Nat),q<L.length->(bW L)[q*2]? =some (ah ((L.getD q (0,0)).1:Nat))/\(bW L)[q*2+1]? =some (ah ((L.getD q (0,0)).2:Nat)):=λL=>by
  induction L with
  |nil=>intro q b;cases b
  |cons p L i=>
   intro q b;cases q with
   |zero=>simp[bW]
   |succ q=>
    have:=i q (by simpa using b);have o:(q+1)*2=q*2+2:=by omega
    rw[o];simpa[bW,List.getD]using this
 have k:n=L.length:=by have:=h.1;rw[s]at this;omega
 refine⟨k,?_⟩;obtain⟨rfl,t⟩|⟨g,c,cur,rfl,r,f,u,x,y,j⟩:=h.2
 .exact .inl ⟨List.length_eq_zero_iff.1 Q0,none,0,rfl⟩
 .refine .inr ⟨g,c,by rw[k],(bJ.1 f).1,r,λq b=>?_⟩;obtain⟨l,m⟩:=e L q b;constructor
  .rw[cell_of_row w g _ cur _ (0,0) f,<-jE,<-l,<-j,vw Q0]
  .rw[cell_of_row w g _ cur _ (0,0) f,<-jE,<-m,<-j,vw Q0]
theorem Pe{T F:Nat}(x:Nat):(if x=T+j then Y (T+j)^^^Y (F+j)else if T<=x/\x<T+j then Y x^^^Y (F+(x-T))else Y x)=if T<=x/\x<T+(j+1)then Y x^^^Y (F+(x-T))else Y x:=by
 by_cases e:x=T+j
 .subst e;rw[aI rfl,aI Q0,show T+j-T=j by omega]
 .rw[av e];by_cases a:T<=x/\x<T+j
  .rw[aI a,aI Q0]
  .rw[av a,av Q0]
def Ku(w:au)(v:aA)(L:List (Nat×Nat))(bb:Nat):Prop:=(L=[]/\∃a cap,v=.slice a 0 cap)\/∃g cap,v=aU g L.length cap/\g<w.heap.size/\g≠bb/\∀q,q<L.length->w.cell? (aB g (q*2))=some (ah ((L.getD q (0,0)).1:Nat))/\w.cell? (aB g (q*2+1))=some (ah ((L.getD q (0,0)).2:Nat))
theorem ML(v:aA)(L:List (Nat×Nat))(d N c:Nat)(X:Nat->Nat)(w:au)(hN:N<=1000)(hw:0<c)(TW:c<=8)(hLn:L.length<=100000)(hL:∀p∈L,p.1≠p.2/\p.1*c+c<=N/\p.2*c+c<=N/\p.1<1000/\p.2<1000)
 (hs:Ku w v L d)(S:isRow w d N X)(bX:∀x,x<N->X x<256):
 Calls Tryz.prog 185 #[v,aU d N N,ah c] w λe w'=>e=.returned (.tuple #[])/\isRow w' d N (iD c L X)/\(∀x,x<N->iD c L X x<256)/\Keep (λb=>b=d) w w':=by
 obtain⟨rfl,a,M,rfl⟩|⟨g,M,rfl,hg,hbg,hcs⟩:=hs
 .go_enter func185,ntmps185
  go_wp2
  go_loop [13] (λi=>i=ah 0) (λ_=>0)
  case atStart=>rfl
  case round=>
   subst hrel;go_wp2
   go_end0
   exact⟨rfl,S,bX,Keep.refl _ _⟩
 have C:Hid _:=hcs;have HX:Hid (isRow w d N X):=S;have HL:Hid (∀p∈L,p.1≠p.2/\p.1*c+c<=N/\p.2*c+c<=N/\p.1<1000/\p.2<1000):=hL;clear hcs S hL
 go_enter func185,ntmps185
 go_wp2
 go_loopw [7,8,9,10,13,29,30] (λ_ _ _ _ i _ _ wr=>∃q:Nat,q<=L.length/\i=ah q/\isRow wr d N (iD c (L.take q) X)/\(∀x,x<N->iD c (L.take q) X x<256)/\Keep (λb=>b=d) w wr) (λ_ _ _ _ i _ _ _=>L.length-(intOf i).toNat)
 case atStart=>exact⟨0,bU _,X0,HX.out,bX,Keep.refl _ _⟩
 case round=>
  obtain⟨q,hq,rfl,l,y,hK⟩:=hrel;by_cases hlt:q<L.length
  .obtain⟨O,Q⟩:=C.out q hlt;rw[<-hK.cell (p:=⟨g,q*2,none⟩) hg (by show g≠d;omega)]at O;rw[<-hK.cell (p:=⟨g,q*2+1,none⟩) hg (by show g≠d;omega)]at Q;have o:L.getD q (0,0)∈L:=by simp[List.getD,hlt]
   obtain⟨V,W,n3,n4,n5⟩:=HL.out _ o;have u:L.take (q+1)=L.take q++[L.getD q (0,0)]:=by rw[List.take_succ_eq_append_getElem hlt];simp[List.getD,hlt]
   have s:Hid (iD c (L.take (q+1)) X=add1 c (L.getD q (0,0)) (iD c (L.take q) X)):=by show _=_;rw[u,MK]
   have HR:Hid (isRow wr d N (iD c (L.take q) X)):=l;have B:Hid (∀x,x<N->iD c (L.take q) X x<256):=y;have Z:Hid (Keep (λb=>b=d) w wr):=hK;have U:d<wr.heap.size:=l.lt;clear u l y hK o;generalize iD c (L.take q) X=Y at*;generalize L.getD q (0,0)=p at*;obtain⟨f,t⟩:=p;simp only at O Q V W n3 n4 n5;have i1:(q:Int)<(L.length:Int):=by omega
   obtain⟨F,m⟩:∃F:Nat,F=f*c:=⟨_,rfl⟩;obtain⟨T,n⟩:∃T:Nat,T=t*c:=⟨_,rfl⟩;have ef:(f:Int)*(c:Int)=(F:Int):=by rw[m];push_cast;rfl
   have et:(t:Int)*(c:Int)=(T:Int):=by rw[n];push_cast;rfl
   have hap:F+c<=T\/T+c<=F:=by
    obtain h|h:=Nat.lt_or_gt_of_ne V
    .left;have:=iR c h;rw[jk]at this;omega
    .right;have:=iR c h;rw[jk]at this;omega
   have A:Hid (add1 c (f,t) Y=λx=>if T<=x/\x<T+c then Y x^^^Y (F+(x-T))else Y x):=by rw[m,n];rfl
   rw[<-m]at W;rw[<-n]at n3;have D:Hid (F=f*c):=m;have HTW:Hid (T=t*c):=n;have m1:(F:Int)<=(N:Int):=by omega
   have m2:(T:Int)<=(N:Int):=by omega
   clear m n V;go_wp2
   go_quiet (fail)
   have R:Hid (isRow ((wr.alloc (.cells #[ah f,ah t] 272)).drewN nq) d N Y):=World.rowIs.alloc HR.out _;have E:Hid (Keep (λb=>b=d) w ((wr.alloc (.cells #[ah f,ah t] 272)).drewN nq)):=(Z.out.alloc _).drewN nq;generalize((wr.alloc (.cells #[ah f,ah t] 272)).drewN nq)=w2 at*;clear O Q HR Z U ef et;go_wp2
   go_loopw [10,30] (λ_ i wx=>∃j:Nat,j<=c/\i=ah j/\isRow wx d N (λx=>if T<=x/\x<T+j then Y x^^^Y (F+(x-T))else Y x)/\Keep (λb=>b=d) w wx) (λ_ i _=>c-(intOf i).toNat)
   case atStart=>exact⟨0,bU _,X0,R.out.congr (λx _=>by rw[av Q0]),E.out⟩
   case round=>
    obtain⟨j,hj,rfl,l,hK⟩:=hrel;by_cases hlj:j<c
    .have c1:wr.cell? (aB d (T+j))=some (.int .u8 ((Y (T+j):Nat):Int)):=by
      have:=l.cell (i:=T+j) Q0;rwa[av Q0]at this
     have c2:wr.cell? (aB d (F+j))=some (.int .u8 ((Y (F+j):Nat):Int)):=by have:=l.cell (i:=F+j) Q0;rwa[av Q0]at this
     have z1:=l.frozen (T+j);have b1:=B.out (T+j) Q0;have b2:=B.out (F+j) Q0;have J:Hid (bits .xor .u8 ((Y (T+j):Nat):Int) ((Y (F+j):Nat):Int)=((Y (T+j)^^^Y (F+j):Nat):Int)):=u8_xor_nat _ _ b1 b2;have I:Hid (isRow wr d N (λx=>if T<=x/\x<T+j then Y x^^^Y (F+(x-T))else Y x)):=l;have G:Hid (Keep (λb=>b=d) w wr):=hK;have j1:(j:Int)<((N-T:Nat):Int):=by omega
     have j2:(j:Int)<((N-F:Nat):Int):=by omega
     clear l hK;go_wp2
     go_region
     go_wp2;rw[J.out];refine⟨⟨j+1,Q0,by go_num,?_,(G.out.setCell (λ_=>rfl) _).drew⟩,by simp[intOf];omega⟩;refine isRow.drew ((I.out.set (T+j) _).congr (λx _=>?_));exact Pe x
    .have:j=c:=by omega
     subst this;go_wp2;refine⟨⟨q+1,Q0,by go_num,?_,?_,hK⟩,by simp[intOf];omega⟩
     .rw[s.out,A.out];exact l
     .rw[s.out];exact TV B.out (by show f*j+j<=N;rw[<-D.out];exact W)
  .have:q=L.length:=by omega
   subst this;rw[List.take_length]at l y;go_wp2
   go_end0
   exact⟨rfl,l,y,hK⟩
end
end Go.Proofs.YtmhafipgbfaapaaGreatDoor
namespace Go.Proofs
section
open Go.Proofs.Tryz
abbrev muLink:Go.Conc.Locks.MuLink:={lock:=221,unlock:=222,ilock:=234,iunlock:=235,lockSlow:=247,unlockSlow:=249,disable:=171,enable:=173,acquire:=174,relMerge:=209,cas32:=246,add32:=248,tMutex:=111,tIMutex:=109,tPMutex:=281,tPIMutex:=297,tPI32:=299,tUP:=229,tNoCopy:=106,tU32:=107}
theorem muLib:Go.Conc.Locks.MuLib Tryz.prog muLink:=⟨func221,func222,func234,func235,func171,func173,func174,func209,func246,func248,underlying109,runUnderlying109,sizeOf109,isAgg109,zeroValue109,underlying111,runUnderlying111,sizeOf111,isAgg111,zeroValue111,underlying281,runUnderlying281,sizeOf281,isAgg281,zeroValue281,underlying297,runUnderlying297,sizeOf297,isAgg297,zeroValue297,underlying299,runUnderlying299,sizeOf299,isAgg299,zeroValue299,underlying229,runUnderlying229,sizeOf229,isAgg229,zeroValue229,underlying106,runUnderlying106,sizeOf106,isAgg106,zeroValue106,underlying21,runUnderlying21,sizeOf21,isAgg21,zeroValue21,M0⟩
end
end Go.Proofs
namespace Go.Proofs.YtmhafipgbfaapaaGreatDoor
section
open Go.Proofs.Tryz
open Go Go.RowKit Go.MuLone
theorem chk(e c d f g b4 h i j k l b a:Bool)(x y:Int)(w:au):(Instr.checkKey e 10000 238 (.agg #[ah x,ah y,.bool c,.bool d,.bool f,.bool g,.bool b4,.bool h,.bool i,.bool j,.bool k,.bool l,.bool b,.bool a])).run Tryz.prog w=.ok () w:=by kernel_rfl
theorem TY(c d e f b4 g h i j k b a:Bool)(x y:Int)(w:au):(Instr.lookup 112 (.map none) (.agg #[ah x,ah y,.bool c,.bool d,.bool e,.bool f,.bool b4,.bool g,.bool h,.bool i,.bool j,.bool k,.bool b,.bool a]) true).run Tryz.prog w=.ok (.tuple #[.slice none 0 0,.bool false]) w:=by kernel_rfl
abbrev jH:Go.Conc.Lib.WgLink:={add:=167,done:=170,wait:=120,relMerge:=209,disable:=171,enable:=173,inBubble:=179,associate:=210,fatal:=211,uOr:=212,uAdd:=213,raceRead:=214,uLoad:=172,uStore:=215,disassociate:=177,semrelease:=216,acquire:=174,isAssociated:=175,uCas:=176,raceWrite:=178,semacquire:=180,orU64:=231,addU64:=232,loadU64:=217,storeU64:=233,casU64:=218,tWgP:=225,tUP:=229,tAssoc:=261,tWg:=183,tAU:=181,tU64:=179,tUint:=227,tU32:=107,tPU32:=233,tPAU:=266,tPU64:=268,tNoCopy:=106,tANoCopy:=177,tAlign64:=178}
theorem Fp:Go.Conc.Lib.WgLib Tryz.prog jH:=⟨func167,func170,func120,func209,func171,func173,func179,func210,func211,func212,func213,func214,func172,func215,func177,func216,func174,func175,func176,func178,func180,func231,func232,func217,func233,func218,underlying225,runUnderlying225,sizeOf225,isAgg225,zeroValue225,underlying229,runUnderlying229,sizeOf229,isAgg229,zeroValue229,underlying261,runUnderlying261,sizeOf261,isAgg261,zeroValue261,underlying183,runUnderlying183,sizeOf183,isAgg183,zeroValue183,underlying181,runUnderlying181,sizeOf181,isAgg181,zeroValue181,underlying179,runUnderlying179,sizeOf179,isAgg179,zeroValue179,underlying227,runUnderlying227,sizeOf227,isAgg227,zeroValue227,underlying107,runUnderlying107,sizeOf107,isAgg107,zeroValue107,underlying233,runUnderlying233,sizeOf233,isAgg233,zeroValue233,underlying266,runUnderlying266,sizeOf266,isAgg266,zeroValue266,underlying268,runUnderlying268,sizeOf268,isAgg268,zeroValue268,underlying0,runUnderlying0,sizeOf0,isAgg0,zeroValue0,underlying3,runUnderlying3,sizeOf3,isAgg3,zeroValue3,underlying4,runUnderlying4,sizeOf4,isAgg4,zeroValue4,underlying9,runUnderlying9,sizeOf9,isAgg9,zeroValue9,underlying20,runUnderlying20,sizeOf20,isAgg20,zeroValue20,underlying21,runUnderlying21,sizeOf21,isAgg21,zeroValue21,M0,M0⟩
def fF(s:aN)(j:Nat):Nat:=(s.data.toList[j]?.getD 0).toNat
theorem rY(s:aN)(j:Nat):fF s j<256:=UInt8.toNat_lt _
def gZ(HN:Nat->Nat):Nat->Nat->Bool
 |0,_=>false
 |i+1,n=>if n=HN i then true else gZ HN i n
def tK(HN:Nat->Nat)(HD:Nat->aN)(size:Nat):Nat->Nat->Nat
 |0,_=>0
 |i+1,p=>if HN i*size<=p/\p<HN i*size+size then fF (HD i) (p-HN i*size)else tK HN HD size i p
theorem IG(N:Nat->Nat)(H:Nat->aN)(s:Nat):∀i p,tK N H s i p<256
 |0,_=>by show 0<256;decide
 |i+1,p=>by
  unfold tK
  split
  .exact rY _ _
  .exact IG N H s i p
theorem zh(H:Nat->Nat)(i n:Nat):gZ H i n=true↔∃j,j<i/\H j=n:=by
 induction i with
 |zero=>simp[gZ]
 |succ i c=>
  unfold gZ;by_cases e:n=H i
  .subst e;simp only[if_true,true_iff];exact⟨i,Q0,rfl⟩
  .rw[av e,c];constructor
   .rintro⟨j,b,h⟩;exact⟨j,Q0,h⟩
   .rintro⟨j,b,h⟩;refine⟨j,?_,h⟩;obtain a|a:=Nat.lt_succ_iff_lt_or_eq.1 b
    .exact a
    .subst a;exact aF h.symm e
theorem DF(H:Nat->Nat)(k n:Nat)(c:∀i,i<k->H i<n)(d:∀i j,i<k->j<k->H i=H j->i=j):(aV (gZ H k) n).length=k:=by
 have:=aK.same_length (uz (gZ H k) n) (aK.Ch (f:=H) (l:=List.range k) List.nodup_range (λa b g m=>d a b (gY.1 g) (gY.1 m))) (λa=>by
  simp only[aV,List.mem_filter,gY,gQ,zh];constructor
  .rintro⟨_,j,h,e⟩;exact⟨j,h,e⟩
  .rintro⟨j,h,e⟩;exact⟨e▸c j h,j,h,e⟩)
 rw[this];simp
def pf(k m:Nat)(t:Nat->Bool)(j:Nat):aA:=if j=0 then ah k else if j=1 then ah m else .bool (t (j-2))
theorem Pf(k m i:Nat)(h:i<14):(#[ah k,ah m,.bool false,.bool false,.bool false,.bool false,.bool false,.bool false,.bool false,.bool false,.bool false,.bool false,.bool false,.bool false]:Array aA)[i]? =some (pf k m (λ_=>false) i):=by
 match i,h with
 |0,_=>rfl
 |1,_=>rfl
 |2,_=>rfl
 |3,_=>rfl
 |4,_=>rfl
 |5,_=>rfl
 |6,_=>rfl
 |7,_=>rfl
 |8,_=>rfl
 |9,_=>rfl
 |10,_=>rfl
 |11,_=>rfl
 |12,_=>rfl
 |13,_=>rfl
theorem T9(k m:Nat)(H:Nat->Nat)(q j:Nat):(if j=2+H q then Value.bool true else pf k m (gZ H q) j)=pf k m (gZ H (q+1)) j:=by
 unfold pf;by_cases e:j=2+H q
 .subst e;rw[aI rfl,av Q0,av Q0,show 2+H q-2=H q by omega];simp[gZ]
 .rw[av e];by_cases a:j=0
  .simp[a]
  .by_cases b:j=1
   .simp[b]
   .rw[av a,av b,av a,av b];simp[gZ,show¬j-2=H q by omega]
theorem XK(N:Nat->Nat)(H:Nat->aN)(s q F j:Nat)(a:F=N q*s)(S:(H q).size=s):
 (if F<=j/\j<F+((H q).data.toList.map λx=>Value.int .u8 (x.toNat:Int)).length then((H q).data.toList.map λx=>Value.int .u8 (x.toNat:Int))[j-F]?.getD default else Value.int .u8 ((tK N H s q j:Nat):Int))=Value.int .u8 ((tK N H s (q+1) j:Nat):Int):=by
 have b:((H q).data.toList.map λx=>Value.int .u8 (x.toNat:Int)).length=s:=by rw[List.length_map,<-S];simp
 rw[b];show _=Value.int .u8 (((if N q*s<=j/\j<N q*s+s then fF (H q) (j-N q*s)else tK N H s q j:Nat)):Int);rw[<-a];by_cases h:F<=j/\j<F+s
 .rw[aI h,aI h];have l:j-F<(H q).data.toList.length:=by rw[show(H q).data.toList.length=s from by rw[<-S];simp];omega
  rw[List.getElem?_map,List.getElem?_eq_getElem l];simp only[fF,List.getElem?_eq_getElem l];rfl
 .rw[av h,av h]
theorem Pg:∀w:au,(Go.sizeOf 5).run Tryz.prog w=.ok 1 w:=sizeOf5
theorem DI(t:Nat->Bool)(n i:Nat)(a:i<(aV t n).length):t ((aV t n).getD i 0)=true:=by
 have h:(aV t n)[i]∈aV t n:=List.getElem_mem a;have e:(aV t n).getD i 0=(aV t n)[i]:=by simp[List.getD,a]
 rw[e];unfold aV at h;rw[List.mem_filter]at h;exact h.2
theorem rZ(k m:Nat)(t:Nat->Bool)(P:Nat->Nat->Nat)(l:(aV t (k+m)).length=k)(p:Nat×Nat)(h:p∈dD k m t P):
 ∃a b x y,a<k+m/\b<k+m/\x<8/\y<8/\t a=true/\t b=false/\p.1=8*a+x/\p.2=8*b+y:=by
 unfold dD iA dH at h;simp only[List.mem_flatMap,gY,gQ,List.mem_filter]at h;obtain⟨r,f,q,⟨e,_⟩,rfl⟩:=h;have c:q/8<(aV t (k+m)).length:=by omega
 have d:r/8<(aV (λi=> !t i) (k+m)).length:=by omega
 refine⟨_,_,q%8,r%8,vG t (k+m) _ c,vG _ (k+m) _ d,Q0,Q0,DI t _ _ c,?_,rfl,rfl⟩;have:=DI (λi=> !t i) _ _ d;simpa using this
theorem Pj(k m w:Nat)(t:Nat->Bool)(P:Nat->Nat->Nat)(T:Nat)(c:T=(k+m)*(8*w))(i:k+m<=12)(h:(aV t (k+m)).length=k)(p:Nat×Nat)(j:p∈dD k m t P):
 p.1≠p.2/\p.1*w+w<=T/\p.2*w+w<=T/\p.1<1000/\p.2<1000:=by
 obtain⟨a,b,x,y,u,v,z,A,d,o,q,r⟩:=rZ k m t P h p j;have s:T=8*(k+m)*w:=by rw[c,lN 8 (k+m),Nat.mul_assoc]
 have f:p.1+1<=8*(k+m):=by omega
 have g:p.2+1<=8*(k+m):=by omega
 have l:=iR w f;have n:=iR w g;rw[jk]at l n;refine⟨λe=>?_,Q0,Q0,Q0,Q0⟩;have:a=b:=by omega
 rw[this,o]at d;cases d
theorem MN(k m:Nat)(t:Nat->Bool)(P:Nat->Nat->Nat)(h:k+m<=12):(dD k m t P).length<=100000:=by have a:=zN (cZ P) (pkt (aV t (k+m))) (pkt (aV (λi=> !t i) (k+m))) (8*k) (8*(aV (λi=> !t i) (k+m)).length);have b:=rX (λi=> !t i) (k+m);have c:8*(aV (λi=> !t i) (k+m)).length*(8*k)<=96*96:=iJ Q0 Q0;unfold dD;omega
theorem Pk(k m s:Int)(w:au)(i:1<=k)(j:0<=m)(l:m<=12-k)(n:8<=s)(o:s<=64)(a:s%8=0):
 Calls Tryz.prog 50 #[ah k,ah m,ah s] w λe b=>e=.returned (.bool true)/\b=w:=by
 have c:¬k<1:=by omega
 have d:¬m<0:=by omega
 have f:¬12-k<m:=by omega
 have g:(s%8==0)=true:=by simpa using a
 go_enter func50,ntmps50
 go_wp2
 go_ret
 exact⟨rfl,rfl⟩
def told(k m width:Nat)(HN:Nat->Nat)(HD:Nat->aN)(P:Nat->Nat->Nat)(i:Nat):aN:=jo (iD width (dD k m (gZ HN k) P) (tK HN HD (8*width) k)) (i*(8*width)) (8*width)
