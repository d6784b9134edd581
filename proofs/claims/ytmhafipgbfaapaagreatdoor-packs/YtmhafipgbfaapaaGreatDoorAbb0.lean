import Derived.KernelRfl
import GoSem.Step
set_option linter.unusedVariables false
namespace Go.Proofs
theorem bJ:∀{α:Type}{i:Nat}{b:α}{xs:Array α},xs[i]? =Option.some b↔∃h,xs[i]=b:=@Array.getElem?_eq_some_iff
theorem bG:∀{n m k:Nat},n<m->m<=k->n<k:=@Nat.lt_of_lt_of_le
theorem aS:∀(n:Nat),n<=n:=@Nat.le_refl
theorem eB:∀{a b:ByteArray},(a++b).size=a.size+b.size:=@ByteArray.size_append
theorem bY:∀{n m k:Nat},n<=m->m<=k->n<=k:=@Nat.le_trans
theorem jN:∀{α:Type}{xs:Array α}{i j:Nat},i≠j->∀{a:α},(xs.setIfInBounds i a)[j]? =xs[j]? :=@Array.getElem?_setIfInBounds_ne
theorem iU:∀{α:Type}{xs:Array α}{i:Nat}(h:i<xs.size),xs[i]? =Option.some xs[i]:=@Array.getElem?_eq_getElem
theorem fq:∀{α:Type}{a b:α},(Option.some a).getD b=a:=@Option.getD_some
theorem dO:∀(n:Nat),¬n<0:=@Nat.not_lt_zero
theorem bU:∀(n:Nat),0<=n:=@Nat.zero_le
theorem eP:∀{a b:Nat},a<b->a%b=a:=@Nat.mod_eq_of_lt
theorem gL:∀{α:Type}{b:α}{ac9:Type}{x:Option ac9}{f:ac9->α},Option.map f x=Option.some b↔∃a,x=Option.some a/\f a=b:=@Option.map_eq_some_iff
theorem gU:(Bool.false=Bool.true)=False:=@Bool.false_eq_true
theorem iR:∀{n m:Nat}(k:Nat),n<=m->n*k<=m*k:=@Nat.mul_le_mul_right
theorem eu:∀(n:Nat),0+n=n:=@Nat.zero_add
theorem gu:∀(a b:Bool),((a&&b)=Bool.true)=(a=Bool.true/\b=Bool.true):=@Bool.and_eq_true
theorem jE:∀{α:Type}{xs:Array α}{i:Nat},xs.toList[i]? =xs[i]? :=@Array.getElem?_toList
theorem gH:∀{α:Type}{val Ii:α},Option.some val=Option.some Ii->val=Ii:=@Option.some.inj
theorem gq:∀{α:Type}{β:Type}(a:α)(f:α->β),Option.map f (Option.some a)=Option.some (f a):=@Option.map_some
theorem gY:∀{m n:Nat},m∈List.range n↔m<n:=@List.mem_range
theorem iV:∀{α:Type}(val Ii:α),(Option.some val=Option.some Ii)=(val=Ii):=@Option.some.injEq
theorem iI:∀{p:Prop}[inst:Decidable p],¬p->Decidable.decide p=Bool.false:=@decide_eq_false
theorem iQ:∀(n:Nat),¬n<n:=@Nat.lt_irrefl
theorem oP:∀{α:Type}{xs:Array α}{i:Nat}{d:α},xs.getD i d=xs[i]?.getD d:=@Array.getD_eq_getD_getElem?
theorem iJ:∀{n₁ m₁ n₂ m₂:Nat},n₁<=n₂->m₁<=m₂->n₁*m₁<=n₂*m₂:=@Nat.mul_le_mul
theorem fu:∀{a b:Prop},a->b->a/\b:=@And.intro
theorem jk:∀(n m:Nat),n.succ*m=n*m+m:=@Nat.succ_mul
theorem gQ:∀{α:Type}{β:Type}{b:β}{f:α->β}{l:List α},b∈List.map f l↔∃a,a∈l/\f a=b:=@List.mem_map
theorem oq:∀{a b:Nat},a<b->a<b.succ:=@Nat.lt_succ_of_lt
theorem jV:∀(x y z:Nat),x^^^y^^^z=x^^^(y^^^z):=@Nat.xor_assoc
theorem jY:∀(n m:Nat),n<m\/n≥m:=@Nat.lt_or_ge
theorem tu:∀{α:Type}(l:List α)(i:Nat)(a:α),l.toArray.setIfInBounds i a=(l.set i a).toArray:=@List.setIfInBounds_toArray
theorem nG:∀{p:Prop}[inst:Decidable p],p->Decidable.decide p=Bool.true:=@decide_eq_true
theorem lN:∀(n m:Nat),n*m=m*n:=@Nat.mul_comm
theorem qW:∀{α:Type}{xs:Array α}{i:Nat}{a:α},xs[i]? =Option.some a->a∈xs:=@Array.mem_of_getElem?
theorem zK:∀(n:Nat),n%2=0\/n%2=1:=@Nat.mod_two_eq_zero_or_one
theorem vw:∀{α:Type}{l:List α}{i j:Nat},i<j->(List.take j l)[i]? =l[i]? :=@List.getElem?_take_of_lt
theorem nM:∀(x:Nat),x^^^0=x:=@Nat.xor_zero
theorem oL:∀{α:Type}{i:Nat}{xs:Array α}{x:α},(xs.push x)[i]? =if i=xs.size then Option.some x else xs[i]? :=@Array.getElem?_push
theorem tH:∀{n:Nat},n>0->∀{i j:Nat},i<=j->n^i<=n^j:=@Nat.pow_le_pow_right
theorem oI:∀(n:Nat),n+0=n:=@Nat.add_zero
theorem vv:∀{a:ByteArray}{b e:Nat},(a.extract b e).data=a.data.extract b e:=@ByteArray.data_extract
theorem lS:∀{α:Type}{b:α}{l:List α}{a:α},a∈b::l↔a=b\/a∈l:=@List.mem_cons
theorem C9:∀{α:Type}{xs:Array α}{i:Nat}{a:α},i<xs.size->(xs.setIfInBounds i a)[i]? =Option.some a:=@Array.getElem?_setIfInBounds_self_of_lt
theorem tq:∀{α:Type}{xs:List α}{i:Nat}(h:i<xs.toArray.size),xs.toArray[i]=xs[i]:=@List.getElem_toArray
theorem uZ:∀{α:Type}{xs:Array α},xs.toList.length=xs.size:=@Array.length_toList
theorem vH:∀{α:Type}{l:List α}{i:Nat},l.length<=i->l[i]? =Option.none:=@List.getElem?_eq_none
theorem kM:∀{α:Type}{β:Type}{f:α->β}{a:α}{l:List α},List.map f (a::l)=f a::List.map f l:=@List.map_cons
theorem Aq:∀{α:Type}{p:α->Bool}{xs:Array α},xs.all p=Bool.true↔∀(x:α),x∈xs->p x=Bool.true:=@Array.all_eq_true_iff_forall_mem
theorem tC:∀{α:Type}{x:α}{xs:List α}{a:α},(x::xs).set 0 a=a::xs:=@List.set_cons_zero
theorem av:∀{c:Prop}{h:Decidable c},¬c->∀{α:Sort _}{t e:α},ite c t e=e:=@if_neg
theorem aI:∀{c:Prop}{h:Decidable c},c->∀{α:Sort _}{t e:α},ite c t e=t:=@if_pos
theorem aF:∀{a b:Prop},a->¬a->b:=@absurd
abbrev au:=World
abbrev aA:=Value
abbrev aN:=ByteArray
abbrev dN:=Goroutine
abbrev bf:=TypeId
abbrev aD:=Nat->Prop
abbrev ak:Value:=undef
abbrev aW(s:ByteArray):Value:=.string s
abbrev aT(o:Array Oper)(l:List Nat):Item:=.inRegion o l
abbrev aB(b o:Nat):Addr:=⟨b,o,none⟩
abbrev ah(x:Int):Value:=.int .i64 x
abbrev aJ(b o:Nat):Value:=.pointer (some ⟨b,o,none⟩)
abbrev aU(b n c:Nat):Value:=.slice (some ⟨b,0,none⟩) n c
theorem M0 {p:Prop}(h:p:=by kernel_rfl):p:=h
theorem Q0 {p:Prop}(h:p:=by omega):p:=h
theorem U0 {p:Prop}(h:p:=by decide):p:=h
theorem X0 {p:Prop}(h:p:=by simp):p:=h
theorem Z0 {p:Prop}(h:p:=by trivial):p:=h
theorem O1 {p:Prop}(h:p:=by simp[Act.eval,Lk.mu]):p:=h
theorem U1 {p:Prop}(h:p:=by simpa using hJ):p:=h
theorem Y1 {p:Prop}(h:p:=by simp[bE];try exact .int _ _):p:=h
theorem J2 {p:Prop}(h:p:=by simp[aC]):p:=h
theorem U2 {p:Prop}(h:p:=by intro c;simp):p:=h
theorem Y2 {p:Prop}(h:p:=by simp[aj,aC]):p:=h
theorem J3 {p:Prop}(h:p:=by rw[aj (by decide)];simp[aC]):p:=h
theorem K3 {p:Prop}(h:p:=by rw[Ej,aj (by decide)];simp[aC]):p:=h
theorem R3 {p:Prop}(h:p:=by simp[aj,aO,aC,Act.eval]):p:=h
theorem U3 {p:Prop}(h:p:=by rw[aj (by decide)];rfl):p:=h
theorem V3 {p:Prop}(h:p:=by simp only[iP,f122];simp[Region.binds]):p:=h
theorem X3 {p:Prop}(h:p:=by simp[aC,hf.h0,hf.h1,hf.h2,hf.h3]):p:=h
theorem Y3 {p:Prop}(h:p:=by have h:=Vg k m width len;simp only[dB,pq,h,GU];omega):p:=h
theorem I4 {p:Prop}(h:p:=by simp[aj,aO,aC,Act.eval,hf.h7,hf.h8,hf.h9]):p:=h
theorem J4 {p:Prop}(h:p:=by simp[aj,aC,e0,e1,e5,e6,e13,e14]):p:=h
theorem K4 {p:Prop}(h:p:=by rfl):p:=h
theorem M4 {p:Prop}(h:p:=by simp;omega):p:=h
theorem R4 {p:Prop}(h:p:=by simp[aj,aC,hf.h0]):p:=h
theorem U4 {p:Prop}(h:p:=by unfold maxLen;omega):p:=h
theorem V4 {p:Prop}(h:p:=by simp[gI]):p:=h
theorem X4 {p:Prop}(h:p:=by simp[aj,eG,aC]):p:=h
theorem Y4 {p:Prop}(h:p:=by rw[nS];omega):p:=h
theorem Z4 {p:Prop}(h:p:=by cases l<;>cases k<;>cases v<;>simp[Wd.c]):p:=h
theorem j5 {p:Prop}(h:p:=by simp[bE]):p:=h
theorem D5 {p:Prop}(h:p:=by simp[aj,aC,hf.h1]):p:=h
theorem E5 {p:Prop}(h:p:=by rw[touchAt_of Ji];exact SY):p:=h
theorem F5 {p:Prop}(h:p:=by simp[Region.wanted,hg]):p:=h
theorem G5 {p:Prop}(h:p:=by simp[aj,aO,aC,Act.eval,h5,h8]):p:=h
theorem I5 {p:Prop}(h:p:=by simp[Act.eval]):p:=h
theorem J5 {p:Prop}(h:p:=by rw[ZW];split<;>omega):p:=h
theorem K5 {p:Prop}(h:p:=by intro jx e he;match jx,he with|0,_=>exact .inr (by simp[deafBehind])|jx+1,he=>simp at he):p:=h
theorem M5 {p:Prop}(h:p:=by simp[Act.eval,Lk.sm,Lk.mu]):p:=h
theorem O5 {p:Prop}(h:p:=by simp[hy]):p:=h
theorem P5 {p:Prop}(h:p:=by intro g;simp):p:=h
theorem Q5 {p:Prop}(h:p:=by simp only;omega):p:=h
theorem R5 {p:Prop}(h:p:=by simpa using hgo):p:=h
theorem U5 {p:Prop}(h:p:=by simpa using nZ):p:=h
theorem V5 {p:Prop}(h:p:=by simpa using hk):p:=h
theorem X5 {p:Prop}(h:p:=by simpa using h):p:=h
theorem Y5 {p:Prop}(h:p:=by simp[hx]):p:=h
theorem Z5 {p:Prop}(h:p:=by simp only[Sem.run,e];trivial):p:=h
theorem j6 {p:Prop}(h:p:=by simp[aC];rfl):p:=h
theorem D6 {p:Prop}(h:p:=by rw[Im.2.2];omega):p:=h
theorem F6 {p:Prop}(h:p:=by simp[deafBehind,semEvents]):p:=h
theorem G6 {p:Prop}(h:p:=by rw[NI];simp):p:=h
theorem H6 {p:Prop}(h:p:=by simp[Trace.act?,Ji,xK]):p:=h
theorem I6 {p:Prop}(h:p:=by rw[hOi];exact hb):p:=h
theorem J6 {p:Prop}(h:p:=by intro e he;simp at he;subst he;exact bk_cell _ _ rfl):p:=h
theorem L6 {p:Prop}(h:p:=by rw[show(rg f132 1).size=7 from by kernel_rfl];decide):p:=h
theorem M6 {p:Prop}(h:p:=by have:=Md.kD hF;omega):p:=h
theorem O6 {p:Prop}(h:p:=by simpa using hl):p:=h
theorem Q6 {p:Prop}(h:p:=by rw[l5];intro i q hi;simp only[fin]at hi;omega):p:=h
theorem U6 {p:Prop}(h:p:=by simp[aC,Mf]):p:=h
theorem V6 {p:Prop}(h:p:=by rw[e];rfl):p:=h
theorem X6 {p:Prop}(h:p:=by rw[hv _ hi];exact h2):p:=h
theorem Y6 {p:Prop}(h:p:=by simp[World.setCell]):p:=h
theorem Z6 {p:Prop}(h:p:=by simpa[qI]using h):p:=h
theorem y7 {p:Prop}(h:p:=by simpa[rD]using h):p:=h
theorem D7 {p:Prop}(h:p:=by rw[upd_same]):p:=h
theorem F7 {p:Prop}(h:p:=by simp[aj,aO,aC,Act.eval,A8,Q8]):p:=h
theorem G7 {p:Prop}(h:p:=by rw[nG hf]):p:=h
theorem H7 {p:Prop}(h:p:=by simp[aj,aO,aC,Act.eval,h9,A8]):p:=h
theorem I7 {p:Prop}(h:p:=by simp[aj,aO,aC,Act.eval,h9,h12]):p:=h
theorem J7 {p:Prop}(h:p:=by simp[hb]):p:=h
theorem M7 {p:Prop}(h:p:=by have:=HN.out;omega):p:=h
theorem N7 {p:Prop}(h:p:=by simp[Act.eval,stA]):p:=h
theorem O7 {p:Prop}(h:p:=by rw[Ji];kernel_rfl):p:=h
end Go.Proofs

