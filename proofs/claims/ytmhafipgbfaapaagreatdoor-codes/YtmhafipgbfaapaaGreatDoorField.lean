/- THE NUMBERS OF EIGHT BITS, plain mathematics, no program: products by shifting ('mul'), by Horner's way ('horn'), inverses ('inv'); that they are a field's; sums of lists ('xs'); and that a matrix with the entries 1 / (x + y) takes no column but 0 to 0 ('cauchy'). -/
namespace Go.Proofs.YtmhafipgbfaapaaGreatDoor.Salv
def xt (s : Nat) : Nat := if 255 < 2 * s then (2 * s) ^^^ 285 else 2 * s
def mulL : Nat → Nat → Nat → Nat → Nat
  | 0, p, _, _ => p
  | n + 1, p, s, r => mulL n (if r % 2 = 1 then p ^^^ s else p) (xt s) (r / 2)
def mul (a b : Nat) : Nat := mulL 8 0 a b
theorem xt_lt : ∀ a, a < 256 → xt a < 256 := by decide +kernel
theorem xt_eq : ∀ a, a < 256 → xt a = (2 * a) ^^^ (a / 128 * 285) := by decide +kernel
theorem xor_lt {a b : Nat} (ha : a < 256) (hb : b < 256) : a ^^^ b < 256 := Nat.xor_lt_two_pow (n := 8) ha hb
theorem two_xor (a b : Nat) : 2 * (a ^^^ b) = (2 * a) ^^^ (2 * b) := by
  have h := Nat.shiftLeft_xor_distrib (i := 1) (a := a) (b := b)
  simp only [Nat.shiftLeft_eq, Nat.pow_one] at h
  rw [Nat.mul_comm 2, Nat.mul_comm 2, Nat.mul_comm 2, h]
theorem div_xor (a b : Nat) : (a ^^^ b) / 128 = (a / 128) ^^^ (b / 128) := by
  have h := Nat.shiftRight_xor_distrib (i := 7) (a := a) (b := b)
  simpa only [Nat.shiftRight_eq_div_pow] using h
theorem bit285 : ∀ a, a < 2 → ∀ b, b < 2 → (a ^^^ b) * 285 = (a * 285) ^^^ (b * 285) := by decide
theorem xor4 (a b c d : Nat) : (a ^^^ b) ^^^ (c ^^^ d) = (a ^^^ c) ^^^ (b ^^^ d) := by
  rw [Nat.xor_assoc, Nat.xor_assoc, ← Nat.xor_assoc b c d, ← Nat.xor_assoc c b d, Nat.xor_comm b c]
theorem xt_add (a b : Nat) (ha : a < 256) (hb : b < 256) : xt (a ^^^ b) = xt a ^^^ xt b := by
  rw [xt_eq _ (xor_lt ha hb), xt_eq _ ha, xt_eq _ hb, two_xor, div_xor, bit285 _ (by omega) _ (by omega), xor4]
theorem xt_zero : xt 0 = 0 := rfl
theorem mulL_zero (n p s : Nat) : mulL n p s 0 = p := by
  induction n generalizing p s with
  | zero => rfl
  | succ n ih => simp [mulL, ih]
theorem mulL_lt (n : Nat) : ∀ p s r, p < 256 → s < 256 → mulL n p s r < 256 := by
  induction n with
  | zero => intro p s r hp _; exact hp
  | succ n ih =>
    intro p s r hp hs
    simp only [mulL]
    apply ih
    · split
      · exact xor_lt hp hs
      · exact hp
    · exact xt_lt _ hs
theorem mul_lt {a : Nat} (b : Nat) (ha : a < 256) : mul a b < 256 := mulL_lt 8 0 a b (by decide) ha
/-- additive in what is shifted (and in what was gathered) -/
theorem mulL_addS (n : Nat) : ∀ p q s t r, s < 256 → t < 256 → mulL n (p ^^^ q) (s ^^^ t) r = mulL n p s r ^^^ mulL n q t r := by
  induction n with
  | zero => intros; rfl
  | succ n ih =>
    intro p q s t r hs ht
    simp only [mulL]
    rw [xt_add _ _ hs ht]
    by_cases h : r % 2 = 1
    · simp only [h, if_true]
      rw [xor4]; exact ih _ _ _ _ _ (xt_lt _ hs) (xt_lt _ ht)
    · simp only [h, if_false]
      exact ih _ _ _ _ _ (xt_lt _ hs) (xt_lt _ ht)
theorem add_mul (a b c : Nat) (ha : a < 256) (hb : b < 256) : mul (a ^^^ b) c = mul a c ^^^ mul b c := by
  have := mulL_addS 8 0 0 a b c ha hb
  simpa [mul] using this
theorem xor_half (a b : Nat) : (a ^^^ b) / 2 = (a / 2) ^^^ (b / 2) := by
  have h := Nat.shiftRight_xor_distrib (i := 1) (a := a) (b := b)
  simpa only [Nat.shiftRight_eq_div_pow, Nat.pow_one] using h
theorem xor_mod2 (a b : Nat) : (a ^^^ b) % 2 = (a % 2 + b % 2) % 2 := by
  have h := Nat.xor_mod_two_pow (a := a) (b := b) (n := 1)
  rw [Nat.pow_one] at h
  rw [h]
  rcases Nat.mod_two_eq_zero_or_one a with e | e <;> rcases Nat.mod_two_eq_zero_or_one b with f | f <;> rw [e, f] <;> rfl
/-- additive in the bits that are read -/
theorem mulL_addR (n : Nat) : ∀ p q s r t, mulL n (p ^^^ q) s (r ^^^ t) = mulL n p s r ^^^ mulL n q s t := by
  induction n with
  | zero => intros; rfl
  | succ n ih =>
    intro p q s r t
    simp only [mulL]
    rw [xor_half, ← ih, xor_mod2]
    congr 1
    have h1 := Nat.mod_two_eq_zero_or_one r
    have h2 := Nat.mod_two_eq_zero_or_one t
    rcases h1 with h1 | h1 <;> rcases h2 with h2 | h2 <;> simp [h1, h2]
    · rw [Nat.xor_assoc]
    · rw [Nat.xor_assoc, Nat.xor_assoc, Nat.xor_comm q s]
    · rw [Nat.xor_assoc, ← Nat.xor_assoc s q s, Nat.xor_comm s q, Nat.xor_assoc q s s, Nat.xor_self, Nat.xor_zero]
theorem mul_add (a b c : Nat) : mul a (b ^^^ c) = mul a b ^^^ mul a c := by
  have := mulL_addR 8 0 0 a b c
  simpa [mul] using this
theorem mul_zero (a : Nat) : mul a 0 = 0 := mulL_zero 8 0 a
theorem zero_mul (a : Nat) : mul 0 a = 0 := by
  have := mul_add 0 a a
  have h0 : ∀ n r, mulL n 0 0 r = 0 := by
    intro n; induction n with
    | zero => intro r; rfl
    | succ n ih => intro r; simp [mulL, xt_zero, ih]
  exact h0 8 a

/-- Of two additive functions that agree at the eight powers of two: they agree below 256. -/
theorem bits_of : ∀ a, a < 256 → a = (a &&& 1) ^^^ (a &&& 2) ^^^ (a &&& 4) ^^^ (a &&& 8) ^^^ (a &&& 16) ^^^ (a &&& 32) ^^^ (a &&& 64) ^^^ (a &&& 128) := by decide +kernel
theorem bit_of : ∀ a, a < 256 → (a &&& 1 = 0 ∨ a &&& 1 = 1) ∧ (a &&& 2 = 0 ∨ a &&& 2 = 2) ∧ (a &&& 4 = 0 ∨ a &&& 4 = 4) ∧ (a &&& 8 = 0 ∨ a &&& 8 = 8) ∧ (a &&& 16 = 0 ∨ a &&& 16 = 16) ∧ (a &&& 32 = 0 ∨ a &&& 32 = 32) ∧ (a &&& 64 = 0 ∨ a &&& 64 = 64) ∧ (a &&& 128 = 0 ∨ a &&& 128 = 128) := by decide +kernel
theorem ext8 (f g : Nat → Nat) (hf : ∀ a b, a < 256 → b < 256 → f (a ^^^ b) = f a ^^^ f b) (hg : ∀ a b, a < 256 → b < 256 → g (a ^^^ b) = g a ^^^ g b)
    (h : f 1 = g 1 ∧ f 2 = g 2 ∧ f 4 = g 4 ∧ f 8 = g 8 ∧ f 16 = g 16 ∧ f 32 = g 32 ∧ f 64 = g 64 ∧ f 128 = g 128) (a : Nat) (ha : a < 256) : f a = g a := by
  obtain ⟨h1, h2, h4, h8, h16, h32, h64, h128⟩ := h
  have f0 : f 0 = 0 := by have := hf 0 0 (by decide) (by decide); simpa using this
  have g0 : g 0 = 0 := by have := hg 0 0 (by decide) (by decide); simpa using this
  have l : ∀ m, m < 256 → a &&& m < 256 := fun m hm => Nat.lt_of_le_of_lt Nat.and_le_right hm
  obtain ⟨b1, b2, b4, b8, b16, b32, b64, b128⟩ := bit_of a ha
  have k1 : f (a &&& 1) = g (a &&& 1) := by rcases b1 with e | e <;> rw [e] <;> simp [f0, g0, h1]
  have k2 : f (a &&& 2) = g (a &&& 2) := by rcases b2 with e | e <;> rw [e] <;> simp [f0, g0, h2]
  have k4 : f (a &&& 4) = g (a &&& 4) := by rcases b4 with e | e <;> rw [e] <;> simp [f0, g0, h4]
  have k8 : f (a &&& 8) = g (a &&& 8) := by rcases b8 with e | e <;> rw [e] <;> simp [f0, g0, h8]
  have k16 : f (a &&& 16) = g (a &&& 16) := by rcases b16 with e | e <;> rw [e] <;> simp [f0, g0, h16]
  have k32 : f (a &&& 32) = g (a &&& 32) := by rcases b32 with e | e <;> rw [e] <;> simp [f0, g0, h32]
  have k64 : f (a &&& 64) = g (a &&& 64) := by rcases b64 with e | e <;> rw [e] <;> simp [f0, g0, h64]
  have k128 : f (a &&& 128) = g (a &&& 128) := by rcases b128 with e | e <;> rw [e] <;> simp [f0, g0, h128]
  have l1 := l 1 (by decide); have l2 := l 2 (by decide); have l4 := l 4 (by decide); have l8 := l 8 (by decide)
  have l16 := l 16 (by decide); have l32 := l 32 (by decide); have l64 := l 64 (by decide); have l128 := l 128 (by decide)
  have x2 := xor_lt l1 l2; have x4 := xor_lt x2 l4; have x8 := xor_lt x4 l8; have x16 := xor_lt x8 l16
  have x32 := xor_lt x16 l32; have x64 := xor_lt x32 l64
  rw [bits_of a ha, hf _ _ x64 l128, hf _ _ x32 l64, hf _ _ x16 l32, hf _ _ x8 l16, hf _ _ x4 l8, hf _ _ x2 l4, hf _ _ l1 l2,
    hg _ _ x64 l128, hg _ _ x32 l64, hg _ _ x16 l32, hg _ _ x8 l16, hg _ _ x4 l8, hg _ _ x2 l4, hg _ _ l1 l2, k1, k2, k4, k8, k16, k32, k64, k128]

theorem mul_comm (a b : Nat) (ha : a < 256) (hb : b < 256) : mul a b = mul b a := by
  refine ext8 (fun x => mul x b) (fun x => mul b x) (fun x y hx hy => add_mul x y b hx hy) (fun x y _ _ => mul_add b x y) ?_ a ha
  have key : ∀ c, c < 256 → ∀ b, b < 256 → (c = 1 ∨ c = 2 ∨ c = 4 ∨ c = 8 ∨ c = 16 ∨ c = 32 ∨ c = 64 ∨ c = 128) → mul c b = mul b c := by
    intro c hc b hb hcc
    refine ext8 (fun x => mul c x) (fun x => mul x c) (fun x y _ _ => mul_add c x y) (fun x y hx hy => add_mul x y c hx hy) ?_ b hb
    rcases hcc with rfl | rfl | rfl | rfl | rfl | rfl | rfl | rfl <;> decide +kernel
  refine ⟨?_, ?_, ?_, ?_, ?_, ?_, ?_, ?_⟩ <;> exact key _ (by decide) b hb (by decide)
theorem mul_assoc (a b c : Nat) (ha : a < 256) (hb : b < 256) (hc : c < 256) : mul (mul a b) c = mul a (mul b c) := by
  let p2 (x : Nat) : Prop := x = 1 ∨ x = 2 ∨ x = 4 ∨ x = 8 ∨ x = 16 ∨ x = 32 ∨ x = 64 ∨ x = 128
  have s3 : ∀ a b c, p2 a → p2 b → c < 256 → mul (mul a b) c = mul a (mul b c) := by
    intro a b c pa pb hc
    refine ext8 (fun x => mul (mul a b) x) (fun x => mul a (mul b x)) (fun x y _ _ => mul_add _ x y) (fun x y _ _ => by rw [mul_add, mul_add]) ?_ c hc
    rcases pa with rfl | rfl | rfl | rfl | rfl | rfl | rfl | rfl <;> rcases pb with rfl | rfl | rfl | rfl | rfl | rfl | rfl | rfl <;> decide +kernel
  have lt : ∀ x, p2 x → x < 256 := by rintro x (rfl | rfl | rfl | rfl | rfl | rfl | rfl | rfl) <;> decide
  have s2 : ∀ a b c, p2 a → b < 256 → c < 256 → mul (mul a b) c = mul a (mul b c) := by
    intro a b c pa hb hc
    have la := lt a pa
    refine ext8 (fun x => mul (mul a x) c) (fun x => mul a (mul x c)) (fun x y _ _ => by rw [mul_add, add_mul _ _ _ (mul_lt _ la) (mul_lt _ la)]) (fun x y hx hy => by rw [add_mul _ _ _ hx hy, mul_add]) ?_ b hb
    refine ⟨?_, ?_, ?_, ?_, ?_, ?_, ?_, ?_⟩ <;> exact s3 _ _ c pa (by decide) hc
  refine ext8 (fun x => mul (mul x b) c) (fun x => mul x (mul b c)) (fun x y hx hy => by rw [add_mul _ _ _ hx hy, add_mul _ _ _ (mul_lt _ hx) (mul_lt _ hy)]) (fun x y hx hy => by rw [add_mul _ _ _ hx hy]) ?_ a ha
  refine ⟨?_, ?_, ?_, ?_, ?_, ?_, ?_, ?_⟩ <;> exact s2 _ b c (by decide) hb hc
theorem mul_one : ∀ a, a < 256 → mul a 1 = a := by decide +kernel

/-- the inverse as the program reckons it: seven squares -/
def invL : Nat → Nat → Nat → Nat
  | 0, v, _ => v
  | n + 1, v, q => invL n (mul v q) (mul q q)
def inv (a : Nat) : Nat := invL 7 1 (mul a a)
theorem inv_lt : ∀ a, a < 256 → inv a < 256 := by decide +kernel
theorem mul_inv : ∀ a, a < 256 → a = 0 ∨ mul a (inv a) = 1 := by decide +kernel
/-- the reference's product: Horner's way, the highest bit first -/
def horn (a b : Nat) : Nat → Nat → Nat
  | 0, v => v
  | n + 1, v => horn a b n (if b / 2 ^ n % 2 = 1 then xt v ^^^ a else xt v)
theorem horn_add (b : Nat) (n : Nat) : ∀ a c v u, v < 256 → u < 256 → a < 256 → c < 256 → horn (a ^^^ c) b n (v ^^^ u) = horn a b n v ^^^ horn c b n u := by
  induction n with
  | zero => intros; rfl
  | succ n ih =>
    intro a c v u hv hu ha hc
    simp only [horn]
    rw [xt_add _ _ hv hu]
    by_cases h : b / 2 ^ n % 2 = 1
    · simp only [h, if_true]
      rw [xor4]; exact ih _ _ _ _ (xor_lt (xt_lt _ hv) ha) (xor_lt (xt_lt _ hu) hc) ha hc
    · simp only [h, if_false]
      exact ih _ _ _ _ (xt_lt _ hv) (xt_lt _ hu) ha hc
theorem horn_lt (a b : Nat) (ha : a < 256) (n : Nat) : ∀ v, v < 256 → horn a b n v < 256 := by
  induction n with
  | zero => intro v hv; exact hv
  | succ n ih =>
    intro v hv
    simp only [horn]
    apply ih
    split
    · exact xor_lt (xt_lt _ hv) ha
    · exact xt_lt _ hv
theorem horn_mul (a b : Nat) (ha : a < 256) (hb : b < 256) : horn a b 8 0 = mul a b := by
  refine ext8 (fun x => horn x b 8 0) (fun x => mul x b) (fun x y hx hy => ?_) (fun x y hx hy => add_mul x y b hx hy) ?_ a ha
  · have := horn_add b 8 x y 0 0 (by decide) (by decide) hx hy
    simpa using this
  · have key : ∀ b, b < 256 → horn 1 b 8 0 = mul 1 b ∧ horn 2 b 8 0 = mul 2 b ∧ horn 4 b 8 0 = mul 4 b ∧ horn 8 b 8 0 = mul 8 b ∧ horn 16 b 8 0 = mul 16 b ∧ horn 32 b 8 0 = mul 32 b ∧ horn 64 b 8 0 = mul 64 b ∧ horn 128 b 8 0 = mul 128 b := by decide +kernel
    exact key b hb
/-- the product of what is left of two numbers by 256: a product whose laws ask nothing -/
def fm (a b : Nat) : Nat := mul (a % 256) (b % 256)
def fi (a : Nat) : Nat := inv (a % 256)
theorem m256 (a : Nat) : a % 256 < 256 := Nat.mod_lt _ (by decide)
theorem xor_m (a b : Nat) : (a ^^^ b) % 256 = (a % 256) ^^^ (b % 256) := Nat.xor_mod_two_pow (n := 8)
theorem fm_lt (a b : Nat) : fm a b < 256 := mul_lt _ (m256 a)
theorem fm_mod (a b : Nat) : fm a b % 256 = fm a b := Nat.mod_eq_of_lt (fm_lt a b)
theorem fi_lt (a : Nat) : fi a < 256 := inv_lt _ (m256 a)
theorem fm_eq {a b : Nat} (ha : a < 256) (hb : b < 256) : fm a b = mul a b := by unfold fm; rw [Nat.mod_eq_of_lt ha, Nat.mod_eq_of_lt hb]
theorem fi_eq {a : Nat} (ha : a < 256) : fi a = inv a := by unfold fi; rw [Nat.mod_eq_of_lt ha]
theorem fm_comm (a b : Nat) : fm a b = fm b a := mul_comm _ _ (m256 a) (m256 b)
theorem fm_assoc (a b c : Nat) : fm (fm a b) c = fm a (fm b c) := by
  unfold fm
  rw [Nat.mod_eq_of_lt (mul_lt _ (m256 a)), Nat.mod_eq_of_lt (mul_lt _ (m256 b))]
  exact mul_assoc _ _ _ (m256 a) (m256 b) (m256 c)
theorem fm_add (a b c : Nat) : fm a (b ^^^ c) = fm a b ^^^ fm a c := by
  unfold fm; rw [xor_m]; exact mul_add _ _ _
theorem add_fm (a b c : Nat) : fm (a ^^^ b) c = fm a c ^^^ fm b c := by
  rw [fm_comm, fm_add, fm_comm c a, fm_comm c b]
theorem fm_zero (a : Nat) : fm a 0 = 0 := mul_zero _
theorem zero_fm (a : Nat) : fm 0 a = 0 := zero_mul _
theorem fm_one (a : Nat) : fm a 1 = a % 256 := mul_one _ (m256 a)
theorem one_fm (a : Nat) : fm 1 a = a % 256 := by rw [fm_comm]; exact fm_one a
theorem fm_fi {a : Nat} (h : a % 256 ≠ 0) : fm a (fi a) = 1 := by
  unfold fm fi
  rw [Nat.mod_eq_of_lt (inv_lt _ (m256 a))]
  rcases mul_inv _ (m256 a) with h' | h'
  · exact absurd h' h
  · exact h'
theorem fi_fm {a : Nat} (h : a % 256 ≠ 0) : fm (fi a) a = 1 := by rw [fm_comm]; exact fm_fi h
theorem fm_cancel {a b : Nat} (h : a % 256 ≠ 0) (hz : fm a b = 0) : b % 256 = 0 := by
  have : fm (fi a) (fm a b) = b % 256 := by rw [← fm_assoc, fi_fm h, one_fm]
  rw [hz, fm_zero] at this; exact this.symm
theorem fm_left_comm (a b c : Nat) : fm a (fm b c) = fm b (fm a c) := by rw [← fm_assoc, ← fm_assoc, fm_comm a b]
theorem xor_ne {a b : Nat} (ha : a < 256) (hb : b < 256) (h : a ≠ b) : (a ^^^ b) % 256 ≠ 0 := by
  rw [Nat.mod_eq_of_lt (xor_lt ha hb)]
  intro e
  apply h
  have : (a ^^^ b) ^^^ b = 0 ^^^ b := by rw [e]
  rw [Nat.xor_assoc, Nat.xor_self, Nat.xor_zero, Nat.zero_xor] at this
  exact this

/-- the sum of a list -/
def xs : List Nat → Nat
  | [] => 0
  | a :: l => a ^^^ xs l
theorem xs_append (l r : List Nat) : xs (l ++ r) = xs l ^^^ xs r := by
  induction l with
  | nil => simp [xs]
  | cons a l ih => simp [xs, ih, Nat.xor_assoc]
theorem xs_lt (l : List Nat) (h : ∀ a ∈ l, a < 256) : xs l < 256 := by
  induction l with
  | nil => decide
  | cons a l ih => exact xor_lt (h a (by simp)) (ih fun b hb => h b (by simp [hb]))
theorem xs_map_add {α : Type} (l : List α) (f g : α → Nat) : xs (l.map fun a => f a ^^^ g a) = xs (l.map f) ^^^ xs (l.map g) := by
  induction l with
  | nil => simp [xs]
  | cons a l ih => simp only [List.map_cons, xs, ih]; exact xor4 _ _ _ _
theorem fm_xs {α : Type} (l : List α) (c : Nat) (f : α → Nat) : fm c (xs (l.map f)) = xs (l.map fun a => fm c (f a)) := by
  induction l with
  | nil => exact fm_zero c
  | cons a l ih => simp only [List.map_cons, xs, fm_add, ih]
theorem xs_fm {α : Type} (l : List α) (c : Nat) (f : α → Nat) : fm (xs (l.map f)) c = xs (l.map fun a => fm (f a) c) := by
  rw [fm_comm, fm_xs]; congr 1; exact List.map_congr_left fun a _ => fm_comm _ _
theorem xs_congr {α : Type} {l : List α} {f g : α → Nat} (h : ∀ a ∈ l, f a = g a) : xs (l.map f) = xs (l.map g) := by rw [List.map_congr_left h]
theorem xs_zero {α : Type} {l : List α} {f : α → Nat} (h : ∀ a ∈ l, f a = 0) : xs (l.map f) = 0 := by
  induction l with
  | nil => rfl
  | cons a l ih => simp only [List.map_cons, xs]; rw [h a (by simp), ih fun b hb => h b (by simp [hb])]; rfl
theorem xs_swap {α β : Type} (l : List α) (r : List β) (f : α → β → Nat) : xs (l.map fun a => xs (r.map fun b => f a b)) = xs (r.map fun b => xs (l.map fun a => f a b)) := by
  induction l with
  | nil => simp only [List.map_nil, xs]; exact (xs_zero (fun _ _ => rfl)).symm
  | cons a l ih => simp only [List.map_cons, xs, ih, xs_map_add]

theorem xor_eq_zero {a b : Nat} (h : a ^^^ b = 0) : a = b := by
  have : (a ^^^ b) ^^^ b = 0 ^^^ b := by rw [h]
  rw [Nat.xor_assoc, Nat.xor_self, Nat.xor_zero, Nat.zero_xor] at this
  exact this
/-- (x + y0) / (x + y) = 1 + (y + y0) / (x + y) -/
theorem part1 {x y y0 : Nat} (h : (x ^^^ y) % 256 ≠ 0) : fm (fi (x ^^^ y)) (x ^^^ y0) = 1 ^^^ fm (fi (x ^^^ y)) (y ^^^ y0) := by
  have e : x ^^^ y0 = (x ^^^ y) ^^^ (y ^^^ y0) := by
    rw [Nat.xor_assoc, ← Nat.xor_assoc y y y0, Nat.xor_self, Nat.zero_xor]
  rw [e, fm_add, fi_fm h]
/-- 1 / (x + y) + 1 / (x0 + y) = (x + x0) / ((x + y) (x0 + y)) -/
theorem part2 {x x0 y : Nat} (h : (x ^^^ y) % 256 ≠ 0) (h0 : (x0 ^^^ y) % 256 ≠ 0) : fi (x ^^^ y) ^^^ fi (x0 ^^^ y) = fm (x ^^^ x0) (fm (fi (x ^^^ y)) (fi (x0 ^^^ y))) := by
  have e : x ^^^ x0 = (x ^^^ y) ^^^ (x0 ^^^ y) := by
    rw [xor4, Nat.xor_self, Nat.xor_zero]
  rw [e, add_fm, ← fm_assoc, fm_fi h, one_fm, Nat.mod_eq_of_lt (fi_lt _), fm_left_comm, fm_fi h0, fm_one, Nat.mod_eq_of_lt (fi_lt _), Nat.xor_comm]
/-- A matrix with the entries 1 / (x + y) takes no column but 0 to 0. -/
theorem cauchy (Y : List Nat) : ∀ (X : List Nat) (c : Nat → Nat), X.length = Y.length → (∀ x ∈ X, x < 256) → (∀ y ∈ Y, y < 256) → X.Nodup → Y.Nodup → (∀ x ∈ X, ∀ y ∈ Y, x ≠ y) →
    (∀ x ∈ X, xs (Y.map fun y => fm (c y) (fi (x ^^^ y))) = 0) → ∀ y ∈ Y, c y % 256 = 0 := by
  induction Y with
  | nil => intro X c _ _ _ _ _ _ _ y hy; cases hy
  | cons y0 Y ih =>
    intro X c hl hX hY nX nY hd h
    match X, hl with
    | x0 :: X, hl =>
    simp only [List.length_cons, Nat.add_right_cancel_iff] at hl
    have hx0 := hX x0 (by simp)
    have hy0 := hY y0 (by simp)
    have nz : ∀ x ∈ x0 :: X, ∀ y ∈ y0 :: Y, (x ^^^ y) % 256 ≠ 0 := fun x hx y hy => xor_ne (hX x hx) (hY y hy) (hd x hx y hy)
    -- what does not hang on x
    let S := (c y0 % 256) ^^^ xs (Y.map fun y => c y % 256)
    have row : ∀ x ∈ x0 :: X, S = xs (Y.map fun y => fm (c y) (fm (fi (x ^^^ y)) (y ^^^ y0))) := by
      intro x hx
      have hh := h x hx
      have h2 : fm (xs ((y0 :: Y).map fun y => fm (c y) (fi (x ^^^ y)))) (x ^^^ y0) = 0 := by rw [hh]; exact zero_fm _
      rw [xs_fm] at h2
      simp only [List.map_cons, xs] at h2
      rw [fm_assoc, fi_fm (nz x hx y0 (by simp)), fm_one] at h2
      have e : xs (Y.map fun y => fm (fm (c y) (fi (x ^^^ y))) (x ^^^ y0)) = xs (Y.map fun y => (c y % 256) ^^^ fm (c y) (fm (fi (x ^^^ y)) (y ^^^ y0))) := by
        apply xs_congr
        intro y hy
        rw [fm_assoc, part1 (nz x hx y (by simp [hy])), fm_add, fm_one]
      rw [e, xs_map_add, ← Nat.xor_assoc] at h2
      exact xor_eq_zero h2
    have key : ∀ y ∈ Y, fm (c y) (fm (y ^^^ y0) (fi (x0 ^^^ y))) % 256 = 0 := by
      refine ih X (fun y => fm (c y) (fm (y ^^^ y0) (fi (x0 ^^^ y)))) hl (fun x hx => hX x (by simp [hx])) (fun y hy => hY y (by simp [hy])) (List.nodup_cons.1 nX).2 (List.nodup_cons.1 nY).2 (fun x hx y hy => hd x (by simp [hx]) y (by simp [hy])) ?_
      intro x hx
      have hne : (x ^^^ x0) % 256 ≠ 0 := xor_ne (hX x (by simp [hx])) hx0 (by rintro rfl; exact (List.nodup_cons.1 nX).1 hx)
      have r0 := row x0 (by simp)
      have r1 := row x (by simp [hx])
      have hz : fm (x ^^^ x0) (xs (Y.map fun y => fm (fm (c y) (fm (y ^^^ y0) (fi (x0 ^^^ y)))) (fi (x ^^^ y)))) = 0 := by
        rw [fm_xs]
        have e : xs (Y.map fun y => fm (x ^^^ x0) (fm (fm (c y) (fm (y ^^^ y0) (fi (x0 ^^^ y)))) (fi (x ^^^ y)))) = xs (Y.map fun y => fm (c y) (fm (fi (x ^^^ y)) (y ^^^ y0)) ^^^ fm (c y) (fm (fi (x0 ^^^ y)) (y ^^^ y0))) := by
          apply xs_congr
          intro y hy
          rw [← fm_add, ← add_fm, part2 (nz x (by simp [hx]) y (by simp [hy])) (nz x0 (by simp) y (by simp [hy]))]
          rw [fm_assoc (c y), fm_left_comm _ (c y), fm_assoc (y ^^^ y0), fm_comm (y ^^^ y0), fm_comm (fi (x ^^^ y)) (fi (x0 ^^^ y)), fm_assoc, fm_assoc, fm_assoc]
        rw [e, xs_map_add, ← r1, ← r0, Nat.xor_self]
      have := fm_cancel hne hz
      rwa [Nat.mod_eq_of_lt (xs_lt _ (by simp only [List.mem_map]; rintro a ⟨y, _, rfl⟩; exact fm_lt _ _))] at this
    have cy : ∀ y ∈ Y, c y % 256 = 0 := by
      intro y hy
      have k := key y hy
      rw [fm_mod] at k
      have hyy : (y ^^^ y0) % 256 ≠ 0 := xor_ne (hY y (by simp [hy])) hy0 (by rintro rfl; exact (List.nodup_cons.1 nY).1 hy)
      rw [fm_left_comm] at k
      have k2 := fm_cancel hyy k
      rw [fm_mod, fm_comm] at k2
      refine fm_cancel (a := fi (x0 ^^^ y)) ?_ k2
      intro e
      have := fm_fi (nz x0 (by simp) y (by simp [hy]))
      rw [Nat.mod_eq_of_lt (fi_lt _)] at e
      rw [e, fm_zero] at this
      cases this
    intro y hy
    rcases List.mem_cons.1 hy with rfl | hy
    · have hh := h x0 (by simp)
      simp only [List.map_cons, xs] at hh
      rw [xs_zero (l := Y), Nat.xor_zero] at hh
      · rw [fm_comm] at hh
        refine fm_cancel (a := fi (x0 ^^^ y)) ?_ hh
        intro e
        have := fm_fi (nz x0 (by simp) y (by simp))
        rw [Nat.mod_eq_of_lt (fi_lt _)] at e
        rw [e, fm_zero] at this
        cases this
      · intro z hz
        unfold fm; rw [cy z hz]; exact zero_mul _
    · exact cy y hy
end Go.Proofs.YtmhafipgbfaapaaGreatDoor.Salv
