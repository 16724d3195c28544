import PyProof.Rows.All
import Wide.All
import OpenK.AllK
import Wide.FinOn
import PySem.Challenge.RW_leastasked_k01_a_count_aged
set_option Elab.async false
open PySem PySem.W PyProof.Rows in
set_option maxRecDepth 100000 in
set_option maxHeartbeats 8000000 in
open_top hd for PySem.Challenge.rw_leastasked_k01_a_count_aged
namespace K1
def itN (c p : Nat) : Nat → Nat
  | 0 => c
  | n + 1 => itN c p n / p
theorem itN_eq (c p : Nat) : ∀ n, itN c p n = c / p ^ n
  | 0 => by simp [itN]
  | n + 1 => by rw [itN, itN_eq c p n, Nat.div_div_eq_div_mul, Nat.pow_succ]
theorem itN_le (c p n : Nat) : itN c p n ≤ c := by rw [itN_eq]; exact Nat.div_le_self _ _
theorem itN_add (c p m n : Nat) : itN (itN c p m) p n = itN c p (m + n) := by
  rw [itN_eq, itN_eq, itN_eq, Nat.div_div_eq_div_mul, Nat.pow_add]
theorem itN_zero {c p n k : Nat} (h : c < 2 ^ k) (hp : 2 ≤ p) (hk : k ≤ n) : itN c p n = 0 := by
  rw [itN_eq]
  apply Nat.div_eq_of_lt
  calc c < 2 ^ k := h
    _ ≤ 2 ^ n := Nat.pow_le_pow_right (by decide) hk
    _ ≤ p ^ n := Nat.pow_le_pow_left hp n
def goN (c p : Nat) : Nat → Nat → Nat
  | 0, w => w
  | n + 1, w => if w ≤ c then goN c p n (w * p) else w
theorem goN_is (c p : Nat) : ∀ n k, ∃ j, j ≤ k + n ∧ goN c p n (p ^ k) = p ^ j ∧ (j = k + n ∨ c < p ^ j)
  | 0, k => ⟨k, by omega, rfl, Or.inl rfl⟩
  | n + 1, k => by
    by_cases h : p ^ k ≤ c
    · obtain ⟨j, a, b, d⟩ := goN_is c p n (k + 1)
      refine ⟨j, by omega, ?_, ?_⟩
      · rw [goN, if_pos h, ← Nat.pow_succ]; exact b
      · rcases d with d | d
        · left; omega
        · right; exact d
    · exact ⟨k, by omega, by rw [goN, if_neg h], Or.inr (by omega)⟩
theorem fitsN {c p t : Nat} (hp : 2 ≤ p) : itN c p t * goN c p t 1 ≤ c ∧ c < (itN c p t + 1) * goN c p t 1 := by
  obtain ⟨j, a, b, d⟩ := goN_is c p t 0
  rw [Nat.pow_zero] at b
  rw [b, itN_eq]
  rcases d with d | d
  · have e : j = t := by omega
    subst e
    refine ⟨Nat.div_mul_le_self c (p ^ j), ?_⟩
    have hpos : 0 < p ^ j := Nat.pow_pos (by omega)
    have := Nat.lt_div_mul_add (a := c) hpos
    rw [Nat.add_mul, Nat.one_mul]
    exact this
  · have z : c / p ^ t = 0 := by
      apply Nat.div_eq_of_lt
      exact Nat.lt_of_lt_of_le d (Nat.pow_le_pow_right (by omega) (by omega))
    rw [z]
    refine ⟨by omega, by omega⟩

def agd (c p t : Int) : Int := (itN c.toNat p.toNat t.toNat : Nat)
def pwr (c p t : Int) : Int := (goN c.toNat p.toNat t.toNat 1 : Nat)
theorem agd_fact (c p t : Int) : 0 ≤ agd c p t ∧ (agd c p t ≤ c ∨ c < 0) := by
  have := itN_le c.toNat p.toNat t.toNat
  unfold agd
  omega
theorem agd_add {c p a b : Int} (ha : 0 ≤ a) (hb : 0 ≤ b) : agd (agd c p a) p b = agd c p (a + b) := by
  unfold agd
  rw [Int.toNat_natCast, itN_add]
  have : (a + b).toNat = a.toNat + b.toNat := by omega
  rw [this]
theorem fit_lo {c p t : Int} (hc : 0 ≤ c) (hp : 2 ≤ p) : agd c p t * pwr c p t ≤ c := by
  have h := (fitsN (c := c.toNat) (p := p.toNat) (t := t.toNat) (by omega)).1
  unfold agd pwr
  rw [← Int.natCast_mul]
  omega
theorem fit_hi {c p t : Int} (hc : 0 ≤ c) (hp : 2 ≤ p) : c < (agd c p t + 1) * pwr c p t := by
  have h := (fitsN (c := c.toNat) (p := p.toNat) (t := t.toNat) (by omega)).2
  unfold agd pwr
  have e : (((itN c.toNat p.toNat t.toNat : Nat) : Int) + 1) = ((itN c.toNat p.toNat t.toNat + 1 : Nat) : Int) := by omega
  rw [e, ← Int.natCast_mul]
  omega
theorem goN_le {c p b : Nat} (hb : c * p ≤ b) : ∀ n w, w ≤ b → goN c p n w ≤ b
  | 0, w, h => h
  | n + 1, w, h => by
    rw [goN]
    split
    · rename_i h'
      exact goN_le hb n _ (Nat.le_trans (Nat.mul_le_mul_right p h') hb)
    · exact h
theorem pwr_fact (c p t : Int) : 0 ≤ pwr c p t ∧ (pwr c p t ≤ 1000000000000000000000000000000000000000000000000000000000000000000000000000000000000000000 ∨ c > 1000000000000000000000000000000000000000000000000000000000000 ∨ p > 1000000000000000000000000000000) := by
  refine ⟨Int.natCast_nonneg _, ?_⟩
  by_cases hc : c > 1000000000000000000000000000000000000000000000000000000000000
  · exact Or.inr (Or.inl hc)
  by_cases hp : p > 1000000000000000000000000000000
  · exact Or.inr (Or.inr hp)
  left
  have hm : c.toNat * p.toNat ≤ 1000000000000000000000000000000000000000000000000000000000000 * 1000000000000000000000000000000 := Nat.mul_le_mul (by omega) (by omega)
  have := goN_le (c := c.toNat) (p := p.toNat) (b := 1000000000000000000000000000000000000000000000000000000000000000000000000000000000000000000) (by omega) t.toNat 1 (by omega)
  unfold pwr
  omega
/- aged's own loop -/
structure In (c₀ p c : Int) (n : Nat) : Prop where
  is : c = ((itN c₀.toNat p.toNat n : Nat) : Int)
theorem in_start {c p : Int} (hc : 0 ≤ c) : In c p c 0 := ⟨by show c = ((c.toNat : Nat) : Int); omega⟩
theorem in_start' {c p : Int} (hc : 0 ≤ c) : In c p c ([] : List Int).length := in_start hc
theorem in_turn {c₀ p c : Int} {n : Nat} (h : In c₀ p c n) (hp : 0 < p) : In c₀ p (Int.fdiv c p) (n + 1) := by
  refine ⟨?_⟩
  rw [h.is, Int.fdiv_eq_ediv_of_nonneg _ (by omega)]
  have e : p = ((p.toNat : Nat) : Int) := by omega
  show ((itN c₀.toNat p.toNat n : Nat) : Int) / p = ((itN c₀.toNat p.toNat n / p.toNat : Nat) : Int)
  rw [Int.natCast_ediv, ← e]
theorem in_turn' {c₀ p c k : Int} {pre : List Int} (h : In c₀ p c pre.length) (hp : 0 < p) : In c₀ p (Int.fdiv c p) (pre ++ [k]).length := by
  have e : (pre ++ [k]).length = pre.length + 1 := by simp
  rw [e]
  exact in_turn h hp
theorem out_all {c₀ p c t : Int} {n : Nat} (h : In c₀ p c n) (e : n = t.toNat) : c = agd c₀ p t := by
  rw [h.is, e]; rfl
theorem out_bits {c₀ p c t : Int} {n k : Nat} (h : In c₀ p c n) (e : n = k) (hk : c₀.natAbs < 2 ^ k) (hc : 0 ≤ c₀) (hp : 2 ≤ p) (ht : (k : Int) ≤ t) : c = agd c₀ p t := by
  rw [h.is]
  unfold agd
  have hk' : c₀.toNat < 2 ^ k := by
    have : c₀.toNat = c₀.natAbs := by omega
    omega
  rw [itN_zero hk' (by omega) (by omega : k ≤ n), itN_zero hk' (by omega) (by omega)]
structure Bits (c : Int) (b : Nat) : Prop where
  is : c.natAbs < 2 ^ b
theorem out {c₀ p c t : Int} {n b : Nat} (h : In c₀ p c n) (hb : Bits c₀ b) (hc : 0 ≤ c₀) (hp : 2 ≤ p) (e : ((b : Int) < t ∧ n = b) ∨ (¬ (b : Int) < t ∧ n = t.toNat)) : c = agd c₀ p t := by
  rcases e with ⟨e1, e2⟩ | ⟨e1, e2⟩
  · exact out_bits h e2 hb.is hc hp (by omega)
  · exact out_all h e2
/- the law's own while -/
structure Pw (c p t₀ w t : Int) : Prop where
  is : ((goN c.toNat p.toNat t.toNat w.toNat : Nat) : Int) = pwr c p t₀
theorem pw_start {c p t : Int} : Pw c p t 1 t := ⟨rfl⟩
theorem pw_turn {c p t₀ w t : Int} (h : Pw c p t₀ w t) (ht : 0 < t) (hw : 0 ≤ w) (hp : 0 ≤ p) (hc : w ≤ c) : Pw c p t₀ (w * p) (t - 1) := by
  refine ⟨?_⟩
  rw [← h.is]
  obtain ⟨k, hk⟩ : ∃ k, t.toNat = k + 1 := ⟨t.toNat - 1, by omega⟩
  have h2 : (t - 1).toNat = k := by omega
  have h3 : (w * p).toNat = w.toNat * p.toNat := Int.toNat_mul hw hp
  rw [hk, h2, h3, goN, if_pos (by omega)]
theorem pw_turn' {c p t₀ w t : Int} (h : Pw c p t₀ w t) (ht : 0 < t) (hw : 1 ≤ w) (hp : 2 ≤ p) (hc : w ≤ c) : 0 ≤ t - 1 ∧ 1 ≤ w * p ∧ Pw c p t₀ (w * p) (t - 1) := by
  have h1 : 1 * 1 ≤ w * p := Int.mul_le_mul hw (by omega) (by decide) (by omega)
  exact ⟨by omega, by omega, pw_turn h ht (by omega) (by omega) hc⟩
theorem pw_start' {c p t : Int} (ht : 0 ≤ t) : 0 ≤ t ∧ (1 : Int) ≤ 1 ∧ Pw c p t 1 t := ⟨ht, by decide, pw_start⟩
theorem pw_out_t {c p t₀ w t : Int} (h : Pw c p t₀ w t) (ht : t ≤ 0) (hw : 0 ≤ w) : w = pwr c p t₀ := by
  rw [← h.is]
  have : t.toNat = 0 := by omega
  rw [this]
  show w = ((w.toNat : Nat) : Int)
  omega
theorem pw_out_c {c p t₀ w t : Int} (h : Pw c p t₀ w t) (hw : 1 ≤ w) (hc : ¬ w ≤ c) : w = pwr c p t₀ := by
  rw [← h.is]
  rcases h' : t.toNat with _ | k
  · show w = ((w.toNat : Nat) : Int); omega
  · rw [goN, if_neg (by omega)]; omega
/- the law's draws -/
def tm (c : Int) : Int := if Int.fmod c 5 = 4 then Int.fmod (Int.fdiv c 5) 100000000000000000000000000000000000000000000000000000000000 else Int.fmod (Int.fdiv c 5) 9
theorem tm_fact (c : Int) : 0 ≤ tm c ∧ tm c < 100000000000000000000000000000000000000000000000000000000000 := by
  have a := Int.fmod_nonneg_of_pos (Int.fdiv c 5) (show (0 : Int) < 100000000000000000000000000000000000000000000000000000000000 by decide)
  have b := Int.fmod_lt_of_pos (Int.fdiv c 5) (show (0 : Int) < 100000000000000000000000000000000000000000000000000000000000 by decide)
  have d := Int.fmod_nonneg_of_pos (Int.fdiv c 5) (show (0 : Int) < 9 by decide)
  have e := Int.fmod_lt_of_pos (Int.fdiv c 5) (show (0 : Int) < 9 by decide)
  unfold tm
  split <;> omega
theorem tm_a {c : Int} (h : Int.fmod c 5 = 4) : Int.fmod (Int.fdiv c 5) 100000000000000000000000000000000000000000000000000000000000 = tm c := by unfold tm; rw [if_pos h]
theorem tm_b {c : Int} (h : ¬ Int.fmod c 5 = 4) : Int.fmod (Int.fdiv c 5) 9 = tm c := by unfold tm; rw [if_neg h]
end K1
namespace Mine
open PySem PySem.W PySem.Calls PyProof.Rows
section
variable {prog : Program} {w : World} {A : Around} {E : Value → Shared → Prop} {s : Shared} {x y : Int} {t u : Tok} {Q : Value → Shared → Prop}
theorem log_small {y : Int} (h0 : 0 < y) (h : y ≤ 1000000000000000000000000000000) : y.natAbs.log2 < 9000 := by
  have h1 : y.natAbs < 2 ^ 100 := by
    have : (2 : Nat) ^ 100 = 1267650600228229401496703205376 := by decide
    omega
  have : y.natAbs.log2 < 100 := (Nat.log2_lt (by omega)).mpr h1
  omega
theorem step_div (hy : 0 < y) (hs : y ≤ 1000000000000000000000000000000) (h : Q (.int (Int.fdiv x y) s.toks) { s with toks := s.toks + 1 }) :
    wpAny (model prog w) A (binaryOp .FloorDiv (.int x t) (.int y u)) Q E s :=
  PyProof.Rows.floordiv_int (by omega) h (Or.inl (PyProof.noPylong_of_log2 (log_small hy hs)))
theorem step_mod (hy : 0 < y) (h : 0 ≤ Int.fmod x y → Int.fmod x y < y → Q (.int (Int.fmod x y) s.toks) { s with toks := s.toks + 1 }) :
    wpAny (model prog w) A (binaryOp .Mod (.int x t) (.int y u)) Q E s :=
  PyProof.Rows.mod_int (by omega) (h (Int.fmod_nonneg_of_pos x hy) (Int.fmod_lt_of_pos x hy))
theorem pow20 (h : Q (.int 100000000000000000000 s.toks) { s with toks := s.toks + 1 }) : wpAny (model prog w) A (binaryOp .Pow (.int 10 t) (.int 20 u)) Q E s :=
  PyProof.Rows.pow_int_small (by decide) (by decide) (by decide) (show Q (.int ((10 : Int) ^ Int.toNat 20) s.toks) _ from (show (10 : Int) ^ Int.toNat 20 = 100000000000000000000 by decide +kernel) ▸ h)
theorem pow30 (h : Q (.int 1000000000000000000000000000000 s.toks) { s with toks := s.toks + 1 }) : wpAny (model prog w) A (binaryOp .Pow (.int 10 t) (.int 30 u)) Q E s :=
  PyProof.Rows.pow_int_small (by decide) (by decide) (by decide) (show Q (.int ((10 : Int) ^ Int.toNat 30) s.toks) _ from (show (10 : Int) ^ Int.toNat 30 = 1000000000000000000000000000000 by decide +kernel) ▸ h)
theorem pow35 (h : Q (.int 100000000000000000000000000000000000 s.toks) { s with toks := s.toks + 1 }) : wpAny (model prog w) A (binaryOp .Pow (.int 10 t) (.int 35 u)) Q E s :=
  PyProof.Rows.pow_int_small (by decide) (by decide) (by decide) (show Q (.int ((10 : Int) ^ Int.toNat 35) s.toks) _ from (show (10 : Int) ^ Int.toNat 35 = 100000000000000000000000000000000000 by decide +kernel) ▸ h)
theorem pow40 (h : Q (.int 10000000000000000000000000000000000000000 s.toks) { s with toks := s.toks + 1 }) : wpAny (model prog w) A (binaryOp .Pow (.int 10 t) (.int 40 u)) Q E s :=
  PyProof.Rows.pow_int_small (by decide) (by decide) (by decide) (show Q (.int ((10 : Int) ^ Int.toNat 40) s.toks) _ from (show (10 : Int) ^ Int.toNat 40 = 10000000000000000000000000000000000000000 by decide +kernel) ▸ h)
theorem pow59 (h : Q (.int 100000000000000000000000000000000000000000000000000000000000 s.toks) { s with toks := s.toks + 1 }) : wpAny (model prog w) A (binaryOp .Pow (.int 10 t) (.int 59 u)) Q E s :=
  PyProof.Rows.pow_int_small (by decide) (by decide) (by decide) (show Q (.int ((10 : Int) ^ Int.toNat 59) s.toks) _ from (show (10 : Int) ^ Int.toNat 59 = 100000000000000000000000000000000000000000000000000000000000 by decide +kernel) ▸ h)
theorem pow60 (h : Q (.int 1000000000000000000000000000000000000000000000000000000000000 s.toks) { s with toks := s.toks + 1 }) : wpAny (model prog w) A (binaryOp .Pow (.int 10 t) (.int 60 u)) Q E s :=
  PyProof.Rows.pow_int_small (by decide) (by decide) (by decide) (show Q (.int ((10 : Int) ^ Int.toNat 60) s.toks) _ from (show (10 : Int) ^ Int.toNat 60 = 1000000000000000000000000000000000000000000000000000000000000 by decide +kernel) ▸ h)
end
end Mine
namespace Mine
open PySem PySem.W PySem.Calls PyProof.Rows
section
variable {prog : Program} {w : World} {A : Around} {E : Value → Shared → Prop} {s : Shared} {x y : Int} {t u : Tok} {Q : Value → Shared → Prop}
theorem step_eq (e : x = y) (h : Q (.bool true) s) : wpAny (model prog w) A (compareOp .Eq (.int x t) (.int y u)) Q E s := by
  refine PyProof.Rows.eq_int ?_
  have d : (x == y) = true := beq_iff_eq.mpr e
  rw [d]
  exact h
theorem step_le (e : x ≤ y) (h : Q (.bool true) s) : wpAny (model prog w) A (compareOp .LtE (.int x t) (.int y u)) Q E s := by
  refine PyProof.Rows.le_int ?_
  rw [decide_eq_true e]
  exact h
theorem step_lt (e : x < y) (h : Q (.bool true) s) : wpAny (model prog w) A (compareOp .Lt (.int x t) (.int y u)) Q E s := by
  refine PyProof.Rows.lt_int ?_
  rw [decide_eq_true e]
  exact h
end
end Mine
namespace Mine
open PySem PySem.W PySem.Calls PyProof.Rows
section
variable {prog : Program} {w : World} {A : Around} {E : Value → Shared → Prop} {s : Shared} {x y : Int} {t u : Tok} {Q : Value → Shared → Prop}
theorem bits_small {y : Int} (h0 : 0 ≤ y) (h : y ≤ 1000000000000000000000000000000000000000000000000000000000000000000000000000000000000000000) : Builtin.Int.intBits y ≤ 2 ^ 20 := by
  have h1 : y.natAbs < 2 ^ 400 := by
    have : (2 : Nat) ^ 400 > 1000000000000000000000000000000000000000000000000000000000000000000000000000000000000000000 := by decide +kernel
    omega
  exact Nat.le_trans (PySem.intBits_le_iff.mpr h1) (by decide)
theorem step_mul (x0 : 0 ≤ x) (x1 : x ≤ 1000000000000000000000000000000000000000000000000000000000000000000000000000000000000000000) (y0 : 0 ≤ y) (y1 : y ≤ 1000000000000000000000000000000000000000000000000000000000000000000000000000000000000000000) (h : Q (.int (x * y) s.toks) { s with toks := s.toks + 1 }) :
    wpAny (model prog w) A (binaryOp .Mult (.int x t) (.int y u)) Q E s :=
  PyProof.Rows.mul_int h (PySem.IntMulOk.of_bits (bits_small x0 x1) (bits_small y0 y1))
theorem bits_fit (c : Int) : c.natAbs < 2 ^ Builtin.Int.intBits c := PySem.intBits_le_iff.mp (Nat.le_refl _)
theorem bits_400 {y : Int} (h0 : 0 ≤ y) (h : y ≤ 1000000000000000000000000000000000000000000000000000000000000) : Builtin.Int.intBits y ≤ 400 := by
  have h1 : y.natAbs < 2 ^ 400 := by
    have : (2 : Nat) ^ 400 > 1000000000000000000000000000000000000000000000000000000000000000000000000000000000000000000 := by decide +kernel
    omega
  exact PySem.intBits_le_iff.mpr h1
theorem step_bits (x0 : 0 ≤ x) (x1 : x ≤ 1000000000000000000000000000000000000000000000000000000000000) (h : ∀ b : Nat, K1.Bits x b → b ≤ 400 → Q (.int (b : Int) s.toks) { s with toks := s.toks + 1 }) :
    wpAny (model prog w) A (call (.builtin "int.bit_length") [.int x t]) Q E s :=
  PyProof.Rows.call_int_bit_length (h _ ⟨bits_fit x⟩ (bits_400 x0 x1))
end
end Mine
open PySem PySem.W PyProof.Rows
local macro_rules | `(tactic| walk_at "binaryOp FloorDiv int int") => `(tactic| (k_here; (with_reducible refine' Mine.step_div ?k1 ?k2 ?_); (case k1 => first | k_dflt omega | l_fact); (case k2 => first | k_dflt omega | l_fact)))
local macro_rules | `(tactic| walk_at "binaryOp Mod int int") => `(tactic| (k_here; (with_reducible refine' Mine.step_mod ?k1 ?_); (case k1 => first | k_dflt omega | l_fact); intro hm0 hm1))
local macro_rules | `(tactic| walk_at "binaryOp Pow int int") => `(tactic| (k_here; (with_reducible refine' Mine.pow30 ?_)))
local macro_rules | `(tactic| walk_at "binaryOp Pow int int") => `(tactic| (k_here; (with_reducible refine' Mine.pow59 ?_)))
local macro_rules | `(tactic| walk_at "binaryOp Pow int int") => `(tactic| (k_here; (with_reducible refine' Mine.pow60 ?_)))
local macro_rules | `(tactic| walk_at "binaryOp Mult int int") => `(tactic| (k_here; (with_reducible refine' Mine.step_mul ?k1 ?k2 ?k3 ?k4 ?_); (case k1 => first | k_dflt omega | l_fact); (case k2 => first | k_dflt omega | l_fact); (case k3 => first | k_dflt omega | l_fact); (case k4 => first | k_dflt omega | l_fact)))
local macro_rules | `(tactic| walk_at "call builtin:int.bit_length") => `(tactic| (k_here; (with_reducible refine' Mine.step_bits ?k1 ?k2 ?_); (case k1 => first | k_dflt omega | l_fact); (case k2 => first | k_dflt omega | l_fact); intro b' hb0 hb1))
local macro_rules | `(tactic| walk_at "compareOp Eq int int") => `(tactic| (k_here; (with_reducible refine' Mine.step_eq ?k1 ?_); (case k1 => k_dflt (exact K1.agd_add (by first | omega | l_fact) (by first | omega | l_fact)))))
local macro_rules | `(tactic| walk_at "compareOp LtE int int") => `(tactic| (k_here; (with_reducible refine' Mine.step_le ?k1 ?_); (case k1 => k_dflt (exact K1.fit_lo (by first | omega | l_fact) (by first | omega | l_fact)))))
local macro_rules | `(tactic| walk_at "compareOp Lt int int") => `(tactic| (k_here; (with_reducible refine' Mine.step_lt ?k1 ?_); (case k1 => k_dflt (exact K1.fit_hi (by first | omega | l_fact) (by first | omega | l_fact)))))
example : Int → Int → List Int → Int → Prop := fun c₀ p pre c => K1.In c₀ p c pre.length
example : Int → Int → Int → List Int → Int → Int → Prop := fun t₀ c p _ w t => 0 ≤ t ∧ 1 ≤ w ∧ K1.Pw c p t₀ w t
set_option maxRecDepth 100000 in
set_option maxHeartbeats 20000000 in
theorem PySem.Challenge.cw_leastasked_k01_a_count_aged_holds : PySem.Challenge.rw_leastasked_k01_a_count_aged.Holds :=
  hd (by
  k_with "fact aged" => exact K1.agd_fact
  k_with "fact _law_power" => exact K1.pwr_fact
  k_with "fact _law_times" => exact K1.tm_fact
  k_with "call ref" => k_call_by "aged" K1.agd (fun (c p t : Int) => 0 ≤ c ∧ c ≤ 1000000000000000000000000000000000000000000000000000000000000 ∧ 2 ≤ p ∧ p ≤ 1000000000000000000000000000000 ∧ 0 ≤ t)
  k_with "call ref" => k_call_by "_law_power" K1.pwr (fun (c p t : Int) => 0 ≤ c ∧ c ≤ 1000000000000000000000000000000000000000000000000000000000000 ∧ 2 ≤ p ∧ p ≤ 1000000000000000000000000000000 ∧ 0 ≤ t)
  k_with "call ref" => k_call_by "_law_times" K1.tm
  k_with "tree" => first
    | exact K1.tm_a (by omega)
    | exact K1.tm_b (by omega)
    | exact K1.pw_out_t (by assumption) (by omega) (by omega)
    | exact K1.pw_out_c (by assumption) (by omega) (by omega)
    | exact K1.out (by assumption) (by assumption) (by omega) (by omega) (by first | omega | (simp only [rangeKs_length]; omega))
  k_with "state" => first
    | exact K1.in_start' (by omega)
    | exact K1.in_turn' (by assumption) (by omega)
    | exact K1.pw_start' (by omega)
    | exact K1.pw_turn' (by assumption) (by omega) (by omega) (by omega) (by omega)
  k_with "pyIter ref" => k_state_given ["count!", "part"] (fun c₀ p pre c => K1.In c₀ p c pre.length) "count"
  k_with "exec While BoolOp cons nil" => k_while_given ["_law_times_here!", "_law_count", "_law_part"] (fun t₀ c p _ w t => 0 ≤ t ∧ 1 ≤ w ∧ K1.Pw c p t₀ w t) (fun t₀ c p _ w t => t.toNat) "_law_power_here" "_law_times_here"
  w_strict k_go)
#print axioms PySem.Challenge.cw_leastasked_k01_a_count_aged_holds
