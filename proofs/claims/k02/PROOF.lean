import PyProof.Rows.All
import Wide.All
import OpenK.AllK
import Wide.FinOn
import PySem.Challenge.RW_leastasked_k02_ageings_counted
set_option Elab.async false
open PySem PySem.W PyProof.Rows in
set_option maxRecDepth 100000 in
set_option maxHeartbeats 8000000 in
open_top hd for PySem.Challenge.rw_leastasked_k02_ageings_counted
namespace K2
def ag (s a b : Int) : Int := Int.fdiv b s - Int.fdiv a s
def due (s a b : Int) : Int := if a - Int.fmod a s + s > b then 0 else 1 + Int.fdiv (b - (a - Int.fmod a s + s)) s
theorem quot (x y : Int) : x = y * Int.fdiv x y + Int.fmod x y := by
  rw [Int.fmod_def]; omega
theorem near {w d : Int} (hw : 0 < w) (lo : -w < w * d) (hi : w * d < w) : d = 0 := by
  rcases (by omega : d = 0 ∨ 1 ≤ d ∨ d ≤ -1) with e | e | e
  · exact e
  · have := Int.mul_le_mul_of_nonneg_left e (Int.le_of_lt hw); omega
  · have := Int.mul_le_mul_of_nonneg_left e (Int.le_of_lt hw); omega
theorem ag_due {s a b : Int} (hs : 0 < s) (hab : a ≤ b) : ag s a b = due s a b := by
  have ea := quot a s
  have eb := quot b s
  have a0 := Int.fmod_nonneg_of_pos a hs
  have a1 := Int.fmod_lt_of_pos a hs
  have b0 := Int.fmod_nonneg_of_pos b hs
  have b1 := Int.fmod_lt_of_pos b hs
  unfold ag due
  generalize Int.fdiv a s = qa at *
  generalize Int.fdiv b s = qb at *
  generalize Int.fmod a s = ra at *
  generalize Int.fmod b s = rb at *
  have m : s * (qb - qa) = s * qb - s * qa := Int.mul_sub s qb qa
  split
  · rename_i h
    rcases (by omega : qb - qa ≤ -1 ∨ qb - qa = 0 ∨ 1 ≤ qb - qa) with e | e | e
    · have := Int.mul_le_mul_of_nonneg_left e (Int.le_of_lt hs); omega
    · exact e
    · have := Int.mul_le_mul_of_nonneg_left e (Int.le_of_lt hs); omega
  · rename_i h
    have eq : b - (a - ra + s) = s * (qb - qa - 1) + rb := by
      have m2 : s * (qb - qa - 1) = s * (qb - qa) - s := by rw [Int.mul_sub, Int.mul_one]
      omega
    have e3 := quot (b - (a - ra + s)) s
    have c0 := Int.fmod_nonneg_of_pos (b - (a - ra + s)) hs
    have c1 := Int.fmod_lt_of_pos (b - (a - ra + s)) hs
    generalize Int.fdiv (b - (a - ra + s)) s = q3 at *
    generalize Int.fmod (b - (a - ra + s)) s = r3 at *
    have m3 : s * (q3 - (qb - qa - 1)) = s * q3 - s * (qb - qa - 1) := Int.mul_sub _ _ _
    have := near hs (d := q3 - (qb - qa - 1)) (by omega) (by omega)
    omega
end K2
namespace K2
theorem due_gt {s a b : Int} (h : a - Int.fmod a s + s > b) : 0 = due s a b := by unfold due; rw [if_pos h]
theorem due_le {s a b : Int} (h : ¬ a - Int.fmod a s + s > b) : 1 + Int.fdiv (b - (a - Int.fmod a s + s)) s = due s a b := by unfold due; rw [if_neg h]
end K2
namespace K2
theorem ag_add (s a m b : Int) : ag s a m + ag s m b = ag s a b := by unfold ag; omega
end K2
namespace Mine
open PySem PySem.W PySem.Calls PyProof.Rows
section
variable {prog : Program} {w : World} {A : Around} {E : Value → Shared → Prop} {s : Shared} {x y : Int} {t u : Tok} {Q : Value → Shared → Prop}
theorem log_small {y : Int} (h0 : 0 < y) (h : y ≤ 1000000000000000000000000000000) : y.natAbs.log2 < 9000 := by
  have h1 : y.natAbs < 2 ^ 100 := by
    have : (2 : Nat) ^ 100 = 1267650600228229401496703205376 := by decide
    omega
  have : y.natAbs.log2 < 100 := (Nat.log2_lt (by omega)).mpr h1
  omega
theorem step_div (hy : 0 < y) (hs : y ≤ 1000000000000000000000000000000) (h : Q (.int (Int.fdiv x y) s.toks) { s with toks := s.toks + 1 }) :
    wpAny (model prog w) A (binaryOp .FloorDiv (.int x t) (.int y u)) Q E s :=
  PyProof.Rows.floordiv_int (by omega) h (Or.inl (PyProof.noPylong_of_log2 (log_small hy hs)))
theorem step_mod (hy : 0 < y) (h : 0 ≤ Int.fmod x y → Int.fmod x y < y → Q (.int (Int.fmod x y) s.toks) { s with toks := s.toks + 1 }) :
    wpAny (model prog w) A (binaryOp .Mod (.int x t) (.int y u)) Q E s :=
  PyProof.Rows.mod_int (by omega) (h (Int.fmod_nonneg_of_pos x hy) (Int.fmod_lt_of_pos x hy))
theorem pow20 (h : Q (.int 100000000000000000000 s.toks) { s with toks := s.toks + 1 }) : wpAny (model prog w) A (binaryOp .Pow (.int 10 t) (.int 20 u)) Q E s :=
  PyProof.Rows.pow_int_small (by decide) (by decide) (by decide) (show Q (.int ((10 : Int) ^ Int.toNat 20) s.toks) _ from (show (10 : Int) ^ Int.toNat 20 = 100000000000000000000 by decide +kernel) ▸ h)
theorem pow30 (h : Q (.int 1000000000000000000000000000000 s.toks) { s with toks := s.toks + 1 }) : wpAny (model prog w) A (binaryOp .Pow (.int 10 t) (.int 30 u)) Q E s :=
  PyProof.Rows.pow_int_small (by decide) (by decide) (by decide) (show Q (.int ((10 : Int) ^ Int.toNat 30) s.toks) _ from (show (10 : Int) ^ Int.toNat 30 = 1000000000000000000000000000000 by decide +kernel) ▸ h)
theorem pow35 (h : Q (.int 100000000000000000000000000000000000 s.toks) { s with toks := s.toks + 1 }) : wpAny (model prog w) A (binaryOp .Pow (.int 10 t) (.int 35 u)) Q E s :=
  PyProof.Rows.pow_int_small (by decide) (by decide) (by decide) (show Q (.int ((10 : Int) ^ Int.toNat 35) s.toks) _ from (show (10 : Int) ^ Int.toNat 35 = 100000000000000000000000000000000000 by decide +kernel) ▸ h)
theorem pow40 (h : Q (.int 10000000000000000000000000000000000000000 s.toks) { s with toks := s.toks + 1 }) : wpAny (model prog w) A (binaryOp .Pow (.int 10 t) (.int 40 u)) Q E s :=
  PyProof.Rows.pow_int_small (by decide) (by decide) (by decide) (show Q (.int ((10 : Int) ^ Int.toNat 40) s.toks) _ from (show (10 : Int) ^ Int.toNat 40 = 10000000000000000000000000000000000000000 by decide +kernel) ▸ h)
theorem pow59 (h : Q (.int 100000000000000000000000000000000000000000000000000000000000 s.toks) { s with toks := s.toks + 1 }) : wpAny (model prog w) A (binaryOp .Pow (.int 10 t) (.int 59 u)) Q E s :=
  PyProof.Rows.pow_int_small (by decide) (by decide) (by decide) (show Q (.int ((10 : Int) ^ Int.toNat 59) s.toks) _ from (show (10 : Int) ^ Int.toNat 59 = 100000000000000000000000000000000000000000000000000000000000 by decide +kernel) ▸ h)
theorem pow60 (h : Q (.int 1000000000000000000000000000000000000000000000000000000000000 s.toks) { s with toks := s.toks + 1 }) : wpAny (model prog w) A (binaryOp .Pow (.int 10 t) (.int 60 u)) Q E s :=
  PyProof.Rows.pow_int_small (by decide) (by decide) (by decide) (show Q (.int ((10 : Int) ^ Int.toNat 60) s.toks) _ from (show (10 : Int) ^ Int.toNat 60 = 1000000000000000000000000000000000000000000000000000000000000 by decide +kernel) ▸ h)
end
end Mine
namespace Mine
open PySem PySem.W PySem.Calls PyProof.Rows
section
variable {prog : Program} {w : World} {A : Around} {E : Value → Shared → Prop} {s : Shared} {x y : Int} {t u : Tok} {Q : Value → Shared → Prop}
theorem step_eq (e : x = y) (h : Q (.bool true) s) : wpAny (model prog w) A (compareOp .Eq (.int x t) (.int y u)) Q E s := by
  refine PyProof.Rows.eq_int ?_
  have d : (x == y) = true := beq_iff_eq.mpr e
  rw [d]
  exact h
theorem step_le (e : x ≤ y) (h : Q (.bool true) s) : wpAny (model prog w) A (compareOp .LtE (.int x t) (.int y u)) Q E s := by
  refine PyProof.Rows.le_int ?_
  rw [decide_eq_true e]
  exact h
theorem step_lt (e : x < y) (h : Q (.bool true) s) : wpAny (model prog w) A (compareOp .Lt (.int x t) (.int y u)) Q E s := by
  refine PyProof.Rows.lt_int ?_
  rw [decide_eq_true e]
  exact h
end
end Mine
open PySem PySem.W PyProof.Rows
local macro_rules | `(tactic| walk_at "binaryOp FloorDiv int int") => `(tactic| (k_here; (with_reducible refine' Mine.step_div ?k1 ?k2 ?_); (case k1 => first | k_dflt omega | l_fact); (case k2 => first | k_dflt omega | l_fact)))
local macro_rules | `(tactic| walk_at "binaryOp Mod int int") => `(tactic| (k_here; (with_reducible refine' Mine.step_mod ?k1 ?_); (case k1 => first | k_dflt omega | l_fact); intro hm0 hm1))
local macro_rules | `(tactic| walk_at "binaryOp Pow int int") => `(tactic| (k_here; (with_reducible refine' Mine.pow20 ?_)))
local macro_rules | `(tactic| walk_at "binaryOp Pow int int") => `(tactic| (k_here; (with_reducible refine' Mine.pow30 ?_)))
local macro_rules | `(tactic| walk_at "binaryOp Pow int int") => `(tactic| (k_here; (with_reducible refine' Mine.pow35 ?_)))
local macro_rules | `(tactic| walk_at "binaryOp Pow int int") => `(tactic| (k_here; (with_reducible refine' Mine.pow40 ?_)))
local macro_rules | `(tactic| walk_at "binaryOp Pow int int") => `(tactic| (k_here; (with_reducible refine' Mine.pow59 ?_)))
local macro_rules | `(tactic| walk_at "binaryOp Pow int int") => `(tactic| (k_here; (with_reducible refine' Mine.pow60 ?_)))
local macro_rules | `(tactic| walk_at "compareOp Eq int int") => `(tactic| (k_here; (with_reducible refine' Mine.step_eq ?k1 ?_); (case k1 => k_dflt (first | exact K2.ag_add _ _ _ _ | exact K2.ag_due (by first | omega | l_fact) (by first | omega | l_fact)))))
set_option maxRecDepth 100000 in
set_option maxHeartbeats 20000000 in
theorem PySem.Challenge.cw_leastasked_k02_ageings_counted_holds : PySem.Challenge.rw_leastasked_k02_ageings_counted.Holds :=
  hd (by
  k_with "call ref" => k_call_by "ageings" K2.ag (fun (s _ _ : Int) => 0 < s ∧ s ≤ 100000000000000000000)
  k_with "call ref" => k_call_by "_law_due" K2.due (fun (s _ _ : Int) => 0 < s ∧ s ≤ 100000000000000000000)
  k_with "tree" => first
    | exact K2.due_gt (by omega)
    | exact K2.due_le (by omega)
  w_strict k_go)
#print axioms PySem.Challenge.cw_leastasked_k02_ageings_counted_holds
