/- Small facts on the order: its values, the document's example. -/
import Derived.Test.YtmicjadbahicfaaDoorNcCm
namespace Go.Proofs.YtmicjadbahicfaaDoor
open Go.RowKit

theorem c3_bd (x y : Nat) : -1 ≤ c3 x y ∧ c3 x y ≤ 1 := by unfold c3; split <;> (try split) <;> omega
theorem cT_bd (t u : Nat × Nat × Nat) : -1 ≤ cT t u ∧ cT t u ≤ 1 := by
  have h1 := c3_bd t.1 u.1
  have h2 := c3_bd t.2.1 u.2.1
  have h3 := c3_bd t.2.2 u.2.2
  unfold cT; split <;> (try split) <;> assumption
theorem cmpF_bd : ∀ n a b, -1 ≤ cmpF n a b ∧ cmpF n a b ≤ 1 := by
  intro n
  induction n with
  | zero => intro a b; simp [cmpF]
  | succ n ih =>
    intro a b
    have h1 := cT_bd (tok a) (tok b)
    have h2 := ih (a.drop (tlen a)) (b.drop (tlen b))
    simp only [cmpF]
    split
    · split <;> omega
    · split
      · omega
      · split <;> assumption
theorem cmpS_bd (a b : List UInt8) : -1 ≤ cmpS a b ∧ cmpS a b ≤ 1 := cmpF_bd _ a b
theorem cmp_is {a b : ByteArray} {x : Int} (w : World) (ha : a.size ≤ maxLen) (hb : b.size ≤ maxLen) (h : cmpS a.data.toList b.data.toList = x) :
    Calls Tryd.prog 11 #[.string a, .string b] w fun e w' => e = .returned (.int .i64 x) ∧ Below w.heap.size w w' := by
  rw [← h]; exact nameCmp a b w ha hb
theorem cmp_t2 (w : World) : Calls Tryd.prog 11 #[.string ⟨#[116, 50]⟩, .string ⟨#[116, 49, 48]⟩] w fun e w' => e = .returned (.int .i64 (-1)) ∧ Below w.heap.size w w' :=
  cmp_is w (by decide) (by decide) (by decide +kernel)
theorem str_ne {v s : ByteArray} (h : v ≠ s) : (v.toList == s.toList) = false := by
  rw [Lib.toList_data, Lib.toList_data, beq_eq_false_iff_ne]
  exact fun e => h (ba_inj e)


end Go.Proofs.YtmicjadbahicfaaDoor
