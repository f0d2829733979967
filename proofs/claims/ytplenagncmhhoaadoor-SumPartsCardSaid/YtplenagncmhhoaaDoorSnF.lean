/- The document's number written. -/
import Derived.Test.YtplenagncmhhoaaDoorSnC
import Derived.Test.YtplenagncmhhoaaDoorNmRr
namespace Go.Proofs.YtplenagncmhhoaaDoor
open Go.RowKit

/-- What is still to be written, before what is. -/
def sufD (r : Nat) (acc : Ln) : Ln := if r = 0 then acc else dgN r ++ acc
theorem sufD_step (r : Nat) (acc : Ln) : sufD (r / 10) (UInt8.ofNat (48 + r % 10) :: acc) = dgN r ++ acc := by
  unfold sufD dgN
  by_cases h : r < 10
  · rw [if_pos (by omega), Lib.decDigits, dif_pos h, Nat.mod_eq_of_lt h]; rfl
  · rw [if_neg (by omega)]
    conv => rhs; rw [Lib.decDigits, dif_neg h]
    simp
structure DecR (n r : Nat) (acc : Ln) : Prop where
  first : acc = [] → r = n
  rest : acc ≠ [] → sufD r acc = dgN n
  short : acc.length + r ≤ n + 1
theorem DecR.next {n r : Nat} {acc : Ln} (h : DecR n r acc) (h0 : acc = [] ∨ 0 < r) : DecR n (r / 10) (UInt8.ofNat (48 + r % 10) :: acc) := by
  refine ⟨fun e => (by cases e), fun _ => ?_, ?_⟩
  · rw [sufD_step]
    by_cases ha : acc = []
    · rw [h.first ha, ha, List.append_nil]
    · have h1 := h.rest ha
      unfold sufD at h1
      rw [if_neg (by rcases h0 with h0 | h0; exact absurd h0 ha; omega)] at h1
      exact h1
  · have h1 := h.short
    rw [List.length_cons]
    rcases h0 with h0 | h0
    · have := h.first h0
      rw [h0] at h1 ⊢
      simp only [List.length_nil] at h1 ⊢
      omega
    · omega
theorem DecR.last {n : Nat} {acc : Ln} (h : DecR n 0 acc) (h0 : acc ≠ []) : acc = dgN n := by
  have := h.rest h0
  unfold sufD at this
  rwa [if_pos rfl] at this
def emptyV : Value → Nat
  | .string b => if b.size = 0 then 1 else 0
  | _ => 0
set_option maxHeartbeats 4000000 in
set_option maxRecDepth 100000 in
theorem rDec_any (n : Nat) (w : World) (hn : n ≤ 1000000) :
    Calls Tryd.prog 80 #[.int .i64 (n : Nat)] w fun e w' => e = .returned (.string ⟨(dgN n).toArray⟩) ∧ Below w.heap.size w w' := by
  go_enter Tryd.func80, Tryd.ntmps80
  go_wp2
  go_loopw [0, 3] (fun m o wr => ∃ (r : Nat) (acc : Ln), m = .int .i64 (r : Nat) ∧ o = .string ⟨acc.toArray⟩ ∧ DecR n r acc ∧ Below w.heap.size w wr) (fun m o _ => 2 * (intOf m).toNat + emptyV o)
  case atStart => exact ⟨n, [], rfl, rfl, ⟨fun _ => rfl, fun h => absurd rfl h, by simp⟩, Below.refl _ _⟩
  case round =>
    obtain ⟨r, acc, rfl, rfl, hd, hbw⟩ := hrel
    have HD := Lib.hid hd
    have HBW := Lib.hid hbw
    have hsw := hbw.size
    have hsh := hd.short
    obtain ⟨u, hu⟩ : ∃ u : ByteArray, u = ⟨acc.toArray⟩ := ⟨_, rfl⟩
    have hus : u.size = acc.length := by rw [hu, size_mk]
    have HU := Lib.hid hu
    rw [← hu]
    clear hd hbw
    obtain ⟨d, hdd⟩ : ∃ d, d = UInt8.ofNat (48 + r % 10) := ⟨_, rfl⟩
    have hdn : d.toNat = 48 + r % 10 := by rw [hdd]; simp; omega
    have HDD := Lib.hid hdd
    have hr0 : (0 : Int) ≤ (r : Int) := by omega
    obtain ⟨q, hq⟩ : ∃ q : Nat, q = r % 10 := ⟨_, rfl⟩
    obtain ⟨p, hp⟩ : ∃ p : Nat, p = r / 10 := ⟨_, rfl⟩
    have ht1 : (r : Int).tmod 10 = (q : Int) := by rw [Int.tmod_eq_emod_of_nonneg hr0]; omega
    have ht2 : (r : Int).tdiv 10 = (p : Int) := by rw [Int.tdiv_eq_ediv_of_nonneg hr0]; omega
    have hm1 : (r : Int) % 10 = (q : Int) := by omega
    have hm2 : (r : Int) / 10 = (p : Int) := by omega
    have hw0 : IntKind.i64.wrap (q : Int) = (q : Int) := IntWalk.i64_in _ (by omega)
    have hw1 : IntKind.i64.wrap (48 + (q : Int)) = (d.toNat : Int) := by rw [IntWalk.i64_in _ (by omega)]; omega
    have hw2 : IntKind.u8.wrap (d.toNat : Int) = (d.toNat : Int) := u8_in _ (by omega) (by omega)
    have hw3 : IntKind.i64.wrap (p : Int) = (p : Int) := IntWalk.i64_in _ (by omega)
    have hcv : (convert 56 9 (.slice (some ⟨wr.heap.size, 0, none⟩) 1 1)).run Tryd.prog (wr.alloc (.cells #[.int .u8 (d.toNat : Int)] 5)) = .ok (.string ⟨#[d]⟩) (wr.alloc (.cells #[.int .u8 (d.toNat : Int)] 5)) :=
      conv_own (B := 0) (l := [d]) ⟨rfl, Or.inr ⟨wr.heap.size, 1, #[.int .u8 (d.toNat : Int)], rfl, Nat.zero_le _, heap_alloc_new wr _, Nat.le_refl _, by unfold maxLen; omega, rfl, rfl⟩⟩
    have hns : ¬ (9223372036854775807 < 1 + u.size) := by omega
    have HAPP := Lib.hid (show (⟨#[d]⟩ ++ u : ByteArray) = ⟨(d :: acc).toArray⟩ by
      rw [hu]; exact str_app [d] acc)
    by_cases ha : acc = []
    · have hue : u = ⟨#[]⟩ := by rw [hu, ha]
      have HN := Lib.hid (HD.out.next (.inl ha))
      rw [← hdd, ← hp] at HN
      have HM := Lib.hid (show 2 * p + emptyV (.string ⟨(d :: acc).toArray⟩) < 2 * r + emptyV (.string u) by
        have e1 : emptyV (.string ⟨(d :: acc).toArray⟩) = 0 := by simp only [emptyV, size_mk, List.length_cons]; rw [if_neg (by omega)]
        have e2 : emptyV (.string u) = 1 := by simp only [emptyV]; rw [if_pos (by rw [hus, ha]; rfl)]
        rw [e1, e2]; omega)
      clear hu hus ha hdd hp hq hdn hsh
      rw [hue] at HAPP HM ⊢
      clear hue
      go_wp2
      rw [HAPP.out]
      go_roundw
      case rel => exact ⟨p, d :: acc, rfl, rfl, HN.out, HBW.out.alloc hsw _⟩
      case measure => simpa [intOf] using HM.out
    · have hem : u.toList.isEmpty = false := by
        rw [hu]
        cases acc with
        | nil => exact absurd rfl ha
        | cons a l => rw [show (⟨(a :: l).toArray⟩ : ByteArray).toList = a :: l by rw [ByteArray.toList_eq]]; rfl
      have HA := Lib.hid ha
      by_cases h0 : 0 < r
      · have h0' : (0 : Int) < (r : Int) := by omega
        have HN := Lib.hid (HD.out.next (.inr h0))
        rw [← hdd, ← hp] at HN
        have HM := Lib.hid (show 2 * p + emptyV (.string ⟨(d :: acc).toArray⟩) < 2 * r + emptyV (.string u) by
          have e1 : emptyV (.string ⟨(d :: acc).toArray⟩) = 0 := by simp only [emptyV, size_mk, List.length_cons]; rw [if_neg (by omega)]
          rw [e1]; omega)
        clear hu hus ha hdd hp hq hdn hsh
        go_wp2
        rw [HAPP.out]
        go_roundw
        case rel => exact ⟨p, d :: acc, rfl, rfl, HN.out, HBW.out.alloc hsw _⟩
        case measure => simpa [intOf] using HM.out
      · obtain rfl : r = 0 := by omega
        have HL := Lib.hid (HD.out.last ha)
        clear hu hus ha hdd hp hq hdn hsh
        go_wp2
        go_ret
        exact ⟨by rw [HU.out, HL.out]; rfl, HBW.out⟩
end Go.Proofs.YtplenagncmhhoaaDoor
