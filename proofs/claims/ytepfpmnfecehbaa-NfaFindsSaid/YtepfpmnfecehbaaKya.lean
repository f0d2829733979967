/- The reference's Table: of a set. -/
import Derived.Test.YtepfpmnfecehbaaKx
import Derived.Test.YtepfpmnfecehbaaRr
import Derived.Test.YtepfpmnfecehbaaKm
namespace Go.Proofs.Ytepfpmnfecehbaa
open Go.RowKit Go.Maps

theorem none_at (s : ByteArray) (W : World) (hs : s.size ≤ 99000) : Calls Try.prog 46 #[.int .i64 ((s.size : Int) + 1)] W (TabPost W (s.size + 1) fun _ _ => false) := by
  have := none_any (s.size + 1) W (by omega) (by omega)
  simpa using this
theorem samet_at (s : ByteArray) (W : World) (hs : s.size ≤ 99000) : Calls Try.prog 48 #[.int .i64 ((s.size : Int) + 1)] W (TabPost W (s.size + 1) fun i j => decide (i = j)) := by
  have := samet_any (s.size + 1) W (by omega) (by omega)
  simpa using this
/-- The rows of a set's table so far. -/
def setP (rs : List (UInt8 × UInt8)) (s : List UInt8) (k a b : Nat) : Bool := decide (a < k) && setT rs s a b
theorem setP_step {rs : List (UInt8 × UInt8)} {s : ByteArray} {k : Nat} (hk : k < s.size) (a b : Nat) : setP rs s.data.toList (k + 1) a b = if a = k ∧ b = k + 1 then inR rs (byteAt s k).toNat else setP rs s.data.toList k a b := by
  have hl : k < s.data.toList.length := hk
  have hg : s.data.toList[k]? = some (byteAt s k) := by
    rw [List.getElem?_eq_getElem hl, ← byteAt_eq s k hk]; rfl
  unfold setP
  by_cases e : a = k ∧ b = k + 1
  · obtain ⟨rfl, rfl⟩ := e
    rw [if_pos ⟨rfl, rfl⟩]
    unfold setT
    rw [hg]; simp
  · rw [if_neg e]
    by_cases e2 : a = k
    · subst e2
      have e3 : ¬ b = a + 1 := fun x => e ⟨rfl, x⟩
      unfold setT
      rw [hg]; simp [e3]
    · have h1 : decide (a < k + 1) = decide (a < k) := by rw [decide_eq_decide]; omega
      rw [h1]
theorem setP_full {rs : List (UInt8 × UInt8)} {s : List UInt8} (a b : Nat) : setT rs s a b = setP rs s s.length a b := by
  unfold setP
  by_cases h : a < s.length
  · simp [h]
  · unfold setT
    rw [List.getElem?_eq_none (by omega)]; simp
theorem setP_start {rs : List (UInt8 × UInt8)} {s : List UInt8} (a b : Nat) : setP rs s 0 a b = false := by simp [setP]
set_option maxHeartbeats 1000000 in
set_option maxRecDepth 100000 in
theorem table1_any (rs : List (UInt8 × UInt8)) (kids : List Tr) (A A' : Option Addr) (n c n' c' : Nat) (s : ByteArray) (w : World) (hr : RgAt w (· < w.heap.size) A n rs) (hn : n ≤ maxLen) (hs : s.size ≤ 99000) (d : Nat) :
    Calls Try.prog 16 #[.agg #[.int .i64 1, .slice A n c, .slice A' n' c'], .string s] w (TabPost w (s.size + 1) (tabT s.data.toList (d + 1) (.mk 1 rs kids))) := by
  have HT0 : tabT s.data.toList (d + 1) (.mk 1 rs kids) = setT rs s.data.toList := by unfold tabT; rw [if_pos rfl]
  rw [HT0]
  clear HT0
  have k0 : Blk (w.alloc (.cells #[.int .i64 1, .slice A n c, .slice A' n' c'] 26)) w.heap.size 26 #[.int .i64 1, .slice A n c, .slice A' n' c'] := Blk.new w _ _
  have b0 : Below w.heap.size w (w.alloc (.cells #[.int .i64 1, .slice A n c, .slice A' n' c'] 26)) := (Below.refl _ w).alloc (Nat.le_refl _) _
  have hsz : (w.alloc (.cells #[.int .i64 1, .slice A n c, .slice A' n' c'] 26)).heap.size = w.heap.size + 1 := by simp
  have HN := Lib.hid (fun W => none_at s W hs)
  have K0 := Lib.hid k0
  have B0 := Lib.hid b0
  have hN : 0 < s.size + 1 := by omega
  clear k0 b0
  go_enter Try.func16, Try.ntmps16
  go_wp2_with fail
  refine (HN.out _).mono ?_
  rintro e w1 ⟨g, rb, cc, rfl, hc, ht, hb⟩
  have KW := Lib.hid (K0.out.below hb (by omega))
  have hg := ht.low
  have HT := Lib.hid ((ht.mono (B' := w.heap.size + 1) (by omega)).congr (T' := setP rs s.data.toList 0) (fun a b _ _ => setP_start a b))
  have HC := Lib.hid hc
  have HB := Lib.hid (B0.out.trans (hb.mono (by omega)))
  clear hc ht hb hg
  go_wp2_with fail
  go_loopw [6] (fun i wr => ∃ k : Nat, k ≤ s.size ∧ i = .int .i64 (k : Nat) ∧ Tab wr (w.heap.size + 1) g rb (s.size + 1) (setP rs s.data.toList k) ∧ Below w.heap.size w wr ∧ Blk wr w.heap.size 26 #[.int .i64 1, .slice A n c, .slice A' n' c']) (fun i _ => s.size - (intOf i).toNat)
  case atStart => exact ⟨0, Nat.zero_le _, rfl, HT.out, HB.out, KW.out⟩
  case round =>
    clear HT HB KW
    obtain ⟨k, hk, rfl, ht, hb, hkw⟩ := hrel
    have hbs := hb.size
    by_cases hlt : k < s.size
    · have hlt' : (k : Int) < (s.size : Int) := by omega
      have hk0 : (0 : Int) ≤ (k : Int) := by omega
      have hk1 : (k : Int) < (s.size : Int) + 1 := by omega
      have hk2 : (0 : Int) ≤ (k : Int) + 1 := by omega
      have hk3 : (k : Int) + 1 < (s.size : Int) + 1 := by omega
      have hk4 : IntKind.i64.wrap ((k : Int) + 1) = (k : Int) + 1 := by rw [IntKind.wrap_i64]; omega
      have hk5 : ((k : Int) + 1).toNat = k + 1 := by omega
      have hbt := byteAt_eq s k hlt
      have hwr : IntKind.i64.wrap ((byteAt s k).toNat : Int) = ((byteAt s k).toNat : Int) := by rw [IntKind.wrap_i64]; have := (byteAt s k).toNat_lt; omega
      have r0 := ht.row k (by omega)
      obtain ⟨c0, f0⟩ := ht.cell k (k + 1) (by omega) (by omega)
      have hw1 : wr.cell? ⟨w.heap.size, 1, none⟩ = some (.slice A n c) := hkw.cell 1
      have hB := (ht.blk k (by omega)).1
      have HT2 := Lib.hid (ht.drew.set_ (T' := setP rs s.data.toList (k + 1)) (i := k) (j := k + 1) (by omega) (by omega) (v := inR rs (byteAt s k).toNat) (fun a b _ _ => setP_step hlt a b))
      have HIN := Lib.hid (show Calls Try.prog 47 #[.slice A n c, .int .i64 ((byteAt s k).toNat : Int)] wr.drew (fun e w'' => e = .returned (.bool (inR rs (byteAt s k).toNat)) ∧ w'' = wr.drew) from (in_any A n c rs (byteAt s k).toNat wr.drew ((hr.keep (w' := wr.drew) (fun b hb' => hb.block b hb')).mono fun b hb' => Nat.lt_of_lt_of_le hb' hbs) hn (by have := (byteAt s k).toNat_lt; omega)).mono fun _ _ h => ⟨h.1, h.2.symm⟩)
      have HKW := Lib.hid hkw
      have HB := Lib.hid hb
      clear ht hkw hb
      go_wp2_with fail
      refine wp_region_still_tail 14 (by kernel_rfl) (by kernel_rfl) ?_
      simp only [List.take_succ_cons, List.take_zero, List.drop_succ_cons, List.drop_zero]
      repeat still_step
      still_call HIN.out
      repeat still_step
      refine wpStill_nil ?_
      change wpList _ _ _ _ _ wr.drew
      go_wp2
      go_roundw
      case rel => exact ⟨k + 1, by omega, by go_num, HT2.out, HB.out.trans ⟨rfl, rfl, rfl, by simp [World.setCell], fun x hx => Below.heap_setCell wr _ _ x (by show x ≠ rb k; omega)⟩, HKW.out.drew.far (by show w.heap.size ≠ rb k; omega) _⟩
      case measure => simp [intOf]; omega
    · obtain rfl : s.size = k := by omega
      have hlt' : ¬ (s.size : Int) < (s.size : Int) := by omega
      have HT2 := Lib.hid ((ht.mono (B' := w.heap.size) (by omega)).congr (T' := setT rs s.data.toList) (fun a b _ _ => setP_full (s := s.data.toList) a b))
      clear ht
      go_wp2
      go_ret
      exact ⟨g, rb, cc, rfl, HC.out, HT2.out, hb⟩
end Go.Proofs.Ytepfpmnfecehbaa
