/- The reference's item, one, all; plain facts of its ranges. -/
import Derived.Test.YtepfpmnfecehbaaGst
import Derived.Test.YtepfpmnfecehbaaGa
namespace Go.Proofs.Ytepfpmnfecehbaa
open Go.RowKit

theorem letterG_end {l : List UInt8} {c : Int} {o : Nat} (h : letterG l = .err c o) : o = l.length := by
  match l with
  | [] => simp [letterG] at h; simp; omega
  | [x] =>
    by_cases hx : x = 92
    · simp [letterG, hx] at h; simp; omega
    · simp [letterG, hx] at h
  | x :: y :: t =>
    by_cases hx : x = 92
    · simp [letterG, hx] at h
    · simp [letterG, hx] at h
/-- As the reference looks for a range: a byte must be behind the -. -/
def dashR (t : List UInt8) : Bool := decide (2 ≤ t.length) && dashB t
theorem dash_one {t : List UInt8} (h : dashB t = true) (h2 : ¬ 2 ≤ t.length) : t = [45] := by
  match t with
  | [] => simp [dashB, starts_nil] at h
  | [x] =>
    simp only [dashB, starts_cons, Bool.and_eq_true, beq_iff_eq] at h
    rw [h.1]
  | x :: y :: t => simp at h2
theorem items_dash : itemsF letterG false [45] = .err 31 1 := by decide
theorem itemsF_noDash {l : List UInt8} {first : Bool} {lo : UInt8} {n : Nat} (h : (!first && starts [93] l) = false) (h1 : letterG l = .ok lo n) (h2 : dashR (l.drop n) = false) :
    itemsF letterG first l = (itemsF letterG false (l.drop n)).more lo lo n := by
  have b1 := (good_letterG l).1 _ _ h1
  cases hd : dashB (l.drop n)
  · exact itemsF_more good_letterG h (by unfold rangeP; rw [h1]; simp only [hd]; rfl)
  · have h3 : ¬ 2 ≤ (l.drop n).length := by
      intro h4
      rw [dashR, hd, decide_eq_true h4] at h2; cases h2
    have h4 := dash_one hd h3
    have h5 : l.length = n + 1 := by have := congrArg List.length h4; simp at this; omega
    have h6 : l.drop (n + 1) = [] := List.drop_eq_nil_of_le (by omega)
    have h7 : rangeP letterG l = .err 31 (n + 1) := by
      unfold rangeP; rw [h1]; simp only [hd, if_true, h6]; rfl
    rw [itemsF_err h h7, h4, items_dash]; rfl
theorem itemsF_dashErr {l : List UInt8} {first : Bool} {lo : UInt8} {n : Nat} {c : Int} {o : Nat} (h : (!first && starts [93] l) = false) (h1 : letterG l = .ok lo n) (h2 : dashR (l.drop n) = true) (h3 : letterG (l.drop (n + 1)) = .err c o) :
    itemsF letterG first l = .err c (n + 1 + o) := by
  have hd : dashB (l.drop n) = true := by simp only [dashR, Bool.and_eq_true] at h2; exact h2.2
  exact itemsF_err h (by unfold rangeP; rw [h1]; simp only [hd, if_true, h3])
theorem itemsF_dashBad {l : List UInt8} {first : Bool} {lo hi : UInt8} {n m : Nat} (h : (!first && starts [93] l) = false) (h1 : letterG l = .ok lo n) (h2 : dashR (l.drop n) = true) (h3 : letterG (l.drop (n + 1)) = .ok hi m) (h4 : hi < lo) :
    itemsF letterG first l = .err 32 0 := by
  have hd : dashB (l.drop n) = true := by simp only [dashR, Bool.and_eq_true] at h2; exact h2.2
  exact itemsF_err h (by unfold rangeP; rw [h1]; simp only [hd, if_true, h3, h4])
theorem itemsF_dashOk {l : List UInt8} {first : Bool} {lo hi : UInt8} {n m : Nat} (h : (!first && starts [93] l) = false) (h1 : letterG l = .ok lo n) (h2 : dashR (l.drop n) = true) (h3 : letterG (l.drop (n + 1)) = .ok hi m) (h4 : ¬ hi < lo) :
    itemsF letterG first l = (itemsF letterG false (l.drop (n + 1 + m))).more lo hi (n + 1 + m) := by
  have hd : dashB (l.drop n) = true := by simp only [dashR, Bool.and_eq_true] at h2; exact h2.2
  exact itemsF_more good_letterG h (by unfold rangeP; rw [h1]; simp only [hd, if_true, h3, h4, if_false])
theorem itemsF_letterErr {l : List UInt8} {first : Bool} {c : Int} {o : Nat} (h : (!first && starts [93] l) = false) (h1 : letterG l = .err c o) : itemsF letterG first l = .err c o :=
  itemsF_err h (by unfold rangeP; rw [h1])

theorem item_ok (s : ByteArray) (k : Nat) (w : World) (hk : k < s.size) (hs : s.size ≤ 256) {c : UInt8} {n : Nat} (h : letterG (restL s k) = .ok c n) :
    Calls Try.prog 43 #[.string s, .int .i64 (k : Nat)] w fun e w' => e = .returned (.tuple #[.int .u8 (c.toNat : Nat), .int .i64 ((k + n : Nat) : Int), .bool true]) ∧ w = w' := by
  have hk' : (k : Int) < (s.size : Int) := by omega
  have hb := byteAt_eq s k hk
  by_cases h92 : byteAt s k = 92
  · have h1 : k + 1 < s.size := by
      rcases Nat.lt_or_ge (k + 1) s.size with h1 | h1
      · exact h1
      · rw [rest_cons s k hk, rest_nil s (k + 1) h1] at h; simp [letterG, h92] at h
    rw [rest_cons s k hk, rest_cons s (k + 1) h1] at h
    simp [letterG, h92] at h
    obtain ⟨rfl, rfl⟩ := h
    have h1' : ((k : Int) + 1) < (s.size : Int) := by omega
    have hb2 := byteAt_eq s (k + 1) h1
    have hx : (((byteAt s k).toNat : Int) != 92) = false := by rw [h92]; decide
    have ht : ((k : Int) + 1).toNat = k + 1 := by omega
    have HE := Lib.hid (show ((k : Int) + 2) = ((k + 2 : Nat) : Int) by omega)
    clear h92
    go_enter Try.func43, Try.ntmps43
    go_wp2
    go_ret3
    exact ⟨by rw [← HE.out]; rfl, rfl⟩
  · have hx : (((byteAt s k).toNat : Int) != 92) = true := by
      rw [bne_iff_ne]; intro e; exact h92 (UInt8.toNat_inj.1 (show (byteAt s k).toNat = 92 by omega))
    rw [rest_cons s k hk] at h
    simp [letterG, h92] at h
    obtain ⟨rfl, rfl⟩ := h
    have HE := Lib.hid (show ((k : Int) + 1) = ((k + 1 : Nat) : Int) by omega)
    clear h92
    go_enter Try.func43, Try.ntmps43
    go_wp2
    go_ret3
    exact ⟨by rw [← HE.out]; rfl, rfl⟩
theorem item_err (s : ByteArray) (k : Nat) (w : World) (hk : k < s.size) (hs : s.size ≤ 256) {c : Int} {o : Nat} (h : letterG (restL s k) = .err c o) :
    Calls Try.prog 43 #[.string s, .int .i64 (k : Nat)] w fun e w' => e = .returned (.tuple #[.int .u8 0, .int .i64 0, .bool false]) ∧ w = w' := by
  have hk' : (k : Int) < (s.size : Int) := by omega
  have hb := byteAt_eq s k hk
  by_cases h92 : byteAt s k = 92
  · have h1 : s.size ≤ k + 1 := by
      rcases Nat.lt_or_ge (k + 1) s.size with h1 | h1
      · rw [rest_cons s k hk, rest_cons s (k + 1) h1] at h; simp [letterG, h92] at h
      · exact h1
    have h1' : (s.size : Int) ≤ ((k : Int) + 1) := by omega
    have hx : (((byteAt s k).toNat : Int) != 92) = false := by rw [h92]; decide
    clear h92 h
    go_enter Try.func43, Try.ntmps43
    go_wp2
    go_ret3
    exact ⟨rfl, rfl⟩
  · rw [rest_cons s k hk] at h
    simp [letterG, h92] at h
theorem leaf_new (w : World) (o : Obj) (a b : UInt8) : TreeAt ((w.alloc o).alloc (.cells #[.int .u8 (a.toNat : Nat), .int .u8 (b.toNat : Nat)] 117)) (Fresh w ((w.alloc o).alloc (.cells #[.int .u8 (a.toNat : Nat), .int .u8 (b.toNat : Nat)] 117))) 1 (.mk 1 [(a, b)] [])
    [.int .i64 1, .slice (some ⟨w.heap.size + 1, 0, none⟩) 1 1, .slice none 0 0] := by
  refine tree_leaf (n := 1) (by decide) ⟨rfl, fun _ => ⟨w.heap.size + 1, 0, rfl, ⟨by omega, by simp⟩, fun i r hr => ?_⟩⟩ 0
  have hb : Blk ((w.alloc o).alloc (.cells #[.int .u8 (a.toNat : Nat), .int .u8 (b.toNat : Nat)] 117)) (w.heap.size + 1) 117 #[.int .u8 (a.toNat : Nat), .int .u8 (b.toNat : Nat)] := heap_alloc_new2 w _ _
  obtain ⟨p0, p1, _, _⟩ := blk2 hb
  match i, hr with
  | 0, hr => simp at hr; subst hr; exact ⟨p0, p1⟩
theorem rone_any (c : UInt8) (w : World) : Calls Try.prog 44 #[.int .u8 (c.toNat : Nat)] w fun e w' => NodeRes w (single c) e w' ∧ Below w.heap.size w w' := by
  go_enter Try.func44, Try.ntmps44
  go_wp2
  refine bodyPost_ret (v := .agg #[.int .i64 1, .slice (some ⟨w.heap.size + 1, 0, none⟩) 1 1, .slice none 0 0]) (by simp [results, Try.results44, go_sem]) rfl ⟨⟨1, 1, _, 1, 1, none, 0, 0, rfl, leaf_new w _ c c⟩, ?_⟩
  exact ((Below.refl _ w).alloc (Nat.le_refl _) _).alloc (by simp) _
theorem rall_any (w : World) : Calls Try.prog 41 #[] w fun e w' => NodeRes w anyT e w' ∧ Below w.heap.size w w' := by
  go_enter Try.func41, Try.ntmps41
  go_wp2
  refine bodyPost_ret (v := .agg #[.int .i64 1, .slice (some ⟨w.heap.size + 1, 0, none⟩) 1 1, .slice none 0 0]) (by simp [results, Try.results41, go_sem]) rfl ⟨⟨1, 1, _, 1, 1, none, 0, 0, rfl, ?_⟩, ?_⟩
  · unfold anyT
    rw [any_all]
    exact leaf_new w _ 0 255
  · exact ((Below.refl _ w).alloc (Nat.le_refl _) _).alloc (by simp) _
end Go.Proofs.Ytepfpmnfecehbaa
