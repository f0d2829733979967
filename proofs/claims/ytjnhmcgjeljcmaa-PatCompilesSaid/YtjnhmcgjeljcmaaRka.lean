/- The reference's item, one, all; plain facts of its ranges. The reference's class. The reference's class: one of the ways of its sign. -/
import Derived.Test.YtjnhmcgjeljcmaaGr
import Derived.Test.YtjnhmcgjeljcmaaTw
import Derived.Test.YtjnhmcgjeljcmaaGm
namespace Go.Proofs.Ytjnhmcgjeljcmaa
open Go.RowKit

def single (c : UInt8) : Tr := .mk 1 [(c, c)] []
def starT : Tr := .mk 4 [] [anyT]
theorem starts_nil (c : UInt8) (t : List UInt8) : starts (c :: t) [] = false := rfl
theorem starts_cons (c d : UInt8) (l : List UInt8) : starts [c] (d :: l) = (c == d) := by simp [starts, List.isPrefixOf]
theorem any_all : rangesL [] true = [(0, 255)] := by decide +kernel
theorem letterG_code {l : List UInt8} {c : Int} {o : Nat} (h : letterG l = .err c o) : c = 31 := by
  match l with
  | [] => simp [letterG] at h; omega
  | [x] =>
    by_cases hx : x = 92
    · simp [letterG, hx] at h; omega
    · simp [letterG, hx] at h
  | x :: y :: t =>
    by_cases hx : x = 92
    · simp [letterG, hx] at h
    · simp [letterG, hx] at h
theorem letterG_end {l : List UInt8} {c : Int} {o : Nat} (h : letterG l = .err c o) : o = l.length := by
  match l with
  | [] => simp [letterG] at h; simp; omega
  | [x] =>
    by_cases hx : x = 92
    · simp [letterG, hx] at h; simp; omega
    · simp [letterG, hx] at h
  | x :: y :: t =>
    by_cases hx : x = 92
    · simp [letterG, hx] at h
    · simp [letterG, hx] at h
/-- As the reference looks for a range: a byte must be behind the -. -/
def dashR (t : List UInt8) : Bool := decide (2 ≤ t.length) && dashB t
theorem dash_one {t : List UInt8} (h : dashB t = true) (h2 : ¬ 2 ≤ t.length) : t = [45] := by
  match t with
  | [] => simp [dashB, starts_nil] at h
  | [x] =>
    simp only [dashB, starts_cons, Bool.and_eq_true, beq_iff_eq] at h
    rw [h.1]
  | x :: y :: t => simp at h2
theorem items_dash : itemsF letterG false [45] = .err 31 1 := by decide
theorem itemsF_noDash {l : List UInt8} {first : Bool} {lo : UInt8} {n : Nat} (h : (!first && starts [93] l) = false) (h1 : letterG l = .ok lo n) (h2 : dashR (l.drop n) = false) :
    itemsF letterG first l = (itemsF letterG false (l.drop n)).more lo lo n := by
  have b1 := (good_letterG l).1 _ _ h1
  cases hd : dashB (l.drop n)
  · exact itemsF_more good_letterG h (by unfold rangeP; rw [h1]; simp only [hd]; rfl)
  · have h3 : ¬ 2 ≤ (l.drop n).length := by
      intro h4
      rw [dashR, hd, decide_eq_true h4] at h2; cases h2
    have h4 := dash_one hd h3
    have h5 : l.length = n + 1 := by have := congrArg List.length h4; simp at this; omega
    have h6 : l.drop (n + 1) = [] := List.drop_eq_nil_of_le (by omega)
    have h7 : rangeP letterG l = .err 31 (n + 1) := by
      unfold rangeP; rw [h1]; simp only [hd, if_true, h6]; rfl
    rw [itemsF_err h h7, h4, items_dash]; rfl
theorem itemsF_dashErr {l : List UInt8} {first : Bool} {lo : UInt8} {n : Nat} {c : Int} {o : Nat} (h : (!first && starts [93] l) = false) (h1 : letterG l = .ok lo n) (h2 : dashR (l.drop n) = true) (h3 : letterG (l.drop (n + 1)) = .err c o) :
    itemsF letterG first l = .err c (n + 1 + o) := by
  have hd : dashB (l.drop n) = true := by simp only [dashR, Bool.and_eq_true] at h2; exact h2.2
  exact itemsF_err h (by unfold rangeP; rw [h1]; simp only [hd, if_true, h3])
theorem itemsF_dashBad {l : List UInt8} {first : Bool} {lo hi : UInt8} {n m : Nat} (h : (!first && starts [93] l) = false) (h1 : letterG l = .ok lo n) (h2 : dashR (l.drop n) = true) (h3 : letterG (l.drop (n + 1)) = .ok hi m) (h4 : hi < lo) :
    itemsF letterG first l = .err 32 0 := by
  have hd : dashB (l.drop n) = true := by simp only [dashR, Bool.and_eq_true] at h2; exact h2.2
  exact itemsF_err h (by unfold rangeP; rw [h1]; simp only [hd, if_true, h3, h4])
theorem itemsF_dashOk {l : List UInt8} {first : Bool} {lo hi : UInt8} {n m : Nat} (h : (!first && starts [93] l) = false) (h1 : letterG l = .ok lo n) (h2 : dashR (l.drop n) = true) (h3 : letterG (l.drop (n + 1)) = .ok hi m) (h4 : ¬ hi < lo) :
    itemsF letterG first l = (itemsF letterG false (l.drop (n + 1 + m))).more lo hi (n + 1 + m) := by
  have hd : dashB (l.drop n) = true := by simp only [dashR, Bool.and_eq_true] at h2; exact h2.2
  exact itemsF_more good_letterG h (by unfold rangeP; rw [h1]; simp only [hd, if_true, h3, h4, if_false])
theorem itemsF_letterErr {l : List UInt8} {first : Bool} {c : Int} {o : Nat} (h : (!first && starts [93] l) = false) (h1 : letterG l = .err c o) : itemsF letterG first l = .err c o :=
  itemsF_err h (by unfold rangeP; rw [h1])

theorem item_ok (s : ByteArray) (k : Nat) (w : World) (hk : k < s.size) (hs : s.size ≤ 256) {c : UInt8} {n : Nat} (h : letterG (restL s k) = .ok c n) :
    Calls Try.prog 66 #[.string s, .int .i64 (k : Nat)] w fun e w' => e = .returned (.tuple #[.int .u8 (c.toNat : Nat), .int .i64 ((k + n : Nat) : Int), .bool true]) ∧ w = w' := by
  have hk' : (k : Int) < (s.size : Int) := by omega
  have hb := byteAt_eq s k hk
  by_cases h92 : byteAt s k = 92
  · have h1 : k + 1 < s.size := by
      rcases Nat.lt_or_ge (k + 1) s.size with h1 | h1
      · exact h1
      · rw [rest_cons s k hk, rest_nil s (k + 1) h1] at h; simp [letterG, h92] at h
    rw [rest_cons s k hk, rest_cons s (k + 1) h1] at h
    simp [letterG, h92] at h
    obtain ⟨rfl, rfl⟩ := h
    have h1' : ((k : Int) + 1) < (s.size : Int) := by omega
    have hb2 := byteAt_eq s (k + 1) h1
    have hx : (((byteAt s k).toNat : Int) != 92) = false := by rw [h92]; decide
    have ht : ((k : Int) + 1).toNat = k + 1 := by omega
    have HE := Lib.hid (show ((k : Int) + 2) = ((k + 2 : Nat) : Int) by omega)
    clear h92
    go_enter Try.func66, Try.ntmps66
    go_wp2
    go_ret3
    exact ⟨by rw [← HE.out]; rfl, rfl⟩
  · have hx : (((byteAt s k).toNat : Int) != 92) = true := by
      rw [bne_iff_ne]; intro e; exact h92 (UInt8.toNat_inj.1 (show (byteAt s k).toNat = 92 by omega))
    rw [rest_cons s k hk] at h
    simp [letterG, h92] at h
    obtain ⟨rfl, rfl⟩ := h
    have HE := Lib.hid (show ((k : Int) + 1) = ((k + 1 : Nat) : Int) by omega)
    clear h92
    go_enter Try.func66, Try.ntmps66
    go_wp2
    go_ret3
    exact ⟨by rw [← HE.out]; rfl, rfl⟩
theorem item_err (s : ByteArray) (k : Nat) (w : World) (hk : k < s.size) (hs : s.size ≤ 256) {c : Int} {o : Nat} (h : letterG (restL s k) = .err c o) :
    Calls Try.prog 66 #[.string s, .int .i64 (k : Nat)] w fun e w' => e = .returned (.tuple #[.int .u8 0, .int .i64 0, .bool false]) ∧ w = w' := by
  have hk' : (k : Int) < (s.size : Int) := by omega
  have hb := byteAt_eq s k hk
  by_cases h92 : byteAt s k = 92
  · have h1 : s.size ≤ k + 1 := by
      rcases Nat.lt_or_ge (k + 1) s.size with h1 | h1
      · rw [rest_cons s k hk, rest_cons s (k + 1) h1] at h; simp [letterG, h92] at h
      · exact h1
    have h1' : (s.size : Int) ≤ ((k : Int) + 1) := by omega
    have hx : (((byteAt s k).toNat : Int) != 92) = false := by rw [h92]; decide
    clear h92 h
    go_enter Try.func66, Try.ntmps66
    go_wp2
    go_ret3
    exact ⟨rfl, rfl⟩
  · rw [rest_cons s k hk] at h
    simp [letterG, h92] at h
theorem leaf_newZ (w : World) (o : Obj) (a b : UInt8) : TreeAt ((w.alloc o).alloc (.cells #[.int .u8 (a.toNat : Nat), .int .u8 (b.toNat : Nat)] 37)) (Fresh w ((w.alloc o).alloc (.cells #[.int .u8 (a.toNat : Nat), .int .u8 (b.toNat : Nat)] 37))) 1 (.mk 1 [(a, b)] [])
    [.int .i64 1, .slice (some ⟨w.heap.size + 1, 0, none⟩) 1 1, .slice none 0 0] := by
  refine tree_leaf (n := 1) (by decide) ⟨rfl, fun _ => ⟨w.heap.size + 1, 0, rfl, ⟨by omega, by simp⟩, fun i r hr => ?_⟩⟩ 0
  have hb : Blk ((w.alloc o).alloc (.cells #[.int .u8 (a.toNat : Nat), .int .u8 (b.toNat : Nat)] 37)) (w.heap.size + 1) 37 #[.int .u8 (a.toNat : Nat), .int .u8 (b.toNat : Nat)] := heap_alloc_new2 w _ _
  obtain ⟨p0, p1, _, _⟩ := blk2 hb
  match i, hr with
  | 0, hr => simp at hr; subst hr; exact ⟨p0, p1⟩
theorem rone_any (c : UInt8) (w : World) : Calls Try.prog 67 #[.int .u8 (c.toNat : Nat)] w fun e w' => NodeRes w (single c) e w' ∧ Below w.heap.size w w' := by
  go_enter Try.func67, Try.ntmps67
  go_wp2
  refine bodyPost_ret (v := .agg #[.int .i64 1, .slice (some ⟨w.heap.size + 1, 0, none⟩) 1 1, .slice none 0 0]) (by simp [results, Try.results67, go_sem]) rfl ⟨⟨1, 1, _, 1, 1, none, 0, 0, rfl, leaf_newZ w _ c c⟩, ?_⟩
  exact ((Below.refl _ w).alloc (Nat.le_refl _) _).alloc (by simp) _
theorem rall_any (w : World) : Calls Try.prog 64 #[] w fun e w' => NodeRes w anyT e w' ∧ Below w.heap.size w w' := by
  go_enter Try.func64, Try.ntmps64
  go_wp2
  refine bodyPost_ret (v := .agg #[.int .i64 1, .slice (some ⟨w.heap.size + 1, 0, none⟩) 1 1, .slice none 0 0]) (by simp [results, Try.results64, go_sem]) rfl ⟨⟨1, 1, _, 1, 1, none, 0, 0, rfl, ?_⟩, ?_⟩
  · unfold anyT
    rw [any_all]
    exact leaf_newZ w _ 0 255
  · exact ((Below.refl _ w).alloc (Nat.le_refl _) _).alloc (by simp) _
end Go.Proofs.Ytjnhmcgjeljcmaa
namespace Go.Proofs.Ytjnhmcgjeljcmaa
open Go.RowKit

def CRes (w : World) (k : Nat) (r : Pr) (e : Ending) (w' : World) : Prop :=
  match r with
  | .ok t n => ∃ d kk A m c A' m' c', e = .returned (.tuple #[.agg #[.int .i64 kk, .slice A m c, .slice A' m' c'], .int .i64 ((k + n : Nat) : Int), .int .i64 0, .int .i64 0]) ∧ TreeAt w' (Fresh w w') d t [.int .i64 kk, .slice A m c, .slice A' m' c'] ∧ Below w.heap.size w w'
  | .err code off => e = .returned (.tuple #[.agg #[.int .i64 0, .slice none 0 0, .slice none 0 0], .int .i64 0, .int .i64 code, .int .i64 ((k + off : Nat) : Int)]) ∧ Below w.heap.size w w'
theorem byte_eq_true {s : ByteArray} {k : Nat} {c : UInt8} (h : byteAt s k = c) : (((byteAt s k).toNat : Int) == (c.toNat : Int)) = true := by rw [h]; simp
theorem byte_eq_false {s : ByteArray} {k : Nat} {c : UInt8} (h : byteAt s k ≠ c) : (((byteAt s k).toNat : Int) == (c.toNat : Int)) = false := by
  rw [beq_eq_false_iff_ne]; intro e; exact h (UInt8.toNat_inj.1 (by omega))
theorem byte_ne_true {s : ByteArray} {k : Nat} {c : UInt8} (h : byteAt s k ≠ c) : (((byteAt s k).toNat : Int) != (c.toNat : Int)) = true := by
  rw [bne_iff_ne]; intro e; exact h (UInt8.toNat_inj.1 (by omega))
theorem byte_ne_false {s : ByteArray} {k : Nat} {c : UInt8} (h : byteAt s k = c) : (((byteAt s k).toNat : Int) != (c.toNat : Int)) = false := by rw [h]; simp
theorem starts_rest (s : ByteArray) (k : Nat) (c : UInt8) (h : k < s.size) : starts [c] (restL s k) = (byteAt s k == c) := by
  rw [rest_cons s k h, starts_cons, Bool.eq_iff_iff]; simp only [beq_iff_eq]; exact eq_comm
/-- Whether a range goes on at k, as the reference asks it. -/
theorem dashR_at (s : ByteArray) (k : Nat) : dashR (restL s k) = (decide (k + 1 < s.size) && (byteAt s k == 45) && !(byteAt s (k + 1) == 93)) := by
  by_cases h : k + 1 < s.size
  · rw [rest_cons s k (by omega), rest_cons s (k + 1) h]
    simp only [dashR, dashB, h, decide_true, Bool.true_and, List.length_cons, starts_cons]
    have h2 : decide (2 ≤ (restL s (k + 1 + 1)).length + 1 + 1) = true := by simp
    rw [h2, Bool.true_and]
    have h3 : starts [45, 93] (byteAt s k :: byteAt s (k + 1) :: restL s (k + 1 + 1)) = ((45 == byteAt s k) && (93 == byteAt s (k + 1))) := by simp [starts, List.isPrefixOf]
    rw [h3, show (45 == byteAt s k) = (byteAt s k == 45) from Bool.eq_iff_iff.2 ⟨fun h => by rw [beq_iff_eq] at h ⊢; exact h.symm, fun h => by rw [beq_iff_eq] at h ⊢; exact h.symm⟩,
      show (93 == byteAt s (k + 1)) = (byteAt s (k + 1) == 93) from Bool.eq_iff_iff.2 ⟨fun h => by rw [beq_iff_eq] at h ⊢; exact h.symm, fun h => by rw [beq_iff_eq] at h ⊢; exact h.symm⟩]
    cases (byteAt s k == 45) <;> cases (byteAt s (k + 1) == 93) <;> rfl
  · have h2 : ¬ 2 ≤ (restL s k).length := by rw [rest_len]; omega
    simp [dashR, h, h2]
theorem class_ways (s : ByteArray) (j : Nat) (_ : j ≤ s.size) :
    (∃ k1, k1 = j + 1 ∧ j < s.size ∧ byteAt s j = 33 ∧ classP letterG 33 (restL s j) = itemsPr true (k1 - j) (itemsF letterG true (restL s k1))) ∨
    (∃ k1, k1 = j ∧ j < s.size ∧ byteAt s j ≠ 33 ∧ classP letterG 33 (restL s j) = itemsPr false (k1 - j) (itemsF letterG true (restL s k1))) ∨
    (∃ k1, k1 = j ∧ s.size ≤ j ∧ classP letterG 33 (restL s j) = itemsPr false (k1 - j) (itemsF letterG true (restL s k1))) := by
  rcases Nat.lt_or_ge j s.size with h | h
  · by_cases hb : byteAt s j = 33
    · left
      refine ⟨j + 1, rfl, h, hb, ?_⟩
      unfold classP
      rw [if_pos (by rw [starts_rest s j 33 h]; simp [hb]), rest_drop]
      cases itemsF letterG true (restL s (j + 1)) <;> simp [itemsPr]
    · right; left
      refine ⟨j, rfl, h, hb, ?_⟩
      unfold classP
      rw [if_neg (by rw [starts_rest s j 33 h]; simp [hb])]
      cases itemsF letterG true (restL s j) <;> simp [itemsPr]
  · right; right
    refine ⟨j, rfl, h, ?_⟩
    unfold classP
    rw [if_neg (by rw [rest_nil s j h, starts_nil]; simp)]
    cases itemsF letterG true (restL s j) <;> simp [itemsPr]
theorem zero_store {w wr : World} {g : Nat} (_ : Blk wr g 26 #[.int .i64 0, .slice none 0 0, .slice none 0 0]) (hb : Below w.heap.size w wr) (hg : w.heap.size ≤ g) :
    Below w.heap.size w (((wr.setCell ⟨g, 0, none⟩ (.int .i64 0)).setCell ⟨g, 1, none⟩ (.slice none 0 0)).setCell ⟨g, 2, none⟩ (.slice none 0 0)) :=
  ((hb.setCell (p := ⟨g, 0, none⟩) hg _).setCell (p := ⟨g, 1, none⟩) hg _).setCell (p := ⟨g, 2, none⟩) hg _

end Go.Proofs.Ytjnhmcgjeljcmaa
namespace Go.Proofs.Ytjnhmcgjeljcmaa
open Go.RowKit
set_option maxHeartbeats 2000000 in
set_option maxRecDepth 100000 in
theorem rclass_neg (k k1 : Nat) (s : ByteArray) (w : World) (_ : k < s.size) (hs : s.size ≤ 256) (hk1 : k1 = k + 1 + 1) (hjl : k + 1 < s.size) (hjb : byteAt s (k + 1) = 33) (hcl : classP letterG 33 (restL s (k + 1)) = itemsPr true (k1 - (k + 1)) (itemsF letterG true (restL s k1))) :
    Calls Try.prog 65 #[.string s, .int .i64 (k : Nat)] w (CRes w (k + 1) (classP letterG 33 (restL s (k + 1)))) := by
  obtain ⟨i0, hi0, hz0, hz1, hz2⟩ := info_parts rgInfo
  have t1 : ((k : Int) + 1) < (s.size : Int) := by omega
  have t2 := byteAt_eq s (k + 1) hjl
  have t3 : (((byteAt s (k + 1)).toNat : Int) == 33) = true := byte_eq_true hjb
  have t4 : ((k : Int) + 1).toNat = k + 1 := by omega
  have HS := Lib.hid (show (k1 : Int) = (k : Int) + 1 + 1 by omega)
  have b1 : k + 1 ≤ k1 ∧ k1 ≤ s.size := by omega
  rw [hcl]
  generalize hR : itemsF letterG true (restL s k1) = R
  have HR := Lib.hid hR
  clear hR hcl hk1 hjb
  go_enter Try.func65, Try.ntmps65
  go_wp2_with fail
  go_loopw [1, 9, 10] (fun vat vrs vf wr => ∃ (k2 : Nat) (acc : List (UInt8 × UInt8)), k1 ≤ k2 ∧ k2 ≤ s.size ∧ acc.length ≤ k2 ∧ vat = .int .i64 k2 ∧ vf = .bool acc.isEmpty ∧ wr.ownsRow (w.heap.size + 1) 37 2 vrs acc.length (rgCells acc) ∧
      Blk wr w.heap.size 26 #[.int .i64 0, .slice none 0 0, .slice none 0 0] ∧ R = Ir.pre acc (k2 - k1) (itemsF letterG acc.isEmpty (restL s k2)) ∧ Below w.heap.size w wr) (fun vat _ _ _ => s.size - (intOf vat).toNat)
  case atStart =>
    refine ⟨k1, [], Nat.le_refl _, b1.2, Nat.zero_le _, by rw [HS.out], rfl, ⟨rfl, Or.inr ⟨w.heap.size + 1, 0, #[], rfl, Nat.le_refl _, heap_alloc_new2 w _ _, Nat.le_refl _, Nat.zero_le _, rfl, rfl⟩⟩, (Blk.new w _ _).alloc _, by rw [Nat.sub_self, Ir.pre_nil]; exact HR.out.symm, ((Below.refl _ w).alloc (Nat.le_refl _) _).alloc (by simp) _⟩
  case round =>
    obtain ⟨k2, acc, h12, h2s, hal, rfl, rfl, hown, hblk, hRR, hbw⟩ := hrel
    have HRR := Lib.hid hRR
    clear hRR
    obtain ⟨ao, cap, hv⟩ := own_form hown
    subst hv
    obtain ⟨p0, p1, p2, z0, z1, z2⟩ := blk3 hblk
    have hB := hbw.size
    have hbl := hblk.lt
    rcases Nat.eq_or_lt_of_le h2s with hend | hlt
    · have HX := Lib.hid (show R = .err 31 (k2 - k1) by rw [HRR.out, itemsF_letterErr (c := 31) (o := 0) (by rw [rest_nil s k2 (by omega), starts_nil]; simp) (by rw [rest_nil s k2 (by omega)]; rfl)]; rfl)
      have e1 : ¬ (k2 : Int) < (s.size : Int) := by omega
      have e2 : (s.size : Int) ≤ (k2 : Int) := by omega
      have HW := Lib.hid (show ((s.size : Nat) : Int) = ((k + 1 + (k1 - (k + 1) + (k2 - k1)) : Nat) : Int) by omega)
      clear hend
      go_wp2
      rw [HX.out]
      refine bodyPost_ret (v := .tuple #[.agg #[.int .i64 0, .slice none 0 0, .slice none 0 0], .int .i64 0, .int .i64 31, .int .i64 ((s.size : Nat) : Int)]) (by simp [results, Try.results65, go_sem, *]) rfl ⟨by rw [HW.out], zero_store hblk hbw (Nat.le_refl _)⟩
    · have hlt' : (k2 : Int) < (s.size : Int) := by omega
      have hbt := byteAt_eq s k2 hlt
      by_cases hclose : acc ≠ [] ∧ byteAt s k2 = 93
      · obtain ⟨hne, h93⟩ := hclose
        have hem : acc.isEmpty = false := by simpa using hne
        have HX := Lib.hid (show R = .ok acc (k2 - k1 + 1) by rw [HRR.out, hem, itemsF_end (by rw [starts_rest s k2 93 hlt]; simp [h93])]; simp [Ir.pre])
        have e3 : (((byteAt s k2).toNat : Int) == 93) = true := byte_eq_true h93
        obtain ⟨A2, cp2, hv2, _, hm2, r2⟩ := rg_of_own hown
        injection hv2 with hv3 _ hv4
        subst hv3 hv4
        have HW := Lib.hid (show ((k2 : Int) + 1) = ((k + 1 + (k1 - (k + 1) + (k2 - k1 + 1)) : Nat) : Int) by omega)
        clear hne h93
        go_wp2_with fail
        refine (rranges_any ao acc.length cap acc true wr (r2.mono fun b hb => hb.2.1) hm2).mono ?_
        rintro e w3 ⟨v3, rfl, o3, b3⟩
        obtain ⟨A3, c3, rfl, _, hm3, r3⟩ := rg_of_own o3
        have hblk3 := hblk.below b3 hbl
        obtain ⟨p0, p1, p2, z0, z1, z2⟩ := blk3 hblk3
        have hb3 := hbw.trans (b3.mono hB)
        have HT := Lib.hid (tree_leaf (k := 1) (c := c3) hm3 r3 0)
        clear r2 r3 o3
        go_wp2
        rw [HX.out]
        refine bodyPost_ret (v := .tuple #[.agg #[.int .i64 1, .slice A3 (rangesL acc true).length c3, .slice none 0 0], .int .i64 ((k2 : Int) + 1), .int .i64 0, .int .i64 0]) (by simp [results, Try.results65, go_sem, *]) rfl ⟨1, 1, A3, _, c3, none, 0, 0, by rw [HW.out], ?_, ?_⟩
        · refine (HT.out.keep (w' := ((w3.setCell ⟨w.heap.size, 0, none⟩ (.int .i64 1)).setCell ⟨w.heap.size, 1, none⟩ (.slice A3 (rangesL acc true).length c3)).setCell ⟨w.heap.size, 2, none⟩ (.slice none 0 0)) fun b hb => ?_).mono fun b hb => ⟨?_, ?_⟩
          · have : b ≠ w.heap.size := by have := hb.1; omega
            rw [Below.heap_setCell _ _ _ _ this, Below.heap_setCell _ _ _ _ this, Below.heap_setCell _ _ _ _ this]
          · have := hb.1; omega
          · simp [World.setCell]; have := hb.2.1; omega
        · exact ((hb3.setCell (p := ⟨w.heap.size, 0, none⟩) (Nat.le_refl _) _).setCell (p := ⟨w.heap.size, 1, none⟩) (Nat.le_refl _) _).setCell (p := ⟨w.heap.size, 2, none⟩) (Nat.le_refl _) _
      · have hst : (!acc.isEmpty && starts [93] (restL s k2)) = false := by
          rw [starts_rest s k2 93 hlt]
          cases hem : acc.isEmpty
          · by_cases h93 : byteAt s k2 = 93
            · exact absurd ⟨by simpa using hem, h93⟩ hclose
            · simp [h93]
          · rfl
        have hgo : byteAt s k2 ≠ 93 ∨ (byteAt s k2 = 93 ∧ acc.isEmpty = true) := by
          by_cases h93 : byteAt s k2 = 93
          · right; refine ⟨h93, ?_⟩
            cases hem : acc.isEmpty
            · exact absurd ⟨by simpa using hem, h93⟩ hclose
            · rfl
          · exact Or.inl h93
        have e3 : (((byteAt s k2).toNat : Int) == 93) = false ∨ ((((byteAt s k2).toNat : Int) == 93) = true ∧ acc.isEmpty = true) := by
          rcases hgo with h | ⟨h, h2⟩
          · exact Or.inl (byte_eq_false h)
          · exact Or.inr ⟨byte_eq_true h, h2⟩
        clear hgo hclose
        cases hlt1 : letterG (restL s k2) with
        | err c o =>
          have hc := letterG_code hlt1
          have ho := letterG_end hlt1
          rw [rest_len] at ho
          subst hc
          have HX := Lib.hid (show R = .err 31 (k2 - k1 + o) by rw [HRR.out, itemsF_letterErr hst hlt1]; rfl)
          have HIT := Lib.hid (fun W => item_err s k2 W hlt hs hlt1)
          have HW := Lib.hid (show ((s.size : Nat) : Int) = ((k + 1 + (k1 - (k + 1) + (k2 - k1 + o)) : Nat) : Int) by omega)
          clear hlt1 hst ho
          rcases e3 with e3 | ⟨e3, hem⟩
          all_goals
            go_wp2_with fail
            refine (HIT.out _).mono ?_
            rintro e w3 ⟨rfl, rfl⟩
            go_wp2
            rw [HX.out]
            refine bodyPost_ret (v := .tuple #[.agg #[.int .i64 0, .slice none 0 0, .slice none 0 0], .int .i64 0, .int .i64 31, .int .i64 ((s.size : Nat) : Int)]) (by simp [results, Try.results65, go_sem, *]) rfl ⟨by rw [HW.out], zero_store hblk hbw (Nat.le_refl _)⟩
        | ok lo n =>
          have hn := (good_letterG _).1 _ _ hlt1
          rw [rest_len] at hn
          obtain ⟨k3, hk3⟩ : ∃ k3, k3 = k2 + n := ⟨_, rfl⟩
          have HIT := Lib.hid (fun W => (show Calls Try.prog 66 #[.string s, .int .i64 (k2 : Nat)] W fun e w' => e = .returned (.tuple #[.int .u8 (lo.toNat : Nat), .int .i64 (k3 : Nat), .bool true]) ∧ W = w' by rw [hk3]; exact item_ok s k2 W hlt hs hlt1))
          have hk3b : k2 < k3 ∧ k3 ≤ s.size := by omega
          have hdr : (restL s k2).drop n = restL s k3 := by rw [rest_drop, hk3]
          have hdr1 : (restL s k2).drop (n + 1) = restL s (k3 + 1) := by rw [rest_drop, hk3]; rfl
          have hda := dashR_at s k3
          cases hd : dashR (restL s k3) with
          | false =>
            have HX := Lib.hid (show R = Ir.pre (acc ++ [(lo, lo)]) (k3 - k1) (itemsF letterG false (restL s k3)) by
              rw [HRR.out, itemsF_noDash hst hlt1 (by rw [hdr]; exact hd), Ir.pre_more, hdr, show k2 - k1 + n = k3 - k1 by omega])
            rw [hd] at hda
            have hways : (¬ ((k3 : Int) + 1 < (s.size : Int))) ∨ (((k3 : Int) + 1 < (s.size : Int)) ∧ byteAt s k3 ≠ 45) ∨ (((k3 : Int) + 1 < (s.size : Int)) ∧ byteAt s k3 = 45 ∧ byteAt s (k3 + 1) = 93) := by
              by_cases h1 : k3 + 1 < s.size
              · right
                by_cases h2 : byteAt s k3 = 45
                · right
                  refine ⟨by omega, h2, ?_⟩
                  simp [h1, h2] at hda
                  exact hda
                · left; exact ⟨by omega, h2⟩
              · left; omega
            clear hk3 hdr hdr1 hda hd hlt1 hst hn
            have hway2 : (¬ ((k3 : Int) + 1 < (s.size : Int))) ∨ (∃ h : k3 < s.size, ((k3 : Int) + 1 < (s.size : Int)) ∧ s[k3] = byteAt s k3 ∧ (((byteAt s k3).toNat : Int) == 45) = false) ∨ (∃ (h : k3 < s.size) (h' : k3 + 1 < s.size), ((k3 : Int) + 1 < (s.size : Int)) ∧ s[k3] = byteAt s k3 ∧ (((byteAt s k3).toNat : Int) == 45) = true ∧ s[k3 + 1] = byteAt s (k3 + 1) ∧ (((byteAt s (k3 + 1)).toNat : Int) != 93) = false) := by
              rcases hways with h | ⟨h1, h2⟩ | ⟨h1, h2, h3⟩
              · exact Or.inl h
              · exact Or.inr (Or.inl ⟨by omega, h1, byteAt_eq s k3 (by omega), byte_eq_false h2⟩)
              · exact Or.inr (Or.inr ⟨by omega, by omega, h1, byteAt_eq s k3 (by omega), byte_eq_true h2, byteAt_eq s (k3 + 1) (by omega), byte_ne_false h3⟩)
            clear hways
            have ht3 : ((k3 : Int) + 1).toNat = k3 + 1 := by omega
            rcases e3 with e3 | ⟨e3, hem⟩ <;> rcases hway2 with g1 | ⟨g0, g1, g2, g3⟩ | ⟨g0, g0', g1, g2, g3, g4, g5⟩
            all_goals
              go_wp2_with fail
              refine (HIT.out _).mono ?_
              rintro e w3 ⟨rfl, rfl⟩
              go_wp2_with (at_builtin; refine wpList_append_lies _ rfl (.tmp 109) (.tmp 113) 23 rfl (w.heap.size + 1) 37 i0 _ 2 2 Try.underlying23 hi0 hz0 hz1 hz2 rfl (by decide) _ _ _ rfl (hown.alloc _) ⟨wr.heap.size, 0, none⟩ 1 1 [.int .u8 (lo.toNat : Nat), .int .u8 (lo.toNat : Nat)] rfl rfl (World.news_of_block (heap_alloc_new wr _)) (two_one _ _) (by decide) (by unfold maxLen; omega) (by omega) (by simp; omega) _ rfl ?_)
              intro g cap2 w4 hown4 hgrow hat hlt4
              have hgr : ∀ j, (Value.slice ao acc.length cap).ownBlock = some j → w.heap.size + 1 ≤ j := fun j hj => (hown.lt j hj).1
              go_wp2
              go_roundw
              case rel =>
                refine ⟨k3, acc ++ [(lo, lo)], by omega, by omega, by simp; omega, rfl, by rw [snoc_empty], ?_, (hblk.alloc _).grown hgrow (fun e => by have := hgr _ e.symm; omega), by rw [HX.out, snoc_empty], (hbw.alloc hB _).grown hgrow (by simp; omega) (fun j hj => by have := hgr j hj; omega)⟩
                rw [rgCells_append, List.length_append]; exact hown4
              case measure => simp [intOf]; omega
          | true =>
            rw [hd] at hda
            have h1 : k3 + 1 < s.size ∧ byteAt s k3 = 45 ∧ byteAt s (k3 + 1) ≠ 93 := by
              by_cases h1 : k3 + 1 < s.size
              · by_cases h2 : byteAt s k3 = 45
                · refine ⟨h1, h2, fun h3 => ?_⟩
                  simp [h1, h2, h3] at hda
                · simp [h1, h2] at hda
              · simp [h1] at hda
            obtain ⟨h1, h2, h3⟩ := h1
            have g0 : k3 < s.size := by omega
            have g1 : (k3 : Int) + 1 < (s.size : Int) := by omega
            have g2 := byteAt_eq s k3 g0
            have g3 : (((byteAt s k3).toNat : Int) == 45) = true := byte_eq_true h2
            have g4 := byteAt_eq s (k3 + 1) h1
            have g5 : (((byteAt s (k3 + 1)).toNat : Int) != 93) = true := byte_ne_true h3
            have ht3 : ((k3 : Int) + 1).toNat = k3 + 1 := by omega
            have hc1 : (((k3 + 1 : Nat)) : Int) = (k3 : Int) + 1 := by omega
            clear hda h2 h3
            cases hlt2 : letterG (restL s (k3 + 1)) with
            | err c o =>
              have hc := letterG_code hlt2
              have ho := letterG_end hlt2
              rw [rest_len] at ho
              subst hc
              have HX := Lib.hid (show R = .err 31 (k2 - k1 + (n + 1 + o)) by rw [HRR.out, itemsF_dashErr hst hlt1 (by rw [hdr]; exact hd) (by rw [hdr1]; exact hlt2)]; rfl)
              have HIT2 := Lib.hid (fun W => (show Calls Try.prog 66 #[.string s, .int .i64 ((k3 : Int) + 1)] W fun e w' => e = .returned (.tuple #[.int .u8 0, .int .i64 0, .bool false]) ∧ W = w' by rw [← hc1]; exact item_err s (k3 + 1) W h1 hs hlt2))
              have HW := Lib.hid (show ((s.size : Nat) : Int) = ((k + 1 + (k1 - (k + 1) + (k2 - k1 + (n + 1 + o))) : Nat) : Int) by omega)
              clear hk3 hdr hdr1 hd hlt1 hst hn ho hlt2 hc1
              rcases e3 with e3 | ⟨e3, hem⟩
              all_goals
                go_wp2_with fail
                refine (HIT.out _).mono ?_
                rintro e w3 ⟨rfl, rfl⟩
                go_wp2_with fail
                refine (HIT2.out _).mono ?_
                rintro e w3 ⟨rfl, rfl⟩
                go_wp2
                rw [HX.out]
                refine bodyPost_ret (v := .tuple #[.agg #[.int .i64 0, .slice none 0 0, .slice none 0 0], .int .i64 0, .int .i64 31, .int .i64 ((s.size : Nat) : Int)]) (by simp [results, Try.results65, go_sem, *]) rfl ⟨by rw [HW.out], zero_store hblk hbw (Nat.le_refl _)⟩
            | ok hi m =>
              have hm := (good_letterG _).1 _ _ hlt2
              rw [rest_len] at hm
              obtain ⟨k4, hk4⟩ : ∃ k4, k4 = k3 + 1 + m := ⟨_, rfl⟩
              have HIT2 := Lib.hid (fun W => (show Calls Try.prog 66 #[.string s, .int .i64 ((k3 : Int) + 1)] W fun e w' => e = .returned (.tuple #[.int .u8 (hi.toNat : Nat), .int .i64 (k4 : Nat), .bool true]) ∧ W = w' by rw [← hc1, hk4]; exact item_ok s (k3 + 1) W h1 hs hlt2))
              have hk4b : k3 < k4 ∧ k4 ≤ s.size := by omega
              by_cases hlh : hi < lo
              · have HX := Lib.hid (show R = .err 32 (k2 - k1 + 0) by rw [HRR.out, itemsF_dashBad hst hlt1 (by rw [hdr]; exact hd) (by rw [hdr1]; exact hlt2) hlh]; rfl)
                have hl' : (hi.toNat : Int) < (lo.toNat : Int) := by have := UInt8.lt_iff_toNat_lt.1 hlh; omega
                have HW := Lib.hid (show ((k2 : Nat) : Int) = ((k + 1 + (k1 - (k + 1) + (k2 - k1 + 0)) : Nat) : Int) by omega)
                clear hk3 hk4 hdr hdr1 hd hlt1 hst hn hlt2 hc1 hlh
                rcases e3 with e3 | ⟨e3, hem⟩
                all_goals
                  go_wp2_with fail
                  refine (HIT.out _).mono ?_
                  rintro e w3 ⟨rfl, rfl⟩
                  go_wp2_with fail
                  refine (HIT2.out _).mono ?_
                  rintro e w3 ⟨rfl, rfl⟩
                  go_wp2
                  rw [HX.out]
                  refine bodyPost_ret (v := .tuple #[.agg #[.int .i64 0, .slice none 0 0, .slice none 0 0], .int .i64 0, .int .i64 32, .int .i64 ((k2 : Nat) : Int)]) (by simp [results, Try.results65, go_sem, *]) rfl ⟨by rw [HW.out], zero_store hblk hbw (Nat.le_refl _)⟩
              · have HX := Lib.hid (show R = Ir.pre (acc ++ [(lo, hi)]) (k4 - k1) (itemsF letterG false (restL s k4)) by
                  rw [HRR.out, itemsF_dashOk hst hlt1 (by rw [hdr]; exact hd) (by rw [hdr1]; exact hlt2) hlh, Ir.pre_more, rest_drop, show k2 + (n + 1 + m) = k4 by omega, show k2 - k1 + (n + 1 + m) = k4 - k1 by omega])
                have hl' : ¬ (hi.toNat : Int) < (lo.toNat : Int) := by
                  have h5 : ¬ hi.toNat < lo.toNat := fun h => hlh (UInt8.lt_iff_toNat_lt.2 h)
                  omega
                clear hk3 hk4 hdr hdr1 hd hlt1 hst hn hlt2 hc1 hlh
                rcases e3 with e3 | ⟨e3, hem⟩
                all_goals
                  go_wp2_with fail
                  refine (HIT.out _).mono ?_
                  rintro e w3 ⟨rfl, rfl⟩
                  go_wp2_with fail
                  refine (HIT2.out _).mono ?_
                  rintro e w3 ⟨rfl, rfl⟩
                  go_wp2_with (at_builtin; refine wpList_append_lies _ rfl (.tmp 109) (.tmp 113) 23 rfl (w.heap.size + 1) 37 i0 _ 2 2 Try.underlying23 hi0 hz0 hz1 hz2 rfl (by decide) _ _ _ rfl (hown.alloc _) ⟨wr.heap.size, 0, none⟩ 1 1 [.int .u8 (lo.toNat : Nat), .int .u8 (hi.toNat : Nat)] rfl rfl (World.news_of_block (heap_alloc_new wr _)) (two_one _ _) (by decide) (by unfold maxLen; omega) (by omega) (by simp; omega) _ rfl ?_)
                  intro g cap2 w4 hown4 hgrow hat hlt4
                  have hgr : ∀ j, (Value.slice ao acc.length cap).ownBlock = some j → w.heap.size + 1 ≤ j := fun j hj => (hown.lt j hj).1
                  go_wp2
                  go_roundw
                  case rel =>
                    refine ⟨k4, acc ++ [(lo, hi)], by omega, by omega, by simp; omega, rfl, by rw [snoc_empty], ?_, (hblk.alloc _).grown hgrow (fun e => by have := hgr _ e.symm; omega), by rw [HX.out, snoc_empty], (hbw.alloc hB _).grown hgrow (by simp; omega) (fun j hj => by have := hgr j hj; omega)⟩
                    rw [rgCells_append, List.length_append]; exact hown4
                  case measure => simp [intOf]; omega
end Go.Proofs.Ytjnhmcgjeljcmaa
