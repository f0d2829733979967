/- bytes.Clone; pack.Split: splitL. -/
import Derived.Test.YtdhiofbimebbkaaDoorSe
namespace Go.Proofs.YtdhiofbimebbkaaDoor
open Go.RowKit

theorem slice_nn (w : World) (ad : Addr) (n c : Nat) : (binOp .eql 30 (.slice (some ad) n c) (.slice none 0 0)).run Tryd.prog w = .ok (.bool false) w := by kernel_rfl
set_option maxHeartbeats 1000000 in
set_option maxRecDepth 100000 in
theorem clone_at {w : World} {ad : Addr} {m c : Nat} {bs : List UInt8} (hb : BytesAt w (some ad) m bs) (hl : m ≤ 1000000000) : Calls Tryd.prog 32 #[.slice (some ad) m c] w (NumPost w bs) := by
  have hbl := hb.1
  have h0 : (w.alloc (.cells #[] 5)).ownsRow w.heap.size 5 1 (.slice (some ⟨w.heap.size, 0, none⟩) 0 0) ([] : List UInt8).length (([] : List UInt8).map u8V) :=
    ⟨rfl, .inr ⟨w.heap.size, 0, #[], rfl, Nat.le_refl _, heap_alloc_new w _, Nat.le_refl _, Nat.zero_le _, rfl, rfl⟩⟩
  have hal : Below w.heap.size w (w.alloc (.cells #[] 5)) := (Below.refl _ w).alloc (Nat.le_refl _) _
  obtain ⟨A', c', w1, hrun, ho, hb1⟩ := put_bytes (c := c) 30 h0 hal.size (hb.below hal) (by simpa using hl)
  rw [show ([] : List UInt8).length + m = m from Nat.zero_add _] at hrun ho
  rw [List.nil_append] at ho
  have HRUN := Lib.hid hrun
  have HO := Lib.hid ho
  have HB := Lib.hid (hal.trans hb1)
  have hnn := slice_nn w ad m c
  clear hb h0 hal hrun ho hb1
  go_enter Tryd.func32, Tryd.ntmps32
  go_wp2_with (at_builtin; refine wpList_append_run rfl (.tmp 5) (.tmp 6) 30 rfl _ _ _ rfl rfl HRUN.out ?_)
  go_ret
  exact ⟨_, rfl, HO.out, HB.out⟩
/-- What Split answers. -/
def SplitPost (w : World) (r : Option (List UInt8 × Nat)) (e : Ending) (w' : World) : Prop := match r with
  | none => e = .returned (.tuple #[.slice none 0 0, .int .i64 0, .bool false]) ∧ Below w.heap.size w w'
  | some (q, k) => ∃ A c, e = .returned (.tuple #[.slice A q.length c, .int .i64 (k : Nat), .bool true]) ∧ BytesAt w' A q.length q ∧ Below w.heap.size w w' ∧ q.length ≤ c ∧ c ≤ maxLen ∧ ∀ b o, A = some ⟨b, o, none⟩ → w.heap.size ≤ b
theorem SplitPost.no {w w' : World} {r : Option (List UInt8 × Nat)} {e : Ending} (h : r = none) (he : e = .returned (.tuple #[.slice none 0 0, .int .i64 0, .bool false])) (hb : Below w.heap.size w w') : SplitPost w r e w' := by subst h; exact ⟨he, hb⟩
theorem SplitPost.yes {w w' : World} {r : Option (List UInt8 × Nat)} {q : List UInt8} {k : Nat} {e : Ending} {A : Option Addr} {c : Nat} (h : r = some (q, k)) (he : e = .returned (.tuple #[.slice A q.length c, .int .i64 (k : Nat), .bool true])) (hy : BytesAt w' A q.length q) (hb : Below w.heap.size w w') (hq : q.length ≤ c ∧ c ≤ maxLen ∧ ∀ b o, A = some ⟨b, o, none⟩ → w.heap.size ≤ b) : SplitPost w r e w' := by subst h; exact ⟨A, c, he, hy, hb, hq⟩
theorem drewN_below (w : World) (n : Nat) : Below w.heap.size w (w.drewN n) := ⟨rfl, rfl, rfl, Nat.le_refl _, fun _ _ => rfl⟩
theorem BytesAt.from {w : World} {b o m c k : Nat} {bs : List UInt8} (h : BytesAt w (some ⟨b, o, none⟩) m bs) (hk : k ≤ m) (hmc : m ≤ c) : BytesAt w (if c = k then some ⟨b, o, none⟩ else some ⟨b, o + k, none⟩) (m - k) (bs.drop k) := by
  have hbl := h.1
  split
  · exact ⟨by rw [List.length_drop]; omega, fun h => by omega⟩
  · exact h.drop_ hk
set_option maxHeartbeats 2000000 in
set_option maxRecDepth 100000 in
theorem split_far {w : World} {b o : Nat} {m c n sp w4 : Nat} {pl : List UInt8} {r : Option (List UInt8 × Nat)} (hmc : m ≤ c) (hm : m ≤ 1000000000) (hn1 : n ≤ 1073741824) (hn2 : n + 8 ≤ m) (hc8 : c ≠ 8)
    (C1 : Calls Tryd.prog 53 #[.slice (some ⟨b, o, none⟩) m c] w fun e w' => e = .returned (.int .u32 (n : Nat)) ∧ ∃ q, w' = w.drewN q)
    (CS0 : ∀ (w1 : World), Below w.heap.size w w1 → ∀ cc : Nat, Calls Tryd.prog 47 #[.slice (some ⟨b, o + 8, none⟩) n cc] w1 fun e w' => e = .returned (.int .u32 (sp : Nat)) ∧ w1 = w')
    (CW0 : ∀ (w1 : World), Below w.heap.size w w1 → ∀ cc : Nat, Calls Tryd.prog 53 #[.slice (some ⟨b, o + 4, none⟩) (m - 4) cc] w1 fun e w' => e = .returned (.int .u32 (w4 : Nat)) ∧ ∃ q, w' = w1.drewN q)
    (CK0 : ∀ (w1 : World), Below w.heap.size w w1 → ∀ cc : Nat, Calls Tryd.prog 32 #[.slice (some ⟨b, o + 8, none⟩) n cc] w1 (NumPost w1 pl))
    (hpl : pl.length = n) (hr : r = if sp = w4 then some (pl, n + 8) else none) :
    Calls Tryd.prog 41 #[.slice (some ⟨b, o, none⟩) m c] w (SplitPost w r) := by
  have h8' : ¬ (m : Int) < 8 := by omega
  have hbig' : ¬ (1073741824 : Int) < (n : Int) := by omega
  have hlen' : ¬ (m : Int) - 8 < (n : Int) := by omega
  have e1 : (8 : Int) + (n : Int) ≤ (c : Int) := by omega
  have e2 : (8 : Int) ≤ (8 : Int) + (n : Int) := by omega
  have hc4 : ¬ c = 4 := by omega
  have H1 := Lib.hid C1
  have HS := Lib.hid CS0
  have HW4 := Lib.hid CW0
  have HK := Lib.hid CK0
  have HP := Lib.hid hpl
  clear C1 CS0 CW0 CK0 hpl
  rcases (by omega : sp = w4 ∨ sp ≠ w4) with hsw | hsw
  · subst hsw
    rw [if_pos rfl] at hr
    have HR := Lib.hid hr
    clear hr
    go_enter Tryd.func41, Tryd.ntmps41
    go_wp2_with fail
    refine H1.out.mono ?_
    rintro e w1 ⟨rfl, q1, hq1⟩
    have HW := Lib.hid (show Below w.heap.size w w1 by rw [hq1]; exact drewN_below _ _)
    have CS := Lib.hid (fun (k cc : Nat) => HS.out (w1.drewN k) (HW.out.trans ((drewN_below _ k).mono HW.out.size)) cc)
    have CW := Lib.hid (fun (k cc : Nat) => HW4.out (w1.drewN k) (HW.out.trans ((drewN_below _ k).mono HW.out.size)) cc)
    have CK := Lib.hid (fun (k cc : Nat) => HK.out (w1.drewN k) (HW.out.trans ((drewN_below _ k).mono HW.out.size)) cc)
    clear hq1 H1 HS HW4 HK
    go_wp2_with fail
    go_quiet ((first | (go_at_call 47; exact Calls.quiet_of_same ((CS.out _ _).mono fun _ _ h => ⟨h.1, h.2.symm⟩)) | (go_at_call 53; exact Calls.quiet_of (CW.out _ _))))
    go_wp2_with fail
    refine (CK.out _ _).mono ?_
    rintro e w2 ⟨v, rfl, ho, hb⟩
    obtain ⟨A2, c2, rfl, hy, hlow⟩ := row_bytes ho
    have HQ := Lib.hid (show pl.length ≤ c2 ∧ c2 ≤ maxLen ∧ ∀ b o, A2 = some ⟨b, o, none⟩ → w.heap.size ≤ b from by
      obtain ⟨A3, c3, e3, hcA, hcB⟩ := row_shape (row_base ho (Nat.zero_le _))
      injection e3 with _ _ e3
      exact ⟨by rw [e3]; exact hcA, by rw [e3]; exact hcB, fun b o e => Nat.le_trans (Nat.le_trans HW.out.size ((drewN_below w1 _).size)) (hlow b o e)⟩)
    clear hlow
    have HY := Lib.hid hy
    have HB := Lib.hid (HW.out.trans (((drewN_below w1 _).mono HW.out.size).trans (hb.mono (Nat.le_trans HW.out.size ((drewN_below w1 _).size)))))
    clear ho hb hy CS CW CK
    go_wp2
    go_ret3
    exact SplitPost.yes (c := c2) HR.out (by simp; omega) HY.out HB.out HQ.out
  · have hne : ¬ (sp : Int) = (w4 : Int) := by omega
    rw [if_neg hsw] at hr
    have HR := Lib.hid hr
    clear hr
    go_enter Tryd.func41, Tryd.ntmps41
    go_wp2_with fail
    refine H1.out.mono ?_
    rintro e w1 ⟨rfl, q1, hq1⟩
    have HW := Lib.hid (show Below w.heap.size w w1 by rw [hq1]; exact drewN_below _ _)
    have CS := Lib.hid (fun (k cc : Nat) => HS.out (w1.drewN k) (HW.out.trans ((drewN_below _ k).mono HW.out.size)) cc)
    have CW := Lib.hid (fun (k cc : Nat) => HW4.out (w1.drewN k) (HW.out.trans ((drewN_below _ k).mono HW.out.size)) cc)
    clear hq1 H1 HS HW4 HK
    go_wp2_with fail
    go_quiet ((first | (go_at_call 47; exact Calls.quiet_of_same ((CS.out _ _).mono fun _ _ h => ⟨h.1, h.2.symm⟩)) | (go_at_call 53; exact Calls.quiet_of (CW.out _ _))))
    go_wp2
    go_ret3
    exact SplitPost.no HR.out rfl (HW.out.trans ((drewN_below w1 _).mono HW.out.size))
set_option maxHeartbeats 2000000 in
set_option maxRecDepth 100000 in
theorem split_near {w : World} {b o : Nat} {m c n sp w4 : Nat} {pl : List UInt8} {r : Option (List UInt8 × Nat)} (hmc : m ≤ c) (hm : m ≤ 1000000000) (hn1 : n ≤ 1073741824) (hn2 : n + 8 ≤ m) (hc8 : c = 8)
    (C1 : Calls Tryd.prog 53 #[.slice (some ⟨b, o, none⟩) m c] w fun e w' => e = .returned (.int .u32 (n : Nat)) ∧ ∃ q, w' = w.drewN q)
    (CS0 : ∀ (w1 : World), Below w.heap.size w w1 → ∀ cc : Nat, Calls Tryd.prog 47 #[.slice (some ⟨b, o, none⟩) n cc] w1 fun e w' => e = .returned (.int .u32 (sp : Nat)) ∧ w1 = w')
    (CW0 : ∀ (w1 : World), Below w.heap.size w w1 → ∀ cc : Nat, Calls Tryd.prog 53 #[.slice (some ⟨b, o + 4, none⟩) (m - 4) cc] w1 fun e w' => e = .returned (.int .u32 (w4 : Nat)) ∧ ∃ q, w' = w1.drewN q)
    (CK0 : ∀ (w1 : World), Below w.heap.size w w1 → ∀ cc : Nat, Calls Tryd.prog 32 #[.slice (some ⟨b, o, none⟩) n cc] w1 (NumPost w1 pl))
    (hpl : pl.length = n) (hr : r = if sp = w4 then some (pl, n + 8) else none) :
    Calls Tryd.prog 41 #[.slice (some ⟨b, o, none⟩) m c] w (SplitPost w r) := by
  have h8' : ¬ (m : Int) < 8 := by omega
  have hbig' : ¬ (1073741824 : Int) < (n : Int) := by omega
  have hlen' : ¬ (m : Int) - 8 < (n : Int) := by omega
  have e1 : (8 : Int) + (n : Int) ≤ (c : Int) := by omega
  have e2 : (8 : Int) ≤ (8 : Int) + (n : Int) := by omega
  have hc4 : ¬ c = 4 := by omega
  have H1 := Lib.hid C1
  have HS := Lib.hid CS0
  have HW4 := Lib.hid CW0
  have HK := Lib.hid CK0
  have HP := Lib.hid hpl
  clear C1 CS0 CW0 CK0 hpl
  subst hc8
  rcases (by omega : sp = w4 ∨ sp ≠ w4) with hsw | hsw
  · subst hsw
    rw [if_pos rfl] at hr
    have HR := Lib.hid hr
    clear hr
    go_enter Tryd.func41, Tryd.ntmps41
    go_wp2_with fail
    refine H1.out.mono ?_
    rintro e w1 ⟨rfl, q1, hq1⟩
    have HW := Lib.hid (show Below w.heap.size w w1 by rw [hq1]; exact drewN_below _ _)
    have CS := Lib.hid (fun (k cc : Nat) => HS.out (w1.drewN k) (HW.out.trans ((drewN_below _ k).mono HW.out.size)) cc)
    have CW := Lib.hid (fun (k cc : Nat) => HW4.out (w1.drewN k) (HW.out.trans ((drewN_below _ k).mono HW.out.size)) cc)
    have CK := Lib.hid (fun (k cc : Nat) => HK.out (w1.drewN k) (HW.out.trans ((drewN_below _ k).mono HW.out.size)) cc)
    clear hq1 H1 HS HW4 HK
    go_wp2_with fail
    go_quiet ((first | (go_at_call 47; exact Calls.quiet_of_same ((CS.out _ _).mono fun _ _ h => ⟨h.1, h.2.symm⟩)) | (go_at_call 53; exact Calls.quiet_of (CW.out _ _))))
    go_wp2_with fail
    refine (CK.out _ _).mono ?_
    rintro e w2 ⟨v, rfl, ho, hb⟩
    obtain ⟨A2, c2, rfl, hy, hlow⟩ := row_bytes ho
    have HQ := Lib.hid (show pl.length ≤ c2 ∧ c2 ≤ maxLen ∧ ∀ b o, A2 = some ⟨b, o, none⟩ → w.heap.size ≤ b from by
      obtain ⟨A3, c3, e3, hcA, hcB⟩ := row_shape (row_base ho (Nat.zero_le _))
      injection e3 with _ _ e3
      exact ⟨by rw [e3]; exact hcA, by rw [e3]; exact hcB, fun b o e => Nat.le_trans (Nat.le_trans HW.out.size ((drewN_below w1 _).size)) (hlow b o e)⟩)
    clear hlow
    have HY := Lib.hid hy
    have HB := Lib.hid (HW.out.trans (((drewN_below w1 _).mono HW.out.size).trans (hb.mono (Nat.le_trans HW.out.size ((drewN_below w1 _).size)))))
    clear ho hb hy CS CW CK
    go_wp2
    go_ret3
    exact SplitPost.yes (c := c2) HR.out (by simp; omega) HY.out HB.out HQ.out
  · have hne : ¬ (sp : Int) = (w4 : Int) := by omega
    rw [if_neg hsw] at hr
    have HR := Lib.hid hr
    clear hr
    go_enter Tryd.func41, Tryd.ntmps41
    go_wp2_with fail
    refine H1.out.mono ?_
    rintro e w1 ⟨rfl, q1, hq1⟩
    have HW := Lib.hid (show Below w.heap.size w w1 by rw [hq1]; exact drewN_below _ _)
    have CS := Lib.hid (fun (k cc : Nat) => HS.out (w1.drewN k) (HW.out.trans ((drewN_below _ k).mono HW.out.size)) cc)
    have CW := Lib.hid (fun (k cc : Nat) => HW4.out (w1.drewN k) (HW.out.trans ((drewN_below _ k).mono HW.out.size)) cc)
    clear hq1 H1 HS HW4 HK
    go_wp2_with fail
    go_quiet ((first | (go_at_call 47; exact Calls.quiet_of_same ((CS.out _ _).mono fun _ _ h => ⟨h.1, h.2.symm⟩)) | (go_at_call 53; exact Calls.quiet_of (CW.out _ _))))
    go_wp2
    go_ret3
    exact SplitPost.no HR.out rfl (HW.out.trans ((drewN_below w1 _).mono HW.out.size))
set_option maxHeartbeats 2000000 in
set_option maxRecDepth 100000 in
theorem split_any {w : World} {A : Option Addr} {m c : Nat} {bs : List UInt8} (hb : BytesAt w A m bs) (hmc : m ≤ c) (hm : m ≤ 1000000000) (ht : TabAt w) :
    Calls Tryd.prog 41 #[.slice A m c] w (SplitPost w (splitL bs)) := by
  have hbl := hb.1
  by_cases h8 : m < 8
  · have h8' : (m : Int) < 8 := by omega
    have hs : splitL bs = none := by unfold splitL; rw [if_pos (by omega)]
    rw [hs]
    clear hs
    go_enter Tryd.func41, Tryd.ntmps41
    go_wp2
    go_ret3
    exact ⟨rfl, Below.refl _ _⟩
  · have h8' : ¬ (m : Int) < 8 := by omega
    have C1 := Lib.hid (word_any (c := c) hb (by unfold maxLen; omega) (by omega))
    have hwl := wordL_lt bs
    obtain ⟨n, hn⟩ : ∃ n, n = wordL bs := ⟨_, rfl⟩
    rw [← hn] at C1 hwl
    have hs : splitL bs = if 1073741824 < n ∨ bs.length < n + 8 then none else if sumL ((bs.drop 8).take n) = wordL (bs.drop 4) then some ((bs.drop 8).take n, n + 8) else none := by
      unfold splitL; rw [if_neg (by omega), ← hn]
    have HS := Lib.hid hs
    have HB := Lib.hid hb
    have HT := Lib.hid ht
    clear hs hn hb ht
    by_cases hbig : 1073741824 < n
    · have hbig' : (1073741824 : Int) < (n : Int) := by omega
      have HN := Lib.hid (show splitL bs = none by rw [HS.out, if_pos (.inl hbig)])
      go_enter Tryd.func41, Tryd.ntmps41
      go_wp2_with fail
      refine C1.out.mono ?_
      rintro e w1 ⟨rfl, q1, rfl⟩
      go_wp2
      go_ret3
      exact SplitPost.no HN.out rfl (drewN_below _ _)
    · have hbig' : ¬ (1073741824 : Int) < (n : Int) := by omega
      by_cases hlen : m < n + 8
      · have hlen' : (m : Int) - 8 < (n : Int) := by omega
        have HN := Lib.hid (show splitL bs = none by rw [HS.out, if_pos (.inr (by omega))])
        go_enter Tryd.func41, Tryd.ntmps41
        go_wp2_with fail
        refine C1.out.mono ?_
        rintro e w1 ⟨rfl, q1, rfl⟩
        go_wp2
        go_ret3
        exact SplitPost.no HN.out rfl (drewN_below _ _)
      · obtain ⟨b, o, rfl, hbw, _⟩ := HB.out.2 (by omega)
        have hR := HS.out
        rw [if_neg (by omega)] at hR
        have hpn : ((bs.drop 8).take n).length = n := by rw [List.length_take, List.length_drop]; omega
        have Y4 := fun (w1 : World) (h : Below w.heap.size w w1) => (HB.out.below h).from (k := 4) (c := c) (by omega) hmc
        rw [if_neg (show ¬ c = 4 by omega)] at Y4
        have Y8 := fun (w1 : World) (h : Below w.heap.size w w1) => ((HB.out.below h).from (k := 8) (c := c) (by omega) hmc).cut (k := n) (by omega)
        rcases (by omega : c = 8 ∨ c ≠ 8) with hc8 | hc8
        · rw [if_pos hc8] at Y8
          exact split_near hmc hm (by omega) (by omega) hc8 C1.out (fun w1 h cc => sum_any (Y8 w1 h) (by unfold maxLen; omega) (HT.out.below h)) (fun w1 h cc => word_any (Y4 w1 h) (by unfold maxLen; omega) (by omega)) (fun w1 h cc => clone_at (Y8 w1 h) (by omega)) hpn hR
        · rw [if_neg hc8] at Y8
          exact split_far hmc hm (by omega) (by omega) hc8 C1.out (fun w1 h cc => sum_any (Y8 w1 h) (by unfold maxLen; omega) (HT.out.below h)) (fun w1 h cc => word_any (Y4 w1 h) (by unfold maxLen; omega) (by omega)) (fun w1 h cc => clone_at (Y8 w1 h) (by omega)) hpn hR
end Go.Proofs.YtdhiofbimebbkaaDoor
