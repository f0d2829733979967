/- New, Read, Names. -/
import Derived.Test.YtdhiofbimebbkaaDoorVg
import Derived.Test.YtdhiofbimebbkaaDoorIt
namespace Go.Proofs.YtdhiofbimebbkaaDoor
open Go.RowKit Go.Maps Go.Sort

set_option maxRecDepth 100000 in
theorem new_any (room : Int) (w : World) : Calls Tryd.prog 6 #[.int .i64 room] w fun e w' => e = .returned (.pointer (some ⟨w.heap.size + 1, 0, none⟩)) ∧ FsAt w' (w.heap.size + 1) w.heap.size [] (posP room) 0 false ∧ Below w.heap.size w w' ∧ w'.heap.size = w.heap.size + 2 := by
  have hmm := @run_makeMap Tryd.prog
  have HX := Lib.hid (show ∀ n : Nat, FsAt ((w.alloc (.map #[] 0)).alloc (.cells #[.map (some w.heap.size), .int .i64 (n : Nat), .int .i64 0, .bool false] 49)) (w.heap.size + 1) w.heap.size [] n 0 false from fun n =>
    { top := by simpa using Blk.new (w.alloc (.map #[] 0)) 49 #[.map (some w.heap.size), .int .i64 (n : Nat), .int .i64 0, .bool false]
      mp := (World.ownsMap_made w Tryd.prog 9 ptrElem).alloc _
      rise := List.Pairwise.nil
      files := fun f hf => by cases hf
      fbs := fun f hf => by cases hf
      rbs := fun f hf => by cases hf })
  have HB := Lib.hid (fun (o : Obj) => ((Below.refl w.heap.size w).alloc (Nat.le_refl _) (.map #[] 0)).alloc (by simp) o)
  have HE := Lib.hid (show ((posP room : Nat) : Int) = max room 0 by unfold posP; omega)
  go_enter Tryd.func6, Tryd.ntmps6
  go_wp2
  go_ret
  refine ⟨rfl, ?_, HB.out _, by simp⟩
  have := HX.out (posP room)
  rw [HE.out] at this
  exact this

theorem nil_yes (w : World) : (binOp .eql 30 (.slice none 0 0) (.slice none 0 0)).run Tryd.prog w = .ok (.bool true) w := by kernel_rfl
theorem nil_no (w : World) (ad : Addr) (n c : Nat) : (binOp .eql 30 (.slice (some ad) n c) (.slice none 0 0)).run Tryd.prog w = .ok (.bool false) w := by kernel_rfl
set_option maxHeartbeats 1000000 in
set_option maxRecDepth 100000 in
theorem clone_any {w : World} {v : Value} {xs : List UInt8} (h : w.ownsRow 0 5 1 v xs.length (xs.map u8V)) (hl : xs.length ≤ 1000000000) :
    Calls Tryd.prog 32 #[v] w fun e w' => ∃ v', e = .returned v' ∧ w'.ownsRow w.heap.size 5 1 v' xs.length (xs.map u8V) ∧ Below w.heap.size w w' := by
  obtain ⟨A, c, rfl, hby, _⟩ := row_bytes h
  cases A with
  | none =>
    obtain rfl : xs = [] := List.eq_nil_of_length_eq_zero (by
      rcases Nat.eq_zero_or_pos xs.length with h0 | h0
      · exact h0
      · obtain ⟨b, o, e, _⟩ := hby.2 h0; cases e)
    have hc : c = 0 := by
      rcases h.2 with ⟨e, _⟩ | ⟨g, cap, cur, e, _⟩
      · injection e
      · cases e
    subst hc
    show Calls Tryd.prog 32 #[.slice none 0 0] w _
    have hny := nil_yes w
    go_enter Tryd.func32, Tryd.ntmps32
    go_wp2
    go_ret
    exact ⟨_, rfl, ⟨rfl, .inl ⟨rfl, rfl⟩⟩, Below.refl _ _⟩
  | some ad =>
    have h0 : (w.alloc (.cells #[] 5)).ownsRow 0 5 1 (.slice (some ⟨w.heap.size, 0, none⟩) 0 0) ([] : List UInt8).length (([] : List UInt8).map u8V) :=
      ⟨rfl, .inr ⟨w.heap.size, 0, #[], rfl, Nat.zero_le _, heap_alloc_new w _, Nat.le_refl _, Nat.zero_le _, rfl, rfl⟩⟩
    have hby1 : BytesAt (w.alloc (.cells #[] 5)) (some ad) xs.length xs := ⟨hby.1, fun hm => by
      obtain ⟨b, o, e, hlt, hc⟩ := hby.2 hm
      exact ⟨b, o, e, by simp; omega, fun i c hi => (World.cell?_of_block (a := ⟨b, o + i, none⟩) (Below.heap_alloc w _ b hlt)).trans (hc i c hi)⟩⟩
    obtain ⟨A', c', w1, hrun, hown1, hg1, hat⟩ := append_bytes (c := c) 30 h0 hby1 (by simpa using hl)
    rw [show ([] : List UInt8).length + xs.length = xs.length from Nat.zero_add _] at hrun hown1 hat
    have HRUN := Lib.hid hrun
    have HO := Lib.hid (show w1.ownsRow w.heap.size 5 1 (.slice A' xs.length c') xs.length (xs.map u8V) by
      refine row_at hown1 fun r hr => ?_
      rcases hat with h1 | h1
      · rw [h1] at hr
        have : w.heap.size = r := by simpa [Value.ownBlock] using hr
        omega
      · rw [h1] at hr
        injection hr with hr
        simp at hr; omega)
    have HB := Lib.hid (show Below w.heap.size w w1 from ((Below.refl w.heap.size w).alloc (Nat.le_refl _) _).grown hg1 (by simp) (fun j hj => by
      have : w.heap.size = j := by simpa [Value.ownBlock] using hj
      omega))
    clear hrun hown1 hg1 hat hby1 h0 hby h
    have hnn := nil_no w ad xs.length c
    go_enter Tryd.func32, Tryd.ntmps32
    go_wp2_with (at_builtin; refine wpList_append_run rfl (.tmp 5) (.tmp 6) 30 rfl _ _ _ rfl rfl HRUN.out ?_)
    go_ret
    exact ⟨_, rfl, HO.out, HB.out⟩
def readS (nm : List UInt8) (s : Sta) : Int × List UInt8 := if s.down then (70, []) else match vlook nm s.V with | none => (4, []) | some t => (0, t.2.1)
section
variable {w : World} {dp bm free fuse : Nat} {M : List Fl} {down : Bool}
set_option maxHeartbeats 1000000 in
set_option maxRecDepth 100000 in
theorem read_any (h : FsAt w dp bm M free fuse down) (s : ByteArray) (hs : s.size ≤ maxLen) (hl : ∀ f ∈ M, f.bytes.length ≤ 1000000000) :
    Calls Tryd.prog 40 #[.pointer (some ⟨dp, 0, none⟩), .string s] w fun e w' => ∃ v, e = .returned (.tuple #[v, .int .i64 (readS s.data.toList ⟨M.map vw, free, fuse, down⟩).1]) ∧
      w'.ownsRow w.heap.size 5 1 v (readS s.data.toList ⟨M.map vw, free, fuse, down⟩).2.length ((readS s.data.toList ⟨M.map vw, free, fuse, down⟩).2.map u8V) ∧ Below w.heap.size w w' := by
  rcases file_cases h s hs with ⟨f, hlk, hd, hf, hnm, hon, hc⟩ | ⟨cd, hc0, hon, hc⟩
  · have HR := Lib.hid (show readS s.data.toList ⟨M.map vw, free, fuse, down⟩ = (0, f.bytes) by
      unfold readS; simp only [hd, map_look, hlk]; rfl)
    rw [HR.out]
    have hB := (h.files f hf).1
    have b0 : w.cell? ⟨f.fb, 0, none⟩ = some f.v := hB.cell 0
    have HC := Lib.hid (hc w h)
    have HCl := Lib.hid (clone_any (h.files f hf).2.1 (hl f hf))
    obtain ⟨A, c, hv, _⟩ := row_shape (h.files f hf).2.1
    rw [hv] at b0 HCl
    clear hB hlk hd hnm hon hc hl
    go_enter Tryd.func40, Tryd.ntmps40
    go_wp2_with fail
    refine HC.out.mono ?_
    rintro e w' ⟨rfl, rfl⟩
    go_wp2_with fail
    refine HCl.out.mono ?_
    rintro e w' ⟨v', rfl, hO, hBl⟩
    go_wp2
    go_ret2
    exact ⟨v', rfl, hO, hBl⟩
  · have HR := Lib.hid (show readS s.data.toList ⟨M.map vw, free, fuse, down⟩ = (cd, []) by
      have h1 := hon fun t => (0, ⟨M.map vw, free, fuse, down⟩)
      unfold onFile at h1
      unfold readS
      cases down with
      | true => simp at h1 ⊢; exact h1
      | false =>
        simp only [Bool.false_eq_true, if_false] at h1 ⊢
        cases hv : vlook s.data.toList (M.map vw) with
        | none => rw [hv] at h1; simp at h1 ⊢; exact h1
        | some t => rw [hv] at h1; simp at h1; exact absurd h1.symm hc0)
    rw [HR.out]
    have HC := Lib.hid (hc w h)
    have hcb : (cd != 0) = true := by simpa using hc0
    clear hon hc hc0
    go_enter Tryd.func40, Tryd.ntmps40
    go_wp2_with fail
    refine HC.out.mono ?_
    rintro e w' ⟨rfl, rfl⟩
    go_wp2
    go_ret2
    exact ⟨_, rfl, ⟨rfl, .inl ⟨rfl, rfl⟩⟩, Below.refl _ _⟩
set_option maxHeartbeats 1000000 in
set_option maxRecDepth 100000 in
theorem names_any (h : FsAt w dp bm M free fuse down) (hl : M.length ≤ 1000000000) :
    Calls Tryd.prog 28 #[.pointer (some ⟨dp, 0, none⟩)] w fun e w' => ∃ v, e = .returned v ∧ w'.ownsRow w.heap.size 9 1 v M.length ((M.map Fl.name).map encStr) ∧ Below w.heap.size w w' := by
  have c0 : w.cell? ⟨dp, 0, none⟩ = some (.map (some bm)) := h.top.cell 0
  have HK := Lib.hid (keys_any (some bm) w)
  have HS := Lib.hid (sorted_any bm M.length (dOf M) ptrElem w h.mp (by rw [dOf_size]; unfold maxLen; omega) (by rw [dOf_size]; omega))
  go_enter Tryd.func28, Tryd.ntmps28
  go_wp2_with fail
  refine HK.out.mono ?_
  rintro e w' ⟨rfl, rfl⟩
  go_wp2_with fail
  refine HS.out.mono ?_
  rintro e w' ⟨v, ss, rfl, hp, hrow, _, hb⟩
  rw [dOf_keys] at hp
  go_wp2
  go_ret
  refine ⟨v, rfl, ?_, ((Below.refl w.heap.size w).alloc (Nat.le_refl _) _).trans (hb.mono (by simp))⟩
  have h1 := row_base hrow (B' := w.heap.size) (by simp)
  rw [show (ss.mergeSort fun x y => decide (x ≤ y)) = M.map Fl.name from h.rise.sorted hp, show ss.length = M.length by rw [hp.length_eq, List.length_map]] at h1
  exact h1
end
end Go.Proofs.YtdhiofbimebbkaaDoor
