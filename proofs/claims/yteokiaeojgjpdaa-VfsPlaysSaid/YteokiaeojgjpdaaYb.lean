/- The document's own files in memory: a row of them; Find, Used, named. -/
import Derived.Test.YteokiaeojgjpdaaYa
namespace Go.Proofs.Yteokiaeojgjpdaa
open Go.RowKit Go.Maps

/-- A file of the document's: its name, its bytes, how many are safe; the slice that holds its bytes. -/
structure FR where
  nm : List UInt8
  bs : List UInt8
  sf : Nat
  B : Option Addr
  c : Nat
def FR.t (f : FR) : T3 := (f.nm, f.bs, f.sf)
def FR.cells (f : FR) : List Value := [.string ⟨f.nm.toArray⟩, .slice f.B f.bs.length f.c, .int .i64 (f.sf : Nat)]
def FOk (w : World) (Y : Nat → Prop) (f : FR) : Prop := BytesAt w f.B f.bs.length f.bs ∧ (f.bs.length ≤ f.c ∧ (f.B = none → f.c = 0)) ∧ f.sf ≤ f.bs.length ∧ f.nm.length ≤ maxLen ∧ ∀ b o, 0 < f.bs.length → f.B = some ⟨b, o, none⟩ → Y b
/-- The document's files in memory, in blocks of Y. -/
def RefAt (w : World) (Y : Nat → Prop) (A : Option Addr) (n : Nat) (fs : List FR) : Prop :=
  fs.length = n ∧ (∀ f ∈ fs, FOk w Y f) ∧ (0 < n → ∃ b o, A = some ⟨b, o, none⟩ ∧ Y b ∧ b < w.heap.size ∧ ∀ i f, fs[i]? = some f →
    w.cell? ⟨b, o + i * 3, none⟩ = some (.string ⟨f.nm.toArray⟩) ∧ w.cell? ⟨b, o + i * 3 + 1, none⟩ = some (.slice f.B f.bs.length f.c) ∧ w.cell? ⟨b, o + i * 3 + 2, none⟩ = some (.int .i64 (f.sf : Nat)))
section
variable {w w' : World} {Y Z : Nat → Prop} {A : Option Addr} {n : Nat} {fs : List FR} {f : FR}
theorem FOk.mono (h : FOk w Y f) (hYZ : ∀ b, Y b → Z b) : FOk w Z f := ⟨h.1, h.2.1, h.2.2.1, h.2.2.2.1, fun b o hm e => hYZ b (h.2.2.2.2 b o hm e)⟩
theorem FOk.keep (h : FOk w Y f) (hk : ∀ b, Y b → w'.heap[b]? = w.heap[b]?) (hs : w.heap.size ≤ w'.heap.size) : FOk w' Y f :=
  ⟨h.1.keep (fun hm b o e _ => hk b (h.2.2.2.2 b o hm e)) hs, h.2.1, h.2.2.1, h.2.2.2.1, h.2.2.2.2⟩
theorem RefAt.mono (h : RefAt w Y A n fs) (hYZ : ∀ b, Y b → Z b) : RefAt w Z A n fs :=
  ⟨h.1, fun f hf => (h.2.1 f hf).mono hYZ, fun hn => by obtain ⟨b, o, e, hy, hl, hc⟩ := h.2.2 hn; exact ⟨b, o, e, hYZ b hy, hl, hc⟩⟩
theorem RefAt.keep (h : RefAt w Y A n fs) (hk : ∀ b, Y b → w'.heap[b]? = w.heap[b]?) (hs : w.heap.size ≤ w'.heap.size) : RefAt w' Y A n fs :=
  ⟨h.1, fun f hf => (h.2.1 f hf).keep hk hs, fun hn => by
    obtain ⟨b, o, e, hy, hl, hc⟩ := h.2.2 hn
    refine ⟨b, o, e, hy, Nat.lt_of_lt_of_le hl hs, fun i f hi => ?_⟩
    obtain ⟨h0, h1, h2⟩ := hc i f hi
    exact ⟨(World.cell?_of_block (a := ⟨b, o + i * 3, none⟩) (hk b hy)).trans h0, (World.cell?_of_block (a := ⟨b, o + i * 3 + 1, none⟩) (hk b hy)).trans h1, (World.cell?_of_block (a := ⟨b, o + i * 3 + 2, none⟩) (hk b hy)).trans h2⟩⟩
/-- All blocks lie below a size. -/
def Low (N : Nat) (Y : Nat → Prop) : Prop := ∀ b, Y b → b < N
theorem RefAt.below (h : RefAt w Y A n fs) (hY : Low w.heap.size Y) (hb : Below w.heap.size w w') : RefAt w' Y A n fs := h.keep (fun b hy => hb.block b (hY b hy)) hb.size
theorem FOk.below (h : FOk w Y f) (hY : Low w.heap.size Y) (hb : Below w.heap.size w w') : FOk w' Y f := h.keep (fun b hy => hb.block b (hY b hy)) hb.size
theorem RefAt.nil (w : World) (Y : Nat → Prop) (A : Option Addr) : RefAt w Y A 0 [] := ⟨rfl, (fun f hf => nomatch hf), fun h => by omega⟩
end
theorem str_beq' (a b : ByteArray) : (a.toList == b.toList) = decide (a = b) := by
  rw [ByteArray.toList_eq, ByteArray.toList_eq, Bool.eq_iff_iff, beq_iff_eq, decide_eq_true_eq]
  exact ⟨fun h => ByteArray.ext (Array.toList_inj.1 h), fun h => by rw [h]⟩
theorem str_of {l : List UInt8} {s : ByteArray} (h : l = s.data.toList) : (⟨l.toArray⟩ : ByteArray) = s := by subst h; rfl
theorem str_ne {l : List UInt8} {s : ByteArray} (h : l ≠ s.data.toList) : ((⟨l.toArray⟩ : ByteArray).toList == s.toList) = false := by
  rw [str_beq']
  simp only [decide_eq_false_iff_not]
  rintro rfl
  exact h rfl
theorem less_before' : ∀ x y : List UInt8, Op.bytesLess x y = bytesBefore x y
  | [], [] => rfl
  | [], _ :: _ => rfl
  | _ :: _, [] => rfl
  | a :: x, b :: y => by simp only [Op.bytesLess, bytesBefore, less_before' x y]
set_option maxHeartbeats 1000000 in
set_option maxRecDepth 100000 in
/-- A file's place. -/
theorem find_any {w : World} {Y : Nat → Prop} {A : Option Addr} {n c : Nat} {fs : List FR} (h : RefAt w Y A n fs) (hY : Low w.heap.size Y) (hn : n ≤ maxLen) (v1 v2 v3 : Value) (s : ByteArray) :
    Calls Try.prog 71 #[.agg #[.slice A n c, v1, v2, v3], .string s] w fun e w' => Below w.heap.size w w' ∧ ((e = .returned (.int .i64 (-1)) ∧ ∀ f ∈ fs, f.nm ≠ s.data.toList) ∨ ∃ i f, fs[i]? = some f ∧ f.nm = s.data.toList ∧ e = .returned (.int .i64 (i : Nat))) := by
  unfold maxLen at hn
  have hfl := h.1
  have H := Lib.hid h
  have BA := Lib.hid ((Below.refl w.heap.size w).alloc (Nat.le_refl _) (.cells #[.slice A n c, v1, v2, v3] 53))
  have k0 : (w.alloc (.cells #[.slice A n c, v1, v2, v3] 53)).cell? ⟨w.heap.size, 0, none⟩ = some (.slice A n c) := (Blk.new w 53 #[.slice A n c, v1, v2, v3]).cell 0
  clear h
  go_enter Try.func71, Try.ntmps71
  go_wp2_with fail
  go_loopw [5] (fun i wr => ∃ j : Nat, j ≤ n ∧ i = .int .i64 (j : Nat) ∧ (∀ (k : Nat) (f : FR), k < j → fs[k]? = some f → f.nm ≠ s.data.toList) ∧ Below (w.heap.size + 1) (w.alloc (.cells #[.slice A n c, v1, v2, v3] 53)) wr) (fun i _ => n - (intOf i).toNat)
  case atStart => exact ⟨0, Nat.zero_le _, rfl, fun k f hk => by omega, Below.refl _ _⟩
  case round =>
    obtain ⟨j, hj, rfl, hnot, hb⟩ := hrel
    have H0 := Lib.hid hb
    have HN := Lib.hid hnot
    have q0 : wr.cell? ⟨w.heap.size, 0, none⟩ = some (.slice A n c) := (hb.cell (p := ⟨w.heap.size, 0, none⟩) (Nat.lt_succ_self _)).trans k0
    have HB := Lib.hid (BA.out.trans (hb.mono (Nat.le_succ _)))
    clear hb hnot
    by_cases hlt : j < n
    · have hlt' : (j : Int) < (n : Int) := by omega
      have hj0 : (0 : Int) ≤ (j : Int) := by omega
      obtain ⟨b, o, rfl, hYb, hbl, hc⟩ := H.out.2.2 (by omega)
      obtain ⟨f, hf⟩ : ∃ f, fs[j]? = some f := ⟨fs[j]'(by omega), List.getElem?_eq_getElem _⟩
      have HF := Lib.hid hf
      have y0 : wr.cell? ⟨b, o + j * 3, none⟩ = some (.string ⟨f.nm.toArray⟩) := by
        rw [HB.out.cell (p := ⟨b, o + j * 3, none⟩) hbl]; exact (hc j f hf).1
      clear hc hf
      by_cases he : f.nm = s.data.toList
      · have FIN := Lib.hid (show ∃ i f, fs[i]? = some f ∧ f.nm = s.data.toList ∧ Ending.returned (.int .i64 (j : Nat)) = .returned (.int .i64 (i : Nat)) from ⟨j, f, HF.out, he, rfl⟩)
        rw [str_of he] at y0
        have hbe : (s.toList == s.toList) = true := by simp
        clear he HF HN
        go_wp2
        go_ret
        exact ⟨HB.out, .inr FIN.out⟩
      · have hs := str_ne he
        have HN2 := Lib.hid (show ∀ (k : Nat) (f : FR), k < j + 1 → fs[k]? = some f → f.nm ≠ s.data.toList by
          intro k f' hk hf'
          rcases Nat.lt_or_ge k j with h1 | h1
          · exact HN.out k f' h1 hf'
          · obtain rfl : k = j := by omega
            rw [HF.out] at hf'
            rw [← Option.some.inj hf']; exact he)
        generalize (⟨f.nm.toArray⟩ : ByteArray) = sa at *
        clear he HF HN
        go_wp2
        go_roundw
        case rel => exact ⟨j + 1, by omega, by go_num, HN2.out, H0.out⟩
        case measure => simp [intOf]; omega
    · have hlt' : ¬ (j : Int) < (n : Int) := by omega
      have FIN := Lib.hid (show ∀ f ∈ fs, f.nm ≠ s.data.toList by
        intro f hf
        obtain ⟨k, hk⟩ := List.mem_iff_getElem?.1 hf
        exact HN.out k f (by have := (List.getElem?_eq_some_iff.1 hk).1; omega) hk)
      clear HN
      go_wp2
      go_ret
      exact ⟨HB.out, .inl ⟨rfl, FIN.out⟩⟩
set_option maxHeartbeats 1000000 in
set_option maxRecDepth 100000 in
/-- How many bytes all files have. -/
theorem used_any {w : World} {Y : Nat → Prop} {A : Option Addr} {n c : Nat} {fs : List FR} (h : RefAt w Y A n fs) (hn : n ≤ maxLen) (ht : tot (fs.map FR.t) ≤ 1000000000) (v1 v2 v3 : Value) :
    Calls Try.prog 73 #[.agg #[.slice A n c, v1, v2, v3]] w fun e w' => Below w.heap.size w w' ∧ e = .returned (.int .i64 (tot (fs.map FR.t) : Nat)) := by
  unfold maxLen at hn
  have hfl := h.1
  have H := Lib.hid h
  have BA := Lib.hid ((Below.refl w.heap.size w).alloc (Nat.le_refl _) (.cells #[.slice A n c, v1, v2, v3] 53))
  have k0 : (w.alloc (.cells #[.slice A n c, v1, v2, v3] 53)).cell? ⟨w.heap.size, 0, none⟩ = some (.slice A n c) := (Blk.new w 53 #[.slice A n c, v1, v2, v3]).cell 0
  have HT := Lib.hid ht
  clear h ht
  go_enter Try.func73, Try.ntmps73
  go_wp2_with fail
  go_loopw [3, 4] (fun a i wr => ∃ j : Nat, j ≤ n ∧ i = .int .i64 (j : Nat) ∧ a = .int .i64 (tot ((fs.map FR.t).take j) : Nat) ∧ Below (w.heap.size + 1) (w.alloc (.cells #[.slice A n c, v1, v2, v3] 53)) wr) (fun _ i _ => n - (intOf i).toNat)
  case atStart => exact ⟨0, Nat.zero_le _, rfl, rfl, Below.refl _ _⟩
  case round =>
    obtain ⟨j, hj, rfl, rfl, hb⟩ := hrel
    have H0 := Lib.hid hb
    have q0 : wr.cell? ⟨w.heap.size, 0, none⟩ = some (.slice A n c) := (hb.cell (p := ⟨w.heap.size, 0, none⟩) (Nat.lt_succ_self _)).trans k0
    have HB := Lib.hid (BA.out.trans (hb.mono (Nat.le_succ _)))
    clear hb
    by_cases hlt : j < n
    · have hlt' : (j : Int) < (n : Int) := by omega
      have hj0 : (0 : Int) ≤ (j : Int) := by omega
      obtain ⟨b, o, rfl, hYb, hbl, hc⟩ := H.out.2.2 (by omega)
      obtain ⟨f, hf⟩ : ∃ f, fs[j]? = some f := ⟨fs[j]'(by omega), List.getElem?_eq_getElem _⟩
      have y1 : wr.cell? ⟨b, o + j * 3 + 1, none⟩ = some (.slice f.B f.bs.length f.c) := by
        rw [HB.out.cell (p := ⟨b, o + j * 3 + 1, none⟩) hbl]; exact (hc j f hf).2.1
      obtain ⟨a, ha⟩ : ∃ a, a = tot ((fs.map FR.t).take j) := ⟨_, rfl⟩
      have hmj : (fs.map FR.t)[j]? = some f.t := by rw [List.getElem?_map, hf]; rfl
      obtain ⟨e1, e2⟩ := take_succ_at hmj
      have HA := Lib.hid (show tot ((fs.map FR.t).take (j + 1)) = a + f.bs.length by rw [e1, tot_app, ← ha]; simp [tot, FR.t])
      have hle : a + f.bs.length ≤ 1000000000 := by
        have h1 := HT.out
        rw [← List.take_append_drop (j + 1) (fs.map FR.t), tot_app, HA.out] at h1
        omega
      rw [← ha]
      clear ha e1 e2 hmj hc hf
      generalize f.bs.length = fl at *
      go_wp2
      go_roundw
      case rel => exact ⟨j + 1, by omega, by go_num, by rw [HA.out]; go_num, H0.out⟩
      case measure => simp [intOf]; omega
    · have hlt' : ¬ (j : Int) < (n : Int) := by omega
      have FIN := Lib.hid (show (fs.map FR.t).take j = fs.map FR.t from List.take_of_length_le (by rw [List.length_map]; omega))
      rw [FIN.out]
      go_wp2
      go_ret
      exact ⟨HB.out, rfl⟩
set_option maxRecDepth 100000 in
theorem named_any (s : ByteArray) (w : World) (hs : s.size ≤ maxLen) : Calls Try.prog 72 #[.string s] w fun e w' => e = .returned (.bool (decide (0 < s.size ∧ s.size ≤ 40))) ∧ w' = w := by
  unfold maxLen at hs
  rcases (by omega : s.size = 0 ∨ (0 < s.size ∧ s.size ≤ 40) ∨ 40 < s.size) with h | h | h
  · have h1 : ¬ (0 : Int) < (s.size : Int) := by omega
    rw [decide_eq_false (by omega)]
    go_enter Try.func72, Try.ntmps72
    go_wp2
    go_ret
    exact ⟨rfl, rfl⟩
  · have h1 : (0 : Int) < (s.size : Int) := by omega
    have h2 : (s.size : Int) ≤ 40 := by omega
    rw [decide_eq_true h]
    go_enter Try.func72, Try.ntmps72
    go_wp2
    go_ret
    exact ⟨rfl, rfl⟩
  · have h1 : (0 : Int) < (s.size : Int) := by omega
    have h2 : ¬ (s.size : Int) ≤ 40 := by omega
    rw [decide_eq_false (by omega)]
    go_enter Try.func72, Try.ntmps72
    go_wp2
    go_ret
    exact ⟨rfl, rfl⟩
end Go.Proofs.Yteokiaeojgjpdaa
