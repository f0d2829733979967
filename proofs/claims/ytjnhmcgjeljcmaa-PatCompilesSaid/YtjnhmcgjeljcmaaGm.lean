/- The document's parser of regular expressions: by depth; Parse. Plain facts: which texts a glob's pieces match; that going back to the last star alone is enough. No program. -/
import Derived.Test.YtjnhmcgjeljcmaaIh
import Derived.Test.YtjnhmcgjeljcmaaGp
namespace Go.Proofs.Ytjnhmcgjeljcmaa
open Go.RowKit

theorem isYA_any (s : ByteArray) (hs : s.size ≤ 256) : ∀ (d k : Nat), k ≤ s.size → s.size - k < d → IsYA (altX d) s k
  | 0, k, hk, h => by omega
  | d + 1, k, hk, h => by
    have hcode : ∀ c o, altX (d + 1) (restL s k) = .err c o → c ≠ 0 := fun c o e => altX_code (d + 1) _ (by rw [rest_len]; omega) c o e
    refine ⟨fun W => yalt_walk (altX d) s k W hk hs (ARun.start d s k) hcode (fun j W' hkj hj => ypiece_any (altX d) s j W' hj hs (fun _ => isYA_any s hs d (j + 1) (by omega) (by omega)) (fun c o e => atomX_code (fun l' hl' c' o' e' => altX_code d l' (by rw [rest_len] at hl'; omega) c' o' e') e)), fun t n e => ?_, hcode⟩
    obtain ⟨h1, h2⟩ := altX_at e
    rw [rest_len] at h1
    refine ⟨by omega, fun hlt => ?_⟩
    rw [rest_drop] at h2
    rw [ystarts_rest s (k + n) 41 hlt, rest_cons s (k + n) hlt] at h2
    simpa using h2
theorem ywhole_any (s : ByteArray) (hs : s.size ≤ 256) (w : World) : Calls Try.prog 68 #[.string s, .agg #[.int .i64 0, .int .i64 0, .int .i64 0]] w (YN w 0 (altX (s.size + 1) (restL s 0))) := by
  have h := (isYA_any s hs (s.size + 1) 0 (Nat.zero_le _) (by omega)).1 w
  exact h
def YPost (w : World) (r : Tr × Int × Nat) (e : Ending) (w' : World) : Prop := TreePost w r e w'
set_option maxHeartbeats 2000000 in
set_option maxRecDepth 100000 in
theorem yparse_big (s : ByteArray) (w : World) (hs : 256 < s.size) : Calls Try.prog 42 #[.string s] w (TreePost w (zeroT, 2, 0)) := by
  have hb' : (256 : Int) < (s.size : Int) := by omega
  go_enter Try.func42, Try.ntmps42
  go_wp2
  refine bodyPost_ret (v := .tuple #[.agg #[.int .i64 0, .slice none 0 0, .slice none 0 0], .int .i64 2, .int .i64 0]) (by simp [results, Try.results42, go_sem]) rfl ⟨1, 0, none, 0, 0, none, 0, 0, rfl, treeAt_zero _ _, ?_⟩
  exact (Below.refl _ w).alloc (Nat.le_refl _) _
set_option maxHeartbeats 2000000 in
set_option maxRecDepth 100000 in
theorem yparse_err (s : ByteArray) (w : World) (hs : s.size ≤ 256) {c : Int} {o : Nat} (hr : altX (s.size + 1) (restL s 0) = .err c o) : Calls Try.prog 42 #[.string s] w (TreePost w (zeroT, c, o)) := by
  have hb' : ¬ (256 : Int) < (s.size : Int) := by omega
  have hcne : c ≠ 0 := altX_code (s.size + 1) _ (by rw [rest_len]; omega) c o hr
  have hcf : (c == 0) = false := by simpa using hcne
  have hct : (c != 0) = true := by simpa using hcne
  have C := Lib.hid (fun W => (show Calls Try.prog 68 #[.string s, .agg #[.int .i64 0, .int .i64 0, .int .i64 0]] W (YN W 0 (.err c o)) by have h := ywhole_any s hs W; rw [hr] at h; exact h))
  clear hr hcne
  go_enter Try.func42, Try.ntmps42
  go_wp2_with fail
  (with_reducible refine (C.out _).mono ?_)
  rintro e w3 ⟨⟨kk, A3, n3, c3, A3', n3', c3', x, rfl⟩, b3⟩
  have hs0 : w.heap.size < w3.heap.size := by have := b3.size; simp at this; omega
  have HN := Lib.hid ((Blk.new w 26 #[.int .i64 0, .slice none 0 0, .slice none 0 0]).below b3 (by simp))
  have HB := Lib.hid (((Below.refl w.heap.size w).alloc (Nat.le_refl _) (.cells #[.int .i64 0, .slice none 0 0, .slice none 0 0] 26)).trans (b3.mono (by simp)))
  clear b3
  obtain ⟨n0, n1, n2, m0, m1, m2⟩ := blk3 HN.out
  go_wp2
  go_region
  go_wp2
  have HN2 := ((((HN.out.set_ 0 (.int .i64 0)).set_ 1 (.slice none 0 0)).set_ 2 (.slice none 0 0)).alloc (.cells #[.int .i64 kk, .slice A3 n3 c3, .slice A3' n3' c3'] 26)).alloc (.cells #[.int .i64 x, .int .i64 c, .int .i64 o] 142)
  clear n0 n1 n2 m0 m1 m2
  obtain ⟨n0, n1, n2, m0, m1, m2⟩ := blk3 HN2
  refine bodyPost_ret (v := .tuple #[.agg #[.int .i64 0, .slice none 0 0, .slice none 0 0], .int .i64 c, .int .i64 (o : Nat)]) (by simp [results, Try.results42, go_sem, n0, n1, n2]) rfl ⟨1, 0, none, 0, 0, none, 0, 0, rfl, treeAt_zero _ _, ?_⟩
  have hb3 := below3 HB.out (p := w.heap.size) (Nat.le_refl _) (.int .i64 0) (.slice none 0 0) (.slice none 0 0)
  exact ((hb3.alloc hb3.size _).alloc (by have := hb3.size; simp [World.setCell] at this ⊢; omega) _).drew
set_option maxHeartbeats 2000000 in
set_option maxRecDepth 100000 in
theorem yparse_end (s : ByteArray) (w : World) (hs : s.size ≤ 256) {t : Tr} (hr : altX (s.size + 1) (restL s 0) = .ok t s.size) : Calls Try.prog 42 #[.string s] w (TreePost w (t, 0, 0)) := by
  have hb' : ¬ (256 : Int) < (s.size : Int) := by omega
  have C := Lib.hid (fun W => (show Calls Try.prog 68 #[.string s, .agg #[.int .i64 0, .int .i64 0, .int .i64 0]] W (YN W 0 (.ok t s.size)) by have h := ywhole_any s hs W; rw [hr] at h; exact h))
  clear hr
  go_enter Try.func42, Try.ntmps42
  go_wp2_with fail
  (with_reducible refine (C.out _).mono ?_)
  rintro e w3 ⟨d3, kk, A3, n3, c3, A3', n3', c3', rfl, ht3, b3⟩
  have hs0 : w.heap.size < w3.heap.size := by have := b3.size; simp at this; omega
  have HN := Lib.hid ((Blk.new w 26 #[.int .i64 0, .slice none 0 0, .slice none 0 0]).below b3 (by simp))
  have HB := Lib.hid (((Below.refl w.heap.size w).alloc (Nat.le_refl _) (.cells #[.int .i64 0, .slice none 0 0, .slice none 0 0] 26)).trans (b3.mono (by simp)))
  have HT := Lib.hid ht3
  clear b3 ht3
  obtain ⟨n0, n1, n2, m0, m1, m2⟩ := blk3 HN.out
  go_wp2
  have HN2 := ((((HN.out.set_ 0 (.int .i64 kk)).set_ 1 (.slice A3 n3 c3)).set_ 2 (.slice A3' n3' c3')).alloc (.cells #[.int .i64 kk, .slice A3 n3 c3, .slice A3' n3' c3'] 26)).alloc (.cells #[.int .i64 (s.size : Nat), .int .i64 0, .int .i64 0] 142)
  clear n0 n1 n2 m0 m1 m2
  obtain ⟨n0, n1, n2, m0, m1, m2⟩ := blk3 HN2
  have hb3 := below3 HB.out (p := w.heap.size) (Nat.le_refl _) (.int .i64 kk) (.slice A3 n3 c3) (.slice A3' n3' c3')
  refine bodyPost_ret (v := .tuple #[.agg #[.int .i64 kk, .slice A3 n3 c3, .slice A3' n3' c3'], .int .i64 0, .int .i64 0]) (by simp [results, Try.results42, go_sem, n0, n1, n2]) rfl ⟨d3, kk, A3, n3, c3, A3', n3', c3', rfl, ?_, (hb3.alloc hb3.size _).alloc (by have := hb3.size; simp [World.setCell] at this ⊢; omega) _⟩
  refine (HT.out.keep (w' := (((((w3.setCell ⟨w.heap.size, 0, none⟩ (.int .i64 kk)).setCell ⟨w.heap.size, 1, none⟩ (.slice A3 n3 c3)).setCell ⟨w.heap.size, 2, none⟩ (.slice A3' n3' c3')).alloc (.cells #[.int .i64 kk, .slice A3 n3 c3, .slice A3' n3' c3'] 26)).alloc (.cells #[.int .i64 (s.size : Nat), .int .i64 0, .int .i64 0] 142))) fun j hj => ?_).mono fun j hj => ⟨?_, ?_⟩
  · have h1 := hj.1
    have h2 := hj.2
    simp at h1
    rw [Below.heap_alloc _ _ _ (by simp [World.setCell]; omega), Below.heap_alloc _ _ _ (by simp [World.setCell]; omega), Below.heap_setCell _ _ _ _ (by simp only; omega), Below.heap_setCell _ _ _ _ (by simp only; omega), Below.heap_setCell _ _ _ _ (by simp only; omega)]
  · have := hj.1; simp at this; omega
  · have := hj.2; simp [World.setCell]; omega
set_option maxHeartbeats 2000000 in
set_option maxRecDepth 100000 in
theorem yparse_stop (s : ByteArray) (w : World) (hs : s.size ≤ 256) {t : Tr} {n : Nat} (hn : n < s.size) (hr : altX (s.size + 1) (restL s 0) = .ok t n) : Calls Try.prog 42 #[.string s] w (TreePost w (zeroT, 30, n)) := by
  have hb' : ¬ (256 : Int) < (s.size : Int) := by omega
  have hn' : (n : Int) < (s.size : Int) := by omega
  have C := Lib.hid (fun W => (show Calls Try.prog 68 #[.string s, .agg #[.int .i64 0, .int .i64 0, .int .i64 0]] W (YN W 0 (.ok t n)) by have h := ywhole_any s hs W; rw [hr] at h; exact h))
  clear hr
  go_enter Try.func42, Try.ntmps42
  go_wp2_with fail
  (with_reducible refine (C.out _).mono ?_)
  rintro e w3 ⟨d3, kk, A3, n3, c3, A3', n3', c3', rfl, ht3, b3⟩
  have hs0 : w.heap.size < w3.heap.size := by have := b3.size; simp at this; omega
  have HN := Lib.hid ((Blk.new w 26 #[.int .i64 0, .slice none 0 0, .slice none 0 0]).below b3 (by simp))
  have HB := Lib.hid (((Below.refl w.heap.size w).alloc (Nat.le_refl _) (.cells #[.int .i64 0, .slice none 0 0, .slice none 0 0] 26)).trans (b3.mono (by simp)))
  clear b3 ht3
  obtain ⟨n0, n1, n2, m0, m1, m2⟩ := blk3 HN.out
  go_wp2_with fail
  refine (yfail_any n 0 30 n _).mono ?_
  rintro e w4 ⟨rfl, b4⟩
  have hs1 : w3.heap.size + 1 < w4.heap.size := by have := b4.size; simp at this; omega
  have hs2 : w.heap.size < w4.heap.size := by omega
  have HN4 := Lib.hid (((HN.out.alloc (.cells #[.int .i64 kk, .slice A3 n3 c3, .slice A3' n3' c3'] 26)).alloc (.cells #[.int .i64 (n : Nat), .int .i64 0, .int .i64 0] 142)).below b4 (by simp; omega))
  have HQ4 := Lib.hid ((show Blk ((w3.alloc (.cells #[.int .i64 kk, .slice A3 n3 c3, .slice A3' n3' c3'] 26)).alloc (.cells #[.int .i64 (n : Nat), .int .i64 0, .int .i64 0] 142)) (w3.heap.size + 1) 142 #[.int .i64 (n : Nat), .int .i64 0, .int .i64 0] by
    have h := Blk.new (w3.alloc (.cells #[.int .i64 kk, .slice A3 n3 c3, .slice A3' n3' c3'] 26)) 142 #[.int .i64 (n : Nat), .int .i64 0, .int .i64 0]
    simpa using h).below b4 (by simp))
  have HB4 := Lib.hid (((HB.out.alloc HB.out.size (.cells #[.int .i64 kk, .slice A3 n3 c3, .slice A3' n3' c3'] 26)).alloc (by have := HB.out.size; simp; omega) (.cells #[.int .i64 (n : Nat), .int .i64 0, .int .i64 0] 142)).trans (b4.mono (by have := HB.out.size; simp; omega)))
  clear b4 n0 n1 n2 m0 m1 m2
  obtain ⟨n0, n1, n2, m0, m1, m2⟩ := blk3 HN4.out
  obtain ⟨p0, p1, p2, z0, z1, z2⟩ := blk3 HQ4.out
  have HN5 := Lib.hid (((HN4.out.far (p := ⟨w3.heap.size + 1, 0, none⟩) (by simp only; omega) (.int .i64 (n : Nat))).far (p := ⟨w3.heap.size + 1, 1, none⟩) (by simp only; omega) (.int .i64 30)).far (p := ⟨w3.heap.size + 1, 2, none⟩) (by simp only; omega) (.int .i64 (n : Nat)))
  have HQ5 := Lib.hid (((HQ4.out.set_ 0 (.int .i64 (n : Nat))).set_ 1 (.int .i64 30)).set_ 2 (.int .i64 (n : Nat)))
  go_wp2
  clear n0 n1 n2 m0 m1 m2 p0 p1 p2 z0 z1 z2
  obtain ⟨n0, n1, n2, m0, m1, m2⟩ := blk3 HN5.out
  obtain ⟨p0, p1, p2, z0, z1, z2⟩ := blk3 HQ5.out
  obtain ⟨w5, hw5⟩ : ∃ w5, w5 = ((w4.setCell ⟨w3.heap.size + 1, 0, none⟩ (.int .i64 (n : Nat))).setCell ⟨w3.heap.size + 1, 1, none⟩ (.int .i64 30)).setCell ⟨w3.heap.size + 1, 2, none⟩ (.int .i64 (n : Nat)) := ⟨_, rfl⟩
  have HB5 := Lib.hid (below3 HB4.out (p := w3.heap.size + 1) (by omega) (.int .i64 (n : Nat)) (.int .i64 30) (.int .i64 (n : Nat)))
  rw [← hw5] at n0 n1 n2 m0 m1 m2 p0 p1 p2 z0 z1 z2 HN5 HB5 ⊢
  clear hw5
  go_region
  go_wp2
  have HN2 := (((HN5.out.set_ 0 (.int .i64 0)).set_ 1 (.slice none 0 0)).set_ 2 (.slice none 0 0))
  clear n0 n1 n2 m0 m1 m2
  obtain ⟨n0, n1, n2, m0, m1, m2⟩ := blk3 HN2
  refine bodyPost_ret (v := .tuple #[.agg #[.int .i64 0, .slice none 0 0, .slice none 0 0], .int .i64 30, .int .i64 (n : Nat)]) (by simp [results, Try.results42, go_sem, n0, n1, n2]) rfl ⟨1, 0, none, 0, 0, none, 0, 0, rfl, treeAt_zero _ _, ?_⟩
  exact (below3 HB5.out (p := w.heap.size) (Nat.le_refl _) (.int .i64 0) (.slice none 0 0) (.slice none 0 0)).drew
theorem yparse_ok (s : ByteArray) (w : World) (hs : s.size ≤ 256) {t : Tr} {n : Nat} (hr : altX (s.size + 1) (restL s 0) = .ok t n) : Calls Try.prog 42 #[.string s] w (TreePost w (if n = s.size then (t, 0, 0) else (zeroT, 30, n))) := by
  by_cases hn : n = s.size
  · subst hn; rw [if_pos rfl]; exact yparse_end s w hs hr
  · rw [if_neg hn]
    have h1 := (altX_at hr).1
    rw [rest_len] at h1
    exact yparse_stop s w hs (by omega) hr
theorem yparse_any (s : ByteArray) (w : World) : Calls Try.prog 42 #[.string s] w (TreePost w (parseX s.data.toList)) := by
  have hl : s.data.toList.length = s.size := rfl
  have h0 : restL s 0 = s.data.toList := rfl
  by_cases hs : s.size ≤ 256
  · unfold parseX treeOf wholeW wholeX
    rw [if_neg (by omega), hl, ← h0]
    cases hr : altX (s.size + 1) (restL s 0) with
    | err c o => exact yparse_err s w hs hr
    | ok t n =>
      have h := yparse_ok s w hs hr
      simp only
      by_cases hn : n = s.size
      · rw [if_pos hn] at h ⊢; exact h
      · rw [if_neg hn] at h ⊢; exact h
  · unfold parseX treeOf
    rw [if_pos (by omega)]
    exact yparse_big s w (by omega)
end Go.Proofs.Ytjnhmcgjeljcmaa
namespace Go.Proofs.Ytjnhmcgjeljcmaa

inductive Pc where
  | star
  | set (rs : List (UInt8 × UInt8))
def pcOf : Tr → Pc
  | .mk k rs _ => if k = 4 then .star else .set rs
def starM (f : List UInt8 → Bool) : List UInt8 → Bool
  | [] => f []
  | c :: t => f (c :: t) || starM f t
def gm : List Pc → List UInt8 → Bool
  | [], t => t.isEmpty
  | .star :: ps, t => starM (gm ps) t
  | .set rs :: ps, t => match t with
    | [] => false
    | c :: t => inR rs c.toNat && gm ps t
theorem starM_iff (f : List UInt8 → Bool) (t : List UInt8) : starM f t = true ↔ ∃ j, j ≤ t.length ∧ f (t.drop j) = true := by
  induction t with
  | nil => simp [starM]
  | cons c t ih =>
    simp only [starM, Bool.or_eq_true, ih]
    constructor
    · rintro (h | ⟨j, hj, h⟩)
      · exact ⟨0, Nat.zero_le _, h⟩
      · exact ⟨j + 1, by simp; omega, by simpa using h⟩
    · rintro ⟨j, hj, h⟩
      match j with
      | 0 => left; exact h
      | j + 1 => right; exact ⟨j, by simp at hj; omega, by simpa using h⟩
theorem starM_next {f : List UInt8 → Bool} {t : List UInt8} (h : f t = false) (hl : t ≠ []) : starM f t = starM f (t.drop 1) := by
  match t, hl with
  | c :: t, _ => simp [starM, h]
theorem starM_self {f : List UInt8 → Bool} {t : List UInt8} (h : f t = true) : starM f t = true := (starM_iff f t).2 ⟨0, Nat.zero_le _, h⟩
def isSet : Pc → Bool
  | .set _ => true
  | .star => false
/-- S are sets, and just these bytes' . -/
def setsOn : List Pc → List UInt8 → Bool
  | [], [] => true
  | .set rs :: S, c :: u => inR rs c.toNat && setsOn S u
  | _, _ => false
theorem setsOn_len : ∀ {S : List Pc} {u : List UInt8}, setsOn S u = true → S.length = u.length
  | [], [], _ => rfl
  | [], c :: u, h => by simp [setsOn] at h
  | .set rs :: S, [], h => by simp [setsOn] at h
  | .star :: S, u, h => by simp [setsOn] at h
  | .set rs :: S, c :: u, h => by
    simp only [setsOn, Bool.and_eq_true] at h
    simp [setsOn_len h.2]
theorem setsOn_all : ∀ {S : List Pc} {u : List UInt8}, setsOn S u = true → ∀ p ∈ S, isSet p = true
  | [], _, _ => by simp
  | .star :: S, u, h => by simp [setsOn] at h
  | .set rs :: S, [], h => by simp [setsOn] at h
  | .set rs :: S, c :: u, h => by
    simp only [setsOn, Bool.and_eq_true] at h
    intro p hp
    rcases List.mem_cons.1 hp with rfl | hp
    · rfl
    · exact setsOn_all h.2 p hp
theorem gm_sets : ∀ {S : List Pc} {u : List UInt8} (Q : List Pc) (v : List UInt8), setsOn S u = true → gm (S ++ Q) (u ++ v) = gm Q v
  | [], [], Q, v, _ => rfl
  | [], c :: u, Q, v, h => by simp [setsOn] at h
  | .star :: S, u, Q, v, h => by simp [setsOn] at h
  | .set rs :: S, [], Q, v, h => by simp [setsOn] at h
  | .set rs :: S, c :: u, Q, v, h => by
    simp only [setsOn, Bool.and_eq_true] at h
    simp only [List.cons_append, gm, h.1, Bool.true_and]
    exact gm_sets Q v h.2
theorem gm_drop : ∀ {S : List Pc} (Q : List Pc) (t : List UInt8), (∀ p ∈ S, isSet p = true) → gm (S ++ Q) t = true → S.length ≤ t.length ∧ gm Q (t.drop S.length) = true
  | [], Q, t, _, h => ⟨Nat.zero_le _, h⟩
  | .star :: S, Q, t, hs, h => by have := hs .star (by simp); simp [isSet] at this
  | .set rs :: S, Q, [], hs, h => by simp [gm] at h
  | .set rs :: S, Q, c :: t, hs, h => by
    simp only [List.cons_append, gm, Bool.and_eq_true] at h
    have := gm_drop Q t (fun p hp => hs p (List.mem_cons_of_mem _ hp)) h.2
    exact ⟨by simp; omega, by simpa using this.2⟩
def onlyS (ps : List Pc) : Bool := ps.all fun p => !isSet p
theorem gm_nil : ∀ ps : List Pc, gm ps [] = onlyS ps
  | [] => rfl
  | .star :: ps => by simp only [gm, starM, gm_nil ps]; simp [onlyS, isSet]
  | .set rs :: ps => by simp [gm, onlyS, isSet]
/-- What isn't stars alone wants a byte. -/
theorem gm_wants : ∀ {ps : List Pc} {t : List UInt8}, onlyS ps = false → gm ps t = true → 0 < t.length := by
  intro ps t h1 h2
  cases t with
  | nil => rw [gm_nil, h1] at h2; cases h2
  | cons c t => simp

/-- The state of the search. -/
structure MInv (ps : List Pc) (txt : List UInt8) (kid at_ : Nat) (beh : Int) (frm : Nat) : Prop where
  kidLe : kid ≤ ps.length
  atLe : at_ ≤ txt.length
  frmLe : frm ≤ at_
  main : (beh = -1 ∧ gm ps txt = gm (ps.drop kid) (txt.drop at_)) ∨
    (∃ b : Nat, beh = b ∧ b ≤ kid ∧ kid - b = at_ - frm ∧ gm ps txt = starM (gm (ps.drop b)) (txt.drop frm) ∧ setsOn ((ps.drop b).take (kid - b)) ((txt.drop frm).take (at_ - frm)) = true)
theorem MInv.start (ps : List Pc) (txt : List UInt8) : MInv ps txt 0 0 (-1) 0 := ⟨Nat.zero_le _, Nat.zero_le _, Nat.le_refl _, Or.inl ⟨rfl, rfl⟩⟩
theorem drop_cons_get {α : Type} {l : List α} {k : Nat} {x : α} (h : l[k]? = some x) : l.drop k = x :: l.drop (k + 1) := by
  have hk : k < l.length := (List.getElem?_eq_some_iff.1 h).1
  rw [List.drop_eq_getElem_cons hk]
  have := List.getElem?_eq_getElem hk
  rw [h] at this
  injection this with this
  rw [← this]
theorem split_at {α : Type} (l : List α) {b k : Nat} (h : b ≤ k) : l.drop b = (l.drop b).take (k - b) ++ l.drop k := by
  conv => lhs; rw [← List.take_append_drop (k - b) (l.drop b)]
  rw [List.drop_drop, show b + (k - b) = k by omega]
theorem drop_app {α : Type} (u v : List α) (n : Nat) : (u ++ v).drop (u.length + n) = v.drop n := by rw [← List.drop_drop, List.drop_left' rfl]
theorem MInv.star {ps : List Pc} {txt : List UInt8} {kid at_ frm : Nat} {beh : Int} (h : MInv ps txt kid at_ beh frm) (hk : ps[kid]? = some .star) : MInv ps txt (kid + 1) at_ ((kid + 1 : Nat) : Int) at_ := by
  have hlt : kid < ps.length := (List.getElem?_eq_some_iff.1 hk).1
  refine ⟨by omega, h.atLe, Nat.le_refl _, Or.inr ⟨kid + 1, rfl, Nat.le_refl _, by omega, ?_, by simp [setsOn]⟩⟩
  rcases h.main with ⟨_, hm⟩ | ⟨b, _, hb, hd, hm, hs⟩
  · rw [hm, drop_cons_get hk]; rfl
  · rw [hm]
    have hS := split_at ps hb
    have hT := split_at txt h.frmLe
    have hl : ((ps.drop b).take (kid - b)).length = at_ - frm := by rw [setsOn_len hs]; simp; have := h.atLe; omega
    rw [drop_cons_get hk] at hS
    generalize hSd : (ps.drop b).take (kid - b) = S at *
    generalize hud : (txt.drop frm).take (at_ - frm) = u at *
    rw [hS, hT]
    rw [Bool.eq_iff_iff]
    constructor
    · intro h1
      obtain ⟨j, hj, h2⟩ := (starM_iff _ _).1 h1
      obtain ⟨h3, h4⟩ := gm_drop _ _ (setsOn_all hs) h2
      obtain ⟨i, hi, h5⟩ := (starM_iff _ _).1 h4
      rw [List.drop_drop, List.drop_drop] at h5
      refine (starM_iff _ _).2 ⟨j + i, ?_, ?_⟩
      · have hul := setsOn_len hs
        simp only [List.length_drop, List.length_append] at hi hj h3 ⊢
        omega
      · have hul := setsOn_len hs
        rw [show j + (S.length + i) = u.length + (j + i) by omega, drop_app] at h5
        exact h5
    · intro h1
      refine starM_self ?_
      rw [gm_sets _ _ hs]
      exact h1
theorem MInv.step {ps : List Pc} {txt : List UInt8} {kid at_ frm : Nat} {beh : Int} {rs : List (UInt8 × UInt8)} {c : UInt8} (h : MInv ps txt kid at_ beh frm) (hk : ps[kid]? = some (.set rs)) (hc : txt[at_]? = some c) (hin : inR rs c.toNat = true) :
    MInv ps txt (kid + 1) (at_ + 1) beh frm := by
  have hlt : kid < ps.length := (List.getElem?_eq_some_iff.1 hk).1
  have hlt2 : at_ < txt.length := (List.getElem?_eq_some_iff.1 hc).1
  have := h.frmLe
  refine ⟨by omega, by omega, by omega, ?_⟩
  rcases h.main with ⟨h0, hm⟩ | ⟨b, h0, hb, hd, hm, hs⟩
  · left; refine ⟨h0, ?_⟩
    rw [hm, drop_cons_get hk, drop_cons_get hc]
    simp [gm, hin]
  · right
    refine ⟨b, h0, by omega, by omega, hm, ?_⟩
    have e1 : (ps.drop b).take (kid + 1 - b) = (ps.drop b).take (kid - b) ++ [.set rs] := by
      rw [show kid + 1 - b = (kid - b) + 1 by omega, List.take_add_one, List.getElem?_drop, show b + (kid - b) = kid by omega, hk]; rfl
    have e2 : (txt.drop frm).take (at_ + 1 - frm) = (txt.drop frm).take (at_ - frm) ++ [c] := by
      rw [show at_ + 1 - frm = (at_ - frm) + 1 by omega, List.take_add_one, List.getElem?_drop, show frm + (at_ - frm) = at_ by omega, hc]; rfl
    rw [e1, e2]
    generalize (ps.drop b).take (kid - b) = S at *
    generalize (txt.drop frm).take (at_ - frm) = u at *
    clear e1 e2
    induction S generalizing u with
    | nil =>
      cases u with
      | nil => simp [setsOn, hin]
      | cons x u => simp [setsOn] at hs
    | cons p S ih =>
      cases p with
      | star => simp [setsOn] at hs
      | set rs' =>
        cases u with
        | nil => simp [setsOn] at hs
        | cons x u =>
          simp only [setsOn, Bool.and_eq_true] at hs
          simp only [List.cons_append, setsOn, hs.1, Bool.true_and]
          exact ih u hs.2
/-- No piece fits here. -/
theorem MInv.stuck {ps : List Pc} {txt : List UInt8} {kid at_ : Nat} (hlt : at_ < txt.length) (h : ps.length ≤ kid ∨ ∃ rs, ps[kid]? = some (.set rs) ∧ ∀ c, txt[at_]? = some c → inR rs c.toNat = false) : gm (ps.drop kid) (txt.drop at_) = false := by
  rcases h with h | ⟨rs, hk, hc⟩
  · rw [List.drop_eq_nil_of_le h]
    rw [List.drop_eq_getElem_cons hlt]; rfl
  · rw [drop_cons_get hk, List.drop_eq_getElem_cons hlt]
    simp [gm, hc _ (List.getElem?_eq_getElem hlt)]
theorem MInv.back {ps : List Pc} {txt : List UInt8} {kid at_ frm b : Nat} (h : MInv ps txt kid at_ (b : Int) frm) (hlt : at_ < txt.length) (hst : gm (ps.drop kid) (txt.drop at_) = false) : MInv ps txt b (frm + 1) (b : Int) (frm + 1) ∧ b ≤ kid := by
  rcases h.main with ⟨h0, _⟩ | ⟨b', h0, hb, hd, hm, hs⟩
  · omega
  · obtain rfl : b = b' := by omega
    have := h.kidLe
    have := h.frmLe
    refine ⟨⟨by omega, by omega, Nat.le_refl _, Or.inr ⟨b, rfl, Nat.le_refl _, by omega, ?_, by simp [setsOn]⟩⟩, hb⟩
    rw [hm, starM_next, List.drop_drop]
    · rw [split_at ps hb, split_at txt h.frmLe, gm_sets _ _ hs, hst]
    · intro e; have := congrArg List.length e; simp at this; omega
theorem MInv.fail {ps : List Pc} {txt : List UInt8} {kid at_ frm : Nat} {beh : Int} (h : MInv ps txt kid at_ beh frm) (hb : beh < 0) (hst : gm (ps.drop kid) (txt.drop at_) = false) : gm ps txt = false := by
  rcases h.main with ⟨_, hm⟩ | ⟨b', h0, _⟩
  · rw [hm, hst]
  · omega
theorem MInv.over {ps : List Pc} {txt : List UInt8} {kid frm : Nat} {beh : Int} (h : MInv ps txt kid txt.length beh frm) : gm ps txt = onlyS (ps.drop kid) := by
  rcases h.main with ⟨_, hm⟩ | ⟨b, h0, hb, hd, hm, hs⟩
  · rw [hm, List.drop_length, gm_nil]
  · rw [hm, split_at ps hb]
    have hT : txt.drop frm = (txt.drop frm).take (txt.length - frm) := by rw [List.take_of_length_le (by simp)]
    cases ho : onlyS (ps.drop kid)
    · rw [Bool.eq_false_iff]
      intro h1
      obtain ⟨j, hj, h2⟩ := (starM_iff _ _).1 h1
      obtain ⟨h3, h4⟩ := gm_drop _ _ (setsOn_all hs) h2
      have h5 := gm_wants ho h4
      have hl := setsOn_len hs
      simp only [List.length_drop, List.length_take] at *
      omega
    · refine starM_self ?_
      rw [hT]
      have := gm_sets (ps.drop kid) [] hs
      rw [List.append_nil] at this
      rw [this, gm_nil, ho]
end Go.Proofs.Ytjnhmcgjeljcmaa
