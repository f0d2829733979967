/- The laws' alive; TraceVerdicts' walk. -/
import Derived.Test.YtmhfdpgkdpbbiaaEd
namespace Go.Proofs.Ytmhfdpgkdpbbiaa
open Go.RowKit

def evC (e : Ev) : List Value := [.int .i64 e.kind, .int .i64 e.n, .string e.text, .int .i64 e.at_]
def evsC (es : List Ev) : List Value := es.flatMap evC
theorem evsC_cons (e : Ev) (r : List Ev) : evsC (e :: r) = evC e ++ evsC r := by simp [evsC]
theorem evsC_len : ∀ es : List Ev, (evsC es).length = es.length * 4
  | [] => rfl
  | e :: r => by rw [evsC_cons, List.length_append, evsC_len r]; simp [evC]; omega
theorem evsC_at : ∀ (es : List Ev) (i k : Nat) (e : Ev), es[i]? = some e → k < 4 → (evsC es)[i * 4 + k]? = (evC e)[k]?
  | [], i, k, e, h, _ => by simp at h
  | e' :: r, 0, k, e, h, hk => by
    simp at h; subst h
    rw [evsC_cons, List.getElem?_append_left (by simp [evC]; omega)]; simp
  | e' :: r, i + 1, k, e, h, hk => by
    rw [evsC_cons, List.getElem?_append_right (by simp [evC]; omega)]
    have := evsC_at r i k e (by simpa using h) hk
    rw [← this]
    congr 1
    simp [evC]; omega
theorem evs_new (w : World) (es : List Ev) (cs : Array Value) (fz : Nat × Nat) (hc : cs = (evsC es).toArray) (hn : es.length ≤ 9223372036854775807) : EvsAt (w.alloc (.cells cs 27 fz)) (some ⟨w.heap.size, 0, none⟩) es.length es := by
  subst hc
  refine ⟨rfl, hn, fun _ => ⟨w.heap.size, 0, rfl, by simp, fun i e he => ?_⟩⟩
  have k := fun o => cell_of_row (w.alloc (.cells (evsC es).toArray 27 fz)) w.heap.size o (evsC es).toArray 27 fz (heap_alloc_new w _)
  have q := fun r hr => evsC_at es i r e he hr
  refine ⟨?_, ?_, ?_, ?_⟩
  · rw [k]; have := q 0 (by omega); simpa [evC] using this
  · rw [k]; have := q 1 (by omega); simpa [evC] using this
  · rw [k]; have := q 2 (by omega); simpa [evC] using this
  · rw [k]; have := q 3 (by omega); simpa [evC] using this
def es3 : List Ev := [⟨2, 0, ⟨#[]⟩, 0⟩, ⟨3, 0, ⟨#[]⟩, 0⟩, ⟨12, 0, ⟨#[]⟩, 0⟩]
def es1 : List Ev := [⟨7, -1, ⟨#[]⟩, 0⟩]
def es2 : List Ev := [⟨7, 1, ⟨#[]⟩, 0⟩, ⟨13, 0, ⟨#[]⟩, 0⟩]
theorem ver3f : verT 0 es3 false = 1 := by decide +kernel
theorem ver3t : verT 0 es3 true = 3 := by decide +kernel
theorem ver1 : verT 0 es1 false = 5 := by decide +kernel
theorem ver2 : verT 0 es2 false = 2 := by decide +kernel
theorem rgh3 : rghL 0 es3 = true := by decide +kernel
theorem dec3 : decB ⟨12, 0, ⟨#[]⟩, 0⟩ = true := by decide +kernel
set_option maxHeartbeats 1000000 in
set_option maxRecDepth 100000 in
theorem ealive_any (w : World) : Calls Try.prog 7 #[] w (BoolPost w true) := by
  have C1 := Lib.hid (fun W A (h : EvsAt W A 3 es3) => (verdict_any 0 3 false h))
  have C2 := Lib.hid (fun W A (h : EvsAt W A 3 es3) => (verdict_any 0 3 true h))
  have C3 := Lib.hid (fun W A (h : EvsAt W A 1 es1) => (verdict_any 0 1 false h))
  have C4 := Lib.hid (fun W A (h : EvsAt W A 2 es2) => (verdict_any 0 2 false h))
  have C5 := Lib.hid (fun W A (h : EvsAt W A 3 es3) => (right_any 3 h))
  have C6 := Lib.hid (fun W => decides_any 12 0 ⟨#[]⟩ 0 W)
  rw [ver3f] at C1; rw [ver3t] at C2; rw [ver1] at C3; rw [ver2] at C4; rw [rgh3] at C5; rw [dec3] at C6
  go_enter Try.func7, Try.ntmps7
  go_wp2_with fail
  have h1 := evs_new w es3 #[.int .i64 2, .int .i64 0, .string ⟨#[]⟩, .int .i64 0, .int .i64 3, .int .i64 0, .string ⟨#[]⟩, .int .i64 0, .int .i64 12, .int .i64 0, .string ⟨#[]⟩, .int .i64 0] (0, 0) rfl (by decide)
  have b0 := (Below.refl w.heap.size w).alloc (Nat.le_refl _) (.cells #[.int .i64 2, .int .i64 0, .string ⟨#[]⟩, .int .i64 0, .int .i64 3, .int .i64 0, .string ⟨#[]⟩, .int .i64 0, .int .i64 12, .int .i64 0, .string ⟨#[]⟩, .int .i64 0] 27)
  generalize w.alloc (.cells #[.int .i64 2, .int .i64 0, .string ⟨#[]⟩, .int .i64 0, .int .i64 3, .int .i64 0, .string ⟨#[]⟩, .int .i64 0, .int .i64 12, .int .i64 0, .string ⟨#[]⟩, .int .i64 0] 27) = w1 at h1 b0 ⊢
  generalize w.heap.size = ep at h1 ⊢
  have H1 := Lib.hid h1
  have B0 := Lib.hid b0
  clear h1 b0
  refine (C1.out _ _ H1.out).mono ?_
  rintro e w2 ⟨rfl, b2⟩
  have H2 := Lib.hid (H1.out.below b2)
  have B2 := Lib.hid (B0.out.trans (b2.mono B0.out.size))
  clear b2
  go_wp2_with fail
  refine (C2.out _ _ H2.out).mono ?_
  rintro e w3 ⟨rfl, b3⟩
  have H3 := Lib.hid (H2.out.below b3)
  have B3 := Lib.hid (B2.out.trans (b3.mono B2.out.size))
  clear b3
  go_wp2_with fail
  have n1 := evs_new w3 es1 #[.int .i64 7, .int .i64 (-1), .string ⟨#[]⟩, .int .i64 0] (0, 0) rfl (by decide)
  refine (C3.out _ _ n1).mono ?_
  rintro e w4 ⟨rfl, b4⟩
  have a3 := (Below.refl w3.heap.size w3).alloc (Nat.le_refl _) (.cells #[.int .i64 7, .int .i64 (-1), .string ⟨#[]⟩, .int .i64 0] 27)
  have a4 := a3.trans (b4.mono a3.size)
  have H4 := Lib.hid (H3.out.below a4)
  have B4 := Lib.hid (B3.out.trans (a4.mono B3.out.size))
  clear b4 a3 a4 n1
  go_wp2_with fail
  have n1 := evs_new w4 es2 #[.int .i64 7, .int .i64 1, .string ⟨#[]⟩, .int .i64 0, .int .i64 13, .int .i64 0, .string ⟨#[]⟩, .int .i64 0] (0, 0) rfl (by decide)
  refine (C4.out _ _ n1).mono ?_
  rintro e w5 ⟨rfl, b5⟩
  have a3 := (Below.refl w4.heap.size w4).alloc (Nat.le_refl _) (.cells #[.int .i64 7, .int .i64 1, .string ⟨#[]⟩, .int .i64 0, .int .i64 13, .int .i64 0, .string ⟨#[]⟩, .int .i64 0] 27)
  have a4 := a3.trans (b5.mono a3.size)
  have H5 := Lib.hid (H4.out.below a4)
  have B5 := Lib.hid (B4.out.trans (a4.mono B4.out.size))
  clear b5 a3 a4 n1
  go_wp2_with fail
  refine (C5.out _ _ H5.out).mono ?_
  rintro e w6 ⟨rfl, b6⟩
  have h6 := H5.out.below b6
  have B6 := Lib.hid (B5.out.trans (b6.mono B5.out.size))
  clear b6
  obtain ⟨x, f, hx, hl, hc⟩ := h6.2.2 (by decide)
  injection hx with hx
  injection hx with hx1 hx2 _
  subst hx1 hx2
  obtain ⟨d0, d1, d2, d3⟩ := hc 2 _ rfl
  simp only [Nat.zero_add] at d0 d1 d2 d3
  clear hc h6
  go_wp2_with fail
  refine (C6.out _).mono ?_
  rintro e w7 ⟨rfl, b7⟩
  go_wp2
  go_ret
  exact ⟨rfl, B6.out.trans (b7.mono B6.out.size)⟩
set_option maxHeartbeats 1000000 in
set_option maxRecDepth 100000 in
theorem traceVerdicts_walk {w : World} {A : Option Addr} {n : Nat} {es : List Ev} (kind : Int) (c : Nat) (x : Bool) (h : EvsAt w A n es) :
    Calls Try.prog 3 #[.int .i64 kind, .slice A n c, .bool x] w (BoolPost w true) := by
  have HH := Lib.hid h
  clear h
  go_enter Try.func3, Try.ntmps3
  go_wp2_with fail
  refine (ealive_any _).mono ?_
  rintro e w2 ⟨rfl, b2⟩
  have B2 := Lib.hid b2
  have H2 := Lib.hid (HH.out.below b2)
  clear b2
  go_wp2_with fail
  refine (verdict_any kind c x H2.out).mono ?_
  rintro e w3 ⟨rfl, b3⟩
  have B3 := Lib.hid (B2.out.trans (b3.mono B2.out.size))
  have H3 := Lib.hid (H2.out.below b3)
  clear b3
  go_wp2_with fail
  refine (rverdict_any kind c x H3.out).mono ?_
  rintro e w4 ⟨rfl, b4⟩
  go_wp2
  go_ret
  exact ⟨ret_bool (by simp), B3.out.trans (b4.mono B3.out.size)⟩
end Go.Proofs.Ytmhfdpgkdpbbiaa
