/- RexWrong answers true. -/
import Derived.Test.YtjnhmcgjeljcmaaXwa
namespace Go.Proofs.Ytjnhmcgjeljcmaa
open Go.RowKit

/-- The calls that the law makes: a pattern that is read, and it with something wrong behind it. -/
structure WrongCalls (p q : ByteArray) (t : Tr) (c : Int) (o : Nat) : Prop where
  m1 : ∀ W, Calls Try.prog 16 #[.string p] W (TreePost W (t, 0, 0))
  m2 : ∀ W, Calls Try.prog 16 #[.string (p ++ q)] W fun e w' => ∃ k A n cc A' n' c', e = .returned (.tuple #[.agg #[.int .i64 k, .slice A n cc, .slice A' n' c'], .int .i64 c, .int .i64 ((p.size + o : Nat) : Int)]) ∧ Below W.heap.size W w'
theorem wrongCalls (p : ByteArray) (h0 : (parseX p.data.toList).2.1 = 0) (hs : p.size ≤ 240) (q : ByteArray) (c : Int) (o : Nat) (hb : (q.data.toList, c, o) ∈ badX) : ∃ t, WrongCalls p q t c o := by
  obtain ⟨_, t, n, _, hpx⟩ := parseX_zero h0
  refine ⟨t, fun W => ?_, fun W => ?_⟩
  · have := xparse_any p W
    rw [hpx] at this
    exact this
  · have := xparse_any (p ++ q) W
    rw [xlist_app, bad_parse h0 hs hb] at this
    refine this.mono ?_
    rintro e w1 ⟨d, k, A, n, cc, A', n', c', rfl, ht, hb⟩
    exact ⟨k, A, n, cc, A', n', c', rfl, hb⟩

set_option maxHeartbeats 1000000 in
set_option maxRecDepth 100000 in
theorem wrong_0 (p : ByteArray) (x : Int) (w : World) (hb' : ¬ (240 : Int) < (p.size : Int)) {t : Tr} (H : WrongCalls p ⟨#[41]⟩ t 30 0) (hj : (bits BinOp.and IntKind.i64 x 1023).tmod 10 = 0) :
    Calls Try.prog 5 #[.string p, .int .i64 x] w fun e w' => e = .returned (.bool true) ∧ Below w.heap.size w w' := by
  have HH := Lib.hid H
  have hsz : (0 : Int) ≤ (p.size : Int) := by omega
  clear H
  go_enter Try.func5, Try.ntmps5
  go_wp2_with fail
  refine (parsing_any _).mono ?_
  rintro e w1 ⟨rfl, b1⟩
  go_wp2_with fail
  refine (HH.out.m1 _).mono ?_
  rintro e w2 ⟨d2, k2, B1, m1, g1, B2, m2, g2, rfl, ht2, b2⟩
  clear ht2
  go_wp2_with fail
  refine (HH.out.m2 _).mono ?_
  rintro e w3 ⟨k3, A3, n3, c3, A3', n3', c3', rfl, b3⟩
  have hsub : (p.size : Int) + 0 - (p.size : Int) = 0 := by omega
  have HS := Lib.hid hsub
  clear hsub
  go_wp2
  go_ret
  refine ⟨rfl, ?_⟩
  have h2 := b1.trans (b2.mono b1.size)
  have h3 := h2.alloc h2.size (.cells #[.int .i64 k2, .slice B1 m1 g1, .slice B2 m2 g2] 26)
  have h4 := h3.alloc h3.size (.cells #[.string ⟨#[41]⟩, .string ⟨#[124, 42]⟩, .string ⟨#[40]⟩, .string ⟨#[91, 93]⟩, .string ⟨#[91, 97]⟩, .string ⟨#[92]⟩, .string ⟨#[92, 113]⟩, .string ⟨#[91, 122, 45, 97, 93]⟩, .string ⟨#[40, 124, 43]⟩, .string ⟨#[91, 94, 93]⟩] 9)
  have h5 := h4.trans (b3.mono h4.size)
  exact h5.alloc h5.size _

set_option maxHeartbeats 1000000 in
set_option maxRecDepth 100000 in
theorem wrong_1 (p : ByteArray) (x : Int) (w : World) (hb' : ¬ (240 : Int) < (p.size : Int)) {t : Tr} (H : WrongCalls p ⟨#[124, 42]⟩ t 30 1) (hj : (bits BinOp.and IntKind.i64 x 1023).tmod 10 = 1) :
    Calls Try.prog 5 #[.string p, .int .i64 x] w fun e w' => e = .returned (.bool true) ∧ Below w.heap.size w w' := by
  have HH := Lib.hid H
  have hsz : (0 : Int) ≤ (p.size : Int) := by omega
  clear H
  go_enter Try.func5, Try.ntmps5
  go_wp2_with fail
  refine (parsing_any _).mono ?_
  rintro e w1 ⟨rfl, b1⟩
  go_wp2_with fail
  refine (HH.out.m1 _).mono ?_
  rintro e w2 ⟨d2, k2, B1, m1, g1, B2, m2, g2, rfl, ht2, b2⟩
  clear ht2
  go_wp2_with fail
  refine (HH.out.m2 _).mono ?_
  rintro e w3 ⟨k3, A3, n3, c3, A3', n3', c3', rfl, b3⟩
  have hsub : (p.size : Int) + 1 - (p.size : Int) = 1 := by omega
  have HS := Lib.hid hsub
  clear hsub
  go_wp2
  go_ret
  refine ⟨(by show Ending.returned (Value.bool ((p.size : Int) + 1 - (p.size : Int) == 1)) = _; rw [HS.out]; rfl), ?_⟩
  have h2 := b1.trans (b2.mono b1.size)
  have h3 := h2.alloc h2.size (.cells #[.int .i64 k2, .slice B1 m1 g1, .slice B2 m2 g2] 26)
  have h4 := h3.alloc h3.size (.cells #[.string ⟨#[41]⟩, .string ⟨#[124, 42]⟩, .string ⟨#[40]⟩, .string ⟨#[91, 93]⟩, .string ⟨#[91, 97]⟩, .string ⟨#[92]⟩, .string ⟨#[92, 113]⟩, .string ⟨#[91, 122, 45, 97, 93]⟩, .string ⟨#[40, 124, 43]⟩, .string ⟨#[91, 94, 93]⟩] 9)
  have h5 := h4.trans (b3.mono h4.size)
  exact h5.alloc h5.size _

set_option maxHeartbeats 1000000 in
set_option maxRecDepth 100000 in
theorem wrong_2 (p : ByteArray) (x : Int) (w : World) (hb' : ¬ (240 : Int) < (p.size : Int)) {t : Tr} (H : WrongCalls p ⟨#[40]⟩ t 31 1) (hj : (bits BinOp.and IntKind.i64 x 1023).tmod 10 = 2) :
    Calls Try.prog 5 #[.string p, .int .i64 x] w fun e w' => e = .returned (.bool true) ∧ Below w.heap.size w w' := by
  have HH := Lib.hid H
  have hsz : (0 : Int) ≤ (p.size : Int) := by omega
  clear H
  go_enter Try.func5, Try.ntmps5
  go_wp2_with fail
  refine (parsing_any _).mono ?_
  rintro e w1 ⟨rfl, b1⟩
  go_wp2_with fail
  refine (HH.out.m1 _).mono ?_
  rintro e w2 ⟨d2, k2, B1, m1, g1, B2, m2, g2, rfl, ht2, b2⟩
  clear ht2
  go_wp2_with fail
  refine (HH.out.m2 _).mono ?_
  rintro e w3 ⟨k3, A3, n3, c3, A3', n3', c3', rfl, b3⟩
  have hsub : (p.size : Int) + 1 - (p.size : Int) = 1 := by omega
  have HS := Lib.hid hsub
  clear hsub
  go_wp2
  go_ret
  refine ⟨(by show Ending.returned (Value.bool ((p.size : Int) + 1 - (p.size : Int) == 1)) = _; rw [HS.out]; rfl), ?_⟩
  have h2 := b1.trans (b2.mono b1.size)
  have h3 := h2.alloc h2.size (.cells #[.int .i64 k2, .slice B1 m1 g1, .slice B2 m2 g2] 26)
  have h4 := h3.alloc h3.size (.cells #[.string ⟨#[41]⟩, .string ⟨#[124, 42]⟩, .string ⟨#[40]⟩, .string ⟨#[91, 93]⟩, .string ⟨#[91, 97]⟩, .string ⟨#[92]⟩, .string ⟨#[92, 113]⟩, .string ⟨#[91, 122, 45, 97, 93]⟩, .string ⟨#[40, 124, 43]⟩, .string ⟨#[91, 94, 93]⟩] 9)
  have h5 := h4.trans (b3.mono h4.size)
  exact h5.alloc h5.size _

set_option maxHeartbeats 1000000 in
set_option maxRecDepth 100000 in
theorem wrong_3 (p : ByteArray) (x : Int) (w : World) (hb' : ¬ (240 : Int) < (p.size : Int)) {t : Tr} (H : WrongCalls p ⟨#[91, 93]⟩ t 30 1) (hj : (bits BinOp.and IntKind.i64 x 1023).tmod 10 = 3) :
    Calls Try.prog 5 #[.string p, .int .i64 x] w fun e w' => e = .returned (.bool true) ∧ Below w.heap.size w w' := by
  have HH := Lib.hid H
  have hsz : (0 : Int) ≤ (p.size : Int) := by omega
  clear H
  go_enter Try.func5, Try.ntmps5
  go_wp2_with fail
  refine (parsing_any _).mono ?_
  rintro e w1 ⟨rfl, b1⟩
  go_wp2_with fail
  refine (HH.out.m1 _).mono ?_
  rintro e w2 ⟨d2, k2, B1, m1, g1, B2, m2, g2, rfl, ht2, b2⟩
  clear ht2
  go_wp2_with fail
  refine (HH.out.m2 _).mono ?_
  rintro e w3 ⟨k3, A3, n3, c3, A3', n3', c3', rfl, b3⟩
  have hsub : (p.size : Int) + 1 - (p.size : Int) = 1 := by omega
  have HS := Lib.hid hsub
  clear hsub
  go_wp2
  go_ret
  refine ⟨(by show Ending.returned (Value.bool ((p.size : Int) + 1 - (p.size : Int) == 1)) = _; rw [HS.out]; rfl), ?_⟩
  have h2 := b1.trans (b2.mono b1.size)
  have h3 := h2.alloc h2.size (.cells #[.int .i64 k2, .slice B1 m1 g1, .slice B2 m2 g2] 26)
  have h4 := h3.alloc h3.size (.cells #[.string ⟨#[41]⟩, .string ⟨#[124, 42]⟩, .string ⟨#[40]⟩, .string ⟨#[91, 93]⟩, .string ⟨#[91, 97]⟩, .string ⟨#[92]⟩, .string ⟨#[92, 113]⟩, .string ⟨#[91, 122, 45, 97, 93]⟩, .string ⟨#[40, 124, 43]⟩, .string ⟨#[91, 94, 93]⟩] 9)
  have h5 := h4.trans (b3.mono h4.size)
  exact h5.alloc h5.size _

set_option maxHeartbeats 1000000 in
set_option maxRecDepth 100000 in
theorem wrong_4 (p : ByteArray) (x : Int) (w : World) (hb' : ¬ (240 : Int) < (p.size : Int)) {t : Tr} (H : WrongCalls p ⟨#[91, 97]⟩ t 31 2) (hj : (bits BinOp.and IntKind.i64 x 1023).tmod 10 = 4) :
    Calls Try.prog 5 #[.string p, .int .i64 x] w fun e w' => e = .returned (.bool true) ∧ Below w.heap.size w w' := by
  have HH := Lib.hid H
  have hsz : (0 : Int) ≤ (p.size : Int) := by omega
  clear H
  go_enter Try.func5, Try.ntmps5
  go_wp2_with fail
  refine (parsing_any _).mono ?_
  rintro e w1 ⟨rfl, b1⟩
  go_wp2_with fail
  refine (HH.out.m1 _).mono ?_
  rintro e w2 ⟨d2, k2, B1, m1, g1, B2, m2, g2, rfl, ht2, b2⟩
  clear ht2
  go_wp2_with fail
  refine (HH.out.m2 _).mono ?_
  rintro e w3 ⟨k3, A3, n3, c3, A3', n3', c3', rfl, b3⟩
  have hsub : (p.size : Int) + 2 - (p.size : Int) = 2 := by omega
  have HS := Lib.hid hsub
  clear hsub
  go_wp2
  go_ret
  refine ⟨(by show Ending.returned (Value.bool ((p.size : Int) + 2 - (p.size : Int) == 2)) = _; rw [HS.out]; rfl), ?_⟩
  have h2 := b1.trans (b2.mono b1.size)
  have h3 := h2.alloc h2.size (.cells #[.int .i64 k2, .slice B1 m1 g1, .slice B2 m2 g2] 26)
  have h4 := h3.alloc h3.size (.cells #[.string ⟨#[41]⟩, .string ⟨#[124, 42]⟩, .string ⟨#[40]⟩, .string ⟨#[91, 93]⟩, .string ⟨#[91, 97]⟩, .string ⟨#[92]⟩, .string ⟨#[92, 113]⟩, .string ⟨#[91, 122, 45, 97, 93]⟩, .string ⟨#[40, 124, 43]⟩, .string ⟨#[91, 94, 93]⟩] 9)
  have h5 := h4.trans (b3.mono h4.size)
  exact h5.alloc h5.size _

set_option maxHeartbeats 1000000 in
set_option maxRecDepth 100000 in
theorem wrong_5 (p : ByteArray) (x : Int) (w : World) (hb' : ¬ (240 : Int) < (p.size : Int)) {t : Tr} (H : WrongCalls p ⟨#[92]⟩ t 31 1) (hj : (bits BinOp.and IntKind.i64 x 1023).tmod 10 = 5) :
    Calls Try.prog 5 #[.string p, .int .i64 x] w fun e w' => e = .returned (.bool true) ∧ Below w.heap.size w w' := by
  have HH := Lib.hid H
  have hsz : (0 : Int) ≤ (p.size : Int) := by omega
  clear H
  go_enter Try.func5, Try.ntmps5
  go_wp2_with fail
  refine (parsing_any _).mono ?_
  rintro e w1 ⟨rfl, b1⟩
  go_wp2_with fail
  refine (HH.out.m1 _).mono ?_
  rintro e w2 ⟨d2, k2, B1, m1, g1, B2, m2, g2, rfl, ht2, b2⟩
  clear ht2
  go_wp2_with fail
  refine (HH.out.m2 _).mono ?_
  rintro e w3 ⟨k3, A3, n3, c3, A3', n3', c3', rfl, b3⟩
  have hsub : (p.size : Int) + 1 - (p.size : Int) = 1 := by omega
  have HS := Lib.hid hsub
  clear hsub
  go_wp2
  go_ret
  refine ⟨(by show Ending.returned (Value.bool ((p.size : Int) + 1 - (p.size : Int) == 1)) = _; rw [HS.out]; rfl), ?_⟩
  have h2 := b1.trans (b2.mono b1.size)
  have h3 := h2.alloc h2.size (.cells #[.int .i64 k2, .slice B1 m1 g1, .slice B2 m2 g2] 26)
  have h4 := h3.alloc h3.size (.cells #[.string ⟨#[41]⟩, .string ⟨#[124, 42]⟩, .string ⟨#[40]⟩, .string ⟨#[91, 93]⟩, .string ⟨#[91, 97]⟩, .string ⟨#[92]⟩, .string ⟨#[92, 113]⟩, .string ⟨#[91, 122, 45, 97, 93]⟩, .string ⟨#[40, 124, 43]⟩, .string ⟨#[91, 94, 93]⟩] 9)
  have h5 := h4.trans (b3.mono h4.size)
  exact h5.alloc h5.size _

set_option maxHeartbeats 1000000 in
set_option maxRecDepth 100000 in
theorem wrong_6 (p : ByteArray) (x : Int) (w : World) (hb' : ¬ (240 : Int) < (p.size : Int)) {t : Tr} (H : WrongCalls p ⟨#[92, 113]⟩ t 30 0) (hj : (bits BinOp.and IntKind.i64 x 1023).tmod 10 = 6) :
    Calls Try.prog 5 #[.string p, .int .i64 x] w fun e w' => e = .returned (.bool true) ∧ Below w.heap.size w w' := by
  have HH := Lib.hid H
  have hsz : (0 : Int) ≤ (p.size : Int) := by omega
  clear H
  go_enter Try.func5, Try.ntmps5
  go_wp2_with fail
  refine (parsing_any _).mono ?_
  rintro e w1 ⟨rfl, b1⟩
  go_wp2_with fail
  refine (HH.out.m1 _).mono ?_
  rintro e w2 ⟨d2, k2, B1, m1, g1, B2, m2, g2, rfl, ht2, b2⟩
  clear ht2
  go_wp2_with fail
  refine (HH.out.m2 _).mono ?_
  rintro e w3 ⟨k3, A3, n3, c3, A3', n3', c3', rfl, b3⟩
  have hsub : (p.size : Int) + 0 - (p.size : Int) = 0 := by omega
  have HS := Lib.hid hsub
  clear hsub
  go_wp2
  go_ret
  refine ⟨rfl, ?_⟩
  have h2 := b1.trans (b2.mono b1.size)
  have h3 := h2.alloc h2.size (.cells #[.int .i64 k2, .slice B1 m1 g1, .slice B2 m2 g2] 26)
  have h4 := h3.alloc h3.size (.cells #[.string ⟨#[41]⟩, .string ⟨#[124, 42]⟩, .string ⟨#[40]⟩, .string ⟨#[91, 93]⟩, .string ⟨#[91, 97]⟩, .string ⟨#[92]⟩, .string ⟨#[92, 113]⟩, .string ⟨#[91, 122, 45, 97, 93]⟩, .string ⟨#[40, 124, 43]⟩, .string ⟨#[91, 94, 93]⟩] 9)
  have h5 := h4.trans (b3.mono h4.size)
  exact h5.alloc h5.size _

set_option maxHeartbeats 1000000 in
set_option maxRecDepth 100000 in
theorem wrong_7 (p : ByteArray) (x : Int) (w : World) (hb' : ¬ (240 : Int) < (p.size : Int)) {t : Tr} (H : WrongCalls p ⟨#[91, 122, 45, 97, 93]⟩ t 32 1) (hj : (bits BinOp.and IntKind.i64 x 1023).tmod 10 = 7) :
    Calls Try.prog 5 #[.string p, .int .i64 x] w fun e w' => e = .returned (.bool true) ∧ Below w.heap.size w w' := by
  have HH := Lib.hid H
  have hsz : (0 : Int) ≤ (p.size : Int) := by omega
  clear H
  go_enter Try.func5, Try.ntmps5
  go_wp2_with fail
  refine (parsing_any _).mono ?_
  rintro e w1 ⟨rfl, b1⟩
  go_wp2_with fail
  refine (HH.out.m1 _).mono ?_
  rintro e w2 ⟨d2, k2, B1, m1, g1, B2, m2, g2, rfl, ht2, b2⟩
  clear ht2
  go_wp2_with fail
  refine (HH.out.m2 _).mono ?_
  rintro e w3 ⟨k3, A3, n3, c3, A3', n3', c3', rfl, b3⟩
  have hsub : (p.size : Int) + 1 - (p.size : Int) = 1 := by omega
  have HS := Lib.hid hsub
  clear hsub
  go_wp2
  go_ret
  refine ⟨(by show Ending.returned (Value.bool ((p.size : Int) + 1 - (p.size : Int) == 1)) = _; rw [HS.out]; rfl), ?_⟩
  have h2 := b1.trans (b2.mono b1.size)
  have h3 := h2.alloc h2.size (.cells #[.int .i64 k2, .slice B1 m1 g1, .slice B2 m2 g2] 26)
  have h4 := h3.alloc h3.size (.cells #[.string ⟨#[41]⟩, .string ⟨#[124, 42]⟩, .string ⟨#[40]⟩, .string ⟨#[91, 93]⟩, .string ⟨#[91, 97]⟩, .string ⟨#[92]⟩, .string ⟨#[92, 113]⟩, .string ⟨#[91, 122, 45, 97, 93]⟩, .string ⟨#[40, 124, 43]⟩, .string ⟨#[91, 94, 93]⟩] 9)
  have h5 := h4.trans (b3.mono h4.size)
  exact h5.alloc h5.size _

set_option maxHeartbeats 1000000 in
set_option maxRecDepth 100000 in
theorem wrong_8 (p : ByteArray) (x : Int) (w : World) (hb' : ¬ (240 : Int) < (p.size : Int)) {t : Tr} (H : WrongCalls p ⟨#[40, 124, 43]⟩ t 30 2) (hj : (bits BinOp.and IntKind.i64 x 1023).tmod 10 = 8) :
    Calls Try.prog 5 #[.string p, .int .i64 x] w fun e w' => e = .returned (.bool true) ∧ Below w.heap.size w w' := by
  have HH := Lib.hid H
  have hsz : (0 : Int) ≤ (p.size : Int) := by omega
  clear H
  go_enter Try.func5, Try.ntmps5
  go_wp2_with fail
  refine (parsing_any _).mono ?_
  rintro e w1 ⟨rfl, b1⟩
  go_wp2_with fail
  refine (HH.out.m1 _).mono ?_
  rintro e w2 ⟨d2, k2, B1, m1, g1, B2, m2, g2, rfl, ht2, b2⟩
  clear ht2
  go_wp2_with fail
  refine (HH.out.m2 _).mono ?_
  rintro e w3 ⟨k3, A3, n3, c3, A3', n3', c3', rfl, b3⟩
  have hsub : (p.size : Int) + 2 - (p.size : Int) = 2 := by omega
  have HS := Lib.hid hsub
  clear hsub
  go_wp2
  go_ret
  refine ⟨(by show Ending.returned (Value.bool ((p.size : Int) + 2 - (p.size : Int) == 2)) = _; rw [HS.out]; rfl), ?_⟩
  have h2 := b1.trans (b2.mono b1.size)
  have h3 := h2.alloc h2.size (.cells #[.int .i64 k2, .slice B1 m1 g1, .slice B2 m2 g2] 26)
  have h4 := h3.alloc h3.size (.cells #[.string ⟨#[41]⟩, .string ⟨#[124, 42]⟩, .string ⟨#[40]⟩, .string ⟨#[91, 93]⟩, .string ⟨#[91, 97]⟩, .string ⟨#[92]⟩, .string ⟨#[92, 113]⟩, .string ⟨#[91, 122, 45, 97, 93]⟩, .string ⟨#[40, 124, 43]⟩, .string ⟨#[91, 94, 93]⟩] 9)
  have h5 := h4.trans (b3.mono h4.size)
  exact h5.alloc h5.size _

set_option maxHeartbeats 1000000 in
set_option maxRecDepth 100000 in
theorem wrong_9 (p : ByteArray) (x : Int) (w : World) (hb' : ¬ (240 : Int) < (p.size : Int)) {t : Tr} (H : WrongCalls p ⟨#[91, 94, 93]⟩ t 30 2) (hj : (bits BinOp.and IntKind.i64 x 1023).tmod 10 = 9) :
    Calls Try.prog 5 #[.string p, .int .i64 x] w fun e w' => e = .returned (.bool true) ∧ Below w.heap.size w w' := by
  have HH := Lib.hid H
  have hsz : (0 : Int) ≤ (p.size : Int) := by omega
  clear H
  go_enter Try.func5, Try.ntmps5
  go_wp2_with fail
  refine (parsing_any _).mono ?_
  rintro e w1 ⟨rfl, b1⟩
  go_wp2_with fail
  refine (HH.out.m1 _).mono ?_
  rintro e w2 ⟨d2, k2, B1, m1, g1, B2, m2, g2, rfl, ht2, b2⟩
  clear ht2
  go_wp2_with fail
  refine (HH.out.m2 _).mono ?_
  rintro e w3 ⟨k3, A3, n3, c3, A3', n3', c3', rfl, b3⟩
  have hsub : (p.size : Int) + 2 - (p.size : Int) = 2 := by omega
  have HS := Lib.hid hsub
  clear hsub
  go_wp2
  go_ret
  refine ⟨(by show Ending.returned (Value.bool ((p.size : Int) + 2 - (p.size : Int) == 2)) = _; rw [HS.out]; rfl), ?_⟩
  have h2 := b1.trans (b2.mono b1.size)
  have h3 := h2.alloc h2.size (.cells #[.int .i64 k2, .slice B1 m1 g1, .slice B2 m2 g2] 26)
  have h4 := h3.alloc h3.size (.cells #[.string ⟨#[41]⟩, .string ⟨#[124, 42]⟩, .string ⟨#[40]⟩, .string ⟨#[91, 93]⟩, .string ⟨#[91, 97]⟩, .string ⟨#[92]⟩, .string ⟨#[92, 113]⟩, .string ⟨#[91, 122, 45, 97, 93]⟩, .string ⟨#[40, 124, 43]⟩, .string ⟨#[91, 94, 93]⟩] 9)
  have h5 := h4.trans (b3.mono h4.size)
  exact h5.alloc h5.size _

set_option maxHeartbeats 1000000 in
set_option maxRecDepth 100000 in
theorem rexWrong_walk (p : ByteArray) (x : Int) (_ : p.size ≤ maxLen) (w : World) :
    Calls Try.prog 5 #[.string p, .int .i64 x] w fun e w' => e = .returned (.bool true) ∧ Below w.heap.size w w' := by
  by_cases h0 : (parseX p.data.toList).2.1 = 0
  · by_cases hbig : 240 < p.size
    · have H := Lib.hid (fun W => xparse_any p W)
      have hb' : (240 : Int) < (p.size : Int) := by omega
      obtain ⟨_, t, n, _, hpx⟩ := parseX_zero h0
      simp only [hpx] at H
      clear hbig h0 hpx
      go_enter Try.func5, Try.ntmps5
      go_wp2_with fail
      refine (parsing_any _).mono ?_
      rintro e w1 ⟨rfl, b1⟩
      go_wp2_with fail
      refine (H.out _).mono ?_
      rintro e w2 ⟨d2, k2, B1, m1, g1, B2, m2, g2, rfl, ht2, b2⟩
      clear ht2
      go_wp2
      go_ret
      have h2 := b1.trans (b2.mono b1.size)
      exact ⟨rfl, h2.alloc h2.size _⟩
    · have hs : p.size ≤ 240 := by omega
      have hb' : ¬ (240 : Int) < (p.size : Int) := by omega
      have hx := and1023 x
      have hq : 0 ≤ (bits BinOp.and IntKind.i64 x 1023).tmod 10 ∧ (bits BinOp.and IntKind.i64 x 1023).tmod 10 < 10 := by
        rw [Int.tmod_eq_emod_of_nonneg hx.1]; omega
      have hc : ∀ y : Int, 0 ≤ y ∧ y < 10 → y = 0 ∨ y = 1 ∨ y = 2 ∨ y = 3 ∨ y = 4 ∨ y = 5 ∨ y = 6 ∨ y = 7 ∨ y = 8 ∨ y = 9 := fun y hy => by omega
      rcases hc _ hq with h | h | h | h | h | h | h | h | h | h
      · obtain ⟨t, H⟩ := wrongCalls p h0 hs ⟨#[41]⟩ 30 0 (by decide)
        exact wrong_0 p x w hb' H h
      · obtain ⟨t, H⟩ := wrongCalls p h0 hs ⟨#[124, 42]⟩ 30 1 (by decide)
        exact wrong_1 p x w hb' H h
      · obtain ⟨t, H⟩ := wrongCalls p h0 hs ⟨#[40]⟩ 31 1 (by decide)
        exact wrong_2 p x w hb' H h
      · obtain ⟨t, H⟩ := wrongCalls p h0 hs ⟨#[91, 93]⟩ 30 1 (by decide)
        exact wrong_3 p x w hb' H h
      · obtain ⟨t, H⟩ := wrongCalls p h0 hs ⟨#[91, 97]⟩ 31 2 (by decide)
        exact wrong_4 p x w hb' H h
      · obtain ⟨t, H⟩ := wrongCalls p h0 hs ⟨#[92]⟩ 31 1 (by decide)
        exact wrong_5 p x w hb' H h
      · obtain ⟨t, H⟩ := wrongCalls p h0 hs ⟨#[92, 113]⟩ 30 0 (by decide)
        exact wrong_6 p x w hb' H h
      · obtain ⟨t, H⟩ := wrongCalls p h0 hs ⟨#[91, 122, 45, 97, 93]⟩ 32 1 (by decide)
        exact wrong_7 p x w hb' H h
      · obtain ⟨t, H⟩ := wrongCalls p h0 hs ⟨#[40, 124, 43]⟩ 30 2 (by decide)
        exact wrong_8 p x w hb' H h
      · obtain ⟨t, H⟩ := wrongCalls p h0 hs ⟨#[91, 94, 93]⟩ 30 2 (by decide)
        exact wrong_9 p x w hb' H h
  · have H := Lib.hid (fun W => xparse_any p W)
    have h0' : ((parseX p.data.toList).2.1 != 0) = true := by simpa using h0
    clear h0
    generalize parseX p.data.toList = r at *
    go_enter Try.func5, Try.ntmps5
    go_wp2_with fail
    refine (parsing_any _).mono ?_
    rintro e w1 ⟨rfl, b1⟩
    go_wp2_with fail
    refine (H.out _).mono ?_
    rintro e w2 ⟨d2, k2, B1, m1, g1, B2, m2, g2, rfl, ht2, b2⟩
    clear ht2
    go_wp2
    go_ret
    have h2 := b1.trans (b2.mono b1.size)
    exact ⟨rfl, h2.alloc h2.size _⟩
end Go.Proofs.Ytjnhmcgjeljcmaa
