/- The document's own New, Read. -/
import Derived.Test.YteokiaeojgjpdaaYe
namespace Go.Proofs.Yteokiaeojgjpdaa
open Go.RowKit Go.Maps

set_option maxRecDepth 100000 in
theorem vrnew_any (room : Int) (w : World) : Calls Try.prog 24 #[.int .i64 room] w fun e w' => e = .returned (.agg #[.slice none 0 0, .int .i64 (posP room : Nat), .int .i64 0, .bool false]) ∧ Below w.heap.size w w' := by
  have HB := Lib.hid (fun o => (Below.refl w.heap.size w).alloc (Nat.le_refl _) o)
  rcases Int.lt_or_le room 0 with h | h
  · have e : posP room = 0 := by unfold posP; omega
    rw [e]
    go_enter Try.func24, Try.ntmps24
    go_wp2
    refine bodyPost_ret (v := .agg #[.slice none 0 0, .int .i64 0, .int .i64 0, .bool false]) (by simp [results, Try.results24, go_sem]) rfl ⟨rfl, ?_⟩
    exact HB.out _
  · have h' : ¬ room < 0 := by omega
    have e : (posP room : Int) = room := by unfold posP; omega
    rw [e]
    go_enter Try.func24, Try.ntmps24
    go_wp2
    refine bodyPost_ret (v := .agg #[.slice none 0 0, .int .i64 room, .int .i64 0, .bool false]) (by simp [results, Try.results24, go_sem]) rfl ⟨rfl, ?_⟩
    exact HB.out _
/-- What Read answers: bytes that lie in memory, the error's number. -/
def RReadP (w : World) (r : Int × List UInt8) (e : Ending) (w' : World) : Prop := ∃ A c, e = .returned (.tuple #[.slice A r.2.length c, .int .i64 r.1]) ∧ BytesAt w' A r.2.length r.2 ∧ Below w.heap.size w w'
theorem rread_fin {w w' : World} {r : Int × List UInt8} {A : Option Addr} {c : Nat} {code : Int} {bs : List UInt8} (hr : r = (code, bs)) (hb : BytesAt w' A bs.length bs) (hB : Below w.heap.size w w') : RReadP w r (.returned (.tuple #[.slice A bs.length c, .int .i64 code])) w' := by
  subst hr; exact ⟨A, c, rfl, hb, hB⟩
set_option maxHeartbeats 2000000 in
set_option maxRecDepth 100000 in
theorem rread_any {w : World} {Y : Nat → Prop} {A : Option Addr} {n c : Nat} {fs : List FR} (h : RefAt w Y A n fs) (hY : Low w.heap.size Y) (hn : n ≤ maxLen) {V : FV} (hV : fs.map FR.t = V) (hR : RiseV V) (free fuse : Nat) (down : Bool) (most fu : Int) (s : ByteArray) :
    Calls Try.prog 32 #[.agg #[.slice A n c, .int .i64 most, .int .i64 fu, .bool down], .string s] w (RReadP w (readS s.data.toList ⟨V, free, fuse, down⟩)) := by
  have hfl := h.1
  have H := Lib.hid h
  have b0 := (Below.refl w.heap.size w).alloc (Nat.le_refl _) (.cells #[.slice A n c, .int .i64 most, .int .i64 fu, .bool down] 53)
  have B0 := Lib.hid b0
  have HV := Lib.hid hV
  have HR := Lib.hid hR
  have K2 := Lib.hid (Blk.new w 53 #[.slice A n c, .int .i64 most, .int .i64 fu, .bool down])
  have hs0 : (w.alloc (.cells #[.slice A n c, .int .i64 most, .int .i64 fu, .bool down] 53)).heap.size = w.heap.size + 1 := by simp
  cases down with
  | true =>
    have HRES := Lib.hid (show readS s.data.toList ⟨V, free, fuse, true⟩ = (70, []) from rfl)
    clear h b0 hV hR
    go_enter Try.func32, Try.ntmps32
    go_wp2
    go_ret2
    exact rread_fin (A := none) (c := 0) (bs := []) HRES.out ⟨rfl, fun h => by cases h⟩ B0.out
  | false =>
    have C := Lib.hid (find_any (c := c) (h.below hY b0) (fun b hb => by have := hY b hb; omega) hn (.int .i64 most) (.int .i64 fu) (.bool false) s)
    obtain ⟨W0, hW0⟩ : ∃ W0, W0 = w.alloc (.cells #[.slice A n c, .int .i64 most, .int .i64 fu, .bool false] 53) := ⟨_, rfl⟩
    rw [← hW0] at C K2 B0 hs0
    clear h b0 hV hR
    go_enter Try.func32, Try.ntmps32
    go_wp2_with fail
    rw [← hW0]
    refine C.out.mono ?_
    rintro e w1 ⟨b1, hc⟩
    have HB1 := Lib.hid (B0.out.trans (b1.mono (by omega)))
    obtain ⟨q0, q1, q2, q3, -, -, -⟩ := blk4 (K2.out.below b1 (by omega))
    clear hW0 C b1
    rcases hc with ⟨rfl, hno⟩ | ⟨i, f, hi, hfn, rfl⟩
    · have HRES := Lib.hid (show readS s.data.toList ⟨V, free, fuse, false⟩ = (4, []) by
        unfold readS
        rw [vlook_no (V := V) (fun t ht => by
          rw [← HV.out] at ht
          obtain ⟨g, hg, rfl⟩ := List.mem_map.1 ht
          exact hno g hg)]
        rfl)
      clear hno
      go_wp2
      go_ret2
      exact rread_fin (A := none) (c := 0) (bs := []) HRES.out ⟨rfl, fun h => by cases h⟩ HB1.out
    · have hi0 : (0 : Int) ≤ (i : Int) := by omega
      have hil := (List.getElem?_eq_some_iff.1 hi).1
      have hin : (i : Int) < (n : Int) := by omega
      obtain ⟨b, o, rfl, hYb, hbl, hcl⟩ := H.out.2.2 (by omega)
      have y1 : w1.cell? ⟨b, o + i * 3 + 1, none⟩ = some (.slice f.B f.bs.length f.c) := by rw [HB1.out.cell (p := ⟨b, o + i * 3 + 1, none⟩) hbl]; exact (hcl i f hi).2.1
      have hft : f.t ∈ V := by rw [← HV.out]; exact List.mem_map.2 ⟨f, List.mem_of_getElem? hi, rfl⟩
      have HRES := Lib.hid (show readS s.data.toList ⟨V, free, fuse, false⟩ = (0, f.bs) by
        unfold readS
        rw [vlook_of HR.out hft hfn]; rfl)
      have HY := Lib.hid ((H.out.2.1 f (List.mem_of_getElem? hi)).below hY HB1.out).1
      clear hcl hi hfn hft
      go_wp2
      go_ret2
      exact rread_fin HRES.out HY.out HB1.out
end Go.Proofs.Yteokiaeojgjpdaa
