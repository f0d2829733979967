/- The document's example of Read (reading). -/
import Derived.Test.YteokiaeojgjpdaaPe
namespace Go.Proofs.Yteokiaeojgjpdaa
open Go.RowKit

theorem rd_new (w : World) {A : Option Addr} {m c : Nat} {bs : List UInt8} {X : Nat → Prop} (hb : BytesAt w A m bs) (hc : m ≤ c) (hm : m ≤ maxLen) (hX : ∀ b o, A = some ⟨b, o, none⟩ → X b) (hn : ¬ X w.heap.size) :
    RdAt ((w.alloc (.cells #[.slice A m c, .bool true, .bool false] 144)).alloc (.cells #[.pointer (some ⟨w.heap.size, 0, none⟩)] 76)) w.heap.size X bs false :=
  ⟨⟨A, m, c, (Blk.new w _ _).alloc _, hb.below (((Below.refl _ w).alloc (Nat.le_refl _) _).alloc (by simp) _), hc, hm, hX⟩, hn⟩
theorem box_new (w : World) (A : Option Addr) (m c : Nat) : Blk ((w.alloc (.cells #[.slice A m c, .bool true, .bool false] 144)).alloc (.cells #[.pointer (some ⟨w.heap.size, 0, none⟩)] 76)) (w.heap.size + 1) 76 #[.pointer (some ⟨w.heap.size, 0, none⟩)] := by
  simpa using Blk.new (w.alloc (.cells #[.slice A m c, .bool true, .bool false] 144)) 76 #[.pointer (some ⟨w.heap.size, 0, none⟩)]
theorem Blk.kept {w w' : World} {g : Nat} {t : TypeId} {cs : Array Value} {Y : Nat → Prop} (h : Blk w g t cs) (k : Kept Y w w') (hn : ¬ Y g) : Blk w' g t cs := (k.block g h.lt hn).trans h
theorem RdAt.set_ {w : World} {rp : Nat} {X : Nat → Prop} {bs : List UInt8} {rf : Bool} (h : RdAt w rp X bs rf) {p : Addr} (h0 : p.block ≠ rp) (h1 : ¬ X p.block) (u : Value) : RdAt (w.setCell p u) rp X bs rf :=
  h.keep (Below.heap_setCell _ _ _ _ (fun e => h0 e.symm)) (fun b hb _ => Below.heap_setCell _ _ _ _ (fun e => h1 (by rw [← e]; exact hb))) (by simp [World.setCell])
set_option maxHeartbeats 1000000 in
set_option maxRecDepth 100000 in
theorem reading1_any {w : World} {rp nb sb : Nat} {X : Nat → Prop} {x y : Value} (h : RdAt w rp X [172, 2, 1, 97] false) (hn : Blk w nb 2 #[x]) (hs : Blk w sb 9 #[y]) (h1 : nb ≠ rp) (h2 : sb ≠ rp) (h3 : nb ≠ sb) (hX1 : ¬ X nb) (hX2 : ¬ X sb) :
    Calls Try.prog 82 #[.pointer (some ⟨rp, 0, none⟩), .pointer (some ⟨nb, 0, none⟩), .pointer (some ⟨sb, 0, none⟩)] w fun e w' => e = .returned (.tuple #[]) ∧ RdAt w' rp X [] false ∧ Blk w' nb 2 #[.int .i64 300] ∧ Blk w' sb 9 #[.string ⟨#[97]⟩] ∧ Kept (fun j => j = rp ∨ j = nb ∨ j = sb) w w' := by
  have C1 := Lib.hid (rdNum_yes h (n := 300) (k := 2) (by decide) (by decide))
  have HN := Lib.hid hn
  have HS := Lib.hid hs
  clear h hn hs
  go_enter Try.func82, Try.ntmps82
  go_wp2_with fail
  refine C1.out.mono ?_
  rintro e w1 ⟨rfl, hr1, k1⟩
  have hn1 := HN.out.kept k1 h1
  have hs1 := HS.out.kept k1 h2
  have q0 : w1.cell? ⟨nb, 0, none⟩ = some x := hn1.cell 0
  have q1 : w1.frozen? ⟨nb, 0, none⟩ = false := hn1.frozen 0
  have C2 := Lib.hid (rdText_yes (hr1.set_ (p := ⟨nb, 0, none⟩) h1 hX1 (.int .i64 300)) 1 (by decide) (by decide) (s := [97]) (q := 2) (by decide) (by decide))
  have HN1 := Lib.hid (hn1.set_ 0 (.int .i64 300))
  have HS1 := Lib.hid (hs1.far (p := ⟨nb, 0, none⟩) (fun e => h3 e.symm) (.int .i64 300))
  have K1 := Lib.hid (k1.mono (Y := fun j => j = rp ∨ j = nb ∨ j = sb) (fun j _ hj => .inl hj))
  clear hr1 hn1 hs1 k1
  go_wp2_with fail
  refine C2.out.mono ?_
  rintro e w2 ⟨rfl, hr2, k2⟩
  have hs2 := HS1.out.kept k2 h2
  have q0 : w2.cell? ⟨sb, 0, none⟩ = some y := hs2.cell 0
  have q1 : w2.frozen? ⟨sb, 0, none⟩ = false := hs2.frozen 0
  have HR2 := Lib.hid (hr2.set_ (p := ⟨sb, 0, none⟩) h2 hX2 (.string ⟨#[97]⟩))
  have HN2 := Lib.hid ((HN1.out.kept k2 h1).far (p := ⟨sb, 0, none⟩) h3 (.string ⟨#[97]⟩))
  have HS2 := Lib.hid (hs2.set_ 0 (.string ⟨#[97]⟩))
  have K2 := Lib.hid (((K1.out.set_ (p := ⟨nb, 0, none⟩) (.inl (.inr (.inl rfl))) (.int .i64 300)).trans k2 (fun j hj => .inl (.inl hj))).set_ (p := ⟨sb, 0, none⟩) (.inl (.inr (.inr rfl))) (.string ⟨#[97]⟩))
  clear hs2 hr2 k2
  go_wp2
  go_end0
  exact ⟨rfl, HR2.out, HN2.out, HS2.out, K2.out⟩
def RdgQ (w : World) (bs' : List UInt8) (w' : World) : Prop := bs' = [] ∧ Blk w' w.heap.size 2 #[.int .i64 300] ∧ Blk w' (w.heap.size + 1) 9 #[.string ⟨#[97]⟩] ∧ Blk w' (w.heap.size + 4) 76 #[.pointer (some ⟨w.heap.size + 3, 0, none⟩)] ∧ Below w.heap.size w w'
theorem rdg_world (w : World) : ∀ W, W = ((w.alloc (.cells #[.int .i64 0] 2)).alloc (.cells #[.string ⟨#[]⟩] 9)).alloc (.cells #[.int .u8 172, .int .u8 2, .int .u8 1, .int .u8 97] 5) → W.heap.size = w.heap.size + 3 ∧ Below w.heap.size w W ∧ Blk W w.heap.size 2 #[.int .i64 0] ∧ Blk W (w.heap.size + 1) 9 #[.string ⟨#[]⟩] ∧ BytesAt W (some ⟨w.heap.size + 2, 0, none⟩) 4 [172, 2, 1, 97] := by
  rintro W rfl
  refine ⟨by simp, (((Below.refl _ w).alloc (Nat.le_refl _) _).alloc (by simp) _).alloc (by simp; omega) _, ((Blk.new w _ _).alloc _).alloc _, ?_, ?_⟩
  · simpa using (Blk.new (w.alloc (.cells #[.int .i64 0] 2)) 9 #[.string ⟨#[]⟩]).alloc (.cells #[.int .u8 172, .int .u8 2, .int .u8 1, .int .u8 97] 5)
  · have h := bytes_new ((w.alloc (.cells #[.int .i64 0] 2)).alloc (.cells #[.string ⟨#[]⟩] 9)) [172, 2, 1, 97] (0, 0)
    rw [World.size_alloc, World.size_alloc] at h
    exact h
set_option maxHeartbeats 1000000 in
set_option maxRecDepth 100000 in
theorem reading_any (w : World) : Calls Try.prog 34 #[] w fun e w' => e = .returned (.bool true) ∧ Below w.heap.size w w' := by
  have hmf : ∀ (fn : Fn) (first cap : Array Value) (w : World), (Instr.makeFunc fn first cap).run Try.prog w = .ok (.func fn first cap) w := fun _ _ _ _ => rfl
  obtain ⟨W, hW⟩ : ∃ W, W = ((w.alloc (.cells #[.int .i64 0] 2)).alloc (.cells #[.string ⟨#[]⟩] 9)).alloc (.cells #[.int .u8 172, .int .u8 2, .int .u8 1, .int .u8 97] 5) := ⟨_, rfl⟩
  obtain ⟨hs, hB, hn, hs2, hby⟩ := rdg_world w W hW
  have hr := rd_new W (c := 4) (X := (· = w.heap.size + 2)) hby (Nat.le_refl _) (by decide) (fun b o e => by injection e with e; injection e with e _ _; exact e.symm) (by rw [hs]; show ¬ w.heap.size + 3 = w.heap.size + 2; omega)
  have hbx := box_new W (some ⟨w.heap.size + 2, 0, none⟩) 4 4
  have C := Lib.hid (read_ret (w := W) (A := some ⟨w.heap.size + 2, 0, none⟩) (m := 4) (c := 4) (X := (· = w.heap.size + 2)) 82 #[.pointer (some ⟨w.heap.size, 0, none⟩), .pointer (some ⟨w.heap.size + 1, 0, none⟩)] (fun args W => by kernel_rfl) (RdgQ w) (fun bs' w' h => by rw [hs]; exact h.2.2.2.1)
    ((reading1_any hr ((hn.alloc _).alloc _) ((hs2.alloc _).alloc _) (by omega) (by omega) (by omega) (by omega) (by omega)).mono (by
      rintro e w' ⟨rfl, hr', hn', hs', hk⟩
      refine ⟨[], rfl, hr', rfl, hn', hs', ?_, ?_⟩
      · have := hbx.kept hk (by rw [hs]; omega)
        rw [hs] at this; exact this
      · exact (hB.trans ((((Below.refl _ W).alloc (Nat.le_refl _) _).alloc (by simp) _).mono hB.size)).trans (hk.below (by simp [hs]; omega) (fun j hj => by rcases hj with h | h | h <;> omega)))))
  rw [hW] at C
  simp only [World.size_alloc] at C
  have HS := Lib.hid hs
  clear hs hB hn hs2 hby hr hbx hW
  go_enter Try.func34, Try.ntmps34
  go_wp2_with fail
  refine C.out.mono ?_
  rintro e w' ⟨bs', w1, w2, rfl, ⟨rfl, hn, hs, hbx, hB⟩, hb12, hk⟩
  have z1 := hn.lt
  have z2 := hs.lt
  have n2 := (hn.below hb12 z1).kept hk (by show ¬ w.heap.size = w.heap.size + 1 + 1 + 1; omega)
  have s2 := (hs.below hb12 z2).kept hk (by show ¬ w.heap.size + 1 = w.heap.size + 1 + 1 + 1; omega)
  have q0 : w'.cell? ⟨w.heap.size, 0, none⟩ = some (.int .i64 300) := n2.cell 0
  have q1 : w'.cell? ⟨w.heap.size + 1, 0, none⟩ = some (.string ⟨#[97]⟩) := s2.cell 0
  have HB := Lib.hid ((hB.trans (hb12.mono hB.size)).trans (hk.below (by have := hb12.size; omega) (fun j hj => by rw [show j = w.heap.size + 1 + 1 + 1 from hj]; omega)))
  rw [show (if (true && ([] : List UInt8).isEmpty) = true then (0 : Int) else 80) = 0 from rfl]
  clear hn hs hbx hB hb12 hk n2 s2
  go_wp2
  go_ret
  exact ⟨rfl, HB.out⟩
end Go.Proofs.Yteokiaeojgjpdaa
