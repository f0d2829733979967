/- A payload's parts. -/
import Derived.Test.YtdhiofbimebbkaaDoorJd
namespace Go.Proofs.YtdhiofbimebbkaaDoor
open Go.RowKit
theorem PsAt.below {w w' : World} {pb kp db ob b o m c : Nat} {x y z : Value} (h : PsAt w pb kp db ob b o m c x y z) (hb : Below w.heap.size w w') : PsAt w' pb kp db ob b o m c x y z :=
  ⟨h.p.below hb h.p.lt, h.k.below hb h.k.lt, h.d.below hb h.d.lt, h.ok.below hb h.ok.lt⟩
def partsW (w : World) (b o m c : Nat) : World := (((w.alloc (.cells #[.slice (some ⟨b, o, none⟩) m c] 30)).alloc (.cells #[.int .i64 0] 2)).alloc (.cells #[.slice none 0 0] 30)).alloc (.cells #[.bool false] 4)
theorem partsW_at (w : World) (b o m c : Nat) : (partsW w b o m c).heap.size = w.heap.size + 4 ∧ Below w.heap.size w (partsW w b o m c) ∧ PsAt (partsW w b o m c) w.heap.size (w.heap.size + 1) (w.heap.size + 2) (w.heap.size + 3) b o m c (.int .i64 0) (.slice none 0 0) (.bool false) := by
  refine ⟨by simp [partsW], ((((Below.refl _ w).alloc (Nat.le_refl _) _).alloc (by simp) _).alloc (by simp; omega) _).alloc (by simp; omega) _, ?_⟩
  have a1 := Blk.new w 30 #[.slice (some ⟨b, o, none⟩) m c]
  have a2 := Blk.new (w.alloc (.cells #[.slice (some ⟨b, o, none⟩) m c] 30)) 2 #[.int .i64 0]
  have a3 := Blk.new ((w.alloc (.cells #[.slice (some ⟨b, o, none⟩) m c] 30)).alloc (.cells #[.int .i64 0] 2)) 30 #[.slice none 0 0]
  have a4 := Blk.new (((w.alloc (.cells #[.slice (some ⟨b, o, none⟩) m c] 30)).alloc (.cells #[.int .i64 0] 2)).alloc (.cells #[.slice none 0 0] 30)) 4 #[.bool false]
  simp only [World.size_alloc] at a2 a3 a4
  exact ⟨((a1.alloc _).alloc _).alloc _, (a2.alloc _).alloc _, a3.alloc _, a4⟩
theorem PsAt.setk {w : World} {pb kp db ob b o m c : Nat} {x y z : Value} (h : PsAt w pb kp db ob b o m c x y z) (h1 : pb ≠ kp) (h2 : db ≠ kp) (h3 : ob ≠ kp) : PsAt (w.setCell ⟨kp, 0, none⟩ x) pb kp db ob b o m c x y z :=
  ⟨h.p.far (p := ⟨kp, 0, none⟩) h1 x, h.k.set_ 0 x, h.d.far (p := ⟨kp, 0, none⟩) h2 x, h.ok.far (p := ⟨kp, 0, none⟩) h3 x⟩
theorem PsAt.setd {w : World} {pb kp db ob b o m c : Nat} {x y z : Value} (h : PsAt w pb kp db ob b o m c x y z) (h1 : pb ≠ db) (h2 : kp ≠ db) (h3 : ob ≠ db) : PsAt (w.setCell ⟨db, 0, none⟩ y) pb kp db ob b o m c x y z :=
  ⟨h.p.far (p := ⟨db, 0, none⟩) h1 y, h.k.far (p := ⟨db, 0, none⟩) h2 y, h.d.set_ 0 y, h.ok.far (p := ⟨db, 0, none⟩) h3 y⟩
theorem PsAt.seto {w : World} {pb kp db ob b o m c : Nat} {x y z : Value} (h : PsAt w pb kp db ob b o m c x y z) (h1 : pb ≠ ob) (h2 : kp ≠ ob) (h3 : db ≠ ob) : PsAt (w.setCell ⟨ob, 0, none⟩ z) pb kp db ob b o m c x y z :=
  ⟨h.p.far (p := ⟨ob, 0, none⟩) h1 z, h.k.far (p := ⟨ob, 0, none⟩) h2 z, h.d.far (p := ⟨ob, 0, none⟩) h3 z, h.ok.set_ 0 z⟩
def PartQ (w : World) (b o m c n k : Nat) (bs' : List UInt8) (w' : World) : Prop := Blk w' (w.heap.size + 5) 90 #[.pointer (some ⟨w.heap.size + 4, 0, none⟩)] ∧ PsAt w' w.heap.size (w.heap.size + 1) (w.heap.size + 2) (w.heap.size + 3) b o m c (.int .i64 (n : Nat)) (dV b o m c k) (.bool true) ∧ Below w.heap.size w w'
set_option maxHeartbeats 2000000 in
set_option maxRecDepth 100000 in
theorem parts_yes {w : World} {b o m c n k : Nat} {bs : List UInt8} (hb : BytesAt w (some ⟨b, o, none⟩) m bs) (hbl : b < w.heap.size) (hmc : m ≤ c) (hcm : c ≤ maxLen) (hg : getL bs = (n, k)) (hk : 0 < k) (hn : n ≤ 1099511627776) (hd : m - k ≤ 536870912) :
    Calls Tryd.prog 42 #[.slice (some ⟨b, o, none⟩) m c] w fun e w' => e = .returned (.tuple #[.int .i64 (n : Nat), dV b o m c k, .bool true]) ∧ Below w.heap.size w w' := by
  have mixed : Tryd.prog.follows .mixedOrders = true := by kernel_rfl
  have hmf : ∀ (fn : Fn) (first cap : Array Value) (w : World), (Instr.makeFunc fn first cap).run Tryd.prog w = .ok (.func fn first cap) w := fun _ _ _ _ => rfl
  obtain ⟨W, hW⟩ : ∃ W, W = partsW w b o m c := ⟨_, rfl⟩
  obtain ⟨hs, hB, hP⟩ := partsW_at w b o m c
  rw [← hW] at hs hB hP
  have hr := rd_new W (c := c) (X := (· = b)) (hb.below hB) hmc (by omega) (fun b' o' e => by injection e with e; injection e with e _ _; exact e.symm) (by rw [hs]; show ¬ w.heap.size + 4 = b; omega)
  have hbx := box_new W (some ⟨b, o, none⟩) m c
  have hP2 : PsAt ((W.alloc (.cells #[.slice (some ⟨b, o, none⟩) m c, .bool true, .bool false] 101)).alloc (.cells #[.pointer (some ⟨W.heap.size, 0, none⟩)] 90)) w.heap.size (w.heap.size + 1) (w.heap.size + 2) (w.heap.size + 3) b o m c (.int .i64 0) (.slice none 0 0) (.bool false) :=
    hP.below (((Below.refl _ W).alloc (Nat.le_refl _) _).alloc (by simp) _)
  have C := Lib.hid (read_ret (w := W) (A := some ⟨b, o, none⟩) (m := m) (c := c) (X := (· = b)) 55 #[.pointer (some ⟨w.heap.size, 0, none⟩), .pointer (some ⟨w.heap.size + 1, 0, none⟩), .pointer (some ⟨w.heap.size + 2, 0, none⟩), .pointer (some ⟨w.heap.size + 3, 0, none⟩)] (fun args W => by kernel_rfl) (PartQ w b o m c n k) (fun bs' w' h => by rw [hs]; exact h.1)
    ((parts1_yes hr hP2 ⟨by omega, by omega, by omega, by omega, by omega, by omega, by omega, by omega, by omega, by omega⟩ ⟨by omega, by omega, by omega⟩ hb.1 hmc hcm hg hk hn hd).mono (by
      rintro e w' ⟨rfl, hr', hp', hk'⟩
      refine ⟨_, rfl, hr', ?_, hp', ?_⟩
      · have := hbx.kept hk' (by rintro (h | h | h | h) <;> omega)
        rw [hs] at this; exact this
      · exact (hB.trans ((((Below.refl _ W).alloc (Nat.le_refl _) _).alloc (by simp) _).mono hB.size)).trans (hk'.below (by simp [hs]; omega) (fun j hj => by rcases hj with h | h | h | h <;> omega)))))
  rw [hW] at C
  simp only [partsW, World.size_alloc] at C
  obtain ⟨D, hD⟩ : ∃ D, dV b o m c k = .slice D (m - k) (c - k) := ⟨_, rfl⟩
  have HD := Lib.hid hD
  clear hs hB hP hr hbx hW hP2 hb hD
  go_enter Tryd.func42, Tryd.ntmps42
  go_wp2_with fail
  refine C.out.mono ?_
  rintro e w' ⟨bs', w1, w2, rfl, ⟨hbx, hp, hB⟩, hb12, hk⟩
  have p2 := (hp.below hb12).kept hk (by show ¬ w.heap.size = w.heap.size + 1 + 1 + 1 + 1; omega) (by show ¬ w.heap.size + 1 = w.heap.size + 1 + 1 + 1 + 1; omega) (by show ¬ w.heap.size + 2 = w.heap.size + 1 + 1 + 1 + 1; omega) (by show ¬ w.heap.size + 3 = w.heap.size + 1 + 1 + 1 + 1; omega)
  rw [HD.out] at p2
  have HB := Lib.hid ((hB.trans (hb12.mono hB.size)).trans (hk.below (B := w.heap.size) (by have := hb12.size; have := hB.size; omega) (fun j hj => by have : j = w.heap.size + 1 + 1 + 1 + 1 := hj; omega)))
  have P2 := Lib.hid (show PsAt w' w.heap.size (w.heap.size + 1) (w.heap.size + 1 + 1) (w.heap.size + 1 + 1 + 1) b o m c (.int .i64 (n : Nat)) (.slice D (m - k) (c - k)) (.bool true) from p2)
  generalize (if (true && bs'.isEmpty) = true then (0 : Int) else 80) = rr
  clear hbx hp hB hb12 hk p2 C
  go_wp2_with fail
  refine wp_region_held_drew (S := fun W => PsAt W w.heap.size (w.heap.size + 1) (w.heap.size + 1 + 1) (w.heap.size + 1 + 1 + 1) b o m c (.int .i64 (n : Nat)) (.slice D (m - k) (c - k)) (.bool true) ∧ Below w.heap.size w W) mixed ⟨⟨P2.out.p, P2.out.k, P2.out.d, P2.out.ok⟩, ⟨HB.out.os, HB.out.tape, HB.out.output, HB.out.size, HB.out.block⟩⟩ (fun hS => ?_)
  refine wpAnyH_take (i := 0) (v := .int .i64 (n : Nat)) rfl (by kernel_rfl) (by kernel_rfl) (by kernel_rfl) (fun _ _ _ h => h) (Or.inl ⟨by rfl, fun W hW => by have h0 := hW.1.k.cell 0; go_simp⟩) hS ?_
  refine wpAnyH_take (i := 1) (v := .slice D (m - k) (c - k)) rfl (by kernel_rfl) (by kernel_rfl) (by kernel_rfl) (fun _ _ _ h => h) (Or.inl ⟨by rfl, fun W hW => by have h0 := hW.1.d.cell 0; go_simp⟩) hS ?_
  refine wpAnyH_take (i := 2) (v := .bool true) rfl (by kernel_rfl) (by kernel_rfl) (by kernel_rfl) (fun _ _ _ h => h) (Or.inl ⟨by rfl, fun W hW => by have h0 := hW.1.ok.cell 0; go_simp⟩) hS ?_
  have s0 := hS.1.k.cell 0
  have s1 := hS.1.k.frozen 0
  have t0 := hS.1.d.cell 0
  have t1 := hS.1.d.frozen 0
  have u0 := hS.1.ok.cell 0
  have u1 := hS.1.ok.frozen 0
  refine wpAnyH_ready (rs := [3]) (by kernel_rfl) (by simp) ?_
  refine AllReadyH.cons rfl (fun K hK => ?_) AllReadyH.nil
  go_simp
  refine hK.out _ _ ⟨PsAt.setk hS.1 (by omega) (by omega) (by omega), hS.2.setCell (p := ⟨w.heap.size + 1, 0, none⟩) (by simp) _⟩ (fun hS => ?_)
  clear hK K s0 s1 t0 t1 u0 u1
  have t0 := hS.1.d.cell 0
  have t1 := hS.1.d.frozen 0
  refine wpAnyH_ready (rs := [4]) (by kernel_rfl) (by simp) ?_
  refine AllReadyH.cons rfl (fun K hK => ?_) AllReadyH.nil
  go_simp
  refine hK.out _ _ ⟨PsAt.setd hS.1 (by omega) (by omega) (by omega), hS.2.setCell (p := ⟨w.heap.size + 1 + 1, 0, none⟩) (by simp; omega) _⟩ (fun hS => ?_)
  clear hK K t0 t1
  have u0 := hS.1.ok.cell 0
  have u1 := hS.1.ok.frozen 0
  refine wpAnyH_ready (rs := [5]) (by kernel_rfl) (by simp) ?_
  refine AllReadyH.cons rfl (fun K hK => ?_) AllReadyH.nil
  go_simp
  refine hK.out _ _ ⟨PsAt.seto hS.1 (by omega) (by omega) (by omega), hS.2.setCell (p := ⟨w.heap.size + 1 + 1 + 1, 0, none⟩) (by simp; omega) _⟩ (fun hS => ?_)
  clear hK K u0 u1
  refine wpAnyH_done (by kernel_rfl) ?_ _
  have s0 := hS.1.k.cell 0
  have t0 := hS.1.d.cell 0
  have u0 := hS.1.ok.cell 0
  go_wp2
  refine bodyPost_ret (v := .tuple #[.int .i64 (n : Nat), .slice D (m - k) (c - k), .bool true]) (by simp [results, Tryd.results42, go_sem, *]) rfl ⟨by rw [HD.out], hS.2⟩
end Go.Proofs.YtdhiofbimebbkaaDoor
