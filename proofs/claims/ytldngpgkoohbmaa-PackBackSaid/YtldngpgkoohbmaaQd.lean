/- What was written is read: Read with PackBack's function; a byte more leaves what was there. -/
import Derived.Test.YtldngpgkoohbmaaQc
import Derived.Test.YtldngpgkoohbmaaPx
namespace Go.Proofs.Ytldngpgkoohbmaa
open Go.RowKit

def BQ (V : World) (ob rp : Nat) (r : List UInt8) (bs' : List UInt8) (w' : World) : Prop := bs' = r ∧ Blk w' ob 4 #[.bool true] ∧ Blk w' (rp + 1) 66 #[.pointer (some ⟨rp, 0, none⟩)] ∧ Kept (fun j => j = rp ∨ j = ob) V w'
def BQ2 (V : World) (ob rp : Nat) (_ : List UInt8) (w' : World) : Prop := Blk w' ob 4 #[.bool true] ∧ Blk w' (rp + 1) 66 #[.pointer (some ⟨rp, 0, none⟩)] ∧ Kept (fun j => j = rp ∨ j = ob) V w'
theorem StrsAt.below {w w' : World} {A : Option Addr} {n : Nat} {ss : List ByteArray} (h : StrsAt w A n ss) (hb : Below w.heap.size w w') : StrsAt w' A n ss :=
  ⟨h.1, fun hn => by
    obtain ⟨b, o, e, hlt, hc⟩ := h.2 hn
    exact ⟨b, o, e, Nat.lt_of_lt_of_le hlt hb.size, fun i s hi => (hb.cell (p := ⟨b, o + i, none⟩) hlt).trans (hc i s hi)⟩⟩
theorem IntsAt.below_ {w w' : World} {A : Option Addr} {n : Nat} {zs : List Int} (h : IntsAt w A n zs) (hb : Below w.heap.size w w') : IntsAt w' A n zs :=
  ⟨h.1, fun hn => by
    obtain ⟨b, o, e, hlt, hc⟩ := h.2 hn
    exact ⟨b, o, e, Nat.lt_of_lt_of_le hlt hb.size, fun i s hi => (hb.cell (p := ⟨b, o + i, none⟩) hlt).trans (hc i s hi)⟩⟩
section
variable {V : World} {nb ob tb : Nat} {A B C : Option Addr} {n c m d L k : Nat} {ns : List Int} {ss : List ByteArray}
theorem back_read {r : List UInt8} (hn : Blk V nb 64 #[.slice A n c]) (ho : Blk V ob 4 #[.bool true]) (ht : Blk V tb 55 #[.slice B m d]) (hN : IntsAt V A n ns) (hS : StrsAt V B m ss) (hnl : n ≤ maxLen) (hml : m ≤ maxLen) (h4 : nb ≠ ob) (h5 : tb ≠ ob)
    (hA : 0 < n → ∀ b o, A = some ⟨b, o, none⟩ → b < V.heap.size ∧ b ≠ ob) (hB : 0 < m → ∀ b o, B = some ⟨b, o, none⟩ → b < V.heap.size ∧ b ≠ ob) (hC : ∀ b o, C = some ⟨b, o, none⟩ → b < V.heap.size ∧ b ≠ ob) (hy : BytesAt V C L ((encN (ns.take 50) ++ encT (tl (tsOf ss))) ++ r)) (hLk : L ≤ k) (hLm : L ≤ maxLen) :
    Calls Try.prog 34 #[.slice C L k, .func (.func 42) #[] #[.pointer (some ⟨nb, 0, none⟩), .pointer (some ⟨ob, 0, none⟩), .pointer (some ⟨tb, 0, none⟩)]] V fun e w' => e = .returned (.int .i64 (if r.isEmpty then 0 else 80)) ∧ Blk w' ob 4 #[.bool true] ∧ Kept (fun j => j = ob) V w' := by
  have ln := hn.lt
  have lo := ho.lt
  have lt := ht.lt
  have bel : Below V.heap.size V ((V.alloc (.cells #[.slice C L k, .bool true, .bool false] 107)).alloc (.cells #[.pointer (some ⟨V.heap.size, 0, none⟩)] 66)) := ((Below.refl _ V).alloc (Nat.le_refl _) _).alloc (by simp) _
  have hr := rd_new V (X := fun j => ∃ o, C = some ⟨j, o, none⟩) hy hLk hLm (fun b o e => ⟨o, e⟩) (by rintro ⟨o, e⟩; have := (hC _ o e).1; omega)
  have hbx := box_new V C L k
  have G := read_ret (w := V) (A := C) (m := L) (c := k) (X := fun j => ∃ o, C = some ⟨j, o, none⟩) 42 #[.pointer (some ⟨nb, 0, none⟩), .pointer (some ⟨ob, 0, none⟩), .pointer (some ⟨tb, 0, none⟩)] (fun args W => by kernel_rfl) (BQ ((V.alloc (.cells #[.slice C L k, .bool true, .bool false] 107)).alloc (.cells #[.pointer (some ⟨V.heap.size, 0, none⟩)] 66)) ob V.heap.size r) (fun bs' w' h => h.2.2.1)
    ((back1_any (some r) hr ((hn.alloc _).alloc _) ((ho.alloc _).alloc _) ((ht.alloc _).alloc _) (hN.below_ bel) (hS.below bel) hnl hml (by omega) (by omega) (by omega) h4 h5 (by rintro ⟨o, e⟩; exact (hC _ o e).2 rfl) (fun h0 b o e => ⟨by have := (hA h0 b o e).1; omega, (hA h0 b o e).2⟩) (fun h0 b o e => ⟨by have := (hB h0 b o e).1; omega, (hB h0 b o e).2⟩) (fun e => by cases e)).mono (by
      rintro e w' ⟨⟨rfl, hr'⟩, hob, hk⟩
      exact ⟨r, rfl, hr', rfl, hob, hbx.kept hk (by omega), hk⟩))
  refine G.mono ?_
  rintro e w' ⟨bs', w1, w2, rfl, ⟨rfl, hob, _, hk⟩, hb, hk2⟩
  refine ⟨by rw [Bool.true_and], (hob.below hb hob.lt).kept hk2 (by omega), ?_⟩
  have k0 : Kept (fun j => j = ob) V w1 := (((Kept.refl (fun j => j = ob) V).alloc _).alloc _).trans hk (fun j hj => by
    rcases hj with h | h
    · right; omega
    · left; exact h)
  exact (k0.trans (kept_below (X := fun _ => False) hb) (fun j hj => False.elim hj)).trans hk2 (fun j hj => by
    right
    have : j = V.heap.size := hj
    omega)
theorem back_stop (hn : Blk V nb 64 #[.slice A n c]) (ho : Blk V ob 4 #[.bool true]) (ht : Blk V tb 55 #[.slice B m d]) (hN : IntsAt V A n ns) (hS : StrsAt V B m ss) (hnl : n ≤ maxLen) (hml : m ≤ maxLen) (h4 : nb ≠ ob) (h5 : tb ≠ ob)
    (hA : 0 < n → ∀ b o, A = some ⟨b, o, none⟩ → b < V.heap.size ∧ b ≠ ob) (hB : 0 < m → ∀ b o, B = some ⟨b, o, none⟩ → b < V.heap.size ∧ b ≠ ob) (hC : ∀ b o, C = some ⟨b, o, none⟩ → b < V.heap.size ∧ b ≠ ob) (hy : BytesAt V C L (encN (ns.take 50) ++ encT (tl (tsOf ss))).dropLast) (hLk : L ≤ k) (hLm : L ≤ maxLen) (hne : encN (ns.take 50) ++ encT (tl (tsOf ss)) ≠ []) :
    Calls Try.prog 34 #[.slice C L k, .func (.func 42) #[] #[.pointer (some ⟨nb, 0, none⟩), .pointer (some ⟨ob, 0, none⟩), .pointer (some ⟨tb, 0, none⟩)]] V fun e w' => e = .returned (.int .i64 80) ∧ Blk w' ob 4 #[.bool true] ∧ Kept (fun j => j = ob) V w' := by
  have ln := hn.lt
  have lo := ho.lt
  have lt := ht.lt
  have bel : Below V.heap.size V ((V.alloc (.cells #[.slice C L k, .bool true, .bool false] 107)).alloc (.cells #[.pointer (some ⟨V.heap.size, 0, none⟩)] 66)) := ((Below.refl _ V).alloc (Nat.le_refl _) _).alloc (by simp) _
  have hr := rd_new V (X := fun j => ∃ o, C = some ⟨j, o, none⟩) hy hLk hLm (fun b o e => ⟨o, e⟩) (by rintro ⟨o, e⟩; have := (hC _ o e).1; omega)
  have hbx := box_new V C L k
  have G := read_pan (w := V) (A := C) (m := L) (c := k) (X := fun j => ∃ o, C = some ⟨j, o, none⟩) 42 #[.pointer (some ⟨nb, 0, none⟩), .pointer (some ⟨ob, 0, none⟩), .pointer (some ⟨tb, 0, none⟩)] (fun args W => by kernel_rfl) (BQ2 ((V.alloc (.cells #[.slice C L k, .bool true, .bool false] 107)).alloc (.cells #[.pointer (some ⟨V.heap.size, 0, none⟩)] 66)) ob V.heap.size) (fun bs' w' h => h.2.1)
    ((back1_any none hr ((hn.alloc _).alloc _) ((ho.alloc _).alloc _) ((ht.alloc _).alloc _) (hN.below_ bel) (hS.below bel) hnl hml (by omega) (by omega) (by omega) h4 h5 (by rintro ⟨o, e⟩; exact (hC _ o e).2 rfl) (fun h0 b o e => ⟨by have := (hA h0 b o e).1; omega, (hA h0 b o e).2⟩) (fun h0 b o e => ⟨by have := (hB h0 b o e).1; omega, (hB h0 b o e).2⟩) (fun _ => hne)).mono (by
      rintro e w' ⟨⟨rfl, bs', hr'⟩, hob, hk⟩
      exact ⟨bs', rfl, hr', hob, hbx.kept hk (by omega), hk⟩))
  refine G.mono ?_
  rintro e w' ⟨bs', w1, w2, rfl, ⟨hob, _, hk⟩, hb, hk2⟩
  refine ⟨rfl, (hob.below hb hob.lt).kept hk2 (by omega), ?_⟩
  have k0 : Kept (fun j => j = ob) V w1 := (((Kept.refl (fun j => j = ob) V).alloc _).alloc _).trans hk (fun j hj => by
    rcases hj with h | h
    · right; omega
    · left; exact h)
  exact (k0.trans (kept_below (X := fun _ => False) hb) (fun j hj => False.elim hj)).trans hk2 (fun j hj => by
    right
    have : j = V.heap.size := hj
    omega)
end
/-- A byte more behind a row: what was there is still there, whatever block the longer one has. -/
theorem push_keeps {W : World} {A' : Option Addr} {cp : Nat} {xs : List UInt8} {z : UInt8} (ty : TypeId) (ho : W.ownsRow 0 5 1 (.slice A' xs.length cp) xs.length (xs.map u8V)) (hl : xs.length + 1 ≤ 1000000000) :
    ∃ A2 c2 W', (Builtin.append_ #[30, 30] ty #[.slice A' xs.length cp, .slice (some ⟨W.heap.size, 0, none⟩) 1 1]).run Try.prog (W.alloc (.cells #[u8V z] 5)) = .ok (.slice A2 (xs.length + 1) c2) W' ∧ xs.length + 1 ≤ c2 ∧ BytesAt W' A2 (xs.length + 1) (xs ++ [z]) ∧ BytesAt W' A' xs.length xs ∧ (∀ b o, A2 = some ⟨b, o, none⟩ → b < W'.heap.size ∧ (A' = some ⟨b, o, none⟩ ∨ W.heap.size ≤ b)) ∧ (∀ j, j < W.heap.size → (∀ o, A' ≠ some ⟨j, o, none⟩) → W'.heap[j]? = W.heap[j]?) ∧ W.heap.size ≤ W'.heap.size ∧ W'.os = W.os ∧ W'.tape = W.tape ∧ W'.output = W.output := by
  obtain ⟨i0, hi0, hz0, hz1, hz2⟩ := info_parts byte_info
  have h0 : (W.alloc (.cells #[u8V z] 5)).ownsRow 0 5 1 (.slice A' xs.length cp) xs.length (xs.map u8V) := ho.alloc _
  obtain ⟨A2, c2, W', h1, h2, h3, h4⟩ := append_bytes (c := 1) ty h0 (bytes_new W [z] (0, 0)) (by simpa using hl)
  have h1 : (Builtin.append_ #[30, 30] ty #[.slice A' xs.length cp, .slice (some ⟨W.heap.size, 0, none⟩) 1 1]).run Try.prog (W.alloc (.cells #[u8V z] 5)) = .ok (.slice A2 (xs.length + 1) c2) W' := h1
  have h4 : (Value.slice A2 (xs.length + 1) c2).ownBlock = (Value.slice A' xs.length cp).ownBlock ∨ (Value.slice A2 (xs.length + 1) c2).ownBlock = some (W.heap.size + 1) := by
    have h5 := h4
    rw [World.size_alloc] at h5
    exact h5
  obtain ⟨A3, c3, e3, hb3, _⟩ := row_bytes h2
  obtain ⟨A4, c4, e4, hc4, _⟩ := row_shape h2
  have hl1 : (xs ++ [z]).length = xs.length + 1 := by simp
  rw [hl1] at e3 hb3 e4 hc4
  injection e3 with e31 _ e33
  injection e4 with e41 _ e43
  subst e31 e33 e43
  have hsz : W.heap.size + 1 ≤ W'.heap.size := by have := h3.size; simpa using this
  refine ⟨A2, c2, W', h1, hc4, hb3, ?_, ?_, ?_, by omega, h3.os, h3.tape, h3.output⟩
  · rcases ho.2 with ⟨e, hx⟩ | ⟨g, cap, cur, e, hbg, hg, hnc, hcm, hcs, htake⟩
    · obtain rfl : xs = [] := List.eq_nil_of_length_eq_zero hx
      exact ⟨rfl, fun h => by simp at h⟩
    · injection e with e5 _ e6
      subst e5 e6
      by_cases hroom : xs.length + 1 ≤ cp
      · have hg' : (W.alloc (.cells #[u8V z] 5)).heap[g]? = some (.cells cur 5 (0, 0)) := (Below.heap_alloc W _ g (Array.getElem?_eq_some_iff.1 hg).1).trans hg
        have hr := run_append_room (P := Try.prog) (W.alloc (.cells #[u8V z] 5)) 30 ty 5 i0 Try.underlying30 hi0 g xs.length cp cur hg' ⟨W.heap.size, 0, none⟩ 1 1 [u8V z] (by rw [hz1]; rfl) (World.news_of_block (heap_alloc_new W _)) (fun u hu => by simp at hu; subst hu; rfl) hroom (by rw [hz1]; simp; omega)
        rw [h1] at hr
        injection hr with hr _
        injection hr with hr _ _
        subst hr
        have := hb3.cut (k := xs.length) (by omega)
        rw [List.take_left' rfl] at this
        exact this
      · have holds : ∀ j u, (xs.map u8V)[j]? = some u → (W.alloc (.cells #[u8V z] 5)).cell? ((⟨g, 0, none⟩ : Addr).add j) = some u := h0.cells (g := g) rfl
        have hr := run_append_grow (P := Try.prog) (W.alloc (.cells #[u8V z] 5)) 30 ty 5 i0 _ Try.underlying30 hi0 hz0 ⟨g, 0, none⟩ xs.length cp (xs.map u8V) (by rw [hz1]; simp) holds ⟨W.heap.size, 0, none⟩ 1 1 [u8V z] (by rw [hz1]; rfl) (World.news_of_block (heap_alloc_new W _)) (by omega) (by omega) (growslice_fits (by omega) (by rw [hz2]; omega))
        rw [h1] at hr
        injection hr with _ hr
        obtain ⟨A5, c5, e5, hb5, _⟩ := row_bytes ho
        injection e5 with e5 _ _
        subst e5
        refine hb5.up (fun b hb => ?_) (by omega)
        rw [hr]
        exact (Below.heap_alloc _ _ b (by simp; omega)).trans (Below.heap_alloc W _ b hb)
  · intro b o e
    rcases h2.2 with ⟨e5, h5⟩ | ⟨g, cap, cur, e5, _, hg, _⟩
    · simp at h5
    · injection e5 with e5 _ _
      rw [e] at e5
      injection e5 with e5
      injection e5 with e5 e6 _
      subst e5 e6
      refine ⟨(Array.getElem?_eq_some_iff.1 hg).1, ?_⟩
      rcases h4 with h4 | h4
      · left
        rw [e] at h4
        have key : ∀ v : Value, v = .slice A' xs.length cp → (v = .slice none 0 0 ∨ ∃ g cap, v = .slice (some ⟨g, 0, none⟩) xs.length cap) → some b = v.ownBlock → A' = some ⟨b, 0, none⟩ := by
          intro v hv hw hb
          rcases hw with hw | ⟨g, cap, hw⟩
          · rw [hw] at hb; cases hb
          · rw [hw] at hv hb
            have h8 : some ⟨g, 0, none⟩ = A' := (Value.slice.inj hv).1
            have h9 : some b = some g := hb
            have h10 : b = g := Option.some.inj h9
            subst h10
            exact h8.symm
        exact key _ rfl (ho.2.imp (fun h => h.1) (fun ⟨g, cap, _, e, _⟩ => ⟨g, cap, e⟩)) h4
      · right
        rw [e] at h4
        have h6 : some b = some (W.heap.size + 1) := h4
        injection h6 with h6
        omega
  · intro j hj hne
    refine (h3.block j (by simp; omega) (fun e => ?_)).trans (Below.heap_alloc W _ j hj)
    rcases ho.2 with ⟨e7, hx⟩ | ⟨g, cap, cur, e7, _⟩
    · rw [e7] at e; simp [Value.ownBlock] at e
    · rw [e7] at e
      injection e7 with e7 _ _
      have : j = g := by simpa [Value.ownBlock] using e
      exact hne 0 (by rw [e7, this])
end Go.Proofs.Ytldngpgkoohbmaa
