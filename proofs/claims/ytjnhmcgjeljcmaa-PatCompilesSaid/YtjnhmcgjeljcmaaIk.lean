/- The document's Compile. -/
import Derived.Test.YtjnhmcgjeljcmaaGm
import Derived.Test.YtjnhmcgjeljcmaaIj
import Derived.Test.YtjnhmcgjeljcmaaRz
import Derived.BigRegion
namespace Go.Proofs.Ytjnhmcgjeljcmaa
open Go.RowKit

def RCompR (w : World) (kind : Int) (s : ByteArray) (R : Tr × Int × Nat) (e : Ending) (w' : World) : Prop :=
  (R.2.1 = 0 ∧ ∃ d k A m c A' m' c', e = .returned (.tuple #[.agg #[.int .i64 kind, .string s, .int .i64 k, .slice A m c, .slice A' m' c'], .int .i64 0, .int .i64 0]) ∧ (kind ≠ 1 → GoodT d R.1 ∧ TreeAt w' (Fresh w w') d R.1 [.int .i64 k, .slice A m c, .slice A' m' c']) ∧ Below w.heap.size w w') ∨
  (R.2.1 ≠ 0 ∧ e = .returned (.tuple #[.agg #[.int .i64 0, .string ⟨#[]⟩, .int .i64 0, .slice none 0 0, .slice none 0 0], .int .i64 R.2.1, .int .i64 (R.2.2 : Nat)]) ∧ Below w.heap.size w w')
def RComp (w : World) (kind : Int) (s : ByteArray) (e : Ending) (w' : World) : Prop := RCompR w kind s (patP kind s.data.toList) e w'
theorem alloc2_below (w : World) (o o' : Obj) : Below w.heap.size w ((w.alloc o).alloc o') :=
  ((Below.refl _ w).alloc (Nat.le_refl _) o).alloc (by simp) o'
set_option maxHeartbeats 2000000 in
set_option maxRecDepth 100000 in
theorem rcomp_1 (s : ByteArray) (w : World) : Calls Try.prog 21 #[.int .i64 1, .string s] w (RComp w 1 s) := by
  have hl : s.data.toList.length = s.size := rfl
  by_cases hb : 256 < s.size
  · have hb' : (256 : Int) < (s.size : Int) := by omega
    have HP := Lib.hid (show patP 1 s.data.toList = (zeroT, 2, 0) by unfold patP exactP; rw [if_pos rfl, if_pos (by omega)])
    have HB := Lib.hid (fun o o' => alloc2_below w o o')
    go_enter Try.func21, Try.ntmps21
    go_wp2
    refine bodyPost_ret (v := .tuple #[.agg #[.int .i64 0, .string ⟨#[]⟩, .int .i64 0, .slice none 0 0, .slice none 0 0], .int .i64 2, .int .i64 0]) (by simp [results, Try.results21, go_sem]) rfl ?_
    unfold RComp RCompR
    rw [HP.out]
    exact .inr ⟨by decide, rfl, HB.out _ _⟩
  · have hb' : ¬ (256 : Int) < (s.size : Int) := by omega
    have HP := Lib.hid (show patP 1 s.data.toList = (exactT s.data.toList, 0, 0) by unfold patP exactP; rw [if_pos rfl, if_neg (by omega)])
    have HB := Lib.hid (fun o o' => alloc2_below w o o')
    go_enter Try.func21, Try.ntmps21
    go_wp2
    refine bodyPost_ret (v := .tuple #[.agg #[.int .i64 1, .string s, .int .i64 0, .slice none 0 0, .slice none 0 0], .int .i64 0, .int .i64 0]) (by simp [results, Try.results21, go_sem]) rfl ?_
    unfold RComp RCompR
    rw [HP.out]
    exact .inl ⟨rfl, 0, 0, none, 0, 0, none, 0, 0, rfl, fun h => absurd rfl h, HB.out _ _⟩
set_option maxHeartbeats 2000000 in
set_option maxRecDepth 100000 in
theorem rcomp_no {kind : Int} (h : kind < 1 ∨ 3 < kind) (s : ByteArray) (w : World) : Calls Try.prog 21 #[.int .i64 kind, .string s] w (RComp w kind s) := by
  have e1 : (kind == 1) = false := by simp; omega
  have e2 : (kind == 2) = false := by simp; omega
  have e3 : (kind == 3) = false := by simp; omega
  have HP := Lib.hid (show patP kind s.data.toList = (zeroT, 1, 0) by unfold patP; rw [if_neg (by omega), if_neg (by omega), if_neg (by omega)])
  have HB := Lib.hid (fun o o' => alloc2_below w o o')
  clear h
  go_enter Try.func21, Try.ntmps21
  go_wp2
  refine bodyPost_ret (v := .tuple #[.agg #[.int .i64 0, .string ⟨#[]⟩, .int .i64 0, .slice none 0 0, .slice none 0 0], .int .i64 1, .int .i64 0]) (by simp [results, Try.results21, go_sem]) rfl ?_
  unfold RComp RCompR
  rw [HP.out]
  exact .inr ⟨by decide, rfl, HB.out _ _⟩
theorem below5 {B : Nat} {w V : World} (h : Below B w V) {p : Nat} (hp : B ≤ p) (a b c d e : Value) : Below B w (((((V.setCell ⟨p, 0, none⟩ a).setCell ⟨p, 1, none⟩ b).setCell ⟨p, 2, none⟩ c).setCell ⟨p, 3, none⟩ d).setCell ⟨p, 4, none⟩ e) :=
  ((below3 h hp a b c).setCell (p := ⟨p, 3, none⟩) hp d).setCell (p := ⟨p, 4, none⟩) hp e
theorem fit_check {t : Tr} (h : FitT 513 258 t) {d : Nat} {w : World} {X : Nat → Prop} {v0 v1 v2 : Value} (ht : TreeAt w X d t [v0, v1, v2]) :
    ∃ e, GoodT e t ∧ nodesT e t ≤ 1000 ∧ highT e t ≤ 300 ∧ wrongT e t = false ∧ TreeAt w X e t [v0, v1, v2] := by
  obtain ⟨D, h1, h2, h3⟩ := h
  obtain ⟨a, b, c⟩ := good_add D t h1 d
  exact ⟨D + d, a, by omega, by omega, good_wrong _ _ a, ht.deeper (by omega)⟩
theorem rcode {kind : Int} (hk : kind = 2 ∨ kind = 3) {l : List UInt8} (h : (patP kind l).2.1 = 0) : (patP kind l).2.2 = 0 := by
  rcases hk with rfl | rfl
  · unfold patP at h ⊢
    rw [if_neg (by decide), if_pos rfl] at h ⊢
    unfold parseG at h ⊢
    split at h
    · exact absurd h (by decide)
    · rename_i hl
      rw [if_neg hl]
      cases hp : piecesF l with
      | ok ts => rfl
      | err c o => rw [hp] at h; exact absurd h (gpcs_code hp)
  · unfold patP at h ⊢
    rw [if_neg (by decide), if_neg (by decide), if_pos rfl] at h ⊢
    obtain ⟨_, t, n, _, e⟩ := parseX_zero h
    rw [e]
theorem rstart (w w3 : World) (b3 : Below ((w.alloc (.cells #[.int .i64 0, .string ⟨#[]⟩, .int .i64 0, .slice none 0 0, .slice none 0 0] 45)).alloc (.cells #[.int .i64 0, .slice none 0 0, .slice none 0 0] 26)).heap.size ((w.alloc (.cells #[.int .i64 0, .string ⟨#[]⟩, .int .i64 0, .slice none 0 0, .slice none 0 0] 45)).alloc (.cells #[.int .i64 0, .slice none 0 0, .slice none 0 0] 26)) w3) :
    Blk w3 (w.heap.size + 1) 26 #[.int .i64 0, .slice none 0 0, .slice none 0 0] ∧ Blk w3 w.heap.size 45 #[.int .i64 0, .string ⟨#[]⟩, .int .i64 0, .slice none 0 0, .slice none 0 0] ∧ Below w.heap.size w w3 ∧ w.heap.size + 2 ≤ w3.heap.size := by
  refine ⟨(show Blk ((w.alloc (.cells #[.int .i64 0, .string ⟨#[]⟩, .int .i64 0, .slice none 0 0, .slice none 0 0] 45)).alloc (.cells #[.int .i64 0, .slice none 0 0, .slice none 0 0] 26)) (w.heap.size + 1) 26 #[.int .i64 0, .slice none 0 0, .slice none 0 0] by
        have h := Blk.new (w.alloc (.cells #[.int .i64 0, .string ⟨#[]⟩, .int .i64 0, .slice none 0 0, .slice none 0 0] 45)) 26 #[.int .i64 0, .slice none 0 0, .slice none 0 0]
        simpa using h).below b3 (by simp), ((Blk.new w 45 #[.int .i64 0, .string ⟨#[]⟩, .int .i64 0, .slice none 0 0, .slice none 0 0]).alloc (.cells #[.int .i64 0, .slice none 0 0, .slice none 0 0] 26)).below b3 (by simp; omega), (alloc2_below w _ _).trans (b3.mono (by simp; omega)), ?_⟩
  have := b3.size
  simpa using this
set_option maxHeartbeats 4000000 in
set_option maxRecDepth 100000 in
theorem rcomp_err {kind : Int} (hk : kind = 2 ∨ kind = 3) (s : ByteArray) (w : World) {t : Tr} {c : Int} {o : Nat} (hc : c ≠ 0) (hP : ∀ W, Calls Try.prog (if kind = 2 then 41 else 42) #[.string s] W (TreePost W (t, c, o))) : Calls Try.prog 21 #[.int .i64 kind, .string s] w (RCompR w kind s (t, c, o)) := by
  have HPR := Lib.hid hP
  have hcf : (c != 0) = true := by simpa using hc
  have HC := Lib.hid hc
  clear hc hP
  rcases hk with rfl | rfl
  all_goals
    go_enter Try.func21, Try.ntmps21
    go_wp2_with fail
    refine (HPR.out _).mono ?_
    rintro e w3 ⟨d3, kk, A3, n3, c3, A3', n3', c3', rfl, -, b3⟩
    obtain ⟨hn, hr, hb, hsz⟩ := rstart w w3 b3
    have HN := Lib.hid hn
    have HR := Lib.hid hr
    have HB := Lib.hid hb
    have hs1 : w.heap.size + 1 < w3.heap.size := by omega
    have hs2 : w.heap.size < w3.heap.size := by omega
    clear b3 hn hr hb
    obtain ⟨n0, n1, n2, m0, m1, m2⟩ := blk3 HN.out
    have r0 := HR.out.cell 0
    have r1 := HR.out.cell 1
    have r2 := HR.out.cell 2
    have r3 := HR.out.cell 3
    have r4 := HR.out.cell 4
    have l0 := HR.out.frozen 0
    have l1 := HR.out.frozen 1
    have l2 := HR.out.frozen 2
    have l3 := HR.out.frozen 3
    have l4 := HR.out.frozen 4
    go_wp2
    have HR5 := ((((((((HR.out.far (p := ⟨w.heap.size + 1, 0, none⟩) (by simp) (.int .i64 kk)).far (p := ⟨w.heap.size + 1, 1, none⟩) (by simp) (.slice A3 n3 c3)).far (p := ⟨w.heap.size + 1, 2, none⟩) (by simp) (.slice A3' n3' c3')).set_ 0 (.int .i64 0)).set_ 1 (.string ⟨#[]⟩)).set_ 2 (.int .i64 0)).set_ 3 (.slice none 0 0)).set_ 4 (.slice none 0 0))
    have q0 := HR5.cell 0
    have q1 := HR5.cell 1
    have q2 := HR5.cell 2
    have q3 := HR5.cell 3
    have q4 := HR5.cell 4
    refine bodyPost_ret (v := .tuple #[.agg #[.int .i64 0, .string ⟨#[]⟩, .int .i64 0, .slice none 0 0, .slice none 0 0], .int .i64 c, .int .i64 (o : Nat)]) (by simp [results, Try.results21, go_sem, q0, q1, q2, q3, q4]) rfl (.inr ⟨HC.out, rfl, ?_⟩)
    exact below5 (below3 HB.out (p := w.heap.size + 1) (by omega) _ _ _) (Nat.le_refl _) _ _ _ _ _
set_option maxHeartbeats 4000000 in
set_option maxRecDepth 100000 in
theorem rcomp_ok {kind : Int} (hk : kind = 2 ∨ kind = 3) (s : ByteArray) (w : World) {t : Tr} (hf : FitT 513 258 t) (hP : ∀ W, Calls Try.prog (if kind = 2 then 41 else 42) #[.string s] W (TreePost W (t, 0, 0))) : Calls Try.prog 21 #[.int .i64 kind, .string s] w (RCompR w kind s (t, 0, 0)) := by
  have HPR := Lib.hid hP
  have HF := Lib.hid hf
  clear hP hf
  rcases hk with rfl | rfl
  · go_enter Try.func21, Try.ntmps21
    go_wp2_with fail
    refine (HPR.out _).mono ?_
    rintro e w3 ⟨d3, kk, A3, n3, c3, A3', n3', c3', rfl, ht3, b3⟩
    obtain ⟨hn, hr, hb, hsz⟩ := rstart w w3 b3
    obtain ⟨d, hg, hno, hhi, hwr, ht⟩ := fit_check HF.out ht3
    have HN := Lib.hid hn
    have HR := Lib.hid hr
    have HB := Lib.hid hb
    have HT := Lib.hid ht
    have HG := Lib.hid hg
    have HCK := Lib.hid (fun W (h : TreeAt W (· < W.heap.size) d t [.int .i64 kk, .slice A3 n3 c3, .slice A3' n3' c3']) => rcheck2_any h hwr hno hhi)
    have hs1 : w.heap.size + 1 < w3.heap.size := by omega
    have hs2 : w.heap.size < w3.heap.size := by omega
    clear b3 hn hr hb ht ht3 hg hno hhi hwr
    obtain ⟨n0, n1, n2, m0, m1, m2⟩ := blk3 HN.out
    go_wp2_with fail
    refine (HCK.out _ ((HT.out.keep (w' := (((w3.setCell ⟨w.heap.size + 1, 0, none⟩ (.int .i64 kk)).setCell ⟨w.heap.size + 1, 1, none⟩ (.slice A3 n3 c3)).setCell ⟨w.heap.size + 1, 2, none⟩ (.slice A3' n3' c3'))) fun j hj => ?_).mono fun j hj => ?_)).mono ?_
    · have h1 := hj.1
      simp at h1
      rw [Below.heap_setCell _ _ _ _ (by simp only; omega), Below.heap_setCell _ _ _ _ (by simp only; omega), Below.heap_setCell _ _ _ _ (by simp only; omega)]
    · have := hj.2; simp [World.setCell]; exact this
    rintro e w5 ⟨rfl, b5⟩
    have hs5 : w3.heap.size ≤ w5.heap.size := by have := b5.size; simpa [World.setCell] using this
    have hs6 : w.heap.size + 1 < w5.heap.size := by omega
    have hs7 : w.heap.size < w5.heap.size := by omega
    have HN5 := Lib.hid ((((HN.out.set_ 0 (.int .i64 kk)).set_ 1 (.slice A3 n3 c3)).set_ 2 (.slice A3' n3' c3')).below b5 (by simp [World.setCell]; omega))
    have HR5 := Lib.hid ((((HR.out.far (p := ⟨w.heap.size + 1, 0, none⟩) (by simp) (.int .i64 kk)).far (p := ⟨w.heap.size + 1, 1, none⟩) (by simp) (.slice A3 n3 c3)).far (p := ⟨w.heap.size + 1, 2, none⟩) (by simp) (.slice A3' n3' c3')).below b5 (by simp [World.setCell]; omega))
    have HB5 := Lib.hid ((below3 HB.out (p := w.heap.size + 1) (by omega) (.int .i64 kk) (.slice A3 n3 c3) (.slice A3' n3' c3')).trans (b5.mono (by simp [World.setCell]; omega)))
    have HT5 := Lib.hid (fun W (hW : ∀ j, w.heap.size + 2 ≤ j → j < w3.heap.size → W.heap[j]? = w5.heap[j]?) (hsz : w3.heap.size ≤ W.heap.size) => (show TreeAt W (Fresh w W) d t [.int .i64 kk, .slice A3 n3 c3, .slice A3' n3' c3'] from (HT.out.keep (w' := W) fun j hj => by
      have h1 := hj.1
      simp at h1
      rw [hW j (by omega) hj.2, b5.block j (by simpa [World.setCell] using hj.2), Below.heap_setCell _ _ _ _ (by simp only; omega), Below.heap_setCell _ _ _ _ (by simp only; omega), Below.heap_setCell _ _ _ _ (by simp only; omega)]).mono fun j hj => ⟨by have := hj.1; simp at this; omega, Nat.lt_of_lt_of_le hj.2 hsz⟩))
    clear b5 n0 n1 n2 m0 m1 m2
    obtain ⟨n0, n1, n2, m0, m1, m2⟩ := blk3 HN5.out
    have r0 := HR5.out.cell 0
    have r1 := HR5.out.cell 1
    have r2 := HR5.out.cell 2
    have r3 := HR5.out.cell 3
    have r4 := HR5.out.cell 4
    have l0 := HR5.out.frozen 0
    have l1 := HR5.out.frozen 1
    have l2 := HR5.out.frozen 2
    have l3 := HR5.out.frozen 3
    have l4 := HR5.out.frozen 4
    go_wp2
    have HR6 := (((((HR5.out.set_ 0 (.int .i64 2)).set_ 1 (.string s)).set_ 2 (.int .i64 kk)).set_ 3 (.slice A3 n3 c3)).set_ 4 (.slice A3' n3' c3'))
    have q0 := HR6.cell 0
    have q1 := HR6.cell 1
    have q2 := HR6.cell 2
    have q3 := HR6.cell 3
    have q4 := HR6.cell 4
    (refine bodyPost_ret (v := .tuple #[.agg #[.int .i64 2, .string s, .int .i64 kk, .slice A3 n3 c3, .slice A3' n3' c3'], .int .i64 0, .int .i64 0]) (by simp [results, Try.results21, go_sem, q0, q1, q2, q3, q4]) rfl (.inl ⟨rfl, d, kk, A3, n3, c3, A3', n3', c3', rfl, fun _ => ⟨HG.out, ?_⟩, ?_⟩))
    · refine HT5.out _ (fun j h1 h2 => ?_) (by simp [World.setCell]; omega)
      rw [Below.heap_setCell _ _ _ _ (by simp only; omega), Below.heap_setCell _ _ _ _ (by simp only; omega), Below.heap_setCell _ _ _ _ (by simp only; omega), Below.heap_setCell _ _ _ _ (by simp only; omega), Below.heap_setCell _ _ _ _ (by simp only; omega)]
    · exact below5 HB5.out (Nat.le_refl _) _ _ _ _ _
  · go_enter Try.func21, Try.ntmps21
    go_wp2_with fail
    refine (HPR.out _).mono ?_
    rintro e w3 ⟨d3, kk, A3, n3, c3, A3', n3', c3', rfl, ht3, b3⟩
    obtain ⟨hn, hr, hb, hsz⟩ := rstart w w3 b3
    obtain ⟨d, hg, hno, hhi, hwr, ht⟩ := fit_check HF.out ht3
    have HN := Lib.hid hn
    have HR := Lib.hid hr
    have HB := Lib.hid hb
    have HT := Lib.hid ht
    have HG := Lib.hid hg
    have HCK := Lib.hid (fun W (h : TreeAt W (· < W.heap.size) d t [.int .i64 kk, .slice A3 n3 c3, .slice A3' n3' c3']) => rcheck2_any h hwr hno hhi)
    have hs1 : w.heap.size + 1 < w3.heap.size := by omega
    have hs2 : w.heap.size < w3.heap.size := by omega
    clear b3 hn hr hb ht ht3 hg hno hhi hwr
    obtain ⟨n0, n1, n2, m0, m1, m2⟩ := blk3 HN.out
    go_wp2_with fail
    refine (HCK.out _ ((HT.out.keep (w' := (((w3.setCell ⟨w.heap.size + 1, 0, none⟩ (.int .i64 kk)).setCell ⟨w.heap.size + 1, 1, none⟩ (.slice A3 n3 c3)).setCell ⟨w.heap.size + 1, 2, none⟩ (.slice A3' n3' c3'))) fun j hj => ?_).mono fun j hj => ?_)).mono ?_
    · have h1 := hj.1
      simp at h1
      rw [Below.heap_setCell _ _ _ _ (by simp only; omega), Below.heap_setCell _ _ _ _ (by simp only; omega), Below.heap_setCell _ _ _ _ (by simp only; omega)]
    · have := hj.2; simp [World.setCell]; exact this
    rintro e w5 ⟨rfl, b5⟩
    have hs5 : w3.heap.size ≤ w5.heap.size := by have := b5.size; simpa [World.setCell] using this
    have hs6 : w.heap.size + 1 < w5.heap.size := by omega
    have hs7 : w.heap.size < w5.heap.size := by omega
    have HN5 := Lib.hid ((((HN.out.set_ 0 (.int .i64 kk)).set_ 1 (.slice A3 n3 c3)).set_ 2 (.slice A3' n3' c3')).below b5 (by simp [World.setCell]; omega))
    have HR5 := Lib.hid ((((HR.out.far (p := ⟨w.heap.size + 1, 0, none⟩) (by simp) (.int .i64 kk)).far (p := ⟨w.heap.size + 1, 1, none⟩) (by simp) (.slice A3 n3 c3)).far (p := ⟨w.heap.size + 1, 2, none⟩) (by simp) (.slice A3' n3' c3')).below b5 (by simp [World.setCell]; omega))
    have HB5 := Lib.hid ((below3 HB.out (p := w.heap.size + 1) (by omega) (.int .i64 kk) (.slice A3 n3 c3) (.slice A3' n3' c3')).trans (b5.mono (by simp [World.setCell]; omega)))
    have HT5 := Lib.hid (fun W (hW : ∀ j, w.heap.size + 2 ≤ j → j < w3.heap.size → W.heap[j]? = w5.heap[j]?) (hsz : w3.heap.size ≤ W.heap.size) => (show TreeAt W (Fresh w W) d t [.int .i64 kk, .slice A3 n3 c3, .slice A3' n3' c3'] from (HT.out.keep (w' := W) fun j hj => by
      have h1 := hj.1
      simp at h1
      rw [hW j (by omega) hj.2, b5.block j (by simpa [World.setCell] using hj.2), Below.heap_setCell _ _ _ _ (by simp only; omega), Below.heap_setCell _ _ _ _ (by simp only; omega), Below.heap_setCell _ _ _ _ (by simp only; omega)]).mono fun j hj => ⟨by have := hj.1; simp at this; omega, Nat.lt_of_lt_of_le hj.2 hsz⟩))
    clear b5 n0 n1 n2 m0 m1 m2
    obtain ⟨n0, n1, n2, m0, m1, m2⟩ := blk3 HN5.out
    have r0 := HR5.out.cell 0
    have r1 := HR5.out.cell 1
    have r2 := HR5.out.cell 2
    have r3 := HR5.out.cell 3
    have r4 := HR5.out.cell 4
    have l0 := HR5.out.frozen 0
    have l1 := HR5.out.frozen 1
    have l2 := HR5.out.frozen 2
    have l3 := HR5.out.frozen 3
    have l4 := HR5.out.frozen 4
    go_wp2
    have HR6 := (((((HR5.out.set_ 0 (.int .i64 3)).set_ 1 (.string s)).set_ 2 (.int .i64 kk)).set_ 3 (.slice A3 n3 c3)).set_ 4 (.slice A3' n3' c3'))
    have q0 := HR6.cell 0
    have q1 := HR6.cell 1
    have q2 := HR6.cell 2
    have q3 := HR6.cell 3
    have q4 := HR6.cell 4
    (refine bodyPost_ret (v := .tuple #[.agg #[.int .i64 3, .string s, .int .i64 kk, .slice A3 n3 c3, .slice A3' n3' c3'], .int .i64 0, .int .i64 0]) (by simp [results, Try.results21, go_sem, q0, q1, q2, q3, q4]) rfl (.inl ⟨rfl, d, kk, A3, n3, c3, A3', n3', c3', rfl, fun _ => ⟨HG.out, ?_⟩, ?_⟩))
    · refine HT5.out _ (fun j h1 h2 => ?_) (by simp [World.setCell]; omega)
      rw [Below.heap_setCell _ _ _ _ (by simp only; omega), Below.heap_setCell _ _ _ _ (by simp only; omega), Below.heap_setCell _ _ _ _ (by simp only; omega), Below.heap_setCell _ _ _ _ (by simp only; omega), Below.heap_setCell _ _ _ _ (by simp only; omega)]
    · exact below5 HB5.out (Nat.le_refl _) _ _ _ _ _
theorem rcomp_23 {kind : Int} (hk : kind = 2 ∨ kind = 3) (s : ByteArray) (w : World) (hsm : s.size ≤ maxLen) : Calls Try.prog 21 #[.int .i64 kind, .string s] w (RComp w kind s) := by
  have hP : ∀ W, Calls Try.prog (if kind = 2 then 41 else 42) #[.string s] W (TreePost W (patP kind s.data.toList)) := fun W => by
    rcases hk with rfl | rfl
    · exact rparse_any s W hsm
    · exact yparse_any s W
  have hF := fun h : (patP kind s.data.toList).2.1 = 0 => fit_pat h
  have hZ := fun h : (patP kind s.data.toList).2.1 = 0 => rcode hk h
  unfold RComp
  generalize patP kind s.data.toList = R at hP hF hZ ⊢
  obtain ⟨t, c, o⟩ := R
  by_cases hc : c = 0
  · subst hc
    obtain rfl := hZ rfl
    exact rcomp_ok hk s w (hF rfl) hP
  · exact rcomp_err hk s w hc hP
theorem rcomp_any (kind : Int) (s : ByteArray) (w : World) (hsm : s.size ≤ maxLen) : Calls Try.prog 21 #[.int .i64 kind, .string s] w (RComp w kind s) := by
  by_cases h1 : kind = 1
  · subst h1; exact rcomp_1 s w
  · by_cases h2 : kind = 2 ∨ kind = 3
    · exact rcomp_23 h2 s w hsm
    · exact rcomp_no (by omega) s w
end Go.Proofs.Ytjnhmcgjeljcmaa
