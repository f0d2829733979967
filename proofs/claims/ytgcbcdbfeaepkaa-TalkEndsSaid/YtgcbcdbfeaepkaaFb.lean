/- pat.Compile, Find, Kind, Text. Plain facts: what a tree matches hangs on the piece alone; what that means for a longer text, and for the piece. No program. -/
import Derived.Test.YtgcbcdbfeaepkaaFc
import Derived.Test.YtgcbcdbfeaepkaaOl
import Derived.Test.YtgcbcdbfeaepkaaOu
import Derived.Deep.RegionHeld3
namespace Go.Proofs.Ytgcbcdbfeaepkaa
open Go.RowKit Go.Maps

def CompT (w : World) (d : Nat) (t : Tr) (e : Ending) (w' : World) : Prop := ∃ pp X, e = .returned (.tuple #[.pointer (some ⟨pp, 0, none⟩), .int .i64 0]) ∧ PAt w' X pp d t ∧ (∀ j, X j → w.heap.size ≤ j) ∧ Below w.heap.size w w' ∧ X pp
theorem comp_any {w : World} {d : Nat} {t : Tr} {v0 v1 v2 : Value} (h : TreeAt w (· < w.heap.size) d t [v0, v1, v2]) (hg : GoodT d t) (hn : nodesT d t ≤ 1000) (hh : highT d t ≤ 300) : Calls Try.prog 17 #[.agg #[v0, v1, v2]] w (CompT w d t) := by
  refine (compile_ok h hg hn hh).mono ?_
  rintro e w' ⟨pp, X, rfl, h1, h2, h3⟩
  exact ⟨pp, X, rfl, ⟨0, h1⟩, h2, h3, h1.at_⟩
theorem PAt.kept {w w' : World} {X Y : Nat → Prop} {pp d : Nat} {t : Tr} (h : PAt w X pp d t) (hk : Kept Y w w') (hd : ∀ j, X j → ¬ Y j) : PAt w' X pp d t := by
  obtain ⟨st, hm⟩ := h
  exact ⟨st, hm.keep fun b hb hl => hk.block b hl (hd b hb)⟩
theorem PAt.below {w w' : World} {X : Nat → Prop} {pp d : Nat} {t : Tr} (h : PAt w X pp d t) (hb : Below w.heap.size w w') : PAt w' X pp d t := by
  obtain ⟨st, hm⟩ := h
  exact ⟨st, hm.below hb⟩
theorem Left.pat {w w' : World} {X : Nat → Prop} {pp d n : Nat} {t : Tr} (h : Left w X pp d t n w') : PAt w' X pp d t := by obtain ⟨⟨st, _, hm⟩, _⟩ := h; exact ⟨st, hm⟩
theorem kept_past {w w1 w2 : World} {pp : Nat} (hb : Below w.heap.size w w1) (hk : Kept (fun j => j = pp) w1 w2) (hp : w.heap.size ≤ pp) : Below w.heap.size w w2 :=
  hb.trans (hk.below hb.size fun j hj => by subst hj; exact hp)
/-- The parser of a kind. -/
def parF (kind : Int) : FuncId := if kind = 1 then 85 else if kind = 2 then 86 else 87
theorem enter_par (kind : Int) (args : Array Value) (W : World) : (callFunc (parF kind) args).run Try.prog W = .ok (.enter (parF kind) args) W := by
  unfold parF
  split
  · kernel_rfl
  · split <;> kernel_rfl
theorem par_any {kind : Int} (h1 : 1 ≤ kind) (h3 : kind ≤ 3) (s : ByteArray) (w : World) : Calls Try.prog (parF kind) #[.string s] w (TreePost w (patP kind s.data.toList)) := by
  rcases (by omega : kind = 1 ∨ kind = 2 ∨ kind = 3) with rfl | rfl | rfl
  · exact exact_any s w
  · exact parse_any s w
  · exact xparse_any s w
/-- A pattern: its kind, its text, its machine. -/
structure PatAt (w : World) (X : Nat → Prop) (p : Nat) (kind : Int) (s : ByteArray) (pp d : Nat) (t : Tr) : Prop where
  top : Blk w p 142 #[.int .i64 kind, .string s, .pointer (some ⟨pp, 0, none⟩)]
  mach : PAt w X pp d t
  good : GoodT d t
  small : nodesT d t ≤ 1000
  in_ : X pp
  apart : ¬ X p
def MachPost (w : World) (kind : Int) (s : ByteArray) (e : Ending) (w' : World) : Prop :=
  ((patP kind s.data.toList).2.1 = 0 ∧ ∃ pp X d, e = .returned (.tuple #[.pointer (some ⟨pp, 0, none⟩), .int .i64 0, .int .i64 0]) ∧ PAt w' X pp d (patP kind s.data.toList).1 ∧ GoodT d (patP kind s.data.toList).1 ∧ nodesT d (patP kind s.data.toList).1 ≤ 1000 ∧ (∀ j, X j → w.heap.size ≤ j ∧ j < w'.heap.size) ∧ X pp ∧ Below w.heap.size w w') ∨
  ((patP kind s.data.toList).2.1 ≠ 0 ∧ e = .returned (.tuple #[.pointer none, .int .i64 (patP kind s.data.toList).2.1, .int .i64 ((patP kind s.data.toList).2.2 : Nat)]) ∧ Below w.heap.size w w')
set_option maxHeartbeats 1000000 in
set_option maxRecDepth 100000 in
theorem machine_any {kind : Int} (h1 : 1 ≤ kind) (h3 : kind ≤ 3) (s : ByteArray) (w : World) : Calls Try.prog 64 #[.string s, .func (.func (parF kind)) #[] #[]] w (MachPost w kind s) := by
  have C := Lib.hid (par_any h1 h3 s w)
  have HF := Lib.hid (fun h => fit_pat (kind := kind) (l := s.data.toList) h)
  have HE := fun args W => enter_par kind args W
  generalize parF kind = fl at C HE ⊢
  generalize hP : patP kind s.data.toList = P at C HF
  have HP := Lib.hid hP
  clear hP
  obtain ⟨t, c, o⟩ := P
  go_enter Try.func64, Try.ntmps64
  go_wp2_with fail
  refine C.out.mono ?_
  rintro e w1 ⟨d, k, A, n, cp, A', n', cp', rfl, ht, hb⟩
  have HT := Lib.hid ht
  have HB := Lib.hid hb
  clear ht hb C
  by_cases hc : c = 0
  · subst hc
    obtain ⟨D, g1, g2, g3⟩ := HF.out rfl
    obtain ⟨j1, j2, j3⟩ := good_add D t g1 d
    rw [Nat.add_comm D d] at j1 j2 j3
    have tr : TreeAt (w1.alloc (.cells #[.int .i64 k, .slice A n cp, .slice A' n' cp'] 25)) (· < (w1.alloc (.cells #[.int .i64 k, .slice A n cp, .slice A' n' cp'] 25)).heap.size) (d + D) t [.int .i64 k, .slice A n cp, .slice A' n' cp'] :=
      tree_below ((HT.out.mono fun b hb => hb.2).deeper (Nat.le_add_right d D)) ((Below.refl _ w1).alloc (Nat.le_refl _) _)
    have CC := Lib.hid (comp_any tr j1 (by omega) (by omega))
    have HG := Lib.hid j1
    have HN := Lib.hid (show nodesT (d + D) t ≤ 1000 by omega)
    clear HF HT tr j1 j2 j3 g1 g2 g3
    have HBA := Lib.hid (HB.out.alloc HB.out.size (.cells #[.int .i64 k, .slice A n cp, .slice A' n' cp'] 25))
    go_wp2_with fail
    refine CC.out.mono ?_
    rintro e w2 ⟨pp, X, rfl, hp, hx, hb2, hxp⟩
    have HR := Lib.hid (show MachPost w kind s (.returned (.tuple #[.pointer (some ⟨pp, 0, none⟩), .int .i64 0, .int .i64 0])) w2 from by
      refine .inl ⟨by rw [HP.out], pp, X, d + D, rfl, by rw [HP.out]; exact hp, by rw [HP.out]; exact HG.out, by rw [HP.out]; exact HN.out, fun j hj => ⟨Nat.le_trans HBA.out.size (hx j hj), ?_⟩, hxp, HBA.out.trans (hb2.mono HBA.out.size)⟩
      obtain ⟨st, hm⟩ := hp
      exact hm.old hj)
    clear CC hp hx hb2 hxp
    go_wp2
    go_ret3
    exact HR.out
  · have hc' : (c != 0) = true := by simpa using hc
    have HR := Lib.hid (show ∀ W, Below w.heap.size w W → MachPost w kind s (.returned (.tuple #[.pointer none, .int .i64 c, .int .i64 (o : Nat)])) W from fun W hW => .inr ⟨by rw [HP.out]; exact hc, by rw [HP.out], hW⟩)
    have HBA := Lib.hid (HB.out.alloc HB.out.size (.cells #[.int .i64 k, .slice A n cp, .slice A' n' cp'] 25))
    clear hc HF HT
    go_wp2
    go_ret3
    exact HR.out _ HBA.out
def CompPost (w : World) (kind : Int) (s : ByteArray) (e : Ending) (w' : World) : Prop :=
  ((patP kind s.data.toList).2.1 = 0 ∧ ∃ p X pp d, e = .returned (.tuple #[.pointer (some ⟨p, 0, none⟩), .int .i64 0, .int .i64 0]) ∧ PatAt w' X p kind s pp d (patP kind s.data.toList).1 ∧ (∀ j, X j ∨ j = p → w.heap.size ≤ j) ∧ Below w.heap.size w w') ∨
  ((patP kind s.data.toList).2.1 ≠ 0 ∧ e = .returned (.tuple #[.pointer none, .int .i64 (patP kind s.data.toList).2.1, .int .i64 ((patP kind s.data.toList).2.2 : Nat)]) ∧ Below w.heap.size w w')
set_option maxRecDepth 100000 in
theorem parser_in {kind : Int} (h1 : 1 ≤ kind) (h3 : kind ≤ 3) (w : World) : Calls Try.prog 63 #[.int .i64 kind] w fun e w' => e = .returned (.func (.func (parF kind)) #[] #[]) ∧ w' = w := by
  rcases (by omega : kind = 1 ∨ kind = 2 ∨ kind = 3) with rfl | rfl | rfl
  all_goals
    go_enter Try.func63, Try.ntmps63
    go_wp2
    go_ret
    exact ⟨rfl, rfl⟩
set_option maxRecDepth 100000 in
theorem parser_out {kind : Int} (h : kind < 1 ∨ 3 < kind) (w : World) : Calls Try.prog 63 #[.int .i64 kind] w fun e w' => e = .returned .nilFunc ∧ w' = w := by
  have e1 : ¬ kind = 1 := by omega
  have e2 : ¬ kind = 2 := by omega
  have e3 : ¬ kind = 3 := by omega
  go_enter Try.func63, Try.ntmps63
  go_wp2
  go_ret
  exact ⟨rfl, rfl⟩
theorem eq_fn (fl : FuncId) (W : World) : (binOp .eql 137 (.func (.func fl) #[] #[]) .nilFunc).run Try.prog W = .ok (.bool false) W := by kernel_rfl
theorem eq_nilfn (W : World) : (binOp .eql 137 .nilFunc .nilFunc).run Try.prog W = .ok (.bool true) W := by kernel_rfl
set_option maxHeartbeats 1000000 in
set_option maxRecDepth 100000 in
theorem pcomp_any (kind : Int) (s : ByteArray) (w : World) : Calls Try.prog 25 #[.int .i64 kind, .string s] w (CompPost w kind s) := by
  by_cases hk : kind < 1 ∨ 3 < kind
  · have hp : patP kind s.data.toList = (zeroT, 1, 0) := by unfold patP; rw [if_neg (by omega), if_neg (by omega), if_neg (by omega)]
    have HR := Lib.hid (show CompPost w kind s (.returned (.tuple #[.pointer none, .int .i64 1, .int .i64 0])) w from .inr ⟨by rw [hp]; decide, by rw [hp]; rfl, Below.refl _ _⟩)
    have C := Lib.hid (parser_out hk w)
    have HQ := fun W => eq_nilfn W
    clear hp hk
    go_enter Try.func25, Try.ntmps25
    go_wp2_with fail
    refine C.out.mono ?_
    rintro e w1 ⟨rfl, rfl⟩
    go_wp2
    go_ret3
    exact HR.out
  · have C := Lib.hid (parser_in (kind := kind) (by omega) (by omega) w)
    have M := Lib.hid (machine_any (kind := kind) (by omega) (by omega) s w)
    generalize parF kind = fl at C M
    have HQ := fun W => eq_fn fl W
    clear hk
    go_enter Try.func25, Try.ntmps25
    go_wp2_with fail
    refine C.out.mono ?_
    rintro e w1 ⟨rfl, rfl⟩
    go_wp2_with fail
    refine M.out.mono ?_
    rintro e w2 (⟨h0, pp, X, d, rfl, hp, hg, hn, hx, hxp, hb⟩ | ⟨h0, rfl, hb⟩)
    · have hbk := Blk.new w2 142 #[.int .i64 kind, .string s, .pointer (some ⟨pp, 0, none⟩)]
      have b2 := (Below.refl w2.heap.size w2).alloc (Nat.le_refl _) (.cells #[.int .i64 kind, .string s, .pointer (some ⟨pp, 0, none⟩)] 142)
      have HR := Lib.hid (show CompPost w1 kind s (.returned (.tuple #[.pointer (some ⟨w2.heap.size, 0, none⟩), .int .i64 0, .int .i64 0])) (w2.alloc (.cells #[.int .i64 kind, .string s, .pointer (some ⟨pp, 0, none⟩)] 142)) from
        .inl ⟨h0, w2.heap.size, X, pp, d, rfl, ⟨hbk, hp.below b2, hg, hn, hxp, fun h => Nat.lt_irrefl _ (hx _ h).2⟩, fun j hj => by
          rcases hj with hj | rfl
          · exact (hx j hj).1
          · exact hb.size, hb.trans (b2.mono hb.size)⟩)
      clear h0 hp hg hn hx hxp hb hbk b2
      go_wp2
      go_ret3
      exact HR.out
    · have HR := Lib.hid (show CompPost w1 kind s (.returned (.tuple #[.pointer none, .int .i64 (patP kind s.data.toList).2.1, .int .i64 ((patP kind s.data.toList).2.2 : Nat)])) w2 from .inr ⟨h0, rfl, hb⟩)
      have hc' : ((patP kind s.data.toList).2.1 != 0) = true := by simpa using h0
      clear h0 hb
      generalize (patP kind s.data.toList).2.1 = c at *
      generalize (patP kind s.data.toList).2.2 = o at *
      go_wp2
      go_ret3
      exact HR.out
section
variable {w w' : World} {X : Nat → Prop} {p pp d : Nat} {kind : Int} {s : ByteArray} {t : Tr}
theorem PatAt.below (h : PatAt w X p kind s pp d t) (hb : Below w.heap.size w w') : PatAt w' X p kind s pp d t := ⟨h.top.below hb h.top.lt, h.mach.below hb, h.good, h.small, h.in_, h.apart⟩
theorem PatAt.kept {Y : Nat → Prop} (h : PatAt w X p kind s pp d t) (hk : Kept Y w w') (hx : ∀ j, X j ∨ j = p → ¬ Y j) : PatAt w' X p kind s pp d t :=
  ⟨(hk.block p h.top.lt (hx p (.inr rfl))).trans h.top, h.mach.kept hk fun j hj => hx j (.inl hj), h.good, h.small, h.in_, h.apart⟩
def PFindPost (w : World) (X : Nat → Prop) (p : Nat) (kind : Int) (s : ByteArray) (pp d : Nat) (t : Tr) (bs : List UInt8) (e : Ending) (w' : World) : Prop :=
  ∃ a b ok, e = .returned (.tuple #[.int .i64 a, .int .i64 b, .bool ok]) ∧ findR bs d t a b ok ∧ PatAt w' X p kind s pp d t ∧ Kept (fun j => j = pp) w w'
set_option maxHeartbeats 1000000 in
set_option maxRecDepth 100000 in
theorem pfind_any {A : Option Addr} {m c : Nat} {bs : List UInt8} (h : PatAt w X p kind s pp d t) (hs : BytesAt w A m bs) (hA : 0 < m → ∀ b o, A = some ⟨b, o, none⟩ → ¬ X b) (hm : m ≤ 100000000) : Calls Try.prog 29 #[.pointer (some ⟨p, 0, none⟩), .slice A m c] w (PFindPost w X p kind s pp d t bs) := by
  have H := Lib.hid h
  obtain ⟨k0, k1, k2, -, -, -⟩ := blk3 h.top
  have hcv := conv_str hs c
  have hcv1 := conv_str (w := w.drew) (show BytesAt w.drew A m bs from hs) c
  have hdrew : ∀ n, PAt (w.drewN n) X pp d t := fun n => h.mach.kept ((Kept.refl (fun _ => False) w).drewN n) (fun _ _ h => h)
  have F := fun n => Lib.hid (fin_any (hdrew n) h.good h.small ⟨bs.toArray⟩ (by have := hs.1; simp [ByteArray.size]; omega))
  have hpp : p ≠ pp := fun e => h.apart (e ▸ h.in_)
  have HS := Lib.hid (fun w2 (hk : Kept (fun j => j = pp) (w.drewN 1) w2) => conv_str (BytesAt.keep (w' := w2) (show BytesAt (w.drewN 1) A m bs from hs) (fun hm b o e hl => hk.block b hl (fun hb => hA hm b o e (hb ▸ h.in_))) hk.size) c)
  have HB := Lib.hid (fun (w2 : World) (hk : Kept (fun j => j = pp) (w.drewN 1) w2) => show Kept (fun j => j = pp) w w2 from ((Kept.refl (fun j => j = pp) w).drewN 1).trans hk (fun j hj => .inl hj))
  clear h hs
  go_enter Try.func29, Try.ntmps29
  go_wp2_with fail
  go_region_held3 (fun W => W.cell? ⟨p, 2, none⟩ = some (.pointer (some ⟨pp, 0, none⟩)) ∧ (convert 52 9 (.slice A m c)).run Try.prog W = .ok (.string ⟨bs.toArray⟩) W) (go_keep) (first | (go_at_call 22; refine (F 1).out.mono ?_; rintro e w2 ⟨a, b, ok, rfl, hf, hl⟩; have q2 : w2.cell? ⟨p, 2, none⟩ = some (.pointer (some ⟨pp, 0, none⟩)) := (show Blk w2 p 142 #[.int .i64 kind, .string s, .pointer (some ⟨pp, 0, none⟩)] from (hl.2.block p H.out.top.lt hpp).trans H.out.top).cell 2; have q3 := HS.out w2 hl.2))
  all_goals
    have HR := Lib.hid (show PFindPost w X p kind s pp d t bs (.returned (.tuple #[.int .i64 a, .int .i64 b, .bool ok])) w2 from
      ⟨a, b, ok, rfl, by simpa using hf, ⟨(hl.2.block p H.out.top.lt hpp).trans H.out.top, hl.pat, H.out.good, H.out.small, H.out.in_, H.out.apart⟩, HB.out w2 hl.2⟩)
    clear hf hl q2 q3
    go_wp2
    go_ret3
    exact HR.out
theorem pkind_any (h : PatAt w X p kind s pp d t) : Calls Try.prog 27 #[.pointer (some ⟨p, 0, none⟩)] w fun e w' => e = .returned (.int .i64 kind) ∧ w' = w := by
  obtain ⟨k0, k1, k2, -, -, -⟩ := blk3 h.top
  clear h
  go_enter Try.func27, Try.ntmps27
  go_wp2
  go_ret
  exact ⟨rfl, rfl⟩
theorem ptext_any (h : PatAt w X p kind s pp d t) : Calls Try.prog 28 #[.pointer (some ⟨p, 0, none⟩)] w fun e w' => e = .returned (.string s) ∧ w' = w := by
  obtain ⟨k0, k1, k2, -, -, -⟩ := blk3 h.top
  clear h
  go_enter Try.func28, Try.ntmps28
  go_wp2
  go_ret
  exact ⟨rfl, rfl⟩
end
end Go.Proofs.Ytgcbcdbfeaepkaa
namespace Go.Proofs.Ytgcbcdbfeaepkaa

theorem itR_sh {R R' : Nat → Nat → Prop} {o p n a b : Nat} (hR : ∀ i j, R i j → i ≤ n → i ≤ j ∧ j ≤ n) (hb : b + o ≤ n) (hRR : ∀ i j, a ≤ i → i ≤ j → j ≤ b → R (i + o) (j + o) → R' (i + p) (j + p)) :
    ∀ c i j, a ≤ i → j ≤ b → itR R c (i + o) (j + o) → i + o ≤ n → itR R' c (i + p) (j + p)
  | 0, i, j, _, _, h, _ => by have h : i + o = j + o := h; show i + p = j + p; omega
  | c + 1, i, j, ha, hj, ⟨m, h1, h2⟩, hi => by
    have k1 := hR _ _ h1 hi
    have k2 := itR_le hR c m (j + o) h2 k1.2
    obtain ⟨m', rfl⟩ : ∃ m', m = m' + o := ⟨m - o, by omega⟩
    exact ⟨m' + p, hRR i m' ha (by omega) (by omega) h1, itR_sh hR hb hRR c m' j (by omega) hj h2 k1.2⟩
theorem chR_sh {R R' : Tr → Nat → Nat → Prop} {o p n a b : Nat} (hb : b + o ≤ n) : ∀ (ts : List Tr), (∀ t, t ∈ ts → ∀ i j, R t i j → i ≤ n → i ≤ j ∧ j ≤ n) → (∀ t, t ∈ ts → ∀ i j, a ≤ i → i ≤ j → j ≤ b → R t (i + o) (j + o) → R' t (i + p) (j + p)) →
    ∀ i j, a ≤ i → j ≤ b → chR R ts (i + o) (j + o) → i + o ≤ n → chR R' ts (i + p) (j + p)
  | [], _, _, i, j, _, _, h, _ => by have h : i + o = j + o := h; show i + p = j + p; omega
  | t :: ts, hR, hRR, i, j, ha, hj, ⟨m, h1, h2⟩, hi => by
    have k1 := hR t (List.mem_cons_self ..) _ _ h1 hi
    have k2 := chR_le ts (fun t ht => hR t (List.mem_cons_of_mem _ ht)) m (j + o) h2 k1.2
    obtain ⟨m', rfl⟩ : ∃ m', m = m' + o := ⟨m - o, by omega⟩
    exact ⟨m' + p, hRR t (List.mem_cons_self ..) i m' ha (by omega) (by omega) h1, chR_sh hb ts (fun t ht => hR t (List.mem_cons_of_mem _ ht)) (fun t ht => hRR t (List.mem_cons_of_mem _ ht)) m' j (by omega) hj h2 k1.2⟩
theorem Mt_sh {s s' : List UInt8} {o p : Nat} : ∀ d t i j, i ≤ j → j + o ≤ s.length → j + p ≤ s'.length → (∀ x, i ≤ x → x < j → s[x + o]? = s'[x + p]?) → Mt s d t (i + o) (j + o) → Mt s' d t (i + p) (j + p)
  | 0, _, _, _, _, _, _, _, h => h.elim
  | d + 1, .mk k rs kids, i, j, hij, hjs, hjs', hS, h => by
    have hle : ∀ t, ∀ i j, Mt s d t i j → i ≤ s.length → i ≤ j ∧ j ≤ s.length := fun t i j h hi => Mt_le d t i j h hi
    have hRR : ∀ t, ∀ a b, i ≤ a → a ≤ b → b ≤ j → Mt s d t (a + o) (b + o) → Mt s' d t (a + p) (b + p) := fun t a b h1 h2 h3 h => Mt_sh d t a b h2 (by omega) (by omega) (fun x hx hy => hS x (by omega) (by omega)) h
    unfold Mt at h ⊢
    by_cases h1 : k = 1
    · rw [if_pos h1] at h ⊢
      obtain ⟨c, hc, e, hin⟩ := setT_iff.1 h
      refine setT_iff.2 ⟨c, ?_, by omega, hin⟩
      rw [← hS i (Nat.le_refl _) (by omega)]; exact hc
    rw [if_neg h1] at h ⊢
    by_cases h2 : k = 2
    · rw [if_pos h2] at h ⊢
      exact chR_sh hjs kids (fun t _ => hle t) (fun t _ => hRR t) i j (Nat.le_refl _) (Nat.le_refl _) h (by omega)
    rw [if_neg h2] at h ⊢
    by_cases h3 : k = 3
    · rw [if_pos h3] at h ⊢
      obtain ⟨t, ht, h⟩ := h
      exact ⟨t, ht, hRR t i j (Nat.le_refl _) hij (Nat.le_refl _) h⟩
    rw [if_neg h3] at h ⊢
    by_cases h4 : k < 4 ∨ 6 < k
    · rw [if_pos h4] at h; exact h.elim
    rw [if_neg h4] at h ⊢
    match kids, h with
    | t :: _, h =>
      simp only at h ⊢
      by_cases h6 : k = 6
      · rw [if_pos h6] at h ⊢
        rcases h with h | h
        · exact .inl (hRR t i j (Nat.le_refl _) hij (Nat.le_refl _) h)
        · exact .inr (by omega)
      rw [if_neg h6] at h ⊢
      by_cases h5 : k = 4
      · rw [if_pos h5] at h ⊢
        obtain ⟨c, h⟩ := h
        exact ⟨c, itR_sh (hle t) hjs (hRR t) c i j (Nat.le_refl _) (Nat.le_refl _) h (by omega)⟩
      · rw [if_neg h5] at h ⊢
        obtain ⟨c, h⟩ := h
        exact ⟨c, itR_sh (hle t) hjs (hRR t) (c + 1) i j (Nat.le_refl _) (Nat.le_refl _) h (by omega)⟩
theorem Mt_more {b more : List UInt8} {d : Nat} {t : Tr} {f u : Nat} (h1 : f ≤ u) (h2 : u ≤ b.length) : Mt b d t f u ↔ Mt (b ++ more) d t f u := by
  have hs : ∀ x, f ≤ x → x < u → b[x + 0]? = (b ++ more)[x + 0]? := fun x _ hx => by rw [Nat.add_zero, List.getElem?_append_left (by omega)]
  exact ⟨fun h => Mt_sh (o := 0) (p := 0) d t f u h1 h2 (by rw [List.length_append]; omega) hs h, fun h => Mt_sh (o := 0) (p := 0) d t f u h1 (by rw [List.length_append]; omega) h2 (fun x a b => (hs x a b).symm) h⟩
theorem Mt_piece {b : List UInt8} {d : Nat} {t : Tr} {f u : Nat} (h1 : f ≤ u) (h2 : u ≤ b.length) (h : Mt b d t f u) : Mt ((b.drop f).take (u - f)) d t 0 (u - f) := by
  have hl : ((b.drop f).take (u - f)).length = u - f := by rw [List.length_take, List.length_drop]; omega
  have := Mt_sh (s := b) (s' := (b.drop f).take (u - f)) (o := f) (p := 0) d t 0 (u - f) (Nat.zero_le _) (by omega) (by omega) (fun x _ hx => by
    rw [Nat.add_zero, List.getElem?_take_of_lt hx, List.getElem?_drop, Nat.add_comm]) (by rw [Nat.zero_add, show u - f + f = u by omega]; exact h)
  simpa using this
/-- What is found in a longer text. -/
theorem find_grows {b more : List UInt8} {d : Nat} {t : Tr} {a z i k : Int} {ok is : Bool} (h : findR b d t a z ok) (h' : findR (b ++ more) d t i k is) :
    (ok = false → is = false ∨ (b.length : Int) < k) ∧ (ok = true → 0 ≤ a ∧ a ≤ z ∧ z ≤ b.length ∧ is = true ∧ i ≤ a ∧ (i < a ∨ z ≤ k)) := by
  refine ⟨fun e => ?_, fun e => ?_⟩
  · rcases h with ⟨_, _, _, hn⟩ | ⟨e', _⟩
    · rcases h' with ⟨e1, _⟩ | ⟨_, f, u, rfl, rfl, hf, hu, hm, _⟩
      · exact .inl e1
      · refine .inr ?_
        rcases Nat.lt_or_ge b.length u with hlt | hge
        · omega
        · have hfu := (Mt_le d t f u hm hf).1
          exact absurd ((Mt_more hfu hge).2 hm) (hn f u (by omega) hge)
    · rw [e'] at e; cases e
  · rcases h with ⟨e', _⟩ | ⟨_, f, u, rfl, rfl, hf, hu, hm, hl, hg⟩
    · rw [e'] at e; cases e
    · have hfu := (Mt_le d t f u hm hf).1
      have hm' : Mt (b ++ more) d t f u := (Mt_more hfu hu).1 hm
      have hL : (b ++ more).length = b.length + more.length := List.length_append
      rcases h' with ⟨_, _, _, hn⟩ | ⟨e1, f', u', rfl, rfl, hf', hu', hm2, hl', hg'⟩
      · exact absurd hm' (hn f u (by omega) (by omega))
      · have hff : f' ≤ f := by
          rcases Nat.lt_or_ge f f' with hlt | hge
          · exact absurd hm' (hg' f hlt u (by omega))
          · exact hge
        refine ⟨by omega, by omega, by omega, e1, by omega, ?_⟩
        rcases Nat.lt_or_ge f' f with hlt | hge
        · exact .inl (by omega)
        · obtain rfl : f' = f := by omega
          refine .inr ?_
          rcases Nat.lt_or_ge u' u with hlt | hge2
          · exact absurd hm' (hl' u hlt (by omega))
          · omega
/-- What is found is found in itself, as a whole. -/
theorem find_piece {b : List UInt8} {d : Nat} {t : Tr} {f u : Nat} {x y : Int} {z : Bool} (h : findR b d t (f : Nat) (u : Nat) true) (h' : findR ((b.drop f).take (u - f)) d t x y z) : z = true ∧ x = 0 ∧ y = (u : Int) - (f : Int) := by
  rcases h with ⟨e, _⟩ | ⟨_, f0, u0, e1, e2, hf, hu, hm, _, _⟩
  · cases e
  · obtain rfl : f = f0 := by omega
    obtain rfl : u = u0 := by omega
    have hfu := (Mt_le d t f u hm hf).1
    have hp := Mt_piece hfu hu hm
    have hl : ((b.drop f).take (u - f)).length = u - f := by rw [List.length_take, List.length_drop]; omega
    rcases h' with ⟨_, _, _, hn⟩ | ⟨e3, g, v, rfl, rfl, hg1, hv, hm2, hl2, hg2⟩
    · exact absurd hp (hn 0 (u - f) (Nat.zero_le _) (by omega))
    · obtain rfl : g = 0 := by
        rcases Nat.eq_zero_or_pos g with h0 | h0
        · exact h0
        · exact absurd hp (hg2 0 h0 (u - f) (by omega))
      refine ⟨e3, rfl, ?_⟩
      rcases Nat.lt_or_ge v (u - f) with hlt | hge
      · exact absurd hp (hl2 (u - f) hlt (by omega))
      · omega
end Go.Proofs.Ytgcbcdbfeaepkaa
