/- The listed variables out of a row's own conditions; the wrap with the world's shape kept. -/
import Derived.Test.YtplenagncmhhoaaDoorRows
import Derived.Test.YtplenagncmhhoaaDoorSmN
import Derived.MakeChecks
import Derived.OpenShut
import Derived.SizedLaws
import Derived.ShapedOpen
import Derived.Shelf.Vars
import Derived.Lib.LaidTab
import Derived.Deep.Slices
import Derived.Carry
namespace Go.Proofs.YtplenagncmhhoaaDoor
open Go.RowKit Go.ChangeShapes Go.WideShapes Go.Deep

theorem lt_of_cell {w : World} {a : Addr} {v : Value} (h : w.cell? a = some v) : a.block < w.heap.size := by
  unfold World.cell? at h
  rcases Nat.lt_or_ge a.block w.heap.size with h' | h'
  · exact h'
  · rw [Array.getElem?_eq_none h'] at h; simp at h
theorem cells_str1 : Tryd.prog.cellsOf 9 = 1 := by kernel_rfl
theorem cells_arrS : Tryd.prog.cellsOf 129 = 8 := by kernel_rfl
theorem laid_tail {P : Program} {x : String × DataW Unit} {r : List (String × DataW Unit)} {w : World} (h : laidMet P (x :: r) w) : laidMet P r w := by
  obtain ⟨ps, ⟨g, t, cs, fuel, p, q, _, _, _, _, hr, rfl⟩, hn, hb⟩ := h
  exact ⟨q, hr, (List.nodup_append.1 hn).2.1, fun b off hm => hb b off (List.mem_append_right _ hm)⟩
theorem words_at {W : World} {r : List (String × DataW Unit)} (h : laidMet Tryd.prog (("colloquy/trace.words", Rows.laid_colloquy_trace_words) :: r) W) : TabAt W := by
  obtain ⟨ps, ⟨g', t', cs, fuel, p, q, hg', ht', hvar, hd, _, _⟩, _⟩ := h
  obtain rfl := Option.some.inj ((show Tryd.prog.globalNamed "colloquy/trace.words" = some 0 by kernel_rfl).symm.trans hg')
  obtain rfl := Option.some.inj ((show (Tryd.prog.globals[0]?).map (·.type) = some 129 by kernel_rfl).symm.trans ht')
  obtain ⟨xs, m, rfl, hx, hl, hxl, hat⟩ := DataW.trod_array Tryd.underlying129 hd
  rw [cells_arrS] at hl
  have hxs : xs.map (·.1) = wordsL.map fun s => (DataW.lit (.string s.data.toList) : DataW Unit) := by
    have := congrArg Prod.fst hx
    simpa [Rows.laid_colloquy_trace_words, wordsL] using this.symm
  have hcs : ∀ (i : Nat) (s : ByteArray), wordsL[i]? = some s → cs[i]? = some (.string s) := fun i s hs => by
    have hi : i < 8 := (List.getElem?_eq_some_iff.1 hs).1
    have h1 := hat i hi
    rw [cells_str1, Nat.mul_one] at h1
    have h2 : (xs.map (·.1))[i]? = some (DataW.lit (.string s.data.toList) : DataW Unit) := by rw [hxs]; simp [hs]
    rw [List.getElem?_map] at h2
    obtain ⟨y, hy, hy2⟩ := Option.map_eq_some_iff.1 h2
    rw [hy] at h1
    obtain ⟨z, hc, hz, _⟩ := DataW.trod_string Tryd.underlying9 h1
    have h3 : cs[i]? = some (.string z) := by
      have := congrArg (·[0]?) hc
      simpa [List.getElem?_take, List.getElem?_drop] using this
    have h4 : z.data.toList = s.data.toList := by
      rw [hz] at hy2
      simpa using hy2
    rw [h3]
    have : z = s := ba_ext (by rw [ByteArray.toList_eq, ByteArray.toList_eq]; exact h4)
    rw [this]
  have hc : ∀ (i : Nat) (s : ByteArray), wordsL[i]? = some s → W.cell? ⟨0, i, none⟩ = some (.string s) := fun i s hs => by
    have := World.var?_cell (show Tryd.prog.globalNamed "colloquy/trace.words" = some 0 by kernel_rfl) hvar i
    rw [this]
    exact hcs i s hs
  exact ⟨hc, lt_of_cell (hc 0 _ rfl)⟩
theorem max_at {W : World} (h : W.ShapedOpen Tryd.prog) : MaxAt W := by
  obtain ⟨m, hm⟩ := Go.Proofs.cell_of_shapedOpen_int (g := 1) (zero := #[.int .i64 0]) (t := 3) (k := .i64) h (of_decide_eq_true (by kernel_rfl)) (by kernel_rfl) rfl (by kernel_rfl) (by kernel_rfl) Tryd.underlying3
  exact ⟨⟨m, hm⟩, lt_of_cell hm⟩
theorem gl_at {W : World} (h : laidMetH Tryd.prog [("math/bits.deBruijn32tab", Rows.laid_math_bits_deBruijn32tab), ("math/bits.deBruijn64tab", Rows.laid_math_bits_deBruijn64tab), ("internal/strconv.uint64pow10", Rows.laid_internal_strconv_uint64pow10), ("colloquy/trace.words", Rows.laid_colloquy_trace_words)] W) (hs : W.ShapedOpen Tryd.prog) : GlAt W ∧ 4 < W.heap.size := by
  rw [MakeChecks.laidMetH_plain _ _ _ (by kernel_rfl)] at h
  have h2 := laid_tail h
  have h3 := laid_tail h2
  have h4 := laid_tail h3
  refine ⟨⟨words_at h4, max_at hs, ?_⟩, ?_⟩
  · have h3' : laidMet Tryd.prog [("internal/strconv.uint64pow10", Lib.tabData .u64 Lib.pow10Tab), ("colloquy/trace.words", Rows.laid_colloquy_trace_words)] W := h3
    exact Lib.tabIs_of_head (g := 2) (t := 169) (e := 161) (n := 20) (by kernel_rfl) (by kernel_rfl) Tryd.underlying169 Tryd.underlying161 (by kernel_rfl) (by kernel_rfl) h3'
  · obtain ⟨ps, ⟨g', t', cs, fuel, p, q, hg', _, hvar, _⟩, _⟩ := h2
    unfold World.var? at hvar
    rw [show Tryd.prog.globalNamed "math/bits.deBruijn64tab" = some 4 by kernel_rfl] at hvar
    simp only [Option.bind_some] at hvar
    rcases Nat.lt_or_ge 4 W.heap.size with h' | h'
    · exact h'
    · rw [Array.getElem?_eq_none h'] at hvar; cases hvar
/-- A contract at every world of the row's kind is the row's claim: the listed variables and the world's shape are both handed to it. -/
theorem handed_shaped {H : Type} {enc : TypeId × Value → H} {a : Assume} {C : Checked} {os : Os} {f : FuncId} {fn : Func} {s : ChangeSpec} {conds : List PathCond} {apart fresh handsOn again : Bool} {X : World → Array Value → Prop}
    (hX : ∀ (w w' : World) (args : Array Value), w.heap = w'.heap → X w args → X w' args)
    (own : ownKnob C.prog.godebug = none) (started : os.Started) (noInit : C.prog.inits.idxOf? f = none) (hfn : C.prog.funcs[f]? = some fn)
    (wit : ∃ (w : World) (tape : Tape) (i : Input), w.os = os ∧ (w.forCall tape i).Shaped C.prog ∧ i.vars = [] ∧ Input.okWide C.prog (w.forCall tape i) .any w.heap.size f i ∧
      ((s.pre enc C.prog fn conds apart (w.forCall tape i).memory i.args ∧ X (w.forCall tape i).memory i.args) ∧ sizedMet enc C.prog fn (OpenSpec.ofChange s) apart (w.forCall tape i).memory i.args) ∧ a.holds C.prog (lone (Frame.enter C.prog f i.args .normal) [] (w.forCall tape i)))
    (con : ∀ (W : World) (base : Nat) (args : Array Value) (ds gs : List (DataW H)) (before : List MemPlace),
      (∀ (j : Nat) t v, fn.params[j]? = some t → args[j]? = some v → Value.okWide C.prog W .any base t v) →
      DataW.Whole enc C.prog fn.params.toList s.vars apart W args.toList ds gs before →
      (DataW.weightsEach C.prog (fn.params.toList ++ s.plain.varTypes C.prog) (ds ++ gs)).all (· ≤ reachBytes) = true → X W args → W.ShapedOpen C.prog →
      Calls C.prog f args W fun e W' => ∃ v, e = .returned v ∧ s.post enc C.prog fn apart fresh handsOn again W args v W') :
    ReturnsInHanded a C os f .any (fun w args => (s.pre enc C.prog fn conds apart w args ∧ X w args) ∧ sizedMet enc C.prog fn (OpenSpec.ofChange s) apart w args) (s.post enc C.prog fn apart fresh handsOn again) := by
  refine returnsInHanded_of_calls own started noInit wit ?_
  intro w tape i _ sh _ ok pre _
  obtain ⟨_, _, _, fn2, h2, _, _, _, _, val⟩ := ok
  obtain rfl : fn2 = fn := Option.some.inj (h2.symm.trans hfn)
  obtain ⟨⟨⟨ds, gs, before, hw, _⟩, hx⟩, hz⟩ := pre
  refine (con (w.forCall tape i) w.heap.size i.args ds gs before val (DataW.Whole.of_heap (w' := w.forCall tape i) (by rfl) hw) (hz.weights hw) (hX _ _ _ (by rfl) hx) sh).mono ?_
  rintro e W' ⟨v, rfl, hp⟩
  exact ChangeSpec.post_blind hp
end Go.Proofs.YtplenagncmhhoaaDoor
