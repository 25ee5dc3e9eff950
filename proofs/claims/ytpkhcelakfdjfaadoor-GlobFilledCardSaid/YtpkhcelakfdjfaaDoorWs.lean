/- A row's frame that hands on what the listed variables read as and the shape of the world; a list of texts that is handed in, opened. -/
import Derived.Test.YtpkhcelakfdjfaaDoorDd
import Derived.HandedShaped
import Derived.Shelf.Vars
import Derived.SliceStrings
namespace Go.Proofs.YtpkhcelakfdjfaaDoor
open Go.RowKit

section
variable {H : Type} {enc : TypeId × Value → H}
/-- what is asked of the run of one call, where X says what the world is and the world is shaped -/
theorem shaped_and {a : Assume} {C : Checked} {os : Os} {f : FuncId} {fn : Func} {s : ChangeSpec} {cs : List PathCond} {apart fresh handsOn again : Bool} {X : World → Array Value → Prop}
    (hX : ∀ (w w' : World) (args : Array Value), w.heap = w'.heap → X w args → X w' args)
    (own : ownKnob C.prog.godebug = none) (started : os.Started) (noInit : C.prog.inits.idxOf? f = none) (hfn : C.prog.funcs[f]? = some fn)
    (wit : ∃ (w : World) (tape : Tape) (i : Input), w.os = os ∧ (w.forCall tape i).Shaped C.prog ∧ i.vars = [] ∧ Input.okWide C.prog (w.forCall tape i) .any w.heap.size f i ∧
      ((s.pre enc C.prog fn cs apart (w.forCall tape i).memory i.args ∧ X (w.forCall tape i).memory i.args) ∧ sizedMet enc C.prog fn (OpenSpec.ofChange s) apart (w.forCall tape i).memory i.args) ∧ a.holds C.prog (lone (Frame.enter C.prog f i.args .normal) [] (w.forCall tape i)))
    (run : ∀ (W : World) (base : Nat) (args : Array Value) (ds gs : List (DataW H)) (before : List MemPlace),
      (∀ (j : Nat) t v, fn.params[j]? = some t → args[j]? = some v → Value.okWide C.prog W .any base t v) →
      DataW.Whole enc C.prog fn.params.toList s.vars apart W args.toList ds gs before → X W args → W.ShapedOpen C.prog →
      Calls C.prog f args W fun e W' => ∃ v, e = .returned v ∧ s.post enc C.prog fn apart fresh handsOn again W args v W') :
    ReturnsInHanded a C os f .any (fun w args => (s.pre enc C.prog fn cs apart w args ∧ X w args) ∧ sizedMet enc C.prog fn (OpenSpec.ofChange s) apart w args) (s.post enc C.prog fn apart fresh handsOn again) := by
  refine returnsInHanded_of_calls own started noInit wit fun w tape i _ hsh _ hok hpre _ => ?_
  have hval := hok.2.2.2
  obtain ⟨g, hg, _, _, _, _, hv⟩ := hval
  cases hg.symm.trans hfn
  obtain ⟨⟨⟨ds, gs, before, hw, _⟩, hx⟩, _⟩ := hpre
  have hr := run (w.forCall tape i) w.heap.size i.args ds gs before hv (DataW.Whole.of_heap (w' := w.forCall tape i) (by rfl) hw) (hX _ _ _ (by rfl) hx) hsh
  exact hr.mono fun e W' h => by
    obtain ⟨v, rfl, hp⟩ := h
    exact ChangeSpec.post_blind hp
end

/-- the library's own variable holds some number -/
theorem max_some {W : World} (h : W.ShapedOpen Tryd.prog) : ∃ m, W.cell? ⟨0, 0, none⟩ = some (.int .i64 m) :=
  cell_of_shapedOpen_int (zero := #[.int .i64 0]) (t := 3) h (of_decide_eq_true (by kernel_rfl)) (by kernel_rfl) rfl (by kernel_rfl) (by kernel_rfl) Tryd.underlying3

theorem cell_spot {w : World} {a : Addr} {v : Value} (h : w.cell? a = some v) : a.spot = none ∧ a.block < w.heap.size := by
  unfold World.cell? at h
  constructor
  · cases hs : a.spot with
    | none => rfl
    | some x => rw [hs] at h; simp at h; split at h <;> simp at h
  · rcases Nat.lt_or_ge a.block w.heap.size with hb | hb
    · exact hb
    · rw [Array.getElem?_eq_none hb] at h; simp at h
/-- a list of texts in memory -/
def StrsAt (w : World) (ao : Option Addr) (nf cap : Nat) : Prop :=
  nf = 0 ∨ ∃ (b off : Nat) (ss : List ByteArray), ao = some ⟨b, off, none⟩ ∧ nf ≤ cap ∧ cap ≤ maxLen ∧ b < w.heap.size ∧ (∀ j, j < nf → w.cell? ⟨b, off + j, none⟩ = some (.string (ss.getD j ByteArray.empty))) ∧ (∀ j, j < nf → (ss.getD j ByteArray.empty).size ≤ maxLen)
theorem strs_open {H : Type} {enc : TypeId × Value → H} {W : World} {held : Bool} {ao : Option Addr} {nf cp : Nat} {x : DataW H × List MemPlace}
    (h : ∃ n, DataW.trod enc Tryd.prog W 0 (fun _ => true) held n 26 [.slice ao nf cp] = some x) : nf ≤ maxLen ∧ StrsAt W ao nf cp := by
  obtain ⟨n, hn⟩ := h
  rcases Go.ChangeShapes.open_strings Tryd.underlying26 Tryd.underlying9 (by kernel_rfl) hn with ⟨hcs, _⟩ | ⟨a, len, cap, ss, hcs, _, hl, hm, hsl, _, hc, hz⟩
  · obtain ⟨rfl, rfl, rfl⟩ : ao = none ∧ nf = 0 ∧ cp = 0 := by simpa using hcs
    exact ⟨Nat.zero_le _, .inl rfl⟩
  · obtain ⟨rfl, rfl, rfl⟩ : ao = some a ∧ nf = len ∧ cp = cap := by simpa using hcs
    refine ⟨Nat.le_trans hl hm, ?_⟩
    rw [if_pos rfl] at hsl
    by_cases h0 : nf = 0
    · exact .inl h0
    · obtain ⟨hs, hb⟩ := cell_spot (hc 0 (by omega))
      obtain ⟨b, off, sp⟩ := a
      have hsp : sp = none := by
        have := hs
        unfold Addr.add at this
        split at this <;> simp_all
      subst hsp
      have hadd : ∀ j, (⟨b, off, none⟩ : Addr).add j = ⟨b, off + j, none⟩ := fun j => by unfold Addr.add; split <;> simp_all
      refine .inr ⟨b, off, ss, rfl, hl, hm, ?_, fun j hj => ?_, fun j hj => ?_⟩
      · have := hb; rw [hadd] at this; exact this
      · rw [← hadd]; exact hc j (by omega)
      · have hj2 : j < ss.length := by omega
        have : ss.getD j ByteArray.empty = ss[j] := by simp [List.getD, hj2]
        rw [this]
        exact hz _ (List.getElem_mem hj2)
theorem law_filled (p : ByteArray) (ao : Option Addr) (nf cap : Nat) (m : Int) (w : World) (hp : p.size ≤ maxLen) (hn : nf ≤ maxLen) (hs : StrsAt w ao nf cap) (hm : w.cell? ⟨0, 0, none⟩ = some (.int .i64 m)) : Calls Tryd.prog 4 #[.string p, .slice ao nf cap] w (Yes w) := by
  by_cases hl : 100 < p.size ∨ 100 < nf
  · exact filled_long p ao nf cap w hp hn hl
  · rcases hs with rfl | ⟨b, off, ss, rfl, h1, h2, h3, h4, h5⟩
    · exact filled_none p ao cap m w (by omega) hm
    · exact filled_some p b off cap nf ss m w (by omega) hm (by omega) h1 h2 h3 h4 h5

end Go.Proofs.YtpkhcelakfdjfaaDoor
