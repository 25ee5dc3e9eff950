/- What a card's row gives: the error that is listed, the library's own variable. -/
import Derived.Test.YtecgjbddcmpggaaDoorRows
import Derived.Test.YtecgjbddcmpggaaDoorSent
import Derived.MakeChecks
import Derived.HandedShaped
import Derived.Shelf.Vars
import Derived.Stop.IfaceNil
namespace Go.Proofs.YtecgjbddcmpggaaDoor
open Go.RowKit

theorem nStar : "*" ++ "errors.errorString" = "*errors.errorString" := by decide
theorem rowErr (u : TypeId) (h : Tryd.prog.typeName? 3 u = some "*errors.errorString") : u = 105 :=
  typeName_ptr_named (nm := "errors.errorString") (by rw [nStar]; kernel_rfl) (by kernel_rfl) (by decide) u (by rw [nStar]; exact h)
theorem errTypes : ErrTypes Tryd.prog 27 105 120 9 "*errors.errorString" :=
  { ex := ⟨_, _, Tryd.underlying27, Tryd.underlying120, rfl, rfl⟩, row := rowErr, hp := Tryd.underlying105, hs := Tryd.underlying9, hc := by kernel_rfl, hcs := by kernel_rfl }
/-- the variable ErrVersion holds a pointer -/
theorem errV {W : World} {l : List (String × DataW Unit)} (h : laidMetH Tryd.prog l W) (hl : (l.all fun x => x.2.handleName?.isNone) = true) (hm : ("haversack/api.ErrVersion", sentD "*errors.errorString" [104, 97, 118, 101, 114, 115, 97, 99, 107, 58, 32, 118, 101, 114, 115, 105, 111, 110]) ∈ l) : ∃ T pv, W.cell? ⟨0, 0, none⟩ = some (.iface T pv) := by
  rw [MakeChecks.laidMetH_plain _ _ _ hl] at h
  obtain ⟨ps, hv, hnd, hr⟩ := h
  obtain ⟨a, h1, _, _⟩ := sent_mem errTypes hv hr hm (g := 0) (by kernel_rfl) (by kernel_rfl)
  have := World.var?_cell (P := Tryd.prog) (n := "haversack/api.ErrVersion") (g := 0) (by kernel_rfl) h1 0
  exact ⟨_, _, by simpa using this⟩

section
variable {H : Type} {enc : TypeId × Value → H}
/-- what is asked of the run of one call, where X says what the world is and the world is shaped -/
theorem shaped_and {a : Assume} {C : Checked} {os : Os} {f : FuncId} {fn : Func} {s : ChangeSpec} {cs : List PathCond} {apart fresh handsOn again : Bool} {X : World → Array Value → Prop}
    (hX : ∀ (w w' : World) (args : Array Value), w.heap = w'.heap → X w args → X w' args)
    (own : ownKnob C.prog.godebug = none) (started : os.Started) (noInit : C.prog.inits.idxOf? f = none) (hfn : C.prog.funcs[f]? = some fn)
    (wit : ∃ (w : World) (tape : Tape) (i : Input), w.os = os ∧ (w.forCall tape i).Shaped C.prog ∧ i.vars = [] ∧ Input.okWide C.prog (w.forCall tape i) .any w.heap.size f i ∧
      ((s.pre enc C.prog fn cs apart (w.forCall tape i).memory i.args ∧ X (w.forCall tape i).memory i.args) ∧ sizedMet enc C.prog fn (OpenSpec.ofChange s) apart (w.forCall tape i).memory i.args) ∧ a.holds C.prog (lone (Frame.enter C.prog f i.args .normal) [] (w.forCall tape i)))
    (run : ∀ (W : World) (base : Nat) (args : Array Value) (ds gs : List (DataW H)) (before : List MemPlace),
      (∀ (j : Nat) t v, fn.params[j]? = some t → args[j]? = some v → Value.okWide C.prog W .any base t v) →
      DataW.Whole enc C.prog fn.params.toList s.vars apart W args.toList ds gs before → X W args → W.ShapedOpen C.prog →
      Calls C.prog f args W fun e W' => ∃ v, e = .returned v ∧ s.post enc C.prog fn apart fresh handsOn again W args v W') :
    ReturnsInHanded a C os f .any (fun w args => (s.pre enc C.prog fn cs apart w args ∧ X w args) ∧ sizedMet enc C.prog fn (OpenSpec.ofChange s) apart w args) (s.post enc C.prog fn apart fresh handsOn again) := by
  refine returnsInHanded_of_calls own started noInit wit fun w tape i _ hsh _ hok hpre _ => ?_
  have hval := hok.2.2.2
  obtain ⟨g, hg, _, _, _, _, hv⟩ := hval
  cases hg.symm.trans hfn
  obtain ⟨⟨⟨ds, gs, before, hw, _⟩, hx⟩, _⟩ := hpre
  have hr := run (w.forCall tape i) w.heap.size i.args ds gs before hv (DataW.Whole.of_heap (w' := w.forCall tape i) (by rfl) hw) (hX _ _ _ (by rfl) hx) hsh
  exact hr.mono fun e W' h => by
    obtain ⟨v, rfl, hp⟩ := h
    exact ChangeSpec.post_blind hp
end

/-- the library's own variable holds some number -/
theorem max_some {W : World} (h : W.ShapedOpen Tryd.prog) : ∃ m, W.cell? ⟨1, 0, none⟩ = some (.int .i64 m) :=
  cell_of_shapedOpen_int (zero := #[.int .i64 0]) (t := 3) h (of_decide_eq_true (by kernel_rfl)) (by kernel_rfl) rfl (by kernel_rfl) (by kernel_rfl) Tryd.underlying3

end Go.Proofs.YtecgjbddcmpggaaDoor
