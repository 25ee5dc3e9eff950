/- What the listed errors are, in any program: each variable holds a pointer of its own; no two of them are the same. -/
import Derived.Stop.LaidErr
import Derived.WalkKit
namespace Go.Proofs.YtecgjbddcmpggaaDoor
open Go.RowKit

/-- the types of an error made by errors.New -/
structure ErrTypes (P : Program) (ti tp te ts : TypeId) (nm : String) : Prop where
  ex : ∃ (ms : Array (String × TypeId)) (f : Field), P.underlying ti = some (.interface ms) ∧ P.underlying te = some (.struct #[f]) ∧ f.type = ts ∧ f.offset = 0
  row : ∀ u, P.typeName? 3 u = some nm → u = tp
  hp : P.underlying tp = some (.pointer te)
  hs : P.underlying ts = some .string
  hc : P.cellsOf te = 1
  hcs : P.cellsOf ts = 1

def sentD (nm : String) (text : List UInt8) : DataW Unit := .iface nm (.ptr (.agg [.lit (.string text)]))

def RowsOk (P : Program) (w : World) (ps : List MemPlace) : Prop := ∀ b off, MemPlace.cell b off ∈ ps →
  (∃ c t, w.heap[b]? = some (.cells c t (0, 0))) ∧ ∀ u v, w.cell? ⟨b, off, none⟩ = some (.iface u v) → Value.okWide P w .any 0 u v

theorem RowsOk.sub {P : Program} {w : World} {ps qs : List MemPlace} (h : RowsOk P w ps) (hs : ∀ x ∈ qs, x ∈ ps) : RowsOk P w qs := fun b off hb => h b off (hs _ hb)

section
variable {P : Program} {w : World} {ti tp te ts : TypeId} {nm : String}

/-- the first of a list, if it is an error -/
theorem sent_head (T : ErrTypes P ti tp te ts nm) {n : String} {text : List UInt8} {g : Nat} {t : TypeId} {cs : Array Value} {fuel : Nat} {p : List MemPlace} (hg : P.globalNamed n = some g) (hv : w.var? P n = some cs)
    (hd : DataW.trod (fun _ => ()) P w 0 (fun _ => true) false fuel t cs.toList = some (sentD nm text, p)) (ht : t = ti) (hr : RowsOk P w (MemPlace.row ⟨g, 0, none⟩ cs.size ++ p)) :
    ∃ a : Addr, cs = #[.iface tp (.pointer (some a))] ∧ MemPlace.cell a.block a.off ∈ p ∧ ∃ c t', w.heap[a.block]? = some (.cells c t' (0, 0)) := by
  subst ht
  obtain ⟨ms, f, h1, h2, h3, h4⟩ := T.ex
  obtain ⟨l⟩ := cs
  have ok0 : ∀ u v, l = [.iface u v] → Value.okWide P w .any 0 u v := fun u v e => by
    subst e
    exact (hr g 0 (by simp [MemPlace.row])).2 u v (by simpa using World.var?_cell hg hv 0)
  obtain ⟨a, s, rfl, hc0, hs0, hz0, rfl⟩ := errorString_of_trod h1 T.row T.hp h2 h3 h4 T.hs T.hc T.hcs hd ok0
  have hm : MemPlace.cell a.block a.off ∈ MemPlace.row a 1 := by simp [MemPlace.row]
  exact ⟨a, rfl, hm, (hr a.block a.off (List.mem_append_right _ hm)).1⟩

theorem sent_mem (T : ErrTypes P ti tp te ts nm) : ∀ {l : List (String × DataW Unit)} {ps : List MemPlace}, DataW.LaidVars P w l ps → RowsOk P w ps → ∀ {n : String} {text : List UInt8} {g : Nat},
    (n, sentD nm text) ∈ l → P.globalNamed n = some g → (P.globals[g]?).map (·.type) = some ti →
    ∃ a : Addr, w.var? P n = some #[.iface tp (.pointer (some a))] ∧ MemPlace.cell a.block a.off ∈ ps ∧ ∃ c t', w.heap[a.block]? = some (.cells c t' (0, 0))
  | [], _, _, _, _, _, _, hm, _, _ => by cases hm
  | (n', d') :: r, ps, h, hr, n, text, g, hm, hg, ht => by
    obtain ⟨g', t, cs, fuel, p, q, h1, h2, h3, h4, h5, rfl⟩ := h
    rcases List.mem_cons.1 hm with e | e
    · cases e
      obtain rfl := Option.some.inj (hg.symm.trans h1)
      obtain rfl := Option.some.inj (ht.symm.trans h2)
      obtain ⟨a, rfl, ha, hb⟩ := sent_head T hg h3 h4 rfl (hr.sub (fun x hx => List.mem_append_left _ hx))
      exact ⟨a, h3, List.mem_append_left _ (List.mem_append_right _ ha), hb⟩
    · obtain ⟨a, hv, ha, hb⟩ := sent_mem T h5 (hr.sub (fun x hx => List.mem_append_right _ hx)) e hg ht
      exact ⟨a, hv, List.mem_append_right _ ha, hb⟩

theorem sent_ne (T : ErrTypes P ti tp te ts nm) : ∀ {l : List (String × DataW Unit)} {ps : List MemPlace}, DataW.LaidVars P w l ps → ps.Nodup → RowsOk P w ps → ∀ {n m : String} {tn tm : List UInt8} {g k : Nat} {a b : Addr},
    (n, sentD nm tn) ∈ l → (m, sentD nm tm) ∈ l → n ≠ m → P.globalNamed n = some g → P.globalNamed m = some k → (P.globals[g]?).map (·.type) = some ti → (P.globals[k]?).map (·.type) = some ti →
    w.var? P n = some #[.iface tp (.pointer (some a))] → w.var? P m = some #[.iface tp (.pointer (some b))] → a ≠ b
  | [], _, _, _, _, _, _, _, _, _, _, _, _, hm, _, _, _, _, _, _, _, _ => by cases hm
  | (n', d') :: r, ps, h, hnd, hr, n, m, tn, tm, g, k, a, b, hn, hm, hne, hg, hk, htg, htk, hvn, hvm => by
    obtain ⟨g', t, cs, fuel, p, q, h1, h2, h3, h4, h5, rfl⟩ := h
    have hrq : RowsOk P w q := hr.sub (fun x hx => List.mem_append_right _ hx)
    have hrp := hr.sub (qs := MemPlace.row ⟨g', 0, none⟩ cs.size ++ p) (fun x hx => List.mem_append_left _ hx)
    have hdis : ∀ x, x ∈ p → x ∈ q → False := fun x hp hq => by
      have := (List.nodup_append.1 hnd).2.2 x (List.mem_append_right _ hp) x hq
      exact this rfl
    rcases List.mem_cons.1 hn with e | e
    · cases e
      obtain rfl := Option.some.inj (hg.symm.trans h1)
      obtain rfl := Option.some.inj (htg.symm.trans h2)
      obtain ⟨a', rfl, ha, _⟩ := sent_head T hg h3 h4 rfl hrp
      have ea : a' = a := by have := h3.symm.trans hvn; simpa using this
      subst ea
      rcases List.mem_cons.1 hm with e2 | e2
      · cases e2; exact absurd rfl hne
      · obtain ⟨b', hv, hb, _⟩ := sent_mem T h5 hrq e2 hk htk
        have eb : b' = b := by have := hv.symm.trans hvm; simpa using this
        subst eb
        rintro rfl
        exact hdis _ ha hb
    · rcases List.mem_cons.1 hm with e2 | e2
      · cases e2
        obtain rfl := Option.some.inj (hk.symm.trans h1)
        obtain rfl := Option.some.inj (htk.symm.trans h2)
        obtain ⟨b', rfl, hb, _⟩ := sent_head T hk h3 h4 rfl hrp
        have eb : b' = b := by have := h3.symm.trans hvm; simpa using this
        subst eb
        obtain ⟨a', hv, ha, _⟩ := sent_mem T h5 hrq e hg htg
        have ea : a' = a := by have := hv.symm.trans hvn; simpa using this
        subst ea
        rintro rfl
        exact hdis _ hb ha
      · exact sent_ne T h5 (List.nodup_append.1 hnd).2.1 hrq e e2 hne hg hk htg htk hvn hvm

end
end Go.Proofs.YtecgjbddcmpggaaDoor
