/- With two names for one another a word has a tree just if it had one. No Go here. -/
import Derived.Test.YtnfaiaoipeholaaGreatVSws
import Derived.Test.YtnfaiaoipeholaaGreatVPar
namespace Go.Proofs.YtnfaiaoipeholaaGreat
section
variable {a b : Int} {s s' t t' u : ByteArray}
theorem sw_letters (h : Sw a b t t') : ∀ l : List Nat, (l.map fun k : Nat => bt t' k).filter (fun c => cL c) = (l.map fun k : Nat => bt t k).filter (fun c => cL c)
  | [] => rfl
  | k :: l => by
    have ih := sw_letters h l
    have e : bt t' k = sw a b (bt t k) := h.at_ k
    simp only [List.map_cons]
    cases hc : cL (bt t k)
    · rw [List.filter_cons_of_neg (by rw [e, sw_cL h.nn, hc]; decide), List.filter_cons_of_neg (by rw [hc]; decide), ih]
    · have hn : cN (bt t k) = false := by
        cases hn : cN (bt t k)
        · rfl
        · rw [cN_cL hn] at hc; cases hc
      rw [List.filter_cons_of_pos (by rw [e, sw_cL h.nn, hc]), List.filter_cons_of_pos (by rw [hc]), ih, e, sw_of _ hn h.nn]
theorem Sw.wd_ (h : Sw a b t t') : wd t' = wd t := by
  rw [wd_tl, wd_tl]
  unfold tl
  rw [h.sz, sw_letters h]
/-- what is the other text of any text -/
theorem prs_none_sw [Inhabited Chr] (hS : Sw a b s s') (hk : (chk s).1 = 0) (hw : isW u = true) (hx : HasFix s u) (hx' : HasFix s' u) (swp : ∀ t, ∃ t', Sw a b t t') (h : (prs s u).2 = 0) : (prs s' u).2 = 0 := by
  have hk' : (chk s').1 = 0 := by rw [hS.chk_]; exact hk
  rcases prs_ok hk hw hx with ⟨_, h2, h3, _⟩ | ⟨h1, _⟩
  · rcases prs_ok hk' hw hx' with ⟨g1, _⟩ | ⟨_, _, g3⟩
    · exact g1
    · obtain ⟨t', ht⟩ := swp (prs s u).1
      refine absurd ?_ (g3 t' ?_)
      · rw [ht.wd_]; exact h3
      · rw [hS.hgt_ ht]; exact h2
  · rw [h1] at h; cases h
theorem prs_sw [Inhabited Chr] (hS : Sw a b s s') (swp : ∀ t, ∃ t', Sw a b t t') (hx : (chk s).1 = 0 → isW u = true → HasFix s u) (hx' : (chk s').1 = 0 → isW u = true → HasFix s' u) : (prs s' u).2 = (prs s u).2 := by
  by_cases hk : (chk s).1 = 0
  · have hk' : (chk s').1 = 0 := by rw [hS.chk_]; exact hk
    cases hw : isW u
    · rw [prs_word hk hw, prs_word hk' hw]
    · have f1 := hx hk hw
      have f2 := hx' hk' hw
      have p1 := fun h => prs_none_sw hS hk hw f1 f2 swp h
      have p2 := fun h => prs_none_sw hS.symm hk' hw f2 f1 swp h
      rcases prs_ok hk hw f1 with ⟨h1, _⟩ | ⟨h1, _⟩
      · rw [h1, p1 h1]
      · rcases prs_ok hk' hw f2 with ⟨g1, _⟩ | ⟨g1, _⟩
        · rw [p2 g1] at h1; cases h1
        · rw [h1, g1]
  · have hk' : (chk s').1 ≠ 0 := by rw [hS.chk_]; exact hk
    rw [prs_bad hk, prs_bad hk', hS.chk_]
end
end Go.Proofs.YtnfaiaoipeholaaGreat
