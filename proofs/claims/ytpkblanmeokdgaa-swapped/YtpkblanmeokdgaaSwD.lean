/- Names are only names: what is made. No Go here. -/
import Derived.Test.YtpkblanmeokdgaaSwC
namespace Go.Proofs.Ytpkblanmeokdgaa
/-- the bytes with two names for one another -/
def mp (a b : Int) (p : Nat × List Int) : Nat × List Int := (p.1, p.2.map (sw a b))
section
variable {a b : Int} {s s' c : ByteArray}
theorem facsG_mp {g g' : Nat → Nat → Nat × List Int} (hg : ∀ f i, g' f i = mp a b (g f i)) : ∀ (L : List Nat) (i : Nat), facsG g' L i = mp a b (facsG g L i)
  | [], i => rfl
  | f :: L, i => by
    unfold facsG
    rw [hg, facsG_mp hg L]
    simp [mp]
theorem elsG_mp (n : NN a b) {g g' : Nat → Nat × List Int} (hg : ∀ i, g' i = mp a b (g i)) (i : Nat) : ∀ k, elsG g' i k = mp a b (elsG g i k)
  | 0 => rfl
  | k + 1 => by
    unfold elsG
    rw [elsG_mp n hg i k, hg]
    have h44 : sw a b 44 = 44 := sw_of 44 rfl n
    cases k with
    | zero => simp [mp]
    | succ k => simp [mp, h44]
theorem Sw.genF_ (h : Sw a b s s') (g : Gram s) (ten : Ten s) {m : Nat} {r r' : Nat → Nat → Nat → Nat × List Int} (hr : ∀ l x i, (sts s x).length ≤ 10 → r' l x i = mp a b (r l x i)) (l f i : Nat) : genF s' c m r' l f i = mp a b (genF s c m r l f i) := by
  have h40 : sw a b 40 = 40 := sw_of 40 rfl h.nn
  have h41 : sw a b 41 = 41 := sw_of 41 rfl h.nn
  unfold genF
  rw [h.cN_, h.cO_]
  split
  · rename_i hc
    obtain ⟨j, j1, j2, j3, _⟩ := g.name f hc
    have hx : (sts s (rl s (bt s f) + 2).toNat).length ≤ 10 := by
      rw [show (rl s (bt s f) + 2).toNat = j + 2 by omega]; exact ten.rule j j2 j3
    unfold genN
    rw [h.rlb, hr _ _ _ hx, h.at_]
    simp [mp, h40, h41]
  · split
    · rename_i hO
      unfold genB
      rw [h.cnt_, h.few_, h.cC_, h.at_, elsG_mp h.nn (fun i => hr l (f + 1) i (ten.sub f hO))]
      simp [mp, sw_of _ (cN_cC' (bt s f)) h.nn]
    · rw [h.at_]; simp [mp]
theorem Sw.gone_ (h : Sw a b s s') (l x i : Nat) : gone s' c l x i = gone s c l x i := by unfold gone; rw [h.fitL_]
theorem fitL_lt {l x k : Nat} (hk : k ∈ fitL s l x) : k < (sts s x).length := by
  unfold fitL at hk
  rw [List.mem_filter] at hk
  simpa using hk.1
theorem gone_ten {l x i : Nat} (hx : (sts s x).length ≤ 10) : gone s c l x i ≤ 9 := by
  unfold gone
  rw [List.getD_eq_getElem?_getD]
  cases hq : (fitL s l x)[wayN c i (fitL s l x).length]? with
  | none => simp
  | some k => have := fitL_lt (List.mem_of_getElem? hq); simp; omega
theorem Sw.genE_ (h : Sw a b s s') (g : Gram s) (ten : Ten s) (m : Nat) : ∀ n l x i, (sts s x).length ≤ 10 → genE s' c m n l x i = mp a b (genE s c m n l x i)
  | 0, l, x, i, _ => rfl
  | n + 1, l, x, i, hx => by
    unfold genE
    rw [h.gone_, h.fitL_, h.sts_, h.fe_, facsG_mp (fun f i => h.genF_ g ten (fun l x i hx => h.genE_ g ten m n l x i hx) l f i)]
    have h9 := gone_ten (c := c) (l := l) (i := i) hx
    have hd : sw a b (48 + (gone s c l x i : Int)) = 48 + (gone s c l x i : Int) := sw_of _ (by simp [cN]; omega) h.nn
    simp [mp, hd]
theorem Sw.made_ (h : Sw a b s s') (g : Gram s) (ten : Ten s) (hh m : Nat) : made s' c hh m = mp a b (made s c hh m) := by
  unfold made full dep
  rw [h.sz]
  exact h.genF_ g ten (fun l x i hx => h.genE_ g ten m _ l x i hx) hh 0 0
theorem bt_strs_out (L : List Int) {i : Int} (h : ¬ (0 ≤ i ∧ i < L.length)) : bt (strOfNums L) i = 0 := bt_out _ _ (by rw [strOfNums_size]; omega)
theorem Sw.strs {L : List Int} (n : NN a b) (hB : Byts L) : Sw a b (strOfNums L) (strOfNums (L.map (sw a b))) := by
  have hB' : Byts (L.map (sw a b)) := fun x hx => by
    obtain ⟨y, hy, rfl⟩ := List.mem_map.1 hx
    have h1 := n.ha
    have h2 := n.hb
    have := hB y hy
    rcases sw_cases a b y with ⟨e, _⟩ | ⟨e, _⟩ | e <;> rw [e] <;> omega
  refine ⟨n, by rw [strOfNums_size, strOfNums_size, List.length_map], fun i => ?_⟩
  by_cases hi : 0 ≤ i ∧ i < L.length
  · obtain ⟨k, rfl⟩ : ∃ k : Nat, i = k := ⟨i.toNat, by omega⟩
    have hk : k < L.length := by omega
    rw [bt_strs hB hk, bt_strs hB' (by rw [List.length_map]; exact hk), List.getElem_map]
  · rw [bt_strs_out L hi, bt_strs_out _ (by rw [List.length_map]; exact hi), sw_of 0 rfl n]
theorem made_byts (g : Gram s) (ten : Ten s) (hh m : Nat) : Byts (made s c hh m).2 := by
  unfold made genF
  rw [if_pos (startN g)]
  obtain ⟨j, j1, j2, j3, _⟩ := g.name 0 (startN g)
  refine Byts.cons (bt_byte s 0) (Byts.cons (by omega) (Byts.app ?_ (Byts.cons (by omega) Byts.nil)))
  rw [show (rl s (bt s (0 : Nat)) + 2).toNat = j + 2 by omega]
  exact genE_byts g ten _ _ _ _ (ten.rule j j2 j3)
/-- the same choices make the same tree with the names for one another -/
theorem mk_sw (h : Sw a b s s') (c : ByteArray) (hh m : Int) : (mk s' c hh m).2 = (mk s c hh m).2 ∧ ((mk s c hh m).2 = 0 → Sw a b (mk s c hh m).1 (mk s' c hh m).1) := by
  unfold mk
  rw [h.chk_]
  by_cases hk : (chk s).1 = 0
  · rw [if_neg (by simp [hk]), if_neg (by simp [hk])]
    have g := gram_of hk
    have ten := ten_chk hk
    have hn : nFit s' hh.toNat (bt s' (0 : Nat) - 65).toNat = nFit s hh.toNat (bt s (0 : Nat) - 65).toNat := by
      rw [h.at_]; exact h.nFit_ hh.toNat _ (startN g)
    have hm := h.made_ (c := c) g ten hh.toNat m.toNat
    have hl : (made s' c hh.toNat m.toNat).2.length = (made s c hh.toNat m.toNat).2.length := by rw [hm]; simp [mp]
    unfold mkR
    rw [hn, hl]
    by_cases h1 : 2000 < c.size ∨ digs c = false
    · rw [if_pos h1, if_pos h1]; exact ⟨rfl, fun e => by cases e⟩
    rw [if_neg h1, if_neg h1]
    by_cases h2 : ¬ (1 ≤ hh ∧ hh ≤ 9 ∧ 1 ≤ m ∧ m ≤ 5)
    · rw [if_pos h2, if_pos h2]; exact ⟨rfl, fun e => by cases e⟩
    rw [if_neg h2, if_neg h2]
    by_cases h3 : nFit s hh.toNat (bt s (0 : Nat) - 65).toNat = false
    · rw [if_pos h3, if_pos h3]; exact ⟨rfl, fun e => by cases e⟩
    rw [if_neg h3, if_neg h3]
    by_cases h4 : 2000 < (made s c hh.toNat m.toNat).2.length
    · rw [if_pos h4, if_pos h4]; exact ⟨rfl, fun e => by cases e⟩
    rw [if_neg h4, if_neg h4]
    refine ⟨rfl, fun _ => ?_⟩
    show Sw a b (strOfNums (made s c hh.toNat m.toNat).2) (strOfNums (made s' c hh.toNat m.toNat).2)
    rw [hm]
    exact Sw.strs h.nn (made_byts g ten _ _)
  · rw [if_pos hk, if_pos hk]
    exact ⟨rfl, fun e => absurd e hk⟩
end
end Go.Proofs.Ytpkblanmeokdgaa
