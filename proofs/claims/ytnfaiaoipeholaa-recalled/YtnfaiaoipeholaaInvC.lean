/- Making and recalling, as a whole. No Go here. -/
import Derived.Test.YtnfaiaoipeholaaInvB
namespace Go.Proofs.Ytnfaiaoipeholaa
/-- bytes -/
def Byts (L : List Int) : Prop := ∀ x ∈ L, 0 ≤ x ∧ x ≤ 255
theorem Byts.app {A B : List Int} (h : Byts A) (g : Byts B) : Byts (A ++ B) := fun x hx => by
  rcases List.mem_append.1 hx with hx | hx
  · exact h x hx
  · exact g x hx
theorem Byts.cons {x : Int} {B : List Int} (h : 0 ≤ x ∧ x ≤ 255) (g : Byts B) : Byts (x :: B) := fun y hy => by
  rcases List.mem_cons.1 hy with rfl | hy
  · exact h
  · exact g y hy
theorem Byts.nil : Byts [] := fun x hx => by cases hx
theorem bt_strs {L : List Int} (h : Byts L) {k : Nat} (hk : k < L.length) : bt (strOfNums L) k = L[k] := by
  have hs : (strOfNums L).size = L.length := strOfNums_size L
  rw [bt_at _ k (by omega)]
  have hb := h L[k] (List.getElem_mem hk)
  show (((strOfNums L).data[k]'(by rw [show (strOfNums L).data.size = L.length from hs]; exact hk)).toNat : Int) = L[k]
  simp only [strOfNums, List.getElem_toArray, List.getElem_map]
  rw [UInt8.toNat_ofNat']
  have : L[k].toNat < 2 ^ 8 := by omega
  rw [Nat.mod_eq_of_lt this]; omega
theorem At.strs {L : List Int} (h : Byts L) : At (strOfNums L) 0 L := fun k hk => by rw [Nat.zero_add]; exact bt_strs h hk
theorem seg_get (t : ByteArray) : ∀ n i k (hk : k < (segF t n i).length), (segF t n i)[k] = bt t (i + k : Nat)
  | 0, i, k, hk => by simp [segF] at hk
  | n + 1, i, 0, hk => by simp [segF]
  | n + 1, i, k + 1, hk => by
    have := seg_get t n (i + 1) k (by simp [segF] at hk; exact hk)
    simp only [segF, List.getElem_cons_succ]
    rw [this, show i + 1 + k = i + (k + 1) by omega]
theorem strs_seg (t : ByteArray) : strOfNums (seg t 0 t.size) = t := by
  have hl : (seg t 0 t.size).length = t.size := by unfold seg; rw [segF_len]; omega
  have hsz : (strOfNums (seg t 0 t.size)).size = t.size := by rw [strOfNums_size, hl]
  refine ByteArray.ext (Array.ext hsz ?_)
  intro k h1 h2
  have hk : k < t.size := h2
  simp only [strOfNums, List.getElem_toArray, List.getElem_map]
  have e : (seg t 0 t.size)[k]'(by omega) = (t[k].toNat : Int) := by
    unfold seg
    rw [seg_get, Nat.zero_add, bt_at t k hk]
  rw [e]
  simp
  rfl
section
variable {s c t : ByteArray} {m : Nat}
theorem bt_byte (s : ByteArray) (f : Nat) : 0 ≤ bt s f ∧ bt s f ≤ 255 := bt_bd s f
theorem facsG_byts {gen : Nat → Nat → Nat × List Int} : ∀ (L : List Nat) (a : Nat), (∀ f ∈ L, ∀ a, Byts (gen f a).2) → Byts (facsG gen L a).2
  | [], a, _ => Byts.nil
  | f :: L, a, h => (h f (by simp) a).app (facsG_byts L _ (fun f' hf' => h f' (by simp [hf'])))
theorem elsG_byts {gen : Nat → Nat × List Int} (a : Nat) (h : ∀ a, Byts (gen a).2) : ∀ k, Byts (elsG gen a k).2
  | 0 => Byts.nil
  | k + 1 => by
    refine (elsG_byts a h k).app (Byts.app ?_ (h _))
    split
    · exact Byts.nil
    · exact Byts.cons (by omega) Byts.nil
theorem genE_byts (g : Gram s) (ten : Ten s) : ∀ N l x a, (sts s x).length ≤ 10 → Byts (genE s c m N l x a).2
  | 0, l, x, a, _ => Byts.nil
  | N + 1, l, x, a, h10 => by
    have hg9 : gone s c l x a ≤ 10 := by
      unfold gone
      rw [List.getD_eq_getElem?_getD]
      cases hq : (fitL s l x)[wayN c a (fitL s l x).length]? with
      | none => simp
      | some k =>
        have := (fitL_mem (List.mem_of_getElem? hq)).1
        simp; omega
    refine Byts.cons (by omega) (facsG_byts _ _ (fun f hf a => ?_))
    have hF := (fe_mem hf).1
    unfold genF
    split
    · rename_i hN
      obtain ⟨j, j1, j2, j3, _⟩ := g.name f hN
      refine Byts.cons (bt_byte s f) (Byts.cons (by omega) (Byts.app ?_ (Byts.cons (by omega) Byts.nil)))
      rw [show (rl s (bt s f) + 2).toNat = j + 2 by omega]
      exact genE_byts g ten N (l - 1) (j + 2) a (ten.rule j j2 j3)
    · split
      · rename_i hO
        exact Byts.cons (bt_byte s f) (Byts.app (elsG_byts _ (fun a => genE_byts g ten N l (f + 1) a (ten.sub f hO)) _) (Byts.cons (cC_bd _) Byts.nil))
      · exact Byts.cons (bt_byte s f) Byts.nil
/-- digits, and not too many -/
def Dgs (L : List Int) (n : Nat) : Prop := L.length ≤ n ∧ ∀ x ∈ L, 48 ≤ x ∧ x ≤ 57
theorem Dgs.app {A B : List Int} {p q : Nat} (h : Dgs A p) (g : Dgs B q) : Dgs (A ++ B) (p + q) := ⟨by simp only [List.length_append]; have := h.1; have := g.1; omega, fun x hx => by
  rcases List.mem_append.1 hx with hx | hx
  · exact h.2 x hx
  · exact g.2 x hx⟩
theorem Dgs.mono {A : List Int} {p q : Nat} (h : Dgs A p) (g : p ≤ q) : Dgs A q := ⟨Nat.le_trans h.1 g, h.2⟩
theorem Dgs.nil (n : Nat) : Dgs [] n := ⟨Nat.zero_le _, fun x hx => by cases hx⟩
theorem dgt_dgs (n : Nat) {w : Nat} (h : w ≤ 9) : Dgs (dgt n w) 1 := ⟨dgt_len n w, fun x hx => by
  unfold dgt at hx
  split at hx
  · simp at hx; omega
  · cases hx⟩
theorem dFs_dgs {g : Nat → Nat → Option (Nat × Nat)} {dg : Nat → Nat → List Int} : ∀ (L : List Nat) (i top j h : Nat), (∀ f ∈ L, ∀ i j h, g f i = some (j, h) → i < j) → (∀ f ∈ L, ∀ i j h, g f i = some (j, h) → Good t m i j → Dgs (dg f i) (j - i)) → pFs g L i top = some (j, h) → Good t m i j → Dgs (dFs g dg L i) (j - i)
  | [], i, top, j, h, _, _, _, _ => Dgs.nil _
  | f :: L, i, top, j, h, hlt, hg, e, hG => by
    unfold pFs at e
    cases hq : g f i with
    | none => rw [hq] at e; cases e
    | some q =>
      obtain ⟨a1, k⟩ := q
      rw [hq] at e
      simp only at e
      have h1 := hlt f (by simp) i a1 k hq
      have h2 := pFs_le L a1 (max top k) j h (fun f' hf' => hlt f' (by simp [hf'])) e
      simp only [dFs, hq]
      exact ((hg f (by simp) i a1 k hq (hG.sub (Nat.le_refl _) h2)).app (dFs_dgs L a1 (max top k) j h (fun f' hf' => hlt f' (by simp [hf'])) (fun f' hf' => hg f' (by simp [hf'])) e (hG.sub (by omega) (Nat.le_refl _)))).mono (by omega)
theorem dEl_dgs {rec : Nat → Option (Nat × Nat)} {dr : Nat → List Int} {b : Int} {many : Bool} (hlt : ∀ i j h, rec i = some (j, h) → i < j) (hg : ∀ i j h, rec i = some (j, h) → Good t m i j → Dgs (dr i) (j - i)) :
    ∀ mm i top cn j h, pEl t rec b many 0 mm i top cn = some (j, h) → Good t m i j → Dgs (dEl t rec dr b mm i) (j - i)
  | 0, i, top, cn, j, h, e, _ => by cases e
  | mm + 1, i, top, cn, j, h, e, hG => by
    obtain ⟨m', a1, k1, hm, hq, hk1, hc⟩ := pEl_parts e dr
    have hm' : m' = mm := by omega
    subst hm'
    have h1 := hlt i a1 k1 hq
    have hj := (pEl_gt hlt _ _ _ _ _ _ e).2 a1 k1 hq
    rcases hc with ⟨_, c1, _, c3⟩ | ⟨_, _, c1, _, c3⟩
    · rw [c3]
      exact (hg i a1 k1 hq (hG.sub (Nat.le_refl _) (by omega))).mono (by omega)
    · rw [c3]
      exact ((hg i a1 k1 hq (hG.sub (Nat.le_refl _) (by omega))).app (dEl_dgs hlt hg m' (a1 + 1) _ _ j h c1 (hG.sub (by omega) (Nat.le_refl _)))).mono (by omega)
theorem dF_dgs (hm : m ≤ 5) {n : Nat} (hE : ∀ l x i j h, pE s t 0 n x i = some (j, h) → Good t m i j → Dgs (dE s t m n l x i) (j - i)) {l f i j h : Nat} (hf : isF s f = true) (hp : pF s t 0 (pE s t 0 n) f i = some (j, h)) (hG : Good t m i j) : Dgs (dF s t m (pE s t 0 n) (dE s t m n) l f i) (j - i) := by
  have hlt := (pF_fwd (most := 0) (fun x i => pE_fwd s t 0 n x i) hf j h hp).1
  have hnz : bt s f ≠ 0 := by intro e; rw [isF, e] at hf; exact absurd hf (by decide)
  unfold pF at hp
  split at hp
  · cases hp
  rename_i hbt
  have hbt' : bt t i = bt s f := by omega
  unfold dF
  cases h2 : cN (bt s f)
  · rw [if_neg (by simp)]
    cases h3 : cO (bt s f)
    · rw [if_neg (by simp)]; exact Dgs.nil _
    · rw [if_pos rfl]
      have hL : cL (bt s f) = false := by have := cO_vals h3; simp [cL]; omega
      rw [if_neg (by simp [hL]), if_neg (by simp [h2])] at hp
      have hel := els_bracket (i := i) h3 hp
      have hGi := hG i (Nat.le_refl _) hlt (by rw [hbt']; exact h3)
      have hjj : i + 1 < j := (pB_fwd (most := 0) (fun x i => pE_fwd s t 0 n x i) (by simpa [cO] using h3) j h hp).1
      unfold dB
      refine Dgs.mono (Dgs.app (q := j - (i + 1)) (dgt_dgs _ (by omega)) ?_) (by omega)
      unfold pB at hp
      split at hp
      · rename_i hh; rw [if_pos hh]; exact Dgs.nil _
      · rename_i hh
        rw [if_neg hh]
        exact dEl_dgs (fun i j h e => (pE_fwd s t 0 n (f + 1) i j h e).1) (fun i' j' h' e' hG' => hE l (f + 1) i' j' h' e' hG') _ _ _ _ _ _ hp (hG.sub (Nat.le_succ i) (Nat.le_refl _))
  · rw [if_pos rfl]
    have hL : cL (bt s f) = false := by
      have hv : 65 ≤ bt s f ∧ bt s f ≤ 90 := by simpa [cN] using h2
      simp [cL]; omega
    rw [if_neg (by simp [hL]), if_pos h2] at hp
    unfold pN at hp
    split at hp
    · cases hp
    cases hq : pE s t 0 n (rl s (bt s f) + 2).toNat (i + 1 + 1) with
    | none => rw [hq] at hp; cases hp
    | some q =>
      obtain ⟨a1, k⟩ := q
      rw [hq] at hp
      simp only at hp
      split at hp
      case isFalse => cases hp
      simp only [Option.some.injEq, Prod.mk.injEq] at hp
      have hfw := (pE_fwd s t 0 n _ _ a1 k hq).1
      exact (hE (l - 1) _ _ _ _ hq (hG.sub (by omega) (by omega))).mono (by omega)
theorem dE_dgs (hm : m ≤ 5) : ∀ n l x i j h, pE s t 0 n x i = some (j, h) → Good t m i j → Dgs (dE s t m n l x i) (j - i)
  | 0, l, x, i, j, h, e, _ => by cases e
  | n + 1, l, x, i, j, h, e, hG => by
    obtain ⟨K, y, hbk, hk9, hka, hpf⟩ := pE_parts e
    have hle1 := pFs_le (fe s y).1 (i + 1) 0 j h (fun f hf i j h e => (pF_fwd (most := 0) (fun x i => pE_fwd s t 0 n x i) (fe_mem hf).1 j h e).1) hpf
    unfold dE
    rw [show (bt t i - 48).toNat = K by omega, hka]
    simp only
    have hw := wayIx_le s l x K
    exact ((dgt_dgs _ (by omega)).app (dFs_dgs (t := t) (m := m) (fe s y).1 (i + 1) 0 j h (fun f hf i j h e => (pF_fwd (most := 0) (fun x i => pE_fwd s t 0 n x i) (fe_mem hf).1 j h e).1)
      (fun f hf i' j' h' e' hG' => dF_dgs hm (fun l x i j h e hG => dE_dgs hm n l x i j h e hG) (fe_mem hf).1 e' hG') hpf (hG.sub (Nat.le_succ i) (Nat.le_refl _)))).mono (by omega)
theorem dgF_of (c : ByteArray) : ∀ n i, (∀ j : Nat, i ≤ j → j < i + n → cD (bt c j) = true) → dgF c n i = true
  | 0, i, _ => rfl
  | n + 1, i, h => by
    unfold dgF
    rw [h i (Nat.le_refl _) (by omega), dgF_of c n (i + 1) (fun j h1 h2 => h j (by omega) (by omega))]; rfl
theorem digs_of {L : List Int} {n : Nat} (h : Dgs L n) : digs (strOfNums L) = true := by
  have hB : Byts L := fun x hx => by have := h.2 x hx; omega
  unfold digs
  refine dgF_of _ _ _ (fun j _ h2 => ?_)
  rw [strOfNums_size, Nat.zero_add] at h2
  rw [bt_strs hB h2]
  have := h.2 L[j] (List.getElem_mem h2)
  simp [cD]; omega
end
end Go.Proofs.Ytnfaiaoipeholaa
