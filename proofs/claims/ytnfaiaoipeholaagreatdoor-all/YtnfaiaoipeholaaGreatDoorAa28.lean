/- InvB InvC ParF RWord RParsed ParG ParsesPlays -/
import Derived.Test.YtnfaiaoipeholaaGreatDoorAa25
import Derived.Test.YtnfaiaoipeholaaGreatDoorAa27
import Derived.Test.YtnfaiaoipeholaaGreatDoorAa08
import Derived.Test.YtnfaiaoipeholaaGreatDoorAa01
namespace Go.Proofs.YtnfaiaoipeholaaGreatDoor
/-- the bytes of a text, from a place to another -/
def segF (t : ByteArray) : Nat → Nat → List Int
  | 0, _ => []
  | n + 1, i => bt t i :: segF t n (i + 1)
def seg (t : ByteArray) (i j : Nat) : List Int := segF t (j - i) i
theorem segF_add (t : ByteArray) : ∀ a b i, segF t (a + b) i = segF t a i ++ segF t b (i + a)
  | 0, b, i => by simp [segF]
  | a + 1, b, i => by
    rw [show a + 1 + b = (a + b) + 1 by omega]
    show bt t i :: segF t (a + b) (i + 1) = _
    rw [segF_add t a b (i + 1), show i + 1 + a = i + (a + 1) by omega]; rfl
theorem seg_app {t : ByteArray} {i j k : Nat} (h1 : i ≤ j) (h2 : j ≤ k) : seg t i k = seg t i j ++ seg t j k := by
  unfold seg
  rw [show k - i = (j - i) + (k - j) by omega, segF_add, show i + (j - i) = j by omega]
theorem seg_one (t : ByteArray) (i : Nat) : seg t i (i + 1) = [bt t i] := by unfold seg; rw [show i + 1 - i = 1 by omega]; rfl
theorem seg_self (t : ByteArray) (i : Nat) : seg t i i = [] := by unfold seg; rw [show i - i = 0 by omega]; rfl
theorem segF_len (t : ByteArray) : ∀ n i, (segF t n i).length = n
  | 0, i => rfl
  | n + 1, i => by simp [segF, segF_len t n]
theorem Good.sub {t : ByteArray} {most : Int} {i j i' j' : Nat} (h : Good t most i j) (h1 : i ≤ i') (h2 : j' ≤ j) : Good t most i' j' := fun p a b c => h p (by omega) (by omega) c
section
variable {s c t : ByteArray} {m : Nat}
end
end Go.Proofs.YtnfaiaoipeholaaGreatDoor

namespace Go.Proofs.YtnfaiaoipeholaaGreatDoor
/-- bytes -/
def Byts (L : List Int) : Prop := ∀ x ∈ L, 0 ≤ x ∧ x ≤ 255
theorem Byts.app {A B : List Int} (h : Byts A) (g : Byts B) : Byts (A ++ B) := fun x hx => by
  rcases List.mem_append.1 hx with hx | hx
  · exact h x hx
  · exact g x hx
theorem Byts.cons {x : Int} {B : List Int} (h : 0 ≤ x ∧ x ≤ 255) (g : Byts B) : Byts (x :: B) := fun y hy => by
  rcases List.mem_cons.1 hy with rfl | hy
  · exact h
  · exact g y hy
theorem Byts.nil : Byts [] := fun x hx => by cases hx
theorem bt_strs {L : List Int} (h : Byts L) {k : Nat} (hk : k < L.length) : bt (strOfNums L) k = L[k] := by
  have hs : (strOfNums L).size = L.length := strOfNums_size L
  rw [bt_at _ k (by omega)]
  have hb := h L[k] (List.getElem_mem hk)
  show (((strOfNums L).data[k]'(by rw [show (strOfNums L).data.size = L.length from hs]; exact hk)).toNat : Int) = L[k]
  simp only [strOfNums, List.getElem_toArray, List.getElem_map]
  rw [UInt8.toNat_ofNat']
  have : L[k].toNat < 2 ^ 8 := by omega
  rw [Nat.mod_eq_of_lt this]; omega
theorem At.strs {L : List Int} (h : Byts L) : At (strOfNums L) 0 L := fun k hk => by rw [Nat.zero_add]; exact bt_strs h hk
theorem seg_get (t : ByteArray) : ∀ n i k (hk : k < (segF t n i).length), (segF t n i)[k] = bt t (i + k : Nat)
  | 0, i, k, hk => by simp [segF] at hk
  | n + 1, i, 0, hk => by simp [segF]
  | n + 1, i, k + 1, hk => by
    have := seg_get t n (i + 1) k (by simp [segF] at hk; exact hk)
    simp only [segF, List.getElem_cons_succ]
    rw [this, show i + 1 + k = i + (k + 1) by omega]
theorem strs_seg (t : ByteArray) : strOfNums (seg t 0 t.size) = t := by
  have hl : (seg t 0 t.size).length = t.size := by unfold seg; rw [segF_len]; omega
  have hsz : (strOfNums (seg t 0 t.size)).size = t.size := by rw [strOfNums_size, hl]
  refine ByteArray.ext (Array.ext hsz ?_)
  intro k h1 h2
  have hk : k < t.size := h2
  simp only [strOfNums, List.getElem_toArray, List.getElem_map]
  have e : (seg t 0 t.size)[k]'(by omega) = (t[k].toNat : Int) := by
    unfold seg
    rw [seg_get, Nat.zero_add, bt_at t k hk]
  rw [e]
  simp
  rfl
section
variable {s c t : ByteArray} {m : Nat}
theorem bt_byte (s : ByteArray) (f : Nat) : 0 ≤ bt s f ∧ bt s f ≤ 255 := bt_bd s f
/-- digits, and not too many -/
def Dgs (L : List Int) (n : Nat) : Prop := L.length ≤ n ∧ ∀ x ∈ L, 48 ≤ x ∧ x ≤ 57
theorem Dgs.app {A B : List Int} {p q : Nat} (h : Dgs A p) (g : Dgs B q) : Dgs (A ++ B) (p + q) := ⟨by simp only [List.length_append]; have := h.1; have := g.1; omega, fun x hx => by
  rcases List.mem_append.1 hx with hx | hx
  · exact h.2 x hx
  · exact g.2 x hx⟩
theorem Dgs.mono {A : List Int} {p q : Nat} (h : Dgs A p) (g : p ≤ q) : Dgs A q := ⟨Nat.le_trans h.1 g, h.2⟩
theorem Dgs.nil (n : Nat) : Dgs [] n := ⟨Nat.zero_le _, fun x hx => by cases hx⟩
end
end Go.Proofs.YtnfaiaoipeholaaGreatDoor

namespace Go.Proofs.YtnfaiaoipeholaaGreatDoor
section
variable {s u : ByteArray} {R X W : Tb}
theorem wrFs_byts {g : Nat → Nat → Nat → List Int} : ∀ (l : List Nat) (a b : Nat), (∀ f ∈ l, ∀ a b, Byts (g f a b)) → Byts (wrFs s u R X W g l a b)
  | [], a, b, h => Byts.nil
  | f :: l, a, b, h => by
    unfold wrFs
    exact (h f (by simp) _ _).app (wrFs_byts l _ _ (fun f' hf => h f' (by simp [hf])))
theorem wrR_byts {rec : Nat → Nat → List Int} {x : Nat} (h : ∀ a b, Byts (rec a b)) : ∀ m a b, Byts (wrR X W rec x m a b)
  | 0, a, b => Byts.nil
  | m + 1, a, b => by
    unfold wrR
    refine (h _ _).app ?_
    split
    · exact Byts.cons (by omega) (wrR_byts h m _ _)
    · exact Byts.nil
theorem wrF_byts (g : Gram s) (ins : Ins s) {rec : Nat → Nat → Nat → List Int} (h : ∀ x a b, begs s x = true → Byts (rec x a b)) {f : Nat} (hf : isF s f = true) (a b : Nat) : Byts (wrF s X W rec f a b) := by
  unfold wrF
  refine Byts.cons (bt_byte s f) ?_
  have hI : cL (bt s f) = false → Byts (wrI s X W rec f a b) := fun hl => by
    have hb := (wi_begs g ins hf hl).2
    unfold wrI
    split
    · exact Byts.nil
    split
    · exact wrR_byts (fun a b => h _ a b hb) _ _ _
    · exact h _ _ _ hb
  split
  · rename_i hn
    have hl : cL (bt s f) = false := by
      have : 65 ≤ bt s f ∧ bt s f ≤ 90 := by simpa [cN] using hn
      simp [cL]; omega
    exact Byts.cons (by omega) ((hI hl).app (Byts.cons (by omega) Byts.nil))
  · split
    · rename_i ho
      have hl : cL (bt s f) = false := by
        have := cO_vals ho
        simp [cL]; omega
      exact (hI hl).app (Byts.cons (cC_bd _) Byts.nil)
    · exact Byts.nil
theorem wrE_byts (g : Gram s) (ins : Ins s) : ∀ n x a b, begs s x = true → Byts (wrE s u R X W n x a b)
  | 0, x, a, b, hb => Byts.nil
  | n + 1, x, a, b, hb => by
    unfold wrE
    have hk : (exC s R x a b).2 ≤ 9 := by
      have h10 := ins.few x hb
      rcases bst_cases (fun k => R ((sts s x).getD k 0) a b + 1) (sts s x).length 0 (2001, 0) with e | ⟨j, h1, h2, h3, _⟩
      · unfold exC; rw [e]; simp
      · unfold exC; rw [h3]; simp only; omega
    refine Byts.cons (by omega) (wrFs_byts _ _ _ (fun f hf a b => wrF_byts g ins (wrE_byts g ins n) (fe_mem hf).1 a b))
theorem seg_rng (t : ByteArray) : ∀ n i, segF t n i = (List.range' i n).map fun k : Nat => bt t k
  | 0, i => rfl
  | n + 1, i => by
    show bt t i :: segF t n (i + 1) = _
    rw [seg_rng t n (i + 1)]; rfl
/-- the letters -/
def wd (t : ByteArray) : ByteArray := strOfNums ((seg t 0 t.size).filter cL)
theorem wd_size (t : ByteArray) : (wd t).size ≤ t.size := by
  unfold wd seg
  rw [strOfNums_size]
  refine Nat.le_trans (List.length_filter_le _ _) ?_
  rw [segF_len]; omega
theorem wd_tl (t : ByteArray) : wd t = strOfNums (tl t 0 t.size) := by
  unfold wd tl seg
  rw [seg_rng]
theorem ws_all (u : ByteArray) : ws u 0 u.size = seg u 0 u.size := by unfold ws seg; rw [seg_rng]
theorem strs_ws (u : ByteArray) : strOfNums (ws u 0 u.size) = u := by rw [ws_all, strs_seg]
theorem tl_byts (t : ByteArray) (i j : Nat) : Byts (tl t i j) := fun x hx => by
  unfold tl at hx
  rw [List.mem_filter, List.mem_map] at hx
  obtain ⟨⟨k, _, rfl⟩, _⟩ := hx
  exact bt_byte t k
theorem ws_strs {L : List Int} (h : Byts L) : ws (strOfNums L) 0 (strOfNums L).size = L := by
  apply List.ext_getElem
  · rw [ws_len, strOfNums_size]; omega
  · intro k h1 h2
    have := bt_strs h h2
    simp only [ws, List.getElem_map, List.getElem_range']
    rw [Nat.zero_add, Nat.one_mul]; exact this
/-- the word, said in two ways -/
theorem wd_iff (t u : ByteArray) : wd t = u ↔ tl t 0 t.size = ws u 0 u.size := by
  constructor
  · intro h
    rw [wd_tl] at h
    rw [← h, ws_strs (tl_byts _ _ _)]
  · intro h
    rw [wd_tl, h, strs_ws]
theorem ltF_of (u : ByteArray) : ∀ n i, (∀ k : Nat, i ≤ k → k < i + n → cL (bt u k) = true) → ltF u n i = true
  | 0, i, h => rfl
  | n + 1, i, h => by
    unfold ltF
    rw [h i (Nat.le_refl _) (by omega), ltF_of u n (i + 1) (fun k h1 h2 => h k (by omega) (by omega))]; rfl
theorem ltF_at (u : ByteArray) : ∀ n i, ltF u n i = true → ∀ k : Nat, i ≤ k → k < i + n → cL (bt u k) = true
  | 0, i, h, k, h1, h2 => by omega
  | n + 1, i, h, k, h1, h2 => by
    unfold ltF at h
    have h' : cL (bt u i) = true ∧ ltF u n (i + 1) = true := by simpa using h
    by_cases e : k = i
    · subst e; exact h'.1
    · exact ltF_at u n (i + 1) h'.2 k (by omega) (by omega)
/-- a word is its own letters -/
theorem wd_self {u : ByteArray} : wd u = u ↔ ltF u u.size 0 = true := by
  constructor
  · intro h
    rw [wd_iff] at h
    refine ltF_of u _ _ (fun k h1 h2 => ?_)
    have hm : bt u k ∈ ws u 0 u.size := by
      unfold ws
      rw [List.mem_map]
      exact ⟨k, by rw [List.mem_range'_1]; omega, rfl⟩
    rw [← h] at hm
    unfold tl at hm
    exact (List.mem_filter.1 hm).2
  · intro h
    rw [wd_iff]
    unfold tl ws
    refine List.filter_eq_self.2 (fun x hx => ?_)
    rw [List.mem_map] at hx
    obtain ⟨k, hk, rfl⟩ := hx
    rw [List.mem_range'_1] at hk
    exact ltF_at u _ _ h k (by omega) (by omega)
theorem isW_iff {u : ByteArray} : isW u = true ↔ u.size ≤ 20 ∧ wd u = u := by
  rw [wd_self]
  unfold isW
  simp
theorem whole_hgt {t : ByteArray} {h : Nat} (hk : (chk s).1 = 0) (hw : whole s t 0 = some h) : hgt s t = ((h : Int), 0) := by
  unfold hgt; rw [if_neg (by simp [hk]), hw]
theorem hgt_whole {t : ByteArray} (h : (hgt s t).2 = 0) : (chk s).1 = 0 ∧ ∃ n, whole s t 0 = some n ∧ (hgt s t).1 = (n : Int) := by
  unfold hgt at h ⊢
  by_cases hk : (chk s).1 = 0
  · rw [if_neg (by simp [hk])] at h ⊢
    cases hw : whole s t 0 with
    | none => rw [hw] at h; simp at h
    | some n => exact ⟨hk, n, rfl, rfl⟩
  · rw [if_pos hk] at h; exact absurd h hk
theorem start_f (g : Gram s) : isF s 0 = true := by
  have := (g.rule 0 g.pos (by simp [begB])).1
  unfold isF; rw [this]; simp
/-- P8 -/
theorem prs_ok [Inhabited Chr] (hk : (chk s).1 = 0) (hw : isW u = true) (hx : HasFix s u) :
    ((prs s u).2 = 0 ∧ (hgt s (prs s u).1).2 = 0 ∧ wd (prs s u).1 = u ∧ (prs s u).1.size ≤ 2000) ∨
    ((prs s u).2 = 13 ∧ (prs s u).1 = ⟨#[]⟩ ∧ ∀ t, (hgt s t).2 = 0 → wd t ≠ u) := by
  have g := gram_of hk
  have ins := ins_chk hk
  have hf := start_f g
  obtain ⟨R, X, W, fx⟩ := hx
  have e : prs s u = if 2000 < fcC s u X W 0 0 u.size then (⟨#[]⟩, 13) else (strOfNums (wrS s u R X W), 0) := by
    unfold prs prsR
    rw [if_neg (by simp [hk]), if_neg (by rw [hw]; decide), tabs_eq fx]
  by_cases hb : 2000 < fcC s u X W 0 0 u.size
  · right
    rw [if_pos hb] at e
    rw [e]
    refine ⟨rfl, rfl, fun t ht hwd => ?_⟩
    obtain ⟨_, n, hn, _⟩ := hgt_whole ht
    have := whole_cost fx g ins hf hn ((wd_iff t u).1 hwd)
    omega
  · left
    rw [if_neg hb] at e
    rw [e]
    have hB : Byts (wrS s u R X W) := wrF_byts g ins (wrE_byts g ins _) hf _ _
    obtain ⟨⟨h, h1⟩, h2⟩ := written_ok (t := strOfNums (wrS s u R X W)) fx g ins hf (by omega) (At.strs hB) (strOfNums_size _)
    have hl := (wrF_ok (t := s) (n := fcC s u X W 0 0 u.size) (N := fcC s u X W 0 0 u.size) fx g ins (Nat.le_refl _) (wrE_ok fx g ins _) hf (Nat.zero_le _) (Nat.le_refl _) (by omega) (by omega)).len
    refine ⟨rfl, by rw [whole_hgt hk h1], (wd_iff _ u).2 h2, ?_⟩
    show (strOfNums (wrS s u R X W)).size ≤ 2000
    rw [strOfNums_size]; unfold wrS; omega
theorem prs_bad [Inhabited Chr] (hk : (chk s).1 ≠ 0) : prs s u = (⟨#[]⟩, (chk s).1) := by unfold prs; rw [if_pos hk]
theorem prs_word [Inhabited Chr] (hk : (chk s).1 = 0) (hw : isW u = false) : prs s u = (⟨#[]⟩, 12) := by
  unfold prs prsR; rw [if_neg (by simp [hk]), if_pos hw]
end
end Go.Proofs.YtnfaiaoipeholaaGreatDoor

namespace Go.Proofs.YtnfaiaoipeholaaGreatDoor
open Go.RowKit
theorem rpiece_one (t : ByteArray) {k : Nat} (h : k < t.size) : t.extract k (k + 1) = strOfNums [((t[k].toNat : Nat) : Int)] := by
  refine ByteArray.ext_getElem (by rw [ByteArray.size_extract, strOfNums_size]; simp; omega) fun i hi hi' => ?_
  have h0 : i = 0 := by rw [strOfNums_size] at hi'; simp at hi'; omega
  subst h0
  rw [ByteArray.getElem_extract]
  show t[k] = UInt8.ofNat ((t[k].toNat : Int).toNat)
  simp
theorem rstrs_append (T l : List Int) : strOfNums T ++ strOfNums l = strOfNums (T ++ l) := by
  have h : (strOfNums T ++ strOfNums l).data = (strOfNums (T ++ l)).data := by rw [ByteArray.data_append]; simp [strOfNums]
  cases h1 : strOfNums T ++ strOfNums l with
  | mk d => cases h2 : strOfNums (T ++ l) with
    | mk d' => rw [h1, h2] at h; simp at h; rw [h]
set_option maxHeartbeats 400000 in
set_option maxRecDepth 1000000 in
theorem refWord_any (t : ByteArray) (w : World) (ht : t.size ≤ maxLen) : Calls Tryz.prog 38 #[.string t] w fun e w' => e = .returned (.string (wd t)) ∧ w' = w := by
  have ht' := ht
  unfold maxLen at ht'
  generalize hR : wd t = R
  unfold wd seg at hR
  have HR := hide hR
  clear hR
  go_enter Tryz.func38, Tryz.ntmps38
  go_wp2
  go_loop [3, 4] (fun ov iv => ∃ (k : Nat) (L : List Int), iv = .int .i64 k ∧ ov = .string (strOfNums L) ∧ k ≤ t.size ∧ L.length ≤ k ∧ Hid (L = (segF t k 0).filter cL)) (fun _ jv => t.size - (intOf jv).toNat)
  case atStart => exact ⟨0, [], rfl, rfl, Nat.zero_le _, Nat.le_refl _, hide rfl⟩
  case round =>
    obtain ⟨k, L, rfl, rfl, hk, hL, hD⟩ := hrel
    by_cases hlt : k < t.size
    · have hbt := bt_at t k hlt
      have hz1 : (strOfNums L).size = L.length := strOfNums_size L
      have hp := rpiece_one t hlt
      have hstep : (segF t (k + 1) 0).filter cL = (segF t k 0).filter cL ++ [bt t k].filter cL := by
        rw [segF_add, List.filter_append, Nat.zero_add]; rfl
      rw [hbt] at hstep
      have hbd := (t[k]).toNat_lt
      generalize hx : ((t[k].toNat : Nat) : Int) = x at *
      have HP := hide hp
      clear hp
      cases h1 : cL x
      · have HF : Hid (L = (segF t (k + 1) 0).filter cL) := hide (by rw [hstep, unhide hD]; simp [h1])
        have H1 := hide h1
        clear hstep h1
        go_wp2_with (go_at_call 78; refine (letter_any _ _).mono ?_; rw [unhide H1]; rintro e w' ⟨rfl, rfl⟩)
        exact ⟨⟨k + 1, L, by go_num, rfl, by omega, by omega, HF⟩, by simp [intOf]; omega⟩
      · have HF : Hid (L ++ [x] = (segF t (k + 1) 0).filter cL) := hide (by rw [hstep, unhide hD]; simp [h1])
        have HA := hide (rstrs_append L [x])
        have H1 := hide h1
        clear hstep h1
        go_wp2_with (go_at_call 78; refine (letter_any _ _).mono ?_; rw [unhide H1]; rintro e w' ⟨rfl, rfl⟩)
        exact ⟨⟨k + 1, L ++ [x], by go_num, by rw [unhide HP, unhide HA], by omega, by simp; omega, HF⟩, by simp [intOf]; omega⟩
    · have HF : Hid (R = strOfNums L) := hide (by rw [← unhide HR, unhide hD, show t.size - 0 = k by omega])
      clear HR
      go_wp2
      go_ret
      exact ⟨by rw [unhide HF]; rfl, rfl⟩
end Go.Proofs.YtnfaiaoipeholaaGreatDoor

namespace Go.Proofs.YtnfaiaoipeholaaGreatDoor
open Go.RowKit
theorem bnextR {w w1 w2 : World} (h : Below w.heap.size w w1) (g : Below w1.heap.size w1 w2) : Below w.heap.size w w2 := h.trans (g.mono h.size)
theorem str_ne {a b : ByteArray} (h : ¬ a = b) : (a.toList == b.toList) = false := by
  rw [ByteArray.toList_eq, ByteArray.toList_eq]
  simp only [beq_eq_false_iff_ne, ne_eq]
  intro e
  apply h
  obtain ⟨x⟩ := a
  obtain ⟨y⟩ := b
  have : x = y := Array.toList_inj.1 e
  rw [this]
set_option maxHeartbeats 1000000 in
set_option maxRecDepth 1000000 in
theorem refParsed_true [Inhabited Chr] (s u o : ByteArray) (w : World) (hs : s.size ≤ maxLen) (hu : u.size ≤ maxLen) (ho : o.size ≤ maxLen) (hx : (chk s).1 = 0 → isW u = true → HasFix s u) :
    Calls Tryz.prog 19 #[.string s, .string u, .string (prs s u).1, .int .i64 (prs s u).2, .string o] w fun e w' => e = .returned (.bool true) ∧ Below w.heap.size w w' := by
  by_cases hk : (chk s).1 = 0
  · have HC : Hid (chk s = (0, (chk s).2)) := hide (by rw [← hk])
    by_cases h20 : u.size ≤ 20
    · by_cases hws : wd u = u
      · have hw : isW u = true := isW_iff.2 ⟨h20, hws⟩
        have HW := hide hws
        rcases prs_ok hk hw (hx hk hw) with ⟨h1, h2, h3, h4⟩ | ⟨h1, h2, h3⟩
        · obtain ⟨P, hP⟩ : ∃ P, prs s u = (P, 0) := ⟨_, by rw [← h1]⟩
          rw [hP] at h2 h3 h4
          simp only at h2 h3 h4
          rw [hP]
          have hpz : P.size ≤ maxLen := by unfold maxLen; omega
          obtain ⟨y, hy⟩ : ∃ y, hgt s P = (y, 0) := ⟨_, by rw [← h2]⟩
          have HY := hide hy
          have H3 := hide h3
          clear hP h1 h2 h3 h4 hy hw hws hx hk
          simp only
          go_enter Tryz.func19, Tryz.ntmps19
          go_wp2_with fail
          refine (refCheck_any _ _ hs).mono ?_
          rw [unhide HC]
          rintro e w1 ⟨rfl, hb1⟩
          go_wp2_with fail
          refine (refWord_any _ _ hu).mono ?_
          rw [unhide HW]
          rintro e w' ⟨rfl, hw⟩
          replace hw := hw.symm
          subst hw
          go_wp2_with fail
          refine (refHeight_any _ _ _ hs hpz).mono ?_
          rw [unhide HY]
          rintro e w2 ⟨rfl, hb2⟩
          go_wp2_with fail
          refine (refWord_any _ _ hpz).mono ?_
          rw [unhide H3]
          rintro e w' ⟨rfl, hw⟩
          replace hw := hw.symm
          subst hw
          go_wp2
          go_ret
          exact ⟨rfl, bnextR hb1 hb2⟩
        · have hP : prs s u = (⟨#[]⟩, 13) := by rw [← h1, ← h2]
          rw [hP]
          have H3 := hide (h3 o)
          clear hP h1 h2 h3 hw hws hx hk
          simp only
          go_enter Tryz.func19, Tryz.ntmps19
          go_wp2_with fail
          refine (refCheck_any _ _ hs).mono ?_
          rw [unhide HC]
          rintro e w1 ⟨rfl, hb1⟩
          go_wp2_with fail
          refine (refWord_any _ _ hu).mono ?_
          rw [unhide HW]
          rintro e w' ⟨rfl, hw⟩
          replace hw := hw.symm
          subst hw
          go_wp2_with fail
          refine (refHeight_any _ _ _ hs ho).mono ?_
          generalize hH : hgt s o = H at *
          obtain ⟨y, g⟩ := H
          rintro e w2 ⟨rfl, hb2⟩
          by_cases hg : g = 0
          · have hne : ¬ wd o = u := unhide H3 (by rw [hg])
            subst hg
            have HN := hide (str_ne hne)
            clear hne H3 hH
            simp only
            go_wp2_with fail
            refine (refWord_any _ _ ho).mono ?_
            generalize wd o = V at *
            rintro e w' ⟨rfl, hw⟩
            replace hw := hw.symm
            subst hw
            have hN := unhide HN
            go_wp2
            go_ret
            exact ⟨rfl, bnextR hb1 hb2⟩
          · have hg' : (g != 0) = true := by simp [hg]
            clear H3 hH hg
            simp only
            go_wp2
            go_ret
            exact ⟨rfl, bnextR hb1 hb2⟩
      · have hw : isW u = false := by
          cases h : isW u
          · rfl
          · exact absurd (isW_iff.1 h).2 hws
        rw [prs_word hk hw]
        have HN := hide (str_ne hws)
        clear hw hws hx hk
        simp only
        go_enter Tryz.func19, Tryz.ntmps19
        go_wp2_with fail
        refine (refCheck_any _ _ hs).mono ?_
        rw [unhide HC]
        rintro e w1 ⟨rfl, hb1⟩
        go_wp2_with fail
        refine (refWord_any _ _ hu).mono ?_
        generalize wd u = V at *
        rintro e w' ⟨rfl, hw⟩
        replace hw := hw.symm
        subst hw
        have hN := unhide HN
        go_wp2
        go_ret
        exact ⟨rfl, hb1⟩
    · have hw : isW u = false := by
        cases h : isW u
        · rfl
        · exact absurd (isW_iff.1 h).1 h20
      rw [prs_word hk hw]
      clear hw hx hk
      simp only
      go_enter Tryz.func19, Tryz.ntmps19
      go_wp2_with fail
      refine (refCheck_any _ _ hs).mono ?_
      rw [unhide HC]
      rintro e w1 ⟨rfl, hb1⟩
      go_wp2
      go_ret
      exact ⟨rfl, hb1⟩
  · rw [prs_bad hk]
    have hk1 : ((chk s).1 == 0) = false := by simp [hk]
    have hk2 : ((chk s).1 != 0) = true := by simp [hk]
    clear hk hx
    simp only
    go_enter Tryz.func19, Tryz.ntmps19
    go_wp2_with fail
    refine (refCheck_any _ _ hs).mono ?_
    rintro e w1 ⟨rfl, hb1⟩
    go_wp2
    go_ret
    exact ⟨rfl, hb1⟩
end Go.Proofs.YtnfaiaoipeholaaGreatDoor

namespace Go.Proofs.YtnfaiaoipeholaaGreatDoor
/-- a table for six places and two letters -/
def tb6 (l : List Nat) (p a b : Nat) : Nat := if p < 6 ∧ a ≤ b ∧ b ≤ 2 then l.getD (p * 9 + a * 3 + b) 2001 else 2001
theorem tb6_cap {l : List Nat} (h : ∀ x ∈ l, x ≤ 2001) (p a b : Nat) : tb6 l p a b ≤ 2001 := by
  unfold tb6; split
  · rw [List.getD_eq_getElem?_getD]
    cases hq : l[p * 9 + a * 3 + b]? with
    | none => exact Nat.le_refl _
    | some v => exact h v (List.mem_of_getElem? hq)
  · exact Nat.le_refl _
def hdS : ByteArray := ⟨#[83, 61, 97, 83, 124, 59]⟩
def hdA : ByteArray := ⟨#[97, 97]⟩
def hdB : ByteArray := ⟨#[97, 98]⟩
def hdRA : List Nat := [4, 9, 14, 2001, 4, 9, 2001, 2001, 4, 0, 2001, 2001, 2001, 0, 2001, 2001, 2001, 0, 2001, 5, 10, 2001, 2001, 5, 2001, 2001, 2001, 4, 9, 14, 2001, 4, 9, 2001, 2001, 4, 0, 2001, 2001, 2001, 0, 2001, 2001, 2001, 0, 0, 2001, 2001, 2001, 0, 2001, 2001, 2001, 0]
def hdXA : List Nat := [2001, 2001, 2001, 2001, 2001, 2001, 2001, 2001, 2001, 2001, 2001, 2001, 2001, 2001, 2001, 2001, 2001, 2001, 1, 6, 11, 2001, 1, 6, 2001, 2001, 1, 2001, 2001, 2001, 2001, 2001, 2001, 2001, 2001, 2001, 2001, 2001, 2001, 2001, 2001, 2001, 2001, 2001, 2001, 2001, 2001, 2001, 2001, 2001, 2001, 2001, 2001, 2001]
def hdRB : List Nat := [4, 9, 2001, 2001, 4, 2001, 2001, 2001, 4, 0, 2001, 2001, 2001, 0, 2001, 2001, 2001, 0, 2001, 5, 2001, 2001, 2001, 2001, 2001, 2001, 2001, 4, 9, 2001, 2001, 4, 2001, 2001, 2001, 4, 0, 2001, 2001, 2001, 0, 2001, 2001, 2001, 0, 0, 2001, 2001, 2001, 0, 2001, 2001, 2001, 0]
def hdXB : List Nat := [2001, 2001, 2001, 2001, 2001, 2001, 2001, 2001, 2001, 2001, 2001, 2001, 2001, 2001, 2001, 2001, 2001, 2001, 1, 6, 2001, 2001, 1, 2001, 2001, 2001, 1, 2001, 2001, 2001, 2001, 2001, 2001, 2001, 2001, 2001, 2001, 2001, 2001, 2001, 2001, 2001, 2001, 2001, 2001, 2001, 2001, 2001, 2001, 2001, 2001, 2001, 2001, 2001]
theorem fix6 {s u : ByteArray} {lr lx : List Nat} (hs : s.size = 6) (hu : u.size = 2) (h1 : ∀ x ∈ lr, x ≤ 2001) (h2 : ∀ x ∈ lx, x ≤ 2001)
    (h3 : ∀ p, p < 6 → begs s p = false → ∀ a, a < 3 → ∀ b, b < 3 → tb6 lx p a b = 2001)
    (h4 : ∀ a, a < 3 → ∀ b, b < 3 → a ≤ b → ∀ p, p < 6 → tb6 lr p a b = (rsC s u (tb6 lr) (tb6 lx) (tb6 lx) p a b).1)
    (h5 : ∀ a, a < 3 → ∀ b, b < 3 → a ≤ b → ∀ p, p < 6 → (begs s p && !(tb6 lx p a b == (exC s (tb6 lr) p a b).1 && tb6 lx p a b == (rwC (tb6 lx) (tb6 lx) p a b).1)) = false) :
    Fix s u (tb6 lr) (tb6 lx) (tb6 lx) := by
  have hx : ∀ p a b, ¬ (p < s.size ∧ a ≤ b ∧ b ≤ u.size ∧ begs s p = true) → tb6 lx p a b = 2001 := fun p a b h => by
    rw [hs, hu] at h
    by_cases hd : p < 6 ∧ a ≤ b ∧ b ≤ 2
    · have hb : begs s p = false := by
        cases e : begs s p
        · rfl
        · exact absurd ⟨hd.1, hd.2.1, hd.2.2, e⟩ h
      exact h3 p hd.1 hb a (by omega) b (by omega)
    · unfold tb6; rw [if_neg hd]
  have h6 : ∀ a, a < 3 → ∀ b, b < 3 → a ≤ b → ∀ p, p < 6 → begs s p = true → tb6 lx p a b = (exC s (tb6 lr) p a b).1 ∧ tb6 lx p a b = (rwC (tb6 lx) (tb6 lx) p a b).1 := fun a ha b hb hab p hp hg => by
    have := h5 a ha b hb hab p hp
    rw [hg] at this
    simpa using this
  refine { cR := tb6_cap h1, cX := tb6_cap h2, cW := tb6_cap h2, oR := fun p a b h => ?_, oX := hx, oW := hx, fix := fun a b hab hb => ?_ }
  · rw [hs, hu] at h; unfold tb6; rw [if_neg h]
  · rw [hu] at hb
    exact ⟨fun p hp => h4 a (by omega) b (by omega) hab p (by omega), fun p hp hg => (h6 a (by omega) b (by omega) hab p (by omega) hg).1, fun p hp hg => (h6 a (by omega) b (by omega) hab p (by omega) hg).2⟩
theorem hd_fixA : Fix hdS hdA (tb6 hdRA) (tb6 hdXA) (tb6 hdXA) :=
  fix6 rfl rfl (by decide +kernel) (by decide +kernel) (by decide +kernel) (by decide +kernel) (by decide +kernel)
theorem hd_fixB : Fix hdS hdB (tb6 hdRB) (tb6 hdXB) (tb6 hdXB) :=
  fix6 rfl rfl (by decide +kernel) (by decide +kernel) (by decide +kernel) (by decide +kernel) (by decide +kernel)
theorem hd_prsA [Inhabited Chr] : prs hdS hdA = (⟨#[83, 40, 48, 97, 83, 40, 48, 97, 83, 40, 49, 41, 41, 41]⟩, 0) := by
  unfold prs prsR
  rw [if_neg (by decide +kernel), if_neg (by decide +kernel), tabs_eq hd_fixA, if_neg (by decide +kernel)]
  decide +kernel
theorem hd_prsB [Inhabited Chr] : prs hdS hdB = (⟨#[]⟩, 13) := by
  unfold prs prsR
  rw [if_neg (by decide +kernel), if_neg (by decide +kernel), tabs_eq hd_fixB, if_pos (by decide +kernel)]
end Go.Proofs.YtnfaiaoipeholaaGreatDoor

namespace Go.Proofs.YtnfaiaoipeholaaGreatDoor
open Go.RowKit

set_option maxHeartbeats 400000 in
theorem numP_any (x : Int) (w : World) : Calls Tryz.prog 15 #[.int .i64 x] w fun e w' => e = .returned (.int .i64 x) ∧ w' = w := by
  go_enter Tryz.func15, Tryz.ntmps15
  go_wp2
  go_ret; exact ⟨rfl, rfl⟩

set_option maxHeartbeats 400000 in
set_option maxRecDepth 1000000 in
theorem plays_parse (n m : Int) (s t u : ByteArray) (w : World) (hs : s.size ≤ maxLen) (ht : t.size ≤ maxLen) (hu : u.size ≤ maxLen) :
    Calls Tryz.prog 6 #[.agg #[.int .i64 5, .int .i64 n, .int .i64 m, .string s, .string t, .string u]] w fun e w' => e = .returned (.bool true) ∧ Below w.heap.size w w' := by
  obtain ⟨ch0⟩ := chr_some
  have : Inhabited Chr := ⟨ch0⟩
  go_enter Tryz.func6, Tryz.ntmps6
  go_wp2_with fail
  refine (parse_any _ hs ht).mono ?_
  rintro e w1 ⟨rfl, hb1, hf1⟩
  have HF := hide hf1
  clear hf1
  have hz := hb1.size
  have hlt : w.heap.size < w1.heap.size := by simp at hz; omega
  have q3 : w1.cell? ⟨w.heap.size, 3, none⟩ = some (.string s) := (hb1.cell (p := ⟨w.heap.size, 3, none⟩) (by simp)).trans (by rw [World.cell?_alloc_new]; rfl)
  have q4 : w1.cell? ⟨w.heap.size, 4, none⟩ = some (.string t) := (hb1.cell (p := ⟨w.heap.size, 4, none⟩) (by simp)).trans (by rw [World.cell?_alloc_new]; rfl)
  have q5 : w1.cell? ⟨w.heap.size, 5, none⟩ = some (.string u) := (hb1.cell (p := ⟨w.heap.size, 5, none⟩) (by simp)).trans (by rw [World.cell?_alloc_new]; rfl)
  have HB : Hid (Below w.heap.size w w1) := hide (((Below.refl _ _).alloc (Nat.le_refl _) _).trans (hb1.mono (by simp)))
  clear hb1 hz
  go_wp2_with fail
  go_region_held (fun w' => w'.cell? ⟨w.heap.size, 3, none⟩ = some (.string s) ∧ w'.cell? ⟨w.heap.size, 4, none⟩ = some (.string t) ∧ w'.cell? ⟨w.heap.size, 5, none⟩ = some (.string u)) (first | exact ⟨q3, q4, q5⟩ | exact ⟨(hb2.cell (p := ⟨w.heap.size, 3, none⟩) hlt).trans q3, (hb2.cell (p := ⟨w.heap.size, 4, none⟩) hlt).trans q4, (hb2.cell (p := ⟨w.heap.size, 5, none⟩) hlt).trans q5⟩) (first
    | (go_at_call 15; refine (numP_any _ _).mono ?_; rintro e w' ⟨rfl, rfl⟩)
    | (go_at_call 19; refine (refParsed_true _ _ _ _ hs ht hu (unhide HF)).mono ?_; rintro e w2 ⟨rfl, hb2⟩))
  go_wp2
  go_ret
  refine ⟨rfl, ?_⟩
  exact (unhide HB).trans (Below.trans ((Below.refl _ _).drew) (hb2.mono (unhide HB).size))

set_option maxHeartbeats 400000 in
set_option maxRecDepth 1000000 in
theorem heads_parse (w : World) : Calls Tryz.prog 4 #[.int .i64 5] w fun e w' => e = .returned (.bool true) ∧ Below w.heap.size w w' := by
  obtain ⟨ch0⟩ := chr_some
  have : Inhabited Chr := ⟨ch0⟩
  have hsz : (⟨#[83, 61, 97, 83, 124, 59]⟩ : ByteArray).size ≤ maxLen := by decide +kernel
  have haz : (⟨#[97, 97]⟩ : ByteArray).size ≤ maxLen := by decide +kernel
  have hbz : (⟨#[97, 98]⟩ : ByteArray).size ≤ maxLen := by decide +kernel
  have hA : Hid (prs ⟨#[83, 61, 97, 83, 124, 59]⟩ ⟨#[97, 97]⟩ = (⟨#[83, 40, 48, 97, 83, 40, 48, 97, 83, 40, 49, 41, 41, 41]⟩, 0)) := hide hd_prsA
  have hB : Hid (prs ⟨#[83, 61, 97, 83, 124, 59]⟩ ⟨#[97, 98]⟩ = (⟨#[]⟩, 13)) := hide hd_prsB
  go_enter Tryz.func4, Tryz.ntmps4
  go_wp2_with fail
  refine (parse_any _ hsz haz).mono ?_
  rintro e w1 ⟨rfl, hb1, _⟩
  rw [unhide hA]
  go_wp2_with fail
  refine (parse_any _ hsz hbz).mono ?_
  rintro e w2 ⟨rfl, hb2, _⟩
  rw [unhide hB]
  go_wp2
  go_ret
  exact ⟨rfl, bnextR hb1 hb2⟩
end Go.Proofs.YtnfaiaoipeholaaGreatDoor
