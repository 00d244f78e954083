/- Ops Math Leaf Scan Reader FormMath -/
import Derived.Test.YtnfaiaoipeholaaGreatDoorRows
import Derived.Deep.Slices
import Derived.OpenShut
import Derived.ProofKit
import Derived.WalkKit
import Derived.WalkSpells
import Derived.WalkLawsBesides
import Derived.Deep.QuietTactic
import Derived.BigQuiet
import Derived.Deep.RegionWith
namespace Go.Proofs.YtnfaiaoipeholaaGreatDoor
open Go.ChangeShapes Go.WideShapes Go.ChangeAt Go.RowKit Go.Deep

theorem Tryz.cellsOp : Tryz.prog.cellsOf 27 = 6 := by kernel_rfl
theorem Tryz.cellsInt : Tryz.prog.cellsOf 3 = 1 := by kernel_rfl
theorem Tryz.cellsStr : Tryz.prog.cellsOf 9 = 1 := by kernel_rfl

/-- a step's six cells -/
structure OpAt (w : World) (b o : Nat) (kd n m : Int) (s t u : ByteArray) : Prop where
  c0 : w.cell? ⟨b, o, none⟩ = some (.int .i64 kd)
  c1 : w.cell? ⟨b, o + 1, none⟩ = some (.int .i64 n)
  c2 : w.cell? ⟨b, o + 2, none⟩ = some (.int .i64 m)
  c3 : w.cell? ⟨b, o + 3, none⟩ = some (.string s)
  c4 : w.cell? ⟨b, o + 4, none⟩ = some (.string t)
  c5 : w.cell? ⟨b, o + 5, none⟩ = some (.string u)
  hs : s.size ≤ maxLen
  ht : t.size ≤ maxLen
  hu : u.size ≤ maxLen

theorem list6 {α : Type} : ∀ {l : List α}, l.length = 6 → ∃ a b c d e f, l = [a, b, c, d, e, f]
  | [a, b, c, d, e, f], _ => ⟨a, b, c, d, e, f, rfl⟩

theorem open_op {H : Type} {enc : TypeId × Value → H} {W : World} {base : Nat} {spare : Nat → Bool} {held : Bool} {n : Nat} {a : Addr} {cs : List Value} {x : DataW H × List MemPlace}
    (h1 : W.cells? base a 6 = some cs) (h2 : DataW.trod enc Tryz.prog W base spare held n 27 cs = some x) :
    ∃ b o kd n m s t u, a = ⟨b, o, none⟩ ∧ OpAt W b o kd n m s t u := by
  obtain ⟨_, hlen, hcell⟩ := World.cells?_some h1
  obtain ⟨xs, k, hk, hxy, _, hxl, hf⟩ := DataW.trod_struct Tryz.underlying27 h2
  have g0 := hf 0 _ rfl
  have g1 := hf 1 _ rfl
  have g2 := hf 2 _ rfl
  have g3 := hf 3 _ rfl
  have g4 := hf 4 _ rfl
  have g5 := hf 5 _ rfl
  obtain ⟨y0, y1, y2, y3, y4, y5, rfl⟩ := list6 hxl
  obtain ⟨v0, v1, v2, v3, v4, v5, rfl⟩ := list6 hlen
  simp [Tryz.cellsInt, Tryz.cellsStr] at g0 g1 g2 g3 g4 g5
  obtain ⟨kd, e0, _, _⟩ := DataW.trod_int Tryz.underlying3 g0
  obtain ⟨n', e1, _, _⟩ := DataW.trod_int Tryz.underlying3 g1
  obtain ⟨m', e2, _, _⟩ := DataW.trod_int Tryz.underlying3 g2
  obtain ⟨s, e3, _, hs⟩ := DataW.trod_string Tryz.underlying9 g3
  obtain ⟨t, e4, _, ht⟩ := DataW.trod_string Tryz.underlying9 g4
  obtain ⟨u, e5, _, hu⟩ := DataW.trod_string Tryz.underlying9 g5
  simp at e0 e1 e2 e3 e4 e5
  subst e0 e1 e2 e3 e4 e5
  have q0 := hcell 0 (by omega)
  have q1 := hcell 1 (by omega)
  have q2 := hcell 2 (by omega)
  have q3 := hcell 3 (by omega)
  have q4 := hcell 4 (by omega)
  have q5 := hcell 5 (by omega)
  obtain ⟨b, o, spot⟩ := a
  have hspot : spot = none := by simpa [Addr.add] using World.cell?_spot q0
  subst hspot
  rw [add_plain] at q0 q1 q2 q3 q4 q5
  exact ⟨b, o, kd, n', m', s, t, u, rfl, q0, q1, q2, q3, q4, q5, hs, ht, hu⟩

theorem OpAt.below {w w' : World} {B b o : Nat} {kd n m : Int} {s t u : ByteArray} (h : OpAt w b o kd n m s t u) (hb : Below B w w') (hB : b < B) : OpAt w' b o kd n m s t u :=
  ⟨(hb.cell (p := ⟨b, o, none⟩) hB).trans h.c0, (hb.cell (p := ⟨b, o + 1, none⟩) hB).trans h.c1, (hb.cell (p := ⟨b, o + 2, none⟩) hB).trans h.c2, (hb.cell (p := ⟨b, o + 3, none⟩) hB).trans h.c3, (hb.cell (p := ⟨b, o + 4, none⟩) hB).trans h.c4, (hb.cell (p := ⟨b, o + 5, none⟩) hB).trans h.c5, h.hs, h.ht, h.hu⟩
end Go.Proofs.YtnfaiaoipeholaaGreatDoor

namespace Go.Proofs.YtnfaiaoipeholaaGreatDoor
/-- a letter -/
def cL (c : Int) : Bool := decide (97 ≤ c) && decide (c ≤ 122)
/-- a name -/
def cN (c : Int) : Bool := decide (65 ≤ c) && decide (c ≤ 90)
/-- a digit -/
def cD (c : Int) : Bool := decide (48 ≤ c) && decide (c ≤ 57)
/-- what closes a bracket; 0: it opens nothing -/
def cC (c : Int) : Int := if c = 40 then 41 else if c = 91 then 93 else if c = 123 then 125 else if c = 60 then 62 else 0
/-- it opens -/
def cO (c : Int) : Bool := cC c != 0
/-- it closes -/
def cX (c : Int) : Bool := c == 41 || c == 93 || c == 125 || c == 62
/-- the byte at a place; 0: there is none -/
def bt (s : ByteArray) (p : Int) : Int := if h : 0 ≤ p ∧ p < s.size then ((s[p.toNat]'(by omega)).toNat : Int) else 0
theorem bt_at (s : ByteArray) (k : Nat) (h : k < s.size) : bt s k = (s[k].toNat : Int) := by
  unfold bt; rw [dif_pos ⟨by omega, by omega⟩]; simp
theorem bt_eq (s : ByteArray) (p : Int) (k : Nat) (e : p = k) (h : k < s.size) : bt s p = (s[k].toNat : Int) := by subst e; exact bt_at s k h
theorem bt_out (s : ByteArray) (p : Int) (h : p < 0 ∨ s.size ≤ p) : bt s p = 0 := by
  unfold bt; rw [dif_neg (by omega)]
theorem bt_bd (s : ByteArray) (p : Int) : 0 ≤ bt s p ∧ bt s p ≤ 255 := by
  unfold bt; split
  · have := (s[p.toNat]'(by omega)).toNat_lt; omega
  · omega
theorem cC_vals (c : Int) : cC c = 41 ∨ cC c = 93 ∨ cC c = 125 ∨ cC c = 62 ∨ cC c = 0 := by
  unfold cC; repeat' split
  all_goals simp
theorem cC_bd (c : Int) : 0 ≤ cC c ∧ cC c ≤ 255 := by rcases cC_vals c with h | h | h | h | h <;> omega

/-- does a rule begin at this place? -/
def begB (s : ByteArray) (i : Int) : Bool := i == 0 || bt s (i - 1) == 59
/-- where the first rule of the name begins, from a place on -/
def rlF (s : ByteArray) (c : Int) : Nat → Nat → Int
  | 0, _ => -1
  | n + 1, i => if begB s i && bt s i == c then (i : Int) else rlF s c n (i + 1)
def rl (s : ByteArray) (c : Int) : Int := rlF s c s.size 0
theorem rlF_bd (s : ByteArray) (c : Int) : ∀ n i, -1 ≤ rlF s c n i ∧ rlF s c n i < i + n + 1 ∧ (rlF s c n i = -1 ∨ i ≤ rlF s c n i ∧ rlF s c n i < i + n)
  | 0, i => by simp [rlF]; omega
  | n + 1, i => by
    unfold rlF; split
    · omega
    · have := rlF_bd s c n (i + 1); omega
theorem rl_bd (s : ByteArray) (c : Int) : -1 ≤ rl s c ∧ rl s c ≤ s.size ∧ (rl s c = -1 ∨ 0 ≤ rl s c ∧ rl s c < s.size) := by
  have := rlF_bd s c s.size 0; unfold rl; omega
/-- the first name that begins a rule a second time, from a place on -/
def twF (s : ByteArray) : Nat → Nat → Int × Int
  | 0, _ => (0, 0)
  | n + 1, i => if begB s i && rl s (bt s i) != i then (5, (i : Int)) else twF s n (i + 1)
/-- the first name that has no rule, from a place on -/
def nmF (s : ByteArray) : Nat → Nat → Int × Int
  | 0, _ => (0, 0)
  | n + 1, i => if cN (bt s i) && rl s (bt s i) == -1 then (6, (i : Int)) else nmF s n (i + 1)

/-- a byte within an expression: the brackets that are to close, the alternatives of each open expression; the outermost first -/
def stp (c : Int) (op al : List Int) : Int × List Int × List Int :=
  if (cL c || cN c) = true then (0, op, al)
  else if cC c ≠ 0 then (if 5 ≤ op.length then (4, op, al) else (0, op ++ [cC c], al ++ [1]))
  else if c = 124 then (if 10 ≤ al.getLastD 0 then (3, op, al) else (0, op, al.dropLast ++ [al.getLastD 0 + 1]))
  else if op ≠ [] ∧ c = op.getLastD 0 then (0, op.dropLast, al.dropLast)
  else (2, op, al)
/-- a byte of a grammar: 0: a rule's name comes next, 1: its '=', 2: its expression -/
def mst (c : Int) (a : Int) (op al : List Int) : Int × Int × List Int × List Int :=
  if a = 0 then (if cN c then (0, 1, op, al) else (2, a, op, al))
  else if a = 1 then (if c = 61 then (0, 2, [], [1]) else (2, a, op, al))
  else if c = 59 ∧ op = [] then (0, 0, op, al)
  else ((stp c op al).1, 2, (stp c op al).2)
/-- the first fault of a grammar's form, from a place on -/
def fmF (s : ByteArray) : Nat → Nat → Int → List Int → List Int → Int × Int
  | 0, _, a, _, _ => if a ≠ 0 ∨ s.size = 0 then (2, (s.size : Int)) else (0, 0)
  | n + 1, i, a, op, al =>
    if (mst (bt s i) a op al).1 ≠ 0 then ((mst (bt s i) a op al).1, (i : Int))
    else fmF s n (i + 1) (mst (bt s i) a op al).2.1 (mst (bt s i) a op al).2.2.1 (mst (bt s i) a op al).2.2.2
/-- P3 -/
def chk (s : ByteArray) : Int × Int :=
  if 300 < s.size then (1, 0)
  else if (fmF s s.size 0 0 [] []).1 ≠ 0 then fmF s s.size 0 0 [] []
  else if (twF s s.size 0).1 ≠ 0 then twF s s.size 0
  else nmF s s.size 0
/-- what is always so of the state -/
def Inv (a : Int) (op al : List Int) : Prop :=
  0 ≤ a ∧ a ≤ 2 ∧ (a ≠ 2 → op = []) ∧ op.length ≤ 5 ∧ (∀ x ∈ op, cX x = true) ∧ (a = 2 → al.length = op.length + 1) ∧ (∀ x ∈ al, 1 ≤ x ∧ x ≤ 10)
theorem Inv.start : Inv 0 [] [] := by simp [Inv]
theorem cX_cC (c : Int) (h : cC c ≠ 0) : cX (cC c) = true := by
  rcases cC_vals c with h1 | h1 | h1 | h1 | h1 <;> simp_all [cX]
theorem Inv.step {c a : Int} {op al : List Int} (h : Inv a op al) (h0 : (mst c a op al).1 = 0) : Inv (mst c a op al).2.1 (mst c a op al).2.2.1 (mst c a op al).2.2.2 := by
  obtain ⟨h1, h2, h3, h4, h5, h6, h7⟩ := h
  unfold mst at h0 ⊢
  split at h0
  · rename_i ha
    split at h0
    · rename_i hc; simp only [ha, hc, if_true]; refine ⟨by simp, by simp, by intro _; exact h3 (by omega), h4, h5, by simp, h7⟩
    · simp at h0
  rename_i ha
  rw [if_neg ha] at *
  split at h0
  · rename_i hb
    rw [if_pos hb] at *
    split at h0
    · rename_i hc; rw [if_pos hc]; simp [Inv]
    · simp at h0
  rename_i hb
  rw [if_neg hb] at *
  have ha2 : a = 2 := by omega
  split at h0
  · rename_i hc
    rw [if_pos hc]; refine ⟨by simp, by simp, by intro _; exact hc.2, h4, h5, by simp, h7⟩
  rename_i hc
  rw [if_neg hc]
  have hal := h6 ha2
  show Inv 2 (stp c op al).2.1 (stp c op al).2.2
  have h0' : (stp c op al).1 = 0 := h0
  clear h0
  unfold stp at h0' ⊢
  split at h0'
  · rename_i hd; rw [if_pos hd]; exact ⟨by simp, by simp, by simp, h4, h5, fun _ => hal, h7⟩
  rename_i hd
  rw [if_neg hd]
  split at h0'
  · rename_i he
    rw [if_pos he]
    split at h0'
    · simp at h0'
    · rename_i hf; rw [if_neg hf]
      refine ⟨by simp, by simp, by simp, by simp; omega, ?_, by simp; omega, ?_⟩
      · intro x hx; rcases List.mem_append.1 hx with hx | hx
        · exact h5 x hx
        · simp at hx; subst hx; exact cX_cC c he
      · intro x hx; rcases List.mem_append.1 hx with hx | hx
        · exact h7 x hx
        · simp at hx; omega
  rename_i he
  rw [if_neg he]
  split at h0'
  · rename_i hf
    rw [if_pos hf]
    split at h0'
    · simp at h0'
    · rename_i hg; rw [if_neg hg]
      refine ⟨by simp, by simp, by simp, h4, h5, by simp; omega, ?_⟩
      intro x hx; rcases List.mem_append.1 hx with hx | hx
      · exact h7 x (List.dropLast_subset _ hx)
      · simp at hx
        have hne : al ≠ [] := by intro e; rw [e] at hal; simp at hal
        have hm : al.getLastD 0 ∈ al := by rw [List.getLastD_eq_getLast?, List.getLast?_eq_some_getLast hne]; simp
        have := h7 _ hm
        simp at hg
        rw [List.getLastD_eq_getLast?] at this
        omega
  rename_i hf
  rw [if_neg hf]
  split at h0'
  · rename_i hg
    rw [if_pos hg]
    have : 0 < op.length := List.length_pos_iff.2 hg.1
    refine ⟨by simp, by simp, by simp, by simp; omega, ?_, by simp; omega, ?_⟩
    · intro x hx; exact h5 x (List.dropLast_subset _ hx)
    · intro x hx; exact h7 x (List.dropLast_subset _ hx)
  · simp at h0'
end Go.Proofs.YtnfaiaoipeholaaGreatDoor

namespace Go.Proofs.YtnfaiaoipeholaaGreatDoor
open Go.RowKit
theorem hide {p : Prop} (h : p) : Hid p := h
theorem unhide {p : Prop} (h : Hid p) : p := h
theorem ret_bool {a b : Bool} (h : a = b) : Ending.returned (.bool a) = .returned (.bool b) := by rw [h]
theorem ret_int {k : IntKind} {a b : Int} (h : a = b) : Ending.returned (.int k a) = .returned (.int k b) := by rw [h]
set_option maxHeartbeats 400000 in
theorem isName_any (c : Int) (w : World) : Calls Tryz.prog 86 #[.int .u8 c] w fun e w' => e = .returned (.bool (cN c)) ∧ w' = w := by
  go_enter Tryz.func86, Tryz.ntmps86
  go_wp2
  all_goals (go_ret; exact ⟨ret_bool (by simp [cN]; omega), rfl⟩)

set_option maxHeartbeats 400000 in
theorem isLetter_any (c : Int) (w : World) : Calls Tryz.prog 102 #[.int .u8 c] w fun e w' => e = .returned (.bool (cL c)) ∧ w' = w := by
  go_enter Tryz.func102, Tryz.ntmps102
  go_wp2
  all_goals (go_ret; exact ⟨ret_bool (by simp [cL]; omega), rfl⟩)

set_option maxHeartbeats 400000 in
theorem closing_any (c : Int) (w : World) : Calls Tryz.prog 113 #[.int .u8 c] w fun e w' => e = .returned (.int .u8 (cC c)) ∧ w' = w := by
  go_enter Tryz.func113, Tryz.ntmps113
  go_wp2
  all_goals (go_ret; exact ⟨ret_int (by simp_all [cC]), rfl⟩)

set_option maxHeartbeats 400000 in
theorem isOpening_any (c : Int) (w : World) : Calls Tryz.prog 92 #[.int .u8 c] w fun e w' => e = .returned (.bool (cO c)) ∧ w' = w := by
  go_enter Tryz.func92, Tryz.ntmps92
  go_wp2_with (go_at_call 113; refine (closing_any _ _).mono ?_; rintro e w' ⟨rfl, rfl⟩)
  all_goals (go_ret; exact ⟨ret_bool rfl, rfl⟩)

set_option maxHeartbeats 400000 in
theorem isClosing_any (c : Int) (w : World) : Calls Tryz.prog 140 #[.int .u8 c] w fun e w' => e = .returned (.bool (cX c)) ∧ w' = w := by
  go_enter Tryz.func140, Tryz.ntmps140
  go_wp2
  all_goals (go_ret; exact ⟨ret_bool (by simp_all [cX]), rfl⟩)

set_option maxHeartbeats 400000 in
theorem at_any (s : ByteArray) (p : Int) (w : World) (_hs : s.size ≤ maxLen) : Calls Tryz.prog 87 #[.string s, .int .i64 p] w fun e w' => e = .returned (.int .u8 (bt s p)) ∧ w' = w := by
  unfold maxLen at _hs
  go_enter Tryz.func87, Tryz.ntmps87
  go_wp2
  all_goals go_ret
  · exact ⟨ret_int (by rw [bt_out _ _ (by omega)]), rfl⟩
  · exact ⟨ret_int (by unfold bt; rw [dif_pos (by assumption)]), rfl⟩
  · exact ⟨ret_int (by rw [bt_out _ _ (by omega)]), rfl⟩

set_option maxHeartbeats 400000 in
theorem beginsRule_any (s : ByteArray) (p : Int) (w : World) (hs : s.size ≤ maxLen) (h0 : 0 ≤ p) (h1 : p ≤ s.size) : Calls Tryz.prog 84 #[.string s, .int .i64 p] w fun e w' => e = .returned (.bool (begB s p)) ∧ w' = w := by
  have hs' := hs
  unfold maxLen at hs'
  by_cases hp : p = 0
  · subst hp
    go_enter Tryz.func84, Tryz.ntmps84
    go_wp2
    all_goals (go_ret; exact ⟨ret_bool (by simp [begB]), rfl⟩)
  · have hpb : (p == 0) = false := by simp [hp]
    go_enter Tryz.func84, Tryz.ntmps84
    go_wp2_with (go_at_call 87; refine (at_any _ _ _ hs).mono ?_; rintro e w' ⟨rfl, rfl⟩)
    go_ret; exact ⟨ret_bool (by simp [begB, hpb]), rfl⟩

end Go.Proofs.YtnfaiaoipeholaaGreatDoor

namespace Go.Proofs.YtnfaiaoipeholaaGreatDoor
open Go.RowKit

theorem rlF_yes {s : ByteArray} {c : Int} {k : Nat} (h : k < s.size) (h1 : begB s k = true) (h2 : (bt s k == c) = true) : rlF s c (s.size - k) k = k := by
  obtain ⟨n, hn⟩ : ∃ n, s.size - k = n + 1 := ⟨s.size - k - 1, by omega⟩
  rw [hn]; simp only [rlF, h1, h2]; rfl
theorem rlF_no {s : ByteArray} {c : Int} {k : Nat} (h : k < s.size) (h1 : (begB s k && bt s k == c) = false) : rlF s c (s.size - k) k = rlF s c (s.size - (k + 1)) (k + 1) := by
  obtain ⟨n, hn⟩ : ∃ n, s.size - k = n + 1 := ⟨s.size - k - 1, by omega⟩
  rw [hn, show s.size - (k + 1) = n by omega]; simp only [rlF, h1]; rfl
theorem twF_yes {s : ByteArray} {k : Nat} (h : k < s.size) (h1 : (begB s k && rl s (bt s k) != k) = true) : twF s (s.size - k) k = (5, (k : Int)) := by
  obtain ⟨n, hn⟩ : ∃ n, s.size - k = n + 1 := ⟨s.size - k - 1, by omega⟩
  rw [hn]; simp only [twF, h1]; rfl
theorem twF_no {s : ByteArray} {k : Nat} (h : k < s.size) (h1 : (begB s k && rl s (bt s k) != k) = false) : twF s (s.size - k) k = twF s (s.size - (k + 1)) (k + 1) := by
  obtain ⟨n, hn⟩ : ∃ n, s.size - k = n + 1 := ⟨s.size - k - 1, by omega⟩
  rw [hn, show s.size - (k + 1) = n by omega]; simp only [twF, h1]; rfl
theorem nmF_yes {s : ByteArray} {k : Nat} (h : k < s.size) (h1 : (cN (bt s k) && rl s (bt s k) == -1) = true) : nmF s (s.size - k) k = (6, (k : Int)) := by
  obtain ⟨n, hn⟩ : ∃ n, s.size - k = n + 1 := ⟨s.size - k - 1, by omega⟩
  rw [hn]; simp only [nmF, h1]; rfl
theorem nmF_no {s : ByteArray} {k : Nat} (h : k < s.size) (h1 : (cN (bt s k) && rl s (bt s k) == -1) = false) : nmF s (s.size - k) k = nmF s (s.size - (k + 1)) (k + 1) := by
  obtain ⟨n, hn⟩ : ∃ n, s.size - k = n + 1 := ⟨s.size - k - 1, by omega⟩
  rw [hn, show s.size - (k + 1) = n by omega]; simp only [nmF, h1]; rfl
theorem rlF_end {s : ByteArray} {c : Int} {k : Nat} (h : ¬ k < s.size) : rlF s c (s.size - k) k = -1 := by rw [show s.size - k = 0 by omega]; rfl
theorem twF_end {s : ByteArray} {k : Nat} (h : ¬ k < s.size) : twF s (s.size - k) k = (0, 0) := by rw [show s.size - k = 0 by omega]; rfl
theorem nmF_end {s : ByteArray} {k : Nat} (h : ¬ k < s.size) : nmF s (s.size - k) k = (0, 0) := by rw [show s.size - k = 0 by omega]; rfl

set_option maxHeartbeats 400000 in
theorem firstRule_any (s : ByteArray) (c : Int) (w : World) (hs : s.size ≤ maxLen) : Calls Tryz.prog 85 #[.string s, .int .u8 c] w fun e w' => e = .returned (.int .i64 (rl s c)) ∧ w' = w := by
  have hs' := hs
  unfold maxLen at hs'
  go_enter Tryz.func85, Tryz.ntmps85
  go_wp2
  go_loop [5] (fun i => ∃ k : Nat, k ≤ s.size ∧ i = .int .i64 k ∧ Hid (rl s c = rlF s c (s.size - k) k)) (fun i => s.size - (intOf i).toNat)
  case atStart => exact ⟨0, Nat.zero_le _, rfl, hide rfl⟩
  case round =>
    obtain ⟨k, hk, rfl, hr⟩ := hrel
    by_cases hlt : k < s.size
    · have H := hide (bt_at s k hlt)
      by_cases hc : ((s[k].toNat : Int) == c) = true
      · cases hb : begB s k
        · have hb' := hide hb; clear hb
          go_wp2_with (go_at_call 84; refine (beginsRule_any _ _ _ hs (by omega) (by omega)).mono ?_; rintro e w' ⟨rfl, rfl⟩; rw [unhide hb'])
          go_round
          case rel => exact ⟨k + 1, by omega, by go_num, hide ((unhide hr).trans (rlF_no hlt (by rw [unhide hb']; rfl)))⟩
          case measure => simp [intOf]; omega
        · have hb' := hide hb; clear hb
          go_wp2_with (go_at_call 84; refine (beginsRule_any _ _ _ hs (by omega) (by omega)).mono ?_; rintro e w' ⟨rfl, rfl⟩; rw [unhide hb'])
          go_ret
          exact ⟨ret_int (by rw [unhide hr, rlF_yes hlt (unhide hb') (by rw [unhide H]; exact hc)]), rfl⟩
      · have hc' : ((s[k].toNat : Int) == c) = false := by simpa using hc
        clear hc
        go_wp2
        go_round
        case rel => exact ⟨k + 1, by omega, by go_num, hide ((unhide hr).trans (rlF_no hlt (by rw [unhide H, hc']; simp)))⟩
        case measure => simp [intOf]; omega
    · go_wp2
      go_ret
      exact ⟨ret_int (by rw [unhide hr, rlF_end hlt]), rfl⟩

set_option maxHeartbeats 400000 in
theorem checkTwice_any (s : ByteArray) (w : World) (hs : s.size ≤ maxLen) : Calls Tryz.prog 46 #[.string s] w fun e w' => e = .returned (.tuple #[.int .i64 (twF s s.size 0).1, .int .i64 (twF s s.size 0).2]) ∧ w' = w := by
  have hs' := hs
  unfold maxLen at hs'
  go_enter Tryz.func46, Tryz.ntmps46
  go_wp2
  go_loop [4] (fun i => ∃ k : Nat, k ≤ s.size ∧ i = .int .i64 k ∧ Hid (twF s s.size 0 = twF s (s.size - k) k)) (fun i => s.size - (intOf i).toNat)
  case atStart => exact ⟨0, Nat.zero_le _, rfl, hide rfl⟩
  case round =>
    obtain ⟨k, hk, rfl, hr⟩ := hrel
    by_cases hlt : k < s.size
    · have H := hide (bt_at s k hlt)
      cases hb : begB s k
      · have hb' := hide hb; clear hb
        go_wp2_with (go_at_call 84; refine (beginsRule_any _ _ _ hs (by omega) (by omega)).mono ?_; rintro e w' ⟨rfl, rfl⟩; rw [unhide hb'])
        go_round
        case rel => exact ⟨k + 1, by omega, by go_num, hide ((unhide hr).trans (twF_no hlt (by rw [unhide hb']; rfl)))⟩
        case measure => simp [intOf]; omega
      · have hb' := hide hb; clear hb
        by_cases hc : (rl s (s[k].toNat : Int) != k) = true
        · go_wp2_with (first | (go_at_call 84; refine (beginsRule_any _ _ _ hs (by omega) (by omega)).mono ?_; rintro e w' ⟨rfl, rfl⟩; rw [unhide hb']) | (go_at_call 85; refine (firstRule_any _ _ _ hs).mono ?_; rintro e w' ⟨rfl, rfl⟩))
          go_ret2
          exact ⟨by rw [unhide hr, twF_yes hlt (by rw [unhide hb', unhide H, hc]; rfl)]; rfl, rfl⟩
        · have hc' : (rl s (s[k].toNat : Int) != k) = false := by simpa using hc
          clear hc
          go_wp2_with (first | (go_at_call 84; refine (beginsRule_any _ _ _ hs (by omega) (by omega)).mono ?_; rintro e w' ⟨rfl, rfl⟩; rw [unhide hb']) | (go_at_call 85; refine (firstRule_any _ _ _ hs).mono ?_; rintro e w' ⟨rfl, rfl⟩))
          go_round
          case rel => exact ⟨k + 1, by omega, by go_num, hide ((unhide hr).trans (twF_no hlt (by rw [unhide hb', unhide H, hc']; rfl)))⟩
          case measure => simp [intOf]; omega
    · go_wp2
      go_ret2
      exact ⟨by rw [unhide hr, twF_end hlt]; rfl, rfl⟩

set_option maxHeartbeats 400000 in
theorem checkNames_any (s : ByteArray) (w : World) (hs : s.size ≤ maxLen) : Calls Tryz.prog 47 #[.string s] w fun e w' => e = .returned (.tuple #[.int .i64 (nmF s s.size 0).1, .int .i64 (nmF s s.size 0).2]) ∧ w' = w := by
  have hs' := hs
  unfold maxLen at hs'
  go_enter Tryz.func47, Tryz.ntmps47
  go_wp2
  go_loop [4] (fun i => ∃ k : Nat, k ≤ s.size ∧ i = .int .i64 k ∧ Hid (nmF s s.size 0 = nmF s (s.size - k) k)) (fun i => s.size - (intOf i).toNat)
  case atStart => exact ⟨0, Nat.zero_le _, rfl, hide rfl⟩
  case round =>
    obtain ⟨k, hk, rfl, hr⟩ := hrel
    by_cases hlt : k < s.size
    · have H := hide (bt_at s k hlt)
      cases hb : cN (s[k].toNat : Int)
      · have hb' := hide hb; clear hb
        go_wp2_with (go_at_call 86; refine (isName_any _ _).mono ?_; rintro e w' ⟨rfl, rfl⟩; rw [unhide hb'])
        go_round
        case rel => exact ⟨k + 1, by omega, by go_num, hide ((unhide hr).trans (nmF_no hlt (by rw [unhide H, unhide hb']; rfl)))⟩
        case measure => simp [intOf]; omega
      · have hb' := hide hb; clear hb
        by_cases hc : (rl s (s[k].toNat : Int) == -1) = true
        · go_wp2_with (first | (go_at_call 86; refine (isName_any _ _).mono ?_; rintro e w' ⟨rfl, rfl⟩; rw [unhide hb']) | (go_at_call 85; refine (firstRule_any _ _ _ hs).mono ?_; rintro e w' ⟨rfl, rfl⟩))
          go_ret2
          exact ⟨by rw [unhide hr, nmF_yes hlt (by rw [unhide H, unhide hb', hc]; rfl)]; rfl, rfl⟩
        · have hc' : (rl s (s[k].toNat : Int) == -1) = false := by simpa using hc
          clear hc
          go_wp2_with (first | (go_at_call 86; refine (isName_any _ _).mono ?_; rintro e w' ⟨rfl, rfl⟩; rw [unhide hb']) | (go_at_call 85; refine (firstRule_any _ _ _ hs).mono ?_; rintro e w' ⟨rfl, rfl⟩))
          go_round
          case rel => exact ⟨k + 1, by omega, by go_num, hide ((unhide hr).trans (nmF_no hlt (by rw [unhide H, unhide hb', hc']; rfl)))⟩
          case measure => simp [intOf]; omega
    · go_wp2
      go_ret2
      exact ⟨by rw [unhide hr, nmF_end hlt]; rfl, rfl⟩
end Go.Proofs.YtnfaiaoipeholaaGreatDoor

namespace Go.Proofs.YtnfaiaoipeholaaGreatDoor
open Go.RowKit

/-- a function at one more place -/
def upd (f : Nat → Int) (j : Nat) (x : Int) : Nat → Int := fun i => if i = j then x else f i
theorem upd_same (f : Nat → Int) (j : Nat) (x : Int) : upd f j x j = x := by simp [upd]
theorem upd_other (f : Nat → Int) (j i : Nat) (x : Int) (h : i ≠ j) : upd f j x i = f i := by simp [upd, h]

/-- the reader's thirteen cells -/
structure Rd (w : World) (b : Nat) (a d : Int) (cl br : Nat → Int) : Prop where
  wants : w.cell? ⟨b, 0, none⟩ = some (.int .i64 a)
  deep : w.cell? ⟨b, 1, none⟩ = some (.int .i64 d)
  clo : ∀ j, j < 5 → w.cell? ⟨b, 2 + j, none⟩ = some (.int .u8 (cl j))
  bar : ∀ j, j < 6 → w.cell? ⟨b, 7 + j, none⟩ = some (.int .i64 (br j))
  froz : ∀ j, j < 13 → w.frozen? ⟨b, j, none⟩ = false
section
variable {w : World} {b : Nat} {a d : Int} {cl br : Nat → Int}
theorem Rd.drew (h : Rd w b a d cl br) : Rd w.drew b a d cl br := ⟨h.wants, h.deep, h.clo, h.bar, h.froz⟩
theorem Rd.drewN (h : Rd w b a d cl br) (n : Nat) : Rd (w.drewN n) b a d cl br := ⟨h.wants, h.deep, h.clo, h.bar, h.froz⟩
theorem oth {w : World} {b i j : Nat} {v : Value} (h : i ≠ j) : (w.setCell ⟨b, i, none⟩ v).cell? ⟨b, j, none⟩ = w.cell? ⟨b, j, none⟩ :=
  World.cell?_setCell_other w _ _ _ (fun e => h (by injection e))
theorem bset {B b : Nat} {w0 w : World} (h : Below B w0 w) (hB : B ≤ b) (i : Nat) (v : Value) : Below B w0 (w.setCell ⟨b, i, none⟩ v) := h.setCell (p := ⟨b, i, none⟩) hB v
theorem Rd.setWants (h : Rd w b a d cl br) (x : Int) : Rd (w.setCell ⟨b, 0, none⟩ (.int .i64 x)) b x d cl br :=
  ⟨World.cell?_setCell_same w _ _ h.wants, by rw [oth (by omega)]; exact h.deep, fun j hj => by rw [oth (by omega)]; exact h.clo j hj, fun j hj => by rw [oth (by omega)]; exact h.bar j hj, fun j hj => by rw [World.frozen?_setCell]; exact h.froz j hj⟩
theorem Rd.setDeep (h : Rd w b a d cl br) (x : Int) : Rd (w.setCell ⟨b, 1, none⟩ (.int .i64 x)) b a x cl br :=
  ⟨by rw [oth (by omega)]; exact h.wants, World.cell?_setCell_same w _ _ h.deep, fun j hj => by rw [oth (by omega)]; exact h.clo j hj, fun j hj => by rw [oth (by omega)]; exact h.bar j hj, fun j hj => by rw [World.frozen?_setCell]; exact h.froz j hj⟩
theorem Rd.setClo (h : Rd w b a d cl br) (k : Nat) (hk : k < 5) (x : Int) : Rd (w.setCell ⟨b, 2 + k, none⟩ (.int .u8 x)) b a d (upd cl k x) br :=
  ⟨by rw [oth (by omega)]; exact h.wants, by rw [oth (by omega)]; exact h.deep, fun j hj => by
    by_cases e : j = k
    · subst e; rw [World.cell?_setCell_same w _ _ (h.clo j hj), upd_same]
    · rw [oth (by omega), upd_other _ _ _ _ e]; exact h.clo j hj, fun j hj => by rw [oth (by omega)]; exact h.bar j hj, fun j hj => by rw [World.frozen?_setCell]; exact h.froz j hj⟩
theorem Rd.setBar (h : Rd w b a d cl br) (k : Nat) (hk : k < 6) (x : Int) : Rd (w.setCell ⟨b, 7 + k, none⟩ (.int .i64 x)) b a d cl (upd br k x) :=
  ⟨by rw [oth (by omega)]; exact h.wants, by rw [oth (by omega)]; exact h.deep, fun j hj => by rw [oth (by omega)]; exact h.clo j hj, fun j hj => by
    by_cases e : j = k
    · subst e; rw [World.cell?_setCell_same w _ _ (h.bar j hj), upd_same]
    · rw [oth (by omega), upd_other _ _ _ _ e]; exact h.bar j hj, fun j hj => by rw [World.frozen?_setCell]; exact h.froz j hj⟩
end

set_option maxHeartbeats 400000 in
theorem readName_any {b : Nat} {a d : Int} {cl br : Nat → Int} (c : Int) (w : World) (h : Rd w b a d cl br) :
    Calls Tryz.prog 131 #[.pointer (some ⟨b, 0, none⟩), .int .u8 c] w fun e w' =>
      (cN c = false ∧ e = .returned (.int .i64 2) ∧ w' = w) ∨ (cN c = true ∧ e = .returned (.int .i64 0) ∧ Rd w' b 1 d cl br ∧ Below b w w') := by
  have c0 := h.wants
  have f0 := h.froz 0 (by omega)
  by_cases hb : cN c = true
  case neg =>
    have hb' : Hid (cN c = false) := hide (by simpa using hb)
    clear hb
    go_enter Tryz.func131, Tryz.ntmps131
    go_wp2_with (go_at_call 86; refine (isName_any _ _).mono ?_; rintro e w' ⟨rfl, rfl⟩; rw [unhide hb'])
    go_ret; exact .inl ⟨unhide hb', rfl, rfl⟩
  case pos =>
    have hb' := hide hb
    clear hb
    go_enter Tryz.func131, Tryz.ntmps131
    go_wp2_with (go_at_call 86; refine (isName_any _ _).mono ?_; rintro e w' ⟨rfl, rfl⟩; rw [unhide hb'])
    go_ret; exact .inr ⟨unhide hb', rfl, h.setWants 1, bset (Below.refl _ _) (Nat.le_refl _) _ _⟩

set_option maxHeartbeats 400000 in
theorem readEquals_any {b : Nat} {a d : Int} {cl br : Nat → Int} (c : Int) (w : World) (h : Rd w b a d cl br) :
    Calls Tryz.prog 132 #[.pointer (some ⟨b, 0, none⟩), .int .u8 c] w fun e w' =>
      (c ≠ 61 ∧ e = .returned (.int .i64 2) ∧ w' = w) ∨ (c = 61 ∧ e = .returned (.int .i64 0) ∧ Rd w' b 2 d cl (upd br 0 0) ∧ Below b w w') := by
  have c0 := h.wants
  have f0 := h.froz 0 (by omega)
  have c1 := h.bar 0 (by omega)
  have f1 := h.froz 7 (by omega)
  by_cases hb : c = 61
  · go_enter Tryz.func132, Tryz.ntmps132
    go_wp2
    go_ret; exact .inr ⟨hb, rfl, (h.setWants 2).setBar 0 (by omega) 0, bset (bset (Below.refl _ _) (Nat.le_refl _) _ _) (Nat.le_refl _) _ _⟩
  · have hb2 : (c != 61) = true := by simp [hb]
    go_enter Tryz.func132, Tryz.ntmps132
    go_wp2
    go_ret; exact .inl ⟨hb, rfl, rfl⟩

set_option maxHeartbeats 400000 in
theorem readEnd_any {b : Nat} {a d : Int} {cl br : Nat → Int} (w : World) (h : Rd w b a d cl br) (hd : 0 ≤ d) :
    Calls Tryz.prog 162 #[.pointer (some ⟨b, 0, none⟩)] w fun e w' =>
      (0 < d ∧ e = .returned (.int .i64 2) ∧ w' = w) ∨ (d = 0 ∧ e = .returned (.int .i64 0) ∧ Rd w' b 0 d cl br ∧ Below b w w') := by
  have c0 := h.wants
  have c1 := h.deep
  have f0 := h.froz 0 (by omega)
  by_cases hb : 0 < d
  · go_enter Tryz.func162, Tryz.ntmps162
    go_wp2
    go_ret; exact .inl ⟨hb, rfl, rfl⟩
  · go_enter Tryz.func162, Tryz.ntmps162
    go_wp2
    go_ret; exact .inr ⟨by omega, rfl, h.setWants 0, bset (Below.refl _ _) (Nat.le_refl _) _ _⟩

set_option maxHeartbeats 400000 in
theorem readOpening_no {b : Nat} {a d : Int} {cl br : Nat → Int} (c : Int) (w : World) (h : Rd w b a d cl br) (hd : 5 ≤ d) :
    Calls Tryz.prog 159 #[.pointer (some ⟨b, 0, none⟩), .int .u8 c] w fun e w' => e = .returned (.int .i64 4) ∧ w' = w := by
  have c1 := h.deep
  go_enter Tryz.func159, Tryz.ntmps159
  go_wp2
  go_ret; exact ⟨rfl, rfl⟩

set_option maxHeartbeats 400000 in
theorem readOpening_yes {b : Nat} {a : Int} {k : Nat} {cl br : Nat → Int} (c : Int) (w : World) (h : Rd w b a k cl br) (hd : k < 5) :
    Calls Tryz.prog 159 #[.pointer (some ⟨b, 0, none⟩), .int .u8 c] w fun e w' =>
      e = .returned (.int .i64 0) ∧ Rd w' b a ((k : Int) + 1) (upd cl k (cC c)) (upd br (k + 1) 0) ∧ Below b w w' := by
  have c1 := h.deep
  have f1 := h.froz 1 (by omega)
  have c2 := h.clo k hd
  have f2 := h.froz (2 + k) (by omega)
  have hk1 : (k : Int) < 5 := by omega
  have c3 := h.bar (k + 1) (by omega)
  have f3 := h.froz (7 + (k + 1)) (by omega)
  go_enter Tryz.func159, Tryz.ntmps159
  go_wp2
  go_region_with (go_at_call 113; refine (closing_any _ _).mono ?_; rintro e w' ⟨rfl, rfl⟩)
  all_goals go_wp2
  all_goals go_region
  all_goals (go_wp2; go_ret; exact ⟨rfl, (((h.setClo k hd (cC c)).setDeep ((k : Int) + 1)).setBar (k + 1) (by omega) 0).drew.drew, (bset (bset (bset (Below.refl _ _) (Nat.le_refl _) _ _) (Nat.le_refl _) _ _) (Nat.le_refl _) _ _).drew.drew⟩)

set_option maxHeartbeats 400000 in
theorem readClosing_zero {b : Nat} {a : Int} {cl br : Nat → Int} (c : Int) (w : World) (h : Rd w b a 0 cl br) :
    Calls Tryz.prog 160 #[.pointer (some ⟨b, 0, none⟩), .int .u8 c] w fun e w' => e = .returned (.int .i64 2) ∧ Below b w w' := by
  have c1 := h.deep
  go_enter Tryz.func160, Tryz.ntmps160
  go_wp2_with fail
  go_quiet (fail)
  go_wp2
  go_ret; exact ⟨rfl, below_drewN (Below.refl _ _) _⟩

set_option maxHeartbeats 400000 in
theorem readClosing_other {b : Nat} {a : Int} {k : Nat} {cl br : Nat → Int} (c : Int) (w : World) (h : Rd w b a ((k : Int) + 1) cl br) (hk : k < 5) (hc : cl k ≠ c) :
    Calls Tryz.prog 160 #[.pointer (some ⟨b, 0, none⟩), .int .u8 c] w fun e w' => e = .returned (.int .i64 2) ∧ Below b w w' := by
  have c1 := h.deep
  have c2 := h.clo k hk
  have hk1 : (k : Int) < 5 := by omega
  have hk2 : (((k : Int) + 1) == 0) = false := by simp; omega
  have hc2 : (cl k != c) = true := by simp [hc]
  go_enter Tryz.func160, Tryz.ntmps160
  go_wp2_with fail
  go_quiet (fail)
  go_wp2
  go_ret; exact ⟨rfl, below_drewN (Below.refl _ _) _⟩

set_option maxHeartbeats 400000 in
theorem readClosing_yes {b : Nat} {a : Int} {k : Nat} {cl br : Nat → Int} (c : Int) (w : World) (h : Rd w b a ((k : Int) + 1) cl br) (hk : k < 5) (hc : cl k = c) :
    Calls Tryz.prog 160 #[.pointer (some ⟨b, 0, none⟩), .int .u8 c] w fun e w' => e = .returned (.int .i64 0) ∧ Rd w' b a k cl br ∧ Below b w w' := by
  subst hc
  have c1 := h.deep
  have f1 := h.froz 1 (by omega)
  have c2 := h.clo k hk
  have hk1 : (k : Int) < 5 := by omega
  have hk2 : (((k : Int) + 1) == 0) = false := by simp; omega
  go_enter Tryz.func160, Tryz.ntmps160
  go_wp2_with fail
  go_quiet (fail)
  go_wp2
  go_ret
  exact ⟨rfl, (h.drewN _).setDeep k, bset (below_drewN (Below.refl _ _) _) (Nat.le_refl _) _ _⟩

set_option maxHeartbeats 400000 in
theorem readBar_no {b : Nat} {a : Int} {k : Nat} {cl br : Nat → Int} (w : World) (h : Rd w b a k cl br) (hk : k < 6) (hc : 9 ≤ br k) (hc2 : br k ≤ 10) :
    Calls Tryz.prog 161 #[.pointer (some ⟨b, 0, none⟩)] w fun e w' => e = .returned (.int .i64 3) ∧ Below b w w' := by
  have c1 := h.deep
  have c2 := h.bar k hk
  have hk1 : (k : Int) < 6 := by omega
  go_enter Tryz.func161, Tryz.ntmps161
  go_wp2_with fail
  go_quiet (fail)
  go_wp2
  go_ret; exact ⟨rfl, below_drewN (Below.refl _ _) _⟩

set_option maxHeartbeats 400000 in
theorem readBar_yes {b : Nat} {a : Int} {k : Nat} {cl br : Nat → Int} (w : World) (h : Rd w b a k cl br) (hk : k < 6) (hc : br k < 9) (hc2 : 0 ≤ br k) :
    Calls Tryz.prog 161 #[.pointer (some ⟨b, 0, none⟩)] w fun e w' => e = .returned (.int .i64 0) ∧ Rd w' b a k cl (upd br k (br k + 1)) ∧ Below b w w' := by
  have c1 := h.deep
  have c2 := h.bar k hk
  have f2 := h.froz (7 + k) (by omega)
  have hk1 : (k : Int) < 6 := by omega
  go_enter Tryz.func161, Tryz.ntmps161
  go_wp2_with fail
  go_quiet (fail)
  go_wp2
  go_region
  all_goals (go_wp2; go_ret; exact ⟨rfl, (h.drewN _).setBar k hk (br k + 1), bset (below_drewN (Below.refl _ _) _) (Nat.le_refl _) _ _⟩)
end Go.Proofs.YtnfaiaoipeholaaGreatDoor

namespace Go.Proofs.YtnfaiaoipeholaaGreatDoor
theorem cO_vals {c : Int} (h : cO c = true) : c = 40 ∨ c = 91 ∨ c = 123 ∨ c = 60 := by
  unfold cO cC at h; simp at h
  by_cases h1 : c = 40
  · exact .inl h1
  by_cases h2 : c = 91
  · exact .inr (.inl h2)
  by_cases h3 : c = 123
  · exact .inr (.inr (.inl h3))
  by_cases h4 : c = 60
  · exact .inr (.inr (.inr h4))
  · simp [h1, h2, h3, h4] at h
theorem cX_vals {c : Int} (h : cX c = true) : c = 41 ∨ c = 93 ∨ c = 125 ∨ c = 62 := by
  unfold cX at h; simp at h; omega
theorem last_at (l : List Int) : l.getLastD 0 = l.getD (l.length - 1) 0 := by
  rw [List.getLastD_eq_getLast?, List.getLast?_eq_getElem?, List.getD_eq_getElem?_getD]
section
variable {c : Int} {op al : List Int}
theorem mst_open (h : cO c = true) : mst c 2 op al = if 5 ≤ op.length then (4, 2, op, al) else (0, 2, op ++ [cC c], al ++ [1]) := by
  rcases cO_vals h with rfl | rfl | rfl | rfl <;> (simp [mst, stp, cL, cN, cC]; split <;> rfl)
theorem mst_close (h : cX c = true) : mst c 2 op al = if op ≠ [] ∧ c = op.getLastD 0 then (0, 2, op.dropLast, al.dropLast) else (2, 2, op, al) := by
  rcases cX_vals h with rfl | rfl | rfl | rfl <;> (simp [mst, stp, cL, cN, cC]; split <;> rfl)
theorem mst_bar : mst 124 2 op al = if 10 ≤ al.getLastD 0 then (3, 2, op, al) else (0, 2, op, al.dropLast ++ [al.getLastD 0 + 1]) := by
  simp [mst, stp, cL, cN, cC]; split <;> rfl
theorem last_cX (h : ∀ x ∈ op, cX x = true) (hn : op ≠ []) : cX (op.getLastD 0) = true := by
  apply h; rw [List.getLastD_eq_getLast?, List.getLast?_eq_some_getLast hn]; simp
theorem mst_semi (h : ∀ x ∈ op, cX x = true) : mst 59 2 op al = if op = [] then (0, 0, op, al) else (2, 2, op, al) := by
  by_cases hn : op = []
  · simp [mst, hn]
  · have := last_cX h hn
    have hne : ¬ (59 = op.getLastD 0) := by intro e; rw [← e] at this; simp [cX] at this
    rw [if_neg hn]
    unfold mst stp
    rw [if_neg (by omega), if_neg (by omega), if_neg (by simp [hn]), if_neg (by simp [cL, cN]), if_neg (by simp [cC]), if_neg (by omega), if_neg (fun e => hne e.2)]
theorem mst_plain (h : (cL c || cN c) = true) : mst c 2 op al = (0, 2, op, al) := by
  have h59 : c ≠ 59 := by intro e; rw [e] at h; simp [cL, cN] at h
  unfold mst stp
  rw [if_neg (by omega), if_neg (by omega), if_neg (by simp [h59]), if_pos h]
theorem mst_bad (h : ∀ x ∈ op, cX x = true) (h1 : cO c = false) (h2 : cX c = false) (h3 : c ≠ 124) (h4 : c ≠ 59) (h5 : (cL c || cN c) = false) : mst c 2 op al = (2, 2, op, al) := by
  unfold mst stp
  rw [if_neg (by omega), if_neg (by omega), if_neg (by simp [h4]), if_neg (by simp [h5]), if_neg (by simpa [cO] using h1), if_neg h3, if_neg]
  rintro ⟨hn, e⟩
  have := last_cX h hn
  rw [← e, h2] at this; simp at this
theorem mst_name : mst c 0 op al = if cN c = true then (0, 1, op, al) else (2, 0, op, al) := by simp [mst]
theorem mst_eq : mst c 1 op al = if c = 61 then (0, 2, [], [1]) else (2, 1, op, al) := by simp [mst]
end
theorem getD_push (l : List Int) (x : Int) (j : Nat) (h : j < l.length) : (l ++ [x]).getD j 0 = l.getD j 0 := by
  simp [List.getElem?_append_left h]
theorem getD_pushed (l : List Int) (x : Int) : (l ++ [x]).getD l.length 0 = x := by simp
theorem getD_drop (l : List Int) (j : Nat) (h : j < l.length - 1) : l.dropLast.getD j 0 = l.getD j 0 := by
  rw [List.getD_eq_getElem?_getD, List.getD_eq_getElem?_getD, List.getElem?_dropLast, if_pos h]
theorem fmF_bad {s : ByteArray} {a : Int} {op al : List Int} {k : Nat} (h : k < s.size) (h1 : (mst (bt s k) a op al).1 ≠ 0) : fmF s (s.size - k) k a op al = ((mst (bt s k) a op al).1, (k : Int)) := by
  obtain ⟨n, hn⟩ : ∃ n, s.size - k = n + 1 := ⟨s.size - k - 1, by omega⟩
  rw [hn]; simp only [fmF]; rw [if_pos h1]
theorem fmF_good {s : ByteArray} {a : Int} {op al : List Int} {k : Nat} (h : k < s.size) (h1 : (mst (bt s k) a op al).1 = 0) : fmF s (s.size - k) k a op al = fmF s (s.size - (k + 1)) (k + 1) (mst (bt s k) a op al).2.1 (mst (bt s k) a op al).2.2.1 (mst (bt s k) a op al).2.2.2 := by
  obtain ⟨n, hn⟩ : ∃ n, s.size - k = n + 1 := ⟨s.size - k - 1, by omega⟩
  rw [hn, show s.size - (k + 1) = n by omega]
  conv => lhs; unfold fmF
  rw [if_neg (by simp [h1])]
theorem fmF_end {s : ByteArray} {a : Int} {op al : List Int} {k : Nat} (h : ¬ k < s.size) : fmF s (s.size - k) k a op al = if a ≠ 0 ∨ s.size = 0 then (2, (s.size : Int)) else (0, 0) := by
  rw [show s.size - k = 0 by omega]; rfl
end Go.Proofs.YtnfaiaoipeholaaGreatDoor
