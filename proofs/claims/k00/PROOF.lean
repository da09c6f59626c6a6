import PyProof.Rows.All
import Wide.All
import OpenK.AllK
import Wide.FinOn
import HandS.ForMost
import HandS.IsInst
import HandS.Style
import HandS.Codes
import PySem.Challenge.RW_strokes_k00_whole_words
set_option Elab.async false
set_option linter.all false
set_option maxRecDepth 100000
/-! Words of a text: the mathematics. -/
namespace K0
open PySem L2 TL

def isFig (c : Nat) : Bool := decide (48 ≤ c) && decide (c ≤ 57)
def isLet (c : Nat) : Bool := decide (97 ≤ c) && decide (c ≤ 122)
def isAl (c : Nat) : Bool := isFig c || isLet c
def isBl (c : Nat) : Bool := (c == 32) || (c == 10)
def kws : List Str := ["row", "col", "let", "if", "else", "while", "for", "to", "do", "def", "say", "stop", "rows", "cols", "black", "mod", "and", "or", "not"]
def mks : List Str := ["<=", "!=", "{", "}", "(", ")", "+", "-", "*", "/", "<", "=", ","]
def inM (l : List Nat) : Bool := mks.any fun m => tl m == l

/-- what stands at the head of the rest -/
def sigs : List Nat → List Nat
  | [] => []
  | c :: r => if isFig c then (c :: r).takeWhile isFig else if isLet c then (c :: r).takeWhile isLet else if inM ((c :: r).take 2) then (c :: r).take 2 else [c]

def kind (w : Str) : Option Str :=
  if w ∈ kws then some ("key" : Str) else if w ∈ mks then some ("mark" : Str) else
  match tl w with
  | [] => none
  | c :: _ => if isLet c && decide ((tl w).length ≤ 12) then some ("name" : Str) else
    if isFig c && (if c == 48 then decide (w = "0") else decide ((tl w).length ≤ 6)) then some ("number" : Str) else none

inductive Toks : List Nat → List (Str × Str) → Prop
  | nil : Toks [] []
  | blank {c : Nat} {cs : List Nat} {ws : List (Str × Str)} : isBl c = true → Toks cs ws → Toks (c :: cs) ws
  | word {c : Nat} {r cs : List Nat} {w k : Str} {ws : List (Str × Str)} : isBl c = false → c :: r = tl w ++ cs → tl w ≠ [] → sigs (c :: r) = tl w → kind w = some k → Toks cs ws → Toks (c :: r) ((k, w) :: ws)

theorem toks_nil {ws : List (Str × Str)} (h : Toks [] ws) : ws = [] := by cases h; rfl
theorem toks_blank {c : Nat} {cs : List Nat} {ws : List (Str × Str)} (hc : isBl c = true) (h : Toks (c :: cs) ws) : Toks cs ws := by
  cases h with
  | blank _ h => exact h
  | word hb => rw [hc] at hb; cases hb
theorem toks_word {c : Nat} {r : List Nat} {ws : List (Str × Str)} (hc : isBl c = false) (h : Toks (c :: r) ws) :
    ∃ (w k : Str) (cs : List Nat) (us : List (Str × Str)), c :: r = tl w ++ cs ∧ tl w ≠ [] ∧ sigs (c :: r) = tl w ∧ kind w = some k ∧ ws = (k, w) :: us ∧ Toks cs us := by
  cases h with
  | blank hb => rw [hc] at hb; cases hb
  | word _ e n s kd t => exact ⟨_, _, _, _, e, n, s, kd, rfl, t⟩

/-- what may stand behind a word of kind k -/
def Ok (k : Str) (cs : List Nat) : Prop := match cs with
  | [] => True
  | c :: _ => isBl c = true ∨ (k = "mark" ∧ isAl c = true) ∨ (k ≠ "mark" ∧ isAl c = false)

structure Wd (k w : Str) : Prop where
  kd : kind w = some k
  hd : ∃ c r, tl w = c :: r ∧ isBl c = false ∧ (k = "mark" → isAl c = false) ∧ (k ≠ "mark" → isAl c = true)
  mm : ∀ cs, Ok k cs → sigs (tl w ++ cs) = tl w

/-- the text T, cut so far into ws, the last word of kind last -/
def J (T : List Nat) (ws : List (Str × Str)) (last : Str) : Prop := ∀ cs us, Toks cs us → (last = "" ∨ Ok last cs) → Toks (T ++ cs) (ws ++ us)

theorem toks_blanks : ∀ {s cs : List Nat} {ws : List (Str × Str)}, s.all isBl = true → Toks cs ws → Toks (s ++ cs) ws
  | [], _, _, _, t => t
  | c :: s, cs, ws, h, t => by
    rw [List.all_cons, Bool.and_eq_true] at h
    exact .blank h.1 (toks_blanks h.2 t)
theorem J_start {T : List Nat} (h : T.all isBl = true) : J T [] "" := fun cs us t _ => toks_blanks h t
theorem J_step {T s : List Nat} {ws : List (Str × Str)} {last k w : Str} (j : J T ws last) (wd : Wd k w) (hs : s.all isBl = true) (hk : s ≠ [] ∨ ¬ ((last = "mark" ∧ k = "mark") ∨ (last ≠ "mark" ∧ k ≠ "mark"))) (k0 : k ≠ "") :
    J (T ++ s ++ tl w) (ws ++ [(k, w)]) k := by
  intro cs us t o
  have o' : Ok k cs := by
    rcases o with o | o
    · exact absurd o k0
    · exact o
  obtain ⟨c, r, e, hb, hm, hn⟩ := wd.hd
  have t1 : Toks (tl w ++ cs) ((k, w) :: us) := by
    have ss := wd.mm cs o'
    have e2 : tl w ++ cs = c :: (r ++ cs) := by rw [e]; rfl
    have e3 := ss
    rw [e2] at e3
    rw [e2]
    exact .word hb e2.symm (by rw [e]; exact List.cons_ne_nil _ _) e3 wd.kd t
  have t2 := toks_blanks hs t1
  have t3 := j (s ++ (tl w ++ cs)) ((k, w) :: us) t2 (by
    cases s with
    | cons b s' =>
      right
      rw [List.all_cons, Bool.and_eq_true] at hs
      exact Or.inl hs.1
    | nil =>
      right
      rw [List.nil_append, e]
      show Ok last (c :: (r ++ cs))
      rcases hk with hk | hk
      · exact absurd rfl hk
      · by_cases hl : last = "mark"
        · have k1 : k ≠ "mark" := fun q => hk (Or.inl ⟨hl, q⟩)
          exact Or.inr (Or.inl ⟨hl, hn k1⟩)
        · have k1 : k = "mark" := by
            apply Classical.byContradiction
            intro q
            exact hk (Or.inr ⟨hl, q⟩)
          exact Or.inr (Or.inr ⟨hl, hm k1⟩))
  rw [List.append_assoc, List.append_assoc, List.append_assoc]
  exact t3
theorem J_end {T : List Nat} {ws : List (Str × Str)} {last : Str} (j : J T ws last) : Toks T ws ∧ Toks (T ++ [32, 10]) ws := by
  have a := j [] [] .nil (Or.inr trivial)
  have b := j [32, 10] [] (.blank rfl (.blank rfl .nil)) (Or.inr (Or.inl rfl))
  rw [List.append_nil, List.append_nil] at a
  rw [List.append_nil] at b
  exact ⟨a, b⟩

/-! ### words of each kind -/
theorem takeWhile_all {p : Nat → Bool} : ∀ {l cs : List Nat}, l.all p = true → (∀ c r, cs = c :: r → p c = false) → (l ++ cs).takeWhile p = l
  | [], [], _, _ => rfl
  | [], c :: r, _, h => by
    have e := h c r rfl
    show (c :: r).takeWhile p = []
    rw [List.takeWhile_cons]
    simp only [e]
    rfl
  | a :: l, cs, hl, h => by
    rw [List.all_cons, Bool.and_eq_true] at hl
    show (a :: (l ++ cs)).takeWhile p = a :: l
    rw [List.takeWhile_cons, if_pos hl.1, takeWhile_all hl.2 h]
theorem ok_let {k : Str} {cs : List Nat} (hk : k ≠ "mark") (o : Ok k cs) : ∀ c r, cs = c :: r → isLet c = false ∧ isFig c = false := by
  intro c r e
  subst e
  rcases o with o | o | o
  · unfold isBl at o
    simp only [Bool.or_eq_true, beq_iff_eq] at o
    rcases o with o | o <;> subst o <;> decide
  · exact absurd o.1 hk
  · have q := o.2
    unfold isAl at q
    rw [Bool.or_eq_false_iff] at q
    exact ⟨q.2, q.1⟩
theorem let_fig {c : Nat} (h : isLet c = true) : isFig c = false ∧ isBl c = false := by
  unfold isLet at h
  unfold isFig isBl
  simp only [Bool.and_eq_true, decide_eq_true_eq] at h
  simp only [Bool.and_eq_false_iff, decide_eq_false_iff_not, Bool.or_eq_false_iff, beq_eq_false_iff_ne]
  omega
theorem fig_let {c : Nat} (h : isFig c = true) : isLet c = false ∧ isBl c = false := by
  unfold isFig at h
  unfold isLet isBl
  simp only [Bool.and_eq_true, decide_eq_true_eq] at h
  simp only [Bool.and_eq_false_iff, decide_eq_false_iff_not, Bool.or_eq_false_iff, beq_eq_false_iff_ne]
  omega
theorem wd_lets {k w : Str} (hk : k ≠ "mark") (kd : kind w = some k) (hn : tl w ≠ []) (ha : (tl w).all isLet = true) : Wd k w := by
  cases e : tl w with
  | nil => exact absurd e hn
  | cons c r =>
    rw [e] at ha
    have hc : isLet c = true := by
      rw [List.all_cons, Bool.and_eq_true] at ha
      exact ha.1
    have ff := let_fig hc
    refine ⟨kd, ⟨c, r, e, ff.2, fun q => absurd q hk, fun _ => by unfold isAl; rw [hc, Bool.or_true]⟩, fun cs o => ?_⟩
    rw [e]
    show (if isFig c then (c :: (r ++ cs)).takeWhile isFig else if isLet c then (c :: (r ++ cs)).takeWhile isLet else _) = c :: r
    rw [if_neg (by rw [ff.1]; exact Bool.false_ne_true), if_pos hc]
    exact takeWhile_all (l := c :: r) ha fun c' r' q => (ok_let hk o c' r' q).1
theorem wd_figs {k w : Str} (hk : k ≠ "mark") (kd : kind w = some k) (hn : tl w ≠ []) (ha : (tl w).all isFig = true) : Wd k w := by
  cases e : tl w with
  | nil => exact absurd e hn
  | cons c r =>
    rw [e] at ha
    have hc : isFig c = true := by
      rw [List.all_cons, Bool.and_eq_true] at ha
      exact ha.1
    have ff := fig_let hc
    refine ⟨kd, ⟨c, r, e, ff.2, fun q => absurd q hk, fun _ => by unfold isAl; rw [hc, Bool.true_or]⟩, fun cs o => ?_⟩
    rw [e]
    show (if isFig c then (c :: (r ++ cs)).takeWhile isFig else _) = c :: r
    rw [if_pos hc]
    exact takeWhile_all (l := c :: r) ha fun c' r' q => (ok_let hk o c' r' q).2

theorem kws_all : ∀ w ∈ kws, (tl w).all isLet = true ∧ tl w ≠ [] := by decide +kernel
def firstOk : List Nat → Bool
  | [] => false
  | c :: r => !isAl c && !isBl c && (decide (r = []) || decide (r = [61]))
theorem mks_first : ∀ w ∈ mks, ∃ c r, tl w = c :: r ∧ isAl c = false ∧ isBl c = false ∧ (r = [] ∨ r = [61]) := by
  intro w hw
  have h : ∀ w ∈ mks, firstOk (tl w) = true := by decide +kernel
  have q := h w hw
  cases e : tl w with
  | nil => rw [e] at q; cases q
  | cons c r =>
    rw [e] at q
    have q' : (!isAl c && !isBl c && (decide (r = []) || decide (r = [61]))) = true := q
    simp only [Bool.and_eq_true, Bool.not_eq_true', Bool.or_eq_true, decide_eq_true_eq] at q'
    exact ⟨c, r, rfl, q'.1.1, q'.1.2, q'.2⟩
theorem mks_kind : ∀ w ∈ mks, w ∉ kws := by decide +kernel
theorem kind_key {w : Str} (h : w ∈ kws) : kind w = some ("key" : Str) := by unfold kind; rw [if_pos h]
theorem kind_mark {w : Str} (h : w ∈ mks) : kind w = some ("mark" : Str) := by unfold kind; rw [if_neg (mks_kind w h), if_pos h]
theorem wd_key {w : Str} (h : w ∈ kws) : Wd "key" w := wd_lets (by decide +kernel) (kind_key h) (kws_all w h).2 (kws_all w h).1
theorem inM_iff {l : List Nat} : inM l = true ↔ ∃ m ∈ mks, tl m = l := by
  unfold inM
  rw [List.any_eq_true]
  constructor
  · rintro ⟨m, hm, e⟩; exact ⟨m, hm, by simpa using e⟩
  · rintro ⟨m, hm, e⟩; exact ⟨m, hm, by simpa using e⟩
/-- no mark of two signs ends in a blank, a letter or a figure -/
theorem no_two {c d : Nat} (h : inM [c, d] = true) : d = 61 := by
  obtain ⟨m, hm, e⟩ := inM_iff.mp h
  obtain ⟨c', r, e1, _, _, hr⟩ := mks_first m hm
  rw [e] at e1
  injection e1 with _ e2
  rcases hr with hr | hr
  · rw [hr] at e2; cases e2
  · rw [hr] at e2; injection e2
theorem wd_mark {w : Str} (h : w ∈ mks) : Wd "mark" w := by
  obtain ⟨c, r, e, ha, hb, hr⟩ := mks_first w h
  have h2 : isFig c = false ∧ isLet c = false := by
    unfold isAl at ha
    rwa [Bool.or_eq_false_iff] at ha
  refine ⟨kind_mark h, ⟨c, r, e, hb, fun _ => ha, fun q => absurd rfl q⟩, fun cs o => ?_⟩
  rw [e]
  show (if isFig c then _ else if isLet c then _ else if inM ((c :: (r ++ cs)).take 2) then (c :: (r ++ cs)).take 2 else [c]) = c :: r
  rw [if_neg (by rw [h2.1]; exact Bool.false_ne_true), if_neg (by rw [h2.2]; exact Bool.false_ne_true)]
  rcases hr with hr | hr
  · subst hr
    cases cs with
    | nil =>
      have q : inM [c] = true := inM_iff.mpr ⟨w, h, e⟩
      show (if inM [c] = true then [c] else [c]) = [c]
      rw [if_pos q]
    | cons d cs =>
      have nd : ¬ d = 61 := by
        intro q
        subst q
        rcases o with o | o | o
        · exact absurd o (by decide)
        · exact absurd o.2 (by decide)
        · exact o.1 rfl
      show (if inM [c, d] = true then [c, d] else [c]) = [c]
      rw [if_neg fun q => nd (no_two q)]
  · subst hr
    have q : inM [c, 61] = true := inM_iff.mpr ⟨w, h, e⟩
    show (if inM [c, 61] = true then [c, 61] else [c]) = [c, 61]
    rw [if_pos q]
theorem not_mark {w : Str} {c : Nat} {r : List Nat} (e : tl w = c :: r) (h : isAl c = true) : w ∉ mks := by
  intro q
  obtain ⟨c', r', e', ha, _⟩ := mks_first w q
  rw [e] at e'
  injection e' with e1 _
  rw [← e1, h] at ha
  cases ha
theorem kind_name {w : Str} (hn : tl w ≠ []) (ha : (tl w).all isLet = true) (hl : (tl w).length ≤ 12) (hk : w ∉ kws) : kind w = some ("name" : Str) := by
  cases e : tl w with
  | nil => exact absurd e hn
  | cons c r =>
    have hc : isLet c = true := by
      rw [e, List.all_cons, Bool.and_eq_true] at ha
      exact ha.1
    unfold kind
    rw [if_neg hk, if_neg (not_mark e (by unfold isAl; rw [hc, Bool.or_true]))]
    rw [e] at hl
    simp only [e, hc, decide_eq_true hl, Bool.and_self, if_true]
theorem wd_name {w : Str} (hn : tl w ≠ []) (ha : (tl w).all isLet = true) (hl : (tl w).length ≤ 12) (hk : w ∉ kws) : Wd "name" w :=
  wd_lets (by decide +kernel) (kind_name hn ha hl hk) hn ha

/-! ### numbers -/
def num (n : Nat) : Str := Str.ofString (toString ((n : Nat) : Int))
theorem tl_num' (n : Nat) : tl (num n) = numL n := tl_num n
theorem numL_fig (n : Nat) : (numL n).all isFig = true := by
  rw [List.all_eq_true]
  intro c hc
  have q := numL_digits n c hc
  unfold isFig
  simp only [Bool.and_eq_true, decide_eq_true_eq]
  omega
theorem numL_ne (n : Nat) : numL n ≠ [] := by
  by_cases h : n < 10
  · rw [numL_lt h]; exact List.cons_ne_nil _ _
  · rw [numL_step (by omega)]
    intro q
    rw [List.append_eq_nil_iff] at q
    cases q.2
theorem numL_first (n : Nat) (h : 0 < n) : ∃ c r, numL n = c :: r ∧ c ≠ 48 := by
  induction n using Nat.strongRecOn with
  | _ n ih =>
    by_cases h1 : n < 10
    · exact ⟨48 + n, [], numL_lt h1, by omega⟩
    · obtain ⟨c, r, e, hc⟩ := ih (n / 10) (by omega) (by omega)
      refine ⟨c, r ++ [48 + n % 10], ?_, hc⟩
      rw [numL_step (by omega), e]
      rfl
theorem numL_len : ∀ (k n : Nat), n < 10 ^ (k + 1) → (numL n).length ≤ k + 1
  | 0, n, h => by rw [numL_lt (by simpa using h)]; exact Nat.le_refl _
  | k + 1, n, h => by
    by_cases h1 : n < 10
    · rw [numL_lt h1]; simp
    · rw [numL_step (by omega), List.length_append, List.length_singleton]
      have h2 : n < 10 ^ (k + 1) * 10 := by rw [← Nat.pow_succ]; exact h
      have q := numL_len k (n / 10) (by omega)
      omega
theorem num_zero : num 0 = "0" := by
  apply ext_tl
  rw [tl_num', numL_lt (by decide)]
  decide +kernel
theorem kws_not_fig {w : Str} {c : Nat} {r : List Nat} (e : tl w = c :: r) (h : isFig c = true) : w ∉ kws := by
  intro q
  have a := (kws_all w q).1
  rw [e, List.all_cons, Bool.and_eq_true] at a
  rw [(fig_let h).1] at a
  cases a.1
theorem kind_num {n : Nat} (h : n < 1000000) : kind (num n) = some ("number" : Str) := by
  have hl : (tl (num n)).length ≤ 6 := by rw [tl_num']; exact numL_len 5 n h
  cases e : tl (num n) with
  | nil =>
    rw [tl_num'] at e
    exact absurd e (numL_ne n)
  | cons c r =>
    have hc : isFig c = true := by
      have a := numL_fig n
      rw [← tl_num', e, List.all_cons, Bool.and_eq_true] at a
      exact a.1
    unfold kind
    rw [if_neg (kws_not_fig e hc), if_neg (not_mark e (by unfold isAl; rw [hc, Bool.true_or]))]
    rw [e] at hl
    simp only [e, (fig_let hc).1, Bool.false_and, hc, Bool.true_and]
    rw [if_neg Bool.false_ne_true]
    by_cases h0 : n = 0
    · subst h0
      have ec : c = 48 := by
        rw [tl_num', numL_lt (by decide)] at e
        injection e with e1 _
        exact e1.symm
      subst ec
      rw [num_zero]
      have e1 : (48 == 48 : Bool) = true := rfl
      rw [if_pos e1, decide_eq_true rfl, if_pos rfl]
    · obtain ⟨c', r', e', hc'⟩ := numL_first n (by omega)
      rw [← tl_num', e] at e'
      injection e' with e1 _
      have hc2 : (c == 48) = false := by rw [e1]; simpa using hc'
      simp only [hc2]
      rw [if_neg Bool.false_ne_true, decide_eq_true hl, if_pos rfl]
theorem wd_num {n : Nat} (h : n < 1000000) : Wd "number" (num n) :=
  wd_figs (by decide +kernel) (kind_num h) (by rw [tl_num']; exact numL_ne n) (by rw [tl_num']; exact numL_fig n)
theorem num_len {n : Nat} (h : n < 1000000) : (num n).length ≤ 6 := by
  rw [len_tl, tl_num']
  exact numL_len 5 n h
end K0

namespace K0
open PySem L2 TL
/-! ### the text by places -/
def top (i : Nat) : Stmt := PySem.Challenge.pw_strokes_k00_whole_words.main.body.getD i (.Pass ⟨0, 0, 0, 0⟩)
abbrev sWords : Stmt := top 13
abbrev sCheck : Stmt := top 14
abbrev sWordAt : Stmt := top 15
abbrev sSigns : Stmt := top 16
abbrev sRunEnd : Stmt := top 17
abbrev sKind : Stmt := top 18
abbrev sIsNum : Stmt := top 19
abbrev sTaken : Stmt := top 21
abbrev sPick : Stmt := top 22
abbrev sAlike : Stmt := top 23
abbrev sLaw : Stmt := top 24
/-- what the top has written, of names -/
structure Txt (K : PySem.W.Frag) (mg : Str → Option Value) : Prop where
  len : mg "len" = none
  int_ : mg "int" = none
  isi : mg "isinstance" = none
  str_ : mg "str" = none
  tup_ : mg "tuple" = none
  list_ : mg "list" = none
  range : mg "range" = none
  keys : ∃ a, mg "KEYS" = some (.ref a) ∧ ∀ H, SqT K H a (kws.map V.str)
  marks : ∃ a, mg "MARKS" = some (.ref a) ∧ ∀ H, SqT K H a (mks.map V.str)
  figs : ∃ t, mg "FIGURES" = some (.str "0123456789" t)
  lets : ∃ t, mg "LETTERS" = some (.str "abcdefghijklmnopqrstuvwxyz" t)
  blanks : ∃ t, mg "BLANKS" = some (.str " \n" t)
  mSigns : ∃ t, mg "MOST_SIGNS" = some (.int 100000 t)
  mFigs : ∃ t, mg "MOST_FIGURES" = some (.int 6 t)
  mLets : ∃ t, mg "MOST_LETTERS" = some (.int 12 t)
/-! ### the row of draws -/
def rowO (s : Addr) (i a b : Int) : HO := .lst [.ref s, .int i, .int a, .int b]
def RowAt (H : Hp) (r s : Addr) : Prop := ∃ i a b : Int, H r = some (rowO s i a b) ∧ 0 ≤ i ∧ 0 ≤ a ∧ a < 2147483647
/-- all that was tracked is kept, but at r -/
def Keep (r : Addr) (H H' : Hp) : Prop := ∀ b o, b ≠ r → H b = some o → H' b = some o
theorem Keep.refl (r : Addr) (H : Hp) : Keep r H H := fun _ _ _ h => h
theorem Keep.trans {r : Addr} {H H1 H2 : Hp} (a : Keep r H H1) (b : Keep r H1 H2) : Keep r H H2 := fun c o n h => b c o n (a c o n h)
theorem Keep.upd (r : Addr) (H : Hp) (o : HO) : Keep r H (upd H r o) := fun b u n h => by rw [upd_ne n]; exact h
theorem Keep.new {r p : Addr} {H : Hp} (h : H p = none) (o : HO) : Keep r H (L2.upd H p o) := fun b u _ q => by rw [upd_ne (ne_of_none q h)]; exact q
def Scr (K : PySem.W.Frag) (H : Hp) (r s : Addr) : Prop := ∃ ns : List Int, ns.length ≤ 63 ∧ ∀ H', Keep r H H' → SqL K H' s (ns.map V.int)
theorem Scr.mono {K : PySem.W.Frag} {H H' : Hp} {r s : Addr} (h : Scr K H r s) (k : Keep r H H') : Scr K H' r s := by
  obtain ⟨ns, h1, h2⟩ := h
  exact ⟨ns, h1, fun H2 k2 => h2 H2 (k.trans k2)⟩
theorem upd2 {H : Hp} {r : Addr} {o u : HO} : upd (upd H r o) r u = upd H r u := upd_upd

/-! ### promises -/
def spTaken (K : PySem.W.Frag) : Sp := fun vs H Q _ => ∃ (r s : Addr) (many : Int), vs = [.ref r, .int many] ∧ RowAt H r s ∧ Scr K H r s ∧ 1 ≤ many ∧ many ≤ 1000000 ∧
  ∀ (H' : Hp) (v : Int), Keep r H H' → RowAt H' r s → 0 ≤ v → v < many → Q (.int v) H'
def spPick (K : PySem.W.Frag) : Sp := fun vs H Q _ => ∃ (r s : Addr) (x : V), vs = [.ref r, x] ∧ RowAt H r s ∧ Scr K H r s ∧
  ((∃ (p : Addr) (xs : List V), x = .ref p ∧ p ≠ r ∧ H p = some (.lst xs) ∧ 1 ≤ xs.length ∧ xs.length ≤ 1000 ∧ ∀ (H' : Hp) (v : V), Keep r H H' → RowAt H' r s → v ∈ xs → Q v H') ∨
   (∃ z : Str, x = .str z ∧ 1 ≤ z.length ∧ z.length ≤ 1000 ∧ ∀ (H' : Hp) (c : Nat), Keep r H H' → RowAt H' r s → c ∈ tl z → Q (.str ⟨#[c]⟩) H'))

section
variable {P : Program} {w : World} {K : PySem.W.Frag} {mg : Str → Option Value} {base : Heap}
theorem scTaken : FnScope ["row", "many", "found", "cell"] ["row", "many"] (defScope sTaken) := ⟨rfl, rfl, rfl, by decide +kernel, rfl, by decide +kernel, by decide +kernel⟩
theorem ok_taken {f : Addr} {fd : FuncData} (F : Fun K "_law_taken" "_law_taken" sTaken f fd) (T : Txt K mg) : FnOk P w K mg base CX0 1 f fd ["row", "many"] (spTaken K) := by
  refine F.ok scTaken (fun vs H Q E h => ?_) (fun cdv A outer s0 H vs Q E hr h => ?_)
  · obtain ⟨r, s, many, rfl, _⟩ := h
    rfl
  obtain ⟨r, s, many, rfl, ⟨i, a, b, hR, hi, ha, ha2⟩, ⟨ns, hns, hS⟩, hm1, hm2, k⟩ := h
  refine ⟨_, pss_cons (ps_if (pt_cmpR op_gt (pe_ix ix_list (pv 0) pe_int (fun _ _ => rfl)) pe_int (nomark _))
      (pss_cons (ps_set (i := 2) scTaken.nd rfl (Or.inl rfl) (pe_op op_mod (pe_callTy call_int1 (by rfl) T.int_ (by decide +kernel) (pa_cons (pe_ix ix_list (pv 0) pe_int (fun _ _ => rfl)) pa_nil)) (pv 1)))
      (pss_cons (ps_asg (pe_op op_fdiv (pe_ix ix_list (pv 0) pe_int (fun _ _ => rfl)) (pv 1)) (pg_sub (pv 0) pe_int set_list))
      (pss_one (ps_ret (pv 2))))) pss_nil)
    (pss_cons (ps_asg (pe_op op_add (pe_ix ix_list (pv 0) pe_int (fun _ _ => rfl)) pe_int) (pg_sub (pv 0) pe_int set_list))
    (pss_cons (ps_if (pt_cmpR op_gt (pe_ix ix_list (pv 0) pe_int (fun _ _ => rfl)) (pe_callB call_len_seq (by rfl) T.len PySem.boot_len (pa_cons (pe_ix ix_list (pv 0) pe_int (fun _ _ => rfl)) pa_nil)) (nomark _))
      (pss_cons (ps_asg (pe_op op_mod (pe_callTy call_int1 (by rfl) T.int_ (by decide +kernel) (pa_cons (pe_op op_add (pe_op op_mul (pe_ix ix_list (pv 0) pe_int (fun _ _ => rfl)) pe_int) pe_int) pa_nil)) pe_int) (pg_sub (pv 0) pe_int set_list))
      (pss_one (ps_ret (pe_op op_mod (pe_callTy call_int1 (by rfl) T.int_ (by decide +kernel) (pa_cons (pe_op op_fdiv (pe_ix ix_list (pv 0) pe_int (fun _ _ => rfl)) pe_int) pa_nil)) (pv 1))))) pss_nil)
    (pss_cons (ps_set (i := 3) scTaken.nd rfl (Or.inl rfl) (pe_ix ix_list (pe_ix ix_list (pv 0) pe_int (fun _ _ => rfl)) (pe_op op_sub (pe_ix ix_list (pv 0) pe_int (fun _ _ => rfl)) pe_int) (fun _ _ => rfl)))
    (pss_cons (ps_asg (pe_op op_mod (pe_callTy call_int1 (by rfl) T.int_ (by decide +kernel) (pa_cons (pe_op op_add (pe_op op_add (pe_op op_mul (pe_ix ix_list (pv 0) pe_int (fun _ _ => rfl)) pe_int) (pv 3)) pe_int) pa_nil)) pe_int) (pg_sub (pv 0) pe_int set_list))
    (pss_cons (ps_if (pt_cmpR op_ge (pv 3) (pe_op op_pow pe_int pe_int) (nomark _))
      (pss_one (ps_asg (pe_op op_fdiv (pv 3) (pv 1)) (pg_sub (pv 0) pe_int set_list))) pss_nil)
    (pss_one (ps_ret (pe_op op_mod (pe_callTy call_int1 (by rfl) T.int_ (by decide +kernel) (pa_cons (pv 3) pa_nil)) (pv 1))))))))), ?_⟩
  have hm : (0 : Int) < many := by omega
  have hdv : (0 : Int) < many ∧ many < 1073741824 := ⟨hm, by omega⟩
  -- row[3] > 0
  refine ⟨_, rfl, r, _, _, _, rfl, rfl, SqL.of hR, rfl, _, _, rfl, rfl, _, rfl, ?_⟩
  refine ite2 (fun c => ?_) (fun c => ?_)
  · have hb : b > 0 := of_decide_eq_true c
    refine ⟨_, rfl, r, _, _, _, rfl, rfl, SqL.of hR, rfl, .inl ⟨_, rfl, _, rfl, _, _, rfl, rfl, hm, ?_⟩⟩
    refine ⟨_, rfl, r, _, _, _, rfl, rfl, SqL.of hR, rfl, _, rfl, _, _, rfl, rfl, hdv, _, rfl, r, _, _, 3, rfl, rfl, hR, rfl, ?_⟩
    refine ⟨_, rfl, ?_⟩
    exact k _ _ (Keep.upd r H _) ⟨i, a, b / many, upd_same, hi, ha, ha2⟩ (Int.emod_nonneg _ (by omega)) (Int.emod_lt_of_pos _ hm)
  · -- row[1] = row[1] + 1
    refine ⟨_, rfl, r, _, _, _, rfl, rfl, SqL.of hR, rfl, _, _, rfl, rfl, _, rfl, r, _, _, 1, rfl, rfl, hR, rfl, ?_⟩
    have k1 : Keep r H (upd H r (rowO s (i + 1) a b)) := Keep.upd r H _
    have hR1 : (upd H r (rowO s (i + 1) a b)) r = some (.lst [.ref s, .int (i + 1), .int a, .int b]) := upd_same
    have hS1 := hS _ k1
    -- if row[1] > len(row[0])
    refine ⟨_, rfl, r, _, _, _, rfl, rfl, SqL.of hR1, rfl, _, rfl, r, _, _, _, rfl, rfl, SqL.of hR1, rfl, s, _, rfl, .inl hS1, _, _, rfl, rfl, _, rfl, ?_⟩
    refine ite2 (fun c1 => ?_) (fun c1 => ?_)
    · refine ⟨_, rfl, r, _, _, _, rfl, rfl, SqL.of hR1, rfl, _, _, rfl, rfl, .inl ⟨by omega, by omega⟩, _, _, rfl, rfl, .inl ⟨_, rfl, _, _, rfl, rfl, (by show (0 : Int) < 2147483647; decide), _, rfl, r, _, _, 2, rfl, rfl, hR1, rfl, ?_⟩⟩
      rw [upd2]
      have hR2 : (upd H r (.lst [.ref s, .int (i + 1), .int ((a * 48271 + 11) % 2147483647), .int b])) r = some (.lst [.ref s, .int (i + 1), .int ((a * 48271 + 11) % 2147483647), .int b]) := upd_same
      refine ⟨_, rfl, r, _, _, _, rfl, rfl, SqL.of hR2, rfl, _, _, rfl, rfl, ⟨by decide, by decide⟩, .inl ⟨_, rfl, _, rfl, _, _, rfl, rfl, hm, ?_⟩⟩
      exact k _ _ (Keep.upd r H _) ⟨i + 1, (a * 48271 + 11) % 2147483647, b, upd_same, by omega, by omega, by omega⟩ (Int.emod_nonneg _ (by omega)) (Int.emod_lt_of_pos _ hm)
    · have c1' : ¬ (i + 1 > (((ns.map V.int).length : Nat) : Int)) := of_decide_eq_false (Bool.eq_false_iff.mpr c1)
      rw [List.length_map] at c1'
      have hlt : i.toNat < ns.length := by omega
      have ei : i + 1 - 1 = ((i.toNat : Nat) : Int) := by omega
      have q : atI (ns.map V.int) (i + 1 - 1) = some (.int ns[i.toNat]) := by
        rw [ei]
        exact atI_nat (by rw [List.getElem?_map, List.getElem?_eq_getElem hlt] <;> rfl)
      generalize ns[i.toNat] = cell at q
      refine ⟨_, rfl, r, _, _, _, rfl, rfl, SqL.of hR1, rfl, _, rfl, r, _, _, _, rfl, rfl, SqL.of hR1, rfl, _, _, rfl, rfl, s, _, _, _, rfl, rfl, hS1, q, ?_⟩
      refine ⟨_, rfl, r, _, _, _, rfl, rfl, SqL.of hR1, rfl, _, _, rfl, rfl, .inl ⟨by omega, by omega⟩, _, rfl, _, _, rfl, rfl, _, _, rfl, rfl, .inl ⟨_, rfl, _, _, rfl, rfl, (by show (0 : Int) < 2147483647; decide), _, rfl, r, _, _, 2, rfl, rfl, hR1, rfl, ?_⟩⟩
      rw [upd2]
      have hR2 : (upd H r (.lst [.ref s, .int (i + 1), .int ((a * 48271 + cell + 11) % 2147483647), .int b])) r = some (.lst [.ref s, .int (i + 1), .int ((a * 48271 + cell + 11) % 2147483647), .int b]) := upd_same
      refine ⟨_, rfl, _, _, rfl, rfl, ⟨by decide, by decide, by decide⟩, _, _, rfl, rfl, _, rfl, ?_⟩
      refine ite2 (fun c2 => ?_) (fun c2 => ?_)
      · refine ⟨_, rfl, _, rfl, _, _, rfl, rfl, hdv, _, rfl, r, _, _, 3, rfl, rfl, hR2, rfl, ?_⟩
        rw [upd2]
        refine ⟨_, rfl, .inl ⟨_, rfl, _, rfl, _, _, rfl, rfl, hm, ?_⟩⟩
        exact k _ _ (Keep.upd r H _) ⟨i + 1, (a * 48271 + cell + 11) % 2147483647, cell / many, upd_same, by omega, by omega, by omega⟩ (Int.emod_nonneg _ (by omega)) (Int.emod_lt_of_pos _ hm)
      · refine ⟨_, rfl, .inl ⟨_, rfl, _, rfl, _, _, rfl, rfl, hm, ?_⟩⟩
        exact k _ _ (Keep.upd r H _) ⟨i + 1, (a * 48271 + cell + 11) % 2147483647, b, upd_same, by omega, by omega, by omega⟩ (Int.emod_nonneg _ (by omega)) (Int.emod_lt_of_pos _ hm)
end
end K0

namespace K0
open PySem L2 TL
section
variable {P : Program} {w : World} {K : PySem.W.Frag} {mg : Str → Option Value} {base : Heap}
/-! ### _law_pick -/
theorem scPick : FnScope ["row", "things"] ["row", "things"] (defScope sPick) := ⟨rfl, rfl, rfl, by decide +kernel, rfl, by decide +kernel, by decide +kernel⟩
theorem atI_int {α : Type} {xs : List α} {v : Int} (h0 : 0 ≤ v) (h1 : v < xs.length) : ∃ y, atI xs v = some y ∧ y ∈ xs := by
  have hlt : v.toNat < xs.length := by omega
  have e : v = ((v.toNat : Nat) : Int) := by omega
  refine ⟨xs[v.toNat], ?_, List.getElem_mem hlt⟩
  have q : atI xs ((v.toNat : Nat) : Int) = some xs[v.toNat] := atI_nat (List.getElem?_eq_getElem hlt)
  rw [← e] at q
  exact q
theorem ok_pick {f fT : Addr} {fd fdT : FuncData} (F : Fun K "_law_pick" "_law_pick" sPick f fd) (T : Txt K mg) (GT : FnOk P w K mg base CX0 1 fT fdT ["row", "many"] (spTaken K)) (mT : mg "_law_taken" = some (.ref fT)) (kT : PySem.W.keepIn K (.ref fT) = true) (bT : Binds K fdT ["row", "many"] []) :
    FnOk P w K mg base CX0 2 f fd ["row", "things"] (spPick K) := by
  refine F.ok scPick (fun vs H Q E h => ?_) (fun cdv A outer s0 H vs Q E hr h => ?_)
  · obtain ⟨r, s, x, rfl, _⟩ := h
    rfl
  obtain ⟨r, s, x, rfl, hR, hS, h⟩ := h
  rcases h with ⟨p, xs, rfl, hpr, hp, hl1, hl2, k⟩ | ⟨z, rfl, hl1, hl2, k⟩
  · refine ⟨_, pss_one (ps_ret (pe_ix ix_list (pv 1) (pe_call GT hr rfl mT kT bT .nil pass0 (pa_cons (pv 0) (pa_cons (pe_callB call_len_seq (by rfl) T.len PySem.boot_len (pa_cons (pv 1) pa_nil)) pa_nil))) (fun _ _ => rfl))), ?_⟩
    refine ⟨_, rfl, _, rfl, _, rfl, p, xs, rfl, .inl (SqL.of hp), r, s, (xs.length : Int), rfl, hR, hS, by omega, by omega, fun H' v kp hR' h0 h1 => ?_⟩
    obtain ⟨y, hy, my⟩ := atI_int (xs := xs) h0 h1
    exact ⟨p, xs, v, y, rfl, rfl, SqL.of (kp p _ hpr hp), hy, k H' y kp hR' my⟩
  · refine ⟨_, pss_one (ps_ret (pe_ix ix_str (pv 1) (pe_call GT hr rfl mT kT bT .nil pass0 (pa_cons (pv 0) (pa_cons (pe_callB call_len_str (by rfl) T.len PySem.boot_len (pa_cons (pv 1) pa_nil)) pa_nil))) (fun _ _ => rfl))), ?_⟩
    have hz : z.length ≤ sizeLine := Nat.le_trans hl2 (by decide)
    refine ⟨_, rfl, _, rfl, _, rfl, z, rfl, hz, r, s, (z.length : Int), rfl, hR, hS, by omega, by omega, fun H' v kp hR' h0 h1 => ?_⟩
    obtain ⟨c, hc, mc⟩ := atI_int (xs := tl z) h0 (by rw [← len_tl]; exact h1)
    exact ⟨z, v, c, rfl, rfl, hz, hc, k H' c kp hR' mc⟩

/-! ### strokes.words -/
def Tup2 (H : Hp) (v : V) (k w : Str) : Prop := ∃ t, v = .ref t ∧ H t = some (.tup [.str k, .str w])
inductive Tups (H : Hp) : List V → List (Str × Str) → Prop
  | nil : Tups H [] []
  | cons {v : V} {vs : List V} {k w : Str} {ws : List (Str × Str)} : Tup2 H v k w → Tups H vs ws → Tups H (v :: vs) ((k, w) :: ws)
theorem Tups.length {H : Hp} : ∀ {vs : List V} {ws : List (Str × Str)}, Tups H vs ws → vs.length = ws.length
  | _, _, .nil => rfl
  | _, _, .cons _ t => by rw [List.length_cons, List.length_cons, t.length]
theorem Tups.mono {H H' : Hp} (e : ∀ t k w, H t = some (.tup [.str k, .str w]) → H' t = some (.tup [.str k, .str w])) : ∀ {vs : List V} {ws : List (Str × Str)}, Tups H vs ws → Tups H' vs ws
  | _, _, .nil => .nil
  | _, _, .cons ⟨t, e1, e2⟩ r => .cons ⟨t, e1, e t _ _ e2⟩ (Tups.mono e r)
theorem Tups.snoc {H : Hp} {v : V} {k w : Str} (h : Tup2 H v k w) : ∀ {vs : List V} {ws : List (Str × Str)}, Tups H vs ws → Tups H (vs ++ [v]) (ws ++ [(k, w)])
  | _, _, .nil => .cons h .nil
  | _, _, .cons a r => .cons a (Tups.snoc h r)

def figS : Str := "0123456789"
def letS : Str := "abcdefghijklmnopqrstuvwxyz"
theorem figS_tl : tl figS = [48, 49, 50, 51, 52, 53, 54, 55, 56, 57] := by decide +kernel
theorem letS_tl : tl letS = [97, 98, 99, 100, 101, 102, 103, 104, 105, 106, 107, 108, 109, 110, 111, 112, 113, 114, 115, 116, 117, 118, 119, 120, 121, 122] := by decide +kernel
theorem in_fig (c : Nat) : decide (c ∈ tl figS) = isFig c := by
  rw [figS_tl, Bool.eq_iff_iff]
  unfold isFig
  simp only [List.mem_cons, List.not_mem_nil, or_false, decide_eq_true_eq, Bool.and_eq_true]
  omega
theorem in_let (c : Nat) : decide (c ∈ tl letS) = isLet c := by
  rw [letS_tl, Bool.eq_iff_iff]
  unfold isLet
  simp only [List.mem_cons, List.not_mem_nil, or_false, decide_eq_true_eq, Bool.and_eq_true]
  omega
theorem in_bl (c : Nat) : decide (c ∈ tl (" \n" : Str)) = isBl c := by
  rw [show tl (" \n" : Str) = [32, 10] by decide +kernel, Bool.eq_iff_iff]
  unfold isBl
  simp only [List.mem_cons, List.not_mem_nil, or_false, decide_eq_true_eq, Bool.or_eq_true, beq_iff_eq]
/-- the sign at a place -/
theorem sign_at {z : Str} {n c : Nat} {r : List Nat} (h : (tl z).drop n = c :: r) : atI (tl z) ((n : Nat) : Int) = some c ∧ n < z.length := by
  have hlt : n < (tl z).length := by
    apply Classical.byContradiction
    intro q
    rw [List.drop_eq_nil_of_le (by omega)] at h
    cases h
  have e := List.drop_eq_getElem_cons hlt
  rw [h] at e
  injection e with e1 e2
  exact ⟨atI_nat (by rw [List.getElem?_eq_getElem hlt, e1]), by rw [len_tl]; exact hlt⟩

/-- check_text: a text that is not too long -/
def spCheck : Sp := fun vs H Q _ => ∃ z : Str, vs = [.str z] ∧ z.length ≤ 100000 ∧ ∀ H', Same H H' → Q .non H'
theorem scCheck : FnScope ["value"] ["value"] (defScope sCheck) := ⟨rfl, rfl, rfl, by decide +kernel, rfl, by decide +kernel, by decide +kernel⟩
theorem ok_check {f : Addr} {fd : FuncData} (F : Fun K "check_text" "check_text" sCheck f fd) (T : Txt K mg) : FnOk P w K mg base CX0 1 f fd ["value"] spCheck := by
  refine F.ok scCheck (fun vs H Q E h => ?_) (fun cdv A outer s0 H vs Q E hr h => ?_)
  · obtain ⟨z, rfl, _⟩ := h
    rfl
  obtain ⟨z, rfl, hz, k⟩ := h
  obtain ⟨t, mS⟩ := T.mSigns
  have hz' : z.length ≤ sizeLine := Nat.le_trans hz (by decide)
  refine ⟨_, pss_cons (ps_if (pt_not (pt_val (pe_callB call_isi (by rfl) T.isi (by decide +kernel) (pa_cons (pv 0) (pa_cons (pe_bltn (v := .ty "str") (by rfl) T.str_ (by decide +kernel) rfl) pa_nil))))) pss_never pss_nil)
    (pss_one (ps_if (pt_cmpR op_gt (pe_callB call_len_str (by rfl) T.len PySem.boot_len (pa_cons (pv 0) pa_nil)) (pe_glob (v := .int 100000) rfl mS ⟨_, rfl⟩) (nomark _)) pss_never pss_nil)), ?_⟩
  refine ⟨_, rfl, _, _, _, _, true, rfl, .ty "str", .base (.str _), kit_ty (by decide +kernel), true, rfl, iteF ?_⟩
  refine ⟨_, rfl, z, rfl, hz', _, _, rfl, rfl, _, rfl, ?_⟩
  refine ite2 (fun c => ?_) (fun c => ?_)
  · have q : ((z.length : Nat) : Int) > 100000 := of_decide_eq_true c
    omega
  · exact k H (Same.refl H)

/-- run_end -/
def spRunEnd : Sp := fun vs H Q _ => ∃ (z sg : Str) (n : Nat) (p : Nat → Bool), vs = [.str z, .int n, .str sg] ∧ z.length ≤ 100000 ∧ n ≤ z.length ∧ (∀ c, decide (c ∈ tl sg) = p c) ∧
  ∀ H', Same H H' → Q (.int ((n + (((tl z).drop n).takeWhile p).length : Nat) : Int)) H'
theorem scRunEnd : FnScope ["text", "at", "signs"] ["text", "at", "signs"] (defScope sRunEnd) := ⟨rfl, rfl, rfl, by decide +kernel, rfl, by decide +kernel, by decide +kernel⟩
theorem ok_runEnd {f : Addr} {fd : FuncData} (F : Fun K "run_end" "run_end" sRunEnd f fd) (T : Txt K mg) : FnOk P w K mg base CX0 1 f fd ["text", "at", "signs"] spRunEnd := by
  refine F.ok scRunEnd (fun vs H Q E h => ?_) (fun cdv A outer s0 H vs Q E hr h => ?_)
  · obtain ⟨z, sg, n, p, rfl, _⟩ := h
    rfl
  obtain ⟨z, sg, n, p, rfl, hz, hn, hp, k⟩ := h
  have hz' : z.length ≤ sizeLine := Nat.le_trans hz (by decide)
  refine ⟨_, pss_cons (ps_while PassesOwn.never
      (PW.pt (pw_and (pt_cmpR op_lt (pv 1) (pe_callB call_len_str (by rfl) T.len PySem.boot_len (pa_cons (pv 0) pa_nil)) (nomark _)) (pw_and1 (pt_cmpR op_in_sign (pe_ix ix_str (pv 0) (pv 1) (fun _ _ => rfl)) (pv 2) (by rfl)))))
      (pss_one (ps_aug (i := 1) scRunEnd.nd rfl (Or.inl rfl) pe_int ip_add)))
    (pss_one (ps_ret (pv 1))), ?_⟩
  refine while_by (fun σ H' => ∃ m : Nat, σ = [some (.str z), some (.int m), some (.str sg)] ∧ m ≤ z.length ∧ Same H H' ∧ n + (((tl z).drop n).takeWhile p).length = m + (((tl z).drop m).takeWhile p).length)
    (fun σ _ => match σ with | [_, some (.int m), _] => z.length - m.toNat | _ => 0) ⟨n, rfl, hn, Same.refl H, rfl⟩ ?_ ?_
  · rintro σ H' ⟨m, rfl, hm, sm, e⟩
    refine ⟨_, rfl, _, rfl, z, rfl, hz', _, _, rfl, rfl, _, rfl, ?_⟩
    refine ite2 (fun c => ?_) (fun c => ?_)
    · have hlt : m < z.length := by
        have q : ((m : Nat) : Int) < ((z.length : Nat) : Int) := of_decide_eq_true c
        omega
      obtain ⟨ch, rr, hd⟩ : ∃ ch rr, (tl z).drop m = ch :: rr := ⟨_, _, List.drop_eq_getElem_cons (by rw [← len_tl]; exact hlt)⟩
      have hd1 : (tl z).drop (m + 1) = rr := by
        rw [← List.drop_drop, hd] <;> rfl
      refine ⟨_, rfl, _, rfl, z, _, ch, rfl, rfl, hz', (sign_at hd).1, _, rfl, ch, sg, rfl, rfl, _, rfl, ?_⟩
      rw [hp ch]
      refine ite2 (fun c1 => ?_) (fun c1 => ?_)
      · refine ⟨_, rfl, _, _, rfl, rfl, ?_⟩
        refine ⟨⟨m + 1, rfl, by omega, sm, ?_⟩, ?_⟩
        · rw [e, hd, hd1, List.takeWhile_cons, if_pos c1, List.length_cons]
          omega
        · show z.length - ((m : Int) + 1).toNat < z.length - (m : Int).toNat
          omega
      · refine ⟨_, rfl, ?_⟩
        have q := k H' sm
        rw [e, hd, List.takeWhile_cons, if_neg c1] at q
        exact q
    · have hlt : ¬ m < z.length := by
        have q : ¬ ((m : Nat) : Int) < ((z.length : Nat) : Int) := of_decide_eq_false (Bool.eq_false_iff.mpr c)
        omega
      refine iteF ?_
      refine ⟨_, rfl, ?_⟩
      have q := k H' sm
      rw [e, List.drop_eq_nil_of_le (by rw [← len_tl]; omega)] at q
      exact q
  · intro σ H' Q1 Q2 hq h
    obtain ⟨v1, e1, v0, e0, z1, e2, hz1, i1, j1, ei, ej, k1, ek, h⟩ := h
    refine ⟨v1, e1, v0, e0, z1, e2, hz1, i1, j1, ei, ej, k1, ek, ?_⟩
    by_cases hk : k1 = true
    · rw [if_pos hk] at h
      rw [if_pos hk]
      obtain ⟨v2, e3, v3, e4, z2, i2, c2, e5, e6, hz2, e7, v4, e8, c3, z3, e9, e10, k2, e11, h⟩ := h
      exact ⟨v2, e3, v3, e4, z2, i2, c2, e5, e6, hz2, e7, v4, e8, c3, z3, e9, e10, k2, e11, hq _ _ h⟩
    · rw [if_neg hk] at h
      rw [if_neg hk]
      exact hq _ _ h
end
end K0

namespace K0
open PySem L2 TL
theorem one_zero (c : Nat) : decide (V.str ⟨#[c]⟩ = V.str "0") = (c == 48) := by
  rw [Bool.eq_iff_iff, decide_eq_true_iff, beq_iff_eq]
  have e0 : ("0" : Str) = ⟨#[48]⟩ := by decide +kernel
  constructor
  · intro h
    have h1 := V.str.inj h
    rw [e0] at h1
    have h2 : tl (⟨#[c]⟩ : Str) = tl (⟨#[48]⟩ : Str) := by rw [h1]
    exact (List.cons.inj h2).1
  · intro h
    subst h
    rw [e0]
theorem in_strs (w : Str) : ∀ l : List Str, inV (.str w) (l.map V.str) = decide (w ∈ l)
  | [] => by simp [inV]
  | a :: l => by
    have ih := in_strs w l
    unfold inV at ih ⊢
    rw [List.map_cons, List.any_cons, ih]
    have e : eqV (.str a) (.str w) = decide (a = w) := by
      show (a == w) = _
      rw [Bool.eq_iff_iff]
      simp
    rw [e, Bool.eq_iff_iff]
    simp only [Bool.or_eq_true, decide_eq_true_eq, List.mem_cons]
    constructor
    · rintro (h | h)
      · exact Or.inl h.symm
      · exact Or.inr h
    · rintro (h | h)
      · exact Or.inl h.symm
      · exact Or.inr h
theorem flat_strs (l : List Str) : (l.map V.str).all flatV = true := by
  rw [List.all_eq_true]
  intro x hx
  obtain ⟨s, _, rfl⟩ := List.mem_map.mp hx
  rfl
theorem cut_tl {z : Str} {n m : Nat} (h1 : n ≤ z.length) : tl (cutS z (some (n : Int)) (some (m : Int))) = ((tl z).drop n).take (m - n) := by
  unfold cutS
  rw [tl_mk, HT.sIx_nat, HT.sIx_nat, Nat.min_eq_left h1]
  by_cases h : m ≤ z.length
  · rw [Nat.min_eq_left h]
  · rw [Nat.min_eq_right (by omega)]
    rw [List.take_of_length_le (i := m - n), List.take_of_length_le]
    · rw [List.length_drop, ← len_tl]; omega
    · rw [List.length_drop, ← len_tl]; omega
theorem take_while (p : Nat → Bool) : ∀ l : List Nat, l.take (l.takeWhile p).length = l.takeWhile p
  | [] => rfl
  | c :: l => by
    rw [List.takeWhile_cons]
    by_cases h : p c = true
    · rw [if_pos h, List.length_cons, List.take_succ_cons, take_while p l]
    · rw [if_neg h]; rfl
theorem cut_run {z : Str} {n : Nat} (p : Nat → Bool) (h1 : n ≤ z.length) : cutS z (some (n : Int)) (some ((n + (((tl z).drop n).takeWhile p).length : Nat) : Int)) = ⟨(((tl z).drop n).takeWhile p).toArray⟩ := by
  apply ext_tl
  rw [cut_tl h1, tl_mk, Nat.add_sub_cancel_left, take_while]
section
variable {P : Program} {w : World} {K : PySem.W.Frag} {mg : Str → Option Value} {base : Heap}
/-! ### is_number, kind_of -/
def isNum (z : Str) : Bool := match tl z with
  | [] => false
  | c :: _ => if c == 48 then decide (z = "0") else decide ((tl z).length ≤ 6)
def spIsNum : Sp := fun vs H Q _ => ∃ z : Str, vs = [.str z] ∧ tl z ≠ [] ∧ z.length ≤ 100000 ∧ Q (.bl (isNum z)) H
theorem scIsNum : FnScope ["figures"] ["figures"] (defScope sIsNum) := ⟨rfl, rfl, rfl, by decide +kernel, rfl, by decide +kernel, by decide +kernel⟩
theorem ok_isNum {f : Addr} {fd : FuncData} (F : Fun K "is_number" "is_number" sIsNum f fd) (T : Txt K mg) : FnOk P w K mg base CX0 1 f fd ["figures"] spIsNum := by
  refine F.ok scIsNum (fun vs H Q E h => ?_) (fun cdv A outer s0 H vs Q E hr h => ?_)
  · obtain ⟨z, rfl, _⟩ := h
    rfl
  obtain ⟨z, rfl, hn, hz, k⟩ := h
  obtain ⟨t, mF⟩ := T.mFigs
  have hz' : z.length ≤ sizeLine := Nat.le_trans hz (by decide)
  cases e : tl z with
  | nil => exact absurd e hn
  | cons c r =>
    have hd : (tl z).drop 0 = c :: r := e
    refine ⟨_, pss_cons (ps_if (pt_cmpR op_eq (pe_ix ix_str (pv 0) pe_int (fun _ _ => rfl)) pe_str (nomark _)) (pss_one (ps_ret (pe_cmpR op_eq (pv 0) pe_str (nomark _)))) pss_nil)
      (pss_one (ps_ret (pe_cmpR op_le (pe_callB call_len_str (by rfl) T.len PySem.boot_len (pa_cons (pv 0) pa_nil)) (pe_glob (v := .int 6) rfl mF ⟨_, rfl⟩) (nomark _)))), ?_⟩
    refine ⟨_, rfl, z, _, c, rfl, rfl, hz', (sign_at hd).1, rfl, _, rfl, ?_⟩
    rw [one_zero]
    refine ite2 (fun c1 => ?_) (fun c1 => ?_)
    · refine ⟨_, rfl, rfl, ?_⟩
      have e2 : isNum z = decide (V.str z = V.str "0") := by
        unfold isNum
        rw [e]
        show (if (c == 48) = true then _ else _) = _
        rw [if_pos c1, Bool.eq_iff_iff, decide_eq_true_iff, decide_eq_true_iff]
        exact ⟨fun q => by rw [q], fun q => V.str.inj q⟩
      show Q (.bl (decide (V.str z = V.str "0"))) H
      rw [← e2]
      exact k
    · refine ⟨_, rfl, z, rfl, hz', _, _, rfl, rfl, ?_⟩
      have e2 : isNum z = decide (((z.length : Nat) : Int) ≤ 6) := by
        unfold isNum
        rw [e]
        show (if (c == 48) = true then _ else _) = _
        rw [if_neg c1, ← e, ← len_tl, Bool.eq_iff_iff, decide_eq_true_iff, decide_eq_true_iff]
        omega
      show Q (.bl (decide (((z.length : Nat) : Int) ≤ 6))) H
      rw [← e2]
      exact k
theorem kind_eq {w : Str} {c : Nat} {r : List Nat} (e : tl w = c :: r) : kind w =
    if w ∈ kws then some ("key" : Str) else if w ∈ mks then some ("mark" : Str) else if (isLet c && decide (w.length ≤ 12)) = true then some ("name" : Str) else if (isFig c && isNum w) = true then some ("number" : Str) else none := by
  unfold kind isNum
  rw [len_tl]
  simp only [e]
def spKind : Sp := fun vs H Q _ => ∃ (z k : Str), vs = [.str z] ∧ tl z ≠ [] ∧ z.length ≤ 100000 ∧ kind z = some k ∧ Q (.str k) H
theorem scKind : FnScope ["word"] ["word"] (defScope sKind) := ⟨rfl, rfl, rfl, by decide +kernel, rfl, by decide +kernel, by decide +kernel⟩
theorem ok_kind {f fN : Addr} {fd fdN : FuncData} (F : Fun K "kind_of" "kind_of" sKind f fd) (T : Txt K mg) (GN : FnOk P w K mg base CX0 1 fN fdN ["figures"] spIsNum) (mN : mg "is_number" = some (.ref fN)) (kN : PySem.W.keepIn K (.ref fN) = true) (bN : Binds K fdN ["figures"] []) :
    FnOk P w K mg base CX0 2 f fd ["word"] spKind := by
  refine F.ok scKind (fun vs H Q E h => ?_) (fun cdv A outer s0 H vs Q E hr h => ?_)
  · obtain ⟨z, _, rfl, _⟩ := h
    rfl
  obtain ⟨z, kk, rfl, hn, hz, hk, k⟩ := h
  obtain ⟨aK, mK, sK⟩ := T.keys
  obtain ⟨aM, mM, sM⟩ := T.marks
  obtain ⟨t1, mF⟩ := T.figs
  obtain ⟨t2, mL⟩ := T.lets
  obtain ⟨t3, mX⟩ := T.mLets
  have hz' : z.length ≤ sizeLine := Nat.le_trans hz (by decide)
  cases e : tl z with
  | nil => exact absurd e hn
  | cons c r =>
    have hd : (tl z).drop 0 = c :: r := e
    rw [kind_eq e] at hk
    refine ⟨_, pss_cons (ps_if (pt_cmpR op_in_seq (pv 0) (pe_glob (v := .ref aK) rfl mK rfl) (by rfl)) (pss_one (ps_ret pe_str)) pss_nil)
      (pss_cons (ps_if (pt_cmpR op_in_seq (pv 0) (pe_glob (v := .ref aM) rfl mM rfl) (by rfl)) (pss_one (ps_ret pe_str)) pss_nil)
      (pss_cons (ps_if (PW.pt (pw_and (pt_cmpR op_in_sign (pe_ix ix_str (pv 0) pe_int (fun _ _ => rfl)) (pe_glob (v := .str letS) rfl mL ⟨_, rfl⟩) (by rfl))
          (pw_and1 (pt_cmpR op_le (pe_callB call_len_str (by rfl) T.len PySem.boot_len (pa_cons (pv 0) pa_nil)) (pe_glob (v := .int 12) rfl mX ⟨_, rfl⟩) (nomark _))))) (pss_one (ps_ret pe_str)) pss_nil)
      (pss_cons (ps_if (PW.pt (pw_and (pt_cmpR op_in_sign (pe_ix ix_str (pv 0) pe_int (fun _ _ => rfl)) (pe_glob (v := .str figS) rfl mF ⟨_, rfl⟩) (by rfl))
          (pw_and1 (pt_val (pe_call GN hr rfl mN kN bN .nil pass0 (pa_cons (pv 0) pa_nil)))))) (pss_one (ps_ret pe_str)) pss_nil)
      (pss_one (ps_ret pe_non))))), ?_⟩
    refine ⟨_, rfl, aK, _, rfl, .inr (sK _), rfl, flat_strs _, _, rfl, ?_⟩
    show if inV (.str z) (kws.map V.str) = true then _ else _
    rw [in_strs]
    refine ite2 (fun c1 => ?_) (fun c1 => ?_)
    · rw [if_pos (of_decide_eq_true c1)] at hk
      cases hk
      exact k
    rw [if_neg (fun q => c1 (decide_eq_true q))] at hk
    refine ⟨_, rfl, aM, _, rfl, .inr (sM _), rfl, flat_strs _, _, rfl, ?_⟩
    show if inV (.str z) (mks.map V.str) = true then _ else _
    rw [in_strs]
    refine ite2 (fun c2 => ?_) (fun c2 => ?_)
    · rw [if_pos (of_decide_eq_true c2)] at hk
      cases hk
      exact k
    rw [if_neg (fun q => c2 (decide_eq_true q))] at hk
    refine ⟨_, rfl, z, _, c, rfl, rfl, hz', (sign_at hd).1, c, letS, rfl, rfl, _, rfl, ?_⟩
    rw [show decide (c ∈ letS.cps.toList) = isLet c from in_let c]
    refine ite2 (fun c3 => ?_) (fun c3 => ?_)
    · refine ⟨_, rfl, z, rfl, hz', _, _, rfl, rfl, _, rfl, ?_⟩
      rw [c3, Bool.true_and] at hk
      refine ite2 (fun c4 => ?_) (fun c4 => ?_)
      · have q : ((z.length : Nat) : Int) ≤ 12 := of_decide_eq_true c4
        rw [if_pos (decide_eq_true (by omega))] at hk
        cases hk
        exact k
      · have q : ¬ ((z.length : Nat) : Int) ≤ 12 := of_decide_eq_false (Bool.eq_false_iff.mpr c4)
        rw [if_neg (fun q2 => q (by have := of_decide_eq_true q2; omega))] at hk
        refine ⟨_, rfl, z, _, c, rfl, rfl, hz', (sign_at hd).1, c, figS, rfl, rfl, _, rfl, ?_⟩
        rw [show decide (c ∈ figS.cps.toList) = isFig c from in_fig c]
        refine ite2 (fun c4 => ?_) (fun c4 => ?_)
        · refine ⟨_, rfl, z, rfl, hn, hz, _, rfl, ?_⟩
          rw [c4, Bool.true_and] at hk
          refine ite2 (fun c5 => ?_) (fun c5 => ?_)
          · rw [if_pos c5] at hk
            cases hk
            exact k
          · rw [if_neg c5] at hk
            cases hk
        · rw [Bool.eq_false_iff.mpr c4, Bool.false_and] at hk
          cases hk
    · refine iteF ?_
      rw [Bool.eq_false_iff.mpr c3, Bool.false_and, if_neg Bool.false_ne_true] at hk
      refine ⟨_, rfl, z, _, c, rfl, rfl, hz', (sign_at hd).1, c, figS, rfl, rfl, _, rfl, ?_⟩
      rw [show decide (c ∈ figS.cps.toList) = isFig c from in_fig c]
      refine ite2 (fun c4 => ?_) (fun c4 => ?_)
      · refine ⟨_, rfl, z, rfl, hn, hz, _, rfl, ?_⟩
        rw [c4, Bool.true_and] at hk
        refine ite2 (fun c5 => ?_) (fun c5 => ?_)
        · rw [if_pos c5] at hk
          cases hk
          exact k
        · rw [if_neg c5] at hk
          cases hk
      · rw [Bool.eq_false_iff.mpr c4, Bool.false_and] at hk
        cases hk
end
end K0

namespace K0
open PySem L2 TL
theorem mem_mks {z : Str} : decide (z ∈ mks) = inM (tl z) := by
  rw [Bool.eq_iff_iff, decide_eq_true_iff, inM_iff]
  constructor
  · intro h; exact ⟨z, h, rfl⟩
  · rintro ⟨m, hm, e⟩
    rw [← ext_tl e]
    exact hm
def sigS (l : List Nat) : Str := ⟨(sigs l).toArray⟩
section
variable {P : Program} {w : World} {K : PySem.W.Frag} {mg : Str → Option Value} {base : Heap}
def spSigns : Sp := fun vs H Q _ => ∃ (z : Str) (n c : Nat) (r : List Nat), vs = [.str z, .int n] ∧ z.length ≤ 100000 ∧ (tl z).drop n = c :: r ∧ ∀ H', Same H H' → Q (.str (sigS (c :: r))) H'
theorem scSigns : FnScope ["text", "at", "signs"] ["text", "at"] (defScope sSigns) := ⟨rfl, rfl, rfl, by decide +kernel, rfl, by decide +kernel, by decide +kernel⟩
theorem ok_signs {f fR : Addr} {fd fdR : FuncData} (F : Fun K "signs_at" "signs_at" sSigns f fd) (T : Txt K mg) (GR : FnOk P w K mg base CX0 1 fR fdR ["text", "at", "signs"] spRunEnd) (mR : mg "run_end" = some (.ref fR)) (kR : PySem.W.keepIn K (.ref fR) = true) (bR : Binds K fdR ["text", "at", "signs"] []) :
    FnOk P w K mg base CX0 2 f fd ["text", "at"] spSigns := by
  refine F.ok scSigns (fun vs H Q E h => ?_) (fun cdv A outer s0 H vs Q E hr h => ?_)
  · obtain ⟨z, n, c, r, rfl, _⟩ := h
    rfl
  obtain ⟨z, n, c, r, rfl, hz, hd, k⟩ := h
  obtain ⟨aM, mM, sM⟩ := T.marks
  obtain ⟨t1, mF⟩ := T.figs
  obtain ⟨t2, mL⟩ := T.lets
  have hz' : z.length ≤ sizeLine := Nat.le_trans hz (by decide)
  have hc := (sign_at hd).1
  have hn := (sign_at hd).2
  refine ⟨_, pss_cons (ps_for PassesOwn.never rfl (pi_tup (pe_tup (pa_cons (pe_glob (v := .str figS) rfl mF ⟨_, rfl⟩) (pa_cons (pe_glob (v := .str letS) rfl mL ⟨_, rfl⟩) pa_nil)))) (pg_name (i := 2) scSigns.nd rfl (Or.inl rfl))
      (pss_one (ps_if (pt_cmpR op_in_sign (pe_ix ix_str (pv 0) (pv 1) (fun _ _ => rfl)) (pv 2) (by rfl))
        (pss_one (ps_ret (pe_slice sl_str (pv 0) (po_some (pv 1)) (po_some (pe_call GR hr rfl mR kR bR .nil pass0 (pa_cons (pv 0) (pa_cons (pv 1) (pa_cons (pv 2) pa_nil)))))))) pss_nil)))
    (pss_cons (ps_if (pt_cmpR op_in_seq (pe_slice sl_str (pv 0) (po_some (pv 1)) (po_some (pe_op op_add (pv 1) pe_int))) (pe_glob (v := .ref aM) rfl mM rfl) (by rfl))
      (pss_one (ps_ret (pe_slice sl_str (pv 0) (po_some (pv 1)) (po_some (pe_op op_add (pv 1) pe_int))))) pss_nil)
    (pss_one (ps_ret (pe_ix ix_str (pv 0) (pv 1) (fun _ _ => rfl))))), ?_⟩
  refine ⟨(by show 2 ≤ sizeLine; decide), fun p hp => ?_⟩
  have s1 : Same H (upd H p (.tup [.str figS, .str letS])) := fun b o q => by rw [upd_ne (ne_of_none q hp)]; exact q
  refine ⟨p, rfl, ⟨_, SqT.of upd_same⟩, for_tup (K := K) (a := p) (xs := [.str figS, .str letS]) (fun i σ H' => H' = upd H p (.tup [.str figS, .str letS]) ∧ (∃ v, σ = [some (.str z), some (.int n), v]) ∧ (1 ≤ i → isFig c = false) ∧ (2 ≤ i → isLet c = false))
    ⟨rfl, ⟨none, rfl⟩, fun q => absurd q (by decide), fun q => absurd q (by decide)⟩ (fun i σ H' _ ⟨e, _⟩ => by rw [e]; exact SqT.of upd_same) ?_ ?_⟩
  · rintro i x σ H' hi ⟨rfl, ⟨v, rfl⟩, h1, h2⟩
    obtain ⟨sg, pp, rfl, hpp, hsig, hnext⟩ : ∃ (sg : Str) (pp : Nat → Bool), x = .str sg ∧ (∀ c, decide (c ∈ tl sg) = pp c) ∧ (pp c = true → sigs (c :: r) = (c :: r).takeWhile pp) ∧ (pp c = false → (1 ≤ i + 1 → isFig c = false) ∧ (2 ≤ i + 1 → isLet c = false)) := by
      match i, hi with
      | 0, hi =>
        have e := Option.some.inj hi
        refine ⟨figS, isFig, e.symm, in_fig, fun q => ?_, fun q => ⟨fun _ => q, fun q2 => absurd q2 (by decide)⟩⟩
        show (if isFig c = true then _ else _) = _
        rw [if_pos q]
      | 1, hi =>
        have e := Option.some.inj hi
        refine ⟨letS, isLet, e.symm, in_let, fun q => ?_, fun q => ⟨fun _ => h1 (by decide), fun _ => q⟩⟩
        show (if isFig c = true then _ else if isLet c = true then _ else _) = _
        rw [if_neg (by rw [h1 (by decide)]; exact Bool.false_ne_true), if_pos q]
      | j + 2, hi => cases hi
    refine ⟨_, rfl, _, rfl, z, _, c, rfl, rfl, hz', hc, _, rfl, c, sg, rfl, rfl, _, rfl, ?_⟩
    rw [show decide (c ∈ sg.cps.toList) = pp c from hpp c]
    refine ite2 (fun c1 => ?_) (fun c1 => ?_)
    · refine ⟨_, rfl, _, rfl, n, rfl, _, rfl, _, rfl, _, rfl, z, sg, n, pp, rfl, hz, Nat.le_of_lt hn, hpp, fun H2 s2 => ⟨_, rfl, z, rfl, hz', ?_⟩⟩
      have q := k H2 (s1.trans s2)
      have e : cutS z (some (n : Int)) (some ((n + (((tl z).drop n).takeWhile pp).length : Nat) : Int)) = sigS (c :: r) := by
        rw [cut_run pp (Nat.le_of_lt hn), hd, ← hsig c1]
        rfl
      rw [e]
      exact q
    · exact ⟨rfl, ⟨_, rfl⟩, (hnext (Bool.eq_false_iff.mpr c1)).1, (hnext (Bool.eq_false_iff.mpr c1)).2⟩
  · rintro σ H' ⟨rfl, ⟨v, rfl⟩, h1, h2⟩
    have hF := h1 (by decide)
    have hL := h2 (by decide)
    have e2 : tl (cutS z (some (n : Int)) (some ((n : Int) + 2))) = (c :: r).take 2 := by
      have q := cut_tl (z := z) (n := n) (m := n + 2) (Nat.le_of_lt hn)
      rw [Nat.add_sub_cancel_left, hd] at q
      exact q
    have es : sigs (c :: r) = if inM ((c :: r).take 2) = true then (c :: r).take 2 else [c] := by
      show (if isFig c = true then _ else if isLet c = true then _ else _) = _
      rw [if_neg (by rw [hF]; exact Bool.false_ne_true), if_neg (by rw [hL]; exact Bool.false_ne_true)]
    refine ⟨_, rfl, _, rfl, n, rfl, _, rfl, _, _, rfl, rfl, _, rfl, z, rfl, hz', aM, _, rfl, .inr (sM _), rfl, flat_strs _, _, rfl, ?_⟩
    show if inV (.str (cutS z (some (n : Int)) (some ((n : Int) + 2)))) (mks.map V.str) = true then _ else _
    rw [in_strs, mem_mks, e2]
    refine ite2 (fun c1 => ?_) (fun c1 => ?_)
    · refine ⟨_, rfl, _, rfl, n, rfl, _, rfl, _, _, rfl, rfl, _, rfl, z, rfl, hz', ?_⟩
      have q := k _ s1
      have e3 : sigS (c :: r) = cutS z (some (n : Int)) (some ((n : Int) + 2)) := by
        apply ext_tl
        rw [e2]
        show sigs (c :: r) = _
        rw [es, if_pos c1]
      rw [e3] at q
      exact q
    · refine ⟨_, rfl, _, rfl, z, _, c, rfl, rfl, hz', hc, ?_⟩
      have q := k _ s1
      have e3 : sigS (c :: r) = ⟨#[c]⟩ := by
        apply ext_tl
        show sigs (c :: r) = [c]
        rw [es, if_neg c1]
      rw [e3] at q
      exact q

def spWordAt : Sp := fun vs H Q _ => ∃ (z ww kk : Str) (n c : Nat) (r : List Nat), vs = [.str z, .int n] ∧ z.length ≤ 100000 ∧ (tl z).drop n = c :: r ∧ sigs (c :: r) = tl ww ∧ tl ww ≠ [] ∧ ww.length ≤ 100000 ∧ kind ww = some kk ∧
  ∀ H' t, Same H H' → H' t = some (.tup [.str kk, .str ww]) → Q (.ref t) H'
theorem scWordAt : FnScope ["text", "at", "word", "kind"] ["text", "at"] (defScope sWordAt) := ⟨rfl, rfl, rfl, by decide +kernel, rfl, by decide +kernel, by decide +kernel⟩
theorem ok_wordAt {f fS fK : Addr} {fd fdS fdK : FuncData} (F : Fun K "word_at" "word_at" sWordAt f fd) (T : Txt K mg) (GS : FnOk P w K mg base CX0 2 fS fdS ["text", "at"] spSigns) (mS : mg "signs_at" = some (.ref fS)) (kS : PySem.W.keepIn K (.ref fS) = true) (bS : Binds K fdS ["text", "at"] [])
    (GK : FnOk P w K mg base CX0 2 fK fdK ["word"] spKind) (mK : mg "kind_of" = some (.ref fK)) (kK : PySem.W.keepIn K (.ref fK) = true) (bK : Binds K fdK ["word"] []) :
    FnOk P w K mg base CX0 3 f fd ["text", "at"] spWordAt := by
  refine F.ok scWordAt (fun vs H Q E h => ?_) (fun cdv A outer s0 H vs Q E hr h => ?_)
  · obtain ⟨z, ww, kk, n, c, r, rfl, _⟩ := h
    rfl
  obtain ⟨z, ww, kk, n, c, r, rfl, hz, hd, hs, hw, hwl, hk, k⟩ := h
  refine ⟨_, pss_cons (ps_set (i := 2) scWordAt.nd rfl (Or.inl rfl) (pe_call GS hr rfl mS kS bS .nil pass0 (pa_cons (pv 0) (pa_cons (pv 1) pa_nil))))
    (pss_cons (ps_set (i := 3) scWordAt.nd rfl (Or.inl rfl) (pe_call GK hr rfl mK kK bK .nil pass0 (pa_cons (pv 2) pa_nil)))
    (pss_cons (ps_if (pt_cmp (pc_isN (pv 3))) pss_never pss_nil)
    (pss_one (ps_ret (pe_tup (pa_cons (pv 3) (pa_cons (pv 2) pa_nil))))))), ?_⟩
  have e : sigS (c :: r) = ww := by
    apply ext_tl
    exact hs
  refine ⟨_, rfl, _, rfl, z, n, c, r, rfl, hz, hd, fun H1 s1 => ?_⟩
  rw [e]
  refine ⟨_, rfl, ww, kk, rfl, hw, hwl, hk, ?_⟩
  refine ⟨_, rfl, _, rfl, iteF ?_⟩
  refine ⟨_, rfl, _, rfl, (by show 2 ≤ sizeLine; decide), fun t ht => ?_⟩
  exact k _ t (s1.trans fun b o q => by rw [upd_ne (ne_of_none q ht)]; exact q) upd_same

def spWords : Sp := fun vs H Q _ => ∃ (z : Str) (ws : List (Str × Str)), vs = [.str z] ∧ z.length ≤ 100000 ∧ Toks (tl z) ws ∧
  ∀ (H' : Hp) (p : Addr) (vs : List V), Same H H' → H' p = some (.lst vs) → Tups H' vs ws → Q (.ref p) H'
theorem scWords : FnScope ["text", "found", "at", "kind", "word"] ["text"] (defScope sWords) := ⟨rfl, rfl, rfl, by decide +kernel, rfl, by decide +kernel, by decide +kernel⟩
theorem ok_words {f fC fA : Addr} {fd fdC fdA : FuncData} (F : Fun K "words" "words" sWords f fd) (T : Txt K mg) (GC : FnOk P w K mg base CX0 1 fC fdC ["value"] spCheck) (mC : mg "check_text" = some (.ref fC)) (kC : PySem.W.keepIn K (.ref fC) = true) (bC : Binds K fdC ["value"] [])
    (GA : FnOk P w K mg base CX0 3 fA fdA ["text", "at"] spWordAt) (mA : mg "word_at" = some (.ref fA)) (kA : PySem.W.keepIn K (.ref fA) = true) (bA : Binds K fdA ["text", "at"] []) :
    FnOk P w K mg base CX0 4 f fd ["text"] spWords := by
  refine F.ok scWords (fun vs H Q E h => ?_) (fun cdv A outer s0 H vs Q E hr h => ?_)
  · obtain ⟨z, ws, rfl, _⟩ := h
    rfl
  obtain ⟨z, ws, rfl, hz, hT, k⟩ := h
  obtain ⟨tB, mB⟩ := T.blanks
  have hz' : z.length ≤ sizeLine := Nat.le_trans hz (by decide)
  have hr1 : Room 1 _ := hr.mono (by decide)
  refine ⟨_, pss_cons (ps_expr (pe_call GC hr1 rfl mC kC bC .nil pass0 (pa_cons (pv 0) pa_nil)))
    (pss_cons (ps_set (i := 1) scWords.nd rfl (Or.inl rfl) (pe_lst pa_nil))
    (pss_cons (ps_set (i := 2) scWords.nd rfl (Or.inl rfl) pe_int)
    (pss_cons (ps_while PassesOwn.never (pt_cmpR op_lt (pv 2) (pe_callB call_len_str (by rfl) T.len PySem.boot_len (pa_cons (pv 0) pa_nil)) (nomark _))
      (pss_one (ps_if (pt_cmpR op_in_sign (pe_ix ix_str (pv 0) (pv 2) (fun _ _ => rfl)) (pe_glob (v := .str " \n") rfl mB ⟨_, rfl⟩) (by rfl))
        (pss_one (ps_aug (i := 2) scWords.nd rfl (Or.inl rfl) pe_int ip_add))
        (pss_cons (ps_asg (pe_call GA hr rfl mA kA bA .nil pass0 (pa_cons (pv 0) (pa_cons (pv 2) pa_nil))) (pg_tup rfl (pgs_cons (pg_name (i := 3) scWords.nd rfl (Or.inl rfl)) (pgs_cons (pg_name (i := 4) scWords.nd rfl (Or.inl rfl)) pgs_nil))))
        (pss_cons (ps_expr (pe_bm PySem.F.plainAttrs_list PySem.F.slot_list_append PySem.F.type_list_append mt_append (pv 1) (pa_cons (pe_tup (pa_cons (pv 3) (pa_cons (pv 4) pa_nil))) pa_nil)))
        (pss_one (ps_aug (i := 2) scWords.nd rfl (Or.inl rfl) (pe_callB call_len_str (by rfl) T.len PySem.boot_len (pa_cons (pv 4) pa_nil)) ip_add)))))))
    (pss_one (ps_ret (pv 1)))))), ?_⟩
  refine ⟨_, rfl, z, rfl, hz, fun H1 s1 => ?_⟩
  refine ⟨Nat.zero_le _, fun p hp => ?_⟩
  refine while_by (fun σ H' => ∃ (n : Nat) (v3 v4 : Option V) (vs : List V) (done rest : List (Str × Str)), σ = [some (.str z), some (.ref p), some (.int n), v3, v4] ∧ n ≤ z.length ∧ Same H1 H' ∧ H' p = some (.lst vs) ∧ Tups H' vs done ∧ ws = done ++ rest ∧ Toks ((tl z).drop n) rest ∧ vs.length ≤ n)
    (fun σ _ => match σ with | [_, _, some (.int m), _, _] => z.length - m.toNat | _ => 0)
    ⟨0, none, none, [], [], ws, rfl, Nat.zero_le _, (fun b o q => by rw [upd_ne (ne_of_none q hp)]; exact q), upd_same, .nil, rfl, hT, Nat.le_refl _⟩ ?_ ?_
  · rintro σ H' ⟨n, v3, v4, vs, done, rest, rfl, hn, s2, hvs, tT, ew, hR, hlen⟩
    refine ⟨_, rfl, _, rfl, z, rfl, hz', _, _, rfl, rfl, _, rfl, ?_⟩
    refine ite2 (fun c => ?_) (fun c => ?_)
    · have hlt : n < z.length := by
        have q : ((n : Nat) : Int) < ((z.length : Nat) : Int) := of_decide_eq_true c
        omega
      obtain ⟨ch, rr, hd⟩ : ∃ ch rr, (tl z).drop n = ch :: rr := ⟨_, _, List.drop_eq_getElem_cons (by rw [← len_tl]; exact hlt)⟩
      rw [hd] at hR
      refine ⟨_, rfl, _, rfl, z, _, ch, rfl, rfl, hz', (sign_at hd).1, ch, _, rfl, rfl, _, rfl, ?_⟩
      rw [show decide (ch ∈ (" \n" : Str).cps.toList) = isBl ch from in_bl ch]
      refine ite2 (fun c1 => ?_) (fun c1 => ?_)
      · refine ⟨_, rfl, _, _, rfl, rfl, ?_⟩
        have hd1 : (tl z).drop (n + 1) = rr := by rw [← List.drop_drop, hd] <;> rfl
        refine ⟨⟨n + 1, v3, v4, vs, done, rest, rfl, by omega, s2, hvs, tT, ew, ?_, by omega⟩, ?_⟩
        · rw [hd1]
          exact toks_blank c1 hR
        · show z.length - ((n : Int) + 1).toNat < z.length - (n : Int).toNat
          omega
      · obtain ⟨ww, kk, cs, us, e1, hw, hsg, hk, erest, hcs⟩ := toks_word (Bool.eq_false_iff.mpr c1) hR
        have hl1 : (tl z).length = n + ((tl ww).length + cs.length) := by
          have q : ((tl z).drop n).length = (tl ww).length + cs.length := by rw [hd, e1, List.length_append]
          rw [List.length_drop] at q
          rw [len_tl] at hlt
          omega
        have hwl : n + ww.length ≤ z.length := by
          rw [len_tl z, len_tl ww]
          omega
        have hwp : 1 ≤ ww.length := by
          rw [len_tl]
          cases e : tl ww with
          | nil => exact absurd e hw
          | cons a b => rw [List.length_cons]; omega
        refine ⟨_, rfl, _, rfl, z, ww, kk, n, ch, rr, rfl, hz, hd, hsg, hw, by omega, hk, fun H3 t s3 ht => ?_⟩
        refine ⟨t, _, rfl, SqT.of ht, rfl, _, _, rfl, _, _, rfl, rfl, ?_⟩
        have hvs3 := s3 _ _ hvs
        have tT3 : Tups H3 vs done := tT.mono fun t k w q => s3 _ _ q
        refine ⟨_, rfl, .inl ⟨rfl, _, SqL.of hvs3⟩, _, rfl, _, rfl, (by show 2 ≤ sizeLine; decide), fun t2 ht2 => ?_⟩
        have npt : p ≠ t2 := ne_of_none hvs3 ht2
        refine ⟨p, vs, _, rfl, rfl, by rw [upd_ne npt]; exact hvs3, Nat.lt_of_le_of_lt (by omega : vs.length ≤ 100000) (by decide), ?_⟩
        refine ⟨_, rfl, _, rfl, ww, rfl, Nat.le_trans (by omega : ww.length ≤ 100000) (by decide), _, _, rfl, rfl, ?_⟩
        have keep : ∀ b o, H3 b = some o → b ≠ p → (upd (upd H3 t2 (.tup [.str kk, .str ww])) p (.lst (vs ++ [.ref t2]))) b = some o := fun b o q nb => by
          rw [upd_ne nb, upd_ne (ne_of_none q ht2)]
          exact q
        refine ⟨⟨n + ww.length, _, _, vs ++ [.ref t2], done ++ [(kk, ww)], us, rfl, hwl, fun b o q => keep b o (s3 _ _ (s2 _ _ q)) (ne_of_none q hp), upd_same, ?_, ?_, ?_, ?_⟩, ?_⟩
        · refine Tups.snoc ⟨t2, rfl, ?_⟩ (tT3.mono fun t k w q => keep t _ q (ne_of q hvs3 (by intro z; cases z)))
          rw [upd_ne npt.symm, upd_same]
        · rw [ew, erest, List.append_assoc]
          rfl
        · have q : (tl z).drop (n + ww.length) = cs := by
            rw [← List.drop_drop, hd, e1, len_tl, List.drop_left]
          rw [q]
          exact hcs
        · rw [List.length_append, List.length_singleton]
          omega
        · show z.length - ((n : Int) + (ww.length : Int)).toNat < z.length - (n : Int).toNat
          omega
    · have hlt : ¬ n < z.length := by
        have q : ¬ ((n : Nat) : Int) < ((z.length : Nat) : Int) := of_decide_eq_false (Bool.eq_false_iff.mpr c)
        omega
      rw [List.drop_eq_nil_of_le (by rw [← len_tl]; omega)] at hR
      have er := toks_nil hR
      rw [er, List.append_nil] at ew
      rw [← ew] at tT
      exact ⟨_, rfl, k H' p vs (s1.trans s2) hvs tT⟩
  · intro σ H' Q1 Q2 hq h
    obtain ⟨v1, e1, v0, e0, z1, e2, hz1, i1, j1, ei, ej, k1, ek, h⟩ := h
    exact ⟨v1, e1, v0, e0, z1, e2, hz1, i1, j1, ei, ej, k1, ek, hq _ _ h⟩
end
end K0

namespace K0
open PySem L2 TL
theorem same_new {H : Hp} {p : Addr} (h : H p = none) (o : HO) : Same H (upd H p o) := fun b u q => by rw [upd_ne (ne_of_none q h)]; exact q
def us2 : List Value := [.type "tuple", .type "list"]
theorem kit_str {K : PySem.W.Frag} : PySem.W.kitAny K (.type "str") us2 = some false :=
  kitAny_cons (b := false) (kit_ty (by decide +kernel)) (fun _ => kitAny_cons (b := false) (kit_ty (by decide +kernel)) (fun _ => kitAny_nil) (fun q => by cases q)) (fun q => by cases q)
theorem kit_list {K : PySem.W.Frag} : PySem.W.kitAny K (.type "list") us2 = some true :=
  kitAny_cons (b := false) (kit_ty (by decide +kernel)) (fun _ => kitAny_cons (b := true) (kit_ty (by decide +kernel)) (fun q => by cases q) (fun _ => rfl)) (fun q => by cases q)
theorem kit_tup {K : PySem.W.Frag} : PySem.W.kitAny K (.type "tuple") us2 = some true :=
  kitAny_cons (b := true) (kit_ty (by decide +kernel)) (fun q => by cases q) (fun _ => rfl)
theorem cls2 : Paired ClsV [.ty "tuple", .ty "list"] us2 := .cons (.ty _) (.cons (.ty _) .nil)
/-- a list or a tuple -/
def box (C : Bool) (xs : List V) : HO := if C then .tup xs else .lst xs
def boxT (C : Bool) : String := if C then "tuple" else "list"
theorem box_ty {K : PySem.W.Frag} {H : Hp} {a : Addr} {xs : List V} : ∀ {C : Bool}, H a = some (box C xs) → TyX K H (.ref a) (.type (boxT C))
  | true, h => .base (.tup h)
  | false, h => .base (.lst h)
theorem box_kit {K : PySem.W.Frag} : ∀ {C : Bool}, PySem.W.kitAny K (.type (boxT C)) us2 = some true
  | true => kit_tup
  | false => kit_list
theorem box_isl {K : PySem.W.Frag} : ∀ {C : Bool}, PySem.W.kitOne K (.type (boxT C)) (.type "list") = some (!C)
  | true => kit_ty (by decide +kernel)
  | false => kit_ty (by decide +kernel)
theorem box_seq {K : PySem.W.Frag} {H : Hp} {a : Addr} {xs : List V} : ∀ {C : Bool}, H a = some (box C xs) → SqL K H a xs ∨ SqT K H a xs
  | true, h => .inr (SqT.of h)
  | false, h => .inl (SqL.of h)
section
variable {P : Program} {w : World} {K : PySem.W.Frag} {mg : Str → Option Value} {base : Heap}
theorem scAlike : FnScope ["found", "due", "k"] ["found", "due"] (defScope sAlike) := ⟨rfl, rfl, rfl, by decide +kernel, rfl, by decide +kernel, by decide +kernel⟩
def spAlS : Sp := fun vs H Q _ => ∃ z : Str, vs = [.str z, .str z] ∧ ∀ H', Same H H' → Q (.bl true) H'
theorem ok_alS {f : Addr} {fd : FuncData} (F : Fun K "_law_alike" "_law_alike" sAlike f fd) (T : Txt K mg) : FnOk P w K mg base CX0 1 f fd ["found", "due"] spAlS := by
  refine F.ok scAlike (fun vs H Q E h => ?_) (fun cdv A outer s0 H vs Q E hr h => ?_)
  · obtain ⟨z, rfl, _⟩ := h
    rfl
  obtain ⟨z, rfl, k⟩ := h
  refine ⟨_, pss_cons (ps_if (pt_val (pe_callB call_isiT (by rfl) T.isi (by decide +kernel) (pa_cons (pv 1) (pa_cons (pe_tup (pa_cons (pe_bltn (v := .ty "tuple") (by rfl) T.tup_ (by decide +kernel) rfl) (pa_cons (pe_bltn (v := .ty "list") (by rfl) T.list_ (by decide +kernel) rfl) pa_nil))) pa_nil)))) pss_never pss_nil)
    (pss_cons (ps_if (PW.pt (pw_or (pt_cmp (pc_isN (pv 1))) (pw_or1 (pt_val (pe_callB call_isi (by rfl) T.isi (by decide +kernel) (pa_cons (pv 1) (pa_cons (pe_bltn (v := .ty "str") (by rfl) T.str_ (by decide +kernel) rfl) pa_nil)))))))
      (pss_one (ps_ret (pe_and (pe_cmpR op_eq (pv 0) (pv 1) (nomark _)) (pe_one (pe_cmpR op_eq
        (pe_callB call_isi (by rfl) T.isi (by decide +kernel) (pa_cons (pv 0) (pa_cons (pe_bltn (v := .ty "str") (by rfl) T.str_ (by decide +kernel) rfl) pa_nil)))
        (pe_callB call_isi (by rfl) T.isi (by decide +kernel) (pa_cons (pv 1) (pa_cons (pe_bltn (v := .ty "str") (by rfl) T.str_ (by decide +kernel) rfl) pa_nil))) (nomark _)))))) pss_nil)
    pss_never), ?_⟩
  refine ⟨_, rfl, (by show 2 ≤ sizeLine; decide), fun tp htp => ⟨_, tp, _, _, us2, false, rfl, upd_same, cls2, .base (.str _), kit_str, false, rfl, iteF ?_⟩⟩
  refine ⟨_, rfl, _, rfl, iteF ?_⟩
  refine ⟨_, rfl, _, _, _, _, true, rfl, .ty "str", .base (.str _), kit_ty (by decide +kernel), true, rfl, iteT ?_⟩
  refine ⟨_, rfl, _, rfl, rfl, _, rfl, ?_⟩
  rw [decide_eq_true rfl]
  refine iteT ?_
  refine ⟨_, rfl, _, _, _, _, true, rfl, .ty "str", .base (.str _), kit_ty (by decide +kernel), _, rfl, _, _, _, _, true, rfl, .ty "str", .base (.str _), kit_ty (by decide +kernel), rfl, ?_⟩
  exact k _ (same_new htp _)

/-- two lists, or two tuples, whose items are alike -/
def spAl (C : Bool) (el : Hp → V → V → Prop) : Sp := fun vs H Q _ => ∃ (p q : Addr) (xs ys : List V), vs = [.ref p, .ref q] ∧ H p = some (box C xs) ∧ H q = some (box C ys) ∧ xs.length = ys.length ∧ ys.length ≤ 1000 ∧
  (∀ (i : Nat) (x y : V), xs[i]? = some x → ys[i]? = some y → el H x y) ∧ ∀ H', Same H H' → Q (.bl true) H'
theorem ok_al {k : Nat} {C : Bool} {el : Hp → V → V → Prop} {spI : Sp} (hel : ∀ H H' x y, Same H H' → el H x y → el H' x y) (hsp : ∀ H x y (Q : VK), el H x y → (∀ H', Same H H' → Q (.bl true) H') → spI [x, y] H Q E0)
    {f : Addr} {fd : FuncData} (F : Fun K "_law_alike" "_law_alike" sAlike f fd) (T : Txt K mg) (GI : FnOk P w K mg base CX0 k f fd ["found", "due"] spI) (mI : mg "_law_alike" = some (.ref f)) (bI : Binds K fd ["found", "due"] []) :
    FnOk P w K mg base CX0 (k + 1) f fd ["found", "due"] (spAl C el) := by
  refine F.ok scAlike (fun vs H Q E h => ?_) (fun cdv A outer s0 H vs Q E hr h => ?_)
  · obtain ⟨p, q, xs, ys, rfl, _⟩ := h
    rfl
  obtain ⟨p, q, xs, ys, rfl, hp, hq, hl, h1000, he, k⟩ := h
  refine ⟨_, pss_cons (ps_if (pt_val (pe_callB call_isiT (by rfl) T.isi (by decide +kernel) (pa_cons (pv 1) (pa_cons (pe_tup (pa_cons (pe_bltn (v := .ty "tuple") (by rfl) T.tup_ (by decide +kernel) rfl) (pa_cons (pe_bltn (v := .ty "list") (by rfl) T.list_ (by decide +kernel) rfl) pa_nil))) pa_nil))))
      (pss_cons (ps_if (PW.pt (pw_or (pt_not (pt_val (pe_callB call_isiT (by rfl) T.isi (by decide +kernel) (pa_cons (pv 0) (pa_cons (pe_tup (pa_cons (pe_bltn (v := .ty "tuple") (by rfl) T.tup_ (by decide +kernel) rfl) (pa_cons (pe_bltn (v := .ty "list") (by rfl) T.list_ (by decide +kernel) rfl) pa_nil))) pa_nil)))))
          (pw_or1 (pt_cmpR op_ne (pe_callB call_isi (by rfl) T.isi (by decide +kernel) (pa_cons (pv 0) (pa_cons (pe_bltn (v := .ty "list") (by rfl) T.list_ (by decide +kernel) rfl) pa_nil)))
            (pe_callB call_isi (by rfl) T.isi (by decide +kernel) (pa_cons (pv 1) (pa_cons (pe_bltn (v := .ty "list") (by rfl) T.list_ (by decide +kernel) rfl) pa_nil))) (nomark _))))) pss_never pss_nil)
      (pss_cons (ps_if (pt_cmpR op_ne (pe_callB call_len_seq (by rfl) T.len PySem.boot_len (pa_cons (pv 0) pa_nil)) (pe_callB call_len_seq (by rfl) T.len PySem.boot_len (pa_cons (pv 1) pa_nil)) (nomark _)) pss_never pss_nil)
      (pss_one (ps_ret (pe_cmpR (op_eqD hr.units) (pe_lc (own := [("k", 2)]) (g := gName 2) rfl scAlike.nd (pi_range1 rfl T.range (pa_cons (pe_callB call_len_seq (by rfl) T.len PySem.boot_len (pa_cons (pv 1) pa_nil)) pa_nil))
          (blkOk_by (own := [("k", 2)]) (N := ["found", "due", "k"]) (sc := defScope sAlike) (by decide +kernel)) (fun _ _ _ _ _ => pg_name (i := 2) scAlike.nd rfl (Or.inl rfl))
          (fun _ _ _ _ _ => pts_one (pt_not (pt_val (pe_call GI hr rfl mI F.kp bI .nil pass0 (pa_cons (pe_ix (r := rIx K) ix_seq (pv 0) (pv 2) (fun _ _ => rfl)) (pa_cons (pe_ix (r := rIx K) ix_seq (pv 1) (pv 2) (fun _ _ => rfl)) pa_nil))))))
          (fun _ _ _ _ _ => pv 2)) (pe_lst pa_nil) (nomark _)))))) pss_nil)
    pss_never, ?_⟩
  refine ⟨_, rfl, (by show 2 ≤ sizeLine; decide), fun tp htp => ⟨_, tp, _, _, us2, true, rfl, upd_same, cls2, box_ty (same_new htp _ _ _ hq), box_kit, true, rfl, iteT ?_⟩⟩
  have s1 := same_new htp (.tup [.ty "tuple", .ty "list"])
  refine ⟨_, rfl, (by show 2 ≤ sizeLine; decide), fun tp2 htp2 => ?_⟩
  have s2 := s1.trans (same_new htp2 (.tup [.ty "tuple", .ty "list"]))
  refine ⟨_, tp2, _, _, us2, true, rfl, upd_same, cls2, box_ty (s2 _ _ hp), box_kit, true, rfl, iteF ?_⟩
  generalize upd (upd H tp (.tup [.ty "tuple", .ty "list"])) tp2 (.tup [.ty "tuple", .ty "list"]) = H2 at s2 ⊢
  refine ⟨_, rfl, _, _, _, _, !C, rfl, .ty "list", box_ty (s2 _ _ hp), box_isl, _, rfl, _, _, _, _, !C, rfl, .ty "list", box_ty (s2 _ _ hq), box_isl, rfl, _, rfl, iteNS rfl ?_⟩
  refine ⟨_, rfl, p, xs, rfl, box_seq (s2 _ _ hp), _, rfl, q, ys, rfl, box_seq (s2 _ _ hq), rfl, _, rfl, iteNS (by rw [hl]) ?_⟩
  refine ⟨_, rfl, q, ys, rfl, box_seq (s2 _ _ hq), _, rfl, by omega, by omega, fun D hD => ?_⟩
  have s3 := s2.trans (same_new hD (.lst []))
  refine lc_range (lo := 0) (n := ((ys.length : Nat) : Int).toNat) (fun _ H' => H' D = some (.lst []) ∧ Same H H') ⟨upd_same, s3⟩ ?_ ?_
  · rintro i H' hi ⟨hD', s4⟩
    have hi' : i < ys.length := by omega
    have ei : (0 : Int) + (i : Int) = ((i : Nat) : Int) := by omega
    obtain ⟨x, hx⟩ : ∃ x, xs[i]? = some x := ⟨_, List.getElem?_eq_getElem (by omega)⟩
    obtain ⟨y, hy⟩ : ∃ y, ys[i]? = some y := ⟨_, List.getElem?_eq_getElem hi'⟩
    have ax : atI xs (0 + (i : Int)) = some x := by rw [ei]; exact atI_nat hx
    have ay : atI ys (0 + (i : Int)) = some y := by rw [ei]; exact atI_nat hy
    have ix : ∀ {a : Addr} {zs : List V} {v : V} (Q2 : VK), H a = some (box C zs) → atI zs (0 + (i : Int)) = some v → Q2 v H' → rIx K (.ref a) (.int (0 + (i : Int))) H' Q2 := fun {a zs v} Q2 h1 h2 h3 => by
      rcases box_seq (K := K) (s4 _ _ h1) with h | h
      · exact .inl ⟨a, zs, _, v, rfl, rfl, h, h2, h3⟩
      · exact .inr (.inl ⟨a, zs, _, v, rfl, rfl, h, h2, h3⟩)
    refine ⟨rfl, ?_⟩
    refine ⟨_, rfl, _, rfl, ix _ hp ax ?_⟩
    refine ⟨_, rfl, _, rfl, ix _ hq ay ?_⟩
    refine hsp _ _ _ _ (hel _ _ _ _ s4 (he i x y hx hy)) fun H5 s5 => ⟨true, rfl, iteF ?_⟩
    exact ⟨s5 _ _ hD', s4.trans s5⟩
  · rintro H' ⟨hD', s4⟩
    refine ⟨Nat.zero_le _, fun l hl' => ⟨.list [], .list [], .lst (SqL.of (same_new hl' _ _ _ hD')) .nil, .lst (SqL.of upd_same) .nil, rfl, rfl, ?_⟩⟩
    show Q (.bl true) _
    exact k _ (s4.trans (same_new hl' _))
end
end K0

namespace K0
open PySem L2 TL
def lawN : List Str := ["script", "row", "keys", "marks", "found", "text", "last", "step", "kind", "word", "close", "at"]
def el1 : Hp → V → V → Prop := fun _ x y => ∃ z : Str, x = .str z ∧ y = .str z
def el2 : Hp → V → V → Prop := fun H x y => ∃ k w : Str, Tup2 H x k w ∧ Tup2 H y k w
structure Good (B : Hp) (s r kk mm ff : Addr) (us : List V) (ws : List (Str × Str)) (H : Hp) : Prop where
  row : RowAt H r s
  same : Same B H
  hk : H kk = some (.lst (kws.map V.str))
  hm : H mm = some (.lst (mks.map V.str))
  hf : H ff = some (.lst us)
  tu : Tups H us ws
  nk : kk ≠ r
  nm : mm ≠ r
  nf : ff ≠ r
  nkf : kk ≠ ff
  nmf : mm ≠ ff
  br : B r = none
  bf : B ff = none
theorem RowAt.is {H : Hp} {r s : Addr} (h : RowAt H r s) : ∃ xs, H r = some (.lst xs) := by
  obtain ⟨i, a, b, h, _⟩ := h
  exact ⟨_, h⟩
theorem RowAt.new {H : Hp} {r s p : Addr} (h : RowAt H r s) (hp : H p = none) (o : HO) : RowAt (upd H p o) r s := by
  obtain ⟨i, a, b, h, h2⟩ := h
  exact ⟨i, a, b, by rw [upd_ne (ne_of_none h hp)]; exact h, h2⟩
theorem RowAt.ne {H : Hp} {r s p : Addr} (h : RowAt H r s) (hp : H p = none) : p ≠ r := by
  obtain ⟨xs, h⟩ := h.is
  exact (ne_of_none h hp).symm
section
variable {B : Hp} {s r kk mm ff : Addr} {us : List V} {ws : List (Str × Str)} {H H' : Hp}
theorem Good.scr {K : PySem.W.Frag} {ns : List Int} (g : Good B s r kk mm ff us ws H) (hS : SqL K B s (ns.map V.int)) (h63 : ns.length ≤ 63) : Scr K H r s :=
  ⟨ns, h63, fun H' kp => Same.seq (fun b o q => kp b o (ne_of_none q g.br) (g.same b o q)) hS⟩
theorem Good.keep (g : Good B s r kk mm ff us ws H) (k : Keep r H H') (h : RowAt H' r s) : Good B s r kk mm ff us ws H' := by
  obtain ⟨xs, hr⟩ := g.row.is
  exact ⟨h, fun b o q => k b o (ne_of_none q g.br) (g.same b o q), k _ _ g.nk g.hk, k _ _ g.nm g.hm, k _ _ g.nf g.hf, g.tu.mono fun t _ _ q => k _ _ (ne_of q hr (by intro z; cases z)) q, g.nk, g.nm, g.nf, g.nkf, g.nmf, g.br, g.bf⟩
theorem Good.new (g : Good B s r kk mm ff us ws H) {p : Addr} (hp : H p = none) (o : HO) : Good B s r kk mm ff us ws (upd H p o) := g.keep (Keep.new hp o) (g.row.new hp o)
/-- a list of one's own, at D, is changed -/
theorem Good.at (g : Good B s r kk mm ff us ws H) {D : Addr} {xs : List V} (hD : H D = some (.lst xs)) (nr : r ≠ D) (nk : kk ≠ D) (nm : mm ≠ D) (nf : ff ≠ D) (bD : B D = none) (o : HO) : Good B s r kk mm ff us ws (upd H D o) := by
  obtain ⟨i, a, b, hr, h2⟩ := g.row
  exact ⟨⟨i, a, b, by rw [upd_ne nr]; exact hr, h2⟩, fun b o q => by rw [upd_ne (ne_of_none q bD)]; exact g.same b o q, by rw [upd_ne nk]; exact g.hk, by rw [upd_ne nm]; exact g.hm, by rw [upd_ne nf]; exact g.hf,
    g.tu.mono fun t _ _ q => by rw [upd_ne (ne_of q hD (by intro z; cases z))]; exact q, g.nk, g.nm, g.nf, g.nkf, g.nmf, g.br, g.bf⟩
/-- a pair is added to the words found -/
theorem Good.push (g : Good B s r kk mm ff us ws H) {t : Addr} (ht : H t = none) (k w : Str) : Good B s r kk mm ff (us ++ [.ref t]) (ws ++ [(k, w)]) (upd (upd H t (.tup [.str k, .str w])) ff (.lst (us ++ [.ref t]))) := by
  have g' := g.new ht (.tup [.str k, .str w])
  obtain ⟨i, a, b, hr, h2⟩ := g'.row
  have ntf : t ≠ ff := (ne_of_none g.hf ht).symm
  refine ⟨⟨i, a, b, by rw [upd_ne g.nf.symm]; exact hr, h2⟩, fun b o q => by rw [upd_ne (ne_of_none q g.bf)]; exact g'.same b o q, by rw [upd_ne g.nkf]; exact g'.hk, by rw [upd_ne g.nmf]; exact g'.hm, upd_same, ?_, g.nk, g.nm, g.nf, g.nkf, g.nmf, g.br, g.bf⟩
  refine Tups.snoc ⟨t, rfl, by rw [upd_ne ntf, upd_same]⟩ (g'.tu.mono fun t' _ _ q => ?_)
  rw [upd_ne (ne_of q g'.hf (by intro z; cases z))]
  exact q
end
theorem Keep.same {r : Addr} {B H : Hp} (h : B r = none) (k : Keep r B H) : Same B H := fun b o q => k b o (ne_of_none q h) q
theorem int_mem {v : V} {u : Int} (h0 : 0 ≤ u) (h1 : u < 1000000) (h : v ∈ ([.int 0, .int 7, .int 10, .int 999999, .int u] : List V)) : ∃ m : Nat, v = .int ((m : Nat) : Int) ∧ m < 1000000 := by
  simp only [List.mem_cons, List.not_mem_nil, or_false] at h
  rcases h with h | h | h | h | h
  · exact ⟨0, h, by decide⟩
  · exact ⟨7, h, by decide⟩
  · exact ⟨10, h, by decide⟩
  · exact ⟨999999, h, by decide⟩
  · exact ⟨u.toNat, by rw [h]; congr 1; omega, by omega⟩
theorem log_small {m : Nat} (h : m < 1000000) : (((m : Nat) : Int)).natAbs.log2 < 1920 := by
  rw [Int.natAbs_natCast]
  by_cases h0 : m = 0
  · subst h0; decide
  · have q : m.log2 < 20 := (Nat.log2_lt h0).mpr (by omega)
    omega
theorem tups_el {H : Hp} : ∀ {xs ys : List V} {ws : List (Str × Str)}, Tups H xs ws → Tups H ys ws → ∀ (i : Nat) (x y : V), xs[i]? = some x → ys[i]? = some y → el2 H x y
  | _, _, _, .nil, .nil, i, x, y, h, _ => by simp at h
  | _, _, _, .cons a r, .cons b q, 0, x, y, h1, h2 => by
    have e1 := Option.some.inj h1
    have e2 := Option.some.inj h2
    subst e1 e2
    exact ⟨_, _, a, b⟩
  | _, _, _, .cons a r, .cons b q, i + 1, x, y, h1, h2 => tups_el r q i x y h1 h2
/-- the slots within a turn -/
def sg (s r kk mm ff : Addr) (T last : Str) (v7 v8 v9 v10 : Option V) : St := [some (.ref s), some (.ref r), some (.ref kk), some (.ref mm), some (.ref ff), some (.str T), some (.str last), v7, v8, v9, v10, none]
def kinds : List Str := ["key", "mark", "name", "number"]
theorem strs_mem {v : V} {l : List Str} (h : v ∈ l.map V.str) : ∃ k, v = .str k ∧ k ∈ l := by
  obtain ⟨k, hk, e⟩ := List.mem_map.mp h
  exact ⟨k, e.symm, hk⟩
theorem dec_str (a b : Str) : decide (V.str a = V.str b) = decide (a = b) := by
  rw [Bool.eq_iff_iff, decide_eq_true_iff, decide_eq_true_iff]
  exact ⟨fun q => V.str.inj q, fun q => by rw [q]⟩
/-- signs, joined -/
theorem joinL_ones : ∀ cs : List Nat, joinL [] (cs.map fun c => [c]) = cs
  | [] => rfl
  | [_] => rfl
  | c :: d :: r => by
    have ih := joinL_ones (d :: r)
    show [c] ++ ([] ++ joinL [] ((d :: r).map fun c => [c])) = _
    rw [ih]
    rfl
theorem join_ones (cs : List Nat) : tl (Txt.join "" (cs.map fun c => (⟨#[c]⟩ : Str))) = cs := by
  rw [join_eq, tl_join, List.map_map]
  have e : tl ("" : Str) = [] := by decide +kernel
  rw [e]
  exact joinL_ones cs
theorem ones_sum : ∀ cs : List Nat, ((cs.map fun c => (⟨#[c]⟩ : Str)).map (·.length)).sum = cs.length
  | [] => rfl
  | c :: r => by
    have ih := ones_sum r
    show 1 + ((r.map fun c => (⟨#[c]⟩ : Str)).map (·.length)).sum = r.length + 1
    omega
theorem sums (a b : Str) : (a ++ b).length = a.length + b.length := by rw [len_tl, tl_append, List.length_append, ← len_tl, ← len_tl]
theorem abc_let : ∀ c ∈ tl ("abcxyz" : Str), isLet c = true := by decide +kernel
theorem kws_len : ∀ w ∈ kws, w.length ≤ 12 := by decide +kernel
theorem mks_len : ∀ w ∈ mks, w.length ≤ 12 := by decide +kernel
theorem kinds_ne : ¬ (("key" : Str) = "name") ∧ ¬ (("mark" : Str) = "name") ∧ ¬ (("number" : Str) = "name") ∧ ¬ (("mark" : Str) = "key") ∧ ¬ (("name" : Str) = "key") ∧ ¬ (("number" : Str) = "key") ∧ ¬ (("key" : Str) = "number") ∧ ¬ (("mark" : Str) = "number") ∧ ¬ (("name" : Str) = "number") := by decide +kernel
def spLaw (K : PySem.W.Frag) : Sp := fun vs H Q _ => ∃ (a : Addr) (ns : List Int), vs = [.ref a] ∧ SqL K H a (ns.map V.int) ∧ ns.length ≤ 63 ∧ ∀ H', Q (.bl true) H'
section
variable {P : Program} {w : World} {K : PySem.W.Frag} {mg : Str → Option Value} {base : Heap}
theorem scLaw : FnScope lawN ["script"] (defScope sLaw) := ⟨rfl, rfl, rfl, by decide +kernel, rfl, by decide +kernel, by decide +kernel⟩
theorem ok_law {f fT fP fA fW : Addr} {fd fdT fdP fdA fdW : FuncData} (F : Fun K "law" "law" sLaw f fd) (T : Txt K mg)
    (GT : FnOk P w K mg base CX0 1 fT fdT ["row", "many"] (spTaken K)) (mT : mg "_law_taken" = some (.ref fT)) (kT : PySem.W.keepIn K (.ref fT) = true) (bT : Binds K fdT ["row", "many"] [])
    (GP : FnOk P w K mg base CX0 2 fP fdP ["row", "things"] (spPick K)) (mP : mg "_law_pick" = some (.ref fP)) (kP : PySem.W.keepIn K (.ref fP) = true) (bP : Binds K fdP ["row", "things"] [])
    (GA : FnOk P w K mg base CX0 3 fA fdA ["found", "due"] (spAl false el2)) (mA : mg "_law_alike" = some (.ref fA)) (kA : PySem.W.keepIn K (.ref fA) = true) (bA : Binds K fdA ["found", "due"] [])
    (GW : FnOk P w K mg base CX0 4 fW fdW ["text"] spWords) (mW : mg "words" = some (.ref fW)) (kW : PySem.W.keepIn K (.ref fW) = true) (bW : Binds K fdW ["text"] []) :
    FnOk P w K mg base CX0 5 f fd ["script"] (spLaw K) := by
  refine F.ok scLaw (fun vs H Q E h => ?_) (fun cdv A outer s0 H vs Q E hr h => ?_)
  · obtain ⟨a, ns, rfl, _⟩ := h
    rfl
  obtain ⟨a, ns, rfl, hS, h63, k⟩ := h
  have hrT : Room 1 _ := hr.mono (by decide)
  have hrP : Room 2 _ := hr.mono (by decide)
  have hrA : Room 3 _ := hr.mono (by decide)
  refine ⟨_, pss_cons (ps_set (i := 1) scLaw.nd rfl (Or.inr rfl) (pe_lst (pa_cons (pv 0) (pa_cons pe_int (pa_cons pe_int (pa_cons pe_int pa_nil))))))
    (pss_cons (ps_set (i := 2) scLaw.nd rfl (Or.inl rfl) (pe_lst (pa_cons pe_str (pa_cons pe_str (pa_cons pe_str (pa_cons pe_str (pa_cons pe_str (pa_cons pe_str (pa_cons pe_str (pa_cons pe_str (pa_cons pe_str (pa_cons pe_str (pa_cons pe_str (pa_cons pe_str (pa_cons pe_str (pa_cons pe_str (pa_cons pe_str (pa_cons pe_str (pa_cons pe_str (pa_cons pe_str (pa_cons pe_str pa_nil)))))))))))))))))))))
    (pss_cons (ps_set (i := 3) scLaw.nd rfl (Or.inl rfl) (pe_lst (pa_cons pe_str (pa_cons pe_str (pa_cons pe_str (pa_cons pe_str (pa_cons pe_str (pa_cons pe_str (pa_cons pe_str (pa_cons pe_str (pa_cons pe_str (pa_cons pe_str (pa_cons pe_str (pa_cons pe_str (pa_cons pe_str pa_nil)))))))))))))))
    (pss_cons (ps_par3 (i := 4) (j := 5) (l := 6) rfl scLaw.nd rfl rfl rfl (by decide) (by decide) (by decide) rfl rfl rfl (pa_cons (pe_lst pa_nil) (pa_cons (pe_call GP hrP rfl mP kP bP .nil pass0 (pa_cons (pv 1) (pa_cons (pe_lst (pa_cons pe_str (pa_cons pe_str (pa_cons pe_str pa_nil)))) pa_nil))) (pa_cons pe_str pa_nil))) (by rfl))
    (pss_cons (ps_for PassesOwn.never rfl (pi_range1 rfl T.range (pa_cons (pe_call GT hrT rfl mT kT bT .nil pass0 (pa_cons (pv 1) (pa_cons pe_int pa_nil))) pa_nil)) (pg_name (i := 7) scLaw.nd rfl (Or.inl rfl))
      (pss_cons (ps_set (i := 8) scLaw.nd rfl (Or.inl rfl) (pe_call GP hrP rfl mP kP bP .nil pass0 (pa_cons (pv 1) (pa_cons (pe_lst (pa_cons pe_str (pa_cons pe_str (pa_cons pe_str (pa_cons pe_str pa_nil))))) pa_nil))))
      (C8.pss_cut (ps_set (i := 9) scLaw.nd rfl (Or.inl rfl) (pe_call GP hrP rfl mP kP bP .nil pass0 (pa_cons (pv 1) (pa_cons (pe_ifExp (pt_cmpR op_eq (pv 8) pe_str (nomark _)) (pv 2) (pv 3)) pa_nil))))
      (C8.pss_cut (ps_if (pt_cmpR op_eq (pv 8) pe_str (nomark _)) (pss_cons (ps_set (i := 9) scLaw.nd rfl (Or.inl rfl) (pe_join pe_str (pe_lc (own := [("at", 11)]) (g := gName 11) rfl scLaw.nd (pi_range1 rfl T.range (pa_cons (pe_op op_add pe_int (pe_call GT hrT rfl mT kT bT .nil pass0 (pa_cons (pv 1) (pa_cons pe_int pa_nil)))) pa_nil)) (blkOk_by (own := [("at", 11)]) (N := lawN) (sc := defScope sLaw) (by decide +kernel)) (fun _ _ _ _ _ => pg_name (i := 11) scLaw.nd rfl (Or.inl rfl)) (fun _ _ _ _ _ => pts_nil) (fun _ _ _ _ _ => (pe_call GP hrP rfl mP kP bP .nil pass0 (pa_cons (pv 1) (pa_cons pe_str pa_nil))))))) (pss_one (ps_set (i := 8) scLaw.nd rfl (Or.inl rfl) (pe_ifExp (pt_cmpR op_in_seq (pv 9) (pv 2) (by rfl)) pe_str pe_str)))) pss_nil)
      (C8.pss_cut (ps_if (pt_cmpR op_eq (pv 8) pe_str (nomark _)) (pss_one (ps_set (i := 9) scLaw.nd rfl (Or.inl rfl) (pe_callTy call_str_int (by rfl) T.str_ (by decide +kernel) (pa_cons (pe_call GP hrP rfl mP kP bP .nil pass0 (pa_cons (pv 1) (pa_cons (pe_lst (pa_cons pe_int (pa_cons pe_int (pa_cons pe_int (pa_cons pe_int (pa_cons (pe_call GT hrT rfl mT kT bT .nil pass0 (pa_cons (pv 1) (pa_cons (pe_op op_pow pe_int pe_int) pa_nil))) pa_nil)))))) pa_nil))) pa_nil)))) pss_nil)
      (C8.pss_cut (ps_set (i := 10) scLaw.nd rfl (Or.inl rfl) (pe_or (pe_and (pe_cmpR op_eq (pv 6) pe_str (nomark _)) (pe_one (pe_cmpR op_eq (pv 8) pe_str (nomark _)))) (pe_one (pe_and (pe_cmpR op_ne (pv 6) pe_str (nomark _)) (pe_one (pe_cmpR op_ne (pv 8) pe_str (nomark _)))))))
      (C8.pss_cut (ps_set (i := 5) scLaw.nd rfl (Or.inl rfl) (pe_op op_add_str (pe_op op_add_str (pv 5) (pe_ifExp (pt_val (pv 10)) (pe_call GP hrP rfl mP kP bP .nil pass0 (pa_cons (pv 1) (pa_cons (pe_lst (pa_cons pe_str (pa_cons pe_str (pa_cons pe_str pa_nil)))) pa_nil))) (pe_call GP hrP rfl mP kP bP .nil pass0 (pa_cons (pv 1) (pa_cons (pe_lst (pa_cons pe_str (pa_cons pe_str (pa_cons pe_str (pa_cons pe_str pa_nil))))) pa_nil))))) (pv 9)))
      (pss_cons (ps_expr (pe_bm PySem.F.plainAttrs_list PySem.F.slot_list_append PySem.F.type_list_append mt_append (pv 4) (pa_cons (pe_tup (pa_cons (pv 8) (pa_cons (pv 9) pa_nil))) pa_nil)))
      (pss_one (ps_set (i := 6) scLaw.nd rfl (Or.inl rfl) (pv 8)))))))))))
    (pss_one (ps_ret (pe_and (pe_call GA hrA rfl mA kA bA .nil pass0 (pa_cons (pe_call GW hr rfl mW kW bW .nil pass0 (pa_cons (pv 5) pa_nil)) (pa_cons (pv 4) pa_nil))) (pe_one (pe_call GA hrA rfl mA kA bA .nil pass0 (pa_cons (pe_call GW hr rfl mW kW bW .nil pass0 (pa_cons (pe_op op_add_str (pv 5) pe_str) pa_nil)) (pa_cons (pv 4) pa_nil))))))))))), ?_⟩
  -- row, keys, marks
  refine ⟨_, rfl, (by show 4 ≤ sizeLine; decide), fun r nr => ?_⟩
  have row1 : RowAt (upd H r (.lst [.ref a, .int 0, .int 5500, .int 0])) r a := ⟨0, 5500, 0, upd_same, by decide, by decide, by decide⟩
  have same1 : Same H (upd H r (.lst [.ref a, .int 0, .int 5500, .int 0])) := same_new nr _
  generalize upd H r (.lst [.ref a, .int 0, .int 5500, .int 0]) = H1 at row1 same1 ⊢
  refine ⟨(by show 19 ≤ sizeLine; decide), fun kk nk => ?_⟩
  refine ⟨(by show 13 ≤ sizeLine; decide), fun mm nm => ?_⟩
  refine ⟨(by show 0 ≤ sizeLine; decide), fun ff nf => ?_⟩
  have hk2 : (upd H1 kk (.lst (kws.map V.str))) kk = some (.lst (kws.map V.str)) := upd_same
  have nkm := ne_of_none hk2 nm
  have hk3 : (upd (upd H1 kk (.lst (kws.map V.str))) mm (.lst (mks.map V.str))) kk = some (.lst (kws.map V.str)) := by rw [upd_ne nkm]; exact hk2
  have hm3 : (upd (upd H1 kk (.lst (kws.map V.str))) mm (.lst (mks.map V.str))) mm = some (.lst (mks.map V.str)) := upd_same
  have row2 := row1.new nk (.lst (kws.map V.str))
  have row3 := row2.new nm (.lst (mks.map V.str))
  have same3 := (same1.trans (same_new nk (.lst (kws.map V.str)))).trans (same_new nm (.lst (mks.map V.str)))
  have g4 : Good H a r kk mm ff [] [] (upd (upd (upd H1 kk (.lst (kws.map V.str))) mm (.lst (mks.map V.str))) ff (.lst [])) :=
    ⟨row3.new nf _, same3.trans (same_new nf _), by rw [upd_ne (ne_of_none hk3 nf)]; exact hk3, by rw [upd_ne (ne_of_none hm3 nf)]; exact hm3, upd_same, .nil, row1.ne nk, row2.ne nm, row3.ne nf, ne_of_none hk3 nf, ne_of_none hm3 nf, nr, same3.free nf⟩
  -- found, text, last = [], _law_pick(row, ['', ' ', '\n']), ''
  refine ⟨_, rfl, (by show 3 ≤ sizeLine; decide), fun p np => ?_⟩
  have g5 := g4.new np (.lst [.str "", .str " ", .str "\n"])
  refine ⟨r, a, _, rfl, g5.row, g5.scr hS h63, .inl ⟨p, _, rfl, g4.row.ne np, upd_same, (by show 1 ≤ 3; decide), (by show 3 ≤ 1000; decide), fun H6 v kp6 hR6 hv => ?_⟩⟩
  have g6 := g5.keep kp6 hR6
  obtain ⟨T0, rfl, hT0⟩ := strs_mem (l := ["", " ", "\n"]) hv
  have hT0' : (tl T0).all isBl = true ∧ T0.length ≤ 1 := (by decide +kernel : ∀ k ∈ (["", " ", "\n"] : List Str), (tl k).all isBl = true ∧ k.length ≤ 1) T0 hT0
  refine ⟨_, _, _, rfl, ?_⟩
  -- for step in range(_law_taken(row, 20))
  refine ⟨_, rfl, r, a, 20, rfl, g6.row, g6.scr hS h63, by decide, by decide, fun H7 n kp7 hR7 hn0 hn1 => ?_⟩
  have g7 := g6.keep kp7 hR7
  refine ⟨n, rfl, by omega, by omega, for_range (lo := 0) (n := n.toNat) (fun i σ H' => ∃ (T last : Str) (us : List V) (ws : List (Str × Str)) (v7 v8 v9 v10 : Option V), σ = sg a r kk mm ff T last v7 v8 v9 v10 ∧ Good H a r kk mm ff us ws H' ∧ J (tl T) ws last ∧ T.length ≤ 1 + 14 * i ∧ us.length ≤ i)
    ⟨T0, "", [], [], none, none, none, none, rfl, g7, J_start hT0'.1, hT0'.2, Nat.le_refl _⟩ ?_ ?_⟩
  · rintro i σ H' hi ⟨T, last, us, ws, v7, v8, v9, v10, rfl, g, j, hl, hu⟩
    have hi20 : i < 20 := by omega
    -- kind = _law_pick(row, [..])
    refine ⟨_, rfl, (by show 4 ≤ sizeLine; decide), fun p1 np1 => ?_⟩
    have ga := g.new np1 (.lst [.str "key", .str "mark", .str "name", .str "number"])
    refine ⟨r, a, _, rfl, ga.row, ga.scr hS h63, .inl ⟨p1, _, rfl, g.row.ne np1, upd_same, (by show 1 ≤ 4; decide), (by show 4 ≤ 1000; decide), fun H8 v kp8 hR8 hv8 => ?_⟩⟩
    have g8 := ga.keep kp8 hR8
    obtain ⟨kd, rfl, hkd⟩ := strs_mem (l := kinds) hv8
    -- word = _law_pick(row, keys if kind == 'key' else marks)
    refine ⟨fun σ2 H2 => ∃ wd : Str, σ2 = sg a r kk mm ff T last (some (.int (0 + (i : Int)))) (some (.str kd)) (some (.str wd)) v10 ∧ Good H a r kk mm ff us ws H2 ∧ (kd = "key" → wd ∈ kws) ∧ (kd = "mark" → wd ∈ mks), ?_, ?_⟩
    · refine ⟨_, rfl, _, rfl, rfl, _, rfl, ite2 (fun c => ?_) (fun c => ?_)⟩
      · have ck : kd = "key" := V.str.inj (of_decide_eq_true c)
        refine ⟨_, rfl, r, a, _, rfl, g8.row, g8.scr hS h63, .inl ⟨kk, _, rfl, g8.nk, g8.hk, (by show 1 ≤ 19; decide), (by show 19 ≤ 1000; decide), fun H2 v kp2 hR2 hv2 => ?_⟩⟩
        obtain ⟨wd, rfl, hw⟩ := strs_mem hv2
        exact ⟨wd, rfl, g8.keep kp2 hR2, fun _ => hw, fun q => absurd (q.symm.trans ck) (by decide +kernel)⟩
      · have ck : kd ≠ "key" := fun q => c (decide_eq_true (by rw [q]))
        refine ⟨_, rfl, r, a, _, rfl, g8.row, g8.scr hS h63, .inl ⟨mm, _, rfl, g8.nm, g8.hm, (by show 1 ≤ 13; decide), (by show 13 ≤ 1000; decide), fun H2 v kp2 hR2 hv2 => ?_⟩⟩
        obtain ⟨wd, rfl, hw⟩ := strs_mem hv2
        exact ⟨wd, rfl, g8.keep kp2 hR2, fun q => absurd q ck, fun _ => hw⟩
    rintro σ2 H9 ⟨wd0, rfl, g9, hkey, hmark⟩
    -- if kind == 'name'
    refine ⟨fun σ2 H2 => ∃ k2 w2 : Str, σ2 = sg a r kk mm ff T last (some (.int (0 + (i : Int)))) (some (.str k2)) (some (.str w2)) v10 ∧ Good H a r kk mm ff us ws H2 ∧ k2 ≠ "" ∧ (k2 = "number" ∨ (k2 ≠ "number" ∧ Wd k2 w2 ∧ w2.length ≤ 12)), ?_, ?_⟩
    · refine ⟨_, rfl, rfl, _, rfl, ite2 (fun c => ?_) (fun c => ?_)⟩
      · -- word = ''.join([..])
        refine ⟨⟨_, rfl⟩, _, rfl, r, a, 12, rfl, g9.row, g9.scr hS h63, by decide, by decide, fun H3 u kp3 hR3 h0 h1 => ?_⟩
        have g3 := g9.keep kp3 hR3
        refine ⟨_, _, rfl, rfl, _, rfl, by omega, by omega, fun D hD => ?_⟩
        have nDr : D ≠ r := g3.row.ne hD
        have nkD := ne_of_none g3.hk hD
        have nmD := ne_of_none g3.hm hD
        have nfD := ne_of_none g3.hf hD
        have bD : H D = none := g3.same.free hD
        refine lc_range (lo := 0) (n := (1 + u).toNat) (fun j' H' => ∃ cs : List Nat, cs.length = j' ∧ (∀ c ∈ cs, isLet c = true) ∧ H' D = some (.lst (cs.map fun c => V.str ⟨#[c]⟩)) ∧ Good H a r kk mm ff us ws H')
          ⟨[], rfl, (fun _ h => nomatch h), upd_same, g3.new hD _⟩ ?_ ?_
        · rintro j' H5 hj ⟨cs, hcl, hcs, hD5, g5'⟩
          refine ⟨rfl, ?_⟩
          unfold tYes
          refine iteT ?_
          refine ⟨_, rfl, r, a, _, rfl, g5'.row, g5'.scr hS h63, .inr ⟨"abcxyz", rfl, by decide +kernel, by decide +kernel, fun H6 c' kp6' hR6' hc => ?_⟩⟩
          have hD6 := kp6' D _ nDr hD5
          refine ⟨_, hD6, (by rw [List.length_map]; exact Nat.lt_of_le_of_lt (by omega : cs.length ≤ 1000) (by decide)), cs ++ [c'], by rw [List.length_append, hcl]; rfl, fun x hx => ?_, ?_, (g5'.keep kp6' hR6').at hD6 nDr.symm nkD nmD nfD bD _⟩
          · rcases List.mem_append.mp hx with h | h
            · exact hcs x h
            · rw [List.mem_singleton.mp h]
              exact abc_let c' hc
          · rw [upd_same, List.map_append]
            rfl
        · rintro H5 ⟨cs, hcl, hcs, hD5, g5'⟩
          have eW := join_ones cs
          have hlW : (Txt.join "" (cs.map fun c => (⟨#[c]⟩ : Str))).length = cs.length := by rw [len_tl, eW]
          refine ⟨"", D, cs.map (fun c => (⟨#[c]⟩ : Str)), rfl, rfl, .inl (SqL.of (by rw [List.map_map]; exact hD5)), ?_, ?_⟩
          · rw [ones_sum, List.length_map, show ("" : Str).length = 0 by decide +kernel]
            omega
          generalize Txt.join "" (cs.map fun c => (⟨#[c]⟩ : Str)) = W at eW hlW
          have hne : tl W ≠ [] := by
            rw [eW]
            intro q
            rw [q] at hcl
            have : (0 : Nat) = (1 + u).toNat := hcl
            omega
          have hall : (tl W).all isLet = true := by
            rw [eW, List.all_eq_true]
            exact hcs
          refine ⟨_, rfl, _, rfl, kk, _, rfl, .inl (SqL.of g5'.hk), rfl, flat_strs _, _, rfl, ?_⟩
          show if inV (.str W) (kws.map V.str) = true then _ else _
          rw [in_strs]
          refine ite2 (fun c2 => ?_) (fun c2 => ?_)
          · have hin := of_decide_eq_true c2
            exact ⟨"key", W, rfl, g5', by decide +kernel, .inr ⟨by decide +kernel, wd_key hin, by omega⟩⟩
          · have hin : W ∉ kws := of_decide_eq_false (Bool.eq_false_iff.mpr c2)
            exact ⟨"name", W, rfl, g5', by decide +kernel, .inr ⟨by decide +kernel, wd_name hne hall (by rw [← len_tl]; omega) hin, by omega⟩⟩
      · have cn : kd ≠ "name" := fun q => c (decide_eq_true (by rw [q]))
        refine ⟨kd, wd0, rfl, g9, (by decide +kernel : ∀ k ∈ kinds, k ≠ "") kd hkd, ?_⟩
        simp only [kinds, List.mem_cons, List.not_mem_nil, or_false] at hkd
        rcases hkd with q | q | q | q
        · have h := hkey q
          subst q
          exact .inr ⟨by decide +kernel, wd_key h, kws_len _ h⟩
        · have h := hmark q
          subst q
          exact .inr ⟨by decide +kernel, wd_mark h, mks_len _ h⟩
        · exact absurd q cn
        · exact .inl q
    rintro σ3 H10 ⟨k2, w2, rfl, g10, hk0, hW⟩
    -- if kind == 'number'
    refine ⟨fun σ2 H2 => ∃ w3 : Str, σ2 = sg a r kk mm ff T last (some (.int (0 + (i : Int)))) (some (.str k2)) (some (.str w3)) v10 ∧ Good H a r kk mm ff us ws H2 ∧ Wd k2 w3 ∧ w3.length ≤ 12, ?_, ?_⟩
    · refine ⟨_, rfl, rfl, _, rfl, ite2 (fun c => ?_) (fun c => ?_)⟩
      · have ck : k2 = "number" := V.str.inj (of_decide_eq_true c)
        refine ⟨_, rfl, _, rfl, _, _, rfl, rfl, ⟨by decide, by decide, by decide⟩, r, a, _, rfl, g10.row, g10.scr hS h63, by decide, by decide, fun H3 u kp3 hR3 h0 h1 => ?_⟩
        have g3 := g10.keep kp3 hR3
        refine ⟨(by show 5 ≤ sizeLine; decide), fun p2 np2 => ?_⟩
        have gb := g3.new np2 (.lst [.int 0, .int 7, .int 10, .int 999999, .int u])
        refine ⟨r, a, _, rfl, gb.row, gb.scr hS h63, .inl ⟨p2, _, rfl, g3.row.ne np2, upd_same, (by show 1 ≤ 5; decide), (by show 5 ≤ 1000; decide), fun H4 v kp4 hR4 hv4 => ?_⟩⟩
        have h1' : u < 1000000 := h1
        obtain ⟨m, rfl, hm⟩ := int_mem h0 h1' hv4
        refine ⟨_, rfl, log_small hm, ?_⟩
        exact ⟨num m, rfl, gb.keep kp4 hR4, by rw [ck]; exact wd_num hm, Nat.le_trans (num_len hm) (by decide)⟩
      · have cn : k2 ≠ "number" := fun q => c (decide_eq_true (by rw [q]))
        rcases hW with q | ⟨_, h1, h2⟩
        · exact absurd q cn
        · exact ⟨w2, rfl, g10, h1, h2⟩
    rintro σ4 H11 ⟨w3, rfl, g11, hWd, hw12⟩
    -- close = ..
    refine ⟨fun σ2 H2 => ∃ b : Bool, σ2 = sg a r kk mm ff T last (some (.int (0 + (i : Int)))) (some (.str k2)) (some (.str w3)) (some (.bl b)) ∧ H2 = H11 ∧ (b = false → ¬ ((last = "mark" ∧ k2 = "mark") ∨ (last ≠ "mark" ∧ k2 ≠ "mark"))), ?_, ?_⟩
    · refine ⟨_, rfl, rfl, _, rfl, ite2 (fun c1 => ?_) (fun c1 => ?_)⟩
      · have l1 : last = "mark" := V.str.inj (of_decide_eq_true c1)
        refine ⟨_, rfl, rfl, _, rfl, ite2 (fun c2 => ?_) (fun c2 => ?_)⟩
        · exact ⟨true, rfl, rfl, fun q => by cases q⟩
        · have l2 : k2 ≠ "mark" := fun q => c2 (decide_eq_true (by rw [q]))
          refine ⟨_, rfl, rfl, _, rfl, iteNS (of_decide_eq_true c1) ?_⟩
          exact ⟨false, rfl, rfl, fun _ q => q.elim (fun z => l2 z.2) (fun z => z.1 l1)⟩
      · have l1 : last ≠ "mark" := fun q => c1 (decide_eq_true (by rw [q]))
        refine ⟨false, rfl, iteF ?_⟩
        refine ⟨_, rfl, rfl, _, rfl, ite2 (fun _ => ?_) (fun q => ?_)⟩
        · refine ⟨_, rfl, rfl, ?_⟩
          refine ⟨!decide (V.str k2 = V.str "mark"), rfl, rfl, fun e q => ?_⟩
          have l2 : k2 = "mark" := by
            have e2 : decide (V.str k2 = V.str "mark") = true := by
              cases h : decide (V.str k2 = V.str "mark") with
              | true => rfl
              | false => rw [h] at e; cases e
            exact V.str.inj (of_decide_eq_true e2)
          exact q.elim (fun z => l1 z.1) (fun z => z.2 l2)
        · exact absurd (by rw [Bool.eq_false_iff.mpr c1]; rfl) q
    rintro σ5 H12 ⟨b, rfl, rfl, hb⟩
    -- text = ..
    refine ⟨fun σ2 H2 => ∃ T2 : Str, σ2 = sg a r kk mm ff T2 last (some (.int (0 + (i : Int)))) (some (.str k2)) (some (.str w3)) (some (.bl b)) ∧ Good H a r kk mm ff us ws H2 ∧ J (tl T2) (ws ++ [(k2, w3)]) k2 ∧ T2.length ≤ 1 + 14 * (i + 1), ?_, ?_⟩
    · have big : ∀ m : Nat, m ≤ 1000 → m ≤ sizeLine := fun m h => Nat.le_trans h (by decide)
      refine ⟨_, rfl, _, rfl, _, rfl, ite2 (fun c => ?_) (fun c => ?_)⟩
      · refine ⟨_, rfl, (by show 3 ≤ sizeLine; decide), fun p3 np3 => ?_⟩
        have gb := g11.new np3 (.lst [.str " ", .str "\n", .str "  "])
        refine ⟨r, a, _, rfl, gb.row, gb.scr hS h63, .inl ⟨p3, _, rfl, g11.row.ne np3, upd_same, (by show 1 ≤ 3; decide), (by show 3 ≤ 1000; decide), fun H4 v kp4 hR4 hv4 => ?_⟩⟩
        obtain ⟨sp, rfl, hsp⟩ := strs_mem (l := [" ", "\n", "  "]) hv4
        have hs := (by decide +kernel : ∀ k ∈ ([" ", "\n", "  "] : List Str), (tl k).all isBl = true ∧ tl k ≠ [] ∧ k.length ≤ 2) sp hsp
        refine ⟨T, sp, rfl, rfl, big _ (by omega), _, rfl, T ++ sp, w3, rfl, rfl, big _ (by rw [sums]; omega), ?_⟩
        refine ⟨T ++ sp ++ w3, rfl, gb.keep kp4 hR4, ?_, by rw [sums, sums]; omega⟩
        rw [tl_append, tl_append]
        exact J_step j hWd hs.1 (.inl hs.2.1) hk0
      · refine ⟨_, rfl, (by show 4 ≤ sizeLine; decide), fun p3 np3 => ?_⟩
        have gb := g11.new np3 (.lst [.str "", .str "", .str " ", .str "\n"])
        refine ⟨r, a, _, rfl, gb.row, gb.scr hS h63, .inl ⟨p3, _, rfl, g11.row.ne np3, upd_same, (by show 1 ≤ 4; decide), (by show 4 ≤ 1000; decide), fun H4 v kp4 hR4 hv4 => ?_⟩⟩
        obtain ⟨sp, rfl, hsp⟩ := strs_mem (l := ["", "", " ", "\n"]) hv4
        have hs := (by decide +kernel : ∀ k ∈ (["", "", " ", "\n"] : List Str), (tl k).all isBl = true ∧ k.length ≤ 2) sp hsp
        refine ⟨T, sp, rfl, rfl, big _ (by omega), _, rfl, T ++ sp, w3, rfl, rfl, big _ (by rw [sums]; omega), ?_⟩
        refine ⟨T ++ sp ++ w3, rfl, gb.keep kp4 hR4, ?_, by rw [sums, sums]; omega⟩
        rw [tl_append, tl_append]
        exact J_step j hWd hs.1 (.inr (hb (Bool.eq_false_iff.mpr c))) hk0
    rintro σ6 H13 ⟨T2, rfl, g13, j2, hl2⟩
    -- found.append((kind, word)); last = kind
    refine ⟨_, rfl, .inl ⟨rfl, _, SqL.of g13.hf⟩, _, rfl, _, rfl, (by show 2 ≤ sizeLine; decide), fun t nt => ?_⟩
    refine ⟨ff, us, _, rfl, rfl, (g13.new nt _).hf, Nat.lt_of_le_of_lt (by omega : us.length ≤ 1000) (by decide), ?_⟩
    refine ⟨_, rfl, ?_⟩
    exact ⟨T2, k2, us ++ [.ref t], ws ++ [(k2, w3)], _, _, _, _, rfl, g13.push nt k2 w3, j2, hl2, by rw [List.length_append, List.length_singleton]; omega⟩
  · rintro σ H' ⟨T, last, us, ws, v7, v8, v9, v10, rfl, g, j, hl, hu⟩
    have hT := J_end j
    have al : ∀ {H2 : Hp} {p : Addr} {vs : List V}, Same H' H2 → H2 p = some (.lst vs) → Tups H2 vs ws → ∀ Q2 : VK, (∀ H3, Same H2 H3 → Q2 (.bl true) H3) → spAl false el2 [.ref p, .ref ff] H2 Q2 E0 := fun {H2 p vs} s2 h1 h2 Q2 h3 => by
      have h4 := g.tu.mono fun t k w q => s2 _ _ q
      refine ⟨p, ff, vs, us, rfl, h1, s2 _ _ g.hf, by rw [h2.length, g.tu.length], by omega, ?_, h3⟩
      exact tups_el h2 h4
    refine ⟨_, rfl, T, ws, rfl, by omega, hT.1, fun H2 p vs s2 hp tp => ⟨_, rfl, ?_⟩⟩
    dsimp only [tNil]
    refine al s2 hp tp _ fun H3 s3 => ⟨true, rfl, iteT ?_⟩
    refine ⟨_, rfl, _, _, rfl, rfl, Nat.le_trans (show T.length + (" \n" : Str).length ≤ 1000 by rw [show (" \n" : Str).length = 2 by decide +kernel]; omega) (by decide), ?_⟩
    refine ⟨T ++ (" \n" : Str), ws, rfl, by rw [sums, show (" \n" : Str).length = 2 by decide +kernel]; omega, ?_, fun H4 p2 vs2 s4 hp2 tp2 => ⟨_, rfl, ?_⟩⟩
    · rw [tl_append, show tl (" \n" : Str) = [32, 10] by decide +kernel]
      exact hT.2
    · dsimp only [tNil]
      exact al (s2.trans (s3.trans s4)) hp2 tp2 _ fun H5 s5 => k _
end
end K0

namespace K0
open PySem L2 TL
theorem all_mk {l : PySem.W.OpenLaw} {w : World} {K : PySem.W.Frag} {h : Heap} {mg : Str → Option Value} {fa fK fM f1 f2 f3 f4 f5 f6 f7 f8 f9 f10 f11 : Addr} (X : K.In h) (G : h.Ns mainGlobals mg) (hfa : mg "law" = some (.ref fa))
    {od1 an1 od2 an2 od3 an3 od4 an4 od5 an5 od6 an6 od7 an7 od8 an8 od9 an9 od10 an10 od11 an11 odK odM : Option Addr} {sl1 sl2 sl3 sl4 sl5 sl6 sl7 sl8 sl9 sl10 sl11 slK slM : Array (Option Value)} {oc1 kV1 dc1 pm1 cd1 ct1 oc2 kV2 dc2 pm2 cd2 ct2 oc3 kV3 dc3 pm3 cd3 ct3 oc4 kV4 dc4 pm4 cd4 ct4 oc5 kV5 dc5 pm5 cd5 ct5 oc6 kV6 dc6 pm6 cd6 ct6 oc7 kV7 dc7 pm7 cd7 ct7 oc8 kV8 dc8 pm8 cd8 ct8 oc9 kV9 dc9 pm9 cd9 ct9 oc10 kV10 dc10 pm10 cd10 ct10 oc11 kV11 dc11 pm11 cd11 ct11 : Value} {itsK itsM : Array Value} {nK nM : Nat} {tk1 tk2 tk3 tk4 tk5 tk6 : Tok}
    (a1 : PySem.W.nsIn K mainGlobals "words" = some (some (.ref f1))) (l1 : K.lookup f1 = some ⟨oc1, od1, .func (PySem.W.fnOf "words" "words" (defArgs sWords) (defBody sWords) (defScope sWords) .none kV1 dc1 pm1 an1 cd1 ct1), sl1⟩) (c1 : PySem.W.codeIn K cd1 "words" = true) (k1 : PySem.W.keepIn K (.ref f1) = true)
    (a2 : PySem.W.nsIn K mainGlobals "check_text" = some (some (.ref f2))) (l2 : K.lookup f2 = some ⟨oc2, od2, .func (PySem.W.fnOf "check_text" "check_text" (defArgs sCheck) (defBody sCheck) (defScope sCheck) .none kV2 dc2 pm2 an2 cd2 ct2), sl2⟩) (c2 : PySem.W.codeIn K cd2 "check_text" = true) (k2 : PySem.W.keepIn K (.ref f2) = true)
    (a3 : PySem.W.nsIn K mainGlobals "word_at" = some (some (.ref f3))) (l3 : K.lookup f3 = some ⟨oc3, od3, .func (PySem.W.fnOf "word_at" "word_at" (defArgs sWordAt) (defBody sWordAt) (defScope sWordAt) .none kV3 dc3 pm3 an3 cd3 ct3), sl3⟩) (c3 : PySem.W.codeIn K cd3 "word_at" = true) (k3 : PySem.W.keepIn K (.ref f3) = true)
    (a4 : PySem.W.nsIn K mainGlobals "signs_at" = some (some (.ref f4))) (l4 : K.lookup f4 = some ⟨oc4, od4, .func (PySem.W.fnOf "signs_at" "signs_at" (defArgs sSigns) (defBody sSigns) (defScope sSigns) .none kV4 dc4 pm4 an4 cd4 ct4), sl4⟩) (c4 : PySem.W.codeIn K cd4 "signs_at" = true) (k4 : PySem.W.keepIn K (.ref f4) = true)
    (a5 : PySem.W.nsIn K mainGlobals "run_end" = some (some (.ref f5))) (l5 : K.lookup f5 = some ⟨oc5, od5, .func (PySem.W.fnOf "run_end" "run_end" (defArgs sRunEnd) (defBody sRunEnd) (defScope sRunEnd) .none kV5 dc5 pm5 an5 cd5 ct5), sl5⟩) (c5 : PySem.W.codeIn K cd5 "run_end" = true) (k5 : PySem.W.keepIn K (.ref f5) = true)
    (a6 : PySem.W.nsIn K mainGlobals "kind_of" = some (some (.ref f6))) (l6 : K.lookup f6 = some ⟨oc6, od6, .func (PySem.W.fnOf "kind_of" "kind_of" (defArgs sKind) (defBody sKind) (defScope sKind) .none kV6 dc6 pm6 an6 cd6 ct6), sl6⟩) (c6 : PySem.W.codeIn K cd6 "kind_of" = true) (k6 : PySem.W.keepIn K (.ref f6) = true)
    (a7 : PySem.W.nsIn K mainGlobals "is_number" = some (some (.ref f7))) (l7 : K.lookup f7 = some ⟨oc7, od7, .func (PySem.W.fnOf "is_number" "is_number" (defArgs sIsNum) (defBody sIsNum) (defScope sIsNum) .none kV7 dc7 pm7 an7 cd7 ct7), sl7⟩) (c7 : PySem.W.codeIn K cd7 "is_number" = true) (k7 : PySem.W.keepIn K (.ref f7) = true)
    (a8 : PySem.W.nsIn K mainGlobals "_law_taken" = some (some (.ref f8))) (l8 : K.lookup f8 = some ⟨oc8, od8, .func (PySem.W.fnOf "_law_taken" "_law_taken" (defArgs sTaken) (defBody sTaken) (defScope sTaken) .none kV8 dc8 pm8 an8 cd8 ct8), sl8⟩) (c8 : PySem.W.codeIn K cd8 "_law_taken" = true) (k8 : PySem.W.keepIn K (.ref f8) = true)
    (a9 : PySem.W.nsIn K mainGlobals "_law_pick" = some (some (.ref f9))) (l9 : K.lookup f9 = some ⟨oc9, od9, .func (PySem.W.fnOf "_law_pick" "_law_pick" (defArgs sPick) (defBody sPick) (defScope sPick) .none kV9 dc9 pm9 an9 cd9 ct9), sl9⟩) (c9 : PySem.W.codeIn K cd9 "_law_pick" = true) (k9 : PySem.W.keepIn K (.ref f9) = true)
    (a10 : PySem.W.nsIn K mainGlobals "_law_alike" = some (some (.ref f10))) (l10 : K.lookup f10 = some ⟨oc10, od10, .func (PySem.W.fnOf "_law_alike" "_law_alike" (defArgs sAlike) (defBody sAlike) (defScope sAlike) .none kV10 dc10 pm10 an10 cd10 ct10), sl10⟩) (c10 : PySem.W.codeIn K cd10 "_law_alike" = true) (k10 : PySem.W.keepIn K (.ref f10) = true)
    (a11 : PySem.W.nsIn K mainGlobals "law" = some (some (.ref f11))) (l11 : K.lookup f11 = some ⟨oc11, od11, .func (PySem.W.fnOf "law" "law" (defArgs sLaw) (defBody sLaw) (defScope sLaw) .none kV11 dc11 pm11 an11 cd11 ct11), sl11⟩) (c11 : PySem.W.codeIn K cd11 "law" = true) (k11 : PySem.W.keepIn K (.ref f11) = true)
    (aK : PySem.W.nsIn K mainGlobals "KEYS" = some (some (.ref fK))) (lK : K.lookup fK = some ⟨.type "tuple", odK, .seq itsK nK, slK⟩) (vK : Vals (kws.map V.str) itsK.toList) (zK : itsK.size ≤ sizeLine)
    (aM : PySem.W.nsIn K mainGlobals "MARKS" = some (some (.ref fM))) (lM : K.lookup fM = some ⟨.type "tuple", odM, .seq itsM nM, slM⟩) (vM : Vals (mks.map V.str) itsM.toList) (zM : itsM.size ≤ sizeLine)
    (s1 : PySem.W.nsIn K mainGlobals "FIGURES" = some (some (.str "0123456789" tk1)))
    (s2 : PySem.W.nsIn K mainGlobals "LETTERS" = some (some (.str "abcdefghijklmnopqrstuvwxyz" tk2)))
    (s3 : PySem.W.nsIn K mainGlobals "BLANKS" = some (some (.str " \n" tk3)))
    (s4 : PySem.W.nsIn K mainGlobals "MOST_SIGNS" = some (some (.int 100000 tk4)))
    (s5 : PySem.W.nsIn K mainGlobals "MOST_FIGURES" = some (some (.int 6 tk5)))
    (s6 : PySem.W.nsIn K mainGlobals "MOST_LETTERS" = some (some (.int 12 tk6)))
    (z1 : PySem.W.nsIn K mainGlobals "len" = some none)
    (z2 : PySem.W.nsIn K mainGlobals "int" = some none)
    (z3 : PySem.W.nsIn K mainGlobals "isinstance" = some none)
    (z4 : PySem.W.nsIn K mainGlobals "str" = some none)
    (z5 : PySem.W.nsIn K mainGlobals "tuple" = some none)
    (z6 : PySem.W.nsIn K mainGlobals "list" = some none)
    (z7 : PySem.W.nsIn K mainGlobals "range" = some none) :
    ∃ fd : FuncData, (∀ (s : Shared) (v : Value), BindsTo s fd ⟨[v], []⟩ [("script", v)]) ∧ ∀ base : Heap, K.In base → base.Ns mainGlobals mg → FnOk l.prog w K mg base CX0 5 fa fd ["script"] (spLaw K) := by
  have e := hfa.symm.trans (PySem.W.mg_of X G a11)
  cases e
  have F1 := fun_mk (st := sWords) l1 c1 k1
  have F2 := fun_mk (st := sCheck) l2 c2 k2
  have F3 := fun_mk (st := sWordAt) l3 c3 k3
  have F4 := fun_mk (st := sSigns) l4 c4 k4
  have F5 := fun_mk (st := sRunEnd) l5 c5 k5
  have F6 := fun_mk (st := sKind) l6 c6 k6
  have F7 := fun_mk (st := sIsNum) l7 c7 k7
  have F8 := fun_mk (st := sTaken) l8 c8 k8
  have F9 := fun_mk (st := sPick) l9 c9 k9
  have F10 := fun_mk (st := sAlike) l10 c10 k10
  have F11 := fun_mk (st := sLaw) l11 c11 k11
  have b1 := F1.binds (ps := ["text"]) fun _ _ _ _ _ _ us hl => match us, hl with | [_], _ => rfl
  have m1 := PySem.W.mg_of X G a1
  have b2 := F2.binds (ps := ["value"]) fun _ _ _ _ _ _ us hl => match us, hl with | [_], _ => rfl
  have m2 := PySem.W.mg_of X G a2
  have b3 := F3.binds (ps := ["text", "at"]) fun _ _ _ _ _ _ us hl => match us, hl with | [_, _], _ => rfl
  have m3 := PySem.W.mg_of X G a3
  have b4 := F4.binds (ps := ["text", "at"]) fun _ _ _ _ _ _ us hl => match us, hl with | [_, _], _ => rfl
  have m4 := PySem.W.mg_of X G a4
  have b5 := F5.binds (ps := ["text", "at", "signs"]) fun _ _ _ _ _ _ us hl => match us, hl with | [_, _, _], _ => rfl
  have m5 := PySem.W.mg_of X G a5
  have b6 := F6.binds (ps := ["word"]) fun _ _ _ _ _ _ us hl => match us, hl with | [_], _ => rfl
  have m6 := PySem.W.mg_of X G a6
  have b7 := F7.binds (ps := ["figures"]) fun _ _ _ _ _ _ us hl => match us, hl with | [_], _ => rfl
  have m7 := PySem.W.mg_of X G a7
  have b8 := F8.binds (ps := ["row", "many"]) fun _ _ _ _ _ _ us hl => match us, hl with | [_, _], _ => rfl
  have m8 := PySem.W.mg_of X G a8
  have b9 := F9.binds (ps := ["row", "things"]) fun _ _ _ _ _ _ us hl => match us, hl with | [_, _], _ => rfl
  have m9 := PySem.W.mg_of X G a9
  have b10 := F10.binds (ps := ["found", "due"]) fun _ _ _ _ _ _ us hl => match us, hl with | [_, _], _ => rfl
  have m10 := PySem.W.mg_of X G a10
  have T : Txt K mg := { len := PySem.W.mg_none_of X G z1, int_ := PySem.W.mg_none_of X G z2, isi := PySem.W.mg_none_of X G z3, str_ := PySem.W.mg_none_of X G z4, tup_ := PySem.W.mg_none_of X G z5, list_ := PySem.W.mg_none_of X G z6, range := PySem.W.mg_none_of X G z7, keys := ⟨fK, PySem.W.mg_of X G aK, fun _ => .inr ⟨_, itsK, nK, lK, rfl, rfl, zK, vK⟩⟩, marks := ⟨fM, PySem.W.mg_of X G aM, fun _ => .inr ⟨_, itsM, nM, lM, rfl, rfl, zM, vM⟩⟩, figs := ⟨_, PySem.W.mg_of X G s1⟩, lets := ⟨_, PySem.W.mg_of X G s2⟩, blanks := ⟨_, PySem.W.mg_of X G s3⟩, mSigns := ⟨_, PySem.W.mg_of X G s4⟩, mFigs := ⟨_, PySem.W.mg_of X G s5⟩, mLets := ⟨_, PySem.W.mg_of X G s6⟩ }
  refine ⟨PySem.W.fnOf "law" "law" (defArgs sLaw) (defBody sLaw) (defScope sLaw) .none kV11 dc11 pm11 an11 cd11 ct11, fun s v => .of_eq rfl, fun base _ _ => ?_⟩
  have G2 := ok_check (P := l.prog) (w := w) (base := base) F2 T
  have G5 := ok_runEnd (P := l.prog) (w := w) (base := base) F5 T
  have G7 := ok_isNum (P := l.prog) (w := w) (base := base) F7 T
  have G8 := ok_taken (P := l.prog) (w := w) (base := base) F8 T
  have G6 := ok_kind F6 T G7 m7 k7 b7
  have G4 := ok_signs F4 T G5 m5 k5 b5
  have G3 := ok_wordAt F3 T G4 m4 k4 b4 G6 m6 k6 b6
  have G1 := ok_words F1 T G2 m2 k2 b2 G3 m3 k3 b3
  have G9 := ok_pick F9 T G8 m8 k8 b8
  have A1 := ok_alS (P := l.prog) (w := w) (base := base) F10 T
  have A2 := ok_al (C := true) (el := el1) (fun _ _ _ _ _ h => h) (fun H x y Q h hq => by obtain ⟨z, rfl, rfl⟩ := h; exact ⟨z, rfl, hq⟩) F10 T A1 m10 b10
  have A3 := ok_al (C := false) (el := el2) (fun H H' x y s h => by obtain ⟨k, w, ⟨t, e1, e2⟩, ⟨u, e3, e4⟩⟩ := h; exact ⟨k, w, ⟨t, e1, s _ _ e2⟩, ⟨u, e3, s _ _ e4⟩⟩) (fun H x y Q h hq => by
    obtain ⟨k, w, ⟨t, rfl, e2⟩, ⟨u, rfl, e4⟩⟩ := h
    refine ⟨t, u, _, _, rfl, e2, e4, rfl, (by show 2 ≤ 1000; decide), fun i x y h1 h2 => ?_, hq⟩
    match i, h1, h2 with
    | 0, h1, h2 => exact ⟨k, (Option.some.inj h1).symm, (Option.some.inj h2).symm⟩
    | 1, h1, h2 => exact ⟨w, (Option.some.inj h1).symm, (Option.some.inj h2).symm⟩
    | j + 2, h1, _ => cases h1) F10 T A2 m10 b10
  exact ok_law F11 T G8 m8 k8 b8 G9 m9 k9 b9 A3 m10 k10 b10 G1 m1 k1 b1
theorem walk {l : PySem.W.OpenLaw} {q : Program} {loose : List Str} {XP : (Str → Option Value) → Heap → Prop} {YP : World → Heap → Prop} {d : DefRec} {K : Params → PySem.W.Frag} (hn : l.most = some 63) (hdf : d.params.defaults = [])
    (hY : ∀ (w : World) (h : Heap), YP w h → (K w.params).In h)
    (F : ∀ (w : World) (mg : Str → Option Value) (fa : Addr) (h : Heap), (K w.params).In h → h.Ns mainGlobals mg → mg d.name = some (.ref fa) →
      ∃ fd : FuncData, (∀ (s : Shared) (u : Value), BindsTo s fd ⟨[u], []⟩ [("script", u)]) ∧ ∀ base : Heap, (K w.params).In base → base.Ns mainGlobals mg → FnOk l.prog w (K w.params) mg base CX0 5 fa fd ["script"] (spLaw (K w.params))) :
    PySem.W.WalkO q loose XP YP l.row.toRowW d [] (fun f vs => PySem.call f vs) :=
  L2.walk_of (n := 63) (k := 5) (x := "script") (CX := fun _ => CX0) (sp := fun w => spLaw (K w.params)) hn (by decide) hdf ⟨rfl, by decide, by decide⟩ hY F (fun _ _ a ns hl _ hS => ⟨a, ns, rfl, hS, hl, fun _ => rfl⟩) fun _ _ _ _ _ z => z
end K0
open PySem PySem.W PyProof.Rows
set_option maxRecDepth 100000 in
set_option maxHeartbeats 0 in
theorem PySem.Challenge.cw_strokes_k00_whole_words_holds : PySem.Challenge.rw_strokes_k00_whole_words.Holds := by
  w_on; o_law; k_head; (case hw => w_witness2)
  k_fill
  refine K0.walk (l := PySem.Challenge.rw_strokes_k00_whole_words) rfl rfl (fun w h Y => PySem.W.kIn_of Y) ?F
  case F =>
    intro w mg fa h KX G hmg
    refine' K0.all_mk KX G hmg ?a1 ?l1 ?c1 ?k1 ?a2 ?l2 ?c2 ?k2 ?a3 ?l3 ?c3 ?k3 ?a4 ?l4 ?c4 ?k4 ?a5 ?l5 ?c5 ?k5 ?a6 ?l6 ?c6 ?k6 ?a7 ?l7 ?c7 ?k7 ?a8 ?l8 ?c8 ?k8 ?a9 ?l9 ?c9 ?k9 ?a10 ?l10 ?c10 ?k10 ?a11 ?l11 ?c11 ?k11 ?aK ?lK ?vK ?zK ?aM ?lM ?vM ?zM ?s1 ?s2 ?s3 ?s4 ?s5 ?s6 ?z1 ?z2 ?z3 ?z4 ?z5 ?z6 ?z7
    (case a1 => k_is); (case l1 => k_is); (case c1 => k_is); (case k1 => k_is)
    (case a2 => k_is); (case l2 => k_is); (case c2 => k_is); (case k2 => k_is)
    (case a3 => k_is); (case l3 => k_is); (case c3 => k_is); (case k3 => k_is)
    (case a4 => k_is); (case l4 => k_is); (case c4 => k_is); (case k4 => k_is)
    (case a5 => k_is); (case l5 => k_is); (case c5 => k_is); (case k5 => k_is)
    (case a6 => k_is); (case l6 => k_is); (case c6 => k_is); (case k6 => k_is)
    (case a7 => k_is); (case l7 => k_is); (case c7 => k_is); (case k7 => k_is)
    (case a8 => k_is); (case l8 => k_is); (case c8 => k_is); (case k8 => k_is)
    (case a9 => k_is); (case l9 => k_is); (case c9 => k_is); (case k9 => k_is)
    (case a10 => k_is); (case l10 => k_is); (case c10 => k_is); (case k10 => k_is)
    (case a11 => k_is); (case l11 => k_is); (case c11 => k_is); (case k11 => k_is)
    (case aK => k_is); (case lK => k_is)
    (case vK => (repeat (first | exact Paired.nil | refine Paired.cons ⟨_, rfl⟩ ?_)))
    (case zK => first | decide | decide +kernel)
    (case aM => k_is); (case lM => k_is)
    (case vM => (repeat (first | exact Paired.nil | refine Paired.cons ⟨_, rfl⟩ ?_)))
    (case zM => first | decide | decide +kernel)
    (case s1 => k_is); (case s2 => k_is); (case s3 => k_is); (case s4 => k_is); (case s5 => k_is); (case s6 => k_is)
    (case z1 => k_is); (case z2 => k_is); (case z3 => k_is); (case z4 => k_is); (case z5 => k_is); (case z6 => k_is); (case z7 => k_is)
