import PyProof.Rows.All
import Wide.All
import OpenK.AllK
import Wide.FinOn
import HandS.Text
import HandS.ForMost
import HandS.IsInst
import HandS.Style
import HandS.Codes
import HandS.AnyAll
import HandS.EndOwn
import PySem.Challenge.RW_strokes_k00_whole_words
set_option Elab.async false
set_option linter.all false
set_option maxRecDepth 100000
/-! Words of a text: the mathematics. -/
namespace K0
open PySem L2 TL

def isFig (c : Nat) : Bool := decide (48 ≤ c) && decide (c ≤ 57)
def isLet (c : Nat) : Bool := decide (97 ≤ c) && decide (c ≤ 122)
def isAl (c : Nat) : Bool := isFig c || isLet c
def isBl (c : Nat) : Bool := (c == 32) || (c == 10)
def kws : List Str := ["row", "col", "let", "if", "else", "while", "for", "to", "do", "def", "say", "stop", "rows", "cols", "black", "mod", "and", "or", "not"]
def mks : List Str := ["<=", "!=", "{", "}", "(", ")", "+", "-", "*", "/", "<", "=", ","]
def inM (l : List Nat) : Bool := mks.any fun m => tl m == l

/-- what stands at the head of the rest -/
def sigs : List Nat → List Nat
  | [] => []
  | c :: r => if isFig c then (c :: r).takeWhile isFig else if isLet c then (c :: r).takeWhile isLet else if inM ((c :: r).take 2) then (c :: r).take 2 else [c]

def kind (w : Str) : Option Str :=
  if w ∈ kws then some ("key" : Str) else if w ∈ mks then some ("mark" : Str) else
  match tl w with
  | [] => none
  | c :: _ => if isLet c && decide ((tl w).length ≤ 12) then some ("name" : Str) else
    if isFig c && (if c == 48 then decide (w = "0") else decide ((tl w).length ≤ 6)) then some ("number" : Str) else none

inductive Toks : List Nat → List (Str × Str) → Prop
  | nil : Toks [] []
  | blank {c : Nat} {cs : List Nat} {ws : List (Str × Str)} : isBl c = true → Toks cs ws → Toks (c :: cs) ws
  | word {c : Nat} {r cs : List Nat} {w k : Str} {ws : List (Str × Str)} : isBl c = false → c :: r = tl w ++ cs → tl w ≠ [] → sigs (c :: r) = tl w → kind w = some k → Toks cs ws → Toks (c :: r) ((k, w) :: ws)

theorem toks_nil {ws : List (Str × Str)} (h : Toks [] ws) : ws = [] := by cases h; rfl
theorem toks_blank {c : Nat} {cs : List Nat} {ws : List (Str × Str)} (hc : isBl c = true) (h : Toks (c :: cs) ws) : Toks cs ws := by
  cases h with
  | blank _ h => exact h
  | word hb => rw [hc] at hb; cases hb
theorem toks_word {c : Nat} {r : List Nat} {ws : List (Str × Str)} (hc : isBl c = false) (h : Toks (c :: r) ws) :
    ∃ (w k : Str) (cs : List Nat) (us : List (Str × Str)), c :: r = tl w ++ cs ∧ tl w ≠ [] ∧ sigs (c :: r) = tl w ∧ kind w = some k ∧ ws = (k, w) :: us ∧ Toks cs us := by
  cases h with
  | blank hb => rw [hc] at hb; cases hb
  | word _ e n s kd t => exact ⟨_, _, _, _, e, n, s, kd, rfl, t⟩

/-- what may stand behind a word of kind k -/
def Ok (k : Str) (cs : List Nat) : Prop := match cs with
  | [] => True
  | c :: _ => isBl c = true ∨ (k = "mark" ∧ isAl c = true) ∨ (k ≠ "mark" ∧ isAl c = false)

structure Wd (k w : Str) : Prop where
  kd : kind w = some k
  hd : ∃ c r, tl w = c :: r ∧ isBl c = false ∧ (k = "mark" → isAl c = false) ∧ (k ≠ "mark" → isAl c = true)
  mm : ∀ cs, Ok k cs → sigs (tl w ++ cs) = tl w

/-- the text T, cut so far into ws, the last word of kind last -/
def J (T : List Nat) (ws : List (Str × Str)) (last : Str) : Prop := ∀ cs us, Toks cs us → (last = "" ∨ Ok last cs) → Toks (T ++ cs) (ws ++ us)

theorem toks_blanks : ∀ {s cs : List Nat} {ws : List (Str × Str)}, s.all isBl = true → Toks cs ws → Toks (s ++ cs) ws
  | [], _, _, _, t => t
  | c :: s, cs, ws, h, t => by
    rw [List.all_cons, Bool.and_eq_true] at h
    exact .blank h.1 (toks_blanks h.2 t)
theorem J_start {T : List Nat} (h : T.all isBl = true) : J T [] "" := fun cs us t _ => toks_blanks h t
theorem J_step {T s : List Nat} {ws : List (Str × Str)} {last k w : Str} (j : J T ws last) (wd : Wd k w) (hs : s.all isBl = true) (hk : s ≠ [] ∨ ¬ ((last = "mark" ∧ k = "mark") ∨ (last ≠ "mark" ∧ k ≠ "mark"))) (k0 : k ≠ "") :
    J (T ++ s ++ tl w) (ws ++ [(k, w)]) k := by
  intro cs us t o
  have o' : Ok k cs := by
    rcases o with o | o
    · exact absurd o k0
    · exact o
  obtain ⟨c, r, e, hb, hm, hn⟩ := wd.hd
  have t1 : Toks (tl w ++ cs) ((k, w) :: us) := by
    have ss := wd.mm cs o'
    have e2 : tl w ++ cs = c :: (r ++ cs) := by rw [e]; rfl
    have e3 := ss
    rw [e2] at e3
    rw [e2]
    exact .word hb e2.symm (by rw [e]; exact List.cons_ne_nil _ _) e3 wd.kd t
  have t2 := toks_blanks hs t1
  have t3 := j (s ++ (tl w ++ cs)) ((k, w) :: us) t2 (by
    cases s with
    | cons b s' =>
      right
      rw [List.all_cons, Bool.and_eq_true] at hs
      exact Or.inl hs.1
    | nil =>
      right
      rw [List.nil_append, e]
      show Ok last (c :: (r ++ cs))
      rcases hk with hk | hk
      · exact absurd rfl hk
      · by_cases hl : last = "mark"
        · have k1 : k ≠ "mark" := fun q => hk (Or.inl ⟨hl, q⟩)
          exact Or.inr (Or.inl ⟨hl, hn k1⟩)
        · have k1 : k = "mark" := by
            apply Classical.byContradiction
            intro q
            exact hk (Or.inr ⟨hl, q⟩)
          exact Or.inr (Or.inr ⟨hl, hm k1⟩))
  rw [List.append_assoc, List.append_assoc, List.append_assoc]
  exact t3
theorem J_end {T : List Nat} {ws : List (Str × Str)} {last : Str} (j : J T ws last) : Toks T ws ∧ Toks (T ++ [32, 10]) ws := by
  have a := j [] [] .nil (Or.inr trivial)
  have b := j [32, 10] [] (.blank rfl (.blank rfl .nil)) (Or.inr (Or.inl rfl))
  rw [List.append_nil, List.append_nil] at a
  rw [List.append_nil] at b
  exact ⟨a, b⟩

/-! ### words of each kind -/
theorem takeWhile_all {p : Nat → Bool} : ∀ {l cs : List Nat}, l.all p = true → (∀ c r, cs = c :: r → p c = false) → (l ++ cs).takeWhile p = l
  | [], [], _, _ => rfl
  | [], c :: r, _, h => by
    have e := h c r rfl
    show (c :: r).takeWhile p = []
    rw [List.takeWhile_cons]
    simp only [e]
    rfl
  | a :: l, cs, hl, h => by
    rw [List.all_cons, Bool.and_eq_true] at hl
    show (a :: (l ++ cs)).takeWhile p = a :: l
    rw [List.takeWhile_cons, if_pos hl.1, takeWhile_all hl.2 h]
theorem ok_let {k : Str} {cs : List Nat} (hk : k ≠ "mark") (o : Ok k cs) : ∀ c r, cs = c :: r → isLet c = false ∧ isFig c = false := by
  intro c r e
  subst e
  rcases o with o | o | o
  · unfold isBl at o
    simp only [Bool.or_eq_true, beq_iff_eq] at o
    rcases o with o | o <;> subst o <;> decide
  · exact absurd o.1 hk
  · have q := o.2
    unfold isAl at q
    rw [Bool.or_eq_false_iff] at q
    exact ⟨q.2, q.1⟩
theorem let_fig {c : Nat} (h : isLet c = true) : isFig c = false ∧ isBl c = false := by
  unfold isLet at h
  unfold isFig isBl
  simp only [Bool.and_eq_true, decide_eq_true_eq] at h
  simp only [Bool.and_eq_false_iff, decide_eq_false_iff_not, Bool.or_eq_false_iff, beq_eq_false_iff_ne]
  omega
theorem fig_let {c : Nat} (h : isFig c = true) : isLet c = false ∧ isBl c = false := by
  unfold isFig at h
  unfold isLet isBl
  simp only [Bool.and_eq_true, decide_eq_true_eq] at h
  simp only [Bool.and_eq_false_iff, decide_eq_false_iff_not, Bool.or_eq_false_iff, beq_eq_false_iff_ne]
  omega
theorem wd_lets {k w : Str} (hk : k ≠ "mark") (kd : kind w = some k) (hn : tl w ≠ []) (ha : (tl w).all isLet = true) : Wd k w := by
  cases e : tl w with
  | nil => exact absurd e hn
  | cons c r =>
    rw [e] at ha
    have hc : isLet c = true := by
      rw [List.all_cons, Bool.and_eq_true] at ha
      exact ha.1
    have ff := let_fig hc
    refine ⟨kd, ⟨c, r, e, ff.2, fun q => absurd q hk, fun _ => by unfold isAl; rw [hc, Bool.or_true]⟩, fun cs o => ?_⟩
    rw [e]
    show (if isFig c then (c :: (r ++ cs)).takeWhile isFig else if isLet c then (c :: (r ++ cs)).takeWhile isLet else _) = c :: r
    rw [if_neg (by rw [ff.1]; exact Bool.false_ne_true), if_pos hc]
    exact takeWhile_all (l := c :: r) ha fun c' r' q => (ok_let hk o c' r' q).1
theorem wd_figs {k w : Str} (hk : k ≠ "mark") (kd : kind w = some k) (hn : tl w ≠ []) (ha : (tl w).all isFig = true) : Wd k w := by
  cases e : tl w with
  | nil => exact absurd e hn
  | cons c r =>
    rw [e] at ha
    have hc : isFig c = true := by
      rw [List.all_cons, Bool.and_eq_true] at ha
      exact ha.1
    have ff := fig_let hc
    refine ⟨kd, ⟨c, r, e, ff.2, fun q => absurd q hk, fun _ => by unfold isAl; rw [hc, Bool.true_or]⟩, fun cs o => ?_⟩
    rw [e]
    show (if isFig c then (c :: (r ++ cs)).takeWhile isFig else _) = c :: r
    rw [if_pos hc]
    exact takeWhile_all (l := c :: r) ha fun c' r' q => (ok_let hk o c' r' q).2

theorem kws_all : ∀ w ∈ kws, (tl w).all isLet = true ∧ tl w ≠ [] := by decide +kernel
def firstOk : List Nat → Bool
  | [] => false
  | c :: r => !isAl c && !isBl c && (decide (r = []) || decide (r = [61]))
theorem mks_first : ∀ w ∈ mks, ∃ c r, tl w = c :: r ∧ isAl c = false ∧ isBl c = false ∧ (r = [] ∨ r = [61]) := by
  intro w hw
  have h : ∀ w ∈ mks, firstOk (tl w) = true := by decide +kernel
  have q := h w hw
  cases e : tl w with
  | nil => rw [e] at q; cases q
  | cons c r =>
    rw [e] at q
    have q' : (!isAl c && !isBl c && (decide (r = []) || decide (r = [61]))) = true := q
    simp only [Bool.and_eq_true, Bool.not_eq_true', Bool.or_eq_true, decide_eq_true_eq] at q'
    exact ⟨c, r, rfl, q'.1.1, q'.1.2, q'.2⟩
theorem mks_kind : ∀ w ∈ mks, w ∉ kws := by decide +kernel
theorem kind_key {w : Str} (h : w ∈ kws) : kind w = some ("key" : Str) := by unfold kind; rw [if_pos h]
theorem kind_mark {w : Str} (h : w ∈ mks) : kind w = some ("mark" : Str) := by unfold kind; rw [if_neg (mks_kind w h), if_pos h]
theorem wd_key {w : Str} (h : w ∈ kws) : Wd "key" w := wd_lets (by decide +kernel) (kind_key h) (kws_all w h).2 (kws_all w h).1
theorem inM_iff {l : List Nat} : inM l = true ↔ ∃ m ∈ mks, tl m = l := by
  unfold inM
  rw [List.any_eq_true]
  constructor
  · rintro ⟨m, hm, e⟩; exact ⟨m, hm, by simpa using e⟩
  · rintro ⟨m, hm, e⟩; exact ⟨m, hm, by simpa using e⟩
/-- no mark of two signs ends in a blank, a letter or a figure -/
theorem no_two {c d : Nat} (h : inM [c, d] = true) : d = 61 := by
  obtain ⟨m, hm, e⟩ := inM_iff.mp h
  obtain ⟨c', r, e1, _, _, hr⟩ := mks_first m hm
  rw [e] at e1
  injection e1 with _ e2
  rcases hr with hr | hr
  · rw [hr] at e2; cases e2
  · rw [hr] at e2; injection e2
theorem wd_mark {w : Str} (h : w ∈ mks) : Wd "mark" w := by
  obtain ⟨c, r, e, ha, hb, hr⟩ := mks_first w h
  have h2 : isFig c = false ∧ isLet c = false := by
    unfold isAl at ha
    rwa [Bool.or_eq_false_iff] at ha
  refine ⟨kind_mark h, ⟨c, r, e, hb, fun _ => ha, fun q => absurd rfl q⟩, fun cs o => ?_⟩
  rw [e]
  show (if isFig c then _ else if isLet c then _ else if inM ((c :: (r ++ cs)).take 2) then (c :: (r ++ cs)).take 2 else [c]) = c :: r
  rw [if_neg (by rw [h2.1]; exact Bool.false_ne_true), if_neg (by rw [h2.2]; exact Bool.false_ne_true)]
  rcases hr with hr | hr
  · subst hr
    cases cs with
    | nil =>
      have q : inM [c] = true := inM_iff.mpr ⟨w, h, e⟩
      show (if inM [c] = true then [c] else [c]) = [c]
      rw [if_pos q]
    | cons d cs =>
      have nd : ¬ d = 61 := by
        intro q
        subst q
        rcases o with o | o | o
        · exact absurd o (by decide)
        · exact absurd o.2 (by decide)
        · exact o.1 rfl
      show (if inM [c, d] = true then [c, d] else [c]) = [c]
      rw [if_neg fun q => nd (no_two q)]
  · subst hr
    have q : inM [c, 61] = true := inM_iff.mpr ⟨w, h, e⟩
    show (if inM [c, 61] = true then [c, 61] else [c]) = [c, 61]
    rw [if_pos q]
theorem not_mark {w : Str} {c : Nat} {r : List Nat} (e : tl w = c :: r) (h : isAl c = true) : w ∉ mks := by
  intro q
  obtain ⟨c', r', e', ha, _⟩ := mks_first w q
  rw [e] at e'
  injection e' with e1 _
  rw [← e1, h] at ha
  cases ha
theorem kind_name {w : Str} (hn : tl w ≠ []) (ha : (tl w).all isLet = true) (hl : (tl w).length ≤ 12) (hk : w ∉ kws) : kind w = some ("name" : Str) := by
  cases e : tl w with
  | nil => exact absurd e hn
  | cons c r =>
    have hc : isLet c = true := by
      rw [e, List.all_cons, Bool.and_eq_true] at ha
      exact ha.1
    unfold kind
    rw [if_neg hk, if_neg (not_mark e (by unfold isAl; rw [hc, Bool.or_true]))]
    rw [e] at hl
    simp only [e, hc, decide_eq_true hl, Bool.and_self, if_true]
theorem wd_name {w : Str} (hn : tl w ≠ []) (ha : (tl w).all isLet = true) (hl : (tl w).length ≤ 12) (hk : w ∉ kws) : Wd "name" w :=
  wd_lets (by decide +kernel) (kind_name hn ha hl hk) hn ha

/-! ### numbers -/
def num (n : Nat) : Str := Str.ofString (toString ((n : Nat) : Int))
theorem tl_num' (n : Nat) : tl (num n) = numL n := tl_num n
theorem numL_fig (n : Nat) : (numL n).all isFig = true := by
  rw [List.all_eq_true]
  intro c hc
  have q := numL_digits n c hc
  unfold isFig
  simp only [Bool.and_eq_true, decide_eq_true_eq]
  omega
theorem numL_ne (n : Nat) : numL n ≠ [] := by
  by_cases h : n < 10
  · rw [numL_lt h]; exact List.cons_ne_nil _ _
  · rw [numL_step (by omega)]
    intro q
    rw [List.append_eq_nil_iff] at q
    cases q.2
theorem numL_first (n : Nat) (h : 0 < n) : ∃ c r, numL n = c :: r ∧ c ≠ 48 := by
  induction n using Nat.strongRecOn with
  | _ n ih =>
    by_cases h1 : n < 10
    · exact ⟨48 + n, [], numL_lt h1, by omega⟩
    · obtain ⟨c, r, e, hc⟩ := ih (n / 10) (by omega) (by omega)
      refine ⟨c, r ++ [48 + n % 10], ?_, hc⟩
      rw [numL_step (by omega), e]
      rfl
theorem numL_len : ∀ (k n : Nat), n < 10 ^ (k + 1) → (numL n).length ≤ k + 1
  | 0, n, h => by rw [numL_lt (by simpa using h)]; exact Nat.le_refl _
  | k + 1, n, h => by
    by_cases h1 : n < 10
    · rw [numL_lt h1]; simp
    · rw [numL_step (by omega), List.length_append, List.length_singleton]
      have h2 : n < 10 ^ (k + 1) * 10 := by rw [← Nat.pow_succ]; exact h
      have q := numL_len k (n / 10) (by omega)
      omega
theorem num_zero : num 0 = "0" := by
  apply ext_tl
  rw [tl_num', numL_lt (by decide)]
  decide +kernel
theorem kws_not_fig {w : Str} {c : Nat} {r : List Nat} (e : tl w = c :: r) (h : isFig c = true) : w ∉ kws := by
  intro q
  have a := (kws_all w q).1
  rw [e, List.all_cons, Bool.and_eq_true] at a
  rw [(fig_let h).1] at a
  cases a.1
theorem kind_num {n : Nat} (h : n < 1000000) : kind (num n) = some ("number" : Str) := by
  have hl : (tl (num n)).length ≤ 6 := by rw [tl_num']; exact numL_len 5 n h
  cases e : tl (num n) with
  | nil =>
    rw [tl_num'] at e
    exact absurd e (numL_ne n)
  | cons c r =>
    have hc : isFig c = true := by
      have a := numL_fig n
      rw [← tl_num', e, List.all_cons, Bool.and_eq_true] at a
      exact a.1
    unfold kind
    rw [if_neg (kws_not_fig e hc), if_neg (not_mark e (by unfold isAl; rw [hc, Bool.true_or]))]
    rw [e] at hl
    simp only [e, (fig_let hc).1, Bool.false_and, hc, Bool.true_and]
    rw [if_neg Bool.false_ne_true]
    by_cases h0 : n = 0
    · subst h0
      have ec : c = 48 := by
        rw [tl_num', numL_lt (by decide)] at e
        injection e with e1 _
        exact e1.symm
      subst ec
      rw [num_zero]
      have e1 : (48 == 48 : Bool) = true := rfl
      rw [if_pos e1, decide_eq_true rfl, if_pos rfl]
    · obtain ⟨c', r', e', hc'⟩ := numL_first n (by omega)
      rw [← tl_num', e] at e'
      injection e' with e1 _
      have hc2 : (c == 48) = false := by rw [e1]; simpa using hc'
      simp only [hc2]
      rw [if_neg Bool.false_ne_true, decide_eq_true hl, if_pos rfl]
theorem wd_num {n : Nat} (h : n < 1000000) : Wd "number" (num n) :=
  wd_figs (by decide +kernel) (kind_num h) (by rw [tl_num']; exact numL_ne n) (by rw [tl_num']; exact numL_fig n)
theorem num_len {n : Nat} (h : n < 1000000) : (num n).length ≤ 6 := by
  rw [len_tl, tl_num']
  exact numL_len 5 n h
end K0

/-! Trees of programs: the data of the drawn trees, and how data lies in the abstract heap. -/
namespace KD
open PySem L2 TL
/-! ### trees -/
inductive Un | neg | not
  deriving DecidableEq
inductive Bi | black | or | and | lt | le | eq | ne | add | sub | mul | div | mod
  deriving DecidableEq
inductive Ex
  | num (n : Nat) | name (x : Str) | rows | cols | un (o : Un) (a : Ex) | bin (o : Bi) (a b : Ex)
inductive St
  | row (e : Ex) | col (e : Ex) | say (e : Ex) | set (x : Str) (e : Ex) | ite (c : Ex) (a b : List St) | whl (c : Ex) (a : List St) | for_ (x : Str) (a b : Ex) (s : List St) | call (f : Str) (es : List Ex) | stop
structure Df where
  name : Str
  args : List Str
  body : List St
structure Pr where
  defs : List Df
  body : List St
def Un.w : Un → Str
  | .neg => "neg" | .not => "not"
def Bi.w : Bi → Str
  | .black => "black" | .or => "or" | .and => "and" | .lt => "<" | .le => "<=" | .eq => "=" | .ne => "!=" | .add => "+" | .sub => "-" | .mul => "*" | .div => "/" | .mod => "mod"
def Ex.d : Ex → PyData
  | .num n => .tuple [.str "num", .int n]
  | .name x => .tuple [.str "name", .str x]
  | .rows => .tuple [.str "rows"]
  | .cols => .tuple [.str "cols"]
  | .un o a => .tuple [.str o.w, a.d]
  | .bin o a b => .tuple [.str o.w, a.d, b.d]
mutual
def St.d : St → PyData
  | .row e => .tuple [.str "row", e.d]
  | .col e => .tuple [.str "col", e.d]
  | .say e => .tuple [.str "say", e.d]
  | .set x e => .tuple [.str "let", .str x, e.d]
  | .ite c a b => .tuple [.str "if", c.d, .tuple (dB a), .tuple (dB b)]
  | .whl c a => .tuple [.str "while", c.d, .tuple (dB a)]
  | .for_ x a b s => .tuple [.str "for", .str x, a.d, b.d, .tuple (dB s)]
  | .call f es => .tuple [.str "do", .str f, .tuple (es.map Ex.d)]
  | .stop => .tuple [.str "stop"]
def dB : List St → List PyData
  | [] => []
  | s :: b => s.d :: dB b
end
theorem dB_append : ∀ (a b : List St), dB (a ++ b) = dB a ++ dB b
  | [], b => rfl
  | s :: a, b => by
    show s.d :: dB (a ++ b) = s.d :: (dB a ++ dB b)
    rw [dB_append a b]
theorem dB_length : ∀ (a : List St), (dB a).length = a.length
  | [] => rfl
  | s :: a => by
    show (dB a).length + 1 = a.length + 1
    rw [dB_length a]
def Df.d (f : Df) : PyData := .tuple [.str f.name, .tuple (f.args.map .str), .tuple (dB f.body)]
def Pr.d (p : Pr) : PyData := .tuple [.tuple (p.defs.map Df.d), .tuple (dB p.body)]

/-! ### what drawn trees keep -/
/-- the names used are among these, the numbers are small -/
def okE (ns : List Str) : Ex → Prop
  | .num n => n < 1000000
  | .name x => x ∈ ns
  | .rows => True
  | .cols => True
  | .un _ a => okE ns a
  | .bin _ a b => okE ns a ∧ okE ns b
def dpE : Ex → Nat
  | .un _ a => dpE a + 1
  | .bin _ a b => max (dpE a) (dpE b) + 1
  | _ => 0
def letN : List Str := ["a", "b", "c", "long"]
def forN : List Str := ["i", "j", "a"]
/-- names known behind a statement -/
def aft (ns : List Str) : St → List Str
  | .set x _ => if x ∈ ns then ns else ns ++ [x]
  | _ => ns
def aftB : List Str → List St → List Str
  | ns, [] => ns
  | ns, s :: b => aftB (aft ns s) b
mutual
/-- a drawn statement: names known, calls that fit, blocks of at most two statements, n deep -/
def okS (ds : List (Str × Nat)) : Nat → List Str → St → Prop
  | _, ns, .row e => okE ns e ∧ dpE e ≤ 1
  | _, ns, .col e => okE ns e ∧ dpE e ≤ 1
  | _, ns, .say e => okE ns e ∧ dpE e ≤ 2
  | _, ns, .set x e => x ∈ letN ∧ okE ns e ∧ dpE e ≤ 2
  | n + 1, ns, .ite c a b => okE ns c ∧ dpE c ≤ 2 ∧ (a.length ≤ 2 ∧ okB ds n ns a) ∧ (b.length ≤ 2 ∧ okB ds n ns b)
  | n + 1, ns, .whl c a => okE ns c ∧ dpE c ≤ 1 ∧ a.length ≤ 2 ∧ okB ds n ns a
  | n + 1, ns, .for_ x a b s => x ∈ forN ∧ (okE ns a ∧ dpE a ≤ 1) ∧ (okE ns b ∧ dpE b ≤ 1) ∧ s.length ≤ 2 ∧ okB ds n (if x ∈ ns then ns else ns ++ [x]) s
  | n + 1, ns, .call f es => (f, es.length) ∈ ds ∧ ∀ e ∈ es, okE ns e ∧ dpE e ≤ 1
  | n + 1, _, .stop => True
  | 0, _, .ite _ _ _ => False
  | 0, _, .whl _ _ => False
  | 0, _, .for_ _ _ _ _ => False
  | 0, _, .call _ _ => False
  | 0, _, .stop => False
def okB (ds : List (Str × Nat)) : Nat → List Str → List St → Prop
  | _, _, [] => True
  | n, ns, s :: b => okS ds n ns s ∧ okB ds n (aft ns s) b
end
theorem aftB_snoc : ∀ (b : List St) (ns : List Str) (s : St), aftB ns (b ++ [s]) = aft (aftB ns b) s
  | [], _, _ => rfl
  | t :: b, ns, s => by
    show aftB (aft ns t) (b ++ [s]) = _
    rw [aftB_snoc b]
    rfl
theorem okB_snoc {ds : List (Str × Nat)} {n : Nat} : ∀ {b : List St} {ns : List Str} {s : St}, okB ds n ns b → okS ds n (aftB ns b) s → okB ds n ns (b ++ [s])
  | [], ns, s, _, h => by
    show okB ds n ns [s]
    unfold okB
    exact ⟨h, by unfold okB; trivial⟩
  | t :: b, ns, s, h, h2 => by
    unfold okB at h
    show okB ds n ns (t :: (b ++ [s]))
    unfold okB
    exact ⟨h.1, okB_snoc (b := b) h.2 h2⟩

/-! ### data in the heap -/
mutual
/-- tuples, texts, numbers, bools and None alone -/
def tupD : PyData → Bool
  | .none => true
  | .bool _ => true
  | .int _ => true
  | .str _ => true
  | .tuple xs => tupDs xs
  | _ => false
def tupDs : List PyData → Bool
  | [] => true
  | x :: xs => tupD x && tupDs xs
end
/-- all tuples that are read are kept -/
def KT (K : PySem.W.Frag) (H H' : Hp) : Prop := ∀ a xs, SqT K H a xs → SqT K H' a xs
theorem KT.refl (K : PySem.W.Frag) (H : Hp) : KT K H H := fun _ _ h => h
theorem KT.trans {K : PySem.W.Frag} {H H1 H2 : Hp} (a : KT K H H1) (b : KT K H1 H2) : KT K H H2 := fun x y h => b x y (a x y h)
theorem KT.of {K : PySem.W.Frag} {H H' : Hp} (h : ∀ a o, H a = some o → (∀ xs, o ≠ .lst xs) → H' a = some o) : KT K H H' := fun a xs q => by
  rcases q with (q | ⟨o, q⟩) | q
  · exact .inl (.inl (h _ _ q (fun _ z => by cases z)))
  · exact .inl (.inr ⟨o, h _ _ q (fun _ z => by cases z)⟩)
  · exact .inr q
theorem KT.same {K : PySem.W.Frag} {H H' : Hp} (h : Same H H') : KT K H H' := KT.of fun a o q _ => h a o q
theorem KT.upd {K : PySem.W.Frag} {H : Hp} {r : Addr} {xs : List V} (h : H r = some (.lst xs)) (o : HO) : KT K H (upd H r o) := KT.of fun a u q n => by
  rw [upd_ne fun e => ?_]
  · exact q
  · rw [e, h] at q
    exact n xs (Option.some.inj q).symm
mutual
theorem Dp.kt {K : PySem.W.Frag} {H H' : Hp} (k : KT K H H') : ∀ {v : V} {d : PyData}, tupD d = true → Dp K H v d → Dp K H' v d
  | _, .none, _, h => by cases h; exact .non
  | _, .bool b, _, h => by cases h; exact .bl b
  | _, .int i, _, h => by cases h; exact .int i
  | _, .str x, _, h => by cases h; exact .str x
  | _, .tuple ds, t, h => by
    cases h with
    | tup h1 h2 => exact .tup (k _ _ h1) (DpAll.kt k (by unfold tupD at t; exact t) h2)
  | _, .list _, t, _ => by unfold tupD at t; cases t
  | _, .dict _, t, _ => by unfold tupD at t; cases t
theorem DpAll.kt {K : PySem.W.Frag} {H H' : Hp} (k : KT K H H') : ∀ {vs : List V} {ds : List PyData}, tupDs ds = true → DpAll K H vs ds → DpAll K H' vs ds
  | _, [], _, h => by cases h; exact .nil
  | _, d :: ds, t, h => by
    unfold tupDs at t
    rw [Bool.and_eq_true] at t
    cases h with
    | cons h1 h2 => exact .cons (Dp.kt k t.1 h1) (DpAll.kt k t.2 h2)
end
mutual
theorem Dp.same {K : PySem.W.Frag} {H H' : Hp} (k : Same H H') : ∀ {v : V} {d : PyData}, Dp K H v d → Dp K H' v d
  | _, .none, h => by cases h; exact .non
  | _, .bool b, h => by cases h; exact .bl b
  | _, .int i, h => by cases h; exact .int i
  | _, .str x, h => by cases h; exact .str x
  | _, .tuple ds, h => by
    cases h with
    | tup h1 h2 => exact .tup (KT.same k _ _ h1) (DpAll.same k h2)
  | _, .list ds, h => by
    cases h with
    | lst h1 h2 => exact .lst (k.seq h1) (DpAll.same k h2)
  | _, .dict _, h => by cases h
theorem DpAll.same {K : PySem.W.Frag} {H H' : Hp} (k : Same H H') : ∀ {vs : List V} {ds : List PyData}, DpAll K H vs ds → DpAll K H' vs ds
  | _, [], h => by cases h; exact .nil
  | _, d :: ds, h => by
    cases h with
    | cons h1 h2 => exact .cons (Dp.same k h1) (DpAll.same k h2)
end
theorem DpAll.length {K : PySem.W.Frag} {H : Hp} : ∀ {vs : List V} {ds : List PyData}, DpAll K H vs ds → vs.length = ds.length
  | _, [], h => by cases h; rfl
  | _, d :: ds, h => by
    cases h with
    | cons h1 h2 => rw [List.length_cons, List.length_cons, DpAll.length h2]
theorem DpAll.snoc {K : PySem.W.Frag} {H : Hp} {v : V} {d : PyData} (h : Dp K H v d) : ∀ {vs : List V} {ds : List PyData}, DpAll K H vs ds → DpAll K H (vs ++ [v]) (ds ++ [d])
  | _, [], h2 => by cases h2; exact .cons h .nil
  | _, e :: ds, h2 => by
    cases h2 with
    | cons h3 h4 => exact .cons h3 (DpAll.snoc h h4)
theorem DpAll.get {K : PySem.W.Frag} {H : Hp} : ∀ {vs : List V} {ds : List PyData} {i : Nat} {v : V}, DpAll K H vs ds → vs[i]? = some v → ∃ d, ds[i]? = some d ∧ Dp K H v d
  | _, [], i, v, h, e => by cases h; simp at e
  | _, d :: ds, 0, v, h, e => by
    cases h with
    | cons h1 h2 => exact ⟨d, rfl, by have := Option.some.inj e; subst this; exact h1⟩
  | _, d :: ds, i + 1, v, h, e => by
    cases h with
    | cons h1 h2 => exact DpAll.get (i := i) h2 e
theorem tupDs_append : ∀ (a b : List PyData), tupDs (a ++ b) = (tupDs a && tupDs b)
  | [], b => by rw [List.nil_append]; unfold tupDs; cases b <;> rfl
  | x :: a, b => by
    show (tupD x && tupDs (a ++ b)) = ((tupD x && tupDs a) && tupDs b)
    rw [tupDs_append a b, Bool.and_assoc]
theorem tupD_E : ∀ e : Ex, tupD e.d = true
  | .num _ => rfl
  | .name _ => rfl
  | .rows => rfl
  | .cols => rfl
  | .un o a => by
    show (true && (tupD a.d && true)) = true
    rw [tupD_E a]; rfl
  | .bin o a b => by
    show (true && (tupD a.d && (tupD b.d && true))) = true
    rw [tupD_E a, tupD_E b]; rfl
theorem tupDs_E : ∀ es : List Ex, tupDs (es.map Ex.d) = true
  | [] => rfl
  | e :: es => by
    show (tupD e.d && tupDs (es.map Ex.d)) = true
    rw [tupD_E e, tupDs_E es]; rfl
theorem tupDs_str : ∀ es : List Str, tupDs (es.map PyData.str) = true
  | [] => rfl
  | e :: es => by
    show (true && tupDs (es.map PyData.str)) = true
    rw [tupDs_str es]; rfl
mutual
theorem tupD_S : ∀ s : St, tupD s.d = true
  | .row e => by show (true && (tupD e.d && true)) = true; rw [tupD_E e]; rfl
  | .col e => by show (true && (tupD e.d && true)) = true; rw [tupD_E e]; rfl
  | .say e => by show (true && (tupD e.d && true)) = true; rw [tupD_E e]; rfl
  | .set x e => by show (true && (true && (tupD e.d && true))) = true; rw [tupD_E e]; rfl
  | .ite c a b => by show (true && (tupD c.d && (tupDs (dB a) && (tupDs (dB b) && true)))) = true; rw [tupD_E c, tupD_B a, tupD_B b]; rfl
  | .whl c a => by show (true && (tupD c.d && (tupDs (dB a) && true))) = true; rw [tupD_E c, tupD_B a]; rfl
  | .for_ x a b s => by show (true && (true && (tupD a.d && (tupD b.d && (tupDs (dB s) && true))))) = true; rw [tupD_E a, tupD_E b, tupD_B s]; rfl
  | .call f es => by show (true && (true && (tupDs (es.map Ex.d) && true))) = true; rw [tupDs_E es]; rfl
  | .stop => rfl
theorem tupD_B : ∀ b : List St, tupDs (dB b) = true
  | [] => rfl
  | s :: b => by
    show (tupD s.d && tupDs (dB b)) = true
    rw [tupD_S s, tupD_B b]; rfl
end
/-- two, three things in a new tuple -/
theorem Dp.new {K : PySem.W.Frag} {H : Hp} {p : Addr} {vs : List V} {ds : List PyData} (hp : H p = none) (h : DpAll K H vs ds) : Dp K (upd H p (.tup vs)) (.ref p) (.tuple ds) :=
  .tup (SqT.of upd_same) (KD.DpAll.same (fun b o q => by rw [upd_ne (ne_of_none q hp)]; exact q) h)
end KD

namespace KD
open PySem L2 TL
def top (i : Nat) : Stmt := PySem.Challenge.pw_strokes_k00_whole_words.main.body.getD i (.Pass ⟨0, 0, 0, 0⟩)
abbrev S_InvalidText___init__ : Stmt := inClass (top 3) 0
abbrev S_words : Stmt := top 13
abbrev S_placed_words : Stmt := top 14
abbrev S_check_text : Stmt := top 15
abbrev S_word_at : Stmt := top 16
abbrev S_signs_at : Stmt := top 17
abbrev S_run_end : Stmt := top 18
abbrev S_kind_of : Stmt := top 19
abbrev S_is_number : Stmt := top 20
abbrev S__law_taken : Stmt := top 22
abbrev S__law_pick : Stmt := top 23
abbrev S__law_alike : Stmt := top 24
abbrev S_law : Stmt := top 25
end KD

/-! The law's own drawing of programs: each def walked once. -/
namespace KD
open PySem L2 TL
/-- the built-ins' names are free -/
structure Blt (mg : Str → Option Value) : Prop where
  len : mg "len" = none
  int : mg "int" = none
  isi : mg "isinstance" = none
  str : mg "str" = none
  tup : mg "tuple" = none
  list : mg "list" = none
  range : mg "range" = none
  bool : mg "bool" = none
/-! ### the row of draws -/
def rowO (s : Addr) (i a b : Int) : HO := .lst [.ref s, .int i, .int a, .int b]
def RowAt (H : Hp) (r s : Addr) : Prop := ∃ i a b : Int, H r = some (rowO s i a b) ∧ 0 ≤ i ∧ 0 ≤ a ∧ a < 2147483647
/-- all that was tracked is kept, but at r -/
def Keep (r : Addr) (H H' : Hp) : Prop := ∀ b o, b ≠ r → H b = some o → H' b = some o
theorem Keep.refl (r : Addr) (H : Hp) : Keep r H H := fun _ _ _ h => h
theorem Keep.trans {r : Addr} {H H1 H2 : Hp} (a : Keep r H H1) (b : Keep r H1 H2) : Keep r H H2 := fun c o n h => b c o n (a c o n h)
theorem Keep.upd (r : Addr) (H : Hp) (o : HO) : Keep r H (upd H r o) := fun b u n h => by rw [upd_ne n]; exact h
theorem Keep.new {r p : Addr} {H : Hp} (h : H p = none) (o : HO) : Keep r H (L2.upd H p o) := fun b u _ q => by rw [upd_ne (ne_of_none q h)]; exact q
def Scr (K : PySem.W.Frag) (H : Hp) (r s : Addr) : Prop := ∃ ns : List Int, ns.length ≤ 63 ∧ ∀ H', Keep r H H' → SqL K H' s (ns.map V.int)
theorem Scr.mono {K : PySem.W.Frag} {H H' : Hp} {r s : Addr} (h : Scr K H r s) (k : Keep r H H') : Scr K H' r s := by
  obtain ⟨ns, h1, h2⟩ := h
  exact ⟨ns, h1, fun H2 k2 => h2 H2 (k.trans k2)⟩
theorem upd2 {H : Hp} {r : Addr} {o u : HO} : upd (upd H r o) r u = upd H r u := upd_upd

/-! ### promises -/
def spTaken (K : PySem.W.Frag) : Sp := fun vs H Q _ => ∃ (r s : Addr) (many : Int), vs = [.ref r, .int many] ∧ RowAt H r s ∧ Scr K H r s ∧ 1 ≤ many ∧ many ≤ 1000000 ∧
  ∀ (H' : Hp) (v : Int), Keep r H H' → RowAt H' r s → 0 ≤ v → v < many → Q (.int v) H'
def spPick (K : PySem.W.Frag) : Sp := fun vs H Q _ => ∃ (r s : Addr) (x : V), vs = [.ref r, x] ∧ RowAt H r s ∧ Scr K H r s ∧
  ((∃ (p : Addr) (xs : List V), x = .ref p ∧ p ≠ r ∧ H p = some (.lst xs) ∧ 1 ≤ xs.length ∧ xs.length ≤ 1000 ∧ ∀ (H' : Hp) (v : V), Keep r H H' → RowAt H' r s → v ∈ xs → Q v H') ∨
   (∃ z : Str, x = .str z ∧ 1 ≤ z.length ∧ z.length ≤ 1000 ∧ ∀ (H' : Hp) (c : Nat), Keep r H H' → RowAt H' r s → c ∈ tl z → Q (.str ⟨#[c]⟩) H'))

section
variable {P : Program} {w : World} {K : PySem.W.Frag} {mg : Str → Option Value} {base : Heap}
theorem scTaken : FnScope ["row", "many", "found", "cell"] ["row", "many"] (defScope S__law_taken) := ⟨rfl, rfl, rfl, by decide +kernel, rfl, by decide +kernel, by decide +kernel⟩
theorem ok_taken {f : Addr} {fd : FuncData} (F : Fun K "_law_taken" "_law_taken" S__law_taken f fd) (T : Blt mg) : FnOk P w K mg base CX0 1 f fd ["row", "many"] (spTaken K) := by
  refine F.ok scTaken (fun vs H Q E h => ?_) (fun cdv A outer s0 H vs Q E hr h => ?_)
  · obtain ⟨r, s, many, rfl, _⟩ := h
    rfl
  obtain ⟨r, s, many, rfl, ⟨i, a, b, hR, hi, ha, ha2⟩, ⟨ns, hns, hS⟩, hm1, hm2, k⟩ := h
  refine ⟨_, pss_cons (ps_if (pt_cmpR op_gt (pe_ix ix_list (pv 0) pe_int (fun _ _ => rfl)) pe_int (nomark _))
      (pss_cons (ps_set (i := 2) scTaken.nd rfl (Or.inl rfl) (pe_op op_mod (pe_callTy call_int1 (by rfl) T.int (by decide +kernel) (pa_cons (pe_ix ix_list (pv 0) pe_int (fun _ _ => rfl)) pa_nil)) (pv 1)))
      (pss_cons (ps_asg (pe_op op_fdiv (pe_ix ix_list (pv 0) pe_int (fun _ _ => rfl)) (pv 1)) (pg_sub (pv 0) pe_int set_list))
      (pss_one (ps_ret (pv 2))))) pss_nil)
    (pss_cons (ps_asg (pe_op op_add (pe_ix ix_list (pv 0) pe_int (fun _ _ => rfl)) pe_int) (pg_sub (pv 0) pe_int set_list))
    (pss_cons (ps_if (pt_cmpR op_gt (pe_ix ix_list (pv 0) pe_int (fun _ _ => rfl)) (pe_callB call_len_seq (by rfl) T.len PySem.boot_len (pa_cons (pe_ix ix_list (pv 0) pe_int (fun _ _ => rfl)) pa_nil)) (nomark _))
      (pss_cons (ps_asg (pe_op op_mod (pe_callTy call_int1 (by rfl) T.int (by decide +kernel) (pa_cons (pe_op op_add (pe_op op_mul (pe_ix ix_list (pv 0) pe_int (fun _ _ => rfl)) pe_int) pe_int) pa_nil)) pe_int) (pg_sub (pv 0) pe_int set_list))
      (pss_one (ps_ret (pe_op op_mod (pe_callTy call_int1 (by rfl) T.int (by decide +kernel) (pa_cons (pe_op op_fdiv (pe_ix ix_list (pv 0) pe_int (fun _ _ => rfl)) pe_int) pa_nil)) (pv 1))))) pss_nil)
    (pss_cons (ps_set (i := 3) scTaken.nd rfl (Or.inl rfl) (pe_ix ix_list (pe_ix ix_list (pv 0) pe_int (fun _ _ => rfl)) (pe_op op_sub (pe_ix ix_list (pv 0) pe_int (fun _ _ => rfl)) pe_int) (fun _ _ => rfl)))
    (pss_cons (ps_asg (pe_op op_mod (pe_callTy call_int1 (by rfl) T.int (by decide +kernel) (pa_cons (pe_op op_add (pe_op op_add (pe_op op_mul (pe_ix ix_list (pv 0) pe_int (fun _ _ => rfl)) pe_int) (pv 3)) pe_int) pa_nil)) pe_int) (pg_sub (pv 0) pe_int set_list))
    (pss_cons (ps_if (pt_cmpR op_ge (pv 3) (pe_op op_pow pe_int pe_int) (nomark _))
      (pss_one (ps_asg (pe_op op_fdiv (pv 3) (pv 1)) (pg_sub (pv 0) pe_int set_list))) pss_nil)
    (pss_one (ps_ret (pe_op op_mod (pe_callTy call_int1 (by rfl) T.int (by decide +kernel) (pa_cons (pv 3) pa_nil)) (pv 1))))))))), ?_⟩
  have hm : (0 : Int) < many := by omega
  have hdv : (0 : Int) < many ∧ many < 1073741824 := ⟨hm, by omega⟩
  -- row[3] > 0
  refine ⟨_, rfl, r, _, _, _, rfl, rfl, SqL.of hR, rfl, _, _, rfl, rfl, _, rfl, ?_⟩
  refine ite2 (fun c => ?_) (fun c => ?_)
  · have hb : b > 0 := of_decide_eq_true c
    refine ⟨_, rfl, r, _, _, _, rfl, rfl, SqL.of hR, rfl, .inl ⟨_, rfl, _, rfl, _, _, rfl, rfl, hm, ?_⟩⟩
    refine ⟨_, rfl, r, _, _, _, rfl, rfl, SqL.of hR, rfl, _, rfl, _, _, rfl, rfl, hdv, _, rfl, r, _, _, 3, rfl, rfl, hR, rfl, ?_⟩
    refine ⟨_, rfl, ?_⟩
    exact k _ _ (Keep.upd r H _) ⟨i, a, b / many, upd_same, hi, ha, ha2⟩ (Int.emod_nonneg _ (by omega)) (Int.emod_lt_of_pos _ hm)
  · -- row[1] = row[1] + 1
    refine ⟨_, rfl, r, _, _, _, rfl, rfl, SqL.of hR, rfl, _, _, rfl, rfl, _, rfl, r, _, _, 1, rfl, rfl, hR, rfl, ?_⟩
    have k1 : Keep r H (upd H r (rowO s (i + 1) a b)) := Keep.upd r H _
    have hR1 : (upd H r (rowO s (i + 1) a b)) r = some (.lst [.ref s, .int (i + 1), .int a, .int b]) := upd_same
    have hS1 := hS _ k1
    -- if row[1] > len(row[0])
    refine ⟨_, rfl, r, _, _, _, rfl, rfl, SqL.of hR1, rfl, _, rfl, r, _, _, _, rfl, rfl, SqL.of hR1, rfl, s, _, rfl, .inl hS1, _, _, rfl, rfl, _, rfl, ?_⟩
    refine ite2 (fun c1 => ?_) (fun c1 => ?_)
    · refine ⟨_, rfl, r, _, _, _, rfl, rfl, SqL.of hR1, rfl, _, _, rfl, rfl, .inl ⟨by omega, by omega⟩, _, _, rfl, rfl, .inl ⟨_, rfl, _, _, rfl, rfl, (by show (0 : Int) < 2147483647; decide), _, rfl, r, _, _, 2, rfl, rfl, hR1, rfl, ?_⟩⟩
      rw [upd2]
      have hR2 : (upd H r (.lst [.ref s, .int (i + 1), .int ((a * 48271 + 11) % 2147483647), .int b])) r = some (.lst [.ref s, .int (i + 1), .int ((a * 48271 + 11) % 2147483647), .int b]) := upd_same
      refine ⟨_, rfl, r, _, _, _, rfl, rfl, SqL.of hR2, rfl, _, _, rfl, rfl, ⟨by decide, by decide⟩, .inl ⟨_, rfl, _, rfl, _, _, rfl, rfl, hm, ?_⟩⟩
      exact k _ _ (Keep.upd r H _) ⟨i + 1, (a * 48271 + 11) % 2147483647, b, upd_same, by omega, by omega, by omega⟩ (Int.emod_nonneg _ (by omega)) (Int.emod_lt_of_pos _ hm)
    · have c1' : ¬ (i + 1 > (((ns.map V.int).length : Nat) : Int)) := of_decide_eq_false (Bool.eq_false_iff.mpr c1)
      rw [List.length_map] at c1'
      have hlt : i.toNat < ns.length := by omega
      have ei : i + 1 - 1 = ((i.toNat : Nat) : Int) := by omega
      have q : atI (ns.map V.int) (i + 1 - 1) = some (.int ns[i.toNat]) := by
        rw [ei]
        exact atI_nat (by rw [List.getElem?_map, List.getElem?_eq_getElem hlt] <;> rfl)
      generalize ns[i.toNat] = cell at q
      refine ⟨_, rfl, r, _, _, _, rfl, rfl, SqL.of hR1, rfl, _, rfl, r, _, _, _, rfl, rfl, SqL.of hR1, rfl, _, _, rfl, rfl, s, _, _, _, rfl, rfl, hS1, q, ?_⟩
      refine ⟨_, rfl, r, _, _, _, rfl, rfl, SqL.of hR1, rfl, _, _, rfl, rfl, .inl ⟨by omega, by omega⟩, _, rfl, _, _, rfl, rfl, _, _, rfl, rfl, .inl ⟨_, rfl, _, _, rfl, rfl, (by show (0 : Int) < 2147483647; decide), _, rfl, r, _, _, 2, rfl, rfl, hR1, rfl, ?_⟩⟩
      rw [upd2]
      have hR2 : (upd H r (.lst [.ref s, .int (i + 1), .int ((a * 48271 + cell + 11) % 2147483647), .int b])) r = some (.lst [.ref s, .int (i + 1), .int ((a * 48271 + cell + 11) % 2147483647), .int b]) := upd_same
      refine ⟨_, rfl, _, _, rfl, rfl, ⟨by decide, by decide, by decide⟩, _, _, rfl, rfl, _, rfl, ?_⟩
      refine ite2 (fun c2 => ?_) (fun c2 => ?_)
      · refine ⟨_, rfl, _, rfl, _, _, rfl, rfl, hdv, _, rfl, r, _, _, 3, rfl, rfl, hR2, rfl, ?_⟩
        rw [upd2]
        refine ⟨_, rfl, .inl ⟨_, rfl, _, rfl, _, _, rfl, rfl, hm, ?_⟩⟩
        exact k _ _ (Keep.upd r H _) ⟨i + 1, (a * 48271 + cell + 11) % 2147483647, cell / many, upd_same, by omega, by omega, by omega⟩ (Int.emod_nonneg _ (by omega)) (Int.emod_lt_of_pos _ hm)
      · refine ⟨_, rfl, .inl ⟨_, rfl, _, rfl, _, _, rfl, rfl, hm, ?_⟩⟩
        exact k _ _ (Keep.upd r H _) ⟨i + 1, (a * 48271 + cell + 11) % 2147483647, b, upd_same, by omega, by omega, by omega⟩ (Int.emod_nonneg _ (by omega)) (Int.emod_lt_of_pos _ hm)
/-! ### _law_pick -/
theorem scPick : FnScope ["row", "things"] ["row", "things"] (defScope S__law_pick) := ⟨rfl, rfl, rfl, by decide +kernel, rfl, by decide +kernel, by decide +kernel⟩
theorem atI_int {α : Type} {xs : List α} {v : Int} (h0 : 0 ≤ v) (h1 : v < xs.length) : ∃ y, atI xs v = some y ∧ y ∈ xs := by
  have hlt : v.toNat < xs.length := by omega
  have e : v = ((v.toNat : Nat) : Int) := by omega
  refine ⟨xs[v.toNat], ?_, List.getElem_mem hlt⟩
  have q : atI xs ((v.toNat : Nat) : Int) = some xs[v.toNat] := atI_nat (List.getElem?_eq_getElem hlt)
  rw [← e] at q
  exact q
theorem ok_pick {f fT : Addr} {fd fdT : FuncData} (F : Fun K "_law_pick" "_law_pick" S__law_pick f fd) (T : Blt mg) (GT : FnOk P w K mg base CX0 1 fT fdT ["row", "many"] (spTaken K)) (mT : mg "_law_taken" = some (.ref fT)) (kT : PySem.W.keepIn K (.ref fT) = true) (bT : Binds K fdT ["row", "many"] []) :
    FnOk P w K mg base CX0 2 f fd ["row", "things"] (spPick K) := by
  refine F.ok scPick (fun vs H Q E h => ?_) (fun cdv A outer s0 H vs Q E hr h => ?_)
  · obtain ⟨r, s, x, rfl, _⟩ := h
    rfl
  obtain ⟨r, s, x, rfl, hR, hS, h⟩ := h
  rcases h with ⟨p, xs, rfl, hpr, hp, hl1, hl2, k⟩ | ⟨z, rfl, hl1, hl2, k⟩
  · refine ⟨_, pss_one (ps_ret (pe_ix ix_list (pv 1) (pe_call GT hr rfl mT kT bT .nil pass0 (pa_cons (pv 0) (pa_cons (pe_callB call_len_seq (by rfl) T.len PySem.boot_len (pa_cons (pv 1) pa_nil)) pa_nil))) (fun _ _ => rfl))), ?_⟩
    refine ⟨_, rfl, _, rfl, _, rfl, p, xs, rfl, .inl (SqL.of hp), r, s, (xs.length : Int), rfl, hR, hS, by omega, by omega, fun H' v kp hR' h0 h1 => ?_⟩
    obtain ⟨y, hy, my⟩ := atI_int (xs := xs) h0 h1
    exact ⟨p, xs, v, y, rfl, rfl, SqL.of (kp p _ hpr hp), hy, k H' y kp hR' my⟩
  · refine ⟨_, pss_one (ps_ret (pe_ix ix_str (pv 1) (pe_call GT hr rfl mT kT bT .nil pass0 (pa_cons (pv 0) (pa_cons (pe_callB call_len_str (by rfl) T.len PySem.boot_len (pa_cons (pv 1) pa_nil)) pa_nil))) (fun _ _ => rfl))), ?_⟩
    have hz : z.length ≤ sizeLine := Nat.le_trans hl2 (by decide)
    refine ⟨_, rfl, _, rfl, _, rfl, z, rfl, hz, r, s, (z.length : Int), rfl, hR, hS, by omega, by omega, fun H' v kp hR' h0 h1 => ?_⟩
    obtain ⟨c, hc, mc⟩ := atI_int (xs := tl z) h0 (by rw [← len_tl]; exact h1)
    exact ⟨z, v, c, rfl, rfl, hz, hc, k H' c kp hR' mc⟩

/-! ### expressions -/
def allN : List Str := ["a", "b", "c", "long", "i", "j", "p", "q"]
def nmsOk (ns : List Str) : Prop := ∀ x ∈ ns, x ∈ allN
theorem allN_ok : ∀ x ∈ allN, PyData.strOk x = true := by decide +kernel
theorem dp_strs {H : Hp} : ∀ l : List Str, DpAll K H (l.map V.str) (l.map PyData.str)
  | [] => .nil
  | x :: l => .cons (.str x) (dp_strs l)
theorem lay_strs : ∀ {l : List Str}, nmsOk l → PyData.canLayAll0 (l.map PyData.str) = true
  | [], _ => rfl
  | x :: l, h => by
    show (PyData.strOk x && PyData.canLayAll0 (l.map PyData.str)) = true
    rw [allN_ok x (h x List.mem_cons_self), lay_strs (l := l) fun y hy => h y (List.mem_cons_of_mem _ hy)]
    rfl
theorem depth_strs : ∀ (l : List Str), PyData.depthAll (l.map PyData.str) ≤ 1
  | [] => by decide
  | x :: l => by
    have ih := depth_strs l
    show max (PyData.depth (.str x)) (PyData.depthAll (l.map PyData.str)) ≤ 1
    have : PyData.depth (.str x) ≤ 1 := by first | decide | exact Nat.le_refl _ | simp [PyData.depth]
    omega
theorem shaped_strs {l : List Str} (h : nmsOk l) : SeqAt.shaped (.list (l.map PyData.str)) = true := by
  unfold SeqAt.shaped
  rw [Bool.and_eq_true, decide_eq_true_iff]
  refine ⟨lay_strs h, ?_⟩
  have := depth_strs l
  show PyData.depthAll (l.map PyData.str) + 1 ≤ 64
  omega
theorem eqv_nil : ∀ l : List PyData, PyData.eqv (.list l) (.list []) = l.isEmpty
  | [] => rfl
  | x :: l => by rw [PyData.eqv]; rfl
theorem RowAt.is {H : Hp} {r s : Addr} (h : RowAt H r s) : ∃ xs, H r = some (.lst xs) := by
  obtain ⟨i, a, b, h, _⟩ := h
  exact ⟨_, h⟩
theorem RowAt.new {H : Hp} {r s p : Addr} (h : RowAt H r s) (hp : H p = none) (o : HO) : RowAt (upd H p o) r s := by
  obtain ⟨i, a, b, h, h2⟩ := h
  exact ⟨i, a, b, by rw [upd_ne (ne_of_none h hp)]; exact h, h2⟩
theorem RowAt.ne {H : Hp} {r s p : Addr} (h : RowAt H r s) (hp : H p = none) : p ≠ r := by
  obtain ⟨xs, h⟩ := h.is
  exact (ne_of_none h hp).symm
theorem RowAt.kt {H H' : Hp} {r s : Addr} (h : RowAt H r s) (k : Keep r H H') : KT K H H' := by
  obtain ⟨xs, hx⟩ := h.is
  exact KT.of fun a o q n => k a o (fun e => by rw [e, hx] at q; exact n xs (Option.some.inj q).symm) q
theorem in_strs (w : Str) : ∀ l : List Str, inV (.str w) (l.map V.str) = decide (w ∈ l)
  | [] => by simp [inV]
  | a :: l => by
    have ih := in_strs w l
    unfold inV at ih ⊢
    rw [List.map_cons, List.any_cons, ih]
    have e : eqV (.str a) (.str w) = decide (a = w) := by
      show (a == w) = _
      rw [Bool.eq_iff_iff]
      simp
    rw [e, Bool.eq_iff_iff]
    simp only [Bool.or_eq_true, decide_eq_true_eq, List.mem_cons]
    constructor
    · rintro (h | h)
      · exact Or.inl h.symm
      · exact Or.inr h
    · rintro (h | h)
      · exact Or.inl h.symm
      · exact Or.inr h
theorem flat_strs (l : List Str) : (l.map V.str).all flatV = true := by
  rw [List.all_eq_true]
  intro x hx
  obtain ⟨s, _, rfl⟩ := List.mem_map.mp hx
  rfl
theorem strs_mem {v : V} {l : List Str} (h : v ∈ l.map V.str) : ∃ k, v = .str k ∧ k ∈ l := by
  obtain ⟨k, hk, e⟩ := List.mem_map.mp h
  exact ⟨k, e.symm, hk⟩
def numN : List Nat := [0, 1, 1, 2, 2, 3, 4, 7, 31, 999999]
theorem num_mem {v : V} (h : v ∈ numN.map fun n => V.int ((n : Nat) : Int)) : ∃ n : Nat, v = .int ((n : Nat) : Int) ∧ n < 1000000 := by
  obtain ⟨n, hn, e⟩ := List.mem_map.mp h
  exact ⟨n, e.symm, (by decide : ∀ n ∈ numN, n < 1000000) n hn⟩
def un2 : List Str := ["neg", "not"]
def bi13 : List Str := ["or", "and", "<", "<=", "=", "!=", "+", "-", "+", "-", "*", "/", "mod"]
theorem un_mem : ∀ x ∈ un2, ∃ o : Un, o.w = x := by
  intro x hx
  simp only [un2, List.mem_cons, List.not_mem_nil, or_false] at hx
  rcases hx with rfl | rfl
  · exact ⟨.neg, rfl⟩
  · exact ⟨.not, rfl⟩
theorem bi_mem : ∀ x ∈ bi13, ∃ o : Bi, o.w = x := by
  intro x hx
  simp only [bi13, List.mem_cons, List.not_mem_nil, or_false] at hx
  rcases hx with rfl | rfl | rfl | rfl | rfl | rfl | rfl | rfl | rfl | rfl | rfl | rfl | rfl
  · exact ⟨.or, rfl⟩
  · exact ⟨.and, rfl⟩
  · exact ⟨.lt, rfl⟩
  · exact ⟨.le, rfl⟩
  · exact ⟨.eq, rfl⟩
  · exact ⟨.ne, rfl⟩
  · exact ⟨.add, rfl⟩
  · exact ⟨.sub, rfl⟩
  · exact ⟨.add, rfl⟩
  · exact ⟨.sub, rfl⟩
  · exact ⟨.mul, rfl⟩
  · exact ⟨.div, rfl⟩
  · exact ⟨.mod, rfl⟩
end
end KD

/-! The words of printed programs. -/
namespace KD
open PySem L2 TL
open K0 (isFig isLet isAl isBl kws mks sigs kind Toks inM num)
abbrev Tk := Str × Str
/-- what may stand behind the text so far -/
inductive F3 | free | mark | word | both
def Fol (f : F3) : List Nat → Prop
  | [] => True
  | c :: _ => match f with
    | .free => True
    | .mark => c ≠ 61
    | .word => isAl c = false
    | .both => c ≠ 61 ∧ isAl c = false
theorem Fol.bl {f : F3} {c : Nat} {r : List Nat} (h : isBl c = true) : Fol f (c :: r) := by
  have q : isAl c = false ∧ c ≠ 61 := by
    unfold isBl at h
    simp only [Bool.or_eq_true, beq_iff_eq] at h
    rcases h with h | h <;> subst h <;> exact ⟨by decide, by decide⟩
  cases f with
  | free => exact trivial
  | mark => exact q.2
  | word => exact q.1
  | both => exact ⟨q.2, q.1⟩
/-- the text T, cut so far into ws -/
def J (T : List Nat) (ws : List Tk) (f : F3) : Prop := ∀ cs us, Toks cs us → Fol f cs → Toks (T ++ cs) (ws ++ us)
theorem J.nil : J [] [] .free := fun cs us t _ => t
theorem J.weak {T : List Nat} {ws : List Tk} {f g : F3} (j : J T ws f) (h : ∀ cs, Fol g cs → Fol f cs) : J T ws g := fun cs us t o => j cs us t (h cs o)
theorem Fol.of_both {f : F3} (hf : f ≠ .free → True) : ∀ cs, Fol .both cs → Fol f cs
  | [], _ => trivial
  | c :: r, h => by
    cases f with
    | free => exact trivial
    | mark => exact h.1
    | word => exact h.2
    | both => exact h
theorem J.both {T : List Nat} {ws : List Tk} {f : F3} (j : J T ws f) : J T ws .both := j.weak (Fol.of_both fun _ => trivial)
theorem J.blank {T s : List Nat} {ws : List Tk} {f : F3} (j : J T ws f) (hs : s.all isBl = true) (hn : s ≠ []) : J (T ++ s) ws .free := fun cs us t _ => by
  rw [List.append_assoc]
  refine j _ _ (K0.toks_blanks hs t) ?_
  cases s with
  | nil => exact absurd rfl hn
  | cons c r =>
    rw [List.all_cons, Bool.and_eq_true] at hs
    exact Fol.bl hs.1
/-- a word that is cut out whole where what follows allows it -/
structure Wd (f : F3) (k w : Str) : Prop where
  kd : kind w = some k
  hd : ∃ c r, tl w = c :: r ∧ isBl c = false
  mm : ∀ cs, Fol f cs → sigs (tl w ++ cs) = tl w
theorem J.step {T : List Nat} {ws : List Tk} {f g : F3} {k w : Str} (j : J T ws f) (wd : Wd g k w) (o : Fol f (tl w)) : J (T ++ tl w) (ws ++ [(k, w)]) g := fun cs us t o2 => by
  obtain ⟨c, r, e, hb⟩ := wd.hd
  have t1 : Toks (tl w ++ cs) ((k, w) :: us) := by
    have ss := wd.mm cs o2
    have e2 : tl w ++ cs = c :: (r ++ cs) := by rw [e]; rfl
    have e3 := ss
    rw [e2] at e3
    rw [e2]
    exact .word hb e2.symm (by rw [e]; exact List.cons_ne_nil _ _) e3 wd.kd t
  have t2 := j _ _ t1 (by
    rw [e] at o ⊢
    exact o)
  rw [List.append_assoc, List.append_assoc]
  exact t2
theorem Wd.of {k w : Str} (hk : k ≠ "mark") (h : K0.Wd k w) : Wd .word k w := by
  obtain ⟨c, r, e, hb, _, _⟩ := h.hd
  refine ⟨h.kd, ⟨c, r, e, hb⟩, fun cs o => h.mm cs ?_⟩
  cases cs with
  | nil => trivial
  | cons d cs => exact Or.inr (Or.inr ⟨hk, o⟩)
theorem Wd.key {w : Str} (h : w ∈ kws) : Wd .word "key" w := Wd.of (by decide +kernel) (K0.wd_key h)
theorem Wd.name {w : Str} (hn : tl w ≠ []) (ha : (tl w).all isLet = true) (hl : (tl w).length ≤ 12) (hk : w ∉ kws) : Wd .word "name" w := Wd.of (by decide +kernel) (K0.wd_name hn ha hl hk)
theorem Wd.num {n : Nat} (h : n < 1000000) : Wd .word "number" (num n) := Wd.of (by decide +kernel) (K0.wd_num h)
theorem Wd.mark {w : Str} (h : w ∈ mks) : Wd .mark "mark" w := by
  obtain ⟨c, r, e, ha, hb, hr⟩ := K0.mks_first w h
  have h2 : isFig c = false ∧ isLet c = false := by
    unfold isAl at ha
    rwa [Bool.or_eq_false_iff] at ha
  refine ⟨K0.kind_mark h, ⟨c, r, e, hb⟩, fun cs o => ?_⟩
  rw [e]
  show (if isFig c then _ else if isLet c then _ else if inM ((c :: (r ++ cs)).take 2) then (c :: (r ++ cs)).take 2 else [c]) = c :: r
  rw [if_neg (by rw [h2.1]; exact Bool.false_ne_true), if_neg (by rw [h2.2]; exact Bool.false_ne_true)]
  rcases hr with hr | hr
  · subst hr
    cases cs with
    | nil =>
      have q : inM [c] = true := K0.inM_iff.mpr ⟨w, h, e⟩
      show (if inM [c] = true then [c] else [c]) = [c]
      rw [if_pos q]
    | cons d cs =>
      show (if inM [c, d] = true then [c, d] else [c]) = [c]
      rw [if_neg fun q => o (K0.no_two q)]
  · subst hr
    have q : inM [c, 61] = true := K0.inM_iff.mpr ⟨w, h, e⟩
    show (if inM [c, 61] = true then [c, 61] else [c]) = [c, 61]
    rw [if_pos q]
/-- a text is all blanks -/
def blS (s : Str) : Bool := (tl s).all isBl && !(tl s).isEmpty
/-! ### texts of Str: the same by Str -/
def JS (T : Str) (ws : List Tk) (f : F3) : Prop := J (tl T) ws f
theorem JS.nil : JS "" [] .free := by
  show J (tl ("" : Str)) [] .free
  rw [show tl ("" : Str) = [] by decide +kernel]
  exact J.nil
theorem JS.blank {T s : Str} {ws : List Tk} {f : F3} (j : JS T ws f) (h : blS s = true) : JS (T ++ s) ws .free := by
  unfold blS at h
  rw [Bool.and_eq_true] at h
  show J (tl (T ++ s)) ws .free
  rw [tl_append]
  refine J.blank j h.1 fun q => ?_
  rw [q] at h
  cases h.2
theorem JS.step {T w k : Str} {ws : List Tk} {f g : F3} (j : JS T ws f) (wd : Wd g k w) (o : Fol f (tl w)) : JS (T ++ w) (ws ++ [(k, w)]) g := by
  show J (tl (T ++ w)) _ g
  rw [tl_append]
  exact J.step j wd o
theorem JS.both {T : Str} {ws : List Tk} {f : F3} (j : JS T ws f) : JS T ws .both := J.both j
theorem assocS (a b c : Str) : a ++ (b ++ c) = a ++ b ++ c := by
  apply ext_tl
  rw [tl_append, tl_append, tl_append, tl_append, List.append_assoc]
theorem nilS (a : Str) : a ++ ("" : Str) = a := by
  apply ext_tl
  rw [tl_append, show tl ("" : Str) = [] by decide +kernel, List.append_nil]
/-- literals: a text of marks and keys, by its words -/
inductive LW | bl (s : Str) | wd (k w : Str)
def LW.t : LW → Str
  | .bl s => s
  | .wd _ w => w
def LW.ok : LW → Bool
  | .bl s => blS s
  | .wd k w => (decide (k = "key") && decide (w ∈ kws)) || (decide (k = "mark") && decide (w ∈ mks))
def folB (f : F3) : List Nat → Bool
  | [] => true
  | c :: _ => match f with
    | .free => true
    | .mark => c != 61
    | .word => !isAl c
    | .both => c != 61 && !isAl c
theorem Fol.ofB {f : F3} : ∀ {l : List Nat}, folB f l = true → Fol f l
  | [], _ => trivial
  | c :: r, h => by
    cases f with
    | free => exact trivial
    | mark => show c ≠ 61; simpa [folB] using h
    | word => show isAl c = false; simpa [folB] using h
    | both => show c ≠ 61 ∧ isAl c = false; simpa [folB] using h
def litF : F3 → List LW → F3
  | f, [] => f
  | _, .bl _ :: r => litF .free r
  | _, .wd k _ :: r => litF (if k = "mark" then .mark else .word) r
def litOk : F3 → List LW → Bool
  | _, [] => true
  | f, .bl s :: r => blS s && litOk .free r
  | f, .wd k w :: r => LW.ok (.wd k w) && folB f (tl w) && litOk (if k = "mark" then .mark else .word) r
def litW : List LW → List Tk
  | [] => []
  | .bl _ :: r => litW r
  | .wd k w :: r => (k, w) :: litW r
def litT : List LW → Str
  | [] => ""
  | p :: r => p.t ++ litT r
theorem JS.lit : ∀ (ps : List LW) {T : Str} {ws : List Tk} {f : F3}, JS T ws f → litOk f ps = true → JS (T ++ litT ps) (ws ++ litW ps) (litF f ps)
  | [], T, ws, f, j, _ => by
    show JS (T ++ ("" : Str)) (ws ++ []) f
    rw [nilS, List.append_nil]
    exact j
  | .bl s :: r, T, ws, f, j, h => by
    unfold litOk at h
    rw [Bool.and_eq_true] at h
    show JS (T ++ (s ++ litT r)) (ws ++ litW r) (litF .free r)
    rw [assocS]
    exact JS.lit r (j.blank h.1) h.2
  | .wd k w :: r, T, ws, f, j, h => by
    unfold litOk at h
    rw [Bool.and_eq_true, Bool.and_eq_true] at h
    show JS (T ++ (w ++ litT r)) (ws ++ ((k, w) :: litW r)) (litF (if k = "mark" then .mark else .word) r)
    rw [assocS, show ws ++ ((k, w) :: litW r) = (ws ++ [(k, w)]) ++ litW r by rw [List.append_assoc]; rfl]
    refine JS.lit r ?_ h.2
    have q := h.1.1
    unfold LW.ok at q
    simp only [Bool.or_eq_true, Bool.and_eq_true, decide_eq_true_eq] at q
    rcases q with ⟨q1, q2⟩ | ⟨q1, q2⟩
    · rw [if_neg (by rw [q1]; decide +kernel), q1]
      exact j.step (Wd.key q2) (Fol.ofB h.1.2)
    · rw [if_pos q1, q1]
      exact j.step (Wd.mark q2) (Fol.ofB h.1.2)
/-! ### words of trees, all inner expressions in brackets -/
def kK (w : Str) : Tk := ("key", w)
def kM (w : Str) : Tk := ("mark", w)
def kN (w : Str) : Tk := ("name", w)
def Bi.tk (o : Bi) : Tk := match o with
  | .or => kK "or" | .and => kK "and" | .mod => kK "mod" | .black => kK "black"
  | o => kM o.w
def tkE : Ex → List Tk
  | .num n => [("number", num n)]
  | .name x => [kN x]
  | .rows => [kK "rows"]
  | .cols => [kK "cols"]
  | .un .neg a => [kM "(", kM "-", kM "("] ++ tkE a ++ [kM ")", kM ")"]
  | .un .not a => [kM "(", kK "not", kM "("] ++ tkE a ++ [kM ")", kM ")"]
  | .bin .black a b => [kK "black", kM "("] ++ tkE a ++ [kM ","] ++ tkE b ++ [kM ")"]
  | .bin o a b => [kM "("] ++ tkE a ++ [o.tk] ++ tkE b ++ [kM ")"]
def tkEs : List Ex → List Tk
  | [] => []
  | [e] => tkE e
  | e :: es => tkE e ++ [kM ","] ++ tkEs es
def tkNs : List Str → List Tk
  | [] => []
  | [x] => [kN x]
  | x :: xs => [kN x, kM ","] ++ tkNs xs
mutual
def tkS : St → List Tk
  | .row e => kK "row" :: tkE e
  | .col e => kK "col" :: tkE e
  | .say e => kK "say" :: tkE e
  | .set x e => [kK "let", kN x, kM "="] ++ tkE e
  | .ite c a b => [kK "if"] ++ tkE c ++ [kM "{"] ++ tkB a ++ [kM "}"] ++ (match b with | [] => [] | s :: r => [kK "else", kM "{"] ++ (tkS s ++ tkB r) ++ [kM "}"])
  | .whl c a => [kK "while"] ++ tkE c ++ [kM "{"] ++ tkB a ++ [kM "}"]
  | .for_ x a b s => [kK "for", kN x, kM "="] ++ tkE a ++ [kK "to"] ++ tkE b ++ [kM "{"] ++ tkB s ++ [kM "}"]
  | .call f es => [kK "do", kN f, kM "("] ++ tkEs es ++ [kM ")"]
  | .stop => [kK "stop"]
def tkB : List St → List Tk
  | [] => []
  | s :: b => tkS s ++ tkB b
end
def tkD (f : Df) : List Tk := [kK "def", kN f.name, kM "("] ++ tkNs f.args ++ [kM ")", kM "{"] ++ tkB f.body ++ [kM "}"]
def tkDs : List Df → List Tk
  | [] => []
  | f :: fs => tkD f ++ tkDs fs
def tkP (p : Pr) : List Tk := tkDs p.defs ++ tkB p.body
/-- the names that drawn programs have are words -/
def nameW (x : Str) : Bool := !(tl x).isEmpty && (tl x).all isLet && decide ((tl x).length ≤ 6) && decide (x ∉ kws)
theorem Wd.nm {x : Str} (h : nameW x = true) : Wd .word "name" x := by
  unfold nameW at h
  simp only [Bool.and_eq_true, decide_eq_true_eq, Bool.not_eq_true'] at h
  exact Wd.name (fun q => by rw [q] at h; cases h.1.1.1) h.1.1.2 (by omega) h.2
theorem nameW_len {x : Str} (h : nameW x = true) : x.length ≤ 6 := by
  unfold nameW at h
  simp only [Bool.and_eq_true, decide_eq_true_eq] at h
  rw [len_tl]
  exact h.1.2
theorem nameW_ne {x : Str} (h : nameW x = true) : ∃ c r, tl x = c :: r ∧ isLet c = true := by
  unfold nameW at h
  simp only [Bool.and_eq_true, decide_eq_true_eq, Bool.not_eq_true'] at h
  cases e : tl x with
  | nil => rw [e] at h; cases h.1.1.1
  | cons c r =>
    rw [e, List.all_cons, Bool.and_eq_true] at h
    exact ⟨c, r, rfl, h.1.1.2.1⟩
/-- a part's text: it begins with no =, what follows it is neither = nor a letter or figure -/
structure PartT (X : Str) (ws : List Tk) : Prop where
  hd : ∃ c r, tl X = c :: r ∧ c ≠ 61
  seg : ∀ {T : Str} {us : List Tk} {f : F3}, JS T us f → Fol f (tl X) → JS (T ++ X) (us ++ ws) .both
theorem PartT.fol_mark {X : Str} {ws : List Tk} (h : PartT X ws) : Fol .mark (tl X) := by
  obtain ⟨c, r, e, hc⟩ := h.hd
  rw [e]
  exact hc
theorem PartT.fol_free {X : Str} {ws : List Tk} (h : PartT X ws) : Fol .free (tl X) := by
  obtain ⟨c, r, e, hc⟩ := h.hd
  rw [e]
  trivial
theorem al_ne {c : Nat} (h : isAl c = true) : c ≠ 61 := by
  intro q
  subst q
  exact absurd h (by decide)
theorem PartT.name {x : Str} (h : nameW x = true) : PartT x [kN x] := by
  obtain ⟨c, r, e, hc⟩ := nameW_ne h
  exact ⟨⟨c, r, e, al_ne (by unfold isAl; rw [hc, Bool.or_true])⟩, fun j o => (j.step (Wd.nm h) o).both⟩
theorem PartT.key {x : Str} (h : x ∈ kws) : PartT x [kK x] := by
  have q := K0.kws_all x h
  refine ⟨?_, fun j o => (j.step (Wd.key h) o).both⟩
  cases e : tl x with
  | nil => exact absurd e q.2
  | cons c r =>
    rw [e, List.all_cons, Bool.and_eq_true] at q
    exact ⟨c, r, rfl, al_ne (by unfold isAl; rw [q.1.1, Bool.or_true])⟩
theorem PartT.numb {n : Nat} (h : n < 1000000) : PartT (num n) [("number", num n)] := by
  refine ⟨?_, fun j o => (j.step (Wd.num h) o).both⟩
  have q := K0.numL_fig n
  cases e : tl (num n) with
  | nil => rw [K0.tl_num'] at e; exact absurd e (K0.numL_ne n)
  | cons c r =>
    rw [← K0.tl_num', e, List.all_cons, Bool.and_eq_true] at q
    exact ⟨c, r, rfl, al_ne (by unfold isAl; rw [q.1, Bool.true_or])⟩
theorem Fol.head {f : F3} {c : Nat} {r q : List Nat} (h : Fol f (c :: r)) : Fol f (c :: q) := h
theorem PartT.fol {X : Str} {ws : List Tk} (h : PartT X ws) {f : F3} (hf : f = .mark ∨ f = .free) : Fol f (tl X) := by
  rcases hf with q | q
  · rw [q]; exact h.fol_mark
  · rw [q]; exact h.fol_free
theorem lit_head {w Y Z : Str} {f : F3} (hw : tl w ≠ []) (e : Y = w ++ Z) (h : Fol f (tl Y)) : Fol f (tl w) := by
  rw [e, tl_append] at h
  cases c : tl w with
  | nil => exact absurd c hw
  | cons a b => rw [c] at h; exact h
/-- a word, a literal, a part, a literal -/
theorem PartT.one {ps qs : List LW} {X Y k0 w0 : Str} {ws : List Tk} {g : F3} (hX : PartT X ws) (eY : Y = w0 ++ (litT ps ++ (X ++ litT qs))) (wd : Wd g k0 w0) (h61 : Fol .mark (tl w0))
    (h1 : litOk g ps = true) (h2 : litF g ps = .mark ∨ litF g ps = .free) (h3 : litOk .both qs = true) : PartT Y ((k0, w0) :: (litW ps ++ (ws ++ litW qs))) := by
  obtain ⟨c, r, ec, hb⟩ := wd.hd
  have hne : tl w0 ≠ [] := by rw [ec]; exact List.cons_ne_nil _ _
  refine ⟨⟨c, r ++ tl (litT ps ++ (X ++ litT qs)), by rw [eY, tl_append, ec]; rfl, by rw [ec] at h61; exact h61⟩, fun {T us f} j o => ?_⟩
  have j1 := j.step wd (lit_head hne eY o)
  have j2 := JS.lit ps j1 h1
  have j3 := hX.seg j2 (hX.fol h2)
  have j4 := (JS.lit qs j3 h3).both
  rw [eY]
  have e1 : T ++ (w0 ++ (litT ps ++ (X ++ litT qs))) = T ++ w0 ++ litT ps ++ X ++ litT qs := by rw [assocS, assocS, assocS]
  have e2 : us ++ ((k0, w0) :: (litW ps ++ (ws ++ litW qs))) = us ++ [(k0, w0)] ++ litW ps ++ ws ++ litW qs := by simp
  rw [e1, e2]
  exact j4
/-- a word, a literal, a part, a literal, a part, a literal -/
theorem PartT.two {ps qs rs : List LW} {X X2 Y k0 w0 : Str} {ws ws2 : List Tk} {g : F3} (hX : PartT X ws) (hX2 : PartT X2 ws2) (eY : Y = w0 ++ (litT ps ++ (X ++ (litT qs ++ (X2 ++ litT rs))))) (wd : Wd g k0 w0) (h61 : Fol .mark (tl w0))
    (h1 : litOk g ps = true) (h2 : litF g ps = .mark ∨ litF g ps = .free) (h3 : litOk .both qs = true) (h4 : litF .both qs = .mark ∨ litF .both qs = .free) (h5 : litOk .both rs = true) :
    PartT Y ((k0, w0) :: (litW ps ++ (ws ++ (litW qs ++ (ws2 ++ litW rs))))) := by
  obtain ⟨c, r, ec, hb⟩ := wd.hd
  have hne : tl w0 ≠ [] := by rw [ec]; exact List.cons_ne_nil _ _
  refine ⟨⟨c, r ++ tl (litT ps ++ (X ++ (litT qs ++ (X2 ++ litT rs)))), by rw [eY, tl_append, ec]; rfl, by rw [ec] at h61; exact h61⟩, fun {T us f} j o => ?_⟩
  have j1 := j.step wd (lit_head hne eY o)
  have j2 := JS.lit ps j1 h1
  have j3 := hX.seg j2 (hX.fol h2)
  have j4 := JS.lit qs j3 h3
  have j5 := hX2.seg j4 (hX2.fol h4)
  have j6 := (JS.lit rs j5 h5).both
  rw [eY]
  have e1 : T ++ (w0 ++ (litT ps ++ (X ++ (litT qs ++ (X2 ++ litT rs))))) = T ++ w0 ++ litT ps ++ X ++ litT qs ++ X2 ++ litT rs := by rw [assocS, assocS, assocS, assocS, assocS]
  have e2 : us ++ ((k0, w0) :: (litW ps ++ (ws ++ (litW qs ++ (ws2 ++ litW rs))))) = us ++ [(k0, w0)] ++ litW ps ++ ws ++ litW qs ++ ws2 ++ litW rs := by simp
  rw [e1, e2]
  exact j6
/-- what a tree needs to be printed: small numbers, names that are words -/
def wfE : Ex → Prop
  | .num n => n < 1000000
  | .name x => nameW x = true
  | .rows => True
  | .cols => True
  | .un _ a => wfE a
  | .bin _ a b => wfE a ∧ wfE b
theorem wfE_of {ns : List Str} (h : ∀ x ∈ ns, nameW x = true) : ∀ {e : Ex}, okE ns e → wfE e
  | .num _, q => q
  | .name x, q => h x q
  | .rows, _ => trivial
  | .cols, _ => trivial
  | .un _ a, q => wfE_of h (e := a) q
  | .bin _ a b, q => ⟨wfE_of h (e := a) q.1, wfE_of h (e := b) q.2⟩
/-- how long a part's text is at most -/
def pl : Nat → Nat
  | 0 => 6
  | n + 1 => 2 * pl n + 10
end KD

namespace KD
open PySem L2 TL
open K0 (num)
theorem dp_tup {K : PySem.W.Frag} {H : Hp} {v : V} {ds : List PyData} (h : Dp K H v (.tuple ds)) : ∃ a xs, v = .ref a ∧ SqT K H a xs ∧ DpAll K H xs ds := by
  cases h with
  | tup h1 h2 => exact ⟨_, _, rfl, h1, h2⟩
theorem dp_cons {K : PySem.W.Frag} {H : Hp} {xs : List V} {d : PyData} {ds : List PyData} (h : DpAll K H xs (d :: ds)) : ∃ v vs, xs = v :: vs ∧ Dp K H v d ∧ DpAll K H vs ds := by
  cases h with
  | cons h1 h2 => exact ⟨_, _, rfl, h1, h2⟩
theorem dp_nil {K : PySem.W.Frag} {H : Hp} {xs : List V} (h : DpAll K H xs []) : xs = [] := by cases h; rfl
theorem dp_str {K : PySem.W.Frag} {H : Hp} {v : V} {x : Str} (h : Dp K H v (.str x)) : v = .str x := by cases h; rfl
theorem dp_int {K : PySem.W.Frag} {H : Hp} {v : V} {x : Int} (h : Dp K H v (.int x)) : v = .int x := by cases h; rfl
theorem sums (a b : Str) : (a ++ b).length = a.length + b.length := by rw [len_tl, tl_append, List.length_append, ← len_tl, ← len_tl]
theorem dec_str (a b : Str) : decide (V.str a = V.str b) = decide (a = b) := by
  rw [Bool.eq_iff_iff, decide_eq_true_iff, decide_eq_true_iff]
  exact ⟨fun q => V.str.inj q, fun q => by rw [q]⟩
theorem same_new {H : Hp} {p : Addr} (h : H p = none) (o : HO) : Same H (upd H p o) := fun b u q => by rw [upd_ne (ne_of_none q h)]; exact q
theorem log_small {m : Nat} (h : m < 1000000) : (((m : Nat) : Int)).natAbs.log2 < 1920 := by
  rw [Int.natAbs_natCast]
  by_cases h0 : m = 0
  · subst h0; decide
  · have q : m.log2 < 20 := (Nat.log2_lt h0).mpr (by omega)
    omega
def n3 : List Str := ["name", "rows", "cols"]
def Bi.lw (o : Bi) : LW := .wd o.tk.1 o.tk.2
theorem Bi.tk_w (o : Bi) : o.tk.2 = o.w := by cases o <;> rfl
theorem Bi.lit (o : Bi) : litOk .both [.bl " ", o.lw, .bl " "] = true := by cases o <;> decide +kernel
theorem Bi.not (o : Bi) (h : o ≠ .black) : ¬ (o.w = "num") ∧ o.w ∉ n3 ∧ ¬ (o.w = "black") ∧ o.w ∉ un2 := by
  cases o with
  | black => exact absurd rfl h
  | _ => decide +kernel
theorem Bi.len (o : Bi) : o.w.length ≤ 5 := by cases o <;> decide +kernel
theorem tk_bin {o : Bi} (h : o ≠ .black) (a b : Ex) : tkE (.bin o a b) = [kM "("] ++ tkE a ++ [o.tk] ++ tkE b ++ [kM ")"] := by
  cases o with
  | black => exact absurd rfl h
  | _ => rfl
theorem Bi.litF (o : Bi) : litF .both [.bl " ", o.lw, .bl " "] = .free := by cases o <;> rfl
section
variable {P : Program} {w : World} {K : PySem.W.Frag} {mg : Str → Option Value} {base : Heap}
/-! ### _law_part -/
def spPart (K : PySem.W.Frag) (n : Nat) : Sp := fun vs H Q _ => ∃ (x v : V) (e : Ex), vs = [x, v] ∧ Dp K H v e.d ∧ wfE e ∧ dpE e < n ∧ n ≤ 12 ∧
  ∀ (H' : Hp) (X : Str), Same H H' → PartT X (tkE e) → X.length ≤ pl (dpE e) → Q (.str X) H'
theorem pl_mono : ∀ {a b : Nat}, a ≤ b → pl a ≤ pl b
  | 0, 0, _ => Nat.le_refl _
  | 0, b + 1, _ => by
    have := pl_mono (a := 0) (b := b) (Nat.zero_le _)
    show pl 0 ≤ 2 * pl b + 10
    omega
  | a + 1, b + 1, h => by
    have := pl_mono (a := a) (b := b) (by omega)
    show 2 * pl a + 10 ≤ 2 * pl b + 10
    omega
theorem pl_small {a : Nat} (h : a ≤ 12) : pl a ≤ 100000 := Nat.le_trans (pl_mono h) (by decide)
end
end KD

/-! The grammar of point 4 over words, and the texts with the fewest brackets (point 5). -/
namespace KD
open PySem L2 TL
open K0 (num)
def Bi.lv : Bi → Nat
  | .or => 0 | .and => 1 | .lt => 2 | .le => 2 | .eq => 2 | .ne => 2 | .add => 3 | .sub => 3 | .mul => 4 | .div => 4 | .mod => 4 | .black => 5
/-- words ts are the expression e of a level: 0 or, 1 and, 2 comparisons and not, 3 sums, 4 products, 5 parts -/
inductive G : Nat → Nat → Ex → List Tk → Prop
  | num {d : Nat} (n : Nat) : G d 5 (.num n) [("number", num n)]
  | name {d : Nat} (x : Str) : G d 5 (.name x) [kN x]
  | rows {d : Nat} : G d 5 .rows [kK "rows"]
  | cols {d : Nat} : G d 5 .cols [kK "cols"]
  | black {d : Nat} {a b : Ex} {ta tb : List Tk} : G d 0 a ta → G d 0 b tb → G (d + 1) 5 (.bin .black a b) ([kK "black", kM "("] ++ ta ++ [kM ","] ++ tb ++ [kM ")"])
  | neg {d : Nat} {a : Ex} {ta : List Tk} : G d 5 a ta → G (d + 1) 5 (.un .neg a) (kM "-" :: ta)
  | par {d : Nat} {a : Ex} {ta : List Tk} : G d 0 a ta → G (d + 1) 5 a ([kM "("] ++ ta ++ [kM ")"])
  | not {d : Nat} {a : Ex} {ta : List Tk} : G d 2 a ta → G (d + 1) 2 (.un .not a) (kK "not" :: ta)
  | cmp {d : Nat} {o : Bi} {a b : Ex} {ta tb : List Tk} : o.lv = 2 → G d 3 a ta → G d 3 b tb → G d 2 (.bin o a b) (ta ++ [o.tk] ++ tb)
  | left {d : Nat} {o : Bi} {a b : Ex} {ta tb : List Tk} : o.lv < 5 → o.lv ≠ 2 → G d o.lv a ta → G d (o.lv + 1) b tb → G d o.lv (.bin o a b) (ta ++ [o.tk] ++ tb)
  | up {d l : Nat} {a : Ex} {ta : List Tk} : G d (l + 1) a ta → G d l a ta
theorem G.mono {d l : Nat} {e : Ex} {t : List Tk} (h : G d l e t) : ∀ {d' : Nat}, d ≤ d' → G d' l e t := by
  induction h with
  | num n => exact fun _ => .num n
  | name x => exact fun _ => .name x
  | rows => exact fun _ => .rows
  | cols => exact fun _ => .cols
  | black _ _ i1 i2 =>
    intro d' hd
    obtain ⟨k, rfl⟩ : ∃ k, d' = k + 1 := ⟨d' - 1, by omega⟩
    exact .black (i1 (by omega)) (i2 (by omega))
  | neg _ i1 =>
    intro d' hd
    obtain ⟨k, rfl⟩ : ∃ k, d' = k + 1 := ⟨d' - 1, by omega⟩
    exact .neg (i1 (by omega))
  | par _ i1 =>
    intro d' hd
    obtain ⟨k, rfl⟩ : ∃ k, d' = k + 1 := ⟨d' - 1, by omega⟩
    exact .par (i1 (by omega))
  | not _ i1 =>
    intro d' hd
    obtain ⟨k, rfl⟩ : ∃ k, d' = k + 1 := ⟨d' - 1, by omega⟩
    exact .not (i1 (by omega))
  | cmp ho _ _ i1 i2 => exact fun hd => .cmp ho (i1 hd) (i2 hd)
  | left h1 h2 _ _ i1 i2 => exact fun hd => .left h1 h2 (i1 hd) (i2 hd)
  | up _ i1 => exact fun hd => .up (i1 hd)
theorem G.down {d : Nat} {a : Ex} {ta : List Tk} : ∀ {k l : Nat}, G d (l + k) a ta → G d l a ta
  | 0, l, h => h
  | k + 1, l, h => G.down (k := k) (.up (by rw [Nat.add_assoc]; exact h))
theorem G.le {d l m : Nat} {a : Ex} {ta : List Tk} (h : G d m a ta) (hl : l ≤ m) : G d l a ta := by
  obtain ⟨k, rfl⟩ := Nat.exists_eq_add_of_le hl
  exact G.down h
/-- a bracketed text's words are an expression -/
theorem G.tk : ∀ (e : Ex) (d : Nat), 3 * dpE e ≤ d → G d 5 e (tkE e)
  | .num n, _, _ => .num n
  | .name x, _, _ => .name x
  | .rows, _, _ => .rows
  | .cols, _, _ => .cols
  | .un .neg a, d, h => by
    have e : tkE (.un .neg a) = [kM "("] ++ (kM "-" :: ([kM "("] ++ tkE a ++ [kM ")"])) ++ [kM ")"] := by
      show [kM "(", kM "-", kM "("] ++ tkE a ++ [kM ")", kM ")"] = _
      simp
    rw [e]
    have h' : 3 * (dpE a + 1) ≤ d := h
    obtain ⟨k, rfl⟩ : ∃ k, d = k + 3 := ⟨d - 3, by omega⟩
    exact G.par (d := k + 2) ((G.neg (d := k + 1) (.par (d := k) ((G.tk a k (by omega)).le (by decide)))).le (by decide))
  | .un .not a, d, h => by
    have e : tkE (.un .not a) = [kM "("] ++ (kK "not" :: ([kM "("] ++ tkE a ++ [kM ")"])) ++ [kM ")"] := by
      show [kM "(", kK "not", kM "("] ++ tkE a ++ [kM ")", kM ")"] = _
      simp
    rw [e]
    have h' : 3 * (dpE a + 1) ≤ d := h
    obtain ⟨k, rfl⟩ : ∃ k, d = k + 3 := ⟨d - 3, by omega⟩
    exact G.par (d := k + 2) ((G.not (d := k + 1) ((G.par (d := k) ((G.tk a k (by omega)).le (by decide))).le (by decide))).le (by decide))
  | .bin o a b, d, h => by
    have h' : 3 * (max (dpE a) (dpE b) + 1) ≤ d := h
    obtain ⟨k, rfl⟩ : ∃ k, d = k + 1 := ⟨d - 1, by omega⟩
    have ga := G.tk a k (by omega)
    have gb := G.tk b k (by omega)
    by_cases hb : o = .black
    · subst hb
      exact .black (ga.le (by decide)) (gb.le (by decide))
    · have e : tkE (.bin o a b) = [kM "("] ++ (tkE a ++ [o.tk] ++ tkE b) ++ [kM ")"] := by
        have e1 : tkE (.bin o a b) = [kM "("] ++ tkE a ++ [o.tk] ++ tkE b ++ [kM ")"] := by
          cases o with
          | black => exact absurd rfl hb
          | _ => rfl
        rw [e1]
        simp
      rw [e]
      refine .par ?_
      have hlt : o.lv < 5 := by
        cases o with
        | black => exact absurd rfl hb
        | _ => decide
      by_cases h2 : o.lv = 2
      · exact (G.cmp h2 (ga.le (by decide)) (gb.le (by decide))).le (by decide)
      · exact (G.left hlt h2 (ga.le (by omega)) (gb.le (by omega))).le (Nat.zero_le _)
/-! ### expressions, statements, blocks, programs over words -/
/-- the nests that an expression of a statement may have -/
abbrev GE (e : Ex) (t : List Tk) : Prop := G 10 0 e t
inductive GEs : List Ex → List Tk → Prop
  | nil : GEs [] []
  | one {e : Ex} {t : List Tk} : GE e t → GEs [e] t
  | more {e f : Ex} {es : List Ex} {t ts : List Tk} : GE e t → GEs (f :: es) ts → GEs (e :: f :: es) (t ++ [kM ","] ++ ts)
mutual
/-- words of a statement whose blocks nest at most so deep -/
inductive GS : Nat → St → List Tk → Prop
  | row {d : Nat} {e : Ex} {t : List Tk} : GE e t → GS d (.row e) (kK "row" :: t)
  | col {d : Nat} {e : Ex} {t : List Tk} : GE e t → GS d (.col e) (kK "col" :: t)
  | say {d : Nat} {e : Ex} {t : List Tk} : GE e t → GS d (.say e) (kK "say" :: t)
  | set {d : Nat} {x : Str} {e : Ex} {t : List Tk} : GE e t → GS d (.set x e) ([kK "let", kN x, kM "="] ++ t)
  | ite0 {d : Nat} {c : Ex} {a : List St} {t ta : List Tk} : GE c t → GB d a ta → GS (d + 1) (.ite c a []) ([kK "if"] ++ t ++ [kM "{"] ++ ta ++ [kM "}"])
  | ite {d : Nat} {c : Ex} {a b : List St} {t ta tb : List Tk} : GE c t → GB d a ta → GB d b tb → GS (d + 1) (.ite c a b) ([kK "if"] ++ t ++ [kM "{"] ++ ta ++ [kM "}", kK "else", kM "{"] ++ tb ++ [kM "}"])
  | whl {d : Nat} {c : Ex} {a : List St} {t ta : List Tk} : GE c t → GB d a ta → GS (d + 1) (.whl c a) ([kK "while"] ++ t ++ [kM "{"] ++ ta ++ [kM "}"])
  | for_ {d : Nat} {x : Str} {c e : Ex} {s : List St} {t u ts : List Tk} : GE c t → GE e u → GB d s ts → GS (d + 1) (.for_ x c e s) ([kK "for", kN x, kM "="] ++ t ++ [kK "to"] ++ u ++ [kM "{"] ++ ts ++ [kM "}"])
  | call {d : Nat} {f : Str} {es : List Ex} {t : List Tk} : GEs es t → GS d (.call f es) ([kK "do", kN f, kM "("] ++ t ++ [kM ")"])
  | stop {d : Nat} : GS d .stop [kK "stop"]
inductive GB : Nat → List St → List Tk → Prop
  | nil {d : Nat} : GB d [] []
  | cons {d : Nat} {s : St} {b : List St} {t ts : List Tk} : GS d s t → GB d b ts → GB d (s :: b) (t ++ ts)
end
inductive GD : Nat → List Df → List Tk → Prop
  | nil {d : Nat} : GD d [] []
  | cons {d : Nat} {f : Df} {fs : List Df} {t ts : List Tk} : GB d f.body t → GD d fs ts → GD d (f :: fs) ([kK "def", kN f.name, kM "("] ++ tkNs f.args ++ [kM ")", kM "{"] ++ t ++ [kM "}"] ++ ts)
/-- words of a program -/
def GP (p : Pr) (ws : List Tk) : Prop := ∃ t u, GD 3 p.defs t ∧ GB 3 p.body u ∧ ws = t ++ u
theorem GEs.tk : ∀ es : List Ex, (∀ e ∈ es, dpE e ≤ 3) → GEs es (tkEs es)
  | [], _ => .nil
  | [e], h => .one ((G.tk e 10 (by have := h e List.mem_cons_self; omega)).le (by decide))
  | e :: f :: es, h => .more ((G.tk e 10 (by have := h e List.mem_cons_self; omega)).le (by decide)) (GEs.tk (f :: es) fun x hx => h x (List.mem_cons_of_mem _ hx))
theorem GE.tk {e : Ex} (h : dpE e ≤ 2) : GE e (tkE e) := (G.tk e 10 (by omega)).le (by decide)
mutual
theorem GS.tk {ds : List (Str × Nat)} : ∀ (n : Nat) (ns : List Str) (s : St), okS ds n ns s → GS n s (tkS s)
  | n, ns, .row e, h => by unfold okS at h; exact .row (GE.tk (by omega))
  | n, ns, .col e, h => by unfold okS at h; exact .col (GE.tk (by omega))
  | n, ns, .say e, h => by unfold okS at h; exact .say (GE.tk (by omega))
  | n, ns, .set x e, h => by unfold okS at h; exact .set (GE.tk (by omega))
  | n + 1, ns, .ite c a [], h => by
    unfold okS at h
    have h := GS.ite0 (GE.tk (e := c) (by omega)) (GB.tk n ns a h.2.2.1.2)
    have e : tkS (.ite c a []) = [kK "if"] ++ tkE c ++ [kM "{"] ++ tkB a ++ [kM "}"] := by
      show [kK "if"] ++ tkE c ++ [kM "{"] ++ tkB a ++ [kM "}"] ++ [] = _
      simp
    rw [e]
    exact h
  | n + 1, ns, .ite c a (s :: r), h => by
    unfold okS at h
    have h := GS.ite (GE.tk (e := c) (by omega)) (GB.tk n ns a h.2.2.1.2) (GB.tk n ns (s :: r) h.2.2.2.2)
    have e : tkS (.ite c a (s :: r)) = [kK "if"] ++ tkE c ++ [kM "{"] ++ tkB a ++ [kM "}", kK "else", kM "{"] ++ tkB (s :: r) ++ [kM "}"] := by
      show [kK "if"] ++ tkE c ++ [kM "{"] ++ tkB a ++ [kM "}"] ++ ([kK "else", kM "{"] ++ (tkS s ++ tkB r) ++ [kM "}"]) = _
      show _ = [kK "if"] ++ tkE c ++ [kM "{"] ++ tkB a ++ [kM "}", kK "else", kM "{"] ++ (tkS s ++ tkB r) ++ [kM "}"]
      simp
    rw [e]
    exact h
  | n + 1, ns, .whl c a, h => by unfold okS at h; exact .whl (GE.tk (by omega)) (GB.tk n ns a h.2.2.2)
  | n + 1, ns, .for_ x a b s, h => by unfold okS at h; exact .for_ (GE.tk (by omega)) (GE.tk (by omega)) (GB.tk n _ s h.2.2.2.2)
  | n + 1, ns, .call f es, h => by unfold okS at h; exact .call (GEs.tk es fun e he => by have := (h.2 e he).2; omega)
  | n + 1, ns, .stop, h => .stop
  | 0, ns, .ite _ _ _, h => by unfold okS at h; exact h.elim
  | 0, ns, .whl _ _, h => by unfold okS at h; exact h.elim
  | 0, ns, .for_ _ _ _ _, h => by unfold okS at h; exact h.elim
  | 0, ns, .call _ _, h => by unfold okS at h; exact h.elim
  | 0, ns, .stop, h => by unfold okS at h; exact h.elim
theorem GB.tk {ds : List (Str × Nat)} : ∀ (n : Nat) (ns : List Str) (b : List St), okB ds n ns b → GB n b (tkB b)
  | n, ns, [], _ => .nil
  | n, ns, s :: b, h => by unfold okB at h; exact .cons (GS.tk n ns s h.1) (GB.tk n _ b h.2)
end
mutual
theorem GS.mono : ∀ {d d' : Nat} {s : St} {t : List Tk}, GS d s t → d ≤ d' → GS d' s t
  | _, _, _, _, .row h, _ => .row h
  | _, _, _, _, .col h, _ => .col h
  | _, _, _, _, .say h, _ => .say h
  | _, _, _, _, .set h, _ => .set h
  | d + 1, 0, _, _, .ite0 _ _, q => absurd q (by omega)
  | d + 1, d' + 1, _, _, .ite0 h a, q => .ite0 h (GB.mono a (by omega))
  | d + 1, 0, _, _, .ite _ _ _, q => absurd q (by omega)
  | d + 1, d' + 1, _, _, .ite h a b, q => .ite h (GB.mono a (by omega)) (GB.mono b (by omega))
  | d + 1, 0, _, _, .whl _ _, q => absurd q (by omega)
  | d + 1, d' + 1, _, _, .whl h a, q => .whl h (GB.mono a (by omega))
  | d + 1, 0, _, _, .for_ _ _ _, q => absurd q (by omega)
  | d + 1, d' + 1, _, _, .for_ h h2 a, q => .for_ h h2 (GB.mono a (by omega))
  | _, _, _, _, .call h, _ => .call h
  | _, _, _, _, .stop, _ => .stop
theorem GB.mono : ∀ {d d' : Nat} {b : List St} {t : List Tk}, GB d b t → d ≤ d' → GB d' b t
  | _, _, _, _, .nil, _ => .nil
  | _, _, _, _, .cons h b, q => .cons (GS.mono h q) (GB.mono b q)
end
theorem GD.tk : ∀ (fs : List Df), (∀ f ∈ fs, GB 3 f.body (tkB f.body)) → GD 3 fs (tkDs fs)
  | [], _ => .nil
  | f :: fs, h => .cons (h f List.mem_cons_self) (GD.tk fs fun x hx => h x (List.mem_cons_of_mem _ hx))
/-! ### the fewest brackets -/
def parT (c : Bool) (t : List Tk) : List Tk := if c then [kM "("] ++ t ++ [kM ")"] else t
def parX (c : Bool) (t : Str) : Str := if c then "(" ++ t ++ ")" else t
/-- the level that the left side of a mark wants -/
def Bi.ll (o : Bi) : Nat := if o.lv = 2 then 3 else o.lv
def tkX : Ex → Nat → List Tk
  | .num n, _ => [("number", num n)]
  | .name x, _ => [kN x]
  | .rows, _ => [kK "rows"]
  | .cols, _ => [kK "cols"]
  | .un .neg a, _ => kM "-" :: tkX a 5
  | .un .not a, l => parT (decide (2 < l)) (kK "not" :: tkX a 2)
  | .bin .black a b, _ => [kK "black", kM "("] ++ tkX a 0 ++ [kM ","] ++ tkX b 0 ++ [kM ")"]
  | .bin o a b, l => parT (decide (o.lv < l)) (tkX a o.ll ++ [o.tk] ++ tkX b (o.lv + 1))
def shX : Ex → Nat → Str
  | .num n, _ => num n
  | .name x, _ => x
  | .rows, _ => "rows"
  | .cols, _ => "cols"
  | .un .neg a, _ => "-" ++ shX a 5
  | .un .not a, l => parX (decide (2 < l)) ("not " ++ shX a 2)
  | .bin .black a b, _ => "black(" ++ shX a 0 ++ ", " ++ shX b 0 ++ ")"
  | .bin o a b, l => parX (decide (o.lv < l)) (shX a o.ll ++ " " ++ o.w ++ " " ++ shX b (o.lv + 1))
theorem tkX_bin {o : Bi} (h : o ≠ .black) (a b : Ex) (l : Nat) : tkX (.bin o a b) l = parT (decide (o.lv < l)) (tkX a o.ll ++ [o.tk] ++ tkX b (o.lv + 1)) := by
  cases o with
  | black => exact absurd rfl h
  | _ => rfl
theorem shX_bin {o : Bi} (h : o ≠ .black) (a b : Ex) (l : Nat) : shX (.bin o a b) l = parX (decide (o.lv < l)) (shX a o.ll ++ " " ++ o.w ++ " " ++ shX b (o.lv + 1)) := by
  cases o with
  | black => exact absurd rfl h
  | _ => rfl
theorem G.ofPar {c : Bool} {d l m : Nat} {e : Ex} {t : List Tk} (h : G d m e t) (hc : c = false → l ≤ m) (hl : l ≤ 5) : G (d + 1) l e (parT c t) := by
  cases c with
  | true => exact (G.par (h.le (Nat.zero_le _))).le hl
  | false => exact (h.mono (Nat.le_succ d)).le (hc rfl)
theorem G.tkX : ∀ (e : Ex) (l : Nat), l ≤ 5 → ∀ d, 2 * dpE e ≤ d → G d l e (tkX e l)
  | .num n, l, h, d, _ => (G.num n).le h
  | .name x, l, h, d, _ => (G.name x).le h
  | .rows, l, h, d, _ => G.rows.le h
  | .cols, l, h, d, _ => G.cols.le h
  | .un .neg a, l, h, d, q => by
    have q' : 2 * (dpE a + 1) ≤ d := q
    obtain ⟨k, rfl⟩ : ∃ k, d = k + 1 := ⟨d - 1, by omega⟩
    exact (G.neg (G.tkX a 5 (by decide) k (by omega))).le h
  | .un .not a, l, h, d, q => by
    have q' : 2 * (dpE a + 1) ≤ d := q
    obtain ⟨k, rfl⟩ : ∃ k, d = k + 2 := ⟨d - 2, by omega⟩
    exact (G.not (d := k) (G.tkX a 2 (by decide) k (by omega))).ofPar (fun q => by have := of_decide_eq_false q; omega) h
  | .bin o a b, l, h, d, q => by
    have q' : 2 * (max (dpE a) (dpE b) + 1) ≤ d := q
    obtain ⟨k, rfl⟩ : ∃ k, d = k + 1 := ⟨d - 1, by omega⟩
    by_cases hb : o = .black
    · subst hb
      exact (G.black (G.tkX a 0 (by decide) k (by omega)) (G.tkX b 0 (by decide) k (by omega))).le h
    · rw [tkX_bin hb]
      have hlt : o.lv < 5 := by
        cases o with
        | black => exact absurd rfl hb
        | _ => decide
      have g : G k o.lv (.bin o a b) (KD.tkX a o.ll ++ [o.tk] ++ KD.tkX b (o.lv + 1)) := by
        by_cases h2 : o.lv = 2
        · have e1 : o.ll = 3 := by unfold Bi.ll; rw [if_pos h2]
          have e2 : o.lv + 1 = 3 := by omega
          have ga := G.tkX a o.ll (by rw [e1]; decide) k (by omega)
          have gb := G.tkX b (o.lv + 1) (by rw [e2]; decide) k (by omega)
          rw [e1] at ga ⊢
          rw [e2] at gb ⊢
          have q := G.cmp h2 ga gb
          rw [h2]
          exact q
        · have e1 : o.ll = o.lv := by unfold Bi.ll; rw [if_neg h2]
          have ga := G.tkX a o.ll (by omega) k (by omega)
          have gb := G.tkX b (o.lv + 1) (by omega) k (by omega)
          rw [e1] at ga ⊢
          exact G.left hlt h2 ga gb
      exact g.ofPar (fun q => by have := of_decide_eq_false q; omega) h
end KD

/-! Expressions over words, for a reader that goes from the left: rows of one level, what follows a piece. Names no row. -/
namespace KD
open PySem L2 TL
open K0 (num)
/-- the marks of a level behind the first part -/
inductive Row (d l : Nat) : List (Bi × Ex) → List Tk → Prop
  | nil : Row d l [] []
  | cons {o : Bi} {b : Ex} {qs : List (Bi × Ex)} {tb ts : List Tk} : o.lv = l → G d (l + 1) b tb → Row d l qs ts → Row d l ((o, b) :: qs) (o.tk :: (tb ++ ts))
theorem Row.snoc {d l : Nat} {o : Bi} {b : Ex} {tb : List Tk} (ho : o.lv = l) (hb : G d (l + 1) b tb) : ∀ {qs : List (Bi × Ex)} {ts : List Tk}, Row d l qs ts → Row d l (qs ++ [(o, b)]) (ts ++ [o.tk] ++ tb)
  | _, _, .nil => by
    have q := Row.cons ho hb (Row.nil (d := d) (l := l))
    rw [List.append_nil] at q
    exact q
  | _, _, .cons (o := p) (tb := u) h1 h2 (ts := ts) h3 => by
    have q := Row.cons h1 h2 (Row.snoc ho hb h3)
    have e : p.tk :: (u ++ ts) ++ [o.tk] ++ tb = p.tk :: (u ++ (ts ++ [o.tk] ++ tb)) := by simp
    rw [e]
    exact q
def foldB (e : Ex) (qs : List (Bi × Ex)) : Ex := qs.foldl (fun a q => .bin q.1 a q.2) e
theorem foldB_snoc (e : Ex) (qs : List (Bi × Ex)) (o : Bi) (b : Ex) : foldB e (qs ++ [(o, b)]) = .bin o (foldB e qs) b := by
  unfold foldB
  rw [List.foldl_append]
  rfl
theorem G.row {d l : Nat} {e : Ex} {t : List Tk} (h : G d l e t) : l < 5 → l ≠ 2 → ∃ e0 t0 qs ts, G d (l + 1) e0 t0 ∧ Row d l qs ts ∧ t = t0 ++ ts ∧ e = foldB e0 qs := by
  induction h with
  | num n => exact fun q => absurd q (by decide)
  | name x => exact fun q => absurd q (by decide)
  | rows => exact fun q => absurd q (by decide)
  | cols => exact fun q => absurd q (by decide)
  | black _ _ _ _ => exact fun q => absurd q (by decide)
  | neg _ _ => exact fun q => absurd q (by decide)
  | par _ _ => exact fun q => absurd q (by decide)
  | not _ _ => exact fun _ q => absurd rfl q
  | cmp _ _ _ _ _ => exact fun _ q => absurd rfl q
  | left h1 h2 ha hb i1 i2 =>
    intro q1 q2
    obtain ⟨e0, t0, qs, ts, g0, r, rfl, rfl⟩ := i1 q1 q2
    exact ⟨e0, t0, _, _, g0, r.snoc rfl hb, by simp, by rw [foldB_snoc]⟩
  | up h _ => exact fun _ _ => ⟨_, _, [], [], h, .nil, by simp, rfl⟩
/-- comparisons: one, or a not, or none -/
theorem G.cmp3 {d : Nat} {e : Ex} {t : List Tk} (h : G d 2 e t) : (∃ k a ta, d = k + 1 ∧ e = .un .not a ∧ t = kK "not" :: ta ∧ G k 2 a ta) ∨ (∃ o a b ta tb, e = .bin o a b ∧ o.lv = 2 ∧ t = ta ++ [o.tk] ++ tb ∧ G d 3 a ta ∧ G d 3 b tb) ∨ G d 3 e t := by
  generalize hl : 2 = l at h
  cases h with
  | not h => exact .inl ⟨_, _, _, rfl, rfl, rfl, hl ▸ h⟩
  | cmp h1 h2 h3 => exact .inr (.inl ⟨_, _, _, _, _, rfl, h1, rfl, h2, h3⟩)
  | left h1 h2 h3 h4 => exact absurd hl.symm h2
  | up h => subst hl; exact .inr (.inr h)
  | num n => cases hl
  | name x => cases hl
  | rows => cases hl
  | cols => cases hl
  | black _ _ => cases hl
  | neg _ => cases hl
  | par _ => cases hl
/-- a part -/
theorem G.part {d : Nat} {e : Ex} {t : List Tk} (h : G d 5 e t) : (∃ n, e = .num n ∧ t = ([("number", K0.num n)] : List Tk)) ∨ (∃ x, e = .name x ∧ t = [kN x]) ∨ (e = .rows ∧ t = [kK "rows"]) ∨ (e = .cols ∧ t = [kK "cols"]) ∨
    (∃ k, d = k + 1 ∧ ((∃ a b ta tb, e = .bin .black a b ∧ t = [kK "black", kM "("] ++ ta ++ [kM ","] ++ tb ++ [kM ")"] ∧ G k 0 a ta ∧ G k 0 b tb) ∨ (∃ a ta, e = .un .neg a ∧ t = kM "-" :: ta ∧ G k 5 a ta) ∨ (∃ ta, t = [kM "("] ++ ta ++ [kM ")"] ∧ G k 0 e ta))) ∨ G d 6 e t := by
  generalize hl : 5 = l at h
  cases h with
  | num n => exact .inl ⟨_, rfl, rfl⟩
  | name x => exact .inr (.inl ⟨_, rfl, rfl⟩)
  | rows => exact .inr (.inr (.inl ⟨rfl, rfl⟩))
  | cols => exact .inr (.inr (.inr (.inl ⟨rfl, rfl⟩)))
  | black h1 h2 => exact .inr (.inr (.inr (.inr (.inl ⟨_, rfl, .inl ⟨_, _, _, _, rfl, rfl, h1, h2⟩⟩))))
  | neg h1 => exact .inr (.inr (.inr (.inr (.inl ⟨_, rfl, .inr (.inl ⟨_, _, rfl, rfl, h1⟩)⟩))))
  | par h1 => exact .inr (.inr (.inr (.inr (.inl ⟨_, rfl, .inr (.inr ⟨_, rfl, h1⟩)⟩))))
  | not h => cases hl
  | cmp h1 h2 h3 => cases hl
  | left h1 h2 h3 h4 => omega
  | up h => subst hl; exact .inr (.inr (.inr (.inr (.inr h))))
theorem G.no6 {d l : Nat} {e : Ex} {t : List Tk} (h : G d l e t) : l ≤ 5 := by
  induction h with
  | left h1 h2 h3 h4 => omega
  | up h i => omega
  | _ => decide
/-! ### what goes on -/
/-- the level of a mark -/
def mkLv (w : Str) : Nat := if w = "or" then 0 else if w = "and" then 1 else if w = "<" ∨ w = "<=" ∨ w = "=" ∨ w = "!=" then 2 else if w = "+" ∨ w = "-" then 3 else if w = "*" ∨ w = "/" ∨ w = "mod" then 4 else 9
/-- behind an expression of a level stands a word w: it joins nothing more at that level or above -/
def Stop (l : Nat) (w : Str) : Prop := mkLv w < l ∨ mkLv w = 9
theorem Stop.up {l m : Nat} {w : Str} (h : Stop l w) (hl : l ≤ m) : Stop m w := by
  rcases h with h | h
  · exact .inl (by omega)
  · exact .inr h
theorem mkLv_tk {o : Bi} (h : o.lv < 5) : mkLv o.tk.2 = o.lv := by
  cases o <;> first | (exact absurd h (by decide)) | decide +kernel
def lvW : Nat → List Str
  | 0 => ["or"] | 1 => ["and"] | 2 => ["<", "<=", "=", "!="] | 3 => ["+", "-"] | 4 => ["*", "/", "mod"] | _ => []
theorem lvW_no {l : Nat} {w : Str} (h : Stop l w) (hl : l < 5) : w ∉ lvW l := by
  intro q
  have e : mkLv w = l := by
    match l, hl, q with
    | 0, _, q => simp only [lvW, List.mem_cons, List.not_mem_nil, or_false] at q; subst q; decide +kernel
    | 1, _, q => simp only [lvW, List.mem_cons, List.not_mem_nil, or_false] at q; subst q; decide +kernel
    | 2, _, q => simp only [lvW, List.mem_cons, List.not_mem_nil, or_false] at q; rcases q with rfl | rfl | rfl | rfl <;> decide +kernel
    | 3, _, q => simp only [lvW, List.mem_cons, List.not_mem_nil, or_false] at q; rcases q with rfl | rfl <;> decide +kernel
    | 4, _, q => simp only [lvW, List.mem_cons, List.not_mem_nil, or_false] at q; rcases q with rfl | rfl | rfl <;> decide +kernel
  rcases h with h | h <;> omega
theorem lvW_yes {o : Bi} (h : o.lv < 5) : o.tk.2 ∈ lvW o.lv := by
  cases o <;> first | (exact absurd h (by decide)) | decide +kernel
theorem Stop.tk {o : Bi} {l : Nat} (h : o.lv < l) (h5 : o.lv < 5) : Stop l o.tk.2 := .inl (by rw [mkLv_tk h5]; exact h)
/-- the first word of a row, or of what stands behind -/
theorem Row.stop {d l : Nat} {qs : List (Bi × Ex)} {ts : List Tk} (h : Row d l qs ts) (h5 : l < 5) {w : Tk} {rest : List Tk} (hr : Stop l w.2) : ∃ u us, ts ++ w :: rest = u :: us ∧ Stop (l + 1) u.2 := by
  cases h with
  | nil => exact ⟨w, rest, rfl, hr.up (Nat.le_succ l)⟩
  | cons h1 h2 h3 => exact ⟨_, _, rfl, Stop.tk (by omega) (by omega)⟩
/-- the first words of expressions: no statement begins so, nor is it a not below the comparisons -/
theorem G.first {d l : Nat} {e : Ex} {t : List Tk} (h : G d l e t) : wfE e → ∃ w ws, t = w :: ws ∧ (3 ≤ l → w.2 ≠ "not") ∧ w.2 ≠ ")" := by
  have nn : ∀ n : Nat, K0.num n ≠ "not" ∧ K0.num n ≠ ")" := fun n => by
    have q := K0.numL_fig n
    have hne := K0.numL_ne n
    have aux : ∀ z : Str, (tl z).any (fun c => !K0.isFig c) = true → K0.num n ≠ z := fun z hz e => by
      rw [← e, K0.tl_num'] at hz
      rw [List.any_eq_true] at hz
      obtain ⟨c, hc, hc2⟩ := hz
      rw [List.all_eq_true] at q
      rw [q c hc] at hc2
      cases hc2
    exact ⟨aux _ (by decide +kernel), aux _ (by decide +kernel)⟩
  have nm : ∀ x : Str, nameW x = true → x ≠ "not" ∧ x ≠ ")" := fun x hx => ⟨fun e => by rw [e] at hx; revert hx; decide +kernel, fun e => by rw [e] at hx; revert hx; decide +kernel⟩
  induction h with
  | num n => exact fun _ => ⟨_, _, rfl, fun _ => (nn n).1, (nn n).2⟩
  | name x => exact fun hw => ⟨_, _, rfl, fun _ => (nm x hw).1, (nm x hw).2⟩
  | rows => exact fun _ => ⟨_, _, rfl, fun _ => by decide +kernel, by decide +kernel⟩
  | cols => exact fun _ => ⟨_, _, rfl, fun _ => by decide +kernel, by decide +kernel⟩
  | black _ _ _ _ => exact fun _ => ⟨_, _, rfl, fun _ => by decide +kernel, by decide +kernel⟩
  | neg _ _ => exact fun _ => ⟨_, _, rfl, fun _ => by decide +kernel, by decide +kernel⟩
  | par _ _ => exact fun _ => ⟨_, _, rfl, fun _ => by decide +kernel, by decide +kernel⟩
  | not _ _ => exact fun _ => ⟨_, _, rfl, fun q => absurd q (by decide), by decide +kernel⟩
  | cmp h1 ha hb i1 i2 =>
    intro hw
    obtain ⟨w, ws, rfl, h2, h3⟩ := i1 hw.1
    exact ⟨w, _, rfl, fun _ => h2 (by decide), h3⟩
  | left h1 h2 ha hb i1 i2 =>
    intro hw
    obtain ⟨w, ws, rfl, h3, h4⟩ := i1 hw.1
    exact ⟨w, _, rfl, h3, h4⟩
  | up h i =>
    intro hw
    obtain ⟨w, ws, rfl, h3, h4⟩ := i hw
    exact ⟨w, ws, rfl, fun q => h3 (by omega), h4⟩
end KD

/-! A word with its kind and its place. -/
namespace KD
open PySem L2 TL
structure T3 where
  kd : Str
  w : Str
  pl : Nat
def T3.d (t : T3) : PyData := .tuple [.str t.kd, .str t.w, .int (t.pl : Nat)]
def T3.tk (t : T3) : Tk := (t.kd, t.w)
theorem tupDs_T3 : ∀ l : List T3, tupDs (l.map T3.d) = true
  | [] => rfl
  | t :: l => by
    show (tupD t.d && tupDs (l.map T3.d)) = true
    rw [tupDs_T3 l]
    rfl
end KD

/-! A generator expression in all(..): its table of code objects is told by what always holds of it, so that nothing that is tracked changes. -/
namespace GN
open PySem PySem.Spec PyProof.Rows L2
/-- what is always true of the table at P -/
def TabI (P : Addr) (h : Heap) : Prop := ∃ ps : Array Value, h.get? P = some { cls := .none, data := .fields ps } ∧ TriplesOk ps.toList
/-- the table at P is tracked so -/
def Tab (P : Addr) (H : Hp) : Prop := H P = some (.ext (TabI P))
theorem TabI.okX {P0 : Program} {w : World} {P : Addr} {H : Hp} {h : Heap} (t : TabI P h) : ObjOk P0 w H h P (.ext (TabI P)) := by
  obtain ⟨ps, e, q⟩ := t
  exact ⟨⟨ps, e, q⟩, ⟨_, e⟩, fun h1 h2 z k => by
    obtain ⟨qs, e1, q1⟩ := z
    exact ⟨qs, k _ e1, q1⟩⟩
section
variable {X : Cx} {pins : List (Addr × Obj)} {σ : L2.St} {H : Hp} {s : Shared}
/-- the table has grown, all else stands -/
theorem grow {P : Addr} {h2 : Heap} {gs : Array GenState} {dr : Drawn} {tk : Nat} (I : Inv X pins σ H s) (hP : Tab P H) (kp : ∀ b o, b ≠ P → s.heap.get? b = some o → h2.get? b = some o) (hT : TabI P h2) (hg : AllBare gs) :
    Inv X pins σ H { s with heap := h2, gens := gs, drawn := dr, toks := tk } := by
  have away : ∀ {b : Addr}, H b = none → b ≠ P := fun n z => by rw [z, hP] at n; cases n
  have other : ∀ {b : Addr} {u : HO}, H b = some u → (∀ φ, u ≠ .ext φ) → b ≠ P := fun q n z => by
    rw [z, hP] at q
    exact n _ (Option.some.inj q).symm
  refine I.step (g' := gs) (d' := dr) (ch := []) (by intro b hb; cases hb) (fun b o _ _ _ q n => kp b o (away n) q) (fun b o _ _ _ q n => ⟨_, kp b o (away n) q⟩) (fun b o _ _ n => n) ?_ (fun b xs q => q) (fun b o u q => q) (fun b ps q => ⟨#[], by rw [q, Array.append_empty]⟩) ?_ ?_ hg
  · intro b o _ q
    by_cases z : b = P
    · obtain ⟨ps, e, _⟩ := hT
      exact ⟨_, z ▸ e⟩
    · exact ⟨o, kp b o z q⟩
  · rintro m ⟨o, es, ep, ho, r⟩
    exact ⟨o, es, ep, kp _ o (away I.free) ho, r⟩
  · intro b u q
    by_cases z : b = P
    · subst z
      rw [hP] at q
      cases q
      exact hT.okX
    · refine (I.hok b u q).stay (fun d v hd e => kp d v ?_ e) (fun _ e => e) (fun _ _ e => e)
      rcases hd with hd | hd
      · rw [hd]; exact z
      · exact other hd fun φ y => by cases y
/-- what the element must be: a test of the sign that is held, the module's names at hand -/
def Elt (X : Cx) (sc : Scope) (x : Str) (elt : Expr) (pb : Nat → Bool) : Prop :=
  ∀ (env : Env) (B : Around) (Ex : Value → Shared → Prop) (c : Nat) (t : Tok) (s2 : Shared) (m2 : Str → Option Value), env.scope = sc → env.globals = mainGlobals → s2.heap.Ns mainGlobals X.mg → s2.heap.Ns env.locals m2 → m2 x = some (.str ⟨#[c]⟩ t) →
    wpAny (model X.prog X.w) B (eval elt env) (fun y s3 => y = .bool (pb c) ∧ Keeps s2 s3) Ex s2
/-- x in NAME, the name being a text of the module -/
theorem elt_in {sc : Scope} {x y : Str} {Z : Str} {tz : Tok} {p1 p2 p3 : Pos} (hk : sc.kind = .function) (hx : sc.names.lookup x = some .local) (hy : sc.names.lookup y = some .globalImplicit) (hm : X.mg y = some (.str Z tz)) (d1 : (x == ("__debug__" : Str)) = false := by decide) (d2 : (y == ("__debug__" : Str)) = false := by decide) :
    Elt X sc x (.Compare (.Name x p1) [.In] [.Name y p2] p3) (fun c => decide (c ∈ Z.cps.toList)) := by
  intro env B Ex c t s2 m2 hs hgl hG hn hm2
  refine wpAny_Compare1 ?_
  refine wpAny_Name (wpAny_loadName_local (by rw [hs]; exact hk) (by show env.scope.names.lookup x = _; rw [hs]; exact hx) hn hm2 ?_) d1
  refine Calls.Name_function_global (by rw [hs]; exact hk) (by show env.scope.names.lookup y = _; rw [hs]; exact hy) (Calls.loadGlobal_global (by rw [hgl]; exact hG) hm ?_) d2
  refine PyProof.Rows.in_str ⟨?_, GxR.keeps_refl _⟩
  rw [PySem.StrLaws.found_one Z c]
end
end GN
namespace GN
open PySem PySem.Spec PyProof.Rows L2
section
variable {X : Cx} {pins : List (Addr × Obj)} {σ : L2.St} {H : Hp} {s : Shared}
/-- the generator at g goes over the signs of z, in the state s5 -/
def Goes (X : Cx) (pins : List (Addr × Obj)) (σ : L2.St) (H1 : Hp) (z : Str) (pb : Nat → Bool) (g : Addr) (s5 : Shared) : Prop :=
  ∃ (fp wr : List Addr) (G : Array GenState → Array GenState → Prop) (F : Nat → Value → Prop) (St : Nat → Shared → Prop),
    St 0 s5 ∧ WalksS X.prog X.w X.A.in1 g fp wr G z.cps.size F St ∧ (∀ s', Moved wr G s5 s' → Inv X pins σ H1 s') ∧
    TruthOf X.prog X.w X.A.in1 F (GxR.trF pb z.cps.toList)
theorem gen_signs {c P : Addr} {elt iter : Expr} {x : Str} {px gp : Pos} {sc : Scope} {pb : Nat → Bool} {te : TE} {k : Nat} {Z : Value → Shared → Prop} {R : Str → Hp → Prop}
    (hr : Room k X.A) (TB : GxR.TabB X.base X.mg c P) (hc : X.env.code = .ref c) (S : GxR.GenS X.env sc x) (hi : PE X iter te) (hel : Elt X sc x elt pb)
    (hfold : ∀ v, genFold iter X.env v = pure v) (I : Inv X pins σ H s) (h : te σ H fun v H1 => ∃ z : Str, v = .str z ∧ Tab P H1 ∧ R z H1)
    (after : ∀ z H1 g s5, R z H1 → Goes X pins σ H1 z pb g s5 → Z (.ref g) s5) :
    wpAny (model X.prog X.w) X.A (eval (.GeneratorExp elt [⟨.Name x px, iter, [], 0⟩] sc gp) X.env) Z X.xe s := by
  have room : X.A.depth < recursionLimit := by have := hr.dp; omega
  refine wpAny_GeneratorExp_walksQ (cl := cloFrom X.env.cells sc.names []) hr.hd S.co (closure_ok S.free) S.cell S.dot S.loc S.kind room (thn (hi.run pins s σ H _ I h) ?_) hfold
  rintro xv s1 ⟨v, H1, J, rv, z, rfl, hT, hR⟩
  obtain ⟨tz, rfl⟩ := id rv
  obtain ⟨ps, eP, tr⟩ : TabI P s1.heap := (J.hok P _ hT).1
  refine wpAny_pyIter_str fun it St W st0 => ?_
  have lim : (s1.heap.push it).NoLimit := J.nolimit.push it
  refine ⟨lim, ?_⟩
  have szit : (s1.heap.push it).objs.size = s1.heap.objs.size + 1 := Heap.size_push ..
  have eP2 : (s1.heap.push it).get? P = some { cls := .none, data := .fields ps } := Heap.get?_push_of_some _ eP
  have code0 : PySem.W.CodeHd (s1.heap.push it) c P := TB.code.keeps fun b u e => Heap.get?_push_of_some _ (J.bk b u e)
  -- what follows, wherever the generator's code object comes from
  have rest : ∀ (cv : Value) (h3 : Heap) (tk : Nat), Heap.ExtBut P (s1.heap.push it) h3 → (s1.heap.push it).objs.size ≤ h3.objs.size → TabI P h3 →
      wpAny (model X.prog X.w) X.A (builtinsFor X.env.globals X.env.builtins) (fun bi s4 =>
        ∃ Ia fp wr n0 Pf St0 pz F, Value.ref s1.heap.objs.size = .ref Ia ∧ (∀ A2 : Around, A2.handled = none → Walks X.prog X.w A2 Ia fp wr n0 Pf St0) ∧ St0 0 s4.heap ∧ (∀ b ∈ fp, b < s4.heap.objs.size) ∧ s4.heap.NoLimit ∧ cStatics ∉ wr ∧
          (∀ hq : Heap, (∀ b o, s4.heap.get? b = some o → hq.get? b = some o) →
            QuietGen X.prog X.w (genEnv sc (cloFrom X.env.cells sc.names []) s4.heap.objs.size cv bi X.env) x [] elt (List.range s4.heap.objs.size) wr Pf pz F hq) ∧
          (∀ a h5 tk2 g, g.bare = true → s4.heap.objs.size < a → h5.objs.size = a + 1 → (∀ b o, s4.heap.get? b = some o → h5.get? b = some o) →
            WalksS X.prog X.w X.A.in4 a (a :: s4.heap.objs.size :: List.range s4.heap.objs.size) (s4.heap.objs.size :: wr) (GenOnlyQ s4.gens.size) (passing pz n0 0).length
              (fun j y => ∃ i, (passing pz n0 0)[j]? = some i ∧ F i y) (GenAt X.prog X.w X.A.in4 a s4.gens.size s4.heap.objs.size (List.range s4.heap.objs.size) wr pz n0 F) →
            GenAt X.prog X.w X.A.in4 a s4.gens.size s4.heap.objs.size (List.range s4.heap.objs.size) wr pz n0 F 0 { s4 with gens := s4.gens.push g, toks := tk2, heap := h5 } →
            Z (.ref a) { s4 with gens := s4.gens.push g, toks := tk2, heap := h5 })) X.xe { s1 with heap := h3, toks := tk } := by
    intro cv h3 tk ext size hT3
    obtain ⟨bm, ob, b1, b2, b3, b4, b5, b6, b7, b8⟩ := TB.bm
    have stays : ∀ b u, b ≠ P → s1.heap.get? b = some u → h3.get? b = some u := fun b u n e => ext b u n (Heap.get?_push_of_some _ e)
    have glob : h3.Ns mainGlobals X.mg := ((J.mod.glob.keeps J.bk).push it).extBut ext TB.gP
    have low : ∀ {b : Addr} {u : Obj}, s1.heap.get? b = some u → b < s1.heap.objs.size := fun e => Heap.lt_size e
    have nlim : cStatics ≠ P := fun z => by
      obtain ⟨_, ⟨o2, es, ep, ho, hd, _⟩, _⟩ := J.nolimit
      rw [z, eP] at ho
      cases ho
      cases hd
    have stat : cStatics < s1.heap.objs.size := let ⟨_, hns, _⟩ := J.nolimit; hns.lt
    refine wpAny_builtinsFor (m := X.mg) (by rw [J.ok.glob]; exact glob) b1 b2 (stays _ _ b4 (J.bk _ _ b5)) b6 b7 b8 ?_
    refine ⟨s1.heap.objs.size, [s1.heap.objs.size], [s1.heap.objs.size], z.cps.size, SignAt z, St, (fun _ => true), (fun i y => ∃ d, z.cps[i]? = some d ∧ y = .bool (pb d)), rfl, W, ?_, ?_, lim.extBut ext nlim, ?_, ?_, ?_⟩
    · refine (W X.A hr.hd).frame _ _ _ st0 fun b hb u e => ext b u (fun q => ?_) e
      have q1 : b = s1.heap.objs.size := List.mem_singleton.mp hb
      exact Nat.ne_of_lt (low eP) (q.symm.trans q1)
    · intro b hb
      rw [List.mem_singleton.mp hb]
      show s1.heap.objs.size < h3.objs.size
      omega
    · intro q
      have q1 : cStatics = s1.heap.objs.size := List.mem_singleton.mp q
      rw [q1] at stat
      exact Nat.lt_irrefl _ stat
    · intro hq hk
      constructor
      · intro A2 E2 i v s2 m2 _ _ _ _ _
        simp only [List.forIn_nil]
        exact wpAny_pure ⟨rfl, GxR.keeps_refl _⟩
      · intro A2 E2 i v s2 m2 _ hv _ hn hm kk
        obtain ⟨d, u, hd, rfl⟩ := hv
        have inR : mainGlobals ∈ List.range h3.objs.size := List.mem_range.mpr glob.lt
        have notw : mainGlobals ∉ [s1.heap.objs.size] := fun q => by
          have q1 : mainGlobals = s1.heap.objs.size := List.mem_singleton.mp q
          have q2 : mainGlobals < s1.heap.objs.size := (J.mod.glob.keeps J.bk).lt
          rw [q1] at q2
          exact Nat.lt_irrefl _ q2
        have glob2 : s2.heap.Ns mainGlobals X.mg := by
          obtain ⟨o, es, ep, e, r⟩ := glob
          exact ⟨o, es, ep, kk mainGlobals inR notw o (hk _ _ e), r⟩
        exact wpAny_mono (hel _ A2 E2 d u s2 m2 rfl J.ok.glob glob2 hn hm) (fun y s3 r => ⟨⟨d, hd, r.1⟩, r.2⟩) fun _ _ e => e
    · intro a h5 tk2 g gb low5 size5 keep5 W5 at5
      simp only [GxR.passing_true, List.length_range] at W5
      refine after z H1 a _ hR ⟨_, _, _, _, _, at5, W5.in4_1, fun s' mv => ?_, fun j y sj Qj Ej hy hQ => ?_⟩
      · have safe : ∀ b u, s1.heap.get? b = some u → b ∉ h3.objs.size :: [s1.heap.objs.size] := fun b u e hb => by
          have l1 := low e
          rcases List.mem_cons.mp hb with q | q
          · rw [q] at l1
            have l2 : (h3.objs.size : Nat) < s1.heap.objs.size := l1
            omega
          · rw [List.mem_singleton.mp q] at l1
            exact Nat.lt_irrefl _ l1
        obtain ⟨qs, e3, t3⟩ := hT3
        have Y := grow (h2 := s'.heap) (gs := s'.gens) (dr := s'.drawn) (tk := s'.toks) J hT (fun b u n e => mv.heap b u (safe b u e) (keep5 b u (stays b u n e))) ⟨qs, mv.heap P _ (safe P _ eP) (keep5 P _ e3), t3⟩ (AllBare.movedS (J.bare.push gb) mv)
        rw [GxR.sh_eta s1 s' mv.os] at Y
        exact Y
      · obtain ⟨i, ei, d, ed, rfl⟩ := hy
        obtain ⟨li, ei2⟩ := List.getElem?_eq_some_iff.mp ei
        rw [List.getElem_range] at ei2
        subst ei2
        have hQ2 : Qj (GxR.trF pb z.cps.toList j) sj := hQ
        rw [GxR.trF_some (b := d) (by rw [Array.getElem?_toList]; exact ed)] at hQ2
        exact wpAny_truthy_bool hQ2
  cases found : codeAmong gp ps.toList with
  | some cv => exact wpAny_genexprCode_hit hc (code0.code eP2 tr) found (rest cv _ s1.toks (Heap.ExtBut.refl _ _) (Nat.le_refl _) ⟨ps, eP2, tr⟩)
  | none =>
    refine wpAny_genexprCodeX hc (code0.code eP2 tr) (code0.tab eP2) found fun c2 h2 tk ext ge lt isC _ tab2 _ => ?_
    obtain ⟨_, _, _, _, _, _, _, _, _, _, _, _, _, _, _, _, _, _, _, tr2, _⟩ := isC
    exact rest _ h2 tk ext (Nat.le_trans ge (Nat.le_of_lt lt)) ⟨_, tab2.2, tr2⟩
/-- all(test for x in e), e a text -/
def tAll (P : Addr) (pb : Nat → Bool) (te : TE) : TE := fun σ H Q => te σ H fun v H1 => ∃ z : Str, v = .str z ∧ Tab P H1 ∧ Q (.bl (z.cps.toList.all pb)) H1
theorem pe_all {c P : Addr} {elt iter : Expr} {x : Str} {px p pos gp : Pos} {sc : Scope} {pb : Nat → Bool} {te : TE} {k : Nat}
    (hr : Room k X.A) (hg : Gl X "all") (hm : X.mg "all" = none) (TB : GxR.TabB X.base X.mg c P) (hc : X.env.code = .ref c) (S : GxR.GenS X.env sc x) (hi : PE X iter te) (hel : Elt X sc x elt pb)
    (hfold : ∀ v, genFold iter X.env v = pure v) (hb : bootBuiltins "all" = some (.builtin "all") := by decide +kernel)
    (one : starEach [.GeneratorExp elt [⟨.Name x px, iter, [], 0⟩] sc gp] X.env = (false, eval (.GeneratorExp elt [⟨.Name x px, iter, [], 0⟩] sc gp) X.env) :: starEach [] X.env := by rfl) :
    PE X (.Call (.Name "all" p) [.GeneratorExp elt [⟨.Name x px, iter, [], 0⟩] sc gp] [] pos) (tAll P pb te) := by
  constructor
  intro pins s σ H Q I h
  refine wpAny_Call_Name_kw (ld_blt I hg hm hb (PyProof.Rows.callWith_builtin1 ?_ one (by rfl)))
  rw [one]
  show wpAny _ _ (spliced ((false, eval (.GeneratorExp elt [⟨.Name x px, iter, [], 0⟩] sc gp) X.env) :: backTo pos (starEach [] X.env))) _ _ s
  refine Calls.spliced_cons (gen_signs (R := fun z H1 => Q (.bl (z.cps.toList.all pb)) H1) hr TB hc S hi hel hfold I h fun z H1 g s5 hR hG => Calls.spliced_nil ?_)
  obtain ⟨fp, wr, G, F, St, st, W, inv, tr⟩ := hG
  refine call_all_walkS (W.self 0 _ _ _ st ⟨g, fp, wr, G, _, F, St, _, rfl, W, st, tr, fun s' mv => ⟨.bl _, H1, inv s' mv, rfl, ?_⟩⟩)
  rw [GxR.all_signs z pb]
  exact hR
end
end GN

/-! The program's words, with their places. -/
namespace K8
open PySem L2 TL
open K0 (isFig isLet isAl isBl kws mks inM sigs kind Toks toks_nil toks_blank toks_word inM_iff)
open KD (Blt in_strs flat_strs)
abbrev sPlaced : Stmt := KD.S_placed_words
abbrev sCheck : Stmt := KD.S_check_text
abbrev sWordAt : Stmt := KD.S_word_at
abbrev sSigns : Stmt := KD.S_signs_at
abbrev sRunEnd : Stmt := KD.S_run_end
abbrev sKind : Stmt := KD.S_kind_of
abbrev sIsNum : Stmt := KD.S_is_number
/-- what the top has written, of words -/
structure Txt (K : PySem.W.Frag) (mg : Str → Option Value) : Prop where
  all : mg "all" = none
  keys : ∃ a, mg "KEYS" = some (.ref a) ∧ ∀ H, SqT K H a (kws.map V.str)
  marks : ∃ a, mg "MARKS" = some (.ref a) ∧ ∀ H, SqT K H a (mks.map V.str)
  figs : ∃ t, mg "FIGURES" = some (.str "0123456789" t)
  lets : ∃ t, mg "LETTERS" = some (.str "abcdefghijklmnopqrstuvwxyz" t)
  blanks : ∃ t, mg "BLANKS" = some (.str " \n" t)
  mSigns : ∃ t, mg "MOST_SIGNS" = some (.int 100000 t)
  mFigs : ∃ t, mg "MOST_FIGURES" = some (.int 6 t)
  mLets : ∃ t, mg "MOST_LETTERS" = some (.int 12 t)
def figS : Str := "0123456789"
def letS : Str := "abcdefghijklmnopqrstuvwxyz"
theorem figS_tl : tl figS = [48, 49, 50, 51, 52, 53, 54, 55, 56, 57] := by decide +kernel
theorem letS_tl : tl letS = [97, 98, 99, 100, 101, 102, 103, 104, 105, 106, 107, 108, 109, 110, 111, 112, 113, 114, 115, 116, 117, 118, 119, 120, 121, 122] := by decide +kernel
theorem in_fig (c : Nat) : decide (c ∈ tl figS) = isFig c := by
  rw [figS_tl, Bool.eq_iff_iff]
  unfold isFig
  simp only [List.mem_cons, List.not_mem_nil, or_false, decide_eq_true_eq, Bool.and_eq_true]
  omega
theorem in_let (c : Nat) : decide (c ∈ tl letS) = isLet c := by
  rw [letS_tl, Bool.eq_iff_iff]
  unfold isLet
  simp only [List.mem_cons, List.not_mem_nil, or_false, decide_eq_true_eq, Bool.and_eq_true]
  omega
theorem in_bl (c : Nat) : decide (c ∈ tl (" \n" : Str)) = isBl c := by
  rw [show tl (" \n" : Str) = [32, 10] by decide +kernel, Bool.eq_iff_iff]
  unfold isBl
  simp only [List.mem_cons, List.not_mem_nil, or_false, decide_eq_true_eq, Bool.or_eq_true, beq_iff_eq]
/-- the sign at a place -/
theorem sign_at {z : Str} {n c : Nat} {r : List Nat} (h : (tl z).drop n = c :: r) : atI (tl z) ((n : Nat) : Int) = some c ∧ n < z.length := by
  have hlt : n < (tl z).length := by
    apply Classical.byContradiction
    intro q
    rw [List.drop_eq_nil_of_le (by omega)] at h
    cases h
  have e := List.drop_eq_getElem_cons hlt
  rw [h] at e
  injection e with e1 e2
  exact ⟨atI_nat (by rw [List.getElem?_eq_getElem hlt, e1]), by rw [len_tl]; exact hlt⟩

section
variable {P : Program} {w : World} {K : PySem.W.Frag} {mg : Str → Option Value} {base : Heap}
/-- check_text: a text that is not too long -/
def spCheck : Sp := fun vs H Q _ => ∃ z : Str, vs = [.str z] ∧ z.length ≤ 100000 ∧ ∀ H', Same H H' → Q .non H'
theorem scCheck : FnScope ["value"] ["value"] (defScope sCheck) := ⟨rfl, rfl, rfl, by decide +kernel, rfl, by decide +kernel, by decide +kernel⟩
theorem ok_check {f : Addr} {fd : FuncData} (F : Fun K "check_text" "check_text" sCheck f fd) (T : Txt K mg) (B : Blt mg) : FnOk P w K mg base CX0 1 f fd ["value"] spCheck := by
  refine F.ok scCheck (fun vs H Q E h => ?_) (fun cdv A outer s0 H vs Q E hr h => ?_)
  · obtain ⟨z, rfl, _⟩ := h
    rfl
  obtain ⟨z, rfl, hz, k⟩ := h
  obtain ⟨t, mS⟩ := T.mSigns
  have hz' : z.length ≤ sizeLine := Nat.le_trans hz (by decide)
  refine ⟨_, pss_cons (ps_if (pt_not (pt_val (pe_callB call_isi (by rfl) B.isi (by decide +kernel) (pa_cons (pv 0) (pa_cons (pe_bltn (v := .ty "str") (by rfl) B.str (by decide +kernel) rfl) pa_nil))))) pss_never pss_nil)
    (pss_one (ps_if (pt_cmpR op_gt (pe_callB call_len_str (by rfl) B.len PySem.boot_len (pa_cons (pv 0) pa_nil)) (pe_glob (v := .int 100000) rfl mS ⟨_, rfl⟩) (nomark _)) pss_never pss_nil)), ?_⟩
  refine ⟨_, rfl, _, _, _, _, true, rfl, .ty "str", .base (.str _), kit_ty (by decide +kernel), true, rfl, iteF ?_⟩
  refine ⟨_, rfl, z, rfl, hz', _, _, rfl, rfl, _, rfl, ?_⟩
  refine ite2 (fun c => ?_) (fun c => ?_)
  · have q : ((z.length : Nat) : Int) > 100000 := of_decide_eq_true c
    omega
  · exact k H (Same.refl H)

/-- run_end -/
def spRunEnd : Sp := fun vs H Q _ => ∃ (z sg : Str) (n : Nat) (p : Nat → Bool), vs = [.str z, .int n, .str sg] ∧ z.length ≤ 100000 ∧ n ≤ z.length ∧ (∀ c, decide (c ∈ tl sg) = p c) ∧
  ∀ H', Same H H' → Q (.int ((n + (((tl z).drop n).takeWhile p).length : Nat) : Int)) H'
theorem scRunEnd : FnScope ["text", "at", "signs"] ["text", "at", "signs"] (defScope sRunEnd) := ⟨rfl, rfl, rfl, by decide +kernel, rfl, by decide +kernel, by decide +kernel⟩
theorem ok_runEnd {f : Addr} {fd : FuncData} (F : Fun K "run_end" "run_end" sRunEnd f fd) (T : Txt K mg) (B : Blt mg) : FnOk P w K mg base CX0 1 f fd ["text", "at", "signs"] spRunEnd := by
  refine F.ok scRunEnd (fun vs H Q E h => ?_) (fun cdv A outer s0 H vs Q E hr h => ?_)
  · obtain ⟨z, sg, n, p, rfl, _⟩ := h
    rfl
  obtain ⟨z, sg, n, p, rfl, hz, hn, hp, k⟩ := h
  have hz' : z.length ≤ sizeLine := Nat.le_trans hz (by decide)
  refine ⟨_, pss_cons (ps_while PassesOwn.never
      (PW.pt (pw_and (pt_cmpR op_lt (pv 1) (pe_callB call_len_str (by rfl) B.len PySem.boot_len (pa_cons (pv 0) pa_nil)) (nomark _)) (pw_and1 (pt_cmpR op_in_sign (pe_ix ix_str (pv 0) (pv 1) (fun _ _ => rfl)) (pv 2) (by rfl)))))
      (pss_one (ps_aug (i := 1) scRunEnd.nd rfl (Or.inl rfl) pe_int ip_add)))
    (pss_one (ps_ret (pv 1))), ?_⟩
  refine while_by (fun σ H' => ∃ m : Nat, σ = [some (.str z), some (.int m), some (.str sg)] ∧ m ≤ z.length ∧ Same H H' ∧ n + (((tl z).drop n).takeWhile p).length = m + (((tl z).drop m).takeWhile p).length)
    (fun σ _ => match σ with | [_, some (.int m), _] => z.length - m.toNat | _ => 0) ⟨n, rfl, hn, Same.refl H, rfl⟩ ?_ ?_
  · rintro σ H' ⟨m, rfl, hm, sm, e⟩
    refine ⟨_, rfl, _, rfl, z, rfl, hz', _, _, rfl, rfl, _, rfl, ?_⟩
    refine ite2 (fun c => ?_) (fun c => ?_)
    · have hlt : m < z.length := by
        have q : ((m : Nat) : Int) < ((z.length : Nat) : Int) := of_decide_eq_true c
        omega
      obtain ⟨ch, rr, hd⟩ : ∃ ch rr, (tl z).drop m = ch :: rr := ⟨_, _, List.drop_eq_getElem_cons (by rw [← len_tl]; exact hlt)⟩
      have hd1 : (tl z).drop (m + 1) = rr := by
        rw [← List.drop_drop, hd] <;> rfl
      refine ⟨_, rfl, _, rfl, z, _, ch, rfl, rfl, hz', (sign_at hd).1, _, rfl, ch, sg, rfl, rfl, _, rfl, ?_⟩
      rw [hp ch]
      refine ite2 (fun c1 => ?_) (fun c1 => ?_)
      · refine ⟨_, rfl, _, _, rfl, rfl, ?_⟩
        refine ⟨⟨m + 1, rfl, by omega, sm, ?_⟩, ?_⟩
        · rw [e, hd, hd1, List.takeWhile_cons, if_pos c1, List.length_cons]
          omega
        · show z.length - ((m : Int) + 1).toNat < z.length - (m : Int).toNat
          omega
      · refine ⟨_, rfl, ?_⟩
        have q := k H' sm
        rw [e, hd, List.takeWhile_cons, if_neg c1] at q
        exact q
    · have hlt : ¬ m < z.length := by
        have q : ¬ ((m : Nat) : Int) < ((z.length : Nat) : Int) := of_decide_eq_false (Bool.eq_false_iff.mpr c)
        omega
      refine iteF ?_
      refine ⟨_, rfl, ?_⟩
      have q := k H' sm
      rw [e, List.drop_eq_nil_of_le (by rw [← len_tl]; omega)] at q
      exact q
  · intro σ H' Q1 Q2 hq h
    obtain ⟨v1, e1, v0, e0, z1, e2, hz1, i1, j1, ei, ej, k1, ek, h⟩ := h
    refine ⟨v1, e1, v0, e0, z1, e2, hz1, i1, j1, ei, ej, k1, ek, ?_⟩
    by_cases hk : k1 = true
    · rw [if_pos hk] at h
      rw [if_pos hk]
      obtain ⟨v2, e3, v3, e4, z2, i2, c2, e5, e6, hz2, e7, v4, e8, c3, z3, e9, e10, k2, e11, h⟩ := h
      exact ⟨v2, e3, v3, e4, z2, i2, c2, e5, e6, hz2, e7, v4, e8, c3, z3, e9, e10, k2, e11, hq _ _ h⟩
    · rw [if_neg hk] at h
      rw [if_neg hk]
      exact hq _ _ h
end
theorem one_zero (c : Nat) : decide (V.str ⟨#[c]⟩ = V.str "0") = (c == 48) := by
  rw [Bool.eq_iff_iff, decide_eq_true_iff, beq_iff_eq]
  have e0 : ("0" : Str) = ⟨#[48]⟩ := by decide +kernel
  constructor
  · intro h
    have h1 := V.str.inj h
    rw [e0] at h1
    have h2 : tl (⟨#[c]⟩ : Str) = tl (⟨#[48]⟩ : Str) := by rw [h1]
    exact (List.cons.inj h2).1
  · intro h
    subst h
    rw [e0]
theorem cut_tl {z : Str} {n m : Nat} (h1 : n ≤ z.length) : tl (cutS z (some (n : Int)) (some (m : Int))) = ((tl z).drop n).take (m - n) := by
  unfold cutS
  rw [tl_mk, HT.sIx_nat, HT.sIx_nat, Nat.min_eq_left h1]
  by_cases h : m ≤ z.length
  · rw [Nat.min_eq_left h]
  · rw [Nat.min_eq_right (by omega)]
    rw [List.take_of_length_le (i := m - n), List.take_of_length_le]
    · rw [List.length_drop, ← len_tl]; omega
    · rw [List.length_drop, ← len_tl]; omega
theorem take_while (p : Nat → Bool) : ∀ l : List Nat, l.take (l.takeWhile p).length = l.takeWhile p
  | [] => rfl
  | c :: l => by
    rw [List.takeWhile_cons]
    by_cases h : p c = true
    · rw [if_pos h, List.length_cons, List.take_succ_cons, take_while p l]
    · rw [if_neg h]; rfl
theorem cut_run {z : Str} {n : Nat} (p : Nat → Bool) (h1 : n ≤ z.length) : cutS z (some (n : Int)) (some ((n + (((tl z).drop n).takeWhile p).length : Nat) : Int)) = ⟨(((tl z).drop n).takeWhile p).toArray⟩ := by
  apply ext_tl
  rw [cut_tl h1, tl_mk, Nat.add_sub_cancel_left, take_while]
theorem mem_mks {z : Str} : decide (z ∈ mks) = inM (tl z) := by
  rw [Bool.eq_iff_iff, decide_eq_true_iff, inM_iff]
  constructor
  · intro h; exact ⟨z, h, rfl⟩
  · rintro ⟨m, hm, e⟩
    rw [← ext_tl e]
    exact hm
def sigS (l : List Nat) : Str := ⟨(sigs l).toArray⟩
def isNum (z : Str) : Bool := match tl z with
  | [] => false
  | c :: _ => if c == 48 then decide (z = "0") else decide ((tl z).length ≤ 6)
theorem kind_eq {w : Str} {c : Nat} {r : List Nat} (e : tl w = c :: r) : kind w =
    if w ∈ kws then some ("key" : Str) else if w ∈ mks then some ("mark" : Str) else if (isLet c && decide (w.length ≤ 12)) = true then some ("name" : Str) else if (isFig c && isNum w) = true then some ("number" : Str) else none := by
  unfold kind isNum
  rw [len_tl]
  simp only [e]
/-- is_number, of so many figures at most -/
def isNumB (m : Nat) (z : Str) : Bool := decide (1 ≤ z.length) && decide (z.length ≤ m) && (tl z).all isFig && (!(match tl z with | c :: _ => c == 48 | [] => false) || decide (z = "0"))
/-- a def whose code object is at c -/
structure FunT (K : PySem.W.Frag) (x qual : Str) (st : Stmt) (f : Addr) (fd : FuncData) (c : Addr) : Prop where
  ex : ∃ (oc : Value) (od : Option Addr) (kV doc pm : Value) (an : Option Addr) (ct : Value) (osl : Array (Option Value)),
    fd = PySem.W.fnOf x qual (defArgs st) (defBody st) (defScope st) .none kV doc pm an (.ref c) ct ∧ K.lookup f = some ⟨oc, od, .func fd, osl⟩ ∧ PySem.W.codeIn K (.ref c) qual = true
section
variable {P : Program} {w : World} {K : PySem.W.Frag} {mg : Str → Option Value} {base : Heap}
theorem FunT.ok {x qual : Str} {st : Stmt} {f c : Addr} {fd : FuncData} {N ps : List Str} {k : Nat} {sp : Sp} (F : FunT K x qual st f fd c) (S : FnScope N ps (defScope st)) (ln : ∀ vs H Q E, sp vs H Q E → vs.length = ps.length)
    (body : ∀ (A : Around) (outer : List Env) (s : Shared) (H : Hp) (vs : List V) (Q : VK) (E : XK), Room k (A.deeper (PyProof.Rows.envOfC qual (defScope st) s.heap.objs.size f (.ref c))) → sp vs H Q E →
      ∃ t, PSs (cxOf CX0 P w K mg base N qual (defScope st) f (.ref c) A outer s H E) (defBody st) t ∧ t { nx := fun _ H' => Q .non H', rt := Q } (start N vs) H) : FnOk P w K mg base CX0 (k + 1) f fd ps sp := by
  obtain ⟨oc, od, kV, doc, pm, an, ct, osl, rfl, lk, hcd⟩ := F.ex
  exact fn_of lk hcd S ln body
def spIsNum (PT : Addr) : Sp := fun vs H Q _ => ∃ (z : Str) (m : Nat), vs = [.str z, .int (m : Nat)] ∧ z.length ≤ 100000 ∧ GN.Tab PT H ∧ Q (.bl (isNumB m z)) H
theorem scGen {env : Env} : GxR.GenS env { kind := ScopeKind.function, names := [(PySem.Str.ofString ".0", PySem.NameKind.local), (PySem.Str.ofString "sign", PySem.NameKind.local), (PySem.Str.ofString "FIGURES", PySem.NameKind.globalImplicit)], isGenerator := true, isCoroutine := false, more := [] : Scope } "sign" := by
  refine ⟨rfl, rfl, ?_, rfl, rfl, ?_⟩
  · decide +kernel
  · intro y hy e
    have no : ∀ y ∈ ([(PySem.Str.ofString ".0", PySem.NameKind.local), (PySem.Str.ofString "sign", PySem.NameKind.local), (PySem.Str.ofString "FIGURES", PySem.NameKind.globalImplicit)] : List (Str × NameKind)), y.2 ≠ .free := by decide +kernel
    exact absurd e (no y hy)
theorem scIsNum : FnScope ["signs", "most"] ["signs", "most"] (defScope sIsNum) := ⟨rfl, rfl, rfl, by decide +kernel, rfl, by decide +kernel, by decide +kernel⟩
theorem ok_isNum {f c PT : Addr} {fd : FuncData} (F : FunT K "is_number" "is_number" sIsNum f fd c) (T : Txt K mg) (B : Blt mg) (TB : GxR.TabB base mg c PT) : FnOk P w K mg base CX0 2 f fd ["signs", "most"] (spIsNum PT) := by
  refine F.ok scIsNum (fun vs H Q E h => ?_) (fun A outer s0 H vs Q E hr h => ?_)
  · obtain ⟨z, m, rfl, _⟩ := h
    rfl
  obtain ⟨z, m, rfl, hz, hT, k⟩ := h
  obtain ⟨t, mF⟩ := T.figs
  have hz' : z.length ≤ sizeLine := Nat.le_trans hz (by decide)
  refine ⟨_, pss_cons (ps_if (PW.pt (pw_or (pt_not (pt_chain op_le op_le pe_int (pe_callB call_len_str (by rfl) B.len PySem.boot_len (pa_cons (pv 0) pa_nil)) (pv 1)))
      (pw_or1 (pt_not (pt_val (GN.pe_all (k := 1) (P := PT) (c := c) hr rfl T.all TB rfl scGen (pv 0) (GN.elt_in (Z := "0123456789") rfl rfl rfl mF) (fun _ => rfl))))))) (pss_one (ps_ret pe_bl)) pss_nil)
    (pss_one (ps_ret (pe_or (pe_cmpR op_ne (pe_ix ix_str (pv 0) pe_int (fun _ _ => rfl)) pe_str (nomark _)) (pe_one (pe_cmpR op_eq (pv 0) pe_str (nomark _)))))), ?_⟩
  refine ⟨_, rfl, z, rfl, hz', _, _, rfl, rfl, _, rfl, ?_⟩
  have no : ∀ b : Bool, b = false → isNumB m z = b → Q (.bl false) H := fun b e q => by rw [q, e] at k; exact k
  refine ite2 (fun c1 => ?_) (fun c1 => ?_)
  · refine ⟨_, rfl, _, _, rfl, rfl, _, rfl, ?_⟩
    have l1 : 1 ≤ z.length := by
      have q : (1 : Int) ≤ ((z.length : Nat) : Int) := of_decide_eq_true c1
      omega
    show if (!decide (((z.length : Nat) : Int) ≤ ((m : Nat) : Int))) = true then _ else _
    by_cases l2 : z.length ≤ m
    · rw [show decide (((z.length : Nat) : Int) ≤ ((m : Nat) : Int)) = true from decide_eq_true (by omega)]
      refine iteF ?_
      refine ⟨_, rfl, z, rfl, hT, _, rfl, ?_⟩
      have ef : z.cps.toList.all (fun c => decide (c ∈ ("0123456789" : Str).cps.toList)) = (tl z).all isFig := by
        show (tl z).all _ = _
        congr 1
        funext c
        exact in_fig c
      rw [ef]
      cases hf : (tl z).all isFig with
      | false =>
        refine iteT (no _ rfl ?_)
        unfold isNumB
        rw [hf, Bool.and_false, Bool.false_and]
      | true =>
        refine iteF ?_
        cases e : tl z with
        | nil =>
          rw [len_tl, e] at l1
          exact absurd l1 (by decide)
        | cons d r =>
          have hd : (tl z).drop 0 = d :: r := e
          refine ⟨_, rfl, z, _, d, rfl, rfl, hz', (sign_at hd).1, rfl, _, rfl, ?_⟩
          have e3 : isNumB m z = (!(d == 48) || decide (z = "0")) := by
            unfold isNumB
            rw [hf, decide_eq_true l1, decide_eq_true l2]
            simp only [e, Bool.true_and]
          rw [e3] at k
          rw [one_zero]
          cases d0 : (d == 48) with
          | false =>
            rw [d0] at k
            exact iteT k
          | true =>
            rw [d0] at k
            refine iteF ?_
            refine ⟨_, rfl, rfl, ?_⟩
            have e4 : decide (V.str z = V.str "0") = decide (z = "0") := by
              rw [Bool.eq_iff_iff, decide_eq_true_iff, decide_eq_true_iff]
              exact ⟨fun q => V.str.inj q, fun q => by rw [q]⟩
            rw [e4]
            exact k
    · rw [show decide (((z.length : Nat) : Int) ≤ ((m : Nat) : Int)) = false from decide_eq_false (by omega)]
      refine iteT (no _ rfl ?_)
      unfold isNumB
      rw [decide_eq_false l2, Bool.and_false, Bool.false_and, Bool.false_and]
  · refine ⟨_, rfl, ?_⟩
    have l1 : ¬ 1 ≤ z.length := by
      have q : ¬ (1 : Int) ≤ ((z.length : Nat) : Int) := of_decide_eq_false (Bool.eq_false_iff.mpr c1)
      omega
    refine iteT (no _ rfl ?_)
    unfold isNumB
    rw [decide_eq_false l1, Bool.false_and, Bool.false_and, Bool.false_and]
end
end K8

/-! The program's words, with their places: kinds, words, all words. -/
namespace K8
open PySem L2 TL
open K0 (isFig isLet isAl isBl kws mks inM sigs kind Toks toks_nil toks_blank toks_word inM_iff)
open KD (Blt in_strs flat_strs)
theorem num_ok {z : Str} {c : Nat} {r : List Nat} (e : tl z = c :: r) (hf : (tl z).all isFig = true) (h : isNum z = true) : isNumB 6 z = true := by
  unfold isNum at h
  unfold isNumB
  rw [hf]
  rw [e] at h
  have h' : (if (c == 48) = true then decide (z = "0") else decide ((c :: r).length ≤ 6)) = true := h
  have l1 : 1 ≤ z.length := by rw [len_tl, e, List.length_cons]; omega
  rw [decide_eq_true l1]
  by_cases c1 : (c == 48) = true
  · rw [if_pos c1] at h'
    have q : z.length ≤ 6 := by
      have q2 := of_decide_eq_true h'
      subst q2
      decide +kernel
    rw [decide_eq_true q, h']
    simp only [Bool.or_true, Bool.and_true]
  · rw [if_neg c1] at h'
    have q : z.length ≤ 6 := by
      have q2 := of_decide_eq_true h'
      rw [len_tl, e]
      exact q2
    rw [decide_eq_true q]
    simp only [e, Bool.eq_false_iff.mpr c1, Bool.not_false, Bool.true_or, Bool.and_true]
section
variable {P : Program} {w : World} {K : PySem.W.Frag} {mg : Str → Option Value} {base : Heap}
def spKind (PT : Addr) : Sp := fun vs H Q _ => ∃ (z k : Str), vs = [.str z] ∧ tl z ≠ [] ∧ z.length ≤ 100000 ∧ kind z = some k ∧ (∀ c r, tl z = c :: r → isFig c = true → (tl z).all isFig = true) ∧ GN.Tab PT H ∧ Q (.str k) H
theorem scKind : FnScope ["word"] ["word"] (defScope sKind) := ⟨rfl, rfl, rfl, by decide +kernel, rfl, by decide +kernel, by decide +kernel⟩
theorem ok_kind {f fN PT : Addr} {fd fdN : FuncData} (F : Fun K "kind_of" "kind_of" sKind f fd) (T : Txt K mg) (B : Blt mg) (GN' : FnOk P w K mg base CX0 2 fN fdN ["signs", "most"] (spIsNum PT)) (mN : mg "is_number" = some (.ref fN)) (kN : PySem.W.keepIn K (.ref fN) = true) (bN : Binds K fdN ["signs", "most"] []) :
    FnOk P w K mg base CX0 3 f fd ["word"] (spKind PT) := by
  refine F.ok scKind (fun vs H Q E h => ?_) (fun cdv A outer s0 H vs Q E hr h => ?_)
  · obtain ⟨z, _, rfl, _⟩ := h
    rfl
  obtain ⟨z, kk, rfl, hn, hz, hk, hfa, hT, k⟩ := h
  obtain ⟨aK, mK, sK⟩ := T.keys
  obtain ⟨aM, mM, sM⟩ := T.marks
  obtain ⟨t2, mL⟩ := T.lets
  obtain ⟨t3, mX⟩ := T.mLets
  obtain ⟨t4, mG⟩ := T.mFigs
  have hz' : z.length ≤ sizeLine := Nat.le_trans hz (by decide)
  cases e : tl z with
  | nil => exact absurd e hn
  | cons c r =>
    have hd : (tl z).drop 0 = c :: r := e
    rw [kind_eq e] at hk
    refine ⟨_, pss_cons (ps_if (pt_cmpR op_in_seq (pv 0) (pe_glob (v := .ref aK) rfl mK rfl) (by rfl)) (pss_one (ps_ret pe_str)) pss_nil)
      (pss_cons (ps_if (pt_cmpR op_in_seq (pv 0) (pe_glob (v := .ref aM) rfl mM rfl) (by rfl)) (pss_one (ps_ret pe_str)) pss_nil)
      (pss_cons (ps_if (PW.pt (pw_and (pt_cmpR op_in_sign (pe_ix ix_str (pv 0) pe_int (fun _ _ => rfl)) (pe_glob (v := .str letS) rfl mL ⟨_, rfl⟩) (by rfl))
          (pw_and1 (pt_cmpR op_le (pe_callB call_len_str (by rfl) B.len PySem.boot_len (pa_cons (pv 0) pa_nil)) (pe_glob (v := .int 12) rfl mX ⟨_, rfl⟩) (nomark _))))) (pss_one (ps_ret pe_str)) pss_nil)
      (pss_cons (ps_if (pt_val (pe_call GN' hr rfl mN kN bN .nil pass0 (pa_cons (pv 0) (pa_cons (pe_glob (v := .int 6) rfl mG ⟨_, rfl⟩) pa_nil)))) (pss_one (ps_ret pe_str)) pss_nil) pss_never))), ?_⟩
    refine ⟨_, rfl, aK, _, rfl, .inr (sK _), rfl, flat_strs _, _, rfl, ?_⟩
    show if inV (.str z) (kws.map V.str) = true then _ else _
    rw [in_strs]
    refine ite2 (fun c1 => ?_) (fun c1 => ?_)
    · rw [if_pos (of_decide_eq_true c1)] at hk
      cases hk
      exact k
    rw [if_neg (fun q => c1 (decide_eq_true q))] at hk
    refine ⟨_, rfl, aM, _, rfl, .inr (sM _), rfl, flat_strs _, _, rfl, ?_⟩
    show if inV (.str z) (mks.map V.str) = true then _ else _
    rw [in_strs]
    refine ite2 (fun c2 => ?_) (fun c2 => ?_)
    · rw [if_pos (of_decide_eq_true c2)] at hk
      cases hk
      exact k
    rw [if_neg (fun q => c2 (decide_eq_true q))] at hk
    refine ⟨_, rfl, z, _, c, rfl, rfl, hz', (sign_at hd).1, c, letS, rfl, rfl, _, rfl, ?_⟩
    rw [show decide (c ∈ letS.cps.toList) = isLet c from in_let c]
    refine ite2 (fun c3 => ?_) (fun c3 => ?_)
    · refine ⟨_, rfl, z, rfl, hz', _, _, rfl, rfl, _, rfl, ?_⟩
      rw [c3, Bool.true_and] at hk
      have nf : isFig c = false := (K0.let_fig c3).1
      rw [nf, Bool.false_and, if_neg Bool.false_ne_true] at hk
      refine ite2 (fun c4 => ?_) (fun c4 => ?_)
      · have q : ((z.length : Nat) : Int) ≤ 12 := of_decide_eq_true c4
        rw [if_pos (decide_eq_true (by omega))] at hk
        cases hk
        exact k
      · have q : ¬ ((z.length : Nat) : Int) ≤ 12 := of_decide_eq_false (Bool.eq_false_iff.mpr c4)
        rw [if_neg (fun q2 => q (by have := of_decide_eq_true q2; omega))] at hk
        cases hk
    · refine iteF ?_
      rw [Bool.eq_false_iff.mpr c3, Bool.false_and, if_neg Bool.false_ne_true] at hk
      by_cases c5 : (isFig c && isNum z) = true
      · rw [if_pos c5] at hk
        cases hk
        rw [Bool.and_eq_true] at c5
        refine ⟨_, rfl, z, 6, rfl, hz, hT, true, ?_, iteT k⟩
        rw [num_ok e (hfa c r e c5.1) c5.2]
      · rw [if_neg c5] at hk
        cases hk
def spSigns : Sp := fun vs H Q _ => ∃ (z : Str) (n c : Nat) (r : List Nat), vs = [.str z, .int n] ∧ z.length ≤ 100000 ∧ (tl z).drop n = c :: r ∧ ∀ H', Same H H' → Q (.str (sigS (c :: r))) H'
theorem scSigns : FnScope ["text", "at", "signs"] ["text", "at"] (defScope sSigns) := ⟨rfl, rfl, rfl, by decide +kernel, rfl, by decide +kernel, by decide +kernel⟩
theorem ok_signs {f fR : Addr} {fd fdR : FuncData} (F : Fun K "signs_at" "signs_at" sSigns f fd) (T : Txt K mg) (GR : FnOk P w K mg base CX0 1 fR fdR ["text", "at", "signs"] spRunEnd) (mR : mg "run_end" = some (.ref fR)) (kR : PySem.W.keepIn K (.ref fR) = true) (bR : Binds K fdR ["text", "at", "signs"] []) :
    FnOk P w K mg base CX0 2 f fd ["text", "at"] spSigns := by
  refine F.ok scSigns (fun vs H Q E h => ?_) (fun cdv A outer s0 H vs Q E hr h => ?_)
  · obtain ⟨z, n, c, r, rfl, _⟩ := h
    rfl
  obtain ⟨z, n, c, r, rfl, hz, hd, k⟩ := h
  obtain ⟨aM, mM, sM⟩ := T.marks
  obtain ⟨t1, mF⟩ := T.figs
  obtain ⟨t2, mL⟩ := T.lets
  have hz' : z.length ≤ sizeLine := Nat.le_trans hz (by decide)
  have hc := (sign_at hd).1
  have hn := (sign_at hd).2
  refine ⟨_, pss_cons (ps_for PassesOwn.never rfl (pi_tup (pe_tup (pa_cons (pe_glob (v := .str figS) rfl mF ⟨_, rfl⟩) (pa_cons (pe_glob (v := .str letS) rfl mL ⟨_, rfl⟩) pa_nil)))) (pg_name (i := 2) scSigns.nd rfl (Or.inl rfl))
      (pss_one (ps_if (pt_cmpR op_in_sign (pe_ix ix_str (pv 0) (pv 1) (fun _ _ => rfl)) (pv 2) (by rfl))
        (pss_one (ps_ret (pe_slice sl_str (pv 0) (po_some (pv 1)) (po_some (pe_call GR hr rfl mR kR bR .nil pass0 (pa_cons (pv 0) (pa_cons (pv 1) (pa_cons (pv 2) pa_nil)))))))) pss_nil)))
    (pss_cons (ps_if (pt_cmpR op_in_seq (pe_slice sl_str (pv 0) (po_some (pv 1)) (po_some (pe_op op_add (pv 1) pe_int))) (pe_glob (v := .ref aM) rfl mM rfl) (by rfl))
      (pss_one (ps_ret (pe_slice sl_str (pv 0) (po_some (pv 1)) (po_some (pe_op op_add (pv 1) pe_int))))) pss_nil)
    (pss_one (ps_ret (pe_ix ix_str (pv 0) (pv 1) (fun _ _ => rfl))))), ?_⟩
  refine ⟨(by show 2 ≤ sizeLine; decide), fun p hp => ?_⟩
  have s1 : Same H (upd H p (.tup [.str figS, .str letS])) := fun b o q => by rw [upd_ne (ne_of_none q hp)]; exact q
  refine ⟨p, rfl, ⟨_, SqT.of upd_same⟩, for_tup (K := K) (a := p) (xs := [.str figS, .str letS]) (fun i σ H' => H' = upd H p (.tup [.str figS, .str letS]) ∧ (∃ v, σ = [some (.str z), some (.int n), v]) ∧ (1 ≤ i → isFig c = false) ∧ (2 ≤ i → isLet c = false))
    ⟨rfl, ⟨none, rfl⟩, fun q => absurd q (by decide), fun q => absurd q (by decide)⟩ (fun i σ H' _ ⟨e, _⟩ => by rw [e]; exact SqT.of upd_same) ?_ ?_⟩
  · rintro i x σ H' hi ⟨rfl, ⟨v, rfl⟩, h1, h2⟩
    obtain ⟨sg, pp, rfl, hpp, hsig, hnext⟩ : ∃ (sg : Str) (pp : Nat → Bool), x = .str sg ∧ (∀ c, decide (c ∈ tl sg) = pp c) ∧ (pp c = true → sigs (c :: r) = (c :: r).takeWhile pp) ∧ (pp c = false → (1 ≤ i + 1 → isFig c = false) ∧ (2 ≤ i + 1 → isLet c = false)) := by
      match i, hi with
      | 0, hi =>
        have e := Option.some.inj hi
        refine ⟨figS, isFig, e.symm, in_fig, fun q => ?_, fun q => ⟨fun _ => q, fun q2 => absurd q2 (by decide)⟩⟩
        show (if isFig c = true then _ else _) = _
        rw [if_pos q]
      | 1, hi =>
        have e := Option.some.inj hi
        refine ⟨letS, isLet, e.symm, in_let, fun q => ?_, fun q => ⟨fun _ => h1 (by decide), fun _ => q⟩⟩
        show (if isFig c = true then _ else if isLet c = true then _ else _) = _
        rw [if_neg (by rw [h1 (by decide)]; exact Bool.false_ne_true), if_pos q]
      | j + 2, hi => cases hi
    refine ⟨_, rfl, _, rfl, z, _, c, rfl, rfl, hz', hc, _, rfl, c, sg, rfl, rfl, _, rfl, ?_⟩
    rw [show decide (c ∈ sg.cps.toList) = pp c from hpp c]
    refine ite2 (fun c1 => ?_) (fun c1 => ?_)
    · refine ⟨_, rfl, _, rfl, n, rfl, _, rfl, _, rfl, _, rfl, z, sg, n, pp, rfl, hz, Nat.le_of_lt hn, hpp, fun H2 s2 => ⟨_, rfl, z, rfl, hz', ?_⟩⟩
      have q := k H2 (s1.trans s2)
      have e : cutS z (some (n : Int)) (some ((n + (((tl z).drop n).takeWhile pp).length : Nat) : Int)) = sigS (c :: r) := by
        rw [cut_run pp (Nat.le_of_lt hn), hd, ← hsig c1]
        rfl
      rw [e]
      exact q
    · exact ⟨rfl, ⟨_, rfl⟩, (hnext (Bool.eq_false_iff.mpr c1)).1, (hnext (Bool.eq_false_iff.mpr c1)).2⟩
  · rintro σ H' ⟨rfl, ⟨v, rfl⟩, h1, h2⟩
    have hF := h1 (by decide)
    have hL := h2 (by decide)
    have e2 : tl (cutS z (some (n : Int)) (some ((n : Int) + 2))) = (c :: r).take 2 := by
      have q := cut_tl (z := z) (n := n) (m := n + 2) (Nat.le_of_lt hn)
      rw [Nat.add_sub_cancel_left, hd] at q
      exact q
    have es : sigs (c :: r) = if inM ((c :: r).take 2) = true then (c :: r).take 2 else [c] := by
      show (if isFig c = true then _ else if isLet c = true then _ else _) = _
      rw [if_neg (by rw [hF]; exact Bool.false_ne_true), if_neg (by rw [hL]; exact Bool.false_ne_true)]
    refine ⟨_, rfl, _, rfl, n, rfl, _, rfl, _, _, rfl, rfl, _, rfl, z, rfl, hz', aM, _, rfl, .inr (sM _), rfl, flat_strs _, _, rfl, ?_⟩
    show if inV (.str (cutS z (some (n : Int)) (some ((n : Int) + 2)))) (mks.map V.str) = true then _ else _
    rw [in_strs, mem_mks, e2]
    refine ite2 (fun c1 => ?_) (fun c1 => ?_)
    · refine ⟨_, rfl, _, rfl, n, rfl, _, rfl, _, _, rfl, rfl, _, rfl, z, rfl, hz', ?_⟩
      have q := k _ s1
      have e3 : sigS (c :: r) = cutS z (some (n : Int)) (some ((n : Int) + 2)) := by
        apply ext_tl
        rw [e2]
        show sigs (c :: r) = _
        rw [es, if_pos c1]
      rw [e3] at q
      exact q
    · refine ⟨_, rfl, _, rfl, z, _, c, rfl, rfl, hz', hc, ?_⟩
      have q := k _ s1
      have e3 : sigS (c :: r) = ⟨#[c]⟩ := by
        apply ext_tl
        show sigs (c :: r) = [c]
        rw [es, if_neg c1]
      rw [e3] at q
      exact q

def spWordAt (PT : Addr) : Sp := fun vs H Q _ => ∃ (z ww kk : Str) (n c : Nat) (r : List Nat), vs = [.str z, .int n] ∧ z.length ≤ 100000 ∧ (tl z).drop n = c :: r ∧ sigs (c :: r) = tl ww ∧ tl ww ≠ [] ∧ ww.length ≤ 100000 ∧ kind ww = some kk ∧ GN.Tab PT H ∧
  ∀ H' t, Same H H' → H' t = some (.tup [.str kk, .str ww]) → Q (.ref t) H'
theorem scWordAt : FnScope ["text", "at", "word", "kind"] ["text", "at"] (defScope sWordAt) := ⟨rfl, rfl, rfl, by decide +kernel, rfl, by decide +kernel, by decide +kernel⟩
theorem ok_wordAt {f fS fK PT : Addr} {fd fdS fdK : FuncData} (F : Fun K "word_at" "word_at" sWordAt f fd) (T : Txt K mg) (GS : FnOk P w K mg base CX0 2 fS fdS ["text", "at"] spSigns) (mS : mg "signs_at" = some (.ref fS)) (kS : PySem.W.keepIn K (.ref fS) = true) (bS : Binds K fdS ["text", "at"] [])
    (GK : FnOk P w K mg base CX0 3 fK fdK ["word"] (spKind PT)) (mK : mg "kind_of" = some (.ref fK)) (kK : PySem.W.keepIn K (.ref fK) = true) (bK : Binds K fdK ["word"] []) :
    FnOk P w K mg base CX0 4 f fd ["text", "at"] (spWordAt PT) := by
  refine F.ok scWordAt (fun vs H Q E h => ?_) (fun cdv A outer s0 H vs Q E hr h => ?_)
  · obtain ⟨z, ww, kk, n, c, r, rfl, _⟩ := h
    rfl
  obtain ⟨z, ww, kk, n, c, r, rfl, hz, hd, hs, hw, hwl, hk, hT, k⟩ := h
  have hr2 : Room 2 _ := hr.mono (by decide)
  refine ⟨_, pss_cons (ps_set (i := 2) scWordAt.nd rfl (Or.inl rfl) (pe_call GS hr2 rfl mS kS bS .nil pass0 (pa_cons (pv 0) (pa_cons (pv 1) pa_nil))))
    (pss_cons (ps_set (i := 3) scWordAt.nd rfl (Or.inl rfl) (pe_call GK hr rfl mK kK bK .nil pass0 (pa_cons (pv 2) pa_nil)))
    (pss_cons (ps_if (pt_cmp (pc_isN (pv 3))) pss_never pss_nil)
    (pss_one (ps_ret (pe_tup (pa_cons (pv 3) (pa_cons (pv 2) pa_nil))))))), ?_⟩
  have e : sigS (c :: r) = ww := by
    apply ext_tl
    exact hs
  refine ⟨_, rfl, _, rfl, z, n, c, r, rfl, hz, hd, fun H1 s1 => ?_⟩
  rw [e]
  refine ⟨_, rfl, ww, kk, rfl, hw, hwl, hk, fun d q e1 hf => ?_, s1 _ _ hT, ?_⟩
  · have e2 : d = c := by
      have e3 : sigs (c :: r) = d :: q := hs.trans e1
      have e4 : sigs (c :: r) = if isFig c = true then (c :: r).takeWhile isFig else if isLet c = true then (c :: r).takeWhile isLet else if inM ((c :: r).take 2) = true then (c :: r).take 2 else [c] := rfl
      rw [e4] at e3
      split at e3
      · rename_i q1
        rw [List.takeWhile_cons, if_pos q1] at e3
        exact (List.cons.inj e3).1.symm
      split at e3
      · rename_i q1 q2
        rw [List.takeWhile_cons, if_pos q2] at e3
        exact (List.cons.inj e3).1.symm
      split at e3
      · exact (List.cons.inj e3).1.symm
      · exact (List.cons.inj e3).1.symm
    subst e2
    rw [← hs]
    show (if isFig d = true then (d :: r).takeWhile isFig else _ : List Nat).all isFig = true
    rw [if_pos hf]
    exact List.all_takeWhile
  refine ⟨_, rfl, _, rfl, iteF ?_⟩
  refine ⟨_, rfl, _, rfl, (by show 2 ≤ sizeLine; decide), fun t ht => ?_⟩
  exact k _ t (s1.trans fun b o q => by rw [upd_ne (ne_of_none q ht)]; exact q) upd_same

end
end K8

/-! The program's words, with their places: the whole list. -/
namespace KD
open PySem L2 TL
open K0 (isFig isLet isAl isBl kws mks inM sigs kind Toks toks_nil toks_blank toks_word)
open K8 (Txt sPlaced spCheck spWordAt sign_at in_bl)
section
variable {P : Program} {w : World} {K : PySem.W.Frag} {mg : Str → Option Value} {base : Heap}
def spPlaced (K : PySem.W.Frag) (PT : Addr) : Sp := fun vs H Q _ => ∃ (z : Str) (ws : List (Str × Str)), vs = [.str z] ∧ z.length ≤ 100000 ∧ Toks (tl z) ws ∧ GN.Tab PT H ∧
  ∀ (H' : Hp) (p : Addr) (vs : List V) (ts : List T3), Same H H' → H p = none → H' p = some (.lst vs) → DpAll K H' vs (ts.map T3.d) → ts.map T3.tk = ws → ts.length ≤ z.length → Q (.ref p) H'
theorem scPlaced : FnScope ["text", "found", "at", "kind", "word"] ["text"] (defScope sPlaced) := ⟨rfl, rfl, rfl, by decide +kernel, rfl, by decide +kernel, by decide +kernel⟩
theorem ok_placed {f fC fA PT : Addr} {fd fdC fdA : FuncData} (F : Fun K "placed_words" "placed_words" sPlaced f fd) (T : Txt K mg) (B : Blt mg) (GC : FnOk P w K mg base CX0 1 fC fdC ["value"] spCheck) (mC : mg "check_text" = some (.ref fC)) (kC : PySem.W.keepIn K (.ref fC) = true) (bC : Binds K fdC ["value"] [])
    (GA : FnOk P w K mg base CX0 4 fA fdA ["text", "at"] (spWordAt PT)) (mA : mg "word_at" = some (.ref fA)) (kA : PySem.W.keepIn K (.ref fA) = true) (bA : Binds K fdA ["text", "at"] []) :
    FnOk P w K mg base CX0 5 f fd ["text"] (spPlaced K PT) := by
  refine F.ok scPlaced (fun vs H Q E h => ?_) (fun cdv A outer s0 H vs Q E hr h => ?_)
  · obtain ⟨z, ws, rfl, _⟩ := h
    rfl
  obtain ⟨z, ws, rfl, hz, hT, hTab, k⟩ := h
  obtain ⟨tB, mB⟩ := T.blanks
  have hz' : z.length ≤ sizeLine := Nat.le_trans hz (by decide)
  have hr1 : Room 1 _ := hr.mono (by decide)
  refine ⟨_, pss_cons (ps_expr (pe_call GC hr1 rfl mC kC bC .nil pass0 (pa_cons (pv 0) pa_nil)))
    (pss_cons (ps_set (i := 1) scPlaced.nd rfl (Or.inl rfl) (pe_lst pa_nil))
    (pss_cons (ps_set (i := 2) scPlaced.nd rfl (Or.inl rfl) pe_int)
    (pss_cons (ps_while PassesOwn.never (pt_cmpR op_lt (pv 2) (pe_callB call_len_str (by rfl) B.len PySem.boot_len (pa_cons (pv 0) pa_nil)) (nomark _))
      (pss_one (ps_if (pt_cmpR op_in_sign (pe_ix ix_str (pv 0) (pv 2) (fun _ _ => rfl)) (pe_glob (v := .str " \n") rfl mB ⟨_, rfl⟩) (by rfl))
        (pss_one (ps_aug (i := 2) scPlaced.nd rfl (Or.inl rfl) pe_int ip_add))
        (pss_cons (ps_asg (pe_call GA hr rfl mA kA bA .nil pass0 (pa_cons (pv 0) (pa_cons (pv 2) pa_nil))) (pg_tup rfl (pgs_cons (pg_name (i := 3) scPlaced.nd rfl (Or.inl rfl)) (pgs_cons (pg_name (i := 4) scPlaced.nd rfl (Or.inl rfl)) pgs_nil))))
        (pss_cons (ps_expr (pe_bm PySem.F.plainAttrs_list PySem.F.slot_list_append PySem.F.type_list_append mt_append (pv 1) (pa_cons (pe_tup (pa_cons (pv 3) (pa_cons (pv 4) (pa_cons (pe_op op_add (pv 2) pe_int) pa_nil)))) pa_nil)))
        (pss_one (ps_aug (i := 2) scPlaced.nd rfl (Or.inl rfl) (pe_callB call_len_str (by rfl) B.len PySem.boot_len (pa_cons (pv 4) pa_nil)) ip_add)))))))
    (pss_one (ps_ret (pv 1)))))), ?_⟩
  refine ⟨_, rfl, z, rfl, hz, fun H1 s1 => ?_⟩
  refine ⟨Nat.zero_le _, fun p hp => ?_⟩
  refine while_by (fun σ H' => ∃ (n : Nat) (v3 v4 : Option V) (vs : List V) (done : List T3) (rest : List (Str × Str)), σ = [some (.str z), some (.ref p), some (.int n), v3, v4] ∧ n ≤ z.length ∧ Same H1 H' ∧ H' p = some (.lst vs) ∧ DpAll K H' vs (done.map T3.d) ∧ ws = done.map T3.tk ++ rest ∧ Toks ((tl z).drop n) rest ∧ vs.length ≤ n)
    (fun σ _ => match σ with | [_, _, some (.int m), _, _] => z.length - m.toNat | _ => 0)
    ⟨0, none, none, [], [], ws, rfl, Nat.zero_le _, (fun b o q => by rw [upd_ne (ne_of_none q hp)]; exact q), upd_same, .nil, rfl, hT, Nat.le_refl _⟩ ?_ ?_
  · rintro σ H' ⟨n, v3, v4, vs, done, rest, rfl, hn, s2, hvs, tT, ew, hR, hlen⟩
    refine ⟨_, rfl, _, rfl, z, rfl, hz', _, _, rfl, rfl, _, rfl, ?_⟩
    refine ite2 (fun c => ?_) (fun c => ?_)
    · have hlt : n < z.length := by
        have q : ((n : Nat) : Int) < ((z.length : Nat) : Int) := of_decide_eq_true c
        omega
      obtain ⟨ch, rr, hd⟩ : ∃ ch rr, (tl z).drop n = ch :: rr := ⟨_, _, List.drop_eq_getElem_cons (by rw [← len_tl]; exact hlt)⟩
      rw [hd] at hR
      refine ⟨_, rfl, _, rfl, z, _, ch, rfl, rfl, hz', (sign_at hd).1, ch, _, rfl, rfl, _, rfl, ?_⟩
      rw [show decide (ch ∈ (" \n" : Str).cps.toList) = isBl ch from in_bl ch]
      refine ite2 (fun c1 => ?_) (fun c1 => ?_)
      · refine ⟨_, rfl, _, _, rfl, rfl, ?_⟩
        have hd1 : (tl z).drop (n + 1) = rr := by rw [← List.drop_drop, hd] <;> rfl
        refine ⟨⟨n + 1, v3, v4, vs, done, rest, rfl, by omega, s2, hvs, tT, ew, ?_, by omega⟩, ?_⟩
        · rw [hd1]
          exact toks_blank c1 hR
        · show z.length - ((n : Int) + 1).toNat < z.length - (n : Int).toNat
          omega
      · obtain ⟨ww, kk, cs, us, e1, hw, hsg, hk, erest, hcs⟩ := toks_word (Bool.eq_false_iff.mpr c1) hR
        have hl1 : (tl z).length = n + ((tl ww).length + cs.length) := by
          have q : ((tl z).drop n).length = (tl ww).length + cs.length := by rw [hd, e1, List.length_append]
          rw [List.length_drop] at q
          rw [len_tl] at hlt
          omega
        have hwl : n + ww.length ≤ z.length := by
          rw [len_tl z, len_tl ww]
          omega
        have hwp : 1 ≤ ww.length := by
          rw [len_tl]
          cases e : tl ww with
          | nil => exact absurd e hw
          | cons a b => rw [List.length_cons]; omega
        refine ⟨_, rfl, _, rfl, z, ww, kk, n, ch, rr, rfl, hz, hd, hsg, hw, by omega, hk, s2 _ _ (s1 _ _ hTab), fun H3 t s3 ht => ?_⟩
        refine ⟨t, _, rfl, SqT.of ht, rfl, _, _, rfl, _, _, rfl, rfl, ?_⟩
        have hvs3 := s3 _ _ hvs
        have tT3 : DpAll K H3 vs (done.map T3.d) := DpAll.same s3 tT
        refine ⟨_, rfl, .inl ⟨rfl, _, SqL.of hvs3⟩, _, rfl, _, rfl, _, rfl, _, _, rfl, rfl, (by show 3 ≤ sizeLine; decide), fun t2 ht2 => ?_⟩
        have npt : p ≠ t2 := ne_of_none hvs3 ht2
        refine ⟨p, vs, _, rfl, rfl, by rw [upd_ne npt]; exact hvs3, Nat.lt_of_le_of_lt (by omega : vs.length ≤ 100000) (by decide), ?_⟩
        refine ⟨_, rfl, _, rfl, ww, rfl, Nat.le_trans (by omega : ww.length ≤ 100000) (by decide), _, _, rfl, rfl, ?_⟩
        have d2 : Dp K (upd H3 t2 (.tup [.str kk, .str ww, .int ((n : Nat) + 1)])) (.ref t2) (T3.d ⟨kk, ww, n + 1⟩) := Dp.new ht2 (.cons (.str kk) (.cons (.str ww) (.cons (.int _) .nil)))
        have tT4 : DpAll K (upd H3 t2 (.tup [.str kk, .str ww, .int ((n : Nat) + 1)])) vs (done.map T3.d) := DpAll.same (same_new ht2 _) tT3
        have hp4 : (upd H3 t2 (.tup [.str kk, .str ww, .int ((n : Nat) + 1)])) p = some (.lst vs) := by rw [upd_ne npt]; exact hvs3
        have kt : KT K (upd H3 t2 (.tup [.str kk, .str ww, .int ((n : Nat) + 1)])) (upd (upd H3 t2 (.tup [.str kk, .str ww, .int ((n : Nat) + 1)])) p (.lst (vs ++ [.ref t2]))) := KT.upd hp4 _
        refine ⟨⟨n + ww.length, _, _, vs ++ [.ref t2], done ++ [⟨kk, ww, n + 1⟩], us, rfl, hwl, fun b o q => ?_, upd_same, ?_, ?_, ?_, ?_⟩, ?_⟩
        · have q3 := s3 _ _ (s2 _ _ q)
          rw [upd_ne (ne_of_none q hp), upd_ne (ne_of_none q3 ht2)]
          exact q3
        · rw [List.map_append]
          exact DpAll.snoc (Dp.kt kt rfl d2) (DpAll.kt kt (tupDs_T3 _) tT4)
        · rw [ew, erest, List.map_append, List.append_assoc]
          rfl
        · have q : (tl z).drop (n + ww.length) = cs := by
            rw [← List.drop_drop, hd, e1, len_tl, List.drop_left]
          rw [q]
          exact hcs
        · rw [List.length_append, List.length_singleton]
          omega
        · show z.length - ((n : Int) + (ww.length : Int)).toNat < z.length - (n : Int).toNat
          omega
    · have hlt : ¬ n < z.length := by
        have q : ¬ ((n : Nat) : Int) < ((z.length : Nat) : Int) := of_decide_eq_false (Bool.eq_false_iff.mpr c)
        omega
      rw [List.drop_eq_nil_of_le (by rw [← len_tl]; omega)] at hR
      have er := toks_nil hR
      rw [er, List.append_nil] at ew
      have ln : done.length ≤ z.length := by
        have q := DpAll.length tT
        rw [List.length_map] at q
        omega
      have hp0 : H p = none := by
        cases q : H p with
        | none => rfl
        | some o =>
          rw [s1 _ _ q] at hp
          cases hp
      exact ⟨_, rfl, k H' p vs done (s1.trans s2) hp0 hvs tT ew.symm ln⟩
  · intro σ H' Q1 Q2 hq h
    obtain ⟨v1, e1, v0, e0, z1, e2, hz1, i1, j1, ei, ej, k1, ek, h⟩ := h
    exact ⟨v1, e1, v0, e0, z1, e2, hz1, i1, j1, ei, ej, k1, ek, hq _ _ h⟩
end
end KD

/-! The end of a law whose program holds a generator expression in one def: its table, told by what always holds, and back. -/
namespace GN
open PySem PySem.Spec PyProof.Rows L2

/-- the table, empty as the top leaves it, is told by what always holds; at the end it is told as it stands -/
theorem untab {P0 : Program} {w : World} {K : PySem.W.Frag} {mg : Str → Option Value} {base : Heap} {k : Nat} {f PT : Addr} {fd : FuncData} {ps : List Str} {sp : Sp} (G : FnOk P0 w K mg base CX0 k f fd ps sp) :
    FnOk P0 w K mg base CX0 k f fd ps (fun vs H Q E => H PT = some (.tbl #[]) ∧ sp vs (upd H PT (.ext (TabI PT))) (fun v H' => Tab PT H' ∧ ∀ H'', Q v H'') E) := by
  refine ⟨fun vs H Q E h => G.len _ _ _ _ h.2, fun A outer s H args us vs Q E hr e0 hb hv h => ?_⟩
  obtain ⟨hP, h⟩ := h
  have away : ∀ {b : Addr}, H b = none → b ≠ PT := fun n z => by rw [z, hP] at n; cases n
  have same : ∀ {b : Addr}, b ≠ PT → upd H PT (.ext (TabI PT)) b = H b := fun n => upd_ne n
  have none1 : ∀ {b : Addr}, H b = none → upd H PT (.ext (TabI PT)) b = none := fun n => by rw [same (away n)]; exact n
  have ePT := e0.hok PT _ hP
  have hok1 : HOk P0 w (upd H PT (.ext (TabI PT))) s.heap := fun b u q => by
    by_cases z : b = PT
    · subst z
      rw [upd_same] at q
      cases q
      exact TabI.okX ⟨#[], ePT, trivial⟩
    · rw [same z] at q
      refine (e0.hok b u q).stay (fun _ _ _ e => e) (fun d e => ?_) (fun d xs e => ?_)
      · rw [same (fun y => by rw [y, hP] at e; cases e)]; exact e
      · rw [same (fun y => by rw [y, hP] at e; cases e)]; exact e
  have e1 : Env0 P0 w K mg base A outer s (upd H PT (.ext (TabI PT))) := ⟨e0.frames, e0.mod, fun b o e => ⟨(e0.bs b o e).1, none1 (e0.bs b o e).2⟩, e0.bsz, e0.funs, fun b m => none1 (e0.frf b m), hok1, e0.bare⟩
  refine codeAny_mono (G.run A outer s _ args us vs _ E hr e1 hb hv h) fun r s' z => ?_
  cases r with
  | error e => exact z
  | ok fl =>
    cases fl with
    | next => exact z
    | brk => exact z
    | cont => exact z
    | ret u =>
      obtain ⟨v, H', os, bare, un, hok, rv, hT, q⟩ := z
      obtain ⟨qs, eP, tr⟩ : TabI PT s'.heap := (hok PT _ hT).1
      have far : ∀ {b : Addr} {x : HO}, (∀ φ, x ≠ .ext φ) → H' b = some x → b ≠ PT := fun n e y => by
        rw [y, hT] at e
        exact n _ (Option.some.inj e).symm
      refine ⟨v, upd H' PT (.tbl qs), os, bare, ⟨fun b o e n => un.keep b o e (none1 n), fun b o e n => un.slot b o e (none1 n), fun b o e n m => ?_, un.there, fun b xs e => ?_, fun b o x e => ?_, fun b ts e => ?_⟩, fun b x e => ?_, rv, q _⟩
      · rw [upd_ne (away n)]
        exact un.free b o e (none1 n) m
      · have nb : b ≠ PT := fun y => by rw [y, hP] at e; cases e
        rw [upd_ne nb]
        exact un.tups b xs (by rw [same nb]; exact e)
      · have nb : b ≠ PT := fun y => by rw [y, hP] at e; cases e
        rw [upd_ne nb]
        exact un.frzs b o x (by rw [same nb]; exact e)
      · by_cases y : b = PT
        · subst y
          rw [hP] at e
          cases e
          exact ⟨qs, by rw [upd_same, Array.empty_append]⟩
        · rw [upd_ne y]
          exact un.tbls b ts (by rw [same y]; exact e)
      · by_cases y : b = PT
        · subst y
          rw [upd_same] at e
          cases e
          exact eP
        · rw [upd_ne y] at e
          refine (hok b x e).stay (fun _ _ _ e => e) (fun d e => ?_) (fun d xs e => ?_)
          · rw [upd_ne (far (fun φ y => by cases y) e)]; exact e
          · rw [upd_ne (far (fun φ y => by cases y) e)]; exact e
/-- what the head tells of the def nm: its code object and its empty table -/
def TabOf (mg : Str → Option Value) (nm : Str) (h : Heap) (c PT : Addr) : Prop := ∃ (a : Addr) (o : Obj) (fd : FuncData), mg nm = some (.ref a) ∧ h.get? a = some o ∧ o.data = .func fd ∧ fd.code = .ref c ∧ PySem.W.CodeHd h c PT ∧ h.get? PT = some { cls := .none, data := .fields #[] }
theorem TabOf.of {K : PySem.W.Frag} {mg : Str → Option Value} {nm : Str} {h : Heap} {c PT c0 P0 f : Addr} {oc : Value} {od : Option Addr} {fd : FuncData} {sl : Array (Option Value)} {e : Value} {dd : Option Addr} {vs : Array Value} {sl2 : Array (Option Value)} (X : K.In h) (t : TabOf mg nm h c0 P0)
    (m : mg nm = some (.ref f)) (l : K.lookup f = some ⟨oc, od, .func fd, sl⟩) (hc : fd.code = .ref c) (lc : K.lookup c = some ⟨e, dd, .fields vs, sl2⟩) (hv : vs[11]? = some (.ref PT)) : PySem.W.CodeHd h c PT ∧ h.get? PT = some { cls := .none, data := .fields #[] } := by
  obtain ⟨a, o, fd2, m2, e2, d2, c2, cd, eP⟩ := t
  rw [m] at m2
  cases m2
  have e3 := X _ _ l
  rw [e3] at e2
  cases e2
  cases d2
  rw [hc] at c2
  cases c2
  have e4 := X _ _ lc
  have cd2 := cd
  obtain ⟨o5, vs5, _, _, _, _, _, _, _, f1, _, f3, f4, _⟩ := cd
  rw [e4] at f1
  cases f1
  cases f3
  rw [hv] at f4
  cases f4
  exact ⟨cd2, eP⟩
theorem walk_tab {l : PySem.W.OpenLaw} {n k : Nat} {q : Program} {loose : List Str} {XP : (Str → Option Value) → Heap → Prop} {YP : World → Heap → Prop} {d : DefRec} {K : Params → PySem.W.Frag} {CX : World → CXT} {x nm : Str}
    (h1 : l.most = some n) (h2 : n ≤ sizeLine) (h3 : d.params.defaults = []) (h4 : Room k callerA) (named : ((recsOf q).any fun e => e.name == nm) = true) (toK : ∀ (w : World) (h : Heap), YP w h → (K w.params).In h)
    (F : ∀ (w : World) (mg : Str → Option Value) (fa : Addr) (h : Heap), (K w.params).In h → h.Ns mainGlobals mg → mg d.name = some (.ref fa) → (∃ c PT, TabOf mg nm h c PT) → LamX.LawAtS l w (K w.params) (CX w) k n x mg fa h)
    (quiet : ∀ (w : World) (H : Hp) (s : Shared) (e : Value) (s' : Shared), CX w [] H s (fun _ _ _ => False) e s' → False) :
    PySem.W.WalkO q loose XP YP l.row.toRowW d [] (fun f vs => PySem.call f vs) :=
  Att.attach_callB h1 h3 fun w s0 s1 mg mb fa _ _ _ _ a vs ns G Y _ _ _ hmg hobj hints hlen hbits hg => by
    have KX := toK w _ Y
    have tb : ∃ c PT, TabOf mg nm s1.heap c PT := by
      obtain ⟨r, hr, en⟩ := List.any_eq_true.mp named
      obtain ⟨b, o, fd, c, PT, m, e, dd, cc, ic, ta⟩ := G.T.tab r hr
      rw [beq_iff_eq.mp en] at m
      exact ⟨c, PT, b, o, fd, m, e, dd, cc, PySem.W.CodeHd.of ic ta, ta.2⟩
    obtain ⟨fd, cs, sp, tE, tN, tC, bs, asks, ok⟩ := F w mg fa _ KX G.T.g hmg tb
    exact LamX.law_callTs KX G.T.g G.T.b G.T.builtins G.T.nolimit hg tE tN tC G.T.bmain hobj hints (Nat.le_trans hlen h2) h4 ok bs (fun H hH hS => asks H a ns hlen hbits hH hS) fun H e s' => quiet w H s1 e s'
end GN

/-! k00: pairs of kind and word; the list that words gives back. -/
namespace KZ
open PySem L2 TL
open KD
open K0 (Toks)
def Tup2 (H : Hp) (v : V) (k w : Str) : Prop := ∃ t, v = .ref t ∧ H t = some (.tup [.str k, .str w])
inductive Tups (H : Hp) : List V → List (Str × Str) → Prop
  | nil : Tups H [] []
  | cons {v : V} {vs : List V} {k w : Str} {ws : List (Str × Str)} : Tup2 H v k w → Tups H vs ws → Tups H (v :: vs) ((k, w) :: ws)
theorem Tups.length {H : Hp} : ∀ {vs : List V} {ws : List (Str × Str)}, Tups H vs ws → vs.length = ws.length
  | _, _, .nil => rfl
  | _, _, .cons _ t => by rw [List.length_cons, List.length_cons, t.length]
theorem Tups.mono {H H' : Hp} (e : ∀ t k w, H t = some (.tup [.str k, .str w]) → H' t = some (.tup [.str k, .str w])) : ∀ {vs : List V} {ws : List (Str × Str)}, Tups H vs ws → Tups H' vs ws
  | _, _, .nil => .nil
  | _, _, .cons ⟨t, e1, e2⟩ r => .cons ⟨t, e1, e t _ _ e2⟩ (Tups.mono e r)
theorem Tups.snoc {H : Hp} {v : V} {k w : Str} (h : Tup2 H v k w) : ∀ {vs : List V} {ws : List (Str × Str)}, Tups H vs ws → Tups H (vs ++ [v]) (ws ++ [(k, w)])
  | _, _, .nil => .cons h .nil
  | _, _, .cons a r => .cons a (Tups.snoc h r)

def spWordsT (PT : Addr) : Sp := fun vs H Q _ => ∃ (z : Str) (ws : List (Str × Str)), vs = [.str z] ∧ z.length ≤ 100000 ∧ Toks (tl z) ws ∧ GN.Tab PT H ∧
  ∀ (H' : Hp) (p : Addr) (vs : List V), Same H H' → H' p = some (.lst vs) → Tups H' vs ws → Q (.ref p) H'
section
variable {P : Program} {w : World} {K : PySem.W.Frag} {mg : Str → Option Value} {base : Heap}
theorem scWords : FnScope ["text", "kind", "word", "place"] ["text"] (defScope S_words) := ⟨rfl, rfl, rfl, by decide +kernel, rfl, by decide +kernel, by decide +kernel⟩
theorem ok_words {f fP PT : Addr} {fd fdP : FuncData} (F : Fun K "words" "words" S_words f fd) (GP : FnOk P w K mg base CX0 5 fP fdP ["text"] (spPlaced K PT)) (mP : mg "placed_words" = some (.ref fP)) (kP : PySem.W.keepIn K (.ref fP) = true) (bP : Binds K fdP ["text"] []) :
    FnOk P w K mg base CX0 6 f fd ["text"] (spWordsT PT) := by
  refine F.ok scWords (fun vs H Q E h => ?_) (fun cdv A outer s0 H vs Q E hr h => ?_)
  · obtain ⟨z, ws, rfl, _⟩ := h
    rfl
  obtain ⟨z, ws, rfl, hz, hT, tab, k⟩ := h
  have hr1 : Room 5 _ := hr.mono (by omega)
  refine ⟨_, pss_one (ps_ret (pe_lc (own := [("kind", 1), ("word", 2), ("place", 3)]) (g := gTup K 3 (gCons (gName 1) (gCons (gName 2) (gCons (gName 3) gNil)))) rfl scWords.nd (pi_list (pe_call GP hr1 rfl mP kP bP .nil pass0 (pa_cons (pv 0) pa_nil)))
      (blkOk_by (own := [("kind", 1), ("word", 2), ("place", 3)]) (N := ["text", "kind", "word", "place"]) (sc := defScope S_words) (by decide +kernel))
      (fun _ _ _ _ _ => pg_tup rfl (pgs_cons (pg_name (i := 1) scWords.nd rfl (Or.inl rfl)) (pgs_cons (pg_name (i := 2) scWords.nd rfl (Or.inl rfl)) (pgs_cons (pg_name (i := 3) scWords.nd rfl (Or.inl rfl)) pgs_nil))))
      (fun _ _ _ _ _ => pts_nil)
      (fun _ _ _ _ _ => pe_tup (pa_cons (pv 1) (pa_cons (pv 2) pa_nil))))), ?_⟩
  refine ⟨_, rfl, z, ws, rfl, hz, hT, tab, fun H1 p vs ts s1 np hp hd htk hlen => ?_⟩
  have hvl : vs.length = ts.length := by rw [DpAll.length hd, List.length_map]
  have same1 := s1
  refine ⟨p, rfl, ⟨vs, SqL.of hp⟩, fun D hD => ?_⟩
  have nD : p ≠ D := ne_of_none hp hD
  refine lc_list (a := p) (xs := vs) (fun i H' => ∃ us : List V, us.length = i ∧ Same H1 H' ∧ H' D = some (.lst us) ∧ Tups H' us ((ts.take i).map T3.tk)) ⟨[], rfl, same_new hD _, upd_same, .nil⟩ ?_ ?_ ?_
  · rintro i H' hi ⟨us, hl, s2, hD2, tu⟩
    exact SqL.of (s2 _ _ hp)
  · rintro i x H' hx ⟨us, hl, s2, hD2, tu⟩
    obtain ⟨d, e1, e2⟩ := DpAll.get hd hx
    obtain ⟨t, et, rfl⟩ : ∃ t, ts[i]? = some t ∧ d = t.d := by
      rw [List.getElem?_map] at e1
      cases q : ts[i]? with
      | none => rw [q] at e1; cases e1
      | some t => rw [q] at e1; exact ⟨t, rfl, (Option.some.inj e1).symm⟩
    obtain ⟨at_, xs, rfl, hT3, hB⟩ := dp_tup (Dp.same s2 e2)
    obtain ⟨w0, r0, rfl, b0, hB⟩ := dp_cons hB
    obtain ⟨w1, r1, rfl, b1, hB⟩ := dp_cons hB
    obtain ⟨w2, r2, rfl, b2, hB⟩ := dp_cons hB
    obtain rfl := dp_nil hB
    obtain rfl := dp_str b0
    obtain rfl := dp_str b1
    have hi : i < ts.length := (List.getElem?_eq_some_iff.mp et).1
    have etk : (ts.take (i + 1)).map T3.tk = (ts.take i).map T3.tk ++ [(t.kd, t.w)] := by rw [List.take_succ, et, List.map_append]; rfl
    refine ⟨at_, _, rfl, hT3, rfl, _, _, rfl, _, _, rfl, _, _, rfl, rfl, rfl, ?_⟩
    unfold tYes
    refine iteT ?_
    refine ⟨_, rfl, _, rfl, (by show 2 ≤ sizeLine; decide), fun q nq => ?_⟩
    have nDq : D ≠ q := ne_of_none hD2 nq
    have sq := same_new nq (.tup [.str t.kd, .str t.w])
    refine ⟨us, by rw [upd_ne nDq]; exact hD2, Nat.lt_of_le_of_lt (show us.length ≤ 100000 by omega) (by decide), us ++ [.ref q], by rw [List.length_append, hl]; rfl, fun b o h => ?_, upd_same, ?_⟩
    · rw [upd_ne (ne_of_none h hD)]
      exact sq _ _ (s2 _ _ h)
    · rw [etk]
      refine Tups.snoc ⟨q, rfl, by rw [upd_ne nDq.symm]; exact upd_same⟩ (tu.mono fun b k w h => ?_)
      have nb : b ≠ D := fun e => by
        rw [e, hD2] at h
        cases h
      rw [upd_ne nb]
      exact sq _ _ h
  · rintro H' ⟨us, hl, s2, hD2, tu⟩
    rw [hvl, List.take_length, htk] at tu
    exact k _ _ _ (s1.trans s2) hD2 tu
end
end KZ

/-! k00: things alike. -/
namespace KZ
open PySem L2 TL
open KD
def us2 : List Value := [.type "tuple", .type "list"]
theorem kit_str {K : PySem.W.Frag} : PySem.W.kitAny K (.type "str") us2 = some false :=
  kitAny_cons (b := false) (kit_ty (by decide +kernel)) (fun _ => kitAny_cons (b := false) (kit_ty (by decide +kernel)) (fun _ => kitAny_nil) (fun q => by cases q)) (fun q => by cases q)
theorem kit_list {K : PySem.W.Frag} : PySem.W.kitAny K (.type "list") us2 = some true :=
  kitAny_cons (b := false) (kit_ty (by decide +kernel)) (fun _ => kitAny_cons (b := true) (kit_ty (by decide +kernel)) (fun q => by cases q) (fun _ => rfl)) (fun q => by cases q)
theorem kit_tup {K : PySem.W.Frag} : PySem.W.kitAny K (.type "tuple") us2 = some true :=
  kitAny_cons (b := true) (kit_ty (by decide +kernel)) (fun q => by cases q) (fun _ => rfl)
theorem cls2 : Paired ClsV [.ty "tuple", .ty "list"] us2 := .cons (.ty _) (.cons (.ty _) .nil)
/-- a list or a tuple -/
def box (C : Bool) (xs : List V) : HO := if C then .tup xs else .lst xs
def boxT (C : Bool) : String := if C then "tuple" else "list"
theorem box_ty {K : PySem.W.Frag} {H : Hp} {a : Addr} {xs : List V} : ∀ {C : Bool}, H a = some (box C xs) → TyX K H (.ref a) (.type (boxT C))
  | true, h => .base (.tup h)
  | false, h => .base (.lst h)
theorem box_kit {K : PySem.W.Frag} : ∀ {C : Bool}, PySem.W.kitAny K (.type (boxT C)) us2 = some true
  | true => kit_tup
  | false => kit_list
theorem box_isl {K : PySem.W.Frag} : ∀ {C : Bool}, PySem.W.kitOne K (.type (boxT C)) (.type "list") = some (!C)
  | true => kit_ty (by decide +kernel)
  | false => kit_ty (by decide +kernel)
theorem box_seq {K : PySem.W.Frag} {H : Hp} {a : Addr} {xs : List V} : ∀ {C : Bool}, H a = some (box C xs) → SqL K H a xs ∨ SqT K H a xs
  | true, h => .inr (SqT.of h)
  | false, h => .inl (SqL.of h)
section
variable {P : Program} {w : World} {K : PySem.W.Frag} {mg : Str → Option Value} {base : Heap}
theorem scAlike : FnScope ["found", "due", "k"] ["found", "due"] (defScope S__law_alike) := ⟨rfl, rfl, rfl, by decide +kernel, rfl, by decide +kernel, by decide +kernel⟩
def spAlS : Sp := fun vs H Q _ => ∃ z : Str, vs = [.str z, .str z] ∧ ∀ H', Same H H' → Q (.bl true) H'
theorem ok_alS {f : Addr} {fd : FuncData} (F : Fun K "_law_alike" "_law_alike" S__law_alike f fd) (T : Blt mg) : FnOk P w K mg base CX0 1 f fd ["found", "due"] spAlS := by
  refine F.ok scAlike (fun vs H Q E h => ?_) (fun cdv A outer s0 H vs Q E hr h => ?_)
  · obtain ⟨z, rfl, _⟩ := h
    rfl
  obtain ⟨z, rfl, k⟩ := h
  refine ⟨_, pss_cons (ps_if (pt_val (pe_callB call_isiT (by rfl) T.isi (by decide +kernel) (pa_cons (pv 1) (pa_cons (pe_tup (pa_cons (pe_bltn (v := .ty "tuple") (by rfl) T.tup (by decide +kernel) rfl) (pa_cons (pe_bltn (v := .ty "list") (by rfl) T.list (by decide +kernel) rfl) pa_nil))) pa_nil)))) pss_never pss_nil)
    (pss_cons (ps_if (PW.pt (pw_or (pt_cmp (pc_isN (pv 1))) (pw_or1 (pt_val (pe_callB call_isi (by rfl) T.isi (by decide +kernel) (pa_cons (pv 1) (pa_cons (pe_bltn (v := .ty "str") (by rfl) T.str (by decide +kernel) rfl) pa_nil)))))))
      (pss_one (ps_ret (pe_and (pe_cmpR op_eq (pv 0) (pv 1) (nomark _)) (pe_one (pe_cmpR op_eq
        (pe_callB call_isi (by rfl) T.isi (by decide +kernel) (pa_cons (pv 0) (pa_cons (pe_bltn (v := .ty "str") (by rfl) T.str (by decide +kernel) rfl) pa_nil)))
        (pe_callB call_isi (by rfl) T.isi (by decide +kernel) (pa_cons (pv 1) (pa_cons (pe_bltn (v := .ty "str") (by rfl) T.str (by decide +kernel) rfl) pa_nil))) (nomark _)))))) pss_nil)
    pss_never), ?_⟩
  refine ⟨_, rfl, (by show 2 ≤ sizeLine; decide), fun tp htp => ⟨_, tp, _, _, us2, false, rfl, upd_same, cls2, .base (.str _), kit_str, false, rfl, iteF ?_⟩⟩
  refine ⟨_, rfl, _, rfl, iteF ?_⟩
  refine ⟨_, rfl, _, _, _, _, true, rfl, .ty "str", .base (.str _), kit_ty (by decide +kernel), true, rfl, iteT ?_⟩
  refine ⟨_, rfl, _, rfl, rfl, _, rfl, ?_⟩
  rw [decide_eq_true rfl]
  refine iteT ?_
  refine ⟨_, rfl, _, _, _, _, true, rfl, .ty "str", .base (.str _), kit_ty (by decide +kernel), _, rfl, _, _, _, _, true, rfl, .ty "str", .base (.str _), kit_ty (by decide +kernel), rfl, ?_⟩
  exact k _ (same_new htp _)

/-- two lists, or two tuples, whose items are alike -/
def spAl (C : Bool) (el : Hp → V → V → Prop) : Sp := fun vs H Q _ => ∃ (p q : Addr) (xs ys : List V), vs = [.ref p, .ref q] ∧ H p = some (box C xs) ∧ H q = some (box C ys) ∧ xs.length = ys.length ∧ ys.length ≤ 1000 ∧
  (∀ (i : Nat) (x y : V), xs[i]? = some x → ys[i]? = some y → el H x y) ∧ ∀ H', Same H H' → Q (.bl true) H'
theorem ok_al {k : Nat} {C : Bool} {el : Hp → V → V → Prop} {spI : Sp} (hel : ∀ H H' x y, Same H H' → el H x y → el H' x y) (hsp : ∀ H x y (Q : VK), el H x y → (∀ H', Same H H' → Q (.bl true) H') → spI [x, y] H Q E0)
    {f : Addr} {fd : FuncData} (F : Fun K "_law_alike" "_law_alike" S__law_alike f fd) (T : Blt mg) (GI : FnOk P w K mg base CX0 k f fd ["found", "due"] spI) (mI : mg "_law_alike" = some (.ref f)) (bI : Binds K fd ["found", "due"] []) :
    FnOk P w K mg base CX0 (k + 1) f fd ["found", "due"] (spAl C el) := by
  refine F.ok scAlike (fun vs H Q E h => ?_) (fun cdv A outer s0 H vs Q E hr h => ?_)
  · obtain ⟨p, q, xs, ys, rfl, _⟩ := h
    rfl
  obtain ⟨p, q, xs, ys, rfl, hp, hq, hl, h1000, he, k⟩ := h
  refine ⟨_, pss_cons (ps_if (pt_val (pe_callB call_isiT (by rfl) T.isi (by decide +kernel) (pa_cons (pv 1) (pa_cons (pe_tup (pa_cons (pe_bltn (v := .ty "tuple") (by rfl) T.tup (by decide +kernel) rfl) (pa_cons (pe_bltn (v := .ty "list") (by rfl) T.list (by decide +kernel) rfl) pa_nil))) pa_nil))))
      (pss_cons (ps_if (PW.pt (pw_or (pt_not (pt_val (pe_callB call_isiT (by rfl) T.isi (by decide +kernel) (pa_cons (pv 0) (pa_cons (pe_tup (pa_cons (pe_bltn (v := .ty "tuple") (by rfl) T.tup (by decide +kernel) rfl) (pa_cons (pe_bltn (v := .ty "list") (by rfl) T.list (by decide +kernel) rfl) pa_nil))) pa_nil)))))
          (pw_or1 (pt_cmpR op_ne (pe_callB call_isi (by rfl) T.isi (by decide +kernel) (pa_cons (pv 0) (pa_cons (pe_bltn (v := .ty "list") (by rfl) T.list (by decide +kernel) rfl) pa_nil)))
            (pe_callB call_isi (by rfl) T.isi (by decide +kernel) (pa_cons (pv 1) (pa_cons (pe_bltn (v := .ty "list") (by rfl) T.list (by decide +kernel) rfl) pa_nil))) (nomark _))))) pss_never pss_nil)
      (pss_cons (ps_if (pt_cmpR op_ne (pe_callB call_len_seq (by rfl) T.len PySem.boot_len (pa_cons (pv 0) pa_nil)) (pe_callB call_len_seq (by rfl) T.len PySem.boot_len (pa_cons (pv 1) pa_nil)) (nomark _)) pss_never pss_nil)
      (pss_one (ps_ret (pe_cmpR (op_eqD hr.units) (pe_lc (own := [("k", 2)]) (g := gName 2) rfl scAlike.nd (pi_range1 rfl T.range (pa_cons (pe_callB call_len_seq (by rfl) T.len PySem.boot_len (pa_cons (pv 1) pa_nil)) pa_nil))
          (blkOk_by (own := [("k", 2)]) (N := ["found", "due", "k"]) (sc := defScope S__law_alike) (by decide +kernel)) (fun _ _ _ _ _ => pg_name (i := 2) scAlike.nd rfl (Or.inl rfl))
          (fun _ _ _ _ _ => pts_one (pt_not (pt_val (pe_call GI hr rfl mI F.kp bI .nil pass0 (pa_cons (pe_ix (r := rIx K) ix_seq (pv 0) (pv 2) (fun _ _ => rfl)) (pa_cons (pe_ix (r := rIx K) ix_seq (pv 1) (pv 2) (fun _ _ => rfl)) pa_nil))))))
          (fun _ _ _ _ _ => pv 2)) (pe_lst pa_nil) (nomark _)))))) pss_nil)
    pss_never, ?_⟩
  refine ⟨_, rfl, (by show 2 ≤ sizeLine; decide), fun tp htp => ⟨_, tp, _, _, us2, true, rfl, upd_same, cls2, box_ty (same_new htp _ _ _ hq), box_kit, true, rfl, iteT ?_⟩⟩
  have s1 := same_new htp (.tup [.ty "tuple", .ty "list"])
  refine ⟨_, rfl, (by show 2 ≤ sizeLine; decide), fun tp2 htp2 => ?_⟩
  have s2 := s1.trans (same_new htp2 (.tup [.ty "tuple", .ty "list"]))
  refine ⟨_, tp2, _, _, us2, true, rfl, upd_same, cls2, box_ty (s2 _ _ hp), box_kit, true, rfl, iteF ?_⟩
  generalize upd (upd H tp (.tup [.ty "tuple", .ty "list"])) tp2 (.tup [.ty "tuple", .ty "list"]) = H2 at s2 ⊢
  refine ⟨_, rfl, _, _, _, _, !C, rfl, .ty "list", box_ty (s2 _ _ hp), box_isl, _, rfl, _, _, _, _, !C, rfl, .ty "list", box_ty (s2 _ _ hq), box_isl, rfl, _, rfl, iteNS rfl ?_⟩
  refine ⟨_, rfl, p, xs, rfl, box_seq (s2 _ _ hp), _, rfl, q, ys, rfl, box_seq (s2 _ _ hq), rfl, _, rfl, iteNS (by rw [hl]) ?_⟩
  refine ⟨_, rfl, q, ys, rfl, box_seq (s2 _ _ hq), _, rfl, by omega, by omega, fun D hD => ?_⟩
  have s3 := s2.trans (same_new hD (.lst []))
  refine lc_range (lo := 0) (n := ((ys.length : Nat) : Int).toNat) (fun _ H' => H' D = some (.lst []) ∧ Same H H') ⟨upd_same, s3⟩ ?_ ?_
  · rintro i H' hi ⟨hD', s4⟩
    have hi' : i < ys.length := by omega
    have ei : (0 : Int) + (i : Int) = ((i : Nat) : Int) := by omega
    obtain ⟨x, hx⟩ : ∃ x, xs[i]? = some x := ⟨_, List.getElem?_eq_getElem (by omega)⟩
    obtain ⟨y, hy⟩ : ∃ y, ys[i]? = some y := ⟨_, List.getElem?_eq_getElem hi'⟩
    have ax : atI xs (0 + (i : Int)) = some x := by rw [ei]; exact atI_nat hx
    have ay : atI ys (0 + (i : Int)) = some y := by rw [ei]; exact atI_nat hy
    have ix : ∀ {a : Addr} {zs : List V} {v : V} (Q2 : VK), H a = some (box C zs) → atI zs (0 + (i : Int)) = some v → Q2 v H' → rIx K (.ref a) (.int (0 + (i : Int))) H' Q2 := fun {a zs v} Q2 h1 h2 h3 => by
      rcases box_seq (K := K) (s4 _ _ h1) with h | h
      · exact .inl ⟨a, zs, _, v, rfl, rfl, h, h2, h3⟩
      · exact .inr (.inl ⟨a, zs, _, v, rfl, rfl, h, h2, h3⟩)
    refine ⟨rfl, ?_⟩
    refine ⟨_, rfl, _, rfl, ix _ hp ax ?_⟩
    refine ⟨_, rfl, _, rfl, ix _ hq ay ?_⟩
    refine hsp _ _ _ _ (hel _ _ _ _ s4 (he i x y hx hy)) fun H5 s5 => ⟨true, rfl, iteF ?_⟩
    exact ⟨s5 _ _ hD', s4.trans s5⟩
  · rintro H' ⟨hD', s4⟩
    refine ⟨Nat.zero_le _, fun l hl' => ⟨.list [], .list [], .lst (SqL.of (same_new hl' _ _ _ hD')) .nil, .lst (SqL.of upd_same) .nil, rfl, rfl, ?_⟩⟩
    show Q (.bl true) _
    exact k _ (s4.trans (same_new hl' _))
end
end KZ

/-! k00: the law. -/
namespace KZ
open PySem L2 TL
open KD
open K0 (isBl isLet isFig isAl kws mks inM Toks J J_start J_step J_end Wd wd_key wd_name wd_mark wd_num num num_len)
def lawN : List Str := ["script", "row", "keys", "marks", "found", "text", "last", "step", "kind", "word", "close", "at"]
def el1 : Hp → V → V → Prop := fun _ x y => ∃ z : Str, x = .str z ∧ y = .str z
def el2 : Hp → V → V → Prop := fun H x y => ∃ k w : Str, Tup2 H x k w ∧ Tup2 H y k w
structure Good (B : Hp) (s r kk mm ff : Addr) (us : List V) (ws : List (Str × Str)) (H : Hp) : Prop where
  row : RowAt H r s
  same : Same B H
  hk : H kk = some (.lst (kws.map V.str))
  hm : H mm = some (.lst (mks.map V.str))
  hf : H ff = some (.lst us)
  tu : Tups H us ws
  nk : kk ≠ r
  nm : mm ≠ r
  nf : ff ≠ r
  nkf : kk ≠ ff
  nmf : mm ≠ ff
  br : B r = none
  bf : B ff = none
section
variable {B : Hp} {s r kk mm ff : Addr} {us : List V} {ws : List (Str × Str)} {H H' : Hp}
theorem Good.scr {K : PySem.W.Frag} {ns : List Int} (g : Good B s r kk mm ff us ws H) (hS : SqL K B s (ns.map V.int)) (h63 : ns.length ≤ 63) : Scr K H r s :=
  ⟨ns, h63, fun H' kp => Same.seq (fun b o q => kp b o (ne_of_none q g.br) (g.same b o q)) hS⟩
theorem Good.keep (g : Good B s r kk mm ff us ws H) (k : Keep r H H') (h : RowAt H' r s) : Good B s r kk mm ff us ws H' := by
  obtain ⟨xs, hr⟩ := g.row.is
  exact ⟨h, fun b o q => k b o (ne_of_none q g.br) (g.same b o q), k _ _ g.nk g.hk, k _ _ g.nm g.hm, k _ _ g.nf g.hf, g.tu.mono fun t _ _ q => k _ _ (ne_of q hr (by intro z; cases z)) q, g.nk, g.nm, g.nf, g.nkf, g.nmf, g.br, g.bf⟩
theorem Good.new (g : Good B s r kk mm ff us ws H) {p : Addr} (hp : H p = none) (o : HO) : Good B s r kk mm ff us ws (upd H p o) := g.keep (Keep.new hp o) (g.row.new hp o)
/-- a list of one's own, at D, is changed -/
theorem Good.at (g : Good B s r kk mm ff us ws H) {D : Addr} {xs : List V} (hD : H D = some (.lst xs)) (nr : r ≠ D) (nk : kk ≠ D) (nm : mm ≠ D) (nf : ff ≠ D) (bD : B D = none) (o : HO) : Good B s r kk mm ff us ws (upd H D o) := by
  obtain ⟨i, a, b, hr, h2⟩ := g.row
  exact ⟨⟨i, a, b, by rw [upd_ne nr]; exact hr, h2⟩, fun b o q => by rw [upd_ne (ne_of_none q bD)]; exact g.same b o q, by rw [upd_ne nk]; exact g.hk, by rw [upd_ne nm]; exact g.hm, by rw [upd_ne nf]; exact g.hf,
    g.tu.mono fun t _ _ q => by rw [upd_ne (ne_of q hD (by intro z; cases z))]; exact q, g.nk, g.nm, g.nf, g.nkf, g.nmf, g.br, g.bf⟩
/-- a pair is added to the words found -/
theorem Good.push (g : Good B s r kk mm ff us ws H) {t : Addr} (ht : H t = none) (k w : Str) : Good B s r kk mm ff (us ++ [.ref t]) (ws ++ [(k, w)]) (upd (upd H t (.tup [.str k, .str w])) ff (.lst (us ++ [.ref t]))) := by
  have g' := g.new ht (.tup [.str k, .str w])
  obtain ⟨i, a, b, hr, h2⟩ := g'.row
  have ntf : t ≠ ff := (ne_of_none g.hf ht).symm
  refine ⟨⟨i, a, b, by rw [upd_ne g.nf.symm]; exact hr, h2⟩, fun b o q => by rw [upd_ne (ne_of_none q g.bf)]; exact g'.same b o q, by rw [upd_ne g.nkf]; exact g'.hk, by rw [upd_ne g.nmf]; exact g'.hm, upd_same, ?_, g.nk, g.nm, g.nf, g.nkf, g.nmf, g.br, g.bf⟩
  refine Tups.snoc ⟨t, rfl, by rw [upd_ne ntf, upd_same]⟩ (g'.tu.mono fun t' _ _ q => ?_)
  rw [upd_ne (ne_of q g'.hf (by intro z; cases z))]
  exact q
end
theorem Keep.same {r : Addr} {B H : Hp} (h : B r = none) (k : Keep r B H) : Same B H := fun b o q => k b o (ne_of_none q h) q
theorem int_mem {v : V} {u : Int} (h0 : 0 ≤ u) (h1 : u < 1000000) (h : v ∈ ([.int 0, .int 7, .int 10, .int 999999, .int u] : List V)) : ∃ m : Nat, v = .int ((m : Nat) : Int) ∧ m < 1000000 := by
  simp only [List.mem_cons, List.not_mem_nil, or_false] at h
  rcases h with h | h | h | h | h
  · exact ⟨0, h, by decide⟩
  · exact ⟨7, h, by decide⟩
  · exact ⟨10, h, by decide⟩
  · exact ⟨999999, h, by decide⟩
  · exact ⟨u.toNat, by rw [h]; congr 1; omega, by omega⟩
theorem tups_el {H : Hp} : ∀ {xs ys : List V} {ws : List (Str × Str)}, Tups H xs ws → Tups H ys ws → ∀ (i : Nat) (x y : V), xs[i]? = some x → ys[i]? = some y → el2 H x y
  | _, _, _, .nil, .nil, i, x, y, h, _ => by simp at h
  | _, _, _, .cons a r, .cons b q, 0, x, y, h1, h2 => by
    have e1 := Option.some.inj h1
    have e2 := Option.some.inj h2
    subst e1 e2
    exact ⟨_, _, a, b⟩
  | _, _, _, .cons a r, .cons b q, i + 1, x, y, h1, h2 => tups_el r q i x y h1 h2
/-- the slots within a turn -/
def sg (s r kk mm ff : Addr) (T last : Str) (v7 v8 v9 v10 : Option V) : L2.St := [some (.ref s), some (.ref r), some (.ref kk), some (.ref mm), some (.ref ff), some (.str T), some (.str last), v7, v8, v9, v10, none]
def kinds : List Str := ["key", "mark", "name", "number"]
/-- signs, joined -/
theorem joinL_ones : ∀ cs : List Nat, joinL [] (cs.map fun c => [c]) = cs
  | [] => rfl
  | [_] => rfl
  | c :: d :: r => by
    have ih := joinL_ones (d :: r)
    show [c] ++ ([] ++ joinL [] ((d :: r).map fun c => [c])) = _
    rw [ih]
    rfl
theorem join_ones (cs : List Nat) : tl (Txt.join "" (cs.map fun c => (⟨#[c]⟩ : Str))) = cs := by
  rw [join_eq, tl_join, List.map_map]
  have e : tl ("" : Str) = [] := by decide +kernel
  rw [e]
  exact joinL_ones cs
theorem ones_sum : ∀ cs : List Nat, ((cs.map fun c => (⟨#[c]⟩ : Str)).map (·.length)).sum = cs.length
  | [] => rfl
  | c :: r => by
    have ih := ones_sum r
    show 1 + ((r.map fun c => (⟨#[c]⟩ : Str)).map (·.length)).sum = r.length + 1
    omega
theorem abc_let : ∀ c ∈ tl ("abcxyz" : Str), isLet c = true := by decide +kernel
theorem kws_len : ∀ w ∈ kws, w.length ≤ 12 := by decide +kernel
theorem mks_len : ∀ w ∈ mks, w.length ≤ 12 := by decide +kernel
theorem kinds_ne : ¬ (("key" : Str) = "name") ∧ ¬ (("mark" : Str) = "name") ∧ ¬ (("number" : Str) = "name") ∧ ¬ (("mark" : Str) = "key") ∧ ¬ (("name" : Str) = "key") ∧ ¬ (("number" : Str) = "key") ∧ ¬ (("key" : Str) = "number") ∧ ¬ (("mark" : Str) = "number") ∧ ¬ (("name" : Str) = "number") := by decide +kernel
def spLaw (K : PySem.W.Frag) (PT : Addr) : Sp := fun vs H Q _ => ∃ (a : Addr) (ns : List Int), vs = [.ref a] ∧ SqL K H a (ns.map V.int) ∧ ns.length ≤ 63 ∧ GN.Tab PT H ∧ ∀ H', GN.Tab PT H' → Q (.bl true) H'
section
variable {P : Program} {w : World} {K : PySem.W.Frag} {mg : Str → Option Value} {base : Heap}
theorem scLaw : FnScope lawN ["script"] (defScope S_law) := ⟨rfl, rfl, rfl, by decide +kernel, rfl, by decide +kernel, by decide +kernel⟩
theorem ok_law {f fT fP fA fW PT : Addr} {fd fdT fdP fdA fdW : FuncData} (F : Fun K "law" "law" S_law f fd) (T : Blt mg)
    (GT : FnOk P w K mg base CX0 1 fT fdT ["row", "many"] (spTaken K)) (mT : mg "_law_taken" = some (.ref fT)) (kT : PySem.W.keepIn K (.ref fT) = true) (bT : Binds K fdT ["row", "many"] [])
    (GP : FnOk P w K mg base CX0 2 fP fdP ["row", "things"] (spPick K)) (mP : mg "_law_pick" = some (.ref fP)) (kP : PySem.W.keepIn K (.ref fP) = true) (bP : Binds K fdP ["row", "things"] [])
    (GA : FnOk P w K mg base CX0 3 fA fdA ["found", "due"] (spAl false el2)) (mA : mg "_law_alike" = some (.ref fA)) (kA : PySem.W.keepIn K (.ref fA) = true) (bA : Binds K fdA ["found", "due"] [])
    (GW : FnOk P w K mg base CX0 6 fW fdW ["text"] (spWordsT PT)) (mW : mg "words" = some (.ref fW)) (kW : PySem.W.keepIn K (.ref fW) = true) (bW : Binds K fdW ["text"] []) :
    FnOk P w K mg base CX0 7 f fd ["script"] (spLaw K PT) := by
  refine F.ok scLaw (fun vs H Q E h => ?_) (fun cdv A outer s0 H vs Q E hr h => ?_)
  · obtain ⟨a, ns, rfl, _⟩ := h
    rfl
  obtain ⟨a, ns, rfl, hS, h63, tab0, k⟩ := h
  have hrT : Room 1 _ := hr.mono (by decide)
  have hrP : Room 2 _ := hr.mono (by decide)
  have hrA : Room 3 _ := hr.mono (by decide)
  refine ⟨_, pss_cons (ps_set (i := 1) scLaw.nd rfl (Or.inr rfl) (pe_lst (pa_cons (pv 0) (pa_cons pe_int (pa_cons pe_int (pa_cons pe_int pa_nil))))))
    (pss_cons (ps_set (i := 2) scLaw.nd rfl (Or.inl rfl) (pe_lst (pa_cons pe_str (pa_cons pe_str (pa_cons pe_str (pa_cons pe_str (pa_cons pe_str (pa_cons pe_str (pa_cons pe_str (pa_cons pe_str (pa_cons pe_str (pa_cons pe_str (pa_cons pe_str (pa_cons pe_str (pa_cons pe_str (pa_cons pe_str (pa_cons pe_str (pa_cons pe_str (pa_cons pe_str (pa_cons pe_str (pa_cons pe_str pa_nil)))))))))))))))))))))
    (pss_cons (ps_set (i := 3) scLaw.nd rfl (Or.inl rfl) (pe_lst (pa_cons pe_str (pa_cons pe_str (pa_cons pe_str (pa_cons pe_str (pa_cons pe_str (pa_cons pe_str (pa_cons pe_str (pa_cons pe_str (pa_cons pe_str (pa_cons pe_str (pa_cons pe_str (pa_cons pe_str (pa_cons pe_str pa_nil)))))))))))))))
    (pss_cons (ps_par3 (i := 4) (j := 5) (l := 6) rfl scLaw.nd rfl rfl rfl (by decide) (by decide) (by decide) rfl rfl rfl (pa_cons (pe_lst pa_nil) (pa_cons (pe_call GP hrP rfl mP kP bP .nil pass0 (pa_cons (pv 1) (pa_cons (pe_lst (pa_cons pe_str (pa_cons pe_str (pa_cons pe_str pa_nil)))) pa_nil))) (pa_cons pe_str pa_nil))) (by rfl))
    (pss_cons (ps_for PassesOwn.never rfl (pi_range1 rfl T.range (pa_cons (pe_call GT hrT rfl mT kT bT .nil pass0 (pa_cons (pv 1) (pa_cons pe_int pa_nil))) pa_nil)) (pg_name (i := 7) scLaw.nd rfl (Or.inl rfl))
      (pss_cons (ps_set (i := 8) scLaw.nd rfl (Or.inl rfl) (pe_call GP hrP rfl mP kP bP .nil pass0 (pa_cons (pv 1) (pa_cons (pe_lst (pa_cons pe_str (pa_cons pe_str (pa_cons pe_str (pa_cons pe_str pa_nil))))) pa_nil))))
      (C8.pss_cut (ps_set (i := 9) scLaw.nd rfl (Or.inl rfl) (pe_call GP hrP rfl mP kP bP .nil pass0 (pa_cons (pv 1) (pa_cons (pe_ifExp (pt_cmpR op_eq (pv 8) pe_str (nomark _)) (pv 2) (pv 3)) pa_nil))))
      (C8.pss_cut (ps_if (pt_cmpR op_eq (pv 8) pe_str (nomark _)) (pss_cons (ps_set (i := 9) scLaw.nd rfl (Or.inl rfl) (pe_join pe_str (pe_lc (own := [("at", 11)]) (g := gName 11) rfl scLaw.nd (pi_range1 rfl T.range (pa_cons (pe_op op_add pe_int (pe_call GT hrT rfl mT kT bT .nil pass0 (pa_cons (pv 1) (pa_cons pe_int pa_nil)))) pa_nil)) (blkOk_by (own := [("at", 11)]) (N := lawN) (sc := defScope S_law) (by decide +kernel)) (fun _ _ _ _ _ => pg_name (i := 11) scLaw.nd rfl (Or.inl rfl)) (fun _ _ _ _ _ => pts_nil) (fun _ _ _ _ _ => (pe_call GP hrP rfl mP kP bP .nil pass0 (pa_cons (pv 1) (pa_cons pe_str pa_nil))))))) (pss_one (ps_set (i := 8) scLaw.nd rfl (Or.inl rfl) (pe_ifExp (pt_cmpR op_in_seq (pv 9) (pv 2) (by rfl)) pe_str pe_str)))) pss_nil)
      (C8.pss_cut (ps_if (pt_cmpR op_eq (pv 8) pe_str (nomark _)) (pss_one (ps_set (i := 9) scLaw.nd rfl (Or.inl rfl) (pe_callTy call_str_int (by rfl) T.str (by decide +kernel) (pa_cons (pe_call GP hrP rfl mP kP bP .nil pass0 (pa_cons (pv 1) (pa_cons (pe_lst (pa_cons pe_int (pa_cons pe_int (pa_cons pe_int (pa_cons pe_int (pa_cons (pe_call GT hrT rfl mT kT bT .nil pass0 (pa_cons (pv 1) (pa_cons (pe_op op_pow pe_int pe_int) pa_nil))) pa_nil)))))) pa_nil))) pa_nil)))) pss_nil)
      (C8.pss_cut (ps_set (i := 10) scLaw.nd rfl (Or.inl rfl) (pe_or (pe_and (pe_cmpR op_eq (pv 6) pe_str (nomark _)) (pe_one (pe_cmpR op_eq (pv 8) pe_str (nomark _)))) (pe_one (pe_and (pe_cmpR op_ne (pv 6) pe_str (nomark _)) (pe_one (pe_cmpR op_ne (pv 8) pe_str (nomark _)))))))
      (C8.pss_cut (ps_set (i := 5) scLaw.nd rfl (Or.inl rfl) (pe_op op_add_str (pe_op op_add_str (pv 5) (pe_ifExp (pt_val (pv 10)) (pe_call GP hrP rfl mP kP bP .nil pass0 (pa_cons (pv 1) (pa_cons (pe_lst (pa_cons pe_str (pa_cons pe_str (pa_cons pe_str pa_nil)))) pa_nil))) (pe_call GP hrP rfl mP kP bP .nil pass0 (pa_cons (pv 1) (pa_cons (pe_lst (pa_cons pe_str (pa_cons pe_str (pa_cons pe_str (pa_cons pe_str pa_nil))))) pa_nil))))) (pv 9)))
      (pss_cons (ps_expr (pe_bm PySem.F.plainAttrs_list PySem.F.slot_list_append PySem.F.type_list_append mt_append (pv 4) (pa_cons (pe_tup (pa_cons (pv 8) (pa_cons (pv 9) pa_nil))) pa_nil)))
      (pss_one (ps_set (i := 6) scLaw.nd rfl (Or.inl rfl) (pv 8)))))))))))
    (pss_one (ps_ret (pe_and (pe_call GA hrA rfl mA kA bA .nil pass0 (pa_cons (pe_call GW hr rfl mW kW bW .nil pass0 (pa_cons (pv 5) pa_nil)) (pa_cons (pv 4) pa_nil))) (pe_one (pe_call GA hrA rfl mA kA bA .nil pass0 (pa_cons (pe_call GW hr rfl mW kW bW .nil pass0 (pa_cons (pe_op op_add_str (pv 5) pe_str) pa_nil)) (pa_cons (pv 4) pa_nil))))))))))), ?_⟩
  -- row, keys, marks
  refine ⟨_, rfl, (by show 4 ≤ sizeLine; decide), fun r nr => ?_⟩
  have row1 : RowAt (upd H r (.lst [.ref a, .int 0, .int 5500, .int 0])) r a := ⟨0, 5500, 0, upd_same, by decide, by decide, by decide⟩
  have same1 : Same H (upd H r (.lst [.ref a, .int 0, .int 5500, .int 0])) := same_new nr _
  generalize upd H r (.lst [.ref a, .int 0, .int 5500, .int 0]) = H1 at row1 same1 ⊢
  refine ⟨(by show 19 ≤ sizeLine; decide), fun kk nk => ?_⟩
  refine ⟨(by show 13 ≤ sizeLine; decide), fun mm nm => ?_⟩
  refine ⟨(by show 0 ≤ sizeLine; decide), fun ff nf => ?_⟩
  have hk2 : (upd H1 kk (.lst (kws.map V.str))) kk = some (.lst (kws.map V.str)) := upd_same
  have nkm := ne_of_none hk2 nm
  have hk3 : (upd (upd H1 kk (.lst (kws.map V.str))) mm (.lst (mks.map V.str))) kk = some (.lst (kws.map V.str)) := by rw [upd_ne nkm]; exact hk2
  have hm3 : (upd (upd H1 kk (.lst (kws.map V.str))) mm (.lst (mks.map V.str))) mm = some (.lst (mks.map V.str)) := upd_same
  have row2 := row1.new nk (.lst (kws.map V.str))
  have row3 := row2.new nm (.lst (mks.map V.str))
  have same3 := (same1.trans (same_new nk (.lst (kws.map V.str)))).trans (same_new nm (.lst (mks.map V.str)))
  have g4 : Good H a r kk mm ff [] [] (upd (upd (upd H1 kk (.lst (kws.map V.str))) mm (.lst (mks.map V.str))) ff (.lst [])) :=
    ⟨row3.new nf _, same3.trans (same_new nf _), by rw [upd_ne (ne_of_none hk3 nf)]; exact hk3, by rw [upd_ne (ne_of_none hm3 nf)]; exact hm3, upd_same, .nil, row1.ne nk, row2.ne nm, row3.ne nf, ne_of_none hk3 nf, ne_of_none hm3 nf, nr, same3.free nf⟩
  -- found, text, last = [], _law_pick(row, ['', ' ', '\n']), ''
  refine ⟨_, rfl, (by show 3 ≤ sizeLine; decide), fun p np => ?_⟩
  have g5 := g4.new np (.lst [.str "", .str " ", .str "\n"])
  refine ⟨r, a, _, rfl, g5.row, g5.scr hS h63, .inl ⟨p, _, rfl, g4.row.ne np, upd_same, (by show 1 ≤ 3; decide), (by show 3 ≤ 1000; decide), fun H6 v kp6 hR6 hv => ?_⟩⟩
  have g6 := g5.keep kp6 hR6
  obtain ⟨T0, rfl, hT0⟩ := strs_mem (l := ["", " ", "\n"]) hv
  have hT0' : (tl T0).all isBl = true ∧ T0.length ≤ 1 := (by decide +kernel : ∀ k ∈ (["", " ", "\n"] : List Str), (tl k).all isBl = true ∧ k.length ≤ 1) T0 hT0
  refine ⟨_, _, _, rfl, ?_⟩
  -- for step in range(_law_taken(row, 20))
  refine ⟨_, rfl, r, a, 20, rfl, g6.row, g6.scr hS h63, by decide, by decide, fun H7 n kp7 hR7 hn0 hn1 => ?_⟩
  have g7 := g6.keep kp7 hR7
  refine ⟨n, rfl, by omega, by omega, for_range (lo := 0) (n := n.toNat) (fun i σ H' => ∃ (T last : Str) (us : List V) (ws : List (Str × Str)) (v7 v8 v9 v10 : Option V), σ = sg a r kk mm ff T last v7 v8 v9 v10 ∧ Good H a r kk mm ff us ws H' ∧ J (tl T) ws last ∧ T.length ≤ 1 + 14 * i ∧ us.length ≤ i)
    ⟨T0, "", [], [], none, none, none, none, rfl, g7, J_start hT0'.1, hT0'.2, Nat.le_refl _⟩ ?_ ?_⟩
  · rintro i σ H' hi ⟨T, last, us, ws, v7, v8, v9, v10, rfl, g, j, hl, hu⟩
    have hi20 : i < 20 := by omega
    -- kind = _law_pick(row, [..])
    refine ⟨_, rfl, (by show 4 ≤ sizeLine; decide), fun p1 np1 => ?_⟩
    have ga := g.new np1 (.lst [.str "key", .str "mark", .str "name", .str "number"])
    refine ⟨r, a, _, rfl, ga.row, ga.scr hS h63, .inl ⟨p1, _, rfl, g.row.ne np1, upd_same, (by show 1 ≤ 4; decide), (by show 4 ≤ 1000; decide), fun H8 v kp8 hR8 hv8 => ?_⟩⟩
    have g8 := ga.keep kp8 hR8
    obtain ⟨kd, rfl, hkd⟩ := strs_mem (l := kinds) hv8
    -- word = _law_pick(row, keys if kind == 'key' else marks)
    refine ⟨fun σ2 H2 => ∃ wd : Str, σ2 = sg a r kk mm ff T last (some (.int (0 + (i : Int)))) (some (.str kd)) (some (.str wd)) v10 ∧ Good H a r kk mm ff us ws H2 ∧ (kd = "key" → wd ∈ kws) ∧ (kd = "mark" → wd ∈ mks), ?_, ?_⟩
    · refine ⟨_, rfl, _, rfl, rfl, _, rfl, ite2 (fun c => ?_) (fun c => ?_)⟩
      · have ck : kd = "key" := V.str.inj (of_decide_eq_true c)
        refine ⟨_, rfl, r, a, _, rfl, g8.row, g8.scr hS h63, .inl ⟨kk, _, rfl, g8.nk, g8.hk, (by show 1 ≤ 19; decide), (by show 19 ≤ 1000; decide), fun H2 v kp2 hR2 hv2 => ?_⟩⟩
        obtain ⟨wd, rfl, hw⟩ := strs_mem hv2
        exact ⟨wd, rfl, g8.keep kp2 hR2, fun _ => hw, fun q => absurd (q.symm.trans ck) (by decide +kernel)⟩
      · have ck : kd ≠ "key" := fun q => c (decide_eq_true (by rw [q]))
        refine ⟨_, rfl, r, a, _, rfl, g8.row, g8.scr hS h63, .inl ⟨mm, _, rfl, g8.nm, g8.hm, (by show 1 ≤ 13; decide), (by show 13 ≤ 1000; decide), fun H2 v kp2 hR2 hv2 => ?_⟩⟩
        obtain ⟨wd, rfl, hw⟩ := strs_mem hv2
        exact ⟨wd, rfl, g8.keep kp2 hR2, fun q => absurd q ck, fun _ => hw⟩
    rintro σ2 H9 ⟨wd0, rfl, g9, hkey, hmark⟩
    -- if kind == 'name'
    refine ⟨fun σ2 H2 => ∃ k2 w2 : Str, σ2 = sg a r kk mm ff T last (some (.int (0 + (i : Int)))) (some (.str k2)) (some (.str w2)) v10 ∧ Good H a r kk mm ff us ws H2 ∧ k2 ≠ "" ∧ (k2 = "number" ∨ (k2 ≠ "number" ∧ Wd k2 w2 ∧ w2.length ≤ 12)), ?_, ?_⟩
    · refine ⟨_, rfl, rfl, _, rfl, ite2 (fun c => ?_) (fun c => ?_)⟩
      · -- word = ''.join([..])
        refine ⟨⟨_, rfl⟩, _, rfl, r, a, 12, rfl, g9.row, g9.scr hS h63, by decide, by decide, fun H3 u kp3 hR3 h0 h1 => ?_⟩
        have g3 := g9.keep kp3 hR3
        refine ⟨_, _, rfl, rfl, _, rfl, by omega, by omega, fun D hD => ?_⟩
        have nDr : D ≠ r := g3.row.ne hD
        have nkD := ne_of_none g3.hk hD
        have nmD := ne_of_none g3.hm hD
        have nfD := ne_of_none g3.hf hD
        have bD : H D = none := g3.same.free hD
        refine lc_range (lo := 0) (n := (1 + u).toNat) (fun j' H' => ∃ cs : List Nat, cs.length = j' ∧ (∀ c ∈ cs, isLet c = true) ∧ H' D = some (.lst (cs.map fun c => V.str ⟨#[c]⟩)) ∧ Good H a r kk mm ff us ws H')
          ⟨[], rfl, (fun _ h => nomatch h), upd_same, g3.new hD _⟩ ?_ ?_
        · rintro j' H5 hj ⟨cs, hcl, hcs, hD5, g5'⟩
          refine ⟨rfl, ?_⟩
          unfold tYes
          refine iteT ?_
          refine ⟨_, rfl, r, a, _, rfl, g5'.row, g5'.scr hS h63, .inr ⟨"abcxyz", rfl, by decide +kernel, by decide +kernel, fun H6 c' kp6' hR6' hc => ?_⟩⟩
          have hD6 := kp6' D _ nDr hD5
          refine ⟨_, hD6, (by rw [List.length_map]; exact Nat.lt_of_le_of_lt (by omega : cs.length ≤ 1000) (by decide)), cs ++ [c'], by rw [List.length_append, hcl]; rfl, fun x hx => ?_, ?_, (g5'.keep kp6' hR6').at hD6 nDr.symm nkD nmD nfD bD _⟩
          · rcases List.mem_append.mp hx with h | h
            · exact hcs x h
            · rw [List.mem_singleton.mp h]
              exact abc_let c' hc
          · rw [upd_same, List.map_append]
            rfl
        · rintro H5 ⟨cs, hcl, hcs, hD5, g5'⟩
          have eW := join_ones cs
          have hlW : (Txt.join "" (cs.map fun c => (⟨#[c]⟩ : Str))).length = cs.length := by rw [len_tl, eW]
          refine ⟨"", D, cs.map (fun c => (⟨#[c]⟩ : Str)), rfl, rfl, .inl (SqL.of (by rw [List.map_map]; exact hD5)), ?_, ?_⟩
          · rw [ones_sum, List.length_map, show ("" : Str).length = 0 by decide +kernel]
            omega
          generalize Txt.join "" (cs.map fun c => (⟨#[c]⟩ : Str)) = W at eW hlW
          have hne : tl W ≠ [] := by
            rw [eW]
            intro q
            rw [q] at hcl
            have : (0 : Nat) = (1 + u).toNat := hcl
            omega
          have hall : (tl W).all isLet = true := by
            rw [eW, List.all_eq_true]
            exact hcs
          refine ⟨_, rfl, _, rfl, kk, _, rfl, .inl (SqL.of g5'.hk), rfl, flat_strs _, _, rfl, ?_⟩
          show if inV (.str W) (kws.map V.str) = true then _ else _
          rw [in_strs]
          refine ite2 (fun c2 => ?_) (fun c2 => ?_)
          · have hin := of_decide_eq_true c2
            exact ⟨"key", W, rfl, g5', by decide +kernel, .inr ⟨by decide +kernel, wd_key hin, by omega⟩⟩
          · have hin : W ∉ kws := of_decide_eq_false (Bool.eq_false_iff.mpr c2)
            exact ⟨"name", W, rfl, g5', by decide +kernel, .inr ⟨by decide +kernel, wd_name hne hall (by rw [← len_tl]; omega) hin, by omega⟩⟩
      · have cn : kd ≠ "name" := fun q => c (decide_eq_true (by rw [q]))
        refine ⟨kd, wd0, rfl, g9, (by decide +kernel : ∀ k ∈ kinds, k ≠ "") kd hkd, ?_⟩
        simp only [kinds, List.mem_cons, List.not_mem_nil, or_false] at hkd
        rcases hkd with q | q | q | q
        · have h := hkey q
          subst q
          exact .inr ⟨by decide +kernel, wd_key h, kws_len _ h⟩
        · have h := hmark q
          subst q
          exact .inr ⟨by decide +kernel, wd_mark h, mks_len _ h⟩
        · exact absurd q cn
        · exact .inl q
    rintro σ3 H10 ⟨k2, w2, rfl, g10, hk0, hW⟩
    -- if kind == 'number'
    refine ⟨fun σ2 H2 => ∃ w3 : Str, σ2 = sg a r kk mm ff T last (some (.int (0 + (i : Int)))) (some (.str k2)) (some (.str w3)) v10 ∧ Good H a r kk mm ff us ws H2 ∧ Wd k2 w3 ∧ w3.length ≤ 12, ?_, ?_⟩
    · refine ⟨_, rfl, rfl, _, rfl, ite2 (fun c => ?_) (fun c => ?_)⟩
      · have ck : k2 = "number" := V.str.inj (of_decide_eq_true c)
        refine ⟨_, rfl, _, rfl, _, _, rfl, rfl, ⟨by decide, by decide, by decide⟩, r, a, _, rfl, g10.row, g10.scr hS h63, by decide, by decide, fun H3 u kp3 hR3 h0 h1 => ?_⟩
        have g3 := g10.keep kp3 hR3
        refine ⟨(by show 5 ≤ sizeLine; decide), fun p2 np2 => ?_⟩
        have gb := g3.new np2 (.lst [.int 0, .int 7, .int 10, .int 999999, .int u])
        refine ⟨r, a, _, rfl, gb.row, gb.scr hS h63, .inl ⟨p2, _, rfl, g3.row.ne np2, upd_same, (by show 1 ≤ 5; decide), (by show 5 ≤ 1000; decide), fun H4 v kp4 hR4 hv4 => ?_⟩⟩
        have h1' : u < 1000000 := h1
        obtain ⟨m, rfl, hm⟩ := int_mem h0 h1' hv4
        refine ⟨_, rfl, log_small hm, ?_⟩
        exact ⟨num m, rfl, gb.keep kp4 hR4, by rw [ck]; exact wd_num hm, Nat.le_trans (num_len hm) (by decide)⟩
      · have cn : k2 ≠ "number" := fun q => c (decide_eq_true (by rw [q]))
        rcases hW with q | ⟨_, h1, h2⟩
        · exact absurd q cn
        · exact ⟨w2, rfl, g10, h1, h2⟩
    rintro σ4 H11 ⟨w3, rfl, g11, hWd, hw12⟩
    -- close = ..
    refine ⟨fun σ2 H2 => ∃ b : Bool, σ2 = sg a r kk mm ff T last (some (.int (0 + (i : Int)))) (some (.str k2)) (some (.str w3)) (some (.bl b)) ∧ H2 = H11 ∧ (b = false → ¬ ((last = "mark" ∧ k2 = "mark") ∨ (last ≠ "mark" ∧ k2 ≠ "mark"))), ?_, ?_⟩
    · refine ⟨_, rfl, rfl, _, rfl, ite2 (fun c1 => ?_) (fun c1 => ?_)⟩
      · have l1 : last = "mark" := V.str.inj (of_decide_eq_true c1)
        refine ⟨_, rfl, rfl, _, rfl, ite2 (fun c2 => ?_) (fun c2 => ?_)⟩
        · exact ⟨true, rfl, rfl, fun q => by cases q⟩
        · have l2 : k2 ≠ "mark" := fun q => c2 (decide_eq_true (by rw [q]))
          refine ⟨_, rfl, rfl, _, rfl, iteNS (of_decide_eq_true c1) ?_⟩
          exact ⟨false, rfl, rfl, fun _ q => q.elim (fun z => l2 z.2) (fun z => z.1 l1)⟩
      · have l1 : last ≠ "mark" := fun q => c1 (decide_eq_true (by rw [q]))
        refine ⟨false, rfl, iteF ?_⟩
        refine ⟨_, rfl, rfl, _, rfl, ite2 (fun _ => ?_) (fun q => ?_)⟩
        · refine ⟨_, rfl, rfl, ?_⟩
          refine ⟨!decide (V.str k2 = V.str "mark"), rfl, rfl, fun e q => ?_⟩
          have l2 : k2 = "mark" := by
            have e2 : decide (V.str k2 = V.str "mark") = true := by
              cases h : decide (V.str k2 = V.str "mark") with
              | true => rfl
              | false => rw [h] at e; cases e
            exact V.str.inj (of_decide_eq_true e2)
          exact q.elim (fun z => l1 z.1) (fun z => z.2 l2)
        · exact absurd (by rw [Bool.eq_false_iff.mpr c1]; rfl) q
    rintro σ5 H12 ⟨b, rfl, rfl, hb⟩
    -- text = ..
    refine ⟨fun σ2 H2 => ∃ T2 : Str, σ2 = sg a r kk mm ff T2 last (some (.int (0 + (i : Int)))) (some (.str k2)) (some (.str w3)) (some (.bl b)) ∧ Good H a r kk mm ff us ws H2 ∧ J (tl T2) (ws ++ [(k2, w3)]) k2 ∧ T2.length ≤ 1 + 14 * (i + 1), ?_, ?_⟩
    · have big : ∀ m : Nat, m ≤ 1000 → m ≤ sizeLine := fun m h => Nat.le_trans h (by decide)
      refine ⟨_, rfl, _, rfl, _, rfl, ite2 (fun c => ?_) (fun c => ?_)⟩
      · refine ⟨_, rfl, (by show 3 ≤ sizeLine; decide), fun p3 np3 => ?_⟩
        have gb := g11.new np3 (.lst [.str " ", .str "\n", .str "  "])
        refine ⟨r, a, _, rfl, gb.row, gb.scr hS h63, .inl ⟨p3, _, rfl, g11.row.ne np3, upd_same, (by show 1 ≤ 3; decide), (by show 3 ≤ 1000; decide), fun H4 v kp4 hR4 hv4 => ?_⟩⟩
        obtain ⟨sp, rfl, hsp⟩ := strs_mem (l := [" ", "\n", "  "]) hv4
        have hs := (by decide +kernel : ∀ k ∈ ([" ", "\n", "  "] : List Str), (tl k).all isBl = true ∧ tl k ≠ [] ∧ k.length ≤ 2) sp hsp
        refine ⟨T, sp, rfl, rfl, big _ (by omega), _, rfl, T ++ sp, w3, rfl, rfl, big _ (by rw [sums]; omega), ?_⟩
        refine ⟨T ++ sp ++ w3, rfl, gb.keep kp4 hR4, ?_, by rw [sums, sums]; omega⟩
        rw [tl_append, tl_append]
        exact J_step j hWd hs.1 (.inl hs.2.1) hk0
      · refine ⟨_, rfl, (by show 4 ≤ sizeLine; decide), fun p3 np3 => ?_⟩
        have gb := g11.new np3 (.lst [.str "", .str "", .str " ", .str "\n"])
        refine ⟨r, a, _, rfl, gb.row, gb.scr hS h63, .inl ⟨p3, _, rfl, g11.row.ne np3, upd_same, (by show 1 ≤ 4; decide), (by show 4 ≤ 1000; decide), fun H4 v kp4 hR4 hv4 => ?_⟩⟩
        obtain ⟨sp, rfl, hsp⟩ := strs_mem (l := ["", "", " ", "\n"]) hv4
        have hs := (by decide +kernel : ∀ k ∈ (["", "", " ", "\n"] : List Str), (tl k).all isBl = true ∧ k.length ≤ 2) sp hsp
        refine ⟨T, sp, rfl, rfl, big _ (by omega), _, rfl, T ++ sp, w3, rfl, rfl, big _ (by rw [sums]; omega), ?_⟩
        refine ⟨T ++ sp ++ w3, rfl, gb.keep kp4 hR4, ?_, by rw [sums, sums]; omega⟩
        rw [tl_append, tl_append]
        exact J_step j hWd hs.1 (.inr (hb (Bool.eq_false_iff.mpr c))) hk0
    rintro σ6 H13 ⟨T2, rfl, g13, j2, hl2⟩
    -- found.append((kind, word)); last = kind
    refine ⟨_, rfl, .inl ⟨rfl, _, SqL.of g13.hf⟩, _, rfl, _, rfl, (by show 2 ≤ sizeLine; decide), fun t nt => ?_⟩
    refine ⟨ff, us, _, rfl, rfl, (g13.new nt _).hf, Nat.lt_of_le_of_lt (by omega : us.length ≤ 1000) (by decide), ?_⟩
    refine ⟨_, rfl, ?_⟩
    exact ⟨T2, k2, us ++ [.ref t], ws ++ [(k2, w3)], _, _, _, _, rfl, g13.push nt k2 w3, j2, hl2, by rw [List.length_append, List.length_singleton]; omega⟩
  · rintro σ H' ⟨T, last, us, ws, v7, v8, v9, v10, rfl, g, j, hl, hu⟩
    have hT := J_end j
    have al : ∀ {H2 : Hp} {p : Addr} {vs : List V}, Same H' H2 → H2 p = some (.lst vs) → Tups H2 vs ws → ∀ Q2 : VK, (∀ H3, Same H2 H3 → Q2 (.bl true) H3) → spAl false el2 [.ref p, .ref ff] H2 Q2 E0 := fun {H2 p vs} s2 h1 h2 Q2 h3 => by
      have h4 := g.tu.mono fun t k w q => s2 _ _ q
      refine ⟨p, ff, vs, us, rfl, h1, s2 _ _ g.hf, by rw [h2.length, g.tu.length], by omega, ?_, h3⟩
      exact tups_el h2 h4
    refine ⟨_, rfl, T, ws, rfl, by omega, hT.1, g.same _ _ tab0, fun H2 p vs s2 hp tp => ⟨_, rfl, ?_⟩⟩
    dsimp only [tNil]
    refine al s2 hp tp _ fun H3 s3 => ⟨true, rfl, iteT ?_⟩
    refine ⟨_, rfl, _, _, rfl, rfl, Nat.le_trans (show T.length + (" \n" : Str).length ≤ 1000 by rw [show (" \n" : Str).length = 2 by decide +kernel]; omega) (by decide), ?_⟩
    refine ⟨T ++ (" \n" : Str), ws, rfl, by rw [sums, show (" \n" : Str).length = 2 by decide +kernel]; omega, ?_, ?_, fun H4 p2 vs2 s4 hp2 tp2 => ⟨_, rfl, ?_⟩⟩
    · rw [tl_append, show tl (" \n" : Str) = [32, 10] by decide +kernel]
      exact hT.2
    · exact s3 _ _ (s2 _ _ (g.same _ _ tab0))
    · dsimp only [tNil]
      exact al (s2.trans (s3.trans s4)) hp2 tp2 _ fun H5 s5 => k _ (s5 _ _ (s4 _ _ (s3 _ _ (s2 _ _ (g.same _ _ tab0)))))
end
end KZ

namespace KD
open PySem L2 TL
open K0 (num Toks)
open KZ
set_option maxHeartbeats 8000000 in
theorem all_mk {l : PySem.W.OpenLaw} {w : World} {K : PySem.W.Frag} {h : Heap} {mg : Str → Option Value} {fa fW1 fW2 fW3 fW4 fW5 fW6 fN f1 f2 f3 f4 f7 qN PT tK tM : Addr} (X : K.In h) (G : h.Ns mainGlobals mg) (hfa : mg "law" = some (.ref fa)) (TO : ∃ c P, GN.TabOf mg "is_number" h c P)
    {odW1 anW1 odW2 anW2 odW3 anW3 odW4 anW4 odW5 anW5 odW6 anW6 odN anN od1 an1 od2 an2 od3 an3 od4 an4 od7 an7 odN2 otK otM : Option Addr} {slW1 slW2 slW3 slW4 slW5 slW6 slN sl1 sl2 sl3 sl4 sl7 slN2 stK stM : Array (Option Value)} {ocW1 kVW1 dcW1 pmW1 cdW1 ctW1 ocW2 kVW2 dcW2 pmW2 cdW2 ctW2 ocW3 kVW3 dcW3 pmW3 cdW3 ctW3 ocW4 kVW4 dcW4 pmW4 cdW4 ctW4 ocW5 kVW5 dcW5 pmW5 cdW5 ctW5 ocW6 kVW6 dcW6 pmW6 cdW6 ctW6 ocN kVN dcN pmN ctN oc1 kV1 dc1 pm1 cd1 ct1 oc2 kV2 dc2 pm2 cd2 ct2 oc3 kV3 dc3 pm3 cd3 ct3 oc4 kV4 dc4 pm4 cd4 ct4 oc7 kV7 dc7 pm7 cd7 ct7 ocN2 : Value} {vsN2 itK itM : Array Value} {ntK ntM : Nat} {tk1 tk2 tk3 tk7 tk8 tk9 : Tok}
    (aW1 : PySem.W.nsIn K mainGlobals "placed_words" = some (some (.ref fW1)))
    (lW1 : K.lookup fW1 = some ⟨ocW1, odW1, .func (PySem.W.fnOf "placed_words" "placed_words" (defArgs S_placed_words) (defBody S_placed_words) (defScope S_placed_words) .none kVW1 dcW1 pmW1 anW1 cdW1 ctW1), slW1⟩)
    (cW1 : PySem.W.codeIn K cdW1 "placed_words" = true)
    (kW1 : PySem.W.keepIn K (.ref fW1) = true)
    (aW2 : PySem.W.nsIn K mainGlobals "check_text" = some (some (.ref fW2)))
    (lW2 : K.lookup fW2 = some ⟨ocW2, odW2, .func (PySem.W.fnOf "check_text" "check_text" (defArgs S_check_text) (defBody S_check_text) (defScope S_check_text) .none kVW2 dcW2 pmW2 anW2 cdW2 ctW2), slW2⟩)
    (cW2 : PySem.W.codeIn K cdW2 "check_text" = true)
    (kW2 : PySem.W.keepIn K (.ref fW2) = true)
    (aW3 : PySem.W.nsIn K mainGlobals "word_at" = some (some (.ref fW3)))
    (lW3 : K.lookup fW3 = some ⟨ocW3, odW3, .func (PySem.W.fnOf "word_at" "word_at" (defArgs S_word_at) (defBody S_word_at) (defScope S_word_at) .none kVW3 dcW3 pmW3 anW3 cdW3 ctW3), slW3⟩)
    (cW3 : PySem.W.codeIn K cdW3 "word_at" = true)
    (kW3 : PySem.W.keepIn K (.ref fW3) = true)
    (aW4 : PySem.W.nsIn K mainGlobals "signs_at" = some (some (.ref fW4)))
    (lW4 : K.lookup fW4 = some ⟨ocW4, odW4, .func (PySem.W.fnOf "signs_at" "signs_at" (defArgs S_signs_at) (defBody S_signs_at) (defScope S_signs_at) .none kVW4 dcW4 pmW4 anW4 cdW4 ctW4), slW4⟩)
    (cW4 : PySem.W.codeIn K cdW4 "signs_at" = true)
    (kW4 : PySem.W.keepIn K (.ref fW4) = true)
    (aW5 : PySem.W.nsIn K mainGlobals "run_end" = some (some (.ref fW5)))
    (lW5 : K.lookup fW5 = some ⟨ocW5, odW5, .func (PySem.W.fnOf "run_end" "run_end" (defArgs S_run_end) (defBody S_run_end) (defScope S_run_end) .none kVW5 dcW5 pmW5 anW5 cdW5 ctW5), slW5⟩)
    (cW5 : PySem.W.codeIn K cdW5 "run_end" = true)
    (kW5 : PySem.W.keepIn K (.ref fW5) = true)
    (aW6 : PySem.W.nsIn K mainGlobals "kind_of" = some (some (.ref fW6)))
    (lW6 : K.lookup fW6 = some ⟨ocW6, odW6, .func (PySem.W.fnOf "kind_of" "kind_of" (defArgs S_kind_of) (defBody S_kind_of) (defScope S_kind_of) .none kVW6 dcW6 pmW6 anW6 cdW6 ctW6), slW6⟩)
    (cW6 : PySem.W.codeIn K cdW6 "kind_of" = true)
    (kW6 : PySem.W.keepIn K (.ref fW6) = true)
    (aN : PySem.W.nsIn K mainGlobals "is_number" = some (some (.ref fN)))
    (lN : K.lookup fN = some ⟨ocN, odN, .func (PySem.W.fnOf "is_number" "is_number" (defArgs S_is_number) (defBody S_is_number) (defScope S_is_number) .none kVN dcN pmN anN (.ref qN) ctN), slN⟩)
    (cN : PySem.W.codeIn K (.ref qN) "is_number" = true)
    (kN : PySem.W.keepIn K (.ref fN) = true)
    (a1 : PySem.W.nsIn K mainGlobals "words" = some (some (.ref f1)))
    (l1 : K.lookup f1 = some ⟨oc1, od1, .func (PySem.W.fnOf "words" "words" (defArgs S_words) (defBody S_words) (defScope S_words) .none kV1 dc1 pm1 an1 cd1 ct1), sl1⟩)
    (c1 : PySem.W.codeIn K cd1 "words" = true)
    (k1 : PySem.W.keepIn K (.ref f1) = true)
    (a2 : PySem.W.nsIn K mainGlobals "_law_taken" = some (some (.ref f2)))
    (l2 : K.lookup f2 = some ⟨oc2, od2, .func (PySem.W.fnOf "_law_taken" "_law_taken" (defArgs S__law_taken) (defBody S__law_taken) (defScope S__law_taken) .none kV2 dc2 pm2 an2 cd2 ct2), sl2⟩)
    (c2 : PySem.W.codeIn K cd2 "_law_taken" = true)
    (k2 : PySem.W.keepIn K (.ref f2) = true)
    (a3 : PySem.W.nsIn K mainGlobals "_law_pick" = some (some (.ref f3)))
    (l3 : K.lookup f3 = some ⟨oc3, od3, .func (PySem.W.fnOf "_law_pick" "_law_pick" (defArgs S__law_pick) (defBody S__law_pick) (defScope S__law_pick) .none kV3 dc3 pm3 an3 cd3 ct3), sl3⟩)
    (c3 : PySem.W.codeIn K cd3 "_law_pick" = true)
    (k3 : PySem.W.keepIn K (.ref f3) = true)
    (a4 : PySem.W.nsIn K mainGlobals "_law_alike" = some (some (.ref f4)))
    (l4 : K.lookup f4 = some ⟨oc4, od4, .func (PySem.W.fnOf "_law_alike" "_law_alike" (defArgs S__law_alike) (defBody S__law_alike) (defScope S__law_alike) .none kV4 dc4 pm4 an4 cd4 ct4), sl4⟩)
    (c4 : PySem.W.codeIn K cd4 "_law_alike" = true)
    (k4 : PySem.W.keepIn K (.ref f4) = true)
    (a7 : PySem.W.nsIn K mainGlobals "law" = some (some (.ref f7)))
    (l7 : K.lookup f7 = some ⟨oc7, od7, .func (PySem.W.fnOf "law" "law" (defArgs S_law) (defBody S_law) (defScope S_law) .none kV7 dc7 pm7 an7 cd7 ct7), sl7⟩)
    (c7 : PySem.W.codeIn K cd7 "law" = true)
    (k7 : PySem.W.keepIn K (.ref f7) = true)
    (lcN : K.lookup qN = some ⟨ocN2, odN2, .fields vsN2, slN2⟩)
    (vcN : vsN2[11]? = some (.ref PT))
    (npT : K.lookup PT = none)
    (atK : PySem.W.nsIn K mainGlobals "KEYS" = some (some (.ref tK)))
    (ltK : K.lookup tK = some ⟨.type "tuple", otK, .seq itK ntK, stK⟩)
    (vtK : Vals (K0.kws.map V.str) itK.toList)
    (ztK : itK.size ≤ sizeLine)
    (atM : PySem.W.nsIn K mainGlobals "MARKS" = some (some (.ref tM)))
    (ltM : K.lookup tM = some ⟨.type "tuple", otM, .seq itM ntM, stM⟩)
    (vtM : Vals (K0.mks.map V.str) itM.toList)
    (ztM : itM.size ≤ sizeLine)
    (s1 : PySem.W.nsIn K mainGlobals "MOST_SIGNS" = some (some (.int 100000 tk1)))
    (s2 : PySem.W.nsIn K mainGlobals "MOST_FIGURES" = some (some (.int 6 tk2)))
    (s3 : PySem.W.nsIn K mainGlobals "MOST_LETTERS" = some (some (.int 12 tk3)))
    (s7 : PySem.W.nsIn K mainGlobals "FIGURES" = some (some (.str "0123456789" tk7)))
    (s8 : PySem.W.nsIn K mainGlobals "LETTERS" = some (some (.str "abcdefghijklmnopqrstuvwxyz" tk8)))
    (s9 : PySem.W.nsIn K mainGlobals "BLANKS" = some (some (.str " \n" tk9)))
    (z0 : PySem.W.nsIn K mainGlobals "len" = some none)
    (z1 : PySem.W.nsIn K mainGlobals "int" = some none)
    (z2 : PySem.W.nsIn K mainGlobals "isinstance" = some none)
    (z3 : PySem.W.nsIn K mainGlobals "str" = some none)
    (z4 : PySem.W.nsIn K mainGlobals "tuple" = some none)
    (z5 : PySem.W.nsIn K mainGlobals "list" = some none)
    (z6 : PySem.W.nsIn K mainGlobals "range" = some none)
    (z7 : PySem.W.nsIn K mainGlobals "bool" = some none)
    (z8 : PySem.W.nsIn K mainGlobals "all" = some none)
    : LamX.LawAtS l w K CX0 7 63 "script" mg fa h := by
  have e := hfa.symm.trans (PySem.W.mg_of X G a7)
  cases e
  have FW1 := fun_mk (st := S_placed_words) lW1 cW1 kW1
  have bW1 := FW1.binds (ps := ["text"]) fun _ _ _ _ _ _ us hl => match us, hl with | [_], _ => rfl
  have mW1 := PySem.W.mg_of X G aW1
  have FW2 := fun_mk (st := S_check_text) lW2 cW2 kW2
  have bW2 := FW2.binds (ps := ["value"]) fun _ _ _ _ _ _ us hl => match us, hl with | [_], _ => rfl
  have mW2 := PySem.W.mg_of X G aW2
  have FW3 := fun_mk (st := S_word_at) lW3 cW3 kW3
  have bW3 := FW3.binds (ps := ["text", "at"]) fun _ _ _ _ _ _ us hl => match us, hl with | [_, _], _ => rfl
  have mW3 := PySem.W.mg_of X G aW3
  have FW4 := fun_mk (st := S_signs_at) lW4 cW4 kW4
  have bW4 := FW4.binds (ps := ["text", "at"]) fun _ _ _ _ _ _ us hl => match us, hl with | [_, _], _ => rfl
  have mW4 := PySem.W.mg_of X G aW4
  have FW5 := fun_mk (st := S_run_end) lW5 cW5 kW5
  have bW5 := FW5.binds (ps := ["text", "at", "signs"]) fun _ _ _ _ _ _ us hl => match us, hl with | [_, _, _], _ => rfl
  have mW5 := PySem.W.mg_of X G aW5
  have FW6 := fun_mk (st := S_kind_of) lW6 cW6 kW6
  have bW6 := FW6.binds (ps := ["word"]) fun _ _ _ _ _ _ us hl => match us, hl with | [_], _ => rfl
  have mW6 := PySem.W.mg_of X G aW6
  have FN : K8.FunT K "is_number" "is_number" S_is_number fN _ qN := ⟨_, _, _, _, _, _, _, _, rfl, lN, cN⟩
  have bN := (fun_mk (st := S_is_number) lN cN kN).binds (ps := ["signs", "most"]) fun _ _ _ _ _ _ us hl => match us, hl with | [_, _], _ => rfl
  have mN := PySem.W.mg_of X G aN
  have F1 := fun_mk (st := S_words) l1 c1 k1
  have b1 := F1.binds (ps := ["text"]) fun _ _ _ _ _ _ us hl => match us, hl with | [_], _ => rfl
  have m1 := PySem.W.mg_of X G a1
  have F2 := fun_mk (st := S__law_taken) l2 c2 k2
  have b2 := F2.binds (ps := ["row", "many"]) fun _ _ _ _ _ _ us hl => match us, hl with | [_, _], _ => rfl
  have m2 := PySem.W.mg_of X G a2
  have F3 := fun_mk (st := S__law_pick) l3 c3 k3
  have b3 := F3.binds (ps := ["row", "things"]) fun _ _ _ _ _ _ us hl => match us, hl with | [_, _], _ => rfl
  have m3 := PySem.W.mg_of X G a3
  have F4 := fun_mk (st := S__law_alike) l4 c4 k4
  have b4 := F4.binds (ps := ["found", "due"]) fun _ _ _ _ _ _ us hl => match us, hl with | [_, _], _ => rfl
  have m4 := PySem.W.mg_of X G a4
  have F7 := fun_mk (st := S_law) l7 c7 k7
  have T : Blt mg := ⟨PySem.W.mg_none_of X G z0, PySem.W.mg_none_of X G z1, PySem.W.mg_none_of X G z2, PySem.W.mg_none_of X G z3, PySem.W.mg_none_of X G z4, PySem.W.mg_none_of X G z5, PySem.W.mg_none_of X G z6, PySem.W.mg_none_of X G z7⟩
  have tup : ∀ {a : Addr} {od : Option Addr} {its : Array Value} {n : Nat} {sl : Array (Option Value)} {xs : List V}, K.lookup a = some ⟨.type "tuple", od, .seq its n, sl⟩ → Vals xs its.toList → its.size ≤ sizeLine → ∀ H, SqT K H a xs := fun l v z _ => .inr ⟨_, _, _, l, rfl, rfl, z, v⟩
  have W8 : K8.Txt K mg := { all := PySem.W.mg_none_of X G z8, keys := ⟨tK, PySem.W.mg_of X G atK, tup ltK vtK ztK⟩, marks := ⟨tM, PySem.W.mg_of X G atM, tup ltM vtM ztM⟩, figs := ⟨_, PySem.W.mg_of X G s7⟩, lets := ⟨_, PySem.W.mg_of X G s8⟩, blanks := ⟨_, PySem.W.mg_of X G s9⟩, mSigns := ⟨_, PySem.W.mg_of X G s1⟩, mFigs := ⟨_, PySem.W.mg_of X G s2⟩, mLets := ⟨_, PySem.W.mg_of X G s3⟩ }
  obtain ⟨c0, P0, to⟩ := TO
  have tb := to.of X mN lN rfl lcN vcN
  refine ⟨PySem.W.fnOf "law" "law" (defArgs S_law) (defBody S_law) (defScope S_law) .none kV7 dc7 pm7 an7 cd7 ct7, [(qN, PT)], (fun vs H Q E => H PT = some (.tbl #[]) ∧ spLaw K PT vs (upd H PT (.ext (GN.TabI PT))) (fun v H' => GN.Tab PT H' ∧ ∀ H'', Q v H'') E), fun p hp => ?_, fun p hp => ?_, fun p hp => ?_, fun s v => .of_eq rfl, fun H a ns hlen _ hT hS => ?_, fun base KB GB hTB => ?_⟩
  · rw [List.mem_singleton.mp hp]
    exact tb.2
  · rw [List.mem_singleton.mp hp]
    exact npT
  · rw [List.mem_singleton.mp hp]
    exact tb.1
  · have hP := hT _ List.mem_cons_self
    have far : ∀ {b : Addr} {u : HO}, (∀ ps, u ≠ .tbl ps) → H b = some u → b ≠ PT := fun n q z => by
      rw [z, hP] at q
      exact n _ (Option.some.inj q).symm
    refine ⟨hP, a, ns, rfl, ?_, hlen, upd_same, fun H' hT' => ⟨hT', fun _ => rfl⟩⟩
    rcases hS with (q | ⟨o, q⟩) | q
    · exact .inl (.inl (by rw [upd_ne (far (fun ps z => by cases z) q)]; exact q))
    · exact .inl (.inr ⟨o, by rw [upd_ne (far (fun ps z => by cases z) q)]; exact q⟩)
    · exact .inr q
  · have TB0 := hTB _ List.mem_cons_self
    have TB : GxR.TabB base mg qN PT := ⟨TB0.code, TB0.bm, TB0.gP⟩
    refine GN.untab ?_
    have G2 := K8.ok_check (P := l.prog) (w := w) (base := base) FW2 W8 T
    have G5 := K8.ok_runEnd (P := l.prog) (w := w) (base := base) FW5 W8 T
    have GN1 := K8.ok_isNum (P := l.prog) (w := w) (base := base) FN W8 T TB
    have G6 := K8.ok_kind FW6 W8 T GN1 mN kN bN
    have G4 := K8.ok_signs FW4 W8 G5 mW5 kW5 bW5
    have G3 := K8.ok_wordAt FW3 W8 G4 mW4 kW4 bW4 G6 mW6 kW6 bW6
    have G1 := ok_placed FW1 W8 T G2 mW2 kW2 bW2 G3 mW3 kW3 bW3
    have GW := ok_words F1 G1 mW1 kW1 bW1
    have GT := ok_taken (P := l.prog) (w := w) (base := base) F2 T
    have GK := ok_pick F3 T GT m2 k2 b2
    have A1 := ok_alS (P := l.prog) (w := w) (base := base) F4 T
    have A2 := ok_al (C := true) (el := el1) (fun _ _ _ _ _ h => h) (fun H x y Q h hq => by obtain ⟨z, rfl, rfl⟩ := h; exact ⟨z, rfl, hq⟩) F4 T A1 m4 b4
    have A3 := ok_al (C := false) (el := el2) (fun H H' x y s h => by obtain ⟨k, w, ⟨t, e1, e2⟩, ⟨u, e3, e4⟩⟩ := h; exact ⟨k, w, ⟨t, e1, s _ _ e2⟩, ⟨u, e3, s _ _ e4⟩⟩) (fun H x y Q h hq => by
      obtain ⟨k, w, ⟨t, rfl, e2⟩, ⟨u, rfl, e4⟩⟩ := h
      refine ⟨t, u, _, _, rfl, e2, e4, rfl, (by show 2 ≤ 1000; decide), fun i x y h1 h2 => ?_, hq⟩
      match i, h1, h2 with
      | 0, h1, h2 => exact ⟨k, (Option.some.inj h1).symm, (Option.some.inj h2).symm⟩
      | 1, h1, h2 => exact ⟨w, (Option.some.inj h1).symm, (Option.some.inj h2).symm⟩
      | j + 2, h1, _ => cases h1) F4 T A2 m4 b4
    exact ok_law F7 T GT m2 k2 b2 GK m3 k3 b3 A3 m4 k4 b4 GW m1 k1 b1
theorem walk {l : PySem.W.OpenLaw} {q : Program} {loose : List Str} {XP : (Str → Option Value) → Heap → Prop} {YP : World → Heap → Prop} {d : DefRec} {K : Params → PySem.W.Frag} (hn : l.most = some 63) (hdf : d.params.defaults = []) (named : ((PyProof.Rows.recsOf q).any fun e => e.name == "is_number") = true)
    (hY : ∀ (w : World) (h : Heap), YP w h → (K w.params).In h)
    (F : ∀ (w : World) (mg : Str → Option Value) (fa : Addr) (h : Heap), (K w.params).In h → h.Ns mainGlobals mg → mg d.name = some (.ref fa) → (∃ c P, GN.TabOf mg "is_number" h c P) → LamX.LawAtS l w (K w.params) CX0 7 63 "script" mg fa h) :
    PySem.W.WalkO q loose XP YP l.row.toRowW d [] (fun f vs => PySem.call f vs) :=
  GN.walk_tab (n := 63) (k := 7) (x := "script") (nm := "is_number") (CX := fun _ => CX0) hn (by decide) hdf ⟨rfl, by decide, by decide⟩ named hY F fun _ _ _ _ _ z => z
end KD
open PySem PySem.W PyProof.Rows
set_option maxRecDepth 100000 in
set_option maxHeartbeats 0 in
theorem PySem.Challenge.cw_strokes_k00_whole_words_holds : PySem.Challenge.rw_strokes_k00_whole_words.Holds := by
  w_on; o_law; k_head; (case hw => w_witness2)
  k_fill
  refine KD.walk (l := PySem.Challenge.rw_strokes_k00_whole_words) rfl rfl (by first | rfl | decide +kernel) (fun w h Y => PySem.W.kIn_of Y) ?F
  case F =>
    intro w mg fa h KX G hmg TO
    refine' KD.all_mk KX G hmg TO ?aW1 ?lW1 ?cW1 ?kW1 ?aW2 ?lW2 ?cW2 ?kW2 ?aW3 ?lW3 ?cW3 ?kW3 ?aW4 ?lW4 ?cW4 ?kW4 ?aW5 ?lW5 ?cW5 ?kW5 ?aW6 ?lW6 ?cW6 ?kW6 ?aN ?lN ?cN ?kN ?a1 ?l1 ?c1 ?k1 ?a2 ?l2 ?c2 ?k2 ?a3 ?l3 ?c3 ?k3 ?a4 ?l4 ?c4 ?k4 ?a7 ?l7 ?c7 ?k7 ?lcN ?vcN ?npT ?atK ?ltK ?vtK ?ztK ?atM ?ltM ?vtM ?ztM ?s1 ?s2 ?s3 ?s7 ?s8 ?s9 ?z0 ?z1 ?z2 ?z3 ?z4 ?z5 ?z6 ?z7 ?z8
    (case aW1 => k_is)
    (case lW1 => k_is)
    (case cW1 => k_is)
    (case kW1 => k_is)
    (case aW2 => k_is)
    (case lW2 => k_is)
    (case cW2 => k_is)
    (case kW2 => k_is)
    (case aW3 => k_is)
    (case lW3 => k_is)
    (case cW3 => k_is)
    (case kW3 => k_is)
    (case aW4 => k_is)
    (case lW4 => k_is)
    (case cW4 => k_is)
    (case kW4 => k_is)
    (case aW5 => k_is)
    (case lW5 => k_is)
    (case cW5 => k_is)
    (case kW5 => k_is)
    (case aW6 => k_is)
    (case lW6 => k_is)
    (case cW6 => k_is)
    (case kW6 => k_is)
    (case aN => k_is)
    (case lN => k_is)
    (case cN => k_is)
    (case kN => k_is)
    (case a1 => k_is)
    (case l1 => k_is)
    (case c1 => k_is)
    (case k1 => k_is)
    (case a2 => k_is)
    (case l2 => k_is)
    (case c2 => k_is)
    (case k2 => k_is)
    (case a3 => k_is)
    (case l3 => k_is)
    (case c3 => k_is)
    (case k3 => k_is)
    (case a4 => k_is)
    (case l4 => k_is)
    (case c4 => k_is)
    (case k4 => k_is)
    (case a7 => k_is)
    (case l7 => k_is)
    (case c7 => k_is)
    (case k7 => k_is)
    (case lcN => k_is)
    (case vcN => rfl)
    (case npT => first | k_is | rfl | decide +kernel)
    (case atK => k_is)
    (case ltK => k_is)
    (case vtK => (repeat (first | exact Paired.nil | refine Paired.cons ⟨_, rfl⟩ ?_)))
    (case ztK => first | decide | decide +kernel)
    (case atM => k_is)
    (case ltM => k_is)
    (case vtM => (repeat (first | exact Paired.nil | refine Paired.cons ⟨_, rfl⟩ ?_)))
    (case ztM => first | decide | decide +kernel)
    (case s1 => k_is)
    (case s2 => k_is)
    (case s3 => k_is)
    (case s7 => k_is)
    (case s8 => k_is)
    (case s9 => k_is)
    (case z0 => k_is)
    (case z1 => k_is)
    (case z2 => k_is)
    (case z3 => k_is)
    (case z4 => k_is)
    (case z5 => k_is)
    (case z6 => k_is)
    (case z7 => k_is)
    (case z8 => k_is)

