import PyProof.Rows.All
import Wide.All
import OpenK.AllK
import Wide.FinOn
import HandS.Text
import HandS.ForMost
import HandS.IsInst
import HandS.Style
import HandS.Codes
import HandS.RaiseMore
import HandS.Star
import HandS.AnyAll
import HandS.Zip
import HandS.EndOwn
import PySem.Challenge.RW_strokes_k02_whole_expressions
set_option Elab.async false
set_option linter.all false
set_option maxRecDepth 100000
/-! Words of a text: the mathematics. -/
namespace K0
open PySem L2 TL

def isFig (c : Nat) : Bool := decide (48 ≤ c) && decide (c ≤ 57)
def isLet (c : Nat) : Bool := decide (97 ≤ c) && decide (c ≤ 122)
def isAl (c : Nat) : Bool := isFig c || isLet c
def isBl (c : Nat) : Bool := (c == 32) || (c == 10)
def kws : List Str := ["row", "col", "let", "if", "else", "while", "for", "to", "do", "def", "say", "stop", "rows", "cols", "black", "mod", "and", "or", "not"]
def mks : List Str := ["<=", "!=", "{", "}", "(", ")", "+", "-", "*", "/", "<", "=", ","]
def inM (l : List Nat) : Bool := mks.any fun m => tl m == l

/-- what stands at the head of the rest -/
def sigs : List Nat → List Nat
  | [] => []
  | c :: r => if isFig c then (c :: r).takeWhile isFig else if isLet c then (c :: r).takeWhile isLet else if inM ((c :: r).take 2) then (c :: r).take 2 else [c]

def kind (w : Str) : Option Str :=
  if w ∈ kws then some ("key" : Str) else if w ∈ mks then some ("mark" : Str) else
  match tl w with
  | [] => none
  | c :: _ => if isLet c && decide ((tl w).length ≤ 12) then some ("name" : Str) else
    if isFig c && (if c == 48 then decide (w = "0") else decide ((tl w).length ≤ 6)) then some ("number" : Str) else none

inductive Toks : List Nat → List (Str × Str) → Prop
  | nil : Toks [] []
  | blank {c : Nat} {cs : List Nat} {ws : List (Str × Str)} : isBl c = true → Toks cs ws → Toks (c :: cs) ws
  | word {c : Nat} {r cs : List Nat} {w k : Str} {ws : List (Str × Str)} : isBl c = false → c :: r = tl w ++ cs → tl w ≠ [] → sigs (c :: r) = tl w → kind w = some k → Toks cs ws → Toks (c :: r) ((k, w) :: ws)

theorem toks_nil {ws : List (Str × Str)} (h : Toks [] ws) : ws = [] := by cases h; rfl
theorem toks_blank {c : Nat} {cs : List Nat} {ws : List (Str × Str)} (hc : isBl c = true) (h : Toks (c :: cs) ws) : Toks cs ws := by
  cases h with
  | blank _ h => exact h
  | word hb => rw [hc] at hb; cases hb
theorem toks_word {c : Nat} {r : List Nat} {ws : List (Str × Str)} (hc : isBl c = false) (h : Toks (c :: r) ws) :
    ∃ (w k : Str) (cs : List Nat) (us : List (Str × Str)), c :: r = tl w ++ cs ∧ tl w ≠ [] ∧ sigs (c :: r) = tl w ∧ kind w = some k ∧ ws = (k, w) :: us ∧ Toks cs us := by
  cases h with
  | blank hb => rw [hc] at hb; cases hb
  | word _ e n s kd t => exact ⟨_, _, _, _, e, n, s, kd, rfl, t⟩

/-- what may stand behind a word of kind k -/
def Ok (k : Str) (cs : List Nat) : Prop := match cs with
  | [] => True
  | c :: _ => isBl c = true ∨ (k = "mark" ∧ isAl c = true) ∨ (k ≠ "mark" ∧ isAl c = false)

structure Wd (k w : Str) : Prop where
  kd : kind w = some k
  hd : ∃ c r, tl w = c :: r ∧ isBl c = false ∧ (k = "mark" → isAl c = false) ∧ (k ≠ "mark" → isAl c = true)
  mm : ∀ cs, Ok k cs → sigs (tl w ++ cs) = tl w

/-- the text T, cut so far into ws, the last word of kind last -/
def J (T : List Nat) (ws : List (Str × Str)) (last : Str) : Prop := ∀ cs us, Toks cs us → (last = "" ∨ Ok last cs) → Toks (T ++ cs) (ws ++ us)

theorem toks_blanks : ∀ {s cs : List Nat} {ws : List (Str × Str)}, s.all isBl = true → Toks cs ws → Toks (s ++ cs) ws
  | [], _, _, _, t => t
  | c :: s, cs, ws, h, t => by
    rw [List.all_cons, Bool.and_eq_true] at h
    exact .blank h.1 (toks_blanks h.2 t)
theorem J_start {T : List Nat} (h : T.all isBl = true) : J T [] "" := fun cs us t _ => toks_blanks h t
theorem J_step {T s : List Nat} {ws : List (Str × Str)} {last k w : Str} (j : J T ws last) (wd : Wd k w) (hs : s.all isBl = true) (hk : s ≠ [] ∨ ¬ ((last = "mark" ∧ k = "mark") ∨ (last ≠ "mark" ∧ k ≠ "mark"))) (k0 : k ≠ "") :
    J (T ++ s ++ tl w) (ws ++ [(k, w)]) k := by
  intro cs us t o
  have o' : Ok k cs := by
    rcases o with o | o
    · exact absurd o k0
    · exact o
  obtain ⟨c, r, e, hb, hm, hn⟩ := wd.hd
  have t1 : Toks (tl w ++ cs) ((k, w) :: us) := by
    have ss := wd.mm cs o'
    have e2 : tl w ++ cs = c :: (r ++ cs) := by rw [e]; rfl
    have e3 := ss
    rw [e2] at e3
    rw [e2]
    exact .word hb e2.symm (by rw [e]; exact List.cons_ne_nil _ _) e3 wd.kd t
  have t2 := toks_blanks hs t1
  have t3 := j (s ++ (tl w ++ cs)) ((k, w) :: us) t2 (by
    cases s with
    | cons b s' =>
      right
      rw [List.all_cons, Bool.and_eq_true] at hs
      exact Or.inl hs.1
    | nil =>
      right
      rw [List.nil_append, e]
      show Ok last (c :: (r ++ cs))
      rcases hk with hk | hk
      · exact absurd rfl hk
      · by_cases hl : last = "mark"
        · have k1 : k ≠ "mark" := fun q => hk (Or.inl ⟨hl, q⟩)
          exact Or.inr (Or.inl ⟨hl, hn k1⟩)
        · have k1 : k = "mark" := by
            apply Classical.byContradiction
            intro q
            exact hk (Or.inr ⟨hl, q⟩)
          exact Or.inr (Or.inr ⟨hl, hm k1⟩))
  rw [List.append_assoc, List.append_assoc, List.append_assoc]
  exact t3
theorem J_end {T : List Nat} {ws : List (Str × Str)} {last : Str} (j : J T ws last) : Toks T ws ∧ Toks (T ++ [32, 10]) ws := by
  have a := j [] [] .nil (Or.inr trivial)
  have b := j [32, 10] [] (.blank rfl (.blank rfl .nil)) (Or.inr (Or.inl rfl))
  rw [List.append_nil, List.append_nil] at a
  rw [List.append_nil] at b
  exact ⟨a, b⟩

/-! ### words of each kind -/
theorem takeWhile_all {p : Nat → Bool} : ∀ {l cs : List Nat}, l.all p = true → (∀ c r, cs = c :: r → p c = false) → (l ++ cs).takeWhile p = l
  | [], [], _, _ => rfl
  | [], c :: r, _, h => by
    have e := h c r rfl
    show (c :: r).takeWhile p = []
    rw [List.takeWhile_cons]
    simp only [e]
    rfl
  | a :: l, cs, hl, h => by
    rw [List.all_cons, Bool.and_eq_true] at hl
    show (a :: (l ++ cs)).takeWhile p = a :: l
    rw [List.takeWhile_cons, if_pos hl.1, takeWhile_all hl.2 h]
theorem ok_let {k : Str} {cs : List Nat} (hk : k ≠ "mark") (o : Ok k cs) : ∀ c r, cs = c :: r → isLet c = false ∧ isFig c = false := by
  intro c r e
  subst e
  rcases o with o | o | o
  · unfold isBl at o
    simp only [Bool.or_eq_true, beq_iff_eq] at o
    rcases o with o | o <;> subst o <;> decide
  · exact absurd o.1 hk
  · have q := o.2
    unfold isAl at q
    rw [Bool.or_eq_false_iff] at q
    exact ⟨q.2, q.1⟩
theorem let_fig {c : Nat} (h : isLet c = true) : isFig c = false ∧ isBl c = false := by
  unfold isLet at h
  unfold isFig isBl
  simp only [Bool.and_eq_true, decide_eq_true_eq] at h
  simp only [Bool.and_eq_false_iff, decide_eq_false_iff_not, Bool.or_eq_false_iff, beq_eq_false_iff_ne]
  omega
theorem fig_let {c : Nat} (h : isFig c = true) : isLet c = false ∧ isBl c = false := by
  unfold isFig at h
  unfold isLet isBl
  simp only [Bool.and_eq_true, decide_eq_true_eq] at h
  simp only [Bool.and_eq_false_iff, decide_eq_false_iff_not, Bool.or_eq_false_iff, beq_eq_false_iff_ne]
  omega
theorem wd_lets {k w : Str} (hk : k ≠ "mark") (kd : kind w = some k) (hn : tl w ≠ []) (ha : (tl w).all isLet = true) : Wd k w := by
  cases e : tl w with
  | nil => exact absurd e hn
  | cons c r =>
    rw [e] at ha
    have hc : isLet c = true := by
      rw [List.all_cons, Bool.and_eq_true] at ha
      exact ha.1
    have ff := let_fig hc
    refine ⟨kd, ⟨c, r, e, ff.2, fun q => absurd q hk, fun _ => by unfold isAl; rw [hc, Bool.or_true]⟩, fun cs o => ?_⟩
    rw [e]
    show (if isFig c then (c :: (r ++ cs)).takeWhile isFig else if isLet c then (c :: (r ++ cs)).takeWhile isLet else _) = c :: r
    rw [if_neg (by rw [ff.1]; exact Bool.false_ne_true), if_pos hc]
    exact takeWhile_all (l := c :: r) ha fun c' r' q => (ok_let hk o c' r' q).1
theorem wd_figs {k w : Str} (hk : k ≠ "mark") (kd : kind w = some k) (hn : tl w ≠ []) (ha : (tl w).all isFig = true) : Wd k w := by
  cases e : tl w with
  | nil => exact absurd e hn
  | cons c r =>
    rw [e] at ha
    have hc : isFig c = true := by
      rw [List.all_cons, Bool.and_eq_true] at ha
      exact ha.1
    have ff := fig_let hc
    refine ⟨kd, ⟨c, r, e, ff.2, fun q => absurd q hk, fun _ => by unfold isAl; rw [hc, Bool.true_or]⟩, fun cs o => ?_⟩
    rw [e]
    show (if isFig c then (c :: (r ++ cs)).takeWhile isFig else _) = c :: r
    rw [if_pos hc]
    exact takeWhile_all (l := c :: r) ha fun c' r' q => (ok_let hk o c' r' q).2

theorem kws_all : ∀ w ∈ kws, (tl w).all isLet = true ∧ tl w ≠ [] := by decide +kernel
def firstOk : List Nat → Bool
  | [] => false
  | c :: r => !isAl c && !isBl c && (decide (r = []) || decide (r = [61]))
theorem mks_first : ∀ w ∈ mks, ∃ c r, tl w = c :: r ∧ isAl c = false ∧ isBl c = false ∧ (r = [] ∨ r = [61]) := by
  intro w hw
  have h : ∀ w ∈ mks, firstOk (tl w) = true := by decide +kernel
  have q := h w hw
  cases e : tl w with
  | nil => rw [e] at q; cases q
  | cons c r =>
    rw [e] at q
    have q' : (!isAl c && !isBl c && (decide (r = []) || decide (r = [61]))) = true := q
    simp only [Bool.and_eq_true, Bool.not_eq_true', Bool.or_eq_true, decide_eq_true_eq] at q'
    exact ⟨c, r, rfl, q'.1.1, q'.1.2, q'.2⟩
theorem mks_kind : ∀ w ∈ mks, w ∉ kws := by decide +kernel
theorem kind_key {w : Str} (h : w ∈ kws) : kind w = some ("key" : Str) := by unfold kind; rw [if_pos h]
theorem kind_mark {w : Str} (h : w ∈ mks) : kind w = some ("mark" : Str) := by unfold kind; rw [if_neg (mks_kind w h), if_pos h]
theorem wd_key {w : Str} (h : w ∈ kws) : Wd "key" w := wd_lets (by decide +kernel) (kind_key h) (kws_all w h).2 (kws_all w h).1
theorem inM_iff {l : List Nat} : inM l = true ↔ ∃ m ∈ mks, tl m = l := by
  unfold inM
  rw [List.any_eq_true]
  constructor
  · rintro ⟨m, hm, e⟩; exact ⟨m, hm, by simpa using e⟩
  · rintro ⟨m, hm, e⟩; exact ⟨m, hm, by simpa using e⟩
/-- no mark of two signs ends in a blank, a letter or a figure -/
theorem no_two {c d : Nat} (h : inM [c, d] = true) : d = 61 := by
  obtain ⟨m, hm, e⟩ := inM_iff.mp h
  obtain ⟨c', r, e1, _, _, hr⟩ := mks_first m hm
  rw [e] at e1
  injection e1 with _ e2
  rcases hr with hr | hr
  · rw [hr] at e2; cases e2
  · rw [hr] at e2; injection e2
theorem wd_mark {w : Str} (h : w ∈ mks) : Wd "mark" w := by
  obtain ⟨c, r, e, ha, hb, hr⟩ := mks_first w h
  have h2 : isFig c = false ∧ isLet c = false := by
    unfold isAl at ha
    rwa [Bool.or_eq_false_iff] at ha
  refine ⟨kind_mark h, ⟨c, r, e, hb, fun _ => ha, fun q => absurd rfl q⟩, fun cs o => ?_⟩
  rw [e]
  show (if isFig c then _ else if isLet c then _ else if inM ((c :: (r ++ cs)).take 2) then (c :: (r ++ cs)).take 2 else [c]) = c :: r
  rw [if_neg (by rw [h2.1]; exact Bool.false_ne_true), if_neg (by rw [h2.2]; exact Bool.false_ne_true)]
  rcases hr with hr | hr
  · subst hr
    cases cs with
    | nil =>
      have q : inM [c] = true := inM_iff.mpr ⟨w, h, e⟩
      show (if inM [c] = true then [c] else [c]) = [c]
      rw [if_pos q]
    | cons d cs =>
      have nd : ¬ d = 61 := by
        intro q
        subst q
        rcases o with o | o | o
        · exact absurd o (by decide)
        · exact absurd o.2 (by decide)
        · exact o.1 rfl
      show (if inM [c, d] = true then [c, d] else [c]) = [c]
      rw [if_neg fun q => nd (no_two q)]
  · subst hr
    have q : inM [c, 61] = true := inM_iff.mpr ⟨w, h, e⟩
    show (if inM [c, 61] = true then [c, 61] else [c]) = [c, 61]
    rw [if_pos q]
theorem not_mark {w : Str} {c : Nat} {r : List Nat} (e : tl w = c :: r) (h : isAl c = true) : w ∉ mks := by
  intro q
  obtain ⟨c', r', e', ha, _⟩ := mks_first w q
  rw [e] at e'
  injection e' with e1 _
  rw [← e1, h] at ha
  cases ha
theorem kind_name {w : Str} (hn : tl w ≠ []) (ha : (tl w).all isLet = true) (hl : (tl w).length ≤ 12) (hk : w ∉ kws) : kind w = some ("name" : Str) := by
  cases e : tl w with
  | nil => exact absurd e hn
  | cons c r =>
    have hc : isLet c = true := by
      rw [e, List.all_cons, Bool.and_eq_true] at ha
      exact ha.1
    unfold kind
    rw [if_neg hk, if_neg (not_mark e (by unfold isAl; rw [hc, Bool.or_true]))]
    rw [e] at hl
    simp only [e, hc, decide_eq_true hl, Bool.and_self, if_true]
theorem wd_name {w : Str} (hn : tl w ≠ []) (ha : (tl w).all isLet = true) (hl : (tl w).length ≤ 12) (hk : w ∉ kws) : Wd "name" w :=
  wd_lets (by decide +kernel) (kind_name hn ha hl hk) hn ha

/-! ### numbers -/
def num (n : Nat) : Str := Str.ofString (toString ((n : Nat) : Int))
theorem tl_num' (n : Nat) : tl (num n) = numL n := tl_num n
theorem numL_fig (n : Nat) : (numL n).all isFig = true := by
  rw [List.all_eq_true]
  intro c hc
  have q := numL_digits n c hc
  unfold isFig
  simp only [Bool.and_eq_true, decide_eq_true_eq]
  omega
theorem numL_ne (n : Nat) : numL n ≠ [] := by
  by_cases h : n < 10
  · rw [numL_lt h]; exact List.cons_ne_nil _ _
  · rw [numL_step (by omega)]
    intro q
    rw [List.append_eq_nil_iff] at q
    cases q.2
theorem numL_first (n : Nat) (h : 0 < n) : ∃ c r, numL n = c :: r ∧ c ≠ 48 := by
  induction n using Nat.strongRecOn with
  | _ n ih =>
    by_cases h1 : n < 10
    · exact ⟨48 + n, [], numL_lt h1, by omega⟩
    · obtain ⟨c, r, e, hc⟩ := ih (n / 10) (by omega) (by omega)
      refine ⟨c, r ++ [48 + n % 10], ?_, hc⟩
      rw [numL_step (by omega), e]
      rfl
theorem numL_len : ∀ (k n : Nat), n < 10 ^ (k + 1) → (numL n).length ≤ k + 1
  | 0, n, h => by rw [numL_lt (by simpa using h)]; exact Nat.le_refl _
  | k + 1, n, h => by
    by_cases h1 : n < 10
    · rw [numL_lt h1]; simp
    · rw [numL_step (by omega), List.length_append, List.length_singleton]
      have h2 : n < 10 ^ (k + 1) * 10 := by rw [← Nat.pow_succ]; exact h
      have q := numL_len k (n / 10) (by omega)
      omega
theorem num_zero : num 0 = "0" := by
  apply ext_tl
  rw [tl_num', numL_lt (by decide)]
  decide +kernel
theorem kws_not_fig {w : Str} {c : Nat} {r : List Nat} (e : tl w = c :: r) (h : isFig c = true) : w ∉ kws := by
  intro q
  have a := (kws_all w q).1
  rw [e, List.all_cons, Bool.and_eq_true] at a
  rw [(fig_let h).1] at a
  cases a.1
theorem kind_num {n : Nat} (h : n < 1000000) : kind (num n) = some ("number" : Str) := by
  have hl : (tl (num n)).length ≤ 6 := by rw [tl_num']; exact numL_len 5 n h
  cases e : tl (num n) with
  | nil =>
    rw [tl_num'] at e
    exact absurd e (numL_ne n)
  | cons c r =>
    have hc : isFig c = true := by
      have a := numL_fig n
      rw [← tl_num', e, List.all_cons, Bool.and_eq_true] at a
      exact a.1
    unfold kind
    rw [if_neg (kws_not_fig e hc), if_neg (not_mark e (by unfold isAl; rw [hc, Bool.true_or]))]
    rw [e] at hl
    simp only [e, (fig_let hc).1, Bool.false_and, hc, Bool.true_and]
    rw [if_neg Bool.false_ne_true]
    by_cases h0 : n = 0
    · subst h0
      have ec : c = 48 := by
        rw [tl_num', numL_lt (by decide)] at e
        injection e with e1 _
        exact e1.symm
      subst ec
      rw [num_zero]
      have e1 : (48 == 48 : Bool) = true := rfl
      rw [if_pos e1, decide_eq_true rfl, if_pos rfl]
    · obtain ⟨c', r', e', hc'⟩ := numL_first n (by omega)
      rw [← tl_num', e] at e'
      injection e' with e1 _
      have hc2 : (c == 48) = false := by rw [e1]; simpa using hc'
      simp only [hc2]
      rw [if_neg Bool.false_ne_true, decide_eq_true hl, if_pos rfl]
theorem wd_num {n : Nat} (h : n < 1000000) : Wd "number" (num n) :=
  wd_figs (by decide +kernel) (kind_num h) (by rw [tl_num']; exact numL_ne n) (by rw [tl_num']; exact numL_fig n)
theorem num_len {n : Nat} (h : n < 1000000) : (num n).length ≤ 6 := by
  rw [len_tl, tl_num']
  exact numL_len 5 n h
end K0

/-! Trees of programs: the data of the drawn trees, and how data lies in the abstract heap. -/
namespace KD
open PySem L2 TL
/-! ### trees -/
inductive Un | neg | not
  deriving DecidableEq
inductive Bi | black | or | and | lt | le | eq | ne | add | sub | mul | div | mod
  deriving DecidableEq
inductive Ex
  | num (n : Nat) | name (x : Str) | rows | cols | un (o : Un) (a : Ex) | bin (o : Bi) (a b : Ex)
inductive St
  | row (e : Ex) | col (e : Ex) | say (e : Ex) | set (x : Str) (e : Ex) | ite (c : Ex) (a b : List St) | whl (c : Ex) (a : List St) | for_ (x : Str) (a b : Ex) (s : List St) | call (f : Str) (es : List Ex) | stop
structure Df where
  name : Str
  args : List Str
  body : List St
structure Pr where
  defs : List Df
  body : List St
def Un.w : Un → Str
  | .neg => "neg" | .not => "not"
def Bi.w : Bi → Str
  | .black => "black" | .or => "or" | .and => "and" | .lt => "<" | .le => "<=" | .eq => "=" | .ne => "!=" | .add => "+" | .sub => "-" | .mul => "*" | .div => "/" | .mod => "mod"
def Ex.d : Ex → PyData
  | .num n => .tuple [.str "num", .int n]
  | .name x => .tuple [.str "name", .str x]
  | .rows => .tuple [.str "rows"]
  | .cols => .tuple [.str "cols"]
  | .un o a => .tuple [.str o.w, a.d]
  | .bin o a b => .tuple [.str o.w, a.d, b.d]
mutual
def St.d : St → PyData
  | .row e => .tuple [.str "row", e.d]
  | .col e => .tuple [.str "col", e.d]
  | .say e => .tuple [.str "say", e.d]
  | .set x e => .tuple [.str "let", .str x, e.d]
  | .ite c a b => .tuple [.str "if", c.d, .tuple (dB a), .tuple (dB b)]
  | .whl c a => .tuple [.str "while", c.d, .tuple (dB a)]
  | .for_ x a b s => .tuple [.str "for", .str x, a.d, b.d, .tuple (dB s)]
  | .call f es => .tuple [.str "do", .str f, .tuple (es.map Ex.d)]
  | .stop => .tuple [.str "stop"]
def dB : List St → List PyData
  | [] => []
  | s :: b => s.d :: dB b
end
theorem dB_append : ∀ (a b : List St), dB (a ++ b) = dB a ++ dB b
  | [], b => rfl
  | s :: a, b => by
    show s.d :: dB (a ++ b) = s.d :: (dB a ++ dB b)
    rw [dB_append a b]
theorem dB_length : ∀ (a : List St), (dB a).length = a.length
  | [] => rfl
  | s :: a => by
    show (dB a).length + 1 = a.length + 1
    rw [dB_length a]
def Df.d (f : Df) : PyData := .tuple [.str f.name, .tuple (f.args.map .str), .tuple (dB f.body)]
def Pr.d (p : Pr) : PyData := .tuple [.tuple (p.defs.map Df.d), .tuple (dB p.body)]

/-! ### what drawn trees keep -/
/-- the names used are among these, the numbers are small -/
def okE (ns : List Str) : Ex → Prop
  | .num n => n < 1000000
  | .name x => x ∈ ns
  | .rows => True
  | .cols => True
  | .un _ a => okE ns a
  | .bin _ a b => okE ns a ∧ okE ns b
def dpE : Ex → Nat
  | .un _ a => dpE a + 1
  | .bin _ a b => max (dpE a) (dpE b) + 1
  | _ => 0
def letN : List Str := ["a", "b", "c", "long"]
def forN : List Str := ["i", "j", "a"]
/-- names known behind a statement -/
def aft (ns : List Str) : St → List Str
  | .set x _ => if x ∈ ns then ns else ns ++ [x]
  | _ => ns
def aftB : List Str → List St → List Str
  | ns, [] => ns
  | ns, s :: b => aftB (aft ns s) b
mutual
/-- a drawn statement: names known, calls that fit, blocks of at most two statements, n deep -/
def okS (ds : List (Str × Nat)) : Nat → List Str → St → Prop
  | _, ns, .row e => okE ns e ∧ dpE e ≤ 1
  | _, ns, .col e => okE ns e ∧ dpE e ≤ 1
  | _, ns, .say e => okE ns e ∧ dpE e ≤ 2
  | _, ns, .set x e => x ∈ letN ∧ okE ns e ∧ dpE e ≤ 2
  | n + 1, ns, .ite c a b => okE ns c ∧ dpE c ≤ 2 ∧ (a.length ≤ 2 ∧ okB ds n ns a) ∧ (b.length ≤ 2 ∧ okB ds n ns b)
  | n + 1, ns, .whl c a => okE ns c ∧ dpE c ≤ 1 ∧ a.length ≤ 2 ∧ okB ds n ns a
  | n + 1, ns, .for_ x a b s => x ∈ forN ∧ (okE ns a ∧ dpE a ≤ 1) ∧ (okE ns b ∧ dpE b ≤ 1) ∧ s.length ≤ 2 ∧ okB ds n (if x ∈ ns then ns else ns ++ [x]) s
  | n + 1, ns, .call f es => (f, es.length) ∈ ds ∧ ∀ e ∈ es, okE ns e ∧ dpE e ≤ 1
  | n + 1, _, .stop => True
  | 0, _, .ite _ _ _ => False
  | 0, _, .whl _ _ => False
  | 0, _, .for_ _ _ _ _ => False
  | 0, _, .call _ _ => False
  | 0, _, .stop => False
def okB (ds : List (Str × Nat)) : Nat → List Str → List St → Prop
  | _, _, [] => True
  | n, ns, s :: b => okS ds n ns s ∧ okB ds n (aft ns s) b
end
theorem aftB_snoc : ∀ (b : List St) (ns : List Str) (s : St), aftB ns (b ++ [s]) = aft (aftB ns b) s
  | [], _, _ => rfl
  | t :: b, ns, s => by
    show aftB (aft ns t) (b ++ [s]) = _
    rw [aftB_snoc b]
    rfl
theorem okB_snoc {ds : List (Str × Nat)} {n : Nat} : ∀ {b : List St} {ns : List Str} {s : St}, okB ds n ns b → okS ds n (aftB ns b) s → okB ds n ns (b ++ [s])
  | [], ns, s, _, h => by
    show okB ds n ns [s]
    unfold okB
    exact ⟨h, by unfold okB; trivial⟩
  | t :: b, ns, s, h, h2 => by
    unfold okB at h
    show okB ds n ns (t :: (b ++ [s]))
    unfold okB
    exact ⟨h.1, okB_snoc (b := b) h.2 h2⟩

/-! ### data in the heap -/
mutual
/-- tuples, texts, numbers, bools and None alone -/
def tupD : PyData → Bool
  | .none => true
  | .bool _ => true
  | .int _ => true
  | .str _ => true
  | .tuple xs => tupDs xs
  | _ => false
def tupDs : List PyData → Bool
  | [] => true
  | x :: xs => tupD x && tupDs xs
end
/-- all tuples that are read are kept -/
def KT (K : PySem.W.Frag) (H H' : Hp) : Prop := ∀ a xs, SqT K H a xs → SqT K H' a xs
theorem KT.refl (K : PySem.W.Frag) (H : Hp) : KT K H H := fun _ _ h => h
theorem KT.trans {K : PySem.W.Frag} {H H1 H2 : Hp} (a : KT K H H1) (b : KT K H1 H2) : KT K H H2 := fun x y h => b x y (a x y h)
theorem KT.of {K : PySem.W.Frag} {H H' : Hp} (h : ∀ a o, H a = some o → (∀ xs, o ≠ .lst xs) → H' a = some o) : KT K H H' := fun a xs q => by
  rcases q with (q | ⟨o, q⟩) | q
  · exact .inl (.inl (h _ _ q (fun _ z => by cases z)))
  · exact .inl (.inr ⟨o, h _ _ q (fun _ z => by cases z)⟩)
  · exact .inr q
theorem KT.same {K : PySem.W.Frag} {H H' : Hp} (h : Same H H') : KT K H H' := KT.of fun a o q _ => h a o q
theorem KT.upd {K : PySem.W.Frag} {H : Hp} {r : Addr} {xs : List V} (h : H r = some (.lst xs)) (o : HO) : KT K H (upd H r o) := KT.of fun a u q n => by
  rw [upd_ne fun e => ?_]
  · exact q
  · rw [e, h] at q
    exact n xs (Option.some.inj q).symm
mutual
theorem Dp.kt {K : PySem.W.Frag} {H H' : Hp} (k : KT K H H') : ∀ {v : V} {d : PyData}, tupD d = true → Dp K H v d → Dp K H' v d
  | _, .none, _, h => by cases h; exact .non
  | _, .bool b, _, h => by cases h; exact .bl b
  | _, .int i, _, h => by cases h; exact .int i
  | _, .str x, _, h => by cases h; exact .str x
  | _, .tuple ds, t, h => by
    cases h with
    | tup h1 h2 => exact .tup (k _ _ h1) (DpAll.kt k (by unfold tupD at t; exact t) h2)
  | _, .list _, t, _ => by unfold tupD at t; cases t
  | _, .dict _, t, _ => by unfold tupD at t; cases t
theorem DpAll.kt {K : PySem.W.Frag} {H H' : Hp} (k : KT K H H') : ∀ {vs : List V} {ds : List PyData}, tupDs ds = true → DpAll K H vs ds → DpAll K H' vs ds
  | _, [], _, h => by cases h; exact .nil
  | _, d :: ds, t, h => by
    unfold tupDs at t
    rw [Bool.and_eq_true] at t
    cases h with
    | cons h1 h2 => exact .cons (Dp.kt k t.1 h1) (DpAll.kt k t.2 h2)
end
mutual
theorem Dp.same {K : PySem.W.Frag} {H H' : Hp} (k : Same H H') : ∀ {v : V} {d : PyData}, Dp K H v d → Dp K H' v d
  | _, .none, h => by cases h; exact .non
  | _, .bool b, h => by cases h; exact .bl b
  | _, .int i, h => by cases h; exact .int i
  | _, .str x, h => by cases h; exact .str x
  | _, .tuple ds, h => by
    cases h with
    | tup h1 h2 => exact .tup (KT.same k _ _ h1) (DpAll.same k h2)
  | _, .list ds, h => by
    cases h with
    | lst h1 h2 => exact .lst (k.seq h1) (DpAll.same k h2)
  | _, .dict _, h => by cases h
theorem DpAll.same {K : PySem.W.Frag} {H H' : Hp} (k : Same H H') : ∀ {vs : List V} {ds : List PyData}, DpAll K H vs ds → DpAll K H' vs ds
  | _, [], h => by cases h; exact .nil
  | _, d :: ds, h => by
    cases h with
    | cons h1 h2 => exact .cons (Dp.same k h1) (DpAll.same k h2)
end
theorem DpAll.length {K : PySem.W.Frag} {H : Hp} : ∀ {vs : List V} {ds : List PyData}, DpAll K H vs ds → vs.length = ds.length
  | _, [], h => by cases h; rfl
  | _, d :: ds, h => by
    cases h with
    | cons h1 h2 => rw [List.length_cons, List.length_cons, DpAll.length h2]
theorem DpAll.snoc {K : PySem.W.Frag} {H : Hp} {v : V} {d : PyData} (h : Dp K H v d) : ∀ {vs : List V} {ds : List PyData}, DpAll K H vs ds → DpAll K H (vs ++ [v]) (ds ++ [d])
  | _, [], h2 => by cases h2; exact .cons h .nil
  | _, e :: ds, h2 => by
    cases h2 with
    | cons h3 h4 => exact .cons h3 (DpAll.snoc h h4)
theorem DpAll.get {K : PySem.W.Frag} {H : Hp} : ∀ {vs : List V} {ds : List PyData} {i : Nat} {v : V}, DpAll K H vs ds → vs[i]? = some v → ∃ d, ds[i]? = some d ∧ Dp K H v d
  | _, [], i, v, h, e => by cases h; simp at e
  | _, d :: ds, 0, v, h, e => by
    cases h with
    | cons h1 h2 => exact ⟨d, rfl, by have := Option.some.inj e; subst this; exact h1⟩
  | _, d :: ds, i + 1, v, h, e => by
    cases h with
    | cons h1 h2 => exact DpAll.get (i := i) h2 e
theorem tupDs_append : ∀ (a b : List PyData), tupDs (a ++ b) = (tupDs a && tupDs b)
  | [], b => by rw [List.nil_append]; unfold tupDs; cases b <;> rfl
  | x :: a, b => by
    show (tupD x && tupDs (a ++ b)) = ((tupD x && tupDs a) && tupDs b)
    rw [tupDs_append a b, Bool.and_assoc]
theorem tupD_E : ∀ e : Ex, tupD e.d = true
  | .num _ => rfl
  | .name _ => rfl
  | .rows => rfl
  | .cols => rfl
  | .un o a => by
    show (true && (tupD a.d && true)) = true
    rw [tupD_E a]; rfl
  | .bin o a b => by
    show (true && (tupD a.d && (tupD b.d && true))) = true
    rw [tupD_E a, tupD_E b]; rfl
theorem tupDs_E : ∀ es : List Ex, tupDs (es.map Ex.d) = true
  | [] => rfl
  | e :: es => by
    show (tupD e.d && tupDs (es.map Ex.d)) = true
    rw [tupD_E e, tupDs_E es]; rfl
theorem tupDs_str : ∀ es : List Str, tupDs (es.map PyData.str) = true
  | [] => rfl
  | e :: es => by
    show (true && tupDs (es.map PyData.str)) = true
    rw [tupDs_str es]; rfl
mutual
theorem tupD_S : ∀ s : St, tupD s.d = true
  | .row e => by show (true && (tupD e.d && true)) = true; rw [tupD_E e]; rfl
  | .col e => by show (true && (tupD e.d && true)) = true; rw [tupD_E e]; rfl
  | .say e => by show (true && (tupD e.d && true)) = true; rw [tupD_E e]; rfl
  | .set x e => by show (true && (true && (tupD e.d && true))) = true; rw [tupD_E e]; rfl
  | .ite c a b => by show (true && (tupD c.d && (tupDs (dB a) && (tupDs (dB b) && true)))) = true; rw [tupD_E c, tupD_B a, tupD_B b]; rfl
  | .whl c a => by show (true && (tupD c.d && (tupDs (dB a) && true))) = true; rw [tupD_E c, tupD_B a]; rfl
  | .for_ x a b s => by show (true && (true && (tupD a.d && (tupD b.d && (tupDs (dB s) && true))))) = true; rw [tupD_E a, tupD_E b, tupD_B s]; rfl
  | .call f es => by show (true && (true && (tupDs (es.map Ex.d) && true))) = true; rw [tupDs_E es]; rfl
  | .stop => rfl
theorem tupD_B : ∀ b : List St, tupDs (dB b) = true
  | [] => rfl
  | s :: b => by
    show (tupD s.d && tupDs (dB b)) = true
    rw [tupD_S s, tupD_B b]; rfl
end
/-- two, three things in a new tuple -/
theorem Dp.new {K : PySem.W.Frag} {H : Hp} {p : Addr} {vs : List V} {ds : List PyData} (hp : H p = none) (h : DpAll K H vs ds) : Dp K (upd H p (.tup vs)) (.ref p) (.tuple ds) :=
  .tup (SqT.of upd_same) (KD.DpAll.same (fun b o q => by rw [upd_ne (ne_of_none q hp)]; exact q) h)
end KD

/-! The words of printed programs. -/
namespace KD
open PySem L2 TL
open K0 (isFig isLet isAl isBl kws mks sigs kind Toks inM num)
abbrev Tk := Str × Str
/-- what may stand behind the text so far -/
inductive F3 | free | mark | word | both
def Fol (f : F3) : List Nat → Prop
  | [] => True
  | c :: _ => match f with
    | .free => True
    | .mark => c ≠ 61
    | .word => isAl c = false
    | .both => c ≠ 61 ∧ isAl c = false
theorem Fol.bl {f : F3} {c : Nat} {r : List Nat} (h : isBl c = true) : Fol f (c :: r) := by
  have q : isAl c = false ∧ c ≠ 61 := by
    unfold isBl at h
    simp only [Bool.or_eq_true, beq_iff_eq] at h
    rcases h with h | h <;> subst h <;> exact ⟨by decide, by decide⟩
  cases f with
  | free => exact trivial
  | mark => exact q.2
  | word => exact q.1
  | both => exact ⟨q.2, q.1⟩
/-- the text T, cut so far into ws -/
def J (T : List Nat) (ws : List Tk) (f : F3) : Prop := ∀ cs us, Toks cs us → Fol f cs → Toks (T ++ cs) (ws ++ us)
theorem J.nil : J [] [] .free := fun cs us t _ => t
theorem J.weak {T : List Nat} {ws : List Tk} {f g : F3} (j : J T ws f) (h : ∀ cs, Fol g cs → Fol f cs) : J T ws g := fun cs us t o => j cs us t (h cs o)
theorem Fol.of_both {f : F3} (hf : f ≠ .free → True) : ∀ cs, Fol .both cs → Fol f cs
  | [], _ => trivial
  | c :: r, h => by
    cases f with
    | free => exact trivial
    | mark => exact h.1
    | word => exact h.2
    | both => exact h
theorem J.both {T : List Nat} {ws : List Tk} {f : F3} (j : J T ws f) : J T ws .both := j.weak (Fol.of_both fun _ => trivial)
theorem J.blank {T s : List Nat} {ws : List Tk} {f : F3} (j : J T ws f) (hs : s.all isBl = true) (hn : s ≠ []) : J (T ++ s) ws .free := fun cs us t _ => by
  rw [List.append_assoc]
  refine j _ _ (K0.toks_blanks hs t) ?_
  cases s with
  | nil => exact absurd rfl hn
  | cons c r =>
    rw [List.all_cons, Bool.and_eq_true] at hs
    exact Fol.bl hs.1
/-- a word that is cut out whole where what follows allows it -/
structure Wd (f : F3) (k w : Str) : Prop where
  kd : kind w = some k
  hd : ∃ c r, tl w = c :: r ∧ isBl c = false
  mm : ∀ cs, Fol f cs → sigs (tl w ++ cs) = tl w
theorem J.step {T : List Nat} {ws : List Tk} {f g : F3} {k w : Str} (j : J T ws f) (wd : Wd g k w) (o : Fol f (tl w)) : J (T ++ tl w) (ws ++ [(k, w)]) g := fun cs us t o2 => by
  obtain ⟨c, r, e, hb⟩ := wd.hd
  have t1 : Toks (tl w ++ cs) ((k, w) :: us) := by
    have ss := wd.mm cs o2
    have e2 : tl w ++ cs = c :: (r ++ cs) := by rw [e]; rfl
    have e3 := ss
    rw [e2] at e3
    rw [e2]
    exact .word hb e2.symm (by rw [e]; exact List.cons_ne_nil _ _) e3 wd.kd t
  have t2 := j _ _ t1 (by
    rw [e] at o ⊢
    exact o)
  rw [List.append_assoc, List.append_assoc]
  exact t2
theorem Wd.of {k w : Str} (hk : k ≠ "mark") (h : K0.Wd k w) : Wd .word k w := by
  obtain ⟨c, r, e, hb, _, _⟩ := h.hd
  refine ⟨h.kd, ⟨c, r, e, hb⟩, fun cs o => h.mm cs ?_⟩
  cases cs with
  | nil => trivial
  | cons d cs => exact Or.inr (Or.inr ⟨hk, o⟩)
theorem Wd.key {w : Str} (h : w ∈ kws) : Wd .word "key" w := Wd.of (by decide +kernel) (K0.wd_key h)
theorem Wd.name {w : Str} (hn : tl w ≠ []) (ha : (tl w).all isLet = true) (hl : (tl w).length ≤ 12) (hk : w ∉ kws) : Wd .word "name" w := Wd.of (by decide +kernel) (K0.wd_name hn ha hl hk)
theorem Wd.num {n : Nat} (h : n < 1000000) : Wd .word "number" (num n) := Wd.of (by decide +kernel) (K0.wd_num h)
theorem Wd.mark {w : Str} (h : w ∈ mks) : Wd .mark "mark" w := by
  obtain ⟨c, r, e, ha, hb, hr⟩ := K0.mks_first w h
  have h2 : isFig c = false ∧ isLet c = false := by
    unfold isAl at ha
    rwa [Bool.or_eq_false_iff] at ha
  refine ⟨K0.kind_mark h, ⟨c, r, e, hb⟩, fun cs o => ?_⟩
  rw [e]
  show (if isFig c then _ else if isLet c then _ else if inM ((c :: (r ++ cs)).take 2) then (c :: (r ++ cs)).take 2 else [c]) = c :: r
  rw [if_neg (by rw [h2.1]; exact Bool.false_ne_true), if_neg (by rw [h2.2]; exact Bool.false_ne_true)]
  rcases hr with hr | hr
  · subst hr
    cases cs with
    | nil =>
      have q : inM [c] = true := K0.inM_iff.mpr ⟨w, h, e⟩
      show (if inM [c] = true then [c] else [c]) = [c]
      rw [if_pos q]
    | cons d cs =>
      show (if inM [c, d] = true then [c, d] else [c]) = [c]
      rw [if_neg fun q => o (K0.no_two q)]
  · subst hr
    have q : inM [c, 61] = true := K0.inM_iff.mpr ⟨w, h, e⟩
    show (if inM [c, 61] = true then [c, 61] else [c]) = [c, 61]
    rw [if_pos q]
/-- a text is all blanks -/
def blS (s : Str) : Bool := (tl s).all isBl && !(tl s).isEmpty
/-! ### texts of Str: the same by Str -/
def JS (T : Str) (ws : List Tk) (f : F3) : Prop := J (tl T) ws f
theorem JS.nil : JS "" [] .free := by
  show J (tl ("" : Str)) [] .free
  rw [show tl ("" : Str) = [] by decide +kernel]
  exact J.nil
theorem JS.blank {T s : Str} {ws : List Tk} {f : F3} (j : JS T ws f) (h : blS s = true) : JS (T ++ s) ws .free := by
  unfold blS at h
  rw [Bool.and_eq_true] at h
  show J (tl (T ++ s)) ws .free
  rw [tl_append]
  refine J.blank j h.1 fun q => ?_
  rw [q] at h
  cases h.2
theorem JS.step {T w k : Str} {ws : List Tk} {f g : F3} (j : JS T ws f) (wd : Wd g k w) (o : Fol f (tl w)) : JS (T ++ w) (ws ++ [(k, w)]) g := by
  show J (tl (T ++ w)) _ g
  rw [tl_append]
  exact J.step j wd o
theorem JS.both {T : Str} {ws : List Tk} {f : F3} (j : JS T ws f) : JS T ws .both := J.both j
theorem assocS (a b c : Str) : a ++ (b ++ c) = a ++ b ++ c := by
  apply ext_tl
  rw [tl_append, tl_append, tl_append, tl_append, List.append_assoc]
theorem nilS (a : Str) : a ++ ("" : Str) = a := by
  apply ext_tl
  rw [tl_append, show tl ("" : Str) = [] by decide +kernel, List.append_nil]
/-- literals: a text of marks and keys, by its words -/
inductive LW | bl (s : Str) | wd (k w : Str)
def LW.t : LW → Str
  | .bl s => s
  | .wd _ w => w
def LW.ok : LW → Bool
  | .bl s => blS s
  | .wd k w => (decide (k = "key") && decide (w ∈ kws)) || (decide (k = "mark") && decide (w ∈ mks))
def folB (f : F3) : List Nat → Bool
  | [] => true
  | c :: _ => match f with
    | .free => true
    | .mark => c != 61
    | .word => !isAl c
    | .both => c != 61 && !isAl c
theorem Fol.ofB {f : F3} : ∀ {l : List Nat}, folB f l = true → Fol f l
  | [], _ => trivial
  | c :: r, h => by
    cases f with
    | free => exact trivial
    | mark => show c ≠ 61; simpa [folB] using h
    | word => show isAl c = false; simpa [folB] using h
    | both => show c ≠ 61 ∧ isAl c = false; simpa [folB] using h
def litF : F3 → List LW → F3
  | f, [] => f
  | _, .bl _ :: r => litF .free r
  | _, .wd k _ :: r => litF (if k = "mark" then .mark else .word) r
def litOk : F3 → List LW → Bool
  | _, [] => true
  | f, .bl s :: r => blS s && litOk .free r
  | f, .wd k w :: r => LW.ok (.wd k w) && folB f (tl w) && litOk (if k = "mark" then .mark else .word) r
def litW : List LW → List Tk
  | [] => []
  | .bl _ :: r => litW r
  | .wd k w :: r => (k, w) :: litW r
def litT : List LW → Str
  | [] => ""
  | p :: r => p.t ++ litT r
theorem JS.lit : ∀ (ps : List LW) {T : Str} {ws : List Tk} {f : F3}, JS T ws f → litOk f ps = true → JS (T ++ litT ps) (ws ++ litW ps) (litF f ps)
  | [], T, ws, f, j, _ => by
    show JS (T ++ ("" : Str)) (ws ++ []) f
    rw [nilS, List.append_nil]
    exact j
  | .bl s :: r, T, ws, f, j, h => by
    unfold litOk at h
    rw [Bool.and_eq_true] at h
    show JS (T ++ (s ++ litT r)) (ws ++ litW r) (litF .free r)
    rw [assocS]
    exact JS.lit r (j.blank h.1) h.2
  | .wd k w :: r, T, ws, f, j, h => by
    unfold litOk at h
    rw [Bool.and_eq_true, Bool.and_eq_true] at h
    show JS (T ++ (w ++ litT r)) (ws ++ ((k, w) :: litW r)) (litF (if k = "mark" then .mark else .word) r)
    rw [assocS, show ws ++ ((k, w) :: litW r) = (ws ++ [(k, w)]) ++ litW r by rw [List.append_assoc]; rfl]
    refine JS.lit r ?_ h.2
    have q := h.1.1
    unfold LW.ok at q
    simp only [Bool.or_eq_true, Bool.and_eq_true, decide_eq_true_eq] at q
    rcases q with ⟨q1, q2⟩ | ⟨q1, q2⟩
    · rw [if_neg (by rw [q1]; decide +kernel), q1]
      exact j.step (Wd.key q2) (Fol.ofB h.1.2)
    · rw [if_pos q1, q1]
      exact j.step (Wd.mark q2) (Fol.ofB h.1.2)
/-! ### words of trees, all inner expressions in brackets -/
def kK (w : Str) : Tk := ("key", w)
def kM (w : Str) : Tk := ("mark", w)
def kN (w : Str) : Tk := ("name", w)
def Bi.tk (o : Bi) : Tk := match o with
  | .or => kK "or" | .and => kK "and" | .mod => kK "mod" | .black => kK "black"
  | o => kM o.w
def tkE : Ex → List Tk
  | .num n => [("number", num n)]
  | .name x => [kN x]
  | .rows => [kK "rows"]
  | .cols => [kK "cols"]
  | .un .neg a => [kM "(", kM "-", kM "("] ++ tkE a ++ [kM ")", kM ")"]
  | .un .not a => [kM "(", kK "not", kM "("] ++ tkE a ++ [kM ")", kM ")"]
  | .bin .black a b => [kK "black", kM "("] ++ tkE a ++ [kM ","] ++ tkE b ++ [kM ")"]
  | .bin o a b => [kM "("] ++ tkE a ++ [o.tk] ++ tkE b ++ [kM ")"]
def tkEs : List Ex → List Tk
  | [] => []
  | [e] => tkE e
  | e :: es => tkE e ++ [kM ","] ++ tkEs es
def tkNs : List Str → List Tk
  | [] => []
  | [x] => [kN x]
  | x :: xs => [kN x, kM ","] ++ tkNs xs
mutual
def tkS : St → List Tk
  | .row e => kK "row" :: tkE e
  | .col e => kK "col" :: tkE e
  | .say e => kK "say" :: tkE e
  | .set x e => [kK "let", kN x, kM "="] ++ tkE e
  | .ite c a b => [kK "if"] ++ tkE c ++ [kM "{"] ++ tkB a ++ [kM "}"] ++ (match b with | [] => [] | s :: r => [kK "else", kM "{"] ++ (tkS s ++ tkB r) ++ [kM "}"])
  | .whl c a => [kK "while"] ++ tkE c ++ [kM "{"] ++ tkB a ++ [kM "}"]
  | .for_ x a b s => [kK "for", kN x, kM "="] ++ tkE a ++ [kK "to"] ++ tkE b ++ [kM "{"] ++ tkB s ++ [kM "}"]
  | .call f es => [kK "do", kN f, kM "("] ++ tkEs es ++ [kM ")"]
  | .stop => [kK "stop"]
def tkB : List St → List Tk
  | [] => []
  | s :: b => tkS s ++ tkB b
end
def tkD (f : Df) : List Tk := [kK "def", kN f.name, kM "("] ++ tkNs f.args ++ [kM ")", kM "{"] ++ tkB f.body ++ [kM "}"]
def tkDs : List Df → List Tk
  | [] => []
  | f :: fs => tkD f ++ tkDs fs
def tkP (p : Pr) : List Tk := tkDs p.defs ++ tkB p.body
/-- the names that drawn programs have are words -/
def nameW (x : Str) : Bool := !(tl x).isEmpty && (tl x).all isLet && decide ((tl x).length ≤ 6) && decide (x ∉ kws)
theorem Wd.nm {x : Str} (h : nameW x = true) : Wd .word "name" x := by
  unfold nameW at h
  simp only [Bool.and_eq_true, decide_eq_true_eq, Bool.not_eq_true'] at h
  exact Wd.name (fun q => by rw [q] at h; cases h.1.1.1) h.1.1.2 (by omega) h.2
theorem nameW_len {x : Str} (h : nameW x = true) : x.length ≤ 6 := by
  unfold nameW at h
  simp only [Bool.and_eq_true, decide_eq_true_eq] at h
  rw [len_tl]
  exact h.1.2
theorem nameW_ne {x : Str} (h : nameW x = true) : ∃ c r, tl x = c :: r ∧ isLet c = true := by
  unfold nameW at h
  simp only [Bool.and_eq_true, decide_eq_true_eq, Bool.not_eq_true'] at h
  cases e : tl x with
  | nil => rw [e] at h; cases h.1.1.1
  | cons c r =>
    rw [e, List.all_cons, Bool.and_eq_true] at h
    exact ⟨c, r, rfl, h.1.1.2.1⟩
/-- a part's text: it begins with no =, what follows it is neither = nor a letter or figure -/
structure PartT (X : Str) (ws : List Tk) : Prop where
  hd : ∃ c r, tl X = c :: r ∧ c ≠ 61
  seg : ∀ {T : Str} {us : List Tk} {f : F3}, JS T us f → Fol f (tl X) → JS (T ++ X) (us ++ ws) .both
theorem PartT.fol_mark {X : Str} {ws : List Tk} (h : PartT X ws) : Fol .mark (tl X) := by
  obtain ⟨c, r, e, hc⟩ := h.hd
  rw [e]
  exact hc
theorem PartT.fol_free {X : Str} {ws : List Tk} (h : PartT X ws) : Fol .free (tl X) := by
  obtain ⟨c, r, e, hc⟩ := h.hd
  rw [e]
  trivial
theorem al_ne {c : Nat} (h : isAl c = true) : c ≠ 61 := by
  intro q
  subst q
  exact absurd h (by decide)
theorem PartT.name {x : Str} (h : nameW x = true) : PartT x [kN x] := by
  obtain ⟨c, r, e, hc⟩ := nameW_ne h
  exact ⟨⟨c, r, e, al_ne (by unfold isAl; rw [hc, Bool.or_true])⟩, fun j o => (j.step (Wd.nm h) o).both⟩
theorem PartT.key {x : Str} (h : x ∈ kws) : PartT x [kK x] := by
  have q := K0.kws_all x h
  refine ⟨?_, fun j o => (j.step (Wd.key h) o).both⟩
  cases e : tl x with
  | nil => exact absurd e q.2
  | cons c r =>
    rw [e, List.all_cons, Bool.and_eq_true] at q
    exact ⟨c, r, rfl, al_ne (by unfold isAl; rw [q.1.1, Bool.or_true])⟩
theorem PartT.numb {n : Nat} (h : n < 1000000) : PartT (num n) [("number", num n)] := by
  refine ⟨?_, fun j o => (j.step (Wd.num h) o).both⟩
  have q := K0.numL_fig n
  cases e : tl (num n) with
  | nil => rw [K0.tl_num'] at e; exact absurd e (K0.numL_ne n)
  | cons c r =>
    rw [← K0.tl_num', e, List.all_cons, Bool.and_eq_true] at q
    exact ⟨c, r, rfl, al_ne (by unfold isAl; rw [q.1, Bool.true_or])⟩
theorem Fol.head {f : F3} {c : Nat} {r q : List Nat} (h : Fol f (c :: r)) : Fol f (c :: q) := h
theorem PartT.fol {X : Str} {ws : List Tk} (h : PartT X ws) {f : F3} (hf : f = .mark ∨ f = .free) : Fol f (tl X) := by
  rcases hf with q | q
  · rw [q]; exact h.fol_mark
  · rw [q]; exact h.fol_free
theorem lit_head {w Y Z : Str} {f : F3} (hw : tl w ≠ []) (e : Y = w ++ Z) (h : Fol f (tl Y)) : Fol f (tl w) := by
  rw [e, tl_append] at h
  cases c : tl w with
  | nil => exact absurd c hw
  | cons a b => rw [c] at h; exact h
/-- a word, a literal, a part, a literal -/
theorem PartT.one {ps qs : List LW} {X Y k0 w0 : Str} {ws : List Tk} {g : F3} (hX : PartT X ws) (eY : Y = w0 ++ (litT ps ++ (X ++ litT qs))) (wd : Wd g k0 w0) (h61 : Fol .mark (tl w0))
    (h1 : litOk g ps = true) (h2 : litF g ps = .mark ∨ litF g ps = .free) (h3 : litOk .both qs = true) : PartT Y ((k0, w0) :: (litW ps ++ (ws ++ litW qs))) := by
  obtain ⟨c, r, ec, hb⟩ := wd.hd
  have hne : tl w0 ≠ [] := by rw [ec]; exact List.cons_ne_nil _ _
  refine ⟨⟨c, r ++ tl (litT ps ++ (X ++ litT qs)), by rw [eY, tl_append, ec]; rfl, by rw [ec] at h61; exact h61⟩, fun {T us f} j o => ?_⟩
  have j1 := j.step wd (lit_head hne eY o)
  have j2 := JS.lit ps j1 h1
  have j3 := hX.seg j2 (hX.fol h2)
  have j4 := (JS.lit qs j3 h3).both
  rw [eY]
  have e1 : T ++ (w0 ++ (litT ps ++ (X ++ litT qs))) = T ++ w0 ++ litT ps ++ X ++ litT qs := by rw [assocS, assocS, assocS]
  have e2 : us ++ ((k0, w0) :: (litW ps ++ (ws ++ litW qs))) = us ++ [(k0, w0)] ++ litW ps ++ ws ++ litW qs := by simp
  rw [e1, e2]
  exact j4
/-- a word, a literal, a part, a literal, a part, a literal -/
theorem PartT.two {ps qs rs : List LW} {X X2 Y k0 w0 : Str} {ws ws2 : List Tk} {g : F3} (hX : PartT X ws) (hX2 : PartT X2 ws2) (eY : Y = w0 ++ (litT ps ++ (X ++ (litT qs ++ (X2 ++ litT rs))))) (wd : Wd g k0 w0) (h61 : Fol .mark (tl w0))
    (h1 : litOk g ps = true) (h2 : litF g ps = .mark ∨ litF g ps = .free) (h3 : litOk .both qs = true) (h4 : litF .both qs = .mark ∨ litF .both qs = .free) (h5 : litOk .both rs = true) :
    PartT Y ((k0, w0) :: (litW ps ++ (ws ++ (litW qs ++ (ws2 ++ litW rs))))) := by
  obtain ⟨c, r, ec, hb⟩ := wd.hd
  have hne : tl w0 ≠ [] := by rw [ec]; exact List.cons_ne_nil _ _
  refine ⟨⟨c, r ++ tl (litT ps ++ (X ++ (litT qs ++ (X2 ++ litT rs)))), by rw [eY, tl_append, ec]; rfl, by rw [ec] at h61; exact h61⟩, fun {T us f} j o => ?_⟩
  have j1 := j.step wd (lit_head hne eY o)
  have j2 := JS.lit ps j1 h1
  have j3 := hX.seg j2 (hX.fol h2)
  have j4 := JS.lit qs j3 h3
  have j5 := hX2.seg j4 (hX2.fol h4)
  have j6 := (JS.lit rs j5 h5).both
  rw [eY]
  have e1 : T ++ (w0 ++ (litT ps ++ (X ++ (litT qs ++ (X2 ++ litT rs))))) = T ++ w0 ++ litT ps ++ X ++ litT qs ++ X2 ++ litT rs := by rw [assocS, assocS, assocS, assocS, assocS]
  have e2 : us ++ ((k0, w0) :: (litW ps ++ (ws ++ (litW qs ++ (ws2 ++ litW rs))))) = us ++ [(k0, w0)] ++ litW ps ++ ws ++ litW qs ++ ws2 ++ litW rs := by simp
  rw [e1, e2]
  exact j6
/-- what a tree needs to be printed: small numbers, names that are words -/
def wfE : Ex → Prop
  | .num n => n < 1000000
  | .name x => nameW x = true
  | .rows => True
  | .cols => True
  | .un _ a => wfE a
  | .bin _ a b => wfE a ∧ wfE b
theorem wfE_of {ns : List Str} (h : ∀ x ∈ ns, nameW x = true) : ∀ {e : Ex}, okE ns e → wfE e
  | .num _, q => q
  | .name x, q => h x q
  | .rows, _ => trivial
  | .cols, _ => trivial
  | .un _ a, q => wfE_of h (e := a) q
  | .bin _ a b, q => ⟨wfE_of h (e := a) q.1, wfE_of h (e := b) q.2⟩
/-- how long a part's text is at most -/
def pl : Nat → Nat
  | 0 => 6
  | n + 1 => 2 * pl n + 10
end KD

/-! The grammar of point 4 over words, and the texts with the fewest brackets (point 5). -/
namespace KD
open PySem L2 TL
open K0 (num)
def Bi.lv : Bi → Nat
  | .or => 0 | .and => 1 | .lt => 2 | .le => 2 | .eq => 2 | .ne => 2 | .add => 3 | .sub => 3 | .mul => 4 | .div => 4 | .mod => 4 | .black => 5
/-- words ts are the expression e of a level: 0 or, 1 and, 2 comparisons and not, 3 sums, 4 products, 5 parts -/
inductive G : Nat → Nat → Ex → List Tk → Prop
  | num {d : Nat} (n : Nat) : G d 5 (.num n) [("number", num n)]
  | name {d : Nat} (x : Str) : G d 5 (.name x) [kN x]
  | rows {d : Nat} : G d 5 .rows [kK "rows"]
  | cols {d : Nat} : G d 5 .cols [kK "cols"]
  | black {d : Nat} {a b : Ex} {ta tb : List Tk} : G d 0 a ta → G d 0 b tb → G (d + 1) 5 (.bin .black a b) ([kK "black", kM "("] ++ ta ++ [kM ","] ++ tb ++ [kM ")"])
  | neg {d : Nat} {a : Ex} {ta : List Tk} : G d 5 a ta → G (d + 1) 5 (.un .neg a) (kM "-" :: ta)
  | par {d : Nat} {a : Ex} {ta : List Tk} : G d 0 a ta → G (d + 1) 5 a ([kM "("] ++ ta ++ [kM ")"])
  | not {d : Nat} {a : Ex} {ta : List Tk} : G d 2 a ta → G (d + 1) 2 (.un .not a) (kK "not" :: ta)
  | cmp {d : Nat} {o : Bi} {a b : Ex} {ta tb : List Tk} : o.lv = 2 → G d 3 a ta → G d 3 b tb → G d 2 (.bin o a b) (ta ++ [o.tk] ++ tb)
  | left {d : Nat} {o : Bi} {a b : Ex} {ta tb : List Tk} : o.lv < 5 → o.lv ≠ 2 → G d o.lv a ta → G d (o.lv + 1) b tb → G d o.lv (.bin o a b) (ta ++ [o.tk] ++ tb)
  | up {d l : Nat} {a : Ex} {ta : List Tk} : G d (l + 1) a ta → G d l a ta
theorem G.mono {d l : Nat} {e : Ex} {t : List Tk} (h : G d l e t) : ∀ {d' : Nat}, d ≤ d' → G d' l e t := by
  induction h with
  | num n => exact fun _ => .num n
  | name x => exact fun _ => .name x
  | rows => exact fun _ => .rows
  | cols => exact fun _ => .cols
  | black _ _ i1 i2 =>
    intro d' hd
    obtain ⟨k, rfl⟩ : ∃ k, d' = k + 1 := ⟨d' - 1, by omega⟩
    exact .black (i1 (by omega)) (i2 (by omega))
  | neg _ i1 =>
    intro d' hd
    obtain ⟨k, rfl⟩ : ∃ k, d' = k + 1 := ⟨d' - 1, by omega⟩
    exact .neg (i1 (by omega))
  | par _ i1 =>
    intro d' hd
    obtain ⟨k, rfl⟩ : ∃ k, d' = k + 1 := ⟨d' - 1, by omega⟩
    exact .par (i1 (by omega))
  | not _ i1 =>
    intro d' hd
    obtain ⟨k, rfl⟩ : ∃ k, d' = k + 1 := ⟨d' - 1, by omega⟩
    exact .not (i1 (by omega))
  | cmp ho _ _ i1 i2 => exact fun hd => .cmp ho (i1 hd) (i2 hd)
  | left h1 h2 _ _ i1 i2 => exact fun hd => .left h1 h2 (i1 hd) (i2 hd)
  | up _ i1 => exact fun hd => .up (i1 hd)
theorem G.down {d : Nat} {a : Ex} {ta : List Tk} : ∀ {k l : Nat}, G d (l + k) a ta → G d l a ta
  | 0, l, h => h
  | k + 1, l, h => G.down (k := k) (.up (by rw [Nat.add_assoc]; exact h))
theorem G.le {d l m : Nat} {a : Ex} {ta : List Tk} (h : G d m a ta) (hl : l ≤ m) : G d l a ta := by
  obtain ⟨k, rfl⟩ := Nat.exists_eq_add_of_le hl
  exact G.down h
/-- a bracketed text's words are an expression -/
theorem G.tk : ∀ (e : Ex) (d : Nat), 3 * dpE e ≤ d → G d 5 e (tkE e)
  | .num n, _, _ => .num n
  | .name x, _, _ => .name x
  | .rows, _, _ => .rows
  | .cols, _, _ => .cols
  | .un .neg a, d, h => by
    have e : tkE (.un .neg a) = [kM "("] ++ (kM "-" :: ([kM "("] ++ tkE a ++ [kM ")"])) ++ [kM ")"] := by
      show [kM "(", kM "-", kM "("] ++ tkE a ++ [kM ")", kM ")"] = _
      simp
    rw [e]
    have h' : 3 * (dpE a + 1) ≤ d := h
    obtain ⟨k, rfl⟩ : ∃ k, d = k + 3 := ⟨d - 3, by omega⟩
    exact G.par (d := k + 2) ((G.neg (d := k + 1) (.par (d := k) ((G.tk a k (by omega)).le (by decide)))).le (by decide))
  | .un .not a, d, h => by
    have e : tkE (.un .not a) = [kM "("] ++ (kK "not" :: ([kM "("] ++ tkE a ++ [kM ")"])) ++ [kM ")"] := by
      show [kM "(", kK "not", kM "("] ++ tkE a ++ [kM ")", kM ")"] = _
      simp
    rw [e]
    have h' : 3 * (dpE a + 1) ≤ d := h
    obtain ⟨k, rfl⟩ : ∃ k, d = k + 3 := ⟨d - 3, by omega⟩
    exact G.par (d := k + 2) ((G.not (d := k + 1) ((G.par (d := k) ((G.tk a k (by omega)).le (by decide))).le (by decide))).le (by decide))
  | .bin o a b, d, h => by
    have h' : 3 * (max (dpE a) (dpE b) + 1) ≤ d := h
    obtain ⟨k, rfl⟩ : ∃ k, d = k + 1 := ⟨d - 1, by omega⟩
    have ga := G.tk a k (by omega)
    have gb := G.tk b k (by omega)
    by_cases hb : o = .black
    · subst hb
      exact .black (ga.le (by decide)) (gb.le (by decide))
    · have e : tkE (.bin o a b) = [kM "("] ++ (tkE a ++ [o.tk] ++ tkE b) ++ [kM ")"] := by
        have e1 : tkE (.bin o a b) = [kM "("] ++ tkE a ++ [o.tk] ++ tkE b ++ [kM ")"] := by
          cases o with
          | black => exact absurd rfl hb
          | _ => rfl
        rw [e1]
        simp
      rw [e]
      refine .par ?_
      have hlt : o.lv < 5 := by
        cases o with
        | black => exact absurd rfl hb
        | _ => decide
      by_cases h2 : o.lv = 2
      · exact (G.cmp h2 (ga.le (by decide)) (gb.le (by decide))).le (by decide)
      · exact (G.left hlt h2 (ga.le (by omega)) (gb.le (by omega))).le (Nat.zero_le _)
/-! ### expressions, statements, blocks, programs over words -/
/-- the nests that an expression of a statement may have -/
abbrev GE (e : Ex) (t : List Tk) : Prop := G 10 0 e t
inductive GEs : List Ex → List Tk → Prop
  | nil : GEs [] []
  | one {e : Ex} {t : List Tk} : GE e t → GEs [e] t
  | more {e f : Ex} {es : List Ex} {t ts : List Tk} : GE e t → GEs (f :: es) ts → GEs (e :: f :: es) (t ++ [kM ","] ++ ts)
mutual
/-- words of a statement whose blocks nest at most so deep -/
inductive GS : Nat → St → List Tk → Prop
  | row {d : Nat} {e : Ex} {t : List Tk} : GE e t → GS d (.row e) (kK "row" :: t)
  | col {d : Nat} {e : Ex} {t : List Tk} : GE e t → GS d (.col e) (kK "col" :: t)
  | say {d : Nat} {e : Ex} {t : List Tk} : GE e t → GS d (.say e) (kK "say" :: t)
  | set {d : Nat} {x : Str} {e : Ex} {t : List Tk} : GE e t → GS d (.set x e) ([kK "let", kN x, kM "="] ++ t)
  | ite0 {d : Nat} {c : Ex} {a : List St} {t ta : List Tk} : GE c t → GB d a ta → GS (d + 1) (.ite c a []) ([kK "if"] ++ t ++ [kM "{"] ++ ta ++ [kM "}"])
  | ite {d : Nat} {c : Ex} {a b : List St} {t ta tb : List Tk} : GE c t → GB d a ta → GB d b tb → GS (d + 1) (.ite c a b) ([kK "if"] ++ t ++ [kM "{"] ++ ta ++ [kM "}", kK "else", kM "{"] ++ tb ++ [kM "}"])
  | whl {d : Nat} {c : Ex} {a : List St} {t ta : List Tk} : GE c t → GB d a ta → GS (d + 1) (.whl c a) ([kK "while"] ++ t ++ [kM "{"] ++ ta ++ [kM "}"])
  | for_ {d : Nat} {x : Str} {c e : Ex} {s : List St} {t u ts : List Tk} : GE c t → GE e u → GB d s ts → GS (d + 1) (.for_ x c e s) ([kK "for", kN x, kM "="] ++ t ++ [kK "to"] ++ u ++ [kM "{"] ++ ts ++ [kM "}"])
  | call {d : Nat} {f : Str} {es : List Ex} {t : List Tk} : GEs es t → GS d (.call f es) ([kK "do", kN f, kM "("] ++ t ++ [kM ")"])
  | stop {d : Nat} : GS d .stop [kK "stop"]
inductive GB : Nat → List St → List Tk → Prop
  | nil {d : Nat} : GB d [] []
  | cons {d : Nat} {s : St} {b : List St} {t ts : List Tk} : GS d s t → GB d b ts → GB d (s :: b) (t ++ ts)
end
inductive GD : Nat → List Df → List Tk → Prop
  | nil {d : Nat} : GD d [] []
  | cons {d : Nat} {f : Df} {fs : List Df} {t ts : List Tk} : GB d f.body t → GD d fs ts → GD d (f :: fs) ([kK "def", kN f.name, kM "("] ++ tkNs f.args ++ [kM ")", kM "{"] ++ t ++ [kM "}"] ++ ts)
/-- words of a program -/
def GP (p : Pr) (ws : List Tk) : Prop := ∃ t u, GD 3 p.defs t ∧ GB 3 p.body u ∧ ws = t ++ u
theorem GEs.tk : ∀ es : List Ex, (∀ e ∈ es, dpE e ≤ 3) → GEs es (tkEs es)
  | [], _ => .nil
  | [e], h => .one ((G.tk e 10 (by have := h e List.mem_cons_self; omega)).le (by decide))
  | e :: f :: es, h => .more ((G.tk e 10 (by have := h e List.mem_cons_self; omega)).le (by decide)) (GEs.tk (f :: es) fun x hx => h x (List.mem_cons_of_mem _ hx))
theorem GE.tk {e : Ex} (h : dpE e ≤ 2) : GE e (tkE e) := (G.tk e 10 (by omega)).le (by decide)
mutual
theorem GS.tk {ds : List (Str × Nat)} : ∀ (n : Nat) (ns : List Str) (s : St), okS ds n ns s → GS n s (tkS s)
  | n, ns, .row e, h => by unfold okS at h; exact .row (GE.tk (by omega))
  | n, ns, .col e, h => by unfold okS at h; exact .col (GE.tk (by omega))
  | n, ns, .say e, h => by unfold okS at h; exact .say (GE.tk (by omega))
  | n, ns, .set x e, h => by unfold okS at h; exact .set (GE.tk (by omega))
  | n + 1, ns, .ite c a [], h => by
    unfold okS at h
    have h := GS.ite0 (GE.tk (e := c) (by omega)) (GB.tk n ns a h.2.2.1.2)
    have e : tkS (.ite c a []) = [kK "if"] ++ tkE c ++ [kM "{"] ++ tkB a ++ [kM "}"] := by
      show [kK "if"] ++ tkE c ++ [kM "{"] ++ tkB a ++ [kM "}"] ++ [] = _
      simp
    rw [e]
    exact h
  | n + 1, ns, .ite c a (s :: r), h => by
    unfold okS at h
    have h := GS.ite (GE.tk (e := c) (by omega)) (GB.tk n ns a h.2.2.1.2) (GB.tk n ns (s :: r) h.2.2.2.2)
    have e : tkS (.ite c a (s :: r)) = [kK "if"] ++ tkE c ++ [kM "{"] ++ tkB a ++ [kM "}", kK "else", kM "{"] ++ tkB (s :: r) ++ [kM "}"] := by
      show [kK "if"] ++ tkE c ++ [kM "{"] ++ tkB a ++ [kM "}"] ++ ([kK "else", kM "{"] ++ (tkS s ++ tkB r) ++ [kM "}"]) = _
      show _ = [kK "if"] ++ tkE c ++ [kM "{"] ++ tkB a ++ [kM "}", kK "else", kM "{"] ++ (tkS s ++ tkB r) ++ [kM "}"]
      simp
    rw [e]
    exact h
  | n + 1, ns, .whl c a, h => by unfold okS at h; exact .whl (GE.tk (by omega)) (GB.tk n ns a h.2.2.2)
  | n + 1, ns, .for_ x a b s, h => by unfold okS at h; exact .for_ (GE.tk (by omega)) (GE.tk (by omega)) (GB.tk n _ s h.2.2.2.2)
  | n + 1, ns, .call f es, h => by unfold okS at h; exact .call (GEs.tk es fun e he => by have := (h.2 e he).2; omega)
  | n + 1, ns, .stop, h => .stop
  | 0, ns, .ite _ _ _, h => by unfold okS at h; exact h.elim
  | 0, ns, .whl _ _, h => by unfold okS at h; exact h.elim
  | 0, ns, .for_ _ _ _ _, h => by unfold okS at h; exact h.elim
  | 0, ns, .call _ _, h => by unfold okS at h; exact h.elim
  | 0, ns, .stop, h => by unfold okS at h; exact h.elim
theorem GB.tk {ds : List (Str × Nat)} : ∀ (n : Nat) (ns : List Str) (b : List St), okB ds n ns b → GB n b (tkB b)
  | n, ns, [], _ => .nil
  | n, ns, s :: b, h => by unfold okB at h; exact .cons (GS.tk n ns s h.1) (GB.tk n _ b h.2)
end
mutual
theorem GS.mono : ∀ {d d' : Nat} {s : St} {t : List Tk}, GS d s t → d ≤ d' → GS d' s t
  | _, _, _, _, .row h, _ => .row h
  | _, _, _, _, .col h, _ => .col h
  | _, _, _, _, .say h, _ => .say h
  | _, _, _, _, .set h, _ => .set h
  | d + 1, 0, _, _, .ite0 _ _, q => absurd q (by omega)
  | d + 1, d' + 1, _, _, .ite0 h a, q => .ite0 h (GB.mono a (by omega))
  | d + 1, 0, _, _, .ite _ _ _, q => absurd q (by omega)
  | d + 1, d' + 1, _, _, .ite h a b, q => .ite h (GB.mono a (by omega)) (GB.mono b (by omega))
  | d + 1, 0, _, _, .whl _ _, q => absurd q (by omega)
  | d + 1, d' + 1, _, _, .whl h a, q => .whl h (GB.mono a (by omega))
  | d + 1, 0, _, _, .for_ _ _ _, q => absurd q (by omega)
  | d + 1, d' + 1, _, _, .for_ h h2 a, q => .for_ h h2 (GB.mono a (by omega))
  | _, _, _, _, .call h, _ => .call h
  | _, _, _, _, .stop, _ => .stop
theorem GB.mono : ∀ {d d' : Nat} {b : List St} {t : List Tk}, GB d b t → d ≤ d' → GB d' b t
  | _, _, _, _, .nil, _ => .nil
  | _, _, _, _, .cons h b, q => .cons (GS.mono h q) (GB.mono b q)
end
theorem GD.tk : ∀ (fs : List Df), (∀ f ∈ fs, GB 3 f.body (tkB f.body)) → GD 3 fs (tkDs fs)
  | [], _ => .nil
  | f :: fs, h => .cons (h f List.mem_cons_self) (GD.tk fs fun x hx => h x (List.mem_cons_of_mem _ hx))
/-! ### the fewest brackets -/
def parT (c : Bool) (t : List Tk) : List Tk := if c then [kM "("] ++ t ++ [kM ")"] else t
def parX (c : Bool) (t : Str) : Str := if c then "(" ++ t ++ ")" else t
/-- the level that the left side of a mark wants -/
def Bi.ll (o : Bi) : Nat := if o.lv = 2 then 3 else o.lv
def tkX : Ex → Nat → List Tk
  | .num n, _ => [("number", num n)]
  | .name x, _ => [kN x]
  | .rows, _ => [kK "rows"]
  | .cols, _ => [kK "cols"]
  | .un .neg a, _ => kM "-" :: tkX a 5
  | .un .not a, l => parT (decide (2 < l)) (kK "not" :: tkX a 2)
  | .bin .black a b, _ => [kK "black", kM "("] ++ tkX a 0 ++ [kM ","] ++ tkX b 0 ++ [kM ")"]
  | .bin o a b, l => parT (decide (o.lv < l)) (tkX a o.ll ++ [o.tk] ++ tkX b (o.lv + 1))
def shX : Ex → Nat → Str
  | .num n, _ => num n
  | .name x, _ => x
  | .rows, _ => "rows"
  | .cols, _ => "cols"
  | .un .neg a, _ => "-" ++ shX a 5
  | .un .not a, l => parX (decide (2 < l)) ("not " ++ shX a 2)
  | .bin .black a b, _ => "black(" ++ shX a 0 ++ ", " ++ shX b 0 ++ ")"
  | .bin o a b, l => parX (decide (o.lv < l)) (shX a o.ll ++ " " ++ o.w ++ " " ++ shX b (o.lv + 1))
theorem tkX_bin {o : Bi} (h : o ≠ .black) (a b : Ex) (l : Nat) : tkX (.bin o a b) l = parT (decide (o.lv < l)) (tkX a o.ll ++ [o.tk] ++ tkX b (o.lv + 1)) := by
  cases o with
  | black => exact absurd rfl h
  | _ => rfl
theorem shX_bin {o : Bi} (h : o ≠ .black) (a b : Ex) (l : Nat) : shX (.bin o a b) l = parX (decide (o.lv < l)) (shX a o.ll ++ " " ++ o.w ++ " " ++ shX b (o.lv + 1)) := by
  cases o with
  | black => exact absurd rfl h
  | _ => rfl
theorem G.ofPar {c : Bool} {d l m : Nat} {e : Ex} {t : List Tk} (h : G d m e t) (hc : c = false → l ≤ m) (hl : l ≤ 5) : G (d + 1) l e (parT c t) := by
  cases c with
  | true => exact (G.par (h.le (Nat.zero_le _))).le hl
  | false => exact (h.mono (Nat.le_succ d)).le (hc rfl)
theorem G.tkX : ∀ (e : Ex) (l : Nat), l ≤ 5 → ∀ d, 2 * dpE e ≤ d → G d l e (tkX e l)
  | .num n, l, h, d, _ => (G.num n).le h
  | .name x, l, h, d, _ => (G.name x).le h
  | .rows, l, h, d, _ => G.rows.le h
  | .cols, l, h, d, _ => G.cols.le h
  | .un .neg a, l, h, d, q => by
    have q' : 2 * (dpE a + 1) ≤ d := q
    obtain ⟨k, rfl⟩ : ∃ k, d = k + 1 := ⟨d - 1, by omega⟩
    exact (G.neg (G.tkX a 5 (by decide) k (by omega))).le h
  | .un .not a, l, h, d, q => by
    have q' : 2 * (dpE a + 1) ≤ d := q
    obtain ⟨k, rfl⟩ : ∃ k, d = k + 2 := ⟨d - 2, by omega⟩
    exact (G.not (d := k) (G.tkX a 2 (by decide) k (by omega))).ofPar (fun q => by have := of_decide_eq_false q; omega) h
  | .bin o a b, l, h, d, q => by
    have q' : 2 * (max (dpE a) (dpE b) + 1) ≤ d := q
    obtain ⟨k, rfl⟩ : ∃ k, d = k + 1 := ⟨d - 1, by omega⟩
    by_cases hb : o = .black
    · subst hb
      exact (G.black (G.tkX a 0 (by decide) k (by omega)) (G.tkX b 0 (by decide) k (by omega))).le h
    · rw [tkX_bin hb]
      have hlt : o.lv < 5 := by
        cases o with
        | black => exact absurd rfl hb
        | _ => decide
      have g : G k o.lv (.bin o a b) (KD.tkX a o.ll ++ [o.tk] ++ KD.tkX b (o.lv + 1)) := by
        by_cases h2 : o.lv = 2
        · have e1 : o.ll = 3 := by unfold Bi.ll; rw [if_pos h2]
          have e2 : o.lv + 1 = 3 := by omega
          have ga := G.tkX a o.ll (by rw [e1]; decide) k (by omega)
          have gb := G.tkX b (o.lv + 1) (by rw [e2]; decide) k (by omega)
          rw [e1] at ga ⊢
          rw [e2] at gb ⊢
          have q := G.cmp h2 ga gb
          rw [h2]
          exact q
        · have e1 : o.ll = o.lv := by unfold Bi.ll; rw [if_neg h2]
          have ga := G.tkX a o.ll (by omega) k (by omega)
          have gb := G.tkX b (o.lv + 1) (by omega) k (by omega)
          rw [e1] at ga ⊢
          exact G.left hlt h2 ga gb
      exact g.ofPar (fun q => by have := of_decide_eq_false q; omega) h
end KD

namespace KD
open PySem L2 TL
def top (i : Nat) : Stmt := PySem.Challenge.pw_strokes_k02_whole_expressions.main.body.getD i (.Pass ⟨0, 0, 0, 0⟩)
abbrev S_InvalidText___init__ : Stmt := inClass (top 3) 0
abbrev S_placed_words : Stmt := top 16
abbrev S_check_text : Stmt := top 17
abbrev S_word_at : Stmt := top 18
abbrev S_signs_at : Stmt := top 19
abbrev S_run_end : Stmt := top 20
abbrev S_kind_of : Stmt := top 21
abbrev S_is_number : Stmt := top 22
abbrev S_Reader___init__ : Stmt := inClass (top 26) 0
abbrev S_Reader_kind : Stmt := inClass (top 26) 1
abbrev S_Reader_word : Stmt := inClass (top 26) 2
abbrev S_Reader_place : Stmt := inClass (top 26) 3
abbrev S_Reader_taken : Stmt := inClass (top 26) 4
abbrev S_Reader_passes : Stmt := inClass (top 26) 5
abbrev S_Reader_must_pass : Stmt := inClass (top 26) 6
abbrev S_Reader_name : Stmt := inClass (top 26) 7
abbrev S_Reader_go_in : Stmt := inClass (top 26) 8
abbrev S_Reader_come_out : Stmt := inClass (top 26) 9
abbrev S_Reader_program : Stmt := inClass (top 26) 10
abbrev S_Reader_definition : Stmt := inClass (top 26) 11
abbrev S_Reader_arguments : Stmt := inClass (top 26) 12
abbrev S_Reader_block : Stmt := inClass (top 26) 13
abbrev S_Reader_statements : Stmt := inClass (top 26) 14
abbrev S_Reader_statement : Stmt := inClass (top 26) 15
abbrev S_Reader_set_name : Stmt := inClass (top 26) 16
abbrev S_Reader_last_value : Stmt := inClass (top 26) 17
abbrev S_Reader_other_block : Stmt := inClass (top 26) 18
abbrev S_Reader_passed : Stmt := inClass (top 26) 19
abbrev S_Reader_expression : Stmt := inClass (top 26) 20
abbrev S_Reader_joined : Stmt := inClass (top 26) 21
abbrev S_Reader_denied : Stmt := inClass (top 26) 22
abbrev S_Reader_part : Stmt := inClass (top 26) 23
abbrev S_Reader_nest : Stmt := inClass (top 26) 24
abbrev S_read : Stmt := top 28
abbrev S__law_taken : Stmt := top 30
abbrev S__law_pick : Stmt := top 31
abbrev S__law_alike : Stmt := top 32
abbrev S__law_bare : Stmt := top 33
abbrev S__law_bound : Stmt := top 34
abbrev S_law : Stmt := top 35
end KD

/-! The law's own drawing of programs: each def walked once. -/
namespace KD
open PySem L2 TL
/-- the built-ins' names are free -/
structure Blt (mg : Str → Option Value) : Prop where
  len : mg "len" = none
  int : mg "int" = none
  isi : mg "isinstance" = none
  str : mg "str" = none
  tup : mg "tuple" = none
  list : mg "list" = none
  range : mg "range" = none
  bool : mg "bool" = none
/-! ### the row of draws -/
def rowO (s : Addr) (i a b : Int) : HO := .lst [.ref s, .int i, .int a, .int b]
def RowAt (H : Hp) (r s : Addr) : Prop := ∃ i a b : Int, H r = some (rowO s i a b) ∧ 0 ≤ i ∧ 0 ≤ a ∧ a < 2147483647
/-- all that was tracked is kept, but at r -/
def Keep (r : Addr) (H H' : Hp) : Prop := ∀ b o, b ≠ r → H b = some o → H' b = some o
theorem Keep.refl (r : Addr) (H : Hp) : Keep r H H := fun _ _ _ h => h
theorem Keep.trans {r : Addr} {H H1 H2 : Hp} (a : Keep r H H1) (b : Keep r H1 H2) : Keep r H H2 := fun c o n h => b c o n (a c o n h)
theorem Keep.upd (r : Addr) (H : Hp) (o : HO) : Keep r H (upd H r o) := fun b u n h => by rw [upd_ne n]; exact h
theorem Keep.new {r p : Addr} {H : Hp} (h : H p = none) (o : HO) : Keep r H (L2.upd H p o) := fun b u _ q => by rw [upd_ne (ne_of_none q h)]; exact q
def Scr (K : PySem.W.Frag) (H : Hp) (r s : Addr) : Prop := ∃ ns : List Int, ns.length ≤ 63 ∧ ∀ H', Keep r H H' → SqL K H' s (ns.map V.int)
theorem Scr.mono {K : PySem.W.Frag} {H H' : Hp} {r s : Addr} (h : Scr K H r s) (k : Keep r H H') : Scr K H' r s := by
  obtain ⟨ns, h1, h2⟩ := h
  exact ⟨ns, h1, fun H2 k2 => h2 H2 (k.trans k2)⟩
theorem upd2 {H : Hp} {r : Addr} {o u : HO} : upd (upd H r o) r u = upd H r u := upd_upd

/-! ### promises -/
def spTaken (K : PySem.W.Frag) : Sp := fun vs H Q _ => ∃ (r s : Addr) (many : Int), vs = [.ref r, .int many] ∧ RowAt H r s ∧ Scr K H r s ∧ 1 ≤ many ∧ many ≤ 1000000 ∧
  ∀ (H' : Hp) (v : Int), Keep r H H' → RowAt H' r s → 0 ≤ v → v < many → Q (.int v) H'
def spPick (K : PySem.W.Frag) : Sp := fun vs H Q _ => ∃ (r s : Addr) (x : V), vs = [.ref r, x] ∧ RowAt H r s ∧ Scr K H r s ∧
  ((∃ (p : Addr) (xs : List V), x = .ref p ∧ p ≠ r ∧ H p = some (.lst xs) ∧ 1 ≤ xs.length ∧ xs.length ≤ 1000 ∧ ∀ (H' : Hp) (v : V), Keep r H H' → RowAt H' r s → v ∈ xs → Q v H') ∨
   (∃ z : Str, x = .str z ∧ 1 ≤ z.length ∧ z.length ≤ 1000 ∧ ∀ (H' : Hp) (c : Nat), Keep r H H' → RowAt H' r s → c ∈ tl z → Q (.str ⟨#[c]⟩) H'))

section
variable {P : Program} {w : World} {K : PySem.W.Frag} {mg : Str → Option Value} {base : Heap}
theorem scTaken : FnScope ["row", "many", "found", "cell"] ["row", "many"] (defScope S__law_taken) := ⟨rfl, rfl, rfl, by decide +kernel, rfl, by decide +kernel, by decide +kernel⟩
theorem ok_taken {f : Addr} {fd : FuncData} (F : Fun K "_law_taken" "_law_taken" S__law_taken f fd) (T : Blt mg) : FnOk P w K mg base CX0 1 f fd ["row", "many"] (spTaken K) := by
  refine F.ok scTaken (fun vs H Q E h => ?_) (fun cdv A outer s0 H vs Q E hr h => ?_)
  · obtain ⟨r, s, many, rfl, _⟩ := h
    rfl
  obtain ⟨r, s, many, rfl, ⟨i, a, b, hR, hi, ha, ha2⟩, ⟨ns, hns, hS⟩, hm1, hm2, k⟩ := h
  refine ⟨_, pss_cons (ps_if (pt_cmpR op_gt (pe_ix ix_list (pv 0) pe_int (fun _ _ => rfl)) pe_int (nomark _))
      (pss_cons (ps_set (i := 2) scTaken.nd rfl (Or.inl rfl) (pe_op op_mod (pe_callTy call_int1 (by rfl) T.int (by decide +kernel) (pa_cons (pe_ix ix_list (pv 0) pe_int (fun _ _ => rfl)) pa_nil)) (pv 1)))
      (pss_cons (ps_asg (pe_op op_fdiv (pe_ix ix_list (pv 0) pe_int (fun _ _ => rfl)) (pv 1)) (pg_sub (pv 0) pe_int set_list))
      (pss_one (ps_ret (pv 2))))) pss_nil)
    (pss_cons (ps_asg (pe_op op_add (pe_ix ix_list (pv 0) pe_int (fun _ _ => rfl)) pe_int) (pg_sub (pv 0) pe_int set_list))
    (pss_cons (ps_if (pt_cmpR op_gt (pe_ix ix_list (pv 0) pe_int (fun _ _ => rfl)) (pe_callB call_len_seq (by rfl) T.len PySem.boot_len (pa_cons (pe_ix ix_list (pv 0) pe_int (fun _ _ => rfl)) pa_nil)) (nomark _))
      (pss_cons (ps_asg (pe_op op_mod (pe_callTy call_int1 (by rfl) T.int (by decide +kernel) (pa_cons (pe_op op_add (pe_op op_mul (pe_ix ix_list (pv 0) pe_int (fun _ _ => rfl)) pe_int) pe_int) pa_nil)) pe_int) (pg_sub (pv 0) pe_int set_list))
      (pss_one (ps_ret (pe_op op_mod (pe_callTy call_int1 (by rfl) T.int (by decide +kernel) (pa_cons (pe_op op_fdiv (pe_ix ix_list (pv 0) pe_int (fun _ _ => rfl)) pe_int) pa_nil)) (pv 1))))) pss_nil)
    (pss_cons (ps_set (i := 3) scTaken.nd rfl (Or.inl rfl) (pe_ix ix_list (pe_ix ix_list (pv 0) pe_int (fun _ _ => rfl)) (pe_op op_sub (pe_ix ix_list (pv 0) pe_int (fun _ _ => rfl)) pe_int) (fun _ _ => rfl)))
    (pss_cons (ps_asg (pe_op op_mod (pe_callTy call_int1 (by rfl) T.int (by decide +kernel) (pa_cons (pe_op op_add (pe_op op_add (pe_op op_mul (pe_ix ix_list (pv 0) pe_int (fun _ _ => rfl)) pe_int) (pv 3)) pe_int) pa_nil)) pe_int) (pg_sub (pv 0) pe_int set_list))
    (pss_cons (ps_if (pt_cmpR op_ge (pv 3) (pe_op op_pow pe_int pe_int) (nomark _))
      (pss_one (ps_asg (pe_op op_fdiv (pv 3) (pv 1)) (pg_sub (pv 0) pe_int set_list))) pss_nil)
    (pss_one (ps_ret (pe_op op_mod (pe_callTy call_int1 (by rfl) T.int (by decide +kernel) (pa_cons (pv 3) pa_nil)) (pv 1))))))))), ?_⟩
  have hm : (0 : Int) < many := by omega
  have hdv : (0 : Int) < many ∧ many < 1073741824 := ⟨hm, by omega⟩
  -- row[3] > 0
  refine ⟨_, rfl, r, _, _, _, rfl, rfl, SqL.of hR, rfl, _, _, rfl, rfl, _, rfl, ?_⟩
  refine ite2 (fun c => ?_) (fun c => ?_)
  · have hb : b > 0 := of_decide_eq_true c
    refine ⟨_, rfl, r, _, _, _, rfl, rfl, SqL.of hR, rfl, .inl ⟨_, rfl, _, rfl, _, _, rfl, rfl, hm, ?_⟩⟩
    refine ⟨_, rfl, r, _, _, _, rfl, rfl, SqL.of hR, rfl, _, rfl, _, _, rfl, rfl, hdv, _, rfl, r, _, _, 3, rfl, rfl, hR, rfl, ?_⟩
    refine ⟨_, rfl, ?_⟩
    exact k _ _ (Keep.upd r H _) ⟨i, a, b / many, upd_same, hi, ha, ha2⟩ (Int.emod_nonneg _ (by omega)) (Int.emod_lt_of_pos _ hm)
  · -- row[1] = row[1] + 1
    refine ⟨_, rfl, r, _, _, _, rfl, rfl, SqL.of hR, rfl, _, _, rfl, rfl, _, rfl, r, _, _, 1, rfl, rfl, hR, rfl, ?_⟩
    have k1 : Keep r H (upd H r (rowO s (i + 1) a b)) := Keep.upd r H _
    have hR1 : (upd H r (rowO s (i + 1) a b)) r = some (.lst [.ref s, .int (i + 1), .int a, .int b]) := upd_same
    have hS1 := hS _ k1
    -- if row[1] > len(row[0])
    refine ⟨_, rfl, r, _, _, _, rfl, rfl, SqL.of hR1, rfl, _, rfl, r, _, _, _, rfl, rfl, SqL.of hR1, rfl, s, _, rfl, .inl hS1, _, _, rfl, rfl, _, rfl, ?_⟩
    refine ite2 (fun c1 => ?_) (fun c1 => ?_)
    · refine ⟨_, rfl, r, _, _, _, rfl, rfl, SqL.of hR1, rfl, _, _, rfl, rfl, .inl ⟨by omega, by omega⟩, _, _, rfl, rfl, .inl ⟨_, rfl, _, _, rfl, rfl, (by show (0 : Int) < 2147483647; decide), _, rfl, r, _, _, 2, rfl, rfl, hR1, rfl, ?_⟩⟩
      rw [upd2]
      have hR2 : (upd H r (.lst [.ref s, .int (i + 1), .int ((a * 48271 + 11) % 2147483647), .int b])) r = some (.lst [.ref s, .int (i + 1), .int ((a * 48271 + 11) % 2147483647), .int b]) := upd_same
      refine ⟨_, rfl, r, _, _, _, rfl, rfl, SqL.of hR2, rfl, _, _, rfl, rfl, ⟨by decide, by decide⟩, .inl ⟨_, rfl, _, rfl, _, _, rfl, rfl, hm, ?_⟩⟩
      exact k _ _ (Keep.upd r H _) ⟨i + 1, (a * 48271 + 11) % 2147483647, b, upd_same, by omega, by omega, by omega⟩ (Int.emod_nonneg _ (by omega)) (Int.emod_lt_of_pos _ hm)
    · have c1' : ¬ (i + 1 > (((ns.map V.int).length : Nat) : Int)) := of_decide_eq_false (Bool.eq_false_iff.mpr c1)
      rw [List.length_map] at c1'
      have hlt : i.toNat < ns.length := by omega
      have ei : i + 1 - 1 = ((i.toNat : Nat) : Int) := by omega
      have q : atI (ns.map V.int) (i + 1 - 1) = some (.int ns[i.toNat]) := by
        rw [ei]
        exact atI_nat (by rw [List.getElem?_map, List.getElem?_eq_getElem hlt] <;> rfl)
      generalize ns[i.toNat] = cell at q
      refine ⟨_, rfl, r, _, _, _, rfl, rfl, SqL.of hR1, rfl, _, rfl, r, _, _, _, rfl, rfl, SqL.of hR1, rfl, _, _, rfl, rfl, s, _, _, _, rfl, rfl, hS1, q, ?_⟩
      refine ⟨_, rfl, r, _, _, _, rfl, rfl, SqL.of hR1, rfl, _, _, rfl, rfl, .inl ⟨by omega, by omega⟩, _, rfl, _, _, rfl, rfl, _, _, rfl, rfl, .inl ⟨_, rfl, _, _, rfl, rfl, (by show (0 : Int) < 2147483647; decide), _, rfl, r, _, _, 2, rfl, rfl, hR1, rfl, ?_⟩⟩
      rw [upd2]
      have hR2 : (upd H r (.lst [.ref s, .int (i + 1), .int ((a * 48271 + cell + 11) % 2147483647), .int b])) r = some (.lst [.ref s, .int (i + 1), .int ((a * 48271 + cell + 11) % 2147483647), .int b]) := upd_same
      refine ⟨_, rfl, _, _, rfl, rfl, ⟨by decide, by decide, by decide⟩, _, _, rfl, rfl, _, rfl, ?_⟩
      refine ite2 (fun c2 => ?_) (fun c2 => ?_)
      · refine ⟨_, rfl, _, rfl, _, _, rfl, rfl, hdv, _, rfl, r, _, _, 3, rfl, rfl, hR2, rfl, ?_⟩
        rw [upd2]
        refine ⟨_, rfl, .inl ⟨_, rfl, _, rfl, _, _, rfl, rfl, hm, ?_⟩⟩
        exact k _ _ (Keep.upd r H _) ⟨i + 1, (a * 48271 + cell + 11) % 2147483647, cell / many, upd_same, by omega, by omega, by omega⟩ (Int.emod_nonneg _ (by omega)) (Int.emod_lt_of_pos _ hm)
      · refine ⟨_, rfl, .inl ⟨_, rfl, _, rfl, _, _, rfl, rfl, hm, ?_⟩⟩
        exact k _ _ (Keep.upd r H _) ⟨i + 1, (a * 48271 + cell + 11) % 2147483647, b, upd_same, by omega, by omega, by omega⟩ (Int.emod_nonneg _ (by omega)) (Int.emod_lt_of_pos _ hm)
/-! ### _law_pick -/
theorem scPick : FnScope ["row", "things"] ["row", "things"] (defScope S__law_pick) := ⟨rfl, rfl, rfl, by decide +kernel, rfl, by decide +kernel, by decide +kernel⟩
theorem atI_int {α : Type} {xs : List α} {v : Int} (h0 : 0 ≤ v) (h1 : v < xs.length) : ∃ y, atI xs v = some y ∧ y ∈ xs := by
  have hlt : v.toNat < xs.length := by omega
  have e : v = ((v.toNat : Nat) : Int) := by omega
  refine ⟨xs[v.toNat], ?_, List.getElem_mem hlt⟩
  have q : atI xs ((v.toNat : Nat) : Int) = some xs[v.toNat] := atI_nat (List.getElem?_eq_getElem hlt)
  rw [← e] at q
  exact q
theorem ok_pick {f fT : Addr} {fd fdT : FuncData} (F : Fun K "_law_pick" "_law_pick" S__law_pick f fd) (T : Blt mg) (GT : FnOk P w K mg base CX0 1 fT fdT ["row", "many"] (spTaken K)) (mT : mg "_law_taken" = some (.ref fT)) (kT : PySem.W.keepIn K (.ref fT) = true) (bT : Binds K fdT ["row", "many"] []) :
    FnOk P w K mg base CX0 2 f fd ["row", "things"] (spPick K) := by
  refine F.ok scPick (fun vs H Q E h => ?_) (fun cdv A outer s0 H vs Q E hr h => ?_)
  · obtain ⟨r, s, x, rfl, _⟩ := h
    rfl
  obtain ⟨r, s, x, rfl, hR, hS, h⟩ := h
  rcases h with ⟨p, xs, rfl, hpr, hp, hl1, hl2, k⟩ | ⟨z, rfl, hl1, hl2, k⟩
  · refine ⟨_, pss_one (ps_ret (pe_ix ix_list (pv 1) (pe_call GT hr rfl mT kT bT .nil pass0 (pa_cons (pv 0) (pa_cons (pe_callB call_len_seq (by rfl) T.len PySem.boot_len (pa_cons (pv 1) pa_nil)) pa_nil))) (fun _ _ => rfl))), ?_⟩
    refine ⟨_, rfl, _, rfl, _, rfl, p, xs, rfl, .inl (SqL.of hp), r, s, (xs.length : Int), rfl, hR, hS, by omega, by omega, fun H' v kp hR' h0 h1 => ?_⟩
    obtain ⟨y, hy, my⟩ := atI_int (xs := xs) h0 h1
    exact ⟨p, xs, v, y, rfl, rfl, SqL.of (kp p _ hpr hp), hy, k H' y kp hR' my⟩
  · refine ⟨_, pss_one (ps_ret (pe_ix ix_str (pv 1) (pe_call GT hr rfl mT kT bT .nil pass0 (pa_cons (pv 0) (pa_cons (pe_callB call_len_str (by rfl) T.len PySem.boot_len (pa_cons (pv 1) pa_nil)) pa_nil))) (fun _ _ => rfl))), ?_⟩
    have hz : z.length ≤ sizeLine := Nat.le_trans hl2 (by decide)
    refine ⟨_, rfl, _, rfl, _, rfl, z, rfl, hz, r, s, (z.length : Int), rfl, hR, hS, by omega, by omega, fun H' v kp hR' h0 h1 => ?_⟩
    obtain ⟨c, hc, mc⟩ := atI_int (xs := tl z) h0 (by rw [← len_tl]; exact h1)
    exact ⟨z, v, c, rfl, rfl, hz, hc, k H' c kp hR' mc⟩

/-! ### expressions -/
def allN : List Str := ["a", "b", "c", "long", "i", "j", "p", "q"]
def nmsOk (ns : List Str) : Prop := ∀ x ∈ ns, x ∈ allN
theorem allN_ok : ∀ x ∈ allN, PyData.strOk x = true := by decide +kernel
theorem dp_strs {H : Hp} : ∀ l : List Str, DpAll K H (l.map V.str) (l.map PyData.str)
  | [] => .nil
  | x :: l => .cons (.str x) (dp_strs l)
theorem lay_strs : ∀ {l : List Str}, nmsOk l → PyData.canLayAll0 (l.map PyData.str) = true
  | [], _ => rfl
  | x :: l, h => by
    show (PyData.strOk x && PyData.canLayAll0 (l.map PyData.str)) = true
    rw [allN_ok x (h x List.mem_cons_self), lay_strs (l := l) fun y hy => h y (List.mem_cons_of_mem _ hy)]
    rfl
theorem depth_strs : ∀ (l : List Str), PyData.depthAll (l.map PyData.str) ≤ 1
  | [] => by decide
  | x :: l => by
    have ih := depth_strs l
    show max (PyData.depth (.str x)) (PyData.depthAll (l.map PyData.str)) ≤ 1
    have : PyData.depth (.str x) ≤ 1 := by first | decide | exact Nat.le_refl _ | simp [PyData.depth]
    omega
theorem shaped_strs {l : List Str} (h : nmsOk l) : SeqAt.shaped (.list (l.map PyData.str)) = true := by
  unfold SeqAt.shaped
  rw [Bool.and_eq_true, decide_eq_true_iff]
  refine ⟨lay_strs h, ?_⟩
  have := depth_strs l
  show PyData.depthAll (l.map PyData.str) + 1 ≤ 64
  omega
theorem eqv_nil : ∀ l : List PyData, PyData.eqv (.list l) (.list []) = l.isEmpty
  | [] => rfl
  | x :: l => by rw [PyData.eqv]; rfl
theorem RowAt.is {H : Hp} {r s : Addr} (h : RowAt H r s) : ∃ xs, H r = some (.lst xs) := by
  obtain ⟨i, a, b, h, _⟩ := h
  exact ⟨_, h⟩
theorem RowAt.new {H : Hp} {r s p : Addr} (h : RowAt H r s) (hp : H p = none) (o : HO) : RowAt (upd H p o) r s := by
  obtain ⟨i, a, b, h, h2⟩ := h
  exact ⟨i, a, b, by rw [upd_ne (ne_of_none h hp)]; exact h, h2⟩
theorem RowAt.ne {H : Hp} {r s p : Addr} (h : RowAt H r s) (hp : H p = none) : p ≠ r := by
  obtain ⟨xs, h⟩ := h.is
  exact (ne_of_none h hp).symm
theorem RowAt.kt {H H' : Hp} {r s : Addr} (h : RowAt H r s) (k : Keep r H H') : KT K H H' := by
  obtain ⟨xs, hx⟩ := h.is
  exact KT.of fun a o q n => k a o (fun e => by rw [e, hx] at q; exact n xs (Option.some.inj q).symm) q
theorem in_strs (w : Str) : ∀ l : List Str, inV (.str w) (l.map V.str) = decide (w ∈ l)
  | [] => by simp [inV]
  | a :: l => by
    have ih := in_strs w l
    unfold inV at ih ⊢
    rw [List.map_cons, List.any_cons, ih]
    have e : eqV (.str a) (.str w) = decide (a = w) := by
      show (a == w) = _
      rw [Bool.eq_iff_iff]
      simp
    rw [e, Bool.eq_iff_iff]
    simp only [Bool.or_eq_true, decide_eq_true_eq, List.mem_cons]
    constructor
    · rintro (h | h)
      · exact Or.inl h.symm
      · exact Or.inr h
    · rintro (h | h)
      · exact Or.inl h.symm
      · exact Or.inr h
theorem flat_strs (l : List Str) : (l.map V.str).all flatV = true := by
  rw [List.all_eq_true]
  intro x hx
  obtain ⟨s, _, rfl⟩ := List.mem_map.mp hx
  rfl
theorem strs_mem {v : V} {l : List Str} (h : v ∈ l.map V.str) : ∃ k, v = .str k ∧ k ∈ l := by
  obtain ⟨k, hk, e⟩ := List.mem_map.mp h
  exact ⟨k, e.symm, hk⟩
def numN : List Nat := [0, 1, 1, 2, 2, 3, 4, 7, 31, 999999]
theorem num_mem {v : V} (h : v ∈ numN.map fun n => V.int ((n : Nat) : Int)) : ∃ n : Nat, v = .int ((n : Nat) : Int) ∧ n < 1000000 := by
  obtain ⟨n, hn, e⟩ := List.mem_map.mp h
  exact ⟨n, e.symm, (by decide : ∀ n ∈ numN, n < 1000000) n hn⟩
def un2 : List Str := ["neg", "not"]
def bi13 : List Str := ["or", "and", "<", "<=", "=", "!=", "+", "-", "+", "-", "*", "/", "mod"]
theorem un_mem : ∀ x ∈ un2, ∃ o : Un, o.w = x := by
  intro x hx
  simp only [un2, List.mem_cons, List.not_mem_nil, or_false] at hx
  rcases hx with rfl | rfl
  · exact ⟨.neg, rfl⟩
  · exact ⟨.not, rfl⟩
theorem bi_mem : ∀ x ∈ bi13, ∃ o : Bi, o.w = x := by
  intro x hx
  simp only [bi13, List.mem_cons, List.not_mem_nil, or_false] at hx
  rcases hx with rfl | rfl | rfl | rfl | rfl | rfl | rfl | rfl | rfl | rfl | rfl | rfl | rfl
  · exact ⟨.or, rfl⟩
  · exact ⟨.and, rfl⟩
  · exact ⟨.lt, rfl⟩
  · exact ⟨.le, rfl⟩
  · exact ⟨.eq, rfl⟩
  · exact ⟨.ne, rfl⟩
  · exact ⟨.add, rfl⟩
  · exact ⟨.sub, rfl⟩
  · exact ⟨.add, rfl⟩
  · exact ⟨.sub, rfl⟩
  · exact ⟨.mul, rfl⟩
  · exact ⟨.div, rfl⟩
  · exact ⟨.mod, rfl⟩
end
end KD

namespace KD
open PySem L2 TL
open K0 (num)
theorem dp_tup {K : PySem.W.Frag} {H : Hp} {v : V} {ds : List PyData} (h : Dp K H v (.tuple ds)) : ∃ a xs, v = .ref a ∧ SqT K H a xs ∧ DpAll K H xs ds := by
  cases h with
  | tup h1 h2 => exact ⟨_, _, rfl, h1, h2⟩
theorem dp_cons {K : PySem.W.Frag} {H : Hp} {xs : List V} {d : PyData} {ds : List PyData} (h : DpAll K H xs (d :: ds)) : ∃ v vs, xs = v :: vs ∧ Dp K H v d ∧ DpAll K H vs ds := by
  cases h with
  | cons h1 h2 => exact ⟨_, _, rfl, h1, h2⟩
theorem dp_nil {K : PySem.W.Frag} {H : Hp} {xs : List V} (h : DpAll K H xs []) : xs = [] := by cases h; rfl
theorem dp_str {K : PySem.W.Frag} {H : Hp} {v : V} {x : Str} (h : Dp K H v (.str x)) : v = .str x := by cases h; rfl
theorem dp_int {K : PySem.W.Frag} {H : Hp} {v : V} {x : Int} (h : Dp K H v (.int x)) : v = .int x := by cases h; rfl
theorem sums (a b : Str) : (a ++ b).length = a.length + b.length := by rw [len_tl, tl_append, List.length_append, ← len_tl, ← len_tl]
theorem dec_str (a b : Str) : decide (V.str a = V.str b) = decide (a = b) := by
  rw [Bool.eq_iff_iff, decide_eq_true_iff, decide_eq_true_iff]
  exact ⟨fun q => V.str.inj q, fun q => by rw [q]⟩
theorem same_new {H : Hp} {p : Addr} (h : H p = none) (o : HO) : Same H (upd H p o) := fun b u q => by rw [upd_ne (ne_of_none q h)]; exact q
theorem log_small {m : Nat} (h : m < 1000000) : (((m : Nat) : Int)).natAbs.log2 < 1920 := by
  rw [Int.natAbs_natCast]
  by_cases h0 : m = 0
  · subst h0; decide
  · have q : m.log2 < 20 := (Nat.log2_lt h0).mpr (by omega)
    omega
def n3 : List Str := ["name", "rows", "cols"]
def Bi.lw (o : Bi) : LW := .wd o.tk.1 o.tk.2
theorem Bi.tk_w (o : Bi) : o.tk.2 = o.w := by cases o <;> rfl
theorem Bi.lit (o : Bi) : litOk .both [.bl " ", o.lw, .bl " "] = true := by cases o <;> decide +kernel
theorem Bi.not (o : Bi) (h : o ≠ .black) : ¬ (o.w = "num") ∧ o.w ∉ n3 ∧ ¬ (o.w = "black") ∧ o.w ∉ un2 := by
  cases o with
  | black => exact absurd rfl h
  | _ => decide +kernel
theorem Bi.len (o : Bi) : o.w.length ≤ 5 := by cases o <;> decide +kernel
theorem tk_bin {o : Bi} (h : o ≠ .black) (a b : Ex) : tkE (.bin o a b) = [kM "("] ++ tkE a ++ [o.tk] ++ tkE b ++ [kM ")"] := by
  cases o with
  | black => exact absurd rfl h
  | _ => rfl
theorem Bi.litF (o : Bi) : litF .both [.bl " ", o.lw, .bl " "] = .free := by cases o <;> rfl
section
variable {P : Program} {w : World} {K : PySem.W.Frag} {mg : Str → Option Value} {base : Heap}
/-! ### _law_part -/
def spPart (K : PySem.W.Frag) (n : Nat) : Sp := fun vs H Q _ => ∃ (x v : V) (e : Ex), vs = [x, v] ∧ Dp K H v e.d ∧ wfE e ∧ dpE e < n ∧ n ≤ 12 ∧
  ∀ (H' : Hp) (X : Str), Same H H' → PartT X (tkE e) → X.length ≤ pl (dpE e) → Q (.str X) H'
theorem pl_mono : ∀ {a b : Nat}, a ≤ b → pl a ≤ pl b
  | 0, 0, _ => Nat.le_refl _
  | 0, b + 1, _ => by
    have := pl_mono (a := 0) (b := b) (Nat.zero_le _)
    show pl 0 ≤ 2 * pl b + 10
    omega
  | a + 1, b + 1, h => by
    have := pl_mono (a := a) (b := b) (by omega)
    show 2 * pl a + 10 ≤ 2 * pl b + 10
    omega
theorem pl_small {a : Nat} (h : a ≤ 12) : pl a ≤ 100000 := Nat.le_trans (pl_mono h) (by decide)
end
end KD

/-! What a tree needs to be printed; how long its text is at most; texts with a prefix. -/
namespace KD
open PySem L2 TL
open K0 (num)
def eOk (e : Ex) : Prop := wfE e ∧ dpE e ≤ 11
mutual
def wfS : St → Prop
  | .row e => eOk e
  | .col e => eOk e
  | .say e => eOk e
  | .set x e => nameW x = true ∧ eOk e
  | .ite c a b => eOk c ∧ wfB a ∧ wfB b
  | .whl c a => eOk c ∧ wfB a
  | .for_ x a b s => nameW x = true ∧ eOk a ∧ eOk b ∧ wfB s
  | .call f es => nameW f = true ∧ es.length ≤ 100 ∧ ∀ e ∈ es, eOk e
  | .stop => True
def wfB : List St → Prop
  | [] => True
  | s :: b => wfS s ∧ wfB b
end
mutual
def dpS : St → Nat
  | .ite _ a b => max (dpB a) (dpB b) + 1
  | .whl _ a => dpB a + 1
  | .for_ _ _ _ s => dpB s + 1
  | _ => 0
def dpB : List St → Nat
  | [] => 0
  | s :: b => max (dpS s) (dpB b)
end
def lenEs : List Ex → Nat
  | [] => 0
  | e :: es => pl (dpE e) + 1 + lenEs es
mutual
def lenS : St → Nat
  | .row e => 6 + pl (dpE e)
  | .col e => 6 + pl (dpE e)
  | .say e => 6 + pl (dpE e)
  | .set _ e => 14 + pl (dpE e)
  | .ite c a b => 20 + pl (dpE c) + lenB a + lenB b
  | .whl c a => 20 + pl (dpE c) + lenB a
  | .for_ _ a b s => 30 + pl (dpE a) + pl (dpE b) + lenB s
  | .call _ es => 13 + lenEs es
  | .stop => 6
def lenB : List St → Nat
  | [] => 0
  | s :: b => lenS s + lenB b
end
theorem lenB_append : ∀ (a b : List St), lenB (a ++ b) = lenB a + lenB b
  | [], b => by show lenB b = 0 + lenB b; omega
  | s :: a, b => by
    show lenS s + lenB (a ++ b) = lenS s + lenB a + lenB b
    rw [lenB_append a b]
    omega
theorem tkB_append : ∀ (a b : List St), tkB (a ++ b) = tkB a ++ tkB b
  | [], b => rfl
  | s :: a, b => by
    show tkS s ++ tkB (a ++ b) = tkS s ++ tkB a ++ tkB b
    rw [tkB_append a b, List.append_assoc]
theorem wfB_mem : ∀ {b : List St} {s : St}, wfB b → s ∈ b → wfS s
  | t :: b, s, h, hm => by
    unfold wfB at h
    rcases List.mem_cons.mp hm with e | hm
    · rw [e]; exact h.1
    · exact wfB_mem h.2 hm
theorem dpB_mem : ∀ {b : List St} {s : St}, s ∈ b → dpS s ≤ dpB b
  | t :: b, s, hm => by
    show dpS s ≤ max (dpS t) (dpB b)
    rcases List.mem_cons.mp hm with e | hm
    · rw [e]; exact Nat.le_max_left _ _
    · exact Nat.le_trans (dpB_mem hm) (Nat.le_max_right _ _)
theorem lenB_take : ∀ (b : List St) (i : Nat), lenB (b.take i) ≤ lenB b
  | [], i => by rw [List.take_nil]; exact Nat.le_refl _
  | s :: b, 0 => Nat.zero_le _
  | s :: b, i + 1 => by
    show lenS s + lenB (b.take i) ≤ lenS s + lenB b
    have := lenB_take b i
    omega
/-! ### such trees can be compared -/
theorem nameW_ok {x : Str} (h : nameW x = true) : PyData.strOk x = true := by
  unfold nameW at h
  simp only [Bool.and_eq_true, decide_eq_true_eq, Bool.not_eq_true'] at h
  unfold PyData.strOk
  rw [← Array.all_toList, List.all_eq_true]
  intro c hc
  have q := List.all_eq_true.mp h.1.1.2 c hc
  unfold K0.isLet at q
  simp only [Bool.and_eq_true, decide_eq_true_eq] at q
  exact decide_eq_true (by omega)
theorem Un.ok (o : Un) : PyData.strOk o.w = true := by cases o <;> decide +kernel
theorem Bi.ok (o : Bi) : PyData.strOk o.w = true := by cases o <;> decide +kernel
theorem layE : ∀ {e : Ex}, wfE e → PyData.canLay0 e.d = true ∧ PyData.depth e.d ≤ dpE e + 1
  | .num n, _ => ⟨by show (PyData.strOk "num" && (true && true)) = true; decide +kernel, Nat.le_refl _⟩
  | .name x, h => by
    refine ⟨?_, Nat.le_refl _⟩
    show (PyData.strOk "name" && (PyData.strOk x && true)) = true
    rw [nameW_ok h]
    decide +kernel
  | .rows, _ => ⟨by decide +kernel, by decide⟩
  | .cols, _ => ⟨by decide +kernel, by decide⟩
  | .un o a, h => by
    obtain ⟨h1, h2⟩ := layE (e := a) h
    refine ⟨?_, ?_⟩
    · show (PyData.strOk o.w && (PyData.canLay0 a.d && true)) = true
      rw [o.ok, h1]
      rfl
    · show max 0 (max (PyData.depth a.d) 0) + 1 ≤ dpE a + 1 + 1
      omega
  | .bin o a b, h => by
    obtain ⟨h1, h2⟩ := layE (e := a) h.1
    obtain ⟨h3, h4⟩ := layE (e := b) h.2
    refine ⟨?_, ?_⟩
    · show (PyData.strOk o.w && (PyData.canLay0 a.d && (PyData.canLay0 b.d && true))) = true
      rw [o.ok, h1, h3]
      rfl
    · show max 0 (max (PyData.depth a.d) (max (PyData.depth b.d) 0)) + 1 ≤ max (dpE a) (dpE b) + 1 + 1
      omega
theorem layEs : ∀ {es : List Ex}, (∀ e ∈ es, eOk e) → PyData.canLayAll0 (es.map Ex.d) = true ∧ PyData.depthAll (es.map Ex.d) ≤ 12
  | [], _ => ⟨rfl, by decide⟩
  | e :: es, h => by
    obtain ⟨h1, h2⟩ := layEs (es := es) fun x hx => h x (List.mem_cons_of_mem _ hx)
    have he := h e List.mem_cons_self
    obtain ⟨h3, h4⟩ := layE he.1
    have h5 := he.2
    refine ⟨?_, ?_⟩
    · show (PyData.canLay0 e.d && PyData.canLayAll0 (es.map Ex.d)) = true
      rw [h3, h1]
      rfl
    · show max (PyData.depth e.d) (PyData.depthAll (es.map Ex.d)) ≤ 12
      omega
mutual
theorem layS : ∀ {s : St}, wfS s → PyData.canLay0 s.d = true ∧ PyData.depth s.d ≤ 2 * dpS s + 14
  | .row e, h => by
    unfold wfS at h
    obtain ⟨h1, h2⟩ := layE h.1
    have h3 := h.2
    refine ⟨?_, ?_⟩
    · show (PyData.strOk "row" && (PyData.canLay0 e.d && true)) = true
      rw [h1]; decide +kernel
    · show max 0 (max (PyData.depth e.d) 0) + 1 ≤ 14
      omega
  | .col e, h => by
    unfold wfS at h
    obtain ⟨h1, h2⟩ := layE h.1
    have h3 := h.2
    refine ⟨?_, ?_⟩
    · show (PyData.strOk "col" && (PyData.canLay0 e.d && true)) = true
      rw [h1]; decide +kernel
    · show max 0 (max (PyData.depth e.d) 0) + 1 ≤ 14
      omega
  | .say e, h => by
    unfold wfS at h
    obtain ⟨h1, h2⟩ := layE h.1
    have h3 := h.2
    refine ⟨?_, ?_⟩
    · show (PyData.strOk "say" && (PyData.canLay0 e.d && true)) = true
      rw [h1]; decide +kernel
    · show max 0 (max (PyData.depth e.d) 0) + 1 ≤ 14
      omega
  | .set x e, h => by
    unfold wfS at h
    obtain ⟨h1, h2⟩ := layE h.2.1
    have h3 := h.2.2
    refine ⟨?_, ?_⟩
    · show (PyData.strOk "let" && (PyData.strOk x && (PyData.canLay0 e.d && true))) = true
      rw [h1, nameW_ok h.1]; decide +kernel
    · show max 0 (max 0 (max (PyData.depth e.d) 0)) + 1 ≤ 14
      omega
  | .ite c a b, h => by
    unfold wfS at h
    obtain ⟨h1, h2⟩ := layE h.1.1
    have h3 := h.1.2
    obtain ⟨h4, h5⟩ := layB h.2.1
    obtain ⟨h6, h7⟩ := layB h.2.2
    refine ⟨?_, ?_⟩
    · show (PyData.strOk "if" && (PyData.canLay0 c.d && (PyData.canLayAll0 (dB a) && (PyData.canLayAll0 (dB b) && true)))) = true
      rw [h1, h4, h6]; decide +kernel
    · show max 0 (max (PyData.depth c.d) (max (PyData.depthAll (dB a) + 1) (max (PyData.depthAll (dB b) + 1) 0))) + 1 ≤ 2 * (max (dpB a) (dpB b) + 1) + 14
      omega
  | .whl c a, h => by
    unfold wfS at h
    obtain ⟨h1, h2⟩ := layE h.1.1
    have h3 := h.1.2
    obtain ⟨h4, h5⟩ := layB h.2
    refine ⟨?_, ?_⟩
    · show (PyData.strOk "while" && (PyData.canLay0 c.d && (PyData.canLayAll0 (dB a) && true))) = true
      rw [h1, h4]; decide +kernel
    · show max 0 (max (PyData.depth c.d) (max (PyData.depthAll (dB a) + 1) 0)) + 1 ≤ 2 * (dpB a + 1) + 14
      omega
  | .for_ x a b s, h => by
    unfold wfS at h
    obtain ⟨h1, h2⟩ := layE h.2.1.1
    have h3 := h.2.1.2
    obtain ⟨h4, h5⟩ := layE h.2.2.1.1
    have h6 := h.2.2.1.2
    obtain ⟨h7, h8⟩ := layB h.2.2.2
    refine ⟨?_, ?_⟩
    · show (PyData.strOk "for" && (PyData.strOk x && (PyData.canLay0 a.d && (PyData.canLay0 b.d && (PyData.canLayAll0 (dB s) && true))))) = true
      rw [h1, h4, h7, nameW_ok h.1]; decide +kernel
    · show max 0 (max 0 (max (PyData.depth a.d) (max (PyData.depth b.d) (max (PyData.depthAll (dB s) + 1) 0)))) + 1 ≤ 2 * (dpB s + 1) + 14
      omega
  | .call f es, h => by
    unfold wfS at h
    obtain ⟨h1, h2⟩ := layEs h.2.2
    refine ⟨?_, ?_⟩
    · show (PyData.strOk "do" && (PyData.strOk f && (PyData.canLayAll0 (es.map Ex.d) && true))) = true
      rw [h1, nameW_ok h.1]; decide +kernel
    · show max 0 (max 0 (max (PyData.depthAll (es.map Ex.d) + 1) 0)) + 1 ≤ 2 * 0 + 14
      omega
  | .stop, _ => ⟨by decide +kernel, by show 0 + 1 ≤ 14; decide⟩
theorem layB : ∀ {b : List St}, wfB b → PyData.canLayAll0 (dB b) = true ∧ PyData.depthAll (dB b) ≤ 2 * dpB b + 14
  | [], _ => ⟨rfl, Nat.zero_le _⟩
  | s :: b, h => by
    unfold wfB at h
    obtain ⟨h1, h2⟩ := layS h.1
    obtain ⟨h3, h4⟩ := layB h.2
    refine ⟨?_, ?_⟩
    · show (PyData.canLay0 s.d && PyData.canLayAll0 (dB b)) = true
      rw [h1, h3]; rfl
    · show max (PyData.depth s.d) (PyData.depthAll (dB b)) ≤ 2 * max (dpS s) (dpB b) + 14
      omega
end
theorem shapedB {b : List St} (h : wfB b) (hd : dpB b ≤ 20) : SeqAt.shaped (.tuple (dB b)) = true := by
  obtain ⟨h1, h2⟩ := layB h
  unfold SeqAt.shaped
  rw [Bool.and_eq_true, decide_eq_true_iff]
  refine ⟨h1, ?_⟩
  show PyData.depthAll (dB b) + 1 ≤ 64
  omega
theorem eqv_nilT : ∀ l : List PyData, PyData.eqv (.tuple l) (.tuple []) = l.isEmpty
  | [] => rfl
  | x :: l => by rw [PyData.eqv]; rfl
/-! ### a text behind any other -/
structure PreT (T : Str) (ws : List Tk) (g : F3) : Prop where
  go : ∀ {T0 : Str} {us : List Tk} {f : F3}, JS T0 us f → JS (T0 ++ T) (us ++ ws) g
/-- a block's text: empty, or it begins with a blank -/
def BlkT (X : Str) (ws : List Tk) : Prop := (X = "" ∧ ws = []) ∨ PreT X ws .both
theorem PreT.blank {T s : Str} {ws : List Tk} {g : F3} (h : PreT T ws g) (hs : blS s = true) : PreT (T ++ s) ws .free := ⟨fun j => by
  rw [assocS]
  exact (h.go j).blank hs⟩
theorem PreT.step {T w k : Str} {ws : List Tk} {f g : F3} (h : PreT T ws f) (wd : Wd g k w) (o : Fol f (tl w)) : PreT (T ++ w) (ws ++ [(k, w)]) g := ⟨fun j => by
  rw [assocS, ← List.append_assoc]
  exact (h.go j).step wd o⟩
theorem PreT.part {T X : Str} {ws vs : List Tk} {f : F3} (h : PreT T ws f) (hX : PartT X vs) (hf : f = .mark ∨ f = .free) : PreT (T ++ X) (ws ++ vs) .both := ⟨fun j => by
  rw [assocS, ← List.append_assoc]
  exact hX.seg (h.go j) (hX.fol hf)⟩
theorem PreT.lit {T X : Str} {ws vs : List Tk} {f g : F3} (h : PreT T ws f) (ps : List LW) (e : X = litT ps) (hw : litW ps = vs) (ho : litOk f ps = true) (hg : litF f ps = g) : PreT (T ++ X) (ws ++ vs) g := ⟨fun j => by
  rw [assocS, ← List.append_assoc, e, ← hw, ← hg]
  exact (h.go j).lit ps ho⟩
theorem PreT.both {T : Str} {ws : List Tk} {f : F3} (h : PreT T ws f) : PreT T ws .both := ⟨fun j => (h.go j).both⟩
theorem BlkT.gap {X s : Str} {ws : List Tk} (h : BlkT X ws) (hs : blS s = true) : PreT (X ++ s) ws .free := by
  rcases h with ⟨rfl, rfl⟩ | h
  · refine ⟨fun {T0 us f} j => ?_⟩
    rw [assocS, nilS, List.append_nil]
    exact j.blank hs
  · exact h.blank hs
theorem PreT.blk {T X : Str} {ws vs : List Tk} {f : F3} (h : PreT T ws f) (hX : BlkT X vs) : ∃ g, (g = f ∨ g = .both) ∧ PreT (T ++ X) (ws ++ vs) g := by
  rcases hX with ⟨rfl, rfl⟩ | hX
  · refine ⟨f, .inl rfl, ⟨fun j => ?_⟩⟩
    rw [nilS, List.append_nil]
    exact h.go j
  · refine ⟨.both, .inr rfl, ⟨fun j => ?_⟩⟩
    rw [assocS, ← List.append_assoc]
    exact hX.go (h.go j)
end KD

namespace KD
open PySem L2 TL
open K0 (num)
theorem dB_get : ∀ {b : List St} {i : Nat} {d : PyData}, (dB b)[i]? = some d → ∃ st, b[i]? = some st ∧ d = st.d
  | [], i, d, h => by simp [dB] at h
  | s :: b, 0, d, h => ⟨s, rfl, (Option.some.inj h).symm⟩
  | s :: b, i + 1, d, h => dB_get (b := b) (i := i) h
theorem Fol.anyF : ∀ l : List Nat, Fol .free l
  | [] => trivial
  | _ :: _ => trivial
def gaps : List Str := [" ", "  ", "\n"]
theorem gaps_ok : ∀ g ∈ gaps, blS g = true ∧ g.length ≤ 2 := by decide +kernel
def w5 : List Str := ["row", "col", "say", "if", "while"]
def w3 : List Str := ["if", "while", "for"]
/-- printed parts, one an expression -/
inductive Parts : List Str → List Ex → Prop
  | nil : Parts [] []
  | cons {Y : Str} {Ys : List Str} {e : Ex} {es : List Ex} : PartT Y (tkE e) → Y.length ≤ pl (dpE e) → Parts Ys es → Parts (Y :: Ys) (e :: es)
theorem Parts.snoc {Y : Str} {e : Ex} (h : PartT Y (tkE e)) (hl : Y.length ≤ pl (dpE e)) : ∀ {Ys : List Str} {es : List Ex}, Parts Ys es → Parts (Ys ++ [Y]) (es ++ [e])
  | _, _, .nil => .cons h hl .nil
  | _, _, .cons a b c => .cons a b (c.snoc h hl)
theorem Parts.length : ∀ {Ys : List Str} {es : List Ex}, Parts Ys es → Ys.length = es.length
  | _, _, .nil => rfl
  | _, _, .cons a b c => by rw [List.length_cons, List.length_cons, c.length]
theorem Parts.sum : ∀ {Ys : List Str} {es : List Ex}, Parts Ys es → (Ys.map (·.length)).sum + Ys.length ≤ lenEs es
  | _, _, .nil => Nat.le_refl _
  | _, _, .cons (Y := Y) (Ys := Ys) (e := e) (es := es) a b c => by
    have := c.sum
    show (Y.length + (Ys.map (·.length)).sum) + (Ys.length + 1) ≤ pl (dpE e) + 1 + lenEs es
    omega
theorem Parts.jlen : ∀ {Ys : List Str} {es : List Ex}, Parts Ys es → (Str.join "," Ys).length ≤ lenEs es
  | _, _, .nil => Nat.zero_le _
  | _, _, .cons (Y := Y) (Ys := Ys) (e := e) (es := es) a b c => by
    cases Ys with
    | nil => show Y.length ≤ pl (dpE e) + 1 + lenEs es; omega
    | cons Z Zs =>
      have := c.jlen
      show (Y ++ "," ++ Str.join "," (Z :: Zs)).length ≤ pl (dpE e) + 1 + lenEs es
      rw [sums, sums, show ("," : Str).length = 1 by decide +kernel]
      omega
theorem PreT.joined : ∀ {Ys : List Str} {es : List Ex} {T : Str} {ws : List Tk} {f : F3}, PreT T ws f → (f = .mark ∨ f = .free) → Parts Ys es → ∃ g, (g = f ∨ g = .both) ∧ PreT (T ++ Str.join "," Ys) (ws ++ tkEs es) g
  | _, _, T, ws, f, h, hf, .nil => ⟨f, .inl rfl, ⟨fun j => by
      rw [show Str.join "," [] = ("" : Str) from rfl, nilS, show tkEs [] = [] from rfl, List.append_nil]
      exact h.go j⟩⟩
  | _, _, T, ws, f, h, hf, .cons (Y := Y) (Ys := Ys) (e := e) (es := es) a b c => by
    cases c with
    | nil => exact ⟨.both, .inr rfl, h.part a hf⟩
    | cons a2 b2 c2 =>
      rename_i Z Zs e2 es2
      have h1 := h.part a hf
      have h2 := h1.lit (X := ",") (vs := [kM ","]) (g := .mark) [.wd "mark" ","] (by decide +kernel) rfl (by decide +kernel) rfl
      obtain ⟨g, hg, h3⟩ := h2.joined (.inl rfl) (.cons a2 b2 c2)
      refine ⟨.both, .inr rfl, ?_⟩
      have e1 : T ++ Str.join "," (Y :: Z :: Zs) = T ++ Y ++ "," ++ Str.join "," (Z :: Zs) := by
        show T ++ (Y ++ "," ++ Str.join "," (Z :: Zs)) = _
        rw [assocS, assocS]
      have e2' : ws ++ tkEs (e :: e2 :: es2) = ws ++ tkE e ++ [kM ","] ++ tkEs (e2 :: es2) := by
        show ws ++ (tkE e ++ [kM ","] ++ tkEs (e2 :: es2)) = _
        simp
      rw [e1, e2']
      exact h3.both
theorem RowAt.same' {H H' : Hp} {r s : Addr} (h : RowAt H r s) (k : Same H H') : RowAt H' r s := by
  obtain ⟨i, a, b, h, h2⟩ := h
  exact ⟨i, a, b, k _ _ h, h2⟩
end KD

namespace KD
open PySem L2 TL
open K0 (num Toks)
/-! ### whole programs -/
structure wfD (f : Df) : Prop where
  nm : nameW f.name = true
  args : ∀ x ∈ f.args, nameW x = true
  alen : f.args.length ≤ 10
  body : wfB f.body
  dp : dpB f.body ≤ 11
structure wfP (p : Pr) : Prop where
  defs : ∀ f ∈ p.defs, wfD f
  body : wfB p.body
  dp : dpB p.body ≤ 11
def lenD (f : Df) : Nat := 100 + lenB f.body
def lenDs : List Df → Nat
  | [] => 0
  | f :: fs => lenD f + lenDs fs
def lenP (p : Pr) : Nat := lenDs p.defs + lenB p.body
theorem lenDs_append : ∀ (a b : List Df), lenDs (a ++ b) = lenDs a + lenDs b
  | [], b => by show lenDs b = 0 + lenDs b; omega
  | s :: a, b => by
    show lenD s + lenDs (a ++ b) = lenD s + lenDs a + lenDs b
    rw [lenDs_append a b]
    omega
theorem tkDs_append : ∀ (a b : List Df), tkDs (a ++ b) = tkDs a ++ tkDs b
  | [], b => rfl
  | s :: a, b => by
    show tkD s ++ tkDs (a ++ b) = tkD s ++ tkDs a ++ tkDs b
    rw [tkDs_append a b, List.append_assoc]
theorem lenDs_take : ∀ (b : List Df) (i : Nat), lenDs (b.take i) ≤ lenDs b
  | [], i => by rw [List.take_nil]; exact Nat.le_refl _
  | s :: b, 0 => Nat.zero_le _
  | s :: b, i + 1 => by
    show lenD s + lenDs (b.take i) ≤ lenD s + lenDs b
    have := lenDs_take b i
    omega
theorem JS.lit2 {T X : Str} {ws vs : List Tk} {f g : F3} (h : JS T ws f) (ps : List LW) (e : X = litT ps) (hw : litW ps = vs) (ho : litOk f ps = true) (hg : litF f ps = g) : JS (T ++ X) (ws ++ vs) g := by
  rw [e, ← hw, ← hg]
  exact h.lit ps ho
/-- names with commas between -/
theorem JS.names : ∀ {xs : List Str} {T : Str} {ws : List Tk} {f : F3}, JS T ws f → (f = .mark ∨ f = .free) → (∀ x ∈ xs, nameW x = true) → ∃ g, (g = f ∨ g = .both) ∧ JS (T ++ Str.join ", " xs) (ws ++ tkNs xs) g
  | [], T, ws, f, h, hf, _ => ⟨f, .inl rfl, by
      rw [show Str.join ", " [] = ("" : Str) from rfl, nilS, show tkNs [] = [] from rfl, List.append_nil]
      exact h⟩
  | [x], T, ws, f, h, hf, hx => ⟨.both, .inr rfl, (PartT.name (hx x List.mem_cons_self)).seg h ((PartT.name (hx x List.mem_cons_self)).fol hf)⟩
  | x :: y :: r, T, ws, f, h, hf, hx => by
    have hp := PartT.name (hx x List.mem_cons_self)
    have h1 := hp.seg h (hp.fol hf)
    have h2 := h1.lit2 (X := ", ") (vs := [kM ","]) (g := .free) [.wd "mark" ",", .bl " "] (by decide +kernel) rfl (by decide +kernel) rfl
    obtain ⟨g, hg, h3⟩ := JS.names (xs := y :: r) h2 (.inr rfl) fun z hz => hx z (List.mem_cons_of_mem _ hz)
    refine ⟨.both, .inr rfl, ?_⟩
    have e1 : T ++ Str.join ", " (x :: y :: r) = T ++ x ++ ", " ++ Str.join ", " (y :: r) := by
      show T ++ (x ++ ", " ++ Str.join ", " (y :: r)) = _
      rw [assocS, assocS]
    have e2 : ws ++ tkNs (x :: y :: r) = ws ++ [kN x] ++ [kM ","] ++ tkNs (y :: r) := by
      show ws ++ ([kN x, kM ","] ++ tkNs (y :: r)) = _
      simp
    rw [e1, e2]
    exact h3.both
theorem names_sum : ∀ {xs : List Str}, (∀ x ∈ xs, nameW x = true) → (xs.map (·.length)).sum ≤ 6 * xs.length
  | [], _ => Nat.le_refl _
  | x :: xs, h => by
    have h1 := nameW_len (h x List.mem_cons_self)
    have h2 := names_sum (xs := xs) fun z hz => h z (List.mem_cons_of_mem _ hz)
    show x.length + (xs.map (·.length)).sum ≤ 6 * (xs.length + 1)
    omega
theorem names_jlen : ∀ {xs : List Str}, (∀ x ∈ xs, nameW x = true) → (Str.join ", " xs).length ≤ 8 * xs.length
  | [], _ => Nat.zero_le _
  | [x], h => by
    have h1 := nameW_len (h x List.mem_cons_self)
    show x.length ≤ 8
    omega
  | x :: y :: r, h => by
    have h1 := nameW_len (h x List.mem_cons_self)
    have h2 := names_jlen (xs := y :: r) fun z hz => h z (List.mem_cons_of_mem _ hz)
    show (x ++ ", " ++ Str.join ", " (y :: r)).length ≤ 8 * ((y :: r).length + 1)
    rw [sums, sums, show (", " : Str).length = 2 by decide +kernel]
    omega
end KD

/-! Programs printed anew: the lines, their words. -/
namespace KD
open PySem L2 TL
open K0 (num Toks)
theorem PartT.bin {X X2 : Str} {ws ws2 : List Tk} {o : Bi} (hX : PartT X ws) (hX2 : PartT X2 ws2) : PartT (X ++ " " ++ o.w ++ " " ++ X2) (ws ++ [o.tk] ++ ws2) := by
  obtain ⟨c, r, e, hc⟩ := hX.hd
  refine ⟨⟨c, r ++ tl ((" " : Str) ++ (o.w ++ ((" " : Str) ++ X2))), ?_, hc⟩, fun {T us f} j q => ?_⟩
  · rw [← assocS, ← assocS, ← assocS, tl_append, e]
    rfl
  · have q1 : Fol f (tl X) := by
      rw [← assocS, ← assocS, ← assocS, tl_append, e] at q
      rw [e]
      exact q
    have j1 := hX.seg j q1
    have j2 := JS.lit [.bl " ", o.lw, .bl " "] j1 o.lit
    rw [o.litF] at j2
    have j3 := hX2.seg j2 (hX2.fol (.inr rfl))
    have e1 : T ++ X ++ litT [.bl " ", o.lw, .bl " "] ++ X2 = T ++ (X ++ " " ++ o.w ++ " " ++ X2) := by
      show T ++ X ++ ((" " : Str) ++ (o.tk.2 ++ ((" " : Str) ++ ("" : Str)))) ++ X2 = _
      rw [nilS, Bi.tk_w]
      simp only [assocS]
    have e2 : us ++ ws ++ litW [.bl " ", o.lw, .bl " "] ++ ws2 = us ++ (ws ++ [o.tk] ++ ws2) := by
      show us ++ ws ++ [o.tk] ++ ws2 = _
      simp
    rw [e1, e2] at j3
    exact j3
theorem PartT.brk {c : Bool} {X : Str} {ws : List Tk} (h : PartT X ws) : PartT (parX c X) (parT c ws) := by
  cases c with
  | false => exact h
  | true =>
    have q := PartT.one (ps := []) (qs := [.wd "mark" ")"]) (k0 := "mark") (w0 := "(") (Y := ("(" : Str) ++ X ++ ")") h (by rw [← assocS, show litT [.wd "mark" ")"] = (")" : Str) by decide +kernel, show litT [] = ("" : Str) from rfl]; apply ext_tl; simp only [tl_append, show tl ("" : Str) = [] by decide +kernel, List.nil_append]) (Wd.mark (by decide +kernel)) (Fol.ofB (by decide +kernel)) rfl (.inl rfl) (by decide +kernel)
    have e : parT true ws = (("mark", "(") : Tk) :: (litW [] ++ (ws ++ litW [.wd "mark" ")"])) := by
      show [kM "("] ++ ws ++ [kM ")"] = kM "(" :: ([] ++ (ws ++ [kM ")"]))
      simp
    rw [e]
    exact q
theorem PartT.sh : ∀ {e : Ex} {l : Nat}, wfE e → PartT (shX e l) (tkX e l)
  | .num n, l, h => PartT.numb h
  | .name x, l, h => PartT.name h
  | .rows, l, h => PartT.key (x := "rows") (by decide +kernel)
  | .cols, l, h => PartT.key (x := "cols") (by decide +kernel)
  | .un .neg a, l, h => by
    have hX := PartT.sh (e := a) (l := 5) h
    have q := PartT.one (ps := []) (qs := []) (k0 := "mark") (w0 := "-") (Y := ("-" : Str) ++ shX a 5) hX (by rw [show litT [] = ("" : Str) from rfl, nilS]; apply ext_tl; simp only [tl_append, show tl ("" : Str) = [] by decide +kernel, List.nil_append]) (Wd.mark (by decide +kernel)) (Fol.ofB (by decide +kernel)) rfl (.inl rfl) rfl
    have e : tkX (.un .neg a) l = (("mark", "-") : Tk) :: (litW [] ++ (tkX a 5 ++ litW [])) := by
      show kM "-" :: tkX a 5 = kM "-" :: ([] ++ (tkX a 5 ++ []))
      simp
    rw [e]
    exact q
  | .un .not a, l, h => by
    have hX := PartT.sh (e := a) (l := 2) h
    have q := PartT.one (ps := [.bl " "]) (qs := []) (k0 := "key") (w0 := "not") (Y := ("not " : Str) ++ shX a 2) hX (by rw [show litT [] = ("" : Str) from rfl, nilS, assocS, show ("not" : Str) ++ litT [.bl " "] = ("not " : Str) by decide +kernel]) (Wd.key (by decide +kernel)) (Fol.ofB (by decide +kernel)) (by decide +kernel) (.inr rfl) rfl
    have e : kK "not" :: tkX a 2 = (("key", "not") : Tk) :: (litW [.bl " "] ++ (tkX a 2 ++ litW [])) := by
      show kK "not" :: tkX a 2 = kK "not" :: ([] ++ (tkX a 2 ++ []))
      simp
    have q2 : PartT (("not " : Str) ++ shX a 2) (kK "not" :: tkX a 2) := by rw [e]; exact q
    exact PartT.brk q2
  | .bin o a b, l, h => by
    by_cases hb : o = .black
    · subst hb
      have q := PartT.two (ps := [.wd "mark" "("]) (qs := [.wd "mark" ",", .bl " "]) (rs := [.wd "mark" ")"]) (k0 := "key") (w0 := "black") (Y := ("black(" : Str) ++ shX a 0 ++ ", " ++ shX b 0 ++ ")") (PartT.sh (e := a) (l := 0) h.1) (PartT.sh (e := b) (l := 0) h.2) (by rw [assocS, assocS, assocS, assocS, show ("black" : Str) ++ litT [.wd "mark" "("] = ("black(" : Str) by decide +kernel, show litT [.wd "mark" ",", .bl " "] = (", " : Str) by decide +kernel, show litT [.wd "mark" ")"] = (")" : Str) by decide +kernel]) (Wd.key (by decide +kernel)) (Fol.ofB (by decide +kernel)) (by decide +kernel) (.inl rfl) (by decide +kernel) (.inr rfl) (by decide +kernel)
      have e : tkX (.bin .black a b) l = (("key", "black") : Tk) :: (litW [.wd "mark" "("] ++ (tkX a 0 ++ (litW [.wd "mark" ",", .bl " "] ++ (tkX b 0 ++ litW [.wd "mark" ")"])))) := by
        show [kK "black", kM "("] ++ tkX a 0 ++ [kM ","] ++ tkX b 0 ++ [kM ")"] = kK "black" :: ([kM "("] ++ (tkX a 0 ++ ([kM ","] ++ (tkX b 0 ++ [kM ")"]))))
        simp
      rw [e]
      exact q
    · rw [tkX_bin hb, shX_bin hb]
      exact PartT.brk (PartT.bin (PartT.sh h.1) (PartT.sh h.2))
/-! ### lines -/
def joinC : List Str → Str := Str.join ", "
mutual
def lnS : St → Str → List Str
  | .row e, g => [g ++ "row" ++ " " ++ shX e 0]
  | .col e, g => [g ++ "col" ++ " " ++ shX e 0]
  | .say e, g => [g ++ "say" ++ " " ++ shX e 0]
  | .set x e, g => [g ++ "let " ++ x ++ " = " ++ shX e 0]
  | .ite c a [], g => [g ++ "if" ++ " " ++ shX c 0 ++ " {"] ++ lnB a (g ++ "  ") ++ [g ++ "}"]
  | .ite c a (s :: r), g => [g ++ "if" ++ " " ++ shX c 0 ++ " {"] ++ lnB a (g ++ "  ") ++ [g ++ "} else {"] ++ (lnS s (g ++ "  ") ++ lnB r (g ++ "  ")) ++ [g ++ "}"]
  | .whl c a, g => [g ++ "while" ++ " " ++ shX c 0 ++ " {"] ++ lnB a (g ++ "  ") ++ [g ++ "}"]
  | .for_ x a b s, g => [g ++ ("for " ++ x ++ " = " ++ shX a 0 ++ " to " ++ shX b 0) ++ " {"] ++ lnB s (g ++ "  ") ++ [g ++ "}"]
  | .call f es, g => [g ++ "do " ++ f ++ "(" ++ joinC (es.map fun e => shX e 0) ++ ")"]
  | .stop, g => [g ++ "stop"]
def lnB : List St → Str → List Str
  | [], _ => []
  | s :: b, g => lnS s g ++ lnB b g
end
def lnDs : List Df → List Str
  | [] => []
  | f :: fs => ["def " ++ f.name ++ "(" ++ joinC f.args ++ ") {"] ++ lnB f.body "  " ++ [("}" : Str)] ++ lnDs fs
def tidyT (p : Pr) : Str := Str.join "\n" (lnDs p.defs ++ lnB p.body "")
/-! ### their words -/
def tkEsx : List Ex → List Tk
  | [] => []
  | [e] => tkX e 0
  | e :: es => tkX e 0 ++ [kM ","] ++ tkEsx es
mutual
def tkSx : St → List Tk
  | .row e => kK "row" :: tkX e 0
  | .col e => kK "col" :: tkX e 0
  | .say e => kK "say" :: tkX e 0
  | .set x e => [kK "let", kN x, kM "="] ++ tkX e 0
  | .ite c a [] => [kK "if"] ++ tkX c 0 ++ [kM "{"] ++ tkBx a ++ [kM "}"]
  | .ite c a (s :: r) => [kK "if"] ++ tkX c 0 ++ [kM "{"] ++ tkBx a ++ [kM "}", kK "else", kM "{"] ++ (tkSx s ++ tkBx r) ++ [kM "}"]
  | .whl c a => [kK "while"] ++ tkX c 0 ++ [kM "{"] ++ tkBx a ++ [kM "}"]
  | .for_ x a b s => [kK "for", kN x, kM "="] ++ tkX a 0 ++ [kK "to"] ++ tkX b 0 ++ [kM "{"] ++ tkBx s ++ [kM "}"]
  | .call f es => [kK "do", kN f, kM "("] ++ tkEsx es ++ [kM ")"]
  | .stop => [kK "stop"]
def tkBx : List St → List Tk
  | [] => []
  | s :: b => tkSx s ++ tkBx b
end
def tkDsx : List Df → List Tk
  | [] => []
  | f :: fs => [kK "def", kN f.name, kM "("] ++ tkNs f.args ++ [kM ")", kM "{"] ++ tkBx f.body ++ [kM "}"] ++ tkDsx fs
def tkPx (p : Pr) : List Tk := tkDsx p.defs ++ tkBx p.body
theorem GE.x {e : Ex} (h : dpE e ≤ 5) : GE e (tkX e 0) := G.tkX e 0 (by decide) 10 (by omega)
theorem GEs.x : ∀ es : List Ex, (∀ e ∈ es, dpE e ≤ 5) → GEs es (tkEsx es)
  | [], _ => .nil
  | [e], h => .one (GE.x (h e List.mem_cons_self))
  | e :: f :: es, h => .more (GE.x (h e List.mem_cons_self)) (GEs.x (f :: es) fun x hx => h x (List.mem_cons_of_mem _ hx))
mutual
theorem GS.x {ds : List (Str × Nat)} : ∀ (n : Nat) (ns : List Str) (s : St), okS ds n ns s → GS n s (tkSx s)
  | n, ns, .row e, h => by unfold okS at h; exact .row (GE.x (by omega))
  | n, ns, .col e, h => by unfold okS at h; exact .col (GE.x (by omega))
  | n, ns, .say e, h => by unfold okS at h; exact .say (GE.x (by omega))
  | n, ns, .set x e, h => by unfold okS at h; exact .set (GE.x (by omega))
  | n + 1, ns, .ite c a [], h => by
    unfold okS at h
    exact .ite0 (GE.x (by omega)) (GB.x n ns a h.2.2.1.2)
  | n + 1, ns, .ite c a (s :: r), h => by
    unfold okS at h
    exact .ite (GE.x (by omega)) (GB.x n ns a h.2.2.1.2) (GB.x n ns (s :: r) h.2.2.2.2)
  | n + 1, ns, .whl c a, h => by unfold okS at h; exact .whl (GE.x (by omega)) (GB.x n ns a h.2.2.2)
  | n + 1, ns, .for_ x a b s, h => by unfold okS at h; exact .for_ (GE.x (by omega)) (GE.x (by omega)) (GB.x n _ s h.2.2.2.2)
  | n + 1, ns, .call f es, h => by unfold okS at h; exact .call (GEs.x es fun e he => by have := (h.2 e he).2; omega)
  | n + 1, ns, .stop, h => .stop
  | 0, ns, .ite _ _ _, h => by unfold okS at h; exact h.elim
  | 0, ns, .whl _ _, h => by unfold okS at h; exact h.elim
  | 0, ns, .for_ _ _ _ _, h => by unfold okS at h; exact h.elim
  | 0, ns, .call _ _, h => by unfold okS at h; exact h.elim
  | 0, ns, .stop, h => by unfold okS at h; exact h.elim
theorem GB.x {ds : List (Str × Nat)} : ∀ (n : Nat) (ns : List Str) (b : List St), okB ds n ns b → GB n b (tkBx b)
  | n, ns, [], _ => .nil
  | n, ns, s :: b, h => by unfold okB at h; exact .cons (GS.x n ns s h.1) (GB.x n _ b h.2)
end
theorem GD.x : ∀ fs : List Df, (∀ f ∈ fs, GB 3 f.body (tkBx f.body)) → GD 3 fs (tkDsx fs)
  | [], _ => .nil
  | f :: fs, h => .cons (h f List.mem_cons_self) (GD.x fs fun x hx => h x (List.mem_cons_of_mem _ hx))
/-- a line behind a blank or at the beginning -/
def LineT (l : Str) (ws : List Tk) : Prop := ∀ {T : Str} {us : List Tk}, JS T us .free → ∃ g, JS (T ++ l) (us ++ ws) g
inductive Lts : List Str → List Tk → Prop
  | nil : Lts [] []
  | cons {l : Str} {ls : List Str} {w ws : List Tk} : LineT l w → Lts ls ws → Lts (l :: ls) (w ++ ws)
theorem Lts.append : ∀ {a b : List Str} {v w : List Tk}, Lts a v → Lts b w → Lts (a ++ b) (v ++ w)
  | _, _, _, _, .nil, h => h
  | _, _, _, _, .cons (w := u) (ws := us) h t, q => by
    rw [List.append_assoc]
    exact .cons h (t.append q)
theorem Lts.one {l : Str} {w : List Tk} (h : LineT l w) : Lts [l] w := by
  have q := Lts.cons h .nil
  rw [List.append_nil] at q
  exact q
theorem Lts.joined : ∀ {ls : List Str} {ws : List Tk}, Lts ls ws → ∀ {T : Str} {us : List Tk}, JS T us .free → ∃ g, JS (T ++ Str.join "\n" ls) (us ++ ws) g
  | _, _, .nil, T, us, j => ⟨.free, by
      rw [show Str.join "\n" [] = ("" : Str) from rfl, nilS, List.append_nil]
      exact j⟩
  | _, _, .cons (l := l) (ls := ls) (w := w) (ws := ws) h t, T, us, j => by
    obtain ⟨g, j1⟩ := h j
    cases t with
    | nil => exact ⟨g, by rw [List.append_nil]; exact j1⟩
    | cons h2 t2 =>
      rename_i l2 ls2 w2 ws2
      have j2 := j1.blank (s := "\n") (by decide +kernel)
      obtain ⟨g3, j3⟩ := Lts.joined (.cons h2 t2) j2
      refine ⟨g3, ?_⟩
      have e1 : T ++ Str.join "\n" (l :: l2 :: ls2) = T ++ l ++ "\n" ++ Str.join "\n" (l2 :: ls2) := by
        show T ++ (l ++ "\n" ++ Str.join "\n" (l2 :: ls2)) = _
        rw [assocS, assocS]
      rw [e1, ← List.append_assoc]
      exact j3
/-- spaces ahead of a line -/
def gapB (g : Str) : Prop := g = "" ∨ blS g = true
theorem gapB.more {g : Str} (h : gapB g) : gapB (g ++ "  ") := by
  refine .inr ?_
  rcases h with rfl | h
  · decide +kernel
  · unfold blS at h ⊢
    rw [Bool.and_eq_true] at h
    rw [tl_append, List.all_append, h.1, show tl ("  " : Str) = [32, 32] by decide +kernel]
    cases tl g <;> rfl
theorem JS.gap {T g : Str} {us : List Tk} (j : JS T us .free) (h : gapB g) : JS (T ++ g) us .free := by
  rcases h with rfl | h
  · rw [nilS]; exact j
  · exact j.blank h
theorem LineT.expr {g w : Str} {e : Ex} (hg : gapB g) (hw : w ∈ K0.kws) (he : wfE e) : LineT (g ++ w ++ " " ++ shX e 0) (kK w :: tkX e 0) := fun {T us} j => by
  have hp := PartT.sh (l := 0) he
  have j1 := (((j.gap hg).step (Wd.key hw) (Fol.anyF _)).blank (s := " ") (by decide +kernel))
  have j2 := hp.seg j1 (hp.fol (.inr rfl))
  refine ⟨.both, ?_⟩
  have e1 : T ++ (g ++ w ++ " " ++ shX e 0) = T ++ g ++ w ++ " " ++ shX e 0 := by simp only [assocS]
  have e2 : us ++ (kK w :: tkX e 0) = us ++ [kK w] ++ tkX e 0 := by
    show us ++ (kK w :: tkX e 0) = us ++ [kK w] ++ tkX e 0
    simp
  rw [e1, e2]
  exact j2
theorem LineT.head {g w : Str} {e : Ex} (hg : gapB g) (hw : w ∈ K0.kws) (he : wfE e) : LineT (g ++ w ++ " " ++ shX e 0 ++ " {") (kK w :: (tkX e 0 ++ [kM "{"])) := fun {T us} j => by
  have hp := PartT.sh (l := 0) he
  have j1 := (((j.gap hg).step (Wd.key hw) (Fol.anyF _)).blank (s := " ") (by decide +kernel))
  have j2 := (hp.seg j1 (hp.fol (.inr rfl))).lit2 (X := " {") (vs := [kM "{"]) (g := .mark) [.bl " ", .wd "mark" "{"] (by decide +kernel) rfl (by decide +kernel) rfl
  refine ⟨.mark, ?_⟩
  have e1 : T ++ (g ++ w ++ " " ++ shX e 0 ++ " {") = T ++ g ++ w ++ " " ++ shX e 0 ++ " {" := by simp only [assocS]
  have e2 : us ++ (kK w :: (tkX e 0 ++ [kM "{"])) = us ++ [kK w] ++ tkX e 0 ++ [kM "{"] := by
    show us ++ (kK w :: (tkX e 0 ++ [kM "{"])) = us ++ [kK w] ++ tkX e 0 ++ [kM "{"]
    simp
  rw [e1, e2]
  exact j2
theorem LineT.lit {g X : Str} {vs : List Tk} (hg : gapB g) (ps : List LW) (e : X = litT ps) (hw : litW ps = vs) (ho : litOk .free ps = true) : LineT (g ++ X) vs := fun {T us} j => by
  refine ⟨litF .free ps, ?_⟩
  rw [assocS]
  exact (j.gap hg).lit2 ps e hw ho rfl
theorem JS.exprs : ∀ {es : List Ex} {T : Str} {ws : List Tk} {f : F3}, JS T ws f → (f = .mark ∨ f = .free) → (∀ e ∈ es, eOk e) → ∃ g, (g = f ∨ g = .both) ∧ JS (T ++ joinC (es.map fun e => shX e 0)) (ws ++ tkEsx es) g
  | [], T, ws, f, h, hf, _ => ⟨f, .inl rfl, by
      show JS (T ++ ("" : Str)) (ws ++ []) f
      rw [nilS, List.append_nil]
      exact h⟩
  | [x], T, ws, f, h, hf, hx => by
    have hp := PartT.sh (l := 0) (hx x List.mem_cons_self).1
    exact ⟨.both, .inr rfl, hp.seg h (hp.fol hf)⟩
  | x :: y :: r, T, ws, f, h, hf, hx => by
    have hp := PartT.sh (l := 0) (hx x List.mem_cons_self).1
    have h1 := hp.seg h (hp.fol hf)
    have h2 := h1.lit2 (X := ", ") (vs := [kM ","]) (g := .free) [.wd "mark" ",", .bl " "] (by decide +kernel) rfl (by decide +kernel) rfl
    obtain ⟨g, hg, h3⟩ := JS.exprs (es := y :: r) h2 (.inr rfl) fun z hz => hx z (List.mem_cons_of_mem _ hz)
    refine ⟨.both, .inr rfl, ?_⟩
    have e1 : T ++ joinC ((x :: y :: r).map fun e => shX e 0) = T ++ shX x 0 ++ ", " ++ joinC ((y :: r).map fun e => shX e 0) := by
      show T ++ (shX x 0 ++ ", " ++ joinC ((y :: r).map fun e => shX e 0)) = _
      rw [assocS, assocS]
    have e2 : ws ++ tkEsx (x :: y :: r) = ws ++ tkX x 0 ++ [kM ","] ++ tkEsx (y :: r) := by
      show ws ++ (tkX x 0 ++ [kM ","] ++ tkEsx (y :: r)) = _
      simp
    rw [e1, e2]
    exact h3.both
mutual
theorem Lts.S : ∀ {s : St} {g : Str}, wfS s → gapB g → Lts (lnS s g) (tkSx s)
  | .row e, g, h, hg => .one (LineT.expr hg (by decide +kernel) (by unfold wfS at h; exact h.1))
  | .col e, g, h, hg => .one (LineT.expr hg (by decide +kernel) (by unfold wfS at h; exact h.1))
  | .say e, g, h, hg => .one (LineT.expr hg (by decide +kernel) (by unfold wfS at h; exact h.1))
  | .set x e, g, h, hg => by
    unfold wfS at h
    refine .one fun {T us} j => ?_
    have hp := PartT.sh (l := 0) h.2.1
    have j1 := (((j.gap hg).lit2 (X := "let ") (vs := [kK "let"]) (g := .free) [.wd "key" "let", .bl " "] (by decide +kernel) rfl (by decide +kernel) rfl).step (Wd.nm h.1) (Fol.anyF _)).lit2 (X := " = ") (vs := [kM "="]) (g := .free) [.bl " ", .wd "mark" "=", .bl " "] (by decide +kernel) rfl (by decide +kernel) rfl
    have j2 := hp.seg j1 (hp.fol (.inr rfl))
    refine ⟨.both, ?_⟩
    have e1 : T ++ (g ++ "let " ++ x ++ " = " ++ shX e 0) = T ++ g ++ "let " ++ x ++ " = " ++ shX e 0 := by simp only [assocS]
    have e2 : us ++ ([kK "let", kN x, kM "="] ++ tkX e 0) = us ++ [kK "let"] ++ [kN x] ++ [kM "="] ++ tkX e 0 := by
      show us ++ ([kK "let", kN x, kM "="] ++ tkX e 0) = us ++ [kK "let"] ++ [kN x] ++ [kM "="] ++ tkX e 0
      simp
    rw [e1, show tkSx (.set x e) = [kK "let", kN x, kM "="] ++ tkX e 0 from rfl, e2]
    exact j2
  | .ite c a [], g, h, hg => by
    unfold wfS at h
    have l1 := Lts.one (LineT.head (w := "if") hg (by decide +kernel) h.1.1)
    have l2 := Lts.B (g := g ++ "  ") h.2.1 hg.more
    have l3 := Lts.one (LineT.lit (X := "}") (vs := [kM "}"]) hg [.wd "mark" "}"] (by decide +kernel) rfl (by decide +kernel))
    have q := (l1.append l2).append l3
    have e : tkSx (.ite c a []) = kK "if" :: (tkX c 0 ++ [kM "{"]) ++ tkBx a ++ [kM "}"] := by
      show [kK "if"] ++ tkX c 0 ++ [kM "{"] ++ tkBx a ++ [kM "}"] = _
      simp
    rw [e]
    exact q
  | .ite c a (s :: r), g, h, hg => by
    unfold wfS at h
    have h2 := h.2.2
    unfold wfB at h2
    have l1 := Lts.one (LineT.head (w := "if") hg (by decide +kernel) h.1.1)
    have l2 := Lts.B (g := g ++ "  ") h.2.1 hg.more
    have l3 := Lts.one (LineT.lit (X := "} else {") (vs := [kM "}", kK "else", kM "{"]) hg [.wd "mark" "}", .bl " ", .wd "key" "else", .bl " ", .wd "mark" "{"] (by decide +kernel) rfl (by decide +kernel))
    have l4 := Lts.S (g := g ++ "  ") h2.1 hg.more
    have l5 := Lts.B (g := g ++ "  ") h2.2 hg.more
    have l6 := Lts.one (LineT.lit (X := "}") (vs := [kM "}"]) hg [.wd "mark" "}"] (by decide +kernel) rfl (by decide +kernel))
    have q := (((l1.append l2).append l3).append (l4.append l5)).append l6
    have e : tkSx (.ite c a (s :: r)) = kK "if" :: (tkX c 0 ++ [kM "{"]) ++ tkBx a ++ [kM "}", kK "else", kM "{"] ++ (tkSx s ++ tkBx r) ++ [kM "}"] := by
      show [kK "if"] ++ tkX c 0 ++ [kM "{"] ++ tkBx a ++ [kM "}", kK "else", kM "{"] ++ (tkSx s ++ tkBx r) ++ [kM "}"] = _
      simp
    rw [e]
    exact q
  | .whl c a, g, h, hg => by
    unfold wfS at h
    have l1 := Lts.one (LineT.head (w := "while") hg (by decide +kernel) h.1.1)
    have l2 := Lts.B (g := g ++ "  ") h.2 hg.more
    have l3 := Lts.one (LineT.lit (X := "}") (vs := [kM "}"]) hg [.wd "mark" "}"] (by decide +kernel) rfl (by decide +kernel))
    have q := (l1.append l2).append l3
    have e : tkSx (.whl c a) = kK "while" :: (tkX c 0 ++ [kM "{"]) ++ tkBx a ++ [kM "}"] := by
      show [kK "while"] ++ tkX c 0 ++ [kM "{"] ++ tkBx a ++ [kM "}"] = _
      simp
    rw [e]
    exact q
  | .for_ x c d s, g, h, hg => by
    unfold wfS at h
    have hp := PartT.sh (l := 0) h.2.1.1
    have hp2 := PartT.sh (l := 0) h.2.2.1.1
    have l1 : Lts [g ++ ("for " ++ x ++ " = " ++ shX c 0 ++ " to " ++ shX d 0) ++ " {"] ([kK "for", kN x, kM "="] ++ tkX c 0 ++ [kK "to"] ++ tkX d 0 ++ [kM "{"]) := by
      refine .one fun {T us} j => ?_
      have j1 := (((j.gap hg).lit2 (X := "for ") (vs := [kK "for"]) (g := .free) [.wd "key" "for", .bl " "] (by decide +kernel) rfl (by decide +kernel) rfl).step (Wd.nm h.1) (Fol.anyF _)).lit2 (X := " = ") (vs := [kM "="]) (g := .free) [.bl " ", .wd "mark" "=", .bl " "] (by decide +kernel) rfl (by decide +kernel) rfl
      have j2 := (hp.seg j1 (hp.fol (.inr rfl))).lit2 (X := " to ") (vs := [kK "to"]) (g := .free) [.bl " ", .wd "key" "to", .bl " "] (by decide +kernel) rfl (by decide +kernel) rfl
      have j3 := (hp2.seg j2 (hp2.fol (.inr rfl))).lit2 (X := " {") (vs := [kM "{"]) (g := .mark) [.bl " ", .wd "mark" "{"] (by decide +kernel) rfl (by decide +kernel) rfl
      refine ⟨.mark, ?_⟩
      have e1 : T ++ (g ++ ("for " ++ x ++ " = " ++ shX c 0 ++ " to " ++ shX d 0) ++ " {") = T ++ g ++ "for " ++ x ++ " = " ++ shX c 0 ++ " to " ++ shX d 0 ++ " {" := by simp only [assocS]
      have e2 : us ++ ([kK "for", kN x, kM "="] ++ tkX c 0 ++ [kK "to"] ++ tkX d 0 ++ [kM "{"]) = us ++ [kK "for"] ++ [kN x] ++ [kM "="] ++ tkX c 0 ++ [kK "to"] ++ tkX d 0 ++ [kM "{"] := by
        show us ++ ([kK "for", kN x, kM "="] ++ tkX c 0 ++ [kK "to"] ++ tkX d 0 ++ [kM "{"]) = us ++ [kK "for"] ++ [kN x] ++ [kM "="] ++ tkX c 0 ++ [kK "to"] ++ tkX d 0 ++ [kM "{"]
        simp
      rw [e1, e2]
      exact j3
    have l2 := Lts.B (g := g ++ "  ") h.2.2.2 hg.more
    have l3 := Lts.one (LineT.lit (X := "}") (vs := [kM "}"]) hg [.wd "mark" "}"] (by decide +kernel) rfl (by decide +kernel))
    exact (l1.append l2).append l3
  | .call f es, g, h, hg => by
    unfold wfS at h
    refine .one fun {T us} j => ?_
    have j1 := (((j.gap hg).lit2 (X := "do ") (vs := [kK "do"]) (g := .free) [.wd "key" "do", .bl " "] (by decide +kernel) rfl (by decide +kernel) rfl).step (Wd.nm h.1) (Fol.anyF _)).lit2 (X := "(") (vs := [kM "("]) (g := .mark) [.wd "mark" "("] (by decide +kernel) rfl (by decide +kernel) rfl
    obtain ⟨g2, hg2, j2⟩ := j1.exprs (.inl rfl) h.2.2
    have j3 := j2.lit2 (X := ")") (vs := [kM ")"]) (g := .mark) [.wd "mark" ")"] (by decide +kernel) rfl (by rcases hg2 with q | q <;> rw [q] <;> decide +kernel) rfl
    refine ⟨.mark, ?_⟩
    have e1 : T ++ (g ++ "do " ++ f ++ "(" ++ joinC (es.map fun e => shX e 0) ++ ")") = T ++ g ++ "do " ++ f ++ "(" ++ joinC (es.map fun e => shX e 0) ++ ")" := by simp only [assocS]
    have e2 : us ++ ([kK "do", kN f, kM "("] ++ tkEsx es ++ [kM ")"]) = us ++ [kK "do"] ++ [kN f] ++ [kM "("] ++ tkEsx es ++ [kM ")"] := by
      show us ++ ([kK "do", kN f, kM "("] ++ tkEsx es ++ [kM ")"]) = us ++ [kK "do"] ++ [kN f] ++ [kM "("] ++ tkEsx es ++ [kM ")"]
      simp
    rw [e1, show tkSx (.call f es) = [kK "do", kN f, kM "("] ++ tkEsx es ++ [kM ")"] from rfl, e2]
    exact j3
  | .stop, g, h, hg => .one (LineT.lit (X := "stop") (vs := [kK "stop"]) hg [.wd "key" "stop"] (by decide +kernel) rfl (by decide +kernel))
theorem Lts.B : ∀ {b : List St} {g : Str}, wfB b → gapB g → Lts (lnB b g) (tkBx b)
  | [], g, h, hg => .nil
  | s :: b, g, h, hg => by
    unfold wfB at h
    exact (Lts.S h.1 hg).append (Lts.B h.2 hg)
end
theorem Lts.D : ∀ {fs : List Df}, (∀ f ∈ fs, wfD f) → Lts (lnDs fs) (tkDsx fs)
  | [], _ => .nil
  | f :: fs, h => by
    have hf := h f List.mem_cons_self
    have l1 : Lts ["def " ++ f.name ++ "(" ++ joinC f.args ++ ") {"] ([kK "def", kN f.name, kM "("] ++ tkNs f.args ++ [kM ")", kM "{"]) := by
      refine .one fun {T us} j => ?_
      have j1 := ((j.lit2 (X := "def ") (vs := [kK "def"]) (g := .free) [.wd "key" "def", .bl " "] (by decide +kernel) rfl (by decide +kernel) rfl).step (Wd.nm hf.nm) (Fol.anyF _)).lit2 (X := "(") (vs := [kM "("]) (g := .mark) [.wd "mark" "("] (by decide +kernel) rfl (by decide +kernel) rfl
      obtain ⟨g2, hg2, j2⟩ := j1.names (.inl rfl) hf.args
      have j3 := j2.lit2 (X := ") {") (vs := [kM ")", kM "{"]) (g := .mark) [.wd "mark" ")", .bl " ", .wd "mark" "{"] (by decide +kernel) rfl (by rcases hg2 with q | q <;> rw [q] <;> decide +kernel) rfl
      refine ⟨.mark, ?_⟩
      have e1 : T ++ ("def " ++ f.name ++ "(" ++ joinC f.args ++ ") {") = T ++ "def " ++ f.name ++ "(" ++ Str.join ", " f.args ++ ") {" := by
        unfold joinC
        simp only [assocS]
      have e2 : us ++ ([kK "def", kN f.name, kM "("] ++ tkNs f.args ++ [kM ")", kM "{"]) = us ++ [kK "def"] ++ [kN f.name] ++ [kM "("] ++ tkNs f.args ++ [kM ")", kM "{"] := by
        show us ++ ([kK "def", kN f.name, kM "("] ++ tkNs f.args ++ [kM ")", kM "{"]) = us ++ [kK "def"] ++ [kN f.name] ++ [kM "("] ++ tkNs f.args ++ [kM ")", kM "{"]
        simp
      rw [e1, e2]
      exact j3
    have l2 := Lts.B (g := "  ") hf.body (.inr (by decide +kernel))
    have l3 := Lts.one (LineT.lit (g := "") (X := "}") (vs := [kM "}"]) (.inl rfl) [.wd "mark" "}"] (by decide +kernel) rfl (by decide +kernel))
    have e0 : ("" : Str) ++ ("}" : Str) = "}" := by decide +kernel
    rw [e0] at l3
    exact ((l1.append l2).append l3).append (Lts.D fun x hx => h x (List.mem_cons_of_mem _ hx))
/-- THE POINT: the text printed anew has these words, and they are the program's -/
theorem tidy_toks {p : Pr} (h : wfP p) : Toks (tl (tidyT p)) (tkPx p) := by
  obtain ⟨g, j⟩ := ((Lts.D h.defs).append (Lts.B (g := "") h.body (.inl rfl))).joined JS.nil
  have q := j [] [] .nil trivial
  rw [List.append_nil, List.append_nil, tl_append, show tl ("" : Str) = [] by decide +kernel, List.nil_append] at q
  exact q
end KD

namespace KD
open PySem L2 TL
open K0 (Toks num)
/-- what is asked of the program's reading: texts whose words are those of a tree -/
structure Rdb (X : Str) (p : Pr) : Prop where
  toks : ∃ ws, Toks (tl X) ws ∧ GP p ws
  wf : wfP p
  len : X.length ≤ 90000
  nd : (p.defs.map Df.name).Nodup
  an : ∀ f ∈ p.defs, f.args.Nodup
section
variable {P : Program} {w : World} {K : PySem.W.Frag} {mg : Str → Option Value} {base : Heap}
def spRead (K : PySem.W.Frag) : Sp := fun vs H Q _ => ∃ (X : Str) (p : Pr), vs = [.str X] ∧ Rdb X p ∧ ∀ H' v, Same H H' → Dp K H' v p.d → Q v H'
def spTidy : Sp := fun vs H Q _ => ∃ (X : Str) (p : Pr), vs = [.str X] ∧ Rdb X p ∧ ∀ H', Same H H' → Q (.str (tidyT p)) H'
end
end KD

namespace KD
open PySem L2 TL
open K0 (num)
theorem shX_len : ∀ {e : Ex} {l : Nat}, wfE e → (shX e l).length ≤ pl (dpE e)
  | .num n, l, h => K0.num_len h
  | .name x, l, h => nameW_len h
  | .rows, l, h => by show ("rows" : Str).length ≤ 6; decide +kernel
  | .cols, l, h => by show ("cols" : Str).length ≤ 6; decide +kernel
  | .un .neg a, l, h => by
    have q := shX_len (e := a) (l := 5) h
    show (("-" : Str) ++ shX a 5).length ≤ 2 * pl (dpE a) + 10
    rw [sums, show ("-" : Str).length = 1 by decide +kernel]
    omega
  | .un .not a, l, h => by
    have q := shX_len (e := a) (l := 2) h
    show (parX (decide (2 < l)) (("not " : Str) ++ shX a 2)).length ≤ 2 * pl (dpE a) + 10
    cases decide (2 < l) with
    | true =>
      show (("(" : Str) ++ (("not " : Str) ++ shX a 2) ++ ")").length ≤ _
      rw [sums, sums, sums, show ("(" : Str).length = 1 by decide +kernel, show (")" : Str).length = 1 by decide +kernel, show ("not " : Str).length = 4 by decide +kernel]
      omega
    | false =>
      show (("not " : Str) ++ shX a 2).length ≤ _
      rw [sums, show ("not " : Str).length = 4 by decide +kernel]
      omega
  | .bin o a b, l, h => by
    have hm1 : pl (dpE a) ≤ pl (max (dpE a) (dpE b)) := pl_mono (Nat.le_max_left _ _)
    have hm2 : pl (dpE b) ≤ pl (max (dpE a) (dpE b)) := pl_mono (Nat.le_max_right _ _)
    have lo := o.len
    by_cases hb : o = .black
    · subst hb
      have q1 := shX_len (e := a) (l := 0) h.1
      have q2 := shX_len (e := b) (l := 0) h.2
      show (("black(" : Str) ++ shX a 0 ++ ", " ++ shX b 0 ++ ")").length ≤ 2 * pl (max (dpE a) (dpE b)) + 10
      rw [sums, sums, sums, sums, show ("black(" : Str).length = 6 by decide +kernel, show (")" : Str).length = 1 by decide +kernel, show (", " : Str).length = 2 by decide +kernel]
      omega
    · rw [shX_bin hb]
      have q1 := shX_len (e := a) (l := o.ll) h.1
      have q2 := shX_len (e := b) (l := o.lv + 1) h.2
      show _ ≤ 2 * pl (max (dpE a) (dpE b)) + 10
      cases decide (o.lv < l) with
      | true =>
        show (("(" : Str) ++ (shX a o.ll ++ " " ++ o.w ++ " " ++ shX b (o.lv + 1)) ++ ")").length ≤ _
        rw [sums, sums, sums, sums, sums, sums, show ("(" : Str).length = 1 by decide +kernel, show (")" : Str).length = 1 by decide +kernel, show (" " : Str).length = 1 by decide +kernel]
        omega
      | false =>
        show (shX a o.ll ++ " " ++ o.w ++ " " ++ shX b (o.lv + 1)).length ≤ _
        rw [sums, sums, sums, sums, show (" " : Str).length = 1 by decide +kernel]
        omega
end KD

/-! rows of parts and marks: their words, their trees -/
namespace KD
open PySem L2 TL
open K0 (Toks num)
def flat : List Ex → List Bi → List Tk
  | e :: es, m :: ms => tkX e 5 ++ [m.tk] ++ flat es ms
  | e :: _, [] => tkX e 5
  | [], _ => []
theorem flat_split : ∀ (ms1 : List Bi) (m : Bi) (ms2 : List Bi) (es1 es2 : List Ex), es1.length = ms1.length + 1 → flat (es1 ++ es2) (ms1 ++ m :: ms2) = flat es1 ms1 ++ [m.tk] ++ flat es2 ms2
  | _, m, ms2, [], es2, h => by simp at h
  | [], m, ms2, [e], es2, h => rfl
  | [], m, ms2, e :: f :: es, es2, h => by simp at h
  | x :: ms1, m, ms2, e :: es1, es2, h => by
    have q := flat_split ms1 m ms2 es1 es2 (by simpa using h)
    show tkX e 5 ++ [x.tk] ++ flat (es1 ++ es2) (ms1 ++ m :: ms2) = tkX e 5 ++ [x.tk] ++ flat es1 ms1 ++ [m.tk] ++ flat es2 ms2
    rw [q]
    simp only [List.append_assoc]
/-- e is the tree of the parts es with the marks ms between -/
structure Bnd (es : List Ex) (ms : List Bi) (e : Ex) : Prop where
  g : ∀ l, l ≤ 5 → (∀ m ∈ ms, l ≤ m.lv) → G 5 l e (flat es ms)
  wf : wfE e
  dp : dpE e ≤ 2 + ms.length
theorem Bnd.one {e : Ex} (h : wfE e) (hd : dpE e ≤ 2) : Bnd [e] [] e := ⟨fun l hl _ => (G.tkX e 5 (by decide) 5 (by omega)).le hl, h, hd⟩
theorem Bnd.bin {es1 es2 : List Ex} {ms1 ms2 : List Bi} {m : Bi} {e1 e2 : Ex} (h1 : Bnd es1 ms1 e1) (h2 : Bnd es2 ms2 e2) (hl : es1.length = ms1.length + 1) (c1 : ∀ x ∈ ms1, m.lv ≤ x.lv) (c2 : ∀ x ∈ ms2, m.lv + 1 ≤ x.lv) (hm : m.lv < 5) (hm2 : m.lv ≠ 2) :
    Bnd (es1 ++ es2) (ms1 ++ m :: ms2) (.bin m e1 e2) := by
  refine ⟨fun l hl5 ha => ?_, ⟨h1.wf, h2.wf⟩, ?_⟩
  · rw [flat_split ms1 m ms2 es1 es2 hl]
    have q := G.left hm hm2 (h1.g m.lv (by omega) c1) (h2.g (m.lv + 1) (by omega) c2)
    exact q.le (ha m (List.mem_append_right _ List.mem_cons_self))
  · have q1 := h1.dp
    have q2 := h2.dp
    show max (dpE e1) (dpE e2) + 1 ≤ 2 + (ms1 ++ m :: ms2).length
    rw [List.length_append, List.length_cons]
    omega
/-- a program of one say -/
def sayP (e : Ex) : Pr := ⟨[], [.say e]⟩
theorem Rdb.say {X : Str} {e : Ex} {ws : List Tk} (hX : Toks (tl X) (kK "say" :: ws)) (g : GE e ws) (h : eOk e) (hl : X.length ≤ 90000) : Rdb X (sayP e) :=
  ⟨⟨_, hX, [], kK "say" :: ws ++ [], .nil, .cons (.say g) .nil, by simp⟩, ⟨fun f hf => by (cases hf), ⟨h, trivial⟩, by show max 0 0 ≤ 11; decide⟩, hl, List.nodup_nil, fun f hf => by (cases hf)⟩
theorem Rdb.sayX {X : Str} {e : Ex} (h : eOk e) (h5 : dpE e ≤ 5) (eX : X = "say " ++ shX e 0) : Rdb X (sayP e) := by
  obtain ⟨g, j⟩ := LineT.expr (g := "") (w := "say") (.inl rfl) (by decide +kernel) h.1 JS.nil
  have q := j [] [] .nil trivial
  rw [List.append_nil, List.append_nil, List.nil_append] at q
  have e1 : ("" : Str) ++ ("" ++ "say" ++ " " ++ shX e 0) = "say " ++ shX e 0 := by
    rw [assocS, assocS, assocS, show ("" : Str) ++ "" ++ "say" ++ " " = "say " by decide +kernel]
  rw [e1] at q
  subst eX
  refine Rdb.say q (GE.x h5) h ?_
  have := shX_len (l := 0) h.1
  rw [sums, show ("say " : Str).length = 4 by decide +kernel]
  have hp := pl_small (a := dpE e) (Nat.le_trans h.2 (by decide))
  have hp2 : pl (dpE e) ≤ pl 11 := pl_mono h.2
  have : pl 11 ≤ 80000 := by decide
  omega
end KD

namespace KD
open PySem L2 TL
open K0 (Toks num)
theorem call_str_any {X : Cx} : CallR X (.type "str") (fun xs H Q => (∃ i : Int, xs = [.int i] ∧ i.natAbs.log2 < 1920 ∧ Q (.str (Str.ofString (toString i))) H) ∨ (∃ a : Str, xs = [.str a] ∧ Q (.str a) H)) :=
  fun pins s σ H xs us Q I W h => h.elim (fun q => call_str_int pins s σ H xs us Q I W q) (fun q => SkE.call_str_str pins s σ H xs us Q I W q)
section
variable {P : Program} {w : World} {K : PySem.W.Frag} {mg : Str → Option Value} {base : Heap}
def bareE : Ex → Prop
  | .num n => n < 1000000
  | .name x => nameW x = true
  | .rows => True
  | .un .neg a => bareE a
  | _ => False
theorem bareE.wf : ∀ {e : Ex}, bareE e → wfE e
  | .num _, h => h
  | .name _, h => h
  | .rows, _ => trivial
  | .un .neg a, h => bareE.wf (e := a) h
def spBare (K : PySem.W.Frag) (n : Nat) : Sp := fun vs H Q _ => ∃ (v : V) (e : Ex), vs = [v] ∧ Dp K H v e.d ∧ bareE e ∧ dpE e < n ∧ n ≤ 12 ∧ ∀ H', Same H H' → Q (.str (shX e 5)) H'
theorem scBare : FnScope ["tree"] ["tree"] (defScope S__law_bare) := ⟨rfl, rfl, rfl, by decide +kernel, rfl, by decide +kernel, by decide +kernel⟩
theorem ok_bare1 {n : Nat} {f : Addr} {fd : FuncData} (F : Fun K "_law_bare" "_law_bare" S__law_bare f fd) (T : Blt mg)
    (GI : FnOk P w K mg base CX0 n f fd ["tree"] (spBare K n)) (mI : mg "_law_bare" = some (.ref f)) (bI : Binds K fd ["tree"] []) :
    FnOk P w K mg base CX0 (n + 1) f fd ["tree"] (spBare K (n + 1)) := by
  refine F.ok scBare (fun vs H Q E h => ?_) (fun cdv A outer s0 H vs Q E hr h => ?_)
  · obtain ⟨v, e, rfl, _⟩ := h
    rfl
  obtain ⟨v, e, rfl, hv, hb, hd, hn, k⟩ := h
  refine ⟨_, pss_cons (ps_if (pt_cmpR op_eq (pe_ix ix_tup (pv 0) pe_int (fun _ _ => rfl)) pe_str (nomark _)) (pss_one (ps_ret (pe_op op_add_str pe_str (pe_call GI hr rfl mI F.kp bI .nil pass0 (pa_cons (pe_ix ix_tup (pv 0) pe_int (fun _ _ => rfl)) pa_nil))))) pss_nil)
    (pss_one (ps_ret (pe_ifExp (pt_cmpR op_gt (pe_callB call_len_seq (by rfl) T.len PySem.boot_len (pa_cons (pv 0) pa_nil)) pe_int (nomark _)) (pe_callTy call_str_any (by rfl) T.str (by decide +kernel) (pa_cons (pe_ix ix_tup (pv 0) pe_int (fun _ _ => rfl)) pa_nil)) (pe_ix ix_tup (pv 0) pe_int (fun _ _ => rfl))))), ?_⟩
  cases e with
  | num m =>
    obtain ⟨t, ts, rfl, hT, hB⟩ := dp_tup hv
    obtain ⟨u0, q0, rfl, e0, hB⟩ := dp_cons hB
    obtain ⟨u1, q1, rfl, e1, hB⟩ := dp_cons hB
    obtain rfl := dp_nil hB
    obtain rfl := dp_str e0
    obtain rfl := dp_int e1
    refine ⟨_, rfl, t, _, _, _, rfl, rfl, hT, rfl, rfl, _, rfl, ?_⟩
    rw [show decide (V.str "num" = V.str "neg") = false by decide +kernel]
    refine iteF ?_
    refine ⟨_, rfl, t, _, rfl, .inr hT, ?_⟩
    refine ⟨_, _, rfl, rfl, true, rfl, iteT ?_⟩
    refine ⟨_, rfl, t, _, _, _, rfl, rfl, hT, rfl, .inl ⟨_, rfl, log_small hb, k H (Same.refl H)⟩⟩
  | name x =>
    obtain ⟨t, ts, rfl, hT, hB⟩ := dp_tup hv
    obtain ⟨u0, q0, rfl, e0, hB⟩ := dp_cons hB
    obtain ⟨u1, q1, rfl, e1, hB⟩ := dp_cons hB
    obtain rfl := dp_nil hB
    obtain rfl := dp_str e0
    obtain rfl := dp_str e1
    refine ⟨_, rfl, t, _, _, _, rfl, rfl, hT, rfl, rfl, _, rfl, ?_⟩
    rw [show decide (V.str "name" = V.str "neg") = false by decide +kernel]
    refine iteF ?_
    refine ⟨_, rfl, t, _, rfl, .inr hT, ?_⟩
    refine ⟨_, _, rfl, rfl, true, rfl, iteT ?_⟩
    exact ⟨_, rfl, t, _, _, _, rfl, rfl, hT, rfl, .inr ⟨_, rfl, k H (Same.refl H)⟩⟩
  | rows =>
    obtain ⟨t, ts, rfl, hT, hB⟩ := dp_tup hv
    obtain ⟨u0, q0, rfl, e0, hB⟩ := dp_cons hB
    obtain rfl := dp_nil hB
    obtain rfl := dp_str e0
    refine ⟨_, rfl, t, _, _, _, rfl, rfl, hT, rfl, rfl, _, rfl, ?_⟩
    rw [show decide (V.str "rows" = V.str "neg") = false by decide +kernel]
    refine iteF ?_
    refine ⟨_, rfl, t, _, rfl, .inr hT, ?_⟩
    refine ⟨_, _, rfl, rfl, false, rfl, iteF ?_⟩
    exact ⟨_, rfl, t, _, _, _, rfl, rfl, hT, rfl, k H (Same.refl H)⟩
  | cols => cases hb
  | bin o a b => cases hb
  | un o a =>
    cases o with
    | not => cases hb
    | neg =>
      obtain ⟨t, ts, rfl, hT, hB⟩ := dp_tup hv
      obtain ⟨u0, q0, rfl, e0, hB⟩ := dp_cons hB
      obtain ⟨u1, q1, rfl, e1, hB⟩ := dp_cons hB
      obtain rfl := dp_nil hB
      obtain rfl := dp_str e0
      refine ⟨_, rfl, t, _, _, _, rfl, rfl, hT, rfl, rfl, _, rfl, ?_⟩
      rw [show decide (V.str (Un.neg).w = V.str "neg") = true by decide +kernel]
      have hd' : dpE a + 1 < n + 1 := hd
      have hl := shX_len (l := 5) (bareE.wf (e := a) hb)
      have hp := pl_small (a := dpE a) (by omega)
      refine iteT ⟨_, rfl, t, _, _, _, rfl, rfl, hT, rfl, _, a, rfl, e1, hb, by omega, by omega, fun H' s' => ⟨_, _, rfl, rfl, ?_, ?_⟩⟩
      · rw [show ("-" : Str).length = 1 by decide +kernel]
        exact Nat.le_trans (show _ ≤ 1000000 by omega) (by decide)
      · exact k H' s'
theorem ok_bare {f : Addr} {fd : FuncData} (F : Fun K "_law_bare" "_law_bare" S__law_bare f fd) (T : Blt mg) (mI : mg "_law_bare" = some (.ref f)) (bI : Binds K fd ["tree"] []) :
    ∀ n : Nat, FnOk P w K mg base CX0 n f fd ["tree"] (spBare K n)
  | 0 => by
    have no : ∀ vs H Q E, ¬ spBare K 0 vs H Q E := fun vs H Q E h => by
      obtain ⟨v, e, _, _, _, h1, _⟩ := h
      omega
    exact ⟨fun vs H Q E h => absurd h (no vs H Q E), fun A outer s H args us vs Q E _ _ _ _ h => absurd h (no vs H Q E)⟩
  | n + 1 => ok_bare1 F T (ok_bare F T mI bI n) mI bI
end
end KD

namespace KD
open PySem L2 TL
open K0 (Toks num)
/-! ### marks, their groups -/
def m7 : List Bi := [.or, .and, .add, .sub, .mul, .div, .mod]
def gs4 : List (List Bi) := [[.or], [.and], [.add, .sub], [.mul, .div, .mod]]
def lv5 : List Nat := [0, 1, 3, 4, 5]
def wsM (ms : List Bi) : List Str := ms.map Bi.w
theorem beqBi : ∀ a b : Bi, a.w = b.w → a = b := by
  intro a b
  cases a <;> cases b <;> first | (intro; rfl) | (intro h; exact absurd h (by decide +kernel))
instance : DecidableEq Bi := fun a b => if h : a.w = b.w then .isTrue (beqBi a b h) else .isFalse fun q => h (by rw [q])
theorem gs_out : ∀ i < 4, ∀ m ∈ m7, lv5.getD i 0 ≤ m.lv → m ∉ gs4.getD i [] → lv5.getD (i + 1) 0 ≤ m.lv := by decide +kernel
theorem gs_out1 : ∀ i < 4, ∀ m ∈ m7, lv5.getD i 0 ≤ m.lv → m ∉ gs4.getD i [] → lv5.getD i 0 + 1 ≤ m.lv := by decide +kernel
theorem gs_in : ∀ i < 4, ∀ m ∈ gs4.getD i [], m.lv = lv5.getD i 0 ∧ m.lv < 5 ∧ m.lv ≠ 2 := by decide +kernel
theorem m7_5 : ∀ m ∈ m7, ¬ 5 ≤ m.lv := by decide +kernel
theorem mem_w {m : Bi} {l : List Bi} : decide (m.w ∈ wsM l) = decide (m ∈ l) := by
  apply Bool.eq_iff_iff.mpr
  rw [decide_eq_true_iff, decide_eq_true_iff]
  constructor
  · intro h
    obtain ⟨x, hx, e⟩ := List.mem_map.mp h
    rw [← beqBi x m e]
    exact hx
  · exact fun h => List.mem_map_of_mem h
/-- is: the places at which a mark of g stands, ahead of j -/
structure Last (g ms : List Bi) (j : Nat) (is : List Nat) : Prop where
  none : is = [] → ∀ k < j, ∀ m, ms[k]? = some m → m ∉ g
  last : ∀ pre k, is = pre ++ [k] → k < j ∧ (∃ m, ms[k]? = some m ∧ m ∈ g) ∧ ∀ k', k < k' → k' < j → ∀ m, ms[k']? = some m → m ∉ g
theorem Last.zero (g ms : List Bi) : Last g ms 0 [] := ⟨fun _ k hk => absurd hk (Nat.not_lt_zero _), fun pre k e => by cases pre <;> cases e⟩
theorem Last.skip {g ms : List Bi} {j : Nat} {is : List Nat} (h : Last g ms j is) {m : Bi} (hm : ms[j]? = some m) (hg : m ∉ g) : Last g ms (j + 1) is :=
  ⟨fun e k hk m' hm' => by
    by_cases q : k < j
    · exact h.none e k q m' hm'
    · have : k = j := by omega
      subst this
      rw [hm] at hm'
      rw [← Option.some.inj hm']
      exact hg, fun pre k e => by
    obtain ⟨a, b, c⟩ := h.last pre k e
    refine ⟨by omega, b, fun k' h1 h2 m' hm' => ?_⟩
    by_cases q : k' < j
    · exact c k' h1 q m' hm'
    · have : k' = j := by omega
      subst this
      rw [hm] at hm'
      rw [← Option.some.inj hm']
      exact hg⟩
theorem Last.push {g ms : List Bi} {j : Nat} {is : List Nat} {m : Bi} (hm : ms[j]? = some m) (hg : m ∈ g) : Last g ms (j + 1) (is ++ [j]) :=
  ⟨fun e => by simp at e, fun pre k e => by
    have := List.append_inj_right' e rfl
    simp only [List.cons.injEq, and_true] at this
    subst this
    exact ⟨by omega, ⟨m, hm, hg⟩, fun k' h1 h2 => by omega⟩⟩
theorem DpAll.take {K : PySem.W.Frag} {H : Hp} : ∀ (n : Nat) {vs : List V} {ds : List PyData}, DpAll K H vs ds → DpAll K H (vs.take n) (ds.take n)
  | 0, _, _, _ => .nil
  | n + 1, _, _, .nil => .nil
  | n + 1, _, _, .cons a b => .cons a (DpAll.take n b)
theorem DpAll.drop {K : PySem.W.Frag} {H : Hp} : ∀ (n : Nat) {vs : List V} {ds : List PyData}, DpAll K H vs ds → DpAll K H (vs.drop n) (ds.drop n)
  | 0, _, _, h => h
  | n + 1, _, _, .nil => .nil
  | n + 1, _, _, .cons a b => DpAll.drop n b
theorem Bnd.at {es : List Ex} {ms : List Bi} {i k : Nat} {m : Bi} {e1 e2 : Ex} (hi : i < 4) (h7 : ∀ m ∈ ms, m ∈ m7) (hl : es.length = ms.length + 1) (hlv : ∀ m ∈ ms, lv5.getD i 0 ≤ m.lv) (hk : ms[k]? = some m) (hm : m ∈ gs4.getD i [])
    (hn : ∀ k', k < k' → k' < ms.length → ∀ m, ms[k']? = some m → m ∉ gs4.getD i []) (h1 : Bnd (es.take (k + 1)) (ms.take k) e1) (h2 : Bnd (es.drop (k + 1)) (ms.drop (k + 1)) e2) : Bnd es ms (.bin m e1 e2) := by
  have hkl : k < ms.length := by
    by_cases q : k < ms.length
    · exact q
    · rw [List.getElem?_eq_none (by omega)] at hk
      cases hk
  obtain ⟨a, b, c⟩ := gs_in i hi m hm
  have q := Bnd.bin (m := m) h1 h2 (by rw [List.length_take, List.length_take]; omega) (fun x hx => by rw [a]; exact hlv x (List.mem_of_mem_take hx)) (fun x hx => by
    rw [a]
    obtain ⟨j, hj, e⟩ := List.getElem_of_mem hx
    rw [List.getElem_drop] at e
    have hj2 : k + 1 + j < ms.length := by rw [List.length_drop] at hj; omega
    have hx' := List.mem_of_mem_drop hx
    exact gs_out1 i hi x (h7 x hx') (hlv x hx') (hn (k + 1 + j) (by omega) hj2 x (by rw [List.getElem?_eq_getElem hj2, e]))) b c
  rw [List.take_append_drop] at q
  have e3 : ms.take k ++ m :: ms.drop (k + 1) = ms := by
    have e4 : m :: ms.drop (k + 1) = ms.drop k := by
      rw [List.drop_eq_getElem_cons hkl]
      rw [List.getElem?_eq_getElem hkl] at hk
      rw [Option.some.inj hk]
    rw [e4, List.take_append_drop]
  rw [e3] at q
  exact q
/-- the tree that the law binds -/
inductive BT : List Ex → List Bi → Ex → Prop
  | one (e : Ex) : BT [e] [] e
  | bin {es : List Ex} {ms : List Bi} {m : Bi} {e1 e2 : Ex} (i k : Nat) : i < 4 → (∀ m ∈ ms, lv5.getD i 0 ≤ m.lv) → ms[k]? = some m → m ∈ gs4.getD i [] → (∀ k', k < k' → k' < ms.length → ∀ m, ms[k']? = some m → m ∉ gs4.getD i []) →
      BT (es.take (k + 1)) (ms.take k) e1 → BT (es.drop (k + 1)) (ms.drop (k + 1)) e2 → BT es ms (.bin m e1 e2)
theorem get_lt {α : Type} {l : List α} {k : Nat} {x : α} (h : l[k]? = some x) : k < l.length := by
  by_cases q : k < l.length
  · exact q
  · rw [List.getElem?_eq_none (by omega)] at h
    cases h
theorem BT.bnd {es : List Ex} {ms : List Bi} {e : Ex} (h : BT es ms e) : (∀ m ∈ ms, m ∈ m7) → es.length = ms.length + 1 → (∀ e ∈ es, wfE e ∧ dpE e ≤ 2) → Bnd es ms e := by
  induction h with
  | one e => exact fun _ _ he => Bnd.one (he e List.mem_cons_self).1 (he e List.mem_cons_self).2
  | @bin es ms m e1 e2 i k hi hlv hk hm ha b1 b2 ih1 ih2 =>
    intro h7 hl he
    have hkl := get_lt hk
    exact Bnd.at hi h7 hl hlv hk hm ha
      (ih1 (fun x hx => h7 x (List.mem_of_mem_take hx)) (by rw [List.length_take, List.length_take]; omega) fun x hx => he x (List.mem_of_mem_take hx))
      (ih2 (fun x hx => h7 x (List.mem_of_mem_drop hx)) (by rw [List.length_drop, List.length_drop]; omega) fun x hx => he x (List.mem_of_mem_drop hx))
theorem lv5_inj : ∀ i < 4, ∀ j < 4, lv5.getD i 0 = lv5.getD j 0 → i = j := by decide +kernel
theorem BT.det {es : List Ex} {ms : List Bi} {e : Ex} (h : BT es ms e) : ∀ {e' : Ex}, BT es ms e' → e = e' := by
  induction h with
  | one e =>
    intro e' h'
    cases h' with
    | one => rfl
    | bin i k _ _ hk => cases hk
  | @bin es ms m e1 e2 i k hi hlv hk hm ha b1 b2 ih1 ih2 =>
    intro e' h'
    cases h' with
    | one => cases hk
    | @bin _ _ m' e1' e2' i' k' hi' hlv' hk' hm' ha' b1' b2' =>
      have hmm := List.mem_of_getElem? hk
      have hmm' := List.mem_of_getElem? hk'
      obtain ⟨q1, _, _⟩ := gs_in i hi m hm
      obtain ⟨q2, _, _⟩ := gs_in i' hi' m' hm'
      have l1 := hlv m' hmm'
      have l2 := hlv' m hmm
      have ei := lv5_inj i hi i' hi' (by omega)
      subst ei
      have ek : k = k' := by
        by_cases c1 : k < k'
        · exact absurd hm' (ha k' c1 (get_lt hk') m' hk')
        · by_cases c2 : k' < k
          · exact absurd hm (ha' k c2 (get_lt hk) m hk)
          · omega
      subst ek
      rw [hk] at hk'
      cases hk'
      rw [ih1 b1', ih2 b2']
theorem Last.ex (g ms : List Bi) : ∀ j, j ≤ ms.length → ∃ is, Last g ms j is
  | 0, _ => ⟨[], Last.zero g ms⟩
  | j + 1, h => by
    obtain ⟨is, q⟩ := Last.ex g ms j (by omega)
    have hm : ms[j]? = some ms[j] := List.getElem?_eq_getElem (by omega)
    by_cases c : ms[j] ∈ g
    · exact ⟨is ++ [j], Last.push hm c⟩
    · exact ⟨_, q.skip hm c⟩
theorem BT.ex : ∀ (n : Nat) (es : List Ex) (ms : List Bi), ms.length < n → es.length = ms.length + 1 → (∀ m ∈ ms, m ∈ m7) → ∃ e, BT es ms e
  | 0, _, _, h, _, _ => absurd h (Nat.not_lt_zero _)
  | n + 1, es, ms, hn, hl, h7 => by
    have step : ∀ i < 4, (∀ m ∈ ms, lv5.getD i 0 ≤ m.lv) → (∃ e, BT es ms e) ∨ ∀ m ∈ ms, lv5.getD (i + 1) 0 ≤ m.lv := fun i hi hlv => by
      obtain ⟨is, q⟩ := Last.ex (gs4.getD i []) ms ms.length (Nat.le_refl _)
      rcases List.eq_nil_or_concat is with e | ⟨pre, k, e⟩
      · refine .inr fun m hm => gs_out i hi m (h7 m hm) (hlv m hm) ?_
        obtain ⟨a, ha, e2⟩ := List.getElem_of_mem hm
        exact q.none e a ha m (by rw [List.getElem?_eq_getElem ha, e2])
      · rw [List.concat_eq_append] at e
        obtain ⟨hk, ⟨m, hm, hg⟩, ha⟩ := q.last pre k e
        obtain ⟨e1, b1⟩ := BT.ex n (es.take (k + 1)) (ms.take k) (by rw [List.length_take]; omega) (by rw [List.length_take, List.length_take]; omega) fun x hx => h7 x (List.mem_of_mem_take hx)
        obtain ⟨e2, b2⟩ := BT.ex n (es.drop (k + 1)) (ms.drop (k + 1)) (by rw [List.length_drop]; omega) (by rw [List.length_drop, List.length_drop]; omega) fun x hx => h7 x (List.mem_of_mem_drop hx)
        exact .inl ⟨_, .bin i k hi hlv hm hg ha b1 b2⟩
    rcases step 0 (by decide) (fun m _ => Nat.zero_le _) with h | h
    · exact h
    rcases step 1 (by decide) h with h | h
    · exact h
    rcases step 2 (by decide) h with h | h
    · exact h
    rcases step 3 (by decide) h with h | h
    · exact h
    have e0 : ms = [] := by
      cases ms with
      | nil => rfl
      | cons m r => exact absurd (h m List.mem_cons_self) (m7_5 m (h7 m List.mem_cons_self))
    subst e0
    match es, hl with
    | [e], _ => exact ⟨e, .one e⟩
theorem dp_ints {K : PySem.W.Frag} {H : Hp} : ∀ l : List Nat, DpAll K H (l.map fun k => V.int ((k : Nat) : Int)) (l.map fun k => PyData.int ((k : Nat) : Int))
  | [] => .nil
  | x :: l => .cons (.int _) (dp_ints l)
theorem lay_ints : ∀ l : List Nat, PyData.canLayAll0 (l.map fun k => PyData.int ((k : Nat) : Int)) = true
  | [] => rfl
  | x :: l => by
    show (true && PyData.canLayAll0 (l.map fun k => PyData.int ((k : Nat) : Int))) = true
    rw [lay_ints l]
    rfl
theorem depth_ints : ∀ l : List Nat, PyData.depthAll (l.map fun k => PyData.int ((k : Nat) : Int)) ≤ 1
  | [] => Nat.zero_le _
  | x :: l => by
    have := depth_ints l
    show max 0 (PyData.depthAll (l.map fun k => PyData.int ((k : Nat) : Int))) ≤ 1
    omega
theorem shaped_ints (l : List Nat) : SeqAt.shaped (.list (l.map fun k => PyData.int ((k : Nat) : Int))) = true := by
  unfold SeqAt.shaped
  rw [Bool.and_eq_true, decide_eq_true_iff]
  refine ⟨lay_ints l, ?_⟩
  have := depth_ints l
  show PyData.depthAll _ + 1 ≤ 64
  omega
theorem cut_to (xs : List V) (k : Nat) : cutV xs none (some ((k : Nat) : Int)) = xs.take k := by
  unfold cutV HT.sIx
  simp only [List.drop_zero, Nat.sub_zero]
  rw [if_neg (by omega), Int.toNat_natCast, ← List.take_eq_take_min]
theorem cut_from (xs : List V) (k : Nat) : cutV xs (some ((k : Nat) : Int)) none = xs.drop k := by
  unfold cutV HT.sIx
  simp only
  rw [if_neg (by omega), Int.toNat_natCast]
  by_cases h : k ≤ xs.length
  · rw [Nat.min_eq_left h, List.take_of_length_le (by rw [List.length_drop]; exact Nat.le_refl _)]
  · rw [Nat.min_eq_right (by omega), List.drop_eq_nil_of_le (Nat.le_refl _), List.drop_eq_nil_of_le (by omega), List.take_nil]
theorem atI_last (l : List V) (v : V) : atI (l ++ [v]) (-1) = some v := by
  unfold atI ixN
  rw [List.length_append, List.length_singleton, if_neg (by decide), if_pos (by omega), show ((-1 : Int) + ((l.length + 1 : Nat) : Int)).toNat = l.length by omega]
  show (l ++ [v])[l.length]? = some v
  rw [List.getElem?_append_right (Nat.le_refl _), Nat.sub_self]
  rfl
theorem upd_at {H : Hp} {p : Addr} (_ : H p = none) (o : HO) : (upd H p o) p = some o := upd_same
section
variable {P : Program} {w : World} {K : PySem.W.Frag} {mg : Str → Option Value} {base : Heap}
def spBound (K : PySem.W.Frag) (n : Nat) : Sp := fun vs H Q _ => ∃ (p q : Addr) (xs : List V) (es : List Ex) (ms : List Bi), vs = [.ref p, .ref q] ∧ SqL K H p xs ∧ DpAll K H xs (es.map Ex.d) ∧ SqL K H q ((wsM ms).map V.str) ∧ es.length = ms.length + 1 ∧ ms.length < n ∧ ms.length ≤ 7 ∧ (∀ e ∈ es, wfE e ∧ dpE e ≤ 2) ∧ (∀ m ∈ ms, m ∈ m7) ∧
  ∀ H' v e, Same H H' → Dp K H' v e.d → BT es ms e → Q v H'
abbrev boundN : List Str := ["parts", "marks", "some", "spots", "at"]
theorem scBound : FnScope boundN ["parts", "marks"] (defScope S__law_bound) := ⟨rfl, rfl, rfl, by decide +kernel, rfl, by decide +kernel, by decide +kernel⟩
theorem ok_bound1 {n : Nat} {f : Addr} {fd : FuncData} (F : Fun K "_law_bound" "_law_bound" S__law_bound f fd) (T : Blt mg)
    (GI : FnOk P w K mg base CX0 n f fd ["parts", "marks"] (spBound K n)) (mI : mg "_law_bound" = some (.ref f)) (bI : Binds K fd ["parts", "marks"] []) :
    FnOk P w K mg base CX0 (n + 1) f fd ["parts", "marks"] (spBound K (n + 1)) := by
  refine F.ok scBound (fun vs H Q E h => ?_) (fun cdv A outer s0 H vs Q E hr h => ?_)
  · obtain ⟨p, q, xs, es, ms, rfl, _⟩ := h
    rfl
  obtain ⟨p, q, xs, es, ms, rfl, hp, hxs, hq, hl, hn, h7, hes, hms, k⟩ := h
  refine ⟨_, pss_cons (ps_for PassesOwn.never rfl (pi_list (pe_lst (pa_cons (pe_tup (pa_cons pe_str pa_nil)) (pa_cons (pe_tup (pa_cons pe_str pa_nil)) (pa_cons (pe_tup (pa_cons pe_str (pa_cons pe_str pa_nil))) (pa_cons (pe_tup (pa_cons pe_str (pa_cons pe_str (pa_cons pe_str pa_nil)))) pa_nil)))))) (pg_name (i := 2) scBound.nd rfl (Or.inr rfl))
      (pss_cons (ps_setLc (i := 3) (own := [("at", 4)]) (g := gName 4) (by rfl) scBound.nd rfl rfl (sw_true rfl rfl rfl (by decide +kernel)) (pi_range1 rfl T.range (pa_cons (pe_callB call_len_seq (by rfl) T.len PySem.boot_len (pa_cons (pv 1) pa_nil)) pa_nil)) (blkOk_by (own := [("at", 4)]) (N := boundN) (sc := defScope S__law_bound) (by decide +kernel)) (fun _ _ _ _ _ => pg_name (i := 4) scBound.nd rfl (Or.inl rfl))
        (fun _ _ _ _ _ => pts_one (pt_cmpR (r := rIn K false) op_in_seq (pe_ix (r := rIxL K) ix_list (pv 1) (pv 4) (fun _ _ => rfl)) (pv 2) (by rfl))) (fun _ _ _ _ _ => pv 4))
      (pss_one (ps_if (pt_cmpR (op_neD hr.units) (pv 3) (pe_lst pa_nil) (nomark _))
        (pss_cons (ps_set (i := 4) scBound.nd rfl (Or.inl rfl) (pe_ix ix_list (pv 3) (pe_un un_neg pe_int) (fun _ _ => rfl)))
        (pss_one (ps_ret (pe_tup (pa_cons (pe_ix ix_list (pv 1) (pv 4) (fun _ _ => rfl)) (pa_cons (pe_call GI hr rfl mI F.kp bI .nil pass0 (pa_cons (pe_slice sl_list (pv 0) po_none (po_some (pe_op op_add (pv 4) pe_int))) (pa_cons (pe_slice sl_list (pv 1) po_none (po_some (pv 4))) pa_nil)))
          (pa_cons (pe_call GI hr rfl mI F.kp bI .nil pass0 (pa_cons (pe_slice sl_list (pv 0) (po_some (pe_op op_add (pv 4) pe_int)) po_none) (pa_cons (pe_slice sl_list (pv 1) (po_some (pe_op op_add (pv 4) pe_int)) po_none) pa_nil))) pa_nil))))))) pss_nil))))
    (pss_one (ps_ret (pe_ix ix_list (pv 0) pe_int (fun _ _ => rfl)))), ?_⟩
  refine ⟨(by show 1 ≤ sizeLine; decide), fun t0 n0 => ⟨(by show 1 ≤ sizeLine; decide), fun t1 n1 => ⟨(by show 2 ≤ sizeLine; decide), fun t2 n2 => ⟨(by show 3 ≤ sizeLine; decide), fun t3 n3 => ⟨(by show 4 ≤ sizeLine; decide), fun L nL => ?_⟩⟩⟩⟩⟩
  have sL := same_new nL (.lst [.ref t0, .ref t1, .ref t2, .ref t3])
  have s3 := (same_new n3 (.tup [.str "*", .str "/", .str "mod"])).trans sL
  have s2 := (same_new n2 (.tup [.str "+", .str "-"])).trans s3
  have s1 := (same_new n1 (.tup [.str "and"])).trans s2
  have s0' := (same_new n0 (.tup [.str "or"])).trans s1
  have a0 := s1 _ _ (upd_same (H := H) (a := t0) (o := .tup [.str "or"]))
  have a1 := s2 _ _ (upd_at n1 (.tup [.str "and"]))
  have a2 := s3 _ _ (upd_at n2 (.tup [.str "+", .str "-"]))
  have a3 := sL _ _ (upd_at n3 (.tup [.str "*", .str "/", .str "mod"]))
  have aL := upd_at nL (.lst [.ref t0, .ref t1, .ref t2, .ref t3])
  generalize upd (upd (upd (upd (upd H t0 (.tup [.str "or"])) t1 (.tup [.str "and"])) t2 (.tup [.str "+", .str "-"])) t3 (.tup [.str "*", .str "/", .str "mod"])) L (.lst [.ref t0, .ref t1, .ref t2, .ref t3]) = H5 at s0' a0 a1 a2 a3 aL ⊢
  have hts : ∀ (i : Nat) (x : V), [V.ref t0, .ref t1, .ref t2, .ref t3][i]? = some x → i < 4 ∧ ∃ t, x = .ref t ∧ H5 t = some (.tup ((wsM (gs4.getD i [])).map V.str)) := fun i x h => by
    match i, h with
    | 0, h => exact ⟨by decide, t0, (Option.some.inj h).symm, a0⟩
    | 1, h => exact ⟨by decide, t1, (Option.some.inj h).symm, a1⟩
    | 2, h => exact ⟨by decide, t2, (Option.some.inj h).symm, a2⟩
    | 3, h => exact ⟨by decide, t3, (Option.some.inj h).symm, a3⟩
    | j + 4, h => cases h
  clear a0 a1 a2 a3 s1 s2 s3 sL n0 n1 n2 n3 nL
  refine ⟨L, rfl, ⟨_, SqL.of aL⟩, for_list (K := K) (a := L) (xs := [.ref t0, .ref t1, .ref t2, .ref t3]) (fun i σ H' => ∃ v2 v3 : Option V, σ = [some (.ref p), some (.ref q), v2, v3, none] ∧ Same H5 H' ∧ ∀ m ∈ ms, lv5.getD i 0 ≤ m.lv)
    ⟨none, none, rfl, Same.refl _, fun m _ => Nat.zero_le _⟩ (fun i σ H' _ ⟨_, _, _, s1, _⟩ => SqL.of (s1 _ _ aL)) ?_ ?_⟩
  · rintro i x σ H6 hi ⟨v2, v3, rfl, s6, hlv⟩
    obtain ⟨hi4, t, rfl, ht⟩ := hts i x hi
    have s06 := s0'.trans s6
    refine ⟨_, rfl, q, _, rfl, .inl (Same.seq s06 hq), _, rfl, (by simp only [List.length_map, wsM]; omega), (by simp only [List.length_map, wsM]; omega), fun D hD => ?_⟩
    refine lc_range (lo := 0) (fun j H' => ∃ is : List Nat, H' D = some (.lst (is.map fun k => V.int ((k : Nat) : Int))) ∧ is.length ≤ j ∧ Same H6 H' ∧ Last (gs4.getD i []) ms j is) ⟨[], upd_same, Nat.le_refl _, same_new hD _, Last.zero _ _⟩ ?_ ?_
    · rintro j H7 hj ⟨is, hD7, hil, s7, hLast⟩
      refine ⟨rfl, ?_⟩
      have hjl : j < ms.length := by simp only [List.length_map, wsM] at hj; omega
      obtain ⟨m, hm⟩ : ∃ m, ms[j]? = some m := ⟨_, List.getElem?_eq_getElem hjl⟩
      have ej : (0 : Int) + (j : Int) = ((j : Nat) : Int) := by omega
      have hw : ((wsM ms).map V.str)[j]? = some (.str m.w) := by rw [wsM, List.getElem?_map, List.getElem?_map, hm]; rfl
      have fresh : ∀ o, Same H6 (upd H7 D o) := fun o b u z => by rw [upd_ne (ne_of_none z hD)]; exact s7 _ _ z
      refine ⟨_, rfl, _, rfl, q, _, _, .str m.w, rfl, rfl, Same.seq (s06.trans s7) hq, (by rw [ej]; exact atI_nat hw), ?_⟩
      refine ⟨_, rfl, t, _, rfl, .inr (SqT.of (s7 _ _ (s6 _ _ ht))), rfl, flat_strs _, _, rfl, ?_⟩
      show if inV (.str m.w) ((wsM (gs4.getD i [])).map V.str) = true then _ else _
      rw [in_strs, mem_w]
      by_cases hg : m ∈ gs4.getD i []
      · rw [decide_eq_true hg]
        refine iteT ⟨_, rfl, _, hD7, (by rw [List.length_map]; exact Nat.lt_of_le_of_lt (show is.length ≤ 10 by omega) (by decide)), is ++ [j], ?_, by rw [List.length_append, List.length_singleton]; omega, fresh _, Last.push hm hg⟩
        rw [upd_same, List.map_append, ej]
        rfl
      · rw [decide_eq_false hg]
        exact iteF ⟨is, hD7, by omega, s7, hLast.skip hm hg⟩
    · rintro H7 ⟨is, hD7, hil, s7, hLast⟩
      refine ⟨_, rfl, Nat.zero_le _, fun l nl => ⟨.list (is.map fun k => PyData.int ((k : Nat) : Int)), .list [], .lst (SqL.of (same_new nl _ _ _ hD7)) (dp_ints is), .lst (SqL.of upd_same) .nil, shaped_ints is, rfl, _, rfl, ?_⟩⟩
      rw [eqv_nil]
      have s67 := s6.trans (s7.trans (same_new nl (.lst [])))
      have s0l := s0'.trans s67
      have hDl := same_new nl (.lst []) _ _ hD7
      generalize upd H7 l (.lst []) = H8 at s67 s0l hDl ⊢
      have hlen : (((wsM ms).map V.str).length : Int).toNat = ms.length := by simp only [List.length_map, wsM]; omega
      rw [hlen] at hLast
      rcases List.eq_nil_or_concat is with e | ⟨pre, k', e⟩
      · subst e
        exact iteF ⟨_, _, rfl, s67, fun m hm => gs_out i hi4 m (hms m hm) (hlv m hm) (by
          obtain ⟨a, ha, e⟩ := List.getElem_of_mem hm
          exact hLast.none rfl a ha m (by rw [List.getElem?_eq_getElem ha, e]))⟩
      · rw [List.concat_eq_append] at e
        subst e
        obtain ⟨hk, ⟨m, hm, hg⟩, hafter⟩ := hLast.last pre k' rfl
        have hw : ((wsM ms).map V.str)[k']? = some (.str m.w) := by rw [wsM, List.getElem?_map, List.getElem?_map, hm]; rfl
        have hlx : xs.length = es.length := by rw [KD.DpAll.length hxs, List.length_map]
        have e1 : (((k' : Nat) : Int) + 1) = ((k' + 1 : Nat) : Int) := by omega
        rw [show (!((List.map (fun k => PyData.int ((k : Nat) : Int)) (pre ++ [k'])).isEmpty)) = true by rw [List.map_append]; cases pre <;> rfl]
        refine iteT ⟨_, rfl, _, rfl, D, _, _, .int k', rfl, rfl, SqL.of hDl, (by rw [List.map_append]; exact atI_last _ _), ?_⟩
        refine ⟨_, rfl, _, rfl, q, _, _, .str m.w, rfl, rfl, Same.seq s0l hq, atI_nat hw, ?_⟩
        refine ⟨_, rfl, _, rfl, _, _, rfl, rfl, _, rfl, p, xs, rfl, Same.seq s0l hp, fun p1 np1 => ?_⟩
        have sp1 := s0l.trans (same_new np1 (.lst (cutV xs none (some (((k' : Nat) : Int) + 1)))))
        refine ⟨_, rfl, _, rfl, _, rfl, q, _, rfl, Same.seq sp1 hq, fun q1 nq1 => ?_⟩
        have sq1 := sp1.trans (same_new nq1 (.lst (cutV ((wsM ms).map V.str) none (some ((k' : Nat) : Int)))))
        have hp1 := same_new nq1 (.lst (cutV ((wsM ms).map V.str) none (some ((k' : Nat) : Int)))) _ _ (upd_at np1 (.lst (cutV xs none (some (((k' : Nat) : Int) + 1)))))
        have hq1 := upd_at nq1 (.lst (cutV ((wsM ms).map V.str) none (some ((k' : Nat) : Int))))
        generalize upd (upd H8 p1 (.lst (cutV xs none (some (((k' : Nat) : Int) + 1))))) q1 (.lst (cutV ((wsM ms).map V.str) none (some ((k' : Nat) : Int)))) = H9 at sq1 hp1 hq1 ⊢
        rw [e1, cut_to] at hp1
        rw [cut_to, ← List.map_take, wsM, ← List.map_take] at hq1
        refine ⟨p1, q1, _, es.take (k' + 1), ms.take k', rfl, SqL.of hp1, by rw [List.map_take]; exact DpAll.take _ (KD.DpAll.same sq1 hxs), SqL.of hq1, by rw [List.length_take, List.length_take]; omega, by rw [List.length_take]; omega, by rw [List.length_take]; omega, fun e he => hes e (List.mem_of_mem_take he), fun x hx => hms x (List.mem_of_mem_take hx), fun H10 u1 g1 s10 d1 b1 => ?_⟩
        have s010 := sq1.trans s10
        refine ⟨_, rfl, _, rfl, _, _, rfl, rfl, _, rfl, p, xs, rfl, Same.seq s010 hp, fun p2 np2 => ?_⟩
        have sp2 := s010.trans (same_new np2 (.lst (cutV xs (some (((k' : Nat) : Int) + 1)) none)))
        refine ⟨_, rfl, _, rfl, _, _, rfl, rfl, _, rfl, q, _, rfl, Same.seq sp2 hq, fun q2 nq2 => ?_⟩
        have hp2 := same_new nq2 (.lst (cutV ((wsM ms).map V.str) (some (((k' : Nat) : Int) + 1)) none)) _ _ (upd_at np2 (.lst (cutV xs (some (((k' : Nat) : Int) + 1)) none)))
        have hq2 := upd_at nq2 (.lst (cutV ((wsM ms).map V.str) (some (((k' : Nat) : Int) + 1)) none))
        have sq2' := (same_new np2 (.lst (cutV xs (some (((k' : Nat) : Int) + 1)) none))).trans (same_new nq2 (.lst (cutV ((wsM ms).map V.str) (some (((k' : Nat) : Int) + 1)) none)))
        have sq2 := s010.trans sq2'
        generalize upd (upd H10 p2 (.lst (cutV xs (some (((k' : Nat) : Int) + 1)) none))) q2 (.lst (cutV ((wsM ms).map V.str) (some (((k' : Nat) : Int) + 1)) none)) = H11 at sq2 sq2' hp2 hq2 ⊢
        rw [e1, cut_from] at hp2
        rw [e1, cut_from, ← List.map_drop, wsM, ← List.map_drop] at hq2
        refine ⟨p2, q2, _, es.drop (k' + 1), ms.drop (k' + 1), rfl, SqL.of hp2, by rw [List.map_drop]; exact DpAll.drop _ (KD.DpAll.same sq2 hxs), SqL.of hq2, by rw [List.length_drop, List.length_drop]; omega, by rw [List.length_drop]; omega, by rw [List.length_drop]; omega, fun e he => hes e (List.mem_of_mem_drop he), fun x hx => hms x (List.mem_of_mem_drop hx), fun H12 u2 g2 s12 d2 b2 => ?_⟩
        refine ⟨(by show 3 ≤ sizeLine; decide), fun tp ntp => ?_⟩
        have sE := same_new ntp (.tup [.str m.w, u1, u2])
        exact k _ _ (.bin m g1 g2) ((sq2.trans s12).trans sE) (Dp.new ntp (.cons (.str _) (.cons (Dp.same (sq2'.trans s12) d1) (.cons d2 .nil)))) (BT.bin i k' hi4 hlv hm hg hafter b1 b2)
  · rintro σ H6 ⟨v2, v3, rfl, s6, hlv⟩
    have e0 : ms = [] := by
      cases ms with
      | nil => rfl
      | cons m r => exact absurd (hlv m List.mem_cons_self) (m7_5 m (hms m List.mem_cons_self))
    subst e0
    have hl1 : es.length = 1 := hl
    match es, hl1, hxs, hes, k with
    | [e], _, hxs, hes, k =>
      obtain ⟨v, vs, rfl, g1, g2⟩ := dp_cons hxs
      obtain rfl := dp_nil g2
      have he := hes e List.mem_cons_self
      exact ⟨_, rfl, p, _, _, _, rfl, rfl, Same.seq (s0'.trans s6) hp, rfl, k H6 v e (s0'.trans s6) (Dp.same (s0'.trans s6) g1) (BT.one e)⟩
theorem ok_bound {f : Addr} {fd : FuncData} (F : Fun K "_law_bound" "_law_bound" S__law_bound f fd) (T : Blt mg) (mI : mg "_law_bound" = some (.ref f)) (bI : Binds K fd ["parts", "marks"] []) :
    ∀ n : Nat, FnOk P w K mg base CX0 n f fd ["parts", "marks"] (spBound K n)
  | 0 => by
    have no : ∀ vs H Q E, ¬ spBound K 0 vs H Q E := fun vs H Q E h => by
      obtain ⟨p, q, xs, es, ms, _, _, _, _, _, h1, _⟩ := h
      omega
    exact ⟨fun vs H Q E h => absurd h (no vs H Q E), fun A outer s H args us vs Q E _ _ _ _ h => absurd h (no vs H Q E)⟩
  | n + 1 => ok_bound1 F T (ok_bound F T mI bI n) mI bI
end
end KD

namespace KD
open PySem L2 TL
mutual
/-- no list is too long -/
def slimD : PyData → Bool
  | .list xs => decide (xs.length ≤ 1000000) && slimDs xs
  | .tuple xs => decide (xs.length ≤ 1000000) && slimDs xs
  | .dict _ => false
  | _ => true
def slimDs : List PyData → Bool
  | [] => true
  | x :: xs => slimD x && slimDs xs
end
theorem slimDs_get : ∀ {xs : List PyData} {i : Nat} {d : PyData}, slimDs xs = true → xs[i]? = some d → slimD d = true
  | [], i, d, _, h => by simp at h
  | x :: xs, 0, d, h, e => by
    unfold slimDs at h
    rw [Bool.and_eq_true] at h
    have := Option.some.inj e
    subst this
    exact h.1
  | x :: xs, i + 1, d, h, e => by
    unfold slimDs at h
    rw [Bool.and_eq_true] at h
    exact slimDs_get (i := i) h.2 e
theorem depth_get : ∀ {xs : List PyData} {i : Nat} {d : PyData}, xs[i]? = some d → PyData.depth d ≤ PyData.depthAll xs
  | [], i, d, h => by simp at h
  | x :: xs, 0, d, e => by
    have := Option.some.inj e
    subst this
    exact Nat.le_max_left _ _
  | x :: xs, i + 1, d, e => Nat.le_trans (depth_get (i := i) e) (Nat.le_max_right _ _)
def us2 : List Value := [.type "tuple", .type "list"]
theorem cls2 : Paired ClsV [.ty "tuple", .ty "list"] us2 := .cons (.ty _) (.cons (.ty _) .nil)
theorem kit2 {K : PySem.W.Frag} {a : String} {b1 b2 b : Bool} (h1 : kitB a "tuple" = some b1) (h2 : kitB a "list" = some b2) (hb : b = (b1 || b2)) : PySem.W.kitAny K (.type a) us2 = some b := by
  subst hb
  exact kitAny_cons (b := b1) (kit_ty h1) (fun e => by rw [e]; exact kitAny_cons (b := b2) (kit_ty h2) (fun e2 => by rw [e2]; exact kitAny_nil) (fun e2 => by rw [e2]; rfl)) (fun e => by rw [e]; rfl)
theorem Fp.list {K : PySem.W.Frag} {H : Hp} {a : Addr} {xs : List V} (h : SqL K H a xs) : TyX K H (.ref a) (.type "list") := by
  rcases h with (h | ⟨o, h⟩) | ⟨o, its, n, h1, h2, _⟩
  · exact .base (.lst h)
  · exact .base (.frz h)
  · exact .kList h1 h2
theorem Fp.tup {K : PySem.W.Frag} {H : Hp} {a : Addr} {xs : List V} (h : SqT K H a xs) : TyX K H (.ref a) (.type "tuple") := by
  rcases h with (h | ⟨o, h⟩) | ⟨o, its, n, h1, h2, _⟩
  · exact .base (.tup h)
  · exact .fTuple h
  · exact .kTuple h1 h2
def bxT (C : Bool) : String := if C then "tuple" else "list"
def Bx (K : PySem.W.Frag) (C : Bool) (H : Hp) (a : Addr) (xs : List V) : Prop := if C then SqT K H a xs else SqL K H a xs
theorem Bx.ty {K : PySem.W.Frag} {H : Hp} {a : Addr} {xs : List V} : ∀ {C : Bool}, Bx K C H a xs → TyX K H (.ref a) (.type (bxT C))
  | true, h => Fp.tup h
  | false, h => Fp.list h
theorem Bx.same {K : PySem.W.Frag} {H H' : Hp} {a : Addr} {xs : List V} (s : Same H H') : ∀ {C : Bool}, Bx K C H a xs → Bx K C H' a xs
  | true, h => KT.same s _ _ h
  | false, h => s.seq h
theorem Bx.seq {K : PySem.W.Frag} {H : Hp} {a : Addr} {xs : List V} : ∀ {C : Bool}, Bx K C H a xs → SqL K H a xs ∨ SqT K H a xs
  | true, h => .inr h
  | false, h => .inl h
theorem Bx.kit {K : PySem.W.Frag} : ∀ {C : Bool}, PySem.W.kitAny K (.type (bxT C)) us2 = some true
  | true => kit2 (b1 := true) (b2 := false) (by decide +kernel) (by decide +kernel) rfl
  | false => kit2 (b1 := false) (b2 := true) (by decide +kernel) (by decide +kernel) rfl
theorem Bx.isl {K : PySem.W.Frag} : ∀ {C : Bool}, PySem.W.kitOne K (.type (bxT C)) (.type "list") = some (!C)
  | true => kit_ty (by decide +kernel)
  | false => kit_ty (by decide +kernel)
def bxD (C : Bool) (ds : List PyData) : PyData := if C then .tuple ds else .list ds
theorem Bx.of {K : PySem.W.Frag} {H : Hp} {v : V} {ds : List PyData} : ∀ {C : Bool}, Dp K H v (bxD C ds) → ∃ a xs, v = .ref a ∧ Bx K C H a xs ∧ DpAll K H xs ds
  | true, h => dp_tup h
  | false, h => by
    cases (show Dp K H v (.list ds) from h) with
    | lst h1 h2 => exact ⟨_, _, rfl, h1, h2⟩
section
variable {P : Program} {w : World} {K : PySem.W.Frag} {mg : Str → Option Value} {base : Heap}
theorem scAlike : FnScope ["found", "due", "k"] ["found", "due"] (defScope S__law_alike) := ⟨rfl, rfl, rfl, by decide +kernel, rfl, by decide +kernel, by decide +kernel⟩
def spAlk (K : PySem.W.Frag) (n : Nat) : Sp := fun vs H Q _ => ∃ (x y : V) (d : PyData), vs = [x, y] ∧ Dp K H x d ∧ Dp K H y d ∧ PyData.depth d < n ∧ slimD d = true ∧ ∀ H', Same H H' → Q (.bl true) H'
theorem ok_alk1 {n : Nat} {f : Addr} {fd : FuncData} (F : Fun K "_law_alike" "_law_alike" S__law_alike f fd) (T : Blt mg) (GI : FnOk P w K mg base CX0 n f fd ["found", "due"] (spAlk K n)) (mI : mg "_law_alike" = some (.ref f)) (bI : Binds K fd ["found", "due"] []) :
    FnOk P w K mg base CX0 (n + 1) f fd ["found", "due"] (spAlk K (n + 1)) := by
  refine F.ok scAlike (fun vs H Q E h => ?_) (fun cdv A outer s0 H vs Q E hr h => ?_)
  · obtain ⟨x, y, d, rfl, _⟩ := h
    rfl
  obtain ⟨x, y, d, rfl, hx, hy, hd, hs, k⟩ := h
  have isT : ∀ i : Nat, True := fun _ => trivial
  refine ⟨_, pss_cons (ps_if (pt_val (pe_callB call_isiT (by rfl) T.isi (by decide +kernel) (pa_cons (pv 1) (pa_cons (pe_tup (pa_cons (pe_bltn (v := .ty "tuple") (by rfl) T.tup (by decide +kernel) rfl) (pa_cons (pe_bltn (v := .ty "list") (by rfl) T.list (by decide +kernel) rfl) pa_nil))) pa_nil))))
      (pss_cons (ps_if (PW.pt (pw_or (pt_not (pt_val (pe_callB call_isiT (by rfl) T.isi (by decide +kernel) (pa_cons (pv 0) (pa_cons (pe_tup (pa_cons (pe_bltn (v := .ty "tuple") (by rfl) T.tup (by decide +kernel) rfl) (pa_cons (pe_bltn (v := .ty "list") (by rfl) T.list (by decide +kernel) rfl) pa_nil))) pa_nil)))))
          (pw_or1 (pt_cmpR op_ne (pe_callB call_isi (by rfl) T.isi (by decide +kernel) (pa_cons (pv 0) (pa_cons (pe_bltn (v := .ty "list") (by rfl) T.list (by decide +kernel) rfl) pa_nil)))
            (pe_callB call_isi (by rfl) T.isi (by decide +kernel) (pa_cons (pv 1) (pa_cons (pe_bltn (v := .ty "list") (by rfl) T.list (by decide +kernel) rfl) pa_nil))) (nomark _))))) pss_never pss_nil)
      (pss_cons (ps_if (pt_cmpR op_ne (pe_callB call_len_seq (by rfl) T.len PySem.boot_len (pa_cons (pv 0) pa_nil)) (pe_callB call_len_seq (by rfl) T.len PySem.boot_len (pa_cons (pv 1) pa_nil)) (nomark _)) pss_never pss_nil)
      (pss_one (ps_ret (pe_cmpR (op_eqD hr.units) (pe_lc (own := [("k", 2)]) (g := gName 2) rfl scAlike.nd (pi_range1 rfl T.range (pa_cons (pe_callB call_len_seq (by rfl) T.len PySem.boot_len (pa_cons (pv 1) pa_nil)) pa_nil))
          (blkOk_by (own := [("k", 2)]) (N := ["found", "due", "k"]) (sc := defScope S__law_alike) (by decide +kernel)) (fun _ _ _ _ _ => pg_name (i := 2) scAlike.nd rfl (Or.inl rfl))
          (fun _ _ _ _ _ => pts_one (pt_not (pt_val (pe_call GI hr rfl mI F.kp bI .nil pass0 (pa_cons (pe_ix (r := rIx K) ix_seq (pv 0) (pv 2) (fun _ _ => rfl)) (pa_cons (pe_ix (r := rIx K) ix_seq (pv 1) (pv 2) (fun _ _ => rfl)) pa_nil))))))
          (fun _ _ _ _ _ => pv 2)) (pe_lst pa_nil) (nomark _)))))) pss_nil)
    (pss_cons (ps_if (PW.pt (pw_or (pt_cmp (pc_isN (pv 1))) (pw_or1 (pt_val (pe_callB call_isi (by rfl) T.isi (by decide +kernel) (pa_cons (pv 1) (pa_cons (pe_bltn (v := .ty "str") (by rfl) T.str (by decide +kernel) rfl) pa_nil)))))))
      (pss_one (ps_ret (pe_and (pe_cmpR op_eq (pv 0) (pv 1) (nomark _)) (pe_one (pe_cmpR op_eq
        (pe_callB call_isi (by rfl) T.isi (by decide +kernel) (pa_cons (pv 0) (pa_cons (pe_bltn (v := .ty "str") (by rfl) T.str (by decide +kernel) rfl) pa_nil)))
        (pe_callB call_isi (by rfl) T.isi (by decide +kernel) (pa_cons (pv 1) (pa_cons (pe_bltn (v := .ty "str") (by rfl) T.str (by decide +kernel) rfl) pa_nil))) (nomark _)))))) pss_nil)
    (pss_one (ps_ret (pe_and (pe_callB call_isi (by rfl) T.isi (by decide +kernel) (pa_cons (pv 0) (pa_cons (pe_bltn (v := .ty "int") (by rfl) T.int (by decide +kernel) rfl) pa_nil)))
      (pe_and (pe_cmpR op_eq
        (pe_callB call_isi (by rfl) T.isi (by decide +kernel) (pa_cons (pv 0) (pa_cons (pe_bltn (v := .ty "bool") (by rfl) T.bool (by decide +kernel) rfl) pa_nil)))
        (pe_callB call_isi (by rfl) T.isi (by decide +kernel) (pa_cons (pv 1) (pa_cons (pe_bltn (v := .ty "bool") (by rfl) T.bool (by decide +kernel) rfl) pa_nil))) (nomark _))
      (pe_one (pe_cmpR op_eq (pv 0) (pv 1) (nomark _)))))))), ?_⟩
  by_cases hbx : ∃ (C : Bool) (ds : List PyData), d = bxD C ds
  · obtain ⟨C, ds, rfl⟩ := hbx
    obtain ⟨p, xs, rfl, hp, hxs⟩ := Bx.of hx
    obtain ⟨q, ys, rfl, hq, hys⟩ := Bx.of hy
    have hsl : ds.length ≤ 1000000 ∧ slimDs ds = true := by
      cases C with
      | true =>
        have z : (decide (ds.length ≤ 1000000) && slimDs ds) = true := hs
        rw [Bool.and_eq_true, decide_eq_true_iff] at z
        exact z
      | false =>
        have z : (decide (ds.length ≤ 1000000) && slimDs ds) = true := hs
        rw [Bool.and_eq_true, decide_eq_true_iff] at z
        exact z
    have hdd : PyData.depthAll ds < n := by
      cases C with
      | true =>
        have z : PyData.depthAll ds + 1 < n + 1 := hd
        omega
      | false =>
        have z : PyData.depthAll ds + 1 < n + 1 := hd
        omega
    have l1 := KD.DpAll.length hxs
    have l2 := KD.DpAll.length hys
    have h1000 : ys.length ≤ 1000000 := by rw [l2]; exact hsl.1
    refine ⟨_, rfl, (by show 2 ≤ sizeLine; decide), fun tp htp => ⟨_, tp, _, _, us2, true, rfl, upd_same, cls2, Bx.ty (Bx.same (same_new htp _) hq), Bx.kit, true, rfl, iteT ?_⟩⟩
    have s1 := same_new htp (.tup [.ty "tuple", .ty "list"])
    refine ⟨_, rfl, (by show 2 ≤ sizeLine; decide), fun tp2 htp2 => ?_⟩
    have s2 := s1.trans (same_new htp2 (.tup [.ty "tuple", .ty "list"]))
    refine ⟨_, tp2, _, _, us2, true, rfl, upd_same, cls2, Bx.ty (Bx.same s2 hp), Bx.kit, true, rfl, iteF ?_⟩
    generalize upd (upd H tp (.tup [.ty "tuple", .ty "list"])) tp2 (.tup [.ty "tuple", .ty "list"]) = H2 at s2 ⊢
    refine ⟨_, rfl, _, _, _, _, !C, rfl, .ty "list", Bx.ty (Bx.same s2 hp), Bx.isl, _, rfl, _, _, _, _, !C, rfl, .ty "list", Bx.ty (Bx.same s2 hq), Bx.isl, rfl, _, rfl, iteNS rfl ?_⟩
    refine ⟨_, rfl, p, xs, rfl, Bx.seq (Bx.same s2 hp), _, rfl, q, ys, rfl, Bx.seq (Bx.same s2 hq), rfl, _, rfl, iteNS (by rw [l1, l2]) ?_⟩
    refine ⟨_, rfl, q, ys, rfl, Bx.seq (Bx.same s2 hq), _, rfl, by omega, by omega, fun D hD => ?_⟩
    have s3 := s2.trans (same_new hD (.lst []))
    refine lc_range (lo := 0) (n := ((ys.length : Nat) : Int).toNat) (fun _ H' => H' D = some (.lst []) ∧ Same H H') ⟨upd_same, s3⟩ ?_ ?_
    · rintro i H' hi ⟨hD', s4⟩
      have hi' : i < ys.length := by omega
      have ei : (0 : Int) + (i : Int) = ((i : Nat) : Int) := by omega
      obtain ⟨x, hx⟩ : ∃ x, xs[i]? = some x := ⟨_, List.getElem?_eq_getElem (by omega)⟩
      obtain ⟨y, hy⟩ : ∃ y, ys[i]? = some y := ⟨_, List.getElem?_eq_getElem hi'⟩
      have ax : atI xs (0 + (i : Int)) = some x := by rw [ei]; exact atI_nat hx
      have ay : atI ys (0 + (i : Int)) = some y := by rw [ei]; exact atI_nat hy
      obtain ⟨d1, e1, g1⟩ := KD.DpAll.get hxs hx
      obtain ⟨d2, e2, g2⟩ := KD.DpAll.get hys hy
      have e12 : d1 = d2 := by rw [e1] at e2; exact Option.some.inj e2
      subst e12
      have ix : ∀ {a : Addr} {zs : List V} {v : V} (Q2 : VK), Bx K C H a zs → atI zs (0 + (i : Int)) = some v → Q2 v H' → rIx K (.ref a) (.int (0 + (i : Int))) H' Q2 := fun {a zs v} Q2 h1 h2 h3 => by
        rcases Bx.seq (Bx.same s4 h1) with h | h
        · exact .inl ⟨a, zs, _, v, rfl, rfl, h, h2, h3⟩
        · exact .inr (.inl ⟨a, zs, _, v, rfl, rfl, h, h2, h3⟩)
      refine ⟨rfl, ?_⟩
      refine ⟨_, rfl, _, rfl, ix _ hp ax ?_⟩
      refine ⟨_, rfl, _, rfl, ix _ hq ay ?_⟩
      refine ⟨x, y, d1, rfl, Dp.same s4 g1, Dp.same s4 g2, Nat.lt_of_le_of_lt (depth_get e1) hdd, slimDs_get hsl.2 e1, fun H5 s5 => ⟨true, rfl, iteF ?_⟩⟩
      exact ⟨s5 _ _ hD', s4.trans s5⟩
    · rintro H' ⟨hD', s4⟩
      refine ⟨Nat.zero_le _, fun l hl' => ⟨.list [], .list [], .lst (SqL.of (same_new hl' _ _ _ hD')) .nil, .lst (SqL.of upd_same) .nil, rfl, rfl, ?_⟩⟩
      show Q (.bl true) _
      exact k _ (s4.trans (same_new hl' _))
  cases d with
  | list ds => exact absurd ⟨false, ds, rfl⟩ hbx
  | tuple ds => exact absurd ⟨true, ds, rfl⟩ hbx
  | dict kvs => cases hs
  | none =>
    cases hx
    cases hy
    refine ⟨_, rfl, (by show 2 ≤ sizeLine; decide), fun tp htp => ⟨_, tp, _, _, us2, false, rfl, upd_same, cls2, .base .non, kit2 (b1 := false) (b2 := false) (by decide +kernel) (by decide +kernel) rfl, false, rfl, iteF ?_⟩⟩
    refine ⟨_, rfl, _, rfl, iteT ?_⟩
    refine ⟨_, rfl, _, rfl, rfl, _, rfl, iteT ?_⟩
    refine ⟨_, rfl, _, _, _, _, false, rfl, .ty "str", .base .non, kit_ty (by decide +kernel), _, rfl, _, _, _, _, false, rfl, .ty "str", .base .non, kit_ty (by decide +kernel), rfl, ?_⟩
    exact k _ (same_new htp _)
  | str z =>
    cases hx
    cases hy
    refine ⟨_, rfl, (by show 2 ≤ sizeLine; decide), fun tp htp => ⟨_, tp, _, _, us2, false, rfl, upd_same, cls2, .base (.str _), kit2 (b1 := false) (b2 := false) (by decide +kernel) (by decide +kernel) rfl, false, rfl, iteF ?_⟩⟩
    refine ⟨_, rfl, _, rfl, iteF ?_⟩
    refine ⟨_, rfl, _, _, _, _, true, rfl, .ty "str", .base (.str _), kit_ty (by decide +kernel), true, rfl, iteT ?_⟩
    refine ⟨_, rfl, _, rfl, rfl, _, rfl, ?_⟩
    rw [decide_eq_true rfl]
    refine iteT ?_
    refine ⟨_, rfl, _, _, _, _, true, rfl, .ty "str", .base (.str _), kit_ty (by decide +kernel), _, rfl, _, _, _, _, true, rfl, .ty "str", .base (.str _), kit_ty (by decide +kernel), rfl, ?_⟩
    exact k _ (same_new htp _)
  | bool z =>
    cases hx
    cases hy
    refine ⟨_, rfl, (by show 2 ≤ sizeLine; decide), fun tp htp => ⟨_, tp, _, _, us2, false, rfl, upd_same, cls2, .base (.bl _), kit2 (b1 := false) (b2 := false) (by decide +kernel) (by decide +kernel) rfl, false, rfl, iteF ?_⟩⟩
    refine ⟨_, rfl, _, rfl, iteF ?_⟩
    refine ⟨_, rfl, _, _, _, _, false, rfl, .ty "str", .base (.bl _), kit_ty (by decide +kernel), false, rfl, iteF ?_⟩
    refine ⟨_, rfl, _, _, _, _, true, rfl, .ty "int", .base (.bl _), kit_ty (by decide +kernel), true, rfl, iteT ?_⟩
    refine ⟨_, rfl, _, _, _, _, true, rfl, .ty "bool", .base (.bl _), kit_ty (by decide +kernel), _, rfl, _, _, _, _, true, rfl, .ty "bool", .base (.bl _), kit_ty (by decide +kernel), rfl, true, rfl, iteT ?_⟩
    refine ⟨_, rfl, _, rfl, rfl, ?_⟩
    show Q (.bl (decide (V.bl z = V.bl z))) _
    rw [decide_eq_true rfl]
    exact k _ (same_new htp _)
  | int z =>
    cases hx
    cases hy
    refine ⟨_, rfl, (by show 2 ≤ sizeLine; decide), fun tp htp => ⟨_, tp, _, _, us2, false, rfl, upd_same, cls2, .base (.int _), kit2 (b1 := false) (b2 := false) (by decide +kernel) (by decide +kernel) rfl, false, rfl, iteF ?_⟩⟩
    refine ⟨_, rfl, _, rfl, iteF ?_⟩
    refine ⟨_, rfl, _, _, _, _, false, rfl, .ty "str", .base (.int _), kit_ty (by decide +kernel), false, rfl, iteF ?_⟩
    refine ⟨_, rfl, _, _, _, _, true, rfl, .ty "int", .base (.int _), kit_ty (by decide +kernel), true, rfl, iteT ?_⟩
    refine ⟨_, rfl, _, _, _, _, false, rfl, .ty "bool", .base (.int _), kit_ty (by decide +kernel), _, rfl, _, _, _, _, false, rfl, .ty "bool", .base (.int _), kit_ty (by decide +kernel), rfl, true, rfl, iteT ?_⟩
    refine ⟨_, rfl, _, rfl, rfl, ?_⟩
    show Q (.bl (decide (V.int z = V.int z))) _
    rw [decide_eq_true rfl]
    exact k _ (same_new htp _)
theorem ok_alk {f : Addr} {fd : FuncData} (F : Fun K "_law_alike" "_law_alike" S__law_alike f fd) (T : Blt mg) (mI : mg "_law_alike" = some (.ref f)) (bI : Binds K fd ["found", "due"] []) :
    ∀ n : Nat, FnOk P w K mg base CX0 n f fd ["found", "due"] (spAlk K n)
  | 0 => by
    have no : ∀ vs H Q E, ¬ spAlk K 0 vs H Q E := fun vs H Q E h => by
      obtain ⟨x, y, d, _, _, _, h1, _⟩ := h
      omega
    exact ⟨fun vs H Q E h => absurd h (no vs H Q E), fun A outer s H args us vs Q E _ _ _ _ h => absurd h (no vs H Q E)⟩
  | n + 1 => ok_alk1 F T (ok_alk F T mI bI n) mI bI
end
end KD

namespace KD
open PySem L2 TL
open K0 (Toks num)
theorem Rdb.sayY {Y : Str} {ws : List Tk} {e : Ex} (h : PartT Y ws) (g : G 5 0 e ws) (he : eOk e) (hl : Y.length ≤ 80000) : Rdb ("say " ++ Y) (sayP e) := by
  have j0 := JS.nil.lit2 (X := "say ") (vs := [kK "say"]) (g := .free) [.wd "key" "say", .bl " "] (by decide +kernel) rfl (by decide +kernel) rfl
  rw [show ("" : Str) ++ "say " = "say " by decide +kernel] at j0
  have j1 := h.seg j0 (h.fol (.inr rfl))
  have q := j1 [] [] .nil trivial
  rw [List.append_nil, List.append_nil] at q
  refine Rdb.say q (g.mono (by decide)) he ?_
  rw [sums, show ("say " : Str).length = 4 by decide +kernel]
  omega
theorem slimE : ∀ e : Ex, slimD e.d = true
  | .num _ => rfl
  | .name _ => rfl
  | .rows => rfl
  | .cols => rfl
  | .un o a => by
    have h := slimE a
    show (decide ((2 : Nat) ≤ 1000000) && (true && (slimD a.d && true))) = true
    rw [h]
    rfl
  | .bin o a b => by
    have h := slimE a
    have h2 := slimE b
    show (decide ((3 : Nat) ≤ 1000000) && (true && (slimD a.d && (slimD b.d && true)))) = true
    rw [h, h2]
    rfl
theorem slim_say (e : Ex) : slimD (sayP e).d = true := by
  have h := slimE e
  show (decide ((2 : Nat) ≤ 1000000) && ((decide ((0 : Nat) ≤ 1000000) && true) && ((decide ((1 : Nat) ≤ 1000000) && ((decide ((2 : Nat) ≤ 1000000) && (true && (slimD e.d && true))) && true)) && true))) = true
  rw [h]
  rfl
theorem depth_say {e : Ex} (h : wfE e) (hd : dpE e ≤ 11) : PyData.depth (sayP e).d < 20 := by
  have q := (layE h).2
  show max (0 + 1) (max (max (max 0 (max (PyData.depth e.d) 0) + 1) 0 + 1) 0) + 1 < 20
  omega
/-- what parts are drawn -/
def parts5 : List Ex := [.num 3, .name "x", .rows, .un .neg (.num 1), .un .neg (.un .neg (.name "y"))]
theorem parts5_ok : ∀ e ∈ parts5, bareE e ∧ dpE e ≤ 2 := by
  intro e h
  simp only [parts5, List.mem_cons, List.not_mem_nil, or_false] at h
  rcases h with rfl | rfl | rfl | rfl | rfl <;> exact ⟨by (first | trivial | (show (_ : Nat) < 1000000; decide) | (show nameW _ = true; decide +kernel)), by decide⟩
def cmp4 : List Bi := [.lt, .le, .eq, .ne]
def tx1 (b : Bool) : Str := if b then "x + 1 " else "x "
def tx2 (b : Bool) : Str := if b then " 2 * cols" else " 2"
def ex1 (b : Bool) : Ex := if b then .bin .add (.name "x") (.num 1) else .name "x"
def ex2 (b : Bool) : Ex := if b then .bin .mul (.num 2) .cols else .num 2
theorem tx_a : ∀ o ∈ cmp4, ∀ a b : Bool, ("say not " : Str) ++ (tx1 a ++ o.w ++ tx2 b) ++ " and " ++ (tx1 a ++ o.w ++ tx2 b) = "say " ++ shX (.bin .and (.un .not (.bin o (ex1 a) (ex2 b))) (.bin o (ex1 a) (ex2 b))) 0 := by
  intro o h a b
  simp only [cmp4, List.mem_cons, List.not_mem_nil, or_false] at h
  rcases h with rfl | rfl | rfl | rfl <;> cases a <;> cases b <;> decide +kernel
theorem tx_b : ∀ o ∈ cmp4, ∀ a b : Bool, ("say not not " : Str) ++ (tx1 a ++ o.w ++ tx2 b) = "say " ++ shX (.un .not (.un .not (.bin o (ex1 a) (ex2 b)))) 0 := by
  intro o h a b
  simp only [cmp4, List.mem_cons, List.not_mem_nil, or_false] at h
  rcases h with rfl | rfl | rfl | rfl <;> cases a <;> cases b <;> decide +kernel
theorem tx_c : ∀ o ∈ cmp4, ∀ a b : Bool, ("say " : Str) ++ (tx1 a ++ o.w ++ tx2 b) ++ " or not x" = "say " ++ shX (.bin .or (.bin o (ex1 a) (ex2 b)) (.un .not (.name "x"))) 0 := by
  intro o h a b
  simp only [cmp4, List.mem_cons, List.not_mem_nil, or_false] at h
  rcases h with rfl | rfl | rfl | rfl <;> cases a <;> cases b <;> decide +kernel
theorem tx_len : ∀ o ∈ cmp4, ∀ a b : Bool, (tx1 a ++ o.w ++ tx2 b).length ≤ 20 ∧ (tx1 a).length ≤ 6 ∧ (tx1 a ++ o.w).length ≤ 8 := by
  intro o h a b
  simp only [cmp4, List.mem_cons, List.not_mem_nil, or_false] at h
  rcases h with rfl | rfl | rfl | rfl <;> cases a <;> cases b <;> decide +kernel
theorem ex_ok : ∀ a : Bool, (wfE (ex1 a) ∧ dpE (ex1 a) ≤ 1) ∧ wfE (ex2 a) ∧ dpE (ex2 a) ≤ 1 := by
  intro a
  cases a <;> exact ⟨⟨by (first | (show nameW _ = true; decide +kernel) | exact ⟨by (show nameW _ = true; decide +kernel), by (show (1 : Nat) < 1000000; decide)⟩), by decide⟩, by (first | (show (2 : Nat) < 1000000; decide) | exact ⟨by (show (2 : Nat) < 1000000; decide), trivial⟩), by decide⟩
end KD

/-! Expressions over words, for a reader that goes from the left: rows of one level, what follows a piece. Names no row. -/
namespace KD
open PySem L2 TL
open K0 (num)
/-- the marks of a level behind the first part -/
inductive Row (d l : Nat) : List (Bi × Ex) → List Tk → Prop
  | nil : Row d l [] []
  | cons {o : Bi} {b : Ex} {qs : List (Bi × Ex)} {tb ts : List Tk} : o.lv = l → G d (l + 1) b tb → Row d l qs ts → Row d l ((o, b) :: qs) (o.tk :: (tb ++ ts))
theorem Row.snoc {d l : Nat} {o : Bi} {b : Ex} {tb : List Tk} (ho : o.lv = l) (hb : G d (l + 1) b tb) : ∀ {qs : List (Bi × Ex)} {ts : List Tk}, Row d l qs ts → Row d l (qs ++ [(o, b)]) (ts ++ [o.tk] ++ tb)
  | _, _, .nil => by
    have q := Row.cons ho hb (Row.nil (d := d) (l := l))
    rw [List.append_nil] at q
    exact q
  | _, _, .cons (o := p) (tb := u) h1 h2 (ts := ts) h3 => by
    have q := Row.cons h1 h2 (Row.snoc ho hb h3)
    have e : p.tk :: (u ++ ts) ++ [o.tk] ++ tb = p.tk :: (u ++ (ts ++ [o.tk] ++ tb)) := by simp
    rw [e]
    exact q
def foldB (e : Ex) (qs : List (Bi × Ex)) : Ex := qs.foldl (fun a q => .bin q.1 a q.2) e
theorem foldB_snoc (e : Ex) (qs : List (Bi × Ex)) (o : Bi) (b : Ex) : foldB e (qs ++ [(o, b)]) = .bin o (foldB e qs) b := by
  unfold foldB
  rw [List.foldl_append]
  rfl
theorem G.row {d l : Nat} {e : Ex} {t : List Tk} (h : G d l e t) : l < 5 → l ≠ 2 → ∃ e0 t0 qs ts, G d (l + 1) e0 t0 ∧ Row d l qs ts ∧ t = t0 ++ ts ∧ e = foldB e0 qs := by
  induction h with
  | num n => exact fun q => absurd q (by decide)
  | name x => exact fun q => absurd q (by decide)
  | rows => exact fun q => absurd q (by decide)
  | cols => exact fun q => absurd q (by decide)
  | black _ _ _ _ => exact fun q => absurd q (by decide)
  | neg _ _ => exact fun q => absurd q (by decide)
  | par _ _ => exact fun q => absurd q (by decide)
  | not _ _ => exact fun _ q => absurd rfl q
  | cmp _ _ _ _ _ => exact fun _ q => absurd rfl q
  | left h1 h2 ha hb i1 i2 =>
    intro q1 q2
    obtain ⟨e0, t0, qs, ts, g0, r, rfl, rfl⟩ := i1 q1 q2
    exact ⟨e0, t0, _, _, g0, r.snoc rfl hb, by simp, by rw [foldB_snoc]⟩
  | up h _ => exact fun _ _ => ⟨_, _, [], [], h, .nil, by simp, rfl⟩
/-- comparisons: one, or a not, or none -/
theorem G.cmp3 {d : Nat} {e : Ex} {t : List Tk} (h : G d 2 e t) : (∃ k a ta, d = k + 1 ∧ e = .un .not a ∧ t = kK "not" :: ta ∧ G k 2 a ta) ∨ (∃ o a b ta tb, e = .bin o a b ∧ o.lv = 2 ∧ t = ta ++ [o.tk] ++ tb ∧ G d 3 a ta ∧ G d 3 b tb) ∨ G d 3 e t := by
  generalize hl : 2 = l at h
  cases h with
  | not h => exact .inl ⟨_, _, _, rfl, rfl, rfl, hl ▸ h⟩
  | cmp h1 h2 h3 => exact .inr (.inl ⟨_, _, _, _, _, rfl, h1, rfl, h2, h3⟩)
  | left h1 h2 h3 h4 => exact absurd hl.symm h2
  | up h => subst hl; exact .inr (.inr h)
  | num n => cases hl
  | name x => cases hl
  | rows => cases hl
  | cols => cases hl
  | black _ _ => cases hl
  | neg _ => cases hl
  | par _ => cases hl
/-- a part -/
theorem G.part {d : Nat} {e : Ex} {t : List Tk} (h : G d 5 e t) : (∃ n, e = .num n ∧ t = ([("number", K0.num n)] : List Tk)) ∨ (∃ x, e = .name x ∧ t = [kN x]) ∨ (e = .rows ∧ t = [kK "rows"]) ∨ (e = .cols ∧ t = [kK "cols"]) ∨
    (∃ k, d = k + 1 ∧ ((∃ a b ta tb, e = .bin .black a b ∧ t = [kK "black", kM "("] ++ ta ++ [kM ","] ++ tb ++ [kM ")"] ∧ G k 0 a ta ∧ G k 0 b tb) ∨ (∃ a ta, e = .un .neg a ∧ t = kM "-" :: ta ∧ G k 5 a ta) ∨ (∃ ta, t = [kM "("] ++ ta ++ [kM ")"] ∧ G k 0 e ta))) ∨ G d 6 e t := by
  generalize hl : 5 = l at h
  cases h with
  | num n => exact .inl ⟨_, rfl, rfl⟩
  | name x => exact .inr (.inl ⟨_, rfl, rfl⟩)
  | rows => exact .inr (.inr (.inl ⟨rfl, rfl⟩))
  | cols => exact .inr (.inr (.inr (.inl ⟨rfl, rfl⟩)))
  | black h1 h2 => exact .inr (.inr (.inr (.inr (.inl ⟨_, rfl, .inl ⟨_, _, _, _, rfl, rfl, h1, h2⟩⟩))))
  | neg h1 => exact .inr (.inr (.inr (.inr (.inl ⟨_, rfl, .inr (.inl ⟨_, _, rfl, rfl, h1⟩)⟩))))
  | par h1 => exact .inr (.inr (.inr (.inr (.inl ⟨_, rfl, .inr (.inr ⟨_, rfl, h1⟩)⟩))))
  | not h => cases hl
  | cmp h1 h2 h3 => cases hl
  | left h1 h2 h3 h4 => omega
  | up h => subst hl; exact .inr (.inr (.inr (.inr (.inr h))))
theorem G.no6 {d l : Nat} {e : Ex} {t : List Tk} (h : G d l e t) : l ≤ 5 := by
  induction h with
  | left h1 h2 h3 h4 => omega
  | up h i => omega
  | _ => decide
/-! ### what goes on -/
/-- the level of a mark -/
def mkLv (w : Str) : Nat := if w = "or" then 0 else if w = "and" then 1 else if w = "<" ∨ w = "<=" ∨ w = "=" ∨ w = "!=" then 2 else if w = "+" ∨ w = "-" then 3 else if w = "*" ∨ w = "/" ∨ w = "mod" then 4 else 9
/-- behind an expression of a level stands a word w: it joins nothing more at that level or above -/
def Stop (l : Nat) (w : Str) : Prop := mkLv w < l ∨ mkLv w = 9
theorem Stop.up {l m : Nat} {w : Str} (h : Stop l w) (hl : l ≤ m) : Stop m w := by
  rcases h with h | h
  · exact .inl (by omega)
  · exact .inr h
theorem mkLv_tk {o : Bi} (h : o.lv < 5) : mkLv o.tk.2 = o.lv := by
  cases o <;> first | (exact absurd h (by decide)) | decide +kernel
def lvW : Nat → List Str
  | 0 => ["or"] | 1 => ["and"] | 2 => ["<", "<=", "=", "!="] | 3 => ["+", "-"] | 4 => ["*", "/", "mod"] | _ => []
theorem lvW_no {l : Nat} {w : Str} (h : Stop l w) (hl : l < 5) : w ∉ lvW l := by
  intro q
  have e : mkLv w = l := by
    match l, hl, q with
    | 0, _, q => simp only [lvW, List.mem_cons, List.not_mem_nil, or_false] at q; subst q; decide +kernel
    | 1, _, q => simp only [lvW, List.mem_cons, List.not_mem_nil, or_false] at q; subst q; decide +kernel
    | 2, _, q => simp only [lvW, List.mem_cons, List.not_mem_nil, or_false] at q; rcases q with rfl | rfl | rfl | rfl <;> decide +kernel
    | 3, _, q => simp only [lvW, List.mem_cons, List.not_mem_nil, or_false] at q; rcases q with rfl | rfl <;> decide +kernel
    | 4, _, q => simp only [lvW, List.mem_cons, List.not_mem_nil, or_false] at q; rcases q with rfl | rfl | rfl <;> decide +kernel
  rcases h with h | h <;> omega
theorem lvW_yes {o : Bi} (h : o.lv < 5) : o.tk.2 ∈ lvW o.lv := by
  cases o <;> first | (exact absurd h (by decide)) | decide +kernel
theorem Stop.tk {o : Bi} {l : Nat} (h : o.lv < l) (h5 : o.lv < 5) : Stop l o.tk.2 := .inl (by rw [mkLv_tk h5]; exact h)
/-- the first word of a row, or of what stands behind -/
theorem Row.stop {d l : Nat} {qs : List (Bi × Ex)} {ts : List Tk} (h : Row d l qs ts) (h5 : l < 5) {w : Tk} {rest : List Tk} (hr : Stop l w.2) : ∃ u us, ts ++ w :: rest = u :: us ∧ Stop (l + 1) u.2 := by
  cases h with
  | nil => exact ⟨w, rest, rfl, hr.up (Nat.le_succ l)⟩
  | cons h1 h2 h3 => exact ⟨_, _, rfl, Stop.tk (by omega) (by omega)⟩
/-- the first words of expressions: no statement begins so, nor is it a not below the comparisons -/
theorem G.first {d l : Nat} {e : Ex} {t : List Tk} (h : G d l e t) : wfE e → ∃ w ws, t = w :: ws ∧ (3 ≤ l → w.2 ≠ "not") ∧ w.2 ≠ ")" := by
  have nn : ∀ n : Nat, K0.num n ≠ "not" ∧ K0.num n ≠ ")" := fun n => by
    have q := K0.numL_fig n
    have hne := K0.numL_ne n
    have aux : ∀ z : Str, (tl z).any (fun c => !K0.isFig c) = true → K0.num n ≠ z := fun z hz e => by
      rw [← e, K0.tl_num'] at hz
      rw [List.any_eq_true] at hz
      obtain ⟨c, hc, hc2⟩ := hz
      rw [List.all_eq_true] at q
      rw [q c hc] at hc2
      cases hc2
    exact ⟨aux _ (by decide +kernel), aux _ (by decide +kernel)⟩
  have nm : ∀ x : Str, nameW x = true → x ≠ "not" ∧ x ≠ ")" := fun x hx => ⟨fun e => by rw [e] at hx; revert hx; decide +kernel, fun e => by rw [e] at hx; revert hx; decide +kernel⟩
  induction h with
  | num n => exact fun _ => ⟨_, _, rfl, fun _ => (nn n).1, (nn n).2⟩
  | name x => exact fun hw => ⟨_, _, rfl, fun _ => (nm x hw).1, (nm x hw).2⟩
  | rows => exact fun _ => ⟨_, _, rfl, fun _ => by decide +kernel, by decide +kernel⟩
  | cols => exact fun _ => ⟨_, _, rfl, fun _ => by decide +kernel, by decide +kernel⟩
  | black _ _ _ _ => exact fun _ => ⟨_, _, rfl, fun _ => by decide +kernel, by decide +kernel⟩
  | neg _ _ => exact fun _ => ⟨_, _, rfl, fun _ => by decide +kernel, by decide +kernel⟩
  | par _ _ => exact fun _ => ⟨_, _, rfl, fun _ => by decide +kernel, by decide +kernel⟩
  | not _ _ => exact fun _ => ⟨_, _, rfl, fun q => absurd q (by decide), by decide +kernel⟩
  | cmp h1 ha hb i1 i2 =>
    intro hw
    obtain ⟨w, ws, rfl, h2, h3⟩ := i1 hw.1
    exact ⟨w, _, rfl, fun _ => h2 (by decide), h3⟩
  | left h1 h2 ha hb i1 i2 =>
    intro hw
    obtain ⟨w, ws, rfl, h3, h4⟩ := i1 hw.1
    exact ⟨w, _, rfl, h3, h4⟩
  | up h i =>
    intro hw
    obtain ⟨w, ws, rfl, h3, h4⟩ := i hw
    exact ⟨w, ws, rfl, fun q => h3 (by omega), h4⟩
end KD

/-! The reader: its object in the heap, its small methods. -/
namespace KD
open PySem L2 TL
open K0 (num)
/-! ### the reader's object -/
structure T3 where
  kd : Str
  w : Str
  pl : Nat
def T3.d (t : T3) : PyData := .tuple [.str t.kd, .str t.w, .int (t.pl : Nat)]
def T3.tk (t : T3) : Tk := (t.kd, t.w)
theorem at_told : ¬ ("at" : Str) = "told" := by decide +kernel
theorem ne_told : ¬ ("nests" : Str) = "told" := by decide +kernel
theorem ne_at : ¬ ("nests" : Str) = "at" := by decide +kernel
theorem pl_told : ¬ ("places" : Str) = "told" := by decide +kernel
theorem pl_at : ¬ ("places" : Str) = "at" := by decide +kernel
theorem pl_ne : ¬ ("places" : Str) = "nests" := by decide +kernel
theorem to_at : ¬ ("told" : Str) = "at" := by decide +kernel
theorem to_ne : ¬ ("told" : Str) = "nests" := by decide +kernel
theorem to_pl : ¬ ("told" : Str) = "places" := by decide +kernel
theorem at_ne : ¬ ("at" : Str) = "nests" := by decide +kernel
theorem at_pl : ¬ ("at" : Str) = "places" := by decide +kernel
theorem ne_pl : ¬ ("nests" : Str) = "places" := by decide +kernel
/-- the reader's fields -/
def rf (tA pA : Addr) (i k : Nat) : List (Str × V) := putF "places" (.ref pA) (putF "nests" (.int (k : Nat)) (putF "at" (.int (i : Nat)) (putF "told" (.ref tA) [])))
theorem rf_eq (tA pA : Addr) (i k : Nat) : rf tA pA i k = ([("told", V.ref tA), ("at", V.int (i : Nat)), ("nests", V.int (k : Nat)), ("places", V.ref pA)] : List (Str × V)) := by
  simp only [rf, putF, if_neg to_at, if_neg to_ne, if_neg to_pl, if_neg at_ne, if_neg at_pl, if_neg ne_pl]
theorem rf_len (tA pA : Addr) (i k : Nat) : (rf tA pA i k).length < 1000 := by rw [rf_eq]; show 4 < 1000; decide
theorem rf_told (tA pA : Addr) (i k : Nat) : (rf tA pA i k).lookup ("told" : Str) = some (.ref tA) := by
  unfold rf
  rw [lookup_putF, if_neg to_pl, lookup_putF, if_neg to_ne, lookup_putF, if_neg to_at, lookup_putF, if_pos rfl]
theorem rf_at (tA pA : Addr) (i k : Nat) : (rf tA pA i k).lookup ("at" : Str) = some (.int (i : Nat)) := by
  unfold rf
  rw [lookup_putF, if_neg at_pl, lookup_putF, if_neg at_ne, lookup_putF, if_pos rfl]
theorem rf_nests (tA pA : Addr) (i k : Nat) : (rf tA pA i k).lookup ("nests" : Str) = some (.int (k : Nat)) := by
  unfold rf
  rw [lookup_putF, if_neg ne_pl, lookup_putF, if_pos rfl]
theorem rf_places (tA pA : Addr) (i k : Nat) : (rf tA pA i k).lookup ("places" : Str) = some (.ref pA) := by
  unfold rf
  rw [lookup_putF, if_pos rfl]
theorem rf_no (tA pA : Addr) (i k : Nat) {m : Str} (h : decide (m = "told") = false ∧ decide (m = "at") = false ∧ decide (m = "nests") = false ∧ decide (m = "places") = false) : (rf tA pA i k).lookup m = none := by
  have h1 := of_decide_eq_false h.1
  have h2 := of_decide_eq_false h.2.1
  have h3 := of_decide_eq_false h.2.2.1
  have h4 := of_decide_eq_false h.2.2.2
  unfold rf
  rw [lookup_putF, if_neg h4, lookup_putF, if_neg h3, lookup_putF, if_neg h2, lookup_putF, if_neg h1]
  rfl
theorem rf_put_at (tA pA : Addr) (i k j : Nat) : putF "at" (.int (j : Nat)) (rf tA pA i k) = rf tA pA j k := by
  rw [rf_eq, rf_eq]
  simp only [putF, if_neg to_at, if_pos]
theorem rf_put_nests (tA pA : Addr) (i k j : Nat) : putF "nests" (.int (j : Nat)) (rf tA pA i k) = rf tA pA i j := by
  rw [rf_eq, rf_eq]
  simp only [putF, if_neg to_ne, if_neg at_ne, if_pos]
structure Rd where
  r : Addr
  tA : Addr
  pA : Addr
  vs : List V
  ts : List T3
structure RdAt (K : PySem.W.Frag) (C : Addr) (R : Rd) (H : Hp) (i k : Nat) (ps : List Nat) : Prop where
  ins : ∃ dx, H R.r = some (.ins C dx (rf R.tA R.pA i k))
  told : H R.tA = some (.lst R.vs)
  dd : DpAll K H R.vs (R.ts.map T3.d)
  plc : H R.pA = some (.lst (ps.map fun p : Nat => V.int (p : Nat)))
  ne : R.tA ≠ R.pA
  small : R.ts.length ≤ 100002
/-- all that was tracked is kept, but the reader and its places -/
def KeepR (R : Rd) (H H' : Hp) : Prop := ∀ b o, b ≠ R.r → b ≠ R.pA → H b = some o → H' b = some o
theorem KeepR.refl (R : Rd) (H : Hp) : KeepR R H H := fun _ _ _ _ h => h
theorem KeepR.trans {R : Rd} {H H1 H2 : Hp} (a : KeepR R H H1) (b : KeepR R H1 H2) : KeepR R H H2 := fun c o n m h => b c o n m (a c o n m h)
theorem KeepR.same {R : Rd} {H H' : Hp} (s : Same H H') : KeepR R H H' := fun b o _ _ h => s b o h
section
variable {K : PySem.W.Frag} {C : Addr} {R : Rd} {H H' : Hp} {i k : Nat} {ps : List Nat}
theorem RdAt.same (h : RdAt K C R H i k ps) (s : Same H H') : RdAt K C R H' i k ps := by
  obtain ⟨dx, e⟩ := h.ins
  exact ⟨⟨dx, s _ _ e⟩, s _ _ h.told, DpAll.same s h.dd, s _ _ h.plc, h.ne, h.small⟩
theorem RdAt.ne_rt (h : RdAt K C R H i k ps) : R.r ≠ R.tA := by
  obtain ⟨dx, e⟩ := h.ins
  exact ne_of e h.told (by intro z; cases z)
theorem RdAt.ne_rp (h : RdAt K C R H i k ps) : R.r ≠ R.pA := by
  obtain ⟨dx, e⟩ := h.ins
  exact ne_of e h.plc (by intro z; cases z)
theorem KeepR.kt (k : KeepR R H H') (h : RdAt K C R H i j ps) : KT K H H' := fun a xs q => by
  obtain ⟨dx, e⟩ := h.ins
  rcases q with (q | ⟨o, q⟩) | q
  · exact .inl (.inl (k _ _ (ne_of q e (by intro z; cases z)) (ne_of q h.plc (by intro z; cases z)) q))
  · exact .inl (.inr ⟨o, k _ _ (ne_of q e (by intro z; cases z)) (ne_of q h.plc (by intro z; cases z)) q⟩)
  · exact .inr q
theorem tupDs_T3 : ∀ l : List T3, tupDs (l.map T3.d) = true
  | [] => rfl
  | t :: l => by
    show (tupD t.d && tupDs (l.map T3.d)) = true
    rw [tupDs_T3 l]
    rfl
/-- the reader's numbers stored anew -/
theorem RdAt.move (h : RdAt K C R H i k ps) {dx : Addr} (j m : Nat) : RdAt K C R (upd H R.r (.ins C dx (rf R.tA R.pA j m))) j m ps ∧ KeepR R H (upd H R.r (.ins C dx (rf R.tA R.pA j m))) := by
  have kp : KeepR R H (upd H R.r (.ins C dx (rf R.tA R.pA j m))) := fun b o n _ q => by rw [upd_ne n]; exact q
  refine ⟨⟨⟨dx, upd_same⟩, by rw [upd_ne h.ne_rt.symm]; exact h.told, DpAll.kt (kp.kt h) (tupDs_T3 _) h.dd, by rw [upd_ne h.ne_rp.symm]; exact h.plc, h.ne, h.small⟩, kp⟩
theorem RdAt.push (h : RdAt K C R H i k ps) (p : Nat) : RdAt K C R (upd H R.pA (.lst ((ps.map fun p : Nat => V.int (p : Nat)) ++ [.int (p : Nat)]))) i k (ps ++ [p]) ∧ KeepR R H (upd H R.pA (.lst ((ps.map fun p : Nat => V.int (p : Nat)) ++ [.int (p : Nat)]))) := by
  have kp : KeepR R H (upd H R.pA (.lst ((ps.map fun p : Nat => V.int (p : Nat)) ++ [.int (p : Nat)]))) := fun b o _ n q => by rw [upd_ne n]; exact q
  obtain ⟨dx, e⟩ := h.ins
  refine ⟨⟨⟨dx, by rw [upd_ne h.ne_rp]; exact e⟩, by rw [upd_ne h.ne]; exact h.told, DpAll.kt (kp.kt h) (tupDs_T3 _) h.dd, ?_, h.ne, h.small⟩, kp⟩
  rw [upd_same, List.map_append]
  rfl
theorem RdAt.word (h : RdAt K C R H i k ps) {t : T3} (ht : R.ts[i]? = some t) : ∃ a, R.vs[i]? = some (.ref a) ∧ SqT K H a [.str t.kd, .str t.w, .int (t.pl : Nat)] := by
  have hl := DpAll.length h.dd
  have hlt : i < R.vs.length := by
    rw [hl, List.length_map]
    exact (List.getElem?_eq_some_iff.mp ht).1
  obtain ⟨d, hd, hv⟩ := DpAll.get h.dd (List.getElem?_eq_getElem hlt)
  rw [List.getElem?_map, ht] at hd
  obtain rfl : t.d = d := Option.some.inj hd
  cases e : R.vs[i] with
  | ref a =>
    rw [e] at hv
    refine ⟨a, by rw [List.getElem?_eq_getElem hlt, e], ?_⟩
    cases hv with
    | tup h1 h2 =>
      cases h2 with
      | cons a1 h2 =>
        cases h2 with
        | cons a2 h2 =>
          cases h2 with
          | cons a3 h2 =>
            cases h2
            cases a1
            cases a2
            cases a3
            exact h1
  | _ => rw [e] at hv; cases hv
theorem KeepR.new {p : Addr} (hp : H p = none) (o : HO) : KeepR R H (upd H p o) := fun b u _ _ q => by rw [upd_ne (ne_of_none q hp)]; exact q
end
/-! ### what the top has written, of the reader -/
def stW : List Str := ["row", "col", "say", "let", "if", "while", "for", "do", "stop"]
structure RTxt (K : PySem.W.Frag) (mg : Str → Option Value) (C : Addr) : Prop where
  cl : Cls K C
  nT : NoAttr K C "told"
  nA : NoAttr K C "at"
  nN : NoAttr K C "nests"
  nP : NoAttr K C "places"
  mgC : mg "Reader" = some (.ref C)
  mst : ∃ t, mg "MOST_NESTS" = some (.int 40 t)
  cmp : ∃ t, mg "COMPARING" = some (.int 2 t)
  prt : ∃ t, mg "PARTS" = some (.int 5 t)
  stm : ∃ a, mg "STATEMENTS" = some (.ref a) ∧ ∀ H, SqT K H a (stW.map V.str)
  lev : ∃ (a a0 a1 a2 a3 a4 : Addr), mg "LEVELS" = some (.ref a) ∧ ∀ H, SqT K H a [.ref a0, .ref a1, .ref a2, .ref a3, .ref a4] ∧ SqT K H a0 ((lvW 0).map V.str) ∧ SqT K H a1 ((lvW 1).map V.str) ∧ SqT K H a2 ((lvW 2).map V.str) ∧ SqT K H a3 ((lvW 3).map V.str) ∧ SqT K H a4 ((lvW 4).map V.str)
/-- a method of the class at C with its promise -/
structure Mth (P : Program) (w : World) (K : PySem.W.Frag) (mg : Str → Option Value) (base : Heap) (C : Addr) (n : Nat) (x : Str) (ps : List Str) (sp : Sp) : Prop where
  ex : ∃ f fd, FnOk P w K mg base CX0 n f fd ps sp ∧ Meth K C x f ∧ Binds K fd ps []
theorem Mth.mono {P : Program} {w : World} {K : PySem.W.Frag} {mg : Str → Option Value} {base : Heap} {C : Addr} {n m : Nat} {x : Str} {ps : List Str} {sp : Sp} (h : Mth P w K mg base C n x ps sp) (l : n ≤ m) : Mth P w K mg base C m x ps sp := by
  obtain ⟨f, fd, G, M, b⟩ := h.ex
  exact ⟨f, fd, G.mono l, M, b⟩
/-- where the def of a method stands -/
structure MFun (K : PySem.W.Frag) (C : Addr) (x qual : Str) (st : Stmt) (ps : List Str) (f : Addr) (fd : FuncData) : Prop where
  F : Fun K x qual st f fd
  M : Meth K C x f
  b : Binds K fd ps []
theorem MFun.mth {P : Program} {w : World} {K : PySem.W.Frag} {mg : Str → Option Value} {base : Heap} {C : Addr} {n : Nat} {x qual : Str} {st : Stmt} {ps : List Str} {sp : Sp} {f : Addr} {fd : FuncData} (h : MFun K C x qual st ps f fd) (G : FnOk P w K mg base CX0 n f fd ps sp) : Mth P w K mg base C n x ps sp :=
  ⟨f, fd, G, h.M, h.b⟩
/-! ### promises -/
section
variable (K : PySem.W.Frag) (C : Addr)
def spKind : Sp := fun vs H Q _ => ∃ (R : Rd) (i k : Nat) (ps : List Nat) (t : T3), vs = [.ref R.r] ∧ RdAt K C R H i k ps ∧ R.ts[i]? = some t ∧ Q (.str t.kd) H
def spWord : Sp := fun vs H Q _ => ∃ (R : Rd) (i k : Nat) (ps : List Nat) (t : T3), vs = [.ref R.r] ∧ RdAt K C R H i k ps ∧ R.ts[i]? = some t ∧ Q (.str t.w) H
def spPlace : Sp := fun vs H Q _ => ∃ (R : Rd) (i k : Nat) (ps : List Nat) (t : T3), vs = [.ref R.r] ∧ RdAt K C R H i k ps ∧ R.ts[i]? = some t ∧ Q (.int (t.pl : Nat)) H
def spTook : Sp := fun vs H Q _ => ∃ (R : Rd) (i k : Nat) (ps : List Nat) (t : T3), vs = [.ref R.r] ∧ RdAt K C R H i k ps ∧ R.ts[i]? = some t ∧ ∀ H', KeepR R H H' → RdAt K C R H' (i + 1) k ps → Q (.str t.w) H'
def spPasses : Sp := fun vs H Q _ => ∃ (R : Rd) (i k : Nat) (ps : List Nat) (t : T3) (z : Str), vs = [.ref R.r, .str z] ∧ RdAt K C R H i k ps ∧ R.ts[i]? = some t ∧ (t.w = z → ∀ H', KeepR R H H' → RdAt K C R H' (i + 1) k ps → Q (.bl true) H') ∧ (t.w ≠ z → Q (.bl false) H)
def spMust : Sp := fun vs H Q _ => ∃ (R : Rd) (i k : Nat) (ps : List Nat) (t : T3) (z : Str), vs = [.ref R.r, .str z] ∧ RdAt K C R H i k ps ∧ R.ts[i]? = some t ∧ t.w = z ∧ ∀ H', KeepR R H H' → RdAt K C R H' (i + 1) k ps → Q .non H'
def spName : Sp := fun vs H Q _ => ∃ (R : Rd) (i k : Nat) (ps : List Nat) (t : T3), vs = [.ref R.r] ∧ RdAt K C R H i k ps ∧ R.ts[i]? = some t ∧ t.kd = "name" ∧ ∀ H', KeepR R H H' → RdAt K C R H' (i + 1) k ps → Q (.str t.w) H'
def spIn : Sp := fun vs H Q _ => ∃ (R : Rd) (i k : Nat) (ps : List Nat), vs = [.ref R.r] ∧ RdAt K C R H i k ps ∧ k < 40 ∧ ∀ H', KeepR R H H' → RdAt K C R H' i (k + 1) ps → Q .non H'
def spOut : Sp := fun vs H Q _ => ∃ (R : Rd) (i k : Nat) (ps : List Nat), vs = [.ref R.r] ∧ RdAt K C R H i (k + 1) ps ∧ ∀ H', KeepR R H H' → RdAt K C R H' i k ps → Q .non H'
end
section
variable {P : Program} {w : World} {K : PySem.W.Frag} {mg : Str → Option Value} {base : Heap} {C : Addr}
theorem scKind : FnScope ["self"] ["self"] (defScope S_Reader_kind) := ⟨rfl, rfl, rfl, by decide +kernel, rfl, by decide +kernel, by decide +kernel⟩
theorem ok_kind {f : Addr} {fd : FuncData} (F : Fun K "kind" "Reader.kind" S_Reader_kind f fd) (T : RTxt K mg C) : FnOk P w K mg base CX0 1 f fd ["self"] (spKind K C) := by
  refine F.ok scKind (fun vs H Q E h => ?_) (fun cdv A outer s0 H vs Q E hr h => ?_)
  · obtain ⟨R, i, k, ps, t, rfl, _⟩ := h
    rfl
  obtain ⟨R, i, k, ps, t, rfl, h, ht, q⟩ := h
  obtain ⟨a, ea, hT⟩ := h.word ht
  obtain ⟨dx, ei⟩ := h.ins
  refine ⟨_, pss_one (ps_ret (pe_ix ix_tup (pe_ix ix_list (pe_fld (pv 0) rfl) (pe_fld (pv 0) rfl) (fun _ _ => rfl)) pe_int (fun _ _ => rfl))), ?_⟩
  refine ⟨_, rfl, R.r, C, dx, _, _, rfl, ei, T.cl, T.nT, rf_told _ _ _ _, _, rfl, R.r, C, dx, _, _, rfl, ei, T.cl, T.nA, rf_at _ _ _ _, R.tA, _, _, _, rfl, rfl, SqL.of h.told, atI_nat ea, ?_⟩
  exact ⟨a, _, _, _, rfl, rfl, hT, rfl, q⟩
theorem scWord : FnScope ["self"] ["self"] (defScope S_Reader_word) := ⟨rfl, rfl, rfl, by decide +kernel, rfl, by decide +kernel, by decide +kernel⟩
theorem ok_word {f : Addr} {fd : FuncData} (F : Fun K "word" "Reader.word" S_Reader_word f fd) (T : RTxt K mg C) : FnOk P w K mg base CX0 1 f fd ["self"] (spWord K C) := by
  refine F.ok scWord (fun vs H Q E h => ?_) (fun cdv A outer s0 H vs Q E hr h => ?_)
  · obtain ⟨R, i, k, ps, t, rfl, _⟩ := h
    rfl
  obtain ⟨R, i, k, ps, t, rfl, h, ht, q⟩ := h
  obtain ⟨a, ea, hT⟩ := h.word ht
  obtain ⟨dx, ei⟩ := h.ins
  refine ⟨_, pss_one (ps_ret (pe_ix ix_tup (pe_ix ix_list (pe_fld (pv 0) rfl) (pe_fld (pv 0) rfl) (fun _ _ => rfl)) pe_int (fun _ _ => rfl))), ?_⟩
  refine ⟨_, rfl, R.r, C, dx, _, _, rfl, ei, T.cl, T.nT, rf_told _ _ _ _, _, rfl, R.r, C, dx, _, _, rfl, ei, T.cl, T.nA, rf_at _ _ _ _, R.tA, _, _, _, rfl, rfl, SqL.of h.told, atI_nat ea, ?_⟩
  exact ⟨a, _, _, _, rfl, rfl, hT, rfl, q⟩
theorem scPlace : FnScope ["self"] ["self"] (defScope S_Reader_place) := ⟨rfl, rfl, rfl, by decide +kernel, rfl, by decide +kernel, by decide +kernel⟩
theorem ok_place {f : Addr} {fd : FuncData} (F : Fun K "place" "Reader.place" S_Reader_place f fd) (T : RTxt K mg C) : FnOk P w K mg base CX0 1 f fd ["self"] (spPlace K C) := by
  refine F.ok scPlace (fun vs H Q E h => ?_) (fun cdv A outer s0 H vs Q E hr h => ?_)
  · obtain ⟨R, i, k, ps, t, rfl, _⟩ := h
    rfl
  obtain ⟨R, i, k, ps, t, rfl, h, ht, q⟩ := h
  obtain ⟨a, ea, hT⟩ := h.word ht
  obtain ⟨dx, ei⟩ := h.ins
  refine ⟨_, pss_one (ps_ret (pe_ix ix_tup (pe_ix ix_list (pe_fld (pv 0) rfl) (pe_fld (pv 0) rfl) (fun _ _ => rfl)) pe_int (fun _ _ => rfl))), ?_⟩
  refine ⟨_, rfl, R.r, C, dx, _, _, rfl, ei, T.cl, T.nT, rf_told _ _ _ _, _, rfl, R.r, C, dx, _, _, rfl, ei, T.cl, T.nA, rf_at _ _ _ _, R.tA, _, _, _, rfl, rfl, SqL.of h.told, atI_nat ea, ?_⟩
  exact ⟨a, _, _, _, rfl, rfl, hT, rfl, q⟩
theorem scTook : FnScope ["self", "word"] ["self"] (defScope S_Reader_taken) := ⟨rfl, rfl, rfl, by decide +kernel, rfl, by decide +kernel, by decide +kernel⟩
theorem ok_took {f : Addr} {fd : FuncData} (F : Fun K "taken" "Reader.taken" S_Reader_taken f fd) (T : RTxt K mg C) (hW : Mth P w K mg base C 1 "word" ["self"] (spWord K C)) : FnOk P w K mg base CX0 2 f fd ["self"] (spTook K C) := by
  refine F.ok scTook (fun vs H Q E h => ?_) (fun cdv A outer s0 H vs Q E hr h => ?_)
  · obtain ⟨R, i, k, ps, t, rfl, _⟩ := h
    rfl
  obtain ⟨R, i, k, ps, t, rfl, h, ht, q⟩ := h
  obtain ⟨fW, fdW, GW, mW, bW⟩ := hW.ex
  obtain ⟨dx, ei⟩ := h.ins
  refine ⟨_, pss_cons (ps_set (i := 1) scTook.nd rfl (Or.inl rfl) (pe_meth0 (pv 0) T.cl mW GW hr bW .nil pass0))
    (pss_cons (ps_fldaug (pv 0) pe_int in_add) (pss_one (ps_ret (pv 1)))), ?_⟩
  refine ⟨_, rfl, R.r, dx, _, rfl, ei, rf_no _ _ _ _ (by decide +kernel), R, i, k, ps, t, rfl, h, ht, ?_⟩
  refine ⟨_, rfl, R.r, C, dx, _, _, rfl, ei, T.cl, T.nA, rf_at _ _ _ _, _, _, rfl, rfl, dx, _, ei, rf_len _ _ _ _, ?_⟩
  show ∃ _, _
  refine ⟨_, rfl, ?_⟩
  have e : ((i : Nat) : Int) + 1 = ((i + 1 : Nat) : Int) := rfl
  rw [e, rf_put_at]
  obtain ⟨h1, kp⟩ := h.move (dx := dx) (i + 1) k
  exact q _ kp h1
theorem scPasses : FnScope ["self", "word"] ["self", "word"] (defScope S_Reader_passes) := ⟨rfl, rfl, rfl, by decide +kernel, rfl, by decide +kernel, by decide +kernel⟩
theorem ok_passes {f : Addr} {fd : FuncData} (F : Fun K "passes" "Reader.passes" S_Reader_passes f fd) (T : RTxt K mg C) (hW : Mth P w K mg base C 1 "word" ["self"] (spWord K C)) : FnOk P w K mg base CX0 2 f fd ["self", "word"] (spPasses K C) := by
  refine F.ok scPasses (fun vs H Q E h => ?_) (fun cdv A outer s0 H vs Q E hr h => ?_)
  · obtain ⟨R, i, k, ps, t, z, rfl, _⟩ := h
    rfl
  obtain ⟨R, i, k, ps, t, z, rfl, h, ht, q1, q2⟩ := h
  obtain ⟨fW, fdW, GW, mW, bW⟩ := hW.ex
  obtain ⟨dx, ei⟩ := h.ins
  refine ⟨_, pss_cons (ps_if (pt_cmpR op_ne (pe_meth0 (pv 0) T.cl mW GW hr bW .nil pass0) (pv 1) (nomark _)) (pss_one (ps_ret pe_bl)) pss_nil)
    (pss_cons (ps_fldaug (pv 0) pe_int in_add) (pss_one (ps_ret pe_bl))), ?_⟩
  refine ⟨_, rfl, R.r, dx, _, rfl, ei, rf_no _ _ _ _ (by decide +kernel), R, i, k, ps, t, rfl, h, ht, ?_⟩
  refine ⟨_, rfl, rfl, _, rfl, ?_⟩
  by_cases c : t.w = z
  · rw [decide_eq_true (by rw [c])]
    refine iteF ?_
    refine ⟨_, rfl, R.r, C, dx, _, _, rfl, ei, T.cl, T.nA, rf_at _ _ _ _, _, _, rfl, rfl, dx, _, ei, rf_len _ _ _ _, ?_⟩
    have e : ((i : Nat) : Int) + 1 = ((i + 1 : Nat) : Int) := rfl
    rw [e, rf_put_at]
    obtain ⟨h1, kp⟩ := h.move (dx := dx) (i + 1) k
    exact q1 c _ kp h1
  · rw [decide_eq_false (fun e => c (by cases e; rfl))]
    exact iteT (q2 c)
theorem scMust : FnScope ["self", "word"] ["self", "word"] (defScope S_Reader_must_pass) := ⟨rfl, rfl, rfl, by decide +kernel, rfl, by decide +kernel, by decide +kernel⟩
theorem ok_must {f : Addr} {fd : FuncData} (F : Fun K "must_pass" "Reader.must_pass" S_Reader_must_pass f fd) (T : RTxt K mg C) (hP : Mth P w K mg base C 2 "passes" ["self", "word"] (spPasses K C)) : FnOk P w K mg base CX0 3 f fd ["self", "word"] (spMust K C) := by
  refine F.ok scMust (fun vs H Q E h => ?_) (fun cdv A outer s0 H vs Q E hr h => ?_)
  · obtain ⟨R, i, k, ps, t, z, rfl, _⟩ := h
    rfl
  obtain ⟨R, i, k, ps, t, z, rfl, h, ht, hz, q⟩ := h
  obtain ⟨fP, fdP, GP, mP, bP⟩ := hP.ex
  obtain ⟨dx, ei⟩ := h.ins
  refine ⟨_, pss_one (ps_if (pt_not (pt_val (pe_meth (pv 0) T.cl mP GP hr bP .nil pass0 (pa_cons (pv 1) pa_nil)))) pss_never pss_nil), ?_⟩
  refine ⟨_, rfl, R.r, dx, _, rfl, ei, rf_no _ _ _ _ (by decide +kernel), _, rfl, R, i, k, ps, t, z, rfl, h, ht, fun _ H' kp h1 => ⟨true, rfl, iteF (q H' kp h1)⟩, fun c => absurd hz c⟩
theorem scName : FnScope ["self"] ["self"] (defScope S_Reader_name) := ⟨rfl, rfl, rfl, by decide +kernel, rfl, by decide +kernel, by decide +kernel⟩
theorem ok_name {f : Addr} {fd : FuncData} (F : Fun K "name" "Reader.name" S_Reader_name f fd) (T : RTxt K mg C) (hK : Mth P w K mg base C 1 "kind" ["self"] (spKind K C)) (hT : Mth P w K mg base C 2 "taken" ["self"] (spTook K C)) : FnOk P w K mg base CX0 3 f fd ["self"] (spName K C) := by
  refine F.ok scName (fun vs H Q E h => ?_) (fun cdv A outer s0 H vs Q E hr h => ?_)
  · obtain ⟨R, i, k, ps, t, rfl, _⟩ := h
    rfl
  obtain ⟨R, i, k, ps, t, rfl, h, ht, hn, q⟩ := h
  obtain ⟨fK, fdK, GK, mK, bK⟩ := hK.ex
  obtain ⟨fT, fdT, GT, mT, bT⟩ := hT.ex
  obtain ⟨dx, ei⟩ := h.ins
  have hr1 : Room 1 _ := hr.mono (by decide)
  refine ⟨_, pss_cons (ps_if (pt_cmpR op_ne (pe_meth0 (pv 0) T.cl mK GK hr1 bK .nil pass0) pe_str (nomark _)) pss_never pss_nil)
    (pss_one (ps_ret (pe_meth0 (pv 0) T.cl mT GT hr bT .nil pass0))), ?_⟩
  refine ⟨_, rfl, R.r, dx, _, rfl, ei, rf_no _ _ _ _ (by decide +kernel), R, i, k, ps, t, rfl, h, ht, ?_⟩
  refine ⟨rfl, _, rfl, ?_⟩
  rw [hn, decide_eq_true rfl]
  refine iteF ?_
  exact ⟨_, rfl, R.r, dx, _, rfl, ei, rf_no _ _ _ _ (by decide +kernel), R, i, k, ps, t, rfl, h, ht, q⟩
theorem scIn : FnScope ["self"] ["self"] (defScope S_Reader_go_in) := ⟨rfl, rfl, rfl, by decide +kernel, rfl, by decide +kernel, by decide +kernel⟩
theorem ok_in {f : Addr} {fd : FuncData} (F : Fun K "go_in" "Reader.go_in" S_Reader_go_in f fd) (T : RTxt K mg C) : FnOk P w K mg base CX0 1 f fd ["self"] (spIn K C) := by
  refine F.ok scIn (fun vs H Q E h => ?_) (fun cdv A outer s0 H vs Q E hr h => ?_)
  · obtain ⟨R, i, k, ps, rfl, _⟩ := h
    rfl
  obtain ⟨R, i, k, ps, rfl, h, hk, q⟩ := h
  obtain ⟨tk, mN⟩ := T.mst
  obtain ⟨dx, ei⟩ := h.ins
  refine ⟨_, pss_cons (ps_if (pt_cmpR op_eq (pe_fld (pv 0) rfl) (pe_glob (v := .int 40) rfl mN ⟨_, rfl⟩) (nomark _)) pss_never pss_nil)
    (pss_one (ps_fldaug (pv 0) pe_int in_add)), ?_⟩
  refine ⟨_, rfl, R.r, C, dx, _, _, rfl, ei, T.cl, T.nN, rf_nests _ _ _ _, rfl, _, rfl, ?_⟩
  rw [decide_eq_false (fun e => by injection e with e; omega)]
  refine iteF ?_
  refine ⟨_, rfl, R.r, C, dx, _, _, rfl, ei, T.cl, T.nN, rf_nests _ _ _ _, _, _, rfl, rfl, dx, _, ei, rf_len _ _ _ _, ?_⟩
  have e : ((k : Nat) : Int) + 1 = ((k + 1 : Nat) : Int) := rfl
  rw [e, rf_put_nests]
  obtain ⟨h1, kp⟩ := h.move (dx := dx) i (k + 1)
  exact q _ kp h1
theorem scOut : FnScope ["self"] ["self"] (defScope S_Reader_come_out) := ⟨rfl, rfl, rfl, by decide +kernel, rfl, by decide +kernel, by decide +kernel⟩
theorem ok_out {f : Addr} {fd : FuncData} (F : Fun K "come_out" "Reader.come_out" S_Reader_come_out f fd) (T : RTxt K mg C) : FnOk P w K mg base CX0 1 f fd ["self"] (spOut K C) := by
  refine F.ok scOut (fun vs H Q E h => ?_) (fun cdv A outer s0 H vs Q E hr h => ?_)
  · obtain ⟨R, i, k, ps, rfl, _⟩ := h
    rfl
  obtain ⟨R, i, k, ps, rfl, h, q⟩ := h
  obtain ⟨dx, ei⟩ := h.ins
  refine ⟨_, pss_one (ps_fldaug (pv 0) pe_int in_sub), ?_⟩
  refine ⟨_, rfl, R.r, C, dx, _, _, rfl, ei, T.cl, T.nN, rf_nests _ _ _ _, _, _, rfl, rfl, dx, _, ei, rf_len _ _ _ _, ?_⟩
  have e : ((k + 1 : Nat) : Int) - 1 = ((k : Nat) : Int) := by omega
  rw [e, rf_put_nests]
  obtain ⟨h1, kp⟩ := h.move (dx := dx) i k
  exact q _ kp h1
end
end KD

/-! The reader's expressions. -/
namespace KD
open PySem L2 TL
open K0 (num)
/-- the words from the place i on -/
def At (R : Rd) (i : Nat) (l : List Tk) : Prop := (R.ts.drop i).map T3.tk = l
theorem At.head {R : Rd} {i : Nat} {w : Tk} {l : List Tk} (h : At R i (w :: l)) : ∃ t, R.ts[i]? = some t ∧ t.tk = w ∧ At R (i + 1) l := by
  unfold At at h
  cases e : R.ts.drop i with
  | nil => rw [e] at h; cases h
  | cons t r =>
    rw [e, List.map_cons] at h
    injection h with h1 h2
    refine ⟨t, ?_, h1, ?_⟩
    · have q : (R.ts.drop i)[0]? = some t := by rw [e]; rfl
      rwa [List.getElem?_drop, Nat.add_zero] at q
    · show (R.ts.drop (i + 1)).map T3.tk = l
      rw [← List.drop_drop, e]
      exact h2
theorem At.app {R : Rd} : ∀ {t : List Tk} {i : Nat} {l : List Tk}, At R i (t ++ l) → At R (i + t.length) l
  | [], i, l, h => h
  | w :: t, i, l, h => by
    obtain ⟨x, _, _, h2⟩ := At.head (l := t ++ l) h
    have q := At.app h2
    rw [List.length_cons]
    have e : i + (t.length + 1) = i + 1 + t.length := by omega
    rw [e]
    exact q
theorem At.lt {R : Rd} {i : Nat} {w : Tk} {l : List Tk} (h : At R i (w :: l)) : i < R.ts.length := by
  obtain ⟨t, e, _⟩ := h.head
  exact (List.getElem?_eq_some_iff.mp e).1
theorem T3.of {t : T3} {a b : Str} (h : t.tk = (a, b)) : t.kd = a ∧ t.w = b := by
  injection h with h1 h2
  exact ⟨h1, h2⟩
theorem G.ne {d l : Nat} {e : Ex} {t : List Tk} (h : G d l e t) : t ≠ [] := by
  induction h with
  | black _ _ _ _ => simp
  | par _ _ => simp
  | cmp _ _ _ _ _ => simp
  | left _ _ _ _ _ _ => simp
  | up _ i => exact i
  | _ => simp
section
variable (K : PySem.W.Frag) (C : Addr)
/-- what an expression's reading hands back: its tree, the words taken -/
def ExEnd (R : Rd) (H : Hp) (i k : Nat) (ps : List Nat) (e : Ex) (t : List Tk) (Q : VK) : Prop := ∀ H' v, KeepR R H H' → RdAt K C R H' (i + t.length) k ps → Dp K H' v e.d → Q v H'
def spJoined (d l : Nat) : Sp := fun vs H Q _ => ∃ (R : Rd) (i k : Nat) (ps : List Nat) (e : Ex) (t : List Tk) (u : Tk) (rest : List Tk), vs = [.ref R.r, .int (l : Nat)] ∧ RdAt K C R H i k ps ∧ At R i (t ++ u :: rest) ∧ G d l e t ∧ Stop l u.2 ∧ wfE e ∧ k + d ≤ 40 ∧ ExEnd K C R H i k ps e t Q
def spExpr (d : Nat) : Sp := fun vs H Q _ => ∃ (R : Rd) (i k : Nat) (ps : List Nat) (e : Ex) (t : List Tk) (u : Tk) (rest : List Tk), vs = [.ref R.r] ∧ RdAt K C R H i k ps ∧ At R i (t ++ u :: rest) ∧ G d 0 e t ∧ Stop 0 u.2 ∧ wfE e ∧ k + d ≤ 40 ∧ ExEnd K C R H i k ps e t Q
def spPart5 (d : Nat) : Sp := fun vs H Q _ => ∃ (R : Rd) (i k : Nat) (ps : List Nat) (e : Ex) (t : List Tk) (rest : List Tk), vs = [.ref R.r] ∧ RdAt K C R H i k ps ∧ At R i (t ++ rest) ∧ G d 5 e t ∧ wfE e ∧ k + d ≤ 40 ∧ ExEnd K C R H i k ps e t Q
def NestOf (k : Nat) (e : Ex) (t : List Tk) : Prop := (∃ a b ta tb, e = .bin .black a b ∧ t = [kK "black", kM "("] ++ ta ++ [kM ","] ++ tb ++ [kM ")"] ∧ G k 0 a ta ∧ G k 0 b tb) ∨ (∃ a ta, e = .un .neg a ∧ t = kM "-" :: ta ∧ G k 5 a ta) ∨ (∃ ta, t = [kM "("] ++ ta ++ [kM ")"] ∧ G k 0 e ta)
def spNest (d : Nat) : Sp := fun vs H Q _ => ∃ (R : Rd) (i k : Nat) (ps : List Nat) (e : Ex) (t : List Tk) (rest : List Tk), vs = [.ref R.r] ∧ RdAt K C R H i k ps ∧ At R i (t ++ rest) ∧ NestOf d e t ∧ wfE e ∧ k + d ≤ 40 ∧ ExEnd K C R H i k ps e t Q
def spDenied (d : Nat) : Sp := fun vs H Q _ => ∃ (R : Rd) (i k : Nat) (ps : List Nat) (e : Ex) (t : List Tk) (u : Tk) (rest : List Tk), vs = [.ref R.r] ∧ RdAt K C R H i k ps ∧ At R i (kK "not" :: t ++ u :: rest) ∧ G d 2 e t ∧ Stop 2 u.2 ∧ wfE e ∧ k + d + 1 ≤ 40 ∧ ExEnd K C R H i k ps (.un .not e) (kK "not" :: t) Q
end
section
variable {P : Program} {w : World} {K : PySem.W.Frag} {mg : Str → Option Value} {base : Heap} {C : Addr}
theorem scExpr0 : FnScope ["self"] ["self"] (defScope S_Reader_expression) := ⟨rfl, rfl, rfl, by decide +kernel, rfl, by decide +kernel, by decide +kernel⟩
theorem ok_expr0 {n d : Nat} {f : Addr} {fd : FuncData} (F : Fun K "expression" "Reader.expression" S_Reader_expression f fd) (T : RTxt K mg C) (hJ : Mth P w K mg base C n "joined" ["self", "level"] (spJoined K C d 0)) : FnOk P w K mg base CX0 (n + 1) f fd ["self"] (spExpr K C d) := by
  refine F.ok scExpr0 (fun vs H Q E h => ?_) (fun cdv A outer s0 H vs Q E hr h => ?_)
  · obtain ⟨R, i, k, ps, e, t, u, rest, rfl, _⟩ := h
    rfl
  obtain ⟨R, i, k, ps, e, t, u, rest, rfl, h, ha, hg, hs, hw, hk, q⟩ := h
  obtain ⟨fJ, fdJ, GJ, mJ, bJ⟩ := hJ.ex
  obtain ⟨dx, ei⟩ := h.ins
  refine ⟨_, pss_one (ps_ret (pe_meth (pv 0) T.cl mJ GJ hr bJ .nil pass0 (pa_cons pe_int pa_nil))), ?_⟩
  exact ⟨_, rfl, R.r, dx, _, rfl, ei, rf_no _ _ _ _ (by decide +kernel), R, i, k, ps, e, t, u, rest, rfl, h, ha, hg, hs, hw, hk, q⟩
theorem scDenied : FnScope ["self", "word", "tree"] ["self"] (defScope S_Reader_denied) := ⟨rfl, rfl, rfl, by decide +kernel, rfl, by decide +kernel, by decide +kernel⟩
theorem ok_denied {n d : Nat} {f : Addr} {fd : FuncData} (F : Fun K "denied" "Reader.denied" S_Reader_denied f fd) (T : RTxt K mg C) (hJ : Mth P w K mg base C n "joined" ["self", "level"] (spJoined K C d 2))
    (hI : Mth P w K mg base C 1 "go_in" ["self"] (spIn K C)) (hO : Mth P w K mg base C 1 "come_out" ["self"] (spOut K C)) (hT : Mth P w K mg base C 2 "taken" ["self"] (spTook K C)) (hn : 2 ≤ n) : FnOk P w K mg base CX0 (n + 1) f fd ["self"] (spDenied K C d) := by
  refine F.ok scDenied (fun vs H Q E h => ?_) (fun cdv A outer s0 H vs Q E hr h => ?_)
  · obtain ⟨R, i, k, ps, e, t, u, rest, rfl, _⟩ := h
    rfl
  obtain ⟨R, i, k, ps, e, t, u, rest, rfl, h, ha, hg, hs, hw, hk, q⟩ := h
  obtain ⟨fJ, fdJ, GJ, mJ, bJ⟩ := hJ.ex
  obtain ⟨fI, fdI, GI, mI, bI⟩ := hI.ex
  obtain ⟨fO, fdO, GO, mO, bO⟩ := hO.ex
  obtain ⟨fT, fdT, GT, mT, bT⟩ := hT.ex
  obtain ⟨mC⟩ := T.cmp
  rename_i mC
  have hr1 : Room 1 _ := hr.mono (by omega)
  have hr2 : Room 2 _ := hr.mono hn
  obtain ⟨dx, ei⟩ := h.ins
  refine ⟨_, pss_cons (ps_expr (pe_meth0 (pv 0) T.cl mI GI hr1 bI .nil pass0))
    (pss_cons (ps_set (i := 1) scDenied.nd rfl (Or.inl rfl) (pe_meth0 (pv 0) T.cl mT GT hr2 bT .nil pass0))
    (pss_cons (ps_set (i := 2) scDenied.nd rfl (Or.inl rfl) (pe_tup (pa_cons (pv 1) (pa_cons (pe_meth (pv 0) T.cl mJ GJ hr bJ .nil pass0 (pa_cons (pe_glob (v := .int 2) rfl mC ⟨_, rfl⟩) pa_nil)) pa_nil))))
    (pss_cons (ps_expr (pe_meth0 (pv 0) T.cl mO GO hr1 bO .nil pass0))
    (pss_one (ps_ret (pv 2)))))), ?_⟩
  refine ⟨_, rfl, R.r, dx, _, rfl, ei, rf_no _ _ _ _ (by decide +kernel), R, i, k, ps, rfl, h, by omega, fun H1 k1 h1 => ?_⟩
  obtain ⟨x, hx, ex, ha1⟩ := At.head (l := t ++ u :: rest) ha
  obtain ⟨ek, ew⟩ := T3.of ex
  obtain ⟨dx1, ei1⟩ := h1.ins
  refine ⟨_, rfl, R.r, dx1, _, rfl, ei1, rf_no _ _ _ _ (by decide +kernel), R, i, k + 1, ps, x, rfl, h1, hx, fun H2 k2 h2 => ?_⟩
  obtain ⟨dx2, ei2⟩ := h2.ins
  rw [ew]
  refine ⟨_, rfl, _, rfl, R.r, dx2, _, rfl, ei2, rf_no _ _ _ _ (by decide +kernel), R, i + 1, k + 1, ps, e, t, u, rest, rfl, h2, ha1, hg, hs, hw, by omega, fun H3 v k3 h3 d3 => ?_⟩
  refine ⟨(by show 2 ≤ sizeLine; decide), fun p np => ?_⟩
  have s4 := same_new np (.tup [.str "not", v])
  have h4 := h3.same s4
  obtain ⟨dx4, ei4⟩ := h4.ins
  refine ⟨_, rfl, R.r, dx4, _, rfl, ei4, rf_no _ _ _ _ (by decide +kernel), R, _, k, ps, rfl, h4, fun H5 k5 h5 => ?_⟩
  have d4 : Dp K _ (.ref p) (Ex.un .not e).d := Dp.new np (.cons (.str "not") (.cons d3 .nil))
  refine ⟨_, rfl, ?_⟩
  refine q H5 _ (((k1.trans k2).trans k3).trans ((KeepR.same s4).trans k5)) ?_ (Dp.kt (k5.kt h4) (tupD_E _) d4)
  rw [List.length_cons, show i + (t.length + 1) = i + 1 + t.length by omega]
  exact h5
end
end KD

/-! The reader's parts and nests. -/
namespace KD
open PySem L2 TL
open K0 (num)
section
variable {P : Program} {w : World} {K : PySem.W.Frag} {mg : Str → Option Value} {base : Heap} {C : Addr}
theorem stop_mark {z : Str} (h : decide (mkLv z = 9) = true) (l : Nat) : Stop l z := .inr (of_decide_eq_true h)
theorem scNest : FnScope ["self", "word", "first", "second"] ["self"] (defScope S_Reader_nest) := ⟨rfl, rfl, rfl, by decide +kernel, rfl, by decide +kernel, by decide +kernel⟩
theorem ok_nest {n d : Nat} {f : Addr} {fd : FuncData} (F : Fun K "nest" "Reader.nest" S_Reader_nest f fd) (T : RTxt K mg C) (hE : Mth P w K mg base C n "expression" ["self"] (spExpr K C d)) (hP : Mth P w K mg base C n "part" ["self"] (spPart5 K C d))
    (hT : Mth P w K mg base C 2 "taken" ["self"] (spTook K C)) (hM : Mth P w K mg base C 3 "must_pass" ["self", "word"] (spMust K C)) (hn : 3 ≤ n) : FnOk P w K mg base CX0 (n + 1) f fd ["self"] (spNest K C d) := by
  refine F.ok scNest (fun vs H Q E h => ?_) (fun cdv A outer s0 H vs Q E hr h => ?_)
  · obtain ⟨R, i, k, ps, e, t, rest, rfl, _⟩ := h
    rfl
  obtain ⟨R, i, k, ps, e, t, rest, rfl, h, ha, hg, hw, hk, q⟩ := h
  obtain ⟨fE, fdE, GE, mE, bE⟩ := hE.ex
  obtain ⟨fP, fdP, GP, mP, bP⟩ := hP.ex
  obtain ⟨fT, fdT, GT, mT, bT⟩ := hT.ex
  obtain ⟨fM, fdM, GM, mM, bM⟩ := hM.ex
  have hr2 : Room 2 _ := hr.mono (by omega)
  have hr3 : Room 3 _ := hr.mono hn
  obtain ⟨dx, ei⟩ := h.ins
  have no : ∀ (A B : Addr) (i k : Nat), (rf A B i k).lookup ("taken" : Str) = none ∧ (rf A B i k).lookup ("must_pass" : Str) = none ∧ (rf A B i k).lookup ("part" : Str) = none ∧ (rf A B i k).lookup ("expression" : Str) = none := fun A B i k =>
    ⟨rf_no _ _ _ _ (by decide +kernel), rf_no _ _ _ _ (by decide +kernel), rf_no _ _ _ _ (by decide +kernel), rf_no _ _ _ _ (by decide +kernel)⟩
  refine ⟨_, pss_cons (ps_set (i := 1) scNest.nd rfl (Or.inl rfl) (pe_meth0 (pv 0) T.cl mT GT hr2 bT .nil pass0))
    (pss_cons (ps_if (pt_cmpR op_eq (pv 1) pe_str (nomark _)) (pss_one (ps_ret (pe_tup (pa_cons pe_str (pa_cons (pe_meth0 (pv 0) T.cl mP GP hr bP .nil pass0) pa_nil))))) pss_nil)
    (pss_cons (ps_if (pt_cmpR op_eq (pv 1) pe_str (nomark _)) (pss_one (ps_expr (pe_meth (pv 0) T.cl mM GM hr3 bM .nil pass0 (pa_cons pe_str pa_nil)))) pss_nil)
    (pss_cons (ps_set (i := 2) scNest.nd rfl (Or.inl rfl) (pe_meth0 (pv 0) T.cl mE GE hr bE .nil pass0))
    (pss_cons (ps_if (pt_cmpR op_eq (pv 1) pe_str (nomark _)) (pss_cons (ps_expr (pe_meth (pv 0) T.cl mM GM hr3 bM .nil pass0 (pa_cons pe_str pa_nil))) (pss_one (ps_ret (pv 2)))) pss_nil)
    (pss_cons (ps_expr (pe_meth (pv 0) T.cl mM GM hr3 bM .nil pass0 (pa_cons pe_str pa_nil)))
    (pss_cons (ps_set (i := 3) scNest.nd rfl (Or.inl rfl) (pe_meth0 (pv 0) T.cl mE GE hr bE .nil pass0))
    (pss_cons (ps_expr (pe_meth (pv 0) T.cl mM GM hr3 bM .nil pass0 (pa_cons pe_str pa_nil)))
    (pss_one (ps_ret (pe_tup (pa_cons (pv 1) (pa_cons (pv 2) (pa_cons (pv 3) pa_nil))))))))))))), ?_⟩
  rcases hg with ⟨a, b, ta, tb, rfl, rfl, ga, gb⟩ | ⟨a, ta, rfl, rfl, ga⟩ | ⟨ta, rfl, ga⟩
  · -- black
    have ha0 : At R i (kK "black" :: kM "(" :: (ta ++ kM "," :: (tb ++ kM ")" :: rest))) := by
      have e : [kK "black", kM "("] ++ ta ++ [kM ","] ++ tb ++ [kM ")"] ++ rest = kK "black" :: kM "(" :: (ta ++ kM "," :: (tb ++ kM ")" :: rest)) := by simp
      rw [← e]; exact ha
    obtain ⟨x0, hx0, ex0, ha1⟩ := ha0.head
    obtain ⟨x1, hx1, ex1, ha2⟩ := ha1.head
    obtain ⟨_, ew0⟩ := T3.of ex0
    obtain ⟨_, ew1⟩ := T3.of ex1
    refine ⟨_, rfl, R.r, dx, _, rfl, ei, (no _ _ _ _).1, R, i, k, ps, x0, rfl, h, hx0, fun H1 k1 h1 => ?_⟩
    rw [ew0]
    obtain ⟨dx1, ei1⟩ := h1.ins
    refine ⟨_, rfl, rfl, _, rfl, ?_⟩
    rw [show decide (V.str "black" = V.str "-") = false by decide +kernel]
    refine iteF ?_
    refine ⟨_, rfl, rfl, _, rfl, ?_⟩
    rw [show decide (V.str "black" = V.str "black") = true by decide +kernel]
    refine iteT ?_
    refine ⟨_, rfl, R.r, dx1, _, rfl, ei1, (no _ _ _ _).2.1, R, i + 1, k, ps, x1, _, rfl, h1, hx1, ew1, fun H2 k2 h2 => ?_⟩
    obtain ⟨dx2, ei2⟩ := h2.ins
    refine ⟨_, rfl, R.r, dx2, _, rfl, ei2, (no _ _ _ _).2.2.2, R, _, k, ps, a, ta, _, _, rfl, h2, ha2, ga, stop_mark (by decide +kernel) 0, hw.1, hk, fun H3 va k3 h3 d3 => ?_⟩
    obtain ⟨dx3, ei3⟩ := h3.ins
    obtain ⟨x3, hx3, ex3, ha3⟩ := (At.app ha2).head
    obtain ⟨_, ew3⟩ := T3.of ex3
    refine ⟨_, rfl, rfl, _, rfl, ?_⟩
    rw [show decide (V.str "black" = V.str "(") = false by decide +kernel]
    refine iteF ?_
    refine ⟨_, rfl, R.r, dx3, _, rfl, ei3, (no _ _ _ _).2.1, R, _, k, ps, x3, _, rfl, h3, hx3, ew3, fun H4 k4 h4 => ?_⟩
    obtain ⟨dx4, ei4⟩ := h4.ins
    refine ⟨_, rfl, R.r, dx4, _, rfl, ei4, (no _ _ _ _).2.2.2, R, _, k, ps, b, tb, _, _, rfl, h4, ha3, gb, stop_mark (by decide +kernel) 0, hw.2, hk, fun H5 vb k5 h5 d5 => ?_⟩
    obtain ⟨dx5, ei5⟩ := h5.ins
    obtain ⟨x5, hx5, ex5, ha5⟩ := (At.app ha3).head
    obtain ⟨_, ew5⟩ := T3.of ex5
    refine ⟨_, rfl, R.r, dx5, _, rfl, ei5, (no _ _ _ _).2.1, R, _, k, ps, x5, _, rfl, h5, hx5, ew5, fun H6 k6 h6 => ?_⟩
    refine ⟨_, rfl, _, rfl, _, rfl, (by show 3 ≤ sizeLine; decide), fun p np => ?_⟩
    have s7 := same_new np (.tup [.str "black", va, vb])
    have da : Dp K H6 va a.d := Dp.kt (((k4.kt h3).trans (k5.kt h4)).trans (k6.kt h5)) (tupD_E _) d3
    have db : Dp K H6 vb b.d := Dp.kt (k6.kt h5) (tupD_E _) d5
    refine q _ _ ((((k1.trans k2).trans k3).trans ((k4.trans k5).trans k6)).trans (KeepR.same s7)) ?_ (Dp.new np (.cons (.str "black") (.cons da (.cons db .nil))))
    have e : i + ([kK "black", kM "("] ++ ta ++ [kM ","] ++ tb ++ [kM ")"]).length = i + 1 + 1 + ta.length + 1 + tb.length + 1 := by
      simp only [List.length_append, List.length_cons, List.length_nil]
      omega
    rw [e]
    exact h6.same s7
  · -- a minus
    obtain ⟨x0, hx0, ex0, ha1⟩ := At.head (l := ta ++ rest) ha
    obtain ⟨_, ew0⟩ := T3.of ex0
    refine ⟨_, rfl, R.r, dx, _, rfl, ei, (no _ _ _ _).1, R, i, k, ps, x0, rfl, h, hx0, fun H1 k1 h1 => ?_⟩
    rw [ew0]
    obtain ⟨dx1, ei1⟩ := h1.ins
    refine ⟨_, rfl, rfl, _, rfl, ?_⟩
    rw [show decide (V.str "-" = V.str "-") = true by decide +kernel]
    refine iteT ?_
    refine ⟨_, rfl, R.r, dx1, _, rfl, ei1, (no _ _ _ _).2.2.1, R, _, k, ps, a, ta, rest, rfl, h1, ha1, ga, hw, hk, fun H3 va k3 h3 d3 => ?_⟩
    refine ⟨(by show 2 ≤ sizeLine; decide), fun p np => ?_⟩
    have s7 := same_new np (.tup [.str "neg", va])
    refine q _ _ ((k1.trans k3).trans (KeepR.same s7)) ?_ (Dp.new np (.cons (.str "neg") (.cons d3 .nil)))
    rw [List.length_cons, show i + (ta.length + 1) = i + 1 + ta.length by omega]
    exact h3.same s7
  · -- brackets
    have ha0 : At R i (kM "(" :: (ta ++ kM ")" :: rest)) := by
      have e : [kM "("] ++ ta ++ [kM ")"] ++ rest = kM "(" :: (ta ++ kM ")" :: rest) := by simp
      rw [← e]; exact ha
    obtain ⟨x0, hx0, ex0, ha1⟩ := ha0.head
    obtain ⟨_, ew0⟩ := T3.of ex0
    refine ⟨_, rfl, R.r, dx, _, rfl, ei, (no _ _ _ _).1, R, i, k, ps, x0, rfl, h, hx0, fun H1 k1 h1 => ?_⟩
    rw [ew0]
    obtain ⟨dx1, ei1⟩ := h1.ins
    refine ⟨_, rfl, rfl, _, rfl, ?_⟩
    rw [show decide (V.str "(" = V.str "-") = false by decide +kernel]
    refine iteF ?_
    refine ⟨_, rfl, rfl, _, rfl, ?_⟩
    rw [show decide (V.str "(" = V.str "black") = false by decide +kernel]
    refine iteF ?_
    refine ⟨_, rfl, R.r, dx1, _, rfl, ei1, (no _ _ _ _).2.2.2, R, _, k, ps, e, ta, _, _, rfl, h1, ha1, ga, stop_mark (by decide +kernel) 0, hw, hk, fun H3 va k3 h3 d3 => ?_⟩
    obtain ⟨dx3, ei3⟩ := h3.ins
    obtain ⟨x3, hx3, ex3, ha3⟩ := (At.app ha1).head
    obtain ⟨_, ew3⟩ := T3.of ex3
    refine ⟨_, rfl, rfl, _, rfl, ?_⟩
    rw [show decide (V.str "(" = V.str "(") = true by decide +kernel]
    refine iteT ?_
    refine ⟨_, rfl, R.r, dx3, _, rfl, ei3, (no _ _ _ _).2.1, R, _, k, ps, x3, _, rfl, h3, hx3, ew3, fun H4 k4 h4 => ?_⟩
    refine ⟨_, rfl, ?_⟩
    refine q _ _ ((k1.trans k3).trans k4) ?_ (Dp.kt (k4.kt h3) (tupD_E _) d3)
    have e2 : i + ([kM "("] ++ ta ++ [kM ")"]).length = i + 1 + ta.length + 1 := by
      simp only [List.length_append, List.length_cons, List.length_nil]
      omega
    rw [e2]
    exact h4
/-- the first word of a part that is a nest -/
theorem NestOf.first {k : Nat} {e : Ex} {t : List Tk} (h : NestOf k e t) : ∃ kd z ts, t = (kd, z) :: ts ∧ kd ≠ "number" ∧ kd ≠ "name" ∧ z ∉ (["rows", "cols"] : List Str) ∧ z ∈ (["black", "-", "("] : List Str) := by
  rcases h with ⟨a, b, ta, tb, rfl, rfl, ga, gb⟩ | ⟨a, ta, rfl, rfl, ga⟩ | ⟨ta, rfl, ga⟩
  · exact ⟨"key", "black", _, rfl, by decide +kernel⟩
  · exact ⟨"mark", "-", _, rfl, by decide +kernel⟩
  · exact ⟨"mark", "(", _, rfl, by decide +kernel⟩
theorem dec_strs (a b : Str) : decide (V.str a = V.str b) = decide (a = b) := by
  rw [Bool.eq_iff_iff, decide_eq_true_eq, decide_eq_true_eq]
  exact ⟨fun e => by cases e; rfl, fun e => by rw [e]⟩
theorem scPart5 : FnScope ["self", "tree"] ["self"] (defScope S_Reader_part) := ⟨rfl, rfl, rfl, by decide +kernel, rfl, by decide +kernel, by decide +kernel⟩
theorem ok_part5 {n d : Nat} {f : Addr} {fd : FuncData} (F : Fun K "part" "Reader.part" S_Reader_part f fd) (B : Blt mg) (T : RTxt K mg C) (hN : ∀ d', d = d' + 1 → Mth P w K mg base C n "nest" ["self"] (spNest K C d'))
    (hK : Mth P w K mg base C 1 "kind" ["self"] (spKind K C)) (hW : Mth P w K mg base C 1 "word" ["self"] (spWord K C)) (hI : Mth P w K mg base C 1 "go_in" ["self"] (spIn K C)) (hO : Mth P w K mg base C 1 "come_out" ["self"] (spOut K C)) (hT : Mth P w K mg base C 2 "taken" ["self"] (spTook K C)) (hn : 2 ≤ n) :
    FnOk P w K mg base CX0 (n + 1) f fd ["self"] (spPart5 K C d) := by
  refine F.ok scPart5 (fun vs H Q E h => ?_) (fun cdv A outer s0 H vs Q E hr h => ?_)
  · obtain ⟨R, i, k, ps, e, t, rest, rfl, _⟩ := h
    rfl
  obtain ⟨R, i, k, ps, e, t, rest, rfl, h, ha, hg, hw, hk, q⟩ := h
  obtain ⟨fK, fdK, GK, mK, bK⟩ := hK.ex
  obtain ⟨fW, fdW, GW, mW, bW⟩ := hW.ex
  obtain ⟨fI, fdI, GI, mI, bI⟩ := hI.ex
  obtain ⟨fO, fdO, GO, mO, bO⟩ := hO.ex
  obtain ⟨fT, fdT, GT, mT, bT⟩ := hT.ex
  have hr1 : Room 1 _ := hr.mono (by omega)
  have hr2 : Room 2 _ := hr.mono hn
  obtain ⟨dx, ei⟩ := h.ins
  have no : ∀ (A B : Addr) (i k : Nat), (rf A B i k).lookup ("kind" : Str) = none ∧ (rf A B i k).lookup ("word" : Str) = none ∧ (rf A B i k).lookup ("taken" : Str) = none ∧ (rf A B i k).lookup ("go_in" : Str) = none ∧ (rf A B i k).lookup ("come_out" : Str) = none ∧ (rf A B i k).lookup ("nest" : Str) = none := fun A B i k =>
    ⟨rf_no _ _ _ _ (by decide +kernel), rf_no _ _ _ _ (by decide +kernel), rf_no _ _ _ _ (by decide +kernel), rf_no _ _ _ _ (by decide +kernel), rf_no _ _ _ _ (by decide +kernel), rf_no _ _ _ _ (by decide +kernel)⟩
  have inr : ∀ (z : Str) (l : List Str), inV (.str z) (l.map V.str) = decide (z ∈ l) := in_strs
  rcases hg.part with ⟨m, rfl, rfl⟩ | ⟨x, rfl, rfl⟩ | ⟨rfl, rfl⟩ | ⟨rfl, rfl⟩ | ⟨d', rfl, hN0⟩ | h6
  · -- a number
    obtain ⟨x0, hx0, ex0, _⟩ := At.head (l := rest) ha
    obtain ⟨ek0, ew0⟩ := T3.of ex0
    refine ⟨_, pss_cons (ps_if (pt_cmpR op_eq (pe_meth0 (pv 0) T.cl mK GK hr1 bK .nil pass0) pe_str (nomark _)) (pss_one (ps_ret (pe_tup (pa_cons pe_str (pa_cons (pe_callTy call_int_str (by rfl) B.int (by decide +kernel) (pa_cons (pe_meth0 (pv 0) T.cl mT GT hr2 bT .nil pass0) pa_nil)) pa_nil))))) pss_nil) pss_never, ?_⟩
    refine ⟨_, rfl, R.r, dx, _, rfl, ei, (no _ _ _ _).1, R, i, k, ps, x0, rfl, h, hx0, ?_⟩
    refine ⟨rfl, _, rfl, ?_⟩
    rw [ek0, decide_eq_true rfl]
    refine iteT ?_
    refine ⟨_, rfl, R.r, dx, _, rfl, ei, (no _ _ _ _).2.2.1, R, i, k, ps, x0, rfl, h, hx0, fun H1 k1 h1 => ?_⟩
    rw [ew0]
    have hm : m < 1000000 := hw
    have hl := K0.num_len hm
    refine ⟨_, (m : Nat), rfl, int_num (by rw [← K0.tl_num', ← len_tl]; omega), by omega, ?_⟩
    refine ⟨(by show 2 ≤ sizeLine; decide), fun p np => ?_⟩
    have s2 := same_new np (.tup [.str "num", .int (m : Nat)])
    exact q _ _ (k1.trans (KeepR.same s2)) (h1.same s2) (Dp.new np (.cons (.str "num") (.cons (.int _) .nil)))
  · -- a name
    obtain ⟨x0, hx0, ex0, _⟩ := At.head (l := rest) ha
    obtain ⟨ek0, ew0⟩ := T3.of ex0
    refine ⟨_, pss_cons (ps_if (pt_cmpR op_eq (pe_meth0 (pv 0) T.cl mK GK hr1 bK .nil pass0) pe_str (nomark _)) pss_never pss_nil)
      (pss_cons (ps_if (pt_cmpR op_eq (pe_meth0 (pv 0) T.cl mK GK hr1 bK .nil pass0) pe_str (nomark _)) (pss_one (ps_ret (pe_tup (pa_cons pe_str (pa_cons (pe_meth0 (pv 0) T.cl mT GT hr2 bT .nil pass0) pa_nil))))) pss_nil) pss_never), ?_⟩
    refine ⟨_, rfl, R.r, dx, _, rfl, ei, (no _ _ _ _).1, R, i, k, ps, x0, rfl, h, hx0, ?_⟩
    refine ⟨rfl, _, rfl, ?_⟩
    rw [ek0, show decide (V.str "name" = V.str "number") = false by decide +kernel]
    refine iteF ?_
    refine ⟨_, rfl, R.r, dx, _, rfl, ei, (no _ _ _ _).1, R, i, k, ps, x0, rfl, h, hx0, ?_⟩
    refine ⟨rfl, _, rfl, ?_⟩
    rw [ek0, decide_eq_true rfl]
    refine iteT ?_
    refine ⟨_, rfl, R.r, dx, _, rfl, ei, (no _ _ _ _).2.2.1, R, i, k, ps, x0, rfl, h, hx0, fun H1 k1 h1 => ?_⟩
    rw [ew0]
    refine ⟨(by show 2 ≤ sizeLine; decide), fun p np => ?_⟩
    have s2 := same_new np (.tup [.str "name", .str x])
    exact q _ _ (k1.trans (KeepR.same s2)) (h1.same s2) (Dp.new np (.cons (.str "name") (.cons (.str x) .nil)))
  · -- rows
    obtain ⟨x0, hx0, ex0, _⟩ := At.head (l := rest) ha
    obtain ⟨ek0, ew0⟩ := T3.of ex0
    refine ⟨_, pss_cons (ps_if (pt_cmpR op_eq (pe_meth0 (pv 0) T.cl mK GK hr1 bK .nil pass0) pe_str (nomark _)) pss_never pss_nil)
      (pss_cons (ps_if (pt_cmpR op_eq (pe_meth0 (pv 0) T.cl mK GK hr1 bK .nil pass0) pe_str (nomark _)) pss_never pss_nil)
      (pss_cons (ps_if (pt_cmpR op_in_seq (pe_meth0 (pv 0) T.cl mW GW hr1 bW .nil pass0) (pe_tup (pa_cons pe_str (pa_cons pe_str pa_nil))) (by rfl)) (pss_one (ps_ret (pe_tup (pa_cons (pe_meth0 (pv 0) T.cl mT GT hr2 bT .nil pass0) pa_nil)))) pss_nil) pss_never)), ?_⟩
    refine ⟨_, rfl, R.r, dx, _, rfl, ei, (no _ _ _ _).1, R, i, k, ps, x0, rfl, h, hx0, ?_⟩
    refine ⟨rfl, _, rfl, ?_⟩
    rw [ek0, show decide (V.str "key" = V.str "number") = false by decide +kernel]
    refine iteF ?_
    refine ⟨_, rfl, R.r, dx, _, rfl, ei, (no _ _ _ _).1, R, i, k, ps, x0, rfl, h, hx0, ?_⟩
    refine ⟨rfl, _, rfl, ?_⟩
    rw [ek0, show decide (V.str "key" = V.str "name") = false by decide +kernel]
    refine iteF ?_
    refine ⟨_, rfl, R.r, dx, _, rfl, ei, (no _ _ _ _).2.1, R, i, k, ps, x0, rfl, h, hx0, ?_⟩
    refine ⟨(by show 2 ≤ sizeLine; decide), fun p np => ⟨p, _, rfl, .inr (SqT.of upd_same), rfl, rfl, _, rfl, ?_⟩⟩
    have s1 := same_new np (.tup [.str "rows", .str "cols"])
    have h1 := h.same s1
    obtain ⟨dx1, ei1⟩ := h1.ins
    show if inV (.str x0.w) ((["rows", "cols"] : List Str).map V.str) = true then _ else _
    rw [inr, ew0, show decide (("rows" : Str) ∈ (["rows", "cols"] : List Str)) = true by decide +kernel]
    refine iteT ?_
    refine ⟨_, rfl, R.r, dx1, _, rfl, ei1, (no _ _ _ _).2.2.1, R, i, k, ps, x0, rfl, h1, hx0, fun H2 k2 h2 => ?_⟩
    rw [ew0]
    refine ⟨(by show 1 ≤ sizeLine; decide), fun p np => ?_⟩
    have s2 := same_new np (.tup [.str "rows"])
    exact q _ _ ((KeepR.same s1).trans (k2.trans (KeepR.same s2))) (h2.same s2) (Dp.new np (.cons (.str "rows") .nil))
  · -- cols
    obtain ⟨x0, hx0, ex0, _⟩ := At.head (l := rest) ha
    obtain ⟨ek0, ew0⟩ := T3.of ex0
    refine ⟨_, pss_cons (ps_if (pt_cmpR op_eq (pe_meth0 (pv 0) T.cl mK GK hr1 bK .nil pass0) pe_str (nomark _)) pss_never pss_nil)
      (pss_cons (ps_if (pt_cmpR op_eq (pe_meth0 (pv 0) T.cl mK GK hr1 bK .nil pass0) pe_str (nomark _)) pss_never pss_nil)
      (pss_cons (ps_if (pt_cmpR op_in_seq (pe_meth0 (pv 0) T.cl mW GW hr1 bW .nil pass0) (pe_tup (pa_cons pe_str (pa_cons pe_str pa_nil))) (by rfl)) (pss_one (ps_ret (pe_tup (pa_cons (pe_meth0 (pv 0) T.cl mT GT hr2 bT .nil pass0) pa_nil)))) pss_nil) pss_never)), ?_⟩
    refine ⟨_, rfl, R.r, dx, _, rfl, ei, (no _ _ _ _).1, R, i, k, ps, x0, rfl, h, hx0, ?_⟩
    refine ⟨rfl, _, rfl, ?_⟩
    rw [ek0, show decide (V.str "key" = V.str "number") = false by decide +kernel]
    refine iteF ?_
    refine ⟨_, rfl, R.r, dx, _, rfl, ei, (no _ _ _ _).1, R, i, k, ps, x0, rfl, h, hx0, ?_⟩
    refine ⟨rfl, _, rfl, ?_⟩
    rw [ek0, show decide (V.str "key" = V.str "name") = false by decide +kernel]
    refine iteF ?_
    refine ⟨_, rfl, R.r, dx, _, rfl, ei, (no _ _ _ _).2.1, R, i, k, ps, x0, rfl, h, hx0, ?_⟩
    refine ⟨(by show 2 ≤ sizeLine; decide), fun p np => ⟨p, _, rfl, .inr (SqT.of upd_same), rfl, rfl, _, rfl, ?_⟩⟩
    have s1 := same_new np (.tup [.str "rows", .str "cols"])
    have h1 := h.same s1
    obtain ⟨dx1, ei1⟩ := h1.ins
    show if inV (.str x0.w) ((["rows", "cols"] : List Str).map V.str) = true then _ else _
    rw [inr, ew0, show decide (("cols" : Str) ∈ (["rows", "cols"] : List Str)) = true by decide +kernel]
    refine iteT ?_
    refine ⟨_, rfl, R.r, dx1, _, rfl, ei1, (no _ _ _ _).2.2.1, R, i, k, ps, x0, rfl, h1, hx0, fun H2 k2 h2 => ?_⟩
    rw [ew0]
    refine ⟨(by show 1 ≤ sizeLine; decide), fun p np => ?_⟩
    have s2 := same_new np (.tup [.str "cols"])
    exact q _ _ ((KeepR.same s1).trans (k2.trans (KeepR.same s2))) (h2.same s2) (Dp.new np (.cons (.str "cols") .nil))
  · -- a nest
    have hg' : NestOf d' e t := hN0
    obtain ⟨fN, fdN, GN, mN, bN⟩ := (hN d' rfl).ex
    obtain ⟨kd, z, ts, rfl, q1, q2, q3, q4⟩ := hg'.first
    obtain ⟨x0, hx0, ex0, _⟩ := At.head (l := ts ++ rest) ha
    obtain ⟨ek0, ew0⟩ := T3.of ex0
    refine ⟨_, pss_cons (ps_if (pt_cmpR op_eq (pe_meth0 (pv 0) T.cl mK GK hr1 bK .nil pass0) pe_str (nomark _)) pss_never pss_nil)
      (pss_cons (ps_if (pt_cmpR op_eq (pe_meth0 (pv 0) T.cl mK GK hr1 bK .nil pass0) pe_str (nomark _)) pss_never pss_nil)
      (pss_cons (ps_if (pt_cmpR op_in_seq (pe_meth0 (pv 0) T.cl mW GW hr1 bW .nil pass0) (pe_tup (pa_cons pe_str (pa_cons pe_str pa_nil))) (by rfl)) pss_never pss_nil)
      (pss_cons (ps_if (pt_cmpR op_notIn_seq (pe_meth0 (pv 0) T.cl mW GW hr1 bW .nil pass0) (pe_tup (pa_cons pe_str (pa_cons pe_str (pa_cons pe_str pa_nil)))) (by rfl)) pss_never pss_nil)
      (pss_cons (ps_expr (pe_meth0 (pv 0) T.cl mI GI hr1 bI .nil pass0))
      (pss_cons (ps_set (i := 1) scPart5.nd rfl (Or.inl rfl) (pe_meth0 (pv 0) T.cl mN GN hr bN .nil pass0))
      (pss_cons (ps_expr (pe_meth0 (pv 0) T.cl mO GO hr1 bO .nil pass0)) (pss_one (ps_ret (pv 1))))))))), ?_⟩
    refine ⟨_, rfl, R.r, dx, _, rfl, ei, (no _ _ _ _).1, R, i, k, ps, x0, rfl, h, hx0, ?_⟩
    refine ⟨rfl, _, rfl, ?_⟩
    rw [ek0, dec_strs, decide_eq_false q1]
    refine iteF ?_
    refine ⟨_, rfl, R.r, dx, _, rfl, ei, (no _ _ _ _).1, R, i, k, ps, x0, rfl, h, hx0, ?_⟩
    refine ⟨rfl, _, rfl, ?_⟩
    rw [ek0, dec_strs, decide_eq_false q2]
    refine iteF ?_
    refine ⟨_, rfl, R.r, dx, _, rfl, ei, (no _ _ _ _).2.1, R, i, k, ps, x0, rfl, h, hx0, ?_⟩
    refine ⟨(by show 2 ≤ sizeLine; decide), fun p np => ⟨p, _, rfl, .inr (SqT.of upd_same), rfl, rfl, _, rfl, ?_⟩⟩
    have s1 := same_new np (.tup [.str "rows", .str "cols"])
    have h1 := h.same s1
    obtain ⟨dx1, ei1⟩ := h1.ins
    show if inV (.str x0.w) ((["rows", "cols"] : List Str).map V.str) = true then _ else _
    rw [inr, ew0, decide_eq_false q3]
    refine iteF ?_
    refine ⟨_, rfl, R.r, dx1, _, rfl, ei1, (no _ _ _ _).2.1, R, i, k, ps, x0, rfl, h1, hx0, ?_⟩
    refine ⟨(by show 3 ≤ sizeLine; decide), fun p2 np2 => ⟨p2, _, rfl, .inr (SqT.of upd_same), rfl, rfl, _, rfl, ?_⟩⟩
    have s2 := same_new np2 (.tup [.str "black", .str "-", .str "("])
    have h2 := h1.same s2
    obtain ⟨dx2, ei2⟩ := h2.ins
    show if (!inV (.str x0.w) ((["black", "-", "("] : List Str).map V.str)) = true then _ else _
    rw [inr, ew0, decide_eq_true q4]
    refine iteF ?_
    refine ⟨_, rfl, R.r, dx2, _, rfl, ei2, (no _ _ _ _).2.2.2.1, R, i, k, ps, rfl, h2, by omega, fun H3 k3 h3 => ?_⟩
    obtain ⟨dx3, ei3⟩ := h3.ins
    refine ⟨_, rfl, R.r, dx3, _, rfl, ei3, (no _ _ _ _).2.2.2.2.2, R, i, k + 1, ps, e, _, rest, rfl, h3, ha, hg', hw, by omega, fun H4 v k4 h4 d4 => ?_⟩
    obtain ⟨dx4, ei4⟩ := h4.ins
    refine ⟨_, rfl, R.r, dx4, _, rfl, ei4, (no _ _ _ _).2.2.2.2.1, R, _, k, ps, rfl, h4, fun H5 k5 h5 => ?_⟩
    refine ⟨_, rfl, ?_⟩
    exact q H5 v (((KeepR.same s1).trans (KeepR.same s2)).trans ((k3.trans k4).trans k5)) h5 (Dp.kt (k5.kt h4) (tupD_E _) d4)
  · exact absurd h6.no6 (by decide)
end
end KD

/-! The reader's joined expressions, by level; all expressions, by depth. -/
namespace KD
open PySem L2 TL
open K0 (num)
section
variable {P : Program} {w : World} {K : PySem.W.Frag} {mg : Str → Option Value} {base : Heap} {C : Addr}
def wfQ (qs : List (Bi × Ex)) : Prop := ∀ q ∈ qs, wfE q.2
theorem wf_foldB : ∀ {qs : List (Bi × Ex)} {e : Ex}, wfE (foldB e qs) → wfE e ∧ wfQ qs
  | [], e, h => ⟨h, fun q hq => by cases hq⟩
  | (o, b) :: qs, e, h => by
    have h' : wfE (foldB (.bin o e b) qs) := h
    obtain ⟨h1, h2⟩ := wf_foldB h'
    refine ⟨h1.1, fun q hq => ?_⟩
    rcases List.mem_cons.mp hq with e | hq
    · rw [e]; exact h1.2
    · exact h2 q hq
theorem lev_at {a a0 a1 a2 a3 a4 : Addr} {l : Nat} (h : l < 5) (hL : ∀ H, SqT K H a [.ref a0, .ref a1, .ref a2, .ref a3, .ref a4] ∧ SqT K H a0 ((lvW 0).map V.str) ∧ SqT K H a1 ((lvW 1).map V.str) ∧ SqT K H a2 ((lvW 2).map V.str) ∧ SqT K H a3 ((lvW 3).map V.str) ∧ SqT K H a4 ((lvW 4).map V.str)) :
    ∃ b, atI [V.ref a0, .ref a1, .ref a2, .ref a3, .ref a4] ((l : Nat) : Int) = some (.ref b) ∧ ∀ H, SqT K H b ((lvW l).map V.str) := by
  match l, h with
  | 0, _ => exact ⟨a0, rfl, fun H => (hL H).2.1⟩
  | 1, _ => exact ⟨a1, rfl, fun H => (hL H).2.2.1⟩
  | 2, _ => exact ⟨a2, rfl, fun H => (hL H).2.2.2.1⟩
  | 3, _ => exact ⟨a3, rfl, fun H => (hL H).2.2.2.2.1⟩
  | 4, _ => exact ⟨a4, rfl, fun H => (hL H).2.2.2.2.2⟩
theorem scJoined : FnScope ["self", "level", "tree", "mark"] ["self", "level"] (defScope S_Reader_joined) := ⟨rfl, rfl, rfl, by decide +kernel, rfl, by decide +kernel, by decide +kernel⟩
theorem dec_ints (a b : Nat) : decide (V.int (a : Nat) = V.int (b : Nat)) = decide (a = b) := by
  rw [Bool.eq_iff_iff, decide_eq_true_eq, decide_eq_true_eq]
  exact ⟨fun e => by injection e with e; omega, fun e => by rw [e]⟩
/-- parts -/
theorem ok_joined5 {n d : Nat} {f : Addr} {fd : FuncData} (F : Fun K "joined" "Reader.joined" S_Reader_joined f fd) (T : RTxt K mg C) (hP : Mth P w K mg base C n "part" ["self"] (spPart5 K C d)) : FnOk P w K mg base CX0 (n + 1) f fd ["self", "level"] (spJoined K C d 5) := by
  refine F.ok scJoined (fun vs H Q E h => ?_) (fun cdv A outer s0 H vs Q E hr h => ?_)
  · obtain ⟨R, i, k, ps, e, t, u, rest, rfl, _⟩ := h
    rfl
  obtain ⟨R, i, k, ps, e, t, u, rest, rfl, h, ha, hg, hs, hw, hk, q⟩ := h
  obtain ⟨fP, fdP, GP, mP, bP⟩ := hP.ex
  obtain ⟨tk, mPr⟩ := T.prt
  obtain ⟨dx, ei⟩ := h.ins
  refine ⟨_, pss_cons (ps_if (pt_cmpR op_eq (pv 1) (pe_glob (v := .int 5) rfl mPr ⟨_, rfl⟩) (nomark _)) (pss_one (ps_ret (pe_meth0 (pv 0) T.cl mP GP hr bP .nil pass0))) pss_nil) pss_never, ?_⟩
  refine ⟨_, rfl, rfl, _, rfl, ?_⟩
  rw [show decide (V.int ((5 : Nat) : Int) = V.int 5) = true by decide +kernel]
  refine iteT ?_
  exact ⟨_, rfl, R.r, dx, _, rfl, ei, rf_no _ _ _ _ (by decide +kernel), R, i, k, ps, e, t, _, rfl, h, ha, hg, hw, hk, q⟩
/-- sums, products, and, or -/
theorem ok_joinedL {n d l : Nat} {f : Addr} {fd : FuncData} (F : Fun K "joined" "Reader.joined" S_Reader_joined f fd) (M : Meth K C "joined" f) (b : Binds K fd ["self", "level"] []) (T : RTxt K mg C) (hl : l < 5) (hl2 : l ≠ 2) (hJ : FnOk P w K mg base CX0 n f fd ["self", "level"] (spJoined K C d (l + 1)))
    (hW : Mth P w K mg base C 1 "word" ["self"] (spWord K C)) (hT : Mth P w K mg base C 2 "taken" ["self"] (spTook K C)) (hn : 2 ≤ n) : FnOk P w K mg base CX0 (n + 1) f fd ["self", "level"] (spJoined K C d l) := by
  refine F.ok scJoined (fun vs H Q E h => ?_) (fun cdv A outer s0 H vs Q E hr h => ?_)
  · obtain ⟨R, i, k, ps, e, t, u, rest, rfl, _⟩ := h
    rfl
  obtain ⟨R, i, k, ps, e, t, u, rest, rfl, h, ha, hg, hs, hw, hk, q⟩ := h
  obtain ⟨fW, fdW, GW, mW, bW⟩ := hW.ex
  obtain ⟨fT, fdT, GT, mT, bT⟩ := hT.ex
  obtain ⟨tk5, mPr⟩ := T.prt
  obtain ⟨tk2, mCo⟩ := T.cmp
  obtain ⟨a, a0, a1, a2, a3, a4, mL, hL⟩ := T.lev
  obtain ⟨bl, ebl, hbl⟩ := lev_at hl hL
  have hr1 : Room 1 _ := hr.mono (by omega)
  have hr2 : Room 2 _ := hr.mono hn
  obtain ⟨dx, ei⟩ := h.ins
  have no : ∀ (A B : Addr) (i k : Nat), (rf A B i k).lookup ("word" : Str) = none ∧ (rf A B i k).lookup ("taken" : Str) = none ∧ (rf A B i k).lookup ("joined" : Str) = none := fun A B i k =>
    ⟨rf_no _ _ _ _ (by decide +kernel), rf_no _ _ _ _ (by decide +kernel), rf_no _ _ _ _ (by decide +kernel)⟩
  refine ⟨_, pss_cons (ps_if (pt_cmpR op_eq (pv 1) (pe_glob (v := .int 5) rfl mPr ⟨_, rfl⟩) (nomark _)) pss_never pss_nil)
    (pss_cons (ps_if (PW.pt (pw_and (pt_cmpR op_eq (pv 1) (pe_glob (v := .int 2) rfl mCo ⟨_, rfl⟩) (nomark _)) (pw_and1 (pt_cmpR op_eq (pe_meth0 (pv 0) T.cl mW GW hr1 bW .nil pass0) pe_str (nomark _))))) pss_never pss_nil)
    (pss_cons (ps_set (i := 2) scJoined.nd rfl (Or.inl rfl) (pe_meth (pv 0) T.cl M hJ hr b .nil pass0 (pa_cons (pe_op op_add (pv 1) pe_int) pa_nil)))
    (pss_cons (ps_while PassesOwn.never (pt_cmpR op_in_seq (pe_meth0 (pv 0) T.cl mW GW hr1 bW .nil pass0) (pe_ix ix_tup (pe_glob (v := .ref a) rfl mL rfl) (pv 1) (fun _ _ => rfl)) (by rfl))
      (pss_cons (ps_set (i := 3) scJoined.nd rfl (Or.inl rfl) (pe_meth0 (pv 0) T.cl mT GT hr2 bT .nil pass0))
      (pss_cons (ps_set (i := 2) scJoined.nd rfl (Or.inl rfl) (pe_tup (pa_cons (pv 3) (pa_cons (pv 2) (pa_cons (pe_meth (pv 0) T.cl M hJ hr b .nil pass0 (pa_cons (pe_op op_add (pv 1) pe_int) pa_nil)) pa_nil)))))
      (pss_one (ps_if (pt_cmpR op_eq (pv 1) (pe_glob (v := .int 2) rfl mCo ⟨_, rfl⟩) (nomark _)) pss_never pss_nil)))))
    (pss_one (ps_ret (pv 2)))))), ?_⟩
  have c5 : decide (V.int ((l : Nat) : Int) = V.int 5) = false := by
    have z := dec_ints l 5
    rw [show ((5 : Nat) : Int) = 5 from rfl] at z
    rw [z]
    exact decide_eq_false (by omega)
  have c2 : decide (V.int ((l : Nat) : Int) = V.int 2) = false := by
    have z := dec_ints l 2
    rw [show ((2 : Nat) : Int) = 2 from rfl] at z
    rw [z]
    exact decide_eq_false hl2
  refine ⟨_, rfl, rfl, _, rfl, ?_⟩
  rw [c5]
  refine iteF ?_
  refine ⟨_, rfl, rfl, _, rfl, ?_⟩
  rw [c2]
  refine iteF ?_
  refine iteF ?_
  obtain ⟨e0, t0, qs, ts, g0, row, rfl, rfl⟩ := hg.row hl hl2
  obtain ⟨hw0, hwq⟩ := wf_foldB hw
  rw [List.append_assoc] at ha
  obtain ⟨u0, us, eu, hu⟩ := row.stop hl (w := u) (rest := rest) hs
  refine ⟨_, rfl, R.r, dx, _, rfl, ei, (no _ _ _ _).2.2, _, rfl, _, _, rfl, rfl, R, i, k, ps, e0, t0, u0, us, rfl, h, by rw [← eu]; exact ha, g0, hu, hw0, hk, fun H1 v1 k1 h1 d1 => ?_⟩
  have ha1 := At.app ha
  refine ⟨fun m σ H' => ∃ (v : V) (j : Nat) (ea : Ex) (qs' : List (Bi × Ex)) (ts' : List Tk) (mk : Option V), m = qs'.length ∧ σ = [some (.ref R.r), some (.int (l : Nat)), some v, mk] ∧ KeepR R H H' ∧ RdAt K C R H' j k ps ∧ At R j (ts' ++ u :: rest) ∧ Row d l qs' ts' ∧ wfQ qs' ∧ Dp K H' v ea.d ∧ foldB ea qs' = foldB e0 qs ∧ j + ts'.length = i + (t0 ++ ts).length,
    ⟨_, v1, _, e0, qs, ts, none, rfl, rfl, k1, h1, ha1, row, hwq, d1, rfl, by rw [List.length_append]; omega⟩, ?_⟩
  rintro m σ H2 ⟨v, j, ea, qs', ts', mk, rfl, rfl, k2, h2, ha2, row2, hwq2, d2, ef, el⟩
  obtain ⟨dx2, ei2⟩ := h2.ins
  cases row2 with
  | nil =>
    obtain ⟨x, hx, ex, _⟩ := At.head (l := rest) ha2
    obtain ⟨_, ew⟩ := T3.of (a := u.1) (b := u.2) ex
    refine ⟨_, rfl, R.r, dx2, _, rfl, ei2, (no _ _ _ _).1, R, j, k, ps, x, rfl, h2, hx, ?_⟩
    refine ⟨_, rfl, a, _, _, _, rfl, rfl, (hL H2).1, ebl, bl, _, rfl, .inr (hbl H2), rfl, flat_strs _, _, rfl, ?_⟩
    show if inV (.str x.w) ((lvW l).map V.str) = true then _ else _
    rw [in_strs, ew, decide_eq_false (lvW_no hs hl)]
    refine iteF ?_
    refine ⟨_, rfl, ?_⟩
    have ef' : ea = foldB e0 qs := ef
    subst ef'
    refine q H2 v k2 ?_ d2
    have ej : j = i + (t0 ++ ts).length := by simpa using el
    rw [← ej]
    exact h2
  | @cons o bE qs'' tb ts'' ho hb row3 =>
    obtain ⟨x, hx, ex, ha3⟩ := At.head (l := tb ++ ts'' ++ u :: rest) ha2
    obtain ⟨_, ew⟩ := T3.of (a := o.tk.1) (b := o.tk.2) ex
    refine ⟨_, rfl, R.r, dx2, _, rfl, ei2, (no _ _ _ _).1, R, j, k, ps, x, rfl, h2, hx, ?_⟩
    refine ⟨_, rfl, a, _, _, _, rfl, rfl, (hL H2).1, ebl, bl, _, rfl, .inr (hbl H2), rfl, flat_strs _, _, rfl, ?_⟩
    show if inV (.str x.w) ((lvW l).map V.str) = true then _ else _
    rw [in_strs, ew, decide_eq_true (by rw [← ho]; exact lvW_yes (by omega))]
    refine iteT ?_
    refine ⟨_, fun σ' H' hN => hN, ?_⟩
    refine ⟨_, rfl, R.r, dx2, _, rfl, ei2, (no _ _ _ _).2.1, R, j, k, ps, x, rfl, h2, hx, fun H3 k3 h3 => ?_⟩
    rw [ew]
    obtain ⟨dx3, ei3⟩ := h3.ins
    rw [List.append_assoc] at ha3
    obtain ⟨u1, us1, eu1, hu1⟩ := row3.stop hl (w := u) (rest := rest) hs
    refine ⟨_, rfl, _, rfl, _, rfl, R.r, dx3, _, rfl, ei3, (no _ _ _ _).2.2, _, rfl, _, _, rfl, rfl, R, j + 1, k, ps, bE, tb, u1, us1, rfl, h3, by rw [← eu1]; exact ha3, hb, hu1, hwq2 _ List.mem_cons_self, hk, fun H4 v4 k4 h4 d4 => ?_⟩
    refine ⟨(by show 3 ≤ sizeLine; decide), fun p np => ?_⟩
    have s5 := same_new np (.tup [.str o.tk.2, v, v4])
    refine ⟨_, rfl, rfl, _, rfl, ?_⟩
    rw [c2]
    refine iteF ?_
    refine ⟨qs''.length, by show qs''.length < (((o, bE) :: qs'').length); rw [List.length_cons]; omega, .ref p, _, .bin o ea bE, qs'', ts'', _, rfl, rfl, k2.trans ((k3.trans k4).trans (KeepR.same s5)), h4.same s5, At.app ha3, row3, fun q hq => hwq2 q (List.mem_cons_of_mem _ hq), ?_, ef, ?_⟩
    · have e0 : o.tk.2 = o.w := by cases o <;> rfl
      rw [e0]
      exact Dp.new np (.cons (.str o.w) (.cons (Dp.kt ((k3.kt h2).trans (k4.kt h3)) (tupD_E _) d2) (.cons d4 .nil)))
    · rw [List.length_cons, List.length_append] at el
      omega
/-- comparisons and not -/
theorem ok_joined2 {n d : Nat} {f : Addr} {fd : FuncData} (F : Fun K "joined" "Reader.joined" S_Reader_joined f fd) (M : Meth K C "joined" f) (b : Binds K fd ["self", "level"] []) (T : RTxt K mg C) (hJ : FnOk P w K mg base CX0 n f fd ["self", "level"] (spJoined K C d 3))
    (hD : ∀ d', d = d' + 1 → Mth P w K mg base C n "denied" ["self"] (spDenied K C d'))
    (hW : Mth P w K mg base C 1 "word" ["self"] (spWord K C)) (hT : Mth P w K mg base C 2 "taken" ["self"] (spTook K C)) (hn : 2 ≤ n) : FnOk P w K mg base CX0 (n + 1) f fd ["self", "level"] (spJoined K C d 2) := by
  refine F.ok scJoined (fun vs H Q E h => ?_) (fun cdv A outer s0 H vs Q E hr h => ?_)
  · obtain ⟨R, i, k, ps, e, t, u, rest, rfl, _⟩ := h
    rfl
  obtain ⟨R, i, k, ps, e, t, u, rest, rfl, h, ha, hg, hs, hw, hk, q⟩ := h
  obtain ⟨fW, fdW, GW, mW, bW⟩ := hW.ex
  obtain ⟨fT, fdT, GT, mT, bT⟩ := hT.ex
  obtain ⟨tk5, mPr⟩ := T.prt
  obtain ⟨tk2, mCo⟩ := T.cmp
  obtain ⟨a, a0, a1, a2, a3, a4, mL, hL⟩ := T.lev
  obtain ⟨bl, ebl, hbl⟩ := lev_at (l := 2) (by decide) hL
  have hr1 : Room 1 _ := hr.mono (by omega)
  have hr2 : Room 2 _ := hr.mono hn
  obtain ⟨dx, ei⟩ := h.ins
  have no : ∀ (A B : Addr) (i k : Nat), (rf A B i k).lookup ("word" : Str) = none ∧ (rf A B i k).lookup ("taken" : Str) = none ∧ (rf A B i k).lookup ("joined" : Str) = none ∧ (rf A B i k).lookup ("denied" : Str) = none := fun A B i k =>
    ⟨rf_no _ _ _ _ (by decide +kernel), rf_no _ _ _ _ (by decide +kernel), rf_no _ _ _ _ (by decide +kernel), rf_no _ _ _ _ (by decide +kernel)⟩
  have c5 : decide (V.int ((2 : Nat) : Int) = V.int 5) = false := by decide +kernel
  have c2 : decide (V.int ((2 : Nat) : Int) = V.int 2) = true := by decide +kernel
  rcases hg.cmp3 with ⟨d', e1, ta, rfl, rfl, rfl, g1⟩ | hg3
  · -- not
    obtain ⟨fD, fdD, GD, mD, bD⟩ := (hD d' rfl).ex
    obtain ⟨x, hx, ex, _⟩ := At.head (l := ta ++ u :: rest) ha
    obtain ⟨_, ew⟩ := T3.of ex
    refine ⟨_, pss_cons (ps_if (pt_cmpR op_eq (pv 1) (pe_glob (v := .int 5) rfl mPr ⟨_, rfl⟩) (nomark _)) pss_never pss_nil)
      (pss_cons (ps_if (PW.pt (pw_and (pt_cmpR op_eq (pv 1) (pe_glob (v := .int 2) rfl mCo ⟨_, rfl⟩) (nomark _)) (pw_and1 (pt_cmpR op_eq (pe_meth0 (pv 0) T.cl mW GW hr1 bW .nil pass0) pe_str (nomark _))))) (pss_one (ps_ret (pe_meth0 (pv 0) T.cl mD GD hr bD .nil pass0))) pss_nil) pss_never), ?_⟩
    refine ⟨_, rfl, rfl, _, rfl, ?_⟩
    rw [c5]
    refine iteF ?_
    refine ⟨_, rfl, rfl, _, rfl, ?_⟩
    rw [c2]
    refine iteT ?_
    refine ⟨_, rfl, R.r, dx, _, rfl, ei, (no _ _ _ _).1, R, i, k, ps, x, rfl, h, hx, rfl, _, rfl, ?_⟩
    rw [ew, show decide (V.str "not" = V.str "not") = true by decide +kernel]
    refine iteT ?_
    exact ⟨_, rfl, R.r, dx, _, rfl, ei, (no _ _ _ _).2.2.2, R, i, k, ps, e1, ta, u, rest, rfl, h, ha, g1, hs, hw, by omega, q⟩
  · -- no not: the first side
    have first : ∃ e0 t0 u0 us, G d 3 e0 t0 ∧ wfE e0 ∧ At R i (t0 ++ u0 :: us) ∧ Stop 3 u0.2 ∧ ((e = e0 ∧ t = t0 ∧ u0 = u ∧ us = rest) ∨ (∃ o e1 t1, e = .bin o e0 e1 ∧ o.lv = 2 ∧ t = t0 ++ [o.tk] ++ t1 ∧ u0 = o.tk ∧ us = t1 ++ u :: rest ∧ G d 3 e1 t1 ∧ wfE e1)) := by
      rcases hg3 with ⟨o, e0, e1, t0, t1, rfl, ho, rfl, g0, g1⟩ | g0
      · exact ⟨e0, t0, o.tk, t1 ++ u :: rest, g0, hw.1, by simpa using ha, Stop.tk (by omega) (by omega), .inr ⟨o, e1, t1, rfl, ho, rfl, rfl, rfl, g1, hw.2⟩⟩
      · exact ⟨e, t, u, rest, g0, hw, ha, hs.up (by decide), .inl ⟨rfl, rfl, rfl, rfl⟩⟩
    obtain ⟨e0, t0, u0, us, g0, hw0, ha0, hu0, alt⟩ := first
    obtain ⟨w0, ws0, et0, hnn, _⟩ := g0.first hw0
    have hnot : w0.2 ≠ "not" := hnn (by decide)
    obtain ⟨x, hx, ex, _⟩ := At.head (w := w0) (l := ws0 ++ u0 :: us) (by rw [et0] at ha0; exact ha0)
    obtain ⟨_, ew⟩ := T3.of (a := w0.1) (b := w0.2) ex
    refine ⟨_, pss_cons (ps_if (pt_cmpR op_eq (pv 1) (pe_glob (v := .int 5) rfl mPr ⟨_, rfl⟩) (nomark _)) pss_never pss_nil)
      (pss_cons (ps_if (PW.pt (pw_and (pt_cmpR op_eq (pv 1) (pe_glob (v := .int 2) rfl mCo ⟨_, rfl⟩) (nomark _)) (pw_and1 (pt_cmpR op_eq (pe_meth0 (pv 0) T.cl mW GW hr1 bW .nil pass0) pe_str (nomark _))))) pss_never pss_nil)
      (pss_cons (ps_set (i := 2) scJoined.nd rfl (Or.inl rfl) (pe_meth (pv 0) T.cl M hJ hr b .nil pass0 (pa_cons (pe_op op_add (pv 1) pe_int) pa_nil)))
      (pss_cons (ps_while PassesOwn.never (pt_cmpR op_in_seq (pe_meth0 (pv 0) T.cl mW GW hr1 bW .nil pass0) (pe_ix ix_tup (pe_glob (v := .ref a) rfl mL rfl) (pv 1) (fun _ _ => rfl)) (by rfl))
        (pss_cons (ps_set (i := 3) scJoined.nd rfl (Or.inl rfl) (pe_meth0 (pv 0) T.cl mT GT hr2 bT .nil pass0))
        (pss_cons (ps_set (i := 2) scJoined.nd rfl (Or.inl rfl) (pe_tup (pa_cons (pv 3) (pa_cons (pv 2) (pa_cons (pe_meth (pv 0) T.cl M hJ hr b .nil pass0 (pa_cons (pe_op op_add (pv 1) pe_int) pa_nil)) pa_nil)))))
        (pss_one (ps_if (pt_cmpR op_eq (pv 1) (pe_glob (v := .int 2) rfl mCo ⟨_, rfl⟩) (nomark _)) (pss_one ps_break) pss_nil)))))
      (pss_one (ps_ret (pv 2)))))), ?_⟩
    refine ⟨_, rfl, rfl, _, rfl, ?_⟩
    rw [c5]
    refine iteF ?_
    refine ⟨_, rfl, rfl, _, rfl, ?_⟩
    rw [c2]
    refine iteT ?_
    refine ⟨_, rfl, R.r, dx, _, rfl, ei, (no _ _ _ _).1, R, i, k, ps, x, rfl, h, hx, rfl, _, rfl, ?_⟩
    rw [ew, dec_strs, decide_eq_false hnot]
    refine iteF ?_
    refine ⟨_, rfl, R.r, dx, _, rfl, ei, (no _ _ _ _).2.2.1, _, rfl, _, _, rfl, rfl, R, i, k, ps, e0, t0, u0, us, rfl, h, ha0, g0, hu0, hw0, hk, fun H1 v1 k1 h1 d1 => ?_⟩
    have ha1 := At.app ha0
    obtain ⟨dx1, ei1⟩ := h1.ins
    refine ⟨fun m σ H' => σ = [some (.ref R.r), some (.int ((2 : Nat) : Int)), some v1, none] ∧ H' = H1, ⟨0, rfl, rfl⟩, ?_⟩
    rintro m σ H2 ⟨rfl, rfl⟩
    obtain ⟨x1, hx1, ex1, ha2⟩ := ha1.head
    obtain ⟨_, ew1⟩ := T3.of (a := u0.1) (b := u0.2) ex1
    refine ⟨_, rfl, R.r, dx1, _, rfl, ei1, (no _ _ _ _).1, R, _, k, ps, x1, rfl, h1, hx1, ?_⟩
    refine ⟨_, rfl, a, _, _, _, rfl, rfl, (hL H2).1, ebl, bl, _, rfl, .inr (hbl H2), rfl, flat_strs _, _, rfl, ?_⟩
    show if inV (.str x1.w) ((lvW 2).map V.str) = true then _ else _
    rw [in_strs, ew1]
    rcases alt with ⟨rfl, rfl, rfl, rfl⟩ | ⟨o, e1, t1, rfl, ho, rfl, rfl, rfl, g1, hw1⟩
    · rw [decide_eq_false (lvW_no hs (by decide))]
      refine iteF ?_
      exact ⟨_, rfl, q _ v1 k1 h1 d1⟩
    · rw [decide_eq_true (by have z := lvW_yes (o := o) (by omega); rw [ho] at z; exact z)]
      refine iteT ?_
      refine ⟨fun _ _ => False, fun _ _ z => z.elim, ?_⟩
      refine ⟨_, rfl, R.r, dx1, _, rfl, ei1, (no _ _ _ _).2.1, R, _, k, ps, x1, rfl, h1, hx1, fun H3 k3 h3 => ?_⟩
      rw [ew1]
      obtain ⟨dx3, ei3⟩ := h3.ins
      refine ⟨_, rfl, _, rfl, _, rfl, R.r, dx3, _, rfl, ei3, (no _ _ _ _).2.2.1, _, rfl, _, _, rfl, rfl, R, _, k, ps, e1, t1, u, rest, rfl, h3, ha2, g1, hs.up (by decide), hw1, hk, fun H4 v4 k4 h4 d4 => ?_⟩
      refine ⟨(by show 3 ≤ sizeLine; decide), fun p np => ?_⟩
      have s5 := same_new np (.tup [.str o.tk.2, v1, v4])
      refine ⟨_, rfl, rfl, _, rfl, ?_⟩
      rw [c2]
      refine iteT ?_
      refine ⟨_, rfl, ?_⟩
      have e9 : o.tk.2 = o.w := by cases o <;> rfl
      refine q _ _ (k1.trans ((k3.trans k4).trans (KeepR.same s5))) ?_ ?_
      · have el : i + (t0 ++ [o.tk] ++ t1).length = i + t0.length + 1 + t1.length := by
          simp only [List.length_append, List.length_cons, List.length_nil]
          omega
        rw [el]
        exact h4.same s5
      · rw [e9]
        exact Dp.new np (.cons (.str o.w) (.cons (Dp.kt ((k3.kt h1).trans (k4.kt h3)) (tupD_E _) d1) (.cons d4 .nil)))
end
end KD

/-! The reader's expressions, of any depth. -/
namespace KD
open PySem L2 TL
open K0 (num)
/-- where a method stands -/
def MF (K : PySem.W.Frag) (C : Addr) (x qual : Str) (st : Stmt) (ps : List Str) : Prop := ∃ f fd, MFun K C x qual st ps f fd
structure RFns (K : PySem.W.Frag) (C : Addr) : Prop where
  kind : MF K C "kind" "Reader.kind" S_Reader_kind ["self"]
  word : MF K C "word" "Reader.word" S_Reader_word ["self"]
  place : MF K C "place" "Reader.place" S_Reader_place ["self"]
  taken : MF K C "taken" "Reader.taken" S_Reader_taken ["self"]
  passes : MF K C "passes" "Reader.passes" S_Reader_passes ["self", "word"]
  must : MF K C "must_pass" "Reader.must_pass" S_Reader_must_pass ["self", "word"]
  name : MF K C "name" "Reader.name" S_Reader_name ["self"]
  goIn : MF K C "go_in" "Reader.go_in" S_Reader_go_in ["self"]
  out : MF K C "come_out" "Reader.come_out" S_Reader_come_out ["self"]
  expr : MF K C "expression" "Reader.expression" S_Reader_expression ["self"]
  joined : MF K C "joined" "Reader.joined" S_Reader_joined ["self", "level"]
  denied : MF K C "denied" "Reader.denied" S_Reader_denied ["self"]
  part : MF K C "part" "Reader.part" S_Reader_part ["self"]
  nest : MF K C "nest" "Reader.nest" S_Reader_nest ["self"]
section
variable (P : Program) (w : World) (K : PySem.W.Frag) (mg : Str → Option Value) (base : Heap) (C : Addr)
/-- the small methods -/
structure RLow : Prop where
  kind : Mth P w K mg base C 1 "kind" ["self"] (spKind K C)
  word : Mth P w K mg base C 1 "word" ["self"] (spWord K C)
  place : Mth P w K mg base C 1 "place" ["self"] (spPlace K C)
  taken : Mth P w K mg base C 2 "taken" ["self"] (spTook K C)
  passes : Mth P w K mg base C 2 "passes" ["self", "word"] (spPasses K C)
  must : Mth P w K mg base C 3 "must_pass" ["self", "word"] (spMust K C)
  name : Mth P w K mg base C 3 "name" ["self"] (spName K C)
  goIn : Mth P w K mg base C 1 "go_in" ["self"] (spIn K C)
  out : Mth P w K mg base C 1 "come_out" ["self"] (spOut K C)
variable {P w K mg base C}
theorem RFns.low (F : RFns K C) (T : RTxt K mg C) : RLow P w K mg base C := by
  obtain ⟨f1, fd1, F1⟩ := F.kind
  obtain ⟨f2, fd2, F2⟩ := F.word
  obtain ⟨f3, fd3, F3⟩ := F.place
  obtain ⟨f4, fd4, F4⟩ := F.taken
  obtain ⟨f5, fd5, F5⟩ := F.passes
  obtain ⟨f6, fd6, F6⟩ := F.must
  obtain ⟨f7, fd7, F7⟩ := F.name
  obtain ⟨f8, fd8, F8⟩ := F.goIn
  obtain ⟨f9, fd9, F9⟩ := F.out
  have m1 : Mth P w K mg base C 1 "kind" ["self"] (spKind K C) := F1.mth (ok_kind F1.F T)
  have m2 : Mth P w K mg base C 1 "word" ["self"] (spWord K C) := F2.mth (ok_word F2.F T)
  have m4 : Mth P w K mg base C 2 "taken" ["self"] (spTook K C) := F4.mth (ok_took F4.F T m2)
  have m5 : Mth P w K mg base C 2 "passes" ["self", "word"] (spPasses K C) := F5.mth (ok_passes F5.F T m2)
  exact ⟨m1, m2, F3.mth (ok_place F3.F T), m4, m5, F6.mth (ok_must F6.F T m5), F7.mth (ok_name F7.F T m1 m4), F8.mth (ok_in F8.F T), F9.mth (ok_out F9.F T)⟩
structure ROk (P : Program) (w : World) (K : PySem.W.Frag) (mg : Str → Option Value) (base : Heap) (C : Addr) (d : Nat) : Prop where
  part : Mth P w K mg base C (9 * d + 4) "part" ["self"] (spPart5 K C d)
  two : Mth P w K mg base C (9 * d + 8) "joined" ["self", "level"] (spJoined K C d 2)
  expr : Mth P w K mg base C (9 * d + 11) "expression" ["self"] (spExpr K C d)
theorem rok_step {d : Nat} (F : RFns K C) (B : Blt mg) (T : RTxt K mg C) (L : RLow P w K mg base C) (ih : ∀ d', d = d' + 1 → ROk P w K mg base C d') : ROk P w K mg base C d := by
  obtain ⟨fE, fdE, FE⟩ := F.expr
  obtain ⟨fJ, fdJ, FJ⟩ := F.joined
  obtain ⟨fD, fdD, FD⟩ := F.denied
  obtain ⟨fP, fdP, FP⟩ := F.part
  obtain ⟨fN, fdN, FN⟩ := F.nest
  have hN : ∀ d', d = d' + 1 → Mth P w K mg base C (9 * d + 3) "nest" ["self"] (spNest K C d') := fun d' e => by
    have q := ih d' e
    have z := FN.mth (ok_nest (n := 9 * d' + 11) FN.F T q.expr (q.part.mono (by omega)) L.taken L.must (by omega))
    exact z.mono (by omega)
  have hD : ∀ d', d = d' + 1 → Mth P w K mg base C (9 * d + 7) "denied" ["self"] (spDenied K C d') := fun d' e => by
    have q := ih d' e
    have z := FD.mth (ok_denied (n := 9 * d' + 8) FD.F T q.two L.goIn L.out L.taken (by omega))
    exact z.mono (by omega)
  have p5 : Mth P w K mg base C (9 * d + 4) "part" ["self"] (spPart5 K C d) := FP.mth (ok_part5 (n := 9 * d + 3) FP.F B T hN L.kind L.word L.goIn L.out L.taken (by omega))
  have j5 : FnOk P w K mg base CX0 (9 * d + 5) fJ fdJ ["self", "level"] (spJoined K C d 5) := ok_joined5 FJ.F T p5
  have j4 : FnOk P w K mg base CX0 (9 * d + 6) fJ fdJ ["self", "level"] (spJoined K C d 4) := ok_joinedL (n := 9 * d + 5) FJ.F FJ.M FJ.b T (by decide) (by decide) j5 L.word L.taken (by omega)
  have j3 : FnOk P w K mg base CX0 (9 * d + 7) fJ fdJ ["self", "level"] (spJoined K C d 3) := ok_joinedL (n := 9 * d + 6) FJ.F FJ.M FJ.b T (by decide) (by decide) j4 L.word L.taken (by omega)
  have j2 : FnOk P w K mg base CX0 (9 * d + 8) fJ fdJ ["self", "level"] (spJoined K C d 2) := ok_joined2 (n := 9 * d + 7) FJ.F FJ.M FJ.b T j3 hD L.word L.taken (by omega)
  have j1 : FnOk P w K mg base CX0 (9 * d + 9) fJ fdJ ["self", "level"] (spJoined K C d 1) := ok_joinedL (n := 9 * d + 8) FJ.F FJ.M FJ.b T (by decide) (by decide) j2 L.word L.taken (by omega)
  have j0 : FnOk P w K mg base CX0 (9 * d + 10) fJ fdJ ["self", "level"] (spJoined K C d 0) := ok_joinedL (n := 9 * d + 9) FJ.F FJ.M FJ.b T (by decide) (by decide) j1 L.word L.taken (by omega)
  exact ⟨p5, FJ.mth j2, FE.mth (ok_expr0 FE.F T (FJ.mth j0))⟩
theorem rok (F : RFns K C) (B : Blt mg) (T : RTxt K mg C) (L : RLow P w K mg base C) : ∀ d, ROk P w K mg base C d
  | 0 => rok_step F B T L fun d' e => by omega
  | d + 1 => rok_step F B T L fun d' e => by
      obtain rfl : d = d' := by omega
      exact rok F B T L d
end
end KD

/-! What the reader's statements are made of: names set, expressions passed; places. -/
namespace KD
open PySem L2 TL
open K0 (num)
/-! ### places of statements -/
def isSt (t : T3) : Bool := decide (t.w ∈ stW)
def hdP (R : Rd) (i n : Nat) : List Nat := (((R.ts.drop i).take n).filter isSt).map T3.pl
theorem hdP_add (R : Rd) (i n m : Nat) : hdP R i (n + m) = hdP R i n ++ hdP R (i + n) m := by
  unfold hdP
  rw [List.take_add, List.filter_append, List.map_append, List.drop_drop]
theorem hdP_len (R : Rd) (i n : Nat) : (hdP R i n).length ≤ n := by
  unfold hdP
  rw [List.length_map]
  exact Nat.le_trans (List.length_filter_le _ _) (by rw [List.length_take]; exact Nat.min_le_left _ _)
theorem hdP_zero (R : Rd) (i : Nat) : hdP R i 0 = [] := rfl
theorem At.take {R : Rd} {i : Nat} {t l : List Tk} (h : At R i (t ++ l)) : ((R.ts.drop i).take t.length).map T3.tk = t := by
  unfold At at h
  rw [List.map_take, h, List.take_left]
theorem hdP_none {R : Rd} {i : Nat} {t l : List Tk} (h : At R i (t ++ l)) (hn : ∀ w ∈ t, w.2 ∉ stW) : hdP R i t.length = [] := by
  unfold hdP
  rw [List.map_eq_nil_iff, List.filter_eq_nil_iff]
  intro x hx q
  have hm : x.tk ∈ ((R.ts.drop i).take t.length).map T3.tk := List.mem_map_of_mem hx
  rw [h.take] at hm
  exact hn _ hm (of_decide_eq_true q)
theorem hdP_one {R : Rd} {i : Nat} {x : T3} (h : R.ts[i]? = some x) : hdP R i 1 = if isSt x then [x.pl] else [] := by
  obtain ⟨hlt, e⟩ := List.getElem?_eq_some_iff.mp h
  unfold hdP
  rw [List.drop_eq_getElem_cons hlt, e]
  show ((List.filter isSt [x]).map T3.pl) = _
  by_cases c : isSt x = true
  · rw [if_pos c, List.filter_cons_of_pos c]
    rfl
  · rw [if_neg c, List.filter_cons_of_neg c]
    rfl
theorem nameW_st {x : Str} (h : nameW x = true) : x ∉ stW := by
  intro q
  simp only [stW, List.mem_cons, List.not_mem_nil, or_false] at q
  rcases q with rfl | rfl | rfl | rfl | rfl | rfl | rfl | rfl | rfl <;> (revert h; decide +kernel)
theorem num_st (n : Nat) : K0.num n ∉ stW := by
  have q := K0.numL_fig n
  intro c
  have aux : ∀ z : Str, (tl z).any (fun c => !K0.isFig c) = true → K0.num n ≠ z := fun z hz e => by
    rw [← e, K0.tl_num'] at hz
    rw [List.any_eq_true] at hz
    obtain ⟨c, hc, hc2⟩ := hz
    rw [List.all_eq_true] at q
    rw [q c hc] at hc2
    cases hc2
  simp only [stW, List.mem_cons, List.not_mem_nil, or_false] at c
  rcases c with c | c | c | c | c | c | c | c | c <;> exact aux _ (by decide +kernel) c
theorem tk_st (o : Bi) : o.tk.2 ∉ stW := by cases o <;> decide +kernel
theorem G.noSt {d l : Nat} {e : Ex} {t : List Tk} (h : G d l e t) : wfE e → ∀ w ∈ t, w.2 ∉ stW := by
  have mk : ∀ z : Str, decide (z ∈ stW) = false → z ∉ stW := fun z h => of_decide_eq_false h
  induction h with
  | num n => intro _ w hw; rw [List.mem_singleton.mp hw]; exact num_st n
  | name x => intro hx w hw; rw [List.mem_singleton.mp hw]; exact nameW_st hx
  | rows => intro _ w hw; rw [List.mem_singleton.mp hw]; exact mk _ (by decide +kernel)
  | cols => intro _ w hw; rw [List.mem_singleton.mp hw]; exact mk _ (by decide +kernel)
  | black _ _ i1 i2 =>
    intro hw w hm
    simp only [List.mem_append, List.mem_cons, List.not_mem_nil, or_false] at hm
    rcases hm with ((((q | q) | q) | q) | q) | q
    · rw [q]; exact mk _ (by decide +kernel)
    · rw [q]; exact mk _ (by decide +kernel)
    · exact i1 hw.1 w q
    · rw [q]; exact mk _ (by decide +kernel)
    · exact i2 hw.2 w q
    · rw [q]; exact mk _ (by decide +kernel)
  | neg _ i1 =>
    intro hw w hm
    rcases List.mem_cons.mp hm with q | q
    · rw [q]; exact mk _ (by decide +kernel)
    · exact i1 hw w q
  | par _ i1 =>
    intro hw w hm
    simp only [List.mem_append, List.mem_cons, List.not_mem_nil, or_false] at hm
    rcases hm with (q | q) | q
    · rw [q]; exact mk _ (by decide +kernel)
    · exact i1 hw w q
    · rw [q]; exact mk _ (by decide +kernel)
  | not _ i1 =>
    intro hw w hm
    rcases List.mem_cons.mp hm with q | q
    · rw [q]; exact mk _ (by decide +kernel)
    · exact i1 hw w q
  | cmp _ _ _ i1 i2 =>
    intro hw w hm
    simp only [List.mem_append, List.mem_cons, List.not_mem_nil, or_false] at hm
    rcases hm with (q | q) | q
    · exact i1 hw.1 w q
    · rw [q]; exact tk_st _
    · exact i2 hw.2 w q
  | left _ _ _ _ i1 i2 =>
    intro hw w hm
    simp only [List.mem_append, List.mem_cons, List.not_mem_nil, or_false] at hm
    rcases hm with (q | q) | q
    · exact i1 hw.1 w q
    · rw [q]; exact tk_st _
    · exact i2 hw.2 w q
  | up _ i1 => exact i1
/-- expressions behind commas -/
inductive Tail : List Ex → List Tk → Prop
  | nil : Tail [] []
  | cons {e : Ex} {es : List Ex} {t ts : List Tk} : GE e t → Tail es ts → Tail (e :: es) (kM "," :: (t ++ ts))
theorem GEs.tail : ∀ {es : List Ex} {t : List Tk}, GEs es t → (es = [] ∧ t = []) ∨ ∃ e es' t0 ts, es = e :: es' ∧ GE e t0 ∧ Tail es' ts ∧ t = t0 ++ ts
  | _, _, .nil => .inl ⟨rfl, rfl⟩
  | _, _, .one h => .inr ⟨_, _, _, [], rfl, h, .nil, by simp⟩
  | _, _, .more h r => by
    rcases GEs.tail r with ⟨q, _⟩ | ⟨e, es', t0, ts, q, h0, tl, rfl⟩
    · cases q
    · cases q
      refine .inr ⟨_, _, _, _, rfl, h, .cons h0 tl, by simp⟩
theorem Tail.first {es : List Ex} {ts : List Tk} (h : Tail es ts) (rest : List Tk) : ∃ u us, ts ++ kM ")" :: rest = u :: us ∧ Stop 0 u.2 := by
  cases h with
  | nil => exact ⟨_, _, rfl, stop_mark (by decide +kernel) 0⟩
  | cons _ _ => exact ⟨_, _, rfl, stop_mark (by decide +kernel) 0⟩
theorem Tail.noSt : ∀ {es : List Ex} {ts : List Tk}, Tail es ts → (∀ e ∈ es, wfE e) → ∀ w ∈ ts, w.2 ∉ stW
  | _, _, .nil, _, w, hw => by cases hw
  | _, _, .cons h r, hq, w, hw => by
    simp only [List.mem_cons, List.mem_append] at hw
    rcases hw with q | q | q
    · rw [q]; decide +kernel
    · exact h.noSt (hq _ List.mem_cons_self) w q
    · exact Tail.noSt r (fun e he => hq e (List.mem_cons_of_mem _ he)) w q
theorem GEs.noSt {es : List Ex} {t : List Tk} (h : GEs es t) (hq : ∀ e ∈ es, wfE e) : ∀ w ∈ t, w.2 ∉ stW := by
  rcases h.tail with ⟨_, rfl⟩ | ⟨e, es', t0, ts, rfl, h0, tl, rfl⟩
  · exact fun w hw => by cases hw
  · intro w hw
    rcases List.mem_append.mp hw with q | q
    · exact h0.noSt (hq _ List.mem_cons_self) w q
    · exact tl.noSt (fun e he => hq e (List.mem_cons_of_mem _ he)) w q
/-- the first word of an expression that is no closing bracket -/
theorem GE.open {e : Ex} {t : List Tk} (h : GE e t) (hw : wfE e) : ∃ w ws, t = w :: ws ∧ w.2 ≠ ")" := by
  obtain ⟨w, ws, e1, _, e2⟩ := h.first hw
  exact ⟨w, ws, e1, e2⟩
/-- a list of the def's own beside the reader -/
structure LstAt (K : PySem.W.Frag) (C : Addr) (R : Rd) (H0 H : Hp) (p : Addr) (vs : List V) (ds : List PyData) (j k : Nat) (ps : List Nat) : Prop where
  keep : KeepR R H0 H
  rd : RdAt K C R H j k ps
  lp : H p = some (.lst vs)
  dd : DpAll K H vs ds
  td : tupDs ds = true
  n1 : p ≠ R.r
  n2 : p ≠ R.tA
  n3 : p ≠ R.pA
  free : H0 p = none
section
variable {K : PySem.W.Frag} {C : Addr} {R : Rd} {H0 H H' : Hp} {p : Addr} {vs : List V} {ds : List PyData} {j k j' k' : Nat} {ps ps' : List Nat}
theorem LstAt.new (h : RdAt K C R H j k ps) (np : H p = none) : LstAt K C R H (upd H p (.lst [])) p [] [] j k ps := by
  have s := same_new np (.lst [])
  obtain ⟨dx, e⟩ := h.ins
  exact ⟨KeepR.same s, h.same s, upd_same, .nil, rfl, (ne_of_none e np).symm, (ne_of_none h.told np).symm, (ne_of_none h.plc np).symm, np⟩
theorem LstAt.call (a : LstAt K C R H0 H p vs ds j k ps) (kp : KeepR R H H') (h : RdAt K C R H' j' k' ps') : LstAt K C R H0 H' p vs ds j' k' ps' :=
  ⟨a.keep.trans kp, h, kp _ _ a.n1 a.n3 a.lp, DpAll.kt (kp.kt a.rd) a.td a.dd, a.td, a.n1, a.n2, a.n3, a.free⟩
theorem tupDs_snoc {ds : List PyData} {d : PyData} (h : tupDs ds = true) (hd : tupD d = true) : tupDs (ds ++ [d]) = true := by
  rw [tupDs_append, h]
  show (true && (tupD d && true)) = true
  rw [hd]
  rfl
theorem LstAt.push (a : LstAt K C R H0 H p vs ds j k ps) {v : V} {d : PyData} (hv : Dp K H v d) (hd : tupD d = true) : LstAt K C R H0 (upd H p (.lst (vs ++ [v]))) p (vs ++ [v]) (ds ++ [d]) j k ps := by
  have kt : KT K H (upd H p (.lst (vs ++ [v]))) := KT.upd a.lp _
  obtain ⟨dx, e⟩ := a.rd.ins
  refine ⟨fun b u m1 m2 q => ?_, ⟨⟨dx, by rw [upd_ne a.n1.symm]; exact e⟩, by rw [upd_ne a.n2.symm]; exact a.rd.told, DpAll.kt kt (tupDs_T3 _) a.rd.dd, by rw [upd_ne a.n3.symm]; exact a.rd.plc, a.rd.ne, a.rd.small⟩, upd_same,
    DpAll.snoc (Dp.kt kt hd hv) (DpAll.kt kt a.td a.dd), tupDs_snoc a.td hd, a.n1, a.n2, a.n3, a.free⟩
  rw [upd_ne (ne_of_none q a.free)]
  exact a.keep b u m1 m2 q
end
section
variable (K : PySem.W.Frag) (C : Addr)
def spSetName : Sp := fun vs H Q _ => ∃ (R : Rd) (i k : Nat) (ps : List Nat) (x : Str) (e : Ex) (t : List Tk) (u : Tk) (rest : List Tk), vs = [.ref R.r] ∧ RdAt K C R H i k ps ∧ At R i (kN x :: kM "=" :: (t ++ u :: rest)) ∧ GE e t ∧ Stop 0 u.2 ∧ wfE e ∧ k + 10 ≤ 40 ∧
  ∀ H' a v, KeepR R H H' → RdAt K C R H' (i + 2 + t.length) k ps → SqT K H' a [.str x, v] → Dp K H' v e.d → Q (.ref a) H'
def spLast : Sp := fun vs H Q _ => ∃ (R : Rd) (i k : Nat) (ps : List Nat) (e : Ex) (t : List Tk) (u : Tk) (rest : List Tk), vs = [.ref R.r] ∧ RdAt K C R H i k ps ∧ At R i (kK "to" :: (t ++ u :: rest)) ∧ GE e t ∧ Stop 0 u.2 ∧ wfE e ∧ k + 10 ≤ 40 ∧
  ∀ H' v, KeepR R H H' → RdAt K C R H' (i + 1 + t.length) k ps → Dp K H' v e.d → Q v H'
def spPassed : Sp := fun vs H Q _ => ∃ (R : Rd) (i k : Nat) (ps : List Nat) (es : List Ex) (t : List Tk) (rest : List Tk), vs = [.ref R.r] ∧ RdAt K C R H i k ps ∧ At R i (kM "(" :: (t ++ kM ")" :: rest)) ∧ GEs es t ∧ (∀ e ∈ es, wfE e) ∧ es.length ≤ 100 ∧ k + 10 ≤ 40 ∧
  ∀ H' v, KeepR R H H' → RdAt K C R H' (i + 1 + t.length + 1) k ps → Dp K H' v (.tuple (es.map Ex.d)) → Q v H'
end
section
variable {P : Program} {w : World} {K : PySem.W.Frag} {mg : Str → Option Value} {base : Heap} {C : Addr}
theorem scSetName : FnScope ["self", "name"] ["self"] (defScope S_Reader_set_name) := ⟨rfl, rfl, rfl, by decide +kernel, rfl, by decide +kernel, by decide +kernel⟩
theorem ok_setName {n : Nat} {f : Addr} {fd : FuncData} (F : Fun K "set_name" "Reader.set_name" S_Reader_set_name f fd) (T : RTxt K mg C) (L : RLow P w K mg base C) (hE : Mth P w K mg base C n "expression" ["self"] (spExpr K C 10)) (hn : 3 ≤ n) : FnOk P w K mg base CX0 (n + 1) f fd ["self"] (spSetName K C) := by
  refine F.ok scSetName (fun vs H Q E h => ?_) (fun cdv A outer s0 H vs Q E hr h => ?_)
  · obtain ⟨R, i, k, ps, x, e, t, u, rest, rfl, _⟩ := h
    rfl
  obtain ⟨R, i, k, ps, x, e, t, u, rest, rfl, h, ha, hg, hs, hw, hk, q⟩ := h
  obtain ⟨fE, fdE, GE', mE, bE⟩ := hE.ex
  obtain ⟨fN, fdN, GN, mN, bN⟩ := L.name.ex
  obtain ⟨fM, fdM, GM, mM, bM⟩ := L.must.ex
  have hr3 : Room 3 _ := hr.mono hn
  obtain ⟨dx, ei⟩ := h.ins
  refine ⟨_, pss_cons (ps_set (i := 1) scSetName.nd rfl (Or.inl rfl) (pe_meth0 (pv 0) T.cl mN GN hr3 bN .nil pass0))
    (pss_cons (ps_expr (pe_meth (pv 0) T.cl mM GM hr3 bM .nil pass0 (pa_cons pe_str pa_nil)))
    (pss_one (ps_ret (pe_tup (pa_cons (pv 1) (pa_cons (pe_meth0 (pv 0) T.cl mE GE' hr bE .nil pass0) pa_nil)))))), ?_⟩
  obtain ⟨x0, hx0, ex0, ha1⟩ := ha.head
  obtain ⟨ek0, ew0⟩ := T3.of ex0
  obtain ⟨x1, hx1, ex1, ha2⟩ := ha1.head
  obtain ⟨_, ew1⟩ := T3.of ex1
  refine ⟨_, rfl, R.r, dx, _, rfl, ei, rf_no _ _ _ _ (by decide +kernel), R, i, k, ps, x0, rfl, h, hx0, ek0, fun H1 k1 h1 => ?_⟩
  obtain ⟨dx1, ei1⟩ := h1.ins
  refine ⟨_, rfl, R.r, dx1, _, rfl, ei1, rf_no _ _ _ _ (by decide +kernel), R, _, k, ps, x1, _, rfl, h1, hx1, ew1, fun H2 k2 h2 => ?_⟩
  obtain ⟨dx2, ei2⟩ := h2.ins
  refine ⟨_, rfl, _, rfl, R.r, dx2, _, rfl, ei2, rf_no _ _ _ _ (by decide +kernel), R, _, k, ps, e, t, u, rest, rfl, h2, ha2, hg, hs, hw, hk, fun H3 v k3 h3 d3 => ?_⟩
  refine ⟨(by show 2 ≤ sizeLine; decide), fun p np => ?_⟩
  rw [ew0]
  have s4 := same_new np (.tup [.str x, v])
  exact q _ p v ((k1.trans (k2.trans k3)).trans (KeepR.same s4)) (h3.same s4) (SqT.of upd_same) (Dp.same s4 d3)
theorem scLast : FnScope ["self"] ["self"] (defScope S_Reader_last_value) := ⟨rfl, rfl, rfl, by decide +kernel, rfl, by decide +kernel, by decide +kernel⟩
theorem ok_last {n : Nat} {f : Addr} {fd : FuncData} (F : Fun K "last_value" "Reader.last_value" S_Reader_last_value f fd) (T : RTxt K mg C) (L : RLow P w K mg base C) (hE : Mth P w K mg base C n "expression" ["self"] (spExpr K C 10)) (hn : 3 ≤ n) : FnOk P w K mg base CX0 (n + 1) f fd ["self"] (spLast K C) := by
  refine F.ok scLast (fun vs H Q E h => ?_) (fun cdv A outer s0 H vs Q E hr h => ?_)
  · obtain ⟨R, i, k, ps, e, t, u, rest, rfl, _⟩ := h
    rfl
  obtain ⟨R, i, k, ps, e, t, u, rest, rfl, h, ha, hg, hs, hw, hk, q⟩ := h
  obtain ⟨fE, fdE, GE', mE, bE⟩ := hE.ex
  obtain ⟨fM, fdM, GM, mM, bM⟩ := L.must.ex
  have hr3 : Room 3 _ := hr.mono hn
  obtain ⟨dx, ei⟩ := h.ins
  refine ⟨_, pss_cons (ps_expr (pe_meth (pv 0) T.cl mM GM hr3 bM .nil pass0 (pa_cons pe_str pa_nil)))
    (pss_one (ps_ret (pe_meth0 (pv 0) T.cl mE GE' hr bE .nil pass0))), ?_⟩
  obtain ⟨x1, hx1, ex1, ha2⟩ := ha.head
  obtain ⟨_, ew1⟩ := T3.of ex1
  refine ⟨_, rfl, R.r, dx, _, rfl, ei, rf_no _ _ _ _ (by decide +kernel), R, _, k, ps, x1, _, rfl, h, hx1, ew1, fun H2 k2 h2 => ?_⟩
  obtain ⟨dx2, ei2⟩ := h2.ins
  exact ⟨_, rfl, R.r, dx2, _, rfl, ei2, rf_no _ _ _ _ (by decide +kernel), R, _, k, ps, e, t, u, rest, rfl, h2, ha2, hg, hs, hw, hk, fun H3 v k3 h3 d3 => q H3 v (k2.trans k3) h3 d3⟩
theorem scPassed : FnScope ["self", "found"] ["self"] (defScope S_Reader_passed) := ⟨rfl, rfl, rfl, by decide +kernel, rfl, by decide +kernel, by decide +kernel⟩
theorem ok_passed {n : Nat} {f : Addr} {fd : FuncData} (F : Fun K "passed" "Reader.passed" S_Reader_passed f fd) (B : Blt mg) (T : RTxt K mg C) (L : RLow P w K mg base C) (hE : Mth P w K mg base C n "expression" ["self"] (spExpr K C 10)) (hn : 3 ≤ n) : FnOk P w K mg base CX0 (n + 1) f fd ["self"] (spPassed K C) := by
  refine F.ok scPassed (fun vs H Q E h => ?_) (fun cdv A outer s0 H vs Q E hr h => ?_)
  · obtain ⟨R, i, k, ps, es, t, rest, rfl, _⟩ := h
    rfl
  obtain ⟨R, i, k, ps, es, t, rest, rfl, h, ha, hg, hw, hl, hk, q⟩ := h
  obtain ⟨fE, fdE, GE', mE, bE⟩ := hE.ex
  obtain ⟨fM, fdM, GM, mM, bM⟩ := L.must.ex
  obtain ⟨fP, fdP, GP, mP, bP⟩ := L.passes.ex
  obtain ⟨fW, fdW, GW, mW, bW⟩ := L.word.ex
  have hr1 : Room 1 _ := hr.mono (by omega)
  have hr2 : Room 2 _ := hr.mono (by omega)
  have hr3 : Room 3 _ := hr.mono hn
  obtain ⟨dx, ei⟩ := h.ins
  have no : ∀ (A B : Addr) (i k : Nat), (rf A B i k).lookup ("must_pass" : Str) = none ∧ (rf A B i k).lookup ("word" : Str) = none ∧ (rf A B i k).lookup ("passes" : Str) = none ∧ (rf A B i k).lookup ("expression" : Str) = none := fun A B i k =>
    ⟨rf_no _ _ _ _ (by decide +kernel), rf_no _ _ _ _ (by decide +kernel), rf_no _ _ _ _ (by decide +kernel), rf_no _ _ _ _ (by decide +kernel)⟩
  refine ⟨_, pss_cons (ps_expr (pe_meth (pv 0) T.cl mM GM hr3 bM .nil pass0 (pa_cons pe_str pa_nil)))
    (pss_cons (ps_set (i := 1) scPassed.nd rfl (Or.inl rfl) (pe_lst pa_nil))
    (C8.pss_cut (ps_if (pt_cmpR op_ne (pe_meth0 (pv 0) T.cl mW GW hr1 bW .nil pass0) pe_str (nomark _))
      (pss_cons (ps_expr (pe_bm PySem.F.plainAttrs_list PySem.F.slot_list_append PySem.F.type_list_append mt_append (pv 1) (pa_cons (pe_meth0 (pv 0) T.cl mE GE' hr bE .nil pass0) pa_nil)))
      (pss_one (ps_while PassesOwn.never (pt_val (pe_meth (pv 0) T.cl mP GP hr2 bP .nil pass0 (pa_cons pe_str pa_nil)))
        (pss_one (ps_expr (pe_bm PySem.F.plainAttrs_list PySem.F.slot_list_append PySem.F.type_list_append mt_append (pv 1) (pa_cons (pe_meth0 (pv 0) T.cl mE GE' hr bE .nil pass0) pa_nil))))))) pss_nil)
    (pss_cons (ps_expr (pe_meth (pv 0) T.cl mM GM hr3 bM .nil pass0 (pa_cons pe_str pa_nil)))
    (pss_one (ps_ret (pe_callTy call_tuple_of (by rfl) B.tup (by decide +kernel) (pa_cons (pv 1) pa_nil))))))), ?_⟩
  obtain ⟨x1, hx1, ex1, ha2⟩ := ha.head
  obtain ⟨_, ew1⟩ := T3.of ex1
  refine ⟨_, rfl, R.r, dx, _, rfl, ei, (no _ _ _ _).1, R, _, k, ps, x1, _, rfl, h, hx1, ew1, fun H2 k2 h2 => ?_⟩
  refine ⟨Nat.zero_le _, fun p np => ?_⟩
  have a3 := LstAt.new h2 np
  generalize upd H2 p (.lst []) = H3 at a3
  refine ⟨fun σ H' => ∃ vs5 : List V, σ = [some (.ref R.r), some (.ref p)] ∧ LstAt K C R H2 H' p vs5 (es.map Ex.d) (i + 1 + t.length) k ps, ?_, ?_⟩
  · obtain ⟨dx3, ei3⟩ := a3.rd.ins
    rcases hg.tail with ⟨rfl, rfl⟩ | ⟨e, es', t0, ts, rfl, g0, tl, rfl⟩
    · obtain ⟨x4, hx4, ex4, _⟩ := At.head (l := rest) ha2
      obtain ⟨_, ew4⟩ := T3.of ex4
      refine ⟨_, rfl, R.r, dx3, _, rfl, ei3, (no _ _ _ _).2.1, R, _, k, ps, x4, rfl, a3.rd, hx4, rfl, _, rfl, ?_⟩
      rw [ew4, show decide (V.str ")" = V.str ")") = true by decide +kernel]
      refine iteF ?_
      exact ⟨[], rfl, a3⟩
    · obtain ⟨w0, ws0, et0, hnb⟩ := g0.open (hw e List.mem_cons_self)
      rw [List.append_assoc] at ha2
      obtain ⟨x4, hx4, ex4, _⟩ := At.head (w := w0) (l := ws0 ++ (ts ++ kM ")" :: rest)) (by rw [et0] at ha2; exact ha2)
      obtain ⟨_, ew4⟩ := T3.of (a := w0.1) (b := w0.2) ex4
      refine ⟨_, rfl, R.r, dx3, _, rfl, ei3, (no _ _ _ _).2.1, R, _, k, ps, x4, rfl, a3.rd, hx4, rfl, _, rfl, ?_⟩
      rw [ew4, dec_strs, decide_eq_false hnb]
      refine iteT ?_
      obtain ⟨u1, us1, eu1, hu1⟩ := tl.first rest
      refine ⟨_, rfl, .inl ⟨rfl, _, SqL.of a3.lp⟩, _, rfl, R.r, dx3, _, rfl, ei3, (no _ _ _ _).2.2.2, R, _, k, ps, e, t0, u1, us1, rfl, a3.rd, by rw [← eu1]; exact ha2, g0.mono (Nat.le_refl _), hu1, hw e List.mem_cons_self, hk, fun H4 v4 k4 h4 d4 => ?_⟩
      have a4 := a3.call k4 h4
      refine ⟨p, _, _, rfl, rfl, a4.lp, (by show 0 < sizeLine; decide), ?_⟩
      have a5 := a4.push d4 (tupD_E e)
      have ha5 := At.app ha2
      refine ⟨fun m σ H' => ∃ (j : Nat) (done es2 : List Ex) (ts2 : List Tk) (vs2 : List V), m = es2.length ∧ σ = [some (.ref R.r), some (.ref p)] ∧ LstAt K C R H2 H' p vs2 (done.map Ex.d) j k ps ∧ done ++ es2 = e :: es' ∧ Tail es2 ts2 ∧ At R j (ts2 ++ kM ")" :: rest) ∧ j + ts2.length = i + 1 + (t0 ++ ts).length,
        ⟨_, _, [e], es', ts, _, rfl, rfl, a5, rfl, tl, ha5, by rw [List.length_append]; omega⟩, ?_⟩
      rintro m σ H6 ⟨j, done, es2, ts2, vs2, rfl, rfl, a6, hdn, tl2, ha6, el⟩
      obtain ⟨dx6, ei6⟩ := a6.rd.ins
      cases tl2 with
      | nil =>
        obtain ⟨x7, hx7, ex7, _⟩ := At.head (l := rest) ha6
        obtain ⟨_, ew7⟩ := T3.of ex7
        refine ⟨_, rfl, R.r, dx6, _, rfl, ei6, (no _ _ _ _).2.2.1, R, j, k, ps, x7, _, rfl, a6.rd, hx7, fun c => ?_, fun _ => ⟨false, rfl, iteF ?_⟩⟩
        · rw [ew7] at c
          exact absurd c (by decide +kernel)
        · rw [List.append_nil] at hdn
          subst hdn
          have ej : j = i + 1 + (t0 ++ ts).length := by simpa using el
          rw [← ej]
          exact ⟨vs2, rfl, a6⟩
      | @cons e2 es3 t3 ts3 g3 tl3 =>
        obtain ⟨x7, hx7, ex7, ha7⟩ := At.head (l := t3 ++ ts3 ++ kM ")" :: rest) ha6
        obtain ⟨_, ew7⟩ := T3.of ex7
        rw [List.append_assoc] at ha7
        refine ⟨_, rfl, R.r, dx6, _, rfl, ei6, (no _ _ _ _).2.2.1, R, j, k, ps, x7, _, rfl, a6.rd, hx7, fun _ H7 k7 h7 => ?_, fun c => absurd ew7 c⟩
        refine ⟨true, rfl, iteT ?_⟩
        have a7 := a6.call k7 h7
        obtain ⟨dx7, ei7⟩ := h7.ins
        obtain ⟨u8, us8, eu8, hu8⟩ := tl3.first rest
        have he2 : e2 ∈ e :: es' := by rw [← hdn]; exact List.mem_append_right _ List.mem_cons_self
        refine ⟨_, fun σ' H' hN => hN, ?_⟩
        refine ⟨_, rfl, .inl ⟨rfl, _, SqL.of a7.lp⟩, _, rfl, R.r, dx7, _, rfl, ei7, (no _ _ _ _).2.2.2, R, _, k, ps, e2, t3, u8, us8, rfl, h7, by rw [← eu8]; exact ha7, g3.mono (Nat.le_refl _), hu8, hw e2 he2, hk, fun H8 v8 k8 h8 d8 => ?_⟩
        have a8 := a7.call k8 h8
        have hln : vs2.length ≤ 100 := by
          rw [DpAll.length a6.dd, List.length_map]
          have z : (done ++ e2 :: es3).length = (e :: es').length := by rw [hdn]
          rw [List.length_append, List.length_cons] at z
          omega
        refine ⟨p, _, _, rfl, rfl, a8.lp, Nat.lt_of_le_of_lt hln (by decide), ?_⟩
        refine ⟨es3.length, by show es3.length < (e2 :: es3).length; rw [List.length_cons]; omega, _, done ++ [e2], es3, ts3, _, rfl, rfl, by rw [List.map_append]; exact a8.push d8 (tupD_E e2), by rw [List.append_assoc]; exact hdn, tl3, At.app ha7, ?_⟩
        rw [List.length_cons, List.length_append] at el
        omega
  · rintro σ H5 ⟨vs5, rfl, a5⟩
    have ha5 := At.app ha2
    obtain ⟨x6, hx6, ex6, _⟩ := ha5.head
    obtain ⟨_, ew6⟩ := T3.of ex6
    obtain ⟨dx5, ei5⟩ := a5.rd.ins
    refine ⟨_, rfl, R.r, dx5, _, rfl, ei5, (no _ _ _ _).1, R, _, k, ps, x6, _, rfl, a5.rd, hx6, ew6, fun H6 k6 h6 => ?_⟩
    have a6 := a5.call k6 h6
    refine ⟨_, rfl, p, _, rfl, .inl ⟨SqL.of a6.lp, fun l nl => ?_⟩⟩
    exact q _ _ (k2.trans (a6.keep.trans (KeepR.new nl _))) (h6.same (same_new nl _)) (Dp.new nl a6.dd)
end
end KD

/-! The reader's statements and blocks. -/
namespace KD
open PySem L2 TL
open K0 (num)
/-- a word behind a statement -/
def Fo (u : Tk) : Prop := mkLv u.2 = 9 ∧ u.2 ≠ "else"
theorem Fo.stop {u : Tk} (h : Fo u) (l : Nat) : Stop l u.2 := .inr h.1
theorem Fo.st {u : Tk} (h : u.2 ∈ stW) : Fo u := by
  have all : ∀ z ∈ stW, mkLv z = 9 ∧ z ≠ "else" := by decide +kernel
  exact all _ h
theorem GS.first {d : Nat} {s : St} {t : List Tk} (h : GS d s t) : ∃ z ts, t = kK z :: ts ∧ z ∈ stW := by
  cases h with
  | row _ => exact ⟨_, _, rfl, by decide +kernel⟩
  | col _ => exact ⟨_, _, rfl, by decide +kernel⟩
  | say _ => exact ⟨_, _, rfl, by decide +kernel⟩
  | set _ => exact ⟨_, _, rfl, by decide +kernel⟩
  | ite0 _ _ => exact ⟨_, _, rfl, by decide +kernel⟩
  | ite _ _ _ => exact ⟨_, _, rfl, by decide +kernel⟩
  | whl _ _ => exact ⟨_, _, rfl, by decide +kernel⟩
  | for_ _ _ _ => exact ⟨_, _, rfl, by decide +kernel⟩
  | call _ => exact ⟨_, _, rfl, by decide +kernel⟩
  | stop => exact ⟨_, _, rfl, by decide +kernel⟩
theorem GB.len : ∀ {d : Nat} {b : List St} {t : List Tk}, GB d b t → b.length ≤ t.length
  | _, _, _, .nil => Nat.le_refl _
  | _, _, _, .cons h r => by
    obtain ⟨z, ts, rfl, _⟩ := h.first
    have q := GB.len r
    simp only [List.length_append, List.length_cons]
    omega
theorem At.len {R : Rd} {i : Nat} {t l : List Tk} (h : At R i (t ++ l)) : t.length ≤ R.ts.length := by
  have q : ((R.ts.drop i).map T3.tk).length = (t ++ l).length := by rw [h]
  rw [List.length_map, List.length_drop, List.length_append] at q
  omega
/-- the word behind a statement of a row -/
theorem GB.fo {d : Nat} {b : List St} {t : List Tk} (h : GB d b t) {u : Tk} (hu : Fo u) (rest : List Tk) : ∃ v vs, t ++ u :: rest = v :: vs ∧ Fo v := by
  cases h with
  | nil => exact ⟨u, rest, rfl, hu⟩
  | cons hs _ =>
    obtain ⟨z, ts, rfl, hz⟩ := hs.first
    exact ⟨_, _, rfl, Fo.st hz⟩
section
variable (K : PySem.W.Frag) (C : Addr)
def spSts (d : Nat) : Sp := fun vs H Q _ => ∃ (R : Rd) (i k : Nat) (ps : List Nat) (b : List St) (t : List Tk) (u : Tk) (rest : List Tk), vs = [.ref R.r] ∧ RdAt K C R H i k ps ∧ At R i (t ++ u :: rest) ∧ GB d b t ∧ Fo u ∧ u.2 ∉ stW ∧ wfB b ∧ k + d + 10 ≤ 40 ∧ ps.length ≤ i ∧
  ∀ H' v, KeepR R H H' → RdAt K C R H' (i + t.length) k (ps ++ hdP R i t.length) → Dp K H' v (.tuple (dB b)) → Q v H'
def spSt (d : Nat) : Sp := fun vs H Q _ => ∃ (R : Rd) (i k : Nat) (ps : List Nat) (s : St) (t : List Tk) (u : Tk) (rest : List Tk), vs = [.ref R.r] ∧ RdAt K C R H i k ps ∧ At R i (t ++ u :: rest) ∧ GS d s t ∧ Fo u ∧ wfS s ∧ k + d + 10 ≤ 40 ∧ ps.length ≤ i ∧
  ∀ H' v, KeepR R H H' → RdAt K C R H' (i + t.length) k (ps ++ hdP R i t.length) → Dp K H' v s.d → Q v H'
/-- a block whose statements' own blocks nest less than d deep -/
def spBlk (d : Nat) : Sp := fun vs H Q _ => ∃ (R : Rd) (i k : Nat) (ps : List Nat) (d' : Nat) (b : List St) (t : List Tk) (rest : List Tk), vs = [.ref R.r] ∧ d = d' + 1 ∧ RdAt K C R H i k ps ∧ At R i (kM "{" :: (t ++ kM "}" :: rest)) ∧ GB d' b t ∧ wfB b ∧ k + d + 10 ≤ 40 ∧ ps.length ≤ i ∧
  ∀ H' v, KeepR R H H' → RdAt K C R H' (i + (1 + t.length + 1)) k (ps ++ hdP R i (1 + t.length + 1)) → Dp K H' v (.tuple (dB b)) → Q v H'
def spOther (d : Nat) : Sp := fun vs H Q _ => ∃ (R : Rd) (i k : Nat) (ps : List Nat) (b : List St) (t : List Tk) (u : Tk) (rest : List Tk), vs = [.ref R.r] ∧ RdAt K C R H i k ps ∧ At R i (t ++ u :: rest) ∧ Fo u ∧ wfB b ∧ k + d + 10 ≤ 40 ∧ ps.length ≤ i ∧
  ((b = [] ∧ t = []) ∨ ∃ d' tb, d = d' + 1 ∧ GB d' b tb ∧ t = kK "else" :: kM "{" :: (tb ++ [kM "}"])) ∧
  ∀ H' v, KeepR R H H' → RdAt K C R H' (i + t.length) k (ps ++ hdP R i t.length) → Dp K H' v (.tuple (dB b)) → Q v H'
end
section
variable {P : Program} {w : World} {K : PySem.W.Frag} {mg : Str → Option Value} {base : Heap} {C : Addr}
theorem hdP_skip {R : Rd} {i : Nat} {x : T3} {z : Str} (hx : R.ts[i]? = some x) (ew : x.w = z) (hz : decide (z ∈ stW) = false) : hdP R i 1 = [] := by
  rw [hdP_one hx]
  unfold isSt
  rw [ew, hz]
  rfl
theorem hdP_head {R : Rd} {i : Nat} {x : T3} (hx : R.ts[i]? = some x) (ew : x.w ∈ stW) : hdP R i 1 = [x.pl] := by
  rw [hdP_one hx]
  unfold isSt
  rw [decide_eq_true ew]
  rfl
theorem scBlk : FnScope ["self", "statements"] ["self"] (defScope S_Reader_block) := ⟨rfl, rfl, rfl, by decide +kernel, rfl, by decide +kernel, by decide +kernel⟩
theorem ok_blk0 {n : Nat} {f : Addr} {fd : FuncData} : FnOk P w K mg base CX0 n f fd ["self"] (spBlk K C 0) := by
  have no : ∀ vs H Q E, ¬ spBlk K C 0 vs H Q E := fun vs H Q E h => by
    obtain ⟨R, i, k, ps, d', b, t, rest, _, hd, _⟩ := h
    omega
  exact ⟨fun vs H Q E h => absurd h (no vs H Q E), fun A outer s H args us vs Q E _ _ _ _ h => absurd h (no vs H Q E)⟩
theorem ok_blk {n d : Nat} {f : Addr} {fd : FuncData} (F : Fun K "block" "Reader.block" S_Reader_block f fd) (T : RTxt K mg C) (L : RLow P w K mg base C) (hS : Mth P w K mg base C n "statements" ["self"] (spSts K C d)) (hn : 3 ≤ n) : FnOk P w K mg base CX0 (n + 1) f fd ["self"] (spBlk K C (d + 1)) := by
  refine F.ok scBlk (fun vs H Q E h => ?_) (fun cdv A outer s0 H vs Q E hr h => ?_)
  · obtain ⟨R, i, k, ps, d', b, t, rest, rfl, _⟩ := h
    rfl
  obtain ⟨R, i, k, ps, d', b, t, rest, rfl, hd, h, ha, hg, hw, hk, hp, q⟩ := h
  obtain rfl : d = d' := by omega
  obtain ⟨fS, fdS, GS', mS, bS⟩ := hS.ex
  obtain ⟨fI, fdI, GI, mI, bI⟩ := L.goIn.ex
  obtain ⟨fO, fdO, GO, mO, bO⟩ := L.out.ex
  obtain ⟨fM, fdM, GM, mM, bM⟩ := L.must.ex
  have hr1 : Room 1 _ := hr.mono (by omega)
  have hr3 : Room 3 _ := hr.mono hn
  obtain ⟨dx, ei⟩ := h.ins
  refine ⟨_, pss_cons (ps_expr (pe_meth0 (pv 0) T.cl mI GI hr1 bI .nil pass0))
    (pss_cons (ps_expr (pe_meth (pv 0) T.cl mM GM hr3 bM .nil pass0 (pa_cons pe_str pa_nil)))
    (pss_cons (ps_set (i := 1) scBlk.nd rfl (Or.inl rfl) (pe_meth0 (pv 0) T.cl mS GS' hr bS .nil pass0))
    (pss_cons (ps_expr (pe_meth (pv 0) T.cl mM GM hr3 bM .nil pass0 (pa_cons pe_str pa_nil)))
    (pss_cons (ps_expr (pe_meth0 (pv 0) T.cl mO GO hr1 bO .nil pass0))
    (pss_one (ps_ret (pv 1))))))), ?_⟩
  obtain ⟨x0, hx0, ex0, ha1⟩ := ha.head
  obtain ⟨_, ew0⟩ := T3.of ex0
  refine ⟨_, rfl, R.r, dx, _, rfl, ei, rf_no _ _ _ _ (by decide +kernel), R, i, k, ps, rfl, h, by omega, fun H1 k1 h1 => ?_⟩
  obtain ⟨dx1, ei1⟩ := h1.ins
  refine ⟨_, rfl, R.r, dx1, _, rfl, ei1, rf_no _ _ _ _ (by decide +kernel), R, _, k + 1, ps, x0, _, rfl, h1, hx0, ew0, fun H2 k2 h2 => ?_⟩
  obtain ⟨dx2, ei2⟩ := h2.ins
  refine ⟨_, rfl, R.r, dx2, _, rfl, ei2, rf_no _ _ _ _ (by decide +kernel), R, _, k + 1, ps, b, t, _, rest, rfl, h2, ha1, hg, ⟨by decide +kernel, by decide +kernel⟩, by decide +kernel, hw, by omega, by omega, fun H3 v k3 h3 d3 => ?_⟩
  obtain ⟨dx3, ei3⟩ := h3.ins
  obtain ⟨x4, hx4, ex4, _⟩ := (At.app ha1).head
  obtain ⟨_, ew4⟩ := T3.of ex4
  refine ⟨_, rfl, R.r, dx3, _, rfl, ei3, rf_no _ _ _ _ (by decide +kernel), R, _, k + 1, _, x4, _, rfl, h3, hx4, ew4, fun H4 k4 h4 => ?_⟩
  obtain ⟨dx4, ei4⟩ := h4.ins
  refine ⟨_, rfl, R.r, dx4, _, rfl, ei4, rf_no _ _ _ _ (by decide +kernel), R, _, k, _, rfl, h4, fun H5 k5 h5 => ?_⟩
  refine ⟨_, rfl, ?_⟩
  refine q H5 v (((k1.trans k2).trans k3).trans (k4.trans k5)) ?_ (Dp.kt ((k4.kt h3).trans (k5.kt h4)) (by show tupDs (dB b) = true; exact tupD_B b) d3)
  have e1 : hdP R i (1 + t.length + 1) = hdP R (i + 1) t.length := by
    rw [hdP_add, hdP_add, hdP_skip hx0 ew0 (by decide +kernel)]
    rw [show i + (1 + t.length) = i + 1 + t.length by omega, hdP_skip hx4 ew4 (by decide +kernel), List.append_nil]
    rfl
  rw [e1, show i + (1 + t.length + 1) = i + 1 + t.length + 1 by omega]
  exact h5
theorem scOther : FnScope ["self"] ["self"] (defScope S_Reader_other_block) := ⟨rfl, rfl, rfl, by decide +kernel, rfl, by decide +kernel, by decide +kernel⟩
theorem ok_other {n d : Nat} {f : Addr} {fd : FuncData} (F : Fun K "other_block" "Reader.other_block" S_Reader_other_block f fd) (T : RTxt K mg C) (L : RLow P w K mg base C) (hB : Mth P w K mg base C n "block" ["self"] (spBlk K C d)) (hn : 2 ≤ n) : FnOk P w K mg base CX0 (n + 1) f fd ["self"] (spOther K C d) := by
  refine F.ok scOther (fun vs H Q E h => ?_) (fun cdv A outer s0 H vs Q E hr h => ?_)
  · obtain ⟨R, i, k, ps, b, t, u, rest, rfl, _⟩ := h
    rfl
  obtain ⟨R, i, k, ps, b, t, u, rest, rfl, h, ha, hf, hw, hk, hp, alt, q⟩ := h
  obtain ⟨fB, fdB, GB', mB, bB⟩ := hB.ex
  obtain ⟨fP, fdP, GP', mP, bP⟩ := L.passes.ex
  have hr2 : Room 2 _ := hr.mono hn
  obtain ⟨dx, ei⟩ := h.ins
  refine ⟨_, pss_cons (ps_if (pt_val (pe_meth (pv 0) T.cl mP GP' hr2 bP .nil pass0 (pa_cons pe_str pa_nil))) (pss_one (ps_ret (pe_meth0 (pv 0) T.cl mB GB' hr bB .nil pass0))) pss_nil) (pss_one (ps_ret (pe_tup pa_nil))), ?_⟩
  rcases alt with ⟨rfl, rfl⟩ | ⟨d', tb, rfl, hg, rfl⟩
  · obtain ⟨x0, hx0, ex0, _⟩ := At.head (l := rest) ha
    obtain ⟨_, ew0⟩ := T3.of (a := u.1) (b := u.2) ex0
    refine ⟨_, rfl, R.r, dx, _, rfl, ei, rf_no _ _ _ _ (by decide +kernel), R, i, k, ps, x0, _, rfl, h, hx0, fun c => ?_, fun _ => ⟨false, rfl, iteF ?_⟩⟩
    · rw [ew0] at c
      exact absurd c hf.2
    · refine ⟨Nat.zero_le _, fun p np => ?_⟩
      refine q _ _ (KeepR.new np _) ?_ (Dp.new np .nil)
      rw [show hdP R i ([] : List Tk).length = [] from rfl, List.append_nil]
      exact h.same (same_new np _)
  · have ha0 : At R i (kK "else" :: kM "{" :: (tb ++ kM "}" :: u :: rest)) := by
      have e : kK "else" :: kM "{" :: (tb ++ [kM "}"]) ++ u :: rest = kK "else" :: kM "{" :: (tb ++ kM "}" :: u :: rest) := by simp
      rw [← e]
      exact ha
    obtain ⟨x0, hx0, ex0, ha1⟩ := ha0.head
    obtain ⟨_, ew0⟩ := T3.of ex0
    refine ⟨_, rfl, R.r, dx, _, rfl, ei, rf_no _ _ _ _ (by decide +kernel), R, i, k, ps, x0, _, rfl, h, hx0, fun _ H1 k1 h1 => ⟨true, rfl, iteT ?_⟩, fun c => absurd ew0 c⟩
    obtain ⟨dx1, ei1⟩ := h1.ins
    refine ⟨_, rfl, R.r, dx1, _, rfl, ei1, rf_no _ _ _ _ (by decide +kernel), R, _, k, ps, d', b, tb, _, rfl, rfl, h1, ha1, hg, hw, by omega, by omega, fun H2 v k2 h2 d2 => ?_⟩
    refine q H2 v (k1.trans k2) ?_ d2
    have el : (kK "else" :: kM "{" :: (tb ++ [kM "}"])).length = 1 + (1 + tb.length + 1) := by
      simp only [List.length_cons, List.length_append, List.length_nil]
      omega
    rw [el, hdP_add, hdP_skip hx0 ew0 (by decide +kernel), List.nil_append, show i + (1 + (1 + tb.length + 1)) = i + 1 + (1 + tb.length + 1) by omega]
    exact h2
theorem scSts : FnScope ["self", "found"] ["self"] (defScope S_Reader_statements) := ⟨rfl, rfl, rfl, by decide +kernel, rfl, by decide +kernel, by decide +kernel⟩
theorem ok_sts {n d : Nat} {f : Addr} {fd : FuncData} (F : Fun K "statements" "Reader.statements" S_Reader_statements f fd) (B : Blt mg) (T : RTxt K mg C) (L : RLow P w K mg base C) (hS : Mth P w K mg base C n "statement" ["self"] (spSt K C d)) (hn : 1 ≤ n) : FnOk P w K mg base CX0 (n + 1) f fd ["self"] (spSts K C d) := by
  refine F.ok scSts (fun vs H Q E h => ?_) (fun cdv A outer s0 H vs Q E hr h => ?_)
  · obtain ⟨R, i, k, ps, b, t, u, rest, rfl, _⟩ := h
    rfl
  obtain ⟨R, i, k, ps, b, t, u, rest, rfl, h, ha, hg, hf, hu, hw, hk, hp, q⟩ := h
  obtain ⟨fS, fdS, GS', mS, bS⟩ := hS.ex
  obtain ⟨fW, fdW, GW, mW, bW⟩ := L.word.ex
  obtain ⟨aS, mSt, hSt⟩ := T.stm
  have hr1 : Room 1 _ := hr.mono hn
  have hbl : b.length ≤ 100002 := Nat.le_trans hg.len (Nat.le_trans ha.len h.small)
  refine ⟨_, pss_cons (ps_set (i := 1) scSts.nd rfl (Or.inl rfl) (pe_lst pa_nil))
    (pss_cons (ps_while PassesOwn.never (pt_cmpR op_in_seq (pe_meth0 (pv 0) T.cl mW GW hr1 bW .nil pass0) (pe_glob (v := .ref aS) rfl mSt rfl) (by rfl))
      (pss_one (ps_expr (pe_bm PySem.F.plainAttrs_list PySem.F.slot_list_append PySem.F.type_list_append mt_append (pv 1) (pa_cons (pe_meth0 (pv 0) T.cl mS GS' hr bS .nil pass0) pa_nil)))))
    (pss_one (ps_ret (pe_callTy call_tuple_of (by rfl) B.tup (by decide +kernel) (pa_cons (pv 1) pa_nil))))), ?_⟩
  refine ⟨Nat.zero_le _, fun p np => ?_⟩
  have a3 := LstAt.new h np
  generalize upd H p (.lst []) = H3 at a3
  refine ⟨fun m σ H' => ∃ (j : Nat) (done b2 : List St) (t2 : List Tk) (vs2 : List V), m = b2.length ∧ σ = [some (.ref R.r), some (.ref p)] ∧ LstAt K C R H H' p vs2 (dB done) (i + j) k (ps ++ hdP R i j) ∧ done ++ b2 = b ∧ GB d b2 t2 ∧ wfB b2 ∧ At R (i + j) (t2 ++ u :: rest) ∧ j + t2.length = t.length,
    ⟨_, 0, [], b, t, _, rfl, rfl, by rw [hdP_zero, List.append_nil]; exact a3, rfl, hg, hw, ha, by omega⟩, ?_⟩
  rintro m σ H6 ⟨j, done, b2, t2, vs2, rfl, rfl, a6, hdn, g2, w2, ha6, el⟩
  obtain ⟨dx6, ei6⟩ := a6.rd.ins
  cases g2 with
  | nil =>
    obtain ⟨x7, hx7, ex7, _⟩ := At.head (l := rest) ha6
    obtain ⟨_, ew7⟩ := T3.of (a := u.1) (b := u.2) ex7
    refine ⟨_, rfl, R.r, dx6, _, rfl, ei6, rf_no _ _ _ _ (by decide +kernel), R, _, k, _, x7, rfl, a6.rd, hx7, ?_⟩
    refine ⟨aS, _, rfl, .inr (hSt H6), rfl, rfl, _, rfl, ?_⟩
    show if inV (.str x7.w) (stW.map V.str) = true then _ else _
    rw [in_strs, ew7, decide_eq_false hu]
    refine iteF ?_
    refine ⟨_, rfl, p, _, rfl, .inl ⟨SqL.of a6.lp, fun l nl => ?_⟩⟩
    rw [List.append_nil] at hdn
    subst hdn
    have ej : j = t.length := by simpa using el
    subst ej
    exact q _ _ (a6.keep.trans (KeepR.new nl _)) (a6.rd.same (same_new nl _)) (Dp.new nl a6.dd)
  | @cons _ s b3 t3 ts3 gs g3 =>
    obtain ⟨z, tz, rfl, hz⟩ := gs.first
    obtain ⟨x7, hx7, ex7, _⟩ := At.head (l := tz ++ ts3 ++ u :: rest) ha6
    obtain ⟨_, ew7⟩ := T3.of ex7
    refine ⟨_, rfl, R.r, dx6, _, rfl, ei6, rf_no _ _ _ _ (by decide +kernel), R, _, k, _, x7, rfl, a6.rd, hx7, ?_⟩
    refine ⟨aS, _, rfl, .inr (hSt H6), rfl, rfl, _, rfl, ?_⟩
    show if inV (.str x7.w) (stW.map V.str) = true then _ else _
    rw [in_strs, ew7, decide_eq_true hz]
    refine iteT ?_
    refine ⟨_, fun σ' H' hN => hN, ?_⟩
    rw [List.append_assoc] at ha6
    obtain ⟨u8, us8, eu8, hu8⟩ := g3.fo hf rest
    have w2' : wfS s ∧ wfB b3 := by unfold wfB at w2; exact w2
    have hpl : (ps ++ hdP R i j).length ≤ i + j := by
      have z := hdP_len R i j
      rw [List.length_append]
      omega
    refine ⟨_, rfl, .inl ⟨rfl, _, SqL.of a6.lp⟩, _, rfl, R.r, dx6, _, rfl, ei6, rf_no _ _ _ _ (by decide +kernel), R, _, k, _, s, _, u8, us8, rfl, a6.rd, by rw [← eu8]; exact ha6, gs, hu8, w2'.1, hk, hpl, fun H8 v8 k8 h8 d8 => ?_⟩
    have a8 := a6.call k8 h8
    have hln : vs2.length ≤ 100002 := by
      rw [DpAll.length a6.dd, dB_length]
      have z : (done ++ s :: b3).length = b.length := by rw [hdn]
      rw [List.length_append, List.length_cons] at z
      omega
    refine ⟨p, _, _, rfl, rfl, a8.lp, Nat.lt_of_le_of_lt hln (by decide), ?_⟩
    have a9 := a8.push d8 (tupD_S s)
    rw [List.append_assoc, ← hdP_add, show i + j + (kK z :: tz).length = i + (j + (kK z :: tz).length) by omega, show dB done ++ [s.d] = dB (done ++ [s]) by rw [dB_append]; rfl] at a9
    refine ⟨b3.length, by show b3.length < (s :: b3).length; rw [List.length_cons]; omega, _, done ++ [s], b3, ts3, _, rfl, rfl, a9, by rw [List.append_assoc]; exact hdn, g3, w2'.2, ?_, ?_⟩
    · have z := At.app ha6
      rw [Nat.add_assoc] at z
      exact z
    · rw [List.length_append] at el
      omega
end
end KD

/-! The reader's statements, one by one. -/
namespace KD
open PySem L2 TL
open K0 (num)
section
variable {P : Program} {w : World} {K : PySem.W.Frag} {mg : Str → Option Value} {base : Heap} {C : Addr}
theorem hdP_cons {R : Rd} {i : Nat} {x : T3} (hx : R.ts[i]? = some x) (ew : x.w ∈ stW) (m : Nat) : hdP R i (1 + m) = x.pl :: hdP R (i + 1) m := by
  rw [hdP_add, hdP_head hx ew]
  rfl
/-- one heap, changed by the reader alone -/
theorem Dp.kr {R : Rd} {H H' : Hp} {i k : Nat} {ps : List Nat} (kp : KeepR R H H') (h : RdAt K C R H i k ps) {v : V} {d : PyData} (t : tupD d = true) (hd : Dp K H v d) : Dp K H' v d := Dp.kt (kp.kt h) t hd
theorem tupD_B' (b : List St) : tupD (.tuple (dB b)) = true := by show tupDs (dB b) = true; exact tupD_B b
/-- what a statement begins with, and what follows -/
theorem GS.kinds {d : Nat} {s : St} {t : List Tk} (h : GS d s t) : ∀ {z : Str} {tz : List Tk}, t = kK z :: tz →
    (z ∈ (["row", "col", "say"] : List Str) ∧ ∃ e, GE e tz ∧ s.d = .tuple [.str z, e.d] ∧ (wfS s → eOk e)) ∨
    (z = "let" ∧ ∃ y e te, tz = kN y :: kM "=" :: te ∧ GE e te ∧ s = .set y e) ∨
    (z = "if" ∧ ∃ d' c a b tc ta to, d = d' + 1 ∧ s = .ite c a b ∧ GE c tc ∧ GB d' a ta ∧ tz = tc ++ kM "{" :: (ta ++ kM "}" :: to) ∧ ((b = [] ∧ to = []) ∨ ∃ d2 tb, d = d2 + 1 ∧ GB d2 b tb ∧ to = kK "else" :: kM "{" :: (tb ++ [kM "}"]))) ∨
    (z = "while" ∧ ∃ d' c a tc ta, d = d' + 1 ∧ s = .whl c a ∧ GE c tc ∧ GB d' a ta ∧ tz = tc ++ kM "{" :: (ta ++ [kM "}"])) ∨
    (z = "for" ∧ ∃ d' y a b r ta tb tr, d = d' + 1 ∧ s = .for_ y a b r ∧ GE a ta ∧ GE b tb ∧ GB d' r tr ∧ tz = kN y :: kM "=" :: (ta ++ kK "to" :: (tb ++ kM "{" :: (tr ++ [kM "}"])))) ∨
    (z = "do" ∧ ∃ y es te, s = .call y es ∧ GEs es te ∧ tz = kN y :: kM "(" :: (te ++ [kM ")"])) ∨
    (z = "stop" ∧ s = .stop ∧ tz = []) := by
  intro z tz et
  have inj : ∀ {a : Str} {l : List Tk}, kK a :: l = kK z :: tz → a = z ∧ l = tz := fun e => by
    injection e with e1 e2
    injection e1 with e3 e4
    exact ⟨e4, e2⟩
  cases h with
  | row g => obtain ⟨rfl, rfl⟩ := inj et; exact .inl ⟨by decide +kernel, _, g, rfl, fun h => by unfold wfS at h; exact h⟩
  | col g => obtain ⟨rfl, rfl⟩ := inj et; exact .inl ⟨by decide +kernel, _, g, rfl, fun h => by unfold wfS at h; exact h⟩
  | say g => obtain ⟨rfl, rfl⟩ := inj et; exact .inl ⟨by decide +kernel, _, g, rfl, fun h => by unfold wfS at h; exact h⟩
  | set g => obtain ⟨rfl, rfl⟩ := inj et; exact .inr (.inl ⟨rfl, _, _, _, rfl, g, rfl⟩)
  | ite0 g1 g2 => obtain ⟨rfl, rfl⟩ := inj et; exact .inr (.inr (.inl ⟨rfl, _, _, _, _, _, _, [], rfl, rfl, g1, g2, by simp, .inl ⟨rfl, rfl⟩⟩))
  | ite g1 g2 g3 => obtain ⟨rfl, rfl⟩ := inj et; exact .inr (.inr (.inl ⟨rfl, _, _, _, _, _, _, _, rfl, rfl, g1, g2, by simp, .inr ⟨_, _, rfl, g3, rfl⟩⟩))
  | whl g1 g2 => obtain ⟨rfl, rfl⟩ := inj et; exact .inr (.inr (.inr (.inl ⟨rfl, _, _, _, _, _, rfl, rfl, g1, g2, by simp⟩)))
  | for_ g1 g2 g3 => obtain ⟨rfl, rfl⟩ := inj et; exact .inr (.inr (.inr (.inr (.inl ⟨rfl, _, _, _, _, _, _, _, _, rfl, rfl, g1, g2, g3, by simp⟩))))
  | call g => obtain ⟨rfl, rfl⟩ := inj et; exact .inr (.inr (.inr (.inr (.inr (.inl ⟨rfl, _, _, _, rfl, g, by simp⟩)))))
  | stop => obtain ⟨rfl, rfl⟩ := inj et; exact .inr (.inr (.inr (.inr (.inr (.inr ⟨rfl, rfl, rfl⟩)))))
theorem scSt : FnScope ["self", "word"] ["self"] (defScope S_Reader_statement) := ⟨rfl, rfl, rfl, by decide +kernel, rfl, by decide +kernel, by decide +kernel⟩
theorem ok_st {n d : Nat} {f : Addr} {fd : FuncData} (F : Fun K "statement" "Reader.statement" S_Reader_statement f fd) (T : RTxt K mg C) (L : RLow P w K mg base C) (hE : Mth P w K mg base C n "expression" ["self"] (spExpr K C 10))
    (hN : Mth P w K mg base C n "set_name" ["self"] (spSetName K C)) (hV : Mth P w K mg base C n "last_value" ["self"] (spLast K C)) (hA : Mth P w K mg base C n "passed" ["self"] (spPassed K C))
    (hB : Mth P w K mg base C n "block" ["self"] (spBlk K C d)) (hO : Mth P w K mg base C n "other_block" ["self"] (spOther K C d)) (hn : 3 ≤ n) : FnOk P w K mg base CX0 (n + 1) f fd ["self"] (spSt K C d) := by
  refine F.ok scSt (fun vs H Q E h => ?_) (fun cdv A outer s0 H vs Q E hr h => ?_)
  · obtain ⟨R, i, k, ps, s, t, u, rest, rfl, _⟩ := h
    rfl
  obtain ⟨R, i, k, ps, s, t, u, rest, rfl, h, ha, hg, hf, hw, hk, hp, q⟩ := h
  obtain ⟨fE, fdE, GE', mE, bE⟩ := hE.ex
  obtain ⟨fN, fdN, GN, mN, bN⟩ := hN.ex
  obtain ⟨fV, fdV, GV, mV, bV⟩ := hV.ex
  obtain ⟨fA, fdA, GA, mA, bA⟩ := hA.ex
  obtain ⟨fB, fdB, GB', mB, bB⟩ := hB.ex
  obtain ⟨fO, fdO, GO, mO, bO⟩ := hO.ex
  obtain ⟨fL, fdL, GL, mL, bL⟩ := L.place.ex
  obtain ⟨fT, fdT, GT, mT, bT⟩ := L.taken.ex
  obtain ⟨fM, fdM, GM, mM, bM⟩ := L.name.ex
  have hr1 : Room 1 _ := hr.mono (by omega)
  have hr2 : Room 2 _ := hr.mono (by omega)
  have hr3 : Room 3 _ := hr.mono hn
  obtain ⟨dx, ei⟩ := h.ins
  have no : ∀ (A B : Addr) (i k : Nat) (m : Str), m ∈ (["place", "taken", "name", "expression", "set_name", "last_value", "passed", "block", "other_block"] : List Str) → (rf A B i k).lookup m = none := fun A B i k m hm => by
    simp only [List.mem_cons, List.not_mem_nil, or_false] at hm
    rcases hm with rfl | rfl | rfl | rfl | rfl | rfl | rfl | rfl | rfl <;> exact rf_no _ _ _ _ (by decide +kernel)
  refine ⟨_, pss_cons (ps_expr (pe_bm PySem.F.plainAttrs_list PySem.F.slot_list_append PySem.F.type_list_append mt_append (pe_fld (pv 0) rfl) (pa_cons (pe_meth0 (pv 0) T.cl mL GL hr1 bL .nil pass0) pa_nil)))
    (pss_cons (ps_set (i := 1) scSt.nd rfl (Or.inl rfl) (pe_meth0 (pv 0) T.cl mT GT hr2 bT .nil pass0))
    (pss_cons (ps_if (pt_cmpR op_in_seq (pv 1) (pe_tup (pa_cons pe_str (pa_cons pe_str (pa_cons pe_str pa_nil)))) (by rfl)) (pss_one (ps_ret (pe_tup (pa_cons (pv 1) (pa_cons (pe_meth0 (pv 0) T.cl mE GE' hr bE .nil pass0) pa_nil))))) pss_nil)
    (pss_cons (ps_if (pt_cmpR op_eq (pv 1) pe_str (nomark _)) (pss_one (ps_ret (pe_tup (pa_cons (pv 1) (StX.pa_star (pe_meth0 (pv 0) T.cl mN GN hr bN .nil pass0) pa_nil))))) pss_nil)
    (pss_cons (ps_if (pt_cmpR op_eq (pv 1) pe_str (nomark _)) (pss_one (ps_ret (pe_tup (pa_cons (pv 1) (pa_cons (pe_meth0 (pv 0) T.cl mE GE' hr bE .nil pass0) (pa_cons (pe_meth0 (pv 0) T.cl mB GB' hr bB .nil pass0) (pa_cons (pe_meth0 (pv 0) T.cl mO GO hr bO .nil pass0) pa_nil))))))) pss_nil)
    (pss_cons (ps_if (pt_cmpR op_eq (pv 1) pe_str (nomark _)) (pss_one (ps_ret (pe_tup (pa_cons (pv 1) (pa_cons (pe_meth0 (pv 0) T.cl mE GE' hr bE .nil pass0) (pa_cons (pe_meth0 (pv 0) T.cl mB GB' hr bB .nil pass0) pa_nil)))))) pss_nil)
    (pss_cons (ps_if (pt_cmpR op_eq (pv 1) pe_str (nomark _)) (pss_one (ps_ret (pe_tup (pa_cons (pv 1) (StX.pa_star (pe_meth0 (pv 0) T.cl mN GN hr bN .nil pass0) (pa_cons (pe_meth0 (pv 0) T.cl mV GV hr bV .nil pass0) (pa_cons (pe_meth0 (pv 0) T.cl mB GB' hr bB .nil pass0) pa_nil))))))) pss_nil)
    (pss_cons (ps_if (pt_cmpR op_eq (pv 1) pe_str (nomark _)) (pss_one (ps_ret (pe_tup (pa_cons (pv 1) (pa_cons (pe_meth0 (pv 0) T.cl mM GM hr3 bM .nil pass0) (pa_cons (pe_meth0 (pv 0) T.cl mA GA hr bA .nil pass0) pa_nil)))))) pss_nil)
    (pss_one (ps_ret (pe_tup (pa_cons (pv 1) pa_nil))))))))))), ?_⟩
  obtain ⟨z, tz, et, hz⟩ := hg.first
  have ha' := ha
  rw [et] at ha'
  obtain ⟨x, hx, ex, ha1⟩ := At.head (l := tz ++ u :: rest) ha'
  obtain ⟨_, ew⟩ := T3.of ex
  -- the place is noted
  refine ⟨_, rfl, R.r, C, dx, _, _, rfl, ei, T.cl, T.nP, rf_places _ _ _ _, .inl ⟨rfl, _, SqL.of h.plc⟩, _, rfl, R.r, dx, _, rfl, ei, no _ _ _ _ _ (by decide +kernel), R, i, k, ps, x, rfl, h, hx, ?_⟩
  have hsz : ps.length ≤ 100002 := Nat.le_trans hp (Nat.le_trans (Nat.le_of_lt (At.lt ha')) h.small)
  refine ⟨R.pA, _, _, rfl, rfl, h.plc, by rw [List.length_map]; exact Nat.lt_of_le_of_lt hsz (by decide), ?_⟩
  obtain ⟨h1, k1⟩ := h.push x.pl
  generalize upd H R.pA (.lst ((ps.map fun p : Nat => V.int (p : Nat)) ++ [.int (x.pl : Nat)])) = H1 at h1 k1
  obtain ⟨dx1, ei1⟩ := h1.ins
  -- its word is taken
  refine ⟨_, rfl, R.r, dx1, _, rfl, ei1, no _ _ _ _ _ (by decide +kernel), R, i, k, _, x, rfl, h1, hx, fun H2 k2 h2 => ?_⟩
  rw [ew]
  have hxs : x.w ∈ stW := by rw [ew]; exact hz
  have k12 := k1.trans k2
  have hp2 : (ps ++ [x.pl]).length ≤ i + 1 := by rw [List.length_append]; show ps.length + 1 ≤ i + 1; omega
  -- is it row, col or say?
  refine ⟨_, rfl, (by show 3 ≤ sizeLine; decide), fun p3 np3 => ⟨p3, _, rfl, .inr (SqT.of upd_same), rfl, rfl, _, rfl, ?_⟩⟩
  have s3 := same_new np3 (.tup [.str "row", .str "col", .str "say"])
  have h3 := h2.same s3
  have k13 := k12.trans (KeepR.same s3)
  generalize upd H2 p3 (.tup [.str "row", .str "col", .str "say"]) = H3 at h3 k13 s3
  obtain ⟨dx3, ei3⟩ := h3.ins
  show if inV (.str z) ((["row", "col", "say"] : List Str).map V.str) = true then _ else _
  rw [in_strs]
  have isno : ∀ (a b : Str), decide (a = b) = false → decide (V.str a = V.str b) = false := fun a b e => by rw [dec_strs]; exact e
  have isyes : ∀ (a : Str), decide (V.str a = V.str a) = true := fun a => decide_eq_true rfl
  have all : ∀ (m : Nat) {H' : Hp}, t.length = 1 + m → RdAt K C R H' (i + 1 + m) k (ps ++ [x.pl] ++ hdP R (i + 1) m) → RdAt K C R H' (i + t.length) k (ps ++ hdP R i t.length) := fun m H' e h => by
    rw [e, hdP_cons hx hxs, ← Nat.add_assoc]
    rw [List.append_assoc] at h
    exact h
  have et1 : t.length = 1 + tz.length := by rw [et, List.length_cons, Nat.add_comm]
  -- which word it is
  rcases hg.kinds et with ⟨hz3, e, g, ed, we⟩ | ⟨rfl, y, e, te, rfl, g, rfl⟩ | ⟨rfl, d', c, a, b, tc, ta, to, rfl, rfl, g1, g2, rfl, alt⟩ | ⟨rfl, d', c, a, tc, ta, rfl, rfl, g1, g2, rfl⟩ | ⟨rfl, d', y, a, b, r, ta, tb, tr, rfl, rfl, g1, g2, g3, rfl⟩ | ⟨rfl, y, es, te, rfl, g, rfl⟩ | ⟨rfl, rfl, rfl⟩
  · -- row, col, say
    rw [decide_eq_true hz3]
    refine iteT ?_
    refine ⟨_, rfl, _, rfl, R.r, dx3, _, rfl, ei3, no _ _ _ _ _ (by decide +kernel), R, _, k, _, e, tz, u, rest, rfl, h3, ha1, g, hf.stop 0, (we hw).1, by omega, fun H4 v k4 h4 d4 => ?_⟩
    refine ⟨(by show 2 ≤ sizeLine; decide), fun p np => ?_⟩
    have s5 := same_new np (.tup [.str z, v])
    refine q _ _ (k13.trans (k4.trans (KeepR.same s5))) (all tz.length et1 ?_) (by rw [ed]; exact Dp.new np (.cons (.str z) (.cons d4 .nil)))
    rw [hdP_none ha1 (g.noSt (we hw).1), List.append_nil]
    exact h4.same s5
  · -- let
    rw [show decide (("let" : Str) ∈ (["row", "col", "say"] : List Str)) = false by decide +kernel]
    refine iteF ?_
    refine ⟨_, rfl, rfl, _, rfl, ?_⟩
    rw [isyes]
    refine iteT ?_
    have hw' : nameW y = true ∧ eOk e := by unfold wfS at hw; exact hw
    have nst : ∀ w ∈ kN y :: kM "=" :: te, w.2 ∉ stW := fun w hm => by
      rcases List.mem_cons.mp hm with e1 | hm
      · rw [e1]; exact nameW_st hw'.1
      rcases List.mem_cons.mp hm with e1 | hm
      · rw [e1]; decide +kernel
      · exact g.noSt hw'.2.1 w hm
    have pl0 := hdP_none ha1 nst
    refine ⟨_, rfl, _, rfl, R.r, dx3, _, rfl, ei3, no _ _ _ _ _ (by decide +kernel), R, _, k, _, y, e, te, u, rest, rfl, h3, ha1, g, hf.stop 0, hw'.2.1, by omega, fun H4 a v k4 h4 hT4 d4 => ?_⟩
    refine ⟨a, _, rfl, .inl hT4, ?_⟩
    refine ⟨(by show 3 ≤ sizeLine; decide), fun p np => ?_⟩
    have s5 := same_new np (.tup [.str "let", .str y, v])
    refine q _ _ (k13.trans (k4.trans (KeepR.same s5))) (all _ et1 ?_) (Dp.new np (.cons (.str "let") (.cons (.str y) (.cons d4 .nil))))
    rw [pl0, List.append_nil (ps ++ [x.pl]), show i + 1 + (kN y :: kM "=" :: te).length = i + 1 + 2 + te.length by rw [List.length_cons, List.length_cons]; omega]
    exact h4.same s5
  · -- if
    rw [show decide (("if" : Str) ∈ (["row", "col", "say"] : List Str)) = false by decide +kernel]
    refine iteF ?_
    refine ⟨_, rfl, rfl, _, rfl, ?_⟩
    rw [isno _ _ (by decide +kernel)]
    refine iteF ?_
    refine ⟨_, rfl, rfl, _, rfl, ?_⟩
    rw [isyes]
    refine iteT ?_
    have hw' : eOk c ∧ wfB a ∧ wfB b := by unfold wfS at hw; exact hw
    have ha2 : At R (i + 1) (tc ++ kM "{" :: (ta ++ kM "}" :: (to ++ u :: rest))) := by
      have e1 : tc ++ kM "{" :: (ta ++ kM "}" :: to) ++ u :: rest = tc ++ kM "{" :: (ta ++ kM "}" :: (to ++ u :: rest)) := by simp
      rw [← e1]
      exact ha1
    have ha3 := At.app ha2
    have ha4 : At R (i + 1 + tc.length + (1 + ta.length + 1)) (to ++ u :: rest) := by
      have e1 : kM "{" :: (ta ++ kM "}" :: (to ++ u :: rest)) = (kM "{" :: (ta ++ [kM "}"])) ++ (to ++ u :: rest) := by simp
      rw [e1] at ha3
      have z9 := At.app ha3
      rw [show (kM "{" :: (ta ++ [kM "}"])).length = 1 + ta.length + 1 by rw [List.length_cons, List.length_append]; show ta.length + 1 + 1 = _; omega] at z9
      exact z9
    refine ⟨_, rfl, _, rfl, R.r, dx3, _, rfl, ei3, no _ _ _ _ _ (by decide +kernel), R, _, k, _, c, tc, _, _, rfl, h3, ha2, g1, stop_mark (by decide +kernel) 0, hw'.1.1, by omega, fun H4 v k4 h4 d4 => ?_⟩
    obtain ⟨dx4, ei4⟩ := h4.ins
    refine ⟨_, rfl, R.r, dx4, _, rfl, ei4, no _ _ _ _ _ (by decide +kernel), R, _, k, _, d', a, ta, _, rfl, rfl, h4, ha3, g2, hw'.2.1, by omega, by omega, fun H5 v5 k5 h5 d5 => ?_⟩
    obtain ⟨dx5, ei5⟩ := h5.ins
    have hp5 : (ps ++ [x.pl] ++ hdP R (i + 1 + tc.length) (1 + ta.length + 1)).length ≤ i + 1 + tc.length + (1 + ta.length + 1) := by
      have z9 := hdP_len R (i + 1 + tc.length) (1 + ta.length + 1)
      rw [List.length_append]
      omega
    refine ⟨_, rfl, R.r, dx5, _, rfl, ei5, no _ _ _ _ _ (by decide +kernel), R, _, k, _, b, to, u, rest, rfl, h5, ha4, hf, hw'.2.2, by omega, hp5, alt, fun H6 v6 k6 h6 d6 => ?_⟩
    refine ⟨(by show 4 ≤ sizeLine; decide), fun p np => ?_⟩
    have s7 := same_new np (.tup [.str "if", v, v5, v6])
    have dc : Dp K H6 v c.d := Dp.kt ((k5.kt h4).trans (k6.kt h5)) (tupD_E _) d4
    have da : Dp K H6 v5 (.tuple (dB a)) := Dp.kt (k6.kt h5) (tupD_B' a) d5
    refine q _ _ (k13.trans ((k4.trans k5).trans (k6.trans (KeepR.same s7)))) (all _ et1 ?_) (by unfold St.d; exact Dp.new np (.cons (.str "if") (.cons dc (.cons da (.cons d6 .nil)))))
    have el : (tc ++ kM "{" :: (ta ++ kM "}" :: to)).length = tc.length + ((1 + ta.length + 1) + to.length) := by
      simp only [List.length_append, List.length_cons]
      omega
    rw [el, hdP_add, hdP_add, hdP_none ha2 (g1.noSt hw'.1.1), List.nil_append, ← List.append_assoc, ← Nat.add_assoc (i + 1), ← Nat.add_assoc (i + 1 + tc.length)]
    exact h6.same s7
  · -- while
    rw [show decide (("while" : Str) ∈ (["row", "col", "say"] : List Str)) = false by decide +kernel]
    refine iteF ?_
    refine ⟨_, rfl, rfl, _, rfl, ?_⟩
    rw [isno _ _ (by decide +kernel)]
    refine iteF ?_
    refine ⟨_, rfl, rfl, _, rfl, ?_⟩
    rw [isno _ _ (by decide +kernel)]
    refine iteF ?_
    refine ⟨_, rfl, rfl, _, rfl, ?_⟩
    rw [isyes]
    refine iteT ?_
    have hw' : eOk c ∧ wfB a := by unfold wfS at hw; exact hw
    have ha2 : At R (i + 1) (tc ++ kM "{" :: (ta ++ kM "}" :: (u :: rest))) := by
      have e1 : tc ++ kM "{" :: (ta ++ [kM "}"]) ++ u :: rest = tc ++ kM "{" :: (ta ++ kM "}" :: (u :: rest)) := by simp
      rw [← e1]
      exact ha1
    have ha3 := At.app ha2
    refine ⟨_, rfl, _, rfl, R.r, dx3, _, rfl, ei3, no _ _ _ _ _ (by decide +kernel), R, _, k, _, c, tc, _, _, rfl, h3, ha2, g1, stop_mark (by decide +kernel) 0, hw'.1.1, by omega, fun H4 v k4 h4 d4 => ?_⟩
    obtain ⟨dx4, ei4⟩ := h4.ins
    refine ⟨_, rfl, R.r, dx4, _, rfl, ei4, no _ _ _ _ _ (by decide +kernel), R, _, k, _, d', a, ta, _, rfl, rfl, h4, ha3, g2, hw'.2, by omega, by omega, fun H5 v5 k5 h5 d5 => ?_⟩
    refine ⟨(by show 3 ≤ sizeLine; decide), fun p np => ?_⟩
    have s7 := same_new np (.tup [.str "while", v, v5])
    have dc : Dp K H5 v c.d := Dp.kt (k5.kt h4) (tupD_E _) d4
    refine q _ _ (k13.trans ((k4.trans k5).trans (KeepR.same s7))) (all _ et1 ?_) (by unfold St.d; exact Dp.new np (.cons (.str "while") (.cons dc (.cons d5 .nil))))
    have el : (tc ++ kM "{" :: (ta ++ [kM "}"])).length = tc.length + (1 + ta.length + 1) := by
      simp only [List.length_append, List.length_cons, List.length_nil]
      omega
    rw [el, hdP_add, hdP_none ha2 (g1.noSt hw'.1.1), List.nil_append, ← Nat.add_assoc (i + 1)]
    exact h5.same s7
  · -- for
    rw [show decide (("for" : Str) ∈ (["row", "col", "say"] : List Str)) = false by decide +kernel]
    refine iteF ?_
    refine ⟨_, rfl, rfl, _, rfl, ?_⟩
    rw [isno _ _ (by decide +kernel)]
    refine iteF ?_
    refine ⟨_, rfl, rfl, _, rfl, ?_⟩
    rw [isno _ _ (by decide +kernel)]
    refine iteF ?_
    refine ⟨_, rfl, rfl, _, rfl, ?_⟩
    rw [isno _ _ (by decide +kernel)]
    refine iteF ?_
    refine ⟨_, rfl, rfl, _, rfl, ?_⟩
    rw [isyes]
    refine iteT ?_
    have hw' : nameW y = true ∧ eOk a ∧ eOk b ∧ wfB r := by unfold wfS at hw; exact hw
    have ha2 : At R (i + 1) (kN y :: kM "=" :: (ta ++ kK "to" :: (tb ++ kM "{" :: (tr ++ kM "}" :: (u :: rest))))) := by
      have e1 : kN y :: kM "=" :: (ta ++ kK "to" :: (tb ++ kM "{" :: (tr ++ [kM "}"]))) ++ u :: rest = kN y :: kM "=" :: (ta ++ kK "to" :: (tb ++ kM "{" :: (tr ++ kM "}" :: (u :: rest)))) := by simp
      rw [← e1]
      exact ha1
    have ha3 : At R (i + 1 + 2 + ta.length) (kK "to" :: (tb ++ kM "{" :: (tr ++ kM "}" :: (u :: rest)))) := by
      have z9 := At.app (t := kN y :: kM "=" :: ta) (l := kK "to" :: (tb ++ kM "{" :: (tr ++ kM "}" :: (u :: rest)))) ha2
      rw [show i + 1 + (kN y :: kM "=" :: ta).length = i + 1 + 2 + ta.length by rw [List.length_cons, List.length_cons]; omega] at z9
      exact z9
    have ha4 : At R (i + 1 + 2 + ta.length + 1 + tb.length) (kM "{" :: (tr ++ kM "}" :: (u :: rest))) := by
      obtain ⟨_, _, _, z8⟩ := ha3.head
      exact At.app z8
    refine ⟨_, rfl, _, rfl, R.r, dx3, _, rfl, ei3, no _ _ _ _ _ (by decide +kernel), R, _, k, _, y, a, ta, _, _, rfl, h3, ha2, g1, stop_mark (by decide +kernel) 0, hw'.2.1.1, by omega, fun H4 aa v k4 h4 hT4 d4 => ?_⟩
    refine ⟨aa, _, rfl, .inl hT4, ?_⟩
    obtain ⟨dx4, ei4⟩ := h4.ins
    refine ⟨_, rfl, R.r, dx4, _, rfl, ei4, no _ _ _ _ _ (by decide +kernel), R, _, k, _, b, tb, _, _, rfl, h4, ha3, g2, stop_mark (by decide +kernel) 0, hw'.2.2.1.1, by omega, fun H5 v5 k5 h5 d5 => ?_⟩
    obtain ⟨dx5, ei5⟩ := h5.ins
    refine ⟨_, rfl, R.r, dx5, _, rfl, ei5, no _ _ _ _ _ (by decide +kernel), R, _, k, _, d', r, tr, _, rfl, rfl, h5, ha4, g3, hw'.2.2.2, by omega, by omega, fun H6 v6 k6 h6 d6 => ?_⟩
    refine ⟨(by show 5 ≤ sizeLine; decide), fun p np => ?_⟩
    have s7 := same_new np (.tup [.str "for", .str y, v, v5, v6])
    have dc : Dp K H6 v a.d := Dp.kt ((k5.kt h4).trans (k6.kt h5)) (tupD_E _) d4
    have da : Dp K H6 v5 b.d := Dp.kt (k6.kt h5) (tupD_E _) d5
    refine q _ _ (k13.trans ((k4.trans k5).trans (k6.trans (KeepR.same s7)))) (all _ et1 ?_) (by unfold St.d; exact Dp.new np (.cons (.str "for") (.cons (.str y) (.cons dc (.cons da (.cons d6 .nil))))))
    have hno : ∀ w ∈ kN y :: kM "=" :: (ta ++ kK "to" :: tb), w.2 ∉ stW := fun w hm => by
      simp only [List.mem_cons, List.mem_append] at hm
      rcases hm with e1 | e1 | e1 | e1 | e1
      · rw [e1]; exact nameW_st hw'.1
      · rw [e1]; decide +kernel
      · exact g1.noSt hw'.2.1.1 w e1
      · rw [e1]; decide +kernel
      · exact g2.noSt hw'.2.2.1.1 w e1
    have ha2' : At R (i + 1) ((kN y :: kM "=" :: (ta ++ kK "to" :: tb)) ++ (kM "{" :: (tr ++ kM "}" :: (u :: rest)))) := by
      have e1 : kN y :: kM "=" :: (ta ++ kK "to" :: (tb ++ kM "{" :: (tr ++ kM "}" :: (u :: rest)))) = (kN y :: kM "=" :: (ta ++ kK "to" :: tb)) ++ (kM "{" :: (tr ++ kM "}" :: (u :: rest))) := by simp
      rw [← e1]
      exact ha2
    have el0 : (kN y :: kM "=" :: (ta ++ kK "to" :: tb)).length = 2 + ta.length + 1 + tb.length := by
      simp only [List.length_append, List.length_cons]
      omega
    have pl0 := hdP_none ha2' hno
    rw [el0] at pl0
    have el : (kN y :: kM "=" :: (ta ++ kK "to" :: (tb ++ kM "{" :: (tr ++ [kM "}"])))).length = (2 + ta.length + 1 + tb.length) + (1 + tr.length + 1) := by
      simp only [List.length_append, List.length_cons, List.length_nil]
      omega
    rw [el, hdP_add, pl0, List.nil_append, ← Nat.add_assoc (i + 1), show i + 1 + (2 + ta.length + 1 + tb.length) = i + 1 + 2 + ta.length + 1 + tb.length by omega]
    exact h6.same s7
  · -- do
    rw [show decide (("do" : Str) ∈ (["row", "col", "say"] : List Str)) = false by decide +kernel]
    refine iteF ?_
    refine ⟨_, rfl, rfl, _, rfl, ?_⟩
    rw [isno _ _ (by decide +kernel)]
    refine iteF ?_
    refine ⟨_, rfl, rfl, _, rfl, ?_⟩
    rw [isno _ _ (by decide +kernel)]
    refine iteF ?_
    refine ⟨_, rfl, rfl, _, rfl, ?_⟩
    rw [isno _ _ (by decide +kernel)]
    refine iteF ?_
    refine ⟨_, rfl, rfl, _, rfl, ?_⟩
    rw [isno _ _ (by decide +kernel)]
    refine iteF ?_
    refine ⟨_, rfl, rfl, _, rfl, ?_⟩
    rw [isyes]
    refine iteT ?_
    have hw' : nameW y = true ∧ es.length ≤ 100 ∧ ∀ e ∈ es, eOk e := by unfold wfS at hw; exact hw
    have ha2 : At R (i + 1) (kN y :: kM "(" :: (te ++ kM ")" :: (u :: rest))) := by
      have e1 : kN y :: kM "(" :: (te ++ [kM ")"]) ++ u :: rest = kN y :: kM "(" :: (te ++ kM ")" :: (u :: rest)) := by simp
      rw [← e1]
      exact ha1
    obtain ⟨x4, hx4, ex4, ha3⟩ := ha2.head
    obtain ⟨ek4, ew4⟩ := T3.of ex4
    refine ⟨_, rfl, _, rfl, R.r, dx3, _, rfl, ei3, no _ _ _ _ _ (by decide +kernel), R, _, k, _, x4, rfl, h3, hx4, ek4, fun H4 k4 h4 => ?_⟩
    rw [ew4]
    obtain ⟨dx4, ei4⟩ := h4.ins
    refine ⟨_, rfl, R.r, dx4, _, rfl, ei4, no _ _ _ _ _ (by decide +kernel), R, _, k, _, es, te, _, rfl, h4, ha3, g, fun e he => (hw'.2.2 e he).1, hw'.2.1, by omega, fun H5 v5 k5 h5 d5 => ?_⟩
    refine ⟨(by show 3 ≤ sizeLine; decide), fun p np => ?_⟩
    have s7 := same_new np (.tup [.str "do", .str y, v5])
    have nst : ∀ w ∈ kN y :: kM "(" :: (te ++ [kM ")"]), w.2 ∉ stW := fun w hm => by
      simp only [List.mem_cons, List.mem_append, List.not_mem_nil, or_false] at hm
      rcases hm with e1 | e1 | e1 | e1
      · rw [e1]; exact nameW_st hw'.1
      · rw [e1]; decide +kernel
      · exact g.noSt (fun e he => (hw'.2.2 e he).1) w e1
      · rw [e1]; decide +kernel
    refine q _ _ (k13.trans ((k4.trans k5).trans (KeepR.same s7))) (all _ et1 ?_) (by unfold St.d; exact Dp.new np (.cons (.str "do") (.cons (.str y) (.cons d5 .nil))))
    rw [hdP_none ha1 nst, List.append_nil, show i + 1 + (kN y :: kM "(" :: (te ++ [kM ")"])).length = i + 1 + 1 + 1 + te.length + 1 by simp only [List.length_append, List.length_cons, List.length_nil]; omega]
    exact h5.same s7
  · -- stop
    rw [show decide (("stop" : Str) ∈ (["row", "col", "say"] : List Str)) = false by decide +kernel]
    refine iteF ?_
    refine ⟨_, rfl, rfl, _, rfl, ?_⟩
    rw [isno _ _ (by decide +kernel)]
    refine iteF ?_
    refine ⟨_, rfl, rfl, _, rfl, ?_⟩
    rw [isno _ _ (by decide +kernel)]
    refine iteF ?_
    refine ⟨_, rfl, rfl, _, rfl, ?_⟩
    rw [isno _ _ (by decide +kernel)]
    refine iteF ?_
    refine ⟨_, rfl, rfl, _, rfl, ?_⟩
    rw [isno _ _ (by decide +kernel)]
    refine iteF ?_
    refine ⟨_, rfl, rfl, _, rfl, ?_⟩
    rw [isno _ _ (by decide +kernel)]
    refine iteF ?_
    refine ⟨_, rfl, ?_⟩
    refine ⟨(by show 1 ≤ sizeLine; decide), fun p np => ?_⟩
    have s7 := same_new np (.tup [.str "stop"])
    refine q _ _ (k13.trans (KeepR.same s7)) (all 0 et1 ?_) (Dp.new np (.cons (.str "stop") .nil))
    rw [hdP_zero, List.append_nil]
    exact h3.same s7
end
end KD

/-! A generator expression in all(..): its table of code objects is told by what always holds of it, so that nothing that is tracked changes. -/
namespace GN
open PySem PySem.Spec PyProof.Rows L2
/-- what is always true of the table at P -/
def TabI (P : Addr) (h : Heap) : Prop := ∃ ps : Array Value, h.get? P = some { cls := .none, data := .fields ps } ∧ TriplesOk ps.toList
/-- the table at P is tracked so -/
def Tab (P : Addr) (H : Hp) : Prop := H P = some (.ext (TabI P))
theorem TabI.okX {P0 : Program} {w : World} {P : Addr} {H : Hp} {h : Heap} (t : TabI P h) : ObjOk P0 w H h P (.ext (TabI P)) := by
  obtain ⟨ps, e, q⟩ := t
  exact ⟨⟨ps, e, q⟩, ⟨_, e⟩, fun h1 h2 z k => by
    obtain ⟨qs, e1, q1⟩ := z
    exact ⟨qs, k _ e1, q1⟩⟩
section
variable {X : Cx} {pins : List (Addr × Obj)} {σ : L2.St} {H : Hp} {s : Shared}
/-- the table has grown, all else stands -/
theorem grow {P : Addr} {h2 : Heap} {gs : Array GenState} {dr : Drawn} {tk : Nat} (I : Inv X pins σ H s) (hP : Tab P H) (kp : ∀ b o, b ≠ P → s.heap.get? b = some o → h2.get? b = some o) (hT : TabI P h2) (hg : AllBare gs) :
    Inv X pins σ H { s with heap := h2, gens := gs, drawn := dr, toks := tk } := by
  have away : ∀ {b : Addr}, H b = none → b ≠ P := fun n z => by rw [z, hP] at n; cases n
  have other : ∀ {b : Addr} {u : HO}, H b = some u → (∀ φ, u ≠ .ext φ) → b ≠ P := fun q n z => by
    rw [z, hP] at q
    exact n _ (Option.some.inj q).symm
  refine I.step (g' := gs) (d' := dr) (ch := []) (by intro b hb; cases hb) (fun b o _ _ _ q n => kp b o (away n) q) (fun b o _ _ _ q n => ⟨_, kp b o (away n) q⟩) (fun b o _ _ n => n) ?_ (fun b xs q => q) (fun b o u q => q) (fun b ps q => ⟨#[], by rw [q, Array.append_empty]⟩) ?_ ?_ hg
  · intro b o _ q
    by_cases z : b = P
    · obtain ⟨ps, e, _⟩ := hT
      exact ⟨_, z ▸ e⟩
    · exact ⟨o, kp b o z q⟩
  · rintro m ⟨o, es, ep, ho, r⟩
    exact ⟨o, es, ep, kp _ o (away I.free) ho, r⟩
  · intro b u q
    by_cases z : b = P
    · subst z
      rw [hP] at q
      cases q
      exact hT.okX
    · refine (I.hok b u q).stay (fun d v hd e => kp d v ?_ e) (fun _ e => e) (fun _ _ e => e)
      rcases hd with hd | hd
      · rw [hd]; exact z
      · exact other hd fun φ y => by cases y
/-- what the element must be: a test of the sign that is held, the module's names at hand -/
def Elt (X : Cx) (sc : Scope) (x : Str) (elt : Expr) (pb : Nat → Bool) : Prop :=
  ∀ (env : Env) (B : Around) (Ex : Value → Shared → Prop) (c : Nat) (t : Tok) (s2 : Shared) (m2 : Str → Option Value), env.scope = sc → env.globals = mainGlobals → s2.heap.Ns mainGlobals X.mg → s2.heap.Ns env.locals m2 → m2 x = some (.str ⟨#[c]⟩ t) →
    wpAny (model X.prog X.w) B (eval elt env) (fun y s3 => y = .bool (pb c) ∧ Keeps s2 s3) Ex s2
/-- x in NAME, the name being a text of the module -/
theorem elt_in {sc : Scope} {x y : Str} {Z : Str} {tz : Tok} {p1 p2 p3 : Pos} (hk : sc.kind = .function) (hx : sc.names.lookup x = some .local) (hy : sc.names.lookup y = some .globalImplicit) (hm : X.mg y = some (.str Z tz)) (d1 : (x == ("__debug__" : Str)) = false := by decide) (d2 : (y == ("__debug__" : Str)) = false := by decide) :
    Elt X sc x (.Compare (.Name x p1) [.In] [.Name y p2] p3) (fun c => decide (c ∈ Z.cps.toList)) := by
  intro env B Ex c t s2 m2 hs hgl hG hn hm2
  refine wpAny_Compare1 ?_
  refine wpAny_Name (wpAny_loadName_local (by rw [hs]; exact hk) (by show env.scope.names.lookup x = _; rw [hs]; exact hx) hn hm2 ?_) d1
  refine Calls.Name_function_global (by rw [hs]; exact hk) (by show env.scope.names.lookup y = _; rw [hs]; exact hy) (Calls.loadGlobal_global (by rw [hgl]; exact hG) hm ?_) d2
  refine PyProof.Rows.in_str ⟨?_, GxR.keeps_refl _⟩
  rw [PySem.StrLaws.found_one Z c]
end
end GN
namespace GN
open PySem PySem.Spec PyProof.Rows L2
section
variable {X : Cx} {pins : List (Addr × Obj)} {σ : L2.St} {H : Hp} {s : Shared}
/-- the generator at g goes over the signs of z, in the state s5 -/
def Goes (X : Cx) (pins : List (Addr × Obj)) (σ : L2.St) (H1 : Hp) (z : Str) (pb : Nat → Bool) (g : Addr) (s5 : Shared) : Prop :=
  ∃ (fp wr : List Addr) (G : Array GenState → Array GenState → Prop) (F : Nat → Value → Prop) (St : Nat → Shared → Prop),
    St 0 s5 ∧ WalksS X.prog X.w X.A.in1 g fp wr G z.cps.size F St ∧ (∀ s', Moved wr G s5 s' → Inv X pins σ H1 s') ∧
    TruthOf X.prog X.w X.A.in1 F (GxR.trF pb z.cps.toList)
theorem gen_signs {c P : Addr} {elt iter : Expr} {x : Str} {px gp : Pos} {sc : Scope} {pb : Nat → Bool} {te : TE} {k : Nat} {Z : Value → Shared → Prop} {R : Str → Hp → Prop}
    (hr : Room k X.A) (TB : GxR.TabB X.base X.mg c P) (hc : X.env.code = .ref c) (S : GxR.GenS X.env sc x) (hi : PE X iter te) (hel : Elt X sc x elt pb)
    (hfold : ∀ v, genFold iter X.env v = pure v) (I : Inv X pins σ H s) (h : te σ H fun v H1 => ∃ z : Str, v = .str z ∧ Tab P H1 ∧ R z H1)
    (after : ∀ z H1 g s5, R z H1 → Goes X pins σ H1 z pb g s5 → Z (.ref g) s5) :
    wpAny (model X.prog X.w) X.A (eval (.GeneratorExp elt [⟨.Name x px, iter, [], 0⟩] sc gp) X.env) Z X.xe s := by
  have room : X.A.depth < recursionLimit := by have := hr.dp; omega
  refine wpAny_GeneratorExp_walksQ (cl := cloFrom X.env.cells sc.names []) hr.hd S.co (closure_ok S.free) S.cell S.dot S.loc S.kind room (thn (hi.run pins s σ H _ I h) ?_) hfold
  rintro xv s1 ⟨v, H1, J, rv, z, rfl, hT, hR⟩
  obtain ⟨tz, rfl⟩ := id rv
  obtain ⟨ps, eP, tr⟩ : TabI P s1.heap := (J.hok P _ hT).1
  refine wpAny_pyIter_str fun it St W st0 => ?_
  have lim : (s1.heap.push it).NoLimit := J.nolimit.push it
  refine ⟨lim, ?_⟩
  have szit : (s1.heap.push it).objs.size = s1.heap.objs.size + 1 := Heap.size_push ..
  have eP2 : (s1.heap.push it).get? P = some { cls := .none, data := .fields ps } := Heap.get?_push_of_some _ eP
  have code0 : PySem.W.CodeHd (s1.heap.push it) c P := TB.code.keeps fun b u e => Heap.get?_push_of_some _ (J.bk b u e)
  -- what follows, wherever the generator's code object comes from
  have rest : ∀ (cv : Value) (h3 : Heap) (tk : Nat), Heap.ExtBut P (s1.heap.push it) h3 → (s1.heap.push it).objs.size ≤ h3.objs.size → TabI P h3 →
      wpAny (model X.prog X.w) X.A (builtinsFor X.env.globals X.env.builtins) (fun bi s4 =>
        ∃ Ia fp wr n0 Pf St0 pz F, Value.ref s1.heap.objs.size = .ref Ia ∧ (∀ A2 : Around, A2.handled = none → Walks X.prog X.w A2 Ia fp wr n0 Pf St0) ∧ St0 0 s4.heap ∧ (∀ b ∈ fp, b < s4.heap.objs.size) ∧ s4.heap.NoLimit ∧ cStatics ∉ wr ∧
          (∀ hq : Heap, (∀ b o, s4.heap.get? b = some o → hq.get? b = some o) →
            QuietGen X.prog X.w (genEnv sc (cloFrom X.env.cells sc.names []) s4.heap.objs.size cv bi X.env) x [] elt (List.range s4.heap.objs.size) wr Pf pz F hq) ∧
          (∀ a h5 tk2 g, g.bare = true → s4.heap.objs.size < a → h5.objs.size = a + 1 → (∀ b o, s4.heap.get? b = some o → h5.get? b = some o) →
            WalksS X.prog X.w X.A.in4 a (a :: s4.heap.objs.size :: List.range s4.heap.objs.size) (s4.heap.objs.size :: wr) (GenOnlyQ s4.gens.size) (passing pz n0 0).length
              (fun j y => ∃ i, (passing pz n0 0)[j]? = some i ∧ F i y) (GenAt X.prog X.w X.A.in4 a s4.gens.size s4.heap.objs.size (List.range s4.heap.objs.size) wr pz n0 F) →
            GenAt X.prog X.w X.A.in4 a s4.gens.size s4.heap.objs.size (List.range s4.heap.objs.size) wr pz n0 F 0 { s4 with gens := s4.gens.push g, toks := tk2, heap := h5 } →
            Z (.ref a) { s4 with gens := s4.gens.push g, toks := tk2, heap := h5 })) X.xe { s1 with heap := h3, toks := tk } := by
    intro cv h3 tk ext size hT3
    obtain ⟨bm, ob, b1, b2, b3, b4, b5, b6, b7, b8⟩ := TB.bm
    have stays : ∀ b u, b ≠ P → s1.heap.get? b = some u → h3.get? b = some u := fun b u n e => ext b u n (Heap.get?_push_of_some _ e)
    have glob : h3.Ns mainGlobals X.mg := ((J.mod.glob.keeps J.bk).push it).extBut ext TB.gP
    have low : ∀ {b : Addr} {u : Obj}, s1.heap.get? b = some u → b < s1.heap.objs.size := fun e => Heap.lt_size e
    have nlim : cStatics ≠ P := fun z => by
      obtain ⟨_, ⟨o2, es, ep, ho, hd, _⟩, _⟩ := J.nolimit
      rw [z, eP] at ho
      cases ho
      cases hd
    have stat : cStatics < s1.heap.objs.size := let ⟨_, hns, _⟩ := J.nolimit; hns.lt
    refine wpAny_builtinsFor (m := X.mg) (by rw [J.ok.glob]; exact glob) b1 b2 (stays _ _ b4 (J.bk _ _ b5)) b6 b7 b8 ?_
    refine ⟨s1.heap.objs.size, [s1.heap.objs.size], [s1.heap.objs.size], z.cps.size, SignAt z, St, (fun _ => true), (fun i y => ∃ d, z.cps[i]? = some d ∧ y = .bool (pb d)), rfl, W, ?_, ?_, lim.extBut ext nlim, ?_, ?_, ?_⟩
    · refine (W X.A hr.hd).frame _ _ _ st0 fun b hb u e => ext b u (fun q => ?_) e
      have q1 : b = s1.heap.objs.size := List.mem_singleton.mp hb
      exact Nat.ne_of_lt (low eP) (q.symm.trans q1)
    · intro b hb
      rw [List.mem_singleton.mp hb]
      show s1.heap.objs.size < h3.objs.size
      omega
    · intro q
      have q1 : cStatics = s1.heap.objs.size := List.mem_singleton.mp q
      rw [q1] at stat
      exact Nat.lt_irrefl _ stat
    · intro hq hk
      constructor
      · intro A2 E2 i v s2 m2 _ _ _ _ _
        simp only [List.forIn_nil]
        exact wpAny_pure ⟨rfl, GxR.keeps_refl _⟩
      · intro A2 E2 i v s2 m2 _ hv _ hn hm kk
        obtain ⟨d, u, hd, rfl⟩ := hv
        have inR : mainGlobals ∈ List.range h3.objs.size := List.mem_range.mpr glob.lt
        have notw : mainGlobals ∉ [s1.heap.objs.size] := fun q => by
          have q1 : mainGlobals = s1.heap.objs.size := List.mem_singleton.mp q
          have q2 : mainGlobals < s1.heap.objs.size := (J.mod.glob.keeps J.bk).lt
          rw [q1] at q2
          exact Nat.lt_irrefl _ q2
        have glob2 : s2.heap.Ns mainGlobals X.mg := by
          obtain ⟨o, es, ep, e, r⟩ := glob
          exact ⟨o, es, ep, kk mainGlobals inR notw o (hk _ _ e), r⟩
        exact wpAny_mono (hel _ A2 E2 d u s2 m2 rfl J.ok.glob glob2 hn hm) (fun y s3 r => ⟨⟨d, hd, r.1⟩, r.2⟩) fun _ _ e => e
    · intro a h5 tk2 g gb low5 size5 keep5 W5 at5
      simp only [GxR.passing_true, List.length_range] at W5
      refine after z H1 a _ hR ⟨_, _, _, _, _, at5, W5.in4_1, fun s' mv => ?_, fun j y sj Qj Ej hy hQ => ?_⟩
      · have safe : ∀ b u, s1.heap.get? b = some u → b ∉ h3.objs.size :: [s1.heap.objs.size] := fun b u e hb => by
          have l1 := low e
          rcases List.mem_cons.mp hb with q | q
          · rw [q] at l1
            have l2 : (h3.objs.size : Nat) < s1.heap.objs.size := l1
            omega
          · rw [List.mem_singleton.mp q] at l1
            exact Nat.lt_irrefl _ l1
        obtain ⟨qs, e3, t3⟩ := hT3
        have Y := grow (h2 := s'.heap) (gs := s'.gens) (dr := s'.drawn) (tk := s'.toks) J hT (fun b u n e => mv.heap b u (safe b u e) (keep5 b u (stays b u n e))) ⟨qs, mv.heap P _ (safe P _ eP) (keep5 P _ e3), t3⟩ (AllBare.movedS (J.bare.push gb) mv)
        rw [GxR.sh_eta s1 s' mv.os] at Y
        exact Y
      · obtain ⟨i, ei, d, ed, rfl⟩ := hy
        obtain ⟨li, ei2⟩ := List.getElem?_eq_some_iff.mp ei
        rw [List.getElem_range] at ei2
        subst ei2
        have hQ2 : Qj (GxR.trF pb z.cps.toList j) sj := hQ
        rw [GxR.trF_some (b := d) (by rw [Array.getElem?_toList]; exact ed)] at hQ2
        exact wpAny_truthy_bool hQ2
  cases found : codeAmong gp ps.toList with
  | some cv => exact wpAny_genexprCode_hit hc (code0.code eP2 tr) found (rest cv _ s1.toks (Heap.ExtBut.refl _ _) (Nat.le_refl _) ⟨ps, eP2, tr⟩)
  | none =>
    refine wpAny_genexprCodeX hc (code0.code eP2 tr) (code0.tab eP2) found fun c2 h2 tk ext ge lt isC _ tab2 _ => ?_
    obtain ⟨_, _, _, _, _, _, _, _, _, _, _, _, _, _, _, _, _, _, _, tr2, _⟩ := isC
    exact rest _ h2 tk ext (Nat.le_trans ge (Nat.le_of_lt lt)) ⟨_, tab2.2, tr2⟩
/-- all(test for x in e), e a text -/
def tAll (P : Addr) (pb : Nat → Bool) (te : TE) : TE := fun σ H Q => te σ H fun v H1 => ∃ z : Str, v = .str z ∧ Tab P H1 ∧ Q (.bl (z.cps.toList.all pb)) H1
theorem pe_all {c P : Addr} {elt iter : Expr} {x : Str} {px p pos gp : Pos} {sc : Scope} {pb : Nat → Bool} {te : TE} {k : Nat}
    (hr : Room k X.A) (hg : Gl X "all") (hm : X.mg "all" = none) (TB : GxR.TabB X.base X.mg c P) (hc : X.env.code = .ref c) (S : GxR.GenS X.env sc x) (hi : PE X iter te) (hel : Elt X sc x elt pb)
    (hfold : ∀ v, genFold iter X.env v = pure v) (hb : bootBuiltins "all" = some (.builtin "all") := by decide +kernel)
    (one : starEach [.GeneratorExp elt [⟨.Name x px, iter, [], 0⟩] sc gp] X.env = (false, eval (.GeneratorExp elt [⟨.Name x px, iter, [], 0⟩] sc gp) X.env) :: starEach [] X.env := by rfl) :
    PE X (.Call (.Name "all" p) [.GeneratorExp elt [⟨.Name x px, iter, [], 0⟩] sc gp] [] pos) (tAll P pb te) := by
  constructor
  intro pins s σ H Q I h
  refine wpAny_Call_Name_kw (ld_blt I hg hm hb (PyProof.Rows.callWith_builtin1 ?_ one (by rfl)))
  rw [one]
  show wpAny _ _ (spliced ((false, eval (.GeneratorExp elt [⟨.Name x px, iter, [], 0⟩] sc gp) X.env) :: backTo pos (starEach [] X.env))) _ _ s
  refine Calls.spliced_cons (gen_signs (R := fun z H1 => Q (.bl (z.cps.toList.all pb)) H1) hr TB hc S hi hel hfold I h fun z H1 g s5 hR hG => Calls.spliced_nil ?_)
  obtain ⟨fp, wr, G, F, St, st, W, inv, tr⟩ := hG
  refine call_all_walkS (W.self 0 _ _ _ st ⟨g, fp, wr, G, _, F, St, _, rfl, W, st, tr, fun s' mv => ⟨.bl _, H1, inv s' mv, rfl, ?_⟩⟩)
  rw [GxR.all_signs z pb]
  exact hR
end
end GN

/-! The program's words, with their places. -/
namespace K8
open PySem L2 TL
open K0 (isFig isLet isAl isBl kws mks inM sigs kind Toks toks_nil toks_blank toks_word inM_iff)
open KD (Blt in_strs flat_strs)
abbrev sPlaced : Stmt := KD.S_placed_words
abbrev sCheck : Stmt := KD.S_check_text
abbrev sWordAt : Stmt := KD.S_word_at
abbrev sSigns : Stmt := KD.S_signs_at
abbrev sRunEnd : Stmt := KD.S_run_end
abbrev sKind : Stmt := KD.S_kind_of
abbrev sIsNum : Stmt := KD.S_is_number
/-- what the top has written, of words -/
structure Txt (K : PySem.W.Frag) (mg : Str → Option Value) : Prop where
  all : mg "all" = none
  keys : ∃ a, mg "KEYS" = some (.ref a) ∧ ∀ H, SqT K H a (kws.map V.str)
  marks : ∃ a, mg "MARKS" = some (.ref a) ∧ ∀ H, SqT K H a (mks.map V.str)
  figs : ∃ t, mg "FIGURES" = some (.str "0123456789" t)
  lets : ∃ t, mg "LETTERS" = some (.str "abcdefghijklmnopqrstuvwxyz" t)
  blanks : ∃ t, mg "BLANKS" = some (.str " \n" t)
  mSigns : ∃ t, mg "MOST_SIGNS" = some (.int 100000 t)
  mFigs : ∃ t, mg "MOST_FIGURES" = some (.int 6 t)
  mLets : ∃ t, mg "MOST_LETTERS" = some (.int 12 t)
def figS : Str := "0123456789"
def letS : Str := "abcdefghijklmnopqrstuvwxyz"
theorem figS_tl : tl figS = [48, 49, 50, 51, 52, 53, 54, 55, 56, 57] := by decide +kernel
theorem letS_tl : tl letS = [97, 98, 99, 100, 101, 102, 103, 104, 105, 106, 107, 108, 109, 110, 111, 112, 113, 114, 115, 116, 117, 118, 119, 120, 121, 122] := by decide +kernel
theorem in_fig (c : Nat) : decide (c ∈ tl figS) = isFig c := by
  rw [figS_tl, Bool.eq_iff_iff]
  unfold isFig
  simp only [List.mem_cons, List.not_mem_nil, or_false, decide_eq_true_eq, Bool.and_eq_true]
  omega
theorem in_let (c : Nat) : decide (c ∈ tl letS) = isLet c := by
  rw [letS_tl, Bool.eq_iff_iff]
  unfold isLet
  simp only [List.mem_cons, List.not_mem_nil, or_false, decide_eq_true_eq, Bool.and_eq_true]
  omega
theorem in_bl (c : Nat) : decide (c ∈ tl (" \n" : Str)) = isBl c := by
  rw [show tl (" \n" : Str) = [32, 10] by decide +kernel, Bool.eq_iff_iff]
  unfold isBl
  simp only [List.mem_cons, List.not_mem_nil, or_false, decide_eq_true_eq, Bool.or_eq_true, beq_iff_eq]
/-- the sign at a place -/
theorem sign_at {z : Str} {n c : Nat} {r : List Nat} (h : (tl z).drop n = c :: r) : atI (tl z) ((n : Nat) : Int) = some c ∧ n < z.length := by
  have hlt : n < (tl z).length := by
    apply Classical.byContradiction
    intro q
    rw [List.drop_eq_nil_of_le (by omega)] at h
    cases h
  have e := List.drop_eq_getElem_cons hlt
  rw [h] at e
  injection e with e1 e2
  exact ⟨atI_nat (by rw [List.getElem?_eq_getElem hlt, e1]), by rw [len_tl]; exact hlt⟩

section
variable {P : Program} {w : World} {K : PySem.W.Frag} {mg : Str → Option Value} {base : Heap}
/-- check_text: a text that is not too long -/
def spCheck : Sp := fun vs H Q _ => ∃ z : Str, vs = [.str z] ∧ z.length ≤ 100000 ∧ ∀ H', Same H H' → Q .non H'
theorem scCheck : FnScope ["value"] ["value"] (defScope sCheck) := ⟨rfl, rfl, rfl, by decide +kernel, rfl, by decide +kernel, by decide +kernel⟩
theorem ok_check {f : Addr} {fd : FuncData} (F : Fun K "check_text" "check_text" sCheck f fd) (T : Txt K mg) (B : Blt mg) : FnOk P w K mg base CX0 1 f fd ["value"] spCheck := by
  refine F.ok scCheck (fun vs H Q E h => ?_) (fun cdv A outer s0 H vs Q E hr h => ?_)
  · obtain ⟨z, rfl, _⟩ := h
    rfl
  obtain ⟨z, rfl, hz, k⟩ := h
  obtain ⟨t, mS⟩ := T.mSigns
  have hz' : z.length ≤ sizeLine := Nat.le_trans hz (by decide)
  refine ⟨_, pss_cons (ps_if (pt_not (pt_val (pe_callB call_isi (by rfl) B.isi (by decide +kernel) (pa_cons (pv 0) (pa_cons (pe_bltn (v := .ty "str") (by rfl) B.str (by decide +kernel) rfl) pa_nil))))) pss_never pss_nil)
    (pss_one (ps_if (pt_cmpR op_gt (pe_callB call_len_str (by rfl) B.len PySem.boot_len (pa_cons (pv 0) pa_nil)) (pe_glob (v := .int 100000) rfl mS ⟨_, rfl⟩) (nomark _)) pss_never pss_nil)), ?_⟩
  refine ⟨_, rfl, _, _, _, _, true, rfl, .ty "str", .base (.str _), kit_ty (by decide +kernel), true, rfl, iteF ?_⟩
  refine ⟨_, rfl, z, rfl, hz', _, _, rfl, rfl, _, rfl, ?_⟩
  refine ite2 (fun c => ?_) (fun c => ?_)
  · have q : ((z.length : Nat) : Int) > 100000 := of_decide_eq_true c
    omega
  · exact k H (Same.refl H)

/-- run_end -/
def spRunEnd : Sp := fun vs H Q _ => ∃ (z sg : Str) (n : Nat) (p : Nat → Bool), vs = [.str z, .int n, .str sg] ∧ z.length ≤ 100000 ∧ n ≤ z.length ∧ (∀ c, decide (c ∈ tl sg) = p c) ∧
  ∀ H', Same H H' → Q (.int ((n + (((tl z).drop n).takeWhile p).length : Nat) : Int)) H'
theorem scRunEnd : FnScope ["text", "at", "signs"] ["text", "at", "signs"] (defScope sRunEnd) := ⟨rfl, rfl, rfl, by decide +kernel, rfl, by decide +kernel, by decide +kernel⟩
theorem ok_runEnd {f : Addr} {fd : FuncData} (F : Fun K "run_end" "run_end" sRunEnd f fd) (T : Txt K mg) (B : Blt mg) : FnOk P w K mg base CX0 1 f fd ["text", "at", "signs"] spRunEnd := by
  refine F.ok scRunEnd (fun vs H Q E h => ?_) (fun cdv A outer s0 H vs Q E hr h => ?_)
  · obtain ⟨z, sg, n, p, rfl, _⟩ := h
    rfl
  obtain ⟨z, sg, n, p, rfl, hz, hn, hp, k⟩ := h
  have hz' : z.length ≤ sizeLine := Nat.le_trans hz (by decide)
  refine ⟨_, pss_cons (ps_while PassesOwn.never
      (PW.pt (pw_and (pt_cmpR op_lt (pv 1) (pe_callB call_len_str (by rfl) B.len PySem.boot_len (pa_cons (pv 0) pa_nil)) (nomark _)) (pw_and1 (pt_cmpR op_in_sign (pe_ix ix_str (pv 0) (pv 1) (fun _ _ => rfl)) (pv 2) (by rfl)))))
      (pss_one (ps_aug (i := 1) scRunEnd.nd rfl (Or.inl rfl) pe_int ip_add)))
    (pss_one (ps_ret (pv 1))), ?_⟩
  refine while_by (fun σ H' => ∃ m : Nat, σ = [some (.str z), some (.int m), some (.str sg)] ∧ m ≤ z.length ∧ Same H H' ∧ n + (((tl z).drop n).takeWhile p).length = m + (((tl z).drop m).takeWhile p).length)
    (fun σ _ => match σ with | [_, some (.int m), _] => z.length - m.toNat | _ => 0) ⟨n, rfl, hn, Same.refl H, rfl⟩ ?_ ?_
  · rintro σ H' ⟨m, rfl, hm, sm, e⟩
    refine ⟨_, rfl, _, rfl, z, rfl, hz', _, _, rfl, rfl, _, rfl, ?_⟩
    refine ite2 (fun c => ?_) (fun c => ?_)
    · have hlt : m < z.length := by
        have q : ((m : Nat) : Int) < ((z.length : Nat) : Int) := of_decide_eq_true c
        omega
      obtain ⟨ch, rr, hd⟩ : ∃ ch rr, (tl z).drop m = ch :: rr := ⟨_, _, List.drop_eq_getElem_cons (by rw [← len_tl]; exact hlt)⟩
      have hd1 : (tl z).drop (m + 1) = rr := by
        rw [← List.drop_drop, hd] <;> rfl
      refine ⟨_, rfl, _, rfl, z, _, ch, rfl, rfl, hz', (sign_at hd).1, _, rfl, ch, sg, rfl, rfl, _, rfl, ?_⟩
      rw [hp ch]
      refine ite2 (fun c1 => ?_) (fun c1 => ?_)
      · refine ⟨_, rfl, _, _, rfl, rfl, ?_⟩
        refine ⟨⟨m + 1, rfl, by omega, sm, ?_⟩, ?_⟩
        · rw [e, hd, hd1, List.takeWhile_cons, if_pos c1, List.length_cons]
          omega
        · show z.length - ((m : Int) + 1).toNat < z.length - (m : Int).toNat
          omega
      · refine ⟨_, rfl, ?_⟩
        have q := k H' sm
        rw [e, hd, List.takeWhile_cons, if_neg c1] at q
        exact q
    · have hlt : ¬ m < z.length := by
        have q : ¬ ((m : Nat) : Int) < ((z.length : Nat) : Int) := of_decide_eq_false (Bool.eq_false_iff.mpr c)
        omega
      refine iteF ?_
      refine ⟨_, rfl, ?_⟩
      have q := k H' sm
      rw [e, List.drop_eq_nil_of_le (by rw [← len_tl]; omega)] at q
      exact q
  · intro σ H' Q1 Q2 hq h
    obtain ⟨v1, e1, v0, e0, z1, e2, hz1, i1, j1, ei, ej, k1, ek, h⟩ := h
    refine ⟨v1, e1, v0, e0, z1, e2, hz1, i1, j1, ei, ej, k1, ek, ?_⟩
    by_cases hk : k1 = true
    · rw [if_pos hk] at h
      rw [if_pos hk]
      obtain ⟨v2, e3, v3, e4, z2, i2, c2, e5, e6, hz2, e7, v4, e8, c3, z3, e9, e10, k2, e11, h⟩ := h
      exact ⟨v2, e3, v3, e4, z2, i2, c2, e5, e6, hz2, e7, v4, e8, c3, z3, e9, e10, k2, e11, hq _ _ h⟩
    · rw [if_neg hk] at h
      rw [if_neg hk]
      exact hq _ _ h
end
theorem one_zero (c : Nat) : decide (V.str ⟨#[c]⟩ = V.str "0") = (c == 48) := by
  rw [Bool.eq_iff_iff, decide_eq_true_iff, beq_iff_eq]
  have e0 : ("0" : Str) = ⟨#[48]⟩ := by decide +kernel
  constructor
  · intro h
    have h1 := V.str.inj h
    rw [e0] at h1
    have h2 : tl (⟨#[c]⟩ : Str) = tl (⟨#[48]⟩ : Str) := by rw [h1]
    exact (List.cons.inj h2).1
  · intro h
    subst h
    rw [e0]
theorem cut_tl {z : Str} {n m : Nat} (h1 : n ≤ z.length) : tl (cutS z (some (n : Int)) (some (m : Int))) = ((tl z).drop n).take (m - n) := by
  unfold cutS
  rw [tl_mk, HT.sIx_nat, HT.sIx_nat, Nat.min_eq_left h1]
  by_cases h : m ≤ z.length
  · rw [Nat.min_eq_left h]
  · rw [Nat.min_eq_right (by omega)]
    rw [List.take_of_length_le (i := m - n), List.take_of_length_le]
    · rw [List.length_drop, ← len_tl]; omega
    · rw [List.length_drop, ← len_tl]; omega
theorem take_while (p : Nat → Bool) : ∀ l : List Nat, l.take (l.takeWhile p).length = l.takeWhile p
  | [] => rfl
  | c :: l => by
    rw [List.takeWhile_cons]
    by_cases h : p c = true
    · rw [if_pos h, List.length_cons, List.take_succ_cons, take_while p l]
    · rw [if_neg h]; rfl
theorem cut_run {z : Str} {n : Nat} (p : Nat → Bool) (h1 : n ≤ z.length) : cutS z (some (n : Int)) (some ((n + (((tl z).drop n).takeWhile p).length : Nat) : Int)) = ⟨(((tl z).drop n).takeWhile p).toArray⟩ := by
  apply ext_tl
  rw [cut_tl h1, tl_mk, Nat.add_sub_cancel_left, take_while]
theorem mem_mks {z : Str} : decide (z ∈ mks) = inM (tl z) := by
  rw [Bool.eq_iff_iff, decide_eq_true_iff, inM_iff]
  constructor
  · intro h; exact ⟨z, h, rfl⟩
  · rintro ⟨m, hm, e⟩
    rw [← ext_tl e]
    exact hm
def sigS (l : List Nat) : Str := ⟨(sigs l).toArray⟩
def isNum (z : Str) : Bool := match tl z with
  | [] => false
  | c :: _ => if c == 48 then decide (z = "0") else decide ((tl z).length ≤ 6)
theorem kind_eq {w : Str} {c : Nat} {r : List Nat} (e : tl w = c :: r) : kind w =
    if w ∈ kws then some ("key" : Str) else if w ∈ mks then some ("mark" : Str) else if (isLet c && decide (w.length ≤ 12)) = true then some ("name" : Str) else if (isFig c && isNum w) = true then some ("number" : Str) else none := by
  unfold kind isNum
  rw [len_tl]
  simp only [e]
/-- is_number, of so many figures at most -/
def isNumB (m : Nat) (z : Str) : Bool := decide (1 ≤ z.length) && decide (z.length ≤ m) && (tl z).all isFig && (!(match tl z with | c :: _ => c == 48 | [] => false) || decide (z = "0"))
/-- a def whose code object is at c -/
structure FunT (K : PySem.W.Frag) (x qual : Str) (st : Stmt) (f : Addr) (fd : FuncData) (c : Addr) : Prop where
  ex : ∃ (oc : Value) (od : Option Addr) (kV doc pm : Value) (an : Option Addr) (ct : Value) (osl : Array (Option Value)),
    fd = PySem.W.fnOf x qual (defArgs st) (defBody st) (defScope st) .none kV doc pm an (.ref c) ct ∧ K.lookup f = some ⟨oc, od, .func fd, osl⟩ ∧ PySem.W.codeIn K (.ref c) qual = true
section
variable {P : Program} {w : World} {K : PySem.W.Frag} {mg : Str → Option Value} {base : Heap}
theorem FunT.ok {x qual : Str} {st : Stmt} {f c : Addr} {fd : FuncData} {N ps : List Str} {k : Nat} {sp : Sp} (F : FunT K x qual st f fd c) (S : FnScope N ps (defScope st)) (ln : ∀ vs H Q E, sp vs H Q E → vs.length = ps.length)
    (body : ∀ (A : Around) (outer : List Env) (s : Shared) (H : Hp) (vs : List V) (Q : VK) (E : XK), Room k (A.deeper (PyProof.Rows.envOfC qual (defScope st) s.heap.objs.size f (.ref c))) → sp vs H Q E →
      ∃ t, PSs (cxOf CX0 P w K mg base N qual (defScope st) f (.ref c) A outer s H E) (defBody st) t ∧ t { nx := fun _ H' => Q .non H', rt := Q } (start N vs) H) : FnOk P w K mg base CX0 (k + 1) f fd ps sp := by
  obtain ⟨oc, od, kV, doc, pm, an, ct, osl, rfl, lk, hcd⟩ := F.ex
  exact fn_of lk hcd S ln body
def spIsNum (PT : Addr) : Sp := fun vs H Q _ => ∃ (z : Str) (m : Nat), vs = [.str z, .int (m : Nat)] ∧ z.length ≤ 100000 ∧ GN.Tab PT H ∧ Q (.bl (isNumB m z)) H
theorem scGen {env : Env} : GxR.GenS env { kind := ScopeKind.function, names := [(PySem.Str.ofString ".0", PySem.NameKind.local), (PySem.Str.ofString "sign", PySem.NameKind.local), (PySem.Str.ofString "FIGURES", PySem.NameKind.globalImplicit)], isGenerator := true, isCoroutine := false, more := [] : Scope } "sign" := by
  refine ⟨rfl, rfl, ?_, rfl, rfl, ?_⟩
  · decide +kernel
  · intro y hy e
    have no : ∀ y ∈ ([(PySem.Str.ofString ".0", PySem.NameKind.local), (PySem.Str.ofString "sign", PySem.NameKind.local), (PySem.Str.ofString "FIGURES", PySem.NameKind.globalImplicit)] : List (Str × NameKind)), y.2 ≠ .free := by decide +kernel
    exact absurd e (no y hy)
theorem scIsNum : FnScope ["signs", "most"] ["signs", "most"] (defScope sIsNum) := ⟨rfl, rfl, rfl, by decide +kernel, rfl, by decide +kernel, by decide +kernel⟩
theorem ok_isNum {f c PT : Addr} {fd : FuncData} (F : FunT K "is_number" "is_number" sIsNum f fd c) (T : Txt K mg) (B : Blt mg) (TB : GxR.TabB base mg c PT) : FnOk P w K mg base CX0 2 f fd ["signs", "most"] (spIsNum PT) := by
  refine F.ok scIsNum (fun vs H Q E h => ?_) (fun A outer s0 H vs Q E hr h => ?_)
  · obtain ⟨z, m, rfl, _⟩ := h
    rfl
  obtain ⟨z, m, rfl, hz, hT, k⟩ := h
  obtain ⟨t, mF⟩ := T.figs
  have hz' : z.length ≤ sizeLine := Nat.le_trans hz (by decide)
  refine ⟨_, pss_cons (ps_if (PW.pt (pw_or (pt_not (pt_chain op_le op_le pe_int (pe_callB call_len_str (by rfl) B.len PySem.boot_len (pa_cons (pv 0) pa_nil)) (pv 1)))
      (pw_or1 (pt_not (pt_val (GN.pe_all (k := 1) (P := PT) (c := c) hr rfl T.all TB rfl scGen (pv 0) (GN.elt_in (Z := "0123456789") rfl rfl rfl mF) (fun _ => rfl))))))) (pss_one (ps_ret pe_bl)) pss_nil)
    (pss_one (ps_ret (pe_or (pe_cmpR op_ne (pe_ix ix_str (pv 0) pe_int (fun _ _ => rfl)) pe_str (nomark _)) (pe_one (pe_cmpR op_eq (pv 0) pe_str (nomark _)))))), ?_⟩
  refine ⟨_, rfl, z, rfl, hz', _, _, rfl, rfl, _, rfl, ?_⟩
  have no : ∀ b : Bool, b = false → isNumB m z = b → Q (.bl false) H := fun b e q => by rw [q, e] at k; exact k
  refine ite2 (fun c1 => ?_) (fun c1 => ?_)
  · refine ⟨_, rfl, _, _, rfl, rfl, _, rfl, ?_⟩
    have l1 : 1 ≤ z.length := by
      have q : (1 : Int) ≤ ((z.length : Nat) : Int) := of_decide_eq_true c1
      omega
    show if (!decide (((z.length : Nat) : Int) ≤ ((m : Nat) : Int))) = true then _ else _
    by_cases l2 : z.length ≤ m
    · rw [show decide (((z.length : Nat) : Int) ≤ ((m : Nat) : Int)) = true from decide_eq_true (by omega)]
      refine iteF ?_
      refine ⟨_, rfl, z, rfl, hT, _, rfl, ?_⟩
      have ef : z.cps.toList.all (fun c => decide (c ∈ ("0123456789" : Str).cps.toList)) = (tl z).all isFig := by
        show (tl z).all _ = _
        congr 1
        funext c
        exact in_fig c
      rw [ef]
      cases hf : (tl z).all isFig with
      | false =>
        refine iteT (no _ rfl ?_)
        unfold isNumB
        rw [hf, Bool.and_false, Bool.false_and]
      | true =>
        refine iteF ?_
        cases e : tl z with
        | nil =>
          rw [len_tl, e] at l1
          exact absurd l1 (by decide)
        | cons d r =>
          have hd : (tl z).drop 0 = d :: r := e
          refine ⟨_, rfl, z, _, d, rfl, rfl, hz', (sign_at hd).1, rfl, _, rfl, ?_⟩
          have e3 : isNumB m z = (!(d == 48) || decide (z = "0")) := by
            unfold isNumB
            rw [hf, decide_eq_true l1, decide_eq_true l2]
            simp only [e, Bool.true_and]
          rw [e3] at k
          rw [one_zero]
          cases d0 : (d == 48) with
          | false =>
            rw [d0] at k
            exact iteT k
          | true =>
            rw [d0] at k
            refine iteF ?_
            refine ⟨_, rfl, rfl, ?_⟩
            have e4 : decide (V.str z = V.str "0") = decide (z = "0") := by
              rw [Bool.eq_iff_iff, decide_eq_true_iff, decide_eq_true_iff]
              exact ⟨fun q => V.str.inj q, fun q => by rw [q]⟩
            rw [e4]
            exact k
    · rw [show decide (((z.length : Nat) : Int) ≤ ((m : Nat) : Int)) = false from decide_eq_false (by omega)]
      refine iteT (no _ rfl ?_)
      unfold isNumB
      rw [decide_eq_false l2, Bool.and_false, Bool.false_and, Bool.false_and]
  · refine ⟨_, rfl, ?_⟩
    have l1 : ¬ 1 ≤ z.length := by
      have q : ¬ (1 : Int) ≤ ((z.length : Nat) : Int) := of_decide_eq_false (Bool.eq_false_iff.mpr c1)
      omega
    refine iteT (no _ rfl ?_)
    unfold isNumB
    rw [decide_eq_false l1, Bool.false_and, Bool.false_and, Bool.false_and]
end
end K8

/-! The program's words, with their places: kinds, words, all words. -/
namespace K8
open PySem L2 TL
open K0 (isFig isLet isAl isBl kws mks inM sigs kind Toks toks_nil toks_blank toks_word inM_iff)
open KD (Blt in_strs flat_strs)
theorem num_ok {z : Str} {c : Nat} {r : List Nat} (e : tl z = c :: r) (hf : (tl z).all isFig = true) (h : isNum z = true) : isNumB 6 z = true := by
  unfold isNum at h
  unfold isNumB
  rw [hf]
  rw [e] at h
  have h' : (if (c == 48) = true then decide (z = "0") else decide ((c :: r).length ≤ 6)) = true := h
  have l1 : 1 ≤ z.length := by rw [len_tl, e, List.length_cons]; omega
  rw [decide_eq_true l1]
  by_cases c1 : (c == 48) = true
  · rw [if_pos c1] at h'
    have q : z.length ≤ 6 := by
      have q2 := of_decide_eq_true h'
      subst q2
      decide +kernel
    rw [decide_eq_true q, h']
    simp only [Bool.or_true, Bool.and_true]
  · rw [if_neg c1] at h'
    have q : z.length ≤ 6 := by
      have q2 := of_decide_eq_true h'
      rw [len_tl, e]
      exact q2
    rw [decide_eq_true q]
    simp only [e, Bool.eq_false_iff.mpr c1, Bool.not_false, Bool.true_or, Bool.and_true]
section
variable {P : Program} {w : World} {K : PySem.W.Frag} {mg : Str → Option Value} {base : Heap}
def spKind (PT : Addr) : Sp := fun vs H Q _ => ∃ (z k : Str), vs = [.str z] ∧ tl z ≠ [] ∧ z.length ≤ 100000 ∧ kind z = some k ∧ (∀ c r, tl z = c :: r → isFig c = true → (tl z).all isFig = true) ∧ GN.Tab PT H ∧ Q (.str k) H
theorem scKind : FnScope ["word"] ["word"] (defScope sKind) := ⟨rfl, rfl, rfl, by decide +kernel, rfl, by decide +kernel, by decide +kernel⟩
theorem ok_kind {f fN PT : Addr} {fd fdN : FuncData} (F : Fun K "kind_of" "kind_of" sKind f fd) (T : Txt K mg) (B : Blt mg) (GN' : FnOk P w K mg base CX0 2 fN fdN ["signs", "most"] (spIsNum PT)) (mN : mg "is_number" = some (.ref fN)) (kN : PySem.W.keepIn K (.ref fN) = true) (bN : Binds K fdN ["signs", "most"] []) :
    FnOk P w K mg base CX0 3 f fd ["word"] (spKind PT) := by
  refine F.ok scKind (fun vs H Q E h => ?_) (fun cdv A outer s0 H vs Q E hr h => ?_)
  · obtain ⟨z, _, rfl, _⟩ := h
    rfl
  obtain ⟨z, kk, rfl, hn, hz, hk, hfa, hT, k⟩ := h
  obtain ⟨aK, mK, sK⟩ := T.keys
  obtain ⟨aM, mM, sM⟩ := T.marks
  obtain ⟨t2, mL⟩ := T.lets
  obtain ⟨t3, mX⟩ := T.mLets
  obtain ⟨t4, mG⟩ := T.mFigs
  have hz' : z.length ≤ sizeLine := Nat.le_trans hz (by decide)
  cases e : tl z with
  | nil => exact absurd e hn
  | cons c r =>
    have hd : (tl z).drop 0 = c :: r := e
    rw [kind_eq e] at hk
    refine ⟨_, pss_cons (ps_if (pt_cmpR op_in_seq (pv 0) (pe_glob (v := .ref aK) rfl mK rfl) (by rfl)) (pss_one (ps_ret pe_str)) pss_nil)
      (pss_cons (ps_if (pt_cmpR op_in_seq (pv 0) (pe_glob (v := .ref aM) rfl mM rfl) (by rfl)) (pss_one (ps_ret pe_str)) pss_nil)
      (pss_cons (ps_if (PW.pt (pw_and (pt_cmpR op_in_sign (pe_ix ix_str (pv 0) pe_int (fun _ _ => rfl)) (pe_glob (v := .str letS) rfl mL ⟨_, rfl⟩) (by rfl))
          (pw_and1 (pt_cmpR op_le (pe_callB call_len_str (by rfl) B.len PySem.boot_len (pa_cons (pv 0) pa_nil)) (pe_glob (v := .int 12) rfl mX ⟨_, rfl⟩) (nomark _))))) (pss_one (ps_ret pe_str)) pss_nil)
      (pss_cons (ps_if (pt_val (pe_call GN' hr rfl mN kN bN .nil pass0 (pa_cons (pv 0) (pa_cons (pe_glob (v := .int 6) rfl mG ⟨_, rfl⟩) pa_nil)))) (pss_one (ps_ret pe_str)) pss_nil) pss_never))), ?_⟩
    refine ⟨_, rfl, aK, _, rfl, .inr (sK _), rfl, flat_strs _, _, rfl, ?_⟩
    show if inV (.str z) (kws.map V.str) = true then _ else _
    rw [in_strs]
    refine ite2 (fun c1 => ?_) (fun c1 => ?_)
    · rw [if_pos (of_decide_eq_true c1)] at hk
      cases hk
      exact k
    rw [if_neg (fun q => c1 (decide_eq_true q))] at hk
    refine ⟨_, rfl, aM, _, rfl, .inr (sM _), rfl, flat_strs _, _, rfl, ?_⟩
    show if inV (.str z) (mks.map V.str) = true then _ else _
    rw [in_strs]
    refine ite2 (fun c2 => ?_) (fun c2 => ?_)
    · rw [if_pos (of_decide_eq_true c2)] at hk
      cases hk
      exact k
    rw [if_neg (fun q => c2 (decide_eq_true q))] at hk
    refine ⟨_, rfl, z, _, c, rfl, rfl, hz', (sign_at hd).1, c, letS, rfl, rfl, _, rfl, ?_⟩
    rw [show decide (c ∈ letS.cps.toList) = isLet c from in_let c]
    refine ite2 (fun c3 => ?_) (fun c3 => ?_)
    · refine ⟨_, rfl, z, rfl, hz', _, _, rfl, rfl, _, rfl, ?_⟩
      rw [c3, Bool.true_and] at hk
      have nf : isFig c = false := (K0.let_fig c3).1
      rw [nf, Bool.false_and, if_neg Bool.false_ne_true] at hk
      refine ite2 (fun c4 => ?_) (fun c4 => ?_)
      · have q : ((z.length : Nat) : Int) ≤ 12 := of_decide_eq_true c4
        rw [if_pos (decide_eq_true (by omega))] at hk
        cases hk
        exact k
      · have q : ¬ ((z.length : Nat) : Int) ≤ 12 := of_decide_eq_false (Bool.eq_false_iff.mpr c4)
        rw [if_neg (fun q2 => q (by have := of_decide_eq_true q2; omega))] at hk
        cases hk
    · refine iteF ?_
      rw [Bool.eq_false_iff.mpr c3, Bool.false_and, if_neg Bool.false_ne_true] at hk
      by_cases c5 : (isFig c && isNum z) = true
      · rw [if_pos c5] at hk
        cases hk
        rw [Bool.and_eq_true] at c5
        refine ⟨_, rfl, z, 6, rfl, hz, hT, true, ?_, iteT k⟩
        rw [num_ok e (hfa c r e c5.1) c5.2]
      · rw [if_neg c5] at hk
        cases hk
def spSigns : Sp := fun vs H Q _ => ∃ (z : Str) (n c : Nat) (r : List Nat), vs = [.str z, .int n] ∧ z.length ≤ 100000 ∧ (tl z).drop n = c :: r ∧ ∀ H', Same H H' → Q (.str (sigS (c :: r))) H'
theorem scSigns : FnScope ["text", "at", "signs"] ["text", "at"] (defScope sSigns) := ⟨rfl, rfl, rfl, by decide +kernel, rfl, by decide +kernel, by decide +kernel⟩
theorem ok_signs {f fR : Addr} {fd fdR : FuncData} (F : Fun K "signs_at" "signs_at" sSigns f fd) (T : Txt K mg) (GR : FnOk P w K mg base CX0 1 fR fdR ["text", "at", "signs"] spRunEnd) (mR : mg "run_end" = some (.ref fR)) (kR : PySem.W.keepIn K (.ref fR) = true) (bR : Binds K fdR ["text", "at", "signs"] []) :
    FnOk P w K mg base CX0 2 f fd ["text", "at"] spSigns := by
  refine F.ok scSigns (fun vs H Q E h => ?_) (fun cdv A outer s0 H vs Q E hr h => ?_)
  · obtain ⟨z, n, c, r, rfl, _⟩ := h
    rfl
  obtain ⟨z, n, c, r, rfl, hz, hd, k⟩ := h
  obtain ⟨aM, mM, sM⟩ := T.marks
  obtain ⟨t1, mF⟩ := T.figs
  obtain ⟨t2, mL⟩ := T.lets
  have hz' : z.length ≤ sizeLine := Nat.le_trans hz (by decide)
  have hc := (sign_at hd).1
  have hn := (sign_at hd).2
  refine ⟨_, pss_cons (ps_for PassesOwn.never rfl (pi_tup (pe_tup (pa_cons (pe_glob (v := .str figS) rfl mF ⟨_, rfl⟩) (pa_cons (pe_glob (v := .str letS) rfl mL ⟨_, rfl⟩) pa_nil)))) (pg_name (i := 2) scSigns.nd rfl (Or.inl rfl))
      (pss_one (ps_if (pt_cmpR op_in_sign (pe_ix ix_str (pv 0) (pv 1) (fun _ _ => rfl)) (pv 2) (by rfl))
        (pss_one (ps_ret (pe_slice sl_str (pv 0) (po_some (pv 1)) (po_some (pe_call GR hr rfl mR kR bR .nil pass0 (pa_cons (pv 0) (pa_cons (pv 1) (pa_cons (pv 2) pa_nil)))))))) pss_nil)))
    (pss_cons (ps_if (pt_cmpR op_in_seq (pe_slice sl_str (pv 0) (po_some (pv 1)) (po_some (pe_op op_add (pv 1) pe_int))) (pe_glob (v := .ref aM) rfl mM rfl) (by rfl))
      (pss_one (ps_ret (pe_slice sl_str (pv 0) (po_some (pv 1)) (po_some (pe_op op_add (pv 1) pe_int))))) pss_nil)
    (pss_one (ps_ret (pe_ix ix_str (pv 0) (pv 1) (fun _ _ => rfl))))), ?_⟩
  refine ⟨(by show 2 ≤ sizeLine; decide), fun p hp => ?_⟩
  have s1 : Same H (upd H p (.tup [.str figS, .str letS])) := fun b o q => by rw [upd_ne (ne_of_none q hp)]; exact q
  refine ⟨p, rfl, ⟨_, SqT.of upd_same⟩, for_tup (K := K) (a := p) (xs := [.str figS, .str letS]) (fun i σ H' => H' = upd H p (.tup [.str figS, .str letS]) ∧ (∃ v, σ = [some (.str z), some (.int n), v]) ∧ (1 ≤ i → isFig c = false) ∧ (2 ≤ i → isLet c = false))
    ⟨rfl, ⟨none, rfl⟩, fun q => absurd q (by decide), fun q => absurd q (by decide)⟩ (fun i σ H' _ ⟨e, _⟩ => by rw [e]; exact SqT.of upd_same) ?_ ?_⟩
  · rintro i x σ H' hi ⟨rfl, ⟨v, rfl⟩, h1, h2⟩
    obtain ⟨sg, pp, rfl, hpp, hsig, hnext⟩ : ∃ (sg : Str) (pp : Nat → Bool), x = .str sg ∧ (∀ c, decide (c ∈ tl sg) = pp c) ∧ (pp c = true → sigs (c :: r) = (c :: r).takeWhile pp) ∧ (pp c = false → (1 ≤ i + 1 → isFig c = false) ∧ (2 ≤ i + 1 → isLet c = false)) := by
      match i, hi with
      | 0, hi =>
        have e := Option.some.inj hi
        refine ⟨figS, isFig, e.symm, in_fig, fun q => ?_, fun q => ⟨fun _ => q, fun q2 => absurd q2 (by decide)⟩⟩
        show (if isFig c = true then _ else _) = _
        rw [if_pos q]
      | 1, hi =>
        have e := Option.some.inj hi
        refine ⟨letS, isLet, e.symm, in_let, fun q => ?_, fun q => ⟨fun _ => h1 (by decide), fun _ => q⟩⟩
        show (if isFig c = true then _ else if isLet c = true then _ else _) = _
        rw [if_neg (by rw [h1 (by decide)]; exact Bool.false_ne_true), if_pos q]
      | j + 2, hi => cases hi
    refine ⟨_, rfl, _, rfl, z, _, c, rfl, rfl, hz', hc, _, rfl, c, sg, rfl, rfl, _, rfl, ?_⟩
    rw [show decide (c ∈ sg.cps.toList) = pp c from hpp c]
    refine ite2 (fun c1 => ?_) (fun c1 => ?_)
    · refine ⟨_, rfl, _, rfl, n, rfl, _, rfl, _, rfl, _, rfl, z, sg, n, pp, rfl, hz, Nat.le_of_lt hn, hpp, fun H2 s2 => ⟨_, rfl, z, rfl, hz', ?_⟩⟩
      have q := k H2 (s1.trans s2)
      have e : cutS z (some (n : Int)) (some ((n + (((tl z).drop n).takeWhile pp).length : Nat) : Int)) = sigS (c :: r) := by
        rw [cut_run pp (Nat.le_of_lt hn), hd, ← hsig c1]
        rfl
      rw [e]
      exact q
    · exact ⟨rfl, ⟨_, rfl⟩, (hnext (Bool.eq_false_iff.mpr c1)).1, (hnext (Bool.eq_false_iff.mpr c1)).2⟩
  · rintro σ H' ⟨rfl, ⟨v, rfl⟩, h1, h2⟩
    have hF := h1 (by decide)
    have hL := h2 (by decide)
    have e2 : tl (cutS z (some (n : Int)) (some ((n : Int) + 2))) = (c :: r).take 2 := by
      have q := cut_tl (z := z) (n := n) (m := n + 2) (Nat.le_of_lt hn)
      rw [Nat.add_sub_cancel_left, hd] at q
      exact q
    have es : sigs (c :: r) = if inM ((c :: r).take 2) = true then (c :: r).take 2 else [c] := by
      show (if isFig c = true then _ else if isLet c = true then _ else _) = _
      rw [if_neg (by rw [hF]; exact Bool.false_ne_true), if_neg (by rw [hL]; exact Bool.false_ne_true)]
    refine ⟨_, rfl, _, rfl, n, rfl, _, rfl, _, _, rfl, rfl, _, rfl, z, rfl, hz', aM, _, rfl, .inr (sM _), rfl, flat_strs _, _, rfl, ?_⟩
    show if inV (.str (cutS z (some (n : Int)) (some ((n : Int) + 2)))) (mks.map V.str) = true then _ else _
    rw [in_strs, mem_mks, e2]
    refine ite2 (fun c1 => ?_) (fun c1 => ?_)
    · refine ⟨_, rfl, _, rfl, n, rfl, _, rfl, _, _, rfl, rfl, _, rfl, z, rfl, hz', ?_⟩
      have q := k _ s1
      have e3 : sigS (c :: r) = cutS z (some (n : Int)) (some ((n : Int) + 2)) := by
        apply ext_tl
        rw [e2]
        show sigs (c :: r) = _
        rw [es, if_pos c1]
      rw [e3] at q
      exact q
    · refine ⟨_, rfl, _, rfl, z, _, c, rfl, rfl, hz', hc, ?_⟩
      have q := k _ s1
      have e3 : sigS (c :: r) = ⟨#[c]⟩ := by
        apply ext_tl
        show sigs (c :: r) = [c]
        rw [es, if_neg c1]
      rw [e3] at q
      exact q

def spWordAt (PT : Addr) : Sp := fun vs H Q _ => ∃ (z ww kk : Str) (n c : Nat) (r : List Nat), vs = [.str z, .int n] ∧ z.length ≤ 100000 ∧ (tl z).drop n = c :: r ∧ sigs (c :: r) = tl ww ∧ tl ww ≠ [] ∧ ww.length ≤ 100000 ∧ kind ww = some kk ∧ GN.Tab PT H ∧
  ∀ H' t, Same H H' → H' t = some (.tup [.str kk, .str ww]) → Q (.ref t) H'
theorem scWordAt : FnScope ["text", "at", "word", "kind"] ["text", "at"] (defScope sWordAt) := ⟨rfl, rfl, rfl, by decide +kernel, rfl, by decide +kernel, by decide +kernel⟩
theorem ok_wordAt {f fS fK PT : Addr} {fd fdS fdK : FuncData} (F : Fun K "word_at" "word_at" sWordAt f fd) (T : Txt K mg) (GS : FnOk P w K mg base CX0 2 fS fdS ["text", "at"] spSigns) (mS : mg "signs_at" = some (.ref fS)) (kS : PySem.W.keepIn K (.ref fS) = true) (bS : Binds K fdS ["text", "at"] [])
    (GK : FnOk P w K mg base CX0 3 fK fdK ["word"] (spKind PT)) (mK : mg "kind_of" = some (.ref fK)) (kK : PySem.W.keepIn K (.ref fK) = true) (bK : Binds K fdK ["word"] []) :
    FnOk P w K mg base CX0 4 f fd ["text", "at"] (spWordAt PT) := by
  refine F.ok scWordAt (fun vs H Q E h => ?_) (fun cdv A outer s0 H vs Q E hr h => ?_)
  · obtain ⟨z, ww, kk, n, c, r, rfl, _⟩ := h
    rfl
  obtain ⟨z, ww, kk, n, c, r, rfl, hz, hd, hs, hw, hwl, hk, hT, k⟩ := h
  have hr2 : Room 2 _ := hr.mono (by decide)
  refine ⟨_, pss_cons (ps_set (i := 2) scWordAt.nd rfl (Or.inl rfl) (pe_call GS hr2 rfl mS kS bS .nil pass0 (pa_cons (pv 0) (pa_cons (pv 1) pa_nil))))
    (pss_cons (ps_set (i := 3) scWordAt.nd rfl (Or.inl rfl) (pe_call GK hr rfl mK kK bK .nil pass0 (pa_cons (pv 2) pa_nil)))
    (pss_cons (ps_if (pt_cmp (pc_isN (pv 3))) pss_never pss_nil)
    (pss_one (ps_ret (pe_tup (pa_cons (pv 3) (pa_cons (pv 2) pa_nil))))))), ?_⟩
  have e : sigS (c :: r) = ww := by
    apply ext_tl
    exact hs
  refine ⟨_, rfl, _, rfl, z, n, c, r, rfl, hz, hd, fun H1 s1 => ?_⟩
  rw [e]
  refine ⟨_, rfl, ww, kk, rfl, hw, hwl, hk, fun d q e1 hf => ?_, s1 _ _ hT, ?_⟩
  · have e2 : d = c := by
      have e3 : sigs (c :: r) = d :: q := hs.trans e1
      have e4 : sigs (c :: r) = if isFig c = true then (c :: r).takeWhile isFig else if isLet c = true then (c :: r).takeWhile isLet else if inM ((c :: r).take 2) = true then (c :: r).take 2 else [c] := rfl
      rw [e4] at e3
      split at e3
      · rename_i q1
        rw [List.takeWhile_cons, if_pos q1] at e3
        exact (List.cons.inj e3).1.symm
      split at e3
      · rename_i q1 q2
        rw [List.takeWhile_cons, if_pos q2] at e3
        exact (List.cons.inj e3).1.symm
      split at e3
      · exact (List.cons.inj e3).1.symm
      · exact (List.cons.inj e3).1.symm
    subst e2
    rw [← hs]
    show (if isFig d = true then (d :: r).takeWhile isFig else _ : List Nat).all isFig = true
    rw [if_pos hf]
    exact List.all_takeWhile
  refine ⟨_, rfl, _, rfl, iteF ?_⟩
  refine ⟨_, rfl, _, rfl, (by show 2 ≤ sizeLine; decide), fun t ht => ?_⟩
  exact k _ t (s1.trans fun b o q => by rw [upd_ne (ne_of_none q ht)]; exact q) upd_same

end
end K8

/-! The program's words, with their places: the whole list. -/
namespace KD
open PySem L2 TL
open K0 (isFig isLet isAl isBl kws mks inM sigs kind Toks toks_nil toks_blank toks_word)
open K8 (Txt sPlaced spCheck spWordAt sign_at in_bl)
section
variable {P : Program} {w : World} {K : PySem.W.Frag} {mg : Str → Option Value} {base : Heap}
def spPlaced (K : PySem.W.Frag) (PT : Addr) : Sp := fun vs H Q _ => ∃ (z : Str) (ws : List (Str × Str)), vs = [.str z] ∧ z.length ≤ 100000 ∧ Toks (tl z) ws ∧ GN.Tab PT H ∧
  ∀ (H' : Hp) (p : Addr) (vs : List V) (ts : List T3), Same H H' → H p = none → H' p = some (.lst vs) → DpAll K H' vs (ts.map T3.d) → ts.map T3.tk = ws → ts.length ≤ z.length → Q (.ref p) H'
theorem scPlaced : FnScope ["text", "found", "at", "kind", "word"] ["text"] (defScope sPlaced) := ⟨rfl, rfl, rfl, by decide +kernel, rfl, by decide +kernel, by decide +kernel⟩
theorem ok_placed {f fC fA PT : Addr} {fd fdC fdA : FuncData} (F : Fun K "placed_words" "placed_words" sPlaced f fd) (T : Txt K mg) (B : Blt mg) (GC : FnOk P w K mg base CX0 1 fC fdC ["value"] spCheck) (mC : mg "check_text" = some (.ref fC)) (kC : PySem.W.keepIn K (.ref fC) = true) (bC : Binds K fdC ["value"] [])
    (GA : FnOk P w K mg base CX0 4 fA fdA ["text", "at"] (spWordAt PT)) (mA : mg "word_at" = some (.ref fA)) (kA : PySem.W.keepIn K (.ref fA) = true) (bA : Binds K fdA ["text", "at"] []) :
    FnOk P w K mg base CX0 5 f fd ["text"] (spPlaced K PT) := by
  refine F.ok scPlaced (fun vs H Q E h => ?_) (fun cdv A outer s0 H vs Q E hr h => ?_)
  · obtain ⟨z, ws, rfl, _⟩ := h
    rfl
  obtain ⟨z, ws, rfl, hz, hT, hTab, k⟩ := h
  obtain ⟨tB, mB⟩ := T.blanks
  have hz' : z.length ≤ sizeLine := Nat.le_trans hz (by decide)
  have hr1 : Room 1 _ := hr.mono (by decide)
  refine ⟨_, pss_cons (ps_expr (pe_call GC hr1 rfl mC kC bC .nil pass0 (pa_cons (pv 0) pa_nil)))
    (pss_cons (ps_set (i := 1) scPlaced.nd rfl (Or.inl rfl) (pe_lst pa_nil))
    (pss_cons (ps_set (i := 2) scPlaced.nd rfl (Or.inl rfl) pe_int)
    (pss_cons (ps_while PassesOwn.never (pt_cmpR op_lt (pv 2) (pe_callB call_len_str (by rfl) B.len PySem.boot_len (pa_cons (pv 0) pa_nil)) (nomark _))
      (pss_one (ps_if (pt_cmpR op_in_sign (pe_ix ix_str (pv 0) (pv 2) (fun _ _ => rfl)) (pe_glob (v := .str " \n") rfl mB ⟨_, rfl⟩) (by rfl))
        (pss_one (ps_aug (i := 2) scPlaced.nd rfl (Or.inl rfl) pe_int ip_add))
        (pss_cons (ps_asg (pe_call GA hr rfl mA kA bA .nil pass0 (pa_cons (pv 0) (pa_cons (pv 2) pa_nil))) (pg_tup rfl (pgs_cons (pg_name (i := 3) scPlaced.nd rfl (Or.inl rfl)) (pgs_cons (pg_name (i := 4) scPlaced.nd rfl (Or.inl rfl)) pgs_nil))))
        (pss_cons (ps_expr (pe_bm PySem.F.plainAttrs_list PySem.F.slot_list_append PySem.F.type_list_append mt_append (pv 1) (pa_cons (pe_tup (pa_cons (pv 3) (pa_cons (pv 4) (pa_cons (pe_op op_add (pv 2) pe_int) pa_nil)))) pa_nil)))
        (pss_one (ps_aug (i := 2) scPlaced.nd rfl (Or.inl rfl) (pe_callB call_len_str (by rfl) B.len PySem.boot_len (pa_cons (pv 4) pa_nil)) ip_add)))))))
    (pss_one (ps_ret (pv 1)))))), ?_⟩
  refine ⟨_, rfl, z, rfl, hz, fun H1 s1 => ?_⟩
  refine ⟨Nat.zero_le _, fun p hp => ?_⟩
  refine while_by (fun σ H' => ∃ (n : Nat) (v3 v4 : Option V) (vs : List V) (done : List T3) (rest : List (Str × Str)), σ = [some (.str z), some (.ref p), some (.int n), v3, v4] ∧ n ≤ z.length ∧ Same H1 H' ∧ H' p = some (.lst vs) ∧ DpAll K H' vs (done.map T3.d) ∧ ws = done.map T3.tk ++ rest ∧ Toks ((tl z).drop n) rest ∧ vs.length ≤ n)
    (fun σ _ => match σ with | [_, _, some (.int m), _, _] => z.length - m.toNat | _ => 0)
    ⟨0, none, none, [], [], ws, rfl, Nat.zero_le _, (fun b o q => by rw [upd_ne (ne_of_none q hp)]; exact q), upd_same, .nil, rfl, hT, Nat.le_refl _⟩ ?_ ?_
  · rintro σ H' ⟨n, v3, v4, vs, done, rest, rfl, hn, s2, hvs, tT, ew, hR, hlen⟩
    refine ⟨_, rfl, _, rfl, z, rfl, hz', _, _, rfl, rfl, _, rfl, ?_⟩
    refine ite2 (fun c => ?_) (fun c => ?_)
    · have hlt : n < z.length := by
        have q : ((n : Nat) : Int) < ((z.length : Nat) : Int) := of_decide_eq_true c
        omega
      obtain ⟨ch, rr, hd⟩ : ∃ ch rr, (tl z).drop n = ch :: rr := ⟨_, _, List.drop_eq_getElem_cons (by rw [← len_tl]; exact hlt)⟩
      rw [hd] at hR
      refine ⟨_, rfl, _, rfl, z, _, ch, rfl, rfl, hz', (sign_at hd).1, ch, _, rfl, rfl, _, rfl, ?_⟩
      rw [show decide (ch ∈ (" \n" : Str).cps.toList) = isBl ch from in_bl ch]
      refine ite2 (fun c1 => ?_) (fun c1 => ?_)
      · refine ⟨_, rfl, _, _, rfl, rfl, ?_⟩
        have hd1 : (tl z).drop (n + 1) = rr := by rw [← List.drop_drop, hd] <;> rfl
        refine ⟨⟨n + 1, v3, v4, vs, done, rest, rfl, by omega, s2, hvs, tT, ew, ?_, by omega⟩, ?_⟩
        · rw [hd1]
          exact toks_blank c1 hR
        · show z.length - ((n : Int) + 1).toNat < z.length - (n : Int).toNat
          omega
      · obtain ⟨ww, kk, cs, us, e1, hw, hsg, hk, erest, hcs⟩ := toks_word (Bool.eq_false_iff.mpr c1) hR
        have hl1 : (tl z).length = n + ((tl ww).length + cs.length) := by
          have q : ((tl z).drop n).length = (tl ww).length + cs.length := by rw [hd, e1, List.length_append]
          rw [List.length_drop] at q
          rw [len_tl] at hlt
          omega
        have hwl : n + ww.length ≤ z.length := by
          rw [len_tl z, len_tl ww]
          omega
        have hwp : 1 ≤ ww.length := by
          rw [len_tl]
          cases e : tl ww with
          | nil => exact absurd e hw
          | cons a b => rw [List.length_cons]; omega
        refine ⟨_, rfl, _, rfl, z, ww, kk, n, ch, rr, rfl, hz, hd, hsg, hw, by omega, hk, s2 _ _ (s1 _ _ hTab), fun H3 t s3 ht => ?_⟩
        refine ⟨t, _, rfl, SqT.of ht, rfl, _, _, rfl, _, _, rfl, rfl, ?_⟩
        have hvs3 := s3 _ _ hvs
        have tT3 : DpAll K H3 vs (done.map T3.d) := DpAll.same s3 tT
        refine ⟨_, rfl, .inl ⟨rfl, _, SqL.of hvs3⟩, _, rfl, _, rfl, _, rfl, _, _, rfl, rfl, (by show 3 ≤ sizeLine; decide), fun t2 ht2 => ?_⟩
        have npt : p ≠ t2 := ne_of_none hvs3 ht2
        refine ⟨p, vs, _, rfl, rfl, by rw [upd_ne npt]; exact hvs3, Nat.lt_of_le_of_lt (by omega : vs.length ≤ 100000) (by decide), ?_⟩
        refine ⟨_, rfl, _, rfl, ww, rfl, Nat.le_trans (by omega : ww.length ≤ 100000) (by decide), _, _, rfl, rfl, ?_⟩
        have d2 : Dp K (upd H3 t2 (.tup [.str kk, .str ww, .int ((n : Nat) + 1)])) (.ref t2) (T3.d ⟨kk, ww, n + 1⟩) := Dp.new ht2 (.cons (.str kk) (.cons (.str ww) (.cons (.int _) .nil)))
        have tT4 : DpAll K (upd H3 t2 (.tup [.str kk, .str ww, .int ((n : Nat) + 1)])) vs (done.map T3.d) := DpAll.same (same_new ht2 _) tT3
        have hp4 : (upd H3 t2 (.tup [.str kk, .str ww, .int ((n : Nat) + 1)])) p = some (.lst vs) := by rw [upd_ne npt]; exact hvs3
        have kt : KT K (upd H3 t2 (.tup [.str kk, .str ww, .int ((n : Nat) + 1)])) (upd (upd H3 t2 (.tup [.str kk, .str ww, .int ((n : Nat) + 1)])) p (.lst (vs ++ [.ref t2]))) := KT.upd hp4 _
        refine ⟨⟨n + ww.length, _, _, vs ++ [.ref t2], done ++ [⟨kk, ww, n + 1⟩], us, rfl, hwl, fun b o q => ?_, upd_same, ?_, ?_, ?_, ?_⟩, ?_⟩
        · have q3 := s3 _ _ (s2 _ _ q)
          rw [upd_ne (ne_of_none q hp), upd_ne (ne_of_none q3 ht2)]
          exact q3
        · rw [List.map_append]
          exact DpAll.snoc (Dp.kt kt rfl d2) (DpAll.kt kt (tupDs_T3 _) tT4)
        · rw [ew, erest, List.map_append, List.append_assoc]
          rfl
        · have q : (tl z).drop (n + ww.length) = cs := by
            rw [← List.drop_drop, hd, e1, len_tl, List.drop_left]
          rw [q]
          exact hcs
        · rw [List.length_append, List.length_singleton]
          omega
        · show z.length - ((n : Int) + (ww.length : Int)).toNat < z.length - (n : Int).toNat
          omega
    · have hlt : ¬ n < z.length := by
        have q : ¬ ((n : Nat) : Int) < ((z.length : Nat) : Int) := of_decide_eq_false (Bool.eq_false_iff.mpr c)
        omega
      rw [List.drop_eq_nil_of_le (by rw [← len_tl]; omega)] at hR
      have er := toks_nil hR
      rw [er, List.append_nil] at ew
      have ln : done.length ≤ z.length := by
        have q := DpAll.length tT
        rw [List.length_map] at q
        omega
      have hp0 : H p = none := by
        cases q : H p with
        | none => rfl
        | some o =>
          rw [s1 _ _ q] at hp
          cases hp
      exact ⟨_, rfl, k H' p vs done (s1.trans s2) hp0 hvs tT ew.symm ln⟩
  · intro σ H' Q1 Q2 hq h
    obtain ⟨v1, e1, v0, e0, z1, e2, hz1, i1, j1, ei, ej, k1, ek, h⟩ := h
    exact ⟨v1, e1, v0, e0, z1, e2, hz1, i1, j1, ei, ej, k1, ek, hq _ _ h⟩
end
end KD

/-! The reader's statements, of any depth; how it begins; a text without definitions, read. -/
namespace KD
open PySem L2 TL
open K0 (num Toks)
structure RFns2 (K : PySem.W.Frag) (C : Addr) : Prop where
  low : RFns K C
  block : MF K C "block" "Reader.block" S_Reader_block ["self"]
  sts : MF K C "statements" "Reader.statements" S_Reader_statements ["self"]
  st : MF K C "statement" "Reader.statement" S_Reader_statement ["self"]
  setName : MF K C "set_name" "Reader.set_name" S_Reader_set_name ["self"]
  last : MF K C "last_value" "Reader.last_value" S_Reader_last_value ["self"]
  other : MF K C "other_block" "Reader.other_block" S_Reader_other_block ["self"]
  passed : MF K C "passed" "Reader.passed" S_Reader_passed ["self"]
section
variable {P : Program} {w : World} {K : PySem.W.Frag} {mg : Str → Option Value} {base : Heap} {C : Addr}
theorem sok (F : RFns2 K C) (B : Blt mg) (T : RTxt K mg C) (L : RLow P w K mg base C) : ∀ d, Mth P w K mg base C (105 + 4 * d) "statements" ["self"] (spSts K C d) := by
  obtain ⟨f1, fd1, F1⟩ := F.block
  obtain ⟨f2, fd2, F2⟩ := F.sts
  obtain ⟨f3, fd3, F3⟩ := F.st
  obtain ⟨f4, fd4, F4⟩ := F.setName
  obtain ⟨f5, fd5, F5⟩ := F.last
  obtain ⟨f6, fd6, F6⟩ := F.other
  obtain ⟨f7, fd7, F7⟩ := F.passed
  have hE : Mth P w K mg base C 101 "expression" ["self"] (spExpr K C 10) := (rok F.low B T L 10).expr
  have hN : Mth P w K mg base C 102 "set_name" ["self"] (spSetName K C) := F4.mth (ok_setName F4.F T L hE (by decide))
  have hV : Mth P w K mg base C 102 "last_value" ["self"] (spLast K C) := F5.mth (ok_last F5.F T L hE (by decide))
  have hA : Mth P w K mg base C 102 "passed" ["self"] (spPassed K C) := F7.mth (ok_passed F7.F B T L hE (by decide))
  have step : ∀ d, Mth P w K mg base C (102 + 4 * d) "block" ["self"] (spBlk K C d) → Mth P w K mg base C (105 + 4 * d) "statements" ["self"] (spSts K C d) := fun d hB => by
    have hO : Mth P w K mg base C (103 + 4 * d) "other_block" ["self"] (spOther K C d) := (F6.mth (ok_other (n := 102 + 4 * d) F6.F T L hB (by omega))).mono (by omega)
    have hS : Mth P w K mg base C (104 + 4 * d) "statement" ["self"] (spSt K C d) :=
      (F3.mth (ok_st (n := 103 + 4 * d) F3.F T L (hE.mono (by omega)) (hN.mono (by omega)) (hV.mono (by omega)) (hA.mono (by omega)) (hB.mono (by omega)) hO (by omega))).mono (by omega)
    exact (F2.mth (ok_sts (n := 104 + 4 * d) F2.F B T L hS (by omega))).mono (by omega)
  intro d
  induction d with
  | zero => exact step 0 (F1.mth ok_blk0)
  | succ d ih => exact step (d + 1) ((F1.mth (ok_blk (n := 105 + 4 * d) F1.F T L ih (by omega))).mono (by omega))
theorem KT.ins {H : Hp} {r C dx : Addr} {fs : List (Str × V)} (h : H r = some (.ins C dx fs)) (o : HO) : KT K H (L2.upd H r o) := fun a xs q => by
  rcases q with (q | ⟨u, q⟩) | q
  · exact .inl (.inl (by rw [upd_ne (ne_of q h (by intro z; cases z))]; exact q))
  · exact .inl (.inr ⟨u, by rw [upd_ne (ne_of q h (by intro z; cases z))]; exact q⟩)
  · exact .inr q
/-- a new reader -/
def spInit (K : PySem.W.Frag) (C PT : Addr) : Sp := fun vs H Q _ => ∃ (r dx : Addr) (z : Str) (ws : List (Str × Str)), vs = [.ref r, .str z] ∧ H r = some (.ins C dx []) ∧ z.length ≤ 100000 ∧ Toks (tl z) ws ∧ GN.Tab PT H ∧
  ∀ (H' : Hp) (R : Rd), R.r = r → (∀ b o, b ≠ r → H b = some o → H' b = some o) → RdAt K C R H' 0 0 [] → R.ts.map T3.tk = ws ++ [((("end" : Str), ("" : Str)) : Str × Str)] → H R.tA = none → H R.pA = none → Q .non H'
theorem scInit : FnScope ["self", "text"] ["self", "text"] (defScope S_Reader___init__) := ⟨rfl, rfl, rfl, by decide +kernel, rfl, by decide +kernel, by decide +kernel⟩
theorem ok_init {f fW PT : Addr} {fd fdW : FuncData} (F : Fun K "__init__" "Reader.__init__" S_Reader___init__ f fd) (B : Blt mg) (T : RTxt K mg C) (GW : FnOk P w K mg base CX0 5 fW fdW ["text"] (spPlaced K PT)) (mW : mg "placed_words" = some (.ref fW)) (kW : PySem.W.keepIn K (.ref fW) = true) (bW : Binds K fdW ["text"] []) :
    FnOk P w K mg base CX0 6 f fd ["self", "text"] (spInit K C PT) := by
  refine F.ok scInit (fun vs H Q E h => ?_) (fun cdv A outer s0 H vs Q E hr h => ?_)
  · obtain ⟨r, dx, z, ws, rfl, _⟩ := h
    rfl
  obtain ⟨r, dx, z, ws, rfl, hI, hz, hT, hTab, k⟩ := h
  have hz' : z.length ≤ sizeLine := Nat.le_trans hz (by decide)
  refine ⟨_, pss_cons (ps_fld (pv 0) (pe_call GW hr rfl mW kW bW .nil pass0 (pa_cons (pv 1) pa_nil)) rfl)
    (pss_cons (ps_expr (pe_bm PySem.F.plainAttrs_list PySem.F.slot_list_append PySem.F.type_list_append mt_append (pe_fld (pv 0) rfl) (pa_cons (pe_tup (pa_cons pe_str (pa_cons pe_str (pa_cons (pe_op op_add (pe_callB call_len_str (by rfl) B.len PySem.boot_len (pa_cons (pv 1) pa_nil)) pe_int) pa_nil)))) pa_nil)))
    (pss_cons (ps_fld (pv 0) pe_int rfl)
    (pss_cons (ps_fld (pv 0) pe_int rfl)
    (pss_one (ps_fld (pv 0) (pe_lst pa_nil) rfl))))), ?_⟩
  refine ⟨_, rfl, z, ws, rfl, hz, hT, hTab, fun H1 tA vs ts s1 n1 h1 d1 e1 l1 => ?_⟩
  have hI1 := s1 _ _ hI
  have nrt : r ≠ tA := fun e => by rw [e, n1] at hI; cases hI
  refine ⟨_, rfl, r, C, dx, _, rfl, hI1, T.cl, T.nT, (by show 0 < 1000; decide), ?_⟩
  have i2 : (upd H1 r (.ins C dx (putF "told" (.ref tA) []))) r = some (.ins C dx (putF "told" (.ref tA) [])) := upd_same
  have h2 : (upd H1 r (.ins C dx (putF "told" (.ref tA) []))) tA = some (.lst vs) := by rw [upd_ne nrt.symm]; exact h1
  have lk : (putF "told" (.ref tA) ([] : List (Str × V))).lookup ("told" : Str) = some (V.ref tA) := by rw [lookup_putF, if_pos rfl]
  refine ⟨_, rfl, r, C, dx, _, _, rfl, i2, T.cl, T.nT, lk, .inl ⟨rfl, _, SqL.of h2⟩, _, rfl, z, rfl, hz', _, _, rfl, rfl, (by show 3 ≤ sizeLine; decide), fun t np => ?_⟩
  generalize eH2 : upd H1 r (.ins C dx (putF "told" (.ref tA) [])) = H2 at i2 h2 np
  have nt1 : tA ≠ t := ne_of_none h2 np
  have nr1 : r ≠ t := ne_of_none i2 np
  have dn : Dp K (upd H2 t (.tup [.str "end", .str "", .int ((z.length : Nat) + 1)])) (.ref t) (T3.d ⟨"end", "", z.length + 1⟩) := Dp.new np (.cons (.str _) (.cons (.str _) (.cons (.int _) .nil)))
  have dl : vs.length ≤ 100000 := by
    have q := DpAll.length d1
    rw [List.length_map] at q
    omega
  refine ⟨tA, vs, _, rfl, rfl, by rw [upd_ne nt1]; exact h2, Nat.lt_of_le_of_lt dl (by decide), ?_⟩
  have kt1 : KT K H1 H2 := by rw [← eH2]; exact KT.ins hI1 _
  have kt2 : KT K H2 (upd H2 t (.tup [.str "end", .str "", .int ((z.length : Nat) + 1)])) := KT.same (same_new np _)
  have h3 : (upd H2 t (.tup [.str "end", .str "", .int ((z.length : Nat) + 1)])) tA = some (.lst vs) := by rw [upd_ne nt1]; exact h2
  have i3 : (upd H2 t (.tup [.str "end", .str "", .int ((z.length : Nat) + 1)])) r = some (.ins C dx (putF "told" (.ref tA) [])) := by rw [upd_ne nr1]; exact i2
  have k3 : ∀ b o, b ≠ r → H b = some o → (upd H2 t (.tup [.str "end", .str "", .int ((z.length : Nat) + 1)])) b = some o := fun b o n q => by
    have q1 := s1 _ _ q
    have q2 : H2 b = some o := by rw [← eH2, upd_ne n]; exact q1
    rw [upd_ne (ne_of_none q2 np)]
    exact q2
  have d3 := DpAll.kt (kt1.trans kt2) (tupDs_T3 ts) d1
  generalize upd H2 t (.tup [.str "end", .str "", .int ((z.length : Nat) + 1)]) = H3 at dn h3 i3 k3 d3
  have kt4 : KT K H3 (upd H3 tA (.lst (vs ++ [.ref t]))) := KT.upd h3 _
  have d4 : DpAll K (upd H3 tA (.lst (vs ++ [.ref t]))) (vs ++ [.ref t]) ((ts ++ [(⟨"end", "", z.length + 1⟩ : T3)]).map T3.d) := by
    rw [List.map_append]
    exact DpAll.snoc (Dp.kt kt4 rfl dn) (DpAll.kt kt4 (tupDs_T3 ts) d3)
  have i4 : (upd H3 tA (.lst (vs ++ [.ref t]))) r = some (.ins C dx (putF "told" (.ref tA) [])) := by rw [upd_ne nrt]; exact i3
  have h4 : (upd H3 tA (.lst (vs ++ [.ref t]))) tA = some (.lst (vs ++ [.ref t])) := upd_same
  have k4 : ∀ b o, b ≠ r → H b = some o → (upd H3 tA (.lst (vs ++ [.ref t]))) b = some o := fun b o n q => by
    rw [upd_ne (ne_of_none q n1)]
    exact k3 b o n q
  generalize upd H3 tA (.lst (vs ++ [.ref t])) = H4 at d4 i4 h4 k4
  -- at, nests
  refine ⟨_, rfl, r, C, dx, _, rfl, i4, T.cl, T.nA, (by show 1 < 1000; decide), ?_⟩
  refine ⟨_, rfl, r, C, dx, _, rfl, upd_same, T.cl, T.nN, (by simp only [putF, if_neg to_at]; show 2 < 1000; decide), ?_⟩
  rw [upd_upd]
  refine ⟨Nat.zero_le _, fun pA np5 => ?_⟩
  have i5 : (upd H4 r (.ins C dx (putF "nests" (.int 0) (putF "at" (.int 0) (putF "told" (.ref tA) []))))) r = some (.ins C dx (putF "nests" (.int 0) (putF "at" (.int 0) (putF "told" (.ref tA) [])))) := upd_same
  have nrp : r ≠ pA := ne_of_none i5 np5
  have h5 : (upd H4 r (.ins C dx (putF "nests" (.int 0) (putF "at" (.int 0) (putF "told" (.ref tA) []))))) tA = some (.lst (vs ++ [.ref t])) := by rw [upd_ne nrt.symm]; exact h4
  have ntp : tA ≠ pA := ne_of_none h5 np5
  have kt5 : KT K H4 (upd H4 r (.ins C dx (putF "nests" (.int 0) (putF "at" (.int 0) (putF "told" (.ref tA) []))))) := KT.ins i4 _
  have d5 := DpAll.kt kt5 (tupDs_T3 _) d4
  have k5 : ∀ b o, b ≠ r → H b = some o → (upd H4 r (.ins C dx (putF "nests" (.int 0) (putF "at" (.int 0) (putF "told" (.ref tA) []))))) b = some o := fun b o n q => by
    rw [upd_ne n]
    exact k4 b o n q
  generalize upd H4 r (.ins C dx (putF "nests" (.int 0) (putF "at" (.int 0) (putF "told" (.ref tA) [])))) = H5 at np5 i5 h5 d5 k5
  have nP : H pA = none := by
    by_cases c : pA = r
    · exact absurd c.symm nrp
    · cases q : H pA with
      | none => rfl
      | some o =>
        rw [k5 _ _ c q] at np5
        cases np5
  refine ⟨_, rfl, r, C, dx, _, rfl, (by rw [upd_ne nrp]; exact i5), T.cl, T.nP, (by simp only [putF, if_neg to_at, if_neg to_ne, if_neg at_ne]; show 3 < 1000; decide), ?_⟩
  have kt6 : KT K H5 (upd (upd H5 pA (.lst [])) r (.ins C dx (rf tA pA 0 0))) := (KT.same (same_new np5 (.lst []))).trans (KT.ins (C := C) (dx := dx) (by rw [upd_ne nrp]; exact i5) _)
  refine k _ ⟨r, tA, pA, vs ++ [.ref t], ts ++ [⟨"end", "", z.length + 1⟩]⟩ rfl (fun b o n q => ?_) ⟨⟨dx, upd_same⟩, ?_, ?_, ?_, ntp, ?_⟩ ?_ n1 nP
  · rw [upd_ne n, upd_ne (ne_of_none q nP)]
    exact k5 b o n q
  · show upd (upd H5 pA (.lst [])) r _ tA = _
    rw [upd_ne nrt.symm, upd_ne ntp]
    exact h5
  · exact DpAll.kt kt6 (tupDs_T3 _) d5
  · show upd (upd H5 pA (.lst [])) r _ pA = _
    rw [upd_ne nrp.symm, upd_same]
    rfl
  · show (ts ++ [_]).length ≤ 100002
    rw [List.length_append, List.length_singleton]
    omega
  · rw [List.map_append, e1]
    rfl
end
end KD

/-! A text without definitions, read. -/
namespace KD
open PySem L2 TL
open K0 (num Toks)
def endT : Tk := (("end" : Str), ("" : Str))
theorem endFo : Fo endT := ⟨by decide +kernel, by decide +kernel⟩
theorem endSt : endT.2 ∉ stW := by decide +kernel
/-- what is asked of the program's reading where no text has definitions -/
def spRead0 (K : PySem.W.Frag) (PT : Addr) : Sp := fun vs H Q _ => ∃ (X : Str) (p : Pr), vs = [.str X] ∧ p.defs = [] ∧ Rdb X p ∧ GN.Tab PT H ∧ ∀ H' v, Same H H' → Dp K H' v p.d → Q v H'
def spProg0 (K : PySem.W.Frag) (C : Addr) : Sp := fun vs H Q _ => ∃ (R : Rd) (b : List St) (t : List Tk), vs = [.ref R.r] ∧ RdAt K C R H 0 0 [] ∧ At R 0 (t ++ [endT]) ∧ GB 3 b t ∧ wfB b ∧
  ∀ H' v, KeepR R H H' → Dp K H' v (Pr.d ⟨[], b⟩) → Q v H'
section
variable {P : Program} {w : World} {K : PySem.W.Frag} {mg : Str → Option Value} {base : Heap} {C : Addr}
abbrev progN : List Str := ["self", "definitions", "names", "definition", "statements"]
theorem scProg : FnScope progN ["self"] (defScope S_Reader_program) := ⟨rfl, rfl, rfl, by decide +kernel, rfl, by decide +kernel, by decide +kernel⟩
theorem ok_prog0 {n : Nat} {f : Addr} {fd : FuncData} (F : Fun K "program" "Reader.program" S_Reader_program f fd) (B : Blt mg) (T : RTxt K mg C) (L : RLow P w K mg base C) (hS : Mth P w K mg base C n "statements" ["self"] (spSts K C 3)) (hn : 2 ≤ n) : FnOk P w K mg base CX0 (n + 1) f fd ["self"] (spProg0 K C) := by
  refine F.ok scProg (fun vs H Q E h => ?_) (fun cdv A outer s0 H vs Q E hr h => ?_)
  · obtain ⟨R, b, t, rfl, _⟩ := h
    rfl
  obtain ⟨R, b, t, rfl, h, ha, hg, hw, q⟩ := h
  obtain ⟨fS, fdS, GS', mS, bS⟩ := hS.ex
  obtain ⟨fP, fdP, GP', mP, bP⟩ := L.passes.ex
  obtain ⟨fK, fdK, GK, mK, bK⟩ := L.kind.ex
  have hr1 : Room 1 _ := hr.mono (by omega)
  have hr2 : Room 2 _ := hr.mono hn
  refine ⟨_, pss_cons (ps_set (i := 1) scProg.nd rfl (Or.inl rfl) (pe_lst pa_nil))
    (pss_cons (ps_set (i := 2) scProg.nd rfl (Or.inl rfl) pe_dnewK)
    (pss_cons (ps_while PassesOwn.never (pt_val (pe_meth (pv 0) T.cl mP GP' hr2 bP .nil pass0 (pa_cons pe_str pa_nil))) pss_never)
    (pss_cons (ps_set (i := 4) scProg.nd rfl (Or.inl rfl) (pe_meth0 (pv 0) T.cl mS GS' hr bS .nil pass0))
    (pss_cons (ps_if (pt_cmpR op_ne (pe_meth0 (pv 0) T.cl mK GK hr1 bK .nil pass0) pe_str (nomark _)) pss_never pss_nil)
    (pss_one (ps_ret (pe_tup (pa_cons (pe_callTy call_tuple_of (by rfl) B.tup (by decide +kernel) (pa_cons (pv 1) pa_nil)) (pa_cons (pv 4) pa_nil))))))))), ?_⟩
  refine ⟨Nat.zero_le _, fun p np => ?_⟩
  have a1 := LstAt.new h np
  generalize upd H p (.lst []) = H1 at a1
  intro d nd
  have a2 := a1.call (KeepR.new nd (.dK [])) (a1.rd.same (same_new nd _))
  generalize upd H1 d (.dK []) = H2 at a2
  obtain ⟨u0, us, eu, hu⟩ := hg.fo endFo []
  rw [eu] at ha
  obtain ⟨x, hx, ex, _⟩ := At.head (l := us) ha
  obtain ⟨_, ew⟩ := T3.of (a := u0.1) (b := u0.2) ex
  have ha : At R 0 (t ++ [endT]) := by rw [eu]; exact ha
  have nodef : x.w ≠ "def" := by
    rw [ew]
    cases hg with
    | nil =>
      have e0 : u0 = endT := by
        have q := eu
        injection q with q1 _
        exact q1.symm
      rw [e0]
      decide +kernel
    | cons hs _ =>
      obtain ⟨z, ts, rfl, hz⟩ := hs.first
      have e0 : u0 = kK z := by
        have q := eu
        injection q with q1 _
        exact q1.symm
      rw [e0]
      intro q
      have q2 : z = "def" := q
      rw [q2] at hz
      exact absurd hz (by decide +kernel)
  obtain ⟨dx2, ei2⟩ := a2.rd.ins
  refine ⟨fun m σ H' => σ = [some (.ref R.r), some (.ref p), some (.ref d), none, none] ∧ H' = H2, ⟨0, rfl, rfl⟩, ?_⟩
  rintro m σ H3 ⟨rfl, rfl⟩
  refine ⟨_, rfl, R.r, dx2, _, rfl, ei2, rf_no _ _ _ _ (by decide +kernel), R, 0, 0, [], x, _, rfl, a2.rd, hx, fun c => absurd c nodef, fun _ => ⟨false, rfl, iteF ?_⟩⟩
  refine ⟨_, rfl, R.r, dx2, _, rfl, ei2, rf_no _ _ _ _ (by decide +kernel), R, 0, 0, [], b, t, endT, [], rfl, a2.rd, ha, hg, endFo, endSt, hw, by decide, Nat.zero_le _, fun H4 v k4 h4 d4 => ?_⟩
  obtain ⟨dx4, ei4⟩ := h4.ins
  have ha4 := At.app ha
  obtain ⟨x5, hx5, ex5, _⟩ := ha4.head
  obtain ⟨ek5, _⟩ := T3.of ex5
  refine ⟨_, rfl, R.r, dx4, _, rfl, ei4, rf_no _ _ _ _ (by decide +kernel), R, _, 0, _, x5, rfl, h4, hx5, rfl, _, rfl, ?_⟩
  rw [ek5, decide_eq_true rfl]
  refine iteF ?_
  have a4 := a2.call k4 h4
  refine ⟨_, rfl, p, _, rfl, .inl ⟨SqL.of a4.lp, fun l nl => ?_⟩⟩
  have d5 := Dp.same (same_new nl (.tup [])) d4
  have dt : Dp K (upd H4 l (.tup [])) (.ref l) (.tuple []) := Dp.new nl .nil
  refine ⟨_, rfl, (by show 2 ≤ sizeLine; decide), fun l2 nl2 => ?_⟩
  have s6 := same_new nl2 (.tup [.ref l, v])
  refine q _ _ ((a4.keep.trans (KeepR.new nl _)).trans (KeepR.same s6)) ?_
  exact Dp.new nl2 (.cons dt (.cons d5 .nil))
theorem scRead : FnScope ["text"] ["text"] (defScope S_read) := ⟨rfl, rfl, rfl, by decide +kernel, rfl, by decide +kernel, by decide +kernel⟩
theorem ok_read0 {n : Nat} {f fI PT : Addr} {fd fdI : FuncData} (F : Fun K "read" "read" S_read f fd) (T : RTxt K mg C) (MK : Mk K C fI) (GI : FnOk P w K mg base CX0 6 fI fdI ["self", "text"] (spInit K C PT)) (bI : Binds K fdI ["self", "text"] []) (hP : Mth P w K mg base C n "program" ["self"] (spProg0 K C)) (hn : 7 ≤ n) :
    FnOk P w K mg base CX0 (n + 1) f fd ["text"] (spRead0 K PT) := by
  refine F.ok scRead (fun vs H Q E h => ?_) (fun cdv A outer s0 H vs Q E hr h => ?_)
  · obtain ⟨X, p, rfl, _⟩ := h
    rfl
  obtain ⟨X, ⟨ds, b⟩, rfl, hd, hR, hT, q⟩ := h
  obtain rfl : ds = [] := hd
  obtain ⟨fP, fdP, GP', mP, bP⟩ := hP.ex
  have hr7 : Room 7 _ := hr.mono hn
  refine ⟨_, pss_one (ps_ret (pe_meth0 (pe_make MK GI hr7 rfl T.mgC bI .nil pass0 (pa_cons (pv 0) pa_nil)) T.cl mP GP' hr bP .nil pass0)), ?_⟩
  refine ⟨_, rfl, fun x dx nx ndx nex => ?_⟩
  obtain ⟨ws, hws, t, u, g1, g2, rfl⟩ := hR.toks
  have et : t = [] := by
    cases g1
    rfl
  subst et
  have s1 : Same H (upd (upd H dx (.own x)) x (.ins C dx [])) := fun b o e => by
    rw [upd_ne (ne_of_none e nx), upd_ne (ne_of_none e ndx)]
    exact e
  refine ⟨x, dx, X, _, rfl, upd_same, Nat.le_trans hR.len (by decide), hws, s1 _ _ hT, fun H2 R er k2 h2 e2 ntA npA => ?_⟩
  subst er
  obtain ⟨dx2, ei2⟩ := h2.ins
  have ha : At R 0 (u ++ [endT]) := by
    show (R.ts.drop 0).map T3.tk = _
    rw [List.drop_zero, e2]
    rfl
  refine ⟨rfl, R.r, dx2, _, rfl, ei2, rf_no _ _ _ _ (by decide +kernel), R, b, u, rfl, h2, ha, g2, hR.wf.body, fun H3 v k3 d3 => ?_⟩
  refine q H3 v (fun b o e => ?_) d3
  have n1 : b ≠ R.r := ne_of_none e nx
  have e1 := s1 _ _ e
  have n2 : b ≠ R.pA := ne_of_none e1 npA
  exact k3 _ _ n1 n2 (k2 _ _ n1 e1)
end
end KD

namespace KD
open PySem L2 TL
open K0 (Toks num)
section
variable {P : Program} {w : World} {K : PySem.W.Frag} {mg : Str → Option Value} {base : Heap}
theorem free_of {r s D : Addr} {H0 H : Hp} (k : Keep r H0 H) (hR : RowAt H r s) (h : H D = none) : H0 D = none := by
  by_cases q : D = r
  · exact absurd q (RowAt.ne hR h)
  · cases c : H0 D with
    | none => rfl
    | some o => rw [k D o q c] at h; cases h
structure PInv (K : PySem.W.Frag) (H1 : Hp) (a r fp fm : Addr) (es : List Ex) (ms : List Bi) (vs : List V) (H : Hp) : Prop where
  row : RowAt H r a
  keep : Keep r H1 H
  hp : H fp = some (.lst vs)
  hm : H fm = some (.lst ((wsM ms).map V.str))
  dd : DpAll K H vs (es.map Ex.d)
  pe : ∀ e ∈ es, e ∈ parts5
  pm : ∀ m ∈ ms, m ∈ m7
  np : fp ≠ r
  nm : fm ≠ r
  ne : fp ≠ fm
  bp : H1 fp = none
  bm : H1 fm = none
theorem PInv.keeps {H1 H H' : Hp} {a r fp fm : Addr} {es : List Ex} {ms : List Bi} {vs : List V} (g : PInv K H1 a r fp fm es ms vs H) (k : Keep r H H') (R : RowAt H' r a) : PInv K H1 a r fp fm es ms vs H' :=
  ⟨R, g.keep.trans k, k _ _ g.np g.hp, k _ _ g.nm g.hm, DpAll.kt (g.row.kt k) (tupDs_E es) g.dd, g.pe, g.pm, g.np, g.nm, g.ne, g.bp, g.bm⟩
theorem PInv.new {H1 H : Hp} {p a r fp fm : Addr} {es : List Ex} {ms : List Bi} {vs : List V} (g : PInv K H1 a r fp fm es ms vs H) (h : H p = none) (o : HO) : PInv K H1 a r fp fm es ms vs (upd H p o) :=
  g.keeps (Keep.new h o) (g.row.new h o)
theorem PInv.pushM {H1 H : Hp} {a r fp fm : Addr} {es : List Ex} {ms : List Bi} {vs : List V} {m : Bi} (g : PInv K H1 a r fp fm es ms vs H) (h : m ∈ m7) : PInv K H1 a r fp fm es (ms ++ [m]) vs (upd H fm (.lst ((wsM ms).map V.str ++ [.str m.w]))) := by
  refine ⟨?_, fun b o n q => by rw [upd_ne (ne_of_none q g.bm)]; exact g.keep b o n q, by rw [upd_ne g.ne]; exact g.hp, ?_, DpAll.kt (KT.upd g.hm _) (tupDs_E es) g.dd, g.pe, fun x hx => ?_, g.np, g.nm, g.ne, g.bp, g.bm⟩
  · obtain ⟨i, x, y, q, r2⟩ := g.row
    exact ⟨i, x, y, by rw [upd_ne g.nm.symm]; exact q, r2⟩
  · rw [upd_same, wsM, wsM, List.map_append, List.map_append]
    rfl
  · rcases List.mem_append.mp hx with q | q
    · exact g.pm x q
    · rw [List.mem_singleton] at q
      rw [q]
      exact h
theorem PInv.pushP {H1 H : Hp} {a r fp fm : Addr} {es : List Ex} {ms : List Bi} {vs : List V} {e : Ex} {v : V} (g : PInv K H1 a r fp fm es ms vs H) (h : e ∈ parts5) (hv : Dp K H v e.d) : PInv K H1 a r fp fm (es ++ [e]) ms (vs ++ [v]) (upd H fp (.lst (vs ++ [v]))) := by
  have kt := KT.upd (K := K) g.hp (.lst (vs ++ [v]))
  refine ⟨?_, fun b o n q => by rw [upd_ne (ne_of_none q g.bp)]; exact g.keep b o n q, upd_same, by rw [upd_ne g.ne.symm]; exact g.hm, ?_, fun x hx => ?_, g.pm, g.np, g.nm, g.ne, g.bp, g.bm⟩
  · obtain ⟨i, x, y, q, r2⟩ := g.row
    exact ⟨i, x, y, by rw [upd_ne g.np.symm]; exact q, r2⟩
  · rw [List.map_append]
    exact DpAll.snoc (Dp.kt kt (tupD_E e) hv) (DpAll.kt kt (tupDs_E es) g.dd)
  · rcases List.mem_append.mp hx with q | q
    · exact g.pe x q
    · rw [List.mem_singleton] at q
      rw [q]
      exact h
theorem m7_w {v : V} (h : v ∈ (wsM m7).map V.str) : ∃ m ∈ m7, v = .str m.w := by
  obtain ⟨z, rfl, hz⟩ := strs_mem h
  obtain ⟨m, hm, e⟩ := List.mem_map.mp hz
  exact ⟨m, hm, by rw [e]⟩
theorem c4_w {v : V} (h : v ∈ (wsM cmp4).map V.str) : ∃ o ∈ cmp4, v = .str o.w := by
  obtain ⟨z, rfl, hz⟩ := strs_mem h
  obtain ⟨m, hm, e⟩ := List.mem_map.mp hz
  exact ⟨m, hm, by rw [e]⟩
theorem int3 {v : V} (h : v ∈ [V.int 0, .int 1, .int 2]) : ∃ x : Int, v = .int x := by
  simp only [List.mem_cons, List.not_mem_nil, or_false] at h
  rcases h with rfl | rfl | rfl <;> exact ⟨_, rfl⟩
theorem int2 {v : V} (h : v ∈ [V.int 0, .int 1]) : ∃ x : Int, v = .int x := by
  simp only [List.mem_cons, List.not_mem_nil, or_false] at h
  rcases h with rfl | rfl <;> exact ⟨_, rfl⟩
def spLaw (K : PySem.W.Frag) (PT : Addr) : Sp := fun vs H Q _ => ∃ (a : Addr) (ns : List Int), vs = [.ref a] ∧ SqL K H a (ns.map V.int) ∧ ns.length ≤ 63 ∧ GN.Tab PT H ∧ ∀ H', GN.Tab PT H' → Q (.bl true) H'
abbrev lawN : List Str := ["script", "row", "parts", "marks", "step", "text", "mark", "part", "left", "right", "one", "other", "told"]
theorem scLaw : FnScope lawN ["script"] (defScope S_law) := ⟨rfl, rfl, rfl, by decide +kernel, rfl, by decide +kernel, by decide +kernel⟩
theorem ok_law {nR N : Nat} {f fT fP fA fBa fBo fR PT : Addr} {fd fdT fdP fdA fdBa fdBo fdR : FuncData} (F : Fun K "law" "law" S_law f fd) (T : Blt mg) (hz : mg "zip" = none)
    (GT : FnOk P w K mg base CX0 1 fT fdT ["row", "many"] (spTaken K)) (mT : mg "_law_taken" = some (.ref fT)) (kT : PySem.W.keepIn K (.ref fT) = true) (bT : Binds K fdT ["row", "many"] [])
    (GP : FnOk P w K mg base CX0 2 fP fdP ["row", "things"] (spPick K)) (mP : mg "_law_pick" = some (.ref fP)) (kP : PySem.W.keepIn K (.ref fP) = true) (bP : Binds K fdP ["row", "things"] [])
    (GA : FnOk P w K mg base CX0 20 fA fdA ["found", "due"] (spAlk K 20)) (mA : mg "_law_alike" = some (.ref fA)) (kA : PySem.W.keepIn K (.ref fA) = true) (bA : Binds K fdA ["found", "due"] [])
    (GBa : FnOk P w K mg base CX0 3 fBa fdBa ["tree"] (spBare K 3)) (mBa : mg "_law_bare" = some (.ref fBa)) (kBa : PySem.W.keepIn K (.ref fBa) = true) (bBa : Binds K fdBa ["tree"] [])
    (GBo : FnOk P w K mg base CX0 8 fBo fdBo ["parts", "marks"] (spBound K 8)) (mBo : mg "_law_bound" = some (.ref fBo)) (kBo : PySem.W.keepIn K (.ref fBo) = true) (bBo : Binds K fdBo ["parts", "marks"] [])
    (GR : FnOk P w K mg base CX0 nR fR fdR ["text"] (spRead0 K PT)) (mR : mg "read" = some (.ref fR)) (kR : PySem.W.keepIn K (.ref fR) = true) (bR : Binds K fdR ["text"] [])
    (h20 : 20 ≤ N) (hRN : nR ≤ N) :
    FnOk P w K mg base CX0 (N + 1) f fd ["script"] (spLaw K PT) := by
  refine F.ok scLaw (fun vs H Q E h => ?_) (fun cdv A outer s0 H vs Q E hr h => ?_)
  · obtain ⟨a, ns, rfl, _⟩ := h
    rfl
  obtain ⟨a, ns, rfl, hS, h63, tab0, k⟩ := h
  have hrT : Room 1 _ := hr.mono (by omega)
  have hrP : Room 2 _ := hr.mono (by omega)
  have hrA : Room 20 _ := hr.mono (by omega)
  have hrBa : Room 3 _ := hr.mono (by omega)
  have hrBo : Room 8 _ := hr.mono (by omega)
  have hrR : Room nR _ := hr.mono (by omega)
  have big : ∀ m : Nat, m ≤ 10000000 → m ≤ sizeLine := fun m h => Nat.le_trans h (by decide)
  refine ⟨_, pss_cons (ps_set (i := 1) scLaw.nd rfl (Or.inl rfl) (pe_lst (pa_cons (pv 0) (pa_cons pe_int (pa_cons pe_int (pa_cons pe_int pa_nil))))))
    (pss_cons (ps_set (i := 2) scLaw.nd rfl (Or.inl rfl) (pe_lst (pa_cons (pe_call GP hrP rfl mP kP bP .nil pass0 (pa_cons (pv 1) (pa_cons (pe_lst (pa_cons (pe_tup (pa_cons pe_str (pa_cons pe_int pa_nil))) (pa_cons (pe_tup (pa_cons pe_str (pa_cons pe_str pa_nil))) (pa_cons (pe_tup (pa_cons pe_str pa_nil)) (pa_cons (pe_tup (pa_cons pe_str (pa_cons (pe_tup (pa_cons pe_str (pa_cons pe_int pa_nil))) pa_nil))) (pa_cons (pe_tup (pa_cons pe_str (pa_cons (pe_tup (pa_cons pe_str (pa_cons (pe_tup (pa_cons pe_str (pa_cons pe_str pa_nil))) pa_nil))) pa_nil))) pa_nil)))))) pa_nil))) pa_nil)))
    (pss_cons (ps_set (i := 3) scLaw.nd rfl (Or.inl rfl) (pe_lst pa_nil))
    (C8.pss_cut (ps_for PassesOwn.never rfl (pi_range1 rfl T.range (pa_cons (pe_call GT hrT rfl mT kT bT .nil pass0 (pa_cons (pv 1) (pa_cons pe_int pa_nil))) pa_nil)) (pg_name (i := 4) scLaw.nd rfl (Or.inl rfl))
      (pss_cons (ps_expr (pe_bm PySem.F.plainAttrs_list PySem.F.slot_list_append PySem.F.type_list_append mt_append (pv 3) (pa_cons (pe_call GP hrP rfl mP kP bP .nil pass0 (pa_cons (pv 1) (pa_cons (pe_lst (pa_cons pe_str (pa_cons pe_str (pa_cons pe_str (pa_cons pe_str (pa_cons pe_str (pa_cons pe_str (pa_cons pe_str pa_nil)))))))) pa_nil))) pa_nil)))
      (pss_one (ps_expr (pe_bm PySem.F.plainAttrs_list PySem.F.slot_list_append PySem.F.type_list_append mt_append (pv 2) (pa_cons (pe_call GP hrP rfl mP kP bP .nil pass0 (pa_cons (pv 1) (pa_cons (pe_lst (pa_cons (pe_tup (pa_cons pe_str (pa_cons pe_int pa_nil))) (pa_cons (pe_tup (pa_cons pe_str (pa_cons pe_str pa_nil))) (pa_cons (pe_tup (pa_cons pe_str pa_nil)) (pa_cons (pe_tup (pa_cons pe_str (pa_cons (pe_tup (pa_cons pe_str (pa_cons pe_int pa_nil))) pa_nil))) pa_nil))))) pa_nil))) pa_nil))))))
    (pss_cons (ps_set (i := 5) scLaw.nd rfl (Or.inl rfl) (pe_op op_add_str pe_str (pe_call GBa hrBa rfl mBa kBa bBa .nil pass0 (pa_cons (pe_ix ix_list (pv 2) pe_int (fun _ _ => rfl)) pa_nil))))
    (C8.pss_cut (ps_for PassesOwn.never rfl (pi_zip (by rfl) hz (pa_cons (pv 3) (pa_cons (pe_slice sl_list (pv 2) (po_some pe_int) po_none) pa_nil))) (pg_tup rfl (pgs_cons (pg_name (i := 6) scLaw.nd rfl (Or.inl rfl)) (pgs_cons (pg_name (i := 7) scLaw.nd rfl (Or.inl rfl)) pgs_nil)))
      (pss_one (ps_set (i := 5) scLaw.nd rfl (Or.inl rfl) (pe_op op_add_str (pe_op op_add_str (pe_op op_add_str (pe_op op_add_str (pv 5) pe_str) (pv 6)) pe_str) (pe_call GBa hrBa rfl mBa kBa bBa .nil pass0 (pa_cons (pv 7) pa_nil))))))
    (C8.pss_cut (ps_if (pt_not (pt_val (pe_call GA hrA rfl mA kA bA .nil pass0 (pa_cons (pe_call GR hrR rfl mR kR bR .nil pass0 (pa_cons (pv 5) pa_nil)) (pa_cons (pe_tup (pa_cons (pe_tup pa_nil) (pa_cons (pe_tup (pa_cons (pe_tup (pa_cons pe_str (pa_cons (pe_call GBo hrBo rfl mBo kBo bBo .nil pass0 (pa_cons (pv 2) (pa_cons (pv 3) pa_nil))) pa_nil))) pa_nil)) pa_nil))) pa_nil))))) pss_never pss_nil)
    (pss_cons (ps_set (i := 6) scLaw.nd rfl (Or.inl rfl) (pe_call GP hrP rfl mP kP bP .nil pass0 (pa_cons (pv 1) (pa_cons (pe_lst (pa_cons pe_str (pa_cons pe_str (pa_cons pe_str (pa_cons pe_str pa_nil))))) pa_nil))))
    (pss_cons (ps_par (i := 8) (j := 9) (by rfl) scLaw.nd rfl rfl (by decide) rfl rfl (pa_cons (pe_call GP hrP rfl mP kP bP .nil pass0 (pa_cons (pv 1) (pa_cons (pe_lst (pa_cons pe_int (pa_cons pe_int (pa_cons pe_int pa_nil)))) pa_nil))) (pa_cons (pe_call GP hrP rfl mP kP bP .nil pass0 (pa_cons (pv 1) (pa_cons (pe_lst (pa_cons pe_int (pa_cons pe_int pa_nil))) pa_nil))) pa_nil)) (by rfl))
    (C8.pss_cut (ps_set (i := 10) scLaw.nd rfl (Or.inl rfl) (pe_ifExp (pt_cmpR op_eq (pv 8) pe_int (nomark _)) (pe_tup (pa_cons pe_str (pa_cons (pe_tup (pa_cons pe_str (pa_cons pe_str pa_nil))) (pa_cons (pe_tup (pa_cons pe_str (pa_cons pe_int pa_nil))) pa_nil)))) (pe_tup (pa_cons pe_str (pa_cons pe_str pa_nil)))))
    (C8.pss_cut (ps_set (i := 11) scLaw.nd rfl (Or.inl rfl) (pe_ifExp (pt_cmpR op_eq (pv 9) pe_int (nomark _)) (pe_tup (pa_cons pe_str (pa_cons (pe_tup (pa_cons pe_str (pa_cons pe_int pa_nil))) (pa_cons (pe_tup (pa_cons pe_str pa_nil)) pa_nil)))) (pe_tup (pa_cons pe_str (pa_cons pe_int pa_nil)))))
    (pss_cons (ps_set (i := 12) scLaw.nd rfl (Or.inl rfl) (pe_tup (pa_cons (pv 6) (pa_cons (pv 10) (pa_cons (pv 11) pa_nil)))))
    (C8.pss_cut (ps_set (i := 5) scLaw.nd rfl (Or.inl rfl) (pe_op op_add_str (pe_op op_add_str (pe_ifExp (pt_cmpR op_eq (pv 8) pe_int (nomark _)) pe_str pe_str) (pv 6)) (pe_ifExp (pt_cmpR op_eq (pv 9) pe_int (nomark _)) pe_str pe_str)))
    (pss_cons (ps_if (pt_not (pt_val (pe_call GA hrA rfl mA kA bA .nil pass0 (pa_cons (pe_call GR hrR rfl mR kR bR .nil pass0 (pa_cons (pe_op op_add_str (pe_op op_add_str (pe_op op_add_str pe_str (pv 5)) pe_str) (pv 5)) pa_nil)) (pa_cons (pe_tup (pa_cons (pe_tup pa_nil) (pa_cons (pe_tup (pa_cons (pe_tup (pa_cons pe_str (pa_cons (pe_tup (pa_cons pe_str (pa_cons (pe_tup (pa_cons pe_str (pa_cons (pv 12) pa_nil))) (pa_cons (pv 12) pa_nil)))) pa_nil))) pa_nil)) pa_nil))) pa_nil))))) pss_never pss_nil)
    (pss_cons (ps_if (pt_not (pt_val (pe_call GA hrA rfl mA kA bA .nil pass0 (pa_cons (pe_call GR hrR rfl mR kR bR .nil pass0 (pa_cons (pe_op op_add_str pe_str (pv 5)) pa_nil)) (pa_cons (pe_tup (pa_cons (pe_tup pa_nil) (pa_cons (pe_tup (pa_cons (pe_tup (pa_cons pe_str (pa_cons (pe_tup (pa_cons pe_str (pa_cons (pe_tup (pa_cons pe_str (pa_cons (pv 12) pa_nil))) pa_nil))) pa_nil))) pa_nil)) pa_nil))) pa_nil))))) pss_never pss_nil)
    (pss_one (ps_ret (pe_call GA hrA rfl mA kA bA .nil pass0 (pa_cons (pe_call GR hrR rfl mR kR bR .nil pass0 (pa_cons (pe_op op_add_str (pe_op op_add_str pe_str (pv 5)) pe_str) pa_nil)) (pa_cons (pe_tup (pa_cons (pe_tup pa_nil) (pa_cons (pe_tup (pa_cons (pe_tup (pa_cons pe_str (pa_cons (pe_tup (pa_cons pe_str (pa_cons (pv 12) (pa_cons (pe_tup (pa_cons pe_str (pa_cons (pe_tup (pa_cons pe_str (pa_cons pe_str pa_nil))) pa_nil))) pa_nil)))) pa_nil))) pa_nil)) pa_nil))) pa_nil))))))))))))))))))), ?_⟩
  refine ⟨_, rfl, (by show 4 ≤ sizeLine; decide), fun r nr => ?_⟩
  have row1 : RowAt (upd H r (.lst [.ref a, .int 0, .int 5502, .int 0])) r a := ⟨0, 5502, 0, upd_same, by decide, by decide, by decide⟩
  have same1 : Same H (upd H r (.lst [.ref a, .int 0, .int 5502, .int 0])) := same_new nr _
  have scr1 : Scr K (upd H r (.lst [.ref a, .int 0, .int 5502, .int 0])) r a := ⟨ns, h63, fun H' kp => Same.seq (fun b o q => kp b o (ne_of_none q nr) (same1 b o q)) hS⟩
  have tab1 := same1 _ _ tab0
  have ntr : PT ≠ r := ne_of_none tab0 nr
  generalize upd H r (.lst [.ref a, .int 0, .int 5502, .int 0]) = H1 at row1 same1 scr1 tab1 ⊢
  have tabK : ∀ {H' : Hp}, Keep r H1 H' → GN.Tab PT H' := fun kp => kp _ _ ntr tab1
  have keepS : ∀ {H H' : Hp}, Same H H' → Keep r H H' := fun s b o _ q => s b o q
  have rowS : ∀ {H H' : Hp}, Same H H' → RowAt H r a → RowAt H' r a := fun s h => h.same' s
  -- parts
  refine ⟨_, rfl, (by show 2 ≤ sizeLine; decide), fun a1 n1 => ⟨(by show 2 ≤ sizeLine; decide), fun a2 n2 => ⟨(by show 1 ≤ sizeLine; decide), fun a3 n3 => ⟨(by show 2 ≤ sizeLine; decide), fun a4' n4' => ⟨(by show 2 ≤ sizeLine; decide), fun a4 n4 => ⟨(by show 2 ≤ sizeLine; decide), fun a5'' n5'' => ⟨(by show 2 ≤ sizeLine; decide), fun a5' n5' => ⟨(by show 2 ≤ sizeLine; decide), fun a5 n5 => ⟨(by show 5 ≤ sizeLine; decide), fun L nL => ?_⟩⟩⟩⟩⟩⟩⟩⟩⟩
  have tL := same_new nL (.lst [.ref a1, .ref a2, .ref a3, .ref a4, .ref a5])
  have u1 : Dp K _ _ (Ex.num 3).d := Dp.new n1 (.cons (.str "num") (.cons (.int 3) .nil))
  have u2 : Dp K _ _ (Ex.name "x").d := Dp.new n2 (.cons (.str "name") (.cons (.str "x") .nil))
  have u3 : Dp K _ _ (Ex.rows).d := Dp.new n3 (.cons (.str "rows") .nil)
  have u4' : Dp K _ _ (Ex.num 1).d := Dp.new n4' (.cons (.str "num") (.cons (.int 1) .nil))
  have u4 : Dp K _ _ (Ex.un .neg (.num 1)).d := Dp.new n4 (.cons (.str "neg") (.cons u4' .nil))
  have u5'' : Dp K _ _ (Ex.name "y").d := Dp.new n5'' (.cons (.str "name") (.cons (.str "y") .nil))
  have u5' : Dp K _ _ (Ex.un .neg (.name "y")).d := Dp.new n5' (.cons (.str "neg") (.cons u5'' .nil))
  have u5 : Dp K _ _ (Ex.un .neg (.un .neg (.name "y"))).d := Dp.new n5 (.cons (.str "neg") (.cons u5' .nil))
  have s5 := tL
  have s5' := (same_new n5 (.tup [.str "neg", .ref a5'])).trans s5
  have s5'' := (same_new n5' (.tup [.str "neg", .ref a5''])).trans s5'
  have s4 := (same_new n5'' (.tup [.str "name", .str "y"])).trans s5''
  have s4' := (same_new n4 (.tup [.str "neg", .ref a4'])).trans s4
  have s3 := (same_new n4' (.tup [.str "num", .int 1])).trans s4'
  have s2 := (same_new n3 (.tup [.str "rows"])).trans s3
  have s1 := (same_new n2 (.tup [.str "name", .str "x"])).trans s2
  have s01 := (same_new n1 (.tup [.str "num", .int 3])).trans s1
  have hL := upd_at nL (.lst [.ref a1, .ref a2, .ref a3, .ref a4, .ref a5])
  have d1 := Dp.same s1 u1
  have d2 := Dp.same s2 u2
  have d3 := Dp.same s3 u3
  have d4 := Dp.same s4 u4
  have d5 := Dp.same s5 u5
  clear u1 u2 u3 u4' u4 u5'' u5' u5 tL s5 s5' s5'' s4 s4' s3 s2 s1
  generalize upd _ L (.lst [.ref a1, .ref a2, .ref a3, .ref a4, .ref a5]) = HL at s01 hL d1 d2 d3 d4 d5 ⊢
  have hall : ∀ v ∈ [V.ref a1, .ref a2, .ref a3, .ref a4, .ref a5], ∃ e ∈ parts5, Dp K HL v e.d := by
    intro v hv
    simp only [List.mem_cons, List.not_mem_nil, or_false] at hv
    rcases hv with rfl | rfl | rfl | rfl | rfl
    · exact ⟨_, .head _, d1⟩
    · exact ⟨_, .tail _ (.head _), d2⟩
    · exact ⟨_, .tail _ (.tail _ (.head _)), d3⟩
    · exact ⟨_, .tail _ (.tail _ (.tail _ (.head _))), d4⟩
    · exact ⟨_, .tail _ (.tail _ (.tail _ (.tail _ (.head _)))), d5⟩
  have rowL := rowS s01 row1
  have neL : L ≠ r := by
    obtain ⟨i, x, y, q, _⟩ := rowL
    intro e
    subst e
    rw [hL] at q
    cases q
  refine ⟨r, a, _, rfl, rowL, scr1.mono (keepS s01), .inl ⟨L, _, rfl, neL, hL, (by show 1 ≤ 5; decide), (by show 5 ≤ 1000; decide), fun H2 v k2 R2 hv => ?_⟩⟩
  obtain ⟨e0, he0, hd0⟩ := hall v hv
  have hd0' := Dp.kt (rowL.kt k2) (tupD_E e0) hd0
  have k12 := (keepS s01).trans k2
  clear hall hd0 d1 d2 d3 d4 d5 hL neL rowL n1 n2 n3 n4 n4' n5 n5' n5'' nL
  refine ⟨(by show 1 ≤ sizeLine; decide), fun fp nfp => ?_⟩
  refine ⟨Nat.zero_le _, fun fm nfm => ?_⟩
  have g0 : PInv K H1 a r fp fm [e0] [] [v] (upd (upd H2 fp (.lst [v])) fm (.lst [])) :=
    ⟨(R2.new nfp _).new nfm _, k12.trans ((Keep.new nfp _).trans (Keep.new nfm _)), same_new nfm _ _ _ upd_same, upd_same, .cons (Dp.same ((same_new nfp _).trans (same_new nfm _)) hd0') .nil,
      fun x hx => by (rw [List.mem_singleton] at hx; rw [hx]; exact he0), fun x hx => by (cases hx), RowAt.ne R2 nfp, RowAt.ne (R2.new nfp _) nfm, ne_of_none upd_same nfm, free_of k12 R2 nfp, free_of (k12.trans (Keep.new nfp _)) (R2.new nfp _) nfm⟩
  generalize upd (upd H2 fp (.lst [v])) fm (.lst []) = H4 at g0 ⊢
  have scrP : ∀ {es ms vs H'}, PInv K H1 a r fp fm es ms vs H' → Scr K H' r a := fun g => scr1.mono g.keep
  refine ⟨fun σ H' => ∃ (es : List Ex) (ms : List Bi) (vs : List V) (v4 : Option V), σ = [some (.ref a), some (.ref r), some (.ref fp), some (.ref fm), v4, none, none, none, none, none, none, none, none] ∧ PInv K H1 a r fp fm es ms vs H' ∧ es.length = ms.length + 1 ∧ ms.length ≤ 7, ?_, ?_⟩
  · refine ⟨_, rfl, r, a, 8, rfl, g0.row, scrP g0, by decide, by decide, fun H7 n kp7 hR7 hn0 hn1 => ?_⟩
    have g7 := g0.keeps kp7 hR7
    refine ⟨n, rfl, by omega, by omega, for_range (lo := 0) (n := n.toNat) (fun i σ H' => ∃ (es : List Ex) (ms : List Bi) (vs : List V) (v4 : Option V), σ = [some (.ref a), some (.ref r), some (.ref fp), some (.ref fm), v4, none, none, none, none, none, none, none, none] ∧ PInv K H1 a r fp fm es ms vs H' ∧ es.length = ms.length + 1 ∧ ms.length = i)
      ⟨[e0], [], [v], none, rfl, g7, rfl, rfl⟩ ?_ ?_⟩
    · rintro i σ H8 hi ⟨es, ms, vs, v4, rfl, g, hl, hmi⟩
      refine ⟨_, rfl, .inl ⟨rfl, _, SqL.of g.hm⟩, _, rfl, (by show 7 ≤ sizeLine; decide), fun p1 np1 => ?_⟩
      have ga := g.new np1 (.lst ((wsM m7).map V.str))
      refine ⟨r, a, _, rfl, ga.row, scrP ga, .inl ⟨p1, _, rfl, RowAt.ne g.row np1, upd_same, (by show 1 ≤ 7; decide), (by show 7 ≤ 1000; decide), fun H9 v kp9 R9 hv => ?_⟩⟩
      obtain ⟨m, hm, rfl⟩ := m7_w hv
      have g9 := ga.keeps kp9 R9
      refine ⟨fm, _, _, rfl, rfl, g9.hm, (by rw [List.length_map, wsM, List.length_map]; exact Nat.lt_of_le_of_lt (show ms.length ≤ 1000 by omega) (by decide)), ?_⟩
      have g10 := g9.pushM hm
      generalize upd H9 fm (.lst ((wsM ms).map V.str ++ [.str m.w])) = H10 at g10 ⊢
      refine ⟨_, rfl, .inl ⟨rfl, _, SqL.of g10.hp⟩, _, rfl, (by show 2 ≤ sizeLine; decide), fun a1 n1 => ⟨(by show 2 ≤ sizeLine; decide), fun a2 n2 => ⟨(by show 1 ≤ sizeLine; decide), fun a3 n3 => ⟨(by show 2 ≤ sizeLine; decide), fun a4' n4' => ⟨(by show 2 ≤ sizeLine; decide), fun a4 n4 => ⟨(by show 4 ≤ sizeLine; decide), fun L nL => ?_⟩⟩⟩⟩⟩⟩
      have tL := same_new nL (.lst [.ref a1, .ref a2, .ref a3, .ref a4])
      have u1 : Dp K _ _ (Ex.num 3).d := Dp.new n1 (.cons (.str "num") (.cons (.int 3) .nil))
      have u2 : Dp K _ _ (Ex.name "x").d := Dp.new n2 (.cons (.str "name") (.cons (.str "x") .nil))
      have u3 : Dp K _ _ (Ex.rows).d := Dp.new n3 (.cons (.str "rows") .nil)
      have u4' : Dp K _ _ (Ex.num 1).d := Dp.new n4' (.cons (.str "num") (.cons (.int 1) .nil))
      have u4 : Dp K _ _ (Ex.un .neg (.num 1)).d := Dp.new n4 (.cons (.str "neg") (.cons u4' .nil))
      have s4' := (same_new n4 (.tup [.str "neg", .ref a4'])).trans tL
      have s3 := (same_new n4' (.tup [.str "num", .int 1])).trans s4'
      have s2 := (same_new n3 (.tup [.str "rows"])).trans s3
      have s1 := (same_new n2 (.tup [.str "name", .str "x"])).trans s2
      have s01 := (same_new n1 (.tup [.str "num", .int 3])).trans s1
      have hL := upd_at nL (.lst [.ref a1, .ref a2, .ref a3, .ref a4])
      have d1 := Dp.same s1 u1
      have d2 := Dp.same s2 u2
      have d3 := Dp.same s3 u3
      have d4 := Dp.same tL u4
      clear u1 u2 u3 u4' u4 tL s4' s3 s2 s1
      generalize upd _ L (.lst [.ref a1, .ref a2, .ref a3, .ref a4]) = HL at s01 hL d1 d2 d3 d4 ⊢
      have hall : ∀ v ∈ [V.ref a1, .ref a2, .ref a3, .ref a4], ∃ e ∈ parts5, Dp K HL v e.d := by
        intro v hv
        simp only [List.mem_cons, List.not_mem_nil, or_false] at hv
        rcases hv with rfl | rfl | rfl | rfl
        · exact ⟨_, .head _, d1⟩
        · exact ⟨_, .tail _ (.head _), d2⟩
        · exact ⟨_, .tail _ (.tail _ (.head _)), d3⟩
        · exact ⟨_, .tail _ (.tail _ (.tail _ (.head _))), d4⟩
      have gL := g10.keeps (keepS s01) (rowS s01 g10.row)
      have neL : L ≠ r := by
        obtain ⟨i, x, y, q, _⟩ := gL.row
        intro e
        subst e
        rw [hL] at q
        cases q
      refine ⟨r, a, _, rfl, gL.row, scrP gL, .inl ⟨L, _, rfl, neL, hL, (by show 1 ≤ 4; decide), (by show 4 ≤ 1000; decide), fun H11 v k11 R11 hv => ?_⟩⟩
      obtain ⟨e1, he1, hd1⟩ := hall v hv
      have hd1' := Dp.kt (gL.row.kt k11) (tupD_E e1) hd1
      have g11 := gL.keeps k11 R11
      have hvl : vs.length = ms.length + 1 := by rw [KD.DpAll.length g11.dd, List.length_map]; exact hl
      refine ⟨fp, _, _, rfl, rfl, g11.hp, (Nat.lt_of_le_of_lt (show vs.length ≤ 1000 by omega) (by decide)), ?_⟩
      exact ⟨_, _, _, _, rfl, g11.pushP he1 hd1', by rw [List.length_append, List.length_append, List.length_singleton, List.length_singleton]; omega, by rw [List.length_append, List.length_singleton]; omega⟩
    · rintro σ H8 ⟨es, ms, vs, v4, rfl, g, hl, hmi⟩
      exact ⟨es, ms, vs, v4, rfl, g, hl, by omega⟩
  rintro σ H5 ⟨es, ms, vs, v4, rfl, g, hl, hm7⟩
  match es, hl, g with
  | e0 :: es', hl, g =>
  obtain ⟨v0, vs', evs, hd0, hds⟩ := dp_cons g.dd
  subst evs
  have hb0 := parts5_ok e0 (g.pe e0 List.mem_cons_self)
  have hpl : ∀ e : Ex, dpE e ≤ 2 → pl (dpE e) ≤ 60 := fun e h => Nat.le_trans (pl_mono h) (by decide)
  have hbare : ∀ e : Ex, bareE e → dpE e ≤ 2 → (shX e 5).length ≤ 60 := fun e h h2 => Nat.le_trans (shX_len (l := 5) (bareE.wf h)) (hpl e h2)
  have say4 : ("say " : Str).length = 4 := by decide +kernel
  have sp1 : (" " : Str).length = 1 := by decide +kernel
  have hx0 := hbare e0 hb0.1 hb0.2
  refine ⟨_, rfl, fp, _, _, v0, rfl, rfl, SqL.of g.hp, atI_nat (j := 0) rfl, v0, e0, rfl, hd0, hb0.1, by omega, by decide, fun H6 s6 => ⟨_, _, rfl, rfl, big _ (by rw [say4]; omega), ?_⟩⟩
  have g6 := g.keeps (keepS s6) (rowS s6 g.row)
  have hl' : es'.length = ms.length := by simpa using hl
  refine ⟨fun σ H' => ∃ (Y : Str) (v6 v7 : Option V), σ = [some (.ref a), some (.ref r), some (.ref fp), some (.ref fm), v4, some (.str ("say " ++ Y)), v6, v7, none, none, none, none, none] ∧ Same H6 H' ∧ PartT Y (flat (e0 :: es') ms) ∧ Y.length ≤ 10000, ?_, ?_⟩
  · refine ⟨_, rfl, _, rfl, _, rfl, fp, _, rfl, SqL.of g6.hp, fun pz npz => ?_⟩
    have sz := same_new npz (.lst (cutV (v0 :: vs') (some 1) none))
    have hz' : (upd H6 pz (.lst (cutV (v0 :: vs') (some 1) none))) pz = some (.lst vs') := by
      rw [upd_same, show (1 : Int) = ((1 : Nat) : Int) from rfl, cut_from]
      rfl
    have gz := g6.new npz (.lst (cutV (v0 :: vs') (some 1) none))
    generalize upd H6 pz (.lst (cutV (v0 :: vs') (some 1) none)) = H7 at sz hz' gz ⊢
    have hvl : vs'.length = ms.length := by rw [KD.DpAll.length hds, List.length_map]; exact hl'
    have eL : ((wsM ms).map V.str).length = ms.length := by rw [List.length_map, wsM, List.length_map]
    refine ⟨fm, pz, _, _, rfl, SqL.of gz.hm, SqL.of hz', RZ.for_zipL (by rw [eL, hvl]) (fun i σ H' => ∃ (Y : Str) (v6 v7 : Option V), σ = [some (.ref a), some (.ref r), some (.ref fp), some (.ref fm), v4, some (.str ("say " ++ Y)), v6, v7, none, none, none, none, none] ∧ Same H7 H' ∧ PartT Y (flat ((e0 :: es').take (i + 1)) (ms.take i)) ∧ Y.length ≤ 60 + 70 * i)
      ⟨shX e0 5, none, none, rfl, Same.refl _, PartT.sh (bareE.wf hb0.1), by omega⟩ (fun i σ H' ⟨_, _, _, _, s1, _⟩ => ⟨SqL.of (s1 _ _ gz.hm), SqL.of (s1 _ _ hz')⟩) ?_ ?_⟩
    · rintro i x y T' σ H8 hx hy ⟨Y, v6, v7, rfl, s8, hY, hYl⟩ nT
      have him : i < ms.length := by rw [← eL]; exact get_lt hx
      obtain ⟨m, hm⟩ : ∃ m, ms[i]? = some m := ⟨_, List.getElem?_eq_getElem him⟩
      have hxm : x = .str m.w := by
        rw [wsM, List.getElem?_map, List.getElem?_map, hm] at hx
        exact (Option.some.inj hx).symm
      subst hxm
      obtain ⟨d, hd1, hd2⟩ := KD.DpAll.get hds hy
      obtain ⟨e1, he1, rfl⟩ : ∃ e1, es'[i]? = some e1 ∧ d = e1.d := by
        rw [List.getElem?_map] at hd1
        cases q : es'[i]? with
        | none => rw [q] at hd1; cases hd1
        | some e => rw [q] at hd1; exact ⟨e, rfl, (Option.some.inj hd1).symm⟩
      have hb1 := parts5_ok e1 (g.pe e1 (List.mem_cons_of_mem _ (List.mem_of_getElem? he1)))
      have hx1 := hbare e1 hb1.1 hb1.2
      have hml := Bi.len m
      have sT := s8.trans (same_new nT (.tup [.str m.w, y]))
      have eT : ("say " : Str) ++ Y ++ " " ++ m.w ++ " " ++ shX e1 5 = "say " ++ (Y ++ " " ++ m.w ++ " " ++ shX e1 5) := by simp only [assocS]
      refine ⟨T', _, rfl, SqT.of upd_same, rfl, _, _, rfl, _, _, rfl, rfl, ?_⟩
      refine ⟨_, rfl, _, _, rfl, rfl, big _ (by simp only [sums, say4, sp1]; omega), _, rfl, _, _, rfl, rfl, big _ (by simp only [sums, say4, sp1]; omega), _, _, rfl, rfl, big _ (by simp only [sums, say4, sp1]; omega), _, rfl, y, e1, rfl, Dp.same (s6.trans (sz.trans sT)) hd2, hb1.1, by omega, by decide, fun H9 s9 => ⟨_, _, rfl, rfl, big _ (by simp only [sums, say4, sp1]; omega), ?_⟩⟩
      rw [eT]
      refine ⟨_, _, _, rfl, sT.trans s9, ?_, by simp only [sums, sp1]; omega⟩
      have q1 : (e0 :: es').take (i + 1 + 1) = (e0 :: es').take (i + 1) ++ [e1] := by
        rw [List.take_succ (i := i + 1)]
        show _ ++ (es'[i]?).toList = _
        rw [he1]
        rfl
      have q2 : ms.take (i + 1) = ms.take i ++ m :: [] := by rw [List.take_succ, hm]; rfl
      rw [q1, q2, flat_split _ m [] _ [e1] (by rw [List.length_take, List.length_take, List.length_cons]; omega)]
      exact PartT.bin hY (PartT.sh (l := 5) (bareE.wf hb1.1))
    · rintro σ H8 ⟨Y, v6, v7, rfl, s8, hY, hYl⟩
      rw [eL] at hY hYl
      rw [List.take_length, List.take_of_length_le (by rw [List.length_cons]; omega)] at hY
      exact ⟨Y, v6, v7, rfl, sz.trans s8, hY, by omega⟩
  rintro σ H7 ⟨Y, v6, v7, rfl, s7, hY, hYl⟩
  have g7 := g6.keeps (keepS s7) (rowS s7 g6.row)
  obtain ⟨eB, hB⟩ := BT.ex 8 (e0 :: es') ms (by omega) hl g.pm
  have hwd : ∀ e ∈ e0 :: es', wfE e ∧ dpE e ≤ 2 := fun e he => ⟨bareE.wf (parts5_ok e (g.pe e he)).1, (parts5_ok e (g.pe e he)).2⟩
  have bnd := hB.bnd g.pm hl hwd
  have eok : eOk eB := ⟨bnd.wf, by have := bnd.dp; omega⟩
  have hrd : Rdb ("say " ++ Y) (sayP eB) := Rdb.sayY hY (bnd.g 0 (by decide) (fun m _ => Nat.zero_le _)) eok (by omega)
  refine ⟨fun σ H' => ∃ (v5 v6 v7 : Option V), σ = [some (.ref a), some (.ref r), some (.ref fp), some (.ref fm), v4, v5, v6, v7, none, none, none, none, none] ∧ RowAt H' r a ∧ Keep r H1 H', ?_, ?_⟩
  · refine ⟨_, rfl, _, sayP eB, rfl, rfl, hrd, tabK g7.keep, fun H8 v8 s8 hv8 => ?_⟩
    refine ⟨Nat.zero_le _, fun q1 nq1 => ?_⟩
    have g8 := (g7.keeps (keepS s8) (rowS s8 g7.row)).new nq1 (.tup [])
    have hq1 : Dp K _ _ (.tuple []) := Dp.new nq1 .nil
    have hv9 := Dp.same (same_new nq1 (.tup [])) hv8
    generalize upd H8 q1 (.tup []) = H9 at g8 hq1 hv9 ⊢
    refine ⟨_, rfl, _, rfl, fp, fm, _, e0 :: es', ms, rfl, SqL.of g8.hp, g8.dd, SqL.of g8.hm, hl, by omega, hm7, hwd, g.pm, fun H10 u e' s10 hu hBT => ?_⟩
    have ee := hB.det hBT
    subst ee
    have hq1' := Dp.same s10 hq1
    have hv10 := Dp.same s10 hv9
    refine ⟨(by show 2 ≤ sizeLine; decide), fun q2 nq2 => ⟨(by show 1 ≤ sizeLine; decide), fun q3 nq3 => ⟨(by show 2 ≤ sizeLine; decide), fun q4 nq4 => ?_⟩⟩⟩
    have hd2 := Dp.new nq2 (.cons (.str "say") (.cons hu .nil))
    have hd3 := Dp.new nq3 (.cons hd2 .nil)
    have sC := (same_new nq2 (.tup [.str "say", u])).trans (same_new nq3 (.tup [.ref q2]))
    have hd4 : Dp K _ _ (sayP eB).d := Dp.new nq4 (.cons (Dp.same sC hq1') (.cons hd3 .nil))
    have sD := sC.trans (same_new nq4 (.tup [.ref q1, .ref q3]))
    have g11 := g8.keeps (keepS (s10.trans sD)) (rowS (s10.trans sD) g8.row)
    refine ⟨v8, .ref q4, (sayP eB).d, rfl, Dp.same sD hv10, hd4, depth_say eok.1 eok.2, slim_say eB, fun H12 s12 => ⟨true, rfl, iteF ?_⟩⟩
    exact ⟨_, _, _, rfl, rowS s12 g11.row, g11.keep.trans (keepS s12)⟩
  rintro σ H8 ⟨v5, v6, v7, rfl, R8, k8⟩
  -- mark
  refine ⟨_, rfl, (by show 4 ≤ sizeLine; decide), fun p1 np1 => ?_⟩
  refine ⟨r, a, _, rfl, R8.new np1 _, scr1.mono (k8.trans (Keep.new np1 _)), .inl ⟨p1, _, rfl, RowAt.ne R8 np1, upd_same, (by show 1 ≤ 4; decide), (by show 4 ≤ 1000; decide), fun H9 vo kp9 R9 hvo => ?_⟩⟩
  obtain ⟨o, ho, rfl⟩ := c4_w hvo
  have k9 := (k8.trans (Keep.new np1 _)).trans kp9
  -- left, right
  refine ⟨_, rfl, (by show 3 ≤ sizeLine; decide), fun p2 np2 => ?_⟩
  refine ⟨r, a, _, rfl, R9.new np2 _, scr1.mono (k9.trans (Keep.new np2 _)), .inl ⟨p2, _, rfl, RowAt.ne R9 np2, upd_same, (by show 1 ≤ 3; decide), (by show 3 ≤ 1000; decide), fun H10 v8 kp10 R10 hv8 => ?_⟩⟩
  obtain ⟨x8, rfl⟩ := int3 hv8
  have k10 := (k9.trans (Keep.new np2 _)).trans kp10
  refine ⟨_, rfl, (by show 2 ≤ sizeLine; decide), fun p3 np3 => ?_⟩
  refine ⟨r, a, _, rfl, R10.new np3 _, scr1.mono (k10.trans (Keep.new np3 _)), .inl ⟨p3, _, rfl, RowAt.ne R10 np3, upd_same, (by show 1 ≤ 2; decide), (by show 2 ≤ 1000; decide), fun H11 v9 kp11 R11 hv9 => ⟨_, _, rfl, ?_⟩⟩⟩
  obtain ⟨x9, rfl⟩ := int2 hv9
  have tab11 := tabK ((k10.trans (Keep.new np3 _)).trans kp11)
  -- one
  refine ⟨fun σ H' => ∃ v10 : V, σ = [some (.ref a), some (.ref r), some (.ref fp), some (.ref fm), v4, v5, some (.str o.w), v7, some (.int x8), some (.int x9), some v10, none, none] ∧ Dp K H' v10 (ex1 (decide (x8 = 1))).d ∧ GN.Tab PT H', ?_, ?_⟩
  · refine ⟨_, rfl, rfl, _, rfl, ite2 (fun c => ?_) (fun c => ?_)⟩
    · refine ⟨(by show 2 ≤ sizeLine; decide), fun a1 n1 => ⟨(by show 2 ≤ sizeLine; decide), fun a2 n2 => ⟨(by show 3 ≤ sizeLine; decide), fun a3 n3 => ⟨_, rfl, ?_, same_new n3 _ _ _ (same_new n2 _ _ _ (same_new n1 _ _ _ tab11))⟩⟩⟩⟩
      rw [decide_eq_true (V.int.inj (of_decide_eq_true c))]
      have u1 : Dp K _ _ (Ex.name "x").d := Dp.new n1 (.cons (.str "name") (.cons (.str "x") .nil))
      have u2 : Dp K _ _ (Ex.num 1).d := Dp.new n2 (.cons (.str "num") (.cons (.int 1) .nil))
      exact Dp.new n3 (.cons (.str "+") (.cons (Dp.same (same_new n2 _) u1) (.cons u2 .nil)))
    · refine ⟨(by show 2 ≤ sizeLine; decide), fun a1 n1 => ⟨_, rfl, ?_, same_new n1 _ _ _ tab11⟩⟩
      rw [decide_eq_false (fun q => c (decide_eq_true (by rw [q])))]
      exact Dp.new n1 (.cons (.str "name") (.cons (.str "x") .nil))
  rintro σ H12 ⟨v10, rfl, d10, tab12⟩
  -- other
  refine ⟨fun σ H' => ∃ v11 : V, σ = [some (.ref a), some (.ref r), some (.ref fp), some (.ref fm), v4, v5, some (.str o.w), v7, some (.int x8), some (.int x9), some v10, some v11, none] ∧ Dp K H' v10 (ex1 (decide (x8 = 1))).d ∧ Dp K H' v11 (ex2 (decide (x9 = 1))).d ∧ GN.Tab PT H', ?_, ?_⟩
  · refine ⟨_, rfl, rfl, _, rfl, ite2 (fun c => ?_) (fun c => ?_)⟩
    · refine ⟨(by show 2 ≤ sizeLine; decide), fun a1 n1 => ⟨(by show 1 ≤ sizeLine; decide), fun a2 n2 => ⟨(by show 3 ≤ sizeLine; decide), fun a3 n3 => ⟨_, rfl, ?_, ?_, same_new n3 _ _ _ (same_new n2 _ _ _ (same_new n1 _ _ _ tab12))⟩⟩⟩⟩
      · exact Dp.same ((same_new n1 _).trans ((same_new n2 _).trans (same_new n3 _))) d10
      · rw [decide_eq_true (V.int.inj (of_decide_eq_true c))]
        have u1 : Dp K _ _ (Ex.num 2).d := Dp.new n1 (.cons (.str "num") (.cons (.int 2) .nil))
        have u2 : Dp K _ _ (Ex.cols).d := Dp.new n2 (.cons (.str "cols") .nil)
        exact Dp.new n3 (.cons (.str "*") (.cons (Dp.same (same_new n2 _) u1) (.cons u2 .nil)))
    · refine ⟨(by show 2 ≤ sizeLine; decide), fun a1 n1 => ⟨_, rfl, Dp.same (same_new n1 _) d10, ?_, same_new n1 _ _ _ tab12⟩⟩
      rw [decide_eq_false (fun q => c (decide_eq_true (by rw [q])))]
      exact Dp.new n1 (.cons (.str "num") (.cons (.int 2) .nil))
  rintro σ H13 ⟨v11, rfl, d10', d11, tab13⟩
  -- told
  refine ⟨_, rfl, _, rfl, _, rfl, (by show 3 ≤ sizeLine; decide), fun tt ntt => ?_⟩
  have dT : Dp K _ _ (Ex.bin o (ex1 (decide (x8 = 1))) (ex2 (decide (x9 = 1)))).d := Dp.new ntt (.cons (.str o.w) (.cons d10' (.cons d11 .nil)))
  have tab14 : GN.Tab PT (upd H13 tt (.tup [.str o.w, v10, v11])) := same_new ntt _ _ _ tab13
  generalize upd H13 tt _ = H14 at dT tab14 ⊢
  -- text
  have lA : ∀ b : Bool, (tx1 b ++ o.w).length ≤ 8 := fun b => (tx_len o ho b true).2.2
  have lA' : ∀ b : Bool, (tx1 b).length + o.w.length ≤ 8 := fun b => by rw [← sums]; exact lA b
  have lB : ∀ b : Bool, (tx2 b).length ≤ 20 := by decide +kernel
  refine ⟨fun σ H' => ∃ X : Str, σ = [some (.ref a), some (.ref r), some (.ref fp), some (.ref fm), v4, some (.str X), some (.str o.w), v7, some (.int x8), some (.int x9), some v10, some v11, some (.ref tt)] ∧ X = tx1 (decide (x8 = 1)) ++ o.w ++ tx2 (decide (x9 = 1)) ∧ Dp K H' (.ref tt) (Ex.bin o (ex1 (decide (x8 = 1))) (ex2 (decide (x9 = 1)))).d ∧ GN.Tab PT H', ?_, ?_⟩
  · refine ⟨_, rfl, rfl, _, rfl, ite2 (fun c8 => ?_) (fun c8 => ?_)⟩
    · have e8 : decide (x8 = 1) = true := decide_eq_true (V.int.inj (of_decide_eq_true c8))
      have q8 := lA' true
      have q8' := lA true
      refine ⟨_, rfl, _, _, rfl, rfl, big _ (Nat.le_trans q8 (by decide)), ?_⟩
      refine ⟨_, rfl, rfl, _, rfl, ite2 (fun c9 => ?_) (fun c9 => ?_)⟩
      · have e9 : decide (x9 = 1) = true := decide_eq_true (V.int.inj (of_decide_eq_true c9))
        refine ⟨_, _, rfl, rfl, big _ (Nat.le_trans (Nat.add_le_add q8' (lB true)) (by decide)), ?_⟩
        refine ⟨_, rfl, ?_, dT, tab14⟩
        rw [e8, e9]
        rfl
      · have e9 : decide (x9 = 1) = false := decide_eq_false (fun q => c9 (decide_eq_true (by rw [q])))
        refine ⟨_, _, rfl, rfl, big _ (Nat.le_trans (Nat.add_le_add q8' (lB false)) (by decide)), ?_⟩
        refine ⟨_, rfl, ?_, dT, tab14⟩
        rw [e8, e9]
        rfl
    · have e8 : decide (x8 = 1) = false := decide_eq_false (fun q => c8 (decide_eq_true (by rw [q])))
      have q8 := lA' false
      have q8' := lA false
      refine ⟨_, rfl, _, _, rfl, rfl, big _ (Nat.le_trans q8 (by decide)), ?_⟩
      refine ⟨_, rfl, rfl, _, rfl, ite2 (fun c9 => ?_) (fun c9 => ?_)⟩
      · have e9 : decide (x9 = 1) = true := decide_eq_true (V.int.inj (of_decide_eq_true c9))
        refine ⟨_, _, rfl, rfl, big _ (Nat.le_trans (Nat.add_le_add q8' (lB true)) (by decide)), ?_⟩
        refine ⟨_, rfl, ?_, dT, tab14⟩
        rw [e8, e9]
        rfl
      · have e9 : decide (x9 = 1) = false := decide_eq_false (fun q => c9 (decide_eq_true (by rw [q])))
        refine ⟨_, _, rfl, rfl, big _ (Nat.le_trans (Nat.add_le_add q8' (lB false)) (by decide)), ?_⟩
        refine ⟨_, rfl, ?_, dT, tab14⟩
        rw [e8, e9]
        rfl
  rintro σ H15 ⟨X, rfl, hX, dT', tab15⟩
  generalize decide (x8 = 1) = b8 at hX dT'
  generalize decide (x9 = 1) = b9 at hX dT'
  subst hX
  have eo : wfE (Ex.bin o (ex1 b8) (ex2 b9)) ∧ dpE (Ex.bin o (ex1 b8) (ex2 b9)) ≤ 2 := ⟨⟨(ex_ok b8).1.1, (ex_ok b9).2.1⟩, by
    have q1 := (ex_ok b8).1.2
    have q2 := (ex_ok b9).2.2
    show max (dpE (ex1 b8)) (dpE (ex2 b9)) + 1 ≤ 2
    omega⟩
  have hXl := (tx_len o ho b8 b9).1
  have hA := tx_a o ho b8 b9
  have hB := tx_b o ho b8 b9
  have hC := tx_c o ho b8 b9
  generalize tx1 b8 ++ o.w ++ tx2 b9 = X at hXl hA hB hC ⊢
  generalize Ex.bin o (ex1 b8) (ex2 b9) = eT at dT' eo hA hB hC
  have n1 : ("say not " : Str).length = 8 := by decide +kernel
  have n2 : (" and " : Str).length = 5 := by decide +kernel
  have n3 : ("say not not " : Str).length = 12 := by decide +kernel
  have n4 : (" or not x" : Str).length = 9 := by decide +kernel
  have okA : eOk (.bin .and (.un .not eT) eT) := ⟨⟨eo.1, eo.1⟩, by
    show max (dpE eT + 1) (dpE eT) + 1 ≤ 11
    omega⟩
  have okB : eOk (.un .not (.un .not eT)) := ⟨eo.1, by
    show dpE eT + 1 + 1 ≤ 11
    omega⟩
  have okC : eOk (.bin .or eT (.un .not (.name "x"))) := ⟨⟨eo.1, by show nameW _ = true; decide +kernel⟩, by
    show max (dpE eT) (0 + 1) + 1 ≤ 11
    omega⟩
  -- say not .. and ..
  refine ⟨_, rfl, _, _, rfl, rfl, big _ (by rw [n1]; omega), _, _, rfl, rfl, big _ (by simp only [sums, n1, n2]; omega), _, rfl, _, _, rfl, rfl, big _ (by simp only [sums, n1, n2]; omega), ?_⟩
  refine ⟨_, sayP _, rfl, rfl, Rdb.sayX okA (by show max (dpE eT + 1) (dpE eT) + 1 ≤ 5; omega) hA, tab15, fun H16 v8 s8 hv8 => ?_⟩
  refine ⟨Nat.zero_le _, fun q1 m1 => ⟨_, rfl, (by show 2 ≤ sizeLine; decide), fun q2 m2 => ⟨_, rfl, (by show 3 ≤ sizeLine; decide), fun q3 m3 => ⟨(by show 2 ≤ sizeLine; decide), fun q4 m4 => ⟨(by show 1 ≤ sizeLine; decide), fun q5 m5 => ⟨(by show 2 ≤ sizeLine; decide), fun q6 m6 => ?_⟩⟩⟩⟩⟩⟩
  have hT16 := Dp.same s8 dT'
  have hq1 : Dp K _ _ (.tuple []) := Dp.new m1 .nil
  have t1 := same_new m1 (.tup [])
  have d2 : Dp K _ _ (Ex.un .not eT).d := Dp.new m2 (.cons (.str "not") (.cons (Dp.same t1 hT16) .nil))
  have t2 := same_new m2 (.tup [.str "not", .ref tt])
  have d3 : Dp K _ _ (Ex.bin .and (.un .not eT) eT).d := Dp.new m3 (.cons (.str "and") (.cons d2 (.cons (Dp.same (t1.trans t2) hT16) .nil)))
  have t3 := same_new m3 (.tup [.str "and", .ref q2, .ref tt])
  have d4 := Dp.new m4 (.cons (.str "say") (.cons d3 .nil))
  have t4 := same_new m4 (.tup [.str "say", .ref q3])
  have d5 := Dp.new m5 (.cons d4 .nil)
  have t5 := same_new m5 (.tup [.ref q4])
  have d6 : Dp K _ _ (sayP (.bin .and (.un .not eT) eT)).d := Dp.new m6 (.cons (Dp.same (t2.trans (t3.trans (t4.trans t5))) hq1) (.cons d5 .nil))
  have tall := t1.trans (t2.trans (t3.trans (t4.trans (t5.trans (same_new m6 (.tup [.ref q1, .ref q5]))))))
  refine ⟨v8, .ref q6, (sayP (.bin .and (.un .not eT) eT)).d, rfl, Dp.same tall hv8, d6, depth_say okA.1 okA.2, slim_say _, fun H17 s17 => ⟨true, rfl, iteF ?_⟩⟩
  have dT17 := Dp.same (tall.trans s17) hT16
  have tab17 := (tall.trans s17) _ _ (s8 _ _ tab15)
  clear hT16 hq1 t1 d2 t2 d3 t3 d4 t4 d5 t5 d6 tall m1 m2 m3 m4 m5 m6
  -- say not not ..
  refine ⟨_, rfl, _, _, rfl, rfl, big _ (by rw [n3]; omega), ?_⟩
  refine ⟨_, sayP _, rfl, rfl, Rdb.sayX okB (by show dpE eT + 1 + 1 ≤ 5; omega) hB, tab17, fun H18 v9 s18 hv9 => ?_⟩
  refine ⟨Nat.zero_le _, fun q1 m1 => ⟨_, rfl, (by show 2 ≤ sizeLine; decide), fun q2 m2 => ⟨(by show 2 ≤ sizeLine; decide), fun q3 m3 => ⟨(by show 2 ≤ sizeLine; decide), fun q4 m4 => ⟨(by show 1 ≤ sizeLine; decide), fun q5 m5 => ⟨(by show 2 ≤ sizeLine; decide), fun q6 m6 => ?_⟩⟩⟩⟩⟩⟩
  have hT18 := Dp.same s18 dT17
  have hq1 : Dp K _ _ (.tuple []) := Dp.new m1 .nil
  have t1 := same_new m1 (.tup [])
  have d2 : Dp K _ _ (Ex.un .not eT).d := Dp.new m2 (.cons (.str "not") (.cons (Dp.same t1 hT18) .nil))
  have t2 := same_new m2 (.tup [.str "not", .ref tt])
  have d3 : Dp K _ _ (Ex.un .not (.un .not eT)).d := Dp.new m3 (.cons (.str "not") (.cons d2 .nil))
  have t3 := same_new m3 (.tup [.str "not", .ref q2])
  have d4 := Dp.new m4 (.cons (.str "say") (.cons d3 .nil))
  have t4 := same_new m4 (.tup [.str "say", .ref q3])
  have d5 := Dp.new m5 (.cons d4 .nil)
  have t5 := same_new m5 (.tup [.ref q4])
  have d6 : Dp K _ _ (sayP (.un .not (.un .not eT))).d := Dp.new m6 (.cons (Dp.same (t2.trans (t3.trans (t4.trans t5))) hq1) (.cons d5 .nil))
  have tall := t1.trans (t2.trans (t3.trans (t4.trans (t5.trans (same_new m6 (.tup [.ref q1, .ref q5]))))))
  refine ⟨v9, .ref q6, (sayP (.un .not (.un .not eT))).d, rfl, Dp.same tall hv9, d6, depth_say okB.1 okB.2, slim_say _, fun H19 s19 => ⟨true, rfl, iteF ?_⟩⟩
  have dT19 := Dp.same (tall.trans s19) hT18
  have tab19 := (tall.trans s19) _ _ (s18 _ _ tab17)
  clear hT18 hq1 t1 d2 t2 d3 t3 d4 t4 d5 t5 d6 tall m1 m2 m3 m4 m5 m6
  -- say .. or not x
  refine ⟨_, rfl, _, _, rfl, rfl, big _ (by rw [say4]; omega), _, _, rfl, rfl, big _ (by simp only [sums, say4, n4]; omega), ?_⟩
  refine ⟨_, sayP _, rfl, rfl, Rdb.sayX okC (by show max (dpE eT) (0 + 1) + 1 ≤ 5; omega) hC, tab19, fun H20 v12 s20 hv12 => ?_⟩
  refine ⟨Nat.zero_le _, fun q1 m1 => ⟨_, rfl, (by show 2 ≤ sizeLine; decide), fun q2 m2 => ⟨(by show 2 ≤ sizeLine; decide), fun q3 m3 => ⟨(by show 3 ≤ sizeLine; decide), fun q4 m4 => ⟨(by show 2 ≤ sizeLine; decide), fun q5 m5 => ⟨(by show 1 ≤ sizeLine; decide), fun q6 m6 => ⟨(by show 2 ≤ sizeLine; decide), fun q7 m7' => ?_⟩⟩⟩⟩⟩⟩⟩
  have hT20 := Dp.same s20 dT19
  have hq1 : Dp K _ _ (.tuple []) := Dp.new m1 .nil
  have t1 := same_new m1 (.tup [])
  have d2 : Dp K _ _ (Ex.name "x").d := Dp.new m2 (.cons (.str "name") (.cons (.str "x") .nil))
  have t2 := same_new m2 (.tup [.str "name", .str "x"])
  have d3 : Dp K _ _ (Ex.un .not (.name "x")).d := Dp.new m3 (.cons (.str "not") (.cons d2 .nil))
  have t3 := same_new m3 (.tup [.str "not", .ref q2])
  have d4 : Dp K _ _ (Ex.bin .or eT (.un .not (.name "x"))).d := Dp.new m4 (.cons (.str "or") (.cons (Dp.same (t1.trans (t2.trans t3)) hT20) (.cons d3 .nil)))
  have t4 := same_new m4 (.tup [.str "or", .ref tt, .ref q3])
  have d5 := Dp.new m5 (.cons (.str "say") (.cons d4 .nil))
  have t5 := same_new m5 (.tup [.str "say", .ref q4])
  have d6 := Dp.new m6 (.cons d5 .nil)
  have t6 := same_new m6 (.tup [.ref q5])
  have d7 : Dp K _ _ (sayP (.bin .or eT (.un .not (.name "x")))).d := Dp.new m7' (.cons (Dp.same (t2.trans (t3.trans (t4.trans (t5.trans t6)))) hq1) (.cons d6 .nil))
  have tall := t1.trans (t2.trans (t3.trans (t4.trans (t5.trans (t6.trans (same_new m7' (.tup [.ref q1, .ref q6])))))))
  exact ⟨v12, .ref q7, (sayP (.bin .or eT (.un .not (.name "x")))).d, rfl, Dp.same tall hv12, d7, depth_say okC.1 okC.2, slim_say _, fun H21 s21 => k _ ((tall.trans s21) _ _ (s20 _ _ tab19))⟩
end
end KD

/-! The end of a law whose program holds a generator expression in one def: its table, told by what always holds, and back. -/
namespace GN
open PySem PySem.Spec PyProof.Rows L2

/-- the table, empty as the top leaves it, is told by what always holds; at the end it is told as it stands -/
theorem untab {P0 : Program} {w : World} {K : PySem.W.Frag} {mg : Str → Option Value} {base : Heap} {k : Nat} {f PT : Addr} {fd : FuncData} {ps : List Str} {sp : Sp} (G : FnOk P0 w K mg base CX0 k f fd ps sp) :
    FnOk P0 w K mg base CX0 k f fd ps (fun vs H Q E => H PT = some (.tbl #[]) ∧ sp vs (upd H PT (.ext (TabI PT))) (fun v H' => Tab PT H' ∧ ∀ H'', Q v H'') E) := by
  refine ⟨fun vs H Q E h => G.len _ _ _ _ h.2, fun A outer s H args us vs Q E hr e0 hb hv h => ?_⟩
  obtain ⟨hP, h⟩ := h
  have away : ∀ {b : Addr}, H b = none → b ≠ PT := fun n z => by rw [z, hP] at n; cases n
  have same : ∀ {b : Addr}, b ≠ PT → upd H PT (.ext (TabI PT)) b = H b := fun n => upd_ne n
  have none1 : ∀ {b : Addr}, H b = none → upd H PT (.ext (TabI PT)) b = none := fun n => by rw [same (away n)]; exact n
  have ePT := e0.hok PT _ hP
  have hok1 : HOk P0 w (upd H PT (.ext (TabI PT))) s.heap := fun b u q => by
    by_cases z : b = PT
    · subst z
      rw [upd_same] at q
      cases q
      exact TabI.okX ⟨#[], ePT, trivial⟩
    · rw [same z] at q
      refine (e0.hok b u q).stay (fun _ _ _ e => e) (fun d e => ?_) (fun d xs e => ?_)
      · rw [same (fun y => by rw [y, hP] at e; cases e)]; exact e
      · rw [same (fun y => by rw [y, hP] at e; cases e)]; exact e
  have e1 : Env0 P0 w K mg base A outer s (upd H PT (.ext (TabI PT))) := ⟨e0.frames, e0.mod, fun b o e => ⟨(e0.bs b o e).1, none1 (e0.bs b o e).2⟩, e0.bsz, e0.funs, fun b m => none1 (e0.frf b m), hok1, e0.bare⟩
  refine codeAny_mono (G.run A outer s _ args us vs _ E hr e1 hb hv h) fun r s' z => ?_
  cases r with
  | error e => exact z
  | ok fl =>
    cases fl with
    | next => exact z
    | brk => exact z
    | cont => exact z
    | ret u =>
      obtain ⟨v, H', os, bare, un, hok, rv, hT, q⟩ := z
      obtain ⟨qs, eP, tr⟩ : TabI PT s'.heap := (hok PT _ hT).1
      have far : ∀ {b : Addr} {x : HO}, (∀ φ, x ≠ .ext φ) → H' b = some x → b ≠ PT := fun n e y => by
        rw [y, hT] at e
        exact n _ (Option.some.inj e).symm
      refine ⟨v, upd H' PT (.tbl qs), os, bare, ⟨fun b o e n => un.keep b o e (none1 n), fun b o e n => un.slot b o e (none1 n), fun b o e n m => ?_, un.there, fun b xs e => ?_, fun b o x e => ?_, fun b ts e => ?_⟩, fun b x e => ?_, rv, q _⟩
      · rw [upd_ne (away n)]
        exact un.free b o e (none1 n) m
      · have nb : b ≠ PT := fun y => by rw [y, hP] at e; cases e
        rw [upd_ne nb]
        exact un.tups b xs (by rw [same nb]; exact e)
      · have nb : b ≠ PT := fun y => by rw [y, hP] at e; cases e
        rw [upd_ne nb]
        exact un.frzs b o x (by rw [same nb]; exact e)
      · by_cases y : b = PT
        · subst y
          rw [hP] at e
          cases e
          exact ⟨qs, by rw [upd_same, Array.empty_append]⟩
        · rw [upd_ne y]
          exact un.tbls b ts (by rw [same y]; exact e)
      · by_cases y : b = PT
        · subst y
          rw [upd_same] at e
          cases e
          exact eP
        · rw [upd_ne y] at e
          refine (hok b x e).stay (fun _ _ _ e => e) (fun d e => ?_) (fun d xs e => ?_)
          · rw [upd_ne (far (fun φ y => by cases y) e)]; exact e
          · rw [upd_ne (far (fun φ y => by cases y) e)]; exact e
/-- what the head tells of the def nm: its code object and its empty table -/
def TabOf (mg : Str → Option Value) (nm : Str) (h : Heap) (c PT : Addr) : Prop := ∃ (a : Addr) (o : Obj) (fd : FuncData), mg nm = some (.ref a) ∧ h.get? a = some o ∧ o.data = .func fd ∧ fd.code = .ref c ∧ PySem.W.CodeHd h c PT ∧ h.get? PT = some { cls := .none, data := .fields #[] }
theorem TabOf.of {K : PySem.W.Frag} {mg : Str → Option Value} {nm : Str} {h : Heap} {c PT c0 P0 f : Addr} {oc : Value} {od : Option Addr} {fd : FuncData} {sl : Array (Option Value)} {e : Value} {dd : Option Addr} {vs : Array Value} {sl2 : Array (Option Value)} (X : K.In h) (t : TabOf mg nm h c0 P0)
    (m : mg nm = some (.ref f)) (l : K.lookup f = some ⟨oc, od, .func fd, sl⟩) (hc : fd.code = .ref c) (lc : K.lookup c = some ⟨e, dd, .fields vs, sl2⟩) (hv : vs[11]? = some (.ref PT)) : PySem.W.CodeHd h c PT ∧ h.get? PT = some { cls := .none, data := .fields #[] } := by
  obtain ⟨a, o, fd2, m2, e2, d2, c2, cd, eP⟩ := t
  rw [m] at m2
  cases m2
  have e3 := X _ _ l
  rw [e3] at e2
  cases e2
  cases d2
  rw [hc] at c2
  cases c2
  have e4 := X _ _ lc
  have cd2 := cd
  obtain ⟨o5, vs5, _, _, _, _, _, _, _, f1, _, f3, f4, _⟩ := cd
  rw [e4] at f1
  cases f1
  cases f3
  rw [hv] at f4
  cases f4
  exact ⟨cd2, eP⟩
theorem walk_tab {l : PySem.W.OpenLaw} {n k : Nat} {q : Program} {loose : List Str} {XP : (Str → Option Value) → Heap → Prop} {YP : World → Heap → Prop} {d : DefRec} {K : Params → PySem.W.Frag} {CX : World → CXT} {x nm : Str}
    (h1 : l.most = some n) (h2 : n ≤ sizeLine) (h3 : d.params.defaults = []) (h4 : Room k callerA) (named : ((recsOf q).any fun e => e.name == nm) = true) (toK : ∀ (w : World) (h : Heap), YP w h → (K w.params).In h)
    (F : ∀ (w : World) (mg : Str → Option Value) (fa : Addr) (h : Heap), (K w.params).In h → h.Ns mainGlobals mg → mg d.name = some (.ref fa) → (∃ c PT, TabOf mg nm h c PT) → LamX.LawAtS l w (K w.params) (CX w) k n x mg fa h)
    (quiet : ∀ (w : World) (H : Hp) (s : Shared) (e : Value) (s' : Shared), CX w [] H s (fun _ _ _ => False) e s' → False) :
    PySem.W.WalkO q loose XP YP l.row.toRowW d [] (fun f vs => PySem.call f vs) :=
  Att.attach_callB h1 h3 fun w s0 s1 mg mb fa _ _ _ _ a vs ns G Y _ _ _ hmg hobj hints hlen hbits hg => by
    have KX := toK w _ Y
    have tb : ∃ c PT, TabOf mg nm s1.heap c PT := by
      obtain ⟨r, hr, en⟩ := List.any_eq_true.mp named
      obtain ⟨b, o, fd, c, PT, m, e, dd, cc, ic, ta⟩ := G.T.tab r hr
      rw [beq_iff_eq.mp en] at m
      exact ⟨c, PT, b, o, fd, m, e, dd, cc, PySem.W.CodeHd.of ic ta, ta.2⟩
    obtain ⟨fd, cs, sp, tE, tN, tC, bs, asks, ok⟩ := F w mg fa _ KX G.T.g hmg tb
    exact LamX.law_callTs KX G.T.g G.T.b G.T.builtins G.T.nolimit hg tE tN tC G.T.bmain hobj hints (Nat.le_trans hlen h2) h4 ok bs (fun H hH hS => asks H a ns hlen hbits hH hS) fun H e s' => quiet w H s1 e s'
end GN

namespace KD
open PySem L2 TL
open K0 (num Toks)
set_option maxHeartbeats 8000000 in
theorem all_mk {l : PySem.W.OpenLaw} {w : World} {K : PySem.W.Frag} {h : Heap} {mg : Str → Option Value} {fa C fW1 fW2 fW3 fW4 fW5 fW6 fN f1 f2 f3 f4 f5 f6 f7 fRI fR1 fR2 fR3 fR4 fR5 fR6 fR7 fR8 fR9 fQ1 fQ2 fQ3 fQ4 fQ5 fB1 fB2 fB3 fB4 fB5 fB6 fB7 fB8 qN PT tK tM tS tL tL0 tL1 tL2 tL3 tL4 : Addr} (X : K.In h) (G : h.Ns mainGlobals mg) (hfa : mg "law" = some (.ref fa)) (TO : ∃ c P, GN.TabOf mg "is_number" h c P)
    {odW1 anW1 odW2 anW2 odW3 anW3 odW4 anW4 odW5 anW5 odW6 anW6 odN anN od1 an1 od2 an2 od3 an3 od4 an4 od5 an5 od6 an6 od7 an7 odRI anRI odR1 anR1 odR2 anR2 odR3 anR3 odR4 anR4 odR5 anR5 odR6 anR6 odR7 anR7 odR8 anR8 odR9 anR9 odQ1 anQ1 odQ2 anQ2 odQ3 anQ3 odQ4 anQ4 odQ5 anQ5 odB1 anB1 odB2 anB2 odB3 anB3 odB4 anB4 odB5 anB5 odB6 anB6 odB7 anB7 odB8 anB8 odN2 otK otM otS otL otL0 otL1 otL2 otL3 otL4 : Option Addr} {slW1 slW2 slW3 slW4 slW5 slW6 slN sl1 sl2 sl3 sl4 sl5 sl6 sl7 slRI slR1 slR2 slR3 slR4 slR5 slR6 slR7 slR8 slR9 slQ1 slQ2 slQ3 slQ4 slQ5 slB1 slB2 slB3 slB4 slB5 slB6 slB7 slB8 slN2 stK stM stS stL stL0 stL1 stL2 stL3 stL4 : Array (Option Value)} {ocW1 kVW1 dcW1 pmW1 cdW1 ctW1 ocW2 kVW2 dcW2 pmW2 cdW2 ctW2 ocW3 kVW3 dcW3 pmW3 cdW3 ctW3 ocW4 kVW4 dcW4 pmW4 cdW4 ctW4 ocW5 kVW5 dcW5 pmW5 cdW5 ctW5 ocW6 kVW6 dcW6 pmW6 cdW6 ctW6 ocN kVN dcN pmN ctN oc1 kV1 dc1 pm1 cd1 ct1 oc2 kV2 dc2 pm2 cd2 ct2 oc3 kV3 dc3 pm3 cd3 ct3 oc4 kV4 dc4 pm4 cd4 ct4 oc5 kV5 dc5 pm5 cd5 ct5 oc6 kV6 dc6 pm6 cd6 ct6 oc7 kV7 dc7 pm7 cd7 ct7 ocRI kVRI dcRI pmRI cdRI ctRI ocR1 kVR1 dcR1 pmR1 cdR1 ctR1 ocR2 kVR2 dcR2 pmR2 cdR2 ctR2 ocR3 kVR3 dcR3 pmR3 cdR3 ctR3 ocR4 kVR4 dcR4 pmR4 cdR4 ctR4 ocR5 kVR5 dcR5 pmR5 cdR5 ctR5 ocR6 kVR6 dcR6 pmR6 cdR6 ctR6 ocR7 kVR7 dcR7 pmR7 cdR7 ctR7 ocR8 kVR8 dcR8 pmR8 cdR8 ctR8 ocR9 kVR9 dcR9 pmR9 cdR9 ctR9 ocQ1 kVQ1 dcQ1 pmQ1 cdQ1 ctQ1 ocQ2 kVQ2 dcQ2 pmQ2 cdQ2 ctQ2 ocQ3 kVQ3 dcQ3 pmQ3 cdQ3 ctQ3 ocQ4 kVQ4 dcQ4 pmQ4 cdQ4 ctQ4 ocQ5 kVQ5 dcQ5 pmQ5 cdQ5 ctQ5 ocB1 kVB1 dcB1 pmB1 cdB1 ctB1 ocB2 kVB2 dcB2 pmB2 cdB2 ctB2 ocB3 kVB3 dcB3 pmB3 cdB3 ctB3 ocB4 kVB4 dcB4 pmB4 cdB4 ctB4 ocB5 kVB5 dcB5 pmB5 cdB5 ctB5 ocB6 kVB6 dcB6 pmB6 cdB6 ctB6 ocB7 kVB7 dcB7 pmB7 cdB7 ctB7 ocB8 kVB8 dcB8 pmB8 cdB8 ctB8 ocN2 : Value} {vsN2 itK itM itS itL itL0 itL1 itL2 itL3 itL4 : Array Value} {ntK ntM ntS ntL ntL0 ntL1 ntL2 ntL3 ntL4 : Nat} {tk1 tk2 tk3 tk4 tk5 tk6 tk7 tk8 tk9 : Tok}
    (aC : PySem.W.nsIn K mainGlobals "Reader" = some (some (.ref C)))
    (aW1 : PySem.W.nsIn K mainGlobals "placed_words" = some (some (.ref fW1)))
    (lW1 : K.lookup fW1 = some ⟨ocW1, odW1, .func (PySem.W.fnOf "placed_words" "placed_words" (defArgs S_placed_words) (defBody S_placed_words) (defScope S_placed_words) .none kVW1 dcW1 pmW1 anW1 cdW1 ctW1), slW1⟩)
    (cW1 : PySem.W.codeIn K cdW1 "placed_words" = true)
    (kW1 : PySem.W.keepIn K (.ref fW1) = true)
    (aW2 : PySem.W.nsIn K mainGlobals "check_text" = some (some (.ref fW2)))
    (lW2 : K.lookup fW2 = some ⟨ocW2, odW2, .func (PySem.W.fnOf "check_text" "check_text" (defArgs S_check_text) (defBody S_check_text) (defScope S_check_text) .none kVW2 dcW2 pmW2 anW2 cdW2 ctW2), slW2⟩)
    (cW2 : PySem.W.codeIn K cdW2 "check_text" = true)
    (kW2 : PySem.W.keepIn K (.ref fW2) = true)
    (aW3 : PySem.W.nsIn K mainGlobals "word_at" = some (some (.ref fW3)))
    (lW3 : K.lookup fW3 = some ⟨ocW3, odW3, .func (PySem.W.fnOf "word_at" "word_at" (defArgs S_word_at) (defBody S_word_at) (defScope S_word_at) .none kVW3 dcW3 pmW3 anW3 cdW3 ctW3), slW3⟩)
    (cW3 : PySem.W.codeIn K cdW3 "word_at" = true)
    (kW3 : PySem.W.keepIn K (.ref fW3) = true)
    (aW4 : PySem.W.nsIn K mainGlobals "signs_at" = some (some (.ref fW4)))
    (lW4 : K.lookup fW4 = some ⟨ocW4, odW4, .func (PySem.W.fnOf "signs_at" "signs_at" (defArgs S_signs_at) (defBody S_signs_at) (defScope S_signs_at) .none kVW4 dcW4 pmW4 anW4 cdW4 ctW4), slW4⟩)
    (cW4 : PySem.W.codeIn K cdW4 "signs_at" = true)
    (kW4 : PySem.W.keepIn K (.ref fW4) = true)
    (aW5 : PySem.W.nsIn K mainGlobals "run_end" = some (some (.ref fW5)))
    (lW5 : K.lookup fW5 = some ⟨ocW5, odW5, .func (PySem.W.fnOf "run_end" "run_end" (defArgs S_run_end) (defBody S_run_end) (defScope S_run_end) .none kVW5 dcW5 pmW5 anW5 cdW5 ctW5), slW5⟩)
    (cW5 : PySem.W.codeIn K cdW5 "run_end" = true)
    (kW5 : PySem.W.keepIn K (.ref fW5) = true)
    (aW6 : PySem.W.nsIn K mainGlobals "kind_of" = some (some (.ref fW6)))
    (lW6 : K.lookup fW6 = some ⟨ocW6, odW6, .func (PySem.W.fnOf "kind_of" "kind_of" (defArgs S_kind_of) (defBody S_kind_of) (defScope S_kind_of) .none kVW6 dcW6 pmW6 anW6 cdW6 ctW6), slW6⟩)
    (cW6 : PySem.W.codeIn K cdW6 "kind_of" = true)
    (kW6 : PySem.W.keepIn K (.ref fW6) = true)
    (aN : PySem.W.nsIn K mainGlobals "is_number" = some (some (.ref fN)))
    (lN : K.lookup fN = some ⟨ocN, odN, .func (PySem.W.fnOf "is_number" "is_number" (defArgs S_is_number) (defBody S_is_number) (defScope S_is_number) .none kVN dcN pmN anN (.ref qN) ctN), slN⟩)
    (cN : PySem.W.codeIn K (.ref qN) "is_number" = true)
    (kN : PySem.W.keepIn K (.ref fN) = true)
    (a1 : PySem.W.nsIn K mainGlobals "read" = some (some (.ref f1)))
    (l1 : K.lookup f1 = some ⟨oc1, od1, .func (PySem.W.fnOf "read" "read" (defArgs S_read) (defBody S_read) (defScope S_read) .none kV1 dc1 pm1 an1 cd1 ct1), sl1⟩)
    (c1 : PySem.W.codeIn K cd1 "read" = true)
    (k1 : PySem.W.keepIn K (.ref f1) = true)
    (a2 : PySem.W.nsIn K mainGlobals "_law_taken" = some (some (.ref f2)))
    (l2 : K.lookup f2 = some ⟨oc2, od2, .func (PySem.W.fnOf "_law_taken" "_law_taken" (defArgs S__law_taken) (defBody S__law_taken) (defScope S__law_taken) .none kV2 dc2 pm2 an2 cd2 ct2), sl2⟩)
    (c2 : PySem.W.codeIn K cd2 "_law_taken" = true)
    (k2 : PySem.W.keepIn K (.ref f2) = true)
    (a3 : PySem.W.nsIn K mainGlobals "_law_pick" = some (some (.ref f3)))
    (l3 : K.lookup f3 = some ⟨oc3, od3, .func (PySem.W.fnOf "_law_pick" "_law_pick" (defArgs S__law_pick) (defBody S__law_pick) (defScope S__law_pick) .none kV3 dc3 pm3 an3 cd3 ct3), sl3⟩)
    (c3 : PySem.W.codeIn K cd3 "_law_pick" = true)
    (k3 : PySem.W.keepIn K (.ref f3) = true)
    (a4 : PySem.W.nsIn K mainGlobals "_law_alike" = some (some (.ref f4)))
    (l4 : K.lookup f4 = some ⟨oc4, od4, .func (PySem.W.fnOf "_law_alike" "_law_alike" (defArgs S__law_alike) (defBody S__law_alike) (defScope S__law_alike) .none kV4 dc4 pm4 an4 cd4 ct4), sl4⟩)
    (c4 : PySem.W.codeIn K cd4 "_law_alike" = true)
    (k4 : PySem.W.keepIn K (.ref f4) = true)
    (a5 : PySem.W.nsIn K mainGlobals "_law_bare" = some (some (.ref f5)))
    (l5 : K.lookup f5 = some ⟨oc5, od5, .func (PySem.W.fnOf "_law_bare" "_law_bare" (defArgs S__law_bare) (defBody S__law_bare) (defScope S__law_bare) .none kV5 dc5 pm5 an5 cd5 ct5), sl5⟩)
    (c5 : PySem.W.codeIn K cd5 "_law_bare" = true)
    (k5 : PySem.W.keepIn K (.ref f5) = true)
    (a6 : PySem.W.nsIn K mainGlobals "_law_bound" = some (some (.ref f6)))
    (l6 : K.lookup f6 = some ⟨oc6, od6, .func (PySem.W.fnOf "_law_bound" "_law_bound" (defArgs S__law_bound) (defBody S__law_bound) (defScope S__law_bound) .none kV6 dc6 pm6 an6 cd6 ct6), sl6⟩)
    (c6 : PySem.W.codeIn K cd6 "_law_bound" = true)
    (k6 : PySem.W.keepIn K (.ref f6) = true)
    (a7 : PySem.W.nsIn K mainGlobals "law" = some (some (.ref f7)))
    (l7 : K.lookup f7 = some ⟨oc7, od7, .func (PySem.W.fnOf "law" "law" (defArgs S_law) (defBody S_law) (defScope S_law) .none kV7 dc7 pm7 an7 cd7 ct7), sl7⟩)
    (c7 : PySem.W.codeIn K cd7 "law" = true)
    (k7 : PySem.W.keepIn K (.ref f7) = true)
    (aRI : PySem.W.findIn K (.ref C) "__init__" = some (some (.ref fRI)))
    (iRI : PySem.W.isFn K (.ref fRI) = true)
    (lRI : K.lookup fRI = some ⟨ocRI, odRI, .func (PySem.W.fnOf "__init__" "Reader.__init__" (defArgs S_Reader___init__) (defBody S_Reader___init__) (defScope S_Reader___init__) .none kVRI dcRI pmRI anRI cdRI ctRI), slRI⟩)
    (cRI : PySem.W.codeIn K cdRI "Reader.__init__" = true)
    (kRI : PySem.W.keepIn K (.ref fRI) = true)
    (aR1 : PySem.W.findIn K (.ref C) "kind" = some (some (.ref fR1)))
    (iR1 : PySem.W.isFn K (.ref fR1) = true)
    (lR1 : K.lookup fR1 = some ⟨ocR1, odR1, .func (PySem.W.fnOf "kind" "Reader.kind" (defArgs S_Reader_kind) (defBody S_Reader_kind) (defScope S_Reader_kind) .none kVR1 dcR1 pmR1 anR1 cdR1 ctR1), slR1⟩)
    (cR1 : PySem.W.codeIn K cdR1 "Reader.kind" = true)
    (kR1 : PySem.W.keepIn K (.ref fR1) = true)
    (aR2 : PySem.W.findIn K (.ref C) "word" = some (some (.ref fR2)))
    (iR2 : PySem.W.isFn K (.ref fR2) = true)
    (lR2 : K.lookup fR2 = some ⟨ocR2, odR2, .func (PySem.W.fnOf "word" "Reader.word" (defArgs S_Reader_word) (defBody S_Reader_word) (defScope S_Reader_word) .none kVR2 dcR2 pmR2 anR2 cdR2 ctR2), slR2⟩)
    (cR2 : PySem.W.codeIn K cdR2 "Reader.word" = true)
    (kR2 : PySem.W.keepIn K (.ref fR2) = true)
    (aR3 : PySem.W.findIn K (.ref C) "place" = some (some (.ref fR3)))
    (iR3 : PySem.W.isFn K (.ref fR3) = true)
    (lR3 : K.lookup fR3 = some ⟨ocR3, odR3, .func (PySem.W.fnOf "place" "Reader.place" (defArgs S_Reader_place) (defBody S_Reader_place) (defScope S_Reader_place) .none kVR3 dcR3 pmR3 anR3 cdR3 ctR3), slR3⟩)
    (cR3 : PySem.W.codeIn K cdR3 "Reader.place" = true)
    (kR3 : PySem.W.keepIn K (.ref fR3) = true)
    (aR4 : PySem.W.findIn K (.ref C) "taken" = some (some (.ref fR4)))
    (iR4 : PySem.W.isFn K (.ref fR4) = true)
    (lR4 : K.lookup fR4 = some ⟨ocR4, odR4, .func (PySem.W.fnOf "taken" "Reader.taken" (defArgs S_Reader_taken) (defBody S_Reader_taken) (defScope S_Reader_taken) .none kVR4 dcR4 pmR4 anR4 cdR4 ctR4), slR4⟩)
    (cR4 : PySem.W.codeIn K cdR4 "Reader.taken" = true)
    (kR4 : PySem.W.keepIn K (.ref fR4) = true)
    (aR5 : PySem.W.findIn K (.ref C) "passes" = some (some (.ref fR5)))
    (iR5 : PySem.W.isFn K (.ref fR5) = true)
    (lR5 : K.lookup fR5 = some ⟨ocR5, odR5, .func (PySem.W.fnOf "passes" "Reader.passes" (defArgs S_Reader_passes) (defBody S_Reader_passes) (defScope S_Reader_passes) .none kVR5 dcR5 pmR5 anR5 cdR5 ctR5), slR5⟩)
    (cR5 : PySem.W.codeIn K cdR5 "Reader.passes" = true)
    (kR5 : PySem.W.keepIn K (.ref fR5) = true)
    (aR6 : PySem.W.findIn K (.ref C) "must_pass" = some (some (.ref fR6)))
    (iR6 : PySem.W.isFn K (.ref fR6) = true)
    (lR6 : K.lookup fR6 = some ⟨ocR6, odR6, .func (PySem.W.fnOf "must_pass" "Reader.must_pass" (defArgs S_Reader_must_pass) (defBody S_Reader_must_pass) (defScope S_Reader_must_pass) .none kVR6 dcR6 pmR6 anR6 cdR6 ctR6), slR6⟩)
    (cR6 : PySem.W.codeIn K cdR6 "Reader.must_pass" = true)
    (kR6 : PySem.W.keepIn K (.ref fR6) = true)
    (aR7 : PySem.W.findIn K (.ref C) "name" = some (some (.ref fR7)))
    (iR7 : PySem.W.isFn K (.ref fR7) = true)
    (lR7 : K.lookup fR7 = some ⟨ocR7, odR7, .func (PySem.W.fnOf "name" "Reader.name" (defArgs S_Reader_name) (defBody S_Reader_name) (defScope S_Reader_name) .none kVR7 dcR7 pmR7 anR7 cdR7 ctR7), slR7⟩)
    (cR7 : PySem.W.codeIn K cdR7 "Reader.name" = true)
    (kR7 : PySem.W.keepIn K (.ref fR7) = true)
    (aR8 : PySem.W.findIn K (.ref C) "go_in" = some (some (.ref fR8)))
    (iR8 : PySem.W.isFn K (.ref fR8) = true)
    (lR8 : K.lookup fR8 = some ⟨ocR8, odR8, .func (PySem.W.fnOf "go_in" "Reader.go_in" (defArgs S_Reader_go_in) (defBody S_Reader_go_in) (defScope S_Reader_go_in) .none kVR8 dcR8 pmR8 anR8 cdR8 ctR8), slR8⟩)
    (cR8 : PySem.W.codeIn K cdR8 "Reader.go_in" = true)
    (kR8 : PySem.W.keepIn K (.ref fR8) = true)
    (aR9 : PySem.W.findIn K (.ref C) "come_out" = some (some (.ref fR9)))
    (iR9 : PySem.W.isFn K (.ref fR9) = true)
    (lR9 : K.lookup fR9 = some ⟨ocR9, odR9, .func (PySem.W.fnOf "come_out" "Reader.come_out" (defArgs S_Reader_come_out) (defBody S_Reader_come_out) (defScope S_Reader_come_out) .none kVR9 dcR9 pmR9 anR9 cdR9 ctR9), slR9⟩)
    (cR9 : PySem.W.codeIn K cdR9 "Reader.come_out" = true)
    (kR9 : PySem.W.keepIn K (.ref fR9) = true)
    (aQ1 : PySem.W.findIn K (.ref C) "expression" = some (some (.ref fQ1)))
    (iQ1 : PySem.W.isFn K (.ref fQ1) = true)
    (lQ1 : K.lookup fQ1 = some ⟨ocQ1, odQ1, .func (PySem.W.fnOf "expression" "Reader.expression" (defArgs S_Reader_expression) (defBody S_Reader_expression) (defScope S_Reader_expression) .none kVQ1 dcQ1 pmQ1 anQ1 cdQ1 ctQ1), slQ1⟩)
    (cQ1 : PySem.W.codeIn K cdQ1 "Reader.expression" = true)
    (kQ1 : PySem.W.keepIn K (.ref fQ1) = true)
    (aQ2 : PySem.W.findIn K (.ref C) "joined" = some (some (.ref fQ2)))
    (iQ2 : PySem.W.isFn K (.ref fQ2) = true)
    (lQ2 : K.lookup fQ2 = some ⟨ocQ2, odQ2, .func (PySem.W.fnOf "joined" "Reader.joined" (defArgs S_Reader_joined) (defBody S_Reader_joined) (defScope S_Reader_joined) .none kVQ2 dcQ2 pmQ2 anQ2 cdQ2 ctQ2), slQ2⟩)
    (cQ2 : PySem.W.codeIn K cdQ2 "Reader.joined" = true)
    (kQ2 : PySem.W.keepIn K (.ref fQ2) = true)
    (aQ3 : PySem.W.findIn K (.ref C) "denied" = some (some (.ref fQ3)))
    (iQ3 : PySem.W.isFn K (.ref fQ3) = true)
    (lQ3 : K.lookup fQ3 = some ⟨ocQ3, odQ3, .func (PySem.W.fnOf "denied" "Reader.denied" (defArgs S_Reader_denied) (defBody S_Reader_denied) (defScope S_Reader_denied) .none kVQ3 dcQ3 pmQ3 anQ3 cdQ3 ctQ3), slQ3⟩)
    (cQ3 : PySem.W.codeIn K cdQ3 "Reader.denied" = true)
    (kQ3 : PySem.W.keepIn K (.ref fQ3) = true)
    (aQ4 : PySem.W.findIn K (.ref C) "part" = some (some (.ref fQ4)))
    (iQ4 : PySem.W.isFn K (.ref fQ4) = true)
    (lQ4 : K.lookup fQ4 = some ⟨ocQ4, odQ4, .func (PySem.W.fnOf "part" "Reader.part" (defArgs S_Reader_part) (defBody S_Reader_part) (defScope S_Reader_part) .none kVQ4 dcQ4 pmQ4 anQ4 cdQ4 ctQ4), slQ4⟩)
    (cQ4 : PySem.W.codeIn K cdQ4 "Reader.part" = true)
    (kQ4 : PySem.W.keepIn K (.ref fQ4) = true)
    (aQ5 : PySem.W.findIn K (.ref C) "nest" = some (some (.ref fQ5)))
    (iQ5 : PySem.W.isFn K (.ref fQ5) = true)
    (lQ5 : K.lookup fQ5 = some ⟨ocQ5, odQ5, .func (PySem.W.fnOf "nest" "Reader.nest" (defArgs S_Reader_nest) (defBody S_Reader_nest) (defScope S_Reader_nest) .none kVQ5 dcQ5 pmQ5 anQ5 cdQ5 ctQ5), slQ5⟩)
    (cQ5 : PySem.W.codeIn K cdQ5 "Reader.nest" = true)
    (kQ5 : PySem.W.keepIn K (.ref fQ5) = true)
    (aB1 : PySem.W.findIn K (.ref C) "block" = some (some (.ref fB1)))
    (iB1 : PySem.W.isFn K (.ref fB1) = true)
    (lB1 : K.lookup fB1 = some ⟨ocB1, odB1, .func (PySem.W.fnOf "block" "Reader.block" (defArgs S_Reader_block) (defBody S_Reader_block) (defScope S_Reader_block) .none kVB1 dcB1 pmB1 anB1 cdB1 ctB1), slB1⟩)
    (cB1 : PySem.W.codeIn K cdB1 "Reader.block" = true)
    (kB1 : PySem.W.keepIn K (.ref fB1) = true)
    (aB2 : PySem.W.findIn K (.ref C) "statements" = some (some (.ref fB2)))
    (iB2 : PySem.W.isFn K (.ref fB2) = true)
    (lB2 : K.lookup fB2 = some ⟨ocB2, odB2, .func (PySem.W.fnOf "statements" "Reader.statements" (defArgs S_Reader_statements) (defBody S_Reader_statements) (defScope S_Reader_statements) .none kVB2 dcB2 pmB2 anB2 cdB2 ctB2), slB2⟩)
    (cB2 : PySem.W.codeIn K cdB2 "Reader.statements" = true)
    (kB2 : PySem.W.keepIn K (.ref fB2) = true)
    (aB3 : PySem.W.findIn K (.ref C) "statement" = some (some (.ref fB3)))
    (iB3 : PySem.W.isFn K (.ref fB3) = true)
    (lB3 : K.lookup fB3 = some ⟨ocB3, odB3, .func (PySem.W.fnOf "statement" "Reader.statement" (defArgs S_Reader_statement) (defBody S_Reader_statement) (defScope S_Reader_statement) .none kVB3 dcB3 pmB3 anB3 cdB3 ctB3), slB3⟩)
    (cB3 : PySem.W.codeIn K cdB3 "Reader.statement" = true)
    (kB3 : PySem.W.keepIn K (.ref fB3) = true)
    (aB4 : PySem.W.findIn K (.ref C) "set_name" = some (some (.ref fB4)))
    (iB4 : PySem.W.isFn K (.ref fB4) = true)
    (lB4 : K.lookup fB4 = some ⟨ocB4, odB4, .func (PySem.W.fnOf "set_name" "Reader.set_name" (defArgs S_Reader_set_name) (defBody S_Reader_set_name) (defScope S_Reader_set_name) .none kVB4 dcB4 pmB4 anB4 cdB4 ctB4), slB4⟩)
    (cB4 : PySem.W.codeIn K cdB4 "Reader.set_name" = true)
    (kB4 : PySem.W.keepIn K (.ref fB4) = true)
    (aB5 : PySem.W.findIn K (.ref C) "last_value" = some (some (.ref fB5)))
    (iB5 : PySem.W.isFn K (.ref fB5) = true)
    (lB5 : K.lookup fB5 = some ⟨ocB5, odB5, .func (PySem.W.fnOf "last_value" "Reader.last_value" (defArgs S_Reader_last_value) (defBody S_Reader_last_value) (defScope S_Reader_last_value) .none kVB5 dcB5 pmB5 anB5 cdB5 ctB5), slB5⟩)
    (cB5 : PySem.W.codeIn K cdB5 "Reader.last_value" = true)
    (kB5 : PySem.W.keepIn K (.ref fB5) = true)
    (aB6 : PySem.W.findIn K (.ref C) "other_block" = some (some (.ref fB6)))
    (iB6 : PySem.W.isFn K (.ref fB6) = true)
    (lB6 : K.lookup fB6 = some ⟨ocB6, odB6, .func (PySem.W.fnOf "other_block" "Reader.other_block" (defArgs S_Reader_other_block) (defBody S_Reader_other_block) (defScope S_Reader_other_block) .none kVB6 dcB6 pmB6 anB6 cdB6 ctB6), slB6⟩)
    (cB6 : PySem.W.codeIn K cdB6 "Reader.other_block" = true)
    (kB6 : PySem.W.keepIn K (.ref fB6) = true)
    (aB7 : PySem.W.findIn K (.ref C) "passed" = some (some (.ref fB7)))
    (iB7 : PySem.W.isFn K (.ref fB7) = true)
    (lB7 : K.lookup fB7 = some ⟨ocB7, odB7, .func (PySem.W.fnOf "passed" "Reader.passed" (defArgs S_Reader_passed) (defBody S_Reader_passed) (defScope S_Reader_passed) .none kVB7 dcB7 pmB7 anB7 cdB7 ctB7), slB7⟩)
    (cB7 : PySem.W.codeIn K cdB7 "Reader.passed" = true)
    (kB7 : PySem.W.keepIn K (.ref fB7) = true)
    (aB8 : PySem.W.findIn K (.ref C) "program" = some (some (.ref fB8)))
    (iB8 : PySem.W.isFn K (.ref fB8) = true)
    (lB8 : K.lookup fB8 = some ⟨ocB8, odB8, .func (PySem.W.fnOf "program" "Reader.program" (defArgs S_Reader_program) (defBody S_Reader_program) (defScope S_Reader_program) .none kVB8 dcB8 pmB8 anB8 cdB8 ctB8), slB8⟩)
    (cB8 : PySem.W.codeIn K cdB8 "Reader.program" = true)
    (kB8 : PySem.W.keepIn K (.ref fB8) = true)
    (lcN : K.lookup qN = some ⟨ocN2, odN2, .fields vsN2, slN2⟩)
    (vcN : vsN2[11]? = some (.ref PT))
    (npT : K.lookup PT = none)
    (pg : PySem.W.plainGet K C Str.empty = true)
    (hd : PySem.W.hasDictIn K C = true)
    (po : PySem.W.plainOver K C = true)
    (sa : PySem.W.findIn K (.ref C) "__setattr__" = some (some (.builtin "object.__setattr__")))
    (mk : PySem.W.makesIn K C = true)
    (kc : PySem.W.keepIn K (.ref C) = true)
    (nA_told : PySem.W.findIn K (.ref C) "told" = some none)
    (nA_at : PySem.W.findIn K (.ref C) "at" = some none)
    (nA_nests : PySem.W.findIn K (.ref C) "nests" = some none)
    (nA_places : PySem.W.findIn K (.ref C) "places" = some none)
    (atK : PySem.W.nsIn K mainGlobals "KEYS" = some (some (.ref tK)))
    (ltK : K.lookup tK = some ⟨.type "tuple", otK, .seq itK ntK, stK⟩)
    (vtK : Vals (K0.kws.map V.str) itK.toList)
    (ztK : itK.size ≤ sizeLine)
    (atM : PySem.W.nsIn K mainGlobals "MARKS" = some (some (.ref tM)))
    (ltM : K.lookup tM = some ⟨.type "tuple", otM, .seq itM ntM, stM⟩)
    (vtM : Vals (K0.mks.map V.str) itM.toList)
    (ztM : itM.size ≤ sizeLine)
    (atS : PySem.W.nsIn K mainGlobals "STATEMENTS" = some (some (.ref tS)))
    (ltS : K.lookup tS = some ⟨.type "tuple", otS, .seq itS ntS, stS⟩)
    (vtS : Vals (stW.map V.str) itS.toList)
    (ztS : itS.size ≤ sizeLine)
    (atL : PySem.W.nsIn K mainGlobals "LEVELS" = some (some (.ref tL)))
    (ltL : K.lookup tL = some ⟨.type "tuple", otL, .seq itL ntL, stL⟩)
    (vtL : Vals [.ref tL0, .ref tL1, .ref tL2, .ref tL3, .ref tL4] itL.toList)
    (ztL : itL.size ≤ sizeLine)
    (ltL0 : K.lookup tL0 = some ⟨.type "tuple", otL0, .seq itL0 ntL0, stL0⟩)
    (vtL0 : Vals ((lvW 0).map V.str) itL0.toList)
    (ztL0 : itL0.size ≤ sizeLine)
    (ltL1 : K.lookup tL1 = some ⟨.type "tuple", otL1, .seq itL1 ntL1, stL1⟩)
    (vtL1 : Vals ((lvW 1).map V.str) itL1.toList)
    (ztL1 : itL1.size ≤ sizeLine)
    (ltL2 : K.lookup tL2 = some ⟨.type "tuple", otL2, .seq itL2 ntL2, stL2⟩)
    (vtL2 : Vals ((lvW 2).map V.str) itL2.toList)
    (ztL2 : itL2.size ≤ sizeLine)
    (ltL3 : K.lookup tL3 = some ⟨.type "tuple", otL3, .seq itL3 ntL3, stL3⟩)
    (vtL3 : Vals ((lvW 3).map V.str) itL3.toList)
    (ztL3 : itL3.size ≤ sizeLine)
    (ltL4 : K.lookup tL4 = some ⟨.type "tuple", otL4, .seq itL4 ntL4, stL4⟩)
    (vtL4 : Vals ((lvW 4).map V.str) itL4.toList)
    (ztL4 : itL4.size ≤ sizeLine)
    (s1 : PySem.W.nsIn K mainGlobals "MOST_SIGNS" = some (some (.int 100000 tk1)))
    (s2 : PySem.W.nsIn K mainGlobals "MOST_FIGURES" = some (some (.int 6 tk2)))
    (s3 : PySem.W.nsIn K mainGlobals "MOST_LETTERS" = some (some (.int 12 tk3)))
    (s4 : PySem.W.nsIn K mainGlobals "MOST_NESTS" = some (some (.int 40 tk4)))
    (s5 : PySem.W.nsIn K mainGlobals "COMPARING" = some (some (.int 2 tk5)))
    (s6 : PySem.W.nsIn K mainGlobals "PARTS" = some (some (.int 5 tk6)))
    (s7 : PySem.W.nsIn K mainGlobals "FIGURES" = some (some (.str "0123456789" tk7)))
    (s8 : PySem.W.nsIn K mainGlobals "LETTERS" = some (some (.str "abcdefghijklmnopqrstuvwxyz" tk8)))
    (s9 : PySem.W.nsIn K mainGlobals "BLANKS" = some (some (.str " \n" tk9)))
    (z0 : PySem.W.nsIn K mainGlobals "len" = some none)
    (z1 : PySem.W.nsIn K mainGlobals "int" = some none)
    (z2 : PySem.W.nsIn K mainGlobals "isinstance" = some none)
    (z3 : PySem.W.nsIn K mainGlobals "str" = some none)
    (z4 : PySem.W.nsIn K mainGlobals "tuple" = some none)
    (z5 : PySem.W.nsIn K mainGlobals "list" = some none)
    (z6 : PySem.W.nsIn K mainGlobals "range" = some none)
    (z7 : PySem.W.nsIn K mainGlobals "bool" = some none)
    (z8 : PySem.W.nsIn K mainGlobals "all" = some none)
    (z9 : PySem.W.nsIn K mainGlobals "zip" = some none)
    : LamX.LawAtS l w K CX0 120 63 "script" mg fa h := by
  have e := hfa.symm.trans (PySem.W.mg_of X G a7)
  cases e
  have FW1 := fun_mk (st := S_placed_words) lW1 cW1 kW1
  have bW1 := FW1.binds (ps := ["text"]) fun _ _ _ _ _ _ us hl => match us, hl with | [_], _ => rfl
  have mW1 := PySem.W.mg_of X G aW1
  have FW2 := fun_mk (st := S_check_text) lW2 cW2 kW2
  have bW2 := FW2.binds (ps := ["value"]) fun _ _ _ _ _ _ us hl => match us, hl with | [_], _ => rfl
  have mW2 := PySem.W.mg_of X G aW2
  have FW3 := fun_mk (st := S_word_at) lW3 cW3 kW3
  have bW3 := FW3.binds (ps := ["text", "at"]) fun _ _ _ _ _ _ us hl => match us, hl with | [_, _], _ => rfl
  have mW3 := PySem.W.mg_of X G aW3
  have FW4 := fun_mk (st := S_signs_at) lW4 cW4 kW4
  have bW4 := FW4.binds (ps := ["text", "at"]) fun _ _ _ _ _ _ us hl => match us, hl with | [_, _], _ => rfl
  have mW4 := PySem.W.mg_of X G aW4
  have FW5 := fun_mk (st := S_run_end) lW5 cW5 kW5
  have bW5 := FW5.binds (ps := ["text", "at", "signs"]) fun _ _ _ _ _ _ us hl => match us, hl with | [_, _, _], _ => rfl
  have mW5 := PySem.W.mg_of X G aW5
  have FW6 := fun_mk (st := S_kind_of) lW6 cW6 kW6
  have bW6 := FW6.binds (ps := ["word"]) fun _ _ _ _ _ _ us hl => match us, hl with | [_], _ => rfl
  have mW6 := PySem.W.mg_of X G aW6
  have FN : K8.FunT K "is_number" "is_number" S_is_number fN _ qN := ⟨_, _, _, _, _, _, _, _, rfl, lN, cN⟩
  have bN := (fun_mk (st := S_is_number) lN cN kN).binds (ps := ["signs", "most"]) fun _ _ _ _ _ _ us hl => match us, hl with | [_, _], _ => rfl
  have mN := PySem.W.mg_of X G aN
  have F1 := fun_mk (st := S_read) l1 c1 k1
  have b1 := F1.binds (ps := ["text"]) fun _ _ _ _ _ _ us hl => match us, hl with | [_], _ => rfl
  have m1 := PySem.W.mg_of X G a1
  have F2 := fun_mk (st := S__law_taken) l2 c2 k2
  have b2 := F2.binds (ps := ["row", "many"]) fun _ _ _ _ _ _ us hl => match us, hl with | [_, _], _ => rfl
  have m2 := PySem.W.mg_of X G a2
  have F3 := fun_mk (st := S__law_pick) l3 c3 k3
  have b3 := F3.binds (ps := ["row", "things"]) fun _ _ _ _ _ _ us hl => match us, hl with | [_, _], _ => rfl
  have m3 := PySem.W.mg_of X G a3
  have F4 := fun_mk (st := S__law_alike) l4 c4 k4
  have b4 := F4.binds (ps := ["found", "due"]) fun _ _ _ _ _ _ us hl => match us, hl with | [_, _], _ => rfl
  have m4 := PySem.W.mg_of X G a4
  have F5 := fun_mk (st := S__law_bare) l5 c5 k5
  have b5 := F5.binds (ps := ["tree"]) fun _ _ _ _ _ _ us hl => match us, hl with | [_], _ => rfl
  have m5 := PySem.W.mg_of X G a5
  have F6 := fun_mk (st := S__law_bound) l6 c6 k6
  have b6 := F6.binds (ps := ["parts", "marks"]) fun _ _ _ _ _ _ us hl => match us, hl with | [_, _], _ => rfl
  have m6 := PySem.W.mg_of X G a6
  have F7 := fun_mk (st := S_law) l7 c7 k7
  have FRI := fun_mk (st := S_Reader___init__) lRI cRI kRI
  have bRI := FRI.binds (ps := ["self", "text"]) fun _ _ _ _ _ _ us hl => match us, hl with | [_, _], _ => rfl
  have FR1 := fun_mk (st := S_Reader_kind) lR1 cR1 kR1
  have bR1 := FR1.binds (ps := ["self"]) fun _ _ _ _ _ _ us hl => match us, hl with | [_], _ => rfl
  have FR2 := fun_mk (st := S_Reader_word) lR2 cR2 kR2
  have bR2 := FR2.binds (ps := ["self"]) fun _ _ _ _ _ _ us hl => match us, hl with | [_], _ => rfl
  have FR3 := fun_mk (st := S_Reader_place) lR3 cR3 kR3
  have bR3 := FR3.binds (ps := ["self"]) fun _ _ _ _ _ _ us hl => match us, hl with | [_], _ => rfl
  have FR4 := fun_mk (st := S_Reader_taken) lR4 cR4 kR4
  have bR4 := FR4.binds (ps := ["self"]) fun _ _ _ _ _ _ us hl => match us, hl with | [_], _ => rfl
  have FR5 := fun_mk (st := S_Reader_passes) lR5 cR5 kR5
  have bR5 := FR5.binds (ps := ["self", "word"]) fun _ _ _ _ _ _ us hl => match us, hl with | [_, _], _ => rfl
  have FR6 := fun_mk (st := S_Reader_must_pass) lR6 cR6 kR6
  have bR6 := FR6.binds (ps := ["self", "word"]) fun _ _ _ _ _ _ us hl => match us, hl with | [_, _], _ => rfl
  have FR7 := fun_mk (st := S_Reader_name) lR7 cR7 kR7
  have bR7 := FR7.binds (ps := ["self"]) fun _ _ _ _ _ _ us hl => match us, hl with | [_], _ => rfl
  have FR8 := fun_mk (st := S_Reader_go_in) lR8 cR8 kR8
  have bR8 := FR8.binds (ps := ["self"]) fun _ _ _ _ _ _ us hl => match us, hl with | [_], _ => rfl
  have FR9 := fun_mk (st := S_Reader_come_out) lR9 cR9 kR9
  have bR9 := FR9.binds (ps := ["self"]) fun _ _ _ _ _ _ us hl => match us, hl with | [_], _ => rfl
  have FQ1 := fun_mk (st := S_Reader_expression) lQ1 cQ1 kQ1
  have bQ1 := FQ1.binds (ps := ["self"]) fun _ _ _ _ _ _ us hl => match us, hl with | [_], _ => rfl
  have FQ2 := fun_mk (st := S_Reader_joined) lQ2 cQ2 kQ2
  have bQ2 := FQ2.binds (ps := ["self", "level"]) fun _ _ _ _ _ _ us hl => match us, hl with | [_, _], _ => rfl
  have FQ3 := fun_mk (st := S_Reader_denied) lQ3 cQ3 kQ3
  have bQ3 := FQ3.binds (ps := ["self"]) fun _ _ _ _ _ _ us hl => match us, hl with | [_], _ => rfl
  have FQ4 := fun_mk (st := S_Reader_part) lQ4 cQ4 kQ4
  have bQ4 := FQ4.binds (ps := ["self"]) fun _ _ _ _ _ _ us hl => match us, hl with | [_], _ => rfl
  have FQ5 := fun_mk (st := S_Reader_nest) lQ5 cQ5 kQ5
  have bQ5 := FQ5.binds (ps := ["self"]) fun _ _ _ _ _ _ us hl => match us, hl with | [_], _ => rfl
  have FB1 := fun_mk (st := S_Reader_block) lB1 cB1 kB1
  have bB1 := FB1.binds (ps := ["self"]) fun _ _ _ _ _ _ us hl => match us, hl with | [_], _ => rfl
  have FB2 := fun_mk (st := S_Reader_statements) lB2 cB2 kB2
  have bB2 := FB2.binds (ps := ["self"]) fun _ _ _ _ _ _ us hl => match us, hl with | [_], _ => rfl
  have FB3 := fun_mk (st := S_Reader_statement) lB3 cB3 kB3
  have bB3 := FB3.binds (ps := ["self"]) fun _ _ _ _ _ _ us hl => match us, hl with | [_], _ => rfl
  have FB4 := fun_mk (st := S_Reader_set_name) lB4 cB4 kB4
  have bB4 := FB4.binds (ps := ["self"]) fun _ _ _ _ _ _ us hl => match us, hl with | [_], _ => rfl
  have FB5 := fun_mk (st := S_Reader_last_value) lB5 cB5 kB5
  have bB5 := FB5.binds (ps := ["self"]) fun _ _ _ _ _ _ us hl => match us, hl with | [_], _ => rfl
  have FB6 := fun_mk (st := S_Reader_other_block) lB6 cB6 kB6
  have bB6 := FB6.binds (ps := ["self"]) fun _ _ _ _ _ _ us hl => match us, hl with | [_], _ => rfl
  have FB7 := fun_mk (st := S_Reader_passed) lB7 cB7 kB7
  have bB7 := FB7.binds (ps := ["self"]) fun _ _ _ _ _ _ us hl => match us, hl with | [_], _ => rfl
  have FB8 := fun_mk (st := S_Reader_program) lB8 cB8 kB8
  have bB8 := FB8.binds (ps := ["self"]) fun _ _ _ _ _ _ us hl => match us, hl with | [_], _ => rfl
  have T : Blt mg := ⟨PySem.W.mg_none_of X G z0, PySem.W.mg_none_of X G z1, PySem.W.mg_none_of X G z2, PySem.W.mg_none_of X G z3, PySem.W.mg_none_of X G z4, PySem.W.mg_none_of X G z5, PySem.W.mg_none_of X G z6, PySem.W.mg_none_of X G z7⟩
  have tup : ∀ {a : Addr} {od : Option Addr} {its : Array Value} {n : Nat} {sl : Array (Option Value)} {xs : List V}, K.lookup a = some ⟨.type "tuple", od, .seq its n, sl⟩ → Vals xs its.toList → its.size ≤ sizeLine → ∀ H, SqT K H a xs := fun l v z _ => .inr ⟨_, _, _, l, rfl, rfl, z, v⟩
  have W8 : K8.Txt K mg := { all := PySem.W.mg_none_of X G z8, keys := ⟨tK, PySem.W.mg_of X G atK, tup ltK vtK ztK⟩, marks := ⟨tM, PySem.W.mg_of X G atM, tup ltM vtM ztM⟩, figs := ⟨_, PySem.W.mg_of X G s7⟩, lets := ⟨_, PySem.W.mg_of X G s8⟩, blanks := ⟨_, PySem.W.mg_of X G s9⟩, mSigns := ⟨_, PySem.W.mg_of X G s1⟩, mFigs := ⟨_, PySem.W.mg_of X G s2⟩, mLets := ⟨_, PySem.W.mg_of X G s3⟩ }
  have R8 : RTxt K mg C := { cl := ⟨pg, hd, po, sa⟩, nT := nA_told, nA := nA_at, nN := nA_nests, nP := nA_places, mgC := PySem.W.mg_of X G aC, mst := ⟨_, PySem.W.mg_of X G s4⟩, cmp := ⟨_, PySem.W.mg_of X G s5⟩, prt := ⟨_, PySem.W.mg_of X G s6⟩, stm := ⟨tS, PySem.W.mg_of X G atS, tup ltS vtS ztS⟩, lev := ⟨tL, tL0, tL1, tL2, tL3, tL4, PySem.W.mg_of X G atL, fun H => ⟨tup ltL vtL ztL H, tup ltL0 vtL0 ztL0 H, tup ltL1 vtL1 ztL1 H, tup ltL2 vtL2 ztL2 H, tup ltL3 vtL3 ztL3 H, tup ltL4 vtL4 ztL4 H⟩⟩ }
  have RF : RFns K C := { kind := ⟨_, _, FR1, ⟨aR1, iR1, kR1⟩, bR1⟩, word := ⟨_, _, FR2, ⟨aR2, iR2, kR2⟩, bR2⟩, place := ⟨_, _, FR3, ⟨aR3, iR3, kR3⟩, bR3⟩, taken := ⟨_, _, FR4, ⟨aR4, iR4, kR4⟩, bR4⟩, passes := ⟨_, _, FR5, ⟨aR5, iR5, kR5⟩, bR5⟩, must := ⟨_, _, FR6, ⟨aR6, iR6, kR6⟩, bR6⟩, name := ⟨_, _, FR7, ⟨aR7, iR7, kR7⟩, bR7⟩, goIn := ⟨_, _, FR8, ⟨aR8, iR8, kR8⟩, bR8⟩, out := ⟨_, _, FR9, ⟨aR9, iR9, kR9⟩, bR9⟩, expr := ⟨_, _, FQ1, ⟨aQ1, iQ1, kQ1⟩, bQ1⟩, joined := ⟨_, _, FQ2, ⟨aQ2, iQ2, kQ2⟩, bQ2⟩, denied := ⟨_, _, FQ3, ⟨aQ3, iQ3, kQ3⟩, bQ3⟩, part := ⟨_, _, FQ4, ⟨aQ4, iQ4, kQ4⟩, bQ4⟩, nest := ⟨_, _, FQ5, ⟨aQ5, iQ5, kQ5⟩, bQ5⟩ }
  have RF2 : RFns2 K C := { low := RF, block := ⟨_, _, FB1, ⟨aB1, iB1, kB1⟩, bB1⟩, sts := ⟨_, _, FB2, ⟨aB2, iB2, kB2⟩, bB2⟩, st := ⟨_, _, FB3, ⟨aB3, iB3, kB3⟩, bB3⟩, setName := ⟨_, _, FB4, ⟨aB4, iB4, kB4⟩, bB4⟩, last := ⟨_, _, FB5, ⟨aB5, iB5, kB5⟩, bB5⟩, other := ⟨_, _, FB6, ⟨aB6, iB6, kB6⟩, bB6⟩, passed := ⟨_, _, FB7, ⟨aB7, iB7, kB7⟩, bB7⟩ }
  obtain ⟨c0, P0, to⟩ := TO
  have tb := to.of X mN lN rfl lcN vcN
  refine ⟨PySem.W.fnOf "law" "law" (defArgs S_law) (defBody S_law) (defScope S_law) .none kV7 dc7 pm7 an7 cd7 ct7, [(qN, PT)], (fun vs H Q E => H PT = some (.tbl #[]) ∧ spLaw K PT vs (upd H PT (.ext (GN.TabI PT))) (fun v H' => GN.Tab PT H' ∧ ∀ H'', Q v H'') E), fun p hp => ?_, fun p hp => ?_, fun p hp => ?_, fun s v => .of_eq rfl, fun H a ns hlen _ hT hS => ?_, fun base KB GB hTB => ?_⟩
  · rw [List.mem_singleton.mp hp]
    exact tb.2
  · rw [List.mem_singleton.mp hp]
    exact npT
  · rw [List.mem_singleton.mp hp]
    exact tb.1
  · have hP := hT _ List.mem_cons_self
    have far : ∀ {b : Addr} {u : HO}, (∀ ps, u ≠ .tbl ps) → H b = some u → b ≠ PT := fun n q z => by
      rw [z, hP] at q
      exact n _ (Option.some.inj q).symm
    refine ⟨hP, a, ns, rfl, ?_, hlen, upd_same, fun H' hT' => ⟨hT', fun _ => rfl⟩⟩
    rcases hS with (q | ⟨o, q⟩) | q
    · exact .inl (.inl (by rw [upd_ne (far (fun ps z => by cases z) q)]; exact q))
    · exact .inl (.inr ⟨o, by rw [upd_ne (far (fun ps z => by cases z) q)]; exact q⟩)
    · exact .inr q
  · have TB0 := hTB _ List.mem_cons_self
    have TB : GxR.TabB base mg qN PT := ⟨TB0.code, TB0.bm, TB0.gP⟩
    refine GN.untab ?_
    have G2 := K8.ok_check (P := l.prog) (w := w) (base := base) FW2 W8 T
    have G5 := K8.ok_runEnd (P := l.prog) (w := w) (base := base) FW5 W8 T
    have GN1 := K8.ok_isNum (P := l.prog) (w := w) (base := base) FN W8 T TB
    have G6 := K8.ok_kind FW6 W8 T GN1 mN kN bN
    have G4 := K8.ok_signs FW4 W8 G5 mW5 kW5 bW5
    have G3 := K8.ok_wordAt FW3 W8 G4 mW4 kW4 bW4 G6 mW6 kW6 bW6
    have G1 := ok_placed FW1 W8 T G2 mW2 kW2 bW2 G3 mW3 kW3 bW3
    have GI := ok_init FRI T R8 G1 mW1 kW1 bW1
    have L := RF.low (P := l.prog) (w := w) (mg := mg) (base := base) R8
    have GS := sok RF2 T R8 L 3
    have GP : Mth l.prog w K mg base C 118 "program" ["self"] (spProg0 K C) := ⟨_, _, ok_prog0 (n := 117) FB8 T R8 L GS (by decide), ⟨aB8, iB8, kB8⟩, bB8⟩
    have GR := ok_read0 (n := 118) F1 R8 ⟨mk, aRI, iRI, kc⟩ GI bRI GP (by decide)
    have GT := ok_taken (P := l.prog) (w := w) (base := base) F2 T
    have GK := ok_pick F3 T GT m2 k2 b2
    exact ok_law F7 T (PySem.W.mg_none_of X G z9) GT m2 k2 b2 GK m3 k3 b3 (ok_alk F4 T m4 b4 20) m4 k4 b4 (ok_bare F5 T m5 b5 3) m5 k5 b5 (ok_bound F6 T m6 b6 8) m6 k6 b6 GR m1 k1 b1 (by decide) (by decide)
theorem walk {l : PySem.W.OpenLaw} {q : Program} {loose : List Str} {XP : (Str → Option Value) → Heap → Prop} {YP : World → Heap → Prop} {d : DefRec} {K : Params → PySem.W.Frag} (hn : l.most = some 63) (hdf : d.params.defaults = []) (named : ((PyProof.Rows.recsOf q).any fun e => e.name == "is_number") = true)
    (hY : ∀ (w : World) (h : Heap), YP w h → (K w.params).In h)
    (F : ∀ (w : World) (mg : Str → Option Value) (fa : Addr) (h : Heap), (K w.params).In h → h.Ns mainGlobals mg → mg d.name = some (.ref fa) → (∃ c P, GN.TabOf mg "is_number" h c P) → LamX.LawAtS l w (K w.params) CX0 120 63 "script" mg fa h) :
    PySem.W.WalkO q loose XP YP l.row.toRowW d [] (fun f vs => PySem.call f vs) :=
  GN.walk_tab (n := 63) (k := 120) (x := "script") (nm := "is_number") (CX := fun _ => CX0) hn (by decide) hdf ⟨rfl, by decide, by decide⟩ named hY F fun _ _ _ _ _ z => z
end KD
open PySem PySem.W PyProof.Rows
set_option maxRecDepth 100000 in
set_option maxHeartbeats 0 in
theorem PySem.Challenge.cw_strokes_k02_whole_expressions_holds : PySem.Challenge.rw_strokes_k02_whole_expressions.Holds := by
  w_on; o_law; k_head; (case hw => w_witness2)
  k_fill
  refine KD.walk (l := PySem.Challenge.rw_strokes_k02_whole_expressions) rfl rfl (by first | rfl | decide +kernel) (fun w h Y => PySem.W.kIn_of Y) ?F
  case F =>
    intro w mg fa h KX G hmg TO
    refine' KD.all_mk KX G hmg TO ?aC ?aW1 ?lW1 ?cW1 ?kW1 ?aW2 ?lW2 ?cW2 ?kW2 ?aW3 ?lW3 ?cW3 ?kW3 ?aW4 ?lW4 ?cW4 ?kW4 ?aW5 ?lW5 ?cW5 ?kW5 ?aW6 ?lW6 ?cW6 ?kW6 ?aN ?lN ?cN ?kN ?a1 ?l1 ?c1 ?k1 ?a2 ?l2 ?c2 ?k2 ?a3 ?l3 ?c3 ?k3 ?a4 ?l4 ?c4 ?k4 ?a5 ?l5 ?c5 ?k5 ?a6 ?l6 ?c6 ?k6 ?a7 ?l7 ?c7 ?k7 ?aRI ?iRI ?lRI ?cRI ?kRI ?aR1 ?iR1 ?lR1 ?cR1 ?kR1 ?aR2 ?iR2 ?lR2 ?cR2 ?kR2 ?aR3 ?iR3 ?lR3 ?cR3 ?kR3 ?aR4 ?iR4 ?lR4 ?cR4 ?kR4 ?aR5 ?iR5 ?lR5 ?cR5 ?kR5 ?aR6 ?iR6 ?lR6 ?cR6 ?kR6 ?aR7 ?iR7 ?lR7 ?cR7 ?kR7 ?aR8 ?iR8 ?lR8 ?cR8 ?kR8 ?aR9 ?iR9 ?lR9 ?cR9 ?kR9 ?aQ1 ?iQ1 ?lQ1 ?cQ1 ?kQ1 ?aQ2 ?iQ2 ?lQ2 ?cQ2 ?kQ2 ?aQ3 ?iQ3 ?lQ3 ?cQ3 ?kQ3 ?aQ4 ?iQ4 ?lQ4 ?cQ4 ?kQ4 ?aQ5 ?iQ5 ?lQ5 ?cQ5 ?kQ5 ?aB1 ?iB1 ?lB1 ?cB1 ?kB1 ?aB2 ?iB2 ?lB2 ?cB2 ?kB2 ?aB3 ?iB3 ?lB3 ?cB3 ?kB3 ?aB4 ?iB4 ?lB4 ?cB4 ?kB4 ?aB5 ?iB5 ?lB5 ?cB5 ?kB5 ?aB6 ?iB6 ?lB6 ?cB6 ?kB6 ?aB7 ?iB7 ?lB7 ?cB7 ?kB7 ?aB8 ?iB8 ?lB8 ?cB8 ?kB8 ?lcN ?vcN ?npT ?pg ?hd ?po ?sa ?mk ?kc ?nA_told ?nA_at ?nA_nests ?nA_places ?atK ?ltK ?vtK ?ztK ?atM ?ltM ?vtM ?ztM ?atS ?ltS ?vtS ?ztS ?atL ?ltL ?vtL ?ztL ?ltL0 ?vtL0 ?ztL0 ?ltL1 ?vtL1 ?ztL1 ?ltL2 ?vtL2 ?ztL2 ?ltL3 ?vtL3 ?ztL3 ?ltL4 ?vtL4 ?ztL4 ?s1 ?s2 ?s3 ?s4 ?s5 ?s6 ?s7 ?s8 ?s9 ?z0 ?z1 ?z2 ?z3 ?z4 ?z5 ?z6 ?z7 ?z8 ?z9
    (case aC => k_is)
    (case aW1 => k_is)
    (case lW1 => k_is)
    (case cW1 => k_is)
    (case kW1 => k_is)
    (case aW2 => k_is)
    (case lW2 => k_is)
    (case cW2 => k_is)
    (case kW2 => k_is)
    (case aW3 => k_is)
    (case lW3 => k_is)
    (case cW3 => k_is)
    (case kW3 => k_is)
    (case aW4 => k_is)
    (case lW4 => k_is)
    (case cW4 => k_is)
    (case kW4 => k_is)
    (case aW5 => k_is)
    (case lW5 => k_is)
    (case cW5 => k_is)
    (case kW5 => k_is)
    (case aW6 => k_is)
    (case lW6 => k_is)
    (case cW6 => k_is)
    (case kW6 => k_is)
    (case aN => k_is)
    (case lN => k_is)
    (case cN => k_is)
    (case kN => k_is)
    (case a1 => k_is)
    (case l1 => k_is)
    (case c1 => k_is)
    (case k1 => k_is)
    (case a2 => k_is)
    (case l2 => k_is)
    (case c2 => k_is)
    (case k2 => k_is)
    (case a3 => k_is)
    (case l3 => k_is)
    (case c3 => k_is)
    (case k3 => k_is)
    (case a4 => k_is)
    (case l4 => k_is)
    (case c4 => k_is)
    (case k4 => k_is)
    (case a5 => k_is)
    (case l5 => k_is)
    (case c5 => k_is)
    (case k5 => k_is)
    (case a6 => k_is)
    (case l6 => k_is)
    (case c6 => k_is)
    (case k6 => k_is)
    (case a7 => k_is)
    (case l7 => k_is)
    (case c7 => k_is)
    (case k7 => k_is)
    (case aRI => k_is)
    (case iRI => k_is)
    (case lRI => k_is)
    (case cRI => k_is)
    (case kRI => k_is)
    (case aR1 => k_is)
    (case iR1 => k_is)
    (case lR1 => k_is)
    (case cR1 => k_is)
    (case kR1 => k_is)
    (case aR2 => k_is)
    (case iR2 => k_is)
    (case lR2 => k_is)
    (case cR2 => k_is)
    (case kR2 => k_is)
    (case aR3 => k_is)
    (case iR3 => k_is)
    (case lR3 => k_is)
    (case cR3 => k_is)
    (case kR3 => k_is)
    (case aR4 => k_is)
    (case iR4 => k_is)
    (case lR4 => k_is)
    (case cR4 => k_is)
    (case kR4 => k_is)
    (case aR5 => k_is)
    (case iR5 => k_is)
    (case lR5 => k_is)
    (case cR5 => k_is)
    (case kR5 => k_is)
    (case aR6 => k_is)
    (case iR6 => k_is)
    (case lR6 => k_is)
    (case cR6 => k_is)
    (case kR6 => k_is)
    (case aR7 => k_is)
    (case iR7 => k_is)
    (case lR7 => k_is)
    (case cR7 => k_is)
    (case kR7 => k_is)
    (case aR8 => k_is)
    (case iR8 => k_is)
    (case lR8 => k_is)
    (case cR8 => k_is)
    (case kR8 => k_is)
    (case aR9 => k_is)
    (case iR9 => k_is)
    (case lR9 => k_is)
    (case cR9 => k_is)
    (case kR9 => k_is)
    (case aQ1 => k_is)
    (case iQ1 => k_is)
    (case lQ1 => k_is)
    (case cQ1 => k_is)
    (case kQ1 => k_is)
    (case aQ2 => k_is)
    (case iQ2 => k_is)
    (case lQ2 => k_is)
    (case cQ2 => k_is)
    (case kQ2 => k_is)
    (case aQ3 => k_is)
    (case iQ3 => k_is)
    (case lQ3 => k_is)
    (case cQ3 => k_is)
    (case kQ3 => k_is)
    (case aQ4 => k_is)
    (case iQ4 => k_is)
    (case lQ4 => k_is)
    (case cQ4 => k_is)
    (case kQ4 => k_is)
    (case aQ5 => k_is)
    (case iQ5 => k_is)
    (case lQ5 => k_is)
    (case cQ5 => k_is)
    (case kQ5 => k_is)
    (case aB1 => k_is)
    (case iB1 => k_is)
    (case lB1 => k_is)
    (case cB1 => k_is)
    (case kB1 => k_is)
    (case aB2 => k_is)
    (case iB2 => k_is)
    (case lB2 => k_is)
    (case cB2 => k_is)
    (case kB2 => k_is)
    (case aB3 => k_is)
    (case iB3 => k_is)
    (case lB3 => k_is)
    (case cB3 => k_is)
    (case kB3 => k_is)
    (case aB4 => k_is)
    (case iB4 => k_is)
    (case lB4 => k_is)
    (case cB4 => k_is)
    (case kB4 => k_is)
    (case aB5 => k_is)
    (case iB5 => k_is)
    (case lB5 => k_is)
    (case cB5 => k_is)
    (case kB5 => k_is)
    (case aB6 => k_is)
    (case iB6 => k_is)
    (case lB6 => k_is)
    (case cB6 => k_is)
    (case kB6 => k_is)
    (case aB7 => k_is)
    (case iB7 => k_is)
    (case lB7 => k_is)
    (case cB7 => k_is)
    (case kB7 => k_is)
    (case aB8 => k_is)
    (case iB8 => k_is)
    (case lB8 => k_is)
    (case cB8 => k_is)
    (case kB8 => k_is)
    (case lcN => k_is)
    (case vcN => rfl)
    (case npT => first | k_is | rfl | decide +kernel)
    (case pg => k_is)
    (case hd => k_is)
    (case po => k_is)
    (case sa => k_is)
    (case mk => k_is)
    (case kc => k_is)
    (case nA_told => k_is)
    (case nA_at => k_is)
    (case nA_nests => k_is)
    (case nA_places => k_is)
    (case atK => k_is)
    (case ltK => k_is)
    (case vtK => (repeat (first | exact Paired.nil | refine Paired.cons ⟨_, rfl⟩ ?_)))
    (case ztK => first | decide | decide +kernel)
    (case atM => k_is)
    (case ltM => k_is)
    (case vtM => (repeat (first | exact Paired.nil | refine Paired.cons ⟨_, rfl⟩ ?_)))
    (case ztM => first | decide | decide +kernel)
    (case atS => k_is)
    (case ltS => k_is)
    (case vtS => (repeat (first | exact Paired.nil | refine Paired.cons ⟨_, rfl⟩ ?_)))
    (case ztS => first | decide | decide +kernel)
    (case atL => k_is)
    (case ltL => k_is)
    (case vtL => (repeat (first | exact Paired.nil | refine Paired.cons rfl ?_)))
    (case ztL => first | decide | decide +kernel)
    (case ltL0 => k_is)
    (case vtL0 => (repeat (first | exact Paired.nil | refine Paired.cons ⟨_, rfl⟩ ?_)))
    (case ztL0 => first | decide | decide +kernel)
    (case ltL1 => k_is)
    (case vtL1 => (repeat (first | exact Paired.nil | refine Paired.cons ⟨_, rfl⟩ ?_)))
    (case ztL1 => first | decide | decide +kernel)
    (case ltL2 => k_is)
    (case vtL2 => (repeat (first | exact Paired.nil | refine Paired.cons ⟨_, rfl⟩ ?_)))
    (case ztL2 => first | decide | decide +kernel)
    (case ltL3 => k_is)
    (case vtL3 => (repeat (first | exact Paired.nil | refine Paired.cons ⟨_, rfl⟩ ?_)))
    (case ztL3 => first | decide | decide +kernel)
    (case ltL4 => k_is)
    (case vtL4 => (repeat (first | exact Paired.nil | refine Paired.cons ⟨_, rfl⟩ ?_)))
    (case ztL4 => first | decide | decide +kernel)
    (case s1 => k_is)
    (case s2 => k_is)
    (case s3 => k_is)
    (case s4 => k_is)
    (case s5 => k_is)
    (case s6 => k_is)
    (case s7 => k_is)
    (case s8 => k_is)
    (case s9 => k_is)
    (case z0 => k_is)
    (case z1 => k_is)
    (case z2 => k_is)
    (case z3 => k_is)
    (case z4 => k_is)
    (case z5 => k_is)
    (case z6 => k_is)
    (case z7 => k_is)
    (case z8 => k_is)
    (case z9 => k_is)

