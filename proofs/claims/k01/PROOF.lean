import PyProof.Rows.All
import Wide.All
import OpenK.AllK
import Wide.FinOn
import HandS.Text
import HandS.ForMost
import HandS.IsInst
import HandS.Style
import HandS.Codes
import HandS.Star
import HandS.AnyAll
import HandS.Strs
import HandS.Zip
import HandS.Dict
import HandS.WrittenGet
import HandS.EndOwn
import HandS.RaiseMore
import HandS.TupAny
import HandS.Flow
import HandS.DictComp
import HandS.Iter
import HandS.More
import HandS.Exc
import HandS.SetFor
import HandS.SortInts
import PySem.Challenge.RW_strokes_k01_whole_trees
set_option Elab.async false
set_option linter.all false
set_option maxRecDepth 100000
/-! Words of a text: the mathematics. -/
namespace K0
open PySem L2 TL

def isFig (c : Nat) : Bool := decide (48 ≤ c) && decide (c ≤ 57)
def isLet (c : Nat) : Bool := decide (97 ≤ c) && decide (c ≤ 122)
def isAl (c : Nat) : Bool := isFig c || isLet c
def isBl (c : Nat) : Bool := (c == 32) || (c == 10)
def kws : List Str := ["row", "col", "let", "if", "else", "while", "for", "to", "do", "def", "say", "stop", "rows", "cols", "black", "mod", "and", "or", "not"]
def mks : List Str := ["<=", "!=", "{", "}", "(", ")", "+", "-", "*", "/", "<", "=", ","]
def inM (l : List Nat) : Bool := mks.any fun m => tl m == l

/-- what stands at the head of the rest -/
def sigs : List Nat → List Nat
  | [] => []
  | c :: r => if isFig c then (c :: r).takeWhile isFig else if isLet c then (c :: r).takeWhile isLet else if inM ((c :: r).take 2) then (c :: r).take 2 else [c]

def kind (w : Str) : Option Str :=
  if w ∈ kws then some ("key" : Str) else if w ∈ mks then some ("mark" : Str) else
  match tl w with
  | [] => none
  | c :: _ => if isLet c && decide ((tl w).length ≤ 12) then some ("name" : Str) else
    if isFig c && (if c == 48 then decide (w = "0") else decide ((tl w).length ≤ 6)) then some ("number" : Str) else none

inductive Toks : List Nat → List (Str × Str) → Prop
  | nil : Toks [] []
  | blank {c : Nat} {cs : List Nat} {ws : List (Str × Str)} : isBl c = true → Toks cs ws → Toks (c :: cs) ws
  | word {c : Nat} {r cs : List Nat} {w k : Str} {ws : List (Str × Str)} : isBl c = false → c :: r = tl w ++ cs → tl w ≠ [] → sigs (c :: r) = tl w → kind w = some k → Toks cs ws → Toks (c :: r) ((k, w) :: ws)

theorem toks_nil {ws : List (Str × Str)} (h : Toks [] ws) : ws = [] := by cases h; rfl
theorem toks_blank {c : Nat} {cs : List Nat} {ws : List (Str × Str)} (hc : isBl c = true) (h : Toks (c :: cs) ws) : Toks cs ws := by
  cases h with
  | blank _ h => exact h
  | word hb => rw [hc] at hb; cases hb
theorem toks_word {c : Nat} {r : List Nat} {ws : List (Str × Str)} (hc : isBl c = false) (h : Toks (c :: r) ws) :
    ∃ (w k : Str) (cs : List Nat) (us : List (Str × Str)), c :: r = tl w ++ cs ∧ tl w ≠ [] ∧ sigs (c :: r) = tl w ∧ kind w = some k ∧ ws = (k, w) :: us ∧ Toks cs us := by
  cases h with
  | blank hb => rw [hc] at hb; cases hb
  | word _ e n s kd t => exact ⟨_, _, _, _, e, n, s, kd, rfl, t⟩

/-- what may stand behind a word of kind k -/
def Ok (k : Str) (cs : List Nat) : Prop := match cs with
  | [] => True
  | c :: _ => isBl c = true ∨ (k = "mark" ∧ isAl c = true) ∨ (k ≠ "mark" ∧ isAl c = false)

structure Wd (k w : Str) : Prop where
  kd : kind w = some k
  hd : ∃ c r, tl w = c :: r ∧ isBl c = false ∧ (k = "mark" → isAl c = false) ∧ (k ≠ "mark" → isAl c = true)
  mm : ∀ cs, Ok k cs → sigs (tl w ++ cs) = tl w

/-- the text T, cut so far into ws, the last word of kind last -/
def J (T : List Nat) (ws : List (Str × Str)) (last : Str) : Prop := ∀ cs us, Toks cs us → (last = "" ∨ Ok last cs) → Toks (T ++ cs) (ws ++ us)

theorem toks_blanks : ∀ {s cs : List Nat} {ws : List (Str × Str)}, s.all isBl = true → Toks cs ws → Toks (s ++ cs) ws
  | [], _, _, _, t => t
  | c :: s, cs, ws, h, t => by
    rw [List.all_cons, Bool.and_eq_true] at h
    exact .blank h.1 (toks_blanks h.2 t)
theorem J_start {T : List Nat} (h : T.all isBl = true) : J T [] "" := fun cs us t _ => toks_blanks h t
theorem J_step {T s : List Nat} {ws : List (Str × Str)} {last k w : Str} (j : J T ws last) (wd : Wd k w) (hs : s.all isBl = true) (hk : s ≠ [] ∨ ¬ ((last = "mark" ∧ k = "mark") ∨ (last ≠ "mark" ∧ k ≠ "mark"))) (k0 : k ≠ "") :
    J (T ++ s ++ tl w) (ws ++ [(k, w)]) k := by
  intro cs us t o
  have o' : Ok k cs := by
    rcases o with o | o
    · exact absurd o k0
    · exact o
  obtain ⟨c, r, e, hb, hm, hn⟩ := wd.hd
  have t1 : Toks (tl w ++ cs) ((k, w) :: us) := by
    have ss := wd.mm cs o'
    have e2 : tl w ++ cs = c :: (r ++ cs) := by rw [e]; rfl
    have e3 := ss
    rw [e2] at e3
    rw [e2]
    exact .word hb e2.symm (by rw [e]; exact List.cons_ne_nil _ _) e3 wd.kd t
  have t2 := toks_blanks hs t1
  have t3 := j (s ++ (tl w ++ cs)) ((k, w) :: us) t2 (by
    cases s with
    | cons b s' =>
      right
      rw [List.all_cons, Bool.and_eq_true] at hs
      exact Or.inl hs.1
    | nil =>
      right
      rw [List.nil_append, e]
      show Ok last (c :: (r ++ cs))
      rcases hk with hk | hk
      · exact absurd rfl hk
      · by_cases hl : last = "mark"
        · have k1 : k ≠ "mark" := fun q => hk (Or.inl ⟨hl, q⟩)
          exact Or.inr (Or.inl ⟨hl, hn k1⟩)
        · have k1 : k = "mark" := by
            apply Classical.byContradiction
            intro q
            exact hk (Or.inr ⟨hl, q⟩)
          exact Or.inr (Or.inr ⟨hl, hm k1⟩))
  rw [List.append_assoc, List.append_assoc, List.append_assoc]
  exact t3
theorem J_end {T : List Nat} {ws : List (Str × Str)} {last : Str} (j : J T ws last) : Toks T ws ∧ Toks (T ++ [32, 10]) ws := by
  have a := j [] [] .nil (Or.inr trivial)
  have b := j [32, 10] [] (.blank rfl (.blank rfl .nil)) (Or.inr (Or.inl rfl))
  rw [List.append_nil, List.append_nil] at a
  rw [List.append_nil] at b
  exact ⟨a, b⟩

/-! ### words of each kind -/
theorem takeWhile_all {p : Nat → Bool} : ∀ {l cs : List Nat}, l.all p = true → (∀ c r, cs = c :: r → p c = false) → (l ++ cs).takeWhile p = l
  | [], [], _, _ => rfl
  | [], c :: r, _, h => by
    have e := h c r rfl
    show (c :: r).takeWhile p = []
    rw [List.takeWhile_cons]
    simp only [e]
    rfl
  | a :: l, cs, hl, h => by
    rw [List.all_cons, Bool.and_eq_true] at hl
    show (a :: (l ++ cs)).takeWhile p = a :: l
    rw [List.takeWhile_cons, if_pos hl.1, takeWhile_all hl.2 h]
theorem ok_let {k : Str} {cs : List Nat} (hk : k ≠ "mark") (o : Ok k cs) : ∀ c r, cs = c :: r → isLet c = false ∧ isFig c = false := by
  intro c r e
  subst e
  rcases o with o | o | o
  · unfold isBl at o
    simp only [Bool.or_eq_true, beq_iff_eq] at o
    rcases o with o | o <;> subst o <;> decide
  · exact absurd o.1 hk
  · have q := o.2
    unfold isAl at q
    rw [Bool.or_eq_false_iff] at q
    exact ⟨q.2, q.1⟩
theorem let_fig {c : Nat} (h : isLet c = true) : isFig c = false ∧ isBl c = false := by
  unfold isLet at h
  unfold isFig isBl
  simp only [Bool.and_eq_true, decide_eq_true_eq] at h
  simp only [Bool.and_eq_false_iff, decide_eq_false_iff_not, Bool.or_eq_false_iff, beq_eq_false_iff_ne]
  omega
theorem fig_let {c : Nat} (h : isFig c = true) : isLet c = false ∧ isBl c = false := by
  unfold isFig at h
  unfold isLet isBl
  simp only [Bool.and_eq_true, decide_eq_true_eq] at h
  simp only [Bool.and_eq_false_iff, decide_eq_false_iff_not, Bool.or_eq_false_iff, beq_eq_false_iff_ne]
  omega
theorem wd_lets {k w : Str} (hk : k ≠ "mark") (kd : kind w = some k) (hn : tl w ≠ []) (ha : (tl w).all isLet = true) : Wd k w := by
  cases e : tl w with
  | nil => exact absurd e hn
  | cons c r =>
    rw [e] at ha
    have hc : isLet c = true := by
      rw [List.all_cons, Bool.and_eq_true] at ha
      exact ha.1
    have ff := let_fig hc
    refine ⟨kd, ⟨c, r, e, ff.2, fun q => absurd q hk, fun _ => by unfold isAl; rw [hc, Bool.or_true]⟩, fun cs o => ?_⟩
    rw [e]
    show (if isFig c then (c :: (r ++ cs)).takeWhile isFig else if isLet c then (c :: (r ++ cs)).takeWhile isLet else _) = c :: r
    rw [if_neg (by rw [ff.1]; exact Bool.false_ne_true), if_pos hc]
    exact takeWhile_all (l := c :: r) ha fun c' r' q => (ok_let hk o c' r' q).1
theorem wd_figs {k w : Str} (hk : k ≠ "mark") (kd : kind w = some k) (hn : tl w ≠ []) (ha : (tl w).all isFig = true) : Wd k w := by
  cases e : tl w with
  | nil => exact absurd e hn
  | cons c r =>
    rw [e] at ha
    have hc : isFig c = true := by
      rw [List.all_cons, Bool.and_eq_true] at ha
      exact ha.1
    have ff := fig_let hc
    refine ⟨kd, ⟨c, r, e, ff.2, fun q => absurd q hk, fun _ => by unfold isAl; rw [hc, Bool.true_or]⟩, fun cs o => ?_⟩
    rw [e]
    show (if isFig c then (c :: (r ++ cs)).takeWhile isFig else _) = c :: r
    rw [if_pos hc]
    exact takeWhile_all (l := c :: r) ha fun c' r' q => (ok_let hk o c' r' q).2

theorem kws_all : ∀ w ∈ kws, (tl w).all isLet = true ∧ tl w ≠ [] := by decide +kernel
def firstOk : List Nat → Bool
  | [] => false
  | c :: r => !isAl c && !isBl c && (decide (r = []) || decide (r = [61]))
theorem mks_first : ∀ w ∈ mks, ∃ c r, tl w = c :: r ∧ isAl c = false ∧ isBl c = false ∧ (r = [] ∨ r = [61]) := by
  intro w hw
  have h : ∀ w ∈ mks, firstOk (tl w) = true := by decide +kernel
  have q := h w hw
  cases e : tl w with
  | nil => rw [e] at q; cases q
  | cons c r =>
    rw [e] at q
    have q' : (!isAl c && !isBl c && (decide (r = []) || decide (r = [61]))) = true := q
    simp only [Bool.and_eq_true, Bool.not_eq_true', Bool.or_eq_true, decide_eq_true_eq] at q'
    exact ⟨c, r, rfl, q'.1.1, q'.1.2, q'.2⟩
theorem mks_kind : ∀ w ∈ mks, w ∉ kws := by decide +kernel
theorem kind_key {w : Str} (h : w ∈ kws) : kind w = some ("key" : Str) := by unfold kind; rw [if_pos h]
theorem kind_mark {w : Str} (h : w ∈ mks) : kind w = some ("mark" : Str) := by unfold kind; rw [if_neg (mks_kind w h), if_pos h]
theorem wd_key {w : Str} (h : w ∈ kws) : Wd "key" w := wd_lets (by decide +kernel) (kind_key h) (kws_all w h).2 (kws_all w h).1
theorem inM_iff {l : List Nat} : inM l = true ↔ ∃ m ∈ mks, tl m = l := by
  unfold inM
  rw [List.any_eq_true]
  constructor
  · rintro ⟨m, hm, e⟩; exact ⟨m, hm, by simpa using e⟩
  · rintro ⟨m, hm, e⟩; exact ⟨m, hm, by simpa using e⟩
/-- no mark of two signs ends in a blank, a letter or a figure -/
theorem no_two {c d : Nat} (h : inM [c, d] = true) : d = 61 := by
  obtain ⟨m, hm, e⟩ := inM_iff.mp h
  obtain ⟨c', r, e1, _, _, hr⟩ := mks_first m hm
  rw [e] at e1
  injection e1 with _ e2
  rcases hr with hr | hr
  · rw [hr] at e2; cases e2
  · rw [hr] at e2; injection e2
theorem wd_mark {w : Str} (h : w ∈ mks) : Wd "mark" w := by
  obtain ⟨c, r, e, ha, hb, hr⟩ := mks_first w h
  have h2 : isFig c = false ∧ isLet c = false := by
    unfold isAl at ha
    rwa [Bool.or_eq_false_iff] at ha
  refine ⟨kind_mark h, ⟨c, r, e, hb, fun _ => ha, fun q => absurd rfl q⟩, fun cs o => ?_⟩
  rw [e]
  show (if isFig c then _ else if isLet c then _ else if inM ((c :: (r ++ cs)).take 2) then (c :: (r ++ cs)).take 2 else [c]) = c :: r
  rw [if_neg (by rw [h2.1]; exact Bool.false_ne_true), if_neg (by rw [h2.2]; exact Bool.false_ne_true)]
  rcases hr with hr | hr
  · subst hr
    cases cs with
    | nil =>
      have q : inM [c] = true := inM_iff.mpr ⟨w, h, e⟩
      show (if inM [c] = true then [c] else [c]) = [c]
      rw [if_pos q]
    | cons d cs =>
      have nd : ¬ d = 61 := by
        intro q
        subst q
        rcases o with o | o | o
        · exact absurd o (by decide)
        · exact absurd o.2 (by decide)
        · exact o.1 rfl
      show (if inM [c, d] = true then [c, d] else [c]) = [c]
      rw [if_neg fun q => nd (no_two q)]
  · subst hr
    have q : inM [c, 61] = true := inM_iff.mpr ⟨w, h, e⟩
    show (if inM [c, 61] = true then [c, 61] else [c]) = [c, 61]
    rw [if_pos q]
theorem not_mark {w : Str} {c : Nat} {r : List Nat} (e : tl w = c :: r) (h : isAl c = true) : w ∉ mks := by
  intro q
  obtain ⟨c', r', e', ha, _⟩ := mks_first w q
  rw [e] at e'
  injection e' with e1 _
  rw [← e1, h] at ha
  cases ha
theorem kind_name {w : Str} (hn : tl w ≠ []) (ha : (tl w).all isLet = true) (hl : (tl w).length ≤ 12) (hk : w ∉ kws) : kind w = some ("name" : Str) := by
  cases e : tl w with
  | nil => exact absurd e hn
  | cons c r =>
    have hc : isLet c = true := by
      rw [e, List.all_cons, Bool.and_eq_true] at ha
      exact ha.1
    unfold kind
    rw [if_neg hk, if_neg (not_mark e (by unfold isAl; rw [hc, Bool.or_true]))]
    rw [e] at hl
    simp only [e, hc, decide_eq_true hl, Bool.and_self, if_true]
theorem wd_name {w : Str} (hn : tl w ≠ []) (ha : (tl w).all isLet = true) (hl : (tl w).length ≤ 12) (hk : w ∉ kws) : Wd "name" w :=
  wd_lets (by decide +kernel) (kind_name hn ha hl hk) hn ha

/-! ### numbers -/
def num (n : Nat) : Str := Str.ofString (toString ((n : Nat) : Int))
theorem tl_num' (n : Nat) : tl (num n) = numL n := tl_num n
theorem numL_fig (n : Nat) : (numL n).all isFig = true := by
  rw [List.all_eq_true]
  intro c hc
  have q := numL_digits n c hc
  unfold isFig
  simp only [Bool.and_eq_true, decide_eq_true_eq]
  omega
theorem numL_ne (n : Nat) : numL n ≠ [] := by
  by_cases h : n < 10
  · rw [numL_lt h]; exact List.cons_ne_nil _ _
  · rw [numL_step (by omega)]
    intro q
    rw [List.append_eq_nil_iff] at q
    cases q.2
theorem numL_first (n : Nat) (h : 0 < n) : ∃ c r, numL n = c :: r ∧ c ≠ 48 := by
  induction n using Nat.strongRecOn with
  | _ n ih =>
    by_cases h1 : n < 10
    · exact ⟨48 + n, [], numL_lt h1, by omega⟩
    · obtain ⟨c, r, e, hc⟩ := ih (n / 10) (by omega) (by omega)
      refine ⟨c, r ++ [48 + n % 10], ?_, hc⟩
      rw [numL_step (by omega), e]
      rfl
theorem numL_len : ∀ (k n : Nat), n < 10 ^ (k + 1) → (numL n).length ≤ k + 1
  | 0, n, h => by rw [numL_lt (by simpa using h)]; exact Nat.le_refl _
  | k + 1, n, h => by
    by_cases h1 : n < 10
    · rw [numL_lt h1]; simp
    · rw [numL_step (by omega), List.length_append, List.length_singleton]
      have h2 : n < 10 ^ (k + 1) * 10 := by rw [← Nat.pow_succ]; exact h
      have q := numL_len k (n / 10) (by omega)
      omega
theorem num_zero : num 0 = "0" := by
  apply ext_tl
  rw [tl_num', numL_lt (by decide)]
  decide +kernel
theorem kws_not_fig {w : Str} {c : Nat} {r : List Nat} (e : tl w = c :: r) (h : isFig c = true) : w ∉ kws := by
  intro q
  have a := (kws_all w q).1
  rw [e, List.all_cons, Bool.and_eq_true] at a
  rw [(fig_let h).1] at a
  cases a.1
theorem kind_num {n : Nat} (h : n < 1000000) : kind (num n) = some ("number" : Str) := by
  have hl : (tl (num n)).length ≤ 6 := by rw [tl_num']; exact numL_len 5 n h
  cases e : tl (num n) with
  | nil =>
    rw [tl_num'] at e
    exact absurd e (numL_ne n)
  | cons c r =>
    have hc : isFig c = true := by
      have a := numL_fig n
      rw [← tl_num', e, List.all_cons, Bool.and_eq_true] at a
      exact a.1
    unfold kind
    rw [if_neg (kws_not_fig e hc), if_neg (not_mark e (by unfold isAl; rw [hc, Bool.true_or]))]
    rw [e] at hl
    simp only [e, (fig_let hc).1, Bool.false_and, hc, Bool.true_and]
    rw [if_neg Bool.false_ne_true]
    by_cases h0 : n = 0
    · subst h0
      have ec : c = 48 := by
        rw [tl_num', numL_lt (by decide)] at e
        injection e with e1 _
        exact e1.symm
      subst ec
      rw [num_zero]
      have e1 : (48 == 48 : Bool) = true := rfl
      rw [if_pos e1, decide_eq_true rfl, if_pos rfl]
    · obtain ⟨c', r', e', hc'⟩ := numL_first n (by omega)
      rw [← tl_num', e] at e'
      injection e' with e1 _
      have hc2 : (c == 48) = false := by rw [e1]; simpa using hc'
      simp only [hc2]
      rw [if_neg Bool.false_ne_true, decide_eq_true hl, if_pos rfl]
theorem wd_num {n : Nat} (h : n < 1000000) : Wd "number" (num n) :=
  wd_figs (by decide +kernel) (kind_num h) (by rw [tl_num']; exact numL_ne n) (by rw [tl_num']; exact numL_fig n)
theorem num_len {n : Nat} (h : n < 1000000) : (num n).length ≤ 6 := by
  rw [len_tl, tl_num']
  exact numL_len 5 n h
end K0

/-! Trees of programs: the data of the drawn trees, and how data lies in the abstract heap. -/
namespace KD
open PySem L2 TL
/-! ### trees -/
inductive Un | neg | not
  deriving DecidableEq
inductive Bi | black | or | and | lt | le | eq | ne | add | sub | mul | div | mod
  deriving DecidableEq
inductive Ex
  | num (n : Nat) | name (x : Str) | rows | cols | un (o : Un) (a : Ex) | bin (o : Bi) (a b : Ex)
inductive St
  | row (e : Ex) | col (e : Ex) | say (e : Ex) | set (x : Str) (e : Ex) | ite (c : Ex) (a b : List St) | whl (c : Ex) (a : List St) | for_ (x : Str) (a b : Ex) (s : List St) | call (f : Str) (es : List Ex) | stop
structure Df where
  name : Str
  args : List Str
  body : List St
structure Pr where
  defs : List Df
  body : List St
def Un.w : Un → Str
  | .neg => "neg" | .not => "not"
def Bi.w : Bi → Str
  | .black => "black" | .or => "or" | .and => "and" | .lt => "<" | .le => "<=" | .eq => "=" | .ne => "!=" | .add => "+" | .sub => "-" | .mul => "*" | .div => "/" | .mod => "mod"
def Ex.d : Ex → PyData
  | .num n => .tuple [.str "num", .int n]
  | .name x => .tuple [.str "name", .str x]
  | .rows => .tuple [.str "rows"]
  | .cols => .tuple [.str "cols"]
  | .un o a => .tuple [.str o.w, a.d]
  | .bin o a b => .tuple [.str o.w, a.d, b.d]
mutual
def St.d : St → PyData
  | .row e => .tuple [.str "row", e.d]
  | .col e => .tuple [.str "col", e.d]
  | .say e => .tuple [.str "say", e.d]
  | .set x e => .tuple [.str "let", .str x, e.d]
  | .ite c a b => .tuple [.str "if", c.d, .tuple (dB a), .tuple (dB b)]
  | .whl c a => .tuple [.str "while", c.d, .tuple (dB a)]
  | .for_ x a b s => .tuple [.str "for", .str x, a.d, b.d, .tuple (dB s)]
  | .call f es => .tuple [.str "do", .str f, .tuple (es.map Ex.d)]
  | .stop => .tuple [.str "stop"]
def dB : List St → List PyData
  | [] => []
  | s :: b => s.d :: dB b
end
theorem dB_append : ∀ (a b : List St), dB (a ++ b) = dB a ++ dB b
  | [], b => rfl
  | s :: a, b => by
    show s.d :: dB (a ++ b) = s.d :: (dB a ++ dB b)
    rw [dB_append a b]
theorem dB_length : ∀ (a : List St), (dB a).length = a.length
  | [] => rfl
  | s :: a => by
    show (dB a).length + 1 = a.length + 1
    rw [dB_length a]
def Df.d (f : Df) : PyData := .tuple [.str f.name, .tuple (f.args.map .str), .tuple (dB f.body)]
def Pr.d (p : Pr) : PyData := .tuple [.tuple (p.defs.map Df.d), .tuple (dB p.body)]

/-! ### what drawn trees keep -/
/-- the names used are among these, the numbers are small -/
def okE (ns : List Str) : Ex → Prop
  | .num n => n < 1000000
  | .name x => x ∈ ns
  | .rows => True
  | .cols => True
  | .un _ a => okE ns a
  | .bin _ a b => okE ns a ∧ okE ns b
def dpE : Ex → Nat
  | .un _ a => dpE a + 1
  | .bin _ a b => max (dpE a) (dpE b) + 1
  | _ => 0
def letN : List Str := ["a", "b", "c", "long"]
def forN : List Str := ["i", "j", "a"]
/-- names known behind a statement -/
def aft (ns : List Str) : St → List Str
  | .set x _ => if x ∈ ns then ns else ns ++ [x]
  | _ => ns
def aftB : List Str → List St → List Str
  | ns, [] => ns
  | ns, s :: b => aftB (aft ns s) b
mutual
/-- a drawn statement: names known, calls that fit, blocks of at most two statements, n deep -/
def okS (ds : List (Str × Nat)) : Nat → List Str → St → Prop
  | _, ns, .row e => okE ns e ∧ dpE e ≤ 1
  | _, ns, .col e => okE ns e ∧ dpE e ≤ 1
  | _, ns, .say e => okE ns e ∧ dpE e ≤ 2
  | _, ns, .set x e => x ∈ letN ∧ okE ns e ∧ dpE e ≤ 2
  | n + 1, ns, .ite c a b => okE ns c ∧ dpE c ≤ 2 ∧ (a.length ≤ 2 ∧ okB ds n ns a) ∧ (b.length ≤ 2 ∧ okB ds n ns b)
  | n + 1, ns, .whl c a => okE ns c ∧ dpE c ≤ 1 ∧ a.length ≤ 2 ∧ okB ds n ns a
  | n + 1, ns, .for_ x a b s => x ∈ forN ∧ (okE ns a ∧ dpE a ≤ 1) ∧ (okE ns b ∧ dpE b ≤ 1) ∧ s.length ≤ 2 ∧ okB ds n (if x ∈ ns then ns else ns ++ [x]) s
  | n + 1, ns, .call f es => (f, es.length) ∈ ds ∧ ∀ e ∈ es, okE ns e ∧ dpE e ≤ 1
  | n + 1, _, .stop => True
  | 0, _, .ite _ _ _ => False
  | 0, _, .whl _ _ => False
  | 0, _, .for_ _ _ _ _ => False
  | 0, _, .call _ _ => False
  | 0, _, .stop => False
def okB (ds : List (Str × Nat)) : Nat → List Str → List St → Prop
  | _, _, [] => True
  | n, ns, s :: b => okS ds n ns s ∧ okB ds n (aft ns s) b
end
theorem aftB_snoc : ∀ (b : List St) (ns : List Str) (s : St), aftB ns (b ++ [s]) = aft (aftB ns b) s
  | [], _, _ => rfl
  | t :: b, ns, s => by
    show aftB (aft ns t) (b ++ [s]) = _
    rw [aftB_snoc b]
    rfl
theorem okB_snoc {ds : List (Str × Nat)} {n : Nat} : ∀ {b : List St} {ns : List Str} {s : St}, okB ds n ns b → okS ds n (aftB ns b) s → okB ds n ns (b ++ [s])
  | [], ns, s, _, h => by
    show okB ds n ns [s]
    unfold okB
    exact ⟨h, by unfold okB; trivial⟩
  | t :: b, ns, s, h, h2 => by
    unfold okB at h
    show okB ds n ns (t :: (b ++ [s]))
    unfold okB
    exact ⟨h.1, okB_snoc (b := b) h.2 h2⟩

/-! ### data in the heap -/
mutual
/-- tuples, texts, numbers, bools and None alone -/
def tupD : PyData → Bool
  | .none => true
  | .bool _ => true
  | .int _ => true
  | .str _ => true
  | .tuple xs => tupDs xs
  | _ => false
def tupDs : List PyData → Bool
  | [] => true
  | x :: xs => tupD x && tupDs xs
end
/-- all tuples that are read are kept -/
def KT (K : PySem.W.Frag) (H H' : Hp) : Prop := ∀ a xs, SqT K H a xs → SqT K H' a xs
theorem KT.refl (K : PySem.W.Frag) (H : Hp) : KT K H H := fun _ _ h => h
theorem KT.trans {K : PySem.W.Frag} {H H1 H2 : Hp} (a : KT K H H1) (b : KT K H1 H2) : KT K H H2 := fun x y h => b x y (a x y h)
theorem KT.of {K : PySem.W.Frag} {H H' : Hp} (h : ∀ a o, H a = some o → (∀ xs, o ≠ .lst xs) → H' a = some o) : KT K H H' := fun a xs q => by
  rcases q with (q | ⟨o, q⟩) | q
  · exact .inl (.inl (h _ _ q (fun _ z => by cases z)))
  · exact .inl (.inr ⟨o, h _ _ q (fun _ z => by cases z)⟩)
  · exact .inr q
theorem KT.same {K : PySem.W.Frag} {H H' : Hp} (h : Same H H') : KT K H H' := KT.of fun a o q _ => h a o q
theorem KT.upd {K : PySem.W.Frag} {H : Hp} {r : Addr} {xs : List V} (h : H r = some (.lst xs)) (o : HO) : KT K H (upd H r o) := KT.of fun a u q n => by
  rw [upd_ne fun e => ?_]
  · exact q
  · rw [e, h] at q
    exact n xs (Option.some.inj q).symm
mutual
theorem Dp.kt {K : PySem.W.Frag} {H H' : Hp} (k : KT K H H') : ∀ {v : V} {d : PyData}, tupD d = true → Dp K H v d → Dp K H' v d
  | _, .none, _, h => by cases h; exact .non
  | _, .bool b, _, h => by cases h; exact .bl b
  | _, .int i, _, h => by cases h; exact .int i
  | _, .str x, _, h => by cases h; exact .str x
  | _, .tuple ds, t, h => by
    cases h with
    | tup h1 h2 => exact .tup (k _ _ h1) (DpAll.kt k (by unfold tupD at t; exact t) h2)
  | _, .list _, t, _ => by unfold tupD at t; cases t
  | _, .dict _, t, _ => by unfold tupD at t; cases t
theorem DpAll.kt {K : PySem.W.Frag} {H H' : Hp} (k : KT K H H') : ∀ {vs : List V} {ds : List PyData}, tupDs ds = true → DpAll K H vs ds → DpAll K H' vs ds
  | _, [], _, h => by cases h; exact .nil
  | _, d :: ds, t, h => by
    unfold tupDs at t
    rw [Bool.and_eq_true] at t
    cases h with
    | cons h1 h2 => exact .cons (Dp.kt k t.1 h1) (DpAll.kt k t.2 h2)
end
mutual
theorem Dp.same {K : PySem.W.Frag} {H H' : Hp} (k : Same H H') : ∀ {v : V} {d : PyData}, Dp K H v d → Dp K H' v d
  | _, .none, h => by cases h; exact .non
  | _, .bool b, h => by cases h; exact .bl b
  | _, .int i, h => by cases h; exact .int i
  | _, .str x, h => by cases h; exact .str x
  | _, .tuple ds, h => by
    cases h with
    | tup h1 h2 => exact .tup (KT.same k _ _ h1) (DpAll.same k h2)
  | _, .list ds, h => by
    cases h with
    | lst h1 h2 => exact .lst (k.seq h1) (DpAll.same k h2)
  | _, .dict _, h => by cases h
theorem DpAll.same {K : PySem.W.Frag} {H H' : Hp} (k : Same H H') : ∀ {vs : List V} {ds : List PyData}, DpAll K H vs ds → DpAll K H' vs ds
  | _, [], h => by cases h; exact .nil
  | _, d :: ds, h => by
    cases h with
    | cons h1 h2 => exact .cons (Dp.same k h1) (DpAll.same k h2)
end
theorem DpAll.length {K : PySem.W.Frag} {H : Hp} : ∀ {vs : List V} {ds : List PyData}, DpAll K H vs ds → vs.length = ds.length
  | _, [], h => by cases h; rfl
  | _, d :: ds, h => by
    cases h with
    | cons h1 h2 => rw [List.length_cons, List.length_cons, DpAll.length h2]
theorem DpAll.snoc {K : PySem.W.Frag} {H : Hp} {v : V} {d : PyData} (h : Dp K H v d) : ∀ {vs : List V} {ds : List PyData}, DpAll K H vs ds → DpAll K H (vs ++ [v]) (ds ++ [d])
  | _, [], h2 => by cases h2; exact .cons h .nil
  | _, e :: ds, h2 => by
    cases h2 with
    | cons h3 h4 => exact .cons h3 (DpAll.snoc h h4)
theorem DpAll.get {K : PySem.W.Frag} {H : Hp} : ∀ {vs : List V} {ds : List PyData} {i : Nat} {v : V}, DpAll K H vs ds → vs[i]? = some v → ∃ d, ds[i]? = some d ∧ Dp K H v d
  | _, [], i, v, h, e => by cases h; simp at e
  | _, d :: ds, 0, v, h, e => by
    cases h with
    | cons h1 h2 => exact ⟨d, rfl, by have := Option.some.inj e; subst this; exact h1⟩
  | _, d :: ds, i + 1, v, h, e => by
    cases h with
    | cons h1 h2 => exact DpAll.get (i := i) h2 e
theorem tupDs_append : ∀ (a b : List PyData), tupDs (a ++ b) = (tupDs a && tupDs b)
  | [], b => by rw [List.nil_append]; unfold tupDs; cases b <;> rfl
  | x :: a, b => by
    show (tupD x && tupDs (a ++ b)) = ((tupD x && tupDs a) && tupDs b)
    rw [tupDs_append a b, Bool.and_assoc]
theorem tupD_E : ∀ e : Ex, tupD e.d = true
  | .num _ => rfl
  | .name _ => rfl
  | .rows => rfl
  | .cols => rfl
  | .un o a => by
    show (true && (tupD a.d && true)) = true
    rw [tupD_E a]; rfl
  | .bin o a b => by
    show (true && (tupD a.d && (tupD b.d && true))) = true
    rw [tupD_E a, tupD_E b]; rfl
theorem tupDs_E : ∀ es : List Ex, tupDs (es.map Ex.d) = true
  | [] => rfl
  | e :: es => by
    show (tupD e.d && tupDs (es.map Ex.d)) = true
    rw [tupD_E e, tupDs_E es]; rfl
theorem tupDs_str : ∀ es : List Str, tupDs (es.map PyData.str) = true
  | [] => rfl
  | e :: es => by
    show (true && tupDs (es.map PyData.str)) = true
    rw [tupDs_str es]; rfl
mutual
theorem tupD_S : ∀ s : St, tupD s.d = true
  | .row e => by show (true && (tupD e.d && true)) = true; rw [tupD_E e]; rfl
  | .col e => by show (true && (tupD e.d && true)) = true; rw [tupD_E e]; rfl
  | .say e => by show (true && (tupD e.d && true)) = true; rw [tupD_E e]; rfl
  | .set x e => by show (true && (true && (tupD e.d && true))) = true; rw [tupD_E e]; rfl
  | .ite c a b => by show (true && (tupD c.d && (tupDs (dB a) && (tupDs (dB b) && true)))) = true; rw [tupD_E c, tupD_B a, tupD_B b]; rfl
  | .whl c a => by show (true && (tupD c.d && (tupDs (dB a) && true))) = true; rw [tupD_E c, tupD_B a]; rfl
  | .for_ x a b s => by show (true && (true && (tupD a.d && (tupD b.d && (tupDs (dB s) && true))))) = true; rw [tupD_E a, tupD_E b, tupD_B s]; rfl
  | .call f es => by show (true && (true && (tupDs (es.map Ex.d) && true))) = true; rw [tupDs_E es]; rfl
  | .stop => rfl
theorem tupD_B : ∀ b : List St, tupDs (dB b) = true
  | [] => rfl
  | s :: b => by
    show (tupD s.d && tupDs (dB b)) = true
    rw [tupD_S s, tupD_B b]; rfl
end
/-- two, three things in a new tuple -/
theorem Dp.new {K : PySem.W.Frag} {H : Hp} {p : Addr} {vs : List V} {ds : List PyData} (hp : H p = none) (h : DpAll K H vs ds) : Dp K (upd H p (.tup vs)) (.ref p) (.tuple ds) :=
  .tup (SqT.of upd_same) (KD.DpAll.same (fun b o q => by rw [upd_ne (ne_of_none q hp)]; exact q) h)
end KD

namespace KD
open PySem L2 TL
def top (i : Nat) : Stmt := PySem.Challenge.pw_strokes_k01_whole_trees.main.body.getD i (.Pass ⟨0, 0, 0, 0⟩)
abbrev S_InvalidText___init__ : Stmt := inClass (top 3) 0
abbrev S_UnknownName___init__ : Stmt := inClass (top 4) 0
abbrev S_WrongCount___init__ : Stmt := inClass (top 5) 0
abbrev S_MayBeUnset___init__ : Stmt := inClass (top 6) 0
abbrev S_blocks_of : Stmt := top 13
abbrev S_expressions_of : Stmt := top 14
abbrev S_statements_in : Stmt := top 15
abbrev S_statements_told : Stmt := top 16
abbrev S_expressions_in : Stmt := top 17
abbrev S_placed_words : Stmt := top 27
abbrev S_check_text : Stmt := top 28
abbrev S_word_at : Stmt := top 29
abbrev S_signs_at : Stmt := top 30
abbrev S_run_end : Stmt := top 31
abbrev S_kind_of : Stmt := top 32
abbrev S_is_number : Stmt := top 33
abbrev S_Reader___init__ : Stmt := inClass (top 37) 0
abbrev S_Reader_kind : Stmt := inClass (top 37) 1
abbrev S_Reader_word : Stmt := inClass (top 37) 2
abbrev S_Reader_place : Stmt := inClass (top 37) 3
abbrev S_Reader_taken : Stmt := inClass (top 37) 4
abbrev S_Reader_passes : Stmt := inClass (top 37) 5
abbrev S_Reader_must_pass : Stmt := inClass (top 37) 6
abbrev S_Reader_name : Stmt := inClass (top 37) 7
abbrev S_Reader_go_in : Stmt := inClass (top 37) 8
abbrev S_Reader_come_out : Stmt := inClass (top 37) 9
abbrev S_Reader_program : Stmt := inClass (top 37) 10
abbrev S_Reader_definition : Stmt := inClass (top 37) 11
abbrev S_Reader_arguments : Stmt := inClass (top 37) 12
abbrev S_Reader_block : Stmt := inClass (top 37) 13
abbrev S_Reader_statements : Stmt := inClass (top 37) 14
abbrev S_Reader_statement : Stmt := inClass (top 37) 15
abbrev S_Reader_set_name : Stmt := inClass (top 37) 16
abbrev S_Reader_last_value : Stmt := inClass (top 37) 17
abbrev S_Reader_other_block : Stmt := inClass (top 37) 18
abbrev S_Reader_passed : Stmt := inClass (top 37) 19
abbrev S_Reader_expression : Stmt := inClass (top 37) 20
abbrev S_Reader_joined : Stmt := inClass (top 37) 21
abbrev S_Reader_denied : Stmt := inClass (top 37) 22
abbrev S_Reader_part : Stmt := inClass (top 37) 23
abbrev S_Reader_nest : Stmt := inClass (top 37) 24
abbrev S_read : Stmt := top 39
abbrev S_places : Stmt := top 40
abbrev S_is_good : Stmt := top 43
abbrev S_sizes : Stmt := top 44
abbrev S_good_tree : Stmt := top 45
abbrev S_all_statements : Stmt := top 46
abbrev S_check_tree : Stmt := top 47
abbrev S_check_calls : Stmt := top 48
abbrev S_names_behind : Stmt := top 49
abbrev S_names_behind_blocks : Stmt := top 50
abbrev S_check_names : Stmt := top 51
abbrev S_ends_all : Stmt := top 52
abbrev S_is_written : Stmt := top 53
abbrev S__law_taken : Stmt := top 55
abbrev S__law_pick : Stmt := top 56
abbrev S__law_alike : Stmt := top 57
abbrev S__law_whole : Stmt := top 58
abbrev S__law_expr : Stmt := top 59
abbrev S__law_side : Stmt := top 60
abbrev S__law_block : Stmt := top 61
abbrev S__law_part : Stmt := top 62
abbrev S__law_said : Stmt := top 63
abbrev S__law_text : Stmt := top 64
abbrev S__law_heads : Stmt := top 65
abbrev S_law : Stmt := top 66
end KD

/-! The law's own drawing of programs: each def walked once. -/
namespace KD
open PySem L2 TL
/-- the built-ins' names are free -/
structure Blt (mg : Str → Option Value) : Prop where
  len : mg "len" = none
  int : mg "int" = none
  isi : mg "isinstance" = none
  str : mg "str" = none
  tup : mg "tuple" = none
  list : mg "list" = none
  range : mg "range" = none
  bool : mg "bool" = none
/-! ### the row of draws -/
def rowO (s : Addr) (i a b : Int) : HO := .lst [.ref s, .int i, .int a, .int b]
def RowAt (H : Hp) (r s : Addr) : Prop := ∃ i a b : Int, H r = some (rowO s i a b) ∧ 0 ≤ i ∧ 0 ≤ a ∧ a < 2147483647
/-- all that was tracked is kept, but at r -/
def Keep (r : Addr) (H H' : Hp) : Prop := ∀ b o, b ≠ r → H b = some o → H' b = some o
theorem Keep.refl (r : Addr) (H : Hp) : Keep r H H := fun _ _ _ h => h
theorem Keep.trans {r : Addr} {H H1 H2 : Hp} (a : Keep r H H1) (b : Keep r H1 H2) : Keep r H H2 := fun c o n h => b c o n (a c o n h)
theorem Keep.upd (r : Addr) (H : Hp) (o : HO) : Keep r H (upd H r o) := fun b u n h => by rw [upd_ne n]; exact h
theorem Keep.new {r p : Addr} {H : Hp} (h : H p = none) (o : HO) : Keep r H (L2.upd H p o) := fun b u _ q => by rw [upd_ne (ne_of_none q h)]; exact q
def Scr (K : PySem.W.Frag) (H : Hp) (r s : Addr) : Prop := ∃ ns : List Int, ns.length ≤ 63 ∧ ∀ H', Keep r H H' → SqL K H' s (ns.map V.int)
theorem Scr.mono {K : PySem.W.Frag} {H H' : Hp} {r s : Addr} (h : Scr K H r s) (k : Keep r H H') : Scr K H' r s := by
  obtain ⟨ns, h1, h2⟩ := h
  exact ⟨ns, h1, fun H2 k2 => h2 H2 (k.trans k2)⟩
theorem upd2 {H : Hp} {r : Addr} {o u : HO} : upd (upd H r o) r u = upd H r u := upd_upd

/-! ### promises -/
def spTaken (K : PySem.W.Frag) : Sp := fun vs H Q _ => ∃ (r s : Addr) (many : Int), vs = [.ref r, .int many] ∧ RowAt H r s ∧ Scr K H r s ∧ 1 ≤ many ∧ many ≤ 1000000 ∧
  ∀ (H' : Hp) (v : Int), Keep r H H' → RowAt H' r s → 0 ≤ v → v < many → Q (.int v) H'
def spPick (K : PySem.W.Frag) : Sp := fun vs H Q _ => ∃ (r s : Addr) (x : V), vs = [.ref r, x] ∧ RowAt H r s ∧ Scr K H r s ∧
  ((∃ (p : Addr) (xs : List V), x = .ref p ∧ p ≠ r ∧ H p = some (.lst xs) ∧ 1 ≤ xs.length ∧ xs.length ≤ 1000 ∧ ∀ (H' : Hp) (v : V), Keep r H H' → RowAt H' r s → v ∈ xs → Q v H') ∨
   (∃ z : Str, x = .str z ∧ 1 ≤ z.length ∧ z.length ≤ 1000 ∧ ∀ (H' : Hp) (c : Nat), Keep r H H' → RowAt H' r s → c ∈ tl z → Q (.str ⟨#[c]⟩) H'))

section
variable {P : Program} {w : World} {K : PySem.W.Frag} {mg : Str → Option Value} {base : Heap}
theorem scTaken : FnScope ["row", "many", "found", "cell"] ["row", "many"] (defScope S__law_taken) := ⟨rfl, rfl, rfl, by decide +kernel, rfl, by decide +kernel, by decide +kernel⟩
theorem ok_taken {f : Addr} {fd : FuncData} (F : Fun K "_law_taken" "_law_taken" S__law_taken f fd) (T : Blt mg) : FnOk P w K mg base CX0 1 f fd ["row", "many"] (spTaken K) := by
  refine F.ok scTaken (fun vs H Q E h => ?_) (fun cdv A outer s0 H vs Q E hr h => ?_)
  · obtain ⟨r, s, many, rfl, _⟩ := h
    rfl
  obtain ⟨r, s, many, rfl, ⟨i, a, b, hR, hi, ha, ha2⟩, ⟨ns, hns, hS⟩, hm1, hm2, k⟩ := h
  refine ⟨_, pss_cons (ps_if (pt_cmpR op_gt (pe_ix ix_list (pv 0) pe_int (fun _ _ => rfl)) pe_int (nomark _))
      (pss_cons (ps_set (i := 2) scTaken.nd rfl (Or.inl rfl) (pe_op op_mod (pe_callTy call_int1 (by rfl) T.int (by decide +kernel) (pa_cons (pe_ix ix_list (pv 0) pe_int (fun _ _ => rfl)) pa_nil)) (pv 1)))
      (pss_cons (ps_asg (pe_op op_fdiv (pe_ix ix_list (pv 0) pe_int (fun _ _ => rfl)) (pv 1)) (pg_sub (pv 0) pe_int set_list))
      (pss_one (ps_ret (pv 2))))) pss_nil)
    (pss_cons (ps_asg (pe_op op_add (pe_ix ix_list (pv 0) pe_int (fun _ _ => rfl)) pe_int) (pg_sub (pv 0) pe_int set_list))
    (pss_cons (ps_if (pt_cmpR op_gt (pe_ix ix_list (pv 0) pe_int (fun _ _ => rfl)) (pe_callB call_len_seq (by rfl) T.len PySem.boot_len (pa_cons (pe_ix ix_list (pv 0) pe_int (fun _ _ => rfl)) pa_nil)) (nomark _))
      (pss_cons (ps_asg (pe_op op_mod (pe_callTy call_int1 (by rfl) T.int (by decide +kernel) (pa_cons (pe_op op_add (pe_op op_mul (pe_ix ix_list (pv 0) pe_int (fun _ _ => rfl)) pe_int) pe_int) pa_nil)) pe_int) (pg_sub (pv 0) pe_int set_list))
      (pss_one (ps_ret (pe_op op_mod (pe_callTy call_int1 (by rfl) T.int (by decide +kernel) (pa_cons (pe_op op_fdiv (pe_ix ix_list (pv 0) pe_int (fun _ _ => rfl)) pe_int) pa_nil)) (pv 1))))) pss_nil)
    (pss_cons (ps_set (i := 3) scTaken.nd rfl (Or.inl rfl) (pe_ix ix_list (pe_ix ix_list (pv 0) pe_int (fun _ _ => rfl)) (pe_op op_sub (pe_ix ix_list (pv 0) pe_int (fun _ _ => rfl)) pe_int) (fun _ _ => rfl)))
    (pss_cons (ps_asg (pe_op op_mod (pe_callTy call_int1 (by rfl) T.int (by decide +kernel) (pa_cons (pe_op op_add (pe_op op_add (pe_op op_mul (pe_ix ix_list (pv 0) pe_int (fun _ _ => rfl)) pe_int) (pv 3)) pe_int) pa_nil)) pe_int) (pg_sub (pv 0) pe_int set_list))
    (pss_cons (ps_if (pt_cmpR op_ge (pv 3) (pe_op op_pow pe_int pe_int) (nomark _))
      (pss_one (ps_asg (pe_op op_fdiv (pv 3) (pv 1)) (pg_sub (pv 0) pe_int set_list))) pss_nil)
    (pss_one (ps_ret (pe_op op_mod (pe_callTy call_int1 (by rfl) T.int (by decide +kernel) (pa_cons (pv 3) pa_nil)) (pv 1))))))))), ?_⟩
  have hm : (0 : Int) < many := by omega
  have hdv : (0 : Int) < many ∧ many < 1073741824 := ⟨hm, by omega⟩
  -- row[3] > 0
  refine ⟨_, rfl, r, _, _, _, rfl, rfl, SqL.of hR, rfl, _, _, rfl, rfl, _, rfl, ?_⟩
  refine ite2 (fun c => ?_) (fun c => ?_)
  · have hb : b > 0 := of_decide_eq_true c
    refine ⟨_, rfl, r, _, _, _, rfl, rfl, SqL.of hR, rfl, .inl ⟨_, rfl, _, rfl, _, _, rfl, rfl, hm, ?_⟩⟩
    refine ⟨_, rfl, r, _, _, _, rfl, rfl, SqL.of hR, rfl, _, rfl, _, _, rfl, rfl, hdv, _, rfl, r, _, _, 3, rfl, rfl, hR, rfl, ?_⟩
    refine ⟨_, rfl, ?_⟩
    exact k _ _ (Keep.upd r H _) ⟨i, a, b / many, upd_same, hi, ha, ha2⟩ (Int.emod_nonneg _ (by omega)) (Int.emod_lt_of_pos _ hm)
  · -- row[1] = row[1] + 1
    refine ⟨_, rfl, r, _, _, _, rfl, rfl, SqL.of hR, rfl, _, _, rfl, rfl, _, rfl, r, _, _, 1, rfl, rfl, hR, rfl, ?_⟩
    have k1 : Keep r H (upd H r (rowO s (i + 1) a b)) := Keep.upd r H _
    have hR1 : (upd H r (rowO s (i + 1) a b)) r = some (.lst [.ref s, .int (i + 1), .int a, .int b]) := upd_same
    have hS1 := hS _ k1
    -- if row[1] > len(row[0])
    refine ⟨_, rfl, r, _, _, _, rfl, rfl, SqL.of hR1, rfl, _, rfl, r, _, _, _, rfl, rfl, SqL.of hR1, rfl, s, _, rfl, .inl hS1, _, _, rfl, rfl, _, rfl, ?_⟩
    refine ite2 (fun c1 => ?_) (fun c1 => ?_)
    · refine ⟨_, rfl, r, _, _, _, rfl, rfl, SqL.of hR1, rfl, _, _, rfl, rfl, .inl ⟨by omega, by omega⟩, _, _, rfl, rfl, .inl ⟨_, rfl, _, _, rfl, rfl, (by show (0 : Int) < 2147483647; decide), _, rfl, r, _, _, 2, rfl, rfl, hR1, rfl, ?_⟩⟩
      rw [upd2]
      have hR2 : (upd H r (.lst [.ref s, .int (i + 1), .int ((a * 48271 + 11) % 2147483647), .int b])) r = some (.lst [.ref s, .int (i + 1), .int ((a * 48271 + 11) % 2147483647), .int b]) := upd_same
      refine ⟨_, rfl, r, _, _, _, rfl, rfl, SqL.of hR2, rfl, _, _, rfl, rfl, ⟨by decide, by decide⟩, .inl ⟨_, rfl, _, rfl, _, _, rfl, rfl, hm, ?_⟩⟩
      exact k _ _ (Keep.upd r H _) ⟨i + 1, (a * 48271 + 11) % 2147483647, b, upd_same, by omega, by omega, by omega⟩ (Int.emod_nonneg _ (by omega)) (Int.emod_lt_of_pos _ hm)
    · have c1' : ¬ (i + 1 > (((ns.map V.int).length : Nat) : Int)) := of_decide_eq_false (Bool.eq_false_iff.mpr c1)
      rw [List.length_map] at c1'
      have hlt : i.toNat < ns.length := by omega
      have ei : i + 1 - 1 = ((i.toNat : Nat) : Int) := by omega
      have q : atI (ns.map V.int) (i + 1 - 1) = some (.int ns[i.toNat]) := by
        rw [ei]
        exact atI_nat (by rw [List.getElem?_map, List.getElem?_eq_getElem hlt] <;> rfl)
      generalize ns[i.toNat] = cell at q
      refine ⟨_, rfl, r, _, _, _, rfl, rfl, SqL.of hR1, rfl, _, rfl, r, _, _, _, rfl, rfl, SqL.of hR1, rfl, _, _, rfl, rfl, s, _, _, _, rfl, rfl, hS1, q, ?_⟩
      refine ⟨_, rfl, r, _, _, _, rfl, rfl, SqL.of hR1, rfl, _, _, rfl, rfl, .inl ⟨by omega, by omega⟩, _, rfl, _, _, rfl, rfl, _, _, rfl, rfl, .inl ⟨_, rfl, _, _, rfl, rfl, (by show (0 : Int) < 2147483647; decide), _, rfl, r, _, _, 2, rfl, rfl, hR1, rfl, ?_⟩⟩
      rw [upd2]
      have hR2 : (upd H r (.lst [.ref s, .int (i + 1), .int ((a * 48271 + cell + 11) % 2147483647), .int b])) r = some (.lst [.ref s, .int (i + 1), .int ((a * 48271 + cell + 11) % 2147483647), .int b]) := upd_same
      refine ⟨_, rfl, _, _, rfl, rfl, ⟨by decide, by decide, by decide⟩, _, _, rfl, rfl, _, rfl, ?_⟩
      refine ite2 (fun c2 => ?_) (fun c2 => ?_)
      · refine ⟨_, rfl, _, rfl, _, _, rfl, rfl, hdv, _, rfl, r, _, _, 3, rfl, rfl, hR2, rfl, ?_⟩
        rw [upd2]
        refine ⟨_, rfl, .inl ⟨_, rfl, _, rfl, _, _, rfl, rfl, hm, ?_⟩⟩
        exact k _ _ (Keep.upd r H _) ⟨i + 1, (a * 48271 + cell + 11) % 2147483647, cell / many, upd_same, by omega, by omega, by omega⟩ (Int.emod_nonneg _ (by omega)) (Int.emod_lt_of_pos _ hm)
      · refine ⟨_, rfl, .inl ⟨_, rfl, _, rfl, _, _, rfl, rfl, hm, ?_⟩⟩
        exact k _ _ (Keep.upd r H _) ⟨i + 1, (a * 48271 + cell + 11) % 2147483647, b, upd_same, by omega, by omega, by omega⟩ (Int.emod_nonneg _ (by omega)) (Int.emod_lt_of_pos _ hm)
/-! ### _law_pick -/
theorem scPick : FnScope ["row", "things"] ["row", "things"] (defScope S__law_pick) := ⟨rfl, rfl, rfl, by decide +kernel, rfl, by decide +kernel, by decide +kernel⟩
theorem atI_int {α : Type} {xs : List α} {v : Int} (h0 : 0 ≤ v) (h1 : v < xs.length) : ∃ y, atI xs v = some y ∧ y ∈ xs := by
  have hlt : v.toNat < xs.length := by omega
  have e : v = ((v.toNat : Nat) : Int) := by omega
  refine ⟨xs[v.toNat], ?_, List.getElem_mem hlt⟩
  have q : atI xs ((v.toNat : Nat) : Int) = some xs[v.toNat] := atI_nat (List.getElem?_eq_getElem hlt)
  rw [← e] at q
  exact q
theorem ok_pick {f fT : Addr} {fd fdT : FuncData} (F : Fun K "_law_pick" "_law_pick" S__law_pick f fd) (T : Blt mg) (GT : FnOk P w K mg base CX0 1 fT fdT ["row", "many"] (spTaken K)) (mT : mg "_law_taken" = some (.ref fT)) (kT : PySem.W.keepIn K (.ref fT) = true) (bT : Binds K fdT ["row", "many"] []) :
    FnOk P w K mg base CX0 2 f fd ["row", "things"] (spPick K) := by
  refine F.ok scPick (fun vs H Q E h => ?_) (fun cdv A outer s0 H vs Q E hr h => ?_)
  · obtain ⟨r, s, x, rfl, _⟩ := h
    rfl
  obtain ⟨r, s, x, rfl, hR, hS, h⟩ := h
  rcases h with ⟨p, xs, rfl, hpr, hp, hl1, hl2, k⟩ | ⟨z, rfl, hl1, hl2, k⟩
  · refine ⟨_, pss_one (ps_ret (pe_ix ix_list (pv 1) (pe_call GT hr rfl mT kT bT .nil pass0 (pa_cons (pv 0) (pa_cons (pe_callB call_len_seq (by rfl) T.len PySem.boot_len (pa_cons (pv 1) pa_nil)) pa_nil))) (fun _ _ => rfl))), ?_⟩
    refine ⟨_, rfl, _, rfl, _, rfl, p, xs, rfl, .inl (SqL.of hp), r, s, (xs.length : Int), rfl, hR, hS, by omega, by omega, fun H' v kp hR' h0 h1 => ?_⟩
    obtain ⟨y, hy, my⟩ := atI_int (xs := xs) h0 h1
    exact ⟨p, xs, v, y, rfl, rfl, SqL.of (kp p _ hpr hp), hy, k H' y kp hR' my⟩
  · refine ⟨_, pss_one (ps_ret (pe_ix ix_str (pv 1) (pe_call GT hr rfl mT kT bT .nil pass0 (pa_cons (pv 0) (pa_cons (pe_callB call_len_str (by rfl) T.len PySem.boot_len (pa_cons (pv 1) pa_nil)) pa_nil))) (fun _ _ => rfl))), ?_⟩
    have hz : z.length ≤ sizeLine := Nat.le_trans hl2 (by decide)
    refine ⟨_, rfl, _, rfl, _, rfl, z, rfl, hz, r, s, (z.length : Int), rfl, hR, hS, by omega, by omega, fun H' v kp hR' h0 h1 => ?_⟩
    obtain ⟨c, hc, mc⟩ := atI_int (xs := tl z) h0 (by rw [← len_tl]; exact h1)
    exact ⟨z, v, c, rfl, rfl, hz, hc, k H' c kp hR' mc⟩

/-! ### expressions -/
def allN : List Str := ["a", "b", "c", "long", "i", "j", "p", "q"]
def nmsOk (ns : List Str) : Prop := ∀ x ∈ ns, x ∈ allN
theorem allN_ok : ∀ x ∈ allN, PyData.strOk x = true := by decide +kernel
theorem dp_strs {H : Hp} : ∀ l : List Str, DpAll K H (l.map V.str) (l.map PyData.str)
  | [] => .nil
  | x :: l => .cons (.str x) (dp_strs l)
theorem lay_strs : ∀ {l : List Str}, nmsOk l → PyData.canLayAll0 (l.map PyData.str) = true
  | [], _ => rfl
  | x :: l, h => by
    show (PyData.strOk x && PyData.canLayAll0 (l.map PyData.str)) = true
    rw [allN_ok x (h x List.mem_cons_self), lay_strs (l := l) fun y hy => h y (List.mem_cons_of_mem _ hy)]
    rfl
theorem depth_strs : ∀ (l : List Str), PyData.depthAll (l.map PyData.str) ≤ 1
  | [] => by decide
  | x :: l => by
    have ih := depth_strs l
    show max (PyData.depth (.str x)) (PyData.depthAll (l.map PyData.str)) ≤ 1
    have : PyData.depth (.str x) ≤ 1 := by first | decide | exact Nat.le_refl _ | simp [PyData.depth]
    omega
theorem shaped_strs {l : List Str} (h : nmsOk l) : SeqAt.shaped (.list (l.map PyData.str)) = true := by
  unfold SeqAt.shaped
  rw [Bool.and_eq_true, decide_eq_true_iff]
  refine ⟨lay_strs h, ?_⟩
  have := depth_strs l
  show PyData.depthAll (l.map PyData.str) + 1 ≤ 64
  omega
theorem eqv_nil : ∀ l : List PyData, PyData.eqv (.list l) (.list []) = l.isEmpty
  | [] => rfl
  | x :: l => by rw [PyData.eqv]; rfl
theorem RowAt.is {H : Hp} {r s : Addr} (h : RowAt H r s) : ∃ xs, H r = some (.lst xs) := by
  obtain ⟨i, a, b, h, _⟩ := h
  exact ⟨_, h⟩
theorem RowAt.new {H : Hp} {r s p : Addr} (h : RowAt H r s) (hp : H p = none) (o : HO) : RowAt (upd H p o) r s := by
  obtain ⟨i, a, b, h, h2⟩ := h
  exact ⟨i, a, b, by rw [upd_ne (ne_of_none h hp)]; exact h, h2⟩
theorem RowAt.ne {H : Hp} {r s p : Addr} (h : RowAt H r s) (hp : H p = none) : p ≠ r := by
  obtain ⟨xs, h⟩ := h.is
  exact (ne_of_none h hp).symm
theorem RowAt.kt {H H' : Hp} {r s : Addr} (h : RowAt H r s) (k : Keep r H H') : KT K H H' := by
  obtain ⟨xs, hx⟩ := h.is
  exact KT.of fun a o q n => k a o (fun e => by rw [e, hx] at q; exact n xs (Option.some.inj q).symm) q
theorem in_strs (w : Str) : ∀ l : List Str, inV (.str w) (l.map V.str) = decide (w ∈ l)
  | [] => by simp [inV]
  | a :: l => by
    have ih := in_strs w l
    unfold inV at ih ⊢
    rw [List.map_cons, List.any_cons, ih]
    have e : eqV (.str a) (.str w) = decide (a = w) := by
      show (a == w) = _
      rw [Bool.eq_iff_iff]
      simp
    rw [e, Bool.eq_iff_iff]
    simp only [Bool.or_eq_true, decide_eq_true_eq, List.mem_cons]
    constructor
    · rintro (h | h)
      · exact Or.inl h.symm
      · exact Or.inr h
    · rintro (h | h)
      · exact Or.inl h.symm
      · exact Or.inr h
theorem flat_strs (l : List Str) : (l.map V.str).all flatV = true := by
  rw [List.all_eq_true]
  intro x hx
  obtain ⟨s, _, rfl⟩ := List.mem_map.mp hx
  rfl
theorem strs_mem {v : V} {l : List Str} (h : v ∈ l.map V.str) : ∃ k, v = .str k ∧ k ∈ l := by
  obtain ⟨k, hk, e⟩ := List.mem_map.mp h
  exact ⟨k, e.symm, hk⟩
def numN : List Nat := [0, 1, 1, 2, 2, 3, 4, 7, 31, 999999]
theorem num_mem {v : V} (h : v ∈ numN.map fun n => V.int ((n : Nat) : Int)) : ∃ n : Nat, v = .int ((n : Nat) : Int) ∧ n < 1000000 := by
  obtain ⟨n, hn, e⟩ := List.mem_map.mp h
  exact ⟨n, e.symm, (by decide : ∀ n ∈ numN, n < 1000000) n hn⟩
def un2 : List Str := ["neg", "not"]
def bi13 : List Str := ["or", "and", "<", "<=", "=", "!=", "+", "-", "+", "-", "*", "/", "mod"]
theorem un_mem : ∀ x ∈ un2, ∃ o : Un, o.w = x := by
  intro x hx
  simp only [un2, List.mem_cons, List.not_mem_nil, or_false] at hx
  rcases hx with rfl | rfl
  · exact ⟨.neg, rfl⟩
  · exact ⟨.not, rfl⟩
theorem bi_mem : ∀ x ∈ bi13, ∃ o : Bi, o.w = x := by
  intro x hx
  simp only [bi13, List.mem_cons, List.not_mem_nil, or_false] at hx
  rcases hx with rfl | rfl | rfl | rfl | rfl | rfl | rfl | rfl | rfl | rfl | rfl | rfl | rfl
  · exact ⟨.or, rfl⟩
  · exact ⟨.and, rfl⟩
  · exact ⟨.lt, rfl⟩
  · exact ⟨.le, rfl⟩
  · exact ⟨.eq, rfl⟩
  · exact ⟨.ne, rfl⟩
  · exact ⟨.add, rfl⟩
  · exact ⟨.sub, rfl⟩
  · exact ⟨.add, rfl⟩
  · exact ⟨.sub, rfl⟩
  · exact ⟨.mul, rfl⟩
  · exact ⟨.div, rfl⟩
  · exact ⟨.mod, rfl⟩
end
end KD

/-! The words of printed programs. -/
namespace KD
open PySem L2 TL
open K0 (isFig isLet isAl isBl kws mks sigs kind Toks inM num)
abbrev Tk := Str × Str
/-- what may stand behind the text so far -/
inductive F3 | free | mark | word | both
def Fol (f : F3) : List Nat → Prop
  | [] => True
  | c :: _ => match f with
    | .free => True
    | .mark => c ≠ 61
    | .word => isAl c = false
    | .both => c ≠ 61 ∧ isAl c = false
theorem Fol.bl {f : F3} {c : Nat} {r : List Nat} (h : isBl c = true) : Fol f (c :: r) := by
  have q : isAl c = false ∧ c ≠ 61 := by
    unfold isBl at h
    simp only [Bool.or_eq_true, beq_iff_eq] at h
    rcases h with h | h <;> subst h <;> exact ⟨by decide, by decide⟩
  cases f with
  | free => exact trivial
  | mark => exact q.2
  | word => exact q.1
  | both => exact ⟨q.2, q.1⟩
/-- the text T, cut so far into ws -/
def J (T : List Nat) (ws : List Tk) (f : F3) : Prop := ∀ cs us, Toks cs us → Fol f cs → Toks (T ++ cs) (ws ++ us)
theorem J.nil : J [] [] .free := fun cs us t _ => t
theorem J.weak {T : List Nat} {ws : List Tk} {f g : F3} (j : J T ws f) (h : ∀ cs, Fol g cs → Fol f cs) : J T ws g := fun cs us t o => j cs us t (h cs o)
theorem Fol.of_both {f : F3} (hf : f ≠ .free → True) : ∀ cs, Fol .both cs → Fol f cs
  | [], _ => trivial
  | c :: r, h => by
    cases f with
    | free => exact trivial
    | mark => exact h.1
    | word => exact h.2
    | both => exact h
theorem J.both {T : List Nat} {ws : List Tk} {f : F3} (j : J T ws f) : J T ws .both := j.weak (Fol.of_both fun _ => trivial)
theorem J.blank {T s : List Nat} {ws : List Tk} {f : F3} (j : J T ws f) (hs : s.all isBl = true) (hn : s ≠ []) : J (T ++ s) ws .free := fun cs us t _ => by
  rw [List.append_assoc]
  refine j _ _ (K0.toks_blanks hs t) ?_
  cases s with
  | nil => exact absurd rfl hn
  | cons c r =>
    rw [List.all_cons, Bool.and_eq_true] at hs
    exact Fol.bl hs.1
/-- a word that is cut out whole where what follows allows it -/
structure Wd (f : F3) (k w : Str) : Prop where
  kd : kind w = some k
  hd : ∃ c r, tl w = c :: r ∧ isBl c = false
  mm : ∀ cs, Fol f cs → sigs (tl w ++ cs) = tl w
theorem J.step {T : List Nat} {ws : List Tk} {f g : F3} {k w : Str} (j : J T ws f) (wd : Wd g k w) (o : Fol f (tl w)) : J (T ++ tl w) (ws ++ [(k, w)]) g := fun cs us t o2 => by
  obtain ⟨c, r, e, hb⟩ := wd.hd
  have t1 : Toks (tl w ++ cs) ((k, w) :: us) := by
    have ss := wd.mm cs o2
    have e2 : tl w ++ cs = c :: (r ++ cs) := by rw [e]; rfl
    have e3 := ss
    rw [e2] at e3
    rw [e2]
    exact .word hb e2.symm (by rw [e]; exact List.cons_ne_nil _ _) e3 wd.kd t
  have t2 := j _ _ t1 (by
    rw [e] at o ⊢
    exact o)
  rw [List.append_assoc, List.append_assoc]
  exact t2
theorem Wd.of {k w : Str} (hk : k ≠ "mark") (h : K0.Wd k w) : Wd .word k w := by
  obtain ⟨c, r, e, hb, _, _⟩ := h.hd
  refine ⟨h.kd, ⟨c, r, e, hb⟩, fun cs o => h.mm cs ?_⟩
  cases cs with
  | nil => trivial
  | cons d cs => exact Or.inr (Or.inr ⟨hk, o⟩)
theorem Wd.key {w : Str} (h : w ∈ kws) : Wd .word "key" w := Wd.of (by decide +kernel) (K0.wd_key h)
theorem Wd.name {w : Str} (hn : tl w ≠ []) (ha : (tl w).all isLet = true) (hl : (tl w).length ≤ 12) (hk : w ∉ kws) : Wd .word "name" w := Wd.of (by decide +kernel) (K0.wd_name hn ha hl hk)
theorem Wd.num {n : Nat} (h : n < 1000000) : Wd .word "number" (num n) := Wd.of (by decide +kernel) (K0.wd_num h)
theorem Wd.mark {w : Str} (h : w ∈ mks) : Wd .mark "mark" w := by
  obtain ⟨c, r, e, ha, hb, hr⟩ := K0.mks_first w h
  have h2 : isFig c = false ∧ isLet c = false := by
    unfold isAl at ha
    rwa [Bool.or_eq_false_iff] at ha
  refine ⟨K0.kind_mark h, ⟨c, r, e, hb⟩, fun cs o => ?_⟩
  rw [e]
  show (if isFig c then _ else if isLet c then _ else if inM ((c :: (r ++ cs)).take 2) then (c :: (r ++ cs)).take 2 else [c]) = c :: r
  rw [if_neg (by rw [h2.1]; exact Bool.false_ne_true), if_neg (by rw [h2.2]; exact Bool.false_ne_true)]
  rcases hr with hr | hr
  · subst hr
    cases cs with
    | nil =>
      have q : inM [c] = true := K0.inM_iff.mpr ⟨w, h, e⟩
      show (if inM [c] = true then [c] else [c]) = [c]
      rw [if_pos q]
    | cons d cs =>
      show (if inM [c, d] = true then [c, d] else [c]) = [c]
      rw [if_neg fun q => o (K0.no_two q)]
  · subst hr
    have q : inM [c, 61] = true := K0.inM_iff.mpr ⟨w, h, e⟩
    show (if inM [c, 61] = true then [c, 61] else [c]) = [c, 61]
    rw [if_pos q]
/-- a text is all blanks -/
def blS (s : Str) : Bool := (tl s).all isBl && !(tl s).isEmpty
/-! ### texts of Str: the same by Str -/
def JS (T : Str) (ws : List Tk) (f : F3) : Prop := J (tl T) ws f
theorem JS.nil : JS "" [] .free := by
  show J (tl ("" : Str)) [] .free
  rw [show tl ("" : Str) = [] by decide +kernel]
  exact J.nil
theorem JS.blank {T s : Str} {ws : List Tk} {f : F3} (j : JS T ws f) (h : blS s = true) : JS (T ++ s) ws .free := by
  unfold blS at h
  rw [Bool.and_eq_true] at h
  show J (tl (T ++ s)) ws .free
  rw [tl_append]
  refine J.blank j h.1 fun q => ?_
  rw [q] at h
  cases h.2
theorem JS.step {T w k : Str} {ws : List Tk} {f g : F3} (j : JS T ws f) (wd : Wd g k w) (o : Fol f (tl w)) : JS (T ++ w) (ws ++ [(k, w)]) g := by
  show J (tl (T ++ w)) _ g
  rw [tl_append]
  exact J.step j wd o
theorem JS.both {T : Str} {ws : List Tk} {f : F3} (j : JS T ws f) : JS T ws .both := J.both j
theorem assocS (a b c : Str) : a ++ (b ++ c) = a ++ b ++ c := by
  apply ext_tl
  rw [tl_append, tl_append, tl_append, tl_append, List.append_assoc]
theorem nilS (a : Str) : a ++ ("" : Str) = a := by
  apply ext_tl
  rw [tl_append, show tl ("" : Str) = [] by decide +kernel, List.append_nil]
/-- literals: a text of marks and keys, by its words -/
inductive LW | bl (s : Str) | wd (k w : Str)
def LW.t : LW → Str
  | .bl s => s
  | .wd _ w => w
def LW.ok : LW → Bool
  | .bl s => blS s
  | .wd k w => (decide (k = "key") && decide (w ∈ kws)) || (decide (k = "mark") && decide (w ∈ mks))
def folB (f : F3) : List Nat → Bool
  | [] => true
  | c :: _ => match f with
    | .free => true
    | .mark => c != 61
    | .word => !isAl c
    | .both => c != 61 && !isAl c
theorem Fol.ofB {f : F3} : ∀ {l : List Nat}, folB f l = true → Fol f l
  | [], _ => trivial
  | c :: r, h => by
    cases f with
    | free => exact trivial
    | mark => show c ≠ 61; simpa [folB] using h
    | word => show isAl c = false; simpa [folB] using h
    | both => show c ≠ 61 ∧ isAl c = false; simpa [folB] using h
def litF : F3 → List LW → F3
  | f, [] => f
  | _, .bl _ :: r => litF .free r
  | _, .wd k _ :: r => litF (if k = "mark" then .mark else .word) r
def litOk : F3 → List LW → Bool
  | _, [] => true
  | f, .bl s :: r => blS s && litOk .free r
  | f, .wd k w :: r => LW.ok (.wd k w) && folB f (tl w) && litOk (if k = "mark" then .mark else .word) r
def litW : List LW → List Tk
  | [] => []
  | .bl _ :: r => litW r
  | .wd k w :: r => (k, w) :: litW r
def litT : List LW → Str
  | [] => ""
  | p :: r => p.t ++ litT r
theorem JS.lit : ∀ (ps : List LW) {T : Str} {ws : List Tk} {f : F3}, JS T ws f → litOk f ps = true → JS (T ++ litT ps) (ws ++ litW ps) (litF f ps)
  | [], T, ws, f, j, _ => by
    show JS (T ++ ("" : Str)) (ws ++ []) f
    rw [nilS, List.append_nil]
    exact j
  | .bl s :: r, T, ws, f, j, h => by
    unfold litOk at h
    rw [Bool.and_eq_true] at h
    show JS (T ++ (s ++ litT r)) (ws ++ litW r) (litF .free r)
    rw [assocS]
    exact JS.lit r (j.blank h.1) h.2
  | .wd k w :: r, T, ws, f, j, h => by
    unfold litOk at h
    rw [Bool.and_eq_true, Bool.and_eq_true] at h
    show JS (T ++ (w ++ litT r)) (ws ++ ((k, w) :: litW r)) (litF (if k = "mark" then .mark else .word) r)
    rw [assocS, show ws ++ ((k, w) :: litW r) = (ws ++ [(k, w)]) ++ litW r by rw [List.append_assoc]; rfl]
    refine JS.lit r ?_ h.2
    have q := h.1.1
    unfold LW.ok at q
    simp only [Bool.or_eq_true, Bool.and_eq_true, decide_eq_true_eq] at q
    rcases q with ⟨q1, q2⟩ | ⟨q1, q2⟩
    · rw [if_neg (by rw [q1]; decide +kernel), q1]
      exact j.step (Wd.key q2) (Fol.ofB h.1.2)
    · rw [if_pos q1, q1]
      exact j.step (Wd.mark q2) (Fol.ofB h.1.2)
/-! ### words of trees, all inner expressions in brackets -/
def kK (w : Str) : Tk := ("key", w)
def kM (w : Str) : Tk := ("mark", w)
def kN (w : Str) : Tk := ("name", w)
def Bi.tk (o : Bi) : Tk := match o with
  | .or => kK "or" | .and => kK "and" | .mod => kK "mod" | .black => kK "black"
  | o => kM o.w
def tkE : Ex → List Tk
  | .num n => [("number", num n)]
  | .name x => [kN x]
  | .rows => [kK "rows"]
  | .cols => [kK "cols"]
  | .un .neg a => [kM "(", kM "-", kM "("] ++ tkE a ++ [kM ")", kM ")"]
  | .un .not a => [kM "(", kK "not", kM "("] ++ tkE a ++ [kM ")", kM ")"]
  | .bin .black a b => [kK "black", kM "("] ++ tkE a ++ [kM ","] ++ tkE b ++ [kM ")"]
  | .bin o a b => [kM "("] ++ tkE a ++ [o.tk] ++ tkE b ++ [kM ")"]
def tkEs : List Ex → List Tk
  | [] => []
  | [e] => tkE e
  | e :: es => tkE e ++ [kM ","] ++ tkEs es
def tkNs : List Str → List Tk
  | [] => []
  | [x] => [kN x]
  | x :: xs => [kN x, kM ","] ++ tkNs xs
mutual
def tkS : St → List Tk
  | .row e => kK "row" :: tkE e
  | .col e => kK "col" :: tkE e
  | .say e => kK "say" :: tkE e
  | .set x e => [kK "let", kN x, kM "="] ++ tkE e
  | .ite c a b => [kK "if"] ++ tkE c ++ [kM "{"] ++ tkB a ++ [kM "}"] ++ (match b with | [] => [] | s :: r => [kK "else", kM "{"] ++ (tkS s ++ tkB r) ++ [kM "}"])
  | .whl c a => [kK "while"] ++ tkE c ++ [kM "{"] ++ tkB a ++ [kM "}"]
  | .for_ x a b s => [kK "for", kN x, kM "="] ++ tkE a ++ [kK "to"] ++ tkE b ++ [kM "{"] ++ tkB s ++ [kM "}"]
  | .call f es => [kK "do", kN f, kM "("] ++ tkEs es ++ [kM ")"]
  | .stop => [kK "stop"]
def tkB : List St → List Tk
  | [] => []
  | s :: b => tkS s ++ tkB b
end
def tkD (f : Df) : List Tk := [kK "def", kN f.name, kM "("] ++ tkNs f.args ++ [kM ")", kM "{"] ++ tkB f.body ++ [kM "}"]
def tkDs : List Df → List Tk
  | [] => []
  | f :: fs => tkD f ++ tkDs fs
def tkP (p : Pr) : List Tk := tkDs p.defs ++ tkB p.body
/-- the names that drawn programs have are words -/
def nameW (x : Str) : Bool := !(tl x).isEmpty && (tl x).all isLet && decide ((tl x).length ≤ 6) && decide (x ∉ kws)
theorem Wd.nm {x : Str} (h : nameW x = true) : Wd .word "name" x := by
  unfold nameW at h
  simp only [Bool.and_eq_true, decide_eq_true_eq, Bool.not_eq_true'] at h
  exact Wd.name (fun q => by rw [q] at h; cases h.1.1.1) h.1.1.2 (by omega) h.2
theorem nameW_len {x : Str} (h : nameW x = true) : x.length ≤ 6 := by
  unfold nameW at h
  simp only [Bool.and_eq_true, decide_eq_true_eq] at h
  rw [len_tl]
  exact h.1.2
theorem nameW_ne {x : Str} (h : nameW x = true) : ∃ c r, tl x = c :: r ∧ isLet c = true := by
  unfold nameW at h
  simp only [Bool.and_eq_true, decide_eq_true_eq, Bool.not_eq_true'] at h
  cases e : tl x with
  | nil => rw [e] at h; cases h.1.1.1
  | cons c r =>
    rw [e, List.all_cons, Bool.and_eq_true] at h
    exact ⟨c, r, rfl, h.1.1.2.1⟩
/-- a part's text: it begins with no =, what follows it is neither = nor a letter or figure -/
structure PartT (X : Str) (ws : List Tk) : Prop where
  hd : ∃ c r, tl X = c :: r ∧ c ≠ 61
  seg : ∀ {T : Str} {us : List Tk} {f : F3}, JS T us f → Fol f (tl X) → JS (T ++ X) (us ++ ws) .both
theorem PartT.fol_mark {X : Str} {ws : List Tk} (h : PartT X ws) : Fol .mark (tl X) := by
  obtain ⟨c, r, e, hc⟩ := h.hd
  rw [e]
  exact hc
theorem PartT.fol_free {X : Str} {ws : List Tk} (h : PartT X ws) : Fol .free (tl X) := by
  obtain ⟨c, r, e, hc⟩ := h.hd
  rw [e]
  trivial
theorem al_ne {c : Nat} (h : isAl c = true) : c ≠ 61 := by
  intro q
  subst q
  exact absurd h (by decide)
theorem PartT.name {x : Str} (h : nameW x = true) : PartT x [kN x] := by
  obtain ⟨c, r, e, hc⟩ := nameW_ne h
  exact ⟨⟨c, r, e, al_ne (by unfold isAl; rw [hc, Bool.or_true])⟩, fun j o => (j.step (Wd.nm h) o).both⟩
theorem PartT.key {x : Str} (h : x ∈ kws) : PartT x [kK x] := by
  have q := K0.kws_all x h
  refine ⟨?_, fun j o => (j.step (Wd.key h) o).both⟩
  cases e : tl x with
  | nil => exact absurd e q.2
  | cons c r =>
    rw [e, List.all_cons, Bool.and_eq_true] at q
    exact ⟨c, r, rfl, al_ne (by unfold isAl; rw [q.1.1, Bool.or_true])⟩
theorem PartT.numb {n : Nat} (h : n < 1000000) : PartT (num n) [("number", num n)] := by
  refine ⟨?_, fun j o => (j.step (Wd.num h) o).both⟩
  have q := K0.numL_fig n
  cases e : tl (num n) with
  | nil => rw [K0.tl_num'] at e; exact absurd e (K0.numL_ne n)
  | cons c r =>
    rw [← K0.tl_num', e, List.all_cons, Bool.and_eq_true] at q
    exact ⟨c, r, rfl, al_ne (by unfold isAl; rw [q.1, Bool.true_or])⟩
theorem Fol.head {f : F3} {c : Nat} {r q : List Nat} (h : Fol f (c :: r)) : Fol f (c :: q) := h
theorem PartT.fol {X : Str} {ws : List Tk} (h : PartT X ws) {f : F3} (hf : f = .mark ∨ f = .free) : Fol f (tl X) := by
  rcases hf with q | q
  · rw [q]; exact h.fol_mark
  · rw [q]; exact h.fol_free
theorem lit_head {w Y Z : Str} {f : F3} (hw : tl w ≠ []) (e : Y = w ++ Z) (h : Fol f (tl Y)) : Fol f (tl w) := by
  rw [e, tl_append] at h
  cases c : tl w with
  | nil => exact absurd c hw
  | cons a b => rw [c] at h; exact h
/-- a word, a literal, a part, a literal -/
theorem PartT.one {ps qs : List LW} {X Y k0 w0 : Str} {ws : List Tk} {g : F3} (hX : PartT X ws) (eY : Y = w0 ++ (litT ps ++ (X ++ litT qs))) (wd : Wd g k0 w0) (h61 : Fol .mark (tl w0))
    (h1 : litOk g ps = true) (h2 : litF g ps = .mark ∨ litF g ps = .free) (h3 : litOk .both qs = true) : PartT Y ((k0, w0) :: (litW ps ++ (ws ++ litW qs))) := by
  obtain ⟨c, r, ec, hb⟩ := wd.hd
  have hne : tl w0 ≠ [] := by rw [ec]; exact List.cons_ne_nil _ _
  refine ⟨⟨c, r ++ tl (litT ps ++ (X ++ litT qs)), by rw [eY, tl_append, ec]; rfl, by rw [ec] at h61; exact h61⟩, fun {T us f} j o => ?_⟩
  have j1 := j.step wd (lit_head hne eY o)
  have j2 := JS.lit ps j1 h1
  have j3 := hX.seg j2 (hX.fol h2)
  have j4 := (JS.lit qs j3 h3).both
  rw [eY]
  have e1 : T ++ (w0 ++ (litT ps ++ (X ++ litT qs))) = T ++ w0 ++ litT ps ++ X ++ litT qs := by rw [assocS, assocS, assocS]
  have e2 : us ++ ((k0, w0) :: (litW ps ++ (ws ++ litW qs))) = us ++ [(k0, w0)] ++ litW ps ++ ws ++ litW qs := by simp
  rw [e1, e2]
  exact j4
/-- a word, a literal, a part, a literal, a part, a literal -/
theorem PartT.two {ps qs rs : List LW} {X X2 Y k0 w0 : Str} {ws ws2 : List Tk} {g : F3} (hX : PartT X ws) (hX2 : PartT X2 ws2) (eY : Y = w0 ++ (litT ps ++ (X ++ (litT qs ++ (X2 ++ litT rs))))) (wd : Wd g k0 w0) (h61 : Fol .mark (tl w0))
    (h1 : litOk g ps = true) (h2 : litF g ps = .mark ∨ litF g ps = .free) (h3 : litOk .both qs = true) (h4 : litF .both qs = .mark ∨ litF .both qs = .free) (h5 : litOk .both rs = true) :
    PartT Y ((k0, w0) :: (litW ps ++ (ws ++ (litW qs ++ (ws2 ++ litW rs))))) := by
  obtain ⟨c, r, ec, hb⟩ := wd.hd
  have hne : tl w0 ≠ [] := by rw [ec]; exact List.cons_ne_nil _ _
  refine ⟨⟨c, r ++ tl (litT ps ++ (X ++ (litT qs ++ (X2 ++ litT rs)))), by rw [eY, tl_append, ec]; rfl, by rw [ec] at h61; exact h61⟩, fun {T us f} j o => ?_⟩
  have j1 := j.step wd (lit_head hne eY o)
  have j2 := JS.lit ps j1 h1
  have j3 := hX.seg j2 (hX.fol h2)
  have j4 := JS.lit qs j3 h3
  have j5 := hX2.seg j4 (hX2.fol h4)
  have j6 := (JS.lit rs j5 h5).both
  rw [eY]
  have e1 : T ++ (w0 ++ (litT ps ++ (X ++ (litT qs ++ (X2 ++ litT rs))))) = T ++ w0 ++ litT ps ++ X ++ litT qs ++ X2 ++ litT rs := by rw [assocS, assocS, assocS, assocS, assocS]
  have e2 : us ++ ((k0, w0) :: (litW ps ++ (ws ++ (litW qs ++ (ws2 ++ litW rs))))) = us ++ [(k0, w0)] ++ litW ps ++ ws ++ litW qs ++ ws2 ++ litW rs := by simp
  rw [e1, e2]
  exact j6
/-- what a tree needs to be printed: small numbers, names that are words -/
def wfE : Ex → Prop
  | .num n => n < 1000000
  | .name x => nameW x = true
  | .rows => True
  | .cols => True
  | .un _ a => wfE a
  | .bin _ a b => wfE a ∧ wfE b
theorem wfE_of {ns : List Str} (h : ∀ x ∈ ns, nameW x = true) : ∀ {e : Ex}, okE ns e → wfE e
  | .num _, q => q
  | .name x, q => h x q
  | .rows, _ => trivial
  | .cols, _ => trivial
  | .un _ a, q => wfE_of h (e := a) q
  | .bin _ a b, q => ⟨wfE_of h (e := a) q.1, wfE_of h (e := b) q.2⟩
/-- how long a part's text is at most -/
def pl : Nat → Nat
  | 0 => 6
  | n + 1 => 2 * pl n + 10
end KD

namespace KD
open PySem L2 TL
open K0 (num)
theorem dp_tup {K : PySem.W.Frag} {H : Hp} {v : V} {ds : List PyData} (h : Dp K H v (.tuple ds)) : ∃ a xs, v = .ref a ∧ SqT K H a xs ∧ DpAll K H xs ds := by
  cases h with
  | tup h1 h2 => exact ⟨_, _, rfl, h1, h2⟩
theorem dp_cons {K : PySem.W.Frag} {H : Hp} {xs : List V} {d : PyData} {ds : List PyData} (h : DpAll K H xs (d :: ds)) : ∃ v vs, xs = v :: vs ∧ Dp K H v d ∧ DpAll K H vs ds := by
  cases h with
  | cons h1 h2 => exact ⟨_, _, rfl, h1, h2⟩
theorem dp_nil {K : PySem.W.Frag} {H : Hp} {xs : List V} (h : DpAll K H xs []) : xs = [] := by cases h; rfl
theorem dp_str {K : PySem.W.Frag} {H : Hp} {v : V} {x : Str} (h : Dp K H v (.str x)) : v = .str x := by cases h; rfl
theorem dp_int {K : PySem.W.Frag} {H : Hp} {v : V} {x : Int} (h : Dp K H v (.int x)) : v = .int x := by cases h; rfl
theorem sums (a b : Str) : (a ++ b).length = a.length + b.length := by rw [len_tl, tl_append, List.length_append, ← len_tl, ← len_tl]
theorem dec_str (a b : Str) : decide (V.str a = V.str b) = decide (a = b) := by
  rw [Bool.eq_iff_iff, decide_eq_true_iff, decide_eq_true_iff]
  exact ⟨fun q => V.str.inj q, fun q => by rw [q]⟩
theorem same_new {H : Hp} {p : Addr} (h : H p = none) (o : HO) : Same H (upd H p o) := fun b u q => by rw [upd_ne (ne_of_none q h)]; exact q
theorem log_small {m : Nat} (h : m < 1000000) : (((m : Nat) : Int)).natAbs.log2 < 1920 := by
  rw [Int.natAbs_natCast]
  by_cases h0 : m = 0
  · subst h0; decide
  · have q : m.log2 < 20 := (Nat.log2_lt h0).mpr (by omega)
    omega
def n3 : List Str := ["name", "rows", "cols"]
def Bi.lw (o : Bi) : LW := .wd o.tk.1 o.tk.2
theorem Bi.tk_w (o : Bi) : o.tk.2 = o.w := by cases o <;> rfl
theorem Bi.lit (o : Bi) : litOk .both [.bl " ", o.lw, .bl " "] = true := by cases o <;> decide +kernel
theorem Bi.not (o : Bi) (h : o ≠ .black) : ¬ (o.w = "num") ∧ o.w ∉ n3 ∧ ¬ (o.w = "black") ∧ o.w ∉ un2 := by
  cases o with
  | black => exact absurd rfl h
  | _ => decide +kernel
theorem Bi.len (o : Bi) : o.w.length ≤ 5 := by cases o <;> decide +kernel
theorem tk_bin {o : Bi} (h : o ≠ .black) (a b : Ex) : tkE (.bin o a b) = [kM "("] ++ tkE a ++ [o.tk] ++ tkE b ++ [kM ")"] := by
  cases o with
  | black => exact absurd rfl h
  | _ => rfl
theorem Bi.litF (o : Bi) : litF .both [.bl " ", o.lw, .bl " "] = .free := by cases o <;> rfl
section
variable {P : Program} {w : World} {K : PySem.W.Frag} {mg : Str → Option Value} {base : Heap}
/-! ### _law_part -/
def spPart (K : PySem.W.Frag) (n : Nat) : Sp := fun vs H Q _ => ∃ (x v : V) (e : Ex), vs = [x, v] ∧ Dp K H v e.d ∧ wfE e ∧ dpE e < n ∧ n ≤ 12 ∧
  ∀ (H' : Hp) (X : Str), Same H H' → PartT X (tkE e) → X.length ≤ pl (dpE e) → Q (.str X) H'
theorem pl_mono : ∀ {a b : Nat}, a ≤ b → pl a ≤ pl b
  | 0, 0, _ => Nat.le_refl _
  | 0, b + 1, _ => by
    have := pl_mono (a := 0) (b := b) (Nat.zero_le _)
    show pl 0 ≤ 2 * pl b + 10
    omega
  | a + 1, b + 1, h => by
    have := pl_mono (a := a) (b := b) (by omega)
    show 2 * pl a + 10 ≤ 2 * pl b + 10
    omega
theorem pl_small {a : Nat} (h : a ≤ 12) : pl a ≤ 100000 := Nat.le_trans (pl_mono h) (by decide)
end
end KD

/-! What a tree needs to be printed; how long its text is at most; texts with a prefix. -/
namespace KD
open PySem L2 TL
open K0 (num)
def eOk (e : Ex) : Prop := wfE e ∧ dpE e ≤ 11
mutual
def wfS : St → Prop
  | .row e => eOk e
  | .col e => eOk e
  | .say e => eOk e
  | .set x e => nameW x = true ∧ eOk e
  | .ite c a b => eOk c ∧ wfB a ∧ wfB b
  | .whl c a => eOk c ∧ wfB a
  | .for_ x a b s => nameW x = true ∧ eOk a ∧ eOk b ∧ wfB s
  | .call f es => nameW f = true ∧ es.length ≤ 100 ∧ ∀ e ∈ es, eOk e
  | .stop => True
def wfB : List St → Prop
  | [] => True
  | s :: b => wfS s ∧ wfB b
end
mutual
def dpS : St → Nat
  | .ite _ a b => max (dpB a) (dpB b) + 1
  | .whl _ a => dpB a + 1
  | .for_ _ _ _ s => dpB s + 1
  | _ => 0
def dpB : List St → Nat
  | [] => 0
  | s :: b => max (dpS s) (dpB b)
end
def lenEs : List Ex → Nat
  | [] => 0
  | e :: es => pl (dpE e) + 1 + lenEs es
mutual
def lenS : St → Nat
  | .row e => 6 + pl (dpE e)
  | .col e => 6 + pl (dpE e)
  | .say e => 6 + pl (dpE e)
  | .set _ e => 14 + pl (dpE e)
  | .ite c a b => 20 + pl (dpE c) + lenB a + lenB b
  | .whl c a => 20 + pl (dpE c) + lenB a
  | .for_ _ a b s => 30 + pl (dpE a) + pl (dpE b) + lenB s
  | .call _ es => 13 + lenEs es
  | .stop => 6
def lenB : List St → Nat
  | [] => 0
  | s :: b => lenS s + lenB b
end
theorem lenB_append : ∀ (a b : List St), lenB (a ++ b) = lenB a + lenB b
  | [], b => by show lenB b = 0 + lenB b; omega
  | s :: a, b => by
    show lenS s + lenB (a ++ b) = lenS s + lenB a + lenB b
    rw [lenB_append a b]
    omega
theorem tkB_append : ∀ (a b : List St), tkB (a ++ b) = tkB a ++ tkB b
  | [], b => rfl
  | s :: a, b => by
    show tkS s ++ tkB (a ++ b) = tkS s ++ tkB a ++ tkB b
    rw [tkB_append a b, List.append_assoc]
theorem wfB_mem : ∀ {b : List St} {s : St}, wfB b → s ∈ b → wfS s
  | t :: b, s, h, hm => by
    unfold wfB at h
    rcases List.mem_cons.mp hm with e | hm
    · rw [e]; exact h.1
    · exact wfB_mem h.2 hm
theorem dpB_mem : ∀ {b : List St} {s : St}, s ∈ b → dpS s ≤ dpB b
  | t :: b, s, hm => by
    show dpS s ≤ max (dpS t) (dpB b)
    rcases List.mem_cons.mp hm with e | hm
    · rw [e]; exact Nat.le_max_left _ _
    · exact Nat.le_trans (dpB_mem hm) (Nat.le_max_right _ _)
theorem lenB_take : ∀ (b : List St) (i : Nat), lenB (b.take i) ≤ lenB b
  | [], i => by rw [List.take_nil]; exact Nat.le_refl _
  | s :: b, 0 => Nat.zero_le _
  | s :: b, i + 1 => by
    show lenS s + lenB (b.take i) ≤ lenS s + lenB b
    have := lenB_take b i
    omega
/-! ### such trees can be compared -/
theorem nameW_ok {x : Str} (h : nameW x = true) : PyData.strOk x = true := by
  unfold nameW at h
  simp only [Bool.and_eq_true, decide_eq_true_eq, Bool.not_eq_true'] at h
  unfold PyData.strOk
  rw [← Array.all_toList, List.all_eq_true]
  intro c hc
  have q := List.all_eq_true.mp h.1.1.2 c hc
  unfold K0.isLet at q
  simp only [Bool.and_eq_true, decide_eq_true_eq] at q
  exact decide_eq_true (by omega)
theorem Un.ok (o : Un) : PyData.strOk o.w = true := by cases o <;> decide +kernel
theorem Bi.ok (o : Bi) : PyData.strOk o.w = true := by cases o <;> decide +kernel
theorem layE : ∀ {e : Ex}, wfE e → PyData.canLay0 e.d = true ∧ PyData.depth e.d ≤ dpE e + 1
  | .num n, _ => ⟨by show (PyData.strOk "num" && (true && true)) = true; decide +kernel, Nat.le_refl _⟩
  | .name x, h => by
    refine ⟨?_, Nat.le_refl _⟩
    show (PyData.strOk "name" && (PyData.strOk x && true)) = true
    rw [nameW_ok h]
    decide +kernel
  | .rows, _ => ⟨by decide +kernel, by decide⟩
  | .cols, _ => ⟨by decide +kernel, by decide⟩
  | .un o a, h => by
    obtain ⟨h1, h2⟩ := layE (e := a) h
    refine ⟨?_, ?_⟩
    · show (PyData.strOk o.w && (PyData.canLay0 a.d && true)) = true
      rw [o.ok, h1]
      rfl
    · show max 0 (max (PyData.depth a.d) 0) + 1 ≤ dpE a + 1 + 1
      omega
  | .bin o a b, h => by
    obtain ⟨h1, h2⟩ := layE (e := a) h.1
    obtain ⟨h3, h4⟩ := layE (e := b) h.2
    refine ⟨?_, ?_⟩
    · show (PyData.strOk o.w && (PyData.canLay0 a.d && (PyData.canLay0 b.d && true))) = true
      rw [o.ok, h1, h3]
      rfl
    · show max 0 (max (PyData.depth a.d) (max (PyData.depth b.d) 0)) + 1 ≤ max (dpE a) (dpE b) + 1 + 1
      omega
theorem layEs : ∀ {es : List Ex}, (∀ e ∈ es, eOk e) → PyData.canLayAll0 (es.map Ex.d) = true ∧ PyData.depthAll (es.map Ex.d) ≤ 12
  | [], _ => ⟨rfl, by decide⟩
  | e :: es, h => by
    obtain ⟨h1, h2⟩ := layEs (es := es) fun x hx => h x (List.mem_cons_of_mem _ hx)
    have he := h e List.mem_cons_self
    obtain ⟨h3, h4⟩ := layE he.1
    have h5 := he.2
    refine ⟨?_, ?_⟩
    · show (PyData.canLay0 e.d && PyData.canLayAll0 (es.map Ex.d)) = true
      rw [h3, h1]
      rfl
    · show max (PyData.depth e.d) (PyData.depthAll (es.map Ex.d)) ≤ 12
      omega
mutual
theorem layS : ∀ {s : St}, wfS s → PyData.canLay0 s.d = true ∧ PyData.depth s.d ≤ 2 * dpS s + 14
  | .row e, h => by
    unfold wfS at h
    obtain ⟨h1, h2⟩ := layE h.1
    have h3 := h.2
    refine ⟨?_, ?_⟩
    · show (PyData.strOk "row" && (PyData.canLay0 e.d && true)) = true
      rw [h1]; decide +kernel
    · show max 0 (max (PyData.depth e.d) 0) + 1 ≤ 14
      omega
  | .col e, h => by
    unfold wfS at h
    obtain ⟨h1, h2⟩ := layE h.1
    have h3 := h.2
    refine ⟨?_, ?_⟩
    · show (PyData.strOk "col" && (PyData.canLay0 e.d && true)) = true
      rw [h1]; decide +kernel
    · show max 0 (max (PyData.depth e.d) 0) + 1 ≤ 14
      omega
  | .say e, h => by
    unfold wfS at h
    obtain ⟨h1, h2⟩ := layE h.1
    have h3 := h.2
    refine ⟨?_, ?_⟩
    · show (PyData.strOk "say" && (PyData.canLay0 e.d && true)) = true
      rw [h1]; decide +kernel
    · show max 0 (max (PyData.depth e.d) 0) + 1 ≤ 14
      omega
  | .set x e, h => by
    unfold wfS at h
    obtain ⟨h1, h2⟩ := layE h.2.1
    have h3 := h.2.2
    refine ⟨?_, ?_⟩
    · show (PyData.strOk "let" && (PyData.strOk x && (PyData.canLay0 e.d && true))) = true
      rw [h1, nameW_ok h.1]; decide +kernel
    · show max 0 (max 0 (max (PyData.depth e.d) 0)) + 1 ≤ 14
      omega
  | .ite c a b, h => by
    unfold wfS at h
    obtain ⟨h1, h2⟩ := layE h.1.1
    have h3 := h.1.2
    obtain ⟨h4, h5⟩ := layB h.2.1
    obtain ⟨h6, h7⟩ := layB h.2.2
    refine ⟨?_, ?_⟩
    · show (PyData.strOk "if" && (PyData.canLay0 c.d && (PyData.canLayAll0 (dB a) && (PyData.canLayAll0 (dB b) && true)))) = true
      rw [h1, h4, h6]; decide +kernel
    · show max 0 (max (PyData.depth c.d) (max (PyData.depthAll (dB a) + 1) (max (PyData.depthAll (dB b) + 1) 0))) + 1 ≤ 2 * (max (dpB a) (dpB b) + 1) + 14
      omega
  | .whl c a, h => by
    unfold wfS at h
    obtain ⟨h1, h2⟩ := layE h.1.1
    have h3 := h.1.2
    obtain ⟨h4, h5⟩ := layB h.2
    refine ⟨?_, ?_⟩
    · show (PyData.strOk "while" && (PyData.canLay0 c.d && (PyData.canLayAll0 (dB a) && true))) = true
      rw [h1, h4]; decide +kernel
    · show max 0 (max (PyData.depth c.d) (max (PyData.depthAll (dB a) + 1) 0)) + 1 ≤ 2 * (dpB a + 1) + 14
      omega
  | .for_ x a b s, h => by
    unfold wfS at h
    obtain ⟨h1, h2⟩ := layE h.2.1.1
    have h3 := h.2.1.2
    obtain ⟨h4, h5⟩ := layE h.2.2.1.1
    have h6 := h.2.2.1.2
    obtain ⟨h7, h8⟩ := layB h.2.2.2
    refine ⟨?_, ?_⟩
    · show (PyData.strOk "for" && (PyData.strOk x && (PyData.canLay0 a.d && (PyData.canLay0 b.d && (PyData.canLayAll0 (dB s) && true))))) = true
      rw [h1, h4, h7, nameW_ok h.1]; decide +kernel
    · show max 0 (max 0 (max (PyData.depth a.d) (max (PyData.depth b.d) (max (PyData.depthAll (dB s) + 1) 0)))) + 1 ≤ 2 * (dpB s + 1) + 14
      omega
  | .call f es, h => by
    unfold wfS at h
    obtain ⟨h1, h2⟩ := layEs h.2.2
    refine ⟨?_, ?_⟩
    · show (PyData.strOk "do" && (PyData.strOk f && (PyData.canLayAll0 (es.map Ex.d) && true))) = true
      rw [h1, nameW_ok h.1]; decide +kernel
    · show max 0 (max 0 (max (PyData.depthAll (es.map Ex.d) + 1) 0)) + 1 ≤ 2 * 0 + 14
      omega
  | .stop, _ => ⟨by decide +kernel, by show 0 + 1 ≤ 14; decide⟩
theorem layB : ∀ {b : List St}, wfB b → PyData.canLayAll0 (dB b) = true ∧ PyData.depthAll (dB b) ≤ 2 * dpB b + 14
  | [], _ => ⟨rfl, Nat.zero_le _⟩
  | s :: b, h => by
    unfold wfB at h
    obtain ⟨h1, h2⟩ := layS h.1
    obtain ⟨h3, h4⟩ := layB h.2
    refine ⟨?_, ?_⟩
    · show (PyData.canLay0 s.d && PyData.canLayAll0 (dB b)) = true
      rw [h1, h3]; rfl
    · show max (PyData.depth s.d) (PyData.depthAll (dB b)) ≤ 2 * max (dpS s) (dpB b) + 14
      omega
end
theorem shapedB {b : List St} (h : wfB b) (hd : dpB b ≤ 20) : SeqAt.shaped (.tuple (dB b)) = true := by
  obtain ⟨h1, h2⟩ := layB h
  unfold SeqAt.shaped
  rw [Bool.and_eq_true, decide_eq_true_iff]
  refine ⟨h1, ?_⟩
  show PyData.depthAll (dB b) + 1 ≤ 64
  omega
theorem eqv_nilT : ∀ l : List PyData, PyData.eqv (.tuple l) (.tuple []) = l.isEmpty
  | [] => rfl
  | x :: l => by rw [PyData.eqv]; rfl
/-! ### a text behind any other -/
structure PreT (T : Str) (ws : List Tk) (g : F3) : Prop where
  go : ∀ {T0 : Str} {us : List Tk} {f : F3}, JS T0 us f → JS (T0 ++ T) (us ++ ws) g
/-- a block's text: empty, or it begins with a blank -/
def BlkT (X : Str) (ws : List Tk) : Prop := (X = "" ∧ ws = []) ∨ PreT X ws .both
theorem PreT.blank {T s : Str} {ws : List Tk} {g : F3} (h : PreT T ws g) (hs : blS s = true) : PreT (T ++ s) ws .free := ⟨fun j => by
  rw [assocS]
  exact (h.go j).blank hs⟩
theorem PreT.step {T w k : Str} {ws : List Tk} {f g : F3} (h : PreT T ws f) (wd : Wd g k w) (o : Fol f (tl w)) : PreT (T ++ w) (ws ++ [(k, w)]) g := ⟨fun j => by
  rw [assocS, ← List.append_assoc]
  exact (h.go j).step wd o⟩
theorem PreT.part {T X : Str} {ws vs : List Tk} {f : F3} (h : PreT T ws f) (hX : PartT X vs) (hf : f = .mark ∨ f = .free) : PreT (T ++ X) (ws ++ vs) .both := ⟨fun j => by
  rw [assocS, ← List.append_assoc]
  exact hX.seg (h.go j) (hX.fol hf)⟩
theorem PreT.lit {T X : Str} {ws vs : List Tk} {f g : F3} (h : PreT T ws f) (ps : List LW) (e : X = litT ps) (hw : litW ps = vs) (ho : litOk f ps = true) (hg : litF f ps = g) : PreT (T ++ X) (ws ++ vs) g := ⟨fun j => by
  rw [assocS, ← List.append_assoc, e, ← hw, ← hg]
  exact (h.go j).lit ps ho⟩
theorem PreT.both {T : Str} {ws : List Tk} {f : F3} (h : PreT T ws f) : PreT T ws .both := ⟨fun j => (h.go j).both⟩
theorem BlkT.gap {X s : Str} {ws : List Tk} (h : BlkT X ws) (hs : blS s = true) : PreT (X ++ s) ws .free := by
  rcases h with ⟨rfl, rfl⟩ | h
  · refine ⟨fun {T0 us f} j => ?_⟩
    rw [assocS, nilS, List.append_nil]
    exact j.blank hs
  · exact h.blank hs
theorem PreT.blk {T X : Str} {ws vs : List Tk} {f : F3} (h : PreT T ws f) (hX : BlkT X vs) : ∃ g, (g = f ∨ g = .both) ∧ PreT (T ++ X) (ws ++ vs) g := by
  rcases hX with ⟨rfl, rfl⟩ | hX
  · refine ⟨f, .inl rfl, ⟨fun j => ?_⟩⟩
    rw [nilS, List.append_nil]
    exact h.go j
  · refine ⟨.both, .inr rfl, ⟨fun j => ?_⟩⟩
    rw [assocS, ← List.append_assoc]
    exact hX.go (h.go j)
end KD

namespace KD
open PySem L2 TL
open K0 (num)
theorem dB_get : ∀ {b : List St} {i : Nat} {d : PyData}, (dB b)[i]? = some d → ∃ st, b[i]? = some st ∧ d = st.d
  | [], i, d, h => by simp [dB] at h
  | s :: b, 0, d, h => ⟨s, rfl, (Option.some.inj h).symm⟩
  | s :: b, i + 1, d, h => dB_get (b := b) (i := i) h
theorem Fol.anyF : ∀ l : List Nat, Fol .free l
  | [] => trivial
  | _ :: _ => trivial
def gaps : List Str := [" ", "  ", "\n"]
theorem gaps_ok : ∀ g ∈ gaps, blS g = true ∧ g.length ≤ 2 := by decide +kernel
def w5 : List Str := ["row", "col", "say", "if", "while"]
def w3 : List Str := ["if", "while", "for"]
/-- printed parts, one an expression -/
inductive Parts : List Str → List Ex → Prop
  | nil : Parts [] []
  | cons {Y : Str} {Ys : List Str} {e : Ex} {es : List Ex} : PartT Y (tkE e) → Y.length ≤ pl (dpE e) → Parts Ys es → Parts (Y :: Ys) (e :: es)
theorem Parts.snoc {Y : Str} {e : Ex} (h : PartT Y (tkE e)) (hl : Y.length ≤ pl (dpE e)) : ∀ {Ys : List Str} {es : List Ex}, Parts Ys es → Parts (Ys ++ [Y]) (es ++ [e])
  | _, _, .nil => .cons h hl .nil
  | _, _, .cons a b c => .cons a b (c.snoc h hl)
theorem Parts.length : ∀ {Ys : List Str} {es : List Ex}, Parts Ys es → Ys.length = es.length
  | _, _, .nil => rfl
  | _, _, .cons a b c => by rw [List.length_cons, List.length_cons, c.length]
theorem Parts.sum : ∀ {Ys : List Str} {es : List Ex}, Parts Ys es → (Ys.map (·.length)).sum + Ys.length ≤ lenEs es
  | _, _, .nil => Nat.le_refl _
  | _, _, .cons (Y := Y) (Ys := Ys) (e := e) (es := es) a b c => by
    have := c.sum
    show (Y.length + (Ys.map (·.length)).sum) + (Ys.length + 1) ≤ pl (dpE e) + 1 + lenEs es
    omega
theorem Parts.jlen : ∀ {Ys : List Str} {es : List Ex}, Parts Ys es → (Str.join "," Ys).length ≤ lenEs es
  | _, _, .nil => Nat.zero_le _
  | _, _, .cons (Y := Y) (Ys := Ys) (e := e) (es := es) a b c => by
    cases Ys with
    | nil => show Y.length ≤ pl (dpE e) + 1 + lenEs es; omega
    | cons Z Zs =>
      have := c.jlen
      show (Y ++ "," ++ Str.join "," (Z :: Zs)).length ≤ pl (dpE e) + 1 + lenEs es
      rw [sums, sums, show ("," : Str).length = 1 by decide +kernel]
      omega
theorem PreT.joined : ∀ {Ys : List Str} {es : List Ex} {T : Str} {ws : List Tk} {f : F3}, PreT T ws f → (f = .mark ∨ f = .free) → Parts Ys es → ∃ g, (g = f ∨ g = .both) ∧ PreT (T ++ Str.join "," Ys) (ws ++ tkEs es) g
  | _, _, T, ws, f, h, hf, .nil => ⟨f, .inl rfl, ⟨fun j => by
      rw [show Str.join "," [] = ("" : Str) from rfl, nilS, show tkEs [] = [] from rfl, List.append_nil]
      exact h.go j⟩⟩
  | _, _, T, ws, f, h, hf, .cons (Y := Y) (Ys := Ys) (e := e) (es := es) a b c => by
    cases c with
    | nil => exact ⟨.both, .inr rfl, h.part a hf⟩
    | cons a2 b2 c2 =>
      rename_i Z Zs e2 es2
      have h1 := h.part a hf
      have h2 := h1.lit (X := ",") (vs := [kM ","]) (g := .mark) [.wd "mark" ","] (by decide +kernel) rfl (by decide +kernel) rfl
      obtain ⟨g, hg, h3⟩ := h2.joined (.inl rfl) (.cons a2 b2 c2)
      refine ⟨.both, .inr rfl, ?_⟩
      have e1 : T ++ Str.join "," (Y :: Z :: Zs) = T ++ Y ++ "," ++ Str.join "," (Z :: Zs) := by
        show T ++ (Y ++ "," ++ Str.join "," (Z :: Zs)) = _
        rw [assocS, assocS]
      have e2' : ws ++ tkEs (e :: e2 :: es2) = ws ++ tkE e ++ [kM ","] ++ tkEs (e2 :: es2) := by
        show ws ++ (tkE e ++ [kM ","] ++ tkEs (e2 :: es2)) = _
        simp
      rw [e1, e2']
      exact h3.both
theorem RowAt.same' {H H' : Hp} {r s : Addr} (h : RowAt H r s) (k : Same H H') : RowAt H' r s := by
  obtain ⟨i, a, b, h, h2⟩ := h
  exact ⟨i, a, b, k _ _ h, h2⟩
end KD

namespace KD
open PySem L2 TL
open K0 (num Toks)
/-! ### whole programs -/
structure wfD (f : Df) : Prop where
  nm : nameW f.name = true
  args : ∀ x ∈ f.args, nameW x = true
  alen : f.args.length ≤ 10
  body : wfB f.body
  dp : dpB f.body ≤ 11
structure wfP (p : Pr) : Prop where
  defs : ∀ f ∈ p.defs, wfD f
  body : wfB p.body
  dp : dpB p.body ≤ 11
def lenD (f : Df) : Nat := 100 + lenB f.body
def lenDs : List Df → Nat
  | [] => 0
  | f :: fs => lenD f + lenDs fs
def lenP (p : Pr) : Nat := lenDs p.defs + lenB p.body
theorem lenDs_append : ∀ (a b : List Df), lenDs (a ++ b) = lenDs a + lenDs b
  | [], b => by show lenDs b = 0 + lenDs b; omega
  | s :: a, b => by
    show lenD s + lenDs (a ++ b) = lenD s + lenDs a + lenDs b
    rw [lenDs_append a b]
    omega
theorem tkDs_append : ∀ (a b : List Df), tkDs (a ++ b) = tkDs a ++ tkDs b
  | [], b => rfl
  | s :: a, b => by
    show tkD s ++ tkDs (a ++ b) = tkD s ++ tkDs a ++ tkDs b
    rw [tkDs_append a b, List.append_assoc]
theorem lenDs_take : ∀ (b : List Df) (i : Nat), lenDs (b.take i) ≤ lenDs b
  | [], i => by rw [List.take_nil]; exact Nat.le_refl _
  | s :: b, 0 => Nat.zero_le _
  | s :: b, i + 1 => by
    show lenD s + lenDs (b.take i) ≤ lenD s + lenDs b
    have := lenDs_take b i
    omega
theorem JS.lit2 {T X : Str} {ws vs : List Tk} {f g : F3} (h : JS T ws f) (ps : List LW) (e : X = litT ps) (hw : litW ps = vs) (ho : litOk f ps = true) (hg : litF f ps = g) : JS (T ++ X) (ws ++ vs) g := by
  rw [e, ← hw, ← hg]
  exact h.lit ps ho
/-- names with commas between -/
theorem JS.names : ∀ {xs : List Str} {T : Str} {ws : List Tk} {f : F3}, JS T ws f → (f = .mark ∨ f = .free) → (∀ x ∈ xs, nameW x = true) → ∃ g, (g = f ∨ g = .both) ∧ JS (T ++ Str.join ", " xs) (ws ++ tkNs xs) g
  | [], T, ws, f, h, hf, _ => ⟨f, .inl rfl, by
      rw [show Str.join ", " [] = ("" : Str) from rfl, nilS, show tkNs [] = [] from rfl, List.append_nil]
      exact h⟩
  | [x], T, ws, f, h, hf, hx => ⟨.both, .inr rfl, (PartT.name (hx x List.mem_cons_self)).seg h ((PartT.name (hx x List.mem_cons_self)).fol hf)⟩
  | x :: y :: r, T, ws, f, h, hf, hx => by
    have hp := PartT.name (hx x List.mem_cons_self)
    have h1 := hp.seg h (hp.fol hf)
    have h2 := h1.lit2 (X := ", ") (vs := [kM ","]) (g := .free) [.wd "mark" ",", .bl " "] (by decide +kernel) rfl (by decide +kernel) rfl
    obtain ⟨g, hg, h3⟩ := JS.names (xs := y :: r) h2 (.inr rfl) fun z hz => hx z (List.mem_cons_of_mem _ hz)
    refine ⟨.both, .inr rfl, ?_⟩
    have e1 : T ++ Str.join ", " (x :: y :: r) = T ++ x ++ ", " ++ Str.join ", " (y :: r) := by
      show T ++ (x ++ ", " ++ Str.join ", " (y :: r)) = _
      rw [assocS, assocS]
    have e2 : ws ++ tkNs (x :: y :: r) = ws ++ [kN x] ++ [kM ","] ++ tkNs (y :: r) := by
      show ws ++ ([kN x, kM ","] ++ tkNs (y :: r)) = _
      simp
    rw [e1, e2]
    exact h3.both
theorem names_sum : ∀ {xs : List Str}, (∀ x ∈ xs, nameW x = true) → (xs.map (·.length)).sum ≤ 6 * xs.length
  | [], _ => Nat.le_refl _
  | x :: xs, h => by
    have h1 := nameW_len (h x List.mem_cons_self)
    have h2 := names_sum (xs := xs) fun z hz => h z (List.mem_cons_of_mem _ hz)
    show x.length + (xs.map (·.length)).sum ≤ 6 * (xs.length + 1)
    omega
theorem names_jlen : ∀ {xs : List Str}, (∀ x ∈ xs, nameW x = true) → (Str.join ", " xs).length ≤ 8 * xs.length
  | [], _ => Nat.zero_le _
  | [x], h => by
    have h1 := nameW_len (h x List.mem_cons_self)
    show x.length ≤ 8
    omega
  | x :: y :: r, h => by
    have h1 := nameW_len (h x List.mem_cons_self)
    have h2 := names_jlen (xs := y :: r) fun z hz => h z (List.mem_cons_of_mem _ hz)
    show (x ++ ", " ++ Str.join ", " (y :: r)).length ≤ 8 * ((y :: r).length + 1)
    rw [sums, sums, show (", " : Str).length = 2 by decide +kernel]
    omega
end KD

namespace KD
open PySem L2 TL
mutual
/-- no list is too long -/
def slimD : PyData → Bool
  | .list xs => decide (xs.length ≤ 1000000) && slimDs xs
  | .tuple xs => decide (xs.length ≤ 1000000) && slimDs xs
  | .dict _ => false
  | _ => true
def slimDs : List PyData → Bool
  | [] => true
  | x :: xs => slimD x && slimDs xs
end
theorem slimDs_get : ∀ {xs : List PyData} {i : Nat} {d : PyData}, slimDs xs = true → xs[i]? = some d → slimD d = true
  | [], i, d, _, h => by simp at h
  | x :: xs, 0, d, h, e => by
    unfold slimDs at h
    rw [Bool.and_eq_true] at h
    have := Option.some.inj e
    subst this
    exact h.1
  | x :: xs, i + 1, d, h, e => by
    unfold slimDs at h
    rw [Bool.and_eq_true] at h
    exact slimDs_get (i := i) h.2 e
theorem depth_get : ∀ {xs : List PyData} {i : Nat} {d : PyData}, xs[i]? = some d → PyData.depth d ≤ PyData.depthAll xs
  | [], i, d, h => by simp at h
  | x :: xs, 0, d, e => by
    have := Option.some.inj e
    subst this
    exact Nat.le_max_left _ _
  | x :: xs, i + 1, d, e => Nat.le_trans (depth_get (i := i) e) (Nat.le_max_right _ _)
def us2 : List Value := [.type "tuple", .type "list"]
theorem cls2 : Paired ClsV [.ty "tuple", .ty "list"] us2 := .cons (.ty _) (.cons (.ty _) .nil)
theorem kit2 {K : PySem.W.Frag} {a : String} {b1 b2 b : Bool} (h1 : kitB a "tuple" = some b1) (h2 : kitB a "list" = some b2) (hb : b = (b1 || b2)) : PySem.W.kitAny K (.type a) us2 = some b := by
  subst hb
  exact kitAny_cons (b := b1) (kit_ty h1) (fun e => by rw [e]; exact kitAny_cons (b := b2) (kit_ty h2) (fun e2 => by rw [e2]; exact kitAny_nil) (fun e2 => by rw [e2]; rfl)) (fun e => by rw [e]; rfl)
theorem Fp.list {K : PySem.W.Frag} {H : Hp} {a : Addr} {xs : List V} (h : SqL K H a xs) : TyX K H (.ref a) (.type "list") := by
  rcases h with (h | ⟨o, h⟩) | ⟨o, its, n, h1, h2, _⟩
  · exact .base (.lst h)
  · exact .base (.frz h)
  · exact .kList h1 h2
theorem Fp.tup {K : PySem.W.Frag} {H : Hp} {a : Addr} {xs : List V} (h : SqT K H a xs) : TyX K H (.ref a) (.type "tuple") := by
  rcases h with (h | ⟨o, h⟩) | ⟨o, its, n, h1, h2, _⟩
  · exact .base (.tup h)
  · exact .fTuple h
  · exact .kTuple h1 h2
def bxT (C : Bool) : String := if C then "tuple" else "list"
def Bx (K : PySem.W.Frag) (C : Bool) (H : Hp) (a : Addr) (xs : List V) : Prop := if C then SqT K H a xs else SqL K H a xs
theorem Bx.ty {K : PySem.W.Frag} {H : Hp} {a : Addr} {xs : List V} : ∀ {C : Bool}, Bx K C H a xs → TyX K H (.ref a) (.type (bxT C))
  | true, h => Fp.tup h
  | false, h => Fp.list h
theorem Bx.same {K : PySem.W.Frag} {H H' : Hp} {a : Addr} {xs : List V} (s : Same H H') : ∀ {C : Bool}, Bx K C H a xs → Bx K C H' a xs
  | true, h => KT.same s _ _ h
  | false, h => s.seq h
theorem Bx.seq {K : PySem.W.Frag} {H : Hp} {a : Addr} {xs : List V} : ∀ {C : Bool}, Bx K C H a xs → SqL K H a xs ∨ SqT K H a xs
  | true, h => .inr h
  | false, h => .inl h
theorem Bx.kit {K : PySem.W.Frag} : ∀ {C : Bool}, PySem.W.kitAny K (.type (bxT C)) us2 = some true
  | true => kit2 (b1 := true) (b2 := false) (by decide +kernel) (by decide +kernel) rfl
  | false => kit2 (b1 := false) (b2 := true) (by decide +kernel) (by decide +kernel) rfl
theorem Bx.isl {K : PySem.W.Frag} : ∀ {C : Bool}, PySem.W.kitOne K (.type (bxT C)) (.type "list") = some (!C)
  | true => kit_ty (by decide +kernel)
  | false => kit_ty (by decide +kernel)
def bxD (C : Bool) (ds : List PyData) : PyData := if C then .tuple ds else .list ds
theorem Bx.of {K : PySem.W.Frag} {H : Hp} {v : V} {ds : List PyData} : ∀ {C : Bool}, Dp K H v (bxD C ds) → ∃ a xs, v = .ref a ∧ Bx K C H a xs ∧ DpAll K H xs ds
  | true, h => dp_tup h
  | false, h => by
    cases (show Dp K H v (.list ds) from h) with
    | lst h1 h2 => exact ⟨_, _, rfl, h1, h2⟩
section
variable {P : Program} {w : World} {K : PySem.W.Frag} {mg : Str → Option Value} {base : Heap}
theorem scAlike : FnScope ["found", "due", "k"] ["found", "due"] (defScope S__law_alike) := ⟨rfl, rfl, rfl, by decide +kernel, rfl, by decide +kernel, by decide +kernel⟩
def spAlk (K : PySem.W.Frag) (n : Nat) : Sp := fun vs H Q _ => ∃ (x y : V) (d : PyData), vs = [x, y] ∧ Dp K H x d ∧ Dp K H y d ∧ PyData.depth d < n ∧ slimD d = true ∧ ∀ H', Same H H' → Q (.bl true) H'
theorem ok_alk1 {n : Nat} {f : Addr} {fd : FuncData} (F : Fun K "_law_alike" "_law_alike" S__law_alike f fd) (T : Blt mg) (GI : FnOk P w K mg base CX0 n f fd ["found", "due"] (spAlk K n)) (mI : mg "_law_alike" = some (.ref f)) (bI : Binds K fd ["found", "due"] []) :
    FnOk P w K mg base CX0 (n + 1) f fd ["found", "due"] (spAlk K (n + 1)) := by
  refine F.ok scAlike (fun vs H Q E h => ?_) (fun cdv A outer s0 H vs Q E hr h => ?_)
  · obtain ⟨x, y, d, rfl, _⟩ := h
    rfl
  obtain ⟨x, y, d, rfl, hx, hy, hd, hs, k⟩ := h
  have isT : ∀ i : Nat, True := fun _ => trivial
  refine ⟨_, pss_cons (ps_if (pt_val (pe_callB call_isiT (by rfl) T.isi (by decide +kernel) (pa_cons (pv 1) (pa_cons (pe_tup (pa_cons (pe_bltn (v := .ty "tuple") (by rfl) T.tup (by decide +kernel) rfl) (pa_cons (pe_bltn (v := .ty "list") (by rfl) T.list (by decide +kernel) rfl) pa_nil))) pa_nil))))
      (pss_cons (ps_if (PW.pt (pw_or (pt_not (pt_val (pe_callB call_isiT (by rfl) T.isi (by decide +kernel) (pa_cons (pv 0) (pa_cons (pe_tup (pa_cons (pe_bltn (v := .ty "tuple") (by rfl) T.tup (by decide +kernel) rfl) (pa_cons (pe_bltn (v := .ty "list") (by rfl) T.list (by decide +kernel) rfl) pa_nil))) pa_nil)))))
          (pw_or1 (pt_cmpR op_ne (pe_callB call_isi (by rfl) T.isi (by decide +kernel) (pa_cons (pv 0) (pa_cons (pe_bltn (v := .ty "list") (by rfl) T.list (by decide +kernel) rfl) pa_nil)))
            (pe_callB call_isi (by rfl) T.isi (by decide +kernel) (pa_cons (pv 1) (pa_cons (pe_bltn (v := .ty "list") (by rfl) T.list (by decide +kernel) rfl) pa_nil))) (nomark _))))) pss_never pss_nil)
      (pss_cons (ps_if (pt_cmpR op_ne (pe_callB call_len_seq (by rfl) T.len PySem.boot_len (pa_cons (pv 0) pa_nil)) (pe_callB call_len_seq (by rfl) T.len PySem.boot_len (pa_cons (pv 1) pa_nil)) (nomark _)) pss_never pss_nil)
      (pss_one (ps_ret (pe_cmpR (op_eqD hr.units) (pe_lc (own := [("k", 2)]) (g := gName 2) rfl scAlike.nd (pi_range1 rfl T.range (pa_cons (pe_callB call_len_seq (by rfl) T.len PySem.boot_len (pa_cons (pv 1) pa_nil)) pa_nil))
          (blkOk_by (own := [("k", 2)]) (N := ["found", "due", "k"]) (sc := defScope S__law_alike) (by decide +kernel)) (fun _ _ _ _ _ => pg_name (i := 2) scAlike.nd rfl (Or.inl rfl))
          (fun _ _ _ _ _ => pts_one (pt_not (pt_val (pe_call GI hr rfl mI F.kp bI .nil pass0 (pa_cons (pe_ix (r := rIx K) ix_seq (pv 0) (pv 2) (fun _ _ => rfl)) (pa_cons (pe_ix (r := rIx K) ix_seq (pv 1) (pv 2) (fun _ _ => rfl)) pa_nil))))))
          (fun _ _ _ _ _ => pv 2)) (pe_lst pa_nil) (nomark _)))))) pss_nil)
    (pss_cons (ps_if (PW.pt (pw_or (pt_cmp (pc_isN (pv 1))) (pw_or1 (pt_val (pe_callB call_isi (by rfl) T.isi (by decide +kernel) (pa_cons (pv 1) (pa_cons (pe_bltn (v := .ty "str") (by rfl) T.str (by decide +kernel) rfl) pa_nil)))))))
      (pss_one (ps_ret (pe_and (pe_cmpR op_eq (pv 0) (pv 1) (nomark _)) (pe_one (pe_cmpR op_eq
        (pe_callB call_isi (by rfl) T.isi (by decide +kernel) (pa_cons (pv 0) (pa_cons (pe_bltn (v := .ty "str") (by rfl) T.str (by decide +kernel) rfl) pa_nil)))
        (pe_callB call_isi (by rfl) T.isi (by decide +kernel) (pa_cons (pv 1) (pa_cons (pe_bltn (v := .ty "str") (by rfl) T.str (by decide +kernel) rfl) pa_nil))) (nomark _)))))) pss_nil)
    (pss_one (ps_ret (pe_and (pe_callB call_isi (by rfl) T.isi (by decide +kernel) (pa_cons (pv 0) (pa_cons (pe_bltn (v := .ty "int") (by rfl) T.int (by decide +kernel) rfl) pa_nil)))
      (pe_and (pe_cmpR op_eq
        (pe_callB call_isi (by rfl) T.isi (by decide +kernel) (pa_cons (pv 0) (pa_cons (pe_bltn (v := .ty "bool") (by rfl) T.bool (by decide +kernel) rfl) pa_nil)))
        (pe_callB call_isi (by rfl) T.isi (by decide +kernel) (pa_cons (pv 1) (pa_cons (pe_bltn (v := .ty "bool") (by rfl) T.bool (by decide +kernel) rfl) pa_nil))) (nomark _))
      (pe_one (pe_cmpR op_eq (pv 0) (pv 1) (nomark _)))))))), ?_⟩
  by_cases hbx : ∃ (C : Bool) (ds : List PyData), d = bxD C ds
  · obtain ⟨C, ds, rfl⟩ := hbx
    obtain ⟨p, xs, rfl, hp, hxs⟩ := Bx.of hx
    obtain ⟨q, ys, rfl, hq, hys⟩ := Bx.of hy
    have hsl : ds.length ≤ 1000000 ∧ slimDs ds = true := by
      cases C with
      | true =>
        have z : (decide (ds.length ≤ 1000000) && slimDs ds) = true := hs
        rw [Bool.and_eq_true, decide_eq_true_iff] at z
        exact z
      | false =>
        have z : (decide (ds.length ≤ 1000000) && slimDs ds) = true := hs
        rw [Bool.and_eq_true, decide_eq_true_iff] at z
        exact z
    have hdd : PyData.depthAll ds < n := by
      cases C with
      | true =>
        have z : PyData.depthAll ds + 1 < n + 1 := hd
        omega
      | false =>
        have z : PyData.depthAll ds + 1 < n + 1 := hd
        omega
    have l1 := KD.DpAll.length hxs
    have l2 := KD.DpAll.length hys
    have h1000 : ys.length ≤ 1000000 := by rw [l2]; exact hsl.1
    refine ⟨_, rfl, (by show 2 ≤ sizeLine; decide), fun tp htp => ⟨_, tp, _, _, us2, true, rfl, upd_same, cls2, Bx.ty (Bx.same (same_new htp _) hq), Bx.kit, true, rfl, iteT ?_⟩⟩
    have s1 := same_new htp (.tup [.ty "tuple", .ty "list"])
    refine ⟨_, rfl, (by show 2 ≤ sizeLine; decide), fun tp2 htp2 => ?_⟩
    have s2 := s1.trans (same_new htp2 (.tup [.ty "tuple", .ty "list"]))
    refine ⟨_, tp2, _, _, us2, true, rfl, upd_same, cls2, Bx.ty (Bx.same s2 hp), Bx.kit, true, rfl, iteF ?_⟩
    generalize upd (upd H tp (.tup [.ty "tuple", .ty "list"])) tp2 (.tup [.ty "tuple", .ty "list"]) = H2 at s2 ⊢
    refine ⟨_, rfl, _, _, _, _, !C, rfl, .ty "list", Bx.ty (Bx.same s2 hp), Bx.isl, _, rfl, _, _, _, _, !C, rfl, .ty "list", Bx.ty (Bx.same s2 hq), Bx.isl, rfl, _, rfl, iteNS rfl ?_⟩
    refine ⟨_, rfl, p, xs, rfl, Bx.seq (Bx.same s2 hp), _, rfl, q, ys, rfl, Bx.seq (Bx.same s2 hq), rfl, _, rfl, iteNS (by rw [l1, l2]) ?_⟩
    refine ⟨_, rfl, q, ys, rfl, Bx.seq (Bx.same s2 hq), _, rfl, by omega, by omega, fun D hD => ?_⟩
    have s3 := s2.trans (same_new hD (.lst []))
    refine lc_range (lo := 0) (n := ((ys.length : Nat) : Int).toNat) (fun _ H' => H' D = some (.lst []) ∧ Same H H') ⟨upd_same, s3⟩ ?_ ?_
    · rintro i H' hi ⟨hD', s4⟩
      have hi' : i < ys.length := by omega
      have ei : (0 : Int) + (i : Int) = ((i : Nat) : Int) := by omega
      obtain ⟨x, hx⟩ : ∃ x, xs[i]? = some x := ⟨_, List.getElem?_eq_getElem (by omega)⟩
      obtain ⟨y, hy⟩ : ∃ y, ys[i]? = some y := ⟨_, List.getElem?_eq_getElem hi'⟩
      have ax : atI xs (0 + (i : Int)) = some x := by rw [ei]; exact atI_nat hx
      have ay : atI ys (0 + (i : Int)) = some y := by rw [ei]; exact atI_nat hy
      obtain ⟨d1, e1, g1⟩ := KD.DpAll.get hxs hx
      obtain ⟨d2, e2, g2⟩ := KD.DpAll.get hys hy
      have e12 : d1 = d2 := by rw [e1] at e2; exact Option.some.inj e2
      subst e12
      have ix : ∀ {a : Addr} {zs : List V} {v : V} (Q2 : VK), Bx K C H a zs → atI zs (0 + (i : Int)) = some v → Q2 v H' → rIx K (.ref a) (.int (0 + (i : Int))) H' Q2 := fun {a zs v} Q2 h1 h2 h3 => by
        rcases Bx.seq (Bx.same s4 h1) with h | h
        · exact .inl ⟨a, zs, _, v, rfl, rfl, h, h2, h3⟩
        · exact .inr (.inl ⟨a, zs, _, v, rfl, rfl, h, h2, h3⟩)
      refine ⟨rfl, ?_⟩
      refine ⟨_, rfl, _, rfl, ix _ hp ax ?_⟩
      refine ⟨_, rfl, _, rfl, ix _ hq ay ?_⟩
      refine ⟨x, y, d1, rfl, Dp.same s4 g1, Dp.same s4 g2, Nat.lt_of_le_of_lt (depth_get e1) hdd, slimDs_get hsl.2 e1, fun H5 s5 => ⟨true, rfl, iteF ?_⟩⟩
      exact ⟨s5 _ _ hD', s4.trans s5⟩
    · rintro H' ⟨hD', s4⟩
      refine ⟨Nat.zero_le _, fun l hl' => ⟨.list [], .list [], .lst (SqL.of (same_new hl' _ _ _ hD')) .nil, .lst (SqL.of upd_same) .nil, rfl, rfl, ?_⟩⟩
      show Q (.bl true) _
      exact k _ (s4.trans (same_new hl' _))
  cases d with
  | list ds => exact absurd ⟨false, ds, rfl⟩ hbx
  | tuple ds => exact absurd ⟨true, ds, rfl⟩ hbx
  | dict kvs => cases hs
  | none =>
    cases hx
    cases hy
    refine ⟨_, rfl, (by show 2 ≤ sizeLine; decide), fun tp htp => ⟨_, tp, _, _, us2, false, rfl, upd_same, cls2, .base .non, kit2 (b1 := false) (b2 := false) (by decide +kernel) (by decide +kernel) rfl, false, rfl, iteF ?_⟩⟩
    refine ⟨_, rfl, _, rfl, iteT ?_⟩
    refine ⟨_, rfl, _, rfl, rfl, _, rfl, iteT ?_⟩
    refine ⟨_, rfl, _, _, _, _, false, rfl, .ty "str", .base .non, kit_ty (by decide +kernel), _, rfl, _, _, _, _, false, rfl, .ty "str", .base .non, kit_ty (by decide +kernel), rfl, ?_⟩
    exact k _ (same_new htp _)
  | str z =>
    cases hx
    cases hy
    refine ⟨_, rfl, (by show 2 ≤ sizeLine; decide), fun tp htp => ⟨_, tp, _, _, us2, false, rfl, upd_same, cls2, .base (.str _), kit2 (b1 := false) (b2 := false) (by decide +kernel) (by decide +kernel) rfl, false, rfl, iteF ?_⟩⟩
    refine ⟨_, rfl, _, rfl, iteF ?_⟩
    refine ⟨_, rfl, _, _, _, _, true, rfl, .ty "str", .base (.str _), kit_ty (by decide +kernel), true, rfl, iteT ?_⟩
    refine ⟨_, rfl, _, rfl, rfl, _, rfl, ?_⟩
    rw [decide_eq_true rfl]
    refine iteT ?_
    refine ⟨_, rfl, _, _, _, _, true, rfl, .ty "str", .base (.str _), kit_ty (by decide +kernel), _, rfl, _, _, _, _, true, rfl, .ty "str", .base (.str _), kit_ty (by decide +kernel), rfl, ?_⟩
    exact k _ (same_new htp _)
  | bool z =>
    cases hx
    cases hy
    refine ⟨_, rfl, (by show 2 ≤ sizeLine; decide), fun tp htp => ⟨_, tp, _, _, us2, false, rfl, upd_same, cls2, .base (.bl _), kit2 (b1 := false) (b2 := false) (by decide +kernel) (by decide +kernel) rfl, false, rfl, iteF ?_⟩⟩
    refine ⟨_, rfl, _, rfl, iteF ?_⟩
    refine ⟨_, rfl, _, _, _, _, false, rfl, .ty "str", .base (.bl _), kit_ty (by decide +kernel), false, rfl, iteF ?_⟩
    refine ⟨_, rfl, _, _, _, _, true, rfl, .ty "int", .base (.bl _), kit_ty (by decide +kernel), true, rfl, iteT ?_⟩
    refine ⟨_, rfl, _, _, _, _, true, rfl, .ty "bool", .base (.bl _), kit_ty (by decide +kernel), _, rfl, _, _, _, _, true, rfl, .ty "bool", .base (.bl _), kit_ty (by decide +kernel), rfl, true, rfl, iteT ?_⟩
    refine ⟨_, rfl, _, rfl, rfl, ?_⟩
    show Q (.bl (decide (V.bl z = V.bl z))) _
    rw [decide_eq_true rfl]
    exact k _ (same_new htp _)
  | int z =>
    cases hx
    cases hy
    refine ⟨_, rfl, (by show 2 ≤ sizeLine; decide), fun tp htp => ⟨_, tp, _, _, us2, false, rfl, upd_same, cls2, .base (.int _), kit2 (b1 := false) (b2 := false) (by decide +kernel) (by decide +kernel) rfl, false, rfl, iteF ?_⟩⟩
    refine ⟨_, rfl, _, rfl, iteF ?_⟩
    refine ⟨_, rfl, _, _, _, _, false, rfl, .ty "str", .base (.int _), kit_ty (by decide +kernel), false, rfl, iteF ?_⟩
    refine ⟨_, rfl, _, _, _, _, true, rfl, .ty "int", .base (.int _), kit_ty (by decide +kernel), true, rfl, iteT ?_⟩
    refine ⟨_, rfl, _, _, _, _, false, rfl, .ty "bool", .base (.int _), kit_ty (by decide +kernel), _, rfl, _, _, _, _, false, rfl, .ty "bool", .base (.int _), kit_ty (by decide +kernel), rfl, true, rfl, iteT ?_⟩
    refine ⟨_, rfl, _, rfl, rfl, ?_⟩
    show Q (.bl (decide (V.int z = V.int z))) _
    rw [decide_eq_true rfl]
    exact k _ (same_new htp _)
theorem ok_alk {f : Addr} {fd : FuncData} (F : Fun K "_law_alike" "_law_alike" S__law_alike f fd) (T : Blt mg) (mI : mg "_law_alike" = some (.ref f)) (bI : Binds K fd ["found", "due"] []) :
    ∀ n : Nat, FnOk P w K mg base CX0 n f fd ["found", "due"] (spAlk K n)
  | 0 => by
    have no : ∀ vs H Q E, ¬ spAlk K 0 vs H Q E := fun vs H Q E h => by
      obtain ⟨x, y, d, _, _, _, h1, _⟩ := h
      omega
    exact ⟨fun vs H Q E h => absurd h (no vs H Q E), fun A outer s H args us vs Q E _ _ _ _ h => absurd h (no vs H Q E)⟩
  | n + 1 => ok_alk1 F T (ok_alk F T mI bI n) mI bI
end
end KD

/-! The grammar of point 4 over words, and the texts with the fewest brackets (point 5). -/
namespace KD
open PySem L2 TL
open K0 (num)
def Bi.lv : Bi → Nat
  | .or => 0 | .and => 1 | .lt => 2 | .le => 2 | .eq => 2 | .ne => 2 | .add => 3 | .sub => 3 | .mul => 4 | .div => 4 | .mod => 4 | .black => 5
/-- words ts are the expression e of a level: 0 or, 1 and, 2 comparisons and not, 3 sums, 4 products, 5 parts -/
inductive G : Nat → Nat → Ex → List Tk → Prop
  | num {d : Nat} (n : Nat) : G d 5 (.num n) [("number", num n)]
  | name {d : Nat} (x : Str) : G d 5 (.name x) [kN x]
  | rows {d : Nat} : G d 5 .rows [kK "rows"]
  | cols {d : Nat} : G d 5 .cols [kK "cols"]
  | black {d : Nat} {a b : Ex} {ta tb : List Tk} : G d 0 a ta → G d 0 b tb → G (d + 1) 5 (.bin .black a b) ([kK "black", kM "("] ++ ta ++ [kM ","] ++ tb ++ [kM ")"])
  | neg {d : Nat} {a : Ex} {ta : List Tk} : G d 5 a ta → G (d + 1) 5 (.un .neg a) (kM "-" :: ta)
  | par {d : Nat} {a : Ex} {ta : List Tk} : G d 0 a ta → G (d + 1) 5 a ([kM "("] ++ ta ++ [kM ")"])
  | not {d : Nat} {a : Ex} {ta : List Tk} : G d 2 a ta → G (d + 1) 2 (.un .not a) (kK "not" :: ta)
  | cmp {d : Nat} {o : Bi} {a b : Ex} {ta tb : List Tk} : o.lv = 2 → G d 3 a ta → G d 3 b tb → G d 2 (.bin o a b) (ta ++ [o.tk] ++ tb)
  | left {d : Nat} {o : Bi} {a b : Ex} {ta tb : List Tk} : o.lv < 5 → o.lv ≠ 2 → G d o.lv a ta → G d (o.lv + 1) b tb → G d o.lv (.bin o a b) (ta ++ [o.tk] ++ tb)
  | up {d l : Nat} {a : Ex} {ta : List Tk} : G d (l + 1) a ta → G d l a ta
theorem G.mono {d l : Nat} {e : Ex} {t : List Tk} (h : G d l e t) : ∀ {d' : Nat}, d ≤ d' → G d' l e t := by
  induction h with
  | num n => exact fun _ => .num n
  | name x => exact fun _ => .name x
  | rows => exact fun _ => .rows
  | cols => exact fun _ => .cols
  | black _ _ i1 i2 =>
    intro d' hd
    obtain ⟨k, rfl⟩ : ∃ k, d' = k + 1 := ⟨d' - 1, by omega⟩
    exact .black (i1 (by omega)) (i2 (by omega))
  | neg _ i1 =>
    intro d' hd
    obtain ⟨k, rfl⟩ : ∃ k, d' = k + 1 := ⟨d' - 1, by omega⟩
    exact .neg (i1 (by omega))
  | par _ i1 =>
    intro d' hd
    obtain ⟨k, rfl⟩ : ∃ k, d' = k + 1 := ⟨d' - 1, by omega⟩
    exact .par (i1 (by omega))
  | not _ i1 =>
    intro d' hd
    obtain ⟨k, rfl⟩ : ∃ k, d' = k + 1 := ⟨d' - 1, by omega⟩
    exact .not (i1 (by omega))
  | cmp ho _ _ i1 i2 => exact fun hd => .cmp ho (i1 hd) (i2 hd)
  | left h1 h2 _ _ i1 i2 => exact fun hd => .left h1 h2 (i1 hd) (i2 hd)
  | up _ i1 => exact fun hd => .up (i1 hd)
theorem G.down {d : Nat} {a : Ex} {ta : List Tk} : ∀ {k l : Nat}, G d (l + k) a ta → G d l a ta
  | 0, l, h => h
  | k + 1, l, h => G.down (k := k) (.up (by rw [Nat.add_assoc]; exact h))
theorem G.le {d l m : Nat} {a : Ex} {ta : List Tk} (h : G d m a ta) (hl : l ≤ m) : G d l a ta := by
  obtain ⟨k, rfl⟩ := Nat.exists_eq_add_of_le hl
  exact G.down h
/-- a bracketed text's words are an expression -/
theorem G.tk : ∀ (e : Ex) (d : Nat), 3 * dpE e ≤ d → G d 5 e (tkE e)
  | .num n, _, _ => .num n
  | .name x, _, _ => .name x
  | .rows, _, _ => .rows
  | .cols, _, _ => .cols
  | .un .neg a, d, h => by
    have e : tkE (.un .neg a) = [kM "("] ++ (kM "-" :: ([kM "("] ++ tkE a ++ [kM ")"])) ++ [kM ")"] := by
      show [kM "(", kM "-", kM "("] ++ tkE a ++ [kM ")", kM ")"] = _
      simp
    rw [e]
    have h' : 3 * (dpE a + 1) ≤ d := h
    obtain ⟨k, rfl⟩ : ∃ k, d = k + 3 := ⟨d - 3, by omega⟩
    exact G.par (d := k + 2) ((G.neg (d := k + 1) (.par (d := k) ((G.tk a k (by omega)).le (by decide)))).le (by decide))
  | .un .not a, d, h => by
    have e : tkE (.un .not a) = [kM "("] ++ (kK "not" :: ([kM "("] ++ tkE a ++ [kM ")"])) ++ [kM ")"] := by
      show [kM "(", kK "not", kM "("] ++ tkE a ++ [kM ")", kM ")"] = _
      simp
    rw [e]
    have h' : 3 * (dpE a + 1) ≤ d := h
    obtain ⟨k, rfl⟩ : ∃ k, d = k + 3 := ⟨d - 3, by omega⟩
    exact G.par (d := k + 2) ((G.not (d := k + 1) ((G.par (d := k) ((G.tk a k (by omega)).le (by decide))).le (by decide))).le (by decide))
  | .bin o a b, d, h => by
    have h' : 3 * (max (dpE a) (dpE b) + 1) ≤ d := h
    obtain ⟨k, rfl⟩ : ∃ k, d = k + 1 := ⟨d - 1, by omega⟩
    have ga := G.tk a k (by omega)
    have gb := G.tk b k (by omega)
    by_cases hb : o = .black
    · subst hb
      exact .black (ga.le (by decide)) (gb.le (by decide))
    · have e : tkE (.bin o a b) = [kM "("] ++ (tkE a ++ [o.tk] ++ tkE b) ++ [kM ")"] := by
        have e1 : tkE (.bin o a b) = [kM "("] ++ tkE a ++ [o.tk] ++ tkE b ++ [kM ")"] := by
          cases o with
          | black => exact absurd rfl hb
          | _ => rfl
        rw [e1]
        simp
      rw [e]
      refine .par ?_
      have hlt : o.lv < 5 := by
        cases o with
        | black => exact absurd rfl hb
        | _ => decide
      by_cases h2 : o.lv = 2
      · exact (G.cmp h2 (ga.le (by decide)) (gb.le (by decide))).le (by decide)
      · exact (G.left hlt h2 (ga.le (by omega)) (gb.le (by omega))).le (Nat.zero_le _)
/-! ### expressions, statements, blocks, programs over words -/
/-- the nests that an expression of a statement may have -/
abbrev GE (e : Ex) (t : List Tk) : Prop := G 10 0 e t
inductive GEs : List Ex → List Tk → Prop
  | nil : GEs [] []
  | one {e : Ex} {t : List Tk} : GE e t → GEs [e] t
  | more {e f : Ex} {es : List Ex} {t ts : List Tk} : GE e t → GEs (f :: es) ts → GEs (e :: f :: es) (t ++ [kM ","] ++ ts)
mutual
/-- words of a statement whose blocks nest at most so deep -/
inductive GS : Nat → St → List Tk → Prop
  | row {d : Nat} {e : Ex} {t : List Tk} : GE e t → GS d (.row e) (kK "row" :: t)
  | col {d : Nat} {e : Ex} {t : List Tk} : GE e t → GS d (.col e) (kK "col" :: t)
  | say {d : Nat} {e : Ex} {t : List Tk} : GE e t → GS d (.say e) (kK "say" :: t)
  | set {d : Nat} {x : Str} {e : Ex} {t : List Tk} : GE e t → GS d (.set x e) ([kK "let", kN x, kM "="] ++ t)
  | ite0 {d : Nat} {c : Ex} {a : List St} {t ta : List Tk} : GE c t → GB d a ta → GS (d + 1) (.ite c a []) ([kK "if"] ++ t ++ [kM "{"] ++ ta ++ [kM "}"])
  | ite {d : Nat} {c : Ex} {a b : List St} {t ta tb : List Tk} : GE c t → GB d a ta → GB d b tb → GS (d + 1) (.ite c a b) ([kK "if"] ++ t ++ [kM "{"] ++ ta ++ [kM "}", kK "else", kM "{"] ++ tb ++ [kM "}"])
  | whl {d : Nat} {c : Ex} {a : List St} {t ta : List Tk} : GE c t → GB d a ta → GS (d + 1) (.whl c a) ([kK "while"] ++ t ++ [kM "{"] ++ ta ++ [kM "}"])
  | for_ {d : Nat} {x : Str} {c e : Ex} {s : List St} {t u ts : List Tk} : GE c t → GE e u → GB d s ts → GS (d + 1) (.for_ x c e s) ([kK "for", kN x, kM "="] ++ t ++ [kK "to"] ++ u ++ [kM "{"] ++ ts ++ [kM "}"])
  | call {d : Nat} {f : Str} {es : List Ex} {t : List Tk} : GEs es t → GS d (.call f es) ([kK "do", kN f, kM "("] ++ t ++ [kM ")"])
  | stop {d : Nat} : GS d .stop [kK "stop"]
inductive GB : Nat → List St → List Tk → Prop
  | nil {d : Nat} : GB d [] []
  | cons {d : Nat} {s : St} {b : List St} {t ts : List Tk} : GS d s t → GB d b ts → GB d (s :: b) (t ++ ts)
end
inductive GD : Nat → List Df → List Tk → Prop
  | nil {d : Nat} : GD d [] []
  | cons {d : Nat} {f : Df} {fs : List Df} {t ts : List Tk} : GB d f.body t → GD d fs ts → GD d (f :: fs) ([kK "def", kN f.name, kM "("] ++ tkNs f.args ++ [kM ")", kM "{"] ++ t ++ [kM "}"] ++ ts)
/-- words of a program -/
def GP (p : Pr) (ws : List Tk) : Prop := ∃ t u, GD 3 p.defs t ∧ GB 3 p.body u ∧ ws = t ++ u
theorem GEs.tk : ∀ es : List Ex, (∀ e ∈ es, dpE e ≤ 3) → GEs es (tkEs es)
  | [], _ => .nil
  | [e], h => .one ((G.tk e 10 (by have := h e List.mem_cons_self; omega)).le (by decide))
  | e :: f :: es, h => .more ((G.tk e 10 (by have := h e List.mem_cons_self; omega)).le (by decide)) (GEs.tk (f :: es) fun x hx => h x (List.mem_cons_of_mem _ hx))
theorem GE.tk {e : Ex} (h : dpE e ≤ 2) : GE e (tkE e) := (G.tk e 10 (by omega)).le (by decide)
mutual
theorem GS.tk {ds : List (Str × Nat)} : ∀ (n : Nat) (ns : List Str) (s : St), okS ds n ns s → GS n s (tkS s)
  | n, ns, .row e, h => by unfold okS at h; exact .row (GE.tk (by omega))
  | n, ns, .col e, h => by unfold okS at h; exact .col (GE.tk (by omega))
  | n, ns, .say e, h => by unfold okS at h; exact .say (GE.tk (by omega))
  | n, ns, .set x e, h => by unfold okS at h; exact .set (GE.tk (by omega))
  | n + 1, ns, .ite c a [], h => by
    unfold okS at h
    have h := GS.ite0 (GE.tk (e := c) (by omega)) (GB.tk n ns a h.2.2.1.2)
    have e : tkS (.ite c a []) = [kK "if"] ++ tkE c ++ [kM "{"] ++ tkB a ++ [kM "}"] := by
      show [kK "if"] ++ tkE c ++ [kM "{"] ++ tkB a ++ [kM "}"] ++ [] = _
      simp
    rw [e]
    exact h
  | n + 1, ns, .ite c a (s :: r), h => by
    unfold okS at h
    have h := GS.ite (GE.tk (e := c) (by omega)) (GB.tk n ns a h.2.2.1.2) (GB.tk n ns (s :: r) h.2.2.2.2)
    have e : tkS (.ite c a (s :: r)) = [kK "if"] ++ tkE c ++ [kM "{"] ++ tkB a ++ [kM "}", kK "else", kM "{"] ++ tkB (s :: r) ++ [kM "}"] := by
      show [kK "if"] ++ tkE c ++ [kM "{"] ++ tkB a ++ [kM "}"] ++ ([kK "else", kM "{"] ++ (tkS s ++ tkB r) ++ [kM "}"]) = _
      show _ = [kK "if"] ++ tkE c ++ [kM "{"] ++ tkB a ++ [kM "}", kK "else", kM "{"] ++ (tkS s ++ tkB r) ++ [kM "}"]
      simp
    rw [e]
    exact h
  | n + 1, ns, .whl c a, h => by unfold okS at h; exact .whl (GE.tk (by omega)) (GB.tk n ns a h.2.2.2)
  | n + 1, ns, .for_ x a b s, h => by unfold okS at h; exact .for_ (GE.tk (by omega)) (GE.tk (by omega)) (GB.tk n _ s h.2.2.2.2)
  | n + 1, ns, .call f es, h => by unfold okS at h; exact .call (GEs.tk es fun e he => by have := (h.2 e he).2; omega)
  | n + 1, ns, .stop, h => .stop
  | 0, ns, .ite _ _ _, h => by unfold okS at h; exact h.elim
  | 0, ns, .whl _ _, h => by unfold okS at h; exact h.elim
  | 0, ns, .for_ _ _ _ _, h => by unfold okS at h; exact h.elim
  | 0, ns, .call _ _, h => by unfold okS at h; exact h.elim
  | 0, ns, .stop, h => by unfold okS at h; exact h.elim
theorem GB.tk {ds : List (Str × Nat)} : ∀ (n : Nat) (ns : List Str) (b : List St), okB ds n ns b → GB n b (tkB b)
  | n, ns, [], _ => .nil
  | n, ns, s :: b, h => by unfold okB at h; exact .cons (GS.tk n ns s h.1) (GB.tk n _ b h.2)
end
mutual
theorem GS.mono : ∀ {d d' : Nat} {s : St} {t : List Tk}, GS d s t → d ≤ d' → GS d' s t
  | _, _, _, _, .row h, _ => .row h
  | _, _, _, _, .col h, _ => .col h
  | _, _, _, _, .say h, _ => .say h
  | _, _, _, _, .set h, _ => .set h
  | d + 1, 0, _, _, .ite0 _ _, q => absurd q (by omega)
  | d + 1, d' + 1, _, _, .ite0 h a, q => .ite0 h (GB.mono a (by omega))
  | d + 1, 0, _, _, .ite _ _ _, q => absurd q (by omega)
  | d + 1, d' + 1, _, _, .ite h a b, q => .ite h (GB.mono a (by omega)) (GB.mono b (by omega))
  | d + 1, 0, _, _, .whl _ _, q => absurd q (by omega)
  | d + 1, d' + 1, _, _, .whl h a, q => .whl h (GB.mono a (by omega))
  | d + 1, 0, _, _, .for_ _ _ _, q => absurd q (by omega)
  | d + 1, d' + 1, _, _, .for_ h h2 a, q => .for_ h h2 (GB.mono a (by omega))
  | _, _, _, _, .call h, _ => .call h
  | _, _, _, _, .stop, _ => .stop
theorem GB.mono : ∀ {d d' : Nat} {b : List St} {t : List Tk}, GB d b t → d ≤ d' → GB d' b t
  | _, _, _, _, .nil, _ => .nil
  | _, _, _, _, .cons h b, q => .cons (GS.mono h q) (GB.mono b q)
end
theorem GD.tk : ∀ (fs : List Df), (∀ f ∈ fs, GB 3 f.body (tkB f.body)) → GD 3 fs (tkDs fs)
  | [], _ => .nil
  | f :: fs, h => .cons (h f List.mem_cons_self) (GD.tk fs fun x hx => h x (List.mem_cons_of_mem _ hx))
/-! ### the fewest brackets -/
def parT (c : Bool) (t : List Tk) : List Tk := if c then [kM "("] ++ t ++ [kM ")"] else t
def parX (c : Bool) (t : Str) : Str := if c then "(" ++ t ++ ")" else t
/-- the level that the left side of a mark wants -/
def Bi.ll (o : Bi) : Nat := if o.lv = 2 then 3 else o.lv
def tkX : Ex → Nat → List Tk
  | .num n, _ => [("number", num n)]
  | .name x, _ => [kN x]
  | .rows, _ => [kK "rows"]
  | .cols, _ => [kK "cols"]
  | .un .neg a, _ => kM "-" :: tkX a 5
  | .un .not a, l => parT (decide (2 < l)) (kK "not" :: tkX a 2)
  | .bin .black a b, _ => [kK "black", kM "("] ++ tkX a 0 ++ [kM ","] ++ tkX b 0 ++ [kM ")"]
  | .bin o a b, l => parT (decide (o.lv < l)) (tkX a o.ll ++ [o.tk] ++ tkX b (o.lv + 1))
def shX : Ex → Nat → Str
  | .num n, _ => num n
  | .name x, _ => x
  | .rows, _ => "rows"
  | .cols, _ => "cols"
  | .un .neg a, _ => "-" ++ shX a 5
  | .un .not a, l => parX (decide (2 < l)) ("not " ++ shX a 2)
  | .bin .black a b, _ => "black(" ++ shX a 0 ++ ", " ++ shX b 0 ++ ")"
  | .bin o a b, l => parX (decide (o.lv < l)) (shX a o.ll ++ " " ++ o.w ++ " " ++ shX b (o.lv + 1))
theorem tkX_bin {o : Bi} (h : o ≠ .black) (a b : Ex) (l : Nat) : tkX (.bin o a b) l = parT (decide (o.lv < l)) (tkX a o.ll ++ [o.tk] ++ tkX b (o.lv + 1)) := by
  cases o with
  | black => exact absurd rfl h
  | _ => rfl
theorem shX_bin {o : Bi} (h : o ≠ .black) (a b : Ex) (l : Nat) : shX (.bin o a b) l = parX (decide (o.lv < l)) (shX a o.ll ++ " " ++ o.w ++ " " ++ shX b (o.lv + 1)) := by
  cases o with
  | black => exact absurd rfl h
  | _ => rfl
theorem G.ofPar {c : Bool} {d l m : Nat} {e : Ex} {t : List Tk} (h : G d m e t) (hc : c = false → l ≤ m) (hl : l ≤ 5) : G (d + 1) l e (parT c t) := by
  cases c with
  | true => exact (G.par (h.le (Nat.zero_le _))).le hl
  | false => exact (h.mono (Nat.le_succ d)).le (hc rfl)
theorem G.tkX : ∀ (e : Ex) (l : Nat), l ≤ 5 → ∀ d, 2 * dpE e ≤ d → G d l e (tkX e l)
  | .num n, l, h, d, _ => (G.num n).le h
  | .name x, l, h, d, _ => (G.name x).le h
  | .rows, l, h, d, _ => G.rows.le h
  | .cols, l, h, d, _ => G.cols.le h
  | .un .neg a, l, h, d, q => by
    have q' : 2 * (dpE a + 1) ≤ d := q
    obtain ⟨k, rfl⟩ : ∃ k, d = k + 1 := ⟨d - 1, by omega⟩
    exact (G.neg (G.tkX a 5 (by decide) k (by omega))).le h
  | .un .not a, l, h, d, q => by
    have q' : 2 * (dpE a + 1) ≤ d := q
    obtain ⟨k, rfl⟩ : ∃ k, d = k + 2 := ⟨d - 2, by omega⟩
    exact (G.not (d := k) (G.tkX a 2 (by decide) k (by omega))).ofPar (fun q => by have := of_decide_eq_false q; omega) h
  | .bin o a b, l, h, d, q => by
    have q' : 2 * (max (dpE a) (dpE b) + 1) ≤ d := q
    obtain ⟨k, rfl⟩ : ∃ k, d = k + 1 := ⟨d - 1, by omega⟩
    by_cases hb : o = .black
    · subst hb
      exact (G.black (G.tkX a 0 (by decide) k (by omega)) (G.tkX b 0 (by decide) k (by omega))).le h
    · rw [tkX_bin hb]
      have hlt : o.lv < 5 := by
        cases o with
        | black => exact absurd rfl hb
        | _ => decide
      have g : G k o.lv (.bin o a b) (KD.tkX a o.ll ++ [o.tk] ++ KD.tkX b (o.lv + 1)) := by
        by_cases h2 : o.lv = 2
        · have e1 : o.ll = 3 := by unfold Bi.ll; rw [if_pos h2]
          have e2 : o.lv + 1 = 3 := by omega
          have ga := G.tkX a o.ll (by rw [e1]; decide) k (by omega)
          have gb := G.tkX b (o.lv + 1) (by rw [e2]; decide) k (by omega)
          rw [e1] at ga ⊢
          rw [e2] at gb ⊢
          have q := G.cmp h2 ga gb
          rw [h2]
          exact q
        · have e1 : o.ll = o.lv := by unfold Bi.ll; rw [if_neg h2]
          have ga := G.tkX a o.ll (by omega) k (by omega)
          have gb := G.tkX b (o.lv + 1) (by omega) k (by omega)
          rw [e1] at ga ⊢
          exact G.left hlt h2 ga gb
      exact g.ofPar (fun q => by have := of_decide_eq_false q; omega) h
end KD

/-! Programs printed anew: the lines, their words. -/
namespace KD
open PySem L2 TL
open K0 (num Toks)
theorem PartT.bin {X X2 : Str} {ws ws2 : List Tk} {o : Bi} (hX : PartT X ws) (hX2 : PartT X2 ws2) : PartT (X ++ " " ++ o.w ++ " " ++ X2) (ws ++ [o.tk] ++ ws2) := by
  obtain ⟨c, r, e, hc⟩ := hX.hd
  refine ⟨⟨c, r ++ tl ((" " : Str) ++ (o.w ++ ((" " : Str) ++ X2))), ?_, hc⟩, fun {T us f} j q => ?_⟩
  · rw [← assocS, ← assocS, ← assocS, tl_append, e]
    rfl
  · have q1 : Fol f (tl X) := by
      rw [← assocS, ← assocS, ← assocS, tl_append, e] at q
      rw [e]
      exact q
    have j1 := hX.seg j q1
    have j2 := JS.lit [.bl " ", o.lw, .bl " "] j1 o.lit
    rw [o.litF] at j2
    have j3 := hX2.seg j2 (hX2.fol (.inr rfl))
    have e1 : T ++ X ++ litT [.bl " ", o.lw, .bl " "] ++ X2 = T ++ (X ++ " " ++ o.w ++ " " ++ X2) := by
      show T ++ X ++ ((" " : Str) ++ (o.tk.2 ++ ((" " : Str) ++ ("" : Str)))) ++ X2 = _
      rw [nilS, Bi.tk_w]
      simp only [assocS]
    have e2 : us ++ ws ++ litW [.bl " ", o.lw, .bl " "] ++ ws2 = us ++ (ws ++ [o.tk] ++ ws2) := by
      show us ++ ws ++ [o.tk] ++ ws2 = _
      simp
    rw [e1, e2] at j3
    exact j3
theorem PartT.brk {c : Bool} {X : Str} {ws : List Tk} (h : PartT X ws) : PartT (parX c X) (parT c ws) := by
  cases c with
  | false => exact h
  | true =>
    have q := PartT.one (ps := []) (qs := [.wd "mark" ")"]) (k0 := "mark") (w0 := "(") (Y := ("(" : Str) ++ X ++ ")") h (by rw [← assocS, show litT [.wd "mark" ")"] = (")" : Str) by decide +kernel, show litT [] = ("" : Str) from rfl]; apply ext_tl; simp only [tl_append, show tl ("" : Str) = [] by decide +kernel, List.nil_append]) (Wd.mark (by decide +kernel)) (Fol.ofB (by decide +kernel)) rfl (.inl rfl) (by decide +kernel)
    have e : parT true ws = (("mark", "(") : Tk) :: (litW [] ++ (ws ++ litW [.wd "mark" ")"])) := by
      show [kM "("] ++ ws ++ [kM ")"] = kM "(" :: ([] ++ (ws ++ [kM ")"]))
      simp
    rw [e]
    exact q
theorem PartT.sh : ∀ {e : Ex} {l : Nat}, wfE e → PartT (shX e l) (tkX e l)
  | .num n, l, h => PartT.numb h
  | .name x, l, h => PartT.name h
  | .rows, l, h => PartT.key (x := "rows") (by decide +kernel)
  | .cols, l, h => PartT.key (x := "cols") (by decide +kernel)
  | .un .neg a, l, h => by
    have hX := PartT.sh (e := a) (l := 5) h
    have q := PartT.one (ps := []) (qs := []) (k0 := "mark") (w0 := "-") (Y := ("-" : Str) ++ shX a 5) hX (by rw [show litT [] = ("" : Str) from rfl, nilS]; apply ext_tl; simp only [tl_append, show tl ("" : Str) = [] by decide +kernel, List.nil_append]) (Wd.mark (by decide +kernel)) (Fol.ofB (by decide +kernel)) rfl (.inl rfl) rfl
    have e : tkX (.un .neg a) l = (("mark", "-") : Tk) :: (litW [] ++ (tkX a 5 ++ litW [])) := by
      show kM "-" :: tkX a 5 = kM "-" :: ([] ++ (tkX a 5 ++ []))
      simp
    rw [e]
    exact q
  | .un .not a, l, h => by
    have hX := PartT.sh (e := a) (l := 2) h
    have q := PartT.one (ps := [.bl " "]) (qs := []) (k0 := "key") (w0 := "not") (Y := ("not " : Str) ++ shX a 2) hX (by rw [show litT [] = ("" : Str) from rfl, nilS, assocS, show ("not" : Str) ++ litT [.bl " "] = ("not " : Str) by decide +kernel]) (Wd.key (by decide +kernel)) (Fol.ofB (by decide +kernel)) (by decide +kernel) (.inr rfl) rfl
    have e : kK "not" :: tkX a 2 = (("key", "not") : Tk) :: (litW [.bl " "] ++ (tkX a 2 ++ litW [])) := by
      show kK "not" :: tkX a 2 = kK "not" :: ([] ++ (tkX a 2 ++ []))
      simp
    have q2 : PartT (("not " : Str) ++ shX a 2) (kK "not" :: tkX a 2) := by rw [e]; exact q
    exact PartT.brk q2
  | .bin o a b, l, h => by
    by_cases hb : o = .black
    · subst hb
      have q := PartT.two (ps := [.wd "mark" "("]) (qs := [.wd "mark" ",", .bl " "]) (rs := [.wd "mark" ")"]) (k0 := "key") (w0 := "black") (Y := ("black(" : Str) ++ shX a 0 ++ ", " ++ shX b 0 ++ ")") (PartT.sh (e := a) (l := 0) h.1) (PartT.sh (e := b) (l := 0) h.2) (by rw [assocS, assocS, assocS, assocS, show ("black" : Str) ++ litT [.wd "mark" "("] = ("black(" : Str) by decide +kernel, show litT [.wd "mark" ",", .bl " "] = (", " : Str) by decide +kernel, show litT [.wd "mark" ")"] = (")" : Str) by decide +kernel]) (Wd.key (by decide +kernel)) (Fol.ofB (by decide +kernel)) (by decide +kernel) (.inl rfl) (by decide +kernel) (.inr rfl) (by decide +kernel)
      have e : tkX (.bin .black a b) l = (("key", "black") : Tk) :: (litW [.wd "mark" "("] ++ (tkX a 0 ++ (litW [.wd "mark" ",", .bl " "] ++ (tkX b 0 ++ litW [.wd "mark" ")"])))) := by
        show [kK "black", kM "("] ++ tkX a 0 ++ [kM ","] ++ tkX b 0 ++ [kM ")"] = kK "black" :: ([kM "("] ++ (tkX a 0 ++ ([kM ","] ++ (tkX b 0 ++ [kM ")"]))))
        simp
      rw [e]
      exact q
    · rw [tkX_bin hb, shX_bin hb]
      exact PartT.brk (PartT.bin (PartT.sh h.1) (PartT.sh h.2))
/-! ### lines -/
def joinC : List Str → Str := Str.join ", "
mutual
def lnS : St → Str → List Str
  | .row e, g => [g ++ "row" ++ " " ++ shX e 0]
  | .col e, g => [g ++ "col" ++ " " ++ shX e 0]
  | .say e, g => [g ++ "say" ++ " " ++ shX e 0]
  | .set x e, g => [g ++ "let " ++ x ++ " = " ++ shX e 0]
  | .ite c a [], g => [g ++ "if" ++ " " ++ shX c 0 ++ " {"] ++ lnB a (g ++ "  ") ++ [g ++ "}"]
  | .ite c a (s :: r), g => [g ++ "if" ++ " " ++ shX c 0 ++ " {"] ++ lnB a (g ++ "  ") ++ [g ++ "} else {"] ++ (lnS s (g ++ "  ") ++ lnB r (g ++ "  ")) ++ [g ++ "}"]
  | .whl c a, g => [g ++ "while" ++ " " ++ shX c 0 ++ " {"] ++ lnB a (g ++ "  ") ++ [g ++ "}"]
  | .for_ x a b s, g => [g ++ ("for " ++ x ++ " = " ++ shX a 0 ++ " to " ++ shX b 0) ++ " {"] ++ lnB s (g ++ "  ") ++ [g ++ "}"]
  | .call f es, g => [g ++ "do " ++ f ++ "(" ++ joinC (es.map fun e => shX e 0) ++ ")"]
  | .stop, g => [g ++ "stop"]
def lnB : List St → Str → List Str
  | [], _ => []
  | s :: b, g => lnS s g ++ lnB b g
end
def lnDs : List Df → List Str
  | [] => []
  | f :: fs => ["def " ++ f.name ++ "(" ++ joinC f.args ++ ") {"] ++ lnB f.body "  " ++ [("}" : Str)] ++ lnDs fs
def tidyT (p : Pr) : Str := Str.join "\n" (lnDs p.defs ++ lnB p.body "")
/-! ### their words -/
def tkEsx : List Ex → List Tk
  | [] => []
  | [e] => tkX e 0
  | e :: es => tkX e 0 ++ [kM ","] ++ tkEsx es
mutual
def tkSx : St → List Tk
  | .row e => kK "row" :: tkX e 0
  | .col e => kK "col" :: tkX e 0
  | .say e => kK "say" :: tkX e 0
  | .set x e => [kK "let", kN x, kM "="] ++ tkX e 0
  | .ite c a [] => [kK "if"] ++ tkX c 0 ++ [kM "{"] ++ tkBx a ++ [kM "}"]
  | .ite c a (s :: r) => [kK "if"] ++ tkX c 0 ++ [kM "{"] ++ tkBx a ++ [kM "}", kK "else", kM "{"] ++ (tkSx s ++ tkBx r) ++ [kM "}"]
  | .whl c a => [kK "while"] ++ tkX c 0 ++ [kM "{"] ++ tkBx a ++ [kM "}"]
  | .for_ x a b s => [kK "for", kN x, kM "="] ++ tkX a 0 ++ [kK "to"] ++ tkX b 0 ++ [kM "{"] ++ tkBx s ++ [kM "}"]
  | .call f es => [kK "do", kN f, kM "("] ++ tkEsx es ++ [kM ")"]
  | .stop => [kK "stop"]
def tkBx : List St → List Tk
  | [] => []
  | s :: b => tkSx s ++ tkBx b
end
def tkDsx : List Df → List Tk
  | [] => []
  | f :: fs => [kK "def", kN f.name, kM "("] ++ tkNs f.args ++ [kM ")", kM "{"] ++ tkBx f.body ++ [kM "}"] ++ tkDsx fs
def tkPx (p : Pr) : List Tk := tkDsx p.defs ++ tkBx p.body
theorem GE.x {e : Ex} (h : dpE e ≤ 5) : GE e (tkX e 0) := G.tkX e 0 (by decide) 10 (by omega)
theorem GEs.x : ∀ es : List Ex, (∀ e ∈ es, dpE e ≤ 5) → GEs es (tkEsx es)
  | [], _ => .nil
  | [e], h => .one (GE.x (h e List.mem_cons_self))
  | e :: f :: es, h => .more (GE.x (h e List.mem_cons_self)) (GEs.x (f :: es) fun x hx => h x (List.mem_cons_of_mem _ hx))
mutual
theorem GS.x {ds : List (Str × Nat)} : ∀ (n : Nat) (ns : List Str) (s : St), okS ds n ns s → GS n s (tkSx s)
  | n, ns, .row e, h => by unfold okS at h; exact .row (GE.x (by omega))
  | n, ns, .col e, h => by unfold okS at h; exact .col (GE.x (by omega))
  | n, ns, .say e, h => by unfold okS at h; exact .say (GE.x (by omega))
  | n, ns, .set x e, h => by unfold okS at h; exact .set (GE.x (by omega))
  | n + 1, ns, .ite c a [], h => by
    unfold okS at h
    exact .ite0 (GE.x (by omega)) (GB.x n ns a h.2.2.1.2)
  | n + 1, ns, .ite c a (s :: r), h => by
    unfold okS at h
    exact .ite (GE.x (by omega)) (GB.x n ns a h.2.2.1.2) (GB.x n ns (s :: r) h.2.2.2.2)
  | n + 1, ns, .whl c a, h => by unfold okS at h; exact .whl (GE.x (by omega)) (GB.x n ns a h.2.2.2)
  | n + 1, ns, .for_ x a b s, h => by unfold okS at h; exact .for_ (GE.x (by omega)) (GE.x (by omega)) (GB.x n _ s h.2.2.2.2)
  | n + 1, ns, .call f es, h => by unfold okS at h; exact .call (GEs.x es fun e he => by have := (h.2 e he).2; omega)
  | n + 1, ns, .stop, h => .stop
  | 0, ns, .ite _ _ _, h => by unfold okS at h; exact h.elim
  | 0, ns, .whl _ _, h => by unfold okS at h; exact h.elim
  | 0, ns, .for_ _ _ _ _, h => by unfold okS at h; exact h.elim
  | 0, ns, .call _ _, h => by unfold okS at h; exact h.elim
  | 0, ns, .stop, h => by unfold okS at h; exact h.elim
theorem GB.x {ds : List (Str × Nat)} : ∀ (n : Nat) (ns : List Str) (b : List St), okB ds n ns b → GB n b (tkBx b)
  | n, ns, [], _ => .nil
  | n, ns, s :: b, h => by unfold okB at h; exact .cons (GS.x n ns s h.1) (GB.x n _ b h.2)
end
theorem GD.x : ∀ fs : List Df, (∀ f ∈ fs, GB 3 f.body (tkBx f.body)) → GD 3 fs (tkDsx fs)
  | [], _ => .nil
  | f :: fs, h => .cons (h f List.mem_cons_self) (GD.x fs fun x hx => h x (List.mem_cons_of_mem _ hx))
/-- a line behind a blank or at the beginning -/
def LineT (l : Str) (ws : List Tk) : Prop := ∀ {T : Str} {us : List Tk}, JS T us .free → ∃ g, JS (T ++ l) (us ++ ws) g
inductive Lts : List Str → List Tk → Prop
  | nil : Lts [] []
  | cons {l : Str} {ls : List Str} {w ws : List Tk} : LineT l w → Lts ls ws → Lts (l :: ls) (w ++ ws)
theorem Lts.append : ∀ {a b : List Str} {v w : List Tk}, Lts a v → Lts b w → Lts (a ++ b) (v ++ w)
  | _, _, _, _, .nil, h => h
  | _, _, _, _, .cons (w := u) (ws := us) h t, q => by
    rw [List.append_assoc]
    exact .cons h (t.append q)
theorem Lts.one {l : Str} {w : List Tk} (h : LineT l w) : Lts [l] w := by
  have q := Lts.cons h .nil
  rw [List.append_nil] at q
  exact q
theorem Lts.joined : ∀ {ls : List Str} {ws : List Tk}, Lts ls ws → ∀ {T : Str} {us : List Tk}, JS T us .free → ∃ g, JS (T ++ Str.join "\n" ls) (us ++ ws) g
  | _, _, .nil, T, us, j => ⟨.free, by
      rw [show Str.join "\n" [] = ("" : Str) from rfl, nilS, List.append_nil]
      exact j⟩
  | _, _, .cons (l := l) (ls := ls) (w := w) (ws := ws) h t, T, us, j => by
    obtain ⟨g, j1⟩ := h j
    cases t with
    | nil => exact ⟨g, by rw [List.append_nil]; exact j1⟩
    | cons h2 t2 =>
      rename_i l2 ls2 w2 ws2
      have j2 := j1.blank (s := "\n") (by decide +kernel)
      obtain ⟨g3, j3⟩ := Lts.joined (.cons h2 t2) j2
      refine ⟨g3, ?_⟩
      have e1 : T ++ Str.join "\n" (l :: l2 :: ls2) = T ++ l ++ "\n" ++ Str.join "\n" (l2 :: ls2) := by
        show T ++ (l ++ "\n" ++ Str.join "\n" (l2 :: ls2)) = _
        rw [assocS, assocS]
      rw [e1, ← List.append_assoc]
      exact j3
/-- spaces ahead of a line -/
def gapB (g : Str) : Prop := g = "" ∨ blS g = true
theorem gapB.more {g : Str} (h : gapB g) : gapB (g ++ "  ") := by
  refine .inr ?_
  rcases h with rfl | h
  · decide +kernel
  · unfold blS at h ⊢
    rw [Bool.and_eq_true] at h
    rw [tl_append, List.all_append, h.1, show tl ("  " : Str) = [32, 32] by decide +kernel]
    cases tl g <;> rfl
theorem JS.gap {T g : Str} {us : List Tk} (j : JS T us .free) (h : gapB g) : JS (T ++ g) us .free := by
  rcases h with rfl | h
  · rw [nilS]; exact j
  · exact j.blank h
theorem LineT.expr {g w : Str} {e : Ex} (hg : gapB g) (hw : w ∈ K0.kws) (he : wfE e) : LineT (g ++ w ++ " " ++ shX e 0) (kK w :: tkX e 0) := fun {T us} j => by
  have hp := PartT.sh (l := 0) he
  have j1 := (((j.gap hg).step (Wd.key hw) (Fol.anyF _)).blank (s := " ") (by decide +kernel))
  have j2 := hp.seg j1 (hp.fol (.inr rfl))
  refine ⟨.both, ?_⟩
  have e1 : T ++ (g ++ w ++ " " ++ shX e 0) = T ++ g ++ w ++ " " ++ shX e 0 := by simp only [assocS]
  have e2 : us ++ (kK w :: tkX e 0) = us ++ [kK w] ++ tkX e 0 := by
    show us ++ (kK w :: tkX e 0) = us ++ [kK w] ++ tkX e 0
    simp
  rw [e1, e2]
  exact j2
theorem LineT.head {g w : Str} {e : Ex} (hg : gapB g) (hw : w ∈ K0.kws) (he : wfE e) : LineT (g ++ w ++ " " ++ shX e 0 ++ " {") (kK w :: (tkX e 0 ++ [kM "{"])) := fun {T us} j => by
  have hp := PartT.sh (l := 0) he
  have j1 := (((j.gap hg).step (Wd.key hw) (Fol.anyF _)).blank (s := " ") (by decide +kernel))
  have j2 := (hp.seg j1 (hp.fol (.inr rfl))).lit2 (X := " {") (vs := [kM "{"]) (g := .mark) [.bl " ", .wd "mark" "{"] (by decide +kernel) rfl (by decide +kernel) rfl
  refine ⟨.mark, ?_⟩
  have e1 : T ++ (g ++ w ++ " " ++ shX e 0 ++ " {") = T ++ g ++ w ++ " " ++ shX e 0 ++ " {" := by simp only [assocS]
  have e2 : us ++ (kK w :: (tkX e 0 ++ [kM "{"])) = us ++ [kK w] ++ tkX e 0 ++ [kM "{"] := by
    show us ++ (kK w :: (tkX e 0 ++ [kM "{"])) = us ++ [kK w] ++ tkX e 0 ++ [kM "{"]
    simp
  rw [e1, e2]
  exact j2
theorem LineT.lit {g X : Str} {vs : List Tk} (hg : gapB g) (ps : List LW) (e : X = litT ps) (hw : litW ps = vs) (ho : litOk .free ps = true) : LineT (g ++ X) vs := fun {T us} j => by
  refine ⟨litF .free ps, ?_⟩
  rw [assocS]
  exact (j.gap hg).lit2 ps e hw ho rfl
theorem JS.exprs : ∀ {es : List Ex} {T : Str} {ws : List Tk} {f : F3}, JS T ws f → (f = .mark ∨ f = .free) → (∀ e ∈ es, eOk e) → ∃ g, (g = f ∨ g = .both) ∧ JS (T ++ joinC (es.map fun e => shX e 0)) (ws ++ tkEsx es) g
  | [], T, ws, f, h, hf, _ => ⟨f, .inl rfl, by
      show JS (T ++ ("" : Str)) (ws ++ []) f
      rw [nilS, List.append_nil]
      exact h⟩
  | [x], T, ws, f, h, hf, hx => by
    have hp := PartT.sh (l := 0) (hx x List.mem_cons_self).1
    exact ⟨.both, .inr rfl, hp.seg h (hp.fol hf)⟩
  | x :: y :: r, T, ws, f, h, hf, hx => by
    have hp := PartT.sh (l := 0) (hx x List.mem_cons_self).1
    have h1 := hp.seg h (hp.fol hf)
    have h2 := h1.lit2 (X := ", ") (vs := [kM ","]) (g := .free) [.wd "mark" ",", .bl " "] (by decide +kernel) rfl (by decide +kernel) rfl
    obtain ⟨g, hg, h3⟩ := JS.exprs (es := y :: r) h2 (.inr rfl) fun z hz => hx z (List.mem_cons_of_mem _ hz)
    refine ⟨.both, .inr rfl, ?_⟩
    have e1 : T ++ joinC ((x :: y :: r).map fun e => shX e 0) = T ++ shX x 0 ++ ", " ++ joinC ((y :: r).map fun e => shX e 0) := by
      show T ++ (shX x 0 ++ ", " ++ joinC ((y :: r).map fun e => shX e 0)) = _
      rw [assocS, assocS]
    have e2 : ws ++ tkEsx (x :: y :: r) = ws ++ tkX x 0 ++ [kM ","] ++ tkEsx (y :: r) := by
      show ws ++ (tkX x 0 ++ [kM ","] ++ tkEsx (y :: r)) = _
      simp
    rw [e1, e2]
    exact h3.both
mutual
theorem Lts.S : ∀ {s : St} {g : Str}, wfS s → gapB g → Lts (lnS s g) (tkSx s)
  | .row e, g, h, hg => .one (LineT.expr hg (by decide +kernel) (by unfold wfS at h; exact h.1))
  | .col e, g, h, hg => .one (LineT.expr hg (by decide +kernel) (by unfold wfS at h; exact h.1))
  | .say e, g, h, hg => .one (LineT.expr hg (by decide +kernel) (by unfold wfS at h; exact h.1))
  | .set x e, g, h, hg => by
    unfold wfS at h
    refine .one fun {T us} j => ?_
    have hp := PartT.sh (l := 0) h.2.1
    have j1 := (((j.gap hg).lit2 (X := "let ") (vs := [kK "let"]) (g := .free) [.wd "key" "let", .bl " "] (by decide +kernel) rfl (by decide +kernel) rfl).step (Wd.nm h.1) (Fol.anyF _)).lit2 (X := " = ") (vs := [kM "="]) (g := .free) [.bl " ", .wd "mark" "=", .bl " "] (by decide +kernel) rfl (by decide +kernel) rfl
    have j2 := hp.seg j1 (hp.fol (.inr rfl))
    refine ⟨.both, ?_⟩
    have e1 : T ++ (g ++ "let " ++ x ++ " = " ++ shX e 0) = T ++ g ++ "let " ++ x ++ " = " ++ shX e 0 := by simp only [assocS]
    have e2 : us ++ ([kK "let", kN x, kM "="] ++ tkX e 0) = us ++ [kK "let"] ++ [kN x] ++ [kM "="] ++ tkX e 0 := by
      show us ++ ([kK "let", kN x, kM "="] ++ tkX e 0) = us ++ [kK "let"] ++ [kN x] ++ [kM "="] ++ tkX e 0
      simp
    rw [e1, show tkSx (.set x e) = [kK "let", kN x, kM "="] ++ tkX e 0 from rfl, e2]
    exact j2
  | .ite c a [], g, h, hg => by
    unfold wfS at h
    have l1 := Lts.one (LineT.head (w := "if") hg (by decide +kernel) h.1.1)
    have l2 := Lts.B (g := g ++ "  ") h.2.1 hg.more
    have l3 := Lts.one (LineT.lit (X := "}") (vs := [kM "}"]) hg [.wd "mark" "}"] (by decide +kernel) rfl (by decide +kernel))
    have q := (l1.append l2).append l3
    have e : tkSx (.ite c a []) = kK "if" :: (tkX c 0 ++ [kM "{"]) ++ tkBx a ++ [kM "}"] := by
      show [kK "if"] ++ tkX c 0 ++ [kM "{"] ++ tkBx a ++ [kM "}"] = _
      simp
    rw [e]
    exact q
  | .ite c a (s :: r), g, h, hg => by
    unfold wfS at h
    have h2 := h.2.2
    unfold wfB at h2
    have l1 := Lts.one (LineT.head (w := "if") hg (by decide +kernel) h.1.1)
    have l2 := Lts.B (g := g ++ "  ") h.2.1 hg.more
    have l3 := Lts.one (LineT.lit (X := "} else {") (vs := [kM "}", kK "else", kM "{"]) hg [.wd "mark" "}", .bl " ", .wd "key" "else", .bl " ", .wd "mark" "{"] (by decide +kernel) rfl (by decide +kernel))
    have l4 := Lts.S (g := g ++ "  ") h2.1 hg.more
    have l5 := Lts.B (g := g ++ "  ") h2.2 hg.more
    have l6 := Lts.one (LineT.lit (X := "}") (vs := [kM "}"]) hg [.wd "mark" "}"] (by decide +kernel) rfl (by decide +kernel))
    have q := (((l1.append l2).append l3).append (l4.append l5)).append l6
    have e : tkSx (.ite c a (s :: r)) = kK "if" :: (tkX c 0 ++ [kM "{"]) ++ tkBx a ++ [kM "}", kK "else", kM "{"] ++ (tkSx s ++ tkBx r) ++ [kM "}"] := by
      show [kK "if"] ++ tkX c 0 ++ [kM "{"] ++ tkBx a ++ [kM "}", kK "else", kM "{"] ++ (tkSx s ++ tkBx r) ++ [kM "}"] = _
      simp
    rw [e]
    exact q
  | .whl c a, g, h, hg => by
    unfold wfS at h
    have l1 := Lts.one (LineT.head (w := "while") hg (by decide +kernel) h.1.1)
    have l2 := Lts.B (g := g ++ "  ") h.2 hg.more
    have l3 := Lts.one (LineT.lit (X := "}") (vs := [kM "}"]) hg [.wd "mark" "}"] (by decide +kernel) rfl (by decide +kernel))
    have q := (l1.append l2).append l3
    have e : tkSx (.whl c a) = kK "while" :: (tkX c 0 ++ [kM "{"]) ++ tkBx a ++ [kM "}"] := by
      show [kK "while"] ++ tkX c 0 ++ [kM "{"] ++ tkBx a ++ [kM "}"] = _
      simp
    rw [e]
    exact q
  | .for_ x c d s, g, h, hg => by
    unfold wfS at h
    have hp := PartT.sh (l := 0) h.2.1.1
    have hp2 := PartT.sh (l := 0) h.2.2.1.1
    have l1 : Lts [g ++ ("for " ++ x ++ " = " ++ shX c 0 ++ " to " ++ shX d 0) ++ " {"] ([kK "for", kN x, kM "="] ++ tkX c 0 ++ [kK "to"] ++ tkX d 0 ++ [kM "{"]) := by
      refine .one fun {T us} j => ?_
      have j1 := (((j.gap hg).lit2 (X := "for ") (vs := [kK "for"]) (g := .free) [.wd "key" "for", .bl " "] (by decide +kernel) rfl (by decide +kernel) rfl).step (Wd.nm h.1) (Fol.anyF _)).lit2 (X := " = ") (vs := [kM "="]) (g := .free) [.bl " ", .wd "mark" "=", .bl " "] (by decide +kernel) rfl (by decide +kernel) rfl
      have j2 := (hp.seg j1 (hp.fol (.inr rfl))).lit2 (X := " to ") (vs := [kK "to"]) (g := .free) [.bl " ", .wd "key" "to", .bl " "] (by decide +kernel) rfl (by decide +kernel) rfl
      have j3 := (hp2.seg j2 (hp2.fol (.inr rfl))).lit2 (X := " {") (vs := [kM "{"]) (g := .mark) [.bl " ", .wd "mark" "{"] (by decide +kernel) rfl (by decide +kernel) rfl
      refine ⟨.mark, ?_⟩
      have e1 : T ++ (g ++ ("for " ++ x ++ " = " ++ shX c 0 ++ " to " ++ shX d 0) ++ " {") = T ++ g ++ "for " ++ x ++ " = " ++ shX c 0 ++ " to " ++ shX d 0 ++ " {" := by simp only [assocS]
      have e2 : us ++ ([kK "for", kN x, kM "="] ++ tkX c 0 ++ [kK "to"] ++ tkX d 0 ++ [kM "{"]) = us ++ [kK "for"] ++ [kN x] ++ [kM "="] ++ tkX c 0 ++ [kK "to"] ++ tkX d 0 ++ [kM "{"] := by
        show us ++ ([kK "for", kN x, kM "="] ++ tkX c 0 ++ [kK "to"] ++ tkX d 0 ++ [kM "{"]) = us ++ [kK "for"] ++ [kN x] ++ [kM "="] ++ tkX c 0 ++ [kK "to"] ++ tkX d 0 ++ [kM "{"]
        simp
      rw [e1, e2]
      exact j3
    have l2 := Lts.B (g := g ++ "  ") h.2.2.2 hg.more
    have l3 := Lts.one (LineT.lit (X := "}") (vs := [kM "}"]) hg [.wd "mark" "}"] (by decide +kernel) rfl (by decide +kernel))
    exact (l1.append l2).append l3
  | .call f es, g, h, hg => by
    unfold wfS at h
    refine .one fun {T us} j => ?_
    have j1 := (((j.gap hg).lit2 (X := "do ") (vs := [kK "do"]) (g := .free) [.wd "key" "do", .bl " "] (by decide +kernel) rfl (by decide +kernel) rfl).step (Wd.nm h.1) (Fol.anyF _)).lit2 (X := "(") (vs := [kM "("]) (g := .mark) [.wd "mark" "("] (by decide +kernel) rfl (by decide +kernel) rfl
    obtain ⟨g2, hg2, j2⟩ := j1.exprs (.inl rfl) h.2.2
    have j3 := j2.lit2 (X := ")") (vs := [kM ")"]) (g := .mark) [.wd "mark" ")"] (by decide +kernel) rfl (by rcases hg2 with q | q <;> rw [q] <;> decide +kernel) rfl
    refine ⟨.mark, ?_⟩
    have e1 : T ++ (g ++ "do " ++ f ++ "(" ++ joinC (es.map fun e => shX e 0) ++ ")") = T ++ g ++ "do " ++ f ++ "(" ++ joinC (es.map fun e => shX e 0) ++ ")" := by simp only [assocS]
    have e2 : us ++ ([kK "do", kN f, kM "("] ++ tkEsx es ++ [kM ")"]) = us ++ [kK "do"] ++ [kN f] ++ [kM "("] ++ tkEsx es ++ [kM ")"] := by
      show us ++ ([kK "do", kN f, kM "("] ++ tkEsx es ++ [kM ")"]) = us ++ [kK "do"] ++ [kN f] ++ [kM "("] ++ tkEsx es ++ [kM ")"]
      simp
    rw [e1, show tkSx (.call f es) = [kK "do", kN f, kM "("] ++ tkEsx es ++ [kM ")"] from rfl, e2]
    exact j3
  | .stop, g, h, hg => .one (LineT.lit (X := "stop") (vs := [kK "stop"]) hg [.wd "key" "stop"] (by decide +kernel) rfl (by decide +kernel))
theorem Lts.B : ∀ {b : List St} {g : Str}, wfB b → gapB g → Lts (lnB b g) (tkBx b)
  | [], g, h, hg => .nil
  | s :: b, g, h, hg => by
    unfold wfB at h
    exact (Lts.S h.1 hg).append (Lts.B h.2 hg)
end
theorem Lts.D : ∀ {fs : List Df}, (∀ f ∈ fs, wfD f) → Lts (lnDs fs) (tkDsx fs)
  | [], _ => .nil
  | f :: fs, h => by
    have hf := h f List.mem_cons_self
    have l1 : Lts ["def " ++ f.name ++ "(" ++ joinC f.args ++ ") {"] ([kK "def", kN f.name, kM "("] ++ tkNs f.args ++ [kM ")", kM "{"]) := by
      refine .one fun {T us} j => ?_
      have j1 := ((j.lit2 (X := "def ") (vs := [kK "def"]) (g := .free) [.wd "key" "def", .bl " "] (by decide +kernel) rfl (by decide +kernel) rfl).step (Wd.nm hf.nm) (Fol.anyF _)).lit2 (X := "(") (vs := [kM "("]) (g := .mark) [.wd "mark" "("] (by decide +kernel) rfl (by decide +kernel) rfl
      obtain ⟨g2, hg2, j2⟩ := j1.names (.inl rfl) hf.args
      have j3 := j2.lit2 (X := ") {") (vs := [kM ")", kM "{"]) (g := .mark) [.wd "mark" ")", .bl " ", .wd "mark" "{"] (by decide +kernel) rfl (by rcases hg2 with q | q <;> rw [q] <;> decide +kernel) rfl
      refine ⟨.mark, ?_⟩
      have e1 : T ++ ("def " ++ f.name ++ "(" ++ joinC f.args ++ ") {") = T ++ "def " ++ f.name ++ "(" ++ Str.join ", " f.args ++ ") {" := by
        unfold joinC
        simp only [assocS]
      have e2 : us ++ ([kK "def", kN f.name, kM "("] ++ tkNs f.args ++ [kM ")", kM "{"]) = us ++ [kK "def"] ++ [kN f.name] ++ [kM "("] ++ tkNs f.args ++ [kM ")", kM "{"] := by
        show us ++ ([kK "def", kN f.name, kM "("] ++ tkNs f.args ++ [kM ")", kM "{"]) = us ++ [kK "def"] ++ [kN f.name] ++ [kM "("] ++ tkNs f.args ++ [kM ")", kM "{"]
        simp
      rw [e1, e2]
      exact j3
    have l2 := Lts.B (g := "  ") hf.body (.inr (by decide +kernel))
    have l3 := Lts.one (LineT.lit (g := "") (X := "}") (vs := [kM "}"]) (.inl rfl) [.wd "mark" "}"] (by decide +kernel) rfl (by decide +kernel))
    have e0 : ("" : Str) ++ ("}" : Str) = "}" := by decide +kernel
    rw [e0] at l3
    exact ((l1.append l2).append l3).append (Lts.D fun x hx => h x (List.mem_cons_of_mem _ hx))
/-- THE POINT: the text printed anew has these words, and they are the program's -/
theorem tidy_toks {p : Pr} (h : wfP p) : Toks (tl (tidyT p)) (tkPx p) := by
  obtain ⟨g, j⟩ := ((Lts.D h.defs).append (Lts.B (g := "") h.body (.inl rfl))).joined JS.nil
  have q := j [] [] .nil trivial
  rw [List.append_nil, List.append_nil, tl_append, show tl ("" : Str) = [] by decide +kernel, List.nil_append] at q
  exact q
end KD

namespace KD
open PySem L2 TL
open K0 (num)
theorem shX_len : ∀ {e : Ex} {l : Nat}, wfE e → (shX e l).length ≤ pl (dpE e)
  | .num n, l, h => K0.num_len h
  | .name x, l, h => nameW_len h
  | .rows, l, h => by show ("rows" : Str).length ≤ 6; decide +kernel
  | .cols, l, h => by show ("cols" : Str).length ≤ 6; decide +kernel
  | .un .neg a, l, h => by
    have q := shX_len (e := a) (l := 5) h
    show (("-" : Str) ++ shX a 5).length ≤ 2 * pl (dpE a) + 10
    rw [sums, show ("-" : Str).length = 1 by decide +kernel]
    omega
  | .un .not a, l, h => by
    have q := shX_len (e := a) (l := 2) h
    show (parX (decide (2 < l)) (("not " : Str) ++ shX a 2)).length ≤ 2 * pl (dpE a) + 10
    cases decide (2 < l) with
    | true =>
      show (("(" : Str) ++ (("not " : Str) ++ shX a 2) ++ ")").length ≤ _
      rw [sums, sums, sums, show ("(" : Str).length = 1 by decide +kernel, show (")" : Str).length = 1 by decide +kernel, show ("not " : Str).length = 4 by decide +kernel]
      omega
    | false =>
      show (("not " : Str) ++ shX a 2).length ≤ _
      rw [sums, show ("not " : Str).length = 4 by decide +kernel]
      omega
  | .bin o a b, l, h => by
    have hm1 : pl (dpE a) ≤ pl (max (dpE a) (dpE b)) := pl_mono (Nat.le_max_left _ _)
    have hm2 : pl (dpE b) ≤ pl (max (dpE a) (dpE b)) := pl_mono (Nat.le_max_right _ _)
    have lo := o.len
    by_cases hb : o = .black
    · subst hb
      have q1 := shX_len (e := a) (l := 0) h.1
      have q2 := shX_len (e := b) (l := 0) h.2
      show (("black(" : Str) ++ shX a 0 ++ ", " ++ shX b 0 ++ ")").length ≤ 2 * pl (max (dpE a) (dpE b)) + 10
      rw [sums, sums, sums, sums, show ("black(" : Str).length = 6 by decide +kernel, show (")" : Str).length = 1 by decide +kernel, show (", " : Str).length = 2 by decide +kernel]
      omega
    · rw [shX_bin hb]
      have q1 := shX_len (e := a) (l := o.ll) h.1
      have q2 := shX_len (e := b) (l := o.lv + 1) h.2
      show _ ≤ 2 * pl (max (dpE a) (dpE b)) + 10
      cases decide (o.lv < l) with
      | true =>
        show (("(" : Str) ++ (shX a o.ll ++ " " ++ o.w ++ " " ++ shX b (o.lv + 1)) ++ ")").length ≤ _
        rw [sums, sums, sums, sums, sums, sums, show ("(" : Str).length = 1 by decide +kernel, show (")" : Str).length = 1 by decide +kernel, show (" " : Str).length = 1 by decide +kernel]
        omega
      | false =>
        show (shX a o.ll ++ " " ++ o.w ++ " " ++ shX b (o.lv + 1)).length ≤ _
        rw [sums, sums, sums, sums, show (" " : Str).length = 1 by decide +kernel]
        omega
end KD

namespace KD
open PySem L2 TL
open K0 (Toks num)
/-- what is asked of the program's reading: texts whose words are those of a tree -/
structure Rdb (X : Str) (p : Pr) : Prop where
  toks : ∃ ws, Toks (tl X) ws ∧ GP p ws
  wf : wfP p
  len : X.length ≤ 90000
  nd : (p.defs.map Df.name).Nodup
  an : ∀ f ∈ p.defs, f.args.Nodup
section
variable {P : Program} {w : World} {K : PySem.W.Frag} {mg : Str → Option Value} {base : Heap}
def spRead (K : PySem.W.Frag) : Sp := fun vs H Q _ => ∃ (X : Str) (p : Pr), vs = [.str X] ∧ Rdb X p ∧ ∀ H' v, Same H H' → Dp K H' v p.d → Q v H'
def spTidy : Sp := fun vs H Q _ => ∃ (X : Str) (p : Pr), vs = [.str X] ∧ Rdb X p ∧ ∀ H', Same H H' → Q (.str (tidyT p)) H'
end
end KD

/-! Expressions over words, for a reader that goes from the left: rows of one level, what follows a piece. Names no row. -/
namespace KD
open PySem L2 TL
open K0 (num)
/-- the marks of a level behind the first part -/
inductive Row (d l : Nat) : List (Bi × Ex) → List Tk → Prop
  | nil : Row d l [] []
  | cons {o : Bi} {b : Ex} {qs : List (Bi × Ex)} {tb ts : List Tk} : o.lv = l → G d (l + 1) b tb → Row d l qs ts → Row d l ((o, b) :: qs) (o.tk :: (tb ++ ts))
theorem Row.snoc {d l : Nat} {o : Bi} {b : Ex} {tb : List Tk} (ho : o.lv = l) (hb : G d (l + 1) b tb) : ∀ {qs : List (Bi × Ex)} {ts : List Tk}, Row d l qs ts → Row d l (qs ++ [(o, b)]) (ts ++ [o.tk] ++ tb)
  | _, _, .nil => by
    have q := Row.cons ho hb (Row.nil (d := d) (l := l))
    rw [List.append_nil] at q
    exact q
  | _, _, .cons (o := p) (tb := u) h1 h2 (ts := ts) h3 => by
    have q := Row.cons h1 h2 (Row.snoc ho hb h3)
    have e : p.tk :: (u ++ ts) ++ [o.tk] ++ tb = p.tk :: (u ++ (ts ++ [o.tk] ++ tb)) := by simp
    rw [e]
    exact q
def foldB (e : Ex) (qs : List (Bi × Ex)) : Ex := qs.foldl (fun a q => .bin q.1 a q.2) e
theorem foldB_snoc (e : Ex) (qs : List (Bi × Ex)) (o : Bi) (b : Ex) : foldB e (qs ++ [(o, b)]) = .bin o (foldB e qs) b := by
  unfold foldB
  rw [List.foldl_append]
  rfl
theorem G.row {d l : Nat} {e : Ex} {t : List Tk} (h : G d l e t) : l < 5 → l ≠ 2 → ∃ e0 t0 qs ts, G d (l + 1) e0 t0 ∧ Row d l qs ts ∧ t = t0 ++ ts ∧ e = foldB e0 qs := by
  induction h with
  | num n => exact fun q => absurd q (by decide)
  | name x => exact fun q => absurd q (by decide)
  | rows => exact fun q => absurd q (by decide)
  | cols => exact fun q => absurd q (by decide)
  | black _ _ _ _ => exact fun q => absurd q (by decide)
  | neg _ _ => exact fun q => absurd q (by decide)
  | par _ _ => exact fun q => absurd q (by decide)
  | not _ _ => exact fun _ q => absurd rfl q
  | cmp _ _ _ _ _ => exact fun _ q => absurd rfl q
  | left h1 h2 ha hb i1 i2 =>
    intro q1 q2
    obtain ⟨e0, t0, qs, ts, g0, r, rfl, rfl⟩ := i1 q1 q2
    exact ⟨e0, t0, _, _, g0, r.snoc rfl hb, by simp, by rw [foldB_snoc]⟩
  | up h _ => exact fun _ _ => ⟨_, _, [], [], h, .nil, by simp, rfl⟩
/-- comparisons: one, or a not, or none -/
theorem G.cmp3 {d : Nat} {e : Ex} {t : List Tk} (h : G d 2 e t) : (∃ k a ta, d = k + 1 ∧ e = .un .not a ∧ t = kK "not" :: ta ∧ G k 2 a ta) ∨ (∃ o a b ta tb, e = .bin o a b ∧ o.lv = 2 ∧ t = ta ++ [o.tk] ++ tb ∧ G d 3 a ta ∧ G d 3 b tb) ∨ G d 3 e t := by
  generalize hl : 2 = l at h
  cases h with
  | not h => exact .inl ⟨_, _, _, rfl, rfl, rfl, hl ▸ h⟩
  | cmp h1 h2 h3 => exact .inr (.inl ⟨_, _, _, _, _, rfl, h1, rfl, h2, h3⟩)
  | left h1 h2 h3 h4 => exact absurd hl.symm h2
  | up h => subst hl; exact .inr (.inr h)
  | num n => cases hl
  | name x => cases hl
  | rows => cases hl
  | cols => cases hl
  | black _ _ => cases hl
  | neg _ => cases hl
  | par _ => cases hl
/-- a part -/
theorem G.part {d : Nat} {e : Ex} {t : List Tk} (h : G d 5 e t) : (∃ n, e = .num n ∧ t = ([("number", K0.num n)] : List Tk)) ∨ (∃ x, e = .name x ∧ t = [kN x]) ∨ (e = .rows ∧ t = [kK "rows"]) ∨ (e = .cols ∧ t = [kK "cols"]) ∨
    (∃ k, d = k + 1 ∧ ((∃ a b ta tb, e = .bin .black a b ∧ t = [kK "black", kM "("] ++ ta ++ [kM ","] ++ tb ++ [kM ")"] ∧ G k 0 a ta ∧ G k 0 b tb) ∨ (∃ a ta, e = .un .neg a ∧ t = kM "-" :: ta ∧ G k 5 a ta) ∨ (∃ ta, t = [kM "("] ++ ta ++ [kM ")"] ∧ G k 0 e ta))) ∨ G d 6 e t := by
  generalize hl : 5 = l at h
  cases h with
  | num n => exact .inl ⟨_, rfl, rfl⟩
  | name x => exact .inr (.inl ⟨_, rfl, rfl⟩)
  | rows => exact .inr (.inr (.inl ⟨rfl, rfl⟩))
  | cols => exact .inr (.inr (.inr (.inl ⟨rfl, rfl⟩)))
  | black h1 h2 => exact .inr (.inr (.inr (.inr (.inl ⟨_, rfl, .inl ⟨_, _, _, _, rfl, rfl, h1, h2⟩⟩))))
  | neg h1 => exact .inr (.inr (.inr (.inr (.inl ⟨_, rfl, .inr (.inl ⟨_, _, rfl, rfl, h1⟩)⟩))))
  | par h1 => exact .inr (.inr (.inr (.inr (.inl ⟨_, rfl, .inr (.inr ⟨_, rfl, h1⟩)⟩))))
  | not h => cases hl
  | cmp h1 h2 h3 => cases hl
  | left h1 h2 h3 h4 => omega
  | up h => subst hl; exact .inr (.inr (.inr (.inr (.inr h))))
theorem G.no6 {d l : Nat} {e : Ex} {t : List Tk} (h : G d l e t) : l ≤ 5 := by
  induction h with
  | left h1 h2 h3 h4 => omega
  | up h i => omega
  | _ => decide
/-! ### what goes on -/
/-- the level of a mark -/
def mkLv (w : Str) : Nat := if w = "or" then 0 else if w = "and" then 1 else if w = "<" ∨ w = "<=" ∨ w = "=" ∨ w = "!=" then 2 else if w = "+" ∨ w = "-" then 3 else if w = "*" ∨ w = "/" ∨ w = "mod" then 4 else 9
/-- behind an expression of a level stands a word w: it joins nothing more at that level or above -/
def Stop (l : Nat) (w : Str) : Prop := mkLv w < l ∨ mkLv w = 9
theorem Stop.up {l m : Nat} {w : Str} (h : Stop l w) (hl : l ≤ m) : Stop m w := by
  rcases h with h | h
  · exact .inl (by omega)
  · exact .inr h
theorem mkLv_tk {o : Bi} (h : o.lv < 5) : mkLv o.tk.2 = o.lv := by
  cases o <;> first | (exact absurd h (by decide)) | decide +kernel
def lvW : Nat → List Str
  | 0 => ["or"] | 1 => ["and"] | 2 => ["<", "<=", "=", "!="] | 3 => ["+", "-"] | 4 => ["*", "/", "mod"] | _ => []
theorem lvW_no {l : Nat} {w : Str} (h : Stop l w) (hl : l < 5) : w ∉ lvW l := by
  intro q
  have e : mkLv w = l := by
    match l, hl, q with
    | 0, _, q => simp only [lvW, List.mem_cons, List.not_mem_nil, or_false] at q; subst q; decide +kernel
    | 1, _, q => simp only [lvW, List.mem_cons, List.not_mem_nil, or_false] at q; subst q; decide +kernel
    | 2, _, q => simp only [lvW, List.mem_cons, List.not_mem_nil, or_false] at q; rcases q with rfl | rfl | rfl | rfl <;> decide +kernel
    | 3, _, q => simp only [lvW, List.mem_cons, List.not_mem_nil, or_false] at q; rcases q with rfl | rfl <;> decide +kernel
    | 4, _, q => simp only [lvW, List.mem_cons, List.not_mem_nil, or_false] at q; rcases q with rfl | rfl | rfl <;> decide +kernel
  rcases h with h | h <;> omega
theorem lvW_yes {o : Bi} (h : o.lv < 5) : o.tk.2 ∈ lvW o.lv := by
  cases o <;> first | (exact absurd h (by decide)) | decide +kernel
theorem Stop.tk {o : Bi} {l : Nat} (h : o.lv < l) (h5 : o.lv < 5) : Stop l o.tk.2 := .inl (by rw [mkLv_tk h5]; exact h)
/-- the first word of a row, or of what stands behind -/
theorem Row.stop {d l : Nat} {qs : List (Bi × Ex)} {ts : List Tk} (h : Row d l qs ts) (h5 : l < 5) {w : Tk} {rest : List Tk} (hr : Stop l w.2) : ∃ u us, ts ++ w :: rest = u :: us ∧ Stop (l + 1) u.2 := by
  cases h with
  | nil => exact ⟨w, rest, rfl, hr.up (Nat.le_succ l)⟩
  | cons h1 h2 h3 => exact ⟨_, _, rfl, Stop.tk (by omega) (by omega)⟩
/-- the first words of expressions: no statement begins so, nor is it a not below the comparisons -/
theorem G.first {d l : Nat} {e : Ex} {t : List Tk} (h : G d l e t) : wfE e → ∃ w ws, t = w :: ws ∧ (3 ≤ l → w.2 ≠ "not") ∧ w.2 ≠ ")" := by
  have nn : ∀ n : Nat, K0.num n ≠ "not" ∧ K0.num n ≠ ")" := fun n => by
    have q := K0.numL_fig n
    have hne := K0.numL_ne n
    have aux : ∀ z : Str, (tl z).any (fun c => !K0.isFig c) = true → K0.num n ≠ z := fun z hz e => by
      rw [← e, K0.tl_num'] at hz
      rw [List.any_eq_true] at hz
      obtain ⟨c, hc, hc2⟩ := hz
      rw [List.all_eq_true] at q
      rw [q c hc] at hc2
      cases hc2
    exact ⟨aux _ (by decide +kernel), aux _ (by decide +kernel)⟩
  have nm : ∀ x : Str, nameW x = true → x ≠ "not" ∧ x ≠ ")" := fun x hx => ⟨fun e => by rw [e] at hx; revert hx; decide +kernel, fun e => by rw [e] at hx; revert hx; decide +kernel⟩
  induction h with
  | num n => exact fun _ => ⟨_, _, rfl, fun _ => (nn n).1, (nn n).2⟩
  | name x => exact fun hw => ⟨_, _, rfl, fun _ => (nm x hw).1, (nm x hw).2⟩
  | rows => exact fun _ => ⟨_, _, rfl, fun _ => by decide +kernel, by decide +kernel⟩
  | cols => exact fun _ => ⟨_, _, rfl, fun _ => by decide +kernel, by decide +kernel⟩
  | black _ _ _ _ => exact fun _ => ⟨_, _, rfl, fun _ => by decide +kernel, by decide +kernel⟩
  | neg _ _ => exact fun _ => ⟨_, _, rfl, fun _ => by decide +kernel, by decide +kernel⟩
  | par _ _ => exact fun _ => ⟨_, _, rfl, fun _ => by decide +kernel, by decide +kernel⟩
  | not _ _ => exact fun _ => ⟨_, _, rfl, fun q => absurd q (by decide), by decide +kernel⟩
  | cmp h1 ha hb i1 i2 =>
    intro hw
    obtain ⟨w, ws, rfl, h2, h3⟩ := i1 hw.1
    exact ⟨w, _, rfl, fun _ => h2 (by decide), h3⟩
  | left h1 h2 ha hb i1 i2 =>
    intro hw
    obtain ⟨w, ws, rfl, h3, h4⟩ := i1 hw.1
    exact ⟨w, _, rfl, h3, h4⟩
  | up h i =>
    intro hw
    obtain ⟨w, ws, rfl, h3, h4⟩ := i hw
    exact ⟨w, ws, rfl, fun q => h3 (by omega), h4⟩
end KD

/-! A word with its kind and its place. -/
namespace KD
open PySem L2 TL
structure T3 where
  kd : Str
  w : Str
  pl : Nat
def T3.d (t : T3) : PyData := .tuple [.str t.kd, .str t.w, .int (t.pl : Nat)]
def T3.tk (t : T3) : Tk := (t.kd, t.w)
theorem tupDs_T3 : ∀ l : List T3, tupDs (l.map T3.d) = true
  | [] => rfl
  | t :: l => by
    show (tupD t.d && tupDs (l.map T3.d)) = true
    rw [tupDs_T3 l]
    rfl
/-- words stand at their places in the signs l, one behind the other -/
def Plc (l : List Nat) (ts : List T3) : Prop := ts.Pairwise (fun a b => a.pl < b.pl) ∧ ∀ t ∈ ts, 1 ≤ t.pl ∧ t.pl ≤ l.length ∧ (l.drop (t.pl - 1)).take (tl t.w).length = tl t.w
theorem Plc.nil {l : List Nat} : Plc l [] := ⟨.nil, fun _ h => nomatch h⟩
theorem Plc.snoc {l : List Nat} {ts : List T3} {kk ww : Str} {n : Nat} {cs : List Nat} (h : Plc l ts) (hn : ∀ t ∈ ts, t.pl ≤ n) (hl : n < l.length) (e : l.drop n = tl ww ++ cs) : Plc l (ts ++ [⟨kk, ww, n + 1⟩]) := by
  refine ⟨List.pairwise_append.mpr ⟨h.1, List.pairwise_singleton _ _, fun a ha b hb => ?_⟩, fun t ht => ?_⟩
  · rw [List.mem_singleton.mp hb]
    have q := hn a ha
    show a.pl < n + 1
    omega
  · rcases List.mem_append.mp ht with h1 | h1
    · exact h.2 t h1
    · rw [List.mem_singleton.mp h1]
      refine ⟨Nat.succ_le_succ (Nat.zero_le _), hl, ?_⟩
      show (l.drop (n + 1 - 1)).take (tl ww).length = tl ww
      rw [Nat.add_sub_cancel, e, List.take_left]
end KD

/-! The reader: its object in the heap, its small methods. -/
namespace KD
open PySem L2 TL
open K0 (num)
/-! ### the reader's object -/
theorem at_told : ¬ ("at" : Str) = "told" := by decide +kernel
theorem ne_told : ¬ ("nests" : Str) = "told" := by decide +kernel
theorem ne_at : ¬ ("nests" : Str) = "at" := by decide +kernel
theorem pl_told : ¬ ("places" : Str) = "told" := by decide +kernel
theorem pl_at : ¬ ("places" : Str) = "at" := by decide +kernel
theorem pl_ne : ¬ ("places" : Str) = "nests" := by decide +kernel
theorem to_at : ¬ ("told" : Str) = "at" := by decide +kernel
theorem to_ne : ¬ ("told" : Str) = "nests" := by decide +kernel
theorem to_pl : ¬ ("told" : Str) = "places" := by decide +kernel
theorem at_ne : ¬ ("at" : Str) = "nests" := by decide +kernel
theorem at_pl : ¬ ("at" : Str) = "places" := by decide +kernel
theorem ne_pl : ¬ ("nests" : Str) = "places" := by decide +kernel
/-- the reader's fields -/
def rf (tA pA : Addr) (i k : Nat) : List (Str × V) := putF "places" (.ref pA) (putF "nests" (.int (k : Nat)) (putF "at" (.int (i : Nat)) (putF "told" (.ref tA) [])))
theorem rf_eq (tA pA : Addr) (i k : Nat) : rf tA pA i k = ([("told", V.ref tA), ("at", V.int (i : Nat)), ("nests", V.int (k : Nat)), ("places", V.ref pA)] : List (Str × V)) := by
  simp only [rf, putF, if_neg to_at, if_neg to_ne, if_neg to_pl, if_neg at_ne, if_neg at_pl, if_neg ne_pl]
theorem rf_len (tA pA : Addr) (i k : Nat) : (rf tA pA i k).length < 1000 := by rw [rf_eq]; show 4 < 1000; decide
theorem rf_told (tA pA : Addr) (i k : Nat) : (rf tA pA i k).lookup ("told" : Str) = some (.ref tA) := by
  unfold rf
  rw [lookup_putF, if_neg to_pl, lookup_putF, if_neg to_ne, lookup_putF, if_neg to_at, lookup_putF, if_pos rfl]
theorem rf_at (tA pA : Addr) (i k : Nat) : (rf tA pA i k).lookup ("at" : Str) = some (.int (i : Nat)) := by
  unfold rf
  rw [lookup_putF, if_neg at_pl, lookup_putF, if_neg at_ne, lookup_putF, if_pos rfl]
theorem rf_nests (tA pA : Addr) (i k : Nat) : (rf tA pA i k).lookup ("nests" : Str) = some (.int (k : Nat)) := by
  unfold rf
  rw [lookup_putF, if_neg ne_pl, lookup_putF, if_pos rfl]
theorem rf_places (tA pA : Addr) (i k : Nat) : (rf tA pA i k).lookup ("places" : Str) = some (.ref pA) := by
  unfold rf
  rw [lookup_putF, if_pos rfl]
theorem rf_no (tA pA : Addr) (i k : Nat) {m : Str} (h : decide (m = "told") = false ∧ decide (m = "at") = false ∧ decide (m = "nests") = false ∧ decide (m = "places") = false) : (rf tA pA i k).lookup m = none := by
  have h1 := of_decide_eq_false h.1
  have h2 := of_decide_eq_false h.2.1
  have h3 := of_decide_eq_false h.2.2.1
  have h4 := of_decide_eq_false h.2.2.2
  unfold rf
  rw [lookup_putF, if_neg h4, lookup_putF, if_neg h3, lookup_putF, if_neg h2, lookup_putF, if_neg h1]
  rfl
theorem rf_put_at (tA pA : Addr) (i k j : Nat) : putF "at" (.int (j : Nat)) (rf tA pA i k) = rf tA pA j k := by
  rw [rf_eq, rf_eq]
  simp only [putF, if_neg to_at, if_pos]
theorem rf_put_nests (tA pA : Addr) (i k j : Nat) : putF "nests" (.int (j : Nat)) (rf tA pA i k) = rf tA pA i j := by
  rw [rf_eq, rf_eq]
  simp only [putF, if_neg to_ne, if_neg at_ne, if_pos]
structure Rd where
  r : Addr
  tA : Addr
  pA : Addr
  vs : List V
  ts : List T3
structure RdAt (K : PySem.W.Frag) (C : Addr) (R : Rd) (H : Hp) (i k : Nat) (ps : List Nat) : Prop where
  ins : ∃ dx, H R.r = some (.ins C dx (rf R.tA R.pA i k))
  told : H R.tA = some (.lst R.vs)
  dd : DpAll K H R.vs (R.ts.map T3.d)
  plc : H R.pA = some (.lst (ps.map fun p : Nat => V.int (p : Nat)))
  ne : R.tA ≠ R.pA
  small : R.ts.length ≤ 100002
/-- all that was tracked is kept, but the reader and its places -/
def KeepR (R : Rd) (H H' : Hp) : Prop := ∀ b o, b ≠ R.r → b ≠ R.pA → H b = some o → H' b = some o
theorem KeepR.refl (R : Rd) (H : Hp) : KeepR R H H := fun _ _ _ _ h => h
theorem KeepR.trans {R : Rd} {H H1 H2 : Hp} (a : KeepR R H H1) (b : KeepR R H1 H2) : KeepR R H H2 := fun c o n m h => b c o n m (a c o n m h)
theorem KeepR.same {R : Rd} {H H' : Hp} (s : Same H H') : KeepR R H H' := fun b o _ _ h => s b o h
section
variable {K : PySem.W.Frag} {C : Addr} {R : Rd} {H H' : Hp} {i k : Nat} {ps : List Nat}
theorem RdAt.same (h : RdAt K C R H i k ps) (s : Same H H') : RdAt K C R H' i k ps := by
  obtain ⟨dx, e⟩ := h.ins
  exact ⟨⟨dx, s _ _ e⟩, s _ _ h.told, DpAll.same s h.dd, s _ _ h.plc, h.ne, h.small⟩
theorem RdAt.ne_rt (h : RdAt K C R H i k ps) : R.r ≠ R.tA := by
  obtain ⟨dx, e⟩ := h.ins
  exact ne_of e h.told (by intro z; cases z)
theorem RdAt.ne_rp (h : RdAt K C R H i k ps) : R.r ≠ R.pA := by
  obtain ⟨dx, e⟩ := h.ins
  exact ne_of e h.plc (by intro z; cases z)
theorem KeepR.kt (k : KeepR R H H') (h : RdAt K C R H i j ps) : KT K H H' := fun a xs q => by
  obtain ⟨dx, e⟩ := h.ins
  rcases q with (q | ⟨o, q⟩) | q
  · exact .inl (.inl (k _ _ (ne_of q e (by intro z; cases z)) (ne_of q h.plc (by intro z; cases z)) q))
  · exact .inl (.inr ⟨o, k _ _ (ne_of q e (by intro z; cases z)) (ne_of q h.plc (by intro z; cases z)) q⟩)
  · exact .inr q
/-- the reader's numbers stored anew -/
theorem RdAt.move (h : RdAt K C R H i k ps) {dx : Addr} (j m : Nat) : RdAt K C R (upd H R.r (.ins C dx (rf R.tA R.pA j m))) j m ps ∧ KeepR R H (upd H R.r (.ins C dx (rf R.tA R.pA j m))) := by
  have kp : KeepR R H (upd H R.r (.ins C dx (rf R.tA R.pA j m))) := fun b o n _ q => by rw [upd_ne n]; exact q
  refine ⟨⟨⟨dx, upd_same⟩, by rw [upd_ne h.ne_rt.symm]; exact h.told, DpAll.kt (kp.kt h) (tupDs_T3 _) h.dd, by rw [upd_ne h.ne_rp.symm]; exact h.plc, h.ne, h.small⟩, kp⟩
theorem RdAt.push (h : RdAt K C R H i k ps) (p : Nat) : RdAt K C R (upd H R.pA (.lst ((ps.map fun p : Nat => V.int (p : Nat)) ++ [.int (p : Nat)]))) i k (ps ++ [p]) ∧ KeepR R H (upd H R.pA (.lst ((ps.map fun p : Nat => V.int (p : Nat)) ++ [.int (p : Nat)]))) := by
  have kp : KeepR R H (upd H R.pA (.lst ((ps.map fun p : Nat => V.int (p : Nat)) ++ [.int (p : Nat)]))) := fun b o _ n q => by rw [upd_ne n]; exact q
  obtain ⟨dx, e⟩ := h.ins
  refine ⟨⟨⟨dx, by rw [upd_ne h.ne_rp]; exact e⟩, by rw [upd_ne h.ne]; exact h.told, DpAll.kt (kp.kt h) (tupDs_T3 _) h.dd, ?_, h.ne, h.small⟩, kp⟩
  rw [upd_same, List.map_append]
  rfl
theorem RdAt.word (h : RdAt K C R H i k ps) {t : T3} (ht : R.ts[i]? = some t) : ∃ a, R.vs[i]? = some (.ref a) ∧ SqT K H a [.str t.kd, .str t.w, .int (t.pl : Nat)] := by
  have hl := DpAll.length h.dd
  have hlt : i < R.vs.length := by
    rw [hl, List.length_map]
    exact (List.getElem?_eq_some_iff.mp ht).1
  obtain ⟨d, hd, hv⟩ := DpAll.get h.dd (List.getElem?_eq_getElem hlt)
  rw [List.getElem?_map, ht] at hd
  obtain rfl : t.d = d := Option.some.inj hd
  cases e : R.vs[i] with
  | ref a =>
    rw [e] at hv
    refine ⟨a, by rw [List.getElem?_eq_getElem hlt, e], ?_⟩
    cases hv with
    | tup h1 h2 =>
      cases h2 with
      | cons a1 h2 =>
        cases h2 with
        | cons a2 h2 =>
          cases h2 with
          | cons a3 h2 =>
            cases h2
            cases a1
            cases a2
            cases a3
            exact h1
  | _ => rw [e] at hv; cases hv
theorem KeepR.new {p : Addr} (hp : H p = none) (o : HO) : KeepR R H (upd H p o) := fun b u _ _ q => by rw [upd_ne (ne_of_none q hp)]; exact q
end
/-! ### what the top has written, of the reader -/
def stW : List Str := ["row", "col", "say", "let", "if", "while", "for", "do", "stop"]
structure RTxt (K : PySem.W.Frag) (mg : Str → Option Value) (C : Addr) : Prop where
  cl : Cls K C
  nT : NoAttr K C "told"
  nA : NoAttr K C "at"
  nN : NoAttr K C "nests"
  nP : NoAttr K C "places"
  mgC : mg "Reader" = some (.ref C)
  mst : ∃ t, mg "MOST_NESTS" = some (.int 40 t)
  cmp : ∃ t, mg "COMPARING" = some (.int 2 t)
  prt : ∃ t, mg "PARTS" = some (.int 5 t)
  stm : ∃ a, mg "STATEMENTS" = some (.ref a) ∧ ∀ H, SqT K H a (stW.map V.str)
  lev : ∃ (a a0 a1 a2 a3 a4 : Addr), mg "LEVELS" = some (.ref a) ∧ ∀ H, SqT K H a [.ref a0, .ref a1, .ref a2, .ref a3, .ref a4] ∧ SqT K H a0 ((lvW 0).map V.str) ∧ SqT K H a1 ((lvW 1).map V.str) ∧ SqT K H a2 ((lvW 2).map V.str) ∧ SqT K H a3 ((lvW 3).map V.str) ∧ SqT K H a4 ((lvW 4).map V.str)
/-- a method of the class at C with its promise -/
structure Mth (P : Program) (w : World) (K : PySem.W.Frag) (mg : Str → Option Value) (base : Heap) (C : Addr) (n : Nat) (x : Str) (ps : List Str) (sp : Sp) : Prop where
  ex : ∃ f fd, FnOk P w K mg base CX0 n f fd ps sp ∧ Meth K C x f ∧ Binds K fd ps []
theorem Mth.mono {P : Program} {w : World} {K : PySem.W.Frag} {mg : Str → Option Value} {base : Heap} {C : Addr} {n m : Nat} {x : Str} {ps : List Str} {sp : Sp} (h : Mth P w K mg base C n x ps sp) (l : n ≤ m) : Mth P w K mg base C m x ps sp := by
  obtain ⟨f, fd, G, M, b⟩ := h.ex
  exact ⟨f, fd, G.mono l, M, b⟩
/-- where the def of a method stands -/
structure MFun (K : PySem.W.Frag) (C : Addr) (x qual : Str) (st : Stmt) (ps : List Str) (f : Addr) (fd : FuncData) : Prop where
  F : Fun K x qual st f fd
  M : Meth K C x f
  b : Binds K fd ps []
theorem MFun.mth {P : Program} {w : World} {K : PySem.W.Frag} {mg : Str → Option Value} {base : Heap} {C : Addr} {n : Nat} {x qual : Str} {st : Stmt} {ps : List Str} {sp : Sp} {f : Addr} {fd : FuncData} (h : MFun K C x qual st ps f fd) (G : FnOk P w K mg base CX0 n f fd ps sp) : Mth P w K mg base C n x ps sp :=
  ⟨f, fd, G, h.M, h.b⟩
/-! ### promises -/
section
variable (K : PySem.W.Frag) (C : Addr)
def spKind : Sp := fun vs H Q _ => ∃ (R : Rd) (i k : Nat) (ps : List Nat) (t : T3), vs = [.ref R.r] ∧ RdAt K C R H i k ps ∧ R.ts[i]? = some t ∧ Q (.str t.kd) H
def spWord : Sp := fun vs H Q _ => ∃ (R : Rd) (i k : Nat) (ps : List Nat) (t : T3), vs = [.ref R.r] ∧ RdAt K C R H i k ps ∧ R.ts[i]? = some t ∧ Q (.str t.w) H
def spPlace : Sp := fun vs H Q _ => ∃ (R : Rd) (i k : Nat) (ps : List Nat) (t : T3), vs = [.ref R.r] ∧ RdAt K C R H i k ps ∧ R.ts[i]? = some t ∧ Q (.int (t.pl : Nat)) H
def spTook : Sp := fun vs H Q _ => ∃ (R : Rd) (i k : Nat) (ps : List Nat) (t : T3), vs = [.ref R.r] ∧ RdAt K C R H i k ps ∧ R.ts[i]? = some t ∧ ∀ H', KeepR R H H' → RdAt K C R H' (i + 1) k ps → Q (.str t.w) H'
def spPasses : Sp := fun vs H Q _ => ∃ (R : Rd) (i k : Nat) (ps : List Nat) (t : T3) (z : Str), vs = [.ref R.r, .str z] ∧ RdAt K C R H i k ps ∧ R.ts[i]? = some t ∧ (t.w = z → ∀ H', KeepR R H H' → RdAt K C R H' (i + 1) k ps → Q (.bl true) H') ∧ (t.w ≠ z → Q (.bl false) H)
def spMust : Sp := fun vs H Q _ => ∃ (R : Rd) (i k : Nat) (ps : List Nat) (t : T3) (z : Str), vs = [.ref R.r, .str z] ∧ RdAt K C R H i k ps ∧ R.ts[i]? = some t ∧ t.w = z ∧ ∀ H', KeepR R H H' → RdAt K C R H' (i + 1) k ps → Q .non H'
def spName : Sp := fun vs H Q _ => ∃ (R : Rd) (i k : Nat) (ps : List Nat) (t : T3), vs = [.ref R.r] ∧ RdAt K C R H i k ps ∧ R.ts[i]? = some t ∧ t.kd = "name" ∧ ∀ H', KeepR R H H' → RdAt K C R H' (i + 1) k ps → Q (.str t.w) H'
def spIn : Sp := fun vs H Q _ => ∃ (R : Rd) (i k : Nat) (ps : List Nat), vs = [.ref R.r] ∧ RdAt K C R H i k ps ∧ k < 40 ∧ ∀ H', KeepR R H H' → RdAt K C R H' i (k + 1) ps → Q .non H'
def spOut : Sp := fun vs H Q _ => ∃ (R : Rd) (i k : Nat) (ps : List Nat), vs = [.ref R.r] ∧ RdAt K C R H i (k + 1) ps ∧ ∀ H', KeepR R H H' → RdAt K C R H' i k ps → Q .non H'
end
section
variable {P : Program} {w : World} {K : PySem.W.Frag} {mg : Str → Option Value} {base : Heap} {C : Addr}
theorem scKind : FnScope ["self"] ["self"] (defScope S_Reader_kind) := ⟨rfl, rfl, rfl, by decide +kernel, rfl, by decide +kernel, by decide +kernel⟩
theorem ok_kind {f : Addr} {fd : FuncData} (F : Fun K "kind" "Reader.kind" S_Reader_kind f fd) (T : RTxt K mg C) : FnOk P w K mg base CX0 1 f fd ["self"] (spKind K C) := by
  refine F.ok scKind (fun vs H Q E h => ?_) (fun cdv A outer s0 H vs Q E hr h => ?_)
  · obtain ⟨R, i, k, ps, t, rfl, _⟩ := h
    rfl
  obtain ⟨R, i, k, ps, t, rfl, h, ht, q⟩ := h
  obtain ⟨a, ea, hT⟩ := h.word ht
  obtain ⟨dx, ei⟩ := h.ins
  refine ⟨_, pss_one (ps_ret (pe_ix ix_tup (pe_ix ix_list (pe_fld (pv 0) rfl) (pe_fld (pv 0) rfl) (fun _ _ => rfl)) pe_int (fun _ _ => rfl))), ?_⟩
  refine ⟨_, rfl, R.r, C, dx, _, _, rfl, ei, T.cl, T.nT, rf_told _ _ _ _, _, rfl, R.r, C, dx, _, _, rfl, ei, T.cl, T.nA, rf_at _ _ _ _, R.tA, _, _, _, rfl, rfl, SqL.of h.told, atI_nat ea, ?_⟩
  exact ⟨a, _, _, _, rfl, rfl, hT, rfl, q⟩
theorem scWord : FnScope ["self"] ["self"] (defScope S_Reader_word) := ⟨rfl, rfl, rfl, by decide +kernel, rfl, by decide +kernel, by decide +kernel⟩
theorem ok_word {f : Addr} {fd : FuncData} (F : Fun K "word" "Reader.word" S_Reader_word f fd) (T : RTxt K mg C) : FnOk P w K mg base CX0 1 f fd ["self"] (spWord K C) := by
  refine F.ok scWord (fun vs H Q E h => ?_) (fun cdv A outer s0 H vs Q E hr h => ?_)
  · obtain ⟨R, i, k, ps, t, rfl, _⟩ := h
    rfl
  obtain ⟨R, i, k, ps, t, rfl, h, ht, q⟩ := h
  obtain ⟨a, ea, hT⟩ := h.word ht
  obtain ⟨dx, ei⟩ := h.ins
  refine ⟨_, pss_one (ps_ret (pe_ix ix_tup (pe_ix ix_list (pe_fld (pv 0) rfl) (pe_fld (pv 0) rfl) (fun _ _ => rfl)) pe_int (fun _ _ => rfl))), ?_⟩
  refine ⟨_, rfl, R.r, C, dx, _, _, rfl, ei, T.cl, T.nT, rf_told _ _ _ _, _, rfl, R.r, C, dx, _, _, rfl, ei, T.cl, T.nA, rf_at _ _ _ _, R.tA, _, _, _, rfl, rfl, SqL.of h.told, atI_nat ea, ?_⟩
  exact ⟨a, _, _, _, rfl, rfl, hT, rfl, q⟩
theorem scPlace : FnScope ["self"] ["self"] (defScope S_Reader_place) := ⟨rfl, rfl, rfl, by decide +kernel, rfl, by decide +kernel, by decide +kernel⟩
theorem ok_place {f : Addr} {fd : FuncData} (F : Fun K "place" "Reader.place" S_Reader_place f fd) (T : RTxt K mg C) : FnOk P w K mg base CX0 1 f fd ["self"] (spPlace K C) := by
  refine F.ok scPlace (fun vs H Q E h => ?_) (fun cdv A outer s0 H vs Q E hr h => ?_)
  · obtain ⟨R, i, k, ps, t, rfl, _⟩ := h
    rfl
  obtain ⟨R, i, k, ps, t, rfl, h, ht, q⟩ := h
  obtain ⟨a, ea, hT⟩ := h.word ht
  obtain ⟨dx, ei⟩ := h.ins
  refine ⟨_, pss_one (ps_ret (pe_ix ix_tup (pe_ix ix_list (pe_fld (pv 0) rfl) (pe_fld (pv 0) rfl) (fun _ _ => rfl)) pe_int (fun _ _ => rfl))), ?_⟩
  refine ⟨_, rfl, R.r, C, dx, _, _, rfl, ei, T.cl, T.nT, rf_told _ _ _ _, _, rfl, R.r, C, dx, _, _, rfl, ei, T.cl, T.nA, rf_at _ _ _ _, R.tA, _, _, _, rfl, rfl, SqL.of h.told, atI_nat ea, ?_⟩
  exact ⟨a, _, _, _, rfl, rfl, hT, rfl, q⟩
theorem scTook : FnScope ["self", "word"] ["self"] (defScope S_Reader_taken) := ⟨rfl, rfl, rfl, by decide +kernel, rfl, by decide +kernel, by decide +kernel⟩
theorem ok_took {f : Addr} {fd : FuncData} (F : Fun K "taken" "Reader.taken" S_Reader_taken f fd) (T : RTxt K mg C) (hW : Mth P w K mg base C 1 "word" ["self"] (spWord K C)) : FnOk P w K mg base CX0 2 f fd ["self"] (spTook K C) := by
  refine F.ok scTook (fun vs H Q E h => ?_) (fun cdv A outer s0 H vs Q E hr h => ?_)
  · obtain ⟨R, i, k, ps, t, rfl, _⟩ := h
    rfl
  obtain ⟨R, i, k, ps, t, rfl, h, ht, q⟩ := h
  obtain ⟨fW, fdW, GW, mW, bW⟩ := hW.ex
  obtain ⟨dx, ei⟩ := h.ins
  refine ⟨_, pss_cons (ps_set (i := 1) scTook.nd rfl (Or.inl rfl) (pe_meth0 (pv 0) T.cl mW GW hr bW .nil pass0))
    (pss_cons (ps_fldaug (pv 0) pe_int in_add) (pss_one (ps_ret (pv 1)))), ?_⟩
  refine ⟨_, rfl, R.r, dx, _, rfl, ei, rf_no _ _ _ _ (by decide +kernel), R, i, k, ps, t, rfl, h, ht, ?_⟩
  refine ⟨_, rfl, R.r, C, dx, _, _, rfl, ei, T.cl, T.nA, rf_at _ _ _ _, _, _, rfl, rfl, dx, _, ei, rf_len _ _ _ _, ?_⟩
  show ∃ _, _
  refine ⟨_, rfl, ?_⟩
  have e : ((i : Nat) : Int) + 1 = ((i + 1 : Nat) : Int) := rfl
  rw [e, rf_put_at]
  obtain ⟨h1, kp⟩ := h.move (dx := dx) (i + 1) k
  exact q _ kp h1
theorem scPasses : FnScope ["self", "word"] ["self", "word"] (defScope S_Reader_passes) := ⟨rfl, rfl, rfl, by decide +kernel, rfl, by decide +kernel, by decide +kernel⟩
theorem ok_passes {f : Addr} {fd : FuncData} (F : Fun K "passes" "Reader.passes" S_Reader_passes f fd) (T : RTxt K mg C) (hW : Mth P w K mg base C 1 "word" ["self"] (spWord K C)) : FnOk P w K mg base CX0 2 f fd ["self", "word"] (spPasses K C) := by
  refine F.ok scPasses (fun vs H Q E h => ?_) (fun cdv A outer s0 H vs Q E hr h => ?_)
  · obtain ⟨R, i, k, ps, t, z, rfl, _⟩ := h
    rfl
  obtain ⟨R, i, k, ps, t, z, rfl, h, ht, q1, q2⟩ := h
  obtain ⟨fW, fdW, GW, mW, bW⟩ := hW.ex
  obtain ⟨dx, ei⟩ := h.ins
  refine ⟨_, pss_cons (ps_if (pt_cmpR op_ne (pe_meth0 (pv 0) T.cl mW GW hr bW .nil pass0) (pv 1) (nomark _)) (pss_one (ps_ret pe_bl)) pss_nil)
    (pss_cons (ps_fldaug (pv 0) pe_int in_add) (pss_one (ps_ret pe_bl))), ?_⟩
  refine ⟨_, rfl, R.r, dx, _, rfl, ei, rf_no _ _ _ _ (by decide +kernel), R, i, k, ps, t, rfl, h, ht, ?_⟩
  refine ⟨_, rfl, rfl, _, rfl, ?_⟩
  by_cases c : t.w = z
  · rw [decide_eq_true (by rw [c])]
    refine iteF ?_
    refine ⟨_, rfl, R.r, C, dx, _, _, rfl, ei, T.cl, T.nA, rf_at _ _ _ _, _, _, rfl, rfl, dx, _, ei, rf_len _ _ _ _, ?_⟩
    have e : ((i : Nat) : Int) + 1 = ((i + 1 : Nat) : Int) := rfl
    rw [e, rf_put_at]
    obtain ⟨h1, kp⟩ := h.move (dx := dx) (i + 1) k
    exact q1 c _ kp h1
  · rw [decide_eq_false (fun e => c (by cases e; rfl))]
    exact iteT (q2 c)
theorem scMust : FnScope ["self", "word"] ["self", "word"] (defScope S_Reader_must_pass) := ⟨rfl, rfl, rfl, by decide +kernel, rfl, by decide +kernel, by decide +kernel⟩
theorem ok_must {f : Addr} {fd : FuncData} (F : Fun K "must_pass" "Reader.must_pass" S_Reader_must_pass f fd) (T : RTxt K mg C) (hP : Mth P w K mg base C 2 "passes" ["self", "word"] (spPasses K C)) : FnOk P w K mg base CX0 3 f fd ["self", "word"] (spMust K C) := by
  refine F.ok scMust (fun vs H Q E h => ?_) (fun cdv A outer s0 H vs Q E hr h => ?_)
  · obtain ⟨R, i, k, ps, t, z, rfl, _⟩ := h
    rfl
  obtain ⟨R, i, k, ps, t, z, rfl, h, ht, hz, q⟩ := h
  obtain ⟨fP, fdP, GP, mP, bP⟩ := hP.ex
  obtain ⟨dx, ei⟩ := h.ins
  refine ⟨_, pss_one (ps_if (pt_not (pt_val (pe_meth (pv 0) T.cl mP GP hr bP .nil pass0 (pa_cons (pv 1) pa_nil)))) pss_never pss_nil), ?_⟩
  refine ⟨_, rfl, R.r, dx, _, rfl, ei, rf_no _ _ _ _ (by decide +kernel), _, rfl, R, i, k, ps, t, z, rfl, h, ht, fun _ H' kp h1 => ⟨true, rfl, iteF (q H' kp h1)⟩, fun c => absurd hz c⟩
theorem scName : FnScope ["self"] ["self"] (defScope S_Reader_name) := ⟨rfl, rfl, rfl, by decide +kernel, rfl, by decide +kernel, by decide +kernel⟩
theorem ok_name {f : Addr} {fd : FuncData} (F : Fun K "name" "Reader.name" S_Reader_name f fd) (T : RTxt K mg C) (hK : Mth P w K mg base C 1 "kind" ["self"] (spKind K C)) (hT : Mth P w K mg base C 2 "taken" ["self"] (spTook K C)) : FnOk P w K mg base CX0 3 f fd ["self"] (spName K C) := by
  refine F.ok scName (fun vs H Q E h => ?_) (fun cdv A outer s0 H vs Q E hr h => ?_)
  · obtain ⟨R, i, k, ps, t, rfl, _⟩ := h
    rfl
  obtain ⟨R, i, k, ps, t, rfl, h, ht, hn, q⟩ := h
  obtain ⟨fK, fdK, GK, mK, bK⟩ := hK.ex
  obtain ⟨fT, fdT, GT, mT, bT⟩ := hT.ex
  obtain ⟨dx, ei⟩ := h.ins
  have hr1 : Room 1 _ := hr.mono (by decide)
  refine ⟨_, pss_cons (ps_if (pt_cmpR op_ne (pe_meth0 (pv 0) T.cl mK GK hr1 bK .nil pass0) pe_str (nomark _)) pss_never pss_nil)
    (pss_one (ps_ret (pe_meth0 (pv 0) T.cl mT GT hr bT .nil pass0))), ?_⟩
  refine ⟨_, rfl, R.r, dx, _, rfl, ei, rf_no _ _ _ _ (by decide +kernel), R, i, k, ps, t, rfl, h, ht, ?_⟩
  refine ⟨rfl, _, rfl, ?_⟩
  rw [hn, decide_eq_true rfl]
  refine iteF ?_
  exact ⟨_, rfl, R.r, dx, _, rfl, ei, rf_no _ _ _ _ (by decide +kernel), R, i, k, ps, t, rfl, h, ht, q⟩
theorem scIn : FnScope ["self"] ["self"] (defScope S_Reader_go_in) := ⟨rfl, rfl, rfl, by decide +kernel, rfl, by decide +kernel, by decide +kernel⟩
theorem ok_in {f : Addr} {fd : FuncData} (F : Fun K "go_in" "Reader.go_in" S_Reader_go_in f fd) (T : RTxt K mg C) : FnOk P w K mg base CX0 1 f fd ["self"] (spIn K C) := by
  refine F.ok scIn (fun vs H Q E h => ?_) (fun cdv A outer s0 H vs Q E hr h => ?_)
  · obtain ⟨R, i, k, ps, rfl, _⟩ := h
    rfl
  obtain ⟨R, i, k, ps, rfl, h, hk, q⟩ := h
  obtain ⟨tk, mN⟩ := T.mst
  obtain ⟨dx, ei⟩ := h.ins
  refine ⟨_, pss_cons (ps_if (pt_cmpR op_eq (pe_fld (pv 0) rfl) (pe_glob (v := .int 40) rfl mN ⟨_, rfl⟩) (nomark _)) pss_never pss_nil)
    (pss_one (ps_fldaug (pv 0) pe_int in_add)), ?_⟩
  refine ⟨_, rfl, R.r, C, dx, _, _, rfl, ei, T.cl, T.nN, rf_nests _ _ _ _, rfl, _, rfl, ?_⟩
  rw [decide_eq_false (fun e => by injection e with e; omega)]
  refine iteF ?_
  refine ⟨_, rfl, R.r, C, dx, _, _, rfl, ei, T.cl, T.nN, rf_nests _ _ _ _, _, _, rfl, rfl, dx, _, ei, rf_len _ _ _ _, ?_⟩
  have e : ((k : Nat) : Int) + 1 = ((k + 1 : Nat) : Int) := rfl
  rw [e, rf_put_nests]
  obtain ⟨h1, kp⟩ := h.move (dx := dx) i (k + 1)
  exact q _ kp h1
theorem scOut : FnScope ["self"] ["self"] (defScope S_Reader_come_out) := ⟨rfl, rfl, rfl, by decide +kernel, rfl, by decide +kernel, by decide +kernel⟩
theorem ok_out {f : Addr} {fd : FuncData} (F : Fun K "come_out" "Reader.come_out" S_Reader_come_out f fd) (T : RTxt K mg C) : FnOk P w K mg base CX0 1 f fd ["self"] (spOut K C) := by
  refine F.ok scOut (fun vs H Q E h => ?_) (fun cdv A outer s0 H vs Q E hr h => ?_)
  · obtain ⟨R, i, k, ps, rfl, _⟩ := h
    rfl
  obtain ⟨R, i, k, ps, rfl, h, q⟩ := h
  obtain ⟨dx, ei⟩ := h.ins
  refine ⟨_, pss_one (ps_fldaug (pv 0) pe_int in_sub), ?_⟩
  refine ⟨_, rfl, R.r, C, dx, _, _, rfl, ei, T.cl, T.nN, rf_nests _ _ _ _, _, _, rfl, rfl, dx, _, ei, rf_len _ _ _ _, ?_⟩
  have e : ((k + 1 : Nat) : Int) - 1 = ((k : Nat) : Int) := by omega
  rw [e, rf_put_nests]
  obtain ⟨h1, kp⟩ := h.move (dx := dx) i k
  exact q _ kp h1
end
end KD

/-! The reader's expressions. -/
namespace KD
open PySem L2 TL
open K0 (num)
/-- the words from the place i on -/
def At (R : Rd) (i : Nat) (l : List Tk) : Prop := (R.ts.drop i).map T3.tk = l
theorem At.head {R : Rd} {i : Nat} {w : Tk} {l : List Tk} (h : At R i (w :: l)) : ∃ t, R.ts[i]? = some t ∧ t.tk = w ∧ At R (i + 1) l := by
  unfold At at h
  cases e : R.ts.drop i with
  | nil => rw [e] at h; cases h
  | cons t r =>
    rw [e, List.map_cons] at h
    injection h with h1 h2
    refine ⟨t, ?_, h1, ?_⟩
    · have q : (R.ts.drop i)[0]? = some t := by rw [e]; rfl
      rwa [List.getElem?_drop, Nat.add_zero] at q
    · show (R.ts.drop (i + 1)).map T3.tk = l
      rw [← List.drop_drop, e]
      exact h2
theorem At.app {R : Rd} : ∀ {t : List Tk} {i : Nat} {l : List Tk}, At R i (t ++ l) → At R (i + t.length) l
  | [], i, l, h => h
  | w :: t, i, l, h => by
    obtain ⟨x, _, _, h2⟩ := At.head (l := t ++ l) h
    have q := At.app h2
    rw [List.length_cons]
    have e : i + (t.length + 1) = i + 1 + t.length := by omega
    rw [e]
    exact q
theorem At.lt {R : Rd} {i : Nat} {w : Tk} {l : List Tk} (h : At R i (w :: l)) : i < R.ts.length := by
  obtain ⟨t, e, _⟩ := h.head
  exact (List.getElem?_eq_some_iff.mp e).1
theorem T3.of {t : T3} {a b : Str} (h : t.tk = (a, b)) : t.kd = a ∧ t.w = b := by
  injection h with h1 h2
  exact ⟨h1, h2⟩
theorem G.ne {d l : Nat} {e : Ex} {t : List Tk} (h : G d l e t) : t ≠ [] := by
  induction h with
  | black _ _ _ _ => simp
  | par _ _ => simp
  | cmp _ _ _ _ _ => simp
  | left _ _ _ _ _ _ => simp
  | up _ i => exact i
  | _ => simp
section
variable (K : PySem.W.Frag) (C : Addr)
/-- what an expression's reading hands back: its tree, the words taken -/
def ExEnd (R : Rd) (H : Hp) (i k : Nat) (ps : List Nat) (e : Ex) (t : List Tk) (Q : VK) : Prop := ∀ H' v, KeepR R H H' → RdAt K C R H' (i + t.length) k ps → Dp K H' v e.d → Q v H'
def spJoined (d l : Nat) : Sp := fun vs H Q _ => ∃ (R : Rd) (i k : Nat) (ps : List Nat) (e : Ex) (t : List Tk) (u : Tk) (rest : List Tk), vs = [.ref R.r, .int (l : Nat)] ∧ RdAt K C R H i k ps ∧ At R i (t ++ u :: rest) ∧ G d l e t ∧ Stop l u.2 ∧ wfE e ∧ k + d ≤ 40 ∧ ExEnd K C R H i k ps e t Q
def spRExpr (d : Nat) : Sp := fun vs H Q _ => ∃ (R : Rd) (i k : Nat) (ps : List Nat) (e : Ex) (t : List Tk) (u : Tk) (rest : List Tk), vs = [.ref R.r] ∧ RdAt K C R H i k ps ∧ At R i (t ++ u :: rest) ∧ G d 0 e t ∧ Stop 0 u.2 ∧ wfE e ∧ k + d ≤ 40 ∧ ExEnd K C R H i k ps e t Q
def spPart5 (d : Nat) : Sp := fun vs H Q _ => ∃ (R : Rd) (i k : Nat) (ps : List Nat) (e : Ex) (t : List Tk) (rest : List Tk), vs = [.ref R.r] ∧ RdAt K C R H i k ps ∧ At R i (t ++ rest) ∧ G d 5 e t ∧ wfE e ∧ k + d ≤ 40 ∧ ExEnd K C R H i k ps e t Q
def NestOf (k : Nat) (e : Ex) (t : List Tk) : Prop := (∃ a b ta tb, e = .bin .black a b ∧ t = [kK "black", kM "("] ++ ta ++ [kM ","] ++ tb ++ [kM ")"] ∧ G k 0 a ta ∧ G k 0 b tb) ∨ (∃ a ta, e = .un .neg a ∧ t = kM "-" :: ta ∧ G k 5 a ta) ∨ (∃ ta, t = [kM "("] ++ ta ++ [kM ")"] ∧ G k 0 e ta)
def spNest (d : Nat) : Sp := fun vs H Q _ => ∃ (R : Rd) (i k : Nat) (ps : List Nat) (e : Ex) (t : List Tk) (rest : List Tk), vs = [.ref R.r] ∧ RdAt K C R H i k ps ∧ At R i (t ++ rest) ∧ NestOf d e t ∧ wfE e ∧ k + d ≤ 40 ∧ ExEnd K C R H i k ps e t Q
def spDenied (d : Nat) : Sp := fun vs H Q _ => ∃ (R : Rd) (i k : Nat) (ps : List Nat) (e : Ex) (t : List Tk) (u : Tk) (rest : List Tk), vs = [.ref R.r] ∧ RdAt K C R H i k ps ∧ At R i (kK "not" :: t ++ u :: rest) ∧ G d 2 e t ∧ Stop 2 u.2 ∧ wfE e ∧ k + d + 1 ≤ 40 ∧ ExEnd K C R H i k ps (.un .not e) (kK "not" :: t) Q
end
section
variable {P : Program} {w : World} {K : PySem.W.Frag} {mg : Str → Option Value} {base : Heap} {C : Addr}
theorem scExpr0 : FnScope ["self"] ["self"] (defScope S_Reader_expression) := ⟨rfl, rfl, rfl, by decide +kernel, rfl, by decide +kernel, by decide +kernel⟩
theorem ok_rexpr {n d : Nat} {f : Addr} {fd : FuncData} (F : Fun K "expression" "Reader.expression" S_Reader_expression f fd) (T : RTxt K mg C) (hJ : Mth P w K mg base C n "joined" ["self", "level"] (spJoined K C d 0)) : FnOk P w K mg base CX0 (n + 1) f fd ["self"] (spRExpr K C d) := by
  refine F.ok scExpr0 (fun vs H Q E h => ?_) (fun cdv A outer s0 H vs Q E hr h => ?_)
  · obtain ⟨R, i, k, ps, e, t, u, rest, rfl, _⟩ := h
    rfl
  obtain ⟨R, i, k, ps, e, t, u, rest, rfl, h, ha, hg, hs, hw, hk, q⟩ := h
  obtain ⟨fJ, fdJ, GJ, mJ, bJ⟩ := hJ.ex
  obtain ⟨dx, ei⟩ := h.ins
  refine ⟨_, pss_one (ps_ret (pe_meth (pv 0) T.cl mJ GJ hr bJ .nil pass0 (pa_cons pe_int pa_nil))), ?_⟩
  exact ⟨_, rfl, R.r, dx, _, rfl, ei, rf_no _ _ _ _ (by decide +kernel), R, i, k, ps, e, t, u, rest, rfl, h, ha, hg, hs, hw, hk, q⟩
theorem scDenied : FnScope ["self", "word", "tree"] ["self"] (defScope S_Reader_denied) := ⟨rfl, rfl, rfl, by decide +kernel, rfl, by decide +kernel, by decide +kernel⟩
theorem ok_denied {n d : Nat} {f : Addr} {fd : FuncData} (F : Fun K "denied" "Reader.denied" S_Reader_denied f fd) (T : RTxt K mg C) (hJ : Mth P w K mg base C n "joined" ["self", "level"] (spJoined K C d 2))
    (hI : Mth P w K mg base C 1 "go_in" ["self"] (spIn K C)) (hO : Mth P w K mg base C 1 "come_out" ["self"] (spOut K C)) (hT : Mth P w K mg base C 2 "taken" ["self"] (spTook K C)) (hn : 2 ≤ n) : FnOk P w K mg base CX0 (n + 1) f fd ["self"] (spDenied K C d) := by
  refine F.ok scDenied (fun vs H Q E h => ?_) (fun cdv A outer s0 H vs Q E hr h => ?_)
  · obtain ⟨R, i, k, ps, e, t, u, rest, rfl, _⟩ := h
    rfl
  obtain ⟨R, i, k, ps, e, t, u, rest, rfl, h, ha, hg, hs, hw, hk, q⟩ := h
  obtain ⟨fJ, fdJ, GJ, mJ, bJ⟩ := hJ.ex
  obtain ⟨fI, fdI, GI, mI, bI⟩ := hI.ex
  obtain ⟨fO, fdO, GO, mO, bO⟩ := hO.ex
  obtain ⟨fT, fdT, GT, mT, bT⟩ := hT.ex
  obtain ⟨mC⟩ := T.cmp
  rename_i mC
  have hr1 : Room 1 _ := hr.mono (by omega)
  have hr2 : Room 2 _ := hr.mono hn
  obtain ⟨dx, ei⟩ := h.ins
  refine ⟨_, pss_cons (ps_expr (pe_meth0 (pv 0) T.cl mI GI hr1 bI .nil pass0))
    (pss_cons (ps_set (i := 1) scDenied.nd rfl (Or.inl rfl) (pe_meth0 (pv 0) T.cl mT GT hr2 bT .nil pass0))
    (pss_cons (ps_set (i := 2) scDenied.nd rfl (Or.inl rfl) (pe_tup (pa_cons (pv 1) (pa_cons (pe_meth (pv 0) T.cl mJ GJ hr bJ .nil pass0 (pa_cons (pe_glob (v := .int 2) rfl mC ⟨_, rfl⟩) pa_nil)) pa_nil))))
    (pss_cons (ps_expr (pe_meth0 (pv 0) T.cl mO GO hr1 bO .nil pass0))
    (pss_one (ps_ret (pv 2)))))), ?_⟩
  refine ⟨_, rfl, R.r, dx, _, rfl, ei, rf_no _ _ _ _ (by decide +kernel), R, i, k, ps, rfl, h, by omega, fun H1 k1 h1 => ?_⟩
  obtain ⟨x, hx, ex, ha1⟩ := At.head (l := t ++ u :: rest) ha
  obtain ⟨ek, ew⟩ := T3.of ex
  obtain ⟨dx1, ei1⟩ := h1.ins
  refine ⟨_, rfl, R.r, dx1, _, rfl, ei1, rf_no _ _ _ _ (by decide +kernel), R, i, k + 1, ps, x, rfl, h1, hx, fun H2 k2 h2 => ?_⟩
  obtain ⟨dx2, ei2⟩ := h2.ins
  rw [ew]
  refine ⟨_, rfl, _, rfl, R.r, dx2, _, rfl, ei2, rf_no _ _ _ _ (by decide +kernel), R, i + 1, k + 1, ps, e, t, u, rest, rfl, h2, ha1, hg, hs, hw, by omega, fun H3 v k3 h3 d3 => ?_⟩
  refine ⟨(by show 2 ≤ sizeLine; decide), fun p np => ?_⟩
  have s4 := same_new np (.tup [.str "not", v])
  have h4 := h3.same s4
  obtain ⟨dx4, ei4⟩ := h4.ins
  refine ⟨_, rfl, R.r, dx4, _, rfl, ei4, rf_no _ _ _ _ (by decide +kernel), R, _, k, ps, rfl, h4, fun H5 k5 h5 => ?_⟩
  have d4 : Dp K _ (.ref p) (Ex.un .not e).d := Dp.new np (.cons (.str "not") (.cons d3 .nil))
  refine ⟨_, rfl, ?_⟩
  refine q H5 _ (((k1.trans k2).trans k3).trans ((KeepR.same s4).trans k5)) ?_ (Dp.kt (k5.kt h4) (tupD_E _) d4)
  rw [List.length_cons, show i + (t.length + 1) = i + 1 + t.length by omega]
  exact h5
end
end KD

/-! The reader's parts and nests. -/
namespace KD
open PySem L2 TL
open K0 (num)
section
variable {P : Program} {w : World} {K : PySem.W.Frag} {mg : Str → Option Value} {base : Heap} {C : Addr}
theorem stop_mark {z : Str} (h : decide (mkLv z = 9) = true) (l : Nat) : Stop l z := .inr (of_decide_eq_true h)
theorem scNest : FnScope ["self", "word", "first", "second"] ["self"] (defScope S_Reader_nest) := ⟨rfl, rfl, rfl, by decide +kernel, rfl, by decide +kernel, by decide +kernel⟩
theorem ok_nest {n d : Nat} {f : Addr} {fd : FuncData} (F : Fun K "nest" "Reader.nest" S_Reader_nest f fd) (T : RTxt K mg C) (hE : Mth P w K mg base C n "expression" ["self"] (spRExpr K C d)) (hP : Mth P w K mg base C n "part" ["self"] (spPart5 K C d))
    (hT : Mth P w K mg base C 2 "taken" ["self"] (spTook K C)) (hM : Mth P w K mg base C 3 "must_pass" ["self", "word"] (spMust K C)) (hn : 3 ≤ n) : FnOk P w K mg base CX0 (n + 1) f fd ["self"] (spNest K C d) := by
  refine F.ok scNest (fun vs H Q E h => ?_) (fun cdv A outer s0 H vs Q E hr h => ?_)
  · obtain ⟨R, i, k, ps, e, t, rest, rfl, _⟩ := h
    rfl
  obtain ⟨R, i, k, ps, e, t, rest, rfl, h, ha, hg, hw, hk, q⟩ := h
  obtain ⟨fE, fdE, GE, mE, bE⟩ := hE.ex
  obtain ⟨fP, fdP, GP, mP, bP⟩ := hP.ex
  obtain ⟨fT, fdT, GT, mT, bT⟩ := hT.ex
  obtain ⟨fM, fdM, GM, mM, bM⟩ := hM.ex
  have hr2 : Room 2 _ := hr.mono (by omega)
  have hr3 : Room 3 _ := hr.mono hn
  obtain ⟨dx, ei⟩ := h.ins
  have no : ∀ (A B : Addr) (i k : Nat), (rf A B i k).lookup ("taken" : Str) = none ∧ (rf A B i k).lookup ("must_pass" : Str) = none ∧ (rf A B i k).lookup ("part" : Str) = none ∧ (rf A B i k).lookup ("expression" : Str) = none := fun A B i k =>
    ⟨rf_no _ _ _ _ (by decide +kernel), rf_no _ _ _ _ (by decide +kernel), rf_no _ _ _ _ (by decide +kernel), rf_no _ _ _ _ (by decide +kernel)⟩
  refine ⟨_, pss_cons (ps_set (i := 1) scNest.nd rfl (Or.inl rfl) (pe_meth0 (pv 0) T.cl mT GT hr2 bT .nil pass0))
    (pss_cons (ps_if (pt_cmpR op_eq (pv 1) pe_str (nomark _)) (pss_one (ps_ret (pe_tup (pa_cons pe_str (pa_cons (pe_meth0 (pv 0) T.cl mP GP hr bP .nil pass0) pa_nil))))) pss_nil)
    (pss_cons (ps_if (pt_cmpR op_eq (pv 1) pe_str (nomark _)) (pss_one (ps_expr (pe_meth (pv 0) T.cl mM GM hr3 bM .nil pass0 (pa_cons pe_str pa_nil)))) pss_nil)
    (pss_cons (ps_set (i := 2) scNest.nd rfl (Or.inl rfl) (pe_meth0 (pv 0) T.cl mE GE hr bE .nil pass0))
    (pss_cons (ps_if (pt_cmpR op_eq (pv 1) pe_str (nomark _)) (pss_cons (ps_expr (pe_meth (pv 0) T.cl mM GM hr3 bM .nil pass0 (pa_cons pe_str pa_nil))) (pss_one (ps_ret (pv 2)))) pss_nil)
    (pss_cons (ps_expr (pe_meth (pv 0) T.cl mM GM hr3 bM .nil pass0 (pa_cons pe_str pa_nil)))
    (pss_cons (ps_set (i := 3) scNest.nd rfl (Or.inl rfl) (pe_meth0 (pv 0) T.cl mE GE hr bE .nil pass0))
    (pss_cons (ps_expr (pe_meth (pv 0) T.cl mM GM hr3 bM .nil pass0 (pa_cons pe_str pa_nil)))
    (pss_one (ps_ret (pe_tup (pa_cons (pv 1) (pa_cons (pv 2) (pa_cons (pv 3) pa_nil))))))))))))), ?_⟩
  rcases hg with ⟨a, b, ta, tb, rfl, rfl, ga, gb⟩ | ⟨a, ta, rfl, rfl, ga⟩ | ⟨ta, rfl, ga⟩
  · -- black
    have ha0 : At R i (kK "black" :: kM "(" :: (ta ++ kM "," :: (tb ++ kM ")" :: rest))) := by
      have e : [kK "black", kM "("] ++ ta ++ [kM ","] ++ tb ++ [kM ")"] ++ rest = kK "black" :: kM "(" :: (ta ++ kM "," :: (tb ++ kM ")" :: rest)) := by simp
      rw [← e]; exact ha
    obtain ⟨x0, hx0, ex0, ha1⟩ := ha0.head
    obtain ⟨x1, hx1, ex1, ha2⟩ := ha1.head
    obtain ⟨_, ew0⟩ := T3.of ex0
    obtain ⟨_, ew1⟩ := T3.of ex1
    refine ⟨_, rfl, R.r, dx, _, rfl, ei, (no _ _ _ _).1, R, i, k, ps, x0, rfl, h, hx0, fun H1 k1 h1 => ?_⟩
    rw [ew0]
    obtain ⟨dx1, ei1⟩ := h1.ins
    refine ⟨_, rfl, rfl, _, rfl, ?_⟩
    rw [show decide (V.str "black" = V.str "-") = false by decide +kernel]
    refine iteF ?_
    refine ⟨_, rfl, rfl, _, rfl, ?_⟩
    rw [show decide (V.str "black" = V.str "black") = true by decide +kernel]
    refine iteT ?_
    refine ⟨_, rfl, R.r, dx1, _, rfl, ei1, (no _ _ _ _).2.1, R, i + 1, k, ps, x1, _, rfl, h1, hx1, ew1, fun H2 k2 h2 => ?_⟩
    obtain ⟨dx2, ei2⟩ := h2.ins
    refine ⟨_, rfl, R.r, dx2, _, rfl, ei2, (no _ _ _ _).2.2.2, R, _, k, ps, a, ta, _, _, rfl, h2, ha2, ga, stop_mark (by decide +kernel) 0, hw.1, hk, fun H3 va k3 h3 d3 => ?_⟩
    obtain ⟨dx3, ei3⟩ := h3.ins
    obtain ⟨x3, hx3, ex3, ha3⟩ := (At.app ha2).head
    obtain ⟨_, ew3⟩ := T3.of ex3
    refine ⟨_, rfl, rfl, _, rfl, ?_⟩
    rw [show decide (V.str "black" = V.str "(") = false by decide +kernel]
    refine iteF ?_
    refine ⟨_, rfl, R.r, dx3, _, rfl, ei3, (no _ _ _ _).2.1, R, _, k, ps, x3, _, rfl, h3, hx3, ew3, fun H4 k4 h4 => ?_⟩
    obtain ⟨dx4, ei4⟩ := h4.ins
    refine ⟨_, rfl, R.r, dx4, _, rfl, ei4, (no _ _ _ _).2.2.2, R, _, k, ps, b, tb, _, _, rfl, h4, ha3, gb, stop_mark (by decide +kernel) 0, hw.2, hk, fun H5 vb k5 h5 d5 => ?_⟩
    obtain ⟨dx5, ei5⟩ := h5.ins
    obtain ⟨x5, hx5, ex5, ha5⟩ := (At.app ha3).head
    obtain ⟨_, ew5⟩ := T3.of ex5
    refine ⟨_, rfl, R.r, dx5, _, rfl, ei5, (no _ _ _ _).2.1, R, _, k, ps, x5, _, rfl, h5, hx5, ew5, fun H6 k6 h6 => ?_⟩
    refine ⟨_, rfl, _, rfl, _, rfl, (by show 3 ≤ sizeLine; decide), fun p np => ?_⟩
    have s7 := same_new np (.tup [.str "black", va, vb])
    have da : Dp K H6 va a.d := Dp.kt (((k4.kt h3).trans (k5.kt h4)).trans (k6.kt h5)) (tupD_E _) d3
    have db : Dp K H6 vb b.d := Dp.kt (k6.kt h5) (tupD_E _) d5
    refine q _ _ ((((k1.trans k2).trans k3).trans ((k4.trans k5).trans k6)).trans (KeepR.same s7)) ?_ (Dp.new np (.cons (.str "black") (.cons da (.cons db .nil))))
    have e : i + ([kK "black", kM "("] ++ ta ++ [kM ","] ++ tb ++ [kM ")"]).length = i + 1 + 1 + ta.length + 1 + tb.length + 1 := by
      simp only [List.length_append, List.length_cons, List.length_nil]
      omega
    rw [e]
    exact h6.same s7
  · -- a minus
    obtain ⟨x0, hx0, ex0, ha1⟩ := At.head (l := ta ++ rest) ha
    obtain ⟨_, ew0⟩ := T3.of ex0
    refine ⟨_, rfl, R.r, dx, _, rfl, ei, (no _ _ _ _).1, R, i, k, ps, x0, rfl, h, hx0, fun H1 k1 h1 => ?_⟩
    rw [ew0]
    obtain ⟨dx1, ei1⟩ := h1.ins
    refine ⟨_, rfl, rfl, _, rfl, ?_⟩
    rw [show decide (V.str "-" = V.str "-") = true by decide +kernel]
    refine iteT ?_
    refine ⟨_, rfl, R.r, dx1, _, rfl, ei1, (no _ _ _ _).2.2.1, R, _, k, ps, a, ta, rest, rfl, h1, ha1, ga, hw, hk, fun H3 va k3 h3 d3 => ?_⟩
    refine ⟨(by show 2 ≤ sizeLine; decide), fun p np => ?_⟩
    have s7 := same_new np (.tup [.str "neg", va])
    refine q _ _ ((k1.trans k3).trans (KeepR.same s7)) ?_ (Dp.new np (.cons (.str "neg") (.cons d3 .nil)))
    rw [List.length_cons, show i + (ta.length + 1) = i + 1 + ta.length by omega]
    exact h3.same s7
  · -- brackets
    have ha0 : At R i (kM "(" :: (ta ++ kM ")" :: rest)) := by
      have e : [kM "("] ++ ta ++ [kM ")"] ++ rest = kM "(" :: (ta ++ kM ")" :: rest) := by simp
      rw [← e]; exact ha
    obtain ⟨x0, hx0, ex0, ha1⟩ := ha0.head
    obtain ⟨_, ew0⟩ := T3.of ex0
    refine ⟨_, rfl, R.r, dx, _, rfl, ei, (no _ _ _ _).1, R, i, k, ps, x0, rfl, h, hx0, fun H1 k1 h1 => ?_⟩
    rw [ew0]
    obtain ⟨dx1, ei1⟩ := h1.ins
    refine ⟨_, rfl, rfl, _, rfl, ?_⟩
    rw [show decide (V.str "(" = V.str "-") = false by decide +kernel]
    refine iteF ?_
    refine ⟨_, rfl, rfl, _, rfl, ?_⟩
    rw [show decide (V.str "(" = V.str "black") = false by decide +kernel]
    refine iteF ?_
    refine ⟨_, rfl, R.r, dx1, _, rfl, ei1, (no _ _ _ _).2.2.2, R, _, k, ps, e, ta, _, _, rfl, h1, ha1, ga, stop_mark (by decide +kernel) 0, hw, hk, fun H3 va k3 h3 d3 => ?_⟩
    obtain ⟨dx3, ei3⟩ := h3.ins
    obtain ⟨x3, hx3, ex3, ha3⟩ := (At.app ha1).head
    obtain ⟨_, ew3⟩ := T3.of ex3
    refine ⟨_, rfl, rfl, _, rfl, ?_⟩
    rw [show decide (V.str "(" = V.str "(") = true by decide +kernel]
    refine iteT ?_
    refine ⟨_, rfl, R.r, dx3, _, rfl, ei3, (no _ _ _ _).2.1, R, _, k, ps, x3, _, rfl, h3, hx3, ew3, fun H4 k4 h4 => ?_⟩
    refine ⟨_, rfl, ?_⟩
    refine q _ _ ((k1.trans k3).trans k4) ?_ (Dp.kt (k4.kt h3) (tupD_E _) d3)
    have e2 : i + ([kM "("] ++ ta ++ [kM ")"]).length = i + 1 + ta.length + 1 := by
      simp only [List.length_append, List.length_cons, List.length_nil]
      omega
    rw [e2]
    exact h4
/-- the first word of a part that is a nest -/
theorem NestOf.first {k : Nat} {e : Ex} {t : List Tk} (h : NestOf k e t) : ∃ kd z ts, t = (kd, z) :: ts ∧ kd ≠ "number" ∧ kd ≠ "name" ∧ z ∉ (["rows", "cols"] : List Str) ∧ z ∈ (["black", "-", "("] : List Str) := by
  rcases h with ⟨a, b, ta, tb, rfl, rfl, ga, gb⟩ | ⟨a, ta, rfl, rfl, ga⟩ | ⟨ta, rfl, ga⟩
  · exact ⟨"key", "black", _, rfl, by decide +kernel⟩
  · exact ⟨"mark", "-", _, rfl, by decide +kernel⟩
  · exact ⟨"mark", "(", _, rfl, by decide +kernel⟩
theorem dec_strs (a b : Str) : decide (V.str a = V.str b) = decide (a = b) := by
  rw [Bool.eq_iff_iff, decide_eq_true_eq, decide_eq_true_eq]
  exact ⟨fun e => by cases e; rfl, fun e => by rw [e]⟩
theorem scPart5 : FnScope ["self", "tree"] ["self"] (defScope S_Reader_part) := ⟨rfl, rfl, rfl, by decide +kernel, rfl, by decide +kernel, by decide +kernel⟩
theorem ok_part5 {n d : Nat} {f : Addr} {fd : FuncData} (F : Fun K "part" "Reader.part" S_Reader_part f fd) (B : Blt mg) (T : RTxt K mg C) (hN : ∀ d', d = d' + 1 → Mth P w K mg base C n "nest" ["self"] (spNest K C d'))
    (hK : Mth P w K mg base C 1 "kind" ["self"] (spKind K C)) (hW : Mth P w K mg base C 1 "word" ["self"] (spWord K C)) (hI : Mth P w K mg base C 1 "go_in" ["self"] (spIn K C)) (hO : Mth P w K mg base C 1 "come_out" ["self"] (spOut K C)) (hT : Mth P w K mg base C 2 "taken" ["self"] (spTook K C)) (hn : 2 ≤ n) :
    FnOk P w K mg base CX0 (n + 1) f fd ["self"] (spPart5 K C d) := by
  refine F.ok scPart5 (fun vs H Q E h => ?_) (fun cdv A outer s0 H vs Q E hr h => ?_)
  · obtain ⟨R, i, k, ps, e, t, rest, rfl, _⟩ := h
    rfl
  obtain ⟨R, i, k, ps, e, t, rest, rfl, h, ha, hg, hw, hk, q⟩ := h
  obtain ⟨fK, fdK, GK, mK, bK⟩ := hK.ex
  obtain ⟨fW, fdW, GW, mW, bW⟩ := hW.ex
  obtain ⟨fI, fdI, GI, mI, bI⟩ := hI.ex
  obtain ⟨fO, fdO, GO, mO, bO⟩ := hO.ex
  obtain ⟨fT, fdT, GT, mT, bT⟩ := hT.ex
  have hr1 : Room 1 _ := hr.mono (by omega)
  have hr2 : Room 2 _ := hr.mono hn
  obtain ⟨dx, ei⟩ := h.ins
  have no : ∀ (A B : Addr) (i k : Nat), (rf A B i k).lookup ("kind" : Str) = none ∧ (rf A B i k).lookup ("word" : Str) = none ∧ (rf A B i k).lookup ("taken" : Str) = none ∧ (rf A B i k).lookup ("go_in" : Str) = none ∧ (rf A B i k).lookup ("come_out" : Str) = none ∧ (rf A B i k).lookup ("nest" : Str) = none := fun A B i k =>
    ⟨rf_no _ _ _ _ (by decide +kernel), rf_no _ _ _ _ (by decide +kernel), rf_no _ _ _ _ (by decide +kernel), rf_no _ _ _ _ (by decide +kernel), rf_no _ _ _ _ (by decide +kernel), rf_no _ _ _ _ (by decide +kernel)⟩
  have inr : ∀ (z : Str) (l : List Str), inV (.str z) (l.map V.str) = decide (z ∈ l) := in_strs
  rcases hg.part with ⟨m, rfl, rfl⟩ | ⟨x, rfl, rfl⟩ | ⟨rfl, rfl⟩ | ⟨rfl, rfl⟩ | ⟨d', rfl, hN0⟩ | h6
  · -- a number
    obtain ⟨x0, hx0, ex0, _⟩ := At.head (l := rest) ha
    obtain ⟨ek0, ew0⟩ := T3.of ex0
    refine ⟨_, pss_cons (ps_if (pt_cmpR op_eq (pe_meth0 (pv 0) T.cl mK GK hr1 bK .nil pass0) pe_str (nomark _)) (pss_one (ps_ret (pe_tup (pa_cons pe_str (pa_cons (pe_callTy call_int_str (by rfl) B.int (by decide +kernel) (pa_cons (pe_meth0 (pv 0) T.cl mT GT hr2 bT .nil pass0) pa_nil)) pa_nil))))) pss_nil) pss_never, ?_⟩
    refine ⟨_, rfl, R.r, dx, _, rfl, ei, (no _ _ _ _).1, R, i, k, ps, x0, rfl, h, hx0, ?_⟩
    refine ⟨rfl, _, rfl, ?_⟩
    rw [ek0, decide_eq_true rfl]
    refine iteT ?_
    refine ⟨_, rfl, R.r, dx, _, rfl, ei, (no _ _ _ _).2.2.1, R, i, k, ps, x0, rfl, h, hx0, fun H1 k1 h1 => ?_⟩
    rw [ew0]
    have hm : m < 1000000 := hw
    have hl := K0.num_len hm
    refine ⟨_, (m : Nat), rfl, int_num (by rw [← K0.tl_num', ← len_tl]; omega), by omega, ?_⟩
    refine ⟨(by show 2 ≤ sizeLine; decide), fun p np => ?_⟩
    have s2 := same_new np (.tup [.str "num", .int (m : Nat)])
    exact q _ _ (k1.trans (KeepR.same s2)) (h1.same s2) (Dp.new np (.cons (.str "num") (.cons (.int _) .nil)))
  · -- a name
    obtain ⟨x0, hx0, ex0, _⟩ := At.head (l := rest) ha
    obtain ⟨ek0, ew0⟩ := T3.of ex0
    refine ⟨_, pss_cons (ps_if (pt_cmpR op_eq (pe_meth0 (pv 0) T.cl mK GK hr1 bK .nil pass0) pe_str (nomark _)) pss_never pss_nil)
      (pss_cons (ps_if (pt_cmpR op_eq (pe_meth0 (pv 0) T.cl mK GK hr1 bK .nil pass0) pe_str (nomark _)) (pss_one (ps_ret (pe_tup (pa_cons pe_str (pa_cons (pe_meth0 (pv 0) T.cl mT GT hr2 bT .nil pass0) pa_nil))))) pss_nil) pss_never), ?_⟩
    refine ⟨_, rfl, R.r, dx, _, rfl, ei, (no _ _ _ _).1, R, i, k, ps, x0, rfl, h, hx0, ?_⟩
    refine ⟨rfl, _, rfl, ?_⟩
    rw [ek0, show decide (V.str "name" = V.str "number") = false by decide +kernel]
    refine iteF ?_
    refine ⟨_, rfl, R.r, dx, _, rfl, ei, (no _ _ _ _).1, R, i, k, ps, x0, rfl, h, hx0, ?_⟩
    refine ⟨rfl, _, rfl, ?_⟩
    rw [ek0, decide_eq_true rfl]
    refine iteT ?_
    refine ⟨_, rfl, R.r, dx, _, rfl, ei, (no _ _ _ _).2.2.1, R, i, k, ps, x0, rfl, h, hx0, fun H1 k1 h1 => ?_⟩
    rw [ew0]
    refine ⟨(by show 2 ≤ sizeLine; decide), fun p np => ?_⟩
    have s2 := same_new np (.tup [.str "name", .str x])
    exact q _ _ (k1.trans (KeepR.same s2)) (h1.same s2) (Dp.new np (.cons (.str "name") (.cons (.str x) .nil)))
  · -- rows
    obtain ⟨x0, hx0, ex0, _⟩ := At.head (l := rest) ha
    obtain ⟨ek0, ew0⟩ := T3.of ex0
    refine ⟨_, pss_cons (ps_if (pt_cmpR op_eq (pe_meth0 (pv 0) T.cl mK GK hr1 bK .nil pass0) pe_str (nomark _)) pss_never pss_nil)
      (pss_cons (ps_if (pt_cmpR op_eq (pe_meth0 (pv 0) T.cl mK GK hr1 bK .nil pass0) pe_str (nomark _)) pss_never pss_nil)
      (pss_cons (ps_if (pt_cmpR op_in_seq (pe_meth0 (pv 0) T.cl mW GW hr1 bW .nil pass0) (pe_tup (pa_cons pe_str (pa_cons pe_str pa_nil))) (by rfl)) (pss_one (ps_ret (pe_tup (pa_cons (pe_meth0 (pv 0) T.cl mT GT hr2 bT .nil pass0) pa_nil)))) pss_nil) pss_never)), ?_⟩
    refine ⟨_, rfl, R.r, dx, _, rfl, ei, (no _ _ _ _).1, R, i, k, ps, x0, rfl, h, hx0, ?_⟩
    refine ⟨rfl, _, rfl, ?_⟩
    rw [ek0, show decide (V.str "key" = V.str "number") = false by decide +kernel]
    refine iteF ?_
    refine ⟨_, rfl, R.r, dx, _, rfl, ei, (no _ _ _ _).1, R, i, k, ps, x0, rfl, h, hx0, ?_⟩
    refine ⟨rfl, _, rfl, ?_⟩
    rw [ek0, show decide (V.str "key" = V.str "name") = false by decide +kernel]
    refine iteF ?_
    refine ⟨_, rfl, R.r, dx, _, rfl, ei, (no _ _ _ _).2.1, R, i, k, ps, x0, rfl, h, hx0, ?_⟩
    refine ⟨(by show 2 ≤ sizeLine; decide), fun p np => ⟨p, _, rfl, .inr (SqT.of upd_same), rfl, rfl, _, rfl, ?_⟩⟩
    have s1 := same_new np (.tup [.str "rows", .str "cols"])
    have h1 := h.same s1
    obtain ⟨dx1, ei1⟩ := h1.ins
    show if inV (.str x0.w) ((["rows", "cols"] : List Str).map V.str) = true then _ else _
    rw [inr, ew0, show decide (("rows" : Str) ∈ (["rows", "cols"] : List Str)) = true by decide +kernel]
    refine iteT ?_
    refine ⟨_, rfl, R.r, dx1, _, rfl, ei1, (no _ _ _ _).2.2.1, R, i, k, ps, x0, rfl, h1, hx0, fun H2 k2 h2 => ?_⟩
    rw [ew0]
    refine ⟨(by show 1 ≤ sizeLine; decide), fun p np => ?_⟩
    have s2 := same_new np (.tup [.str "rows"])
    exact q _ _ ((KeepR.same s1).trans (k2.trans (KeepR.same s2))) (h2.same s2) (Dp.new np (.cons (.str "rows") .nil))
  · -- cols
    obtain ⟨x0, hx0, ex0, _⟩ := At.head (l := rest) ha
    obtain ⟨ek0, ew0⟩ := T3.of ex0
    refine ⟨_, pss_cons (ps_if (pt_cmpR op_eq (pe_meth0 (pv 0) T.cl mK GK hr1 bK .nil pass0) pe_str (nomark _)) pss_never pss_nil)
      (pss_cons (ps_if (pt_cmpR op_eq (pe_meth0 (pv 0) T.cl mK GK hr1 bK .nil pass0) pe_str (nomark _)) pss_never pss_nil)
      (pss_cons (ps_if (pt_cmpR op_in_seq (pe_meth0 (pv 0) T.cl mW GW hr1 bW .nil pass0) (pe_tup (pa_cons pe_str (pa_cons pe_str pa_nil))) (by rfl)) (pss_one (ps_ret (pe_tup (pa_cons (pe_meth0 (pv 0) T.cl mT GT hr2 bT .nil pass0) pa_nil)))) pss_nil) pss_never)), ?_⟩
    refine ⟨_, rfl, R.r, dx, _, rfl, ei, (no _ _ _ _).1, R, i, k, ps, x0, rfl, h, hx0, ?_⟩
    refine ⟨rfl, _, rfl, ?_⟩
    rw [ek0, show decide (V.str "key" = V.str "number") = false by decide +kernel]
    refine iteF ?_
    refine ⟨_, rfl, R.r, dx, _, rfl, ei, (no _ _ _ _).1, R, i, k, ps, x0, rfl, h, hx0, ?_⟩
    refine ⟨rfl, _, rfl, ?_⟩
    rw [ek0, show decide (V.str "key" = V.str "name") = false by decide +kernel]
    refine iteF ?_
    refine ⟨_, rfl, R.r, dx, _, rfl, ei, (no _ _ _ _).2.1, R, i, k, ps, x0, rfl, h, hx0, ?_⟩
    refine ⟨(by show 2 ≤ sizeLine; decide), fun p np => ⟨p, _, rfl, .inr (SqT.of upd_same), rfl, rfl, _, rfl, ?_⟩⟩
    have s1 := same_new np (.tup [.str "rows", .str "cols"])
    have h1 := h.same s1
    obtain ⟨dx1, ei1⟩ := h1.ins
    show if inV (.str x0.w) ((["rows", "cols"] : List Str).map V.str) = true then _ else _
    rw [inr, ew0, show decide (("cols" : Str) ∈ (["rows", "cols"] : List Str)) = true by decide +kernel]
    refine iteT ?_
    refine ⟨_, rfl, R.r, dx1, _, rfl, ei1, (no _ _ _ _).2.2.1, R, i, k, ps, x0, rfl, h1, hx0, fun H2 k2 h2 => ?_⟩
    rw [ew0]
    refine ⟨(by show 1 ≤ sizeLine; decide), fun p np => ?_⟩
    have s2 := same_new np (.tup [.str "cols"])
    exact q _ _ ((KeepR.same s1).trans (k2.trans (KeepR.same s2))) (h2.same s2) (Dp.new np (.cons (.str "cols") .nil))
  · -- a nest
    have hg' : NestOf d' e t := hN0
    obtain ⟨fN, fdN, GN, mN, bN⟩ := (hN d' rfl).ex
    obtain ⟨kd, z, ts, rfl, q1, q2, q3, q4⟩ := hg'.first
    obtain ⟨x0, hx0, ex0, _⟩ := At.head (l := ts ++ rest) ha
    obtain ⟨ek0, ew0⟩ := T3.of ex0
    refine ⟨_, pss_cons (ps_if (pt_cmpR op_eq (pe_meth0 (pv 0) T.cl mK GK hr1 bK .nil pass0) pe_str (nomark _)) pss_never pss_nil)
      (pss_cons (ps_if (pt_cmpR op_eq (pe_meth0 (pv 0) T.cl mK GK hr1 bK .nil pass0) pe_str (nomark _)) pss_never pss_nil)
      (pss_cons (ps_if (pt_cmpR op_in_seq (pe_meth0 (pv 0) T.cl mW GW hr1 bW .nil pass0) (pe_tup (pa_cons pe_str (pa_cons pe_str pa_nil))) (by rfl)) pss_never pss_nil)
      (pss_cons (ps_if (pt_cmpR op_notIn_seq (pe_meth0 (pv 0) T.cl mW GW hr1 bW .nil pass0) (pe_tup (pa_cons pe_str (pa_cons pe_str (pa_cons pe_str pa_nil)))) (by rfl)) pss_never pss_nil)
      (pss_cons (ps_expr (pe_meth0 (pv 0) T.cl mI GI hr1 bI .nil pass0))
      (pss_cons (ps_set (i := 1) scPart5.nd rfl (Or.inl rfl) (pe_meth0 (pv 0) T.cl mN GN hr bN .nil pass0))
      (pss_cons (ps_expr (pe_meth0 (pv 0) T.cl mO GO hr1 bO .nil pass0)) (pss_one (ps_ret (pv 1))))))))), ?_⟩
    refine ⟨_, rfl, R.r, dx, _, rfl, ei, (no _ _ _ _).1, R, i, k, ps, x0, rfl, h, hx0, ?_⟩
    refine ⟨rfl, _, rfl, ?_⟩
    rw [ek0, dec_strs, decide_eq_false q1]
    refine iteF ?_
    refine ⟨_, rfl, R.r, dx, _, rfl, ei, (no _ _ _ _).1, R, i, k, ps, x0, rfl, h, hx0, ?_⟩
    refine ⟨rfl, _, rfl, ?_⟩
    rw [ek0, dec_strs, decide_eq_false q2]
    refine iteF ?_
    refine ⟨_, rfl, R.r, dx, _, rfl, ei, (no _ _ _ _).2.1, R, i, k, ps, x0, rfl, h, hx0, ?_⟩
    refine ⟨(by show 2 ≤ sizeLine; decide), fun p np => ⟨p, _, rfl, .inr (SqT.of upd_same), rfl, rfl, _, rfl, ?_⟩⟩
    have s1 := same_new np (.tup [.str "rows", .str "cols"])
    have h1 := h.same s1
    obtain ⟨dx1, ei1⟩ := h1.ins
    show if inV (.str x0.w) ((["rows", "cols"] : List Str).map V.str) = true then _ else _
    rw [inr, ew0, decide_eq_false q3]
    refine iteF ?_
    refine ⟨_, rfl, R.r, dx1, _, rfl, ei1, (no _ _ _ _).2.1, R, i, k, ps, x0, rfl, h1, hx0, ?_⟩
    refine ⟨(by show 3 ≤ sizeLine; decide), fun p2 np2 => ⟨p2, _, rfl, .inr (SqT.of upd_same), rfl, rfl, _, rfl, ?_⟩⟩
    have s2 := same_new np2 (.tup [.str "black", .str "-", .str "("])
    have h2 := h1.same s2
    obtain ⟨dx2, ei2⟩ := h2.ins
    show if (!inV (.str x0.w) ((["black", "-", "("] : List Str).map V.str)) = true then _ else _
    rw [inr, ew0, decide_eq_true q4]
    refine iteF ?_
    refine ⟨_, rfl, R.r, dx2, _, rfl, ei2, (no _ _ _ _).2.2.2.1, R, i, k, ps, rfl, h2, by omega, fun H3 k3 h3 => ?_⟩
    obtain ⟨dx3, ei3⟩ := h3.ins
    refine ⟨_, rfl, R.r, dx3, _, rfl, ei3, (no _ _ _ _).2.2.2.2.2, R, i, k + 1, ps, e, _, rest, rfl, h3, ha, hg', hw, by omega, fun H4 v k4 h4 d4 => ?_⟩
    obtain ⟨dx4, ei4⟩ := h4.ins
    refine ⟨_, rfl, R.r, dx4, _, rfl, ei4, (no _ _ _ _).2.2.2.2.1, R, _, k, ps, rfl, h4, fun H5 k5 h5 => ?_⟩
    refine ⟨_, rfl, ?_⟩
    exact q H5 v (((KeepR.same s1).trans (KeepR.same s2)).trans ((k3.trans k4).trans k5)) h5 (Dp.kt (k5.kt h4) (tupD_E _) d4)
  · exact absurd h6.no6 (by decide)
end
end KD

/-! The reader's joined expressions, by level; all expressions, by depth. -/
namespace KD
open PySem L2 TL
open K0 (num)
section
variable {P : Program} {w : World} {K : PySem.W.Frag} {mg : Str → Option Value} {base : Heap} {C : Addr}
def wfQ (qs : List (Bi × Ex)) : Prop := ∀ q ∈ qs, wfE q.2
theorem wf_foldB : ∀ {qs : List (Bi × Ex)} {e : Ex}, wfE (foldB e qs) → wfE e ∧ wfQ qs
  | [], e, h => ⟨h, fun q hq => by cases hq⟩
  | (o, b) :: qs, e, h => by
    have h' : wfE (foldB (.bin o e b) qs) := h
    obtain ⟨h1, h2⟩ := wf_foldB h'
    refine ⟨h1.1, fun q hq => ?_⟩
    rcases List.mem_cons.mp hq with e | hq
    · rw [e]; exact h1.2
    · exact h2 q hq
theorem lev_at {a a0 a1 a2 a3 a4 : Addr} {l : Nat} (h : l < 5) (hL : ∀ H, SqT K H a [.ref a0, .ref a1, .ref a2, .ref a3, .ref a4] ∧ SqT K H a0 ((lvW 0).map V.str) ∧ SqT K H a1 ((lvW 1).map V.str) ∧ SqT K H a2 ((lvW 2).map V.str) ∧ SqT K H a3 ((lvW 3).map V.str) ∧ SqT K H a4 ((lvW 4).map V.str)) :
    ∃ b, atI [V.ref a0, .ref a1, .ref a2, .ref a3, .ref a4] ((l : Nat) : Int) = some (.ref b) ∧ ∀ H, SqT K H b ((lvW l).map V.str) := by
  match l, h with
  | 0, _ => exact ⟨a0, rfl, fun H => (hL H).2.1⟩
  | 1, _ => exact ⟨a1, rfl, fun H => (hL H).2.2.1⟩
  | 2, _ => exact ⟨a2, rfl, fun H => (hL H).2.2.2.1⟩
  | 3, _ => exact ⟨a3, rfl, fun H => (hL H).2.2.2.2.1⟩
  | 4, _ => exact ⟨a4, rfl, fun H => (hL H).2.2.2.2.2⟩
theorem scJoined : FnScope ["self", "level", "tree", "mark"] ["self", "level"] (defScope S_Reader_joined) := ⟨rfl, rfl, rfl, by decide +kernel, rfl, by decide +kernel, by decide +kernel⟩
theorem dec_ints (a b : Nat) : decide (V.int (a : Nat) = V.int (b : Nat)) = decide (a = b) := by
  rw [Bool.eq_iff_iff, decide_eq_true_eq, decide_eq_true_eq]
  exact ⟨fun e => by injection e with e; omega, fun e => by rw [e]⟩
/-- parts -/
theorem ok_joined5 {n d : Nat} {f : Addr} {fd : FuncData} (F : Fun K "joined" "Reader.joined" S_Reader_joined f fd) (T : RTxt K mg C) (hP : Mth P w K mg base C n "part" ["self"] (spPart5 K C d)) : FnOk P w K mg base CX0 (n + 1) f fd ["self", "level"] (spJoined K C d 5) := by
  refine F.ok scJoined (fun vs H Q E h => ?_) (fun cdv A outer s0 H vs Q E hr h => ?_)
  · obtain ⟨R, i, k, ps, e, t, u, rest, rfl, _⟩ := h
    rfl
  obtain ⟨R, i, k, ps, e, t, u, rest, rfl, h, ha, hg, hs, hw, hk, q⟩ := h
  obtain ⟨fP, fdP, GP, mP, bP⟩ := hP.ex
  obtain ⟨tk, mPr⟩ := T.prt
  obtain ⟨dx, ei⟩ := h.ins
  refine ⟨_, pss_cons (ps_if (pt_cmpR op_eq (pv 1) (pe_glob (v := .int 5) rfl mPr ⟨_, rfl⟩) (nomark _)) (pss_one (ps_ret (pe_meth0 (pv 0) T.cl mP GP hr bP .nil pass0))) pss_nil) pss_never, ?_⟩
  refine ⟨_, rfl, rfl, _, rfl, ?_⟩
  rw [show decide (V.int ((5 : Nat) : Int) = V.int 5) = true by decide +kernel]
  refine iteT ?_
  exact ⟨_, rfl, R.r, dx, _, rfl, ei, rf_no _ _ _ _ (by decide +kernel), R, i, k, ps, e, t, _, rfl, h, ha, hg, hw, hk, q⟩
/-- sums, products, and, or -/
theorem ok_joinedL {n d l : Nat} {f : Addr} {fd : FuncData} (F : Fun K "joined" "Reader.joined" S_Reader_joined f fd) (M : Meth K C "joined" f) (b : Binds K fd ["self", "level"] []) (T : RTxt K mg C) (hl : l < 5) (hl2 : l ≠ 2) (hJ : FnOk P w K mg base CX0 n f fd ["self", "level"] (spJoined K C d (l + 1)))
    (hW : Mth P w K mg base C 1 "word" ["self"] (spWord K C)) (hT : Mth P w K mg base C 2 "taken" ["self"] (spTook K C)) (hn : 2 ≤ n) : FnOk P w K mg base CX0 (n + 1) f fd ["self", "level"] (spJoined K C d l) := by
  refine F.ok scJoined (fun vs H Q E h => ?_) (fun cdv A outer s0 H vs Q E hr h => ?_)
  · obtain ⟨R, i, k, ps, e, t, u, rest, rfl, _⟩ := h
    rfl
  obtain ⟨R, i, k, ps, e, t, u, rest, rfl, h, ha, hg, hs, hw, hk, q⟩ := h
  obtain ⟨fW, fdW, GW, mW, bW⟩ := hW.ex
  obtain ⟨fT, fdT, GT, mT, bT⟩ := hT.ex
  obtain ⟨tk5, mPr⟩ := T.prt
  obtain ⟨tk2, mCo⟩ := T.cmp
  obtain ⟨a, a0, a1, a2, a3, a4, mL, hL⟩ := T.lev
  obtain ⟨bl, ebl, hbl⟩ := lev_at hl hL
  have hr1 : Room 1 _ := hr.mono (by omega)
  have hr2 : Room 2 _ := hr.mono hn
  obtain ⟨dx, ei⟩ := h.ins
  have no : ∀ (A B : Addr) (i k : Nat), (rf A B i k).lookup ("word" : Str) = none ∧ (rf A B i k).lookup ("taken" : Str) = none ∧ (rf A B i k).lookup ("joined" : Str) = none := fun A B i k =>
    ⟨rf_no _ _ _ _ (by decide +kernel), rf_no _ _ _ _ (by decide +kernel), rf_no _ _ _ _ (by decide +kernel)⟩
  refine ⟨_, pss_cons (ps_if (pt_cmpR op_eq (pv 1) (pe_glob (v := .int 5) rfl mPr ⟨_, rfl⟩) (nomark _)) pss_never pss_nil)
    (pss_cons (ps_if (PW.pt (pw_and (pt_cmpR op_eq (pv 1) (pe_glob (v := .int 2) rfl mCo ⟨_, rfl⟩) (nomark _)) (pw_and1 (pt_cmpR op_eq (pe_meth0 (pv 0) T.cl mW GW hr1 bW .nil pass0) pe_str (nomark _))))) pss_never pss_nil)
    (pss_cons (ps_set (i := 2) scJoined.nd rfl (Or.inl rfl) (pe_meth (pv 0) T.cl M hJ hr b .nil pass0 (pa_cons (pe_op op_add (pv 1) pe_int) pa_nil)))
    (pss_cons (ps_while PassesOwn.never (pt_cmpR op_in_seq (pe_meth0 (pv 0) T.cl mW GW hr1 bW .nil pass0) (pe_ix ix_tup (pe_glob (v := .ref a) rfl mL rfl) (pv 1) (fun _ _ => rfl)) (by rfl))
      (pss_cons (ps_set (i := 3) scJoined.nd rfl (Or.inl rfl) (pe_meth0 (pv 0) T.cl mT GT hr2 bT .nil pass0))
      (pss_cons (ps_set (i := 2) scJoined.nd rfl (Or.inl rfl) (pe_tup (pa_cons (pv 3) (pa_cons (pv 2) (pa_cons (pe_meth (pv 0) T.cl M hJ hr b .nil pass0 (pa_cons (pe_op op_add (pv 1) pe_int) pa_nil)) pa_nil)))))
      (pss_one (ps_if (pt_cmpR op_eq (pv 1) (pe_glob (v := .int 2) rfl mCo ⟨_, rfl⟩) (nomark _)) pss_never pss_nil)))))
    (pss_one (ps_ret (pv 2)))))), ?_⟩
  have c5 : decide (V.int ((l : Nat) : Int) = V.int 5) = false := by
    have z := dec_ints l 5
    rw [show ((5 : Nat) : Int) = 5 from rfl] at z
    rw [z]
    exact decide_eq_false (by omega)
  have c2 : decide (V.int ((l : Nat) : Int) = V.int 2) = false := by
    have z := dec_ints l 2
    rw [show ((2 : Nat) : Int) = 2 from rfl] at z
    rw [z]
    exact decide_eq_false hl2
  refine ⟨_, rfl, rfl, _, rfl, ?_⟩
  rw [c5]
  refine iteF ?_
  refine ⟨_, rfl, rfl, _, rfl, ?_⟩
  rw [c2]
  refine iteF ?_
  refine iteF ?_
  obtain ⟨e0, t0, qs, ts, g0, row, rfl, rfl⟩ := hg.row hl hl2
  obtain ⟨hw0, hwq⟩ := wf_foldB hw
  rw [List.append_assoc] at ha
  obtain ⟨u0, us, eu, hu⟩ := row.stop hl (w := u) (rest := rest) hs
  refine ⟨_, rfl, R.r, dx, _, rfl, ei, (no _ _ _ _).2.2, _, rfl, _, _, rfl, rfl, R, i, k, ps, e0, t0, u0, us, rfl, h, by rw [← eu]; exact ha, g0, hu, hw0, hk, fun H1 v1 k1 h1 d1 => ?_⟩
  have ha1 := At.app ha
  refine ⟨fun m σ H' => ∃ (v : V) (j : Nat) (ea : Ex) (qs' : List (Bi × Ex)) (ts' : List Tk) (mk : Option V), m = qs'.length ∧ σ = [some (.ref R.r), some (.int (l : Nat)), some v, mk] ∧ KeepR R H H' ∧ RdAt K C R H' j k ps ∧ At R j (ts' ++ u :: rest) ∧ Row d l qs' ts' ∧ wfQ qs' ∧ Dp K H' v ea.d ∧ foldB ea qs' = foldB e0 qs ∧ j + ts'.length = i + (t0 ++ ts).length,
    ⟨_, v1, _, e0, qs, ts, none, rfl, rfl, k1, h1, ha1, row, hwq, d1, rfl, by rw [List.length_append]; omega⟩, ?_⟩
  rintro m σ H2 ⟨v, j, ea, qs', ts', mk, rfl, rfl, k2, h2, ha2, row2, hwq2, d2, ef, el⟩
  obtain ⟨dx2, ei2⟩ := h2.ins
  cases row2 with
  | nil =>
    obtain ⟨x, hx, ex, _⟩ := At.head (l := rest) ha2
    obtain ⟨_, ew⟩ := T3.of (a := u.1) (b := u.2) ex
    refine ⟨_, rfl, R.r, dx2, _, rfl, ei2, (no _ _ _ _).1, R, j, k, ps, x, rfl, h2, hx, ?_⟩
    refine ⟨_, rfl, a, _, _, _, rfl, rfl, (hL H2).1, ebl, bl, _, rfl, .inr (hbl H2), rfl, flat_strs _, _, rfl, ?_⟩
    show if inV (.str x.w) ((lvW l).map V.str) = true then _ else _
    rw [in_strs, ew, decide_eq_false (lvW_no hs hl)]
    refine iteF ?_
    refine ⟨_, rfl, ?_⟩
    have ef' : ea = foldB e0 qs := ef
    subst ef'
    refine q H2 v k2 ?_ d2
    have ej : j = i + (t0 ++ ts).length := by simpa using el
    rw [← ej]
    exact h2
  | @cons o bE qs'' tb ts'' ho hb row3 =>
    obtain ⟨x, hx, ex, ha3⟩ := At.head (l := tb ++ ts'' ++ u :: rest) ha2
    obtain ⟨_, ew⟩ := T3.of (a := o.tk.1) (b := o.tk.2) ex
    refine ⟨_, rfl, R.r, dx2, _, rfl, ei2, (no _ _ _ _).1, R, j, k, ps, x, rfl, h2, hx, ?_⟩
    refine ⟨_, rfl, a, _, _, _, rfl, rfl, (hL H2).1, ebl, bl, _, rfl, .inr (hbl H2), rfl, flat_strs _, _, rfl, ?_⟩
    show if inV (.str x.w) ((lvW l).map V.str) = true then _ else _
    rw [in_strs, ew, decide_eq_true (by rw [← ho]; exact lvW_yes (by omega))]
    refine iteT ?_
    refine ⟨_, fun σ' H' hN => hN, ?_⟩
    refine ⟨_, rfl, R.r, dx2, _, rfl, ei2, (no _ _ _ _).2.1, R, j, k, ps, x, rfl, h2, hx, fun H3 k3 h3 => ?_⟩
    rw [ew]
    obtain ⟨dx3, ei3⟩ := h3.ins
    rw [List.append_assoc] at ha3
    obtain ⟨u1, us1, eu1, hu1⟩ := row3.stop hl (w := u) (rest := rest) hs
    refine ⟨_, rfl, _, rfl, _, rfl, R.r, dx3, _, rfl, ei3, (no _ _ _ _).2.2, _, rfl, _, _, rfl, rfl, R, j + 1, k, ps, bE, tb, u1, us1, rfl, h3, by rw [← eu1]; exact ha3, hb, hu1, hwq2 _ List.mem_cons_self, hk, fun H4 v4 k4 h4 d4 => ?_⟩
    refine ⟨(by show 3 ≤ sizeLine; decide), fun p np => ?_⟩
    have s5 := same_new np (.tup [.str o.tk.2, v, v4])
    refine ⟨_, rfl, rfl, _, rfl, ?_⟩
    rw [c2]
    refine iteF ?_
    refine ⟨qs''.length, by show qs''.length < (((o, bE) :: qs'').length); rw [List.length_cons]; omega, .ref p, _, .bin o ea bE, qs'', ts'', _, rfl, rfl, k2.trans ((k3.trans k4).trans (KeepR.same s5)), h4.same s5, At.app ha3, row3, fun q hq => hwq2 q (List.mem_cons_of_mem _ hq), ?_, ef, ?_⟩
    · have e0 : o.tk.2 = o.w := by cases o <;> rfl
      rw [e0]
      exact Dp.new np (.cons (.str o.w) (.cons (Dp.kt ((k3.kt h2).trans (k4.kt h3)) (tupD_E _) d2) (.cons d4 .nil)))
    · rw [List.length_cons, List.length_append] at el
      omega
/-- comparisons and not -/
theorem ok_joined2 {n d : Nat} {f : Addr} {fd : FuncData} (F : Fun K "joined" "Reader.joined" S_Reader_joined f fd) (M : Meth K C "joined" f) (b : Binds K fd ["self", "level"] []) (T : RTxt K mg C) (hJ : FnOk P w K mg base CX0 n f fd ["self", "level"] (spJoined K C d 3))
    (hD : ∀ d', d = d' + 1 → Mth P w K mg base C n "denied" ["self"] (spDenied K C d'))
    (hW : Mth P w K mg base C 1 "word" ["self"] (spWord K C)) (hT : Mth P w K mg base C 2 "taken" ["self"] (spTook K C)) (hn : 2 ≤ n) : FnOk P w K mg base CX0 (n + 1) f fd ["self", "level"] (spJoined K C d 2) := by
  refine F.ok scJoined (fun vs H Q E h => ?_) (fun cdv A outer s0 H vs Q E hr h => ?_)
  · obtain ⟨R, i, k, ps, e, t, u, rest, rfl, _⟩ := h
    rfl
  obtain ⟨R, i, k, ps, e, t, u, rest, rfl, h, ha, hg, hs, hw, hk, q⟩ := h
  obtain ⟨fW, fdW, GW, mW, bW⟩ := hW.ex
  obtain ⟨fT, fdT, GT, mT, bT⟩ := hT.ex
  obtain ⟨tk5, mPr⟩ := T.prt
  obtain ⟨tk2, mCo⟩ := T.cmp
  obtain ⟨a, a0, a1, a2, a3, a4, mL, hL⟩ := T.lev
  obtain ⟨bl, ebl, hbl⟩ := lev_at (l := 2) (by decide) hL
  have hr1 : Room 1 _ := hr.mono (by omega)
  have hr2 : Room 2 _ := hr.mono hn
  obtain ⟨dx, ei⟩ := h.ins
  have no : ∀ (A B : Addr) (i k : Nat), (rf A B i k).lookup ("word" : Str) = none ∧ (rf A B i k).lookup ("taken" : Str) = none ∧ (rf A B i k).lookup ("joined" : Str) = none ∧ (rf A B i k).lookup ("denied" : Str) = none := fun A B i k =>
    ⟨rf_no _ _ _ _ (by decide +kernel), rf_no _ _ _ _ (by decide +kernel), rf_no _ _ _ _ (by decide +kernel), rf_no _ _ _ _ (by decide +kernel)⟩
  have c5 : decide (V.int ((2 : Nat) : Int) = V.int 5) = false := by decide +kernel
  have c2 : decide (V.int ((2 : Nat) : Int) = V.int 2) = true := by decide +kernel
  rcases hg.cmp3 with ⟨d', e1, ta, rfl, rfl, rfl, g1⟩ | hg3
  · -- not
    obtain ⟨fD, fdD, GD, mD, bD⟩ := (hD d' rfl).ex
    obtain ⟨x, hx, ex, _⟩ := At.head (l := ta ++ u :: rest) ha
    obtain ⟨_, ew⟩ := T3.of ex
    refine ⟨_, pss_cons (ps_if (pt_cmpR op_eq (pv 1) (pe_glob (v := .int 5) rfl mPr ⟨_, rfl⟩) (nomark _)) pss_never pss_nil)
      (pss_cons (ps_if (PW.pt (pw_and (pt_cmpR op_eq (pv 1) (pe_glob (v := .int 2) rfl mCo ⟨_, rfl⟩) (nomark _)) (pw_and1 (pt_cmpR op_eq (pe_meth0 (pv 0) T.cl mW GW hr1 bW .nil pass0) pe_str (nomark _))))) (pss_one (ps_ret (pe_meth0 (pv 0) T.cl mD GD hr bD .nil pass0))) pss_nil) pss_never), ?_⟩
    refine ⟨_, rfl, rfl, _, rfl, ?_⟩
    rw [c5]
    refine iteF ?_
    refine ⟨_, rfl, rfl, _, rfl, ?_⟩
    rw [c2]
    refine iteT ?_
    refine ⟨_, rfl, R.r, dx, _, rfl, ei, (no _ _ _ _).1, R, i, k, ps, x, rfl, h, hx, rfl, _, rfl, ?_⟩
    rw [ew, show decide (V.str "not" = V.str "not") = true by decide +kernel]
    refine iteT ?_
    exact ⟨_, rfl, R.r, dx, _, rfl, ei, (no _ _ _ _).2.2.2, R, i, k, ps, e1, ta, u, rest, rfl, h, ha, g1, hs, hw, by omega, q⟩
  · -- no not: the first side
    have first : ∃ e0 t0 u0 us, G d 3 e0 t0 ∧ wfE e0 ∧ At R i (t0 ++ u0 :: us) ∧ Stop 3 u0.2 ∧ ((e = e0 ∧ t = t0 ∧ u0 = u ∧ us = rest) ∨ (∃ o e1 t1, e = .bin o e0 e1 ∧ o.lv = 2 ∧ t = t0 ++ [o.tk] ++ t1 ∧ u0 = o.tk ∧ us = t1 ++ u :: rest ∧ G d 3 e1 t1 ∧ wfE e1)) := by
      rcases hg3 with ⟨o, e0, e1, t0, t1, rfl, ho, rfl, g0, g1⟩ | g0
      · exact ⟨e0, t0, o.tk, t1 ++ u :: rest, g0, hw.1, by simpa using ha, Stop.tk (by omega) (by omega), .inr ⟨o, e1, t1, rfl, ho, rfl, rfl, rfl, g1, hw.2⟩⟩
      · exact ⟨e, t, u, rest, g0, hw, ha, hs.up (by decide), .inl ⟨rfl, rfl, rfl, rfl⟩⟩
    obtain ⟨e0, t0, u0, us, g0, hw0, ha0, hu0, alt⟩ := first
    obtain ⟨w0, ws0, et0, hnn, _⟩ := g0.first hw0
    have hnot : w0.2 ≠ "not" := hnn (by decide)
    obtain ⟨x, hx, ex, _⟩ := At.head (w := w0) (l := ws0 ++ u0 :: us) (by rw [et0] at ha0; exact ha0)
    obtain ⟨_, ew⟩ := T3.of (a := w0.1) (b := w0.2) ex
    refine ⟨_, pss_cons (ps_if (pt_cmpR op_eq (pv 1) (pe_glob (v := .int 5) rfl mPr ⟨_, rfl⟩) (nomark _)) pss_never pss_nil)
      (pss_cons (ps_if (PW.pt (pw_and (pt_cmpR op_eq (pv 1) (pe_glob (v := .int 2) rfl mCo ⟨_, rfl⟩) (nomark _)) (pw_and1 (pt_cmpR op_eq (pe_meth0 (pv 0) T.cl mW GW hr1 bW .nil pass0) pe_str (nomark _))))) pss_never pss_nil)
      (pss_cons (ps_set (i := 2) scJoined.nd rfl (Or.inl rfl) (pe_meth (pv 0) T.cl M hJ hr b .nil pass0 (pa_cons (pe_op op_add (pv 1) pe_int) pa_nil)))
      (pss_cons (ps_while PassesOwn.never (pt_cmpR op_in_seq (pe_meth0 (pv 0) T.cl mW GW hr1 bW .nil pass0) (pe_ix ix_tup (pe_glob (v := .ref a) rfl mL rfl) (pv 1) (fun _ _ => rfl)) (by rfl))
        (pss_cons (ps_set (i := 3) scJoined.nd rfl (Or.inl rfl) (pe_meth0 (pv 0) T.cl mT GT hr2 bT .nil pass0))
        (pss_cons (ps_set (i := 2) scJoined.nd rfl (Or.inl rfl) (pe_tup (pa_cons (pv 3) (pa_cons (pv 2) (pa_cons (pe_meth (pv 0) T.cl M hJ hr b .nil pass0 (pa_cons (pe_op op_add (pv 1) pe_int) pa_nil)) pa_nil)))))
        (pss_one (ps_if (pt_cmpR op_eq (pv 1) (pe_glob (v := .int 2) rfl mCo ⟨_, rfl⟩) (nomark _)) (pss_one ps_break) pss_nil)))))
      (pss_one (ps_ret (pv 2)))))), ?_⟩
    refine ⟨_, rfl, rfl, _, rfl, ?_⟩
    rw [c5]
    refine iteF ?_
    refine ⟨_, rfl, rfl, _, rfl, ?_⟩
    rw [c2]
    refine iteT ?_
    refine ⟨_, rfl, R.r, dx, _, rfl, ei, (no _ _ _ _).1, R, i, k, ps, x, rfl, h, hx, rfl, _, rfl, ?_⟩
    rw [ew, dec_strs, decide_eq_false hnot]
    refine iteF ?_
    refine ⟨_, rfl, R.r, dx, _, rfl, ei, (no _ _ _ _).2.2.1, _, rfl, _, _, rfl, rfl, R, i, k, ps, e0, t0, u0, us, rfl, h, ha0, g0, hu0, hw0, hk, fun H1 v1 k1 h1 d1 => ?_⟩
    have ha1 := At.app ha0
    obtain ⟨dx1, ei1⟩ := h1.ins
    refine ⟨fun m σ H' => σ = [some (.ref R.r), some (.int ((2 : Nat) : Int)), some v1, none] ∧ H' = H1, ⟨0, rfl, rfl⟩, ?_⟩
    rintro m σ H2 ⟨rfl, rfl⟩
    obtain ⟨x1, hx1, ex1, ha2⟩ := ha1.head
    obtain ⟨_, ew1⟩ := T3.of (a := u0.1) (b := u0.2) ex1
    refine ⟨_, rfl, R.r, dx1, _, rfl, ei1, (no _ _ _ _).1, R, _, k, ps, x1, rfl, h1, hx1, ?_⟩
    refine ⟨_, rfl, a, _, _, _, rfl, rfl, (hL H2).1, ebl, bl, _, rfl, .inr (hbl H2), rfl, flat_strs _, _, rfl, ?_⟩
    show if inV (.str x1.w) ((lvW 2).map V.str) = true then _ else _
    rw [in_strs, ew1]
    rcases alt with ⟨rfl, rfl, rfl, rfl⟩ | ⟨o, e1, t1, rfl, ho, rfl, rfl, rfl, g1, hw1⟩
    · rw [decide_eq_false (lvW_no hs (by decide))]
      refine iteF ?_
      exact ⟨_, rfl, q _ v1 k1 h1 d1⟩
    · rw [decide_eq_true (by have z := lvW_yes (o := o) (by omega); rw [ho] at z; exact z)]
      refine iteT ?_
      refine ⟨fun _ _ => False, fun _ _ z => z.elim, ?_⟩
      refine ⟨_, rfl, R.r, dx1, _, rfl, ei1, (no _ _ _ _).2.1, R, _, k, ps, x1, rfl, h1, hx1, fun H3 k3 h3 => ?_⟩
      rw [ew1]
      obtain ⟨dx3, ei3⟩ := h3.ins
      refine ⟨_, rfl, _, rfl, _, rfl, R.r, dx3, _, rfl, ei3, (no _ _ _ _).2.2.1, _, rfl, _, _, rfl, rfl, R, _, k, ps, e1, t1, u, rest, rfl, h3, ha2, g1, hs.up (by decide), hw1, hk, fun H4 v4 k4 h4 d4 => ?_⟩
      refine ⟨(by show 3 ≤ sizeLine; decide), fun p np => ?_⟩
      have s5 := same_new np (.tup [.str o.tk.2, v1, v4])
      refine ⟨_, rfl, rfl, _, rfl, ?_⟩
      rw [c2]
      refine iteT ?_
      refine ⟨_, rfl, ?_⟩
      have e9 : o.tk.2 = o.w := by cases o <;> rfl
      refine q _ _ (k1.trans ((k3.trans k4).trans (KeepR.same s5))) ?_ ?_
      · have el : i + (t0 ++ [o.tk] ++ t1).length = i + t0.length + 1 + t1.length := by
          simp only [List.length_append, List.length_cons, List.length_nil]
          omega
        rw [el]
        exact h4.same s5
      · rw [e9]
        exact Dp.new np (.cons (.str o.w) (.cons (Dp.kt ((k3.kt h1).trans (k4.kt h3)) (tupD_E _) d1) (.cons d4 .nil)))
end
end KD

/-! The reader's expressions, of any depth. -/
namespace KD
open PySem L2 TL
open K0 (num)
/-- where a method stands -/
def MF (K : PySem.W.Frag) (C : Addr) (x qual : Str) (st : Stmt) (ps : List Str) : Prop := ∃ f fd, MFun K C x qual st ps f fd
structure RFns (K : PySem.W.Frag) (C : Addr) : Prop where
  kind : MF K C "kind" "Reader.kind" S_Reader_kind ["self"]
  word : MF K C "word" "Reader.word" S_Reader_word ["self"]
  place : MF K C "place" "Reader.place" S_Reader_place ["self"]
  taken : MF K C "taken" "Reader.taken" S_Reader_taken ["self"]
  passes : MF K C "passes" "Reader.passes" S_Reader_passes ["self", "word"]
  must : MF K C "must_pass" "Reader.must_pass" S_Reader_must_pass ["self", "word"]
  name : MF K C "name" "Reader.name" S_Reader_name ["self"]
  goIn : MF K C "go_in" "Reader.go_in" S_Reader_go_in ["self"]
  out : MF K C "come_out" "Reader.come_out" S_Reader_come_out ["self"]
  expr : MF K C "expression" "Reader.expression" S_Reader_expression ["self"]
  joined : MF K C "joined" "Reader.joined" S_Reader_joined ["self", "level"]
  denied : MF K C "denied" "Reader.denied" S_Reader_denied ["self"]
  part : MF K C "part" "Reader.part" S_Reader_part ["self"]
  nest : MF K C "nest" "Reader.nest" S_Reader_nest ["self"]
section
variable (P : Program) (w : World) (K : PySem.W.Frag) (mg : Str → Option Value) (base : Heap) (C : Addr)
/-- the small methods -/
structure RLow : Prop where
  kind : Mth P w K mg base C 1 "kind" ["self"] (spKind K C)
  word : Mth P w K mg base C 1 "word" ["self"] (spWord K C)
  place : Mth P w K mg base C 1 "place" ["self"] (spPlace K C)
  taken : Mth P w K mg base C 2 "taken" ["self"] (spTook K C)
  passes : Mth P w K mg base C 2 "passes" ["self", "word"] (spPasses K C)
  must : Mth P w K mg base C 3 "must_pass" ["self", "word"] (spMust K C)
  name : Mth P w K mg base C 3 "name" ["self"] (spName K C)
  goIn : Mth P w K mg base C 1 "go_in" ["self"] (spIn K C)
  out : Mth P w K mg base C 1 "come_out" ["self"] (spOut K C)
variable {P w K mg base C}
theorem RFns.low (F : RFns K C) (T : RTxt K mg C) : RLow P w K mg base C := by
  obtain ⟨f1, fd1, F1⟩ := F.kind
  obtain ⟨f2, fd2, F2⟩ := F.word
  obtain ⟨f3, fd3, F3⟩ := F.place
  obtain ⟨f4, fd4, F4⟩ := F.taken
  obtain ⟨f5, fd5, F5⟩ := F.passes
  obtain ⟨f6, fd6, F6⟩ := F.must
  obtain ⟨f7, fd7, F7⟩ := F.name
  obtain ⟨f8, fd8, F8⟩ := F.goIn
  obtain ⟨f9, fd9, F9⟩ := F.out
  have m1 : Mth P w K mg base C 1 "kind" ["self"] (spKind K C) := F1.mth (ok_kind F1.F T)
  have m2 : Mth P w K mg base C 1 "word" ["self"] (spWord K C) := F2.mth (ok_word F2.F T)
  have m4 : Mth P w K mg base C 2 "taken" ["self"] (spTook K C) := F4.mth (ok_took F4.F T m2)
  have m5 : Mth P w K mg base C 2 "passes" ["self", "word"] (spPasses K C) := F5.mth (ok_passes F5.F T m2)
  exact ⟨m1, m2, F3.mth (ok_place F3.F T), m4, m5, F6.mth (ok_must F6.F T m5), F7.mth (ok_name F7.F T m1 m4), F8.mth (ok_in F8.F T), F9.mth (ok_out F9.F T)⟩
structure ROk (P : Program) (w : World) (K : PySem.W.Frag) (mg : Str → Option Value) (base : Heap) (C : Addr) (d : Nat) : Prop where
  part : Mth P w K mg base C (9 * d + 4) "part" ["self"] (spPart5 K C d)
  two : Mth P w K mg base C (9 * d + 8) "joined" ["self", "level"] (spJoined K C d 2)
  expr : Mth P w K mg base C (9 * d + 11) "expression" ["self"] (spRExpr K C d)
theorem rok_step {d : Nat} (F : RFns K C) (B : Blt mg) (T : RTxt K mg C) (L : RLow P w K mg base C) (ih : ∀ d', d = d' + 1 → ROk P w K mg base C d') : ROk P w K mg base C d := by
  obtain ⟨fE, fdE, FE⟩ := F.expr
  obtain ⟨fJ, fdJ, FJ⟩ := F.joined
  obtain ⟨fD, fdD, FD⟩ := F.denied
  obtain ⟨fP, fdP, FP⟩ := F.part
  obtain ⟨fN, fdN, FN⟩ := F.nest
  have hN : ∀ d', d = d' + 1 → Mth P w K mg base C (9 * d + 3) "nest" ["self"] (spNest K C d') := fun d' e => by
    have q := ih d' e
    have z := FN.mth (ok_nest (n := 9 * d' + 11) FN.F T q.expr (q.part.mono (by omega)) L.taken L.must (by omega))
    exact z.mono (by omega)
  have hD : ∀ d', d = d' + 1 → Mth P w K mg base C (9 * d + 7) "denied" ["self"] (spDenied K C d') := fun d' e => by
    have q := ih d' e
    have z := FD.mth (ok_denied (n := 9 * d' + 8) FD.F T q.two L.goIn L.out L.taken (by omega))
    exact z.mono (by omega)
  have p5 : Mth P w K mg base C (9 * d + 4) "part" ["self"] (spPart5 K C d) := FP.mth (ok_part5 (n := 9 * d + 3) FP.F B T hN L.kind L.word L.goIn L.out L.taken (by omega))
  have j5 : FnOk P w K mg base CX0 (9 * d + 5) fJ fdJ ["self", "level"] (spJoined K C d 5) := ok_joined5 FJ.F T p5
  have j4 : FnOk P w K mg base CX0 (9 * d + 6) fJ fdJ ["self", "level"] (spJoined K C d 4) := ok_joinedL (n := 9 * d + 5) FJ.F FJ.M FJ.b T (by decide) (by decide) j5 L.word L.taken (by omega)
  have j3 : FnOk P w K mg base CX0 (9 * d + 7) fJ fdJ ["self", "level"] (spJoined K C d 3) := ok_joinedL (n := 9 * d + 6) FJ.F FJ.M FJ.b T (by decide) (by decide) j4 L.word L.taken (by omega)
  have j2 : FnOk P w K mg base CX0 (9 * d + 8) fJ fdJ ["self", "level"] (spJoined K C d 2) := ok_joined2 (n := 9 * d + 7) FJ.F FJ.M FJ.b T j3 hD L.word L.taken (by omega)
  have j1 : FnOk P w K mg base CX0 (9 * d + 9) fJ fdJ ["self", "level"] (spJoined K C d 1) := ok_joinedL (n := 9 * d + 8) FJ.F FJ.M FJ.b T (by decide) (by decide) j2 L.word L.taken (by omega)
  have j0 : FnOk P w K mg base CX0 (9 * d + 10) fJ fdJ ["self", "level"] (spJoined K C d 0) := ok_joinedL (n := 9 * d + 9) FJ.F FJ.M FJ.b T (by decide) (by decide) j1 L.word L.taken (by omega)
  exact ⟨p5, FJ.mth j2, FE.mth (ok_rexpr FE.F T (FJ.mth j0))⟩
theorem rok (F : RFns K C) (B : Blt mg) (T : RTxt K mg C) (L : RLow P w K mg base C) : ∀ d, ROk P w K mg base C d
  | 0 => rok_step F B T L fun d' e => by omega
  | d + 1 => rok_step F B T L fun d' e => by
      obtain rfl : d = d' := by omega
      exact rok F B T L d
end
end KD

/-! What the reader's statements are made of: names set, expressions passed; places. -/
namespace KD
open PySem L2 TL
open K0 (num)
/-! ### places of statements -/
def isSt (t : T3) : Bool := decide (t.w ∈ stW)
def hdP (R : Rd) (i n : Nat) : List Nat := (((R.ts.drop i).take n).filter isSt).map T3.pl
theorem hdP_add (R : Rd) (i n m : Nat) : hdP R i (n + m) = hdP R i n ++ hdP R (i + n) m := by
  unfold hdP
  rw [List.take_add, List.filter_append, List.map_append, List.drop_drop]
theorem hdP_len (R : Rd) (i n : Nat) : (hdP R i n).length ≤ n := by
  unfold hdP
  rw [List.length_map]
  exact Nat.le_trans (List.length_filter_le _ _) (by rw [List.length_take]; exact Nat.min_le_left _ _)
theorem hdP_zero (R : Rd) (i : Nat) : hdP R i 0 = [] := rfl
theorem At.take {R : Rd} {i : Nat} {t l : List Tk} (h : At R i (t ++ l)) : ((R.ts.drop i).take t.length).map T3.tk = t := by
  unfold At at h
  rw [List.map_take, h, List.take_left]
theorem hdP_none {R : Rd} {i : Nat} {t l : List Tk} (h : At R i (t ++ l)) (hn : ∀ w ∈ t, w.2 ∉ stW) : hdP R i t.length = [] := by
  unfold hdP
  rw [List.map_eq_nil_iff, List.filter_eq_nil_iff]
  intro x hx q
  have hm : x.tk ∈ ((R.ts.drop i).take t.length).map T3.tk := List.mem_map_of_mem hx
  rw [h.take] at hm
  exact hn _ hm (of_decide_eq_true q)
theorem hdP_one {R : Rd} {i : Nat} {x : T3} (h : R.ts[i]? = some x) : hdP R i 1 = if isSt x then [x.pl] else [] := by
  obtain ⟨hlt, e⟩ := List.getElem?_eq_some_iff.mp h
  unfold hdP
  rw [List.drop_eq_getElem_cons hlt, e]
  show ((List.filter isSt [x]).map T3.pl) = _
  by_cases c : isSt x = true
  · rw [if_pos c, List.filter_cons_of_pos c]
    rfl
  · rw [if_neg c, List.filter_cons_of_neg c]
    rfl
theorem nameW_st {x : Str} (h : nameW x = true) : x ∉ stW := by
  intro q
  simp only [stW, List.mem_cons, List.not_mem_nil, or_false] at q
  rcases q with rfl | rfl | rfl | rfl | rfl | rfl | rfl | rfl | rfl <;> (revert h; decide +kernel)
theorem num_st (n : Nat) : K0.num n ∉ stW := by
  have q := K0.numL_fig n
  intro c
  have aux : ∀ z : Str, (tl z).any (fun c => !K0.isFig c) = true → K0.num n ≠ z := fun z hz e => by
    rw [← e, K0.tl_num'] at hz
    rw [List.any_eq_true] at hz
    obtain ⟨c, hc, hc2⟩ := hz
    rw [List.all_eq_true] at q
    rw [q c hc] at hc2
    cases hc2
  simp only [stW, List.mem_cons, List.not_mem_nil, or_false] at c
  rcases c with c | c | c | c | c | c | c | c | c <;> exact aux _ (by decide +kernel) c
theorem tk_st (o : Bi) : o.tk.2 ∉ stW := by cases o <;> decide +kernel
theorem G.noSt {d l : Nat} {e : Ex} {t : List Tk} (h : G d l e t) : wfE e → ∀ w ∈ t, w.2 ∉ stW := by
  have mk : ∀ z : Str, decide (z ∈ stW) = false → z ∉ stW := fun z h => of_decide_eq_false h
  induction h with
  | num n => intro _ w hw; rw [List.mem_singleton.mp hw]; exact num_st n
  | name x => intro hx w hw; rw [List.mem_singleton.mp hw]; exact nameW_st hx
  | rows => intro _ w hw; rw [List.mem_singleton.mp hw]; exact mk _ (by decide +kernel)
  | cols => intro _ w hw; rw [List.mem_singleton.mp hw]; exact mk _ (by decide +kernel)
  | black _ _ i1 i2 =>
    intro hw w hm
    simp only [List.mem_append, List.mem_cons, List.not_mem_nil, or_false] at hm
    rcases hm with ((((q | q) | q) | q) | q) | q
    · rw [q]; exact mk _ (by decide +kernel)
    · rw [q]; exact mk _ (by decide +kernel)
    · exact i1 hw.1 w q
    · rw [q]; exact mk _ (by decide +kernel)
    · exact i2 hw.2 w q
    · rw [q]; exact mk _ (by decide +kernel)
  | neg _ i1 =>
    intro hw w hm
    rcases List.mem_cons.mp hm with q | q
    · rw [q]; exact mk _ (by decide +kernel)
    · exact i1 hw w q
  | par _ i1 =>
    intro hw w hm
    simp only [List.mem_append, List.mem_cons, List.not_mem_nil, or_false] at hm
    rcases hm with (q | q) | q
    · rw [q]; exact mk _ (by decide +kernel)
    · exact i1 hw w q
    · rw [q]; exact mk _ (by decide +kernel)
  | not _ i1 =>
    intro hw w hm
    rcases List.mem_cons.mp hm with q | q
    · rw [q]; exact mk _ (by decide +kernel)
    · exact i1 hw w q
  | cmp _ _ _ i1 i2 =>
    intro hw w hm
    simp only [List.mem_append, List.mem_cons, List.not_mem_nil, or_false] at hm
    rcases hm with (q | q) | q
    · exact i1 hw.1 w q
    · rw [q]; exact tk_st _
    · exact i2 hw.2 w q
  | left _ _ _ _ i1 i2 =>
    intro hw w hm
    simp only [List.mem_append, List.mem_cons, List.not_mem_nil, or_false] at hm
    rcases hm with (q | q) | q
    · exact i1 hw.1 w q
    · rw [q]; exact tk_st _
    · exact i2 hw.2 w q
  | up _ i1 => exact i1
/-- expressions behind commas -/
inductive Tail : List Ex → List Tk → Prop
  | nil : Tail [] []
  | cons {e : Ex} {es : List Ex} {t ts : List Tk} : GE e t → Tail es ts → Tail (e :: es) (kM "," :: (t ++ ts))
theorem GEs.tail : ∀ {es : List Ex} {t : List Tk}, GEs es t → (es = [] ∧ t = []) ∨ ∃ e es' t0 ts, es = e :: es' ∧ GE e t0 ∧ Tail es' ts ∧ t = t0 ++ ts
  | _, _, .nil => .inl ⟨rfl, rfl⟩
  | _, _, .one h => .inr ⟨_, _, _, [], rfl, h, .nil, by simp⟩
  | _, _, .more h r => by
    rcases GEs.tail r with ⟨q, _⟩ | ⟨e, es', t0, ts, q, h0, tl, rfl⟩
    · cases q
    · cases q
      refine .inr ⟨_, _, _, _, rfl, h, .cons h0 tl, by simp⟩
theorem Tail.first {es : List Ex} {ts : List Tk} (h : Tail es ts) (rest : List Tk) : ∃ u us, ts ++ kM ")" :: rest = u :: us ∧ Stop 0 u.2 := by
  cases h with
  | nil => exact ⟨_, _, rfl, stop_mark (by decide +kernel) 0⟩
  | cons _ _ => exact ⟨_, _, rfl, stop_mark (by decide +kernel) 0⟩
theorem Tail.noSt : ∀ {es : List Ex} {ts : List Tk}, Tail es ts → (∀ e ∈ es, wfE e) → ∀ w ∈ ts, w.2 ∉ stW
  | _, _, .nil, _, w, hw => by cases hw
  | _, _, .cons h r, hq, w, hw => by
    simp only [List.mem_cons, List.mem_append] at hw
    rcases hw with q | q | q
    · rw [q]; decide +kernel
    · exact h.noSt (hq _ List.mem_cons_self) w q
    · exact Tail.noSt r (fun e he => hq e (List.mem_cons_of_mem _ he)) w q
theorem GEs.noSt {es : List Ex} {t : List Tk} (h : GEs es t) (hq : ∀ e ∈ es, wfE e) : ∀ w ∈ t, w.2 ∉ stW := by
  rcases h.tail with ⟨_, rfl⟩ | ⟨e, es', t0, ts, rfl, h0, tl, rfl⟩
  · exact fun w hw => by cases hw
  · intro w hw
    rcases List.mem_append.mp hw with q | q
    · exact h0.noSt (hq _ List.mem_cons_self) w q
    · exact tl.noSt (fun e he => hq e (List.mem_cons_of_mem _ he)) w q
/-- the first word of an expression that is no closing bracket -/
theorem GE.open {e : Ex} {t : List Tk} (h : GE e t) (hw : wfE e) : ∃ w ws, t = w :: ws ∧ w.2 ≠ ")" := by
  obtain ⟨w, ws, e1, _, e2⟩ := h.first hw
  exact ⟨w, ws, e1, e2⟩
/-- a list of the def's own beside the reader -/
structure LstAt (K : PySem.W.Frag) (C : Addr) (R : Rd) (H0 H : Hp) (p : Addr) (vs : List V) (ds : List PyData) (j k : Nat) (ps : List Nat) : Prop where
  keep : KeepR R H0 H
  rd : RdAt K C R H j k ps
  lp : H p = some (.lst vs)
  dd : DpAll K H vs ds
  td : tupDs ds = true
  n1 : p ≠ R.r
  n2 : p ≠ R.tA
  n3 : p ≠ R.pA
  free : H0 p = none
section
variable {K : PySem.W.Frag} {C : Addr} {R : Rd} {H0 H H' : Hp} {p : Addr} {vs : List V} {ds : List PyData} {j k j' k' : Nat} {ps ps' : List Nat}
theorem LstAt.new (h : RdAt K C R H j k ps) (np : H p = none) : LstAt K C R H (upd H p (.lst [])) p [] [] j k ps := by
  have s := same_new np (.lst [])
  obtain ⟨dx, e⟩ := h.ins
  exact ⟨KeepR.same s, h.same s, upd_same, .nil, rfl, (ne_of_none e np).symm, (ne_of_none h.told np).symm, (ne_of_none h.plc np).symm, np⟩
theorem LstAt.call (a : LstAt K C R H0 H p vs ds j k ps) (kp : KeepR R H H') (h : RdAt K C R H' j' k' ps') : LstAt K C R H0 H' p vs ds j' k' ps' :=
  ⟨a.keep.trans kp, h, kp _ _ a.n1 a.n3 a.lp, DpAll.kt (kp.kt a.rd) a.td a.dd, a.td, a.n1, a.n2, a.n3, a.free⟩
theorem tupDs_snoc {ds : List PyData} {d : PyData} (h : tupDs ds = true) (hd : tupD d = true) : tupDs (ds ++ [d]) = true := by
  rw [tupDs_append, h]
  show (true && (tupD d && true)) = true
  rw [hd]
  rfl
theorem LstAt.push (a : LstAt K C R H0 H p vs ds j k ps) {v : V} {d : PyData} (hv : Dp K H v d) (hd : tupD d = true) : LstAt K C R H0 (upd H p (.lst (vs ++ [v]))) p (vs ++ [v]) (ds ++ [d]) j k ps := by
  have kt : KT K H (upd H p (.lst (vs ++ [v]))) := KT.upd a.lp _
  obtain ⟨dx, e⟩ := a.rd.ins
  refine ⟨fun b u m1 m2 q => ?_, ⟨⟨dx, by rw [upd_ne a.n1.symm]; exact e⟩, by rw [upd_ne a.n2.symm]; exact a.rd.told, DpAll.kt kt (tupDs_T3 _) a.rd.dd, by rw [upd_ne a.n3.symm]; exact a.rd.plc, a.rd.ne, a.rd.small⟩, upd_same,
    DpAll.snoc (Dp.kt kt hd hv) (DpAll.kt kt a.td a.dd), tupDs_snoc a.td hd, a.n1, a.n2, a.n3, a.free⟩
  rw [upd_ne (ne_of_none q a.free)]
  exact a.keep b u m1 m2 q
end
section
variable (K : PySem.W.Frag) (C : Addr)
def spSetName : Sp := fun vs H Q _ => ∃ (R : Rd) (i k : Nat) (ps : List Nat) (x : Str) (e : Ex) (t : List Tk) (u : Tk) (rest : List Tk), vs = [.ref R.r] ∧ RdAt K C R H i k ps ∧ At R i (kN x :: kM "=" :: (t ++ u :: rest)) ∧ GE e t ∧ Stop 0 u.2 ∧ wfE e ∧ k + 10 ≤ 40 ∧
  ∀ H' a v, KeepR R H H' → RdAt K C R H' (i + 2 + t.length) k ps → SqT K H' a [.str x, v] → Dp K H' v e.d → Q (.ref a) H'
def spLast : Sp := fun vs H Q _ => ∃ (R : Rd) (i k : Nat) (ps : List Nat) (e : Ex) (t : List Tk) (u : Tk) (rest : List Tk), vs = [.ref R.r] ∧ RdAt K C R H i k ps ∧ At R i (kK "to" :: (t ++ u :: rest)) ∧ GE e t ∧ Stop 0 u.2 ∧ wfE e ∧ k + 10 ≤ 40 ∧
  ∀ H' v, KeepR R H H' → RdAt K C R H' (i + 1 + t.length) k ps → Dp K H' v e.d → Q v H'
def spPassed : Sp := fun vs H Q _ => ∃ (R : Rd) (i k : Nat) (ps : List Nat) (es : List Ex) (t : List Tk) (rest : List Tk), vs = [.ref R.r] ∧ RdAt K C R H i k ps ∧ At R i (kM "(" :: (t ++ kM ")" :: rest)) ∧ GEs es t ∧ (∀ e ∈ es, wfE e) ∧ es.length ≤ 100 ∧ k + 10 ≤ 40 ∧
  ∀ H' v, KeepR R H H' → RdAt K C R H' (i + 1 + t.length + 1) k ps → Dp K H' v (.tuple (es.map Ex.d)) → Q v H'
end
section
variable {P : Program} {w : World} {K : PySem.W.Frag} {mg : Str → Option Value} {base : Heap} {C : Addr}
theorem scSetName : FnScope ["self", "name"] ["self"] (defScope S_Reader_set_name) := ⟨rfl, rfl, rfl, by decide +kernel, rfl, by decide +kernel, by decide +kernel⟩
theorem ok_setName {n : Nat} {f : Addr} {fd : FuncData} (F : Fun K "set_name" "Reader.set_name" S_Reader_set_name f fd) (T : RTxt K mg C) (L : RLow P w K mg base C) (hE : Mth P w K mg base C n "expression" ["self"] (spRExpr K C 10)) (hn : 3 ≤ n) : FnOk P w K mg base CX0 (n + 1) f fd ["self"] (spSetName K C) := by
  refine F.ok scSetName (fun vs H Q E h => ?_) (fun cdv A outer s0 H vs Q E hr h => ?_)
  · obtain ⟨R, i, k, ps, x, e, t, u, rest, rfl, _⟩ := h
    rfl
  obtain ⟨R, i, k, ps, x, e, t, u, rest, rfl, h, ha, hg, hs, hw, hk, q⟩ := h
  obtain ⟨fE, fdE, GE', mE, bE⟩ := hE.ex
  obtain ⟨fN, fdN, GN, mN, bN⟩ := L.name.ex
  obtain ⟨fM, fdM, GM, mM, bM⟩ := L.must.ex
  have hr3 : Room 3 _ := hr.mono hn
  obtain ⟨dx, ei⟩ := h.ins
  refine ⟨_, pss_cons (ps_set (i := 1) scSetName.nd rfl (Or.inl rfl) (pe_meth0 (pv 0) T.cl mN GN hr3 bN .nil pass0))
    (pss_cons (ps_expr (pe_meth (pv 0) T.cl mM GM hr3 bM .nil pass0 (pa_cons pe_str pa_nil)))
    (pss_one (ps_ret (pe_tup (pa_cons (pv 1) (pa_cons (pe_meth0 (pv 0) T.cl mE GE' hr bE .nil pass0) pa_nil)))))), ?_⟩
  obtain ⟨x0, hx0, ex0, ha1⟩ := ha.head
  obtain ⟨ek0, ew0⟩ := T3.of ex0
  obtain ⟨x1, hx1, ex1, ha2⟩ := ha1.head
  obtain ⟨_, ew1⟩ := T3.of ex1
  refine ⟨_, rfl, R.r, dx, _, rfl, ei, rf_no _ _ _ _ (by decide +kernel), R, i, k, ps, x0, rfl, h, hx0, ek0, fun H1 k1 h1 => ?_⟩
  obtain ⟨dx1, ei1⟩ := h1.ins
  refine ⟨_, rfl, R.r, dx1, _, rfl, ei1, rf_no _ _ _ _ (by decide +kernel), R, _, k, ps, x1, _, rfl, h1, hx1, ew1, fun H2 k2 h2 => ?_⟩
  obtain ⟨dx2, ei2⟩ := h2.ins
  refine ⟨_, rfl, _, rfl, R.r, dx2, _, rfl, ei2, rf_no _ _ _ _ (by decide +kernel), R, _, k, ps, e, t, u, rest, rfl, h2, ha2, hg, hs, hw, hk, fun H3 v k3 h3 d3 => ?_⟩
  refine ⟨(by show 2 ≤ sizeLine; decide), fun p np => ?_⟩
  rw [ew0]
  have s4 := same_new np (.tup [.str x, v])
  exact q _ p v ((k1.trans (k2.trans k3)).trans (KeepR.same s4)) (h3.same s4) (SqT.of upd_same) (Dp.same s4 d3)
theorem scLast : FnScope ["self"] ["self"] (defScope S_Reader_last_value) := ⟨rfl, rfl, rfl, by decide +kernel, rfl, by decide +kernel, by decide +kernel⟩
theorem ok_last {n : Nat} {f : Addr} {fd : FuncData} (F : Fun K "last_value" "Reader.last_value" S_Reader_last_value f fd) (T : RTxt K mg C) (L : RLow P w K mg base C) (hE : Mth P w K mg base C n "expression" ["self"] (spRExpr K C 10)) (hn : 3 ≤ n) : FnOk P w K mg base CX0 (n + 1) f fd ["self"] (spLast K C) := by
  refine F.ok scLast (fun vs H Q E h => ?_) (fun cdv A outer s0 H vs Q E hr h => ?_)
  · obtain ⟨R, i, k, ps, e, t, u, rest, rfl, _⟩ := h
    rfl
  obtain ⟨R, i, k, ps, e, t, u, rest, rfl, h, ha, hg, hs, hw, hk, q⟩ := h
  obtain ⟨fE, fdE, GE', mE, bE⟩ := hE.ex
  obtain ⟨fM, fdM, GM, mM, bM⟩ := L.must.ex
  have hr3 : Room 3 _ := hr.mono hn
  obtain ⟨dx, ei⟩ := h.ins
  refine ⟨_, pss_cons (ps_expr (pe_meth (pv 0) T.cl mM GM hr3 bM .nil pass0 (pa_cons pe_str pa_nil)))
    (pss_one (ps_ret (pe_meth0 (pv 0) T.cl mE GE' hr bE .nil pass0))), ?_⟩
  obtain ⟨x1, hx1, ex1, ha2⟩ := ha.head
  obtain ⟨_, ew1⟩ := T3.of ex1
  refine ⟨_, rfl, R.r, dx, _, rfl, ei, rf_no _ _ _ _ (by decide +kernel), R, _, k, ps, x1, _, rfl, h, hx1, ew1, fun H2 k2 h2 => ?_⟩
  obtain ⟨dx2, ei2⟩ := h2.ins
  exact ⟨_, rfl, R.r, dx2, _, rfl, ei2, rf_no _ _ _ _ (by decide +kernel), R, _, k, ps, e, t, u, rest, rfl, h2, ha2, hg, hs, hw, hk, fun H3 v k3 h3 d3 => q H3 v (k2.trans k3) h3 d3⟩
theorem scPassed : FnScope ["self", "found"] ["self"] (defScope S_Reader_passed) := ⟨rfl, rfl, rfl, by decide +kernel, rfl, by decide +kernel, by decide +kernel⟩
theorem ok_passed {n : Nat} {f : Addr} {fd : FuncData} (F : Fun K "passed" "Reader.passed" S_Reader_passed f fd) (B : Blt mg) (T : RTxt K mg C) (L : RLow P w K mg base C) (hE : Mth P w K mg base C n "expression" ["self"] (spRExpr K C 10)) (hn : 3 ≤ n) : FnOk P w K mg base CX0 (n + 1) f fd ["self"] (spPassed K C) := by
  refine F.ok scPassed (fun vs H Q E h => ?_) (fun cdv A outer s0 H vs Q E hr h => ?_)
  · obtain ⟨R, i, k, ps, es, t, rest, rfl, _⟩ := h
    rfl
  obtain ⟨R, i, k, ps, es, t, rest, rfl, h, ha, hg, hw, hl, hk, q⟩ := h
  obtain ⟨fE, fdE, GE', mE, bE⟩ := hE.ex
  obtain ⟨fM, fdM, GM, mM, bM⟩ := L.must.ex
  obtain ⟨fP, fdP, GP, mP, bP⟩ := L.passes.ex
  obtain ⟨fW, fdW, GW, mW, bW⟩ := L.word.ex
  have hr1 : Room 1 _ := hr.mono (by omega)
  have hr2 : Room 2 _ := hr.mono (by omega)
  have hr3 : Room 3 _ := hr.mono hn
  obtain ⟨dx, ei⟩ := h.ins
  have no : ∀ (A B : Addr) (i k : Nat), (rf A B i k).lookup ("must_pass" : Str) = none ∧ (rf A B i k).lookup ("word" : Str) = none ∧ (rf A B i k).lookup ("passes" : Str) = none ∧ (rf A B i k).lookup ("expression" : Str) = none := fun A B i k =>
    ⟨rf_no _ _ _ _ (by decide +kernel), rf_no _ _ _ _ (by decide +kernel), rf_no _ _ _ _ (by decide +kernel), rf_no _ _ _ _ (by decide +kernel)⟩
  refine ⟨_, pss_cons (ps_expr (pe_meth (pv 0) T.cl mM GM hr3 bM .nil pass0 (pa_cons pe_str pa_nil)))
    (pss_cons (ps_set (i := 1) scPassed.nd rfl (Or.inl rfl) (pe_lst pa_nil))
    (C8.pss_cut (ps_if (pt_cmpR op_ne (pe_meth0 (pv 0) T.cl mW GW hr1 bW .nil pass0) pe_str (nomark _))
      (pss_cons (ps_expr (pe_bm PySem.F.plainAttrs_list PySem.F.slot_list_append PySem.F.type_list_append mt_append (pv 1) (pa_cons (pe_meth0 (pv 0) T.cl mE GE' hr bE .nil pass0) pa_nil)))
      (pss_one (ps_while PassesOwn.never (pt_val (pe_meth (pv 0) T.cl mP GP hr2 bP .nil pass0 (pa_cons pe_str pa_nil)))
        (pss_one (ps_expr (pe_bm PySem.F.plainAttrs_list PySem.F.slot_list_append PySem.F.type_list_append mt_append (pv 1) (pa_cons (pe_meth0 (pv 0) T.cl mE GE' hr bE .nil pass0) pa_nil))))))) pss_nil)
    (pss_cons (ps_expr (pe_meth (pv 0) T.cl mM GM hr3 bM .nil pass0 (pa_cons pe_str pa_nil)))
    (pss_one (ps_ret (pe_callTy call_tuple_of (by rfl) B.tup (by decide +kernel) (pa_cons (pv 1) pa_nil))))))), ?_⟩
  obtain ⟨x1, hx1, ex1, ha2⟩ := ha.head
  obtain ⟨_, ew1⟩ := T3.of ex1
  refine ⟨_, rfl, R.r, dx, _, rfl, ei, (no _ _ _ _).1, R, _, k, ps, x1, _, rfl, h, hx1, ew1, fun H2 k2 h2 => ?_⟩
  refine ⟨Nat.zero_le _, fun p np => ?_⟩
  have a3 := LstAt.new h2 np
  generalize upd H2 p (.lst []) = H3 at a3
  refine ⟨fun σ H' => ∃ vs5 : List V, σ = [some (.ref R.r), some (.ref p)] ∧ LstAt K C R H2 H' p vs5 (es.map Ex.d) (i + 1 + t.length) k ps, ?_, ?_⟩
  · obtain ⟨dx3, ei3⟩ := a3.rd.ins
    rcases hg.tail with ⟨rfl, rfl⟩ | ⟨e, es', t0, ts, rfl, g0, tl, rfl⟩
    · obtain ⟨x4, hx4, ex4, _⟩ := At.head (l := rest) ha2
      obtain ⟨_, ew4⟩ := T3.of ex4
      refine ⟨_, rfl, R.r, dx3, _, rfl, ei3, (no _ _ _ _).2.1, R, _, k, ps, x4, rfl, a3.rd, hx4, rfl, _, rfl, ?_⟩
      rw [ew4, show decide (V.str ")" = V.str ")") = true by decide +kernel]
      refine iteF ?_
      exact ⟨[], rfl, a3⟩
    · obtain ⟨w0, ws0, et0, hnb⟩ := g0.open (hw e List.mem_cons_self)
      rw [List.append_assoc] at ha2
      obtain ⟨x4, hx4, ex4, _⟩ := At.head (w := w0) (l := ws0 ++ (ts ++ kM ")" :: rest)) (by rw [et0] at ha2; exact ha2)
      obtain ⟨_, ew4⟩ := T3.of (a := w0.1) (b := w0.2) ex4
      refine ⟨_, rfl, R.r, dx3, _, rfl, ei3, (no _ _ _ _).2.1, R, _, k, ps, x4, rfl, a3.rd, hx4, rfl, _, rfl, ?_⟩
      rw [ew4, dec_strs, decide_eq_false hnb]
      refine iteT ?_
      obtain ⟨u1, us1, eu1, hu1⟩ := tl.first rest
      refine ⟨_, rfl, .inl ⟨rfl, _, SqL.of a3.lp⟩, _, rfl, R.r, dx3, _, rfl, ei3, (no _ _ _ _).2.2.2, R, _, k, ps, e, t0, u1, us1, rfl, a3.rd, by rw [← eu1]; exact ha2, g0.mono (Nat.le_refl _), hu1, hw e List.mem_cons_self, hk, fun H4 v4 k4 h4 d4 => ?_⟩
      have a4 := a3.call k4 h4
      refine ⟨p, _, _, rfl, rfl, a4.lp, (by show 0 < sizeLine; decide), ?_⟩
      have a5 := a4.push d4 (tupD_E e)
      have ha5 := At.app ha2
      refine ⟨fun m σ H' => ∃ (j : Nat) (done es2 : List Ex) (ts2 : List Tk) (vs2 : List V), m = es2.length ∧ σ = [some (.ref R.r), some (.ref p)] ∧ LstAt K C R H2 H' p vs2 (done.map Ex.d) j k ps ∧ done ++ es2 = e :: es' ∧ Tail es2 ts2 ∧ At R j (ts2 ++ kM ")" :: rest) ∧ j + ts2.length = i + 1 + (t0 ++ ts).length,
        ⟨_, _, [e], es', ts, _, rfl, rfl, a5, rfl, tl, ha5, by rw [List.length_append]; omega⟩, ?_⟩
      rintro m σ H6 ⟨j, done, es2, ts2, vs2, rfl, rfl, a6, hdn, tl2, ha6, el⟩
      obtain ⟨dx6, ei6⟩ := a6.rd.ins
      cases tl2 with
      | nil =>
        obtain ⟨x7, hx7, ex7, _⟩ := At.head (l := rest) ha6
        obtain ⟨_, ew7⟩ := T3.of ex7
        refine ⟨_, rfl, R.r, dx6, _, rfl, ei6, (no _ _ _ _).2.2.1, R, j, k, ps, x7, _, rfl, a6.rd, hx7, fun c => ?_, fun _ => ⟨false, rfl, iteF ?_⟩⟩
        · rw [ew7] at c
          exact absurd c (by decide +kernel)
        · rw [List.append_nil] at hdn
          subst hdn
          have ej : j = i + 1 + (t0 ++ ts).length := by simpa using el
          rw [← ej]
          exact ⟨vs2, rfl, a6⟩
      | @cons e2 es3 t3 ts3 g3 tl3 =>
        obtain ⟨x7, hx7, ex7, ha7⟩ := At.head (l := t3 ++ ts3 ++ kM ")" :: rest) ha6
        obtain ⟨_, ew7⟩ := T3.of ex7
        rw [List.append_assoc] at ha7
        refine ⟨_, rfl, R.r, dx6, _, rfl, ei6, (no _ _ _ _).2.2.1, R, j, k, ps, x7, _, rfl, a6.rd, hx7, fun _ H7 k7 h7 => ?_, fun c => absurd ew7 c⟩
        refine ⟨true, rfl, iteT ?_⟩
        have a7 := a6.call k7 h7
        obtain ⟨dx7, ei7⟩ := h7.ins
        obtain ⟨u8, us8, eu8, hu8⟩ := tl3.first rest
        have he2 : e2 ∈ e :: es' := by rw [← hdn]; exact List.mem_append_right _ List.mem_cons_self
        refine ⟨_, fun σ' H' hN => hN, ?_⟩
        refine ⟨_, rfl, .inl ⟨rfl, _, SqL.of a7.lp⟩, _, rfl, R.r, dx7, _, rfl, ei7, (no _ _ _ _).2.2.2, R, _, k, ps, e2, t3, u8, us8, rfl, h7, by rw [← eu8]; exact ha7, g3.mono (Nat.le_refl _), hu8, hw e2 he2, hk, fun H8 v8 k8 h8 d8 => ?_⟩
        have a8 := a7.call k8 h8
        have hln : vs2.length ≤ 100 := by
          rw [DpAll.length a6.dd, List.length_map]
          have z : (done ++ e2 :: es3).length = (e :: es').length := by rw [hdn]
          rw [List.length_append, List.length_cons] at z
          omega
        refine ⟨p, _, _, rfl, rfl, a8.lp, Nat.lt_of_le_of_lt hln (by decide), ?_⟩
        refine ⟨es3.length, by show es3.length < (e2 :: es3).length; rw [List.length_cons]; omega, _, done ++ [e2], es3, ts3, _, rfl, rfl, by rw [List.map_append]; exact a8.push d8 (tupD_E e2), by rw [List.append_assoc]; exact hdn, tl3, At.app ha7, ?_⟩
        rw [List.length_cons, List.length_append] at el
        omega
  · rintro σ H5 ⟨vs5, rfl, a5⟩
    have ha5 := At.app ha2
    obtain ⟨x6, hx6, ex6, _⟩ := ha5.head
    obtain ⟨_, ew6⟩ := T3.of ex6
    obtain ⟨dx5, ei5⟩ := a5.rd.ins
    refine ⟨_, rfl, R.r, dx5, _, rfl, ei5, (no _ _ _ _).1, R, _, k, ps, x6, _, rfl, a5.rd, hx6, ew6, fun H6 k6 h6 => ?_⟩
    have a6 := a5.call k6 h6
    refine ⟨_, rfl, p, _, rfl, .inl ⟨SqL.of a6.lp, fun l nl => ?_⟩⟩
    exact q _ _ (k2.trans (a6.keep.trans (KeepR.new nl _))) (h6.same (same_new nl _)) (Dp.new nl a6.dd)
end
end KD

/-! The reader's statements and blocks. -/
namespace KD
open PySem L2 TL
open K0 (num)
/-- a word behind a statement -/
def Fo (u : Tk) : Prop := mkLv u.2 = 9 ∧ u.2 ≠ "else"
theorem Fo.stop {u : Tk} (h : Fo u) (l : Nat) : Stop l u.2 := .inr h.1
theorem Fo.st {u : Tk} (h : u.2 ∈ stW) : Fo u := by
  have all : ∀ z ∈ stW, mkLv z = 9 ∧ z ≠ "else" := by decide +kernel
  exact all _ h
theorem GS.first {d : Nat} {s : St} {t : List Tk} (h : GS d s t) : ∃ z ts, t = kK z :: ts ∧ z ∈ stW := by
  cases h with
  | row _ => exact ⟨_, _, rfl, by decide +kernel⟩
  | col _ => exact ⟨_, _, rfl, by decide +kernel⟩
  | say _ => exact ⟨_, _, rfl, by decide +kernel⟩
  | set _ => exact ⟨_, _, rfl, by decide +kernel⟩
  | ite0 _ _ => exact ⟨_, _, rfl, by decide +kernel⟩
  | ite _ _ _ => exact ⟨_, _, rfl, by decide +kernel⟩
  | whl _ _ => exact ⟨_, _, rfl, by decide +kernel⟩
  | for_ _ _ _ => exact ⟨_, _, rfl, by decide +kernel⟩
  | call _ => exact ⟨_, _, rfl, by decide +kernel⟩
  | stop => exact ⟨_, _, rfl, by decide +kernel⟩
theorem GB.len : ∀ {d : Nat} {b : List St} {t : List Tk}, GB d b t → b.length ≤ t.length
  | _, _, _, .nil => Nat.le_refl _
  | _, _, _, .cons h r => by
    obtain ⟨z, ts, rfl, _⟩ := h.first
    have q := GB.len r
    simp only [List.length_append, List.length_cons]
    omega
theorem At.len {R : Rd} {i : Nat} {t l : List Tk} (h : At R i (t ++ l)) : t.length ≤ R.ts.length := by
  have q : ((R.ts.drop i).map T3.tk).length = (t ++ l).length := by rw [h]
  rw [List.length_map, List.length_drop, List.length_append] at q
  omega
/-- the word behind a statement of a row -/
theorem GB.fo {d : Nat} {b : List St} {t : List Tk} (h : GB d b t) {u : Tk} (hu : Fo u) (rest : List Tk) : ∃ v vs, t ++ u :: rest = v :: vs ∧ Fo v := by
  cases h with
  | nil => exact ⟨u, rest, rfl, hu⟩
  | cons hs _ =>
    obtain ⟨z, ts, rfl, hz⟩ := hs.first
    exact ⟨_, _, rfl, Fo.st hz⟩
section
variable (K : PySem.W.Frag) (C : Addr)
def spSts (d : Nat) : Sp := fun vs H Q _ => ∃ (R : Rd) (i k : Nat) (ps : List Nat) (b : List St) (t : List Tk) (u : Tk) (rest : List Tk), vs = [.ref R.r] ∧ RdAt K C R H i k ps ∧ At R i (t ++ u :: rest) ∧ GB d b t ∧ Fo u ∧ u.2 ∉ stW ∧ wfB b ∧ k + d + 10 ≤ 40 ∧ ps.length ≤ i ∧
  ∀ H' v, KeepR R H H' → RdAt K C R H' (i + t.length) k (ps ++ hdP R i t.length) → Dp K H' v (.tuple (dB b)) → Q v H'
def spSt (d : Nat) : Sp := fun vs H Q _ => ∃ (R : Rd) (i k : Nat) (ps : List Nat) (s : St) (t : List Tk) (u : Tk) (rest : List Tk), vs = [.ref R.r] ∧ RdAt K C R H i k ps ∧ At R i (t ++ u :: rest) ∧ GS d s t ∧ Fo u ∧ wfS s ∧ k + d + 10 ≤ 40 ∧ ps.length ≤ i ∧
  ∀ H' v, KeepR R H H' → RdAt K C R H' (i + t.length) k (ps ++ hdP R i t.length) → Dp K H' v s.d → Q v H'
/-- a block whose statements' own blocks nest less than d deep -/
def spBlk (d : Nat) : Sp := fun vs H Q _ => ∃ (R : Rd) (i k : Nat) (ps : List Nat) (d' : Nat) (b : List St) (t : List Tk) (rest : List Tk), vs = [.ref R.r] ∧ d = d' + 1 ∧ RdAt K C R H i k ps ∧ At R i (kM "{" :: (t ++ kM "}" :: rest)) ∧ GB d' b t ∧ wfB b ∧ k + d + 10 ≤ 40 ∧ ps.length ≤ i ∧
  ∀ H' v, KeepR R H H' → RdAt K C R H' (i + (1 + t.length + 1)) k (ps ++ hdP R i (1 + t.length + 1)) → Dp K H' v (.tuple (dB b)) → Q v H'
def spOther (d : Nat) : Sp := fun vs H Q _ => ∃ (R : Rd) (i k : Nat) (ps : List Nat) (b : List St) (t : List Tk) (u : Tk) (rest : List Tk), vs = [.ref R.r] ∧ RdAt K C R H i k ps ∧ At R i (t ++ u :: rest) ∧ Fo u ∧ wfB b ∧ k + d + 10 ≤ 40 ∧ ps.length ≤ i ∧
  ((b = [] ∧ t = []) ∨ ∃ d' tb, d = d' + 1 ∧ GB d' b tb ∧ t = kK "else" :: kM "{" :: (tb ++ [kM "}"])) ∧
  ∀ H' v, KeepR R H H' → RdAt K C R H' (i + t.length) k (ps ++ hdP R i t.length) → Dp K H' v (.tuple (dB b)) → Q v H'
end
section
variable {P : Program} {w : World} {K : PySem.W.Frag} {mg : Str → Option Value} {base : Heap} {C : Addr}
theorem hdP_skip {R : Rd} {i : Nat} {x : T3} {z : Str} (hx : R.ts[i]? = some x) (ew : x.w = z) (hz : decide (z ∈ stW) = false) : hdP R i 1 = [] := by
  rw [hdP_one hx]
  unfold isSt
  rw [ew, hz]
  rfl
theorem hdP_head {R : Rd} {i : Nat} {x : T3} (hx : R.ts[i]? = some x) (ew : x.w ∈ stW) : hdP R i 1 = [x.pl] := by
  rw [hdP_one hx]
  unfold isSt
  rw [decide_eq_true ew]
  rfl
theorem scRBlk : FnScope ["self", "statements"] ["self"] (defScope S_Reader_block) := ⟨rfl, rfl, rfl, by decide +kernel, rfl, by decide +kernel, by decide +kernel⟩
theorem ok_blk0 {n : Nat} {f : Addr} {fd : FuncData} : FnOk P w K mg base CX0 n f fd ["self"] (spBlk K C 0) := by
  have no : ∀ vs H Q E, ¬ spBlk K C 0 vs H Q E := fun vs H Q E h => by
    obtain ⟨R, i, k, ps, d', b, t, rest, _, hd, _⟩ := h
    omega
  exact ⟨fun vs H Q E h => absurd h (no vs H Q E), fun A outer s H args us vs Q E _ _ _ _ h => absurd h (no vs H Q E)⟩
theorem ok_blk {n d : Nat} {f : Addr} {fd : FuncData} (F : Fun K "block" "Reader.block" S_Reader_block f fd) (T : RTxt K mg C) (L : RLow P w K mg base C) (hS : Mth P w K mg base C n "statements" ["self"] (spSts K C d)) (hn : 3 ≤ n) : FnOk P w K mg base CX0 (n + 1) f fd ["self"] (spBlk K C (d + 1)) := by
  refine F.ok scRBlk (fun vs H Q E h => ?_) (fun cdv A outer s0 H vs Q E hr h => ?_)
  · obtain ⟨R, i, k, ps, d', b, t, rest, rfl, _⟩ := h
    rfl
  obtain ⟨R, i, k, ps, d', b, t, rest, rfl, hd, h, ha, hg, hw, hk, hp, q⟩ := h
  obtain rfl : d = d' := by omega
  obtain ⟨fS, fdS, GS', mS, bS⟩ := hS.ex
  obtain ⟨fI, fdI, GI, mI, bI⟩ := L.goIn.ex
  obtain ⟨fO, fdO, GO, mO, bO⟩ := L.out.ex
  obtain ⟨fM, fdM, GM, mM, bM⟩ := L.must.ex
  have hr1 : Room 1 _ := hr.mono (by omega)
  have hr3 : Room 3 _ := hr.mono hn
  obtain ⟨dx, ei⟩ := h.ins
  refine ⟨_, pss_cons (ps_expr (pe_meth0 (pv 0) T.cl mI GI hr1 bI .nil pass0))
    (pss_cons (ps_expr (pe_meth (pv 0) T.cl mM GM hr3 bM .nil pass0 (pa_cons pe_str pa_nil)))
    (pss_cons (ps_set (i := 1) scRBlk.nd rfl (Or.inl rfl) (pe_meth0 (pv 0) T.cl mS GS' hr bS .nil pass0))
    (pss_cons (ps_expr (pe_meth (pv 0) T.cl mM GM hr3 bM .nil pass0 (pa_cons pe_str pa_nil)))
    (pss_cons (ps_expr (pe_meth0 (pv 0) T.cl mO GO hr1 bO .nil pass0))
    (pss_one (ps_ret (pv 1))))))), ?_⟩
  obtain ⟨x0, hx0, ex0, ha1⟩ := ha.head
  obtain ⟨_, ew0⟩ := T3.of ex0
  refine ⟨_, rfl, R.r, dx, _, rfl, ei, rf_no _ _ _ _ (by decide +kernel), R, i, k, ps, rfl, h, by omega, fun H1 k1 h1 => ?_⟩
  obtain ⟨dx1, ei1⟩ := h1.ins
  refine ⟨_, rfl, R.r, dx1, _, rfl, ei1, rf_no _ _ _ _ (by decide +kernel), R, _, k + 1, ps, x0, _, rfl, h1, hx0, ew0, fun H2 k2 h2 => ?_⟩
  obtain ⟨dx2, ei2⟩ := h2.ins
  refine ⟨_, rfl, R.r, dx2, _, rfl, ei2, rf_no _ _ _ _ (by decide +kernel), R, _, k + 1, ps, b, t, _, rest, rfl, h2, ha1, hg, ⟨by decide +kernel, by decide +kernel⟩, by decide +kernel, hw, by omega, by omega, fun H3 v k3 h3 d3 => ?_⟩
  obtain ⟨dx3, ei3⟩ := h3.ins
  obtain ⟨x4, hx4, ex4, _⟩ := (At.app ha1).head
  obtain ⟨_, ew4⟩ := T3.of ex4
  refine ⟨_, rfl, R.r, dx3, _, rfl, ei3, rf_no _ _ _ _ (by decide +kernel), R, _, k + 1, _, x4, _, rfl, h3, hx4, ew4, fun H4 k4 h4 => ?_⟩
  obtain ⟨dx4, ei4⟩ := h4.ins
  refine ⟨_, rfl, R.r, dx4, _, rfl, ei4, rf_no _ _ _ _ (by decide +kernel), R, _, k, _, rfl, h4, fun H5 k5 h5 => ?_⟩
  refine ⟨_, rfl, ?_⟩
  refine q H5 v (((k1.trans k2).trans k3).trans (k4.trans k5)) ?_ (Dp.kt ((k4.kt h3).trans (k5.kt h4)) (by show tupDs (dB b) = true; exact tupD_B b) d3)
  have e1 : hdP R i (1 + t.length + 1) = hdP R (i + 1) t.length := by
    rw [hdP_add, hdP_add, hdP_skip hx0 ew0 (by decide +kernel)]
    rw [show i + (1 + t.length) = i + 1 + t.length by omega, hdP_skip hx4 ew4 (by decide +kernel), List.append_nil]
    rfl
  rw [e1, show i + (1 + t.length + 1) = i + 1 + t.length + 1 by omega]
  exact h5
theorem scOther : FnScope ["self"] ["self"] (defScope S_Reader_other_block) := ⟨rfl, rfl, rfl, by decide +kernel, rfl, by decide +kernel, by decide +kernel⟩
theorem ok_other {n d : Nat} {f : Addr} {fd : FuncData} (F : Fun K "other_block" "Reader.other_block" S_Reader_other_block f fd) (T : RTxt K mg C) (L : RLow P w K mg base C) (hB : Mth P w K mg base C n "block" ["self"] (spBlk K C d)) (hn : 2 ≤ n) : FnOk P w K mg base CX0 (n + 1) f fd ["self"] (spOther K C d) := by
  refine F.ok scOther (fun vs H Q E h => ?_) (fun cdv A outer s0 H vs Q E hr h => ?_)
  · obtain ⟨R, i, k, ps, b, t, u, rest, rfl, _⟩ := h
    rfl
  obtain ⟨R, i, k, ps, b, t, u, rest, rfl, h, ha, hf, hw, hk, hp, alt, q⟩ := h
  obtain ⟨fB, fdB, GB', mB, bB⟩ := hB.ex
  obtain ⟨fP, fdP, GP', mP, bP⟩ := L.passes.ex
  have hr2 : Room 2 _ := hr.mono hn
  obtain ⟨dx, ei⟩ := h.ins
  refine ⟨_, pss_cons (ps_if (pt_val (pe_meth (pv 0) T.cl mP GP' hr2 bP .nil pass0 (pa_cons pe_str pa_nil))) (pss_one (ps_ret (pe_meth0 (pv 0) T.cl mB GB' hr bB .nil pass0))) pss_nil) (pss_one (ps_ret (pe_tup pa_nil))), ?_⟩
  rcases alt with ⟨rfl, rfl⟩ | ⟨d', tb, rfl, hg, rfl⟩
  · obtain ⟨x0, hx0, ex0, _⟩ := At.head (l := rest) ha
    obtain ⟨_, ew0⟩ := T3.of (a := u.1) (b := u.2) ex0
    refine ⟨_, rfl, R.r, dx, _, rfl, ei, rf_no _ _ _ _ (by decide +kernel), R, i, k, ps, x0, _, rfl, h, hx0, fun c => ?_, fun _ => ⟨false, rfl, iteF ?_⟩⟩
    · rw [ew0] at c
      exact absurd c hf.2
    · refine ⟨Nat.zero_le _, fun p np => ?_⟩
      refine q _ _ (KeepR.new np _) ?_ (Dp.new np .nil)
      rw [show hdP R i ([] : List Tk).length = [] from rfl, List.append_nil]
      exact h.same (same_new np _)
  · have ha0 : At R i (kK "else" :: kM "{" :: (tb ++ kM "}" :: u :: rest)) := by
      have e : kK "else" :: kM "{" :: (tb ++ [kM "}"]) ++ u :: rest = kK "else" :: kM "{" :: (tb ++ kM "}" :: u :: rest) := by simp
      rw [← e]
      exact ha
    obtain ⟨x0, hx0, ex0, ha1⟩ := ha0.head
    obtain ⟨_, ew0⟩ := T3.of ex0
    refine ⟨_, rfl, R.r, dx, _, rfl, ei, rf_no _ _ _ _ (by decide +kernel), R, i, k, ps, x0, _, rfl, h, hx0, fun _ H1 k1 h1 => ⟨true, rfl, iteT ?_⟩, fun c => absurd ew0 c⟩
    obtain ⟨dx1, ei1⟩ := h1.ins
    refine ⟨_, rfl, R.r, dx1, _, rfl, ei1, rf_no _ _ _ _ (by decide +kernel), R, _, k, ps, d', b, tb, _, rfl, rfl, h1, ha1, hg, hw, by omega, by omega, fun H2 v k2 h2 d2 => ?_⟩
    refine q H2 v (k1.trans k2) ?_ d2
    have el : (kK "else" :: kM "{" :: (tb ++ [kM "}"])).length = 1 + (1 + tb.length + 1) := by
      simp only [List.length_cons, List.length_append, List.length_nil]
      omega
    rw [el, hdP_add, hdP_skip hx0 ew0 (by decide +kernel), List.nil_append, show i + (1 + (1 + tb.length + 1)) = i + 1 + (1 + tb.length + 1) by omega]
    exact h2
theorem scSts : FnScope ["self", "found"] ["self"] (defScope S_Reader_statements) := ⟨rfl, rfl, rfl, by decide +kernel, rfl, by decide +kernel, by decide +kernel⟩
theorem ok_sts {n d : Nat} {f : Addr} {fd : FuncData} (F : Fun K "statements" "Reader.statements" S_Reader_statements f fd) (B : Blt mg) (T : RTxt K mg C) (L : RLow P w K mg base C) (hS : Mth P w K mg base C n "statement" ["self"] (spSt K C d)) (hn : 1 ≤ n) : FnOk P w K mg base CX0 (n + 1) f fd ["self"] (spSts K C d) := by
  refine F.ok scSts (fun vs H Q E h => ?_) (fun cdv A outer s0 H vs Q E hr h => ?_)
  · obtain ⟨R, i, k, ps, b, t, u, rest, rfl, _⟩ := h
    rfl
  obtain ⟨R, i, k, ps, b, t, u, rest, rfl, h, ha, hg, hf, hu, hw, hk, hp, q⟩ := h
  obtain ⟨fS, fdS, GS', mS, bS⟩ := hS.ex
  obtain ⟨fW, fdW, GW, mW, bW⟩ := L.word.ex
  obtain ⟨aS, mSt, hSt⟩ := T.stm
  have hr1 : Room 1 _ := hr.mono hn
  have hbl : b.length ≤ 100002 := Nat.le_trans hg.len (Nat.le_trans ha.len h.small)
  refine ⟨_, pss_cons (ps_set (i := 1) scSts.nd rfl (Or.inl rfl) (pe_lst pa_nil))
    (pss_cons (ps_while PassesOwn.never (pt_cmpR op_in_seq (pe_meth0 (pv 0) T.cl mW GW hr1 bW .nil pass0) (pe_glob (v := .ref aS) rfl mSt rfl) (by rfl))
      (pss_one (ps_expr (pe_bm PySem.F.plainAttrs_list PySem.F.slot_list_append PySem.F.type_list_append mt_append (pv 1) (pa_cons (pe_meth0 (pv 0) T.cl mS GS' hr bS .nil pass0) pa_nil)))))
    (pss_one (ps_ret (pe_callTy call_tuple_of (by rfl) B.tup (by decide +kernel) (pa_cons (pv 1) pa_nil))))), ?_⟩
  refine ⟨Nat.zero_le _, fun p np => ?_⟩
  have a3 := LstAt.new h np
  generalize upd H p (.lst []) = H3 at a3
  refine ⟨fun m σ H' => ∃ (j : Nat) (done b2 : List St) (t2 : List Tk) (vs2 : List V), m = b2.length ∧ σ = [some (.ref R.r), some (.ref p)] ∧ LstAt K C R H H' p vs2 (dB done) (i + j) k (ps ++ hdP R i j) ∧ done ++ b2 = b ∧ GB d b2 t2 ∧ wfB b2 ∧ At R (i + j) (t2 ++ u :: rest) ∧ j + t2.length = t.length,
    ⟨_, 0, [], b, t, _, rfl, rfl, by rw [hdP_zero, List.append_nil]; exact a3, rfl, hg, hw, ha, by omega⟩, ?_⟩
  rintro m σ H6 ⟨j, done, b2, t2, vs2, rfl, rfl, a6, hdn, g2, w2, ha6, el⟩
  obtain ⟨dx6, ei6⟩ := a6.rd.ins
  cases g2 with
  | nil =>
    obtain ⟨x7, hx7, ex7, _⟩ := At.head (l := rest) ha6
    obtain ⟨_, ew7⟩ := T3.of (a := u.1) (b := u.2) ex7
    refine ⟨_, rfl, R.r, dx6, _, rfl, ei6, rf_no _ _ _ _ (by decide +kernel), R, _, k, _, x7, rfl, a6.rd, hx7, ?_⟩
    refine ⟨aS, _, rfl, .inr (hSt H6), rfl, rfl, _, rfl, ?_⟩
    show if inV (.str x7.w) (stW.map V.str) = true then _ else _
    rw [in_strs, ew7, decide_eq_false hu]
    refine iteF ?_
    refine ⟨_, rfl, p, _, rfl, .inl ⟨SqL.of a6.lp, fun l nl => ?_⟩⟩
    rw [List.append_nil] at hdn
    subst hdn
    have ej : j = t.length := by simpa using el
    subst ej
    exact q _ _ (a6.keep.trans (KeepR.new nl _)) (a6.rd.same (same_new nl _)) (Dp.new nl a6.dd)
  | @cons _ s b3 t3 ts3 gs g3 =>
    obtain ⟨z, tz, rfl, hz⟩ := gs.first
    obtain ⟨x7, hx7, ex7, _⟩ := At.head (l := tz ++ ts3 ++ u :: rest) ha6
    obtain ⟨_, ew7⟩ := T3.of ex7
    refine ⟨_, rfl, R.r, dx6, _, rfl, ei6, rf_no _ _ _ _ (by decide +kernel), R, _, k, _, x7, rfl, a6.rd, hx7, ?_⟩
    refine ⟨aS, _, rfl, .inr (hSt H6), rfl, rfl, _, rfl, ?_⟩
    show if inV (.str x7.w) (stW.map V.str) = true then _ else _
    rw [in_strs, ew7, decide_eq_true hz]
    refine iteT ?_
    refine ⟨_, fun σ' H' hN => hN, ?_⟩
    rw [List.append_assoc] at ha6
    obtain ⟨u8, us8, eu8, hu8⟩ := g3.fo hf rest
    have w2' : wfS s ∧ wfB b3 := by unfold wfB at w2; exact w2
    have hpl : (ps ++ hdP R i j).length ≤ i + j := by
      have z := hdP_len R i j
      rw [List.length_append]
      omega
    refine ⟨_, rfl, .inl ⟨rfl, _, SqL.of a6.lp⟩, _, rfl, R.r, dx6, _, rfl, ei6, rf_no _ _ _ _ (by decide +kernel), R, _, k, _, s, _, u8, us8, rfl, a6.rd, by rw [← eu8]; exact ha6, gs, hu8, w2'.1, hk, hpl, fun H8 v8 k8 h8 d8 => ?_⟩
    have a8 := a6.call k8 h8
    have hln : vs2.length ≤ 100002 := by
      rw [DpAll.length a6.dd, dB_length]
      have z : (done ++ s :: b3).length = b.length := by rw [hdn]
      rw [List.length_append, List.length_cons] at z
      omega
    refine ⟨p, _, _, rfl, rfl, a8.lp, Nat.lt_of_le_of_lt hln (by decide), ?_⟩
    have a9 := a8.push d8 (tupD_S s)
    rw [List.append_assoc, ← hdP_add, show i + j + (kK z :: tz).length = i + (j + (kK z :: tz).length) by omega, show dB done ++ [s.d] = dB (done ++ [s]) by rw [dB_append]; rfl] at a9
    refine ⟨b3.length, by show b3.length < (s :: b3).length; rw [List.length_cons]; omega, _, done ++ [s], b3, ts3, _, rfl, rfl, a9, by rw [List.append_assoc]; exact hdn, g3, w2'.2, ?_, ?_⟩
    · have z := At.app ha6
      rw [Nat.add_assoc] at z
      exact z
    · rw [List.length_append] at el
      omega
end
end KD

/-! The reader's statements, one by one. -/
namespace KD
open PySem L2 TL
open K0 (num)
section
variable {P : Program} {w : World} {K : PySem.W.Frag} {mg : Str → Option Value} {base : Heap} {C : Addr}
theorem hdP_cons {R : Rd} {i : Nat} {x : T3} (hx : R.ts[i]? = some x) (ew : x.w ∈ stW) (m : Nat) : hdP R i (1 + m) = x.pl :: hdP R (i + 1) m := by
  rw [hdP_add, hdP_head hx ew]
  rfl
/-- one heap, changed by the reader alone -/
theorem Dp.kr {R : Rd} {H H' : Hp} {i k : Nat} {ps : List Nat} (kp : KeepR R H H') (h : RdAt K C R H i k ps) {v : V} {d : PyData} (t : tupD d = true) (hd : Dp K H v d) : Dp K H' v d := Dp.kt (kp.kt h) t hd
theorem tupD_Bk (b : List St) : tupD (.tuple (dB b)) = true := by show tupDs (dB b) = true; exact tupD_B b
/-- what a statement begins with, and what follows -/
theorem GS.kinds {d : Nat} {s : St} {t : List Tk} (h : GS d s t) : ∀ {z : Str} {tz : List Tk}, t = kK z :: tz →
    (z ∈ (["row", "col", "say"] : List Str) ∧ ∃ e, GE e tz ∧ s.d = .tuple [.str z, e.d] ∧ (wfS s → eOk e)) ∨
    (z = "let" ∧ ∃ y e te, tz = kN y :: kM "=" :: te ∧ GE e te ∧ s = .set y e) ∨
    (z = "if" ∧ ∃ d' c a b tc ta to, d = d' + 1 ∧ s = .ite c a b ∧ GE c tc ∧ GB d' a ta ∧ tz = tc ++ kM "{" :: (ta ++ kM "}" :: to) ∧ ((b = [] ∧ to = []) ∨ ∃ d2 tb, d = d2 + 1 ∧ GB d2 b tb ∧ to = kK "else" :: kM "{" :: (tb ++ [kM "}"]))) ∨
    (z = "while" ∧ ∃ d' c a tc ta, d = d' + 1 ∧ s = .whl c a ∧ GE c tc ∧ GB d' a ta ∧ tz = tc ++ kM "{" :: (ta ++ [kM "}"])) ∨
    (z = "for" ∧ ∃ d' y a b r ta tb tr, d = d' + 1 ∧ s = .for_ y a b r ∧ GE a ta ∧ GE b tb ∧ GB d' r tr ∧ tz = kN y :: kM "=" :: (ta ++ kK "to" :: (tb ++ kM "{" :: (tr ++ [kM "}"])))) ∨
    (z = "do" ∧ ∃ y es te, s = .call y es ∧ GEs es te ∧ tz = kN y :: kM "(" :: (te ++ [kM ")"])) ∨
    (z = "stop" ∧ s = .stop ∧ tz = []) := by
  intro z tz et
  have inj : ∀ {a : Str} {l : List Tk}, kK a :: l = kK z :: tz → a = z ∧ l = tz := fun e => by
    injection e with e1 e2
    injection e1 with e3 e4
    exact ⟨e4, e2⟩
  cases h with
  | row g => obtain ⟨rfl, rfl⟩ := inj et; exact .inl ⟨by decide +kernel, _, g, rfl, fun h => by unfold wfS at h; exact h⟩
  | col g => obtain ⟨rfl, rfl⟩ := inj et; exact .inl ⟨by decide +kernel, _, g, rfl, fun h => by unfold wfS at h; exact h⟩
  | say g => obtain ⟨rfl, rfl⟩ := inj et; exact .inl ⟨by decide +kernel, _, g, rfl, fun h => by unfold wfS at h; exact h⟩
  | set g => obtain ⟨rfl, rfl⟩ := inj et; exact .inr (.inl ⟨rfl, _, _, _, rfl, g, rfl⟩)
  | ite0 g1 g2 => obtain ⟨rfl, rfl⟩ := inj et; exact .inr (.inr (.inl ⟨rfl, _, _, _, _, _, _, [], rfl, rfl, g1, g2, by simp, .inl ⟨rfl, rfl⟩⟩))
  | ite g1 g2 g3 => obtain ⟨rfl, rfl⟩ := inj et; exact .inr (.inr (.inl ⟨rfl, _, _, _, _, _, _, _, rfl, rfl, g1, g2, by simp, .inr ⟨_, _, rfl, g3, rfl⟩⟩))
  | whl g1 g2 => obtain ⟨rfl, rfl⟩ := inj et; exact .inr (.inr (.inr (.inl ⟨rfl, _, _, _, _, _, rfl, rfl, g1, g2, by simp⟩)))
  | for_ g1 g2 g3 => obtain ⟨rfl, rfl⟩ := inj et; exact .inr (.inr (.inr (.inr (.inl ⟨rfl, _, _, _, _, _, _, _, _, rfl, rfl, g1, g2, g3, by simp⟩))))
  | call g => obtain ⟨rfl, rfl⟩ := inj et; exact .inr (.inr (.inr (.inr (.inr (.inl ⟨rfl, _, _, _, rfl, g, by simp⟩)))))
  | stop => obtain ⟨rfl, rfl⟩ := inj et; exact .inr (.inr (.inr (.inr (.inr (.inr ⟨rfl, rfl, rfl⟩)))))
theorem scSt : FnScope ["self", "word"] ["self"] (defScope S_Reader_statement) := ⟨rfl, rfl, rfl, by decide +kernel, rfl, by decide +kernel, by decide +kernel⟩
theorem ok_st {n d : Nat} {f : Addr} {fd : FuncData} (F : Fun K "statement" "Reader.statement" S_Reader_statement f fd) (T : RTxt K mg C) (L : RLow P w K mg base C) (hE : Mth P w K mg base C n "expression" ["self"] (spRExpr K C 10))
    (hN : Mth P w K mg base C n "set_name" ["self"] (spSetName K C)) (hV : Mth P w K mg base C n "last_value" ["self"] (spLast K C)) (hA : Mth P w K mg base C n "passed" ["self"] (spPassed K C))
    (hB : Mth P w K mg base C n "block" ["self"] (spBlk K C d)) (hO : Mth P w K mg base C n "other_block" ["self"] (spOther K C d)) (hn : 3 ≤ n) : FnOk P w K mg base CX0 (n + 1) f fd ["self"] (spSt K C d) := by
  refine F.ok scSt (fun vs H Q E h => ?_) (fun cdv A outer s0 H vs Q E hr h => ?_)
  · obtain ⟨R, i, k, ps, s, t, u, rest, rfl, _⟩ := h
    rfl
  obtain ⟨R, i, k, ps, s, t, u, rest, rfl, h, ha, hg, hf, hw, hk, hp, q⟩ := h
  obtain ⟨fE, fdE, GE', mE, bE⟩ := hE.ex
  obtain ⟨fN, fdN, GN, mN, bN⟩ := hN.ex
  obtain ⟨fV, fdV, GV, mV, bV⟩ := hV.ex
  obtain ⟨fA, fdA, GA, mA, bA⟩ := hA.ex
  obtain ⟨fB, fdB, GB', mB, bB⟩ := hB.ex
  obtain ⟨fO, fdO, GO, mO, bO⟩ := hO.ex
  obtain ⟨fL, fdL, GL, mL, bL⟩ := L.place.ex
  obtain ⟨fT, fdT, GT, mT, bT⟩ := L.taken.ex
  obtain ⟨fM, fdM, GM, mM, bM⟩ := L.name.ex
  have hr1 : Room 1 _ := hr.mono (by omega)
  have hr2 : Room 2 _ := hr.mono (by omega)
  have hr3 : Room 3 _ := hr.mono hn
  obtain ⟨dx, ei⟩ := h.ins
  have no : ∀ (A B : Addr) (i k : Nat) (m : Str), m ∈ (["place", "taken", "name", "expression", "set_name", "last_value", "passed", "block", "other_block"] : List Str) → (rf A B i k).lookup m = none := fun A B i k m hm => by
    simp only [List.mem_cons, List.not_mem_nil, or_false] at hm
    rcases hm with rfl | rfl | rfl | rfl | rfl | rfl | rfl | rfl | rfl <;> exact rf_no _ _ _ _ (by decide +kernel)
  refine ⟨_, pss_cons (ps_expr (pe_bm PySem.F.plainAttrs_list PySem.F.slot_list_append PySem.F.type_list_append mt_append (pe_fld (pv 0) rfl) (pa_cons (pe_meth0 (pv 0) T.cl mL GL hr1 bL .nil pass0) pa_nil)))
    (pss_cons (ps_set (i := 1) scSt.nd rfl (Or.inl rfl) (pe_meth0 (pv 0) T.cl mT GT hr2 bT .nil pass0))
    (pss_cons (ps_if (pt_cmpR op_in_seq (pv 1) (pe_tup (pa_cons pe_str (pa_cons pe_str (pa_cons pe_str pa_nil)))) (by rfl)) (pss_one (ps_ret (pe_tup (pa_cons (pv 1) (pa_cons (pe_meth0 (pv 0) T.cl mE GE' hr bE .nil pass0) pa_nil))))) pss_nil)
    (pss_cons (ps_if (pt_cmpR op_eq (pv 1) pe_str (nomark _)) (pss_one (ps_ret (pe_tup (pa_cons (pv 1) (StX.pa_star (pe_meth0 (pv 0) T.cl mN GN hr bN .nil pass0) pa_nil))))) pss_nil)
    (pss_cons (ps_if (pt_cmpR op_eq (pv 1) pe_str (nomark _)) (pss_one (ps_ret (pe_tup (pa_cons (pv 1) (pa_cons (pe_meth0 (pv 0) T.cl mE GE' hr bE .nil pass0) (pa_cons (pe_meth0 (pv 0) T.cl mB GB' hr bB .nil pass0) (pa_cons (pe_meth0 (pv 0) T.cl mO GO hr bO .nil pass0) pa_nil))))))) pss_nil)
    (pss_cons (ps_if (pt_cmpR op_eq (pv 1) pe_str (nomark _)) (pss_one (ps_ret (pe_tup (pa_cons (pv 1) (pa_cons (pe_meth0 (pv 0) T.cl mE GE' hr bE .nil pass0) (pa_cons (pe_meth0 (pv 0) T.cl mB GB' hr bB .nil pass0) pa_nil)))))) pss_nil)
    (pss_cons (ps_if (pt_cmpR op_eq (pv 1) pe_str (nomark _)) (pss_one (ps_ret (pe_tup (pa_cons (pv 1) (StX.pa_star (pe_meth0 (pv 0) T.cl mN GN hr bN .nil pass0) (pa_cons (pe_meth0 (pv 0) T.cl mV GV hr bV .nil pass0) (pa_cons (pe_meth0 (pv 0) T.cl mB GB' hr bB .nil pass0) pa_nil))))))) pss_nil)
    (pss_cons (ps_if (pt_cmpR op_eq (pv 1) pe_str (nomark _)) (pss_one (ps_ret (pe_tup (pa_cons (pv 1) (pa_cons (pe_meth0 (pv 0) T.cl mM GM hr3 bM .nil pass0) (pa_cons (pe_meth0 (pv 0) T.cl mA GA hr bA .nil pass0) pa_nil)))))) pss_nil)
    (pss_one (ps_ret (pe_tup (pa_cons (pv 1) pa_nil))))))))))), ?_⟩
  obtain ⟨z, tz, et, hz⟩ := hg.first
  have ha' := ha
  rw [et] at ha'
  obtain ⟨x, hx, ex, ha1⟩ := At.head (l := tz ++ u :: rest) ha'
  obtain ⟨_, ew⟩ := T3.of ex
  -- the place is noted
  refine ⟨_, rfl, R.r, C, dx, _, _, rfl, ei, T.cl, T.nP, rf_places _ _ _ _, .inl ⟨rfl, _, SqL.of h.plc⟩, _, rfl, R.r, dx, _, rfl, ei, no _ _ _ _ _ (by decide +kernel), R, i, k, ps, x, rfl, h, hx, ?_⟩
  have hsz : ps.length ≤ 100002 := Nat.le_trans hp (Nat.le_trans (Nat.le_of_lt (At.lt ha')) h.small)
  refine ⟨R.pA, _, _, rfl, rfl, h.plc, by rw [List.length_map]; exact Nat.lt_of_le_of_lt hsz (by decide), ?_⟩
  obtain ⟨h1, k1⟩ := h.push x.pl
  generalize upd H R.pA (.lst ((ps.map fun p : Nat => V.int (p : Nat)) ++ [.int (x.pl : Nat)])) = H1 at h1 k1
  obtain ⟨dx1, ei1⟩ := h1.ins
  -- its word is taken
  refine ⟨_, rfl, R.r, dx1, _, rfl, ei1, no _ _ _ _ _ (by decide +kernel), R, i, k, _, x, rfl, h1, hx, fun H2 k2 h2 => ?_⟩
  rw [ew]
  have hxs : x.w ∈ stW := by rw [ew]; exact hz
  have k12 := k1.trans k2
  have hp2 : (ps ++ [x.pl]).length ≤ i + 1 := by rw [List.length_append]; show ps.length + 1 ≤ i + 1; omega
  -- is it row, col or say?
  refine ⟨_, rfl, (by show 3 ≤ sizeLine; decide), fun p3 np3 => ⟨p3, _, rfl, .inr (SqT.of upd_same), rfl, rfl, _, rfl, ?_⟩⟩
  have s3 := same_new np3 (.tup [.str "row", .str "col", .str "say"])
  have h3 := h2.same s3
  have k13 := k12.trans (KeepR.same s3)
  generalize upd H2 p3 (.tup [.str "row", .str "col", .str "say"]) = H3 at h3 k13 s3
  obtain ⟨dx3, ei3⟩ := h3.ins
  show if inV (.str z) ((["row", "col", "say"] : List Str).map V.str) = true then _ else _
  rw [in_strs]
  have isno : ∀ (a b : Str), decide (a = b) = false → decide (V.str a = V.str b) = false := fun a b e => by rw [dec_strs]; exact e
  have isyes : ∀ (a : Str), decide (V.str a = V.str a) = true := fun a => decide_eq_true rfl
  have all : ∀ (m : Nat) {H' : Hp}, t.length = 1 + m → RdAt K C R H' (i + 1 + m) k (ps ++ [x.pl] ++ hdP R (i + 1) m) → RdAt K C R H' (i + t.length) k (ps ++ hdP R i t.length) := fun m H' e h => by
    rw [e, hdP_cons hx hxs, ← Nat.add_assoc]
    rw [List.append_assoc] at h
    exact h
  have et1 : t.length = 1 + tz.length := by rw [et, List.length_cons, Nat.add_comm]
  -- which word it is
  rcases hg.kinds et with ⟨hz3, e, g, ed, we⟩ | ⟨rfl, y, e, te, rfl, g, rfl⟩ | ⟨rfl, d', c, a, b, tc, ta, to, rfl, rfl, g1, g2, rfl, alt⟩ | ⟨rfl, d', c, a, tc, ta, rfl, rfl, g1, g2, rfl⟩ | ⟨rfl, d', y, a, b, r, ta, tb, tr, rfl, rfl, g1, g2, g3, rfl⟩ | ⟨rfl, y, es, te, rfl, g, rfl⟩ | ⟨rfl, rfl, rfl⟩
  · -- row, col, say
    rw [decide_eq_true hz3]
    refine iteT ?_
    refine ⟨_, rfl, _, rfl, R.r, dx3, _, rfl, ei3, no _ _ _ _ _ (by decide +kernel), R, _, k, _, e, tz, u, rest, rfl, h3, ha1, g, hf.stop 0, (we hw).1, by omega, fun H4 v k4 h4 d4 => ?_⟩
    refine ⟨(by show 2 ≤ sizeLine; decide), fun p np => ?_⟩
    have s5 := same_new np (.tup [.str z, v])
    refine q _ _ (k13.trans (k4.trans (KeepR.same s5))) (all tz.length et1 ?_) (by rw [ed]; exact Dp.new np (.cons (.str z) (.cons d4 .nil)))
    rw [hdP_none ha1 (g.noSt (we hw).1), List.append_nil]
    exact h4.same s5
  · -- let
    rw [show decide (("let" : Str) ∈ (["row", "col", "say"] : List Str)) = false by decide +kernel]
    refine iteF ?_
    refine ⟨_, rfl, rfl, _, rfl, ?_⟩
    rw [isyes]
    refine iteT ?_
    have hw' : nameW y = true ∧ eOk e := by unfold wfS at hw; exact hw
    have nst : ∀ w ∈ kN y :: kM "=" :: te, w.2 ∉ stW := fun w hm => by
      rcases List.mem_cons.mp hm with e1 | hm
      · rw [e1]; exact nameW_st hw'.1
      rcases List.mem_cons.mp hm with e1 | hm
      · rw [e1]; decide +kernel
      · exact g.noSt hw'.2.1 w hm
    have pl0 := hdP_none ha1 nst
    refine ⟨_, rfl, _, rfl, R.r, dx3, _, rfl, ei3, no _ _ _ _ _ (by decide +kernel), R, _, k, _, y, e, te, u, rest, rfl, h3, ha1, g, hf.stop 0, hw'.2.1, by omega, fun H4 a v k4 h4 hT4 d4 => ?_⟩
    refine ⟨a, _, rfl, .inl hT4, ?_⟩
    refine ⟨(by show 3 ≤ sizeLine; decide), fun p np => ?_⟩
    have s5 := same_new np (.tup [.str "let", .str y, v])
    refine q _ _ (k13.trans (k4.trans (KeepR.same s5))) (all _ et1 ?_) (Dp.new np (.cons (.str "let") (.cons (.str y) (.cons d4 .nil))))
    rw [pl0, List.append_nil (ps ++ [x.pl]), show i + 1 + (kN y :: kM "=" :: te).length = i + 1 + 2 + te.length by rw [List.length_cons, List.length_cons]; omega]
    exact h4.same s5
  · -- if
    rw [show decide (("if" : Str) ∈ (["row", "col", "say"] : List Str)) = false by decide +kernel]
    refine iteF ?_
    refine ⟨_, rfl, rfl, _, rfl, ?_⟩
    rw [isno _ _ (by decide +kernel)]
    refine iteF ?_
    refine ⟨_, rfl, rfl, _, rfl, ?_⟩
    rw [isyes]
    refine iteT ?_
    have hw' : eOk c ∧ wfB a ∧ wfB b := by unfold wfS at hw; exact hw
    have ha2 : At R (i + 1) (tc ++ kM "{" :: (ta ++ kM "}" :: (to ++ u :: rest))) := by
      have e1 : tc ++ kM "{" :: (ta ++ kM "}" :: to) ++ u :: rest = tc ++ kM "{" :: (ta ++ kM "}" :: (to ++ u :: rest)) := by simp
      rw [← e1]
      exact ha1
    have ha3 := At.app ha2
    have ha4 : At R (i + 1 + tc.length + (1 + ta.length + 1)) (to ++ u :: rest) := by
      have e1 : kM "{" :: (ta ++ kM "}" :: (to ++ u :: rest)) = (kM "{" :: (ta ++ [kM "}"])) ++ (to ++ u :: rest) := by simp
      rw [e1] at ha3
      have z9 := At.app ha3
      rw [show (kM "{" :: (ta ++ [kM "}"])).length = 1 + ta.length + 1 by rw [List.length_cons, List.length_append]; show ta.length + 1 + 1 = _; omega] at z9
      exact z9
    refine ⟨_, rfl, _, rfl, R.r, dx3, _, rfl, ei3, no _ _ _ _ _ (by decide +kernel), R, _, k, _, c, tc, _, _, rfl, h3, ha2, g1, stop_mark (by decide +kernel) 0, hw'.1.1, by omega, fun H4 v k4 h4 d4 => ?_⟩
    obtain ⟨dx4, ei4⟩ := h4.ins
    refine ⟨_, rfl, R.r, dx4, _, rfl, ei4, no _ _ _ _ _ (by decide +kernel), R, _, k, _, d', a, ta, _, rfl, rfl, h4, ha3, g2, hw'.2.1, by omega, by omega, fun H5 v5 k5 h5 d5 => ?_⟩
    obtain ⟨dx5, ei5⟩ := h5.ins
    have hp5 : (ps ++ [x.pl] ++ hdP R (i + 1 + tc.length) (1 + ta.length + 1)).length ≤ i + 1 + tc.length + (1 + ta.length + 1) := by
      have z9 := hdP_len R (i + 1 + tc.length) (1 + ta.length + 1)
      rw [List.length_append]
      omega
    refine ⟨_, rfl, R.r, dx5, _, rfl, ei5, no _ _ _ _ _ (by decide +kernel), R, _, k, _, b, to, u, rest, rfl, h5, ha4, hf, hw'.2.2, by omega, hp5, alt, fun H6 v6 k6 h6 d6 => ?_⟩
    refine ⟨(by show 4 ≤ sizeLine; decide), fun p np => ?_⟩
    have s7 := same_new np (.tup [.str "if", v, v5, v6])
    have dc : Dp K H6 v c.d := Dp.kt ((k5.kt h4).trans (k6.kt h5)) (tupD_E _) d4
    have da : Dp K H6 v5 (.tuple (dB a)) := Dp.kt (k6.kt h5) (tupD_Bk a) d5
    refine q _ _ (k13.trans ((k4.trans k5).trans (k6.trans (KeepR.same s7)))) (all _ et1 ?_) (by unfold St.d; exact Dp.new np (.cons (.str "if") (.cons dc (.cons da (.cons d6 .nil)))))
    have el : (tc ++ kM "{" :: (ta ++ kM "}" :: to)).length = tc.length + ((1 + ta.length + 1) + to.length) := by
      simp only [List.length_append, List.length_cons]
      omega
    rw [el, hdP_add, hdP_add, hdP_none ha2 (g1.noSt hw'.1.1), List.nil_append, ← List.append_assoc, ← Nat.add_assoc (i + 1), ← Nat.add_assoc (i + 1 + tc.length)]
    exact h6.same s7
  · -- while
    rw [show decide (("while" : Str) ∈ (["row", "col", "say"] : List Str)) = false by decide +kernel]
    refine iteF ?_
    refine ⟨_, rfl, rfl, _, rfl, ?_⟩
    rw [isno _ _ (by decide +kernel)]
    refine iteF ?_
    refine ⟨_, rfl, rfl, _, rfl, ?_⟩
    rw [isno _ _ (by decide +kernel)]
    refine iteF ?_
    refine ⟨_, rfl, rfl, _, rfl, ?_⟩
    rw [isyes]
    refine iteT ?_
    have hw' : eOk c ∧ wfB a := by unfold wfS at hw; exact hw
    have ha2 : At R (i + 1) (tc ++ kM "{" :: (ta ++ kM "}" :: (u :: rest))) := by
      have e1 : tc ++ kM "{" :: (ta ++ [kM "}"]) ++ u :: rest = tc ++ kM "{" :: (ta ++ kM "}" :: (u :: rest)) := by simp
      rw [← e1]
      exact ha1
    have ha3 := At.app ha2
    refine ⟨_, rfl, _, rfl, R.r, dx3, _, rfl, ei3, no _ _ _ _ _ (by decide +kernel), R, _, k, _, c, tc, _, _, rfl, h3, ha2, g1, stop_mark (by decide +kernel) 0, hw'.1.1, by omega, fun H4 v k4 h4 d4 => ?_⟩
    obtain ⟨dx4, ei4⟩ := h4.ins
    refine ⟨_, rfl, R.r, dx4, _, rfl, ei4, no _ _ _ _ _ (by decide +kernel), R, _, k, _, d', a, ta, _, rfl, rfl, h4, ha3, g2, hw'.2, by omega, by omega, fun H5 v5 k5 h5 d5 => ?_⟩
    refine ⟨(by show 3 ≤ sizeLine; decide), fun p np => ?_⟩
    have s7 := same_new np (.tup [.str "while", v, v5])
    have dc : Dp K H5 v c.d := Dp.kt (k5.kt h4) (tupD_E _) d4
    refine q _ _ (k13.trans ((k4.trans k5).trans (KeepR.same s7))) (all _ et1 ?_) (by unfold St.d; exact Dp.new np (.cons (.str "while") (.cons dc (.cons d5 .nil))))
    have el : (tc ++ kM "{" :: (ta ++ [kM "}"])).length = tc.length + (1 + ta.length + 1) := by
      simp only [List.length_append, List.length_cons, List.length_nil]
      omega
    rw [el, hdP_add, hdP_none ha2 (g1.noSt hw'.1.1), List.nil_append, ← Nat.add_assoc (i + 1)]
    exact h5.same s7
  · -- for
    rw [show decide (("for" : Str) ∈ (["row", "col", "say"] : List Str)) = false by decide +kernel]
    refine iteF ?_
    refine ⟨_, rfl, rfl, _, rfl, ?_⟩
    rw [isno _ _ (by decide +kernel)]
    refine iteF ?_
    refine ⟨_, rfl, rfl, _, rfl, ?_⟩
    rw [isno _ _ (by decide +kernel)]
    refine iteF ?_
    refine ⟨_, rfl, rfl, _, rfl, ?_⟩
    rw [isno _ _ (by decide +kernel)]
    refine iteF ?_
    refine ⟨_, rfl, rfl, _, rfl, ?_⟩
    rw [isyes]
    refine iteT ?_
    have hw' : nameW y = true ∧ eOk a ∧ eOk b ∧ wfB r := by unfold wfS at hw; exact hw
    have ha2 : At R (i + 1) (kN y :: kM "=" :: (ta ++ kK "to" :: (tb ++ kM "{" :: (tr ++ kM "}" :: (u :: rest))))) := by
      have e1 : kN y :: kM "=" :: (ta ++ kK "to" :: (tb ++ kM "{" :: (tr ++ [kM "}"]))) ++ u :: rest = kN y :: kM "=" :: (ta ++ kK "to" :: (tb ++ kM "{" :: (tr ++ kM "}" :: (u :: rest)))) := by simp
      rw [← e1]
      exact ha1
    have ha3 : At R (i + 1 + 2 + ta.length) (kK "to" :: (tb ++ kM "{" :: (tr ++ kM "}" :: (u :: rest)))) := by
      have z9 := At.app (t := kN y :: kM "=" :: ta) (l := kK "to" :: (tb ++ kM "{" :: (tr ++ kM "}" :: (u :: rest)))) ha2
      rw [show i + 1 + (kN y :: kM "=" :: ta).length = i + 1 + 2 + ta.length by rw [List.length_cons, List.length_cons]; omega] at z9
      exact z9
    have ha4 : At R (i + 1 + 2 + ta.length + 1 + tb.length) (kM "{" :: (tr ++ kM "}" :: (u :: rest))) := by
      obtain ⟨_, _, _, z8⟩ := ha3.head
      exact At.app z8
    refine ⟨_, rfl, _, rfl, R.r, dx3, _, rfl, ei3, no _ _ _ _ _ (by decide +kernel), R, _, k, _, y, a, ta, _, _, rfl, h3, ha2, g1, stop_mark (by decide +kernel) 0, hw'.2.1.1, by omega, fun H4 aa v k4 h4 hT4 d4 => ?_⟩
    refine ⟨aa, _, rfl, .inl hT4, ?_⟩
    obtain ⟨dx4, ei4⟩ := h4.ins
    refine ⟨_, rfl, R.r, dx4, _, rfl, ei4, no _ _ _ _ _ (by decide +kernel), R, _, k, _, b, tb, _, _, rfl, h4, ha3, g2, stop_mark (by decide +kernel) 0, hw'.2.2.1.1, by omega, fun H5 v5 k5 h5 d5 => ?_⟩
    obtain ⟨dx5, ei5⟩ := h5.ins
    refine ⟨_, rfl, R.r, dx5, _, rfl, ei5, no _ _ _ _ _ (by decide +kernel), R, _, k, _, d', r, tr, _, rfl, rfl, h5, ha4, g3, hw'.2.2.2, by omega, by omega, fun H6 v6 k6 h6 d6 => ?_⟩
    refine ⟨(by show 5 ≤ sizeLine; decide), fun p np => ?_⟩
    have s7 := same_new np (.tup [.str "for", .str y, v, v5, v6])
    have dc : Dp K H6 v a.d := Dp.kt ((k5.kt h4).trans (k6.kt h5)) (tupD_E _) d4
    have da : Dp K H6 v5 b.d := Dp.kt (k6.kt h5) (tupD_E _) d5
    refine q _ _ (k13.trans ((k4.trans k5).trans (k6.trans (KeepR.same s7)))) (all _ et1 ?_) (by unfold St.d; exact Dp.new np (.cons (.str "for") (.cons (.str y) (.cons dc (.cons da (.cons d6 .nil))))))
    have hno : ∀ w ∈ kN y :: kM "=" :: (ta ++ kK "to" :: tb), w.2 ∉ stW := fun w hm => by
      simp only [List.mem_cons, List.mem_append] at hm
      rcases hm with e1 | e1 | e1 | e1 | e1
      · rw [e1]; exact nameW_st hw'.1
      · rw [e1]; decide +kernel
      · exact g1.noSt hw'.2.1.1 w e1
      · rw [e1]; decide +kernel
      · exact g2.noSt hw'.2.2.1.1 w e1
    have ha2' : At R (i + 1) ((kN y :: kM "=" :: (ta ++ kK "to" :: tb)) ++ (kM "{" :: (tr ++ kM "}" :: (u :: rest)))) := by
      have e1 : kN y :: kM "=" :: (ta ++ kK "to" :: (tb ++ kM "{" :: (tr ++ kM "}" :: (u :: rest)))) = (kN y :: kM "=" :: (ta ++ kK "to" :: tb)) ++ (kM "{" :: (tr ++ kM "}" :: (u :: rest))) := by simp
      rw [← e1]
      exact ha2
    have el0 : (kN y :: kM "=" :: (ta ++ kK "to" :: tb)).length = 2 + ta.length + 1 + tb.length := by
      simp only [List.length_append, List.length_cons]
      omega
    have pl0 := hdP_none ha2' hno
    rw [el0] at pl0
    have el : (kN y :: kM "=" :: (ta ++ kK "to" :: (tb ++ kM "{" :: (tr ++ [kM "}"])))).length = (2 + ta.length + 1 + tb.length) + (1 + tr.length + 1) := by
      simp only [List.length_append, List.length_cons, List.length_nil]
      omega
    rw [el, hdP_add, pl0, List.nil_append, ← Nat.add_assoc (i + 1), show i + 1 + (2 + ta.length + 1 + tb.length) = i + 1 + 2 + ta.length + 1 + tb.length by omega]
    exact h6.same s7
  · -- do
    rw [show decide (("do" : Str) ∈ (["row", "col", "say"] : List Str)) = false by decide +kernel]
    refine iteF ?_
    refine ⟨_, rfl, rfl, _, rfl, ?_⟩
    rw [isno _ _ (by decide +kernel)]
    refine iteF ?_
    refine ⟨_, rfl, rfl, _, rfl, ?_⟩
    rw [isno _ _ (by decide +kernel)]
    refine iteF ?_
    refine ⟨_, rfl, rfl, _, rfl, ?_⟩
    rw [isno _ _ (by decide +kernel)]
    refine iteF ?_
    refine ⟨_, rfl, rfl, _, rfl, ?_⟩
    rw [isno _ _ (by decide +kernel)]
    refine iteF ?_
    refine ⟨_, rfl, rfl, _, rfl, ?_⟩
    rw [isyes]
    refine iteT ?_
    have hw' : nameW y = true ∧ es.length ≤ 100 ∧ ∀ e ∈ es, eOk e := by unfold wfS at hw; exact hw
    have ha2 : At R (i + 1) (kN y :: kM "(" :: (te ++ kM ")" :: (u :: rest))) := by
      have e1 : kN y :: kM "(" :: (te ++ [kM ")"]) ++ u :: rest = kN y :: kM "(" :: (te ++ kM ")" :: (u :: rest)) := by simp
      rw [← e1]
      exact ha1
    obtain ⟨x4, hx4, ex4, ha3⟩ := ha2.head
    obtain ⟨ek4, ew4⟩ := T3.of ex4
    refine ⟨_, rfl, _, rfl, R.r, dx3, _, rfl, ei3, no _ _ _ _ _ (by decide +kernel), R, _, k, _, x4, rfl, h3, hx4, ek4, fun H4 k4 h4 => ?_⟩
    rw [ew4]
    obtain ⟨dx4, ei4⟩ := h4.ins
    refine ⟨_, rfl, R.r, dx4, _, rfl, ei4, no _ _ _ _ _ (by decide +kernel), R, _, k, _, es, te, _, rfl, h4, ha3, g, fun e he => (hw'.2.2 e he).1, hw'.2.1, by omega, fun H5 v5 k5 h5 d5 => ?_⟩
    refine ⟨(by show 3 ≤ sizeLine; decide), fun p np => ?_⟩
    have s7 := same_new np (.tup [.str "do", .str y, v5])
    have nst : ∀ w ∈ kN y :: kM "(" :: (te ++ [kM ")"]), w.2 ∉ stW := fun w hm => by
      simp only [List.mem_cons, List.mem_append, List.not_mem_nil, or_false] at hm
      rcases hm with e1 | e1 | e1 | e1
      · rw [e1]; exact nameW_st hw'.1
      · rw [e1]; decide +kernel
      · exact g.noSt (fun e he => (hw'.2.2 e he).1) w e1
      · rw [e1]; decide +kernel
    refine q _ _ (k13.trans ((k4.trans k5).trans (KeepR.same s7))) (all _ et1 ?_) (by unfold St.d; exact Dp.new np (.cons (.str "do") (.cons (.str y) (.cons d5 .nil))))
    rw [hdP_none ha1 nst, List.append_nil, show i + 1 + (kN y :: kM "(" :: (te ++ [kM ")"])).length = i + 1 + 1 + 1 + te.length + 1 by simp only [List.length_append, List.length_cons, List.length_nil]; omega]
    exact h5.same s7
  · -- stop
    rw [show decide (("stop" : Str) ∈ (["row", "col", "say"] : List Str)) = false by decide +kernel]
    refine iteF ?_
    refine ⟨_, rfl, rfl, _, rfl, ?_⟩
    rw [isno _ _ (by decide +kernel)]
    refine iteF ?_
    refine ⟨_, rfl, rfl, _, rfl, ?_⟩
    rw [isno _ _ (by decide +kernel)]
    refine iteF ?_
    refine ⟨_, rfl, rfl, _, rfl, ?_⟩
    rw [isno _ _ (by decide +kernel)]
    refine iteF ?_
    refine ⟨_, rfl, rfl, _, rfl, ?_⟩
    rw [isno _ _ (by decide +kernel)]
    refine iteF ?_
    refine ⟨_, rfl, rfl, _, rfl, ?_⟩
    rw [isno _ _ (by decide +kernel)]
    refine iteF ?_
    refine ⟨_, rfl, ?_⟩
    refine ⟨(by show 1 ≤ sizeLine; decide), fun p np => ?_⟩
    have s7 := same_new np (.tup [.str "stop"])
    refine q _ _ (k13.trans (KeepR.same s7)) (all 0 et1 ?_) (Dp.new np (.cons (.str "stop") .nil))
    rw [hdP_zero, List.append_nil]
    exact h3.same s7
end
end KD

/-! A generator expression in all(..): its table of code objects is told by what always holds of it, so that nothing that is tracked changes. -/
namespace GN
open PySem PySem.Spec PyProof.Rows L2
/-- what is always true of the table at P -/
def TabI (P : Addr) (h : Heap) : Prop := ∃ ps : Array Value, h.get? P = some { cls := .none, data := .fields ps } ∧ TriplesOk ps.toList
/-- the table at P is tracked so -/
def Tab (P : Addr) (H : Hp) : Prop := H P = some (.ext (TabI P))
theorem TabI.okX {P0 : Program} {w : World} {P : Addr} {H : Hp} {h : Heap} (t : TabI P h) : ObjOk P0 w H h P (.ext (TabI P)) := by
  obtain ⟨ps, e, q⟩ := t
  exact ⟨⟨ps, e, q⟩, ⟨_, e⟩, fun h1 h2 z k => by
    obtain ⟨qs, e1, q1⟩ := z
    exact ⟨qs, k _ e1, q1⟩⟩
section
variable {X : Cx} {pins : List (Addr × Obj)} {σ : L2.St} {H : Hp} {s : Shared}
/-- the table has grown, all else stands -/
theorem grow {P : Addr} {h2 : Heap} {gs : Array GenState} {dr : Drawn} {tk : Nat} (I : Inv X pins σ H s) (hP : Tab P H) (kp : ∀ b o, b ≠ P → s.heap.get? b = some o → h2.get? b = some o) (hT : TabI P h2) (hg : AllBare gs) :
    Inv X pins σ H { s with heap := h2, gens := gs, drawn := dr, toks := tk } := by
  have away : ∀ {b : Addr}, H b = none → b ≠ P := fun n z => by rw [z, hP] at n; cases n
  have other : ∀ {b : Addr} {u : HO}, H b = some u → (∀ φ, u ≠ .ext φ) → b ≠ P := fun q n z => by
    rw [z, hP] at q
    exact n _ (Option.some.inj q).symm
  refine I.step (g' := gs) (d' := dr) (ch := []) (by intro b hb; cases hb) (fun b o _ _ _ q n => kp b o (away n) q) (fun b o _ _ _ q n => ⟨_, kp b o (away n) q⟩) (fun b o _ _ n => n) ?_ (fun b xs q => q) (fun b o u q => q) (fun b ps q => ⟨#[], by rw [q, Array.append_empty]⟩) ?_ ?_ hg
  · intro b o _ q
    by_cases z : b = P
    · obtain ⟨ps, e, _⟩ := hT
      exact ⟨_, z ▸ e⟩
    · exact ⟨o, kp b o z q⟩
  · rintro m ⟨o, es, ep, ho, r⟩
    exact ⟨o, es, ep, kp _ o (away I.free) ho, r⟩
  · intro b u q
    by_cases z : b = P
    · subst z
      rw [hP] at q
      cases q
      exact hT.okX
    · refine (I.hok b u q).stay (fun d v hd e => kp d v ?_ e) (fun _ e => e) (fun _ _ e => e)
      rcases hd with hd | hd
      · rw [hd]; exact z
      · exact other hd fun φ y => by cases y
/-- what the element must be: a test of the sign that is held, the module's names at hand -/
def Elt (X : Cx) (sc : Scope) (x : Str) (elt : Expr) (pb : Nat → Bool) : Prop :=
  ∀ (env : Env) (B : Around) (Ex : Value → Shared → Prop) (c : Nat) (t : Tok) (s2 : Shared) (m2 : Str → Option Value), env.scope = sc → env.globals = mainGlobals → s2.heap.Ns mainGlobals X.mg → s2.heap.Ns env.locals m2 → m2 x = some (.str ⟨#[c]⟩ t) →
    wpAny (model X.prog X.w) B (eval elt env) (fun y s3 => y = .bool (pb c) ∧ Keeps s2 s3) Ex s2
/-- x in NAME, the name being a text of the module -/
theorem elt_in {sc : Scope} {x y : Str} {Z : Str} {tz : Tok} {p1 p2 p3 : Pos} (hk : sc.kind = .function) (hx : sc.names.lookup x = some .local) (hy : sc.names.lookup y = some .globalImplicit) (hm : X.mg y = some (.str Z tz)) (d1 : (x == ("__debug__" : Str)) = false := by decide) (d2 : (y == ("__debug__" : Str)) = false := by decide) :
    Elt X sc x (.Compare (.Name x p1) [.In] [.Name y p2] p3) (fun c => decide (c ∈ Z.cps.toList)) := by
  intro env B Ex c t s2 m2 hs hgl hG hn hm2
  refine wpAny_Compare1 ?_
  refine wpAny_Name (wpAny_loadName_local (by rw [hs]; exact hk) (by show env.scope.names.lookup x = _; rw [hs]; exact hx) hn hm2 ?_) d1
  refine Calls.Name_function_global (by rw [hs]; exact hk) (by show env.scope.names.lookup y = _; rw [hs]; exact hy) (Calls.loadGlobal_global (by rw [hgl]; exact hG) hm ?_) d2
  refine PyProof.Rows.in_str ⟨?_, GxR.keeps_refl _⟩
  rw [PySem.StrLaws.found_one Z c]
end
end GN
namespace GN
open PySem PySem.Spec PyProof.Rows L2
section
variable {X : Cx} {pins : List (Addr × Obj)} {σ : L2.St} {H : Hp} {s : Shared}
/-- the generator at g goes over the signs of z, in the state s5 -/
def Goes (X : Cx) (pins : List (Addr × Obj)) (σ : L2.St) (H1 : Hp) (z : Str) (pb : Nat → Bool) (g : Addr) (s5 : Shared) : Prop :=
  ∃ (fp wr : List Addr) (G : Array GenState → Array GenState → Prop) (F : Nat → Value → Prop) (St : Nat → Shared → Prop),
    St 0 s5 ∧ WalksS X.prog X.w X.A.in1 g fp wr G z.cps.size F St ∧ (∀ s', Moved wr G s5 s' → Inv X pins σ H1 s') ∧
    TruthOf X.prog X.w X.A.in1 F (GxR.trF pb z.cps.toList)
theorem gen_signs {c P : Addr} {elt iter : Expr} {x : Str} {px gp : Pos} {sc : Scope} {pb : Nat → Bool} {te : TE} {k : Nat} {Z : Value → Shared → Prop} {R : Str → Hp → Prop}
    (hr : Room k X.A) (TB : GxR.TabB X.base X.mg c P) (hc : X.env.code = .ref c) (S : GxR.GenS X.env sc x) (hi : PE X iter te) (hel : Elt X sc x elt pb)
    (hfold : ∀ v, genFold iter X.env v = pure v) (I : Inv X pins σ H s) (h : te σ H fun v H1 => ∃ z : Str, v = .str z ∧ Tab P H1 ∧ R z H1)
    (after : ∀ z H1 g s5, R z H1 → Goes X pins σ H1 z pb g s5 → Z (.ref g) s5) :
    wpAny (model X.prog X.w) X.A (eval (.GeneratorExp elt [⟨.Name x px, iter, [], 0⟩] sc gp) X.env) Z X.xe s := by
  have room : X.A.depth < recursionLimit := by have := hr.dp; omega
  refine wpAny_GeneratorExp_walksQ (cl := cloFrom X.env.cells sc.names []) hr.hd S.co (closure_ok S.free) S.cell S.dot S.loc S.kind room (thn (hi.run pins s σ H _ I h) ?_) hfold
  rintro xv s1 ⟨v, H1, J, rv, z, rfl, hT, hR⟩
  obtain ⟨tz, rfl⟩ := id rv
  obtain ⟨ps, eP, tr⟩ : TabI P s1.heap := (J.hok P _ hT).1
  refine wpAny_pyIter_str fun it St W st0 => ?_
  have lim : (s1.heap.push it).NoLimit := J.nolimit.push it
  refine ⟨lim, ?_⟩
  have szit : (s1.heap.push it).objs.size = s1.heap.objs.size + 1 := Heap.size_push ..
  have eP2 : (s1.heap.push it).get? P = some { cls := .none, data := .fields ps } := Heap.get?_push_of_some _ eP
  have code0 : PySem.W.CodeHd (s1.heap.push it) c P := TB.code.keeps fun b u e => Heap.get?_push_of_some _ (J.bk b u e)
  -- what follows, wherever the generator's code object comes from
  have rest : ∀ (cv : Value) (h3 : Heap) (tk : Nat), Heap.ExtBut P (s1.heap.push it) h3 → (s1.heap.push it).objs.size ≤ h3.objs.size → TabI P h3 →
      wpAny (model X.prog X.w) X.A (builtinsFor X.env.globals X.env.builtins) (fun bi s4 =>
        ∃ Ia fp wr n0 Pf St0 pz F, Value.ref s1.heap.objs.size = .ref Ia ∧ (∀ A2 : Around, A2.handled = none → Walks X.prog X.w A2 Ia fp wr n0 Pf St0) ∧ St0 0 s4.heap ∧ (∀ b ∈ fp, b < s4.heap.objs.size) ∧ s4.heap.NoLimit ∧ cStatics ∉ wr ∧
          (∀ hq : Heap, (∀ b o, s4.heap.get? b = some o → hq.get? b = some o) →
            QuietGen X.prog X.w (genEnv sc (cloFrom X.env.cells sc.names []) s4.heap.objs.size cv bi X.env) x [] elt (List.range s4.heap.objs.size) wr Pf pz F hq) ∧
          (∀ a h5 tk2 g, g.bare = true → s4.heap.objs.size < a → h5.objs.size = a + 1 → (∀ b o, s4.heap.get? b = some o → h5.get? b = some o) →
            WalksS X.prog X.w X.A.in4 a (a :: s4.heap.objs.size :: List.range s4.heap.objs.size) (s4.heap.objs.size :: wr) (GenOnlyQ s4.gens.size) (passing pz n0 0).length
              (fun j y => ∃ i, (passing pz n0 0)[j]? = some i ∧ F i y) (GenAt X.prog X.w X.A.in4 a s4.gens.size s4.heap.objs.size (List.range s4.heap.objs.size) wr pz n0 F) →
            GenAt X.prog X.w X.A.in4 a s4.gens.size s4.heap.objs.size (List.range s4.heap.objs.size) wr pz n0 F 0 { s4 with gens := s4.gens.push g, toks := tk2, heap := h5 } →
            Z (.ref a) { s4 with gens := s4.gens.push g, toks := tk2, heap := h5 })) X.xe { s1 with heap := h3, toks := tk } := by
    intro cv h3 tk ext size hT3
    obtain ⟨bm, ob, b1, b2, b3, b4, b5, b6, b7, b8⟩ := TB.bm
    have stays : ∀ b u, b ≠ P → s1.heap.get? b = some u → h3.get? b = some u := fun b u n e => ext b u n (Heap.get?_push_of_some _ e)
    have glob : h3.Ns mainGlobals X.mg := ((J.mod.glob.keeps J.bk).push it).extBut ext TB.gP
    have low : ∀ {b : Addr} {u : Obj}, s1.heap.get? b = some u → b < s1.heap.objs.size := fun e => Heap.lt_size e
    have nlim : cStatics ≠ P := fun z => by
      obtain ⟨_, ⟨o2, es, ep, ho, hd, _⟩, _⟩ := J.nolimit
      rw [z, eP] at ho
      cases ho
      cases hd
    have stat : cStatics < s1.heap.objs.size := let ⟨_, hns, _⟩ := J.nolimit; hns.lt
    refine wpAny_builtinsFor (m := X.mg) (by rw [J.ok.glob]; exact glob) b1 b2 (stays _ _ b4 (J.bk _ _ b5)) b6 b7 b8 ?_
    refine ⟨s1.heap.objs.size, [s1.heap.objs.size], [s1.heap.objs.size], z.cps.size, SignAt z, St, (fun _ => true), (fun i y => ∃ d, z.cps[i]? = some d ∧ y = .bool (pb d)), rfl, W, ?_, ?_, lim.extBut ext nlim, ?_, ?_, ?_⟩
    · refine (W X.A hr.hd).frame _ _ _ st0 fun b hb u e => ext b u (fun q => ?_) e
      have q1 : b = s1.heap.objs.size := List.mem_singleton.mp hb
      exact Nat.ne_of_lt (low eP) (q.symm.trans q1)
    · intro b hb
      rw [List.mem_singleton.mp hb]
      show s1.heap.objs.size < h3.objs.size
      omega
    · intro q
      have q1 : cStatics = s1.heap.objs.size := List.mem_singleton.mp q
      rw [q1] at stat
      exact Nat.lt_irrefl _ stat
    · intro hq hk
      constructor
      · intro A2 E2 i v s2 m2 _ _ _ _ _
        simp only [List.forIn_nil]
        exact wpAny_pure ⟨rfl, GxR.keeps_refl _⟩
      · intro A2 E2 i v s2 m2 _ hv _ hn hm kk
        obtain ⟨d, u, hd, rfl⟩ := hv
        have inR : mainGlobals ∈ List.range h3.objs.size := List.mem_range.mpr glob.lt
        have notw : mainGlobals ∉ [s1.heap.objs.size] := fun q => by
          have q1 : mainGlobals = s1.heap.objs.size := List.mem_singleton.mp q
          have q2 : mainGlobals < s1.heap.objs.size := (J.mod.glob.keeps J.bk).lt
          rw [q1] at q2
          exact Nat.lt_irrefl _ q2
        have glob2 : s2.heap.Ns mainGlobals X.mg := by
          obtain ⟨o, es, ep, e, r⟩ := glob
          exact ⟨o, es, ep, kk mainGlobals inR notw o (hk _ _ e), r⟩
        exact wpAny_mono (hel _ A2 E2 d u s2 m2 rfl J.ok.glob glob2 hn hm) (fun y s3 r => ⟨⟨d, hd, r.1⟩, r.2⟩) fun _ _ e => e
    · intro a h5 tk2 g gb low5 size5 keep5 W5 at5
      simp only [GxR.passing_true, List.length_range] at W5
      refine after z H1 a _ hR ⟨_, _, _, _, _, at5, W5.in4_1, fun s' mv => ?_, fun j y sj Qj Ej hy hQ => ?_⟩
      · have safe : ∀ b u, s1.heap.get? b = some u → b ∉ h3.objs.size :: [s1.heap.objs.size] := fun b u e hb => by
          have l1 := low e
          rcases List.mem_cons.mp hb with q | q
          · rw [q] at l1
            have l2 : (h3.objs.size : Nat) < s1.heap.objs.size := l1
            omega
          · rw [List.mem_singleton.mp q] at l1
            exact Nat.lt_irrefl _ l1
        obtain ⟨qs, e3, t3⟩ := hT3
        have Y := grow (h2 := s'.heap) (gs := s'.gens) (dr := s'.drawn) (tk := s'.toks) J hT (fun b u n e => mv.heap b u (safe b u e) (keep5 b u (stays b u n e))) ⟨qs, mv.heap P _ (safe P _ eP) (keep5 P _ e3), t3⟩ (AllBare.movedS (J.bare.push gb) mv)
        rw [GxR.sh_eta s1 s' mv.os] at Y
        exact Y
      · obtain ⟨i, ei, d, ed, rfl⟩ := hy
        obtain ⟨li, ei2⟩ := List.getElem?_eq_some_iff.mp ei
        rw [List.getElem_range] at ei2
        subst ei2
        have hQ2 : Qj (GxR.trF pb z.cps.toList j) sj := hQ
        rw [GxR.trF_some (b := d) (by rw [Array.getElem?_toList]; exact ed)] at hQ2
        exact wpAny_truthy_bool hQ2
  cases found : codeAmong gp ps.toList with
  | some cv => exact wpAny_genexprCode_hit hc (code0.code eP2 tr) found (rest cv _ s1.toks (Heap.ExtBut.refl _ _) (Nat.le_refl _) ⟨ps, eP2, tr⟩)
  | none =>
    refine wpAny_genexprCodeX hc (code0.code eP2 tr) (code0.tab eP2) found fun c2 h2 tk ext ge lt isC _ tab2 _ => ?_
    obtain ⟨_, _, _, _, _, _, _, _, _, _, _, _, _, _, _, _, _, _, _, tr2, _⟩ := isC
    exact rest _ h2 tk ext (Nat.le_trans ge (Nat.le_of_lt lt)) ⟨_, tab2.2, tr2⟩
/-- all(test for x in e), e a text -/
def tAll (P : Addr) (pb : Nat → Bool) (te : TE) : TE := fun σ H Q => te σ H fun v H1 => ∃ z : Str, v = .str z ∧ Tab P H1 ∧ Q (.bl (z.cps.toList.all pb)) H1
theorem pe_all {c P : Addr} {elt iter : Expr} {x : Str} {px p pos gp : Pos} {sc : Scope} {pb : Nat → Bool} {te : TE} {k : Nat}
    (hr : Room k X.A) (hg : Gl X "all") (hm : X.mg "all" = none) (TB : GxR.TabB X.base X.mg c P) (hc : X.env.code = .ref c) (S : GxR.GenS X.env sc x) (hi : PE X iter te) (hel : Elt X sc x elt pb)
    (hfold : ∀ v, genFold iter X.env v = pure v) (hb : bootBuiltins "all" = some (.builtin "all") := by decide +kernel)
    (one : starEach [.GeneratorExp elt [⟨.Name x px, iter, [], 0⟩] sc gp] X.env = (false, eval (.GeneratorExp elt [⟨.Name x px, iter, [], 0⟩] sc gp) X.env) :: starEach [] X.env := by rfl) :
    PE X (.Call (.Name "all" p) [.GeneratorExp elt [⟨.Name x px, iter, [], 0⟩] sc gp] [] pos) (tAll P pb te) := by
  constructor
  intro pins s σ H Q I h
  refine wpAny_Call_Name_kw (ld_blt I hg hm hb (PyProof.Rows.callWith_builtin1 ?_ one (by rfl)))
  rw [one]
  show wpAny _ _ (spliced ((false, eval (.GeneratorExp elt [⟨.Name x px, iter, [], 0⟩] sc gp) X.env) :: backTo pos (starEach [] X.env))) _ _ s
  refine Calls.spliced_cons (gen_signs (R := fun z H1 => Q (.bl (z.cps.toList.all pb)) H1) hr TB hc S hi hel hfold I h fun z H1 g s5 hR hG => Calls.spliced_nil ?_)
  obtain ⟨fp, wr, G, F, St, st, W, inv, tr⟩ := hG
  refine call_all_walkS (W.self 0 _ _ _ st ⟨g, fp, wr, G, _, F, St, _, rfl, W, st, tr, fun s' mv => ⟨.bl _, H1, inv s' mv, rfl, ?_⟩⟩)
  rw [GxR.all_signs z pb]
  exact hR
end
end GN

/-! The program's words, with their places. -/
namespace K8
open PySem L2 TL
open K0 (isFig isLet isAl isBl kws mks inM sigs kind Toks toks_nil toks_blank toks_word inM_iff)
open KD (Blt in_strs)
abbrev sPlaced : Stmt := KD.S_placed_words
abbrev sCheck : Stmt := KD.S_check_text
abbrev sWordAt : Stmt := KD.S_word_at
abbrev sSigns : Stmt := KD.S_signs_at
abbrev sRunEnd : Stmt := KD.S_run_end
abbrev sKind : Stmt := KD.S_kind_of
abbrev sIsNum : Stmt := KD.S_is_number
/-- what the top has written, of words -/
structure Txt (K : PySem.W.Frag) (mg : Str → Option Value) : Prop where
  all : mg "all" = none
  keys : ∃ a, mg "KEYS" = some (.ref a) ∧ ∀ H, SqT K H a (kws.map V.str)
  marks : ∃ a, mg "MARKS" = some (.ref a) ∧ ∀ H, SqT K H a (mks.map V.str)
  figs : ∃ t, mg "FIGURES" = some (.str "0123456789" t)
  lets : ∃ t, mg "LETTERS" = some (.str "abcdefghijklmnopqrstuvwxyz" t)
  blanks : ∃ t, mg "BLANKS" = some (.str " \n" t)
  mSigns : ∃ t, mg "MOST_SIGNS" = some (.int 100000 t)
  mFigs : ∃ t, mg "MOST_FIGURES" = some (.int 6 t)
  mLets : ∃ t, mg "MOST_LETTERS" = some (.int 12 t)
def figS : Str := "0123456789"
def letS : Str := "abcdefghijklmnopqrstuvwxyz"
theorem figS_tl : tl figS = [48, 49, 50, 51, 52, 53, 54, 55, 56, 57] := by decide +kernel
theorem letS_tl : tl letS = [97, 98, 99, 100, 101, 102, 103, 104, 105, 106, 107, 108, 109, 110, 111, 112, 113, 114, 115, 116, 117, 118, 119, 120, 121, 122] := by decide +kernel
theorem in_fig (c : Nat) : decide (c ∈ tl figS) = isFig c := by
  rw [figS_tl, Bool.eq_iff_iff]
  unfold isFig
  simp only [List.mem_cons, List.not_mem_nil, or_false, decide_eq_true_eq, Bool.and_eq_true]
  omega
theorem in_let (c : Nat) : decide (c ∈ tl letS) = isLet c := by
  rw [letS_tl, Bool.eq_iff_iff]
  unfold isLet
  simp only [List.mem_cons, List.not_mem_nil, or_false, decide_eq_true_eq, Bool.and_eq_true]
  omega
theorem in_bl (c : Nat) : decide (c ∈ tl (" \n" : Str)) = isBl c := by
  rw [show tl (" \n" : Str) = [32, 10] by decide +kernel, Bool.eq_iff_iff]
  unfold isBl
  simp only [List.mem_cons, List.not_mem_nil, or_false, decide_eq_true_eq, Bool.or_eq_true, beq_iff_eq]
/-- the sign at a place -/
theorem sign_at {z : Str} {n c : Nat} {r : List Nat} (h : (tl z).drop n = c :: r) : atI (tl z) ((n : Nat) : Int) = some c ∧ n < z.length := by
  have hlt : n < (tl z).length := by
    apply Classical.byContradiction
    intro q
    rw [List.drop_eq_nil_of_le (by omega)] at h
    cases h
  have e := List.drop_eq_getElem_cons hlt
  rw [h] at e
  injection e with e1 e2
  exact ⟨atI_nat (by rw [List.getElem?_eq_getElem hlt, e1]), by rw [len_tl]; exact hlt⟩

section
variable {P : Program} {w : World} {K : PySem.W.Frag} {mg : Str → Option Value} {base : Heap}
/-- check_text: a text that is not too long -/
def spCheck : Sp := fun vs H Q _ => ∃ z : Str, vs = [.str z] ∧ z.length ≤ 100000 ∧ ∀ H', Same H H' → Q .non H'
theorem scCheck : FnScope ["value"] ["value"] (defScope sCheck) := ⟨rfl, rfl, rfl, by decide +kernel, rfl, by decide +kernel, by decide +kernel⟩
theorem ok_check {f : Addr} {fd : FuncData} (F : Fun K "check_text" "check_text" sCheck f fd) (T : Txt K mg) (B : Blt mg) : FnOk P w K mg base CX0 1 f fd ["value"] spCheck := by
  refine F.ok scCheck (fun vs H Q E h => ?_) (fun cdv A outer s0 H vs Q E hr h => ?_)
  · obtain ⟨z, rfl, _⟩ := h
    rfl
  obtain ⟨z, rfl, hz, k⟩ := h
  obtain ⟨t, mS⟩ := T.mSigns
  have hz' : z.length ≤ sizeLine := Nat.le_trans hz (by decide)
  refine ⟨_, pss_cons (ps_if (pt_not (pt_val (pe_callB call_isi (by rfl) B.isi (by decide +kernel) (pa_cons (pv 0) (pa_cons (pe_bltn (v := .ty "str") (by rfl) B.str (by decide +kernel) rfl) pa_nil))))) pss_never pss_nil)
    (pss_one (ps_if (pt_cmpR op_gt (pe_callB call_len_str (by rfl) B.len PySem.boot_len (pa_cons (pv 0) pa_nil)) (pe_glob (v := .int 100000) rfl mS ⟨_, rfl⟩) (nomark _)) pss_never pss_nil)), ?_⟩
  refine ⟨_, rfl, _, _, _, _, true, rfl, .ty "str", .base (.str _), kit_ty (by decide +kernel), true, rfl, iteF ?_⟩
  refine ⟨_, rfl, z, rfl, hz', _, _, rfl, rfl, _, rfl, ?_⟩
  refine ite2 (fun c => ?_) (fun c => ?_)
  · have q : ((z.length : Nat) : Int) > 100000 := of_decide_eq_true c
    omega
  · exact k H (Same.refl H)

/-- run_end -/
def spRunEnd : Sp := fun vs H Q _ => ∃ (z sg : Str) (n : Nat) (p : Nat → Bool), vs = [.str z, .int n, .str sg] ∧ z.length ≤ 100000 ∧ n ≤ z.length ∧ (∀ c, decide (c ∈ tl sg) = p c) ∧
  ∀ H', Same H H' → Q (.int ((n + (((tl z).drop n).takeWhile p).length : Nat) : Int)) H'
theorem scRunEnd : FnScope ["text", "at", "signs"] ["text", "at", "signs"] (defScope sRunEnd) := ⟨rfl, rfl, rfl, by decide +kernel, rfl, by decide +kernel, by decide +kernel⟩
theorem ok_runEnd {f : Addr} {fd : FuncData} (F : Fun K "run_end" "run_end" sRunEnd f fd) (T : Txt K mg) (B : Blt mg) : FnOk P w K mg base CX0 1 f fd ["text", "at", "signs"] spRunEnd := by
  refine F.ok scRunEnd (fun vs H Q E h => ?_) (fun cdv A outer s0 H vs Q E hr h => ?_)
  · obtain ⟨z, sg, n, p, rfl, _⟩ := h
    rfl
  obtain ⟨z, sg, n, p, rfl, hz, hn, hp, k⟩ := h
  have hz' : z.length ≤ sizeLine := Nat.le_trans hz (by decide)
  refine ⟨_, pss_cons (ps_while PassesOwn.never
      (PW.pt (pw_and (pt_cmpR op_lt (pv 1) (pe_callB call_len_str (by rfl) B.len PySem.boot_len (pa_cons (pv 0) pa_nil)) (nomark _)) (pw_and1 (pt_cmpR op_in_sign (pe_ix ix_str (pv 0) (pv 1) (fun _ _ => rfl)) (pv 2) (by rfl)))))
      (pss_one (ps_aug (i := 1) scRunEnd.nd rfl (Or.inl rfl) pe_int ip_add)))
    (pss_one (ps_ret (pv 1))), ?_⟩
  refine while_by (fun σ H' => ∃ m : Nat, σ = [some (.str z), some (.int m), some (.str sg)] ∧ m ≤ z.length ∧ Same H H' ∧ n + (((tl z).drop n).takeWhile p).length = m + (((tl z).drop m).takeWhile p).length)
    (fun σ _ => match σ with | [_, some (.int m), _] => z.length - m.toNat | _ => 0) ⟨n, rfl, hn, Same.refl H, rfl⟩ ?_ ?_
  · rintro σ H' ⟨m, rfl, hm, sm, e⟩
    refine ⟨_, rfl, _, rfl, z, rfl, hz', _, _, rfl, rfl, _, rfl, ?_⟩
    refine ite2 (fun c => ?_) (fun c => ?_)
    · have hlt : m < z.length := by
        have q : ((m : Nat) : Int) < ((z.length : Nat) : Int) := of_decide_eq_true c
        omega
      obtain ⟨ch, rr, hd⟩ : ∃ ch rr, (tl z).drop m = ch :: rr := ⟨_, _, List.drop_eq_getElem_cons (by rw [← len_tl]; exact hlt)⟩
      have hd1 : (tl z).drop (m + 1) = rr := by
        rw [← List.drop_drop, hd] <;> rfl
      refine ⟨_, rfl, _, rfl, z, _, ch, rfl, rfl, hz', (sign_at hd).1, _, rfl, ch, sg, rfl, rfl, _, rfl, ?_⟩
      rw [hp ch]
      refine ite2 (fun c1 => ?_) (fun c1 => ?_)
      · refine ⟨_, rfl, _, _, rfl, rfl, ?_⟩
        refine ⟨⟨m + 1, rfl, by omega, sm, ?_⟩, ?_⟩
        · rw [e, hd, hd1, List.takeWhile_cons, if_pos c1, List.length_cons]
          omega
        · show z.length - ((m : Int) + 1).toNat < z.length - (m : Int).toNat
          omega
      · refine ⟨_, rfl, ?_⟩
        have q := k H' sm
        rw [e, hd, List.takeWhile_cons, if_neg c1] at q
        exact q
    · have hlt : ¬ m < z.length := by
        have q : ¬ ((m : Nat) : Int) < ((z.length : Nat) : Int) := of_decide_eq_false (Bool.eq_false_iff.mpr c)
        omega
      refine iteF ?_
      refine ⟨_, rfl, ?_⟩
      have q := k H' sm
      rw [e, List.drop_eq_nil_of_le (by rw [← len_tl]; omega)] at q
      exact q
  · intro σ H' Q1 Q2 hq h
    obtain ⟨v1, e1, v0, e0, z1, e2, hz1, i1, j1, ei, ej, k1, ek, h⟩ := h
    refine ⟨v1, e1, v0, e0, z1, e2, hz1, i1, j1, ei, ej, k1, ek, ?_⟩
    by_cases hk : k1 = true
    · rw [if_pos hk] at h
      rw [if_pos hk]
      obtain ⟨v2, e3, v3, e4, z2, i2, c2, e5, e6, hz2, e7, v4, e8, c3, z3, e9, e10, k2, e11, h⟩ := h
      exact ⟨v2, e3, v3, e4, z2, i2, c2, e5, e6, hz2, e7, v4, e8, c3, z3, e9, e10, k2, e11, hq _ _ h⟩
    · rw [if_neg hk] at h
      rw [if_neg hk]
      exact hq _ _ h
end
theorem one_zero (c : Nat) : decide (V.str ⟨#[c]⟩ = V.str "0") = (c == 48) := by
  rw [Bool.eq_iff_iff, decide_eq_true_iff, beq_iff_eq]
  have e0 : ("0" : Str) = ⟨#[48]⟩ := by decide +kernel
  constructor
  · intro h
    have h1 := V.str.inj h
    rw [e0] at h1
    have h2 : tl (⟨#[c]⟩ : Str) = tl (⟨#[48]⟩ : Str) := by rw [h1]
    exact (List.cons.inj h2).1
  · intro h
    subst h
    rw [e0]
theorem cut_tl {z : Str} {n m : Nat} (h1 : n ≤ z.length) : tl (cutS z (some (n : Int)) (some (m : Int))) = ((tl z).drop n).take (m - n) := by
  unfold cutS
  rw [tl_mk, HT.sIx_nat, HT.sIx_nat, Nat.min_eq_left h1]
  by_cases h : m ≤ z.length
  · rw [Nat.min_eq_left h]
  · rw [Nat.min_eq_right (by omega)]
    rw [List.take_of_length_le (i := m - n), List.take_of_length_le]
    · rw [List.length_drop, ← len_tl]; omega
    · rw [List.length_drop, ← len_tl]; omega
theorem take_while (p : Nat → Bool) : ∀ l : List Nat, l.take (l.takeWhile p).length = l.takeWhile p
  | [] => rfl
  | c :: l => by
    rw [List.takeWhile_cons]
    by_cases h : p c = true
    · rw [if_pos h, List.length_cons, List.take_succ_cons, take_while p l]
    · rw [if_neg h]; rfl
theorem cut_run {z : Str} {n : Nat} (p : Nat → Bool) (h1 : n ≤ z.length) : cutS z (some (n : Int)) (some ((n + (((tl z).drop n).takeWhile p).length : Nat) : Int)) = ⟨(((tl z).drop n).takeWhile p).toArray⟩ := by
  apply ext_tl
  rw [cut_tl h1, tl_mk, Nat.add_sub_cancel_left, take_while]
theorem mem_mks {z : Str} : decide (z ∈ mks) = inM (tl z) := by
  rw [Bool.eq_iff_iff, decide_eq_true_iff, inM_iff]
  constructor
  · intro h; exact ⟨z, h, rfl⟩
  · rintro ⟨m, hm, e⟩
    rw [← ext_tl e]
    exact hm
def sigS (l : List Nat) : Str := ⟨(sigs l).toArray⟩
def isNum (z : Str) : Bool := match tl z with
  | [] => false
  | c :: _ => if c == 48 then decide (z = "0") else decide ((tl z).length ≤ 6)
theorem kind_eq {w : Str} {c : Nat} {r : List Nat} (e : tl w = c :: r) : kind w =
    if w ∈ kws then some ("key" : Str) else if w ∈ mks then some ("mark" : Str) else if (isLet c && decide (w.length ≤ 12)) = true then some ("name" : Str) else if (isFig c && isNum w) = true then some ("number" : Str) else none := by
  unfold kind isNum
  rw [len_tl]
  simp only [e]
/-- is_number, of so many figures at most -/
def isNumB (m : Nat) (z : Str) : Bool := decide (1 ≤ z.length) && decide (z.length ≤ m) && (tl z).all isFig && (!(match tl z with | c :: _ => c == 48 | [] => false) || decide (z = "0"))
/-- a def whose code object is at c -/
structure FunT (K : PySem.W.Frag) (x qual : Str) (st : Stmt) (f : Addr) (fd : FuncData) (c : Addr) : Prop where
  ex : ∃ (oc : Value) (od : Option Addr) (kV doc pm : Value) (an : Option Addr) (ct : Value) (osl : Array (Option Value)),
    fd = PySem.W.fnOf x qual (defArgs st) (defBody st) (defScope st) .none kV doc pm an (.ref c) ct ∧ K.lookup f = some ⟨oc, od, .func fd, osl⟩ ∧ PySem.W.codeIn K (.ref c) qual = true
section
variable {P : Program} {w : World} {K : PySem.W.Frag} {mg : Str → Option Value} {base : Heap}
theorem FunT.ok {x qual : Str} {st : Stmt} {f c : Addr} {fd : FuncData} {N ps : List Str} {k : Nat} {sp : Sp} (F : FunT K x qual st f fd c) (S : FnScope N ps (defScope st)) (ln : ∀ vs H Q E, sp vs H Q E → vs.length = ps.length)
    (body : ∀ (A : Around) (outer : List Env) (s : Shared) (H : Hp) (vs : List V) (Q : VK) (E : XK), Room k (A.deeper (PyProof.Rows.envOfC qual (defScope st) s.heap.objs.size f (.ref c))) → sp vs H Q E →
      ∃ t, PSs (cxOf CX0 P w K mg base N qual (defScope st) f (.ref c) A outer s H E) (defBody st) t ∧ t { nx := fun _ H' => Q .non H', rt := Q } (start N vs) H) : FnOk P w K mg base CX0 (k + 1) f fd ps sp := by
  obtain ⟨oc, od, kV, doc, pm, an, ct, osl, rfl, lk, hcd⟩ := F.ex
  exact fn_of lk hcd S ln body
def spIsNum (PT : Addr) : Sp := fun vs H Q _ => ∃ (z : Str) (m : Nat), vs = [.str z, .int (m : Nat)] ∧ z.length ≤ 100000 ∧ GN.Tab PT H ∧ Q (.bl (isNumB m z)) H
theorem scGen {env : Env} : GxR.GenS env { kind := ScopeKind.function, names := [(PySem.Str.ofString ".0", PySem.NameKind.local), (PySem.Str.ofString "sign", PySem.NameKind.local), (PySem.Str.ofString "FIGURES", PySem.NameKind.globalImplicit)], isGenerator := true, isCoroutine := false, more := [] : Scope } "sign" := by
  refine ⟨rfl, rfl, ?_, rfl, rfl, ?_⟩
  · decide +kernel
  · intro y hy e
    have no : ∀ y ∈ ([(PySem.Str.ofString ".0", PySem.NameKind.local), (PySem.Str.ofString "sign", PySem.NameKind.local), (PySem.Str.ofString "FIGURES", PySem.NameKind.globalImplicit)] : List (Str × NameKind)), y.2 ≠ .free := by decide +kernel
    exact absurd e (no y hy)
theorem scIsNum : FnScope ["signs", "most"] ["signs", "most"] (defScope sIsNum) := ⟨rfl, rfl, rfl, by decide +kernel, rfl, by decide +kernel, by decide +kernel⟩
theorem ok_isNum {f c PT : Addr} {fd : FuncData} (F : FunT K "is_number" "is_number" sIsNum f fd c) (T : Txt K mg) (B : Blt mg) (TB : GxR.TabB base mg c PT) : FnOk P w K mg base CX0 2 f fd ["signs", "most"] (spIsNum PT) := by
  refine F.ok scIsNum (fun vs H Q E h => ?_) (fun A outer s0 H vs Q E hr h => ?_)
  · obtain ⟨z, m, rfl, _⟩ := h
    rfl
  obtain ⟨z, m, rfl, hz, hT, k⟩ := h
  obtain ⟨t, mF⟩ := T.figs
  have hz' : z.length ≤ sizeLine := Nat.le_trans hz (by decide)
  refine ⟨_, pss_cons (ps_if (PW.pt (pw_or (pt_not (pt_chain op_le op_le pe_int (pe_callB call_len_str (by rfl) B.len PySem.boot_len (pa_cons (pv 0) pa_nil)) (pv 1)))
      (pw_or1 (pt_not (pt_val (GN.pe_all (k := 1) (P := PT) (c := c) hr rfl T.all TB rfl scGen (pv 0) (GN.elt_in (Z := "0123456789") rfl rfl rfl mF) (fun _ => rfl))))))) (pss_one (ps_ret pe_bl)) pss_nil)
    (pss_one (ps_ret (pe_or (pe_cmpR op_ne (pe_ix ix_str (pv 0) pe_int (fun _ _ => rfl)) pe_str (nomark _)) (pe_one (pe_cmpR op_eq (pv 0) pe_str (nomark _)))))), ?_⟩
  refine ⟨_, rfl, z, rfl, hz', _, _, rfl, rfl, _, rfl, ?_⟩
  have no : ∀ b : Bool, b = false → isNumB m z = b → Q (.bl false) H := fun b e q => by rw [q, e] at k; exact k
  refine ite2 (fun c1 => ?_) (fun c1 => ?_)
  · refine ⟨_, rfl, _, _, rfl, rfl, _, rfl, ?_⟩
    have l1 : 1 ≤ z.length := by
      have q : (1 : Int) ≤ ((z.length : Nat) : Int) := of_decide_eq_true c1
      omega
    show if (!decide (((z.length : Nat) : Int) ≤ ((m : Nat) : Int))) = true then _ else _
    by_cases l2 : z.length ≤ m
    · rw [show decide (((z.length : Nat) : Int) ≤ ((m : Nat) : Int)) = true from decide_eq_true (by omega)]
      refine iteF ?_
      refine ⟨_, rfl, z, rfl, hT, _, rfl, ?_⟩
      have ef : z.cps.toList.all (fun c => decide (c ∈ ("0123456789" : Str).cps.toList)) = (tl z).all isFig := by
        show (tl z).all _ = _
        congr 1
        funext c
        exact in_fig c
      rw [ef]
      cases hf : (tl z).all isFig with
      | false =>
        refine iteT (no _ rfl ?_)
        unfold isNumB
        rw [hf, Bool.and_false, Bool.false_and]
      | true =>
        refine iteF ?_
        cases e : tl z with
        | nil =>
          rw [len_tl, e] at l1
          exact absurd l1 (by decide)
        | cons d r =>
          have hd : (tl z).drop 0 = d :: r := e
          refine ⟨_, rfl, z, _, d, rfl, rfl, hz', (sign_at hd).1, rfl, _, rfl, ?_⟩
          have e3 : isNumB m z = (!(d == 48) || decide (z = "0")) := by
            unfold isNumB
            rw [hf, decide_eq_true l1, decide_eq_true l2]
            simp only [e, Bool.true_and]
          rw [e3] at k
          rw [one_zero]
          cases d0 : (d == 48) with
          | false =>
            rw [d0] at k
            exact iteT k
          | true =>
            rw [d0] at k
            refine iteF ?_
            refine ⟨_, rfl, rfl, ?_⟩
            have e4 : decide (V.str z = V.str "0") = decide (z = "0") := by
              rw [Bool.eq_iff_iff, decide_eq_true_iff, decide_eq_true_iff]
              exact ⟨fun q => V.str.inj q, fun q => by rw [q]⟩
            rw [e4]
            exact k
    · rw [show decide (((z.length : Nat) : Int) ≤ ((m : Nat) : Int)) = false from decide_eq_false (by omega)]
      refine iteT (no _ rfl ?_)
      unfold isNumB
      rw [decide_eq_false l2, Bool.and_false, Bool.false_and, Bool.false_and]
  · refine ⟨_, rfl, ?_⟩
    have l1 : ¬ 1 ≤ z.length := by
      have q : ¬ (1 : Int) ≤ ((z.length : Nat) : Int) := of_decide_eq_false (Bool.eq_false_iff.mpr c1)
      omega
    refine iteT (no _ rfl ?_)
    unfold isNumB
    rw [decide_eq_false l1, Bool.false_and, Bool.false_and, Bool.false_and]
end
end K8

/-! The program's words, with their places: kinds, words, all words. -/
namespace K8
open PySem L2 TL
open K0 (isFig isLet isAl isBl kws mks inM sigs kind Toks toks_nil toks_blank toks_word inM_iff)
open KD (Blt in_strs)
theorem num_ok {z : Str} {c : Nat} {r : List Nat} (e : tl z = c :: r) (hf : (tl z).all isFig = true) (h : isNum z = true) : isNumB 6 z = true := by
  unfold isNum at h
  unfold isNumB
  rw [hf]
  rw [e] at h
  have h' : (if (c == 48) = true then decide (z = "0") else decide ((c :: r).length ≤ 6)) = true := h
  have l1 : 1 ≤ z.length := by rw [len_tl, e, List.length_cons]; omega
  rw [decide_eq_true l1]
  by_cases c1 : (c == 48) = true
  · rw [if_pos c1] at h'
    have q : z.length ≤ 6 := by
      have q2 := of_decide_eq_true h'
      subst q2
      decide +kernel
    rw [decide_eq_true q, h']
    simp only [Bool.or_true, Bool.and_true]
  · rw [if_neg c1] at h'
    have q : z.length ≤ 6 := by
      have q2 := of_decide_eq_true h'
      rw [len_tl, e]
      exact q2
    rw [decide_eq_true q]
    simp only [e, Bool.eq_false_iff.mpr c1, Bool.not_false, Bool.true_or, Bool.and_true]
section
variable {P : Program} {w : World} {K : PySem.W.Frag} {mg : Str → Option Value} {base : Heap}
def spKind (PT : Addr) : Sp := fun vs H Q _ => ∃ (z k : Str), vs = [.str z] ∧ tl z ≠ [] ∧ z.length ≤ 100000 ∧ kind z = some k ∧ (∀ c r, tl z = c :: r → isFig c = true → (tl z).all isFig = true) ∧ GN.Tab PT H ∧ Q (.str k) H
theorem scKind : FnScope ["word"] ["word"] (defScope sKind) := ⟨rfl, rfl, rfl, by decide +kernel, rfl, by decide +kernel, by decide +kernel⟩
theorem ok_kind {f fN PT : Addr} {fd fdN : FuncData} (F : Fun K "kind_of" "kind_of" sKind f fd) (T : Txt K mg) (B : Blt mg) (GN' : FnOk P w K mg base CX0 2 fN fdN ["signs", "most"] (spIsNum PT)) (mN : mg "is_number" = some (.ref fN)) (kN : PySem.W.keepIn K (.ref fN) = true) (bN : Binds K fdN ["signs", "most"] []) :
    FnOk P w K mg base CX0 3 f fd ["word"] (spKind PT) := by
  refine F.ok scKind (fun vs H Q E h => ?_) (fun cdv A outer s0 H vs Q E hr h => ?_)
  · obtain ⟨z, _, rfl, _⟩ := h
    rfl
  obtain ⟨z, kk, rfl, hn, hz, hk, hfa, hT, k⟩ := h
  obtain ⟨aK, mK, sK⟩ := T.keys
  obtain ⟨aM, mM, sM⟩ := T.marks
  obtain ⟨t2, mL⟩ := T.lets
  obtain ⟨t3, mX⟩ := T.mLets
  obtain ⟨t4, mG⟩ := T.mFigs
  have hz' : z.length ≤ sizeLine := Nat.le_trans hz (by decide)
  cases e : tl z with
  | nil => exact absurd e hn
  | cons c r =>
    have hd : (tl z).drop 0 = c :: r := e
    rw [kind_eq e] at hk
    refine ⟨_, pss_cons (ps_if (pt_cmpR op_in_seq (pv 0) (pe_glob (v := .ref aK) rfl mK rfl) (by rfl)) (pss_one (ps_ret pe_str)) pss_nil)
      (pss_cons (ps_if (pt_cmpR op_in_seq (pv 0) (pe_glob (v := .ref aM) rfl mM rfl) (by rfl)) (pss_one (ps_ret pe_str)) pss_nil)
      (pss_cons (ps_if (PW.pt (pw_and (pt_cmpR op_in_sign (pe_ix ix_str (pv 0) pe_int (fun _ _ => rfl)) (pe_glob (v := .str letS) rfl mL ⟨_, rfl⟩) (by rfl))
          (pw_and1 (pt_cmpR op_le (pe_callB call_len_str (by rfl) B.len PySem.boot_len (pa_cons (pv 0) pa_nil)) (pe_glob (v := .int 12) rfl mX ⟨_, rfl⟩) (nomark _))))) (pss_one (ps_ret pe_str)) pss_nil)
      (pss_cons (ps_if (pt_val (pe_call GN' hr rfl mN kN bN .nil pass0 (pa_cons (pv 0) (pa_cons (pe_glob (v := .int 6) rfl mG ⟨_, rfl⟩) pa_nil)))) (pss_one (ps_ret pe_str)) pss_nil) pss_never))), ?_⟩
    refine ⟨_, rfl, aK, _, rfl, .inr (sK _), rfl, KD.flat_strs _, _, rfl, ?_⟩
    show if inV (.str z) (kws.map V.str) = true then _ else _
    rw [in_strs]
    refine ite2 (fun c1 => ?_) (fun c1 => ?_)
    · rw [if_pos (of_decide_eq_true c1)] at hk
      cases hk
      exact k
    rw [if_neg (fun q => c1 (decide_eq_true q))] at hk
    refine ⟨_, rfl, aM, _, rfl, .inr (sM _), rfl, KD.flat_strs _, _, rfl, ?_⟩
    show if inV (.str z) (mks.map V.str) = true then _ else _
    rw [in_strs]
    refine ite2 (fun c2 => ?_) (fun c2 => ?_)
    · rw [if_pos (of_decide_eq_true c2)] at hk
      cases hk
      exact k
    rw [if_neg (fun q => c2 (decide_eq_true q))] at hk
    refine ⟨_, rfl, z, _, c, rfl, rfl, hz', (sign_at hd).1, c, letS, rfl, rfl, _, rfl, ?_⟩
    rw [show decide (c ∈ letS.cps.toList) = isLet c from in_let c]
    refine ite2 (fun c3 => ?_) (fun c3 => ?_)
    · refine ⟨_, rfl, z, rfl, hz', _, _, rfl, rfl, _, rfl, ?_⟩
      rw [c3, Bool.true_and] at hk
      have nf : isFig c = false := (K0.let_fig c3).1
      rw [nf, Bool.false_and, if_neg Bool.false_ne_true] at hk
      refine ite2 (fun c4 => ?_) (fun c4 => ?_)
      · have q : ((z.length : Nat) : Int) ≤ 12 := of_decide_eq_true c4
        rw [if_pos (decide_eq_true (by omega))] at hk
        cases hk
        exact k
      · have q : ¬ ((z.length : Nat) : Int) ≤ 12 := of_decide_eq_false (Bool.eq_false_iff.mpr c4)
        rw [if_neg (fun q2 => q (by have := of_decide_eq_true q2; omega))] at hk
        cases hk
    · refine iteF ?_
      rw [Bool.eq_false_iff.mpr c3, Bool.false_and, if_neg Bool.false_ne_true] at hk
      by_cases c5 : (isFig c && isNum z) = true
      · rw [if_pos c5] at hk
        cases hk
        rw [Bool.and_eq_true] at c5
        refine ⟨_, rfl, z, 6, rfl, hz, hT, true, ?_, iteT k⟩
        rw [num_ok e (hfa c r e c5.1) c5.2]
      · rw [if_neg c5] at hk
        cases hk
def spSigns : Sp := fun vs H Q _ => ∃ (z : Str) (n c : Nat) (r : List Nat), vs = [.str z, .int n] ∧ z.length ≤ 100000 ∧ (tl z).drop n = c :: r ∧ ∀ H', Same H H' → Q (.str (sigS (c :: r))) H'
theorem scSigns : FnScope ["text", "at", "signs"] ["text", "at"] (defScope sSigns) := ⟨rfl, rfl, rfl, by decide +kernel, rfl, by decide +kernel, by decide +kernel⟩
theorem ok_signs {f fR : Addr} {fd fdR : FuncData} (F : Fun K "signs_at" "signs_at" sSigns f fd) (T : Txt K mg) (GR : FnOk P w K mg base CX0 1 fR fdR ["text", "at", "signs"] spRunEnd) (mR : mg "run_end" = some (.ref fR)) (kR : PySem.W.keepIn K (.ref fR) = true) (bR : Binds K fdR ["text", "at", "signs"] []) :
    FnOk P w K mg base CX0 2 f fd ["text", "at"] spSigns := by
  refine F.ok scSigns (fun vs H Q E h => ?_) (fun cdv A outer s0 H vs Q E hr h => ?_)
  · obtain ⟨z, n, c, r, rfl, _⟩ := h
    rfl
  obtain ⟨z, n, c, r, rfl, hz, hd, k⟩ := h
  obtain ⟨aM, mM, sM⟩ := T.marks
  obtain ⟨t1, mF⟩ := T.figs
  obtain ⟨t2, mL⟩ := T.lets
  have hz' : z.length ≤ sizeLine := Nat.le_trans hz (by decide)
  have hc := (sign_at hd).1
  have hn := (sign_at hd).2
  refine ⟨_, pss_cons (ps_for PassesOwn.never rfl (pi_tup (pe_tup (pa_cons (pe_glob (v := .str figS) rfl mF ⟨_, rfl⟩) (pa_cons (pe_glob (v := .str letS) rfl mL ⟨_, rfl⟩) pa_nil)))) (pg_name (i := 2) scSigns.nd rfl (Or.inl rfl))
      (pss_one (ps_if (pt_cmpR op_in_sign (pe_ix ix_str (pv 0) (pv 1) (fun _ _ => rfl)) (pv 2) (by rfl))
        (pss_one (ps_ret (pe_slice sl_str (pv 0) (po_some (pv 1)) (po_some (pe_call GR hr rfl mR kR bR .nil pass0 (pa_cons (pv 0) (pa_cons (pv 1) (pa_cons (pv 2) pa_nil)))))))) pss_nil)))
    (pss_cons (ps_if (pt_cmpR op_in_seq (pe_slice sl_str (pv 0) (po_some (pv 1)) (po_some (pe_op op_add (pv 1) pe_int))) (pe_glob (v := .ref aM) rfl mM rfl) (by rfl))
      (pss_one (ps_ret (pe_slice sl_str (pv 0) (po_some (pv 1)) (po_some (pe_op op_add (pv 1) pe_int))))) pss_nil)
    (pss_one (ps_ret (pe_ix ix_str (pv 0) (pv 1) (fun _ _ => rfl))))), ?_⟩
  refine ⟨(by show 2 ≤ sizeLine; decide), fun p hp => ?_⟩
  have s1 : Same H (upd H p (.tup [.str figS, .str letS])) := fun b o q => by rw [upd_ne (ne_of_none q hp)]; exact q
  refine ⟨p, rfl, ⟨_, SqT.of upd_same⟩, for_tup (K := K) (a := p) (xs := [.str figS, .str letS]) (fun i σ H' => H' = upd H p (.tup [.str figS, .str letS]) ∧ (∃ v, σ = [some (.str z), some (.int n), v]) ∧ (1 ≤ i → isFig c = false) ∧ (2 ≤ i → isLet c = false))
    ⟨rfl, ⟨none, rfl⟩, fun q => absurd q (by decide), fun q => absurd q (by decide)⟩ (fun i σ H' _ ⟨e, _⟩ => by rw [e]; exact SqT.of upd_same) ?_ ?_⟩
  · rintro i x σ H' hi ⟨rfl, ⟨v, rfl⟩, h1, h2⟩
    obtain ⟨sg, pp, rfl, hpp, hsig, hnext⟩ : ∃ (sg : Str) (pp : Nat → Bool), x = .str sg ∧ (∀ c, decide (c ∈ tl sg) = pp c) ∧ (pp c = true → sigs (c :: r) = (c :: r).takeWhile pp) ∧ (pp c = false → (1 ≤ i + 1 → isFig c = false) ∧ (2 ≤ i + 1 → isLet c = false)) := by
      match i, hi with
      | 0, hi =>
        have e := Option.some.inj hi
        refine ⟨figS, isFig, e.symm, in_fig, fun q => ?_, fun q => ⟨fun _ => q, fun q2 => absurd q2 (by decide)⟩⟩
        show (if isFig c = true then _ else _) = _
        rw [if_pos q]
      | 1, hi =>
        have e := Option.some.inj hi
        refine ⟨letS, isLet, e.symm, in_let, fun q => ?_, fun q => ⟨fun _ => h1 (by decide), fun _ => q⟩⟩
        show (if isFig c = true then _ else if isLet c = true then _ else _) = _
        rw [if_neg (by rw [h1 (by decide)]; exact Bool.false_ne_true), if_pos q]
      | j + 2, hi => cases hi
    refine ⟨_, rfl, _, rfl, z, _, c, rfl, rfl, hz', hc, _, rfl, c, sg, rfl, rfl, _, rfl, ?_⟩
    rw [show decide (c ∈ sg.cps.toList) = pp c from hpp c]
    refine ite2 (fun c1 => ?_) (fun c1 => ?_)
    · refine ⟨_, rfl, _, rfl, n, rfl, _, rfl, _, rfl, _, rfl, z, sg, n, pp, rfl, hz, Nat.le_of_lt hn, hpp, fun H2 s2 => ⟨_, rfl, z, rfl, hz', ?_⟩⟩
      have q := k H2 (s1.trans s2)
      have e : cutS z (some (n : Int)) (some ((n + (((tl z).drop n).takeWhile pp).length : Nat) : Int)) = sigS (c :: r) := by
        rw [cut_run pp (Nat.le_of_lt hn), hd, ← hsig c1]
        rfl
      rw [e]
      exact q
    · exact ⟨rfl, ⟨_, rfl⟩, (hnext (Bool.eq_false_iff.mpr c1)).1, (hnext (Bool.eq_false_iff.mpr c1)).2⟩
  · rintro σ H' ⟨rfl, ⟨v, rfl⟩, h1, h2⟩
    have hF := h1 (by decide)
    have hL := h2 (by decide)
    have e2 : tl (cutS z (some (n : Int)) (some ((n : Int) + 2))) = (c :: r).take 2 := by
      have q := cut_tl (z := z) (n := n) (m := n + 2) (Nat.le_of_lt hn)
      rw [Nat.add_sub_cancel_left, hd] at q
      exact q
    have es : sigs (c :: r) = if inM ((c :: r).take 2) = true then (c :: r).take 2 else [c] := by
      show (if isFig c = true then _ else if isLet c = true then _ else _) = _
      rw [if_neg (by rw [hF]; exact Bool.false_ne_true), if_neg (by rw [hL]; exact Bool.false_ne_true)]
    refine ⟨_, rfl, _, rfl, n, rfl, _, rfl, _, _, rfl, rfl, _, rfl, z, rfl, hz', aM, _, rfl, .inr (sM _), rfl, KD.flat_strs _, _, rfl, ?_⟩
    show if inV (.str (cutS z (some (n : Int)) (some ((n : Int) + 2)))) (mks.map V.str) = true then _ else _
    rw [in_strs, mem_mks, e2]
    refine ite2 (fun c1 => ?_) (fun c1 => ?_)
    · refine ⟨_, rfl, _, rfl, n, rfl, _, rfl, _, _, rfl, rfl, _, rfl, z, rfl, hz', ?_⟩
      have q := k _ s1
      have e3 : sigS (c :: r) = cutS z (some (n : Int)) (some ((n : Int) + 2)) := by
        apply ext_tl
        rw [e2]
        show sigs (c :: r) = _
        rw [es, if_pos c1]
      rw [e3] at q
      exact q
    · refine ⟨_, rfl, _, rfl, z, _, c, rfl, rfl, hz', hc, ?_⟩
      have q := k _ s1
      have e3 : sigS (c :: r) = ⟨#[c]⟩ := by
        apply ext_tl
        show sigs (c :: r) = [c]
        rw [es, if_neg c1]
      rw [e3] at q
      exact q

def spWordAt (PT : Addr) : Sp := fun vs H Q _ => ∃ (z ww kk : Str) (n c : Nat) (r : List Nat), vs = [.str z, .int n] ∧ z.length ≤ 100000 ∧ (tl z).drop n = c :: r ∧ sigs (c :: r) = tl ww ∧ tl ww ≠ [] ∧ ww.length ≤ 100000 ∧ kind ww = some kk ∧ GN.Tab PT H ∧
  ∀ H' t, Same H H' → H' t = some (.tup [.str kk, .str ww]) → Q (.ref t) H'
theorem scWordAt : FnScope ["text", "at", "word", "kind"] ["text", "at"] (defScope sWordAt) := ⟨rfl, rfl, rfl, by decide +kernel, rfl, by decide +kernel, by decide +kernel⟩
theorem ok_wordAt {f fS fK PT : Addr} {fd fdS fdK : FuncData} (F : Fun K "word_at" "word_at" sWordAt f fd) (T : Txt K mg) (GS : FnOk P w K mg base CX0 2 fS fdS ["text", "at"] spSigns) (mS : mg "signs_at" = some (.ref fS)) (kS : PySem.W.keepIn K (.ref fS) = true) (bS : Binds K fdS ["text", "at"] [])
    (GK : FnOk P w K mg base CX0 3 fK fdK ["word"] (spKind PT)) (mK : mg "kind_of" = some (.ref fK)) (kK : PySem.W.keepIn K (.ref fK) = true) (bK : Binds K fdK ["word"] []) :
    FnOk P w K mg base CX0 4 f fd ["text", "at"] (spWordAt PT) := by
  refine F.ok scWordAt (fun vs H Q E h => ?_) (fun cdv A outer s0 H vs Q E hr h => ?_)
  · obtain ⟨z, ww, kk, n, c, r, rfl, _⟩ := h
    rfl
  obtain ⟨z, ww, kk, n, c, r, rfl, hz, hd, hs, hw, hwl, hk, hT, k⟩ := h
  have hr2 : Room 2 _ := hr.mono (by decide)
  refine ⟨_, pss_cons (ps_set (i := 2) scWordAt.nd rfl (Or.inl rfl) (pe_call GS hr2 rfl mS kS bS .nil pass0 (pa_cons (pv 0) (pa_cons (pv 1) pa_nil))))
    (pss_cons (ps_set (i := 3) scWordAt.nd rfl (Or.inl rfl) (pe_call GK hr rfl mK kK bK .nil pass0 (pa_cons (pv 2) pa_nil)))
    (pss_cons (ps_if (pt_cmp (pc_isN (pv 3))) pss_never pss_nil)
    (pss_one (ps_ret (pe_tup (pa_cons (pv 3) (pa_cons (pv 2) pa_nil))))))), ?_⟩
  have e : sigS (c :: r) = ww := by
    apply ext_tl
    exact hs
  refine ⟨_, rfl, _, rfl, z, n, c, r, rfl, hz, hd, fun H1 s1 => ?_⟩
  rw [e]
  refine ⟨_, rfl, ww, kk, rfl, hw, hwl, hk, fun d q e1 hf => ?_, s1 _ _ hT, ?_⟩
  · have e2 : d = c := by
      have e3 : sigs (c :: r) = d :: q := hs.trans e1
      have e4 : sigs (c :: r) = if isFig c = true then (c :: r).takeWhile isFig else if isLet c = true then (c :: r).takeWhile isLet else if inM ((c :: r).take 2) = true then (c :: r).take 2 else [c] := rfl
      rw [e4] at e3
      split at e3
      · rename_i q1
        rw [List.takeWhile_cons, if_pos q1] at e3
        exact (List.cons.inj e3).1.symm
      split at e3
      · rename_i q1 q2
        rw [List.takeWhile_cons, if_pos q2] at e3
        exact (List.cons.inj e3).1.symm
      split at e3
      · exact (List.cons.inj e3).1.symm
      · exact (List.cons.inj e3).1.symm
    subst e2
    rw [← hs]
    show (if isFig d = true then (d :: r).takeWhile isFig else _ : List Nat).all isFig = true
    rw [if_pos hf]
    exact List.all_takeWhile
  refine ⟨_, rfl, _, rfl, iteF ?_⟩
  refine ⟨_, rfl, _, rfl, (by show 2 ≤ sizeLine; decide), fun t ht => ?_⟩
  exact k _ t (s1.trans fun b o q => by rw [upd_ne (ne_of_none q ht)]; exact q) upd_same

end
end K8

/-! The program's words, with their places: the whole list. -/
namespace KD
open PySem L2 TL
open K0 (isFig isLet isAl isBl kws mks inM sigs kind Toks toks_nil toks_blank toks_word)
open K8 (Txt sPlaced spCheck spWordAt sign_at in_bl)
section
variable {P : Program} {w : World} {K : PySem.W.Frag} {mg : Str → Option Value} {base : Heap}
def spPlaced (K : PySem.W.Frag) (PT : Addr) : Sp := fun vs H Q _ => ∃ (z : Str) (ws : List (Str × Str)), vs = [.str z] ∧ z.length ≤ 100000 ∧ Toks (tl z) ws ∧ GN.Tab PT H ∧
  ∀ (H' : Hp) (p : Addr) (vs : List V) (ts : List T3), Same H H' → H p = none → H' p = some (.lst vs) → DpAll K H' vs (ts.map T3.d) → ts.map T3.tk = ws → ts.length ≤ z.length → Plc (tl z) ts → Q (.ref p) H'
theorem scPlaced : FnScope ["text", "found", "at", "kind", "word"] ["text"] (defScope sPlaced) := ⟨rfl, rfl, rfl, by decide +kernel, rfl, by decide +kernel, by decide +kernel⟩
theorem ok_placed {f fC fA PT : Addr} {fd fdC fdA : FuncData} (F : Fun K "placed_words" "placed_words" sPlaced f fd) (T : Txt K mg) (B : Blt mg) (GC : FnOk P w K mg base CX0 1 fC fdC ["value"] spCheck) (mC : mg "check_text" = some (.ref fC)) (kC : PySem.W.keepIn K (.ref fC) = true) (bC : Binds K fdC ["value"] [])
    (GA : FnOk P w K mg base CX0 4 fA fdA ["text", "at"] (spWordAt PT)) (mA : mg "word_at" = some (.ref fA)) (kA : PySem.W.keepIn K (.ref fA) = true) (bA : Binds K fdA ["text", "at"] []) :
    FnOk P w K mg base CX0 5 f fd ["text"] (spPlaced K PT) := by
  refine F.ok scPlaced (fun vs H Q E h => ?_) (fun cdv A outer s0 H vs Q E hr h => ?_)
  · obtain ⟨z, ws, rfl, _⟩ := h
    rfl
  obtain ⟨z, ws, rfl, hz, hT, hTab, k⟩ := h
  obtain ⟨tB, mB⟩ := T.blanks
  have hz' : z.length ≤ sizeLine := Nat.le_trans hz (by decide)
  have hr1 : Room 1 _ := hr.mono (by decide)
  refine ⟨_, pss_cons (ps_expr (pe_call GC hr1 rfl mC kC bC .nil pass0 (pa_cons (pv 0) pa_nil)))
    (pss_cons (ps_set (i := 1) scPlaced.nd rfl (Or.inl rfl) (pe_lst pa_nil))
    (pss_cons (ps_set (i := 2) scPlaced.nd rfl (Or.inl rfl) pe_int)
    (pss_cons (ps_while PassesOwn.never (pt_cmpR op_lt (pv 2) (pe_callB call_len_str (by rfl) B.len PySem.boot_len (pa_cons (pv 0) pa_nil)) (nomark _))
      (pss_one (ps_if (pt_cmpR op_in_sign (pe_ix ix_str (pv 0) (pv 2) (fun _ _ => rfl)) (pe_glob (v := .str " \n") rfl mB ⟨_, rfl⟩) (by rfl))
        (pss_one (ps_aug (i := 2) scPlaced.nd rfl (Or.inl rfl) pe_int ip_add))
        (pss_cons (ps_asg (pe_call GA hr rfl mA kA bA .nil pass0 (pa_cons (pv 0) (pa_cons (pv 2) pa_nil))) (pg_tup rfl (pgs_cons (pg_name (i := 3) scPlaced.nd rfl (Or.inl rfl)) (pgs_cons (pg_name (i := 4) scPlaced.nd rfl (Or.inl rfl)) pgs_nil))))
        (pss_cons (ps_expr (pe_bm PySem.F.plainAttrs_list PySem.F.slot_list_append PySem.F.type_list_append mt_append (pv 1) (pa_cons (pe_tup (pa_cons (pv 3) (pa_cons (pv 4) (pa_cons (pe_op op_add (pv 2) pe_int) pa_nil)))) pa_nil)))
        (pss_one (ps_aug (i := 2) scPlaced.nd rfl (Or.inl rfl) (pe_callB call_len_str (by rfl) B.len PySem.boot_len (pa_cons (pv 4) pa_nil)) ip_add)))))))
    (pss_one (ps_ret (pv 1)))))), ?_⟩
  refine ⟨_, rfl, z, rfl, hz, fun H1 s1 => ?_⟩
  refine ⟨Nat.zero_le _, fun p hp => ?_⟩
  refine while_by (fun σ H' => ∃ (n : Nat) (v3 v4 : Option V) (vs : List V) (done : List T3) (rest : List (Str × Str)), σ = [some (.str z), some (.ref p), some (.int n), v3, v4] ∧ n ≤ z.length ∧ Same H1 H' ∧ H' p = some (.lst vs) ∧ DpAll K H' vs (done.map T3.d) ∧ ws = done.map T3.tk ++ rest ∧ Toks ((tl z).drop n) rest ∧ vs.length ≤ n ∧ Plc (tl z) done ∧ ∀ t ∈ done, t.pl ≤ n)
    (fun σ _ => match σ with | [_, _, some (.int m), _, _] => z.length - m.toNat | _ => 0)
    ⟨0, none, none, [], [], ws, rfl, Nat.zero_le _, (fun b o q => by rw [upd_ne (ne_of_none q hp)]; exact q), upd_same, .nil, rfl, hT, Nat.le_refl _, Plc.nil, fun _ h => nomatch h⟩ ?_ ?_
  · rintro σ H' ⟨n, v3, v4, vs, done, rest, rfl, hn, s2, hvs, tT, ew, hR, hlen, hplc, hpln⟩
    refine ⟨_, rfl, _, rfl, z, rfl, hz', _, _, rfl, rfl, _, rfl, ?_⟩
    refine ite2 (fun c => ?_) (fun c => ?_)
    · have hlt : n < z.length := by
        have q : ((n : Nat) : Int) < ((z.length : Nat) : Int) := of_decide_eq_true c
        omega
      obtain ⟨ch, rr, hd⟩ : ∃ ch rr, (tl z).drop n = ch :: rr := ⟨_, _, List.drop_eq_getElem_cons (by rw [← len_tl]; exact hlt)⟩
      rw [hd] at hR
      refine ⟨_, rfl, _, rfl, z, _, ch, rfl, rfl, hz', (sign_at hd).1, ch, _, rfl, rfl, _, rfl, ?_⟩
      rw [show decide (ch ∈ (" \n" : Str).cps.toList) = isBl ch from in_bl ch]
      refine ite2 (fun c1 => ?_) (fun c1 => ?_)
      · refine ⟨_, rfl, _, _, rfl, rfl, ?_⟩
        have hd1 : (tl z).drop (n + 1) = rr := by rw [← List.drop_drop, hd] <;> rfl
        refine ⟨⟨n + 1, v3, v4, vs, done, rest, rfl, by omega, s2, hvs, tT, ew, ?_, by omega, hplc, fun t ht => Nat.le_succ_of_le (hpln t ht)⟩, ?_⟩
        · rw [hd1]
          exact toks_blank c1 hR
        · show z.length - ((n : Int) + 1).toNat < z.length - (n : Int).toNat
          omega
      · obtain ⟨ww, kk, cs, us, e1, hw, hsg, hk, erest, hcs⟩ := toks_word (Bool.eq_false_iff.mpr c1) hR
        have hl1 : (tl z).length = n + ((tl ww).length + cs.length) := by
          have q : ((tl z).drop n).length = (tl ww).length + cs.length := by rw [hd, e1, List.length_append]
          rw [List.length_drop] at q
          rw [len_tl] at hlt
          omega
        have hwl : n + ww.length ≤ z.length := by
          rw [len_tl z, len_tl ww]
          omega
        have hwp : 1 ≤ ww.length := by
          rw [len_tl]
          cases e : tl ww with
          | nil => exact absurd e hw
          | cons a b => rw [List.length_cons]; omega
        refine ⟨_, rfl, _, rfl, z, ww, kk, n, ch, rr, rfl, hz, hd, hsg, hw, by omega, hk, s2 _ _ (s1 _ _ hTab), fun H3 t s3 ht => ?_⟩
        refine ⟨t, _, rfl, SqT.of ht, rfl, _, _, rfl, _, _, rfl, rfl, ?_⟩
        have hvs3 := s3 _ _ hvs
        have tT3 : DpAll K H3 vs (done.map T3.d) := DpAll.same s3 tT
        refine ⟨_, rfl, .inl ⟨rfl, _, SqL.of hvs3⟩, _, rfl, _, rfl, _, rfl, _, _, rfl, rfl, (by show 3 ≤ sizeLine; decide), fun t2 ht2 => ?_⟩
        have npt : p ≠ t2 := ne_of_none hvs3 ht2
        refine ⟨p, vs, _, rfl, rfl, by rw [upd_ne npt]; exact hvs3, Nat.lt_of_le_of_lt (by omega : vs.length ≤ 100000) (by decide), ?_⟩
        refine ⟨_, rfl, _, rfl, ww, rfl, Nat.le_trans (by omega : ww.length ≤ 100000) (by decide), _, _, rfl, rfl, ?_⟩
        have d2 : Dp K (upd H3 t2 (.tup [.str kk, .str ww, .int ((n : Nat) + 1)])) (.ref t2) (T3.d ⟨kk, ww, n + 1⟩) := Dp.new ht2 (.cons (.str kk) (.cons (.str ww) (.cons (.int _) .nil)))
        have tT4 : DpAll K (upd H3 t2 (.tup [.str kk, .str ww, .int ((n : Nat) + 1)])) vs (done.map T3.d) := DpAll.same (same_new ht2 _) tT3
        have hp4 : (upd H3 t2 (.tup [.str kk, .str ww, .int ((n : Nat) + 1)])) p = some (.lst vs) := by rw [upd_ne npt]; exact hvs3
        have kt : KT K (upd H3 t2 (.tup [.str kk, .str ww, .int ((n : Nat) + 1)])) (upd (upd H3 t2 (.tup [.str kk, .str ww, .int ((n : Nat) + 1)])) p (.lst (vs ++ [.ref t2]))) := KT.upd hp4 _
        refine ⟨⟨n + ww.length, _, _, vs ++ [.ref t2], done ++ [⟨kk, ww, n + 1⟩], us, rfl, hwl, fun b o q => ?_, upd_same, ?_, ?_, ?_, ?_, hplc.snoc hpln (by rw [← len_tl]; exact hlt) (hd.trans e1), fun t ht => ?_⟩, ?_⟩
        · have q3 := s3 _ _ (s2 _ _ q)
          rw [upd_ne (ne_of_none q hp), upd_ne (ne_of_none q3 ht2)]
          exact q3
        · rw [List.map_append]
          exact DpAll.snoc (Dp.kt kt rfl d2) (DpAll.kt kt (tupDs_T3 _) tT4)
        · rw [ew, erest, List.map_append, List.append_assoc]
          rfl
        · have q : (tl z).drop (n + ww.length) = cs := by
            rw [← List.drop_drop, hd, e1, len_tl, List.drop_left]
          rw [q]
          exact hcs
        · rw [List.length_append, List.length_singleton]
          omega
        · rcases List.mem_append.mp ht with h1 | h1
          · exact Nat.le_trans (hpln t h1) (Nat.le_add_right _ _)
          · rw [List.mem_singleton.mp h1]
            show n + 1 ≤ n + ww.length
            omega
        · show z.length - ((n : Int) + (ww.length : Int)).toNat < z.length - (n : Int).toNat
          omega
    · have hlt : ¬ n < z.length := by
        have q : ¬ ((n : Nat) : Int) < ((z.length : Nat) : Int) := of_decide_eq_false (Bool.eq_false_iff.mpr c)
        omega
      rw [List.drop_eq_nil_of_le (by rw [← len_tl]; omega)] at hR
      have er := toks_nil hR
      rw [er, List.append_nil] at ew
      have ln : done.length ≤ z.length := by
        have q := DpAll.length tT
        rw [List.length_map] at q
        omega
      have hp0 : H p = none := by
        cases q : H p with
        | none => rfl
        | some o =>
          rw [s1 _ _ q] at hp
          cases hp
      exact ⟨_, rfl, k H' p vs done (s1.trans s2) hp0 hvs tT ew.symm ln hplc⟩
  · intro σ H' Q1 Q2 hq h
    obtain ⟨v1, e1, v0, e0, z1, e2, hz1, i1, j1, ei, ej, k1, ek, h⟩ := h
    exact ⟨v1, e1, v0, e0, z1, e2, hz1, i1, j1, ei, ej, k1, ek, hq _ _ h⟩
end
end KD

/-! The reader's statements, of any depth; how it begins; a text without definitions, read. -/
namespace KD
open PySem L2 TL
open K0 (num Toks)
structure RFns2 (K : PySem.W.Frag) (C : Addr) : Prop where
  low : RFns K C
  block : MF K C "block" "Reader.block" S_Reader_block ["self"]
  sts : MF K C "statements" "Reader.statements" S_Reader_statements ["self"]
  st : MF K C "statement" "Reader.statement" S_Reader_statement ["self"]
  setName : MF K C "set_name" "Reader.set_name" S_Reader_set_name ["self"]
  last : MF K C "last_value" "Reader.last_value" S_Reader_last_value ["self"]
  other : MF K C "other_block" "Reader.other_block" S_Reader_other_block ["self"]
  passed : MF K C "passed" "Reader.passed" S_Reader_passed ["self"]
section
variable {P : Program} {w : World} {K : PySem.W.Frag} {mg : Str → Option Value} {base : Heap} {C : Addr}
theorem sok (F : RFns2 K C) (B : Blt mg) (T : RTxt K mg C) (L : RLow P w K mg base C) : ∀ d, Mth P w K mg base C (105 + 4 * d) "statements" ["self"] (spSts K C d) := by
  obtain ⟨f1, fd1, F1⟩ := F.block
  obtain ⟨f2, fd2, F2⟩ := F.sts
  obtain ⟨f3, fd3, F3⟩ := F.st
  obtain ⟨f4, fd4, F4⟩ := F.setName
  obtain ⟨f5, fd5, F5⟩ := F.last
  obtain ⟨f6, fd6, F6⟩ := F.other
  obtain ⟨f7, fd7, F7⟩ := F.passed
  have hE : Mth P w K mg base C 101 "expression" ["self"] (spRExpr K C 10) := (rok F.low B T L 10).expr
  have hN : Mth P w K mg base C 102 "set_name" ["self"] (spSetName K C) := F4.mth (ok_setName F4.F T L hE (by decide))
  have hV : Mth P w K mg base C 102 "last_value" ["self"] (spLast K C) := F5.mth (ok_last F5.F T L hE (by decide))
  have hA : Mth P w K mg base C 102 "passed" ["self"] (spPassed K C) := F7.mth (ok_passed F7.F B T L hE (by decide))
  have step : ∀ d, Mth P w K mg base C (102 + 4 * d) "block" ["self"] (spBlk K C d) → Mth P w K mg base C (105 + 4 * d) "statements" ["self"] (spSts K C d) := fun d hB => by
    have hO : Mth P w K mg base C (103 + 4 * d) "other_block" ["self"] (spOther K C d) := (F6.mth (ok_other (n := 102 + 4 * d) F6.F T L hB (by omega))).mono (by omega)
    have hS : Mth P w K mg base C (104 + 4 * d) "statement" ["self"] (spSt K C d) :=
      (F3.mth (ok_st (n := 103 + 4 * d) F3.F T L (hE.mono (by omega)) (hN.mono (by omega)) (hV.mono (by omega)) (hA.mono (by omega)) (hB.mono (by omega)) hO (by omega))).mono (by omega)
    exact (F2.mth (ok_sts (n := 104 + 4 * d) F2.F B T L hS (by omega))).mono (by omega)
  intro d
  induction d with
  | zero => exact step 0 (F1.mth ok_blk0)
  | succ d ih => exact step (d + 1) ((F1.mth (ok_blk (n := 105 + 4 * d) F1.F T L ih (by omega))).mono (by omega))
theorem KT.ins {H : Hp} {r C dx : Addr} {fs : List (Str × V)} (h : H r = some (.ins C dx fs)) (o : HO) : KT K H (L2.upd H r o) := fun a xs q => by
  rcases q with (q | ⟨u, q⟩) | q
  · exact .inl (.inl (by rw [upd_ne (ne_of q h (by intro z; cases z))]; exact q))
  · exact .inl (.inr ⟨u, by rw [upd_ne (ne_of q h (by intro z; cases z))]; exact q⟩)
  · exact .inr q
/-- a new reader -/
def spInit (K : PySem.W.Frag) (C PT : Addr) : Sp := fun vs H Q _ => ∃ (r dx : Addr) (z : Str) (ws : List (Str × Str)), vs = [.ref r, .str z] ∧ H r = some (.ins C dx []) ∧ z.length ≤ 100000 ∧ Toks (tl z) ws ∧ GN.Tab PT H ∧
  ∀ (H' : Hp) (R : Rd), R.r = r → (∀ b o, b ≠ r → H b = some o → H' b = some o) → RdAt K C R H' 0 0 [] → R.ts.map T3.tk = ws ++ [((("end" : Str), ("" : Str)) : Str × Str)] → H R.tA = none → H R.pA = none → (∃ ts0 e, R.ts = ts0 ++ [e] ∧ Plc (tl z) ts0) → Q .non H'
theorem scInit : FnScope ["self", "text"] ["self", "text"] (defScope S_Reader___init__) := ⟨rfl, rfl, rfl, by decide +kernel, rfl, by decide +kernel, by decide +kernel⟩
theorem ok_init {f fW PT : Addr} {fd fdW : FuncData} (F : Fun K "__init__" "Reader.__init__" S_Reader___init__ f fd) (B : Blt mg) (T : RTxt K mg C) (GW : FnOk P w K mg base CX0 5 fW fdW ["text"] (spPlaced K PT)) (mW : mg "placed_words" = some (.ref fW)) (kW : PySem.W.keepIn K (.ref fW) = true) (bW : Binds K fdW ["text"] []) :
    FnOk P w K mg base CX0 6 f fd ["self", "text"] (spInit K C PT) := by
  refine F.ok scInit (fun vs H Q E h => ?_) (fun cdv A outer s0 H vs Q E hr h => ?_)
  · obtain ⟨r, dx, z, ws, rfl, _⟩ := h
    rfl
  obtain ⟨r, dx, z, ws, rfl, hI, hz, hT, hTab, k⟩ := h
  have hz' : z.length ≤ sizeLine := Nat.le_trans hz (by decide)
  refine ⟨_, pss_cons (ps_fld (pv 0) (pe_call GW hr rfl mW kW bW .nil pass0 (pa_cons (pv 1) pa_nil)) rfl)
    (pss_cons (ps_expr (pe_bm PySem.F.plainAttrs_list PySem.F.slot_list_append PySem.F.type_list_append mt_append (pe_fld (pv 0) rfl) (pa_cons (pe_tup (pa_cons pe_str (pa_cons pe_str (pa_cons (pe_op op_add (pe_callB call_len_str (by rfl) B.len PySem.boot_len (pa_cons (pv 1) pa_nil)) pe_int) pa_nil)))) pa_nil)))
    (pss_cons (ps_fld (pv 0) pe_int rfl)
    (pss_cons (ps_fld (pv 0) pe_int rfl)
    (pss_one (ps_fld (pv 0) (pe_lst pa_nil) rfl))))), ?_⟩
  refine ⟨_, rfl, z, ws, rfl, hz, hT, hTab, fun H1 tA vs ts s1 n1 h1 d1 e1 l1 plc => ?_⟩
  have hI1 := s1 _ _ hI
  have nrt : r ≠ tA := fun e => by rw [e, n1] at hI; cases hI
  refine ⟨_, rfl, r, C, dx, _, rfl, hI1, T.cl, T.nT, (by show 0 < 1000; decide), ?_⟩
  have i2 : (upd H1 r (.ins C dx (putF "told" (.ref tA) []))) r = some (.ins C dx (putF "told" (.ref tA) [])) := upd_same
  have h2 : (upd H1 r (.ins C dx (putF "told" (.ref tA) []))) tA = some (.lst vs) := by rw [upd_ne nrt.symm]; exact h1
  have lk : (putF "told" (.ref tA) ([] : List (Str × V))).lookup ("told" : Str) = some (V.ref tA) := by rw [lookup_putF, if_pos rfl]
  refine ⟨_, rfl, r, C, dx, _, _, rfl, i2, T.cl, T.nT, lk, .inl ⟨rfl, _, SqL.of h2⟩, _, rfl, z, rfl, hz', _, _, rfl, rfl, (by show 3 ≤ sizeLine; decide), fun t np => ?_⟩
  generalize eH2 : upd H1 r (.ins C dx (putF "told" (.ref tA) [])) = H2 at i2 h2 np
  have nt1 : tA ≠ t := ne_of_none h2 np
  have nr1 : r ≠ t := ne_of_none i2 np
  have dn : Dp K (upd H2 t (.tup [.str "end", .str "", .int ((z.length : Nat) + 1)])) (.ref t) (T3.d ⟨"end", "", z.length + 1⟩) := Dp.new np (.cons (.str _) (.cons (.str _) (.cons (.int _) .nil)))
  have dl : vs.length ≤ 100000 := by
    have q := DpAll.length d1
    rw [List.length_map] at q
    omega
  refine ⟨tA, vs, _, rfl, rfl, by rw [upd_ne nt1]; exact h2, Nat.lt_of_le_of_lt dl (by decide), ?_⟩
  have kt1 : KT K H1 H2 := by rw [← eH2]; exact KT.ins hI1 _
  have kt2 : KT K H2 (upd H2 t (.tup [.str "end", .str "", .int ((z.length : Nat) + 1)])) := KT.same (same_new np _)
  have h3 : (upd H2 t (.tup [.str "end", .str "", .int ((z.length : Nat) + 1)])) tA = some (.lst vs) := by rw [upd_ne nt1]; exact h2
  have i3 : (upd H2 t (.tup [.str "end", .str "", .int ((z.length : Nat) + 1)])) r = some (.ins C dx (putF "told" (.ref tA) [])) := by rw [upd_ne nr1]; exact i2
  have k3 : ∀ b o, b ≠ r → H b = some o → (upd H2 t (.tup [.str "end", .str "", .int ((z.length : Nat) + 1)])) b = some o := fun b o n q => by
    have q1 := s1 _ _ q
    have q2 : H2 b = some o := by rw [← eH2, upd_ne n]; exact q1
    rw [upd_ne (ne_of_none q2 np)]
    exact q2
  have d3 := DpAll.kt (kt1.trans kt2) (tupDs_T3 ts) d1
  generalize upd H2 t (.tup [.str "end", .str "", .int ((z.length : Nat) + 1)]) = H3 at dn h3 i3 k3 d3
  have kt4 : KT K H3 (upd H3 tA (.lst (vs ++ [.ref t]))) := KT.upd h3 _
  have d4 : DpAll K (upd H3 tA (.lst (vs ++ [.ref t]))) (vs ++ [.ref t]) ((ts ++ [(⟨"end", "", z.length + 1⟩ : T3)]).map T3.d) := by
    rw [List.map_append]
    exact DpAll.snoc (Dp.kt kt4 rfl dn) (DpAll.kt kt4 (tupDs_T3 ts) d3)
  have i4 : (upd H3 tA (.lst (vs ++ [.ref t]))) r = some (.ins C dx (putF "told" (.ref tA) [])) := by rw [upd_ne nrt]; exact i3
  have h4 : (upd H3 tA (.lst (vs ++ [.ref t]))) tA = some (.lst (vs ++ [.ref t])) := upd_same
  have k4 : ∀ b o, b ≠ r → H b = some o → (upd H3 tA (.lst (vs ++ [.ref t]))) b = some o := fun b o n q => by
    rw [upd_ne (ne_of_none q n1)]
    exact k3 b o n q
  generalize upd H3 tA (.lst (vs ++ [.ref t])) = H4 at d4 i4 h4 k4
  -- at, nests
  refine ⟨_, rfl, r, C, dx, _, rfl, i4, T.cl, T.nA, (by show 1 < 1000; decide), ?_⟩
  refine ⟨_, rfl, r, C, dx, _, rfl, upd_same, T.cl, T.nN, (by simp only [putF, if_neg to_at]; show 2 < 1000; decide), ?_⟩
  rw [upd_upd]
  refine ⟨Nat.zero_le _, fun pA np5 => ?_⟩
  have i5 : (upd H4 r (.ins C dx (putF "nests" (.int 0) (putF "at" (.int 0) (putF "told" (.ref tA) []))))) r = some (.ins C dx (putF "nests" (.int 0) (putF "at" (.int 0) (putF "told" (.ref tA) [])))) := upd_same
  have nrp : r ≠ pA := ne_of_none i5 np5
  have h5 : (upd H4 r (.ins C dx (putF "nests" (.int 0) (putF "at" (.int 0) (putF "told" (.ref tA) []))))) tA = some (.lst (vs ++ [.ref t])) := by rw [upd_ne nrt.symm]; exact h4
  have ntp : tA ≠ pA := ne_of_none h5 np5
  have kt5 : KT K H4 (upd H4 r (.ins C dx (putF "nests" (.int 0) (putF "at" (.int 0) (putF "told" (.ref tA) []))))) := KT.ins i4 _
  have d5 := DpAll.kt kt5 (tupDs_T3 _) d4
  have k5 : ∀ b o, b ≠ r → H b = some o → (upd H4 r (.ins C dx (putF "nests" (.int 0) (putF "at" (.int 0) (putF "told" (.ref tA) []))))) b = some o := fun b o n q => by
    rw [upd_ne n]
    exact k4 b o n q
  generalize upd H4 r (.ins C dx (putF "nests" (.int 0) (putF "at" (.int 0) (putF "told" (.ref tA) [])))) = H5 at np5 i5 h5 d5 k5
  have nP : H pA = none := by
    by_cases c : pA = r
    · exact absurd c.symm nrp
    · cases q : H pA with
      | none => rfl
      | some o =>
        rw [k5 _ _ c q] at np5
        cases np5
  refine ⟨_, rfl, r, C, dx, _, rfl, (by rw [upd_ne nrp]; exact i5), T.cl, T.nP, (by simp only [putF, if_neg to_at, if_neg to_ne, if_neg at_ne]; show 3 < 1000; decide), ?_⟩
  have kt6 : KT K H5 (upd (upd H5 pA (.lst [])) r (.ins C dx (rf tA pA 0 0))) := (KT.same (same_new np5 (.lst []))).trans (KT.ins (C := C) (dx := dx) (by rw [upd_ne nrp]; exact i5) _)
  refine k _ ⟨r, tA, pA, vs ++ [.ref t], ts ++ [⟨"end", "", z.length + 1⟩]⟩ rfl (fun b o n q => ?_) ⟨⟨dx, upd_same⟩, ?_, ?_, ?_, ntp, ?_⟩ ?_ n1 nP ⟨ts, _, rfl, plc⟩
  · rw [upd_ne n, upd_ne (ne_of_none q nP)]
    exact k5 b o n q
  · show upd (upd H5 pA (.lst [])) r _ tA = _
    rw [upd_ne nrt.symm, upd_ne ntp]
    exact h5
  · exact DpAll.kt kt6 (tupDs_T3 _) d5
  · show upd (upd H5 pA (.lst [])) r _ pA = _
    rw [upd_ne nrp.symm, upd_same]
    rfl
  · show (ts ++ [_]).length ≤ 100002
    rw [List.length_append, List.length_singleton]
    omega
  · rw [List.map_append, e1]
    rfl
end
end KD

/-! A text without definitions, read. -/
namespace KD
open PySem L2 TL
open K0 (num Toks)
def endT : Tk := (("end" : Str), ("" : Str))
theorem endFo : Fo endT := ⟨by decide +kernel, by decide +kernel⟩
theorem endSt : endT.2 ∉ stW := by decide +kernel
/-- what is asked of the program's reading where no text has definitions -/
def spRead0 (K : PySem.W.Frag) (PT : Addr) : Sp := fun vs H Q _ => ∃ (X : Str) (p : Pr), vs = [.str X] ∧ p.defs = [] ∧ Rdb X p ∧ GN.Tab PT H ∧ ∀ H' v, Same H H' → Dp K H' v p.d → Q v H'
def spProg0 (K : PySem.W.Frag) (C : Addr) : Sp := fun vs H Q _ => ∃ (R : Rd) (b : List St) (t : List Tk), vs = [.ref R.r] ∧ RdAt K C R H 0 0 [] ∧ At R 0 (t ++ [endT]) ∧ GB 3 b t ∧ wfB b ∧
  ∀ H' v, KeepR R H H' → Dp K H' v (Pr.d ⟨[], b⟩) → Q v H'
section
variable {P : Program} {w : World} {K : PySem.W.Frag} {mg : Str → Option Value} {base : Heap} {C : Addr}
abbrev progN : List Str := ["self", "definitions", "names", "definition", "statements"]
theorem scProg : FnScope progN ["self"] (defScope S_Reader_program) := ⟨rfl, rfl, rfl, by decide +kernel, rfl, by decide +kernel, by decide +kernel⟩
theorem ok_prog0 {n : Nat} {f : Addr} {fd : FuncData} (F : Fun K "program" "Reader.program" S_Reader_program f fd) (B : Blt mg) (T : RTxt K mg C) (L : RLow P w K mg base C) (hS : Mth P w K mg base C n "statements" ["self"] (spSts K C 3)) (hn : 2 ≤ n) : FnOk P w K mg base CX0 (n + 1) f fd ["self"] (spProg0 K C) := by
  refine F.ok scProg (fun vs H Q E h => ?_) (fun cdv A outer s0 H vs Q E hr h => ?_)
  · obtain ⟨R, b, t, rfl, _⟩ := h
    rfl
  obtain ⟨R, b, t, rfl, h, ha, hg, hw, q⟩ := h
  obtain ⟨fS, fdS, GS', mS, bS⟩ := hS.ex
  obtain ⟨fP, fdP, GP', mP, bP⟩ := L.passes.ex
  obtain ⟨fK, fdK, GK, mK, bK⟩ := L.kind.ex
  have hr1 : Room 1 _ := hr.mono (by omega)
  have hr2 : Room 2 _ := hr.mono hn
  refine ⟨_, pss_cons (ps_set (i := 1) scProg.nd rfl (Or.inl rfl) (pe_lst pa_nil))
    (pss_cons (ps_set (i := 2) scProg.nd rfl (Or.inl rfl) pe_dnewK)
    (pss_cons (ps_while PassesOwn.never (pt_val (pe_meth (pv 0) T.cl mP GP' hr2 bP .nil pass0 (pa_cons pe_str pa_nil))) pss_never)
    (pss_cons (ps_set (i := 4) scProg.nd rfl (Or.inl rfl) (pe_meth0 (pv 0) T.cl mS GS' hr bS .nil pass0))
    (pss_cons (ps_if (pt_cmpR op_ne (pe_meth0 (pv 0) T.cl mK GK hr1 bK .nil pass0) pe_str (nomark _)) pss_never pss_nil)
    (pss_one (ps_ret (pe_tup (pa_cons (pe_callTy call_tuple_of (by rfl) B.tup (by decide +kernel) (pa_cons (pv 1) pa_nil)) (pa_cons (pv 4) pa_nil))))))))), ?_⟩
  refine ⟨Nat.zero_le _, fun p np => ?_⟩
  have a1 := LstAt.new h np
  generalize upd H p (.lst []) = H1 at a1
  intro d nd
  have a2 := a1.call (KeepR.new nd (.dK [])) (a1.rd.same (same_new nd _))
  generalize upd H1 d (.dK []) = H2 at a2
  obtain ⟨u0, us, eu, hu⟩ := hg.fo endFo []
  rw [eu] at ha
  obtain ⟨x, hx, ex, _⟩ := At.head (l := us) ha
  obtain ⟨_, ew⟩ := T3.of (a := u0.1) (b := u0.2) ex
  have ha : At R 0 (t ++ [endT]) := by rw [eu]; exact ha
  have nodef : x.w ≠ "def" := by
    rw [ew]
    cases hg with
    | nil =>
      have e0 : u0 = endT := by
        have q := eu
        injection q with q1 _
        exact q1.symm
      rw [e0]
      decide +kernel
    | cons hs _ =>
      obtain ⟨z, ts, rfl, hz⟩ := hs.first
      have e0 : u0 = kK z := by
        have q := eu
        injection q with q1 _
        exact q1.symm
      rw [e0]
      intro q
      have q2 : z = "def" := q
      rw [q2] at hz
      exact absurd hz (by decide +kernel)
  obtain ⟨dx2, ei2⟩ := a2.rd.ins
  refine ⟨fun m σ H' => σ = [some (.ref R.r), some (.ref p), some (.ref d), none, none] ∧ H' = H2, ⟨0, rfl, rfl⟩, ?_⟩
  rintro m σ H3 ⟨rfl, rfl⟩
  refine ⟨_, rfl, R.r, dx2, _, rfl, ei2, rf_no _ _ _ _ (by decide +kernel), R, 0, 0, [], x, _, rfl, a2.rd, hx, fun c => absurd c nodef, fun _ => ⟨false, rfl, iteF ?_⟩⟩
  refine ⟨_, rfl, R.r, dx2, _, rfl, ei2, rf_no _ _ _ _ (by decide +kernel), R, 0, 0, [], b, t, endT, [], rfl, a2.rd, ha, hg, endFo, endSt, hw, by decide, Nat.zero_le _, fun H4 v k4 h4 d4 => ?_⟩
  obtain ⟨dx4, ei4⟩ := h4.ins
  have ha4 := At.app ha
  obtain ⟨x5, hx5, ex5, _⟩ := ha4.head
  obtain ⟨ek5, _⟩ := T3.of ex5
  refine ⟨_, rfl, R.r, dx4, _, rfl, ei4, rf_no _ _ _ _ (by decide +kernel), R, _, 0, _, x5, rfl, h4, hx5, rfl, _, rfl, ?_⟩
  rw [ek5, decide_eq_true rfl]
  refine iteF ?_
  have a4 := a2.call k4 h4
  refine ⟨_, rfl, p, _, rfl, .inl ⟨SqL.of a4.lp, fun l nl => ?_⟩⟩
  have d5 := Dp.same (same_new nl (.tup [])) d4
  have dt : Dp K (upd H4 l (.tup [])) (.ref l) (.tuple []) := Dp.new nl .nil
  refine ⟨_, rfl, (by show 2 ≤ sizeLine; decide), fun l2 nl2 => ?_⟩
  have s6 := same_new nl2 (.tup [.ref l, v])
  refine q _ _ ((a4.keep.trans (KeepR.new nl _)).trans (KeepR.same s6)) ?_
  exact Dp.new nl2 (.cons dt (.cons d5 .nil))
theorem scRead : FnScope ["text"] ["text"] (defScope S_read) := ⟨rfl, rfl, rfl, by decide +kernel, rfl, by decide +kernel, by decide +kernel⟩
theorem ok_read0 {n : Nat} {f fI PT : Addr} {fd fdI : FuncData} (F : Fun K "read" "read" S_read f fd) (T : RTxt K mg C) (MK : Mk K C fI) (GI : FnOk P w K mg base CX0 6 fI fdI ["self", "text"] (spInit K C PT)) (bI : Binds K fdI ["self", "text"] []) (hP : Mth P w K mg base C n "program" ["self"] (spProg0 K C)) (hn : 7 ≤ n) :
    FnOk P w K mg base CX0 (n + 1) f fd ["text"] (spRead0 K PT) := by
  refine F.ok scRead (fun vs H Q E h => ?_) (fun cdv A outer s0 H vs Q E hr h => ?_)
  · obtain ⟨X, p, rfl, _⟩ := h
    rfl
  obtain ⟨X, ⟨ds, b⟩, rfl, hd, hR, hT, q⟩ := h
  obtain rfl : ds = [] := hd
  obtain ⟨fP, fdP, GP', mP, bP⟩ := hP.ex
  have hr7 : Room 7 _ := hr.mono hn
  refine ⟨_, pss_one (ps_ret (pe_meth0 (pe_make MK GI hr7 rfl T.mgC bI .nil pass0 (pa_cons (pv 0) pa_nil)) T.cl mP GP' hr bP .nil pass0)), ?_⟩
  refine ⟨_, rfl, fun x dx nx ndx nex => ?_⟩
  obtain ⟨ws, hws, t, u, g1, g2, rfl⟩ := hR.toks
  have et : t = [] := by
    cases g1
    rfl
  subst et
  have s1 : Same H (upd (upd H dx (.own x)) x (.ins C dx [])) := fun b o e => by
    rw [upd_ne (ne_of_none e nx), upd_ne (ne_of_none e ndx)]
    exact e
  refine ⟨x, dx, X, _, rfl, upd_same, Nat.le_trans hR.len (by decide), hws, s1 _ _ hT, fun H2 R er k2 h2 e2 ntA npA _ => ?_⟩
  subst er
  obtain ⟨dx2, ei2⟩ := h2.ins
  have ha : At R 0 (u ++ [endT]) := by
    show (R.ts.drop 0).map T3.tk = _
    rw [List.drop_zero, e2]
    rfl
  refine ⟨rfl, R.r, dx2, _, rfl, ei2, rf_no _ _ _ _ (by decide +kernel), R, b, u, rfl, h2, ha, g2, hR.wf.body, fun H3 v k3 d3 => ?_⟩
  refine q H3 v (fun b o e => ?_) d3
  have n1 : b ≠ R.r := ne_of_none e nx
  have e1 := s1 _ _ e
  have n2 : b ≠ R.pA := ne_of_none e1 npA
  exact k3 _ _ n1 n2 (k2 _ _ n1 e1)
end
end KD

/-! len(set(xs)), xs a list of texts of which no two are alike. -/
namespace ST
open PySem PySem.Spec PyProof.Rows
/-- the members that the first i make -/
def fst (xs : List Str) (i : Nat) : Str → Bool := fun z => (xs.take i).any (· == z)
theorem fst_step {xs : List Str} (nd : xs.Nodup) {i : Nat} (hi : i < xs.length) : fst xs i (xs.getD i Str.empty) = false ∧ ∀ z, (fst xs i z || decide (z = xs.getD i Str.empty)) = fst xs (i + 1) z := by
  have eg : xs.getD i Str.empty = xs[i] := by rw [List.getD_eq_getElem?_getD, List.getElem?_eq_getElem hi]; rfl
  rw [eg]
  refine ⟨?_, fun z => ?_⟩
  · cases q : fst xs i xs[i] with
    | false => rfl
    | true =>
      obtain ⟨y, hy, ey⟩ := List.any_eq_true.mp q
      have ey2 : y = xs[i] := eq_of_beq ey
      subst ey2
      obtain ⟨j, hj⟩ := List.mem_iff_getElem?.mp hy
      rw [List.getElem?_take] at hj
      split at hj
      · rename_i lt
        obtain ⟨lj, ej⟩ := List.getElem?_eq_some_iff.mp hj
        exact absurd ej (List.pairwise_iff_getElem.mp nd j i lj hi lt)
      · cases hj
  · unfold fst
    rw [List.take_succ, List.getElem?_eq_getElem hi, List.any_append]
    congr 1
    show decide (z = xs[i]) = ((xs[i] == z) || false)
    rw [Bool.or_false, Bool.eq_iff_iff, decide_eq_true_iff, beq_iff_eq]
    exact ⟨fun e => e.symm, fun e => e.symm⟩
section
variable {prog : Program} {w : World} {A : Around} {Z : Result → Shared → Prop} {I : Addr} {fp wr : List Addr} {G : Array GenState → Array GenState → Prop} {n : Nat} {P : Nat → Value → Prop} {St : Nat → Shared → Prop}
/-- what is added one by one -/
theorem adds (W : WalksS prog w A.in1 I fp wr G n P St) (p : Addr) (away : p ∉ fp) (xs : List Str) (nd : xs.Nodup) (len : xs.length = n) (few : n ≤ 1000) (vals : ∀ i v, P i v → ∃ t, v = .str (xs.getD i Str.empty) t) :
    ∀ (d i : Nat) (s : Shared), i + d = n → St i s → s.heap.SetOf (PySem.strKind prog w) p (fst xs i) i →
      (∀ s2, Moved (p :: wr) G s s2 → s2.heap.SetOf (PySem.strKind prog w) p (fst xs n) n → Z (.ok (.ret .none)) s2) → codeAny (model prog w) A (.builtin "set.update.loop" ⟨[.ref p, .ref I], []⟩) Z s := by
  have more : ∀ b ∈ wr, b ∈ p :: wr := fun b hb => List.mem_cons_of_mem _ hb
  have apart : p ∉ wr := fun h => away (W.sub _ h)
  have kept : ∀ {s s2 : Shared} {S : Str → Bool} {m : Nat}, Moved wr G s s2 → s.heap.SetOf (PySem.strKind prog w) p S m → s2.heap.SetOf (PySem.strKind prog w) p S m := fun mv h => by
    obtain ⟨o, es, ep, tb, ho, r⟩ := h
    exact ⟨o, es, ep, tb, mv.heap p _ apart ho, r⟩
  intro d
  induction d with
  | zero =>
    intro i s hd st hS after
    obtain rfl : i = n := hd
    refine codeAny_builtin PyProof.Rows.F.entry_set_update_loop ?_
    rw [Around.under_plainId PyProof.Rows.F.plain_set_update_loop _]
    show wpAny _ A.in1 (pyNext (.ref I) >>= _) _ _ s
    refine wpAny_bind (W.done s _ _ st fun s2 mv => ?_)
    show wpAny _ A.in1 (ret Value.none) _ _ s2
    exact wpAny_pure (after s2 (mv.mono more) (kept mv hS))
  | succ d ih =>
    intro i s hd st hS after
    have lt : i < n := by omega
    obtain ⟨new, next⟩ := fst_step nd (i := i) (by omega)
    refine codeAny_builtin PyProof.Rows.F.entry_set_update_loop ?_
    rw [Around.under_plainId PyProof.Rows.F.plain_set_update_loop _]
    show wpAny _ A.in1 (pyNext (.ref I) >>= _) _ _ s
    refine wpAny_bind (W.item i s _ _ lt st fun v s2 hv st2 mv => ?_)
    obtain ⟨t, rfl⟩ := vals i v hv
    show wpAny _ A.in1 (holding [Value.str (xs.getD i Str.empty) t] (setAdd p (.str (xs.getD i Str.empty) t)) >>= _) _ _ s2
    refine wpAny_bind (wpAny_holding ?_)
    unfold setAdd
    refine wpAny_holding (wpAny_bind ((PySem.strKind prog w).pyHash (k := xs.getD i Str.empty) (strKind_is _ _ _ _) ?_))
    have hS2 := kept mv hS
    refine wpAny_setAddHashed_of (knd := PySem.strKind prog w) (s := { s2 with toks := s2.toks + 1 }) (strKind_is _ _ _ _) rfl hS2 (by unfold scanBound; omega) fun h3 but hS3 => ?_
    have hS4 : h3.SetOf (PySem.strKind prog w) p (fst xs (i + 1)) (i + 1) := SetOf_congr hS3 (fun z => next z) (by rw [new]; rfl)
    refine wpAny_pure ⟨plainId_quiet PyProof.Rows.F.plain_set_update_loop _, ih (i + 1) _ (by omega) (W.frame _ s2 _ _ st2 (Nat.le_succ _) fun b hb o e => ?_) hS4 fun s4 mv4 hS5 => ?_⟩
    · rw [but.2 b (fun q : b = p => away (q ▸ hb))]
      exact e
    · refine after s4 (Moved.trans W.gtrans ((mv.mono more).then_heap (Nat.le_succ _) fun b o hb e => ?_) mv4) hS5
      rw [but.2 b (fun q : b = p => hb (q ▸ List.mem_cons_self))]
      exact e
end
section
variable {prog : Program} {w : World} {A : Around} {E : Value → Shared → Prop} {s : Shared}
set_option maxHeartbeats 3200000 in
theorem set_list {l : Addr} {its : Array Value} {xs : List Str} {Z : Value → Shared → Prop} (calm : A.handled = none) (hl : s.heap.IsList l its) (hx : PyProof.Rows.StrsAre its.toList xs) (nd : xs.Nodup) (few : xs.length ≤ 1000)
    (after : ∀ (h2 : Heap) (tk : Nat), h2.SetOf (PySem.strKind prog w) s.heap.objs.size (fst xs xs.length) xs.length → (∀ b o, b < s.heap.objs.size → s.heap.get? b = some o → h2.get? b = some o) → Z (.ref s.heap.objs.size) { s with heap := h2, toks := tk }) :
    wpAny (model prog w) A (call (.type "set") [.ref l]) Z E s := by
  obtain ⟨cc, tl, hmro⟩ := PySem.F.called_set.mro
  have hsub := PySem.F.called_set.sub
  have hmade := PySem.F.called_set.made
  refine wpAny_call (codeAny_of_tree ?_)
  show wpAny _ _ (callAny (.type "set") _) _ _ _
  refine wpAny_pure ⟨Code.quiet_builtin _ (by decide +kernel), codeAny_builtin PySem.F.entry_type_call ?_⟩
  rw [Around.under_plain (weight_type_call_type "set" [.ref l] []) rfl]
  have q1 := PySem.F.called_set.canCreate
  have q2 := PySem.F.called_set.notType
  have q3 := PySem.F.typeCall_set_1 (.ref l)
  repeat (any_goals (first | assumption | wp_step))

  refine codeAny_mono (code_set_new_1 (.ref l) (E := E) (Q₁ := fun x s1 => ∃ led : Bool, s1 = { s with heap := s.heap.push { cls := .type "set", dict := none, data := .set #[] 0 (.fresh 0 0 led) } } ∧ x = .ref s.heap.objs.size) fun led => ⟨led, rfl, rfl⟩) fun r s1 hr => ?_
  match r, hr with
  | .error e, hr => exact hr
  | .ok .next, hr => exact hr.elim
  | .ok .brk, hr => exact hr.elim
  | .ok .cont, hr => exact hr.elim
  | .ok (.ret x), hr =>
    obtain ⟨led, rfl, rfl⟩ := hr
    have at0 : (s.heap.push { cls := .type "set", dict := none, data := .set #[] 0 (.fresh 0 0 led) }).get? s.heap.objs.size = some { cls := .type "set", dict := none, data := .set #[] 0 (.fresh 0 0 led) } := Heap.get?_push_size _ rfl
    have ty0 : Shared.TypeIs { s with heap := s.heap.push { cls := .type "set", dict := none, data := .set #[] 0 (.fresh 0 0 led) } } (.ref s.heap.objs.size) "set" := ⟨_, at0, rfl⟩
    have look := PySem.F.called_set.init.lookup
    have bind := PySem.F.called_set.init.bind (.ref s.heap.objs.size)
    repeat (any_goals (first | assumption | wp_step))

    refine codeAny_mono (codeAny_call_builtin (R := wants (fun r s2 => r = .none ∧ ∃ h2 tk, s2 = { s with heap := h2, toks := tk } ∧ h2.SetOf (PySem.strKind prog w) s.heap.objs.size (fst xs xs.length) xs.length ∧
      (∀ b o, b < s.heap.objs.size → s.heap.get? b = some o → h2.get? b = some o)) E) PySem.F.called_set.init.plain PySem.F.entry_set_init (check_set_init_1 ty0 ?_)) fun r2 s2 hr2 => ?_
    · obtain ⟨⟨oc, od, odt, osl⟩, hol, hc, nl, hdt⟩ := hl
      simp only at hc hdt
      subst hc hdt
      have n1 := PySem.F.sub_list_set
      have n2 := PySem.F.sub_list_frozenset
      have n3 : (Value.type "list" == Value.type "dict") = false := by decide
      have low : l < s.heap.objs.size := Heap.lt_size hol
      have hol2 : (s.heap.push { cls := .type "set", dict := none, data := .set #[] 0 (.fresh 0 0 led) }).get? l = some { cls := .type "list", dict := od, data := .seq its nl, slots := osl } := Heap.get?_push_of_some _ hol
      have isl : (s.heap.push { cls := .type "set", dict := none, data := .set #[] 0 (.fresh 0 0 led) }).IsList l its := ⟨_, hol2, rfl, nl, rfl⟩
      unfold Builtin.«set.__init__» noKeywords Builtin.Frozenset.updateFrom
      generalize epi : pyIter = PI
      wp_walk
      subst epi

      refine wpAny_pyIter_list isl ?_
      refine wpAny_bind (wpAny_runValue ?_)
      have calm3 : A.in1.in1.in1.handled = none := by simp [calm]
      have size1 : (s.heap.push { cls := .type "set", dict := none, data := .set #[] 0 (.fresh 0 0 led) }).objs.size = s.heap.objs.size + 1 := Heap.size_push ..
      have lneI : l ≠ (s.heap.push { cls := .type "set", dict := none, data := .set #[] 0 (.fresh 0 0 led) }).objs.size := by
        rw [size1]
        exact Nat.ne_of_lt (Nat.lt_succ_of_lt low)
      have away : s.heap.objs.size ∉ [(s.heap.push { cls := .type "set", dict := none, data := .set #[] 0 (.fresh 0 0 led) }).objs.size, l] := fun q => by
        rcases List.mem_cons.mp q with q | q
        · rw [size1] at q
          exact Nat.ne_of_lt (Nat.lt_succ_self _) q
        · exact Nat.ne_of_gt low (List.mem_singleton.mp q)
      have len : xs.length = its.size := by rw [← StrsAre.len_eq hx, Array.length_toList]
      have vals : ∀ (i : Nat) (v : Value), its[i]? = some v → ∃ t, v = .str (xs.getD i Str.empty) t := fun i v hv => SS.strs_at hx i v (by rw [Array.getElem?_toList]; exact hv)
      refine adds ((Walks.list calm3 _ l lneI its).toS) s.heap.objs.size away xs nd len (by omega) vals its.size 0 _ (Nat.zero_add _) ⟨⟨_, Heap.get?_push_size _ rfl, rfl, rfl⟩, isl.push _⟩ ?start ?finish
      case start =>
        have at1 : ((s.heap.push { cls := .type "set", dict := none, data := .set #[] 0 (.fresh 0 0 led) }).push { cls := .type "list_iterator", data := .fields #[.ref l, .int 0 0] }).get? s.heap.objs.size = some { cls := .type "set", dict := none, data := .set #[] 0 (.fresh 0 0 led) } := Heap.get?_push_of_some _ at0
        exact SetOf_congr ((PyProof.Rows.setObjOf_fresh (knd := PySem.strKind prog w) led).setOf at1 (by unfold scanBound; omega)) (fun _ => rfl) rfl
      case finish =>
        intro s3 mv hS3
        obtain ⟨h3, g3, d3, tk3, os3⟩ := s3
        obtain rfl : g3 = s.gens := mv.gens
        obtain rfl : d3 = s.drawn := mv.drawn
        obtain rfl : os3 = s.os := mv.os
        show wpAny _ _ _ _ _ _
        refine wpAny_pure ?_
        show wpAny _ _ (ret Value.none) _ _ _
        rw [← len] at hS3
        refine wpAny_pure ⟨rfl, h3, tk3, rfl, hS3, fun b o lt e => mv.heap b o (fun q => ?_) (Heap.get?_push_of_some _ (Heap.get?_push_of_some _ e))⟩
        rcases List.mem_cons.mp q with q | q
        · exact Nat.ne_of_lt lt q
        · have q3 := List.mem_singleton.mp q
          rw [size1] at q3
          exact Nat.ne_of_lt (Nat.lt_succ_of_lt lt) q3
    · match r2, hr2 with
      | .error e, hr2 => exact hr2
      | .ok .next, hr2 => exact hr2.elim
      | .ok .brk, hr2 => exact hr2.elim
      | .ok .cont, hr2 => exact hr2.elim
      | .ok (.ret y), hr2 =>
        obtain ⟨rfl, h2, tk, rfl, hS2, keep⟩ := hr2
        repeat (any_goals (first | assumption | wp_step))
        exact after _ _ hS2 keep
end
end ST
namespace ST
open PySem PySem.Spec PyProof.Rows L2
def tLenS (K : PySem.W.Frag) (ta : TE) : TE := fun σ H Q => ta σ H fun x H1 => ∃ (l : Addr) (xs : List Str), x = .ref l ∧ SqL K H1 l (xs.map V.str) ∧ xs.Nodup ∧ xs.length ≤ 1000 ∧ Q (.int (xs.length : Nat)) H1
theorem pe_lenS {X : Cx} {a : Expr} {ta : TE} {p p2 q pos : Pos} (g1 : Gl X "len") (m1 : X.mg "len" = none) (g2 : Gl X "set") (m2 : X.mg "set" = none) (ha : PE X a ta) (calm : X.calm = true := by rfl)
    (one : starEach [a] X.env = (false, eval a X.env) :: starEach [] X.env := by rfl) : PE X (.Call (.Name "len" p) [.Call (.Name "set" p2) [a] [] q] [] pos) (tLenS X.K ta) := by
  constructor
  intro pins s σ H Q I h
  refine Call_ (ld_blt I g1 m1 boot_len (PyProof.Rows.callWith_builtin1 (PyProof.Rows.args_cons ?_ rfl) rfl rfl))
  refine Call_ (ld_blt I g2 m2 boot_set (PyProof.Rows.callWith_type1 (PyProof.Rows.args_cons ?_ one) one rfl))
  refine thn (ha.run pins s σ H _ I h) ?_
  rintro v s1 ⟨x, H1, J, rx, l, xs, rfl, hq, nd, few, hQ⟩
  cases rx
  obtain ⟨its, rv, pl, _⟩ := J.list hq
  refine PyProof.Rows.args_nil (set_list (J.ok.hd calm) pl.isList (by simpa using strsAre_of rv) nd few fun h2 tk hS keep => PyProof.Rows.args_nil ?_)
  obtain ⟨o, es, ep, t, ho, hex, hd, _, _, _, hf, hn⟩ := hS
  have J2 : Inv X pins σ H1 { s1 with heap := h2, toks := tk } := J.kept fun b o e => keep b o (Heap.lt_size e) e
  exact call_len_set ho hex hd hf (by rw [hn]; omega) ⟨.int (xs.length : Nat), H1, J2.tok _, ⟨_, by rw [hn]⟩, hQ⟩
end ST

/-! The reader's definitions; whole programs. -/
namespace KD
open PySem L2 TL
open K0 (num Toks)
/-- names behind commas -/
inductive NTail : List Str → List Tk → Prop
  | nil : NTail [] []
  | cons {x : Str} {xs : List Str} {ts : List Tk} : NTail xs ts → NTail (x :: xs) (kM "," :: kN x :: ts)
theorem tkNs_tail : ∀ xs : List Str, (xs = [] ∧ tkNs xs = []) ∨ ∃ x xs' ts, xs = x :: xs' ∧ NTail xs' ts ∧ tkNs xs = kN x :: ts
  | [] => .inl ⟨rfl, rfl⟩
  | [x] => .inr ⟨x, [], [], rfl, .nil, rfl⟩
  | x :: y :: r => by
    rcases tkNs_tail (y :: r) with ⟨q, _⟩ | ⟨z, xs', ts, e, h, e2⟩
    · cases q
    · cases e
      refine .inr ⟨x, _, _, rfl, .cons h, ?_⟩
      show [kN x, kM ","] ++ tkNs (y :: r) = _
      rw [e2]
      rfl
theorem NTail.noSt : ∀ {xs : List Str} {ts : List Tk}, NTail xs ts → (∀ x ∈ xs, nameW x = true) → ∀ w ∈ ts, w.2 ∉ stW
  | _, _, .nil, _, w, hw => by cases hw
  | _, _, .cons h, hq, w, hw => by
    rcases List.mem_cons.mp hw with e | hw
    · rw [e]; decide +kernel
    rcases List.mem_cons.mp hw with e | hw
    · rw [e]; exact nameW_st (hq _ List.mem_cons_self)
    · exact h.noSt (fun x hx => hq x (List.mem_cons_of_mem _ hx)) w hw
theorem tkNs_noSt {xs : List Str} (hq : ∀ x ∈ xs, nameW x = true) : ∀ w ∈ tkNs xs, w.2 ∉ stW := by
  rcases tkNs_tail xs with ⟨rfl, _⟩ | ⟨x, xs', ts, rfl, h, e⟩
  · exact fun w hw => by cases hw
  · rw [e]
    intro w hw
    rcases List.mem_cons.mp hw with e | hw
    · rw [e]; exact nameW_st (hq _ List.mem_cons_self)
    · exact h.noSt (fun x hx => hq x (List.mem_cons_of_mem _ hx)) w hw
theorem strs_data {K : PySem.W.Frag} {H : Hp} : ∀ {vs : List V} {xs : List Str}, DpAll K H vs (xs.map PyData.str) → vs = xs.map V.str
  | _, [], .nil => rfl
  | _, x :: xs, .cons h t => by
    cases h
    rw [strs_data t]
    rfl
def spArgs (K : PySem.W.Frag) (C : Addr) : Sp := fun vs H Q _ => ∃ (R : Rd) (i k : Nat) (ps : List Nat) (xs : List Str) (rest : List Tk), vs = [.ref R.r] ∧ RdAt K C R H i k ps ∧ At R i (kM "(" :: (tkNs xs ++ kM ")" :: rest)) ∧ (∀ x ∈ xs, nameW x = true) ∧ xs.Nodup ∧ xs.length ≤ 10 ∧
  ∀ H' v, KeepR R H H' → RdAt K C R H' (i + 1 + (tkNs xs).length + 1) k ps → Dp K H' v (.tuple (xs.map .str)) → Q v H'
section
variable {P : Program} {w : World} {K : PySem.W.Frag} {mg : Str → Option Value} {base : Heap} {C : Addr}
theorem scArgs : FnScope ["self", "names"] ["self"] (defScope S_Reader_arguments) := ⟨rfl, rfl, rfl, by decide +kernel, rfl, by decide +kernel, by decide +kernel⟩
theorem ok_args {n : Nat} {f : Addr} {fd : FuncData} (F : Fun K "arguments" "Reader.arguments" S_Reader_arguments f fd) (B : Blt mg) (hset : mg "set" = none) (T : RTxt K mg C) (L : RLow P w K mg base C) (hn : 3 ≤ n) : FnOk P w K mg base CX0 (n + 1) f fd ["self"] (spArgs K C) := by
  refine F.ok scArgs (fun vs H Q E h => ?_) (fun cdv A outer s0 H vs Q E hr h => ?_)
  · obtain ⟨R, i, k, ps, xs, rest, rfl, _⟩ := h
    rfl
  obtain ⟨R, i, k, ps, xs, rest, rfl, h, ha, hw, hnd, hl, q⟩ := h
  obtain ⟨fM, fdM, GM, mM, bM⟩ := L.must.ex
  obtain ⟨fP, fdP, GP, mP, bP⟩ := L.passes.ex
  obtain ⟨fW, fdW, GW, mW, bW⟩ := L.word.ex
  obtain ⟨fN, fdN, GN', mN, bN⟩ := L.name.ex
  have hr1 : Room 1 _ := hr.mono (by omega)
  have hr2 : Room 2 _ := hr.mono (by omega)
  have hr3 : Room 3 _ := hr.mono hn
  obtain ⟨dx, ei⟩ := h.ins
  have no : ∀ (A B : Addr) (i k : Nat), (rf A B i k).lookup ("must_pass" : Str) = none ∧ (rf A B i k).lookup ("word" : Str) = none ∧ (rf A B i k).lookup ("passes" : Str) = none ∧ (rf A B i k).lookup ("name" : Str) = none := fun A B i k =>
    ⟨rf_no _ _ _ _ (by decide +kernel), rf_no _ _ _ _ (by decide +kernel), rf_no _ _ _ _ (by decide +kernel), rf_no _ _ _ _ (by decide +kernel)⟩
  refine ⟨_, pss_cons (ps_expr (pe_meth (pv 0) T.cl mM GM hr3 bM .nil pass0 (pa_cons pe_str pa_nil)))
    (pss_cons (ps_set (i := 1) scArgs.nd rfl (Or.inl rfl) (pe_lst pa_nil))
    (C8.pss_cut (ps_if (pt_cmpR op_ne (pe_meth0 (pv 0) T.cl mW GW hr1 bW .nil pass0) pe_str (nomark _))
      (pss_cons (ps_expr (pe_bm PySem.F.plainAttrs_list PySem.F.slot_list_append PySem.F.type_list_append mt_append (pv 1) (pa_cons (pe_meth0 (pv 0) T.cl mN GN' hr3 bN .nil pass0) pa_nil)))
      (pss_one (ps_while PassesOwn.never (pt_val (pe_meth (pv 0) T.cl mP GP hr2 bP .nil pass0 (pa_cons pe_str pa_nil)))
        (pss_one (ps_expr (pe_bm PySem.F.plainAttrs_list PySem.F.slot_list_append PySem.F.type_list_append mt_append (pv 1) (pa_cons (pe_meth0 (pv 0) T.cl mN GN' hr3 bN .nil pass0) pa_nil))))))) pss_nil)
    (pss_cons (ps_if (pt_cmpR op_lt (ST.pe_lenS rfl B.len rfl hset (pv 1)) (pe_callB call_len_seq (by rfl) B.len PySem.boot_len (pa_cons (pv 1) pa_nil)) (nomark _)) pss_never pss_nil)
    (pss_cons (ps_expr (pe_meth (pv 0) T.cl mM GM hr3 bM .nil pass0 (pa_cons pe_str pa_nil)))
    (pss_one (ps_ret (pe_callTy call_tuple_of (by rfl) B.tup (by decide +kernel) (pa_cons (pv 1) pa_nil)))))))), ?_⟩
  obtain ⟨x1, hx1, ex1, ha2⟩ := ha.head
  obtain ⟨_, ew1⟩ := T3.of ex1
  refine ⟨_, rfl, R.r, dx, _, rfl, ei, (no _ _ _ _).1, R, _, k, ps, x1, _, rfl, h, hx1, ew1, fun H2 k2 h2 => ?_⟩
  refine ⟨Nat.zero_le _, fun p np => ?_⟩
  have a3 := LstAt.new h2 np
  generalize upd H2 p (.lst []) = H3 at a3
  refine ⟨fun σ H' => ∃ vs5 : List V, σ = [some (.ref R.r), some (.ref p)] ∧ LstAt K C R H2 H' p vs5 (xs.map PyData.str) (i + 1 + (tkNs xs).length) k ps, ?_, ?_⟩
  · obtain ⟨dx3, ei3⟩ := a3.rd.ins
    rcases tkNs_tail xs with ⟨rfl, _⟩ | ⟨e, es', ts, rfl, tl, et⟩
    · obtain ⟨x4, hx4, ex4, _⟩ := At.head (l := rest) ha2
      obtain ⟨_, ew4⟩ := T3.of ex4
      refine ⟨_, rfl, R.r, dx3, _, rfl, ei3, (no _ _ _ _).2.1, R, _, k, ps, x4, rfl, a3.rd, hx4, rfl, _, rfl, ?_⟩
      rw [ew4, show decide (V.str ")" = V.str ")") = true by decide +kernel]
      refine iteF ?_
      exact ⟨[], rfl, a3⟩
    · rw [et] at ha2 ⊢
      obtain ⟨x4, hx4, ex4, ha4⟩ := At.head (l := ts ++ kM ")" :: rest) ha2
      obtain ⟨ek4, ew4⟩ := T3.of ex4
      have hnb : e ≠ ")" := fun z => by
        have q9 := hw e List.mem_cons_self
        rw [z] at q9
        revert q9
        decide +kernel
      refine ⟨_, rfl, R.r, dx3, _, rfl, ei3, (no _ _ _ _).2.1, R, _, k, ps, x4, rfl, a3.rd, hx4, rfl, _, rfl, ?_⟩
      rw [ew4, dec_strs, decide_eq_false hnb]
      refine iteT ?_
      refine ⟨_, rfl, .inl ⟨rfl, _, SqL.of a3.lp⟩, _, rfl, R.r, dx3, _, rfl, ei3, (no _ _ _ _).2.2.2, R, _, k, ps, x4, rfl, a3.rd, hx4, ek4, fun H4 k4 h4 => ?_⟩
      rw [ew4]
      have a4 := a3.call k4 h4
      refine ⟨p, _, _, rfl, rfl, a4.lp, (by show 0 < sizeLine; decide), ?_⟩
      have a5 := a4.push (Dp.str e) rfl
      refine ⟨fun m σ H' => ∃ (j : Nat) (done es2 : List Str) (ts2 : List Tk) (vs2 : List V), m = es2.length ∧ σ = [some (.ref R.r), some (.ref p)] ∧ LstAt K C R H2 H' p vs2 (done.map PyData.str) j k ps ∧ done ++ es2 = e :: es' ∧ NTail es2 ts2 ∧ At R j (ts2 ++ kM ")" :: rest) ∧ j + ts2.length = i + 1 + (kN e :: ts).length,
        ⟨_, _, [e], es', ts, _, rfl, rfl, a5, rfl, tl, ha4, by rw [List.length_cons]; omega⟩, ?_⟩
      rintro m σ H6 ⟨j, done, es2, ts2, vs2, rfl, rfl, a6, hdn, tl2, ha6, el⟩
      obtain ⟨dx6, ei6⟩ := a6.rd.ins
      cases tl2 with
      | nil =>
        obtain ⟨x7, hx7, ex7, _⟩ := At.head (l := rest) ha6
        obtain ⟨_, ew7⟩ := T3.of ex7
        refine ⟨_, rfl, R.r, dx6, _, rfl, ei6, (no _ _ _ _).2.2.1, R, j, k, ps, x7, _, rfl, a6.rd, hx7, fun c => ?_, fun _ => ⟨false, rfl, iteF ?_⟩⟩
        · rw [ew7] at c
          exact absurd c (by decide +kernel)
        · rw [List.append_nil] at hdn
          subst hdn
          have ej : j = i + 1 + (kN e :: ts).length := by simpa using el
          rw [← ej]
          exact ⟨vs2, rfl, a6⟩
      | @cons e2 es3 ts3 tl3 =>
        obtain ⟨x7, hx7, ex7, ha7⟩ := At.head (l := kN e2 :: (ts3 ++ kM ")" :: rest)) ha6
        obtain ⟨_, ew7⟩ := T3.of ex7
        obtain ⟨x8, hx8, ex8, ha8⟩ := ha7.head
        obtain ⟨ek8, ew8⟩ := T3.of ex8
        refine ⟨_, rfl, R.r, dx6, _, rfl, ei6, (no _ _ _ _).2.2.1, R, j, k, ps, x7, _, rfl, a6.rd, hx7, fun _ H7 k7 h7 => ?_, fun c => absurd ew7 c⟩
        refine ⟨true, rfl, iteT ?_⟩
        have a7 := a6.call k7 h7
        obtain ⟨dx7, ei7⟩ := h7.ins
        refine ⟨_, fun σ' H' hN => hN, ?_⟩
        refine ⟨_, rfl, .inl ⟨rfl, _, SqL.of a7.lp⟩, _, rfl, R.r, dx7, _, rfl, ei7, (no _ _ _ _).2.2.2, R, _, k, ps, x8, rfl, h7, hx8, ek8, fun H8 k8 h8 => ?_⟩
        rw [ew8]
        have a8 := a7.call k8 h8
        have hln : vs2.length ≤ 100 := by
          rw [DpAll.length a6.dd, List.length_map]
          have z : (done ++ e2 :: es3).length = (e :: es').length := by rw [hdn]
          rw [List.length_append, List.length_cons] at z
          omega
        refine ⟨p, _, _, rfl, rfl, a8.lp, Nat.lt_of_le_of_lt hln (by decide), ?_⟩
        refine ⟨es3.length, by show es3.length < (e2 :: es3).length; rw [List.length_cons]; omega, _, done ++ [e2], es3, ts3, _, rfl, rfl, by rw [List.map_append]; exact a8.push (Dp.str e2) rfl, by rw [List.append_assoc]; exact hdn, tl3, ha8, ?_⟩
        rw [List.length_cons, List.length_cons] at el
        omega
  · rintro σ H5 ⟨vs5, rfl, a5⟩
    have ev := strs_data a5.dd
    subst ev
    have lp5 := a5.lp
    refine ⟨_, rfl, p, xs, rfl, SqL.of a5.lp, hnd, by omega, _, rfl, p, _, rfl, .inl (SqL.of a5.lp), _, _, rfl, rfl, _, rfl, ?_⟩
    rw [decide_eq_false (by rw [List.length_map]; omega)]
    refine iteF ?_
    have ha5 := At.app ha2
    obtain ⟨x6, hx6, ex6, _⟩ := ha5.head
    obtain ⟨_, ew6⟩ := T3.of ex6
    obtain ⟨dx5, ei5⟩ := a5.rd.ins
    refine ⟨_, rfl, R.r, dx5, _, rfl, ei5, (no _ _ _ _).1, R, _, k, ps, x6, _, rfl, a5.rd, hx6, ew6, fun H6 k6 h6 => ?_⟩
    have a6 := a5.call k6 h6
    refine ⟨_, rfl, p, _, rfl, .inl ⟨SqL.of a6.lp, fun l nl => ?_⟩⟩
    exact q _ _ (k2.trans (a6.keep.trans (KeepR.new nl _))) (h6.same (same_new nl _)) (Dp.new nl a6.dd)
end
end KD

/-! The reader's definitions, whole programs, reading. -/
namespace KD
open PySem L2 TL
open K0 (num Toks)
theorem tupD_F (f : Df) : tupD f.d = true := by
  show (true && (tupDs (f.args.map PyData.str) && (tupDs (dB f.body) && true))) = true
  rw [tupDs_str, tupD_B]
  rfl
theorem tupDs_F : ∀ fs : List Df, tupDs (fs.map Df.d) = true
  | [] => rfl
  | f :: fs => by
    show (tupD f.d && tupDs (fs.map Df.d)) = true
    rw [tupD_F, tupDs_F fs]
    rfl
/-- words of a definition behind its def -/
def tkDef (f : Df) (t : List Tk) : List Tk := kN f.name :: kM "(" :: (tkNs f.args ++ kM ")" :: kM "{" :: (t ++ [kM "}"]))
def spDef (K : PySem.W.Frag) (C : Addr) : Sp := fun vs H Q _ => ∃ (R : Rd) (i k : Nat) (ps : List Nat) (f : Df) (t rest : List Tk), vs = [.ref R.r] ∧ RdAt K C R H i k ps ∧ At R i (tkDef f t ++ rest) ∧ GB 3 f.body t ∧ wfD f ∧ f.args.Nodup ∧ k + 14 ≤ 40 ∧ ps.length ≤ i ∧
  ∀ H' v, KeepR R H H' → RdAt K C R H' (i + (tkDef f t).length) k (ps ++ hdP R i (tkDef f t).length) → Dp K H' v f.d → Q v H'
section
variable {P : Program} {w : World} {K : PySem.W.Frag} {mg : Str → Option Value} {base : Heap} {C : Addr}
theorem scDef : FnScope ["self", "name", "arguments"] ["self"] (defScope S_Reader_definition) := ⟨rfl, rfl, rfl, by decide +kernel, rfl, by decide +kernel, by decide +kernel⟩
theorem ok_def {n : Nat} {f : Addr} {fd : FuncData} (F : Fun K "definition" "Reader.definition" S_Reader_definition f fd) (T : RTxt K mg C) (L : RLow P w K mg base C) (hA : Mth P w K mg base C n "arguments" ["self"] (spArgs K C)) (hB : Mth P w K mg base C n "block" ["self"] (spBlk K C 4)) (hn : 3 ≤ n) : FnOk P w K mg base CX0 (n + 1) f fd ["self"] (spDef K C) := by
  refine F.ok scDef (fun vs H Q E h => ?_) (fun cdv A outer s0 H vs Q E hr h => ?_)
  · obtain ⟨R, i, k, ps, d, t, rest, rfl, _⟩ := h
    rfl
  obtain ⟨R, i, k, ps, d, t, rest, rfl, h, ha, hg, hw, hnd, hk, hp, q⟩ := h
  obtain ⟨fA, fdA, GA, mA, bA⟩ := hA.ex
  obtain ⟨fB, fdB, GB', mB, bB⟩ := hB.ex
  obtain ⟨fN, fdN, GN', mN, bN⟩ := L.name.ex
  have hr3 : Room 3 _ := hr.mono hn
  obtain ⟨dx, ei⟩ := h.ins
  refine ⟨_, pss_cons (ps_set (i := 1) scDef.nd rfl (Or.inl rfl) (pe_meth0 (pv 0) T.cl mN GN' hr3 bN .nil pass0))
    (pss_cons (ps_set (i := 2) scDef.nd rfl (Or.inl rfl) (pe_meth0 (pv 0) T.cl mA GA hr bA .nil pass0))
    (pss_one (ps_ret (pe_tup (pa_cons (pv 1) (pa_cons (pv 2) (pa_cons (pe_meth0 (pv 0) T.cl mB GB' hr bB .nil pass0) pa_nil))))))), ?_⟩
  have ha0 : At R i (kN d.name :: kM "(" :: (tkNs d.args ++ kM ")" :: kM "{" :: (t ++ kM "}" :: rest))) := by
    have e : tkDef d t ++ rest = kN d.name :: kM "(" :: (tkNs d.args ++ kM ")" :: kM "{" :: (t ++ kM "}" :: rest)) := by simp [tkDef]
    rw [← e]
    exact ha
  obtain ⟨x0, hx0, ex0, ha1⟩ := ha0.head
  obtain ⟨ek0, ew0⟩ := T3.of ex0
  have ha2 : At R (i + 1 + 1 + (tkNs d.args).length + 1) (kM "{" :: (t ++ kM "}" :: rest)) := by
    obtain ⟨_, _, _, z⟩ := ha1.head
    have z2 := At.app z
    obtain ⟨_, _, _, z3⟩ := z2.head
    exact z3
  refine ⟨_, rfl, R.r, dx, _, rfl, ei, rf_no _ _ _ _ (by decide +kernel), R, i, k, ps, x0, rfl, h, hx0, ek0, fun H1 k1 h1 => ?_⟩
  rw [ew0]
  obtain ⟨dx1, ei1⟩ := h1.ins
  refine ⟨_, rfl, R.r, dx1, _, rfl, ei1, rf_no _ _ _ _ (by decide +kernel), R, _, k, ps, d.args, _, rfl, h1, ha1, hw.args, hnd, hw.alen, fun H2 va k2 h2 d2 => ?_⟩
  obtain ⟨dx2, ei2⟩ := h2.ins
  refine ⟨_, rfl, _, rfl, _, rfl, R.r, dx2, _, rfl, ei2, rf_no _ _ _ _ (by decide +kernel), R, _, k, ps, 3, d.body, t, rest, rfl, rfl, h2, ha2, hg, hw.body, by omega, by omega, fun H3 vb k3 h3 d3 => ?_⟩
  refine ⟨(by show 3 ≤ sizeLine; decide), fun p np => ?_⟩
  have s4 := same_new np (.tup [.str d.name, va, vb])
  have da : Dp K H3 va (.tuple (d.args.map .str)) := Dp.kt (k3.kt h2) (by show tupDs _ = true; exact tupDs_str _) d2
  refine q _ _ ((k1.trans (k2.trans k3)).trans (KeepR.same s4)) ?_ (Dp.new np (.cons (.str d.name) (.cons da (.cons d3 .nil))))
  have el : (tkDef d t).length = (1 + 1 + (tkNs d.args).length + 1) + (1 + t.length + 1) := by
    simp only [tkDef, List.length_append, List.length_cons, List.length_nil]
    omega
  have hno : ∀ w ∈ kN d.name :: kM "(" :: (tkNs d.args ++ [kM ")"]), w.2 ∉ stW := fun w hm => by
    simp only [List.mem_cons, List.mem_append, List.not_mem_nil, or_false] at hm
    rcases hm with e1 | e1 | e1 | e1
    · rw [e1]; exact nameW_st hw.nm
    · rw [e1]; decide +kernel
    · exact tkNs_noSt hw.args w e1
    · rw [e1]; decide +kernel
  have ha0' : At R i ((kN d.name :: kM "(" :: (tkNs d.args ++ [kM ")"])) ++ (kM "{" :: (t ++ kM "}" :: rest))) := by
    have e1 : kN d.name :: kM "(" :: (tkNs d.args ++ kM ")" :: kM "{" :: (t ++ kM "}" :: rest)) = (kN d.name :: kM "(" :: (tkNs d.args ++ [kM ")"])) ++ (kM "{" :: (t ++ kM "}" :: rest)) := by simp
    rw [← e1]
    exact ha0
  have pl0 := hdP_none ha0' hno
  rw [show (kN d.name :: kM "(" :: (tkNs d.args ++ [kM ")"])).length = 1 + 1 + (tkNs d.args).length + 1 by simp only [List.length_append, List.length_cons, List.length_nil]; omega] at pl0
  rw [el, hdP_add, pl0, List.nil_append, ← Nat.add_assoc i, show i + (1 + 1 + (tkNs d.args).length + 1) = i + 1 + 1 + (tkNs d.args).length + 1 by omega]
  exact h3.same s4
theorem KT.oth {H : Hp} {d : Addr} {kvs : List (Key × V)} (h : H d = some (.dK kvs)) (o : HO) : KT K H (L2.upd H d o) := fun a xs q => by
  rcases q with (q | ⟨u, q⟩) | q
  · exact .inl (.inl (by rw [upd_ne (ne_of q h (by intro z; cases z))]; exact q))
  · exact .inl (.inr ⟨u, by rw [upd_ne (ne_of q h (by intro z; cases z))]; exact q⟩)
  · exact .inr q
theorem LstAt.oth {R : Rd} {H0 H : Hp} {p d : Addr} {vs : List V} {ds : List PyData} {j k : Nat} {ps : List Nat} {kvs : List (Key × V)} (a : LstAt K C R H0 H p vs ds j k ps) (hd : H d = some (.dK kvs)) (fr : H0 d = none) (kvs' : List (Key × V)) : LstAt K C R H0 (upd H d (.dK kvs')) p vs ds j k ps := by
  obtain ⟨dx, e⟩ := a.rd.ins
  have n1 : d ≠ R.r := ne_of hd e (by intro z; cases z)
  have n2 : d ≠ R.tA := ne_of hd a.rd.told (by intro z; cases z)
  have n3 : d ≠ R.pA := ne_of hd a.rd.plc (by intro z; cases z)
  have n4 : d ≠ p := ne_of hd a.lp (by intro z; cases z)
  have kt : KT K H (upd H d (.dK kvs')) := KT.oth hd _
  refine ⟨fun b u m1 m2 q => ?_, ⟨⟨dx, by rw [upd_ne n1.symm]; exact e⟩, by rw [upd_ne n2.symm]; exact a.rd.told, DpAll.kt kt (tupDs_T3 _) a.rd.dd, by rw [upd_ne n3.symm]; exact a.rd.plc, a.rd.ne, a.rd.small⟩, by rw [upd_ne n4.symm]; exact a.lp, DpAll.kt kt a.td a.dd, a.td, a.n1, a.n2, a.n3, a.free⟩
  rw [upd_ne (ne_of_none q fr)]
  exact a.keep b u m1 m2 q
def spProg (K : PySem.W.Frag) (C : Addr) : Sp := fun vs H Q _ => ∃ (R : Rd) (p : Pr) (t u : List Tk), vs = [.ref R.r] ∧ RdAt K C R H 0 0 [] ∧ At R 0 (t ++ u ++ [endT]) ∧ GD 3 p.defs t ∧ GB 3 p.body u ∧ wfP p ∧ (p.defs.map Df.name).Nodup ∧ (∀ f ∈ p.defs, f.args.Nodup) ∧
  ∀ H' v, KeepR R H H' → Dp K H' v p.d → RdAt K C R H' (t ++ u).length 0 (hdP R 0 (t ++ u).length) → Q v H'
theorem GD.len : ∀ {d : Nat} {fs : List Df} {t : List Tk}, GD d fs t → fs.length ≤ t.length
  | _, _, _, .nil => Nat.le_refl _
  | _, _, _, .cons h r => by
    have q := GD.len r
    simp only [List.length_append, List.length_cons]
    omega
/-- the first word of a row of definitions -/
theorem GD.split {d : Nat} {f : Df} {fs : List Df} {t : List Tk} (h : GD d (f :: fs) t) : ∃ tb ts, GB d f.body tb ∧ GD d fs ts ∧ t = kK "def" :: (tkDef f tb ++ ts) := by
  cases h with
  | cons h1 h2 => exact ⟨_, _, h1, h2, by simp [tkDef]⟩
theorem GB.nodef {d : Nat} {b : List St} {t : List Tk} (h : GB d b t) {u0 : Tk} {us : List Tk} (eu : t ++ endT :: [] = u0 :: us) : u0.2 ≠ "def" := by
  cases h with
  | nil =>
    have e0 : u0 = endT := by
      injection eu with q1 _
      exact q1.symm
    rw [e0]
    decide +kernel
  | cons hs _ =>
    obtain ⟨z, ts, rfl, hz⟩ := hs.first
    have e0 : u0 = kK z := by
      injection eu with q1 _
      exact q1.symm
    rw [e0]
    intro q
    have q2 : z = "def" := q
    rw [q2] at hz
    exact absurd hz (by decide +kernel)
theorem ok_prog {n : Nat} {f : Addr} {fd : FuncData} (F : Fun K "program" "Reader.program" S_Reader_program f fd) (B : Blt mg) (T : RTxt K mg C) (L : RLow P w K mg base C) (hS : Mth P w K mg base C n "statements" ["self"] (spSts K C 3)) (hD : Mth P w K mg base C n "definition" ["self"] (spDef K C)) (hn : 2 ≤ n) : FnOk P w K mg base CX0 (n + 1) f fd ["self"] (spProg K C) := by
  refine F.ok scProg (fun vs H Q E h => ?_) (fun cdv A outer s0 H vs Q E hr h => ?_)
  · obtain ⟨R, p, t, u, rfl, _⟩ := h
    rfl
  obtain ⟨R, pr, t, u, rfl, h, ha, hgd, hgb, hw, hnd, han, q⟩ := h
  obtain ⟨fS, fdS, GS', mS, bS⟩ := hS.ex
  obtain ⟨fD, fdD, GD', mD, bD⟩ := hD.ex
  obtain ⟨fP, fdP, GP', mP, bP⟩ := L.passes.ex
  obtain ⟨fK, fdK, GK, mK, bK⟩ := L.kind.ex
  obtain ⟨fW, fdW, GW, mW, bW⟩ := L.word.ex
  have hr1 : Room 1 _ := hr.mono (by omega)
  have hr2 : Room 2 _ := hr.mono hn
  have hu := hu_of hr
  refine ⟨_, pss_cons (ps_set (i := 1) scProg.nd rfl (Or.inl rfl) (pe_lst pa_nil))
    (pss_cons (ps_set (i := 2) scProg.nd rfl (Or.inl rfl) pe_dnewK)
    (pss_cons (ps_while PassesOwn.never (pt_val (pe_meth (pv 0) T.cl mP GP' hr2 bP .nil pass0 (pa_cons pe_str pa_nil)))
      (pss_cons (ps_if (pt_cmp (pc_din hu (pe_meth0 (pv 0) T.cl mW GW hr1 bW .nil pass0) (pv 2))) pss_never pss_nil)
      (pss_cons (ps_set (i := 3) scProg.nd rfl (Or.inl rfl) (pe_meth0 (pv 0) T.cl mD GD' hr bD .nil pass0))
      (pss_cons (ps_dput hu (pv 2) (pe_ix ix_tup (pv 3) pe_int (fun _ _ => rfl)) pe_bl rfl)
      (pss_one (ps_expr (pe_bm PySem.F.plainAttrs_list PySem.F.slot_list_append PySem.F.type_list_append mt_append (pv 1) (pa_cons (pv 3) pa_nil))))))))
    (pss_cons (ps_set (i := 4) scProg.nd rfl (Or.inl rfl) (pe_meth0 (pv 0) T.cl mS GS' hr bS .nil pass0))
    (pss_cons (ps_if (pt_cmpR op_ne (pe_meth0 (pv 0) T.cl mK GK hr1 bK .nil pass0) pe_str (nomark _)) pss_never pss_nil)
    (pss_one (ps_ret (pe_tup (pa_cons (pe_callTy call_tuple_of (by rfl) B.tup (by decide +kernel) (pa_cons (pv 1) pa_nil)) (pa_cons (pv 4) pa_nil))))))))), ?_⟩
  refine ⟨Nat.zero_le _, fun p np => ?_⟩
  have a1 := LstAt.new h np
  have nd0 : ∀ {d : Addr}, upd H p (.lst []) d = none → H d = none := fun {d} e => by
    by_cases c : d = p
    · rw [c, upd_same] at e; cases e
    · rw [upd_ne c] at e; exact e
  intro d nd
  have frd := nd0 nd
  generalize upd H p (.lst []) = H1 at a1 nd
  have a2 := a1.call (KeepR.new nd (.dK [])) (a1.rd.same (same_new nd _))
  have hd2 : (upd H1 d (.dK [])) d = some (.dK []) := upd_same
  generalize upd H1 d (.dK []) = H2 at a2 hd2
  have few : pr.defs.length ≤ 100002 := Nat.le_trans hgd.len (by rw [List.append_assoc] at ha; exact Nat.le_trans ha.len h.small)
  refine ⟨fun m σ H' => ∃ (j : Nat) (done fs : List Df) (t2 : List Tk) (vs2 : List V) (kvs : List (Key × V)) (v3 : Option V), m = fs.length ∧ σ = [some (.ref R.r), some (.ref p), some (.ref d), v3, none] ∧ LstAt K C R H H' p vs2 (done.map Df.d) j 0 (hdP R 0 j) ∧ done ++ fs = pr.defs ∧ GD 3 fs t2 ∧ At R j (t2 ++ u ++ [endT]) ∧ j + t2.length = t.length ∧
      H' d = some (.dK kvs) ∧ kvs.length ≤ done.length ∧ (∀ z, z ∉ done.map Df.name → valV kvs (Sum.inr z) = none),
    ⟨_, 0, [], pr.defs, t, [], [], none, rfl, rfl, a2, rfl, hgd, ha, Nat.zero_add _, hd2, Nat.le_refl _, fun z _ => rfl⟩, ?_⟩
  rintro m σ H6 ⟨j, done, fs, t2, vs2, kvs, v3, rfl, rfl, a6, hdn, hg6, ha6, el, hd6, hk6, hz6⟩
  obtain ⟨dx6, ei6⟩ := a6.rd.ins
  cases fs with
  | nil =>
    have et : t2 = [] := by cases hg6; rfl
    subst et
    have ej : j = t.length := by simpa using el
    subst ej
    rw [List.append_nil] at hdn
    subst hdn
    have ha7 : At R t.length (u ++ [endT]) := ha6
    obtain ⟨u0, us, eu, hu0⟩ := hgb.fo endFo []
    obtain ⟨x, hx, ex, _⟩ := At.head (w := u0) (l := us) (by rw [← eu]; exact ha7)
    obtain ⟨_, ew⟩ := T3.of (a := u0.1) (b := u0.2) ex
    have nodef : x.w ≠ "def" := by rw [ew]; exact hgb.nodef eu
    refine ⟨_, rfl, R.r, dx6, _, rfl, ei6, rf_no _ _ _ _ (by decide +kernel), R, _, 0, _, x, _, rfl, a6.rd, hx, fun c => absurd c nodef, fun _ => ⟨false, rfl, iteF ?_⟩⟩
    have hpl : (hdP R 0 t.length).length ≤ t.length := hdP_len _ _ _
    refine ⟨_, rfl, R.r, dx6, _, rfl, ei6, rf_no _ _ _ _ (by decide +kernel), R, _, 0, _, pr.body, u, endT, [], rfl, a6.rd, ha7, hgb, endFo, endSt, hw.body, by decide, hpl, fun H7 v k7 h7 d7 => ?_⟩
    obtain ⟨dx7, ei7⟩ := h7.ins
    have ha8 := At.app ha7
    obtain ⟨x8, hx8, ex8, _⟩ := ha8.head
    obtain ⟨ek8, _⟩ := T3.of ex8
    refine ⟨_, rfl, R.r, dx7, _, rfl, ei7, rf_no _ _ _ _ (by decide +kernel), R, _, 0, _, x8, rfl, h7, hx8, rfl, _, rfl, ?_⟩
    rw [ek8, decide_eq_true rfl]
    refine iteF ?_
    have a7 := a6.call k7 h7
    refine ⟨_, rfl, p, _, rfl, .inl ⟨SqL.of a7.lp, fun l nl => ?_⟩⟩
    have s8 := same_new nl (.tup vs2)
    have dt : Dp K (upd H7 l (.tup vs2)) (.ref l) (.tuple (pr.defs.map Df.d)) := Dp.new nl a7.dd
    have d8 := Dp.same s8 d7
    have h8 := h7.same s8
    refine ⟨_, rfl, (by show 2 ≤ sizeLine; decide), fun l2 nl2 => ?_⟩
    have s9 := same_new nl2 (.tup [.ref l, v])
    refine q _ _ ((a7.keep.trans (KeepR.same s8)).trans (KeepR.same s9)) (Dp.new nl2 (.cons dt (.cons d8 .nil))) ?_
    rw [List.length_append, hdP_add, Nat.zero_add]
    exact h8.same s9
  | cons f fs =>
    obtain ⟨tb, ts, hb6, hg7, rfl⟩ := hg6.split
    have e6 : kK "def" :: (tkDef f tb ++ ts) ++ u ++ [endT] = kK "def" :: (tkDef f tb ++ (ts ++ u ++ [endT])) := by simp
    rw [e6] at ha6
    obtain ⟨x, hx, ex, ha7⟩ := ha6.head
    obtain ⟨_, ew⟩ := T3.of ex
    have hf : f ∈ pr.defs := by rw [← hdn]; exact List.mem_append_right _ List.mem_cons_self
    have hwf := hw.defs f hf
    refine ⟨_, rfl, R.r, dx6, _, rfl, ei6, rf_no _ _ _ _ (by decide +kernel), R, j, 0, _, x, _, rfl, a6.rd, hx, fun _ H7 k7 h7 => ⟨true, rfl, iteT ?_⟩, fun c => absurd ew c⟩
    have a7 := a6.call k7 h7
    have hd7 : H7 d = some (.dK kvs) := k7 d _ (ne_of hd6 ei6 (by intro z; cases z)) (ne_of hd6 a6.rd.plc (by intro z; cases z)) hd6
    obtain ⟨dx7, ei7⟩ := h7.ins
    obtain ⟨x8, hx8, ex8, _⟩ := At.head (w := kN f.name) (l := kM "(" :: (tkNs f.args ++ kM ")" :: kM "{" :: (tb ++ [kM "}"])) ++ (ts ++ u ++ [endT])) (by exact ha7)
    obtain ⟨_, ew8⟩ := T3.of ex8
    have fresh : f.name ∉ done.map Df.name := by
      have q9 := hnd
      rw [← hdn, List.map_append, List.map_cons] at q9
      intro z
      exact (List.nodup_append.mp q9).2.2 _ z _ List.mem_cons_self rfl
    refine ⟨_, fun σ' H' hN => hN, ?_⟩
    refine ⟨_, rfl, R.r, dx7, _, rfl, ei7, rf_no _ _ _ _ (by decide +kernel), R, _, 0, _, x8, rfl, h7, hx8, ?_⟩
    rw [ew8]
    refine ⟨_, rfl, d, _, rfl, DGet.k (k := Sum.inr f.name) hd7, _, rfl, ?_⟩
    rw [hz6 _ fresh]
    refine iteF ?_
    have hpj : (hdP R 0 j).length ≤ j + 1 := Nat.le_trans (hdP_len _ _ _) (Nat.le_succ _)
    refine ⟨_, rfl, R.r, dx7, _, rfl, ei7, rf_no _ _ _ _ (by decide +kernel), R, _, 0, _, f, tb, _, rfl, h7, ha7, hb6, hwf, han f hf, by decide, hpj, fun H8 v k8 h8 d8 => ?_⟩
    have a8 := a7.call k8 h8
    obtain ⟨dx8, ei8⟩ := h8.ins
    have hd8 : H8 d = some (.dK kvs) := k8 d _ (ne_of hd7 ei7 (by intro z; cases z)) (ne_of hd7 h7.plc (by intro z; cases z)) hd7
    have d8' := d8
    obtain ⟨a9, v2, v3', rfl, hT9⟩ : ∃ (a9 : Addr) (v2 v3' : V), v = .ref a9 ∧ SqT K H8 a9 [.str f.name, v2, v3'] := by
      have q9 : Dp K H8 v (.tuple [.str f.name, .tuple (f.args.map .str), .tuple (dB f.body)]) := d8
      cases q9 with
      | tup h1 h2 =>
        cases h2 with
        | cons b1 h2 =>
          cases h2 with
          | cons b2 h2 =>
            cases h2 with
            | cons b3 h2 =>
              cases h2
              cases b1
              exact ⟨_, _, _, rfl, h1⟩
    have dl : done.length < 100002 := by
      have q9 : (done ++ f :: fs).length = pr.defs.length := by rw [hdn]
      rw [List.length_append, List.length_cons] at q9
      omega
    refine ⟨_, rfl, _, rfl, a9, _, _, _, rfl, rfl, hT9, rfl, d, _, rfl, DPut.k (k := Sum.inr f.name) hd8 (Nat.lt_of_le_of_lt (show kvs.length ≤ 100002 by omega) (by decide)), ?_⟩
    have fr8 := frd
    have a9' := a8.oth hd8 fr8 (putK kvs (Sum.inr f.name) (.bl true))
    have d9 : Dp K (upd H8 d (.dK (putK kvs (Sum.inr f.name) (.bl true)))) (.ref a9) f.d := Dp.kt (KT.oth hd8 _) (tupD_F f) d8
    have hd9 : (upd H8 d (.dK (putK kvs (Sum.inr f.name) (.bl true)))) d = some (.dK (putK kvs (Sum.inr f.name) (.bl true))) := upd_same
    generalize upd H8 d (.dK (putK kvs (Sum.inr f.name) (.bl true))) = H9 at a9' d9 hd9
    have ln : vs2.length = done.length := by rw [DpAll.length a9'.dd, List.length_map]
    refine ⟨_, rfl, .inl ⟨rfl, _, SqL.of a9'.lp⟩, _, rfl, p, _, _, rfl, rfl, a9'.lp, Nat.lt_of_le_of_lt (show vs2.length ≤ 100002 by omega) (by decide), ?_⟩
    have a10 := a9'.push d9 (tupD_F f)
    have ndp : d ≠ p := ne_of hd9 a9'.lp (by intro z; cases z)
    refine ⟨fs.length, by show fs.length < (f :: fs).length; rw [List.length_cons]; omega, j + 1 + (tkDef f tb).length, done ++ [f], fs, ts, vs2 ++ [.ref a9], _, _, rfl, rfl, ?_, by rw [List.append_assoc]; exact hdn, hg7, ?_, ?_, by rw [upd_ne ndp]; exact hd9, ?_, ?_⟩
    · have e10 : hdP R 0 (j + 1 + (tkDef f tb).length) = hdP R 0 j ++ hdP R (j + 1) (tkDef f tb).length := by
        rw [hdP_add, hdP_add, Nat.zero_add, hdP_skip hx ew (by decide +kernel), List.append_nil, Nat.zero_add]
      rw [e10, List.map_append]
      exact a10
    · have z := At.app ha7
      rw [show ts ++ u ++ [endT] = ts ++ u ++ [endT] from rfl] at z
      exact z
    · rw [List.length_cons, List.length_append] at el
      omega
    · have z := length_putK kvs (Sum.inr f.name : Key) (.bl true)
      rw [List.length_append, List.length_singleton]
      omega
    · intro z hz
      rw [List.map_append, List.mem_append, not_or] at hz
      rw [valV_put, if_neg (fun e => hz.2 (by injection e with e; rw [e]; exact List.mem_cons_self))]
      exact hz6 z hz.1
end
end KD
namespace KD
open PySem L2 TL
open K0 (num Toks)
/-- what is asked of the program's reading -/
def spReadT (K : PySem.W.Frag) (PT : Addr) : Sp := fun vs H Q _ => ∃ (X : Str) (p : Pr), vs = [.str X] ∧ Rdb X p ∧ GN.Tab PT H ∧ ∀ H' v, Same H H' → Dp K H' v p.d → Q v H'
section
variable {P : Program} {w : World} {K : PySem.W.Frag} {mg : Str → Option Value} {base : Heap} {C : Addr}
theorem ok_read {n : Nat} {f fI PT : Addr} {fd fdI : FuncData} (F : Fun K "read" "read" S_read f fd) (T : RTxt K mg C) (MK : Mk K C fI) (GI : FnOk P w K mg base CX0 6 fI fdI ["self", "text"] (spInit K C PT)) (bI : Binds K fdI ["self", "text"] []) (hP : Mth P w K mg base C n "program" ["self"] (spProg K C)) (hn : 7 ≤ n) :
    FnOk P w K mg base CX0 (n + 1) f fd ["text"] (spReadT K PT) := by
  refine F.ok scRead (fun vs H Q E h => ?_) (fun cdv A outer s0 H vs Q E hr h => ?_)
  · obtain ⟨X, p, rfl, _⟩ := h
    rfl
  obtain ⟨X, p, rfl, hR, hT, q⟩ := h
  obtain ⟨fP, fdP, GP', mP, bP⟩ := hP.ex
  have hr7 : Room 7 _ := hr.mono hn
  refine ⟨_, pss_one (ps_ret (pe_meth0 (pe_make MK GI hr7 rfl T.mgC bI .nil pass0 (pa_cons (pv 0) pa_nil)) T.cl mP GP' hr bP .nil pass0)), ?_⟩
  refine ⟨_, rfl, fun x dx nx ndx nex => ?_⟩
  obtain ⟨ws, hws, t, u, g1, g2, rfl⟩ := hR.toks
  have s1 : Same H (upd (upd H dx (.own x)) x (.ins C dx [])) := fun b o e => by
    rw [upd_ne (ne_of_none e nx), upd_ne (ne_of_none e ndx)]
    exact e
  refine ⟨x, dx, X, _, rfl, upd_same, Nat.le_trans hR.len (by decide), hws, s1 _ _ hT, fun H2 R er k2 h2 e2 ntA npA _ => ?_⟩
  subst er
  obtain ⟨dx2, ei2⟩ := h2.ins
  have ha : At R 0 (t ++ u ++ [endT]) := by
    show (R.ts.drop 0).map T3.tk = _
    rw [List.drop_zero, e2]
    rfl
  refine ⟨rfl, R.r, dx2, _, rfl, ei2, rf_no _ _ _ _ (by decide +kernel), R, p, t, u, rfl, h2, ha, g1, g2, hR.wf, hR.nd, hR.an, fun H3 v k3 d3 _ => ?_⟩
  refine q H3 v (fun b o e => ?_) d3
  have n1 : b ≠ R.r := ne_of_none e nx
  have e1 := s1 _ _ e
  have n2 : b ≠ R.pA := ne_of_none e1 npA
  exact k3 _ _ n1 n2 (k2 _ _ n1 e1)
end
end KD

/-! A dict that the top has written, its keys texts: x in d, d.get(x, y). -/
namespace DW
open PySem PySem.Spec PyProof.Rows L2
/-- the dict at a is written, its keys are texts -/
def Is (K : PySem.W.Frag) (w : World) (a : Addr) : Prop := ∃ es n, K.lookup a = some ⟨.type "dict", none, .dict es n, #[]⟩ ∧ PySem.W.KeysLit w.params es.toList ∧ (a == sysModules) = false
/-- what it holds at z, if anything -/
def At (K : PySem.W.Frag) (a : Addr) (z : Str) (o : Option V) : Prop := ∃ r : Option Value, PySem.W.nsIn K a z = some r ∧ RelO o r
section
variable {X : Cx}
def rIn (K : PySem.W.Frag) (w : World) : R2 := fun x y H Q => ∃ (z : Str) (a : Addr) (o : Option V), x = .str z ∧ y = .ref a ∧ Is K w a ∧ At K a z o ∧ Q (.bl o.isSome) H
theorem op_in : OpR X (compareOp .In) (rIn X.K X.w) := by
  intro pins s σ H x y v u Q I rx ry h
  obtain ⟨z, a, o, rfl, rfl, ⟨es, n, hl, hk, lo⟩, ⟨r, hz, ro⟩, q⟩ := h
  obtain ⟨t, rfl⟩ := rx
  cases ry
  have same : o.isSome = r.isSome := by
    cases o with
    | none => cases r with
      | none => rfl
      | some _ => exact (show False from ro).elim
    | some _ => cases r with
      | none => exact (show False from ro).elim
      | some _ => rfl
  refine wpAny_in_of (strKind_is X.prog X.w z t) lo (PySem.W.mapOf_K (prog := X.prog) (w := X.w) I.kIn hl hk) ?_
  rw [PySem.W.find_K hl hz, ← same]
  exact ⟨.bl o.isSome, H, I.tok _, rfl, q⟩
variable {o e f : Expr} {apos cpos : Pos} {td ty tx : TE}
def tGet (K : PySem.W.Frag) (w : World) (td ty tx : TE) : TE := fun σ H Q => td σ H fun x H1 => ∃ a, x = .ref a ∧ Is K w a ∧ ty σ H1 fun y H2 => tx σ H2 fun d H3 => ∃ (z : Str) (r : Option V), y = .str z ∧ At K a z r ∧ Q (r.getD d) H3
theorem pe_get (ho : PE X o td) (he : PE X e ty) (hf : PE X f tx) (m : M2 X o "get" apos e f cpos) : PE X (.Call (.Attribute o "get" apos) [e, f] [] cpos) (tGet X.K X.w td ty tx) := by
  constructor
  intro pins s σ H Q I h
  refine wpAny_Call_method m.base m.few m.line PySem.F.plainAttrs_dict PySem.F.slot_dict_get PySem.F.type_dict_get (thn (ho.run pins s σ H _ I h) ?_)
  rintro u s1 ⟨x, H1, J, rx, a, rfl, ⟨es, n, hl, hk, lo⟩, q1⟩
  cases rx
  have at1 := J.kIn _ _ hl
  refine ⟨⟨_, at1, rfl⟩, fun b eb => ?_, ?_⟩
  · cases eb
    exact ⟨_, at1, rfl⟩
  rw [m.trees]
  refine Calls.callWith_builtin rfl (Calls.evalArgs_plain (Calls.spliced_cons (thn (he.run pins s1 σ H1 _ J q1) ?_)))
  rintro iv s2 ⟨y, H2, J2, ry, q2⟩
  refine Calls.spliced_cons (thn (hf.run pins s2 σ H2 _ J2 q2) ?_)
  rintro fv s3 ⟨d, H3, J3, rd, z, r, rfl, ⟨rv, hz, ro⟩, q3⟩
  obtain ⟨t, rfl⟩ := ry
  refine Calls.spliced_nil ?_
  have mp := PySem.W.mapOf_K (prog := X.prog) (w := X.w) J3.kIn hl hk
  refine call_meetsIn PySem.F.slot_dict_get mp.typeIs PySem.F.entry_dict_get (PySem.F.args_dict_get_3 _ _ _) (meets_dict_get_default (strKind X.prog X.w) a (strKind_is X.prog X.w z t) lo fv) ⟨_, mp, ?_⟩
  refine ⟨r.getD d, H3, J3.tok _, ?_, q3⟩
  rw [PySem.W.find_K hl hz]
  cases r with
  | none =>
    cases rv with
    | none => exact rd
    | some _ => exact (show False from ro).elim
  | some _ =>
    cases rv with
    | none => exact (show False from ro).elim
    | some _ => exact ro
end
end DW
namespace KD
open PySem L2 TL
theorem kdct {K : PySem.W.Frag} {w : World} {a : Addr} {z : Str} {v : V} (h : DW.Is K w a) (k : DW.At K a z (some v)) : KDct K w a z v := by
  obtain ⟨es, n, h1, h2, _⟩ := h
  obtain ⟨r, h3, h4⟩ := k
  cases r with
  | none => exact (show False from h4).elim
  | some u => exact ⟨es, n, u, h1, h2, h3, h4⟩
theorem at0 {x : V} {xs : List V} : atI (x :: xs) 0 = some x := atI_nat (j := 0) rfl
end KD

/-! The end of a law whose program holds a generator expression in one def: its table, told by what always holds, and back. -/
namespace GN
open PySem PySem.Spec PyProof.Rows L2

/-- the table, empty as the top leaves it, is told by what always holds; at the end it is told as it stands -/
theorem untab {P0 : Program} {w : World} {K : PySem.W.Frag} {mg : Str → Option Value} {base : Heap} {k : Nat} {f PT : Addr} {fd : FuncData} {ps : List Str} {sp : Sp} (G : FnOk P0 w K mg base CX0 k f fd ps sp) :
    FnOk P0 w K mg base CX0 k f fd ps (fun vs H Q E => H PT = some (.tbl #[]) ∧ sp vs (upd H PT (.ext (TabI PT))) (fun v H' => Tab PT H' ∧ ∀ H'', Q v H'') E) := by
  refine ⟨fun vs H Q E h => G.len _ _ _ _ h.2, fun A outer s H args us vs Q E hr e0 hb hv h => ?_⟩
  obtain ⟨hP, h⟩ := h
  have away : ∀ {b : Addr}, H b = none → b ≠ PT := fun n z => by rw [z, hP] at n; cases n
  have same : ∀ {b : Addr}, b ≠ PT → upd H PT (.ext (TabI PT)) b = H b := fun n => upd_ne n
  have none1 : ∀ {b : Addr}, H b = none → upd H PT (.ext (TabI PT)) b = none := fun n => by rw [same (away n)]; exact n
  have ePT := e0.hok PT _ hP
  have hok1 : HOk P0 w (upd H PT (.ext (TabI PT))) s.heap := fun b u q => by
    by_cases z : b = PT
    · subst z
      rw [upd_same] at q
      cases q
      exact TabI.okX ⟨#[], ePT, trivial⟩
    · rw [same z] at q
      refine (e0.hok b u q).stay (fun _ _ _ e => e) (fun d e => ?_) (fun d xs e => ?_)
      · rw [same (fun y => by rw [y, hP] at e; cases e)]; exact e
      · rw [same (fun y => by rw [y, hP] at e; cases e)]; exact e
  have e1 : Env0 P0 w K mg base A outer s (upd H PT (.ext (TabI PT))) := ⟨e0.frames, e0.mod, fun b o e => ⟨(e0.bs b o e).1, none1 (e0.bs b o e).2⟩, e0.bsz, e0.funs, fun b m => none1 (e0.frf b m), hok1, e0.bare⟩
  refine codeAny_mono (G.run A outer s _ args us vs _ E hr e1 hb hv h) fun r s' z => ?_
  cases r with
  | error e => exact z
  | ok fl =>
    cases fl with
    | next => exact z
    | brk => exact z
    | cont => exact z
    | ret u =>
      obtain ⟨v, H', os, bare, un, hok, rv, hT, q⟩ := z
      obtain ⟨qs, eP, tr⟩ : TabI PT s'.heap := (hok PT _ hT).1
      have far : ∀ {b : Addr} {x : HO}, (∀ φ, x ≠ .ext φ) → H' b = some x → b ≠ PT := fun n e y => by
        rw [y, hT] at e
        exact n _ (Option.some.inj e).symm
      refine ⟨v, upd H' PT (.tbl qs), os, bare, ⟨fun b o e n => un.keep b o e (none1 n), fun b o e n => un.slot b o e (none1 n), fun b o e n m => ?_, un.there, fun b xs e => ?_, fun b o x e => ?_, fun b ts e => ?_⟩, fun b x e => ?_, rv, q _⟩
      · rw [upd_ne (away n)]
        exact un.free b o e (none1 n) m
      · have nb : b ≠ PT := fun y => by rw [y, hP] at e; cases e
        rw [upd_ne nb]
        exact un.tups b xs (by rw [same nb]; exact e)
      · have nb : b ≠ PT := fun y => by rw [y, hP] at e; cases e
        rw [upd_ne nb]
        exact un.frzs b o x (by rw [same nb]; exact e)
      · by_cases y : b = PT
        · subst y
          rw [hP] at e
          cases e
          exact ⟨qs, by rw [upd_same, Array.empty_append]⟩
        · rw [upd_ne y]
          exact un.tbls b ts (by rw [same y]; exact e)
      · by_cases y : b = PT
        · subst y
          rw [upd_same] at e
          cases e
          exact eP
        · rw [upd_ne y] at e
          refine (hok b x e).stay (fun _ _ _ e => e) (fun d e => ?_) (fun d xs e => ?_)
          · rw [upd_ne (far (fun φ y => by cases y) e)]; exact e
          · rw [upd_ne (far (fun φ y => by cases y) e)]; exact e
/-- what the head tells of the def nm: its code object and its empty table -/
def TabOf (mg : Str → Option Value) (nm : Str) (h : Heap) (c PT : Addr) : Prop := ∃ (a : Addr) (o : Obj) (fd : FuncData), mg nm = some (.ref a) ∧ h.get? a = some o ∧ o.data = .func fd ∧ fd.code = .ref c ∧ PySem.W.CodeHd h c PT ∧ h.get? PT = some { cls := .none, data := .fields #[] }
theorem TabOf.of {K : PySem.W.Frag} {mg : Str → Option Value} {nm : Str} {h : Heap} {c PT c0 P0 f : Addr} {oc : Value} {od : Option Addr} {fd : FuncData} {sl : Array (Option Value)} {e : Value} {dd : Option Addr} {vs : Array Value} {sl2 : Array (Option Value)} (X : K.In h) (t : TabOf mg nm h c0 P0)
    (m : mg nm = some (.ref f)) (l : K.lookup f = some ⟨oc, od, .func fd, sl⟩) (hc : fd.code = .ref c) (lc : K.lookup c = some ⟨e, dd, .fields vs, sl2⟩) (hv : vs[11]? = some (.ref PT)) : PySem.W.CodeHd h c PT ∧ h.get? PT = some { cls := .none, data := .fields #[] } := by
  obtain ⟨a, o, fd2, m2, e2, d2, c2, cd, eP⟩ := t
  rw [m] at m2
  cases m2
  have e3 := X _ _ l
  rw [e3] at e2
  cases e2
  cases d2
  rw [hc] at c2
  cases c2
  have e4 := X _ _ lc
  have cd2 := cd
  obtain ⟨o5, vs5, _, _, _, _, _, _, _, f1, _, f3, f4, _⟩ := cd
  rw [e4] at f1
  cases f1
  cases f3
  rw [hv] at f4
  cases f4
  exact ⟨cd2, eP⟩
theorem walk_tab {l : PySem.W.OpenLaw} {n k : Nat} {q : Program} {loose : List Str} {XP : (Str → Option Value) → Heap → Prop} {YP : World → Heap → Prop} {d : DefRec} {K : Params → PySem.W.Frag} {CX : World → CXT} {x nm : Str}
    (h1 : l.most = some n) (h2 : n ≤ sizeLine) (h3 : d.params.defaults = []) (h4 : Room k callerA) (named : ((recsOf q).any fun e => e.name == nm) = true) (toK : ∀ (w : World) (h : Heap), YP w h → (K w.params).In h)
    (F : ∀ (w : World) (mg : Str → Option Value) (fa : Addr) (h : Heap), (K w.params).In h → h.Ns mainGlobals mg → mg d.name = some (.ref fa) → (∃ c PT, TabOf mg nm h c PT) → LamX.LawAtS l w (K w.params) (CX w) k n x mg fa h)
    (quiet : ∀ (w : World) (H : Hp) (s : Shared) (e : Value) (s' : Shared), CX w [] H s (fun _ _ _ => False) e s' → False) :
    PySem.W.WalkO q loose XP YP l.row.toRowW d [] (fun f vs => PySem.call f vs) :=
  Att.attach_callB h1 h3 fun w s0 s1 mg mb fa _ _ _ _ a vs ns G Y _ _ _ hmg hobj hints hlen hbits hg => by
    have KX := toK w _ Y
    have tb : ∃ c PT, TabOf mg nm s1.heap c PT := by
      obtain ⟨r, hr, en⟩ := List.any_eq_true.mp named
      obtain ⟨b, o, fd, c, PT, m, e, dd, cc, ic, ta⟩ := G.T.tab r hr
      rw [beq_iff_eq.mp en] at m
      exact ⟨c, PT, b, o, fd, m, e, dd, cc, PySem.W.CodeHd.of ic ta, ta.2⟩
    obtain ⟨fd, cs, sp, tE, tN, tC, bs, asks, ok⟩ := F w mg fa _ KX G.T.g hmg tb
    exact LamX.law_callTs KX G.T.g G.T.b G.T.builtins G.T.nolimit hg tE tN tC G.T.bmain hobj hints (Nat.le_trans hlen h2) h4 ok bs (fun H hH hS => asks H a ns hlen hbits hH hS) fun H e s' => quiet w H s1 e s'
end GN

namespace KD
open PySem L2 TL
section
variable {P : Program} {w : World} {K : PySem.W.Frag} {mg : Str → Option Value} {base : Heap}
def spExpr (K : PySem.W.Frag) (n : Nat) : Sp := fun vs H Q _ => ∃ (r s q : Addr) (ns : List Str), vs = [.ref r, .ref q, .int ((n : Nat) : Int)] ∧ RowAt H r s ∧ Scr K H r s ∧ H q = some (.lst (ns.map V.str)) ∧ q ≠ r ∧ ns.length ≤ 100 ∧ nmsOk ns ∧
  ∀ (H' : Hp) (v : V) (e : Ex), Keep r H H' → RowAt H' r s → Dp K H' v e.d → okE ns e → dpE e ≤ n → Q v H'
theorem scExpr : FnScope ["row", "names", "deep", "kind", "one", "other", "mark"] ["row", "names", "deep"] (defScope S__law_expr) := ⟨rfl, rfl, rfl, by decide +kernel, rfl, by decide +kernel, by decide +kernel⟩
theorem ok_expr0 {f fT fP : Addr} {fd fdT fdP : FuncData} (F : Fun K "_law_expr" "_law_expr" S__law_expr f fd) (T : Blt mg)
    (GT : FnOk P w K mg base CX0 1 fT fdT ["row", "many"] (spTaken K)) (mT : mg "_law_taken" = some (.ref fT)) (kT : PySem.W.keepIn K (.ref fT) = true) (bT : Binds K fdT ["row", "many"] [])
    (GP : FnOk P w K mg base CX0 2 fP fdP ["row", "things"] (spPick K)) (mP : mg "_law_pick" = some (.ref fP)) (kP : PySem.W.keepIn K (.ref fP) = true) (bP : Binds K fdP ["row", "things"] []) :
    FnOk P w K mg base CX0 3 f fd ["row", "names", "deep"] (spExpr K 0) := by
  refine F.ok scExpr (fun vs H Q E h => ?_) (fun cdv A outer s0 H vs Q E hr h => ?_)
  · obtain ⟨r, s, q, ns, rfl, _⟩ := h
    rfl
  obtain ⟨r, s, q, ns, rfl, hR, hS, hq, hqr, hl, hN, k⟩ := h
  have hrT : Room 1 _ := hr.mono (by decide)
  have hrP : Room 2 _ := hr.mono (by decide)
  refine ⟨_, pss_cons (ps_set (i := 3) scExpr.nd rfl (Or.inl rfl) (pe_ifExp (pt_cmpR op_gt (pv 2) pe_int (nomark _)) (pe_call GT hrT rfl mT kT bT .nil pass0 (pa_cons (pv 0) (pa_cons pe_int pa_nil))) (pe_call GT hrT rfl mT kT bT .nil pass0 (pa_cons (pv 0) (pa_cons pe_int pa_nil)))))
    (C8.pss_cut (ps_if (PW.pt (pw_and (pt_cmpR op_eq (pv 3) pe_int (nomark _)) (pw_and1 (pt_cmpR (op_neD hr.units) (pv 1) (pe_lst pa_nil) (nomark _))))) (pss_one (ps_ret (pe_tup (pa_cons pe_str (pa_cons (pe_call GP hrP rfl mP kP bP .nil pass0 (pa_cons (pv 0) (pa_cons (pv 1) pa_nil))) pa_nil))))) pss_nil)
    (C8.pss_cut (ps_if (pt_cmpR op_eq (pv 3) pe_int (nomark _)) (pss_one (ps_ret (pe_tup (pa_cons (pe_call GP hrP rfl mP kP bP .nil pass0 (pa_cons (pv 0) (pa_cons (pe_lst (pa_cons pe_str (pa_cons pe_str pa_nil))) pa_nil))) pa_nil)))) pss_nil)
    (C8.pss_cut (ps_if (pt_cmpR op_lt (pv 3) pe_int (nomark _)) (pss_one (ps_ret (pe_tup (pa_cons pe_str (pa_cons (pe_call GP hrP rfl mP kP bP .nil pass0 (pa_cons (pv 0) (pa_cons (pe_lst (pa_cons pe_int (pa_cons pe_int (pa_cons pe_int (pa_cons pe_int (pa_cons pe_int (pa_cons pe_int (pa_cons pe_int (pa_cons pe_int (pa_cons pe_int (pa_cons pe_int pa_nil))))))))))) pa_nil))) pa_nil))))) pss_nil)
    pss_never))), ?_⟩
  refine ⟨_, rfl, _, _, rfl, rfl, _, rfl, ite2 (fun c => absurd (of_decide_eq_true c) (by decide)) (fun _ => ?_)⟩
  refine ⟨_, rfl, r, s, 3, rfl, hR, hS, by decide, by decide, fun H1 kd k1 R1 hk0 hk1 => ?_⟩

  have hq1 := k1 _ _ hqr hq
  have S1 := hS.mono k1
  -- if kind == 1 and names != []
  refine ⟨fun σ2 H2 => σ2 = [some (.ref r), some (.ref q), some (.int ((0 : Nat) : Int)), some (.int kd), none, none, none] ∧ Same H1 H2 ∧ RowAt H2 r s, ?_, ?_⟩
  · refine ⟨_, rfl, rfl, _, rfl, ite2 (fun c => ?_) (fun c => iteF ⟨rfl, Same.refl _, R1⟩)⟩
    refine ⟨_, rfl, Nat.zero_le _, fun p np => ⟨.list (ns.map .str), .list [], .lst (SqL.of (by rw [upd_ne (ne_of_none hq1 np)]; exact hq1)) (dp_strs ns), .lst (SqL.of upd_same) .nil, shaped_strs hN, rfl, _, rfl, ?_⟩⟩
    rw [eqv_nil]
    refine ite2 (fun c2 => ?_) (fun c2 => ⟨rfl, fun b o z => by rw [upd_ne (ne_of_none z np)]; exact z, R1.new np _⟩)
    have hne : 1 ≤ ns.length := by
      cases ns with
      | nil => exact absurd c2 (by decide)
      | cons x l => exact Nat.succ_le_succ (Nat.zero_le _)
    have R2 := R1.new np (.lst [])
    have kn := Keep.new (r := r) np (.lst [])
    refine ⟨_, rfl, _, rfl, r, s, _, rfl, R2, S1.mono kn, .inl ⟨q, _, rfl, hqr, kn _ _ hqr hq1, by rw [List.length_map]; exact hne, by rw [List.length_map]; omega, fun H3 v k3 R3 hv => ?_⟩⟩
    obtain ⟨x, rfl, hx⟩ := strs_mem hv
    refine ⟨(by show 2 ≤ sizeLine; decide), fun t nt => ?_⟩
    exact k _ _ (.name x) ((k1.trans kn).trans (k3.trans (Keep.new nt _))) (R3.new nt _) (Dp.new nt (.cons (.str _) (.cons (.str _) .nil))) hx (Nat.zero_le _)
  rintro σ2 H2 ⟨rfl, s2, R2⟩
  have k2 : Keep r H H2 := k1.trans fun b o _ z => s2 b o z
  have hq2 := k2 _ _ hqr hq
  have S2 := hS.mono k2
  -- if kind == 2
  refine ⟨fun σ3 H3 => σ3 = [some (.ref r), some (.ref q), some (.int ((0 : Nat) : Int)), some (.int kd), none, none, none] ∧ H2 = H3 ∧ kd ≠ 2, ?_, ?_⟩
  · refine ⟨_, rfl, rfl, _, rfl, ite2 (fun c => ?_) (fun c => ⟨rfl, rfl, fun z => c (decide_eq_true (by rw [z]))⟩)⟩
    refine ⟨_, rfl, (by show 2 ≤ sizeLine; decide), fun p np => ?_⟩
    have kn := Keep.new (r := r) np (.lst [.str "rows", .str "cols"])
    refine ⟨r, s, _, rfl, R2.new np _, S2.mono kn, .inl ⟨p, _, rfl, R2.ne np, upd_same, (by show 1 ≤ 2; decide), (by show 2 ≤ 1000; decide), fun H3 v k3 R3 hv => ?_⟩⟩
    refine ⟨(by show 1 ≤ sizeLine; decide), fun t nt => ?_⟩
    have k4 : Keep r H (upd H3 t (.tup [v])) := (k2.trans kn).trans (k3.trans (Keep.new nt _))
    simp only [List.mem_cons, List.not_mem_nil, or_false] at hv
    rcases hv with rfl | rfl
    · exact k _ _ .rows k4 (R3.new nt _) (Dp.new nt (.cons (.str _) .nil)) trivial (Nat.zero_le _)
    · exact k _ _ .cols k4 (R3.new nt _) (Dp.new nt (.cons (.str _) .nil)) trivial (Nat.zero_le _)
  rintro σ3 H3 ⟨rfl, rfl, n2⟩
  -- if kind < 4
  refine ⟨fun σ3 H3 => σ3 = [some (.ref r), some (.ref q), some (.int ((0 : Nat) : Int)), some (.int kd), none, none, none] ∧ H2 = H3 ∧ ¬ kd < 4, ?_, ?_⟩
  · refine ⟨_, rfl, _, _, rfl, rfl, _, rfl, ite2 (fun c => ?_) (fun c => ⟨rfl, rfl, of_decide_eq_false (Bool.eq_false_iff.mpr c)⟩)⟩
    refine ⟨_, rfl, (by show 10 ≤ sizeLine; decide), fun p np => ?_⟩
    have kn := Keep.new (r := r) np (.lst (numN.map fun n => V.int ((n : Nat) : Int)))
    refine ⟨r, s, _, rfl, R2.new np _, S2.mono kn, .inl ⟨p, numN.map fun n => V.int ((n : Nat) : Int), rfl, R2.ne np, upd_same, (by show 1 ≤ 10; decide), (by show 10 ≤ 1000; decide), fun H4 v k3 R3 hv => ?_⟩⟩
    obtain ⟨m, rfl, hm⟩ := num_mem hv
    refine ⟨(by show 2 ≤ sizeLine; decide), fun t nt => ?_⟩
    exact k _ _ (.num m) ((k2.trans kn).trans (k3.trans (Keep.new nt _))) (R3.new nt _) (Dp.new nt (.cons (.str _) (.cons (.int _) .nil))) hm (Nat.zero_le _)
  rintro σ4 H4 ⟨rfl, rfl, n4⟩
  omega
theorem ok_exprS {n : Nat} {f fT fP : Addr} {fd fdT fdP : FuncData} (F : Fun K "_law_expr" "_law_expr" S__law_expr f fd) (T : Blt mg)
    (GT : FnOk P w K mg base CX0 1 fT fdT ["row", "many"] (spTaken K)) (mT : mg "_law_taken" = some (.ref fT)) (kT : PySem.W.keepIn K (.ref fT) = true) (bT : Binds K fdT ["row", "many"] [])
    (GP : FnOk P w K mg base CX0 2 fP fdP ["row", "things"] (spPick K)) (mP : mg "_law_pick" = some (.ref fP)) (kP : PySem.W.keepIn K (.ref fP) = true) (bP : Binds K fdP ["row", "things"] [])
    (GE : FnOk P w K mg base CX0 (n + 3) f fd ["row", "names", "deep"] (spExpr K n)) (mE : mg "_law_expr" = some (.ref f)) (bE : Binds K fd ["row", "names", "deep"] []) :
    FnOk P w K mg base CX0 (n + 1 + 3) f fd ["row", "names", "deep"] (spExpr K (n + 1)) := by
  refine F.ok scExpr (fun vs H Q E h => ?_) (fun cdv A outer s0 H vs Q E hr h => ?_)
  · obtain ⟨r, s, q, ns, rfl, _⟩ := h
    rfl
  obtain ⟨r, s, q, ns, rfl, hR, hS, hq, hqr, hl, hN, k⟩ := h
  have hrT : Room 1 _ := hr.mono (by omega)
  have hrP : Room 2 _ := hr.mono (by omega)
  have kE := F.kp
  refine ⟨_, pss_cons (ps_set (i := 3) scExpr.nd rfl (Or.inl rfl) (pe_ifExp (pt_cmpR op_gt (pv 2) pe_int (nomark _)) (pe_call GT hrT rfl mT kT bT .nil pass0 (pa_cons (pv 0) (pa_cons pe_int pa_nil))) (pe_call GT hrT rfl mT kT bT .nil pass0 (pa_cons (pv 0) (pa_cons pe_int pa_nil)))))
    (C8.pss_cut (ps_if (PW.pt (pw_and (pt_cmpR op_eq (pv 3) pe_int (nomark _)) (pw_and1 (pt_cmpR (op_neD hr.units) (pv 1) (pe_lst pa_nil) (nomark _))))) (pss_one (ps_ret (pe_tup (pa_cons pe_str (pa_cons (pe_call GP hrP rfl mP kP bP .nil pass0 (pa_cons (pv 0) (pa_cons (pv 1) pa_nil))) pa_nil))))) pss_nil)
    (C8.pss_cut (ps_if (pt_cmpR op_eq (pv 3) pe_int (nomark _)) (pss_one (ps_ret (pe_tup (pa_cons (pe_call GP hrP rfl mP kP bP .nil pass0 (pa_cons (pv 0) (pa_cons (pe_lst (pa_cons pe_str (pa_cons pe_str pa_nil))) pa_nil))) pa_nil)))) pss_nil)
    (C8.pss_cut (ps_if (pt_cmpR op_lt (pv 3) pe_int (nomark _)) (pss_one (ps_ret (pe_tup (pa_cons pe_str (pa_cons (pe_call GP hrP rfl mP kP bP .nil pass0 (pa_cons (pv 0) (pa_cons (pe_lst (pa_cons pe_int (pa_cons pe_int (pa_cons pe_int (pa_cons pe_int (pa_cons pe_int (pa_cons pe_int (pa_cons pe_int (pa_cons pe_int (pa_cons pe_int (pa_cons pe_int pa_nil))))))))))) pa_nil))) pa_nil))))) pss_nil)
    (pss_cons (ps_set (i := 4) scExpr.nd rfl (Or.inl rfl) (pe_call GE hr rfl mE kE bE .nil pass0 (pa_cons (pv 0) (pa_cons (pv 1) (pa_cons (pe_op op_sub (pv 2) pe_int) pa_nil)))))
    (pss_cons (ps_if (pt_cmpR op_eq (pv 3) pe_int (nomark _)) (pss_one (ps_ret (pe_tup (pa_cons (pe_call GP hrP rfl mP kP bP .nil pass0 (pa_cons (pv 0) (pa_cons (pe_lst (pa_cons pe_str (pa_cons pe_str pa_nil))) pa_nil))) (pa_cons (pv 4) pa_nil))))) pss_nil)
    (pss_cons (ps_set (i := 5) scExpr.nd rfl (Or.inl rfl) (pe_call GE hr rfl mE kE bE .nil pass0 (pa_cons (pv 0) (pa_cons (pv 1) (pa_cons (pe_op op_sub (pv 2) pe_int) pa_nil)))))
    (pss_cons (ps_set (i := 6) scExpr.nd rfl (Or.inl rfl) (pe_call GP hrP rfl mP kP bP .nil pass0 (pa_cons (pv 0) (pa_cons (pe_ifExp (pt_cmpR op_eq (pv 3) pe_int (nomark _)) (pe_lst (pa_cons pe_str pa_nil)) (pe_lst (pa_cons pe_str (pa_cons pe_str (pa_cons pe_str (pa_cons pe_str (pa_cons pe_str (pa_cons pe_str (pa_cons pe_str (pa_cons pe_str (pa_cons pe_str (pa_cons pe_str (pa_cons pe_str (pa_cons pe_str (pa_cons pe_str pa_nil))))))))))))))) pa_nil))))
    (pss_one (ps_ret (pe_tup (pa_cons (pv 6) (pa_cons (pv 4) (pa_cons (pv 5) pa_nil))))))))))))), ?_⟩
  refine ⟨_, rfl, _, _, rfl, rfl, _, rfl, ite2 (fun _ => ?_) (fun c => absurd (decide_eq_true (by omega)) c)⟩
  refine ⟨_, rfl, r, s, 12, rfl, hR, hS, by decide, by decide, fun H1 kd k1 R1 hk0 hk1 => ?_⟩

  have hq1 := k1 _ _ hqr hq
  have S1 := hS.mono k1
  -- if kind == 1 and names != []
  refine ⟨fun σ2 H2 => σ2 = [some (.ref r), some (.ref q), some (.int ((n + 1 : Nat) : Int)), some (.int kd), none, none, none] ∧ Same H1 H2 ∧ RowAt H2 r s, ?_, ?_⟩
  · refine ⟨_, rfl, rfl, _, rfl, ite2 (fun c => ?_) (fun c => iteF ⟨rfl, Same.refl _, R1⟩)⟩
    refine ⟨_, rfl, Nat.zero_le _, fun p np => ⟨.list (ns.map .str), .list [], .lst (SqL.of (by rw [upd_ne (ne_of_none hq1 np)]; exact hq1)) (dp_strs ns), .lst (SqL.of upd_same) .nil, shaped_strs hN, rfl, _, rfl, ?_⟩⟩
    rw [eqv_nil]
    refine ite2 (fun c2 => ?_) (fun c2 => ⟨rfl, fun b o z => by rw [upd_ne (ne_of_none z np)]; exact z, R1.new np _⟩)
    have hne : 1 ≤ ns.length := by
      cases ns with
      | nil => exact absurd c2 (by decide)
      | cons x l => exact Nat.succ_le_succ (Nat.zero_le _)
    have R2 := R1.new np (.lst [])
    have kn := Keep.new (r := r) np (.lst [])
    refine ⟨_, rfl, _, rfl, r, s, _, rfl, R2, S1.mono kn, .inl ⟨q, _, rfl, hqr, kn _ _ hqr hq1, by rw [List.length_map]; exact hne, by rw [List.length_map]; omega, fun H3 v k3 R3 hv => ?_⟩⟩
    obtain ⟨x, rfl, hx⟩ := strs_mem hv
    refine ⟨(by show 2 ≤ sizeLine; decide), fun t nt => ?_⟩
    exact k _ _ (.name x) ((k1.trans kn).trans (k3.trans (Keep.new nt _))) (R3.new nt _) (Dp.new nt (.cons (.str _) (.cons (.str _) .nil))) hx (Nat.zero_le _)
  rintro σ2 H2 ⟨rfl, s2, R2⟩
  have k2 : Keep r H H2 := k1.trans fun b o _ z => s2 b o z
  have hq2 := k2 _ _ hqr hq
  have S2 := hS.mono k2
  -- if kind == 2
  refine ⟨fun σ3 H3 => σ3 = [some (.ref r), some (.ref q), some (.int ((n + 1 : Nat) : Int)), some (.int kd), none, none, none] ∧ H2 = H3 ∧ kd ≠ 2, ?_, ?_⟩
  · refine ⟨_, rfl, rfl, _, rfl, ite2 (fun c => ?_) (fun c => ⟨rfl, rfl, fun z => c (decide_eq_true (by rw [z]))⟩)⟩
    refine ⟨_, rfl, (by show 2 ≤ sizeLine; decide), fun p np => ?_⟩
    have kn := Keep.new (r := r) np (.lst [.str "rows", .str "cols"])
    refine ⟨r, s, _, rfl, R2.new np _, S2.mono kn, .inl ⟨p, _, rfl, R2.ne np, upd_same, (by show 1 ≤ 2; decide), (by show 2 ≤ 1000; decide), fun H3 v k3 R3 hv => ?_⟩⟩
    refine ⟨(by show 1 ≤ sizeLine; decide), fun t nt => ?_⟩
    have k4 : Keep r H (upd H3 t (.tup [v])) := (k2.trans kn).trans (k3.trans (Keep.new nt _))
    simp only [List.mem_cons, List.not_mem_nil, or_false] at hv
    rcases hv with rfl | rfl
    · exact k _ _ .rows k4 (R3.new nt _) (Dp.new nt (.cons (.str _) .nil)) trivial (Nat.zero_le _)
    · exact k _ _ .cols k4 (R3.new nt _) (Dp.new nt (.cons (.str _) .nil)) trivial (Nat.zero_le _)
  rintro σ3 H3 ⟨rfl, rfl, n2⟩
  -- if kind < 4
  refine ⟨fun σ3 H3 => σ3 = [some (.ref r), some (.ref q), some (.int ((n + 1 : Nat) : Int)), some (.int kd), none, none, none] ∧ H2 = H3 ∧ ¬ kd < 4, ?_, ?_⟩
  · refine ⟨_, rfl, _, _, rfl, rfl, _, rfl, ite2 (fun c => ?_) (fun c => ⟨rfl, rfl, of_decide_eq_false (Bool.eq_false_iff.mpr c)⟩)⟩
    refine ⟨_, rfl, (by show 10 ≤ sizeLine; decide), fun p np => ?_⟩
    have kn := Keep.new (r := r) np (.lst (numN.map fun n => V.int ((n : Nat) : Int)))
    refine ⟨r, s, _, rfl, R2.new np _, S2.mono kn, .inl ⟨p, numN.map fun n => V.int ((n : Nat) : Int), rfl, R2.ne np, upd_same, (by show 1 ≤ 10; decide), (by show 10 ≤ 1000; decide), fun H4 v k3 R3 hv => ?_⟩⟩
    obtain ⟨m, rfl, hm⟩ := num_mem hv
    refine ⟨(by show 2 ≤ sizeLine; decide), fun t nt => ?_⟩
    exact k _ _ (.num m) ((k2.trans kn).trans (k3.trans (Keep.new nt _))) (R3.new nt _) (Dp.new nt (.cons (.str _) (.cons (.int _) .nil))) hm (Nat.zero_le _)
  rintro σ4 H4 ⟨rfl, rfl, n4⟩
  have eD : (((n + 1 : Nat) : Int) - 1) = ((n : Nat) : Int) := by omega
  -- one
  refine ⟨_, rfl, _, rfl, _, rfl, _, _, rfl, rfl, r, s, q, ns, by show [V.ref r, V.ref q, V.int (((n + 1 : Nat) : Int) - 1)] = _; rw [eD], R2, S2, hq2, hqr, hl, hN, fun H5 v1 e1 k5 R5 d1 o1 p1 => ?_⟩
  have S5 := S2.mono k5
  have hq5 := k5 _ _ hqr hq2
  -- if kind == 4
  refine ⟨_, rfl, rfl, _, rfl, ite2 (fun c => ?_) (fun c => ?_)⟩
  · refine ⟨_, rfl, (by show 2 ≤ sizeLine; decide), fun p np => ?_⟩
    have kn := Keep.new (r := r) np (.lst (un2.map V.str))
    refine ⟨r, s, _, rfl, R5.new np _, S5.mono kn, .inl ⟨p, un2.map V.str, rfl, R5.ne np, upd_same, (by show 1 ≤ 2; decide), (by show 2 ≤ 1000; decide), fun H6 v k6 R6 hv => ?_⟩⟩
    obtain ⟨x, rfl, hx⟩ := strs_mem hv
    obtain ⟨o, rfl⟩ := un_mem x hx
    refine ⟨_, rfl, (by show 2 ≤ sizeLine; decide), fun t nt => ?_⟩
    have k56 := kn.trans k6
    exact k _ _ (.un o e1) ((k2.trans k5).trans (k56.trans (Keep.new nt _))) (R6.new nt _) (Dp.new nt (.cons (.str _) (.cons (Dp.kt (R5.kt k56) (tupD_E e1) d1) .nil))) o1 (Nat.succ_le_succ p1)
  -- other
  refine ⟨_, rfl, _, rfl, _, rfl, _, _, rfl, rfl, r, s, q, ns, by show [V.ref r, V.ref q, V.int (((n + 1 : Nat) : Int) - 1)] = _; rw [eD], R5, S5, hq5, hqr, hl, hN, fun H6 v2 e2 k6 R6 d2 o2 p2 => ?_⟩
  have S6 := S5.mono k6
  have d16 := Dp.kt (R5.kt k6) (tupD_E e1) d1
  -- mark
  refine ⟨_, rfl, _, rfl, rfl, _, rfl, ?_⟩
  have fin : ∀ (ws : List Str) (p : Addr), (∀ x ∈ ws, ∃ o : Bi, o.w = x) → H6 p = none → ∀ (H7 : Hp) (v : V), Keep r (upd H6 p (.lst (ws.map V.str))) H7 → RowAt H7 r s → v ∈ ws.map V.str →
      ∀ t, H7 t = none → Q (.ref t) (upd H7 t (.tup [v, v1, v2])) := fun ws p hws np H7 v k7 R7 hv t nt => by
    obtain ⟨x, rfl, hx⟩ := strs_mem hv
    obtain ⟨o, rfl⟩ := hws x hx
    have k67 := (Keep.new (r := r) np (.lst (ws.map V.str))).trans k7
    exact k _ _ (.bin o e1 e2) (((k2.trans k5).trans k6).trans (k67.trans (Keep.new nt _))) (R7.new nt _)
      (Dp.new nt (.cons (.str _) (.cons (Dp.kt (R6.kt k67) (tupD_E e1) d16) (.cons (Dp.kt (R6.kt k67) (tupD_E e2) d2) .nil)))) ⟨o1, o2⟩ (Nat.succ_le_succ (Nat.max_le.mpr ⟨p1, p2⟩))
  refine ite2 (fun c => ?_) (fun c => ?_)
  · refine ⟨(by show 1 ≤ sizeLine; decide), fun p np => ?_⟩
    refine ⟨r, s, _, rfl, R6.new np _, S6.mono (Keep.new np _), .inl ⟨p, (["black"] : List Str).map V.str, rfl, R6.ne np, upd_same, (by show 1 ≤ 1; decide), (by show 1 ≤ 1000; decide), fun H7 v k7 R7 hv => ?_⟩⟩
    exact ⟨_, rfl, _, rfl, _, rfl, (by show 3 ≤ sizeLine; decide), fun t nt => fin ["black"] p (fun x hx => ⟨.black, (List.mem_singleton.mp hx).symm⟩) np H7 v k7 R7 hv t nt⟩
  · refine ⟨(by show 13 ≤ sizeLine; decide), fun p np => ?_⟩
    refine ⟨r, s, _, rfl, R6.new np _, S6.mono (Keep.new np _), .inl ⟨p, bi13.map V.str, rfl, R6.ne np, upd_same, (by show 1 ≤ 13; decide), (by show 13 ≤ 1000; decide), fun H7 v k7 R7 hv => ?_⟩⟩
    exact ⟨_, rfl, _, rfl, _, rfl, (by show 3 ≤ sizeLine; decide), fun t nt => fin bi13 p bi_mem np H7 v k7 R7 hv t nt⟩
end
end KD

namespace KD
open PySem L2 TL
section
variable {P : Program} {w : World} {K : PySem.W.Frag} {mg : Str → Option Value} {base : Heap}
/-! ### _law_side -/
def spSide (K : PySem.W.Frag) : Sp := fun vs H Q _ => ∃ (r s q : Addr) (ns : List Str), vs = [.ref r, .ref q] ∧ RowAt H r s ∧ Scr K H r s ∧ H q = some (.lst (ns.map V.str)) ∧ q ≠ r ∧ ns.length ≤ 100 ∧ nmsOk ns ∧
  ∀ (H' : Hp) (v : V) (e : Ex), Keep r H H' → RowAt H' r s → Dp K H' v e.d → okE ns e → dpE e ≤ 1 → Q v H'
theorem scSide : FnScope ["row", "names", "kind"] ["row", "names"] (defScope S__law_side) := ⟨rfl, rfl, rfl, by decide +kernel, rfl, by decide +kernel, by decide +kernel⟩
theorem ok_side {f fT fP fE : Addr} {fd fdT fdP fdE : FuncData} (F : Fun K "_law_side" "_law_side" S__law_side f fd) (T : Blt mg)
    (GT : FnOk P w K mg base CX0 1 fT fdT ["row", "many"] (spTaken K)) (mT : mg "_law_taken" = some (.ref fT)) (kT : PySem.W.keepIn K (.ref fT) = true) (bT : Binds K fdT ["row", "many"] [])
    (GP : FnOk P w K mg base CX0 2 fP fdP ["row", "things"] (spPick K)) (mP : mg "_law_pick" = some (.ref fP)) (kP : PySem.W.keepIn K (.ref fP) = true) (bP : Binds K fdP ["row", "things"] [])
    (GE1 : FnOk P w K mg base CX0 4 fE fdE ["row", "names", "deep"] (spExpr K 1)) (mE : mg "_law_expr" = some (.ref fE)) (kE : PySem.W.keepIn K (.ref fE) = true) (bE : Binds K fdE ["row", "names", "deep"] []) :
    FnOk P w K mg base CX0 5 f fd ["row", "names"] (spSide K) := by
  refine F.ok scSide (fun vs H Q E h => ?_) (fun cdv A outer s0 H vs Q E hr h => ?_)
  · obtain ⟨r, s, q, ns, rfl, _⟩ := h
    rfl
  obtain ⟨r, s, q, ns, rfl, hR, hS, hq, hqr, hl, hN, k⟩ := h
  have hrT : Room 1 _ := hr.mono (by decide)
  have hrP : Room 2 _ := hr.mono (by decide)
  have hrE1 : Room 4 _ := hr.mono (by decide)
  refine ⟨_, pss_cons (ps_set (i := 2) scSide.nd rfl (Or.inl rfl) (pe_call GT hrT rfl mT kT bT .nil pass0 (pa_cons (pv 0) (pa_cons pe_int pa_nil))))
    (C8.pss_cut (ps_if (PW.pt (pw_or (pt_cmpR op_lt (pv 2) pe_int (nomark _)) (pw_or1 (PW.pt (pw_and (pt_cmpR op_eq (pv 2) pe_int (nomark _)) (pw_and1 (pt_cmpR (op_eqD hr.units) (pv 1) (pe_lst pa_nil) (nomark _)))))))) (pss_one (ps_ret (pe_tup (pa_cons pe_str (pa_cons (pe_op op_add pe_int (pe_call GT hrT rfl mT kT bT .nil pass0 (pa_cons (pv 0) (pa_cons pe_int pa_nil)))) pa_nil))))) pss_nil)
    (pss_one (ps_ret (pe_ifExp (pt_cmpR op_eq (pv 2) pe_int (nomark _)) (pe_tup (pa_cons pe_str (pa_cons (pe_call GP hrP rfl mP kP bP .nil pass0 (pa_cons (pv 0) (pa_cons (pv 1) pa_nil))) pa_nil))) (pe_call GE1 hrE1 rfl mE kE bE .nil pass0 (pa_cons (pv 0) (pa_cons (pv 1) (pa_cons pe_int pa_nil)))))))), ?_⟩
  refine ⟨_, rfl, r, s, 6, rfl, hR, hS, by decide, by decide, fun H1 kd k1 R1 hk0 hk1 => ?_⟩
  have hq1 := k1 _ _ hqr hq
  have S1 := hS.mono k1
  refine ⟨fun σ2 H2 => σ2 = [some (.ref r), some (.ref q), some (.int kd)] ∧ Same H1 H2 ∧ RowAt H2 r s ∧ (kd = 3 → 1 ≤ ns.length), ?_, ?_⟩
  · refine ⟨_, rfl, _, _, rfl, rfl, _, rfl, ite2 (fun c => ?_) (fun c => ?_)⟩
    · refine ⟨_, rfl, r, s, 3, rfl, R1, S1, by decide, by decide, fun H3 u k3 R3 u0 u1 => ⟨_, _, rfl, rfl, (by show 2 ≤ sizeLine; decide), fun t nt => ?_⟩⟩
      have e : (1 : Int) + u = (((1 + u).toNat : Nat) : Int) := by omega
      exact k _ _ (.num (1 + u).toNat) (k1.trans (k3.trans (Keep.new nt _))) (R3.new nt _) (Dp.new nt (.cons (.str _) (.cons (by rw [← e]; exact .int _) .nil))) (by show (1 + u).toNat < 1000000; omega) (Nat.zero_le _)
    refine ⟨_, rfl, rfl, _, rfl, ite2 (fun c => ?_) (fun c => iteF ⟨rfl, Same.refl _, R1, fun z => absurd (decide_eq_true (by rw [z])) c⟩)⟩
    refine ⟨_, rfl, Nat.zero_le _, fun p np => ⟨.list (ns.map .str), .list [], .lst (SqL.of (by rw [upd_ne (ne_of_none hq1 np)]; exact hq1)) (dp_strs ns), .lst (SqL.of upd_same) .nil, shaped_strs hN, rfl, _, rfl, ?_⟩⟩
    rw [eqv_nil]
    have R2 := R1.new np (.lst [])
    have kn := Keep.new (r := r) np (.lst [])
    refine ite2 (fun c2 => ?_) (fun c2 => ⟨rfl, fun b o z => by rw [upd_ne (ne_of_none z np)]; exact z, R2, fun _ => ?_⟩)
    · refine ⟨_, rfl, r, s, 3, rfl, R2, (S1.mono kn), by decide, by decide, fun H3 u k3 R3 u0 u1 => ⟨_, _, rfl, rfl, (by show 2 ≤ sizeLine; decide), fun t nt => ?_⟩⟩
      have e : (1 : Int) + u = (((1 + u).toNat : Nat) : Int) := by omega
      exact k _ _ (.num (1 + u).toNat) ((k1.trans kn).trans (k3.trans (Keep.new nt _))) (R3.new nt _) (Dp.new nt (.cons (.str _) (.cons (by rw [← e]; exact .int _) .nil))) (by show (1 + u).toNat < 1000000; omega) (Nat.zero_le _)
    cases ns with
    | nil => exact absurd rfl c2
    | cons x l => exact Nat.succ_le_succ (Nat.zero_le _)
  rintro σ2 H2 ⟨rfl, s2, R2, hne⟩
  have k2 : Keep r H H2 := k1.trans fun b o _ z => s2 b o z
  have hq2 := k2 _ _ hqr hq
  have S2 := hS.mono k2
  refine ⟨_, rfl, rfl, _, rfl, ite2 (fun c => ?_) (fun c => ?_)⟩
  · have c3 : kd = 3 := V.int.inj (of_decide_eq_true c)
    refine ⟨_, rfl, _, rfl, r, s, _, rfl, R2, S2, .inl ⟨q, _, rfl, hqr, hq2, by rw [List.length_map]; exact hne c3, by rw [List.length_map]; omega, fun H3 v k3 R3 hv => ?_⟩⟩
    obtain ⟨x, rfl, hx⟩ := strs_mem hv
    refine ⟨(by show 2 ≤ sizeLine; decide), fun t nt => ?_⟩
    exact k _ _ (.name x) (k2.trans (k3.trans (Keep.new nt _))) (R3.new nt _) (Dp.new nt (.cons (.str _) (.cons (.str _) .nil))) hx (Nat.zero_le _)
  · refine ⟨_, rfl, _, rfl, r, s, q, ns, rfl, R2, S2, hq2, hqr, hl, hN, fun H3 v e k3 R3 d3 o3 p3 => ?_⟩
    exact k _ v e (k2.trans k3) R3 d3 o3 p3
end
end KD

namespace KD
open PySem L2 TL
section
variable {P : Program} {w : World} {K : PySem.W.Frag} {mg : Str → Option Value} {base : Heap}
/-! ### _law_block -/
def blkN : List Str := ["row", "names", "defs", "deep", "size", "found", "step", "kind", "name", "one", "left", "other", "right", "inner", "many", "at"]
theorem scBlk : FnScope blkN ["row", "names", "defs", "deep", "size"] (defScope S__law_block) := ⟨rfl, rfl, rfl, by decide +kernel, rfl, by decide +kernel, by decide +kernel⟩
/-- the definitions known: names and numbers of arguments -/
def dfD (p : Str × Nat) : PyData := .tuple [.str p.1, .int p.2]
def DefsAt (K : PySem.W.Frag) (H : Hp) (dq : Addr) (ds : List (Str × Nat)) : Prop := ∃ dvs : List V, H dq = some (.lst dvs) ∧ DpAll K H dvs (ds.map dfD) ∧ ds.length ≤ 100 ∧ ∀ p ∈ ds, PyData.strOk p.1 = true ∧ p.2 ≤ 2
/-- the state between two turns; H0: what stood when the block was begun -/
structure BInv (K : PySem.W.Frag) (r s fq nq : Addr) (H0 : Hp) (vs : List V) (b : List St) (cur : List Str) (H : Hp) : Prop where
  row : RowAt H r s
  keep : Keep r H0 H
  hf : H fq = some (.lst vs)
  hn : H nq = some (.lst (cur.map V.str))
  dp : DpAll K H vs (dB b)
  fr : fq ≠ r
  nr : nq ≠ r
  fn : fq ≠ nq
  bf : H0 fq = none
section
variable {r s fq nq : Addr} {H0 H H' : Hp} {vs : List V} {b : List St} {cur : List Str}
theorem BInv.keeps (g : BInv K r s fq nq H0 vs b cur H) (k : Keep r H H') (h : RowAt H' r s) : BInv K r s fq nq H0 vs b cur H' :=
  ⟨h, g.keep.trans k, k _ _ g.fr g.hf, k _ _ g.nr g.hn, DpAll.kt (g.row.kt k) (tupD_B b) g.dp, g.fr, g.nr, g.fn, g.bf⟩
theorem BInv.new (g : BInv K r s fq nq H0 vs b cur H) {p : Addr} (hp : H p = none) (o : HO) : BInv K r s fq nq H0 vs b cur (upd H p o) := g.keeps (Keep.new hp o) (g.row.new hp o)
/-- a statement is added -/
theorem BInv.push (g : BInv K r s fq nq H0 vs b cur H) {t : Addr} {ws : List V} {st : St} {ds : List PyData} (ht : H t = none) (e : st.d = .tuple ds) (hd : DpAll K H ws ds) :
    BInv K r s fq nq H0 (vs ++ [.ref t]) (b ++ [st]) cur (upd (upd H t (.tup ws)) fq (.lst (vs ++ [.ref t]))) := by
  have g' := g.new ht (.tup ws)
  have k' : KT K (upd H t (.tup ws)) (upd (upd H t (.tup ws)) fq (.lst (vs ++ [.ref t]))) := KT.upd g'.hf _
  obtain ⟨i, a, b', hr, h2⟩ := g'.row
  refine ⟨⟨i, a, b', by rw [upd_ne g.fr.symm]; exact hr, h2⟩, fun c o n q => by rw [upd_ne (ne_of_none q g.bf)]; exact g'.keep c o n q, upd_same, by rw [upd_ne g.fn.symm]; exact g'.hn, ?_, g.fr, g.nr, g.fn, g.bf⟩
  rw [dB_append]
  refine DpAll.snoc ?_ (DpAll.kt k' (tupD_B b) g'.dp)
  refine Dp.kt k' (tupD_S st) ?_
  rw [e]
  exact Dp.new ht hd
end
/-- the slots within a turn -/
def sgB (r nq dq fq : Addr) (n sz : Nat) (v6 v7 v8 v9 v10 v11 v12 v13 v14 : Option V) : L2.St := [some (.ref r), some (.ref nq), some (.ref dq), some (.int n), some (.int sz), some (.ref fq), v6, v7, v8, v9, v10, v11, v12, v13, v14, none]
def spBlock (K : PySem.W.Frag) (n : Nat) : Sp := fun vs H Q _ => ∃ (r s q dq : Addr) (ns : List Str) (ds : List (Str × Nat)) (sz : Nat), vs = [.ref r, .ref q, .ref dq, .int n, .int sz] ∧ RowAt H r s ∧ Scr K H r s ∧ H q = some (.lst (ns.map V.str)) ∧ q ≠ r ∧ nmsOk ns ∧ ns.length + 10 * n ≤ 40 ∧
  dq ≠ r ∧ DefsAt K H dq ds ∧ sz ≤ 8 ∧
  ∀ (H' : Hp) (t bt nq : Addr) (b : List St), Keep r H H' → RowAt H' r s → H' t = some (.tup [.ref bt, .ref nq]) → Dp K H' (.ref bt) (.tuple (dB b)) → okB ds n ns b → b.length ≤ sz → Q (.ref t) H'
theorem grow_eq (x : Str) (cur : List Str) : cur.map V.str ++ (if x ∈ cur then [] else [V.str x]) = (if x ∈ cur then cur else cur ++ [x]).map V.str := by
  by_cases h : x ∈ cur
  · rw [if_pos h, if_pos h, List.append_nil]
  · rw [if_neg h, if_neg h, List.map_append]
    rfl
theorem nms_grow {x : Str} {cur : List Str} (h : nmsOk cur) (hx : x ∈ allN) : nmsOk (if x ∈ cur then cur else cur ++ [x]) := by
  by_cases c : x ∈ cur
  · rw [if_pos c]; exact h
  · rw [if_neg c]
    intro y hy
    rcases List.mem_append.mp hy with hy | hy
    · exact h y hy
    · rw [List.mem_singleton.mp hy]; exact hx
theorem len_grow (x : Str) (cur : List Str) : (if x ∈ cur then cur else cur ++ [x]).length ≤ cur.length + 1 := by
  by_cases c : x ∈ cur
  · rw [if_pos c]; omega
  · rw [if_neg c, List.length_append]; exact Nat.le_refl _
theorem letN_all : ∀ x ∈ letN, x ∈ allN := by decide +kernel
theorem forN_all : ∀ x ∈ forN, x ∈ allN := by decide +kernel
def rowcol : List Str := ["row", "col"]
theorem rc_mem {x : Str} (h : x ∈ rowcol) : x = "row" ∨ x = "col" := by
  simp only [rowcol, List.mem_cons, List.not_mem_nil, or_false] at h
  exact h
theorem ok_block0 {f fT fP fE fS : Addr} {fd fdT fdP fdE fdS : FuncData} (F : Fun K "_law_block" "_law_block" S__law_block f fd) (T : Blt mg)
    (GT : FnOk P w K mg base CX0 1 fT fdT ["row", "many"] (spTaken K)) (mT : mg "_law_taken" = some (.ref fT)) (kT : PySem.W.keepIn K (.ref fT) = true) (bT : Binds K fdT ["row", "many"] [])
    (GP : FnOk P w K mg base CX0 2 fP fdP ["row", "things"] (spPick K)) (mP : mg "_law_pick" = some (.ref fP)) (kP : PySem.W.keepIn K (.ref fP) = true) (bP : Binds K fdP ["row", "things"] [])
    (GE2 : FnOk P w K mg base CX0 5 fE fdE ["row", "names", "deep"] (spExpr K 2)) (mE : mg "_law_expr" = some (.ref fE)) (kE : PySem.W.keepIn K (.ref fE) = true) (bE : Binds K fdE ["row", "names", "deep"] [])
    (GS : FnOk P w K mg base CX0 5 fS fdS ["row", "names"] (spSide K)) (mS : mg "_law_side" = some (.ref fS)) (kS : PySem.W.keepIn K (.ref fS) = true) (bS : Binds K fdS ["row", "names"] []) :
    FnOk P w K mg base CX0 6 f fd ["row", "names", "defs", "deep", "size"] (spBlock K 0) := by
  refine F.ok scBlk (fun vs H Q E h => ?_) (fun cdv A outer s0 H vs Q E hr h => ?_)
  · obtain ⟨r, s, q, dq, ns, ds, sz, rfl, _⟩ := h
    rfl
  obtain ⟨r, s, q, dq, ns, ds, sz, rfl, hR, ⟨xs, hxs, hSc⟩, hq, hqr, hN, hl, hdr, hD, hsz, k⟩ := h
  have hrT : Room 1 _ := hr.mono (by omega)
  have hrP : Room 2 _ := hr.mono (by omega)
  have hrE2 : Room 5 _ := hr.mono (by omega)
  have hrS : Room 5 _ := hr.mono (by omega)
  refine ⟨_, pss_cons (ps_asg (pe_tup (pa_cons (pe_lst pa_nil) (pa_cons (pe_callTy call_list_of (by rfl) T.list (by decide +kernel) (pa_cons (pv 1) pa_nil)) pa_nil))) (pg_tup rfl (pgs_cons (pg_name (i := 5) scBlk.nd rfl (Or.inl rfl)) (pgs_cons (pg_name (i := 1) scBlk.nd rfl (Or.inr rfl)) pgs_nil))))
    (pss_cons (ps_for PassesOwn.never rfl (pi_range1 rfl T.range (pa_cons (pe_call GT hrT rfl mT kT bT .nil pass0 (pa_cons (pv 0) (pa_cons (pe_op op_add (pv 4) pe_int) pa_nil))) pa_nil)) (pg_name (i := 6) scBlk.nd rfl (Or.inl rfl))
      (pss_cons (ps_set (i := 7) scBlk.nd rfl (Or.inl rfl) (pe_call GT hrT rfl mT kT bT .nil pass0 (pa_cons (pv 0) (pa_cons pe_int pa_nil))))
      (pss_one (ps_if (PW.pt (pw_or (pt_cmpR op_lt (pv 7) pe_int (nomark _)) (pw_or1 (PW.pt (pw_and (pt_cmpR op_eq (pv 3) pe_int (nomark _)) (pw_and1 (pt_cmpR op_gt (pv 7) pe_int (nomark _)))))))) (pss_one (ps_expr (pe_bm PySem.F.plainAttrs_list PySem.F.slot_list_append PySem.F.type_list_append mt_append (pv 5) (pa_cons (pe_tup (pa_cons (pe_call GP hrP rfl mP kP bP .nil pass0 (pa_cons (pv 0) (pa_cons (pe_lst (pa_cons pe_str (pa_cons pe_str pa_nil))) pa_nil))) (pa_cons (pe_call GS hrS rfl mS kS bS .nil pass0 (pa_cons (pv 0) (pa_cons (pv 1) pa_nil))) pa_nil))) pa_nil)))) (pss_one (ps_if (pt_cmpR op_eq (pv 7) pe_int (nomark _)) (pss_one (ps_expr (pe_bm PySem.F.plainAttrs_list PySem.F.slot_list_append PySem.F.type_list_append mt_append (pv 5) (pa_cons (pe_tup (pa_cons pe_str (pa_cons (pe_call GE2 hrE2 rfl mE kE bE .nil pass0 (pa_cons (pv 0) (pa_cons (pv 1) (pa_cons pe_int pa_nil)))) pa_nil))) pa_nil)))) (pss_one (ps_if (pt_cmpR op_lt (pv 7) pe_int (nomark _)) (pss_cons (ps_set (i := 8) scBlk.nd rfl (Or.inl rfl) (pe_call GP hrP rfl mP kP bP .nil pass0 (pa_cons (pv 0) (pa_cons (pe_lst (pa_cons pe_str (pa_cons pe_str (pa_cons pe_str (pa_cons pe_str pa_nil))))) pa_nil)))) (pss_cons (ps_expr (pe_bm PySem.F.plainAttrs_list PySem.F.slot_list_append PySem.F.type_list_append mt_append (pv 5) (pa_cons (pe_tup (pa_cons pe_str (pa_cons (pv 8) (pa_cons (pe_call GE2 hrE2 rfl mE kE bE .nil pass0 (pa_cons (pv 0) (pa_cons (pv 1) (pa_cons pe_int pa_nil)))) pa_nil)))) pa_nil))) (pss_one (ps_set (i := 1) scBlk.nd rfl (Or.inr rfl) (pe_op op_cat (pv 1) (pe_ifExp (pt_cmpR op_notIn_seq (pv 8) (pv 1) (by rfl)) (pe_lst (pa_cons (pv 8) pa_nil)) (pe_lst pa_nil))))))) pss_never))))))))
    (pss_one (ps_ret (pe_tup (pa_cons (pe_callTy call_tuple_of (by rfl) T.tup (by decide +kernel) (pa_cons (pv 5) pa_nil)) (pa_cons (pv 1) pa_nil)))))), ?_⟩
  -- found, names = [], list(names)
  refine ⟨Nat.zero_le _, fun fq nf => ?_⟩
  have hq1 : (upd H fq (.lst [])) q = some (.lst (ns.map V.str)) := by rw [upd_ne (ne_of_none hq nf)]; exact hq
  refine ⟨_, rfl, q, _, rfl, .inl (SqL.of hq1), fun nq nn => ?_⟩
  refine ⟨(by show 2 ≤ sizeLine; decide), fun tq nt => ⟨tq, _, rfl, SqT.of upd_same, rfl, _, _, rfl, _, _, rfl, rfl, ?_⟩⟩
  have R1 := hR.new nf (.lst [])
  have R2 := R1.new nn (.lst (ns.map V.str))
  have hf1 : (upd H fq (.lst [])) fq = some (.lst []) := upd_same
  have hn2 : (upd (upd H fq (.lst [])) nq (.lst (ns.map V.str))) nq = some (.lst (ns.map V.str)) := upd_same
  have hf2 : (upd (upd H fq (.lst [])) nq (.lst (ns.map V.str))) fq = some (.lst []) := by rw [upd_ne (ne_of_none hf1 nn)]; exact hf1
  have g0 : BInv K r s fq nq H [] [] ns (upd (upd (upd H fq (.lst [])) nq (.lst (ns.map V.str))) tq (.tup [.ref fq, .ref nq])) :=
    (⟨R2, (Keep.new nf _).trans (Keep.new nn _), hf2, hn2, .nil, hR.ne nf, R1.ne nn, ne_of_none hf1 nn, nf⟩ : BInv K r s fq nq H [] [] ns (upd (upd H fq (.lst [])) nq (.lst (ns.map V.str)))).new nt _
  generalize upd (upd (upd H fq (.lst [])) nq (.lst (ns.map V.str))) tq (.tup [.ref fq, .ref nq]) = H1 at g0 ⊢
  have scr : ∀ {nq : Addr} {vs : List V} {b : List St} {cur : List Str} {H' : Hp}, BInv K r s fq nq H vs b cur H' → Scr K H' r s := fun g => ⟨xs, hxs, fun H2 k2 => hSc H2 (g.keep.trans k2)⟩
  -- for step in range(_law_taken(row, size + 1))
  refine ⟨_, rfl, _, rfl, _, _, rfl, rfl, r, s, _, rfl, g0.row, scr g0, by omega, by omega, fun H2 m k2 R2' hm0 hm1 => ?_⟩
  have g2 := g0.keeps k2 R2'
  refine ⟨m, rfl, by omega, by omega, for_range (lo := 0) (n := m.toNat) (fun (i : Nat) (σ : L2.St) (H' : Hp) => ∃ (nq : Addr) (vs : List V) (b : List St) (cur : List Str) (v6 v7 v8 v9 v10 v11 v12 v13 v14 : Option V), σ = sgB r nq dq fq 0 sz v6 v7 v8 v9 v10 v11 v12 v13 v14 ∧ BInv K r s fq nq H vs b cur H' ∧ okB ds 0 ns b ∧ aftB ns b = cur ∧ nmsOk cur ∧ cur.length ≤ ns.length + i ∧ b.length ≤ i)
    ⟨nq, [], [], ns, none, none, none, none, none, none, none, none, none, rfl, g2, (by unfold okB; trivial), rfl, hN, Nat.le_refl _, Nat.le_refl _⟩ ?_ ?_⟩
  · rintro i σ H3 hi ⟨nq, vs, b, cur, v6, v7, v8, v9, v10, v11, v12, v13, v14, rfl, g, hb, hcur, hcn, hcl, hbl⟩
    have hi8 : i < 9 := by omega
    have lenOk : vs.length < sizeLine := by
      rw [KD.DpAll.length g.dp, dB_length]
      exact Nat.lt_of_le_of_lt (show b.length ≤ 1000 by omega) (by decide)
    refine ⟨_, rfl, r, s, 16, rfl, g.row, scr g, by decide, by decide, fun H8 kd k8 R8 hk0 hk1 => ?_⟩
    have g8 := g.keeps k8 R8
    -- A
    refine ⟨_, rfl, _, _, rfl, rfl, _, rfl, ite2 (fun c => ?_) (fun c => ?_)⟩
    · skip
      refine ⟨_, rfl, .inl ⟨rfl, _, SqL.of g8.hf⟩, _, rfl, (by show 2 ≤ sizeLine; decide), fun p np => ?_⟩
      have ga := g8.new np (.lst (rowcol.map V.str))
      refine ⟨r, s, _, rfl, ga.row, scr ga, .inl ⟨p, rowcol.map V.str, rfl, g8.row.ne np, upd_same, (by show 1 ≤ 2; decide), (by show 2 ≤ 1000; decide), fun H3 v k3 R3 hv => ?_⟩⟩
      obtain ⟨x, rfl, hx⟩ := strs_mem hv
      have gb := ga.keeps k3 R3
      refine ⟨_, rfl, _, rfl, r, s, nq, cur, rfl, gb.row, scr gb, gb.hn, gb.nr, by omega, hcn, fun H4 v4 e4 k4 R4 d4 o4 p4 => ?_⟩
      have gc := gb.keeps k4 R4
      refine ⟨(by show 2 ≤ sizeLine; decide), fun t nt => ⟨fq, vs, _, rfl, rfl, (gc.new nt _).hf, lenOk, ?_⟩⟩
      rcases rc_mem hx with rfl | rfl
      · exact ⟨nq, vs ++ [.ref t], b ++ [.row e4], cur, _, _, _, _, _, _, _, _, _, rfl, gc.push nt rfl (.cons (.str _) (.cons d4 .nil)), okB_snoc hb (by rw [hcur]; unfold okS; exact ⟨o4, p4⟩), by rw [aftB_snoc, hcur]; rfl, hcn, by omega, by rw [List.length_append, List.length_singleton]; omega⟩
      · exact ⟨nq, vs ++ [.ref t], b ++ [.col e4], cur, _, _, _, _, _, _, _, _, _, rfl, gc.push nt rfl (.cons (.str _) (.cons d4 .nil)), okB_snoc hb (by rw [hcur]; unfold okS; exact ⟨o4, p4⟩), by rw [aftB_snoc, hcur]; rfl, hcn, by omega, by rw [List.length_append, List.length_singleton]; omega⟩
    have n6 : ¬ kd < 6 := of_decide_eq_false (Bool.eq_false_iff.mpr c)
    refine ⟨_, rfl, rfl, _, rfl, ite2 (fun _ => ?_) (fun c2 => absurd (decide_eq_true rfl) c2)⟩
    refine ⟨_, rfl, _, _, rfl, rfl, _, rfl, ite2 (fun c2 => ?_) (fun c2 => ?_)⟩
    · skip
      refine ⟨_, rfl, .inl ⟨rfl, _, SqL.of g8.hf⟩, _, rfl, (by show 2 ≤ sizeLine; decide), fun p np => ?_⟩
      have ga := g8.new np (.lst (rowcol.map V.str))
      refine ⟨r, s, _, rfl, ga.row, scr ga, .inl ⟨p, rowcol.map V.str, rfl, g8.row.ne np, upd_same, (by show 1 ≤ 2; decide), (by show 2 ≤ 1000; decide), fun H3 v k3 R3 hv => ?_⟩⟩
      obtain ⟨x, rfl, hx⟩ := strs_mem hv
      have gb := ga.keeps k3 R3
      refine ⟨_, rfl, _, rfl, r, s, nq, cur, rfl, gb.row, scr gb, gb.hn, gb.nr, by omega, hcn, fun H4 v4 e4 k4 R4 d4 o4 p4 => ?_⟩
      have gc := gb.keeps k4 R4
      refine ⟨(by show 2 ≤ sizeLine; decide), fun t nt => ⟨fq, vs, _, rfl, rfl, (gc.new nt _).hf, lenOk, ?_⟩⟩
      rcases rc_mem hx with rfl | rfl
      · exact ⟨nq, vs ++ [.ref t], b ++ [.row e4], cur, _, _, _, _, _, _, _, _, _, rfl, gc.push nt rfl (.cons (.str _) (.cons d4 .nil)), okB_snoc hb (by rw [hcur]; unfold okS; exact ⟨o4, p4⟩), by rw [aftB_snoc, hcur]; rfl, hcn, by omega, by rw [List.length_append, List.length_singleton]; omega⟩
      · exact ⟨nq, vs ++ [.ref t], b ++ [.col e4], cur, _, _, _, _, _, _, _, _, _, rfl, gc.push nt rfl (.cons (.str _) (.cons d4 .nil)), okB_snoc hb (by rw [hcur]; unfold okS; exact ⟨o4, p4⟩), by rw [aftB_snoc, hcur]; rfl, hcn, by omega, by rw [List.length_append, List.length_singleton]; omega⟩
    have n8 : ¬ kd > 8 := of_decide_eq_false (Bool.eq_false_iff.mpr c2)
    refine ⟨_, rfl, rfl, _, rfl, ite2 (fun c4 => ?_) (fun c4 => ?_)⟩
    · refine ⟨_, rfl, .inl ⟨rfl, _, SqL.of g8.hf⟩, _, rfl, _, rfl, r, s, nq, cur, rfl, g8.row, scr g8, g8.hn, g8.nr, by omega, hcn, fun H4 v4 e4 k4 R4 d4 o4 p4 => ?_⟩
      have gc := g8.keeps k4 R4
      refine ⟨(by show 2 ≤ sizeLine; decide), fun t nt => ⟨fq, vs, _, rfl, rfl, (gc.new nt _).hf, lenOk, ?_⟩⟩
      exact ⟨nq, vs ++ [.ref t], b ++ [.say e4], cur, _, _, _, _, _, _, _, _, _, rfl, gc.push nt rfl (.cons (.str _) (.cons d4 .nil)), okB_snoc hb (by rw [hcur]; unfold okS; exact ⟨o4, p4⟩), by rw [aftB_snoc, hcur]; rfl, hcn, by omega, by rw [List.length_append, List.length_singleton]; omega⟩
    refine ⟨_, rfl, _, _, rfl, rfl, _, rfl, ite2 (fun c5 => ?_) (fun c5 => ?_)⟩
    · refine ⟨_, rfl, (by show 4 ≤ sizeLine; decide), fun p np => ?_⟩
      have ga := g8.new np (.lst (letN.map V.str))
      refine ⟨r, s, _, rfl, ga.row, scr ga, .inl ⟨p, letN.map V.str, rfl, g8.row.ne np, upd_same, (by show 1 ≤ 4; decide), (by show 4 ≤ 1000; decide), fun H3 v k3 R3 hv => ?_⟩⟩
      obtain ⟨x, rfl, hx⟩ := strs_mem hv
      have gb := ga.keeps k3 R3
      refine ⟨_, rfl, .inl ⟨rfl, _, SqL.of gb.hf⟩, _, rfl, _, rfl, _, rfl, r, s, nq, cur, rfl, gb.row, scr gb, gb.hn, gb.nr, by omega, hcn, fun H4 v4 e4 k4 R4 d4 o4 p4 => ?_⟩
      have gc := gb.keeps k4 R4
      refine ⟨(by show 3 ≤ sizeLine; decide), fun t nt => ⟨fq, vs, _, rfl, rfl, (gc.new nt _).hf, lenOk, ?_⟩⟩
      have gd := gc.push (st := .set x e4) nt rfl (.cons (.str _) (.cons (.str x) (.cons d4 .nil)))
      generalize upd (upd H4 t (.tup [.str "let", .str x, v4])) fq (.lst (vs ++ [.ref t])) = H5 at gd ⊢
      -- names = names + ..
      refine ⟨_, rfl, _, rfl, _, rfl, nq, _, rfl, .inl (SqL.of gd.hn), rfl, flat_strs _, _, rfl, ?_⟩
      have fin : ∀ (pz : Addr) (zs : List V), H5 pz = none → zs = (if x ∈ cur then [] else [V.str x]) → ∀ p2, (upd H5 pz (.lst zs)) p2 = none →
          (fun (i : Nat) (σ : L2.St) (H' : Hp) => ∃ (nq : Addr) (vs : List V) (b : List St) (cur : List Str) (v6 v7 v8 v9 v10 v11 v12 v13 v14 : Option V), σ = sgB r nq dq fq 0 sz v6 v7 v8 v9 v10 v11 v12 v13 v14 ∧ BInv K r s fq nq H vs b cur H' ∧ okB ds 0 ns b ∧ aftB ns b = cur ∧ nmsOk cur ∧ cur.length ≤ ns.length + i ∧ b.length ≤ i) (i + 1) (sgB r p2 dq fq 0 sz (some (.int (0 + (i : Int)))) (some (.int kd)) (some (.str x)) v9 v10 v11 v12 v13 v14) (upd (upd H5 pz (.lst zs)) p2 (.lst (cur.map V.str ++ zs))) := fun pz zs hpz ez p2 np2 => by
        have ge := gd.new hpz (.lst zs)
        have gf := ge.new np2 (.lst (cur.map V.str ++ zs))
        have e : cur.map V.str ++ zs = (if x ∈ cur then cur else cur ++ [x]).map V.str := by rw [ez, grow_eq]
        refine ⟨p2, vs ++ [.ref t], b ++ [.set x e4], (if x ∈ cur then cur else cur ++ [x]), _, _, _, _, _, _, _, _, _, rfl, ?_, okB_snoc hb (by rw [hcur]; unfold okS; exact ⟨hx, o4, p4⟩), by rw [aftB_snoc, hcur]; rfl, nms_grow hcn (letN_all x hx), ?_, by rw [List.length_append, List.length_singleton]; omega⟩
        · exact ⟨gf.row, gf.keep, gf.hf, (by rw [← e]; exact upd_same), gf.dp, gf.fr, ge.row.ne np2, ne_of_none ge.hf np2, gf.bf⟩
        · have := len_grow x cur
          omega
      show if (!inV (.str x) (cur.map V.str)) = true then _ else _
      rw [in_strs]
      refine ite2 (fun c3 => ?_) (fun c3 => ?_)
      · have hin : x ∉ cur := by
          intro q
          rw [decide_eq_true q] at c3
          cases c3
        refine ⟨_, rfl, (by show 1 ≤ sizeLine; decide), fun pz hpz => ?_⟩
        have ge := gd.new hpz (.lst [.str x])
        exact ⟨nq, pz, _, _, rfl, rfl, ge.hn, upd_same, (by rw [List.length_map]; exact Nat.le_trans (show cur.length + 1 ≤ 1000 by omega) (by decide)), fun p2 np2 => fin pz [.str x] hpz (by rw [if_neg hin]) p2 np2⟩
      · have hin : x ∈ cur := by
          apply Classical.byContradiction
          intro q
          rw [decide_eq_false q] at c3
          exact c3 rfl
        refine ⟨Nat.zero_le _, fun pz hpz => ?_⟩
        have ge := gd.new hpz (.lst [])
        exact ⟨nq, pz, _, _, rfl, rfl, ge.hn, upd_same, (by rw [List.length_map]; exact Nat.le_trans (show cur.length + 0 ≤ 1000 by omega) (by decide)), fun p2 np2 => fin pz [] hpz (by rw [if_pos hin]) p2 np2⟩
    · have q : ¬ kd < 9 := of_decide_eq_false (Bool.eq_false_iff.mpr c5)
      exact absurd (by omega) n8
  · rintro σ H3 ⟨nq, vs, b, cur, v6, v7, v8, v9, v10, v11, v12, v13, v14, rfl, g, hb, hcur, hcn, hcl, hbl⟩
    refine ⟨_, rfl, fq, _, rfl, .inl ⟨SqL.of g.hf, fun bt nb => ?_⟩⟩
    have ga := g.new nb (.tup vs)
    refine ⟨_, rfl, (by show 2 ≤ sizeLine; decide), fun t nt2 => ?_⟩
    have gb := ga.new nt2 (.tup [.ref bt, .ref nq])
    have hbt : Dp K (upd H3 bt (.tup vs)) (.ref bt) (.tuple (dB b)) := Dp.new nb g.dp
    exact k _ t bt nq b gb.keep gb.row upd_same (Dp.kt (ga.row.kt (Keep.new nt2 _)) (by show tupDs (dB b) = true; exact tupD_B b) hbt) hb (by omega)
end
end KD

namespace KD
open PySem L2 TL
section
variable {P : Program} {w : World} {K : PySem.W.Frag} {mg : Str → Option Value} {base : Heap}
theorem BInv.at {r s fq nq D : Addr} {H0 H : Hp} {vs ws : List V} {b : List St} {cur : List Str} (g : BInv K r s fq nq H0 vs b cur H) (hD : H D = some (.lst ws)) (nr : r ≠ D) (nf : fq ≠ D) (nn : nq ≠ D) (bD : H0 D = none) (o : HO) : BInv K r s fq nq H0 vs b cur (upd H D o) := by
  obtain ⟨i, a, b', hr, h2⟩ := g.row
  exact ⟨⟨i, a, b', by rw [upd_ne nr]; exact hr, h2⟩, fun c u n q => by rw [upd_ne (ne_of_none q bD)]; exact g.keep c u n q, by rw [upd_ne nf]; exact g.hf, by rw [upd_ne nn]; exact g.hn, DpAll.kt (KT.upd hD o) (tupD_B b) g.dp, g.fr, g.nr, g.fn, g.bf⟩
theorem Keep.free {r s D : Addr} {H0 H : Hp} (k : Keep r H0 H) (hR : RowAt H r s) (h : H D = none) : H0 D = none := by
  cases e : H0 D with
  | none => rfl
  | some o =>
    have q := k D o (hR.ne h) e
    rw [h] at q
    cases q
theorem dp_pair {H : Hp} {v : V} {p : Str × Nat} (h : Dp K H v (dfD p)) : ∃ a, v = .ref a ∧ SqT K H a [.str p.1, .int p.2] := by
  unfold dfD at h
  cases h with
  | tup h1 h2 =>
    cases h2 with
    | cons a1 a2 =>
      cases a1
      cases a2 with
      | cons b1 b2 =>
        cases b1
        cases b2
        exact ⟨_, rfl, h1⟩
theorem shaped_defs {ds : List (Str × Nat)} (h : ∀ p ∈ ds, PyData.strOk p.1 = true ∧ p.2 ≤ 2) : SeqAt.shaped (.list (ds.map dfD)) = true := by
  have h1 : ∀ ds : List (Str × Nat), (∀ p ∈ ds, PyData.strOk p.1 = true ∧ p.2 ≤ 2) → PyData.canLayAll0 (ds.map dfD) = true ∧ PyData.depthAll (ds.map dfD) ≤ 2 := fun ds => by
    induction ds with
    | nil => intro _; exact ⟨rfl, by decide⟩
    | cons p ds ih =>
      intro h
      obtain ⟨i1, i2⟩ := ih fun q hq => h q (List.mem_cons_of_mem _ hq)
      refine ⟨?_, ?_⟩
      · show ((PyData.strOk p.1 && (true && true)) && PyData.canLayAll0 (ds.map dfD)) = true
        rw [(h p List.mem_cons_self).1, i1]
        rfl
      · show max (PyData.depth (dfD p)) (PyData.depthAll (ds.map dfD)) ≤ 2
        have : PyData.depth (dfD p) ≤ 2 := by
          first
            | exact Nat.le_refl _
            | (show PyData.depthAll [.str p.1, .int p.2] + 1 ≤ 2; first | decide | simp [PyData.depthAll, PyData.depth])
            | simp [dfD, PyData.depth, PyData.depthAll]
        omega
  obtain ⟨i1, i2⟩ := h1 ds h
  unfold SeqAt.shaped
  rw [Bool.and_eq_true, decide_eq_true_iff]
  refine ⟨i1, ?_⟩
  show PyData.depthAll (ds.map dfD) + 1 ≤ 64
  omega
theorem tupDs_df : ∀ ds : List (Str × Nat), tupDs (ds.map dfD) = true
  | [] => rfl
  | d :: ds => by
    show (true && tupDs (ds.map dfD)) = true
    rw [tupDs_df ds]
    rfl
theorem DefsAt.keep {r s dq : Addr} {H H' : Hp} {ds : List (Str × Nat)} (h : DefsAt K H dq ds) (hR : RowAt H r s) (n : dq ≠ r) (k : Keep r H H') : DefsAt K H' dq ds := by
  obtain ⟨dvs, h1, h2, h3, h4⟩ := h
  exact ⟨dvs, k _ _ n h1, DpAll.kt (hR.kt k) (tupDs_df ds) h2, h3, h4⟩
theorem args5 (r q dq : Addr) (n : Nat) : [V.ref r, V.ref q, V.ref dq, V.int (((n + 1 : Nat) : Int) - 1), V.int 2] = [V.ref r, V.ref q, V.ref dq, V.int ((n : Nat) : Int), V.int ((2 : Nat) : Int)] := by
  have e : (((n + 1 : Nat) : Int) - 1) = ((n : Nat) : Int) := by omega
  rw [e]
  rfl
theorem ok_blockS {n : Nat} {f fT fP fE fS : Addr} {fd fdT fdP fdE fdS : FuncData} (F : Fun K "_law_block" "_law_block" S__law_block f fd) (T : Blt mg)
    (GT : FnOk P w K mg base CX0 1 fT fdT ["row", "many"] (spTaken K)) (mT : mg "_law_taken" = some (.ref fT)) (kT : PySem.W.keepIn K (.ref fT) = true) (bT : Binds K fdT ["row", "many"] [])
    (GP : FnOk P w K mg base CX0 2 fP fdP ["row", "things"] (spPick K)) (mP : mg "_law_pick" = some (.ref fP)) (kP : PySem.W.keepIn K (.ref fP) = true) (bP : Binds K fdP ["row", "things"] [])
    (GE2 : FnOk P w K mg base CX0 5 fE fdE ["row", "names", "deep"] (spExpr K 2)) (mE : mg "_law_expr" = some (.ref fE)) (kE : PySem.W.keepIn K (.ref fE) = true) (bE : Binds K fdE ["row", "names", "deep"] [])
    (GS : FnOk P w K mg base CX0 5 fS fdS ["row", "names"] (spSide K)) (mS : mg "_law_side" = some (.ref fS)) (kS : PySem.W.keepIn K (.ref fS) = true) (bS : Binds K fdS ["row", "names"] [])
    (GE1 : FnOk P w K mg base CX0 4 fE fdE ["row", "names", "deep"] (spExpr K 1))
    (GB : FnOk P w K mg base CX0 (n + 6) f fd ["row", "names", "defs", "deep", "size"] (spBlock K n)) (mB : mg "_law_block" = some (.ref f)) (bB : Binds K fd ["row", "names", "defs", "deep", "size"] []) :
    FnOk P w K mg base CX0 (n + 1 + 6) f fd ["row", "names", "defs", "deep", "size"] (spBlock K (n + 1)) := by
  refine F.ok scBlk (fun vs H Q E h => ?_) (fun cdv A outer s0 H vs Q E hr h => ?_)
  · obtain ⟨r, s, q, dq, ns, ds, sz, rfl, _⟩ := h
    rfl
  obtain ⟨r, s, q, dq, ns, ds, sz, rfl, hR, ⟨xs, hxs, hSc⟩, hq, hqr, hN, hl, hdr, hD, hsz, k⟩ := h
  have hrT : Room 1 _ := hr.mono (by omega)
  have hrP : Room 2 _ := hr.mono (by omega)
  have hrE2 : Room 5 _ := hr.mono (by omega)
  have hrS : Room 5 _ := hr.mono (by omega)
  have hrE1 : Room 4 _ := hr.mono (by omega)
  have kB := F.kp
  refine ⟨_, pss_cons (ps_asg (pe_tup (pa_cons (pe_lst pa_nil) (pa_cons (pe_callTy call_list_of (by rfl) T.list (by decide +kernel) (pa_cons (pv 1) pa_nil)) pa_nil))) (pg_tup rfl (pgs_cons (pg_name (i := 5) scBlk.nd rfl (Or.inl rfl)) (pgs_cons (pg_name (i := 1) scBlk.nd rfl (Or.inr rfl)) pgs_nil))))
    (pss_cons (ps_for PassesOwn.never rfl (pi_range1 rfl T.range (pa_cons (pe_call GT hrT rfl mT kT bT .nil pass0 (pa_cons (pv 0) (pa_cons (pe_op op_add (pv 4) pe_int) pa_nil))) pa_nil)) (pg_name (i := 6) scBlk.nd rfl (Or.inl rfl))
      (pss_cons (ps_set (i := 7) scBlk.nd rfl (Or.inl rfl) (pe_call GT hrT rfl mT kT bT .nil pass0 (pa_cons (pv 0) (pa_cons pe_int pa_nil))))
      (pss_one (ps_if (PW.pt (pw_or (pt_cmpR op_lt (pv 7) pe_int (nomark _)) (pw_or1 (PW.pt (pw_and (pt_cmpR op_eq (pv 3) pe_int (nomark _)) (pw_and1 (pt_cmpR op_gt (pv 7) pe_int (nomark _)))))))) (pss_one (ps_expr (pe_bm PySem.F.plainAttrs_list PySem.F.slot_list_append PySem.F.type_list_append mt_append (pv 5) (pa_cons (pe_tup (pa_cons (pe_call GP hrP rfl mP kP bP .nil pass0 (pa_cons (pv 0) (pa_cons (pe_lst (pa_cons pe_str (pa_cons pe_str pa_nil))) pa_nil))) (pa_cons (pe_call GS hrS rfl mS kS bS .nil pass0 (pa_cons (pv 0) (pa_cons (pv 1) pa_nil))) pa_nil))) pa_nil)))) (pss_one (ps_if (pt_cmpR op_eq (pv 7) pe_int (nomark _)) (pss_one (ps_expr (pe_bm PySem.F.plainAttrs_list PySem.F.slot_list_append PySem.F.type_list_append mt_append (pv 5) (pa_cons (pe_tup (pa_cons pe_str (pa_cons (pe_call GE2 hrE2 rfl mE kE bE .nil pass0 (pa_cons (pv 0) (pa_cons (pv 1) (pa_cons pe_int pa_nil)))) pa_nil))) pa_nil)))) (pss_one (ps_if (pt_cmpR op_lt (pv 7) pe_int (nomark _)) (pss_cons (ps_set (i := 8) scBlk.nd rfl (Or.inl rfl) (pe_call GP hrP rfl mP kP bP .nil pass0 (pa_cons (pv 0) (pa_cons (pe_lst (pa_cons pe_str (pa_cons pe_str (pa_cons pe_str (pa_cons pe_str pa_nil))))) pa_nil)))) (pss_cons (ps_expr (pe_bm PySem.F.plainAttrs_list PySem.F.slot_list_append PySem.F.type_list_append mt_append (pv 5) (pa_cons (pe_tup (pa_cons pe_str (pa_cons (pv 8) (pa_cons (pe_call GE2 hrE2 rfl mE kE bE .nil pass0 (pa_cons (pv 0) (pa_cons (pv 1) (pa_cons pe_int pa_nil)))) pa_nil)))) pa_nil))) (pss_one (ps_set (i := 1) scBlk.nd rfl (Or.inr rfl) (pe_op op_cat (pv 1) (pe_ifExp (pt_cmpR op_notIn_seq (pv 8) (pv 1) (by rfl)) (pe_lst (pa_cons (pv 8) pa_nil)) (pe_lst pa_nil))))))) (pss_one (ps_if (pt_cmpR op_lt (pv 7) pe_int (nomark _)) (pss_cons (ps_asg (pe_call GB hr rfl mB kB bB .nil pass0 (pa_cons (pv 0) (pa_cons (pv 1) (pa_cons (pv 2) (pa_cons (pe_op op_sub (pv 3) pe_int) (pa_cons pe_int pa_nil)))))) (pg_tup rfl (pgs_cons (pg_name (i := 9) scBlk.nd rfl (Or.inl rfl)) (pgs_cons (pg_name (i := 10) scBlk.nd rfl (Or.inl rfl)) pgs_nil)))) (pss_cons (ps_asg (pe_call GB hr rfl mB kB bB .nil pass0 (pa_cons (pv 0) (pa_cons (pv 1) (pa_cons (pv 2) (pa_cons (pe_op op_sub (pv 3) pe_int) (pa_cons pe_int pa_nil)))))) (pg_tup rfl (pgs_cons (pg_name (i := 11) scBlk.nd rfl (Or.inl rfl)) (pgs_cons (pg_name (i := 12) scBlk.nd rfl (Or.inl rfl)) pgs_nil)))) (pss_one (ps_expr (pe_bm PySem.F.plainAttrs_list PySem.F.slot_list_append PySem.F.type_list_append mt_append (pv 5) (pa_cons (pe_tup (pa_cons pe_str (pa_cons (pe_call GE2 hrE2 rfl mE kE bE .nil pass0 (pa_cons (pv 0) (pa_cons (pv 1) (pa_cons pe_int pa_nil)))) (pa_cons (pv 9) (pa_cons (pe_call GP hrP rfl mP kP bP .nil pass0 (pa_cons (pv 0) (pa_cons (pe_lst (pa_cons (pe_tup pa_nil) (pa_cons (pv 11) pa_nil))) pa_nil))) pa_nil))))) pa_nil)))))) (pss_one (ps_if (pt_cmpR op_eq (pv 7) pe_int (nomark _)) (pss_one (ps_expr (pe_bm PySem.F.plainAttrs_list PySem.F.slot_list_append PySem.F.type_list_append mt_append (pv 5) (pa_cons (pe_tup (pa_cons pe_str (pa_cons (pe_call GE1 hrE1 rfl mE kE bE .nil pass0 (pa_cons (pv 0) (pa_cons (pv 1) (pa_cons pe_int pa_nil)))) (pa_cons (pe_ix ix_tup (pe_call GB hr rfl mB kB bB .nil pass0 (pa_cons (pv 0) (pa_cons (pv 1) (pa_cons (pv 2) (pa_cons (pe_op op_sub (pv 3) pe_int) (pa_cons pe_int pa_nil)))))) pe_int (fun _ _ => rfl)) pa_nil)))) pa_nil)))) (pss_one (ps_if (pt_cmpR op_lt (pv 7) pe_int (nomark _)) (pss_cons (ps_set (i := 8) scBlk.nd rfl (Or.inl rfl) (pe_call GP hrP rfl mP kP bP .nil pass0 (pa_cons (pv 0) (pa_cons (pe_lst (pa_cons pe_str (pa_cons pe_str (pa_cons pe_str pa_nil)))) pa_nil)))) (C8.pss_cut (ps_set (i := 13) scBlk.nd rfl (Or.inl rfl) (pe_ix ix_tup (pe_call GB hr rfl mB kB bB .nil pass0 (pa_cons (pv 0) (pa_cons (pe_op op_cat (pv 1) (pe_ifExp (pt_cmpR op_notIn_seq (pv 8) (pv 1) (by rfl)) (pe_lst (pa_cons (pv 8) pa_nil)) (pe_lst pa_nil))) (pa_cons (pv 2) (pa_cons (pe_op op_sub (pv 3) pe_int) (pa_cons pe_int pa_nil)))))) pe_int (fun _ _ => rfl))) (pss_one (ps_expr (pe_bm PySem.F.plainAttrs_list PySem.F.slot_list_append PySem.F.type_list_append mt_append (pv 5) (pa_cons (pe_tup (pa_cons pe_str (pa_cons (pv 8) (pa_cons (pe_call GS hrS rfl mS kS bS .nil pass0 (pa_cons (pv 0) (pa_cons (pv 1) pa_nil))) (pa_cons (pe_call GS hrS rfl mS kS bS .nil pass0 (pa_cons (pv 0) (pa_cons (pv 1) pa_nil))) (pa_cons (pv 13) pa_nil)))))) pa_nil)))))) (pss_one (ps_if (PW.pt (pw_and (pt_cmpR op_eq (pv 7) pe_int (nomark _)) (pw_and1 (pt_cmpR (op_neD hr.units) (pv 2) (pe_lst pa_nil) (nomark _))))) (pss_cons (ps_asg (pe_call GP hrP rfl mP kP bP .nil pass0 (pa_cons (pv 0) (pa_cons (pv 2) pa_nil))) (pg_tup rfl (pgs_cons (pg_name (i := 8) scBlk.nd rfl (Or.inl rfl)) (pgs_cons (pg_name (i := 14) scBlk.nd rfl (Or.inl rfl)) pgs_nil)))) (pss_one (ps_expr (pe_bm PySem.F.plainAttrs_list PySem.F.slot_list_append PySem.F.type_list_append mt_append (pv 5) (pa_cons (pe_tup (pa_cons pe_str (pa_cons (pv 8) (pa_cons (pe_callTy call_tuple_of (by rfl) T.tup (by decide +kernel) (pa_cons (pe_lc (own := [("at", 15)]) (g := gName 15) rfl scBlk.nd (pi_range1 rfl T.range (pa_cons (pv 14) pa_nil)) (blkOk_by (own := [("at", 15)]) (N := blkN) (sc := defScope S__law_block) (by decide +kernel)) (fun _ _ _ _ _ => pg_name (i := 15) scBlk.nd rfl (Or.inl rfl)) (fun _ _ _ _ _ => pts_nil) (fun _ _ _ _ _ => (pe_call GE1 hrE1 rfl mE kE bE .nil pass0 (pa_cons (pv 0) (pa_cons (pv 1) (pa_cons pe_int pa_nil)))))) pa_nil)) pa_nil)))) pa_nil))))) (pss_one (ps_if (PW.pt (pw_and (pt_cmpR op_eq (pv 7) pe_int (nomark _)) (pw_and1 (pt_cmpR op_eq (pe_call GT hrT rfl mT kT bT .nil pass0 (pa_cons (pv 0) (pa_cons pe_int pa_nil))) pe_int (nomark _))))) (pss_one (ps_expr (pe_bm PySem.F.plainAttrs_list PySem.F.slot_list_append PySem.F.type_list_append mt_append (pv 5) (pa_cons (pe_tup (pa_cons pe_str pa_nil)) pa_nil)))) pss_nil))))))))))))))))))
    (pss_one (ps_ret (pe_tup (pa_cons (pe_callTy call_tuple_of (by rfl) T.tup (by decide +kernel) (pa_cons (pv 5) pa_nil)) (pa_cons (pv 1) pa_nil)))))), ?_⟩
  have hDef : ∀ {nq : Addr} {vs : List V} {b : List St} {cur : List Str} {fq : Addr} {H' : Hp}, BInv K r s fq nq H vs b cur H' → DefsAt K H' dq ds := fun g => hD.keep hR hdr g.keep
  -- found, names = [], list(names)
  refine ⟨Nat.zero_le _, fun fq nf => ?_⟩
  have hq1 : (upd H fq (.lst [])) q = some (.lst (ns.map V.str)) := by rw [upd_ne (ne_of_none hq nf)]; exact hq
  refine ⟨_, rfl, q, _, rfl, .inl (SqL.of hq1), fun nq nn => ?_⟩
  refine ⟨(by show 2 ≤ sizeLine; decide), fun tq nt => ⟨tq, _, rfl, SqT.of upd_same, rfl, _, _, rfl, _, _, rfl, rfl, ?_⟩⟩
  have R1 := hR.new nf (.lst [])
  have R2 := R1.new nn (.lst (ns.map V.str))
  have hf1 : (upd H fq (.lst [])) fq = some (.lst []) := upd_same
  have hn2 : (upd (upd H fq (.lst [])) nq (.lst (ns.map V.str))) nq = some (.lst (ns.map V.str)) := upd_same
  have hf2 : (upd (upd H fq (.lst [])) nq (.lst (ns.map V.str))) fq = some (.lst []) := by rw [upd_ne (ne_of_none hf1 nn)]; exact hf1
  have g0 : BInv K r s fq nq H [] [] ns (upd (upd (upd H fq (.lst [])) nq (.lst (ns.map V.str))) tq (.tup [.ref fq, .ref nq])) :=
    (⟨R2, (Keep.new nf _).trans (Keep.new nn _), hf2, hn2, .nil, hR.ne nf, R1.ne nn, ne_of_none hf1 nn, nf⟩ : BInv K r s fq nq H [] [] ns (upd (upd H fq (.lst [])) nq (.lst (ns.map V.str)))).new nt _
  generalize upd (upd (upd H fq (.lst [])) nq (.lst (ns.map V.str))) tq (.tup [.ref fq, .ref nq]) = H1 at g0 ⊢
  have scr : ∀ {nq : Addr} {vs : List V} {b : List St} {cur : List Str} {H' : Hp}, BInv K r s fq nq H vs b cur H' → Scr K H' r s := fun g => ⟨xs, hxs, fun H2 k2 => hSc H2 (g.keep.trans k2)⟩
  -- for step in range(_law_taken(row, size + 1))
  refine ⟨_, rfl, _, rfl, _, _, rfl, rfl, r, s, _, rfl, g0.row, scr g0, by omega, by omega, fun H2 m k2 R2' hm0 hm1 => ?_⟩
  have g2 := g0.keeps k2 R2'
  refine ⟨m, rfl, by omega, by omega, for_range (lo := 0) (n := m.toNat) (fun (i : Nat) (σ : L2.St) (H' : Hp) => ∃ (nq : Addr) (vs : List V) (b : List St) (cur : List Str) (v6 v7 v8 v9 v10 v11 v12 v13 v14 : Option V), σ = sgB r nq dq fq (n + 1) sz v6 v7 v8 v9 v10 v11 v12 v13 v14 ∧ BInv K r s fq nq H vs b cur H' ∧ okB ds (n + 1) ns b ∧ aftB ns b = cur ∧ nmsOk cur ∧ cur.length ≤ ns.length + i ∧ b.length ≤ i)
    ⟨nq, [], [], ns, none, none, none, none, none, none, none, none, none, rfl, g2, (by unfold okB; trivial), rfl, hN, Nat.le_refl _, Nat.le_refl _⟩ ?_ ?_⟩
  · rintro i σ H3 hi ⟨nq, vs, b, cur, v6, v7, v8, v9, v10, v11, v12, v13, v14, rfl, g, hb, hcur, hcn, hcl, hbl⟩
    have hi8 : i < 9 := by omega
    have lenOk : vs.length < sizeLine := by
      rw [KD.DpAll.length g.dp, dB_length]
      exact Nat.lt_of_le_of_lt (show b.length ≤ 1000 by omega) (by decide)
    refine ⟨_, rfl, r, s, 16, rfl, g.row, scr g, by decide, by decide, fun H8 kd k8 R8 hk0 hk1 => ?_⟩
    have g8 := g.keeps k8 R8
    -- A
    refine ⟨_, rfl, _, _, rfl, rfl, _, rfl, ite2 (fun c => ?_) (fun c => ?_)⟩
    · skip
      refine ⟨_, rfl, .inl ⟨rfl, _, SqL.of g8.hf⟩, _, rfl, (by show 2 ≤ sizeLine; decide), fun p np => ?_⟩
      have ga := g8.new np (.lst (rowcol.map V.str))
      refine ⟨r, s, _, rfl, ga.row, scr ga, .inl ⟨p, rowcol.map V.str, rfl, g8.row.ne np, upd_same, (by show 1 ≤ 2; decide), (by show 2 ≤ 1000; decide), fun H3 v k3 R3 hv => ?_⟩⟩
      obtain ⟨x, rfl, hx⟩ := strs_mem hv
      have gb := ga.keeps k3 R3
      refine ⟨_, rfl, _, rfl, r, s, nq, cur, rfl, gb.row, scr gb, gb.hn, gb.nr, by omega, hcn, fun H4 v4 e4 k4 R4 d4 o4 p4 => ?_⟩
      have gc := gb.keeps k4 R4
      refine ⟨(by show 2 ≤ sizeLine; decide), fun t nt => ⟨fq, vs, _, rfl, rfl, (gc.new nt _).hf, lenOk, ?_⟩⟩
      rcases rc_mem hx with rfl | rfl
      · exact ⟨nq, vs ++ [.ref t], b ++ [.row e4], cur, _, _, _, _, _, _, _, _, _, rfl, gc.push nt rfl (.cons (.str _) (.cons d4 .nil)), okB_snoc hb (by rw [hcur]; unfold okS; exact ⟨o4, p4⟩), by rw [aftB_snoc, hcur]; rfl, hcn, by omega, by rw [List.length_append, List.length_singleton]; omega⟩
      · exact ⟨nq, vs ++ [.ref t], b ++ [.col e4], cur, _, _, _, _, _, _, _, _, _, rfl, gc.push nt rfl (.cons (.str _) (.cons d4 .nil)), okB_snoc hb (by rw [hcur]; unfold okS; exact ⟨o4, p4⟩), by rw [aftB_snoc, hcur]; rfl, hcn, by omega, by rw [List.length_append, List.length_singleton]; omega⟩
    have n6 : ¬ kd < 6 := of_decide_eq_false (Bool.eq_false_iff.mpr c)
    refine ⟨_, rfl, rfl, _, rfl, ite2 (fun c2 => absurd (V.int.inj (of_decide_eq_true c2)) (by omega)) (fun _ => iteF ?_)⟩
    refine ⟨_, rfl, rfl, _, rfl, ite2 (fun c3 => ?_) (fun c3 => ?_)⟩
    · refine ⟨_, rfl, .inl ⟨rfl, _, SqL.of g8.hf⟩, _, rfl, _, rfl, r, s, nq, cur, rfl, g8.row, scr g8, g8.hn, g8.nr, by omega, hcn, fun H4 v4 e4 k4 R4 d4 o4 p4 => ?_⟩
      have gc := g8.keeps k4 R4
      refine ⟨(by show 2 ≤ sizeLine; decide), fun t nt => ⟨fq, vs, _, rfl, rfl, (gc.new nt _).hf, lenOk, ?_⟩⟩
      exact ⟨nq, vs ++ [.ref t], b ++ [.say e4], cur, _, _, _, _, _, _, _, _, _, rfl, gc.push nt rfl (.cons (.str _) (.cons d4 .nil)), okB_snoc hb (by rw [hcur]; unfold okS; exact ⟨o4, p4⟩), by rw [aftB_snoc, hcur]; rfl, hcn, by omega, by rw [List.length_append, List.length_singleton]; omega⟩
    refine ⟨_, rfl, _, _, rfl, rfl, _, rfl, ite2 (fun c4 => ?_) (fun c4 => ?_)⟩
    · refine ⟨_, rfl, (by show 4 ≤ sizeLine; decide), fun p np => ?_⟩
      have ga := g8.new np (.lst (letN.map V.str))
      refine ⟨r, s, _, rfl, ga.row, scr ga, .inl ⟨p, letN.map V.str, rfl, g8.row.ne np, upd_same, (by show 1 ≤ 4; decide), (by show 4 ≤ 1000; decide), fun H3 v k3 R3 hv => ?_⟩⟩
      obtain ⟨x, rfl, hx⟩ := strs_mem hv
      have gb := ga.keeps k3 R3
      refine ⟨_, rfl, .inl ⟨rfl, _, SqL.of gb.hf⟩, _, rfl, _, rfl, _, rfl, r, s, nq, cur, rfl, gb.row, scr gb, gb.hn, gb.nr, by omega, hcn, fun H4 v4 e4 k4 R4 d4 o4 p4 => ?_⟩
      have gc := gb.keeps k4 R4
      refine ⟨(by show 3 ≤ sizeLine; decide), fun t nt => ⟨fq, vs, _, rfl, rfl, (gc.new nt _).hf, lenOk, ?_⟩⟩
      have gd := gc.push (st := .set x e4) nt rfl (.cons (.str _) (.cons (.str x) (.cons d4 .nil)))
      generalize upd (upd H4 t (.tup [.str "let", .str x, v4])) fq (.lst (vs ++ [.ref t])) = H5 at gd ⊢
      -- names = names + ..
      refine ⟨_, rfl, _, rfl, _, rfl, nq, _, rfl, .inl (SqL.of gd.hn), rfl, flat_strs _, _, rfl, ?_⟩
      have fin : ∀ (pz : Addr) (zs : List V), H5 pz = none → zs = (if x ∈ cur then [] else [V.str x]) → ∀ p2, (upd H5 pz (.lst zs)) p2 = none →
          (fun (i : Nat) (σ : L2.St) (H' : Hp) => ∃ (nq : Addr) (vs : List V) (b : List St) (cur : List Str) (v6 v7 v8 v9 v10 v11 v12 v13 v14 : Option V), σ = sgB r nq dq fq (n + 1) sz v6 v7 v8 v9 v10 v11 v12 v13 v14 ∧ BInv K r s fq nq H vs b cur H' ∧ okB ds (n + 1) ns b ∧ aftB ns b = cur ∧ nmsOk cur ∧ cur.length ≤ ns.length + i ∧ b.length ≤ i) (i + 1) (sgB r p2 dq fq (n + 1) sz (some (.int (0 + (i : Int)))) (some (.int kd)) (some (.str x)) v9 v10 v11 v12 v13 v14) (upd (upd H5 pz (.lst zs)) p2 (.lst (cur.map V.str ++ zs))) := fun pz zs hpz ez p2 np2 => by
        have ge := gd.new hpz (.lst zs)
        have gf := ge.new np2 (.lst (cur.map V.str ++ zs))
        have e : cur.map V.str ++ zs = (if x ∈ cur then cur else cur ++ [x]).map V.str := by rw [ez, grow_eq]
        refine ⟨p2, vs ++ [.ref t], b ++ [.set x e4], (if x ∈ cur then cur else cur ++ [x]), _, _, _, _, _, _, _, _, _, rfl, ?_, okB_snoc hb (by rw [hcur]; unfold okS; exact ⟨hx, o4, p4⟩), by rw [aftB_snoc, hcur]; rfl, nms_grow hcn (letN_all x hx), ?_, by rw [List.length_append, List.length_singleton]; omega⟩
        · exact ⟨gf.row, gf.keep, gf.hf, (by rw [← e]; exact upd_same), gf.dp, gf.fr, ge.row.ne np2, ne_of_none ge.hf np2, gf.bf⟩
        · have := len_grow x cur
          omega
      show if (!inV (.str x) (cur.map V.str)) = true then _ else _
      rw [in_strs]
      refine ite2 (fun c3 => ?_) (fun c3 => ?_)
      · have hin : x ∉ cur := by
          intro q
          rw [decide_eq_true q] at c3
          cases c3
        refine ⟨_, rfl, (by show 1 ≤ sizeLine; decide), fun pz hpz => ?_⟩
        have ge := gd.new hpz (.lst [.str x])
        exact ⟨nq, pz, _, _, rfl, rfl, ge.hn, upd_same, (by rw [List.length_map]; exact Nat.le_trans (show cur.length + 1 ≤ 1000 by omega) (by decide)), fun p2 np2 => fin pz [.str x] hpz (by rw [if_neg hin]) p2 np2⟩
      · have hin : x ∈ cur := by
          apply Classical.byContradiction
          intro q
          rw [decide_eq_false q] at c3
          exact c3 rfl
        refine ⟨Nat.zero_le _, fun pz hpz => ?_⟩
        have ge := gd.new hpz (.lst [])
        exact ⟨nq, pz, _, _, rfl, rfl, ge.hn, upd_same, (by rw [List.length_map]; exact Nat.le_trans (show cur.length + 0 ≤ 1000 by omega) (by decide)), fun p2 np2 => fin pz [] hpz (by rw [if_pos hin]) p2 np2⟩
    refine ⟨_, rfl, _, _, rfl, rfl, _, rfl, ite2 (fun c5 => ?_) (fun c5 => ?_)⟩
    · -- one, left = _law_block(..)
      refine ⟨_, rfl, _, rfl, _, rfl, _, rfl, _, _, rfl, rfl, r, s, nq, dq, cur, ds, 2, args5 r nq dq n, g8.row, scr g8, g8.hn, g8.nr, hcn, by omega, hdr, hDef g8, by decide, fun H3 t1 bt1 nq1 b1 k3 R3 ht1 hb1 ob1 lb1 => ?_⟩
      have ga := g8.keeps k3 R3
      refine ⟨t1, _, rfl, SqT.of ht1, rfl, _, _, rfl, _, _, rfl, rfl, ?_⟩
      refine ⟨_, rfl, _, rfl, _, rfl, _, rfl, _, _, rfl, rfl, r, s, nq, dq, cur, ds, 2, args5 r nq dq n, ga.row, scr ga, ga.hn, ga.nr, hcn, by omega, hdr, hDef ga, by decide, fun H4 t2 bt2 nq2 b2 k4 R4 ht2 hb2 ob2 lb2 => ?_⟩
      have gb := ga.keeps k4 R4
      have hb1' := Dp.kt (ga.row.kt k4) (by show tupDs (dB b1) = true; exact tupD_B b1) hb1
      refine ⟨t2, _, rfl, SqT.of ht2, rfl, _, _, rfl, _, _, rfl, rfl, ?_⟩
      -- found.append(("if", _law_expr(row, names, 2), one, _law_pick(row, [(), other])))
      refine ⟨_, rfl, .inl ⟨rfl, _, SqL.of gb.hf⟩, _, rfl, _, rfl, r, s, nq, cur, rfl, gb.row, scr gb, gb.hn, gb.nr, by omega, hcn, fun H5 v5 e5 k5 R5 d5 o5 p5 => ?_⟩
      have gc := gb.keeps k5 R5
      refine ⟨_, rfl, _, rfl, Nat.zero_le _, fun pe ne => ?_⟩
      have gd := gc.new ne (.tup [])
      refine ⟨_, rfl, (by show 2 ≤ sizeLine; decide), fun pl nl => ?_⟩
      have ge := gd.new nl (.lst [.ref pe, .ref bt2])
      refine ⟨r, s, _, rfl, ge.row, scr ge, .inl ⟨pl, _, rfl, gd.row.ne nl, upd_same, (by show 1 ≤ 2; decide), (by show 2 ≤ 1000; decide), fun H6 u6 k6 R6 hv6 => ?_⟩⟩
      have gf := ge.keeps k6 R6
      refine ⟨(by show 4 ≤ sizeLine; decide), fun t nt => ⟨fq, vs, _, rfl, rfl, (gf.new nt _).hf, lenOk, ?_⟩⟩
      have kce : Keep r H5 (upd (upd H5 pe (.tup [])) pl (.lst [.ref pe, .ref bt2])) := (Keep.new ne _).trans (Keep.new nl _)
      have k56 := kce.trans k6
      have K5 : KT K H5 H6 := gc.row.kt k56
      have dd5 := Dp.kt K5 (tupD_E e5) d5
      have dd1 := Dp.kt K5 (by show tupDs (dB b1) = true; exact tupD_B b1) (Dp.kt (gb.row.kt k5) (by show tupDs (dB b1) = true; exact tupD_B b1) hb1')
      have dd2 := Dp.kt K5 (by show tupDs (dB b2) = true; exact tupD_B b2) (Dp.kt (gb.row.kt k5) (by show tupDs (dB b2) = true; exact tupD_B b2) hb2)
      have dde : Dp K H6 (.ref pe) (.tuple (dB [])) := Dp.kt (gd.row.kt ((Keep.new nl _).trans k6)) rfl (Dp.new (vs := []) (ds := []) ne .nil)
      have fin : ∀ b3 : List St, Dp K H6 u6 (.tuple (dB b3)) → okB ds n cur b3 → b3.length ≤ 2 → _ := fun b3 d3 o3 l3 =>
        (⟨nq, vs ++ [.ref t], b ++ [.ite e5 b1 b3], cur, _, _, _, _, _, _, _, _, _, rfl, gf.push (st := .ite e5 b1 b3) nt rfl (.cons (.str "if") (.cons dd5 (.cons dd1 (.cons d3 .nil)))), okB_snoc hb (by rw [hcur]; unfold okS; exact ⟨o5, p5, ⟨lb1, ob1⟩, ⟨l3, o3⟩⟩), by rw [aftB_snoc, hcur]; rfl, hcn, by omega, by rw [List.length_append, List.length_singleton]; omega⟩ :
          (fun (i : Nat) (σ : L2.St) (H' : Hp) => ∃ (nq : Addr) (vs : List V) (b : List St) (cur : List Str) (v6 v7 v8 v9 v10 v11 v12 v13 v14 : Option V), σ = sgB r nq dq fq (n + 1) sz v6 v7 v8 v9 v10 v11 v12 v13 v14 ∧ BInv K r s fq nq H vs b cur H' ∧ okB ds (n + 1) ns b ∧ aftB ns b = cur ∧ nmsOk cur ∧ cur.length ≤ ns.length + i ∧ b.length ≤ i) (i + 1) (sgB r nq dq fq (n + 1) sz (some (.int (0 + (i : Int)))) (some (.int kd)) v8 (some (.ref bt1)) (some (.ref nq1)) (some (.ref bt2)) (some (.ref nq2)) v13 v14) (upd (upd H6 t (.tup [.str "if", v5, .ref bt1, u6])) fq (.lst (vs ++ [.ref t]))))
      simp only [List.mem_cons, List.not_mem_nil, or_false] at hv6
      rcases hv6 with rfl | rfl
      · exact fin [] dde (by unfold okB; trivial) (Nat.zero_le _)
      · exact fin b2 dd2 ob2 lb2
    refine ⟨_, rfl, rfl, _, rfl, ite2 (fun c6 => ?_) (fun c6 => ?_)⟩
    · refine ⟨_, rfl, .inl ⟨rfl, _, SqL.of g8.hf⟩, _, rfl, _, rfl, r, s, nq, cur, rfl, g8.row, scr g8, g8.hn, g8.nr, by omega, hcn, fun H5 v5 e5 k5 R5 d5 o5 p5 => ?_⟩
      have gc := g8.keeps k5 R5
      refine ⟨_, rfl, _, rfl, _, rfl, _, rfl, _, _, rfl, rfl, r, s, nq, dq, cur, ds, 2, args5 r nq dq n, gc.row, scr gc, gc.hn, gc.nr, hcn, by omega, hdr, hDef gc, by decide, fun H3 t1 bt1 nq1 b1 k3 R3 ht1 hb1 ob1 lb1 => ?_⟩
      have gd := gc.keeps k3 R3
      refine ⟨t1, _, _, _, rfl, rfl, SqT.of ht1, rfl, ?_⟩
      refine ⟨(by show 3 ≤ sizeLine; decide), fun t nt => ⟨fq, vs, _, rfl, rfl, (gd.new nt _).hf, lenOk, ?_⟩⟩
      exact ⟨nq, vs ++ [.ref t], b ++ [.whl e5 b1], cur, _, _, _, _, _, _, _, _, _, rfl, gd.push (st := .whl e5 b1) nt rfl (.cons (.str "while") (.cons (Dp.kt (gc.row.kt k3) (tupD_E e5) d5) (.cons hb1 .nil))), okB_snoc hb (by rw [hcur]; unfold okS; exact ⟨o5, p5, lb1, ob1⟩), by rw [aftB_snoc, hcur]; rfl, hcn, by omega, by rw [List.length_append, List.length_singleton]; omega⟩
    refine ⟨_, rfl, _, _, rfl, rfl, _, rfl, ite2 (fun c7 => ?_) (fun c7 => ?_)⟩
    · refine ⟨_, rfl, (by show 3 ≤ sizeLine; decide), fun p np => ?_⟩
      have ga := g8.new np (.lst (forN.map V.str))
      refine ⟨r, s, _, rfl, ga.row, scr ga, .inl ⟨p, forN.map V.str, rfl, g8.row.ne np, upd_same, (by show 1 ≤ 3; decide), (by show 3 ≤ 1000; decide), fun H3 v k3 R3 hv => ?_⟩⟩
      obtain ⟨x, rfl, hx⟩ := strs_mem hv
      have gb := ga.keeps k3 R3
      have hgl := len_grow x cur
      -- inner = _law_block(row, names + .., defs, deep - 1, 2)[0]
      refine ⟨fun σ4 H4 => ∃ (bt1 : Addr) (b1 : List St), σ4 = sgB r nq dq fq (n + 1) sz (some (.int (0 + (i : Int)))) (some (.int kd)) (some (.str x)) v9 v10 v11 v12 (some (.ref bt1)) v14 ∧ BInv K r s fq nq H vs b cur H4 ∧ Dp K H4 (.ref bt1) (.tuple (dB b1)) ∧ okB ds n (if x ∈ cur then cur else cur ++ [x]) b1 ∧ b1.length ≤ 2, ?_, ?_⟩
      · refine ⟨_, rfl, _, rfl, _, rfl, _, rfl, nq, _, rfl, .inl (SqL.of gb.hn), rfl, flat_strs _, _, rfl, ?_⟩
        show if (!inV (.str x) (cur.map V.str)) = true then _ else _
        rw [in_strs]
        refine ite2 (fun c3 => ?_) (fun c3 => ?_)
        · have hin : x ∉ cur := by
            intro q
            rw [decide_eq_true q] at c3
            cases c3
          refine ⟨_, rfl, (by show 1 ≤ sizeLine; decide), fun pz hpz => ?_⟩
          have gc := gb.new hpz (.lst [.str x])
          refine ⟨nq, pz, _, _, rfl, rfl, gc.hn, upd_same, (by rw [List.length_map]; exact Nat.le_trans (show cur.length + 1 ≤ 1000 by omega) (by decide)), fun p2 np2 => ?_⟩
          have e : cur.map V.str ++ [.str x] = (if x ∈ cur then cur else cur ++ [x]).map V.str := by rw [← grow_eq, if_neg hin]
          have gd := gc.new np2 (.lst (cur.map V.str ++ [.str x]))
          refine ⟨_, rfl, _, rfl, _, _, rfl, rfl, r, s, p2, dq, (if x ∈ cur then cur else cur ++ [x]), ds, 2, args5 r p2 dq n, gd.row, scr gd, by rw [← e]; exact upd_same, gc.row.ne np2, nms_grow hcn (forN_all x hx), by omega, hdr, hDef gd, by decide, fun H4 t1 bt1 nq1 b1 k4 R4 ht1 hb1 ob1 lb1 => ?_⟩
          exact ⟨t1, _, _, _, rfl, rfl, SqT.of ht1, rfl, bt1, b1, rfl, gd.keeps k4 R4, hb1, ob1, lb1⟩
        · have hin : x ∈ cur := by
            apply Classical.byContradiction
            intro q
            rw [decide_eq_false q] at c3
            exact c3 rfl
          refine ⟨Nat.zero_le _, fun pz hpz => ?_⟩
          have gc := gb.new hpz (.lst [])
          refine ⟨nq, pz, _, _, rfl, rfl, gc.hn, upd_same, (by rw [List.length_map]; exact Nat.le_trans (show cur.length + 0 ≤ 1000 by omega) (by decide)), fun p2 np2 => ?_⟩
          have e : cur.map V.str ++ [] = (if x ∈ cur then cur else cur ++ [x]).map V.str := by rw [← grow_eq, if_pos hin]
          have gd := gc.new np2 (.lst (cur.map V.str ++ []))
          refine ⟨_, rfl, _, rfl, _, _, rfl, rfl, r, s, p2, dq, (if x ∈ cur then cur else cur ++ [x]), ds, 2, args5 r p2 dq n, gd.row, scr gd, by rw [← e]; exact upd_same, gc.row.ne np2, nms_grow hcn (forN_all x hx), by omega, hdr, hDef gd, by decide, fun H4 t1 bt1 nq1 b1 k4 R4 ht1 hb1 ob1 lb1 => ?_⟩
          exact ⟨t1, _, _, _, rfl, rfl, SqT.of ht1, rfl, bt1, b1, rfl, gd.keeps k4 R4, hb1, ob1, lb1⟩
      rintro σ4 H4 ⟨bt1, b1, rfl, gc, hb1, ob1, lb1⟩
      refine ⟨_, rfl, .inl ⟨rfl, _, SqL.of gc.hf⟩, _, rfl, _, rfl, _, rfl, r, s, nq, cur, rfl, gc.row, scr gc, gc.hn, gc.nr, by omega, hcn, fun H5 v5 e5 k5 R5 d5 o5 p5 => ?_⟩
      have gd := gc.keeps k5 R5
      refine ⟨_, rfl, _, rfl, r, s, nq, cur, rfl, gd.row, scr gd, gd.hn, gd.nr, by omega, hcn, fun H6 v6 e6 k6 R6 d6 o6 p6 => ?_⟩
      have ge := gd.keeps k6 R6
      refine ⟨_, rfl, (by show 5 ≤ sizeLine; decide), fun t nt => ⟨fq, vs, _, rfl, rfl, (ge.new nt _).hf, lenOk, ?_⟩⟩
      have hb1' := Dp.kt (gd.row.kt k6) (by show tupDs (dB b1) = true; exact tupD_B b1) (Dp.kt (gc.row.kt k5) (by show tupDs (dB b1) = true; exact tupD_B b1) hb1)
      exact ⟨nq, vs ++ [.ref t], b ++ [.for_ x e5 e6 b1], cur, _, _, _, _, _, _, _, _, _, rfl, ge.push (st := .for_ x e5 e6 b1) nt rfl (.cons (.str "for") (.cons (.str x) (.cons (Dp.kt (gd.row.kt k6) (tupD_E e5) d5) (.cons d6 (.cons hb1' .nil))))), okB_snoc hb (by rw [hcur]; unfold okS; exact ⟨hx, ⟨o5, p5⟩, ⟨o6, p6⟩, lb1, ob1⟩), by rw [aftB_snoc, hcur]; rfl, hcn, by omega, by rw [List.length_append, List.length_singleton]; omega⟩
    refine ⟨_, rfl, rfl, _, rfl, ite2 (fun c8 => ?_) (fun c8 => ?_)⟩
    · obtain ⟨dvs, hdv, hdd, hdl, hdo⟩ := hDef g8
      refine ⟨_, rfl, Nat.zero_le _, fun p np => ⟨.list (ds.map dfD), .list [], .lst (SqL.of (by rw [upd_ne (ne_of_none hdv np)]; exact hdv)) (KD.DpAll.same (fun b o z => by rw [upd_ne (ne_of_none z np)]; exact z) hdd), .lst (SqL.of upd_same) .nil, shaped_defs hdo, rfl, _, rfl, ?_⟩⟩
      rw [eqv_nil]
      have ga := g8.new np (.lst [])
      refine ite2 (fun c9 => ?_) (fun c9 => ?_)
      · have hne : 1 ≤ dvs.length := by
          rw [KD.DpAll.length hdd]
          cases h : ds.map dfD with
          | nil => rw [h] at c9; exact absurd c9 (by decide)
          | cons x l => exact Nat.succ_le_succ (Nat.zero_le _)
        have hdv2 : (upd H8 p (.lst [])) dq = some (.lst dvs) := by rw [upd_ne (ne_of_none hdv np)]; exact hdv
        refine ⟨_, rfl, _, rfl, r, s, _, rfl, ga.row, scr ga, .inl ⟨dq, dvs, rfl, hdr, hdv2, hne, by rw [KD.DpAll.length hdd, List.length_map]; omega, fun H3 v k3 R3 hv => ?_⟩⟩
        have gb := ga.keeps k3 R3
        obtain ⟨jx, hj, ej⟩ := List.getElem_of_mem hv
        obtain ⟨d, hd1, hd2⟩ := KD.DpAll.get (i := jx) hdd (by rw [List.getElem?_eq_getElem hj, ej])
        obtain ⟨pr, hpr, rfl⟩ : ∃ pr, pr ∈ ds ∧ d = dfD pr := by
          rw [List.getElem?_map] at hd1
          cases e : ds[jx]? with
          | none => rw [e] at hd1; cases hd1
          | some pr => rw [e] at hd1; exact ⟨pr, List.mem_of_getElem? e, (Option.some.inj hd1).symm⟩
        obtain ⟨a, rfl, hT⟩ := dp_pair (Dp.kt (g8.row.kt ((Keep.new np _).trans k3)) rfl hd2)
        have hp2 := (hdo pr hpr).2
        refine ⟨a, _, rfl, hT, rfl, _, _, rfl, _, _, rfl, rfl, ?_⟩
        refine ⟨_, rfl, .inl ⟨rfl, _, SqL.of gb.hf⟩, _, rfl, _, rfl, _, rfl, by omega, by omega, fun D hD => ?_⟩
        have nDr : D ≠ r := gb.row.ne hD
        have nfD := ne_of_none gb.hf hD
        have nnD := ne_of_none gb.hn hD
        have bD : H D = none := gb.keep.free gb.row hD
        refine lc_range (lo := 0) (n := ((pr.2 : Nat) : Int).toNat) (fun j' H' => ∃ (es : List Ex) (ws : List V), es.length = j' ∧ (∀ e ∈ es, okE cur e ∧ dpE e ≤ 1) ∧ H' D = some (.lst ws) ∧ DpAll K H' ws (es.map Ex.d) ∧ BInv K r s fq nq H vs b cur H')
          ⟨[], [], rfl, (fun _ h => nomatch h), upd_same, .nil, gb.new hD _⟩ ?_ ?_
        · rintro j' H5 hj' ⟨es, ws, hel, heo, hD5, hws, g5⟩
          refine ⟨rfl, ?_⟩
          unfold tYes
          refine iteT ?_
          refine ⟨_, rfl, _, rfl, r, s, nq, cur, rfl, g5.row, scr g5, g5.hn, g5.nr, by omega, hcn, fun H6 v6 e6 k6 R6 d6 o6 p6 => ?_⟩
          have hD6 := k6 D _ nDr hD5
          have kD := KT.upd (K := K) hD6 (.lst (ws ++ [v6]))
          refine ⟨ws, hD6, (by rw [KD.DpAll.length hws, List.length_map]; exact Nat.lt_of_le_of_lt (show es.length ≤ 1000 by omega) (by decide)), es ++ [e6], ws ++ [v6], by rw [List.length_append, hel]; rfl, fun x hx => ?_, upd_same, ?_, (g5.keeps k6 R6).at hD6 nDr.symm nfD nnD bD _⟩
          · rcases List.mem_append.mp hx with h | h
            · exact heo x h
            · rw [List.mem_singleton.mp h]
              exact ⟨o6, p6⟩
          · rw [List.map_append]
            exact DpAll.snoc (Dp.kt kD (tupD_E e6) d6) (DpAll.kt kD (tupDs_E es) (DpAll.kt (g5.row.kt k6) (tupDs_E es) hws))
        · rintro H5 ⟨es, ws, hel, heo, hD5, hws, g5⟩
          refine ⟨D, ws, rfl, .inl ⟨SqL.of hD5, fun l nl => ?_⟩⟩
          have g6 := g5.new nl (.tup ws)
          refine ⟨(by show 3 ≤ sizeLine; decide), fun t nt => ⟨fq, vs, _, rfl, rfl, (g6.new nt _).hf, lenOk, ?_⟩⟩
          have hel2 : es.length = pr.2 := by omega
          exact ⟨nq, vs ++ [.ref t], b ++ [.call pr.1 es], cur, _, _, _, _, _, _, _, _, _, rfl, g6.push (st := .call pr.1 es) nt rfl (.cons (.str "do") (.cons (.str pr.1) (.cons (Dp.new nl hws) .nil))), okB_snoc hb (by rw [hcur]; unfold okS; exact ⟨by rw [hel2]; exact hpr, heo⟩), by rw [aftB_snoc, hcur]; rfl, hcn, by omega, by rw [List.length_append, List.length_singleton]; omega⟩
      · refine ⟨_, rfl, rfl, _, rfl, ite2 (fun c10 => ?_) (fun c10 => iteF ?_)⟩
        · refine ⟨_, rfl, r, s, 4, rfl, ga.row, scr ga, by decide, by decide, fun H9 u k9 R9 _ _ => ⟨rfl, _, rfl, ?_⟩⟩
          have g9 := (ga).keeps k9 R9
          refine ite2 (fun c9 => ?_) (fun c9 => ?_)
          · refine ⟨_, rfl, .inl ⟨rfl, _, SqL.of g9.hf⟩, (by show 1 ≤ sizeLine; decide), fun t nt => ⟨fq, vs, _, rfl, rfl, (g9.new nt _).hf, lenOk, ?_⟩⟩
            exact ⟨nq, vs ++ [.ref t], b ++ [.stop], cur, _, _, _, _, _, _, _, _, _, rfl, g9.push (st := .stop) nt rfl (.cons (.str "stop") .nil), okB_snoc hb (by unfold okS; trivial), by rw [aftB_snoc, hcur]; rfl, hcn, by omega, by rw [List.length_append, List.length_singleton]; omega⟩
          · exact ⟨nq, vs, b, cur, _, _, _, _, _, _, _, _, _, rfl, g9, hb, hcur, hcn, by omega, by omega⟩
        · exact ⟨nq, vs, b, cur, _, _, _, _, _, _, _, _, _, rfl, ga, hb, hcur, hcn, by omega, by omega⟩
    · refine iteF ?_
      refine ⟨_, rfl, rfl, _, rfl, ite2 (fun c10 => ?_) (fun c10 => iteF ?_)⟩
      · refine ⟨_, rfl, r, s, 4, rfl, g8.row, scr g8, by decide, by decide, fun H9 u k9 R9 _ _ => ⟨rfl, _, rfl, ?_⟩⟩
        have g9 := (g8).keeps k9 R9
        refine ite2 (fun c9 => ?_) (fun c9 => ?_)
        · refine ⟨_, rfl, .inl ⟨rfl, _, SqL.of g9.hf⟩, (by show 1 ≤ sizeLine; decide), fun t nt => ⟨fq, vs, _, rfl, rfl, (g9.new nt _).hf, lenOk, ?_⟩⟩
          exact ⟨nq, vs ++ [.ref t], b ++ [.stop], cur, _, _, _, _, _, _, _, _, _, rfl, g9.push (st := .stop) nt rfl (.cons (.str "stop") .nil), okB_snoc hb (by unfold okS; trivial), by rw [aftB_snoc, hcur]; rfl, hcn, by omega, by rw [List.length_append, List.length_singleton]; omega⟩
        · exact ⟨nq, vs, b, cur, _, _, _, _, _, _, _, _, _, rfl, g9, hb, hcur, hcn, by omega, by omega⟩
      · exact ⟨nq, vs, b, cur, _, _, _, _, _, _, _, _, _, rfl, g8, hb, hcur, hcn, by omega, by omega⟩

  · rintro σ H3 ⟨nq, vs, b, cur, v6, v7, v8, v9, v10, v11, v12, v13, v14, rfl, g, hb, hcur, hcn, hcl, hbl⟩
    refine ⟨_, rfl, fq, _, rfl, .inl ⟨SqL.of g.hf, fun bt nb => ?_⟩⟩
    have ga := g.new nb (.tup vs)
    refine ⟨_, rfl, (by show 2 ≤ sizeLine; decide), fun t nt2 => ?_⟩
    have gb := ga.new nt2 (.tup [.ref bt, .ref nq])
    have hbt : Dp K (upd H3 bt (.tup vs)) (.ref bt) (.tuple (dB b)) := Dp.new nb g.dp
    exact k _ t bt nq b gb.keep gb.row upd_same (Dp.kt (ga.row.kt (Keep.new nt2 _)) (by show tupDs (dB b) = true; exact tupD_B b) hbt) hb (by omega)
end
end KD

namespace KD
open PySem L2 TL
/-- the names of the drawn definitions, by their places -/
def defN : Nat → List Str
  | 0 => ["fx", "paintx", "ax"]
  | 1 => ["fy", "painty", "ay"]
  | _ => []
def pq : List Str := ["p", "q"]
def sig (f : Df) : Str × Nat := (f.name, f.args.length)
/-- a drawn program -/
structure okPr (sz : Nat) (p : Pr) : Prop where
  len : p.defs.length ≤ 2
  defs : ∀ (i : Nat) (f : Df), p.defs[i]? = some f → f.name ∈ defN i ∧ f.args = pq.take f.args.length ∧ f.args.length ≤ 2 ∧ f.body.length ≤ 3 ∧ okB (p.defs.map sig) 1 f.args f.body
  blen : p.body.length ≤ sz
  body : okB (p.defs.map sig) 2 [] p.body
theorem tupD_Df (f : Df) : tupD f.d = true := by
  show (true && (tupDs (f.args.map .str) && (tupDs (dB f.body) && true))) = true
  rw [tupDs_str, tupD_B]
  rfl
theorem tupDs_Df : ∀ fs : List Df, tupDs (fs.map Df.d) = true
  | [] => rfl
  | f :: fs => by
    show (tupD f.d && tupDs (fs.map Df.d)) = true
    rw [tupD_Df, tupDs_Df fs]
    rfl
theorem tupD_Pr (p : Pr) : tupD p.d = true := by
  show (tupDs (p.defs.map Df.d) && (tupDs (dB p.body) && true)) = true
  rw [tupDs_Df, tupD_B]
  rfl
section
variable {P : Program} {w : World} {K : PySem.W.Frag} {mg : Str → Option Value} {base : Heap}
structure WInv (K : PySem.W.Frag) (r s dq fq : Addr) (H0 : Hp) (dvs : List V) (ds : List (Str × Nat)) (fvs : List V) (fs : List Df) (H : Hp) : Prop where
  row : RowAt H r s
  keep : Keep r H0 H
  hd : H dq = some (.lst dvs)
  dd : DpAll K H dvs (ds.map dfD)
  hf : H fq = some (.lst fvs)
  df : DpAll K H fvs (fs.map Df.d)
  dr : dq ≠ r
  fr : fq ≠ r
  ne : dq ≠ fq
  bd : H0 dq = none
  bf : H0 fq = none
section
variable {r s dq fq : Addr} {H0 H H' : Hp} {dvs fvs : List V} {ds : List (Str × Nat)} {fs : List Df}
theorem WInv.keeps (g : WInv K r s dq fq H0 dvs ds fvs fs H) (k : Keep r H H') (h : RowAt H' r s) : WInv K r s dq fq H0 dvs ds fvs fs H' :=
  ⟨h, g.keep.trans k, k _ _ g.dr g.hd, DpAll.kt (g.row.kt k) (tupDs_df ds) g.dd, k _ _ g.fr g.hf, DpAll.kt (g.row.kt k) (tupDs_Df fs) g.df, g.dr, g.fr, g.ne, g.bd, g.bf⟩
theorem WInv.new (g : WInv K r s dq fq H0 dvs ds fvs fs H) {p : Addr} (hp : H p = none) (o : HO) : WInv K r s dq fq H0 dvs ds fvs fs (upd H p o) := g.keeps (Keep.new hp o) (g.row.new hp o)
theorem WInv.pushD (g : WInv K r s dq fq H0 dvs ds fvs fs H) {t : Addr} (p : Str × Nat) (ht : H t = none) :
    WInv K r s dq fq H0 (dvs ++ [.ref t]) (ds ++ [p]) fvs fs (upd (upd H t (.tup [.str p.1, .int p.2])) dq (.lst (dvs ++ [.ref t]))) := by
  have g' := g.new ht (.tup [.str p.1, .int p.2])
  have k' : KT K (upd H t (.tup [.str p.1, .int p.2])) (upd (upd H t (.tup [.str p.1, .int p.2])) dq (.lst (dvs ++ [.ref t]))) := KT.upd g'.hd _
  obtain ⟨i, a, b', hr, h2⟩ := g'.row
  refine ⟨⟨i, a, b', by rw [upd_ne g.dr.symm]; exact hr, h2⟩, fun c o n q => by rw [upd_ne (ne_of_none q g.bd)]; exact g'.keep c o n q, upd_same, ?_, by rw [upd_ne g.ne.symm]; exact g'.hf, DpAll.kt k' (tupDs_Df fs) g'.df, g.dr, g.fr, g.ne, g.bd, g.bf⟩
  rw [List.map_append]
  exact DpAll.snoc (Dp.kt k' rfl (Dp.new ht (.cons (.str _) (.cons (.int _) .nil)))) (DpAll.kt k' (tupDs_df ds) g'.dd)
theorem WInv.pushF (g : WInv K r s dq fq H0 dvs ds fvs fs H) {t : Addr} {ws : List V} (f : Df) (ht : H t = none) (hd : DpAll K H ws [.str f.name, .tuple (f.args.map .str), .tuple (dB f.body)]) :
    WInv K r s dq fq H0 dvs ds (fvs ++ [.ref t]) (fs ++ [f]) (upd (upd H t (.tup ws)) fq (.lst (fvs ++ [.ref t]))) := by
  have g' := g.new ht (.tup ws)
  have k' : KT K (upd H t (.tup ws)) (upd (upd H t (.tup ws)) fq (.lst (fvs ++ [.ref t]))) := KT.upd g'.hf _
  obtain ⟨i, a, b', hr, h2⟩ := g'.row
  refine ⟨⟨i, a, b', by rw [upd_ne g.fr.symm]; exact hr, h2⟩, fun c o n q => by rw [upd_ne (ne_of_none q g.bf)]; exact g'.keep c o n q, by rw [upd_ne g.ne]; exact g'.hd, DpAll.kt k' (tupDs_df ds) g'.dd, upd_same, ?_, g.dr, g.fr, g.ne, g.bd, g.bf⟩
  rw [List.map_append]
  exact DpAll.snoc (Dp.kt k' (tupD_Df f) (Dp.new ht hd)) (DpAll.kt k' (tupDs_Df fs) g'.df)
end
def spWhole (K : PySem.W.Frag) : Sp := fun vs H Q _ => ∃ (r s : Addr) (sz : Nat), vs = [.ref r, .int sz] ∧ RowAt H r s ∧ Scr K H r s ∧ sz ≤ 8 ∧
  ∀ (H' : Hp) (t : Addr) (p : Pr), Keep r H H' → RowAt H' r s → Dp K H' (.ref t) p.d → okPr sz p → Q (.ref t) H'
theorem scWhole : FnScope ["row", "size", "defs", "found", "step", "name", "many", "names"] ["row", "size"] (defScope S__law_whole) := ⟨rfl, rfl, rfl, by decide +kernel, rfl, by decide +kernel, by decide +kernel⟩
def bases : List Str := ["f", "paint", "a"]
theorem tl_xyz : tl ("xyz" : Str) = [120, 121, 122] := by decide +kernel
theorem def_names : ∀ b ∈ bases, ∀ i : Nat, i < 2 → (b ++ (⟨#[120 + i]⟩ : Str)) ∈ defN i ∧ b.length ≤ 10 := by
  intro b hb i hi
  match i, hi with
  | 0, _ => exact (by decide +kernel : ∀ b ∈ bases, (b ++ (⟨#[120 + 0]⟩ : Str)) ∈ defN 0 ∧ b.length ≤ 10) b hb
  | 1, _ => exact (by decide +kernel : ∀ b ∈ bases, (b ++ (⟨#[120 + 1]⟩ : Str)) ∈ defN 1 ∧ b.length ≤ 10) b hb
theorem defN_ok : ∀ (i : Nat) (x : Str), x ∈ defN i → PyData.strOk x = true
  | 0, x, h => (by decide +kernel : ∀ x ∈ defN 0, PyData.strOk x = true) x h
  | 1, x, h => (by decide +kernel : ∀ x ∈ defN 1, PyData.strOk x = true) x h
  | n + 2, x, h => by cases h
def okDs (ds : List (Str × Nat)) : Prop := ∀ (i : Nat) (p : Str × Nat), ds[i]? = some p → p.1 ∈ defN i ∧ p.2 ≤ 2
theorem okDs.all {ds : List (Str × Nat)} (h : okDs ds) : ∀ p ∈ ds, PyData.strOk p.1 = true ∧ p.2 ≤ 2 := fun p hp => by
  obtain ⟨j, hj, e⟩ := List.getElem_of_mem hp
  have q := h j p (by rw [List.getElem?_eq_getElem hj, e])
  exact ⟨defN_ok j p.1 q.1, q.2⟩
theorem okDs.snoc {ds : List (Str × Nat)} (h : okDs ds) {p : Str × Nat} (h1 : p.1 ∈ defN ds.length) (h2 : p.2 ≤ 2) : okDs (ds ++ [p]) := fun i q e => by
  by_cases c : i < ds.length
  · rw [List.getElem?_append_left c] at e
    exact h i q e
  · rw [List.getElem?_append_right (by omega)] at e
    have c0 : i - ds.length = 0 := by
      cases e2 : i - ds.length with
      | zero => rfl
      | succ m => rw [e2] at e; simp at e
    rw [c0] at e
    have e3 := Option.some.inj e
    subst e3
    rw [show i = ds.length by omega]
    exact ⟨h1, h2⟩
theorem take_pq (m : Nat) : (pq.take m).length = min m 2 := by
  rw [List.length_take]
  rfl
theorem ok_whole {f fT fP fB : Addr} {fd fdT fdP fdB : FuncData} (F : Fun K "_law_whole" "_law_whole" S__law_whole f fd) (T : Blt mg)
    (GT : FnOk P w K mg base CX0 1 fT fdT ["row", "many"] (spTaken K)) (mT : mg "_law_taken" = some (.ref fT)) (kT : PySem.W.keepIn K (.ref fT) = true) (bT : Binds K fdT ["row", "many"] [])
    (GP : FnOk P w K mg base CX0 2 fP fdP ["row", "things"] (spPick K)) (mP : mg "_law_pick" = some (.ref fP)) (kP : PySem.W.keepIn K (.ref fP) = true) (bP : Binds K fdP ["row", "things"] [])
    (GB1 : FnOk P w K mg base CX0 7 fB fdB ["row", "names", "defs", "deep", "size"] (spBlock K 1)) (GB2 : FnOk P w K mg base CX0 8 fB fdB ["row", "names", "defs", "deep", "size"] (spBlock K 2)) (mB : mg "_law_block" = some (.ref fB)) (kB : PySem.W.keepIn K (.ref fB) = true) (bB : Binds K fdB ["row", "names", "defs", "deep", "size"] []) :
    FnOk P w K mg base CX0 9 f fd ["row", "size"] (spWhole K) := by
  refine F.ok scWhole (fun vs H Q E h => ?_) (fun cdv A outer s0 H vs Q E hr h => ?_)
  · obtain ⟨r, s, sz, rfl, _⟩ := h
    rfl
  obtain ⟨r, s, sz, rfl, hR, ⟨xs, hxs, hSc⟩, hsz, k⟩ := h
  have hrT : Room 1 _ := hr.mono (by decide)
  have hrP : Room 2 _ := hr.mono (by decide)
  have hr7 : Room 7 _ := hr.mono (by decide)
  refine ⟨_, pss_cons (ps_par (i := 2) (j := 3) (by rfl) scWhole.nd rfl rfl (by decide) rfl rfl (pa_cons (pe_lst pa_nil) (pa_cons (pe_lst pa_nil) pa_nil)) (by rfl))
    (pss_cons (ps_for PassesOwn.never rfl (pi_range1 rfl T.range (pa_cons (pe_call GP hrP rfl mP kP bP .nil pass0 (pa_cons (pv 0) (pa_cons (pe_lst (pa_cons pe_int (pa_cons pe_int (pa_cons pe_int (pa_cons pe_int pa_nil))))) pa_nil))) pa_nil)) (pg_name (i := 4) scWhole.nd rfl (Or.inl rfl))
      (pss_one (ps_expr (pe_bm PySem.F.plainAttrs_list PySem.F.slot_list_append PySem.F.type_list_append mt_append (pv 2) (pa_cons (pe_tup (pa_cons (pe_op op_add_str (pe_call GP hrP rfl mP kP bP .nil pass0 (pa_cons (pv 0) (pa_cons (pe_lst (pa_cons pe_str (pa_cons pe_str (pa_cons pe_str pa_nil)))) pa_nil))) (pe_ix ix_str pe_str (pv 4) (fun _ _ => rfl))) (pa_cons (pe_call GT hrT rfl mT kT bT .nil pass0 (pa_cons (pv 0) (pa_cons pe_int pa_nil))) pa_nil))) pa_nil)))))
    (pss_cons (ps_for PassesOwn.never rfl (pi_list (pv 2)) (pg_tup rfl (pgs_cons (pg_name (i := 5) scWhole.nd rfl (Or.inl rfl)) (pgs_cons (pg_name (i := 6) scWhole.nd rfl (Or.inl rfl)) pgs_nil)))
      (pss_cons (ps_set (i := 7) scWhole.nd rfl (Or.inl rfl) (pe_slice sl_list (pe_lst (pa_cons pe_str (pa_cons pe_str pa_nil))) po_none (po_some (pv 6))))
      (pss_one (ps_expr (pe_bm PySem.F.plainAttrs_list PySem.F.slot_list_append PySem.F.type_list_append mt_append (pv 3) (pa_cons (pe_tup (pa_cons (pv 5) (pa_cons (pe_callTy call_tuple_of (by rfl) T.tup (by decide +kernel) (pa_cons (pv 7) pa_nil)) (pa_cons (pe_ix ix_tup (pe_call GB1 hr7 rfl mB kB bB .nil pass0 (pa_cons (pv 0) (pa_cons (pv 7) (pa_cons (pv 2) (pa_cons pe_int (pa_cons pe_int pa_nil)))))) pe_int (fun _ _ => rfl)) pa_nil)))) pa_nil))))))
    (pss_one (ps_ret (pe_tup (pa_cons (pe_callTy call_tuple_of (by rfl) T.tup (by decide +kernel) (pa_cons (pv 3) pa_nil)) (pa_cons (pe_ix ix_tup (pe_call GB2 hr rfl mB kB bB .nil pass0 (pa_cons (pv 0) (pa_cons (pe_lst pa_nil) (pa_cons (pv 2) (pa_cons pe_int (pa_cons (pv 1) pa_nil)))))) pe_int (fun _ _ => rfl)) pa_nil))))))), ?_⟩
  -- defs, found = [], []
  refine ⟨Nat.zero_le _, fun dq nd => ⟨Nat.zero_le _, fun fq nf => ⟨_, _, rfl, ?_⟩⟩⟩
  have R1 := hR.new nd (.lst [])
  have hd1 : (upd H dq (.lst [])) dq = some (.lst []) := upd_same
  have g0 : WInv K r s dq fq H [] [] [] [] (upd (upd H dq (.lst [])) fq (.lst [])) :=
    ⟨R1.new nf _, (Keep.new nd _).trans (Keep.new nf _), by rw [upd_ne (ne_of_none hd1 nf)]; exact hd1, .nil, upd_same, .nil, hR.ne nd, R1.ne nf, ne_of_none hd1 nf, nd, Keep.free (Keep.new nd _) R1 nf⟩
  generalize upd (upd H dq (.lst [])) fq (.lst []) = H1 at g0 ⊢
  have scr : ∀ {dvs fvs : List V} {ds : List (Str × Nat)} {fs : List Df} {H' : Hp}, WInv K r s dq fq H dvs ds fvs fs H' → Scr K H' r s := fun g => ⟨xs, hxs, fun H2 k2 => hSc H2 (g.keep.trans k2)⟩
  -- for step in range(_law_pick(row, [0, 0, 1, 2]))
  refine ⟨_, rfl, (by show 4 ≤ sizeLine; decide), fun p np => ?_⟩
  have ga := g0.new np (.lst [.int 0, .int 0, .int 1, .int 2])
  refine ⟨r, s, _, rfl, ga.row, scr ga, .inl ⟨p, _, rfl, g0.row.ne np, upd_same, (by show 1 ≤ 4; decide), (by show 4 ≤ 1000; decide), fun H2 v k2 R2 hv => ?_⟩⟩
  have g2 := ga.keeps k2 R2
  obtain ⟨m, rfl, hm⟩ : ∃ m : Nat, v = .int ((m : Nat) : Int) ∧ m ≤ 2 := by
    simp only [List.mem_cons, List.not_mem_nil, or_false] at hv
    rcases hv with rfl | rfl | rfl | rfl
    · exact ⟨0, rfl, by decide⟩
    · exact ⟨0, rfl, by decide⟩
    · exact ⟨1, rfl, by decide⟩
    · exact ⟨2, rfl, by decide⟩
  refine ⟨_, rfl, by omega, by omega, for_range (lo := 0) (n := ((m : Nat) : Int).toNat) (fun i σ H' => ∃ (dvs : List V) (ds : List (Str × Nat)) (v4 : Option V), σ = [some (.ref r), some (.int sz), some (.ref dq), some (.ref fq), v4, none, none, none] ∧ WInv K r s dq fq H dvs ds [] [] H' ∧ okDs ds ∧ ds.length = i)
    ⟨[], [], none, rfl, g2, (fun i p e => by simp at e), rfl⟩ ?_ ?_⟩
  · rintro i σ H3 hi ⟨dvs, ds, v4, rfl, g, hds, hlen⟩
    have hi2 : i < 2 := by omega
    refine ⟨_, rfl, .inl ⟨rfl, _, SqL.of g.hd⟩, ?_⟩
    refine ⟨_, rfl, (by show 3 ≤ sizeLine; decide), fun p1 np1 => ?_⟩
    have gb := g.new np1 (.lst (bases.map V.str))
    refine ⟨r, s, _, rfl, gb.row, scr gb, .inl ⟨p1, bases.map V.str, rfl, g.row.ne np1, upd_same, (by show 1 ≤ 3; decide), (by show 3 ≤ 1000; decide), fun H4 v k4 R4 hv => ?_⟩⟩
    have gc := gb.keeps k4 R4
    obtain ⟨bs, rfl, hbs⟩ := strs_mem hv
    obtain ⟨hdn, hbl⟩ := def_names bs hbs i hi2
    have ec : atI (tl ("xyz" : Str)) (0 + (i : Int)) = some (120 + i) := by
      rw [tl_xyz]
      match i, hi2 with
      | 0, _ => rfl
      | 1, _ => rfl
    refine ⟨_, rfl, "xyz", _, _, rfl, rfl, (by decide +kernel), ec, _, _, rfl, rfl, ?_, ?_⟩
    · show bs.length + 1 ≤ sizeLine
      exact Nat.le_trans (show bs.length + 1 ≤ 1000 by omega) (by decide)
    refine ⟨_, rfl, r, s, 3, rfl, gc.row, scr gc, by decide, by decide, fun H5 u k5 R5 u0 u1 => ?_⟩
    have gd := gc.keeps k5 R5
    have eu : u = ((u.toNat : Nat) : Int) := by omega
    refine ⟨(by show 2 ≤ sizeLine; decide), fun t nt => ⟨dq, dvs, _, rfl, rfl, (gd.new nt _).hd, ?_, ?_⟩⟩
    · rw [KD.DpAll.length g.dd, List.length_map]
      exact Nat.lt_of_le_of_lt (show ds.length ≤ 1000 by omega) (by decide)
    have ge := gd.pushD (bs ++ (⟨#[120 + i]⟩ : Str), u.toNat) nt
    rw [show ((bs ++ (⟨#[120 + i]⟩ : Str), u.toNat) : Str × Nat).2 = u.toNat from rfl, ← eu] at ge
    exact ⟨dvs ++ [.ref t], ds ++ [(bs ++ (⟨#[120 + i]⟩ : Str), u.toNat)], _, rfl, ge, hds.snoc (by rw [hlen]; exact hdn) (by show u.toNat ≤ 2; omega), by rw [List.length_append, hlen]; rfl⟩
  · rintro σ H3 ⟨dvs, ds, v4, rfl, g, hds, hlen⟩
    have hlen2 : ds.length ≤ 2 := by omega
    have hdv : dvs.length = ds.length := by rw [KD.DpAll.length g.dd, List.length_map]
    -- for name, many in defs
    refine ⟨_, rfl, dq, rfl, ⟨_, SqL.of g.hd⟩, for_list (K := K) (a := dq) (xs := dvs) (fun i σ H' => ∃ (fvs : List V) (fs : List Df) (v5 v6 v7 : Option V), σ = [some (.ref r), some (.int sz), some (.ref dq), some (.ref fq), v4, v5, v6, v7] ∧ WInv K r s dq fq H dvs ds fvs fs H' ∧ fs.map sig = ds.take i ∧
        (∀ (j : Nat) (f : Df), fs[j]? = some f → f.args = pq.take f.args.length ∧ f.args.length ≤ 2 ∧ f.body.length ≤ 3 ∧ okB ds 1 f.args f.body))
      ⟨[], [], none, none, none, rfl, g, rfl, fun j f e => by simp at e⟩ (fun i σ H' _ ⟨_, _, _, _, _, _, g', _⟩ => SqL.of g'.hd) ?_ ?_⟩
    · rintro i y σ H4 hi ⟨fvs, fs, v5, v6, v7, rfl, g4, hsig, hfs⟩
      obtain ⟨d, hd1, hd2⟩ := KD.DpAll.get g4.dd hi
      obtain ⟨pr, hpr, rfl⟩ : ∃ pr, ds[i]? = some pr ∧ d = dfD pr := by
        rw [List.getElem?_map] at hd1
        cases e : ds[i]? with
        | none => rw [e] at hd1; cases hd1
        | some pr => rw [e] at hd1; exact ⟨pr, rfl, (Option.some.inj hd1).symm⟩
      obtain ⟨a, rfl, hT⟩ := dp_pair hd2
      obtain ⟨hn1, hn2⟩ := hds i pr hpr
      have hfl : fs.length ≤ 2 := by
        have q : (fs.map sig).length = (ds.take i).length := by rw [hsig]
        rw [List.length_map, List.length_take] at q
        omega
      refine ⟨a, _, rfl, hT, rfl, _, _, rfl, _, _, rfl, rfl, ?_⟩
      -- names = ["p", "q"][:many]
      refine ⟨(by show 2 ≤ sizeLine; decide), fun p1 np1 => ⟨_, rfl, _, rfl, p1, _, rfl, SqL.of upd_same, fun nq nn => ?_⟩⟩
      have ecut : cutV [V.str "p", V.str "q"] none (some ((pr.2 : Nat) : Int)) = (pq.take pr.2).map V.str := by
        have q : pr.2 = 0 ∨ pr.2 = 1 ∨ pr.2 = 2 := by omega
        rcases q with q | q | q <;> rw [q] <;> rfl
      rw [ecut]
      have ga := g4.new np1 (.lst [.str "p", .str "q"])
      have gb := ga.new nn (.lst ((pq.take pr.2).map V.str))
      have hnq : (upd (upd H4 p1 (.lst [.str "p", .str "q"])) nq (.lst ((pq.take pr.2).map V.str))) nq = some (.lst ((pq.take pr.2).map V.str)) := upd_same
      have nqr : nq ≠ r := ga.row.ne nn
      generalize upd (upd H4 p1 (.lst [.str "p", .str "q"])) nq (.lst ((pq.take pr.2).map V.str)) = H5 at gb hnq ⊢
      have hmin : min pr.2 2 = pr.2 := by omega
      have hargs : (pq.take pr.2).length = pr.2 := by rw [take_pq, hmin]
      have hnm : nmsOk (pq.take pr.2) := fun x hx => (by decide +kernel : ∀ x ∈ pq, x ∈ allN) x (List.mem_of_mem_take hx)
      -- found.append(..)
      refine ⟨_, rfl, .inl ⟨rfl, _, SqL.of gb.hf⟩, _, rfl, _, rfl, nq, _, rfl, .inl ⟨SqL.of hnq, fun tn ntn => ?_⟩⟩
      have gc := gb.new ntn (.tup ((pq.take pr.2).map V.str))
      have hnq6 : (upd H5 tn (.tup ((pq.take pr.2).map V.str))) nq = some (.lst ((pq.take pr.2).map V.str)) := by rw [upd_ne (ne_of_none hnq ntn)]; exact hnq
      have dtn : Dp K (upd H5 tn (.tup ((pq.take pr.2).map V.str))) (.ref tn) (.tuple ((pq.take pr.2).map .str)) := Dp.new ntn (dp_strs _)
      refine ⟨_, rfl, _, rfl, _, rfl, r, s, nq, dq, pq.take pr.2, ds, 3, rfl, gc.row, scr gc, hnq6, nqr, hnm, by omega, g.dr, ⟨dvs, gc.hd, gc.dd, by omega, hds.all⟩, by decide, fun H6 t1 bt1 nq1 b1 k6 R6 ht1 hb1 ob1 lb1 => ?_⟩
      have gd := gc.keeps k6 R6
      refine ⟨t1, _, _, _, rfl, rfl, SqT.of ht1, rfl, ?_⟩
      refine ⟨(by show 3 ≤ sizeLine; decide), fun t nt => ⟨fq, fvs, _, rfl, rfl, (gd.new nt _).hf, ?_, ?_⟩⟩
      · rw [KD.DpAll.length g4.df, List.length_map]
        exact Nat.lt_of_le_of_lt (show fs.length ≤ 1000 by omega) (by decide)
      have ge := gd.pushF ⟨pr.1, pq.take pr.2, b1⟩ nt (.cons (.str pr.1) (.cons (Dp.kt (gc.row.kt k6) (by show tupDs ((pq.take pr.2).map .str) = true; exact tupDs_str _) dtn) (.cons hb1 .nil)))
      refine ⟨fvs ++ [.ref t], fs ++ [⟨pr.1, pq.take pr.2, b1⟩], _, _, _, rfl, ge, ?_, ?_⟩
      · rw [List.map_append, hsig]
        have e1 : (ds.take (i + 1)) = ds.take i ++ [pr] := by
          rw [List.take_succ, hpr]
          rfl
        rw [e1]
        show ds.take i ++ [(pr.1, (pq.take pr.2).length)] = ds.take i ++ [pr]
        rw [hargs]
      · intro j' f' ef
        by_cases c : j' < fs.length
        · rw [List.getElem?_append_left c] at ef
          exact hfs j' f' ef
        · rw [List.getElem?_append_right (by omega)] at ef
          have c0 : j' - fs.length = 0 := by
            cases e2 : j' - fs.length with
            | zero => rfl
            | succ m => rw [e2] at ef; simp at ef
          rw [c0] at ef
          have e3 := Option.some.inj ef
          subst e3
          refine ⟨?_, ?_, lb1, ob1⟩
          · show pq.take pr.2 = pq.take (pq.take pr.2).length
            rw [hargs]
          · show (pq.take pr.2).length ≤ 2
            omega
    · rintro σ H4 ⟨fvs, fs, v5, v6, v7, rfl, g4, hsig, hfs⟩
      rw [hdv, List.take_length] at hsig
      have hfl : fs.length = ds.length := by rw [← hsig, List.length_map]
      -- return tuple(found), _law_block(row, [], defs, 2, size)[0]
      refine ⟨_, rfl, fq, _, rfl, .inl ⟨SqL.of g4.hf, fun tf ntf => ?_⟩⟩
      have ga := g4.new ntf (.tup fvs)
      have dtf : Dp K (upd H4 tf (.tup fvs)) (.ref tf) (.tuple (fs.map Df.d)) := Dp.new ntf g4.df
      refine ⟨_, rfl, Nat.zero_le _, fun nq nn => ?_⟩
      have gb := ga.new nn (.lst [])
      refine ⟨_, rfl, _, rfl, r, s, nq, dq, [], ds, sz, rfl, gb.row, scr gb, upd_same, ga.row.ne nn, (fun x hx => by cases hx), by decide, g.dr, ⟨dvs, gb.hd, gb.dd, by omega, hds.all⟩, hsz, fun H6 t1 bt1 nq1 b1 k6 R6 ht1 hb1 ob1 lb1 => ?_⟩
      have gc := gb.keeps k6 R6
      refine ⟨t1, _, _, _, rfl, rfl, SqT.of ht1, rfl, ?_⟩
      refine ⟨(by show 2 ≤ sizeLine; decide), fun t nt => ?_⟩
      have dtf6 := Dp.kt (ga.row.kt ((Keep.new nn _).trans k6)) (by show tupDs (fs.map Df.d) = true; exact tupDs_Df fs) dtf
      refine k _ t ⟨fs, b1⟩ (gc.keep.trans (Keep.new nt _)) (gc.row.new nt _) (Dp.new nt (.cons dtf6 (.cons hb1 .nil))) ⟨by show fs.length ≤ 2; omega, fun i f ef => ?_, lb1, by show okB (fs.map sig) 2 [] b1; rw [hsig]; exact ob1⟩
      obtain ⟨h1, h2, h3, h4⟩ := hfs i f ef
      have e5 : ds[i]? = some (sig f) := by rw [← hsig, List.getElem?_map, ef]; rfl
      exact ⟨(hds i _ e5).1, h1, h2, h3, by show okB (fs.map sig) 1 f.args f.body; rw [hsig]; exact h4⟩
end
end KD

namespace KD
open PySem L2 TL
open K0 (num)
section
variable {P : Program} {w : World} {K : PySem.W.Frag} {mg : Str → Option Value} {base : Heap}
theorem scPart : FnScope ["row", "tree", "word"] ["row", "tree"] (defScope S__law_part) := ⟨rfl, rfl, rfl, by decide +kernel, rfl, by decide +kernel, by decide +kernel⟩
theorem ok_part1 {n : Nat} {f : Addr} {fd : FuncData} (F : Fun K "_law_part" "_law_part" S__law_part f fd) (T : Blt mg) (GI : FnOk P w K mg base CX0 n f fd ["row", "tree"] (spPart K n)) (mI : mg "_law_part" = some (.ref f)) (bI : Binds K fd ["row", "tree"] []) :
    FnOk P w K mg base CX0 (n + 1) f fd ["row", "tree"] (spPart K (n + 1)) := by
  refine F.ok scPart (fun vs H Q E h => ?_) (fun cdv A outer s0 H vs Q E hr h => ?_)
  · obtain ⟨x, v, e, rfl, _⟩ := h
    rfl
  obtain ⟨x, v, e, rfl, hv, hw, hd, hn12, k⟩ := h
  refine ⟨_, pss_cons (ps_set (i := 2) scPart.nd rfl (Or.inl rfl) (pe_ix ix_tup (pv 1) pe_int (fun _ _ => rfl)))
    (pss_cons (ps_if (pt_cmpR op_eq (pv 2) pe_str (nomark _)) (pss_one (ps_ret (pe_callTy call_str_int (by rfl) T.str (by decide +kernel) (pa_cons (pe_ix ix_tup (pv 1) pe_int (fun _ _ => rfl)) pa_nil)))) pss_nil)
    (pss_cons (ps_if (pt_cmpR op_in_seq (pv 2) (pe_tup (pa_cons pe_str (pa_cons pe_str (pa_cons pe_str pa_nil)))) (by rfl)) (pss_one (ps_ret (pe_ifExp (pt_cmpR op_eq (pv 2) pe_str (nomark _)) (pe_ix ix_tup (pv 1) pe_int (fun _ _ => rfl)) (pv 2)))) pss_nil)
    (pss_cons (ps_if (pt_cmpR op_eq (pv 2) pe_str (nomark _)) (pss_one (ps_ret (pe_op op_add_str (pe_op op_add_str (pe_op op_add_str (pe_op op_add_str pe_str (pe_call GI hr rfl mI F.kp bI .nil pass0 (pa_cons (pv 0) (pa_cons (pe_ix ix_tup (pv 1) pe_int (fun _ _ => rfl)) pa_nil)))) pe_str) (pe_call GI hr rfl mI F.kp bI .nil pass0 (pa_cons (pv 0) (pa_cons (pe_ix ix_tup (pv 1) pe_int (fun _ _ => rfl)) pa_nil)))) pe_str))) pss_nil)
    (pss_cons (ps_if (pt_cmpR op_in_seq (pv 2) (pe_tup (pa_cons pe_str (pa_cons pe_str pa_nil))) (by rfl)) (pss_one (ps_ret (pe_op op_add_str (pe_op op_add_str (pe_op op_add_str (pe_op op_add_str pe_str (pe_ifExp (pt_cmpR op_eq (pv 2) pe_str (nomark _)) pe_str pe_str)) pe_str) (pe_call GI hr rfl mI F.kp bI .nil pass0 (pa_cons (pv 0) (pa_cons (pe_ix ix_tup (pv 1) pe_int (fun _ _ => rfl)) pa_nil)))) pe_str))) pss_nil)
    (pss_one (ps_ret (pe_op op_add_str (pe_op op_add_str (pe_op op_add_str (pe_op op_add_str (pe_op op_add_str (pe_op op_add_str pe_str (pe_call GI hr rfl mI F.kp bI .nil pass0 (pa_cons (pv 0) (pa_cons (pe_ix ix_tup (pv 1) pe_int (fun _ _ => rfl)) pa_nil)))) pe_str) (pv 2)) pe_str) (pe_call GI hr rfl mI F.kp bI .nil pass0 (pa_cons (pv 0) (pa_cons (pe_ix ix_tup (pv 1) pe_int (fun _ _ => rfl)) pa_nil)))) pe_str))))))), ?_⟩
  have big : ∀ m : Nat, m ≤ 1000000 → m ≤ sizeLine := fun m h => Nat.le_trans h (by decide)
  have inr : ∀ (z : Str) (l : List Str), inV (.str z) (l.map V.str) = decide (z ∈ l) := in_strs
  cases e with
  | num m =>
    obtain ⟨a, xs, rfl, hT, hA⟩ := dp_tup hv
    obtain ⟨v1, r1, rfl, d1, hA⟩ := dp_cons hA
    obtain ⟨v2, r2, rfl, d2, hA⟩ := dp_cons hA
    obtain rfl := dp_nil hA
    obtain rfl := dp_str d1
    obtain rfl := dp_int d2
    refine ⟨_, rfl, a, _, _, _, rfl, rfl, hT, rfl, ?_⟩
    refine ⟨_, rfl, rfl, _, rfl, ?_⟩
    rw [decide_eq_true rfl]
    refine iteT ⟨_, rfl, a, _, _, _, rfl, rfl, hT, rfl, _, rfl, log_small hw, ?_⟩
    exact k H (num m) (Same.refl H) (PartT.numb hw) (K0.num_len hw)
  | name y =>
    obtain ⟨a, xs, rfl, hT, hA⟩ := dp_tup hv
    obtain ⟨v1, r1, rfl, d1, hA⟩ := dp_cons hA
    obtain ⟨v2, r2, rfl, d2, hA⟩ := dp_cons hA
    obtain rfl := dp_nil hA
    obtain rfl := dp_str d1
    obtain rfl := dp_str d2
    refine ⟨_, rfl, a, _, _, _, rfl, rfl, hT, rfl, ?_⟩
    refine ⟨_, rfl, rfl, _, rfl, ?_⟩
    rw [show decide (V.str "name" = V.str "num") = false by decide +kernel]
    refine iteF ?_
    refine ⟨_, rfl, (by show 3 ≤ sizeLine; decide), fun p np => ⟨p, _, rfl, .inr (SqT.of upd_same), rfl, rfl, _, rfl, ?_⟩⟩
    show if inV (.str "name") (n3.map V.str) = true then _ else _
    rw [inr, show decide (("name" : Str) ∈ n3) = true by decide +kernel]
    refine iteT ⟨_, rfl, rfl, _, rfl, ?_⟩
    rw [decide_eq_true rfl]
    refine iteT ⟨_, rfl, a, _, _, _, rfl, rfl, KT.same (same_new np _) _ _ hT, rfl, ?_⟩
    exact k _ y (same_new np _) (PartT.name hw) (nameW_len hw)
  | rows =>
    obtain ⟨a, xs, rfl, hT, hA⟩ := dp_tup hv
    obtain ⟨v1, r1, rfl, d1, hA⟩ := dp_cons hA
    obtain rfl := dp_nil hA
    obtain rfl := dp_str d1
    refine ⟨_, rfl, a, _, _, _, rfl, rfl, hT, rfl, ?_⟩
    refine ⟨_, rfl, rfl, _, rfl, ?_⟩
    rw [show decide (V.str "rows" = V.str "num") = false by decide +kernel]
    refine iteF ?_
    refine ⟨_, rfl, (by show 3 ≤ sizeLine; decide), fun p np => ⟨p, _, rfl, .inr (SqT.of upd_same), rfl, rfl, _, rfl, ?_⟩⟩
    show if inV (.str "rows") (n3.map V.str) = true then _ else _
    rw [inr, show decide (("rows" : Str) ∈ n3) = true by decide +kernel]
    refine iteT ⟨_, rfl, rfl, _, rfl, ?_⟩
    rw [show decide (V.str "rows" = V.str "name") = false by decide +kernel]
    refine iteF ⟨_, rfl, ?_⟩
    exact k _ "rows" (same_new np _) (PartT.key (by decide +kernel)) (by show ("rows" : Str).length ≤ 6; decide +kernel)
  | cols =>
    obtain ⟨a, xs, rfl, hT, hA⟩ := dp_tup hv
    obtain ⟨v1, r1, rfl, d1, hA⟩ := dp_cons hA
    obtain rfl := dp_nil hA
    obtain rfl := dp_str d1
    refine ⟨_, rfl, a, _, _, _, rfl, rfl, hT, rfl, ?_⟩
    refine ⟨_, rfl, rfl, _, rfl, ?_⟩
    rw [show decide (V.str "cols" = V.str "num") = false by decide +kernel]
    refine iteF ?_
    refine ⟨_, rfl, (by show 3 ≤ sizeLine; decide), fun p np => ⟨p, _, rfl, .inr (SqT.of upd_same), rfl, rfl, _, rfl, ?_⟩⟩
    show if inV (.str "cols") (n3.map V.str) = true then _ else _
    rw [inr, show decide (("cols" : Str) ∈ n3) = true by decide +kernel]
    refine iteT ⟨_, rfl, rfl, _, rfl, ?_⟩
    rw [show decide (V.str "cols" = V.str "name") = false by decide +kernel]
    refine iteF ⟨_, rfl, ?_⟩
    exact k _ "cols" (same_new np _) (PartT.key (by decide +kernel)) (by show ("cols" : Str).length ≤ 6; decide +kernel)
  | un o e1 =>
    obtain ⟨a, xs, rfl, hT, hA⟩ := dp_tup hv
    obtain ⟨v1, r1, rfl, d1, hA⟩ := dp_cons hA
    obtain ⟨v2, r2, rfl, d2, hA⟩ := dp_cons hA
    obtain rfl := dp_nil hA
    obtain rfl := dp_str d1
    have hd1 : dpE e1 < n := by
      have : dpE e1 + 1 < n + 1 := hd
      omega
    have hpl := pl_small (a := dpE e1) (by omega)
    have ho : decide (V.str o.w = V.str "num") = false ∧ decide (o.w ∈ n3) = false ∧ decide (V.str o.w = V.str "black") = false ∧ decide (o.w ∈ un2) = true := by cases o <;> decide +kernel
    refine ⟨_, rfl, a, _, _, _, rfl, rfl, hT, rfl, ?_⟩
    refine ⟨_, rfl, rfl, _, rfl, ?_⟩
    rw [ho.1]
    refine iteF ?_
    refine ⟨_, rfl, (by show 3 ≤ sizeLine; decide), fun p np => ⟨p, _, rfl, .inr (SqT.of upd_same), rfl, rfl, _, rfl, ?_⟩⟩
    show if inV (.str o.w) (n3.map V.str) = true then _ else _
    rw [inr, ho.2.1]
    refine iteF ?_
    refine ⟨_, rfl, rfl, _, rfl, ?_⟩
    rw [ho.2.2.1]
    refine iteF ?_
    refine ⟨_, rfl, (by show 2 ≤ sizeLine; decide), fun p2 np2 => ⟨p2, _, rfl, .inr (SqT.of upd_same), rfl, rfl, _, rfl, ?_⟩⟩
    show if inV (.str o.w) (un2.map V.str) = true then _ else _
    rw [inr, ho.2.2.2]
    have s2 := (same_new np (.tup [.str "name", .str "rows", .str "cols"])).trans (same_new np2 (.tup [.str "neg", .str "not"]))
    refine iteT ⟨_, rfl, rfl, _, rfl, ?_⟩
    cases o with
    | neg =>
      rw [show decide (V.str Un.neg.w = V.str "neg") = true by decide +kernel]
      refine iteT ⟨_, _, rfl, rfl, (by decide +kernel), _, _, rfl, rfl, (by decide +kernel), ?_⟩
      refine ⟨_, rfl, _, rfl, a, _, _, _, rfl, rfl, KT.same s2 _ _ hT, rfl, _, _, e1, rfl, Dp.same s2 d2, hw, hd1, by omega, fun H3 X s3 hX hXl => ?_⟩
      have l1 : (("(" : Str) ++ ("-" : Str) ++ ("(" : Str)).length = 3 := by decide +kernel
      refine ⟨_, _, rfl, rfl, big _ (by rw [l1]; omega), _, _, rfl, rfl, big _ (by rw [sums, l1, show ("))" : Str).length = 2 by decide +kernel]; omega), ?_⟩
      refine k H3 _ (s2.trans s3) (PartT.one (ps := [.wd "mark" "-", .wd "mark" "("]) (qs := [.wd "mark" ")", .wd "mark" ")"]) (k0 := "mark") (w0 := "(") hX ?_ (Wd.mark (by decide +kernel)) (Fol.ofB (by decide +kernel)) (by decide +kernel) (.inl rfl) (by decide +kernel)) ?_
      · rw [assocS, assocS, show ("(" : Str) ++ litT [.wd "mark" "-", .wd "mark" "("] = ("(" : Str) ++ ("-" : Str) ++ ("(" : Str) by decide +kernel, show litT [.wd "mark" ")", .wd "mark" ")"] = ("))" : Str) by decide +kernel]
      · rw [sums, sums, l1, show ("))" : Str).length = 2 by decide +kernel]
        show _ ≤ 2 * pl (dpE e1) + 10
        omega
    | not =>
      rw [show decide (V.str Un.not.w = V.str "neg") = false by decide +kernel]
      refine iteF ⟨_, _, rfl, rfl, (by decide +kernel), _, _, rfl, rfl, (by decide +kernel), ?_⟩
      refine ⟨_, rfl, _, rfl, a, _, _, _, rfl, rfl, KT.same s2 _ _ hT, rfl, _, _, e1, rfl, Dp.same s2 d2, hw, hd1, by omega, fun H3 X s3 hX hXl => ?_⟩
      have l1 : (("(" : Str) ++ ("not " : Str) ++ ("(" : Str)).length = 6 := by decide +kernel
      refine ⟨_, _, rfl, rfl, big _ (by rw [l1]; omega), _, _, rfl, rfl, big _ (by rw [sums, l1, show ("))" : Str).length = 2 by decide +kernel]; omega), ?_⟩
      refine k H3 _ (s2.trans s3) (PartT.one (ps := [.wd "key" "not", .bl " ", .wd "mark" "("]) (qs := [.wd "mark" ")", .wd "mark" ")"]) (k0 := "mark") (w0 := "(") hX ?_ (Wd.mark (by decide +kernel)) (Fol.ofB (by decide +kernel)) (by decide +kernel) (.inl rfl) (by decide +kernel)) ?_
      · rw [assocS, assocS, show ("(" : Str) ++ litT [.wd "key" "not", .bl " ", .wd "mark" "("] = ("(" : Str) ++ ("not " : Str) ++ ("(" : Str) by decide +kernel, show litT [.wd "mark" ")", .wd "mark" ")"] = ("))" : Str) by decide +kernel]
      · rw [sums, sums, l1, show ("))" : Str).length = 2 by decide +kernel]
        show _ ≤ 2 * pl (dpE e1) + 10
        omega
  | bin o e1 e2 =>
    obtain ⟨a, xs, rfl, hT, hA⟩ := dp_tup hv
    obtain ⟨v1, r1, rfl, d1, hA⟩ := dp_cons hA
    obtain ⟨v2, r2, rfl, d2, hA⟩ := dp_cons hA
    obtain ⟨v3, r3, rfl, d3, hA⟩ := dp_cons hA
    obtain rfl := dp_nil hA
    obtain rfl := dp_str d1
    have hdm : max (dpE e1) (dpE e2) + 1 < n + 1 := hd
    have hd1 : dpE e1 < n := by omega
    have hd2 : dpE e2 < n := by omega
    have hm1 : pl (dpE e1) ≤ pl (max (dpE e1) (dpE e2)) := pl_mono (Nat.le_max_left _ _)
    have hm2 : pl (dpE e2) ≤ pl (max (dpE e1) (dpE e2)) := pl_mono (Nat.le_max_right _ _)
    have hpl := pl_small (a := max (dpE e1) (dpE e2)) (by omega)
    refine ⟨_, rfl, a, _, _, _, rfl, rfl, hT, rfl, ?_⟩
    refine ⟨_, rfl, rfl, _, rfl, ?_⟩
    by_cases hb : o = .black
    · subst hb
      rw [show decide (V.str Bi.black.w = V.str "num") = false by decide +kernel]
      refine iteF ?_
      refine ⟨_, rfl, (by show 3 ≤ sizeLine; decide), fun p np => ⟨p, _, rfl, .inr (SqT.of upd_same), rfl, rfl, _, rfl, ?_⟩⟩
      show if inV (.str Bi.black.w) (n3.map V.str) = true then _ else _
      rw [inr, show decide (Bi.black.w ∈ n3) = false by decide +kernel]
      refine iteF ?_
      have s2 := same_new np (.tup [.str "name", .str "rows", .str "cols"])
      refine ⟨_, rfl, rfl, _, rfl, ?_⟩
      rw [show decide (V.str Bi.black.w = V.str "black") = true by decide +kernel]
      refine iteT ?_
      refine ⟨_, rfl, _, rfl, a, _, _, _, rfl, rfl, KT.same s2 _ _ hT, rfl, _, _, e1, rfl, Dp.same s2 d2, hw.1, hd1, by omega, fun H3 X s3 hX hXl => ?_⟩
      have s23 := s2.trans s3
      have l1 : ("black(" : Str).length = 6 := by decide +kernel
      have l2 : ("," : Str).length = 1 := by decide +kernel
      have l3 : (")" : Str).length = 1 := by decide +kernel
      refine ⟨_, _, rfl, rfl, big _ (by rw [l1]; omega), _, _, rfl, rfl, big _ (by rw [sums, l1, l2]; omega), ?_⟩
      refine ⟨_, rfl, _, rfl, a, _, _, _, rfl, rfl, KT.same s23 _ _ hT, rfl, _, _, e2, rfl, Dp.same s23 d3, hw.2, hd2, by omega, fun H4 X2 s4 hX2 hXl2 => ?_⟩
      refine ⟨_, _, rfl, rfl, big _ (by rw [sums, sums, l1, l2]; omega), _, _, rfl, rfl, big _ (by rw [sums, sums, sums, l1, l2, l3]; omega), ?_⟩
      have e : tkE (.bin .black e1 e2) = (("key", "black") : Tk) :: (litW [.wd "mark" "("] ++ (tkE e1 ++ (litW [.wd "mark" ","] ++ (tkE e2 ++ litW [.wd "mark" ")"])))) := by
        show [kK "black", kM "("] ++ tkE e1 ++ [kM ","] ++ tkE e2 ++ [kM ")"] = kK "black" :: ([kM "("] ++ (tkE e1 ++ ([kM ","] ++ (tkE e2 ++ [kM ")"]))))
        simp
      refine k H4 _ (s23.trans s4) (e ▸ PartT.two (ps := [.wd "mark" "("]) (qs := [.wd "mark" ","]) (rs := [.wd "mark" ")"]) (k0 := "key") (w0 := "black") hX hX2 ?_ (Wd.key (by decide +kernel)) (Fol.ofB (by decide +kernel)) (by decide +kernel) (.inl rfl) (by decide +kernel) (.inl rfl) (by decide +kernel)) ?_
      · rw [assocS, assocS, assocS, assocS, show ("black" : Str) ++ litT [.wd "mark" "("] = ("black(" : Str) by decide +kernel, show litT [.wd "mark" ","] = ("," : Str) by decide +kernel, show litT [.wd "mark" ")"] = (")" : Str) by decide +kernel]
      · rw [sums, sums, sums, sums, l1, l2, l3]
        show _ ≤ 2 * pl (max (dpE e1) (dpE e2)) + 10
        omega
    · obtain ⟨q1, q2, q3, q4⟩ := Bi.not o hb
      rw [dec_str, decide_eq_false q1]
      refine iteF ?_
      refine ⟨_, rfl, (by show 3 ≤ sizeLine; decide), fun p np => ⟨p, _, rfl, .inr (SqT.of upd_same), rfl, rfl, _, rfl, ?_⟩⟩
      show if inV (.str o.w) (n3.map V.str) = true then _ else _
      rw [inr, decide_eq_false q2]
      refine iteF ?_
      refine ⟨_, rfl, rfl, _, rfl, ?_⟩
      rw [dec_str, decide_eq_false q3]
      refine iteF ?_
      refine ⟨_, rfl, (by show 2 ≤ sizeLine; decide), fun p2 np2 => ⟨p2, _, rfl, .inr (SqT.of upd_same), rfl, rfl, _, rfl, ?_⟩⟩
      show if inV (.str o.w) (un2.map V.str) = true then _ else _
      rw [inr, decide_eq_false q4]
      have s2 := (same_new np (.tup [.str "name", .str "rows", .str "cols"])).trans (same_new np2 (.tup [.str "neg", .str "not"]))
      refine iteF ?_
      refine ⟨_, rfl, _, rfl, a, _, _, _, rfl, rfl, KT.same s2 _ _ hT, rfl, _, _, e1, rfl, Dp.same s2 d2, hw.1, hd1, by omega, fun H3 X s3 hX hXl => ?_⟩
      have s23 := s2.trans s3
      have l1 : ("(" : Str).length = 1 := by decide +kernel
      have l2 : (" " : Str).length = 1 := by decide +kernel
      have l3 : (")" : Str).length = 1 := by decide +kernel
      have l4 := o.len
      refine ⟨_, _, rfl, rfl, big _ (by rw [l1]; omega), _, _, rfl, rfl, big _ (by rw [sums, l1, l2]; omega), ?_⟩
      refine ⟨_, rfl, _, _, rfl, rfl, big _ (by rw [sums, sums, l1, l2]; omega), _, _, rfl, rfl, big _ (by rw [sums, sums, sums, l1, l2]; omega), ?_⟩
      refine ⟨_, rfl, _, rfl, a, _, _, _, rfl, rfl, KT.same s23 _ _ hT, rfl, _, _, e2, rfl, Dp.same s23 d3, hw.2, hd2, by omega, fun H4 X2 s4 hX2 hXl2 => ?_⟩
      refine ⟨_, _, rfl, rfl, big _ (by rw [sums, sums, sums, sums, l1, l2]; omega), _, _, rfl, rfl, big _ (by rw [sums, sums, sums, sums, sums, l1, l2, l3]; omega), ?_⟩
      have hP := PartT.two (ps := []) (qs := [.bl " ", o.lw, .bl " "]) (rs := [.wd "mark" ")"]) (k0 := "mark") (w0 := "(") (Y := ("(" : Str) ++ X ++ (" " : Str) ++ o.w ++ (" " : Str) ++ X2 ++ (")" : Str)) hX hX2 ?_ (Wd.mark (by decide +kernel)) (Fol.ofB (by decide +kernel)) rfl (.inl rfl) o.lit (.inr o.litF) (by decide +kernel)
      · refine k H4 _ (s23.trans s4) ?_ ?_
        · rw [tk_bin hb]
          have e : [kM "("] ++ tkE e1 ++ [o.tk] ++ tkE e2 ++ [kM ")"] = (("mark", "(") : Tk) :: (litW [] ++ (tkE e1 ++ (litW [.bl " ", o.lw, .bl " "] ++ (tkE e2 ++ litW [.wd "mark" ")"])))) := by
            show [kM "("] ++ tkE e1 ++ [o.tk] ++ tkE e2 ++ [kM ")"] = kM "(" :: ([] ++ (tkE e1 ++ ([o.tk] ++ (tkE e2 ++ [kM ")"]))))
            simp
          rw [e]
          exact hP
        · rw [sums, sums, sums, sums, sums, sums, l1, l2, l3]
          show _ ≤ 2 * pl (max (dpE e1) (dpE e2)) + 10
          omega
      · rw [show litT [.bl " ", o.lw, .bl " "] = (" " : Str) ++ (o.w ++ (" " : Str)) by
          show (" " : Str) ++ (o.tk.2 ++ ((" " : Str) ++ ("" : Str))) = _
          rw [nilS, Bi.tk_w], show litT [.wd "mark" ")"] = (")" : Str) by decide +kernel, show litT [] = ("" : Str) from rfl]
        rw [assocS, nilS, assocS, assocS, assocS, assocS, assocS]
theorem ok_part {f : Addr} {fd : FuncData} (F : Fun K "_law_part" "_law_part" S__law_part f fd) (T : Blt mg) (mI : mg "_law_part" = some (.ref f)) (bI : Binds K fd ["row", "tree"] []) :
    ∀ n : Nat, FnOk P w K mg base CX0 n f fd ["row", "tree"] (spPart K n)
  | 0 => by
    have no : ∀ vs H Q E, ¬ spPart K 0 vs H Q E := fun vs H Q E h => by
      obtain ⟨x, v, e, _, _, _, h1, _⟩ := h
      omega
    exact ⟨fun vs H Q E h => absurd h (no vs H Q E), fun A outer s H args us vs Q E _ _ _ _ h => absurd h (no vs H Q E)⟩
  | n + 1 => ok_part1 F T (ok_part F T mI bI n) mI bI
end
end KD

namespace KD
open PySem L2 TL
open K0 (num)
section
variable {P : Program} {w : World} {K : PySem.W.Frag} {mg : Str → Option Value} {base : Heap}
/-! ### _law_said -/
def saidN : List Str := ["row", "block", "found", "tree", "word", "gap", "one"]
theorem scSaid : FnScope saidN ["row", "block"] (defScope S__law_said) := ⟨rfl, rfl, rfl, by decide +kernel, rfl, by decide +kernel, by decide +kernel⟩
def spSaid (K : PySem.W.Frag) (n : Nat) : Sp := fun vs H Q _ => ∃ (r s : Addr) (v : V) (b : List St), vs = [.ref r, v] ∧ RowAt H r s ∧ Scr K H r s ∧ Dp K H v (.tuple (dB b)) ∧ wfB b ∧ dpB b < n ∧ n ≤ 12 ∧ lenB b ≤ 1000000 ∧
  ∀ (H' : Hp) (X : Str), Keep r H H' → RowAt H' r s → BlkT X (tkB b) → X.length ≤ lenB b → Q (.str X) H'
theorem ok_said1 {n : Nat} {f fP fE : Addr} {fd fdP fdE : FuncData} (F : Fun K "_law_said" "_law_said" S__law_said f fd) (T : Blt mg)
    (GP : FnOk P w K mg base CX0 2 fP fdP ["row", "things"] (spPick K)) (mP : mg "_law_pick" = some (.ref fP)) (kP : PySem.W.keepIn K (.ref fP) = true) (bP : Binds K fdP ["row", "things"] [])
    (GE : FnOk P w K mg base CX0 12 fE fdE ["row", "tree"] (spPart K 12)) (mE : mg "_law_part" = some (.ref fE)) (kE : PySem.W.keepIn K (.ref fE) = true) (bE : Binds K fdE ["row", "tree"] [])
    (GI : FnOk P w K mg base CX0 (n + 12) f fd ["row", "block"] (spSaid K n)) (mI : mg "_law_said" = some (.ref f)) (bI : Binds K fd ["row", "block"] []) :
    FnOk P w K mg base CX0 (n + 1 + 12) f fd ["row", "block"] (spSaid K (n + 1)) := by
  refine F.ok scSaid (fun vs H Q E h => ?_) (fun cdv A outer s0 H vs Q E hr h => ?_)
  · obtain ⟨r, s, v, b, rfl, _⟩ := h
    rfl
  obtain ⟨r, s, v, b, rfl, hR, ⟨zs, hzs, hSc⟩, hv, hw, hd, hn12, hlen, k⟩ := h
  have hrP : Room 2 _ := hr.mono (by omega)
  have hrE : Room 12 _ := hr.mono (by omega)
  have big : ∀ m : Nat, m ≤ 10000000 → m ≤ sizeLine := fun m h => Nat.le_trans h (by decide)
  refine ⟨_, pss_cons (ps_set (i := 2) scSaid.nd rfl (Or.inl rfl) pe_str)
    (pss_cons (ps_for PassesOwn.never rfl (pi_tup (pv 1)) (pg_name (i := 3) scSaid.nd rfl (Or.inl rfl))
      (pss_cons (ps_par (i := 4) (j := 5) (by rfl) scSaid.nd rfl rfl (by decide) rfl rfl (pa_cons (pe_ix ix_tup (pv 3) pe_int (fun _ _ => rfl)) (pa_cons (pe_call GP hrP rfl mP kP bP .nil pass0 (pa_cons (pv 0) (pa_cons (pe_lst (pa_cons pe_str (pa_cons pe_str (pa_cons pe_str pa_nil)))) pa_nil))) pa_nil)) (by rfl))
      (pss_cons (ps_set (i := 2) scSaid.nd rfl (Or.inl rfl) (pe_op op_add_str (pe_op op_add_str (pv 2) (pv 5)) (pv 4)))
      (pss_cons (ps_if (pt_cmpR op_in_seq (pv 4) (pe_tup (pa_cons pe_str (pa_cons pe_str (pa_cons pe_str (pa_cons pe_str (pa_cons pe_str pa_nil)))))) (by rfl)) (pss_one (ps_set (i := 2) scSaid.nd rfl (Or.inl rfl) (pe_op op_add_str (pe_op op_add_str (pv 2) pe_str) (pe_call GE hrE rfl mE kE bE .nil pass0 (pa_cons (pv 0) (pa_cons (pe_ix ix_tup (pv 3) pe_int (fun _ _ => rfl)) pa_nil)))))) (pss_one (ps_if (pt_cmpR op_eq (pv 4) pe_str (nomark _)) (pss_one (ps_set (i := 2) scSaid.nd rfl (Or.inl rfl) (pe_op op_add_str (pe_op op_add_str (pe_op op_add_str (pe_op op_add_str (pv 2) (pv 5)) (pe_ix ix_tup (pv 3) pe_int (fun _ _ => rfl))) pe_str) (pe_call GE hrE rfl mE kE bE .nil pass0 (pa_cons (pv 0) (pa_cons (pe_ix ix_tup (pv 3) pe_int (fun _ _ => rfl)) pa_nil)))))) (pss_one (ps_if (pt_cmpR op_eq (pv 4) pe_str (nomark _)) (pss_one (ps_set (i := 2) scSaid.nd rfl (Or.inl rfl) (pe_op op_add_str (pe_op op_add_str (pe_op op_add_str (pe_op op_add_str (pe_op op_add_str (pe_op op_add_str (pe_op op_add_str (pe_op op_add_str (pv 2) pe_str) (pe_ix ix_tup (pv 3) pe_int (fun _ _ => rfl))) (pv 5)) pe_str) (pe_call GE hrE rfl mE kE bE .nil pass0 (pa_cons (pv 0) (pa_cons (pe_ix ix_tup (pv 3) pe_int (fun _ _ => rfl)) pa_nil)))) pe_str) (pv 5)) (pe_call GE hrE rfl mE kE bE .nil pass0 (pa_cons (pv 0) (pa_cons (pe_ix ix_tup (pv 3) pe_int (fun _ _ => rfl)) pa_nil)))))) (pss_one (ps_if (pt_cmpR op_eq (pv 4) pe_str (nomark _)) (pss_one (ps_set (i := 2) scSaid.nd rfl (Or.inl rfl) (pe_op op_add_str (pe_op op_add_str (pe_op op_add_str (pe_op op_add_str (pe_op op_add_str (pv 2) pe_str) (pe_ix ix_tup (pv 3) pe_int (fun _ _ => rfl))) pe_str) (pe_join pe_str (pe_lc (own := [("one", 6)]) (g := gName 6) rfl scSaid.nd (pi_tup (pe_ix ix_tup (pv 3) pe_int (fun _ _ => rfl))) (blkOk_by (own := [("one", 6)]) (N := saidN) (sc := defScope S__law_said) (by decide +kernel)) (fun _ _ _ _ _ => pg_name (i := 6) scSaid.nd rfl (Or.inl rfl)) (fun _ _ _ _ _ => pts_nil) (fun _ _ _ _ _ => (pe_call GE hrE rfl mE kE bE .nil pass0 (pa_cons (pv 0) (pa_cons (pv 6) pa_nil))))))) pe_str))) pss_nil)))))))
      (pss_cons (ps_if (pt_cmpR op_in_seq (pv 4) (pe_tup (pa_cons pe_str (pa_cons pe_str (pa_cons pe_str pa_nil)))) (by rfl)) (pss_one (ps_set (i := 2) scSaid.nd rfl (Or.inl rfl) (pe_op op_add_str (pe_op op_add_str (pe_op op_add_str (pe_op op_add_str (pv 2) pe_str) (pe_call GI hr rfl mI F.kp bI .nil pass0 (pa_cons (pv 0) (pa_cons (pe_ifExp (pt_cmpR op_eq (pv 4) pe_str (nomark _)) (pe_ix ix_tup (pv 3) pe_int (fun _ _ => rfl)) (pe_ix ix_tup (pv 3) pe_int (fun _ _ => rfl))) pa_nil)))) (pv 5)) pe_str))) pss_nil)
      (pss_one (ps_if (PW.pt (pw_and (pt_cmpR op_eq (pv 4) pe_str (nomark _)) (pw_and1 (pt_cmpR (op_neD hr.units) (pe_ix ix_tup (pv 3) pe_int (fun _ _ => rfl)) (pe_tup pa_nil) (nomark _))))) (pss_one (ps_set (i := 2) scSaid.nd rfl (Or.inl rfl) (pe_op op_add_str (pe_op op_add_str (pe_op op_add_str (pv 2) pe_str) (pe_call GI hr rfl mI F.kp bI .nil pass0 (pa_cons (pv 0) (pa_cons (pe_ix ix_tup (pv 3) pe_int (fun _ _ => rfl)) pa_nil)))) pe_str))) pss_nil)))))))
    (pss_one (ps_ret (pv 2)))), ?_⟩
  obtain ⟨a, xs, rfl, hT, hA⟩ := dp_tup hv
  have scr : ∀ {H' : Hp}, Keep r H H' → Scr K H' r s := fun kp => ⟨zs, hzs, fun H2 k2 => hSc H2 (kp.trans k2)⟩
  refine ⟨_, rfl, a, rfl, ⟨_, hT⟩, for_tup (K := K) (a := a) (xs := xs) (fun i σ H' => ∃ (X : Str) (v3 v4 v5 : Option V), σ = [some (.ref r), some (.ref a), some (.str X), v3, v4, v5, none] ∧ Keep r H H' ∧ RowAt H' r s ∧ BlkT X (tkB (b.take i)) ∧ X.length ≤ lenB (b.take i))
    ⟨"", none, none, none, rfl, Keep.refl r H, hR, .inl ⟨rfl, by rw [List.take_zero]; rfl⟩, by rw [show ("" : Str).length = 0 by decide +kernel]; exact Nat.zero_le _⟩ (fun i σ H' _ ⟨_, _, _, _, _, kp, _⟩ => (hR.kt kp) _ _ hT) ?_ ?_⟩
  · rintro i y σ H3 hi ⟨X, v3, v4, v5, rfl, kp, R3, hX, hXl⟩
    obtain ⟨d, hd1, hd2⟩ := KD.DpAll.get hA hi
    obtain ⟨st, hst, rfl⟩ := dB_get hd1
    have hmem : st ∈ b := List.mem_of_getElem? hst
    have hwS := wfB_mem hw hmem
    have hdS : dpS st < n + 1 := Nat.lt_of_le_of_lt (dpB_mem hmem) hd
    have etk : b.take (i + 1) = b.take i ++ [st] := by
      rw [List.take_succ, hst]
      rfl
    have hlt : lenB (b.take i) + lenS st ≤ 1000000 := by
      have q := lenB_take b (i + 1)
      rw [etk, lenB_append] at q
      have q2 : lenB [st] = lenS st + 0 := rfl
      omega
    have fin : ∀ (H' : Hp) (X' : Str) (v3 v4 v5 : Option V), Keep r H H' → RowAt H' r s → PreT X' (tkB (b.take i) ++ tkS st) .both → X'.length ≤ lenB (b.take i) + lenS st →
        ∃ (X : Str) (w3 w4 w5 : Option V), ([some (.ref r), some (.ref a), some (.str X'), v3, v4, v5, none] : L2.St) = [some (.ref r), some (.ref a), some (.str X), w3, w4, w5, none] ∧ Keep r H H' ∧ RowAt H' r s ∧ BlkT X (tkB (b.take (i + 1))) ∧ X.length ≤ lenB (b.take (i + 1)) := fun H' X' v3 v4 v5 hk hR' hP hL => by
      refine ⟨X', v3, v4, v5, rfl, hk, hR', .inr ?_, ?_⟩
      · rw [etk, tkB_append]
        have e : tkB [st] = tkS st := by show tkS st ++ [] = _; rw [List.append_nil]
        rw [e]
        exact hP
      · rw [etk, lenB_append]
        have q2 : lenB [st] = lenS st + 0 := rfl
        omega
    have d3 := Dp.kt (hR.kt kp) (tupD_S st) hd2
    unfold wfS at hwS
    cases st with
    | row e =>
      obtain ⟨t, ts, rfl, hT3, hB⟩ := dp_tup d3
      obtain ⟨u0, q0, rfl, e0, hB⟩ := dp_cons hB
      obtain ⟨u1, q1, rfl, e1, hB⟩ := dp_cons hB
      obtain rfl := dp_nil hB
      obtain rfl := dp_str e0
      refine ⟨_, rfl, t, _, _, _, rfl, rfl, hT3, rfl, ?_⟩
      refine ⟨_, rfl, (by show 3 ≤ sizeLine; decide), fun p np => ?_⟩
      have kn := Keep.new (r := r) np (.lst (gaps.map V.str))
      refine ⟨r, s, _, rfl, R3.new np _, scr (kp.trans kn), .inl ⟨p, gaps.map V.str, rfl, R3.ne np, upd_same, (by show 1 ≤ 3; decide), (by show 3 ≤ 1000; decide), fun H4 vg k4 R4 hvg => ?_⟩⟩
      obtain ⟨gp, rfl, hgp⟩ := strs_mem hvg
      obtain ⟨hgb, hgl⟩ := gaps_ok gp hgp
      have k34 := kn.trans k4
      have K4 : KT K H3 H4 := R3.kt k34
      have kp4 := kp.trans k34
      have hT4 := K4 _ _ hT3
      refine ⟨_, _, rfl, ?_⟩
      have lw : ("row" : Str).length = 3 := by decide +kernel
      have bnd : X.length + (lenS (.row e)) ≤ 1000000 := by omega
      have P1 := hX.gap hgb
      have P2 := P1.step (Wd.key (w := "row") (by decide +kernel)) (Fol.ofB (by decide +kernel))
      refine ⟨_, rfl, _, rfl, _, _, rfl, rfl, big _ (by omega), _, rfl, _, _, rfl, rfl, big _ (by rw [sums]; omega), ?_⟩
      have L2 : (X ++ gp ++ ("row" : Str)).length ≤ lenB (b.take i) + 2 + 3 := by rw [sums, sums, lw]; omega
      generalize X ++ gp ++ ("row" : Str) = X2 at P2 L2 ⊢
      refine ⟨_, rfl, (by show 5 ≤ sizeLine; decide), fun p5 np5 => ⟨p5, _, rfl, .inr (SqT.of upd_same), rfl, rfl, _, rfl, ?_⟩⟩
      show if inV (.str "row") (w5.map V.str) = true then _ else _
      rw [in_strs, show decide (("row" : Str) ∈ w5) = true by decide +kernel]
      have s5 := same_new np5 (.tup (w5.map V.str))
      refine iteT ?_
      refine ⟨_, rfl, _, _, rfl, rfl, big _ (by rw [show (" " : Str).length = 1 by decide +kernel]; omega), ?_⟩
      refine ⟨_, rfl, _, rfl, t, _, _, _, rfl, rfl, KT.same s5 _ _ hT4, rfl, _, _, e, rfl, Dp.same s5 (Dp.kt K4 (tupD_E e) e1), hwS.1, Nat.lt_succ_of_le hwS.2, by decide, fun H5 Y sY hY hYl => ?_⟩
      have lE : lenS (.row e) = 6 + pl (dpE e) := rfl
      refine ⟨_, _, rfl, rfl, big _ (by rw [sums, show (" " : Str).length = 1 by decide +kernel]; omega), ?_⟩
      have P3 := (P2.blank (s := " ") (by decide +kernel)).part hY (.inr rfl)
      have kp5 : Keep r H H5 := kp4.trans fun c o _ z => sY c o (s5 c o z)
      have R5 : RowAt H5 r s := (R4.new np5 _).same' sY
      refine ⟨_, rfl, (by show 3 ≤ sizeLine; decide), fun p6 np6 => ⟨p6, _, rfl, .inr (SqT.of upd_same), rfl, rfl, _, rfl, ?_⟩⟩
      show if inV (.str "row") (w3.map V.str) = true then _ else _
      rw [in_strs, show decide (("row" : Str) ∈ w3) = false by decide +kernel]
      refine iteF ?_
      refine ⟨_, rfl, rfl, _, rfl, ?_⟩
      rw [show decide (V.str "row" = V.str "if") = false by decide +kernel]
      refine iteF (iteF ?_)
      have s6 := same_new np6 (.tup (w3.map V.str))
      refine fin _ _ _ _ _ (kp5.trans fun c o _ z => s6 c o z) (R5.new np6 _) ?_ (by rw [sums, sums, show (" " : Str).length = 1 by decide +kernel]; omega)
      have e9 : tkB (b.take i) ++ tkS (.row e) = tkB (b.take i) ++ [kK "row"] ++ tkE e := by
        show tkB (b.take i) ++ (kK "row" :: tkE e) = _
        simp
      rw [e9]
      exact P3
    | col e =>
      obtain ⟨t, ts, rfl, hT3, hB⟩ := dp_tup d3
      obtain ⟨u0, q0, rfl, e0, hB⟩ := dp_cons hB
      obtain ⟨u1, q1, rfl, e1, hB⟩ := dp_cons hB
      obtain rfl := dp_nil hB
      obtain rfl := dp_str e0
      refine ⟨_, rfl, t, _, _, _, rfl, rfl, hT3, rfl, ?_⟩
      refine ⟨_, rfl, (by show 3 ≤ sizeLine; decide), fun p np => ?_⟩
      have kn := Keep.new (r := r) np (.lst (gaps.map V.str))
      refine ⟨r, s, _, rfl, R3.new np _, scr (kp.trans kn), .inl ⟨p, gaps.map V.str, rfl, R3.ne np, upd_same, (by show 1 ≤ 3; decide), (by show 3 ≤ 1000; decide), fun H4 vg k4 R4 hvg => ?_⟩⟩
      obtain ⟨gp, rfl, hgp⟩ := strs_mem hvg
      obtain ⟨hgb, hgl⟩ := gaps_ok gp hgp
      have k34 := kn.trans k4
      have K4 : KT K H3 H4 := R3.kt k34
      have kp4 := kp.trans k34
      have hT4 := K4 _ _ hT3
      refine ⟨_, _, rfl, ?_⟩
      have lw : ("col" : Str).length = 3 := by decide +kernel
      have bnd : X.length + (lenS (.col e)) ≤ 1000000 := by omega
      have P1 := hX.gap hgb
      have P2 := P1.step (Wd.key (w := "col") (by decide +kernel)) (Fol.ofB (by decide +kernel))
      refine ⟨_, rfl, _, rfl, _, _, rfl, rfl, big _ (by omega), _, rfl, _, _, rfl, rfl, big _ (by rw [sums]; omega), ?_⟩
      have L2 : (X ++ gp ++ ("col" : Str)).length ≤ lenB (b.take i) + 2 + 3 := by rw [sums, sums, lw]; omega
      generalize X ++ gp ++ ("col" : Str) = X2 at P2 L2 ⊢
      refine ⟨_, rfl, (by show 5 ≤ sizeLine; decide), fun p5 np5 => ⟨p5, _, rfl, .inr (SqT.of upd_same), rfl, rfl, _, rfl, ?_⟩⟩
      show if inV (.str "col") (w5.map V.str) = true then _ else _
      rw [in_strs, show decide (("col" : Str) ∈ w5) = true by decide +kernel]
      have s5 := same_new np5 (.tup (w5.map V.str))
      refine iteT ?_
      refine ⟨_, rfl, _, _, rfl, rfl, big _ (by rw [show (" " : Str).length = 1 by decide +kernel]; omega), ?_⟩
      refine ⟨_, rfl, _, rfl, t, _, _, _, rfl, rfl, KT.same s5 _ _ hT4, rfl, _, _, e, rfl, Dp.same s5 (Dp.kt K4 (tupD_E e) e1), hwS.1, Nat.lt_succ_of_le hwS.2, by decide, fun H5 Y sY hY hYl => ?_⟩
      have lE : lenS (.col e) = 6 + pl (dpE e) := rfl
      refine ⟨_, _, rfl, rfl, big _ (by rw [sums, show (" " : Str).length = 1 by decide +kernel]; omega), ?_⟩
      have P3 := (P2.blank (s := " ") (by decide +kernel)).part hY (.inr rfl)
      have kp5 : Keep r H H5 := kp4.trans fun c o _ z => sY c o (s5 c o z)
      have R5 : RowAt H5 r s := (R4.new np5 _).same' sY
      refine ⟨_, rfl, (by show 3 ≤ sizeLine; decide), fun p6 np6 => ⟨p6, _, rfl, .inr (SqT.of upd_same), rfl, rfl, _, rfl, ?_⟩⟩
      show if inV (.str "col") (w3.map V.str) = true then _ else _
      rw [in_strs, show decide (("col" : Str) ∈ w3) = false by decide +kernel]
      refine iteF ?_
      refine ⟨_, rfl, rfl, _, rfl, ?_⟩
      rw [show decide (V.str "col" = V.str "if") = false by decide +kernel]
      refine iteF (iteF ?_)
      have s6 := same_new np6 (.tup (w3.map V.str))
      refine fin _ _ _ _ _ (kp5.trans fun c o _ z => s6 c o z) (R5.new np6 _) ?_ (by rw [sums, sums, show (" " : Str).length = 1 by decide +kernel]; omega)
      have e9 : tkB (b.take i) ++ tkS (.col e) = tkB (b.take i) ++ [kK "col"] ++ tkE e := by
        show tkB (b.take i) ++ (kK "col" :: tkE e) = _
        simp
      rw [e9]
      exact P3
    | say e =>
      obtain ⟨t, ts, rfl, hT3, hB⟩ := dp_tup d3
      obtain ⟨u0, q0, rfl, e0, hB⟩ := dp_cons hB
      obtain ⟨u1, q1, rfl, e1, hB⟩ := dp_cons hB
      obtain rfl := dp_nil hB
      obtain rfl := dp_str e0
      refine ⟨_, rfl, t, _, _, _, rfl, rfl, hT3, rfl, ?_⟩
      refine ⟨_, rfl, (by show 3 ≤ sizeLine; decide), fun p np => ?_⟩
      have kn := Keep.new (r := r) np (.lst (gaps.map V.str))
      refine ⟨r, s, _, rfl, R3.new np _, scr (kp.trans kn), .inl ⟨p, gaps.map V.str, rfl, R3.ne np, upd_same, (by show 1 ≤ 3; decide), (by show 3 ≤ 1000; decide), fun H4 vg k4 R4 hvg => ?_⟩⟩
      obtain ⟨gp, rfl, hgp⟩ := strs_mem hvg
      obtain ⟨hgb, hgl⟩ := gaps_ok gp hgp
      have k34 := kn.trans k4
      have K4 : KT K H3 H4 := R3.kt k34
      have kp4 := kp.trans k34
      have hT4 := K4 _ _ hT3
      refine ⟨_, _, rfl, ?_⟩
      have lw : ("say" : Str).length = 3 := by decide +kernel
      have bnd : X.length + (lenS (.say e)) ≤ 1000000 := by omega
      have P1 := hX.gap hgb
      have P2 := P1.step (Wd.key (w := "say") (by decide +kernel)) (Fol.ofB (by decide +kernel))
      refine ⟨_, rfl, _, rfl, _, _, rfl, rfl, big _ (by omega), _, rfl, _, _, rfl, rfl, big _ (by rw [sums]; omega), ?_⟩
      have L2 : (X ++ gp ++ ("say" : Str)).length ≤ lenB (b.take i) + 2 + 3 := by rw [sums, sums, lw]; omega
      generalize X ++ gp ++ ("say" : Str) = X2 at P2 L2 ⊢
      refine ⟨_, rfl, (by show 5 ≤ sizeLine; decide), fun p5 np5 => ⟨p5, _, rfl, .inr (SqT.of upd_same), rfl, rfl, _, rfl, ?_⟩⟩
      show if inV (.str "say") (w5.map V.str) = true then _ else _
      rw [in_strs, show decide (("say" : Str) ∈ w5) = true by decide +kernel]
      have s5 := same_new np5 (.tup (w5.map V.str))
      refine iteT ?_
      refine ⟨_, rfl, _, _, rfl, rfl, big _ (by rw [show (" " : Str).length = 1 by decide +kernel]; omega), ?_⟩
      refine ⟨_, rfl, _, rfl, t, _, _, _, rfl, rfl, KT.same s5 _ _ hT4, rfl, _, _, e, rfl, Dp.same s5 (Dp.kt K4 (tupD_E e) e1), hwS.1, Nat.lt_succ_of_le hwS.2, by decide, fun H5 Y sY hY hYl => ?_⟩
      have lE : lenS (.say e) = 6 + pl (dpE e) := rfl
      refine ⟨_, _, rfl, rfl, big _ (by rw [sums, show (" " : Str).length = 1 by decide +kernel]; omega), ?_⟩
      have P3 := (P2.blank (s := " ") (by decide +kernel)).part hY (.inr rfl)
      have kp5 : Keep r H H5 := kp4.trans fun c o _ z => sY c o (s5 c o z)
      have R5 : RowAt H5 r s := (R4.new np5 _).same' sY
      refine ⟨_, rfl, (by show 3 ≤ sizeLine; decide), fun p6 np6 => ⟨p6, _, rfl, .inr (SqT.of upd_same), rfl, rfl, _, rfl, ?_⟩⟩
      show if inV (.str "say") (w3.map V.str) = true then _ else _
      rw [in_strs, show decide (("say" : Str) ∈ w3) = false by decide +kernel]
      refine iteF ?_
      refine ⟨_, rfl, rfl, _, rfl, ?_⟩
      rw [show decide (V.str "say" = V.str "if") = false by decide +kernel]
      refine iteF (iteF ?_)
      have s6 := same_new np6 (.tup (w3.map V.str))
      refine fin _ _ _ _ _ (kp5.trans fun c o _ z => s6 c o z) (R5.new np6 _) ?_ (by rw [sums, sums, show (" " : Str).length = 1 by decide +kernel]; omega)
      have e9 : tkB (b.take i) ++ tkS (.say e) = tkB (b.take i) ++ [kK "say"] ++ tkE e := by
        show tkB (b.take i) ++ (kK "say" :: tkE e) = _
        simp
      rw [e9]
      exact P3
    | set x e =>
      obtain ⟨t, ts, rfl, hT3, hB⟩ := dp_tup d3
      obtain ⟨u0, q0, rfl, e0, hB⟩ := dp_cons hB
      obtain ⟨u1, q1, rfl, e1, hB⟩ := dp_cons hB
      obtain ⟨u2, q2, rfl, e2, hB⟩ := dp_cons hB
      obtain rfl := dp_nil hB
      obtain rfl := dp_str e0
      obtain rfl := dp_str e1
      refine ⟨_, rfl, t, _, _, _, rfl, rfl, hT3, rfl, ?_⟩
      refine ⟨_, rfl, (by show 3 ≤ sizeLine; decide), fun p np => ?_⟩
      have kn := Keep.new (r := r) np (.lst (gaps.map V.str))
      refine ⟨r, s, _, rfl, R3.new np _, scr (kp.trans kn), .inl ⟨p, gaps.map V.str, rfl, R3.ne np, upd_same, (by show 1 ≤ 3; decide), (by show 3 ≤ 1000; decide), fun H4 vg k4 R4 hvg => ?_⟩⟩
      obtain ⟨gp, rfl, hgp⟩ := strs_mem hvg
      obtain ⟨hgb, hgl⟩ := gaps_ok gp hgp
      have k34 := kn.trans k4
      have K4 : KT K H3 H4 := R3.kt k34
      have kp4 := kp.trans k34
      have hT4 := K4 _ _ hT3
      refine ⟨_, _, rfl, ?_⟩
      have lw : ("let" : Str).length = 3 := by decide +kernel
      have bnd : X.length + (lenS (.set x e)) ≤ 1000000 := by omega
      have P1 := hX.gap hgb
      have P2 := P1.step (Wd.key (w := "let") (by decide +kernel)) (Fol.ofB (by decide +kernel))
      refine ⟨_, rfl, _, rfl, _, _, rfl, rfl, big _ (by omega), _, rfl, _, _, rfl, rfl, big _ (by rw [sums]; omega), ?_⟩
      have L2 : (X ++ gp ++ ("let" : Str)).length ≤ lenB (b.take i) + 2 + 3 := by rw [sums, sums, lw]; omega
      generalize X ++ gp ++ ("let" : Str) = X2 at P2 L2 ⊢
      have lsp : (" " : Str).length = 1 := by decide +kernel
      have lob : ("{" : Str).length = 1 := by decide +kernel
      have lcb : ("}" : Str).length = 1 := by decide +kernel
      have lel : ("else{" : Str).length = 5 := by decide +kernel
      have leq : ("=" : Str).length = 1 := by decide +kernel
      have lto : (" to" : Str).length = 3 := by decide +kernel
      have lpo : ("(" : Str).length = 1 := by decide +kernel
      have lpc : (")" : Str).length = 1 := by decide +kernel
      have lx := nameW_len hwS.1
      have lE : lenS (.set x e) = 14 + pl (dpE e) := rfl
      refine ⟨_, rfl, (by show 5 ≤ sizeLine; decide), fun p5 np5 => ⟨p5, _, rfl, .inr (SqT.of upd_same), rfl, rfl, _, rfl, ?_⟩⟩
      show if inV (.str "let") (w5.map V.str) = true then _ else _
      rw [in_strs, show decide (("let" : Str) ∈ w5) = false by decide +kernel]
      have s5 := same_new np5 (.tup (w5.map V.str))
      refine iteF ?_
      refine ⟨_, rfl, rfl, _, rfl, ?_⟩
      rw [show decide (V.str "let" = V.str "let") = true by decide +kernel]
      have K5 : KT K H3 (upd H4 p5 (.tup (w5.map V.str))) := K4.trans (KT.same s5)
      refine iteT ⟨_, rfl, _, rfl, _, _, rfl, rfl, big _ (by first | omega | (simp only [sums, lsp, lob, lcb, lel, leq, lto, lpo, lpc]; omega)), _, rfl, t, _, _, _, rfl, rfl, K5 _ _ hT3, rfl, _, _, rfl, rfl, big _ (by first | omega | (simp only [sums, lsp, lob, lcb, lel, leq, lto, lpo, lpc]; omega)), _, _, rfl, rfl, big _ (by first | omega | (simp only [sums, lsp, lob, lcb, lel, leq, lto, lpo, lpc]; omega)), _, rfl, _, rfl, t, _, _, _, rfl, rfl, K5 _ _ hT3, rfl, _, _, e, rfl, Dp.kt K5 (tupD_E e) e2, hwS.2.1, Nat.lt_succ_of_le hwS.2.2, by decide, fun H5 Y sY hY hYl => ⟨_, _, rfl, rfl, big _ (by first | omega | (simp only [sums, lsp, lob, lcb, lel, leq, lto, lpo, lpc]; omega)), ?_⟩⟩
      have P3 := (((P2.blank hgb).step (Wd.nm hwS.1) (Fol.anyF _)).lit (X := "=") (vs := [kM "="]) (g := .mark) [.wd "mark" "="] (by decide +kernel) rfl (by decide +kernel) rfl).part hY (.inl rfl)
      have kp5 : Keep r H H5 := kp4.trans fun c o _ z => sY c o (s5 c o z)
      have R5 : RowAt H5 r s := (R4.new np5 _).same' sY
      refine ⟨_, rfl, (by show 3 ≤ sizeLine; decide), fun p6 np6 => ⟨p6, _, rfl, .inr (SqT.of upd_same), rfl, rfl, _, rfl, ?_⟩⟩
      show if inV (.str "let") (w3.map V.str) = true then _ else _
      rw [in_strs, show decide (("let" : Str) ∈ w3) = false by decide +kernel]
      have s6 := same_new np6 (.tup (w3.map V.str))
      refine iteF ?_
      refine ⟨_, rfl, rfl, _, rfl, ?_⟩
      rw [show decide (V.str "let" = V.str "if") = false by decide +kernel]
      refine iteF (iteF ?_)
      refine fin _ _ _ _ _ (kp5.trans fun c o _ z => s6 c o z) (R5.new np6 _) ?_ (by first | omega | (simp only [sums, lsp, lob, lcb, lel, leq, lto, lpo, lpc]; omega))
      have e9 : tkB (b.take i) ++ tkS (.set x e) = tkB (b.take i) ++ [kK "let"] ++ [kN x] ++ [kM "="] ++ tkE e := by
        show tkB (b.take i) ++ ([kK "let", kN x, kM "="] ++ tkE e) = _
        simp
      rw [e9]
      exact P3
    | stop =>
      obtain ⟨t, ts, rfl, hT3, hB⟩ := dp_tup d3
      obtain ⟨u0, q0, rfl, e0, hB⟩ := dp_cons hB
      obtain rfl := dp_nil hB
      obtain rfl := dp_str e0
      refine ⟨_, rfl, t, _, _, _, rfl, rfl, hT3, rfl, ?_⟩
      refine ⟨_, rfl, (by show 3 ≤ sizeLine; decide), fun p np => ?_⟩
      have kn := Keep.new (r := r) np (.lst (gaps.map V.str))
      refine ⟨r, s, _, rfl, R3.new np _, scr (kp.trans kn), .inl ⟨p, gaps.map V.str, rfl, R3.ne np, upd_same, (by show 1 ≤ 3; decide), (by show 3 ≤ 1000; decide), fun H4 vg k4 R4 hvg => ?_⟩⟩
      obtain ⟨gp, rfl, hgp⟩ := strs_mem hvg
      obtain ⟨hgb, hgl⟩ := gaps_ok gp hgp
      have k34 := kn.trans k4
      have K4 : KT K H3 H4 := R3.kt k34
      have kp4 := kp.trans k34
      have hT4 := K4 _ _ hT3
      refine ⟨_, _, rfl, ?_⟩
      have lw : ("stop" : Str).length = 4 := by decide +kernel
      have bnd : X.length + (lenS (.stop)) ≤ 1000000 := by omega
      have P1 := hX.gap hgb
      have P2 := P1.step (Wd.key (w := "stop") (by decide +kernel)) (Fol.ofB (by decide +kernel))
      refine ⟨_, rfl, _, rfl, _, _, rfl, rfl, big _ (by omega), _, rfl, _, _, rfl, rfl, big _ (by rw [sums]; omega), ?_⟩
      have L2 : (X ++ gp ++ ("stop" : Str)).length ≤ lenB (b.take i) + 2 + 4 := by rw [sums, sums, lw]; omega
      generalize X ++ gp ++ ("stop" : Str) = X2 at P2 L2 ⊢
      have lsp : (" " : Str).length = 1 := by decide +kernel
      have lob : ("{" : Str).length = 1 := by decide +kernel
      have lcb : ("}" : Str).length = 1 := by decide +kernel
      have lel : ("else{" : Str).length = 5 := by decide +kernel
      have leq : ("=" : Str).length = 1 := by decide +kernel
      have lto : (" to" : Str).length = 3 := by decide +kernel
      have lpo : ("(" : Str).length = 1 := by decide +kernel
      have lpc : (")" : Str).length = 1 := by decide +kernel
      have lE : lenS .stop = 6 := rfl
      refine ⟨_, rfl, (by show 5 ≤ sizeLine; decide), fun p5 np5 => ⟨p5, _, rfl, .inr (SqT.of upd_same), rfl, rfl, _, rfl, ?_⟩⟩
      show if inV (.str "stop") (w5.map V.str) = true then _ else _
      rw [in_strs, show decide (("stop" : Str) ∈ w5) = false by decide +kernel]
      have s5 := same_new np5 (.tup (w5.map V.str))
      refine iteF ?_
      refine ⟨_, rfl, rfl, _, rfl, ?_⟩
      rw [show decide (V.str "stop" = V.str "let") = false by decide +kernel]
      refine iteF ?_
      refine ⟨_, rfl, rfl, _, rfl, ?_⟩
      rw [show decide (V.str "stop" = V.str "for") = false by decide +kernel]
      refine iteF ?_
      refine ⟨_, rfl, rfl, _, rfl, ?_⟩
      rw [show decide (V.str "stop" = V.str "do") = false by decide +kernel]
      refine iteF ?_
      have kp5 : Keep r H (upd H4 p5 (.tup (w5.map V.str))) := kp4.trans fun c o _ z => s5 c o z
      have R5 := R4.new np5 (.tup (w5.map V.str))
      refine ⟨_, rfl, (by show 3 ≤ sizeLine; decide), fun p6 np6 => ⟨p6, _, rfl, .inr (SqT.of upd_same), rfl, rfl, _, rfl, ?_⟩⟩
      show if inV (.str "stop") (w3.map V.str) = true then _ else _
      rw [in_strs, show decide (("stop" : Str) ∈ w3) = false by decide +kernel]
      have s6 := same_new np6 (.tup (w3.map V.str))
      refine iteF ?_
      refine ⟨_, rfl, rfl, _, rfl, ?_⟩
      rw [show decide (V.str "stop" = V.str "if") = false by decide +kernel]
      refine iteF (iteF ?_)
      refine fin _ _ _ _ _ (kp5.trans fun c o _ z => s6 c o z) (R5.new np6 _) ?_ (by first | omega | (simp only [sums, lsp, lob, lcb, lel, leq, lto, lpo, lpc]; omega))
      exact P2.both
    | whl cd a2 =>
      obtain ⟨t, ts, rfl, hT3, hB⟩ := dp_tup d3
      obtain ⟨u0, q0, rfl, e0, hB⟩ := dp_cons hB
      obtain ⟨u1, q1, rfl, e1, hB⟩ := dp_cons hB
      obtain ⟨u2, q2, rfl, e2, hB⟩ := dp_cons hB
      obtain rfl := dp_nil hB
      obtain rfl := dp_str e0
      refine ⟨_, rfl, t, _, _, _, rfl, rfl, hT3, rfl, ?_⟩
      refine ⟨_, rfl, (by show 3 ≤ sizeLine; decide), fun p np => ?_⟩
      have kn := Keep.new (r := r) np (.lst (gaps.map V.str))
      refine ⟨r, s, _, rfl, R3.new np _, scr (kp.trans kn), .inl ⟨p, gaps.map V.str, rfl, R3.ne np, upd_same, (by show 1 ≤ 3; decide), (by show 3 ≤ 1000; decide), fun H4 vg k4 R4 hvg => ?_⟩⟩
      obtain ⟨gp, rfl, hgp⟩ := strs_mem hvg
      obtain ⟨hgb, hgl⟩ := gaps_ok gp hgp
      have k34 := kn.trans k4
      have K4 : KT K H3 H4 := R3.kt k34
      have kp4 := kp.trans k34
      have hT4 := K4 _ _ hT3
      refine ⟨_, _, rfl, ?_⟩
      have lw : ("while" : Str).length = 5 := by decide +kernel
      have bnd : X.length + (lenS (.whl cd a2)) ≤ 1000000 := by omega
      have P1 := hX.gap hgb
      have P2 := P1.step (Wd.key (w := "while") (by decide +kernel)) (Fol.ofB (by decide +kernel))
      refine ⟨_, rfl, _, rfl, _, _, rfl, rfl, big _ (by omega), _, rfl, _, _, rfl, rfl, big _ (by rw [sums]; omega), ?_⟩
      have L2 : (X ++ gp ++ ("while" : Str)).length ≤ lenB (b.take i) + 2 + 5 := by rw [sums, sums, lw]; omega
      generalize X ++ gp ++ ("while" : Str) = X2 at P2 L2 ⊢
      have lsp : (" " : Str).length = 1 := by decide +kernel
      have lob : ("{" : Str).length = 1 := by decide +kernel
      have lcb : ("}" : Str).length = 1 := by decide +kernel
      have lel : ("else{" : Str).length = 5 := by decide +kernel
      have leq : ("=" : Str).length = 1 := by decide +kernel
      have lto : (" to" : Str).length = 3 := by decide +kernel
      have lpo : ("(" : Str).length = 1 := by decide +kernel
      have lpc : (")" : Str).length = 1 := by decide +kernel
      have lE : lenS (.whl cd a2) = 20 + pl (dpE cd) + lenB a2 := rfl
      have hdS' : dpB a2 + 1 < n + 1 := hdS
      refine ⟨_, rfl, (by show 5 ≤ sizeLine; decide), fun p5 np5 => ⟨p5, _, rfl, .inr (SqT.of upd_same), rfl, rfl, _, rfl, ?_⟩⟩
      show if inV (.str "while") (w5.map V.str) = true then _ else _
      rw [in_strs, show decide (("while" : Str) ∈ w5) = true by decide +kernel]
      have s5 := same_new np5 (.tup (w5.map V.str))
      have K5 : KT K H3 (upd H4 p5 (.tup (w5.map V.str))) := K4.trans (KT.same s5)
      refine iteT ⟨_, rfl, _, _, rfl, rfl, big _ (by first | omega | (simp only [sums, lsp, lob, lcb, lel, leq, lto, lpo, lpc]; omega)), _, rfl, _, rfl, t, _, _, _, rfl, rfl, K5 _ _ hT3, rfl, _, _, cd, rfl, Dp.kt K5 (tupD_E cd) e1, hwS.1.1, Nat.lt_succ_of_le hwS.1.2, by decide, fun H5 Y sY hY hYl => ⟨_, _, rfl, rfl, big _ (by first | omega | (simp only [sums, lsp, lob, lcb, lel, leq, lto, lpo, lpc]; omega)), ?_⟩⟩
      have P3 := (P2.blank (s := " ") (by decide +kernel)).part hY (.inr rfl)
      have kp5 : Keep r H H5 := kp4.trans fun c o _ z => sY c o (s5 c o z)
      have R5 : RowAt H5 r s := (R4.new np5 _).same' sY
      have K55 : KT K H3 H5 := K5.trans (KT.same sY)
      refine ⟨_, rfl, (by show 3 ≤ sizeLine; decide), fun p6 np6 => ⟨p6, _, rfl, .inr (SqT.of upd_same), rfl, rfl, _, rfl, ?_⟩⟩
      show if inV (.str "while") (w3.map V.str) = true then _ else _
      rw [in_strs, show decide (("while" : Str) ∈ w3) = true by decide +kernel]
      have s6 := same_new np6 (.tup (w3.map V.str))
      have K6 := K55.trans (KT.same s6)
      have kp6 := kp5.trans (fun c o (_ : c ≠ r) z => s6 c o z)
      have R6 := R5.new np6 (.tup (w3.map V.str))
      refine iteT ⟨_, rfl, _, _, rfl, rfl, big _ (by first | omega | (simp only [sums, lsp, lob, lcb, lel, leq, lto, lpo, lpc]; omega)), _, rfl, _, rfl, rfl, _, rfl, ?_⟩
      rw [show decide (V.str "while" = V.str "for") = false by decide +kernel]
      refine iteF ⟨_, rfl, t, _, _, _, rfl, rfl, K6 _ _ hT3, rfl, r, s, _, a2, rfl, R6, scr kp6, Dp.kt K6 (by show tupDs (dB a2) = true; exact tupD_B a2) e2, hwS.2, by omega, by omega, by omega, fun H7 Z k7 R7 hZ hZl => ?_⟩
      refine ⟨_, _, rfl, rfl, big _ (by first | omega | (simp only [sums, lsp, lob, lcb, lel, leq, lto, lpo, lpc]; omega)), _, rfl, _, _, rfl, rfl, big _ (by first | omega | (simp only [sums, lsp, lob, lcb, lel, leq, lto, lpo, lpc]; omega)), _, _, rfl, rfl, big _ (by first | omega | (simp only [sums, lsp, lob, lcb, lel, leq, lto, lpo, lpc]; omega)), ?_⟩
      have P4 := P3.lit (X := "{") (vs := [kM "{"]) (g := .mark) [.wd "mark" "{"] (by decide +kernel) rfl (by decide +kernel) rfl
      obtain ⟨g5, hg5, P5⟩ := P4.blk hZ
      have P6m := (P5.blank hgb).lit (X := "}") (vs := [kM "}"]) (g := .mark) [.wd "mark" "}"] (by decide +kernel) rfl (by decide +kernel) rfl
      have P6 := P6m.both
      have kp7 := kp6.trans k7
      have K7 := K6.trans (R6.kt k7)
      refine ⟨_, rfl, rfl, _, rfl, ?_⟩
      rw [show decide (V.str "while" = V.str "if") = false by decide +kernel]
      refine iteF (iteF ?_)
      refine fin _ _ _ _ _ kp7 R7 ?_ (by first | omega | (simp only [sums, lsp, lob, lcb, lel, leq, lto, lpo, lpc]; omega))
      have e9 : tkB (b.take i) ++ tkS (.whl cd a2) = tkB (b.take i) ++ [kK "while"] ++ tkE cd ++ [kM "{"] ++ tkB a2 ++ [kM "}"] := by
        show tkB (b.take i) ++ ([kK "while"] ++ tkE cd ++ [kM "{"] ++ tkB a2 ++ [kM "}"]) = _
        simp
      rw [e9]
      exact P6
    | for_ x c1 c2 s2 =>
      obtain ⟨t, ts, rfl, hT3, hB⟩ := dp_tup d3
      obtain ⟨u0, q0, rfl, e0, hB⟩ := dp_cons hB
      obtain ⟨u1, q1, rfl, e1, hB⟩ := dp_cons hB
      obtain ⟨u2, q2, rfl, e2, hB⟩ := dp_cons hB
      obtain ⟨u3, q3, rfl, e3, hB⟩ := dp_cons hB
      obtain ⟨u4, q4, rfl, e4, hB⟩ := dp_cons hB
      obtain rfl := dp_nil hB
      obtain rfl := dp_str e0
      obtain rfl := dp_str e1
      refine ⟨_, rfl, t, _, _, _, rfl, rfl, hT3, rfl, ?_⟩
      refine ⟨_, rfl, (by show 3 ≤ sizeLine; decide), fun p np => ?_⟩
      have kn := Keep.new (r := r) np (.lst (gaps.map V.str))
      refine ⟨r, s, _, rfl, R3.new np _, scr (kp.trans kn), .inl ⟨p, gaps.map V.str, rfl, R3.ne np, upd_same, (by show 1 ≤ 3; decide), (by show 3 ≤ 1000; decide), fun H4 vg k4 R4 hvg => ?_⟩⟩
      obtain ⟨gp, rfl, hgp⟩ := strs_mem hvg
      obtain ⟨hgb, hgl⟩ := gaps_ok gp hgp
      have k34 := kn.trans k4
      have K4 : KT K H3 H4 := R3.kt k34
      have kp4 := kp.trans k34
      have hT4 := K4 _ _ hT3
      refine ⟨_, _, rfl, ?_⟩
      have lw : ("for" : Str).length = 3 := by decide +kernel
      have bnd : X.length + (lenS (.for_ x c1 c2 s2)) ≤ 1000000 := by omega
      have P1 := hX.gap hgb
      have P2 := P1.step (Wd.key (w := "for") (by decide +kernel)) (Fol.ofB (by decide +kernel))
      refine ⟨_, rfl, _, rfl, _, _, rfl, rfl, big _ (by omega), _, rfl, _, _, rfl, rfl, big _ (by rw [sums]; omega), ?_⟩
      have L2 : (X ++ gp ++ ("for" : Str)).length ≤ lenB (b.take i) + 2 + 3 := by rw [sums, sums, lw]; omega
      generalize X ++ gp ++ ("for" : Str) = X2 at P2 L2 ⊢
      have lsp : (" " : Str).length = 1 := by decide +kernel
      have lob : ("{" : Str).length = 1 := by decide +kernel
      have lcb : ("}" : Str).length = 1 := by decide +kernel
      have lel : ("else{" : Str).length = 5 := by decide +kernel
      have leq : ("=" : Str).length = 1 := by decide +kernel
      have lto : (" to" : Str).length = 3 := by decide +kernel
      have lpo : ("(" : Str).length = 1 := by decide +kernel
      have lpc : (")" : Str).length = 1 := by decide +kernel
      have lx := nameW_len hwS.1
      have lE : lenS (.for_ x c1 c2 s2) = 30 + pl (dpE c1) + pl (dpE c2) + lenB s2 := rfl
      have hdS' : dpB s2 + 1 < n + 1 := hdS
      refine ⟨_, rfl, (by show 5 ≤ sizeLine; decide), fun p5 np5 => ⟨p5, _, rfl, .inr (SqT.of upd_same), rfl, rfl, _, rfl, ?_⟩⟩
      show if inV (.str "for") (w5.map V.str) = true then _ else _
      rw [in_strs, show decide (("for" : Str) ∈ w5) = false by decide +kernel]
      have s5 := same_new np5 (.tup (w5.map V.str))
      refine iteF ?_
      refine ⟨_, rfl, rfl, _, rfl, ?_⟩
      rw [show decide (V.str "for" = V.str "let") = false by decide +kernel]
      refine iteF ?_
      refine ⟨_, rfl, rfl, _, rfl, ?_⟩
      rw [show decide (V.str "for" = V.str "for") = true by decide +kernel]
      have K5 : KT K H3 (upd H4 p5 (.tup (w5.map V.str))) := K4.trans (KT.same s5)
      refine iteT ⟨_, rfl, _, _, rfl, rfl, big _ (by first | omega | (simp only [sums, lsp, lob, lcb, lel, leq, lto, lpo, lpc]; omega)), _, rfl, t, _, _, _, rfl, rfl, K5 _ _ hT3, rfl, _, _, rfl, rfl, big _ (by first | omega | (simp only [sums, lsp, lob, lcb, lel, leq, lto, lpo, lpc]; omega)), _, rfl, _, _, rfl, rfl, big _ (by first | omega | (simp only [sums, lsp, lob, lcb, lel, leq, lto, lpo, lpc]; omega)), _, _, rfl, rfl, big _ (by first | omega | (simp only [sums, lsp, lob, lcb, lel, leq, lto, lpo, lpc]; omega)), _, rfl, _, rfl, t, _, _, _, rfl, rfl, K5 _ _ hT3, rfl, _, _, c1, rfl, Dp.kt K5 (tupD_E c1) e2, hwS.2.1.1, Nat.lt_succ_of_le hwS.2.1.2, by decide, fun H5 Y sY hY hYl => ?_⟩
      have K55 : KT K H3 H5 := K5.trans (KT.same sY)
      refine ⟨_, _, rfl, rfl, big _ (by first | omega | (simp only [sums, lsp, lob, lcb, lel, leq, lto, lpo, lpc]; omega)), _, _, rfl, rfl, big _ (by first | omega | (simp only [sums, lsp, lob, lcb, lel, leq, lto, lpo, lpc]; omega)), _, rfl, _, _, rfl, rfl, big _ (by first | omega | (simp only [sums, lsp, lob, lcb, lel, leq, lto, lpo, lpc]; omega)), _, rfl, _, rfl, t, _, _, _, rfl, rfl, K55 _ _ hT3, rfl, _, _, c2, rfl, Dp.kt K55 (tupD_E c2) e3, hwS.2.2.1.1, Nat.lt_succ_of_le hwS.2.2.1.2, by decide, fun H6 Y2 sY2 hY2 hYl2 => ⟨_, _, rfl, rfl, big _ (by first | omega | (simp only [sums, lsp, lob, lcb, lel, leq, lto, lpo, lpc]; omega)), ?_⟩⟩
      have P3 := (((((((P2.blank (s := " ") (by decide +kernel)).step (Wd.nm hwS.1) (Fol.anyF _)).blank hgb).lit (X := "=") (vs := [kM "="]) (g := .mark) [.wd "mark" "="] (by decide +kernel) rfl (by decide +kernel) rfl).part hY (.inl rfl)).lit (X := " to") (vs := [kK "to"]) (g := .word) [.bl " ", .wd "key" "to"] (by decide +kernel) rfl (by decide +kernel) rfl).blank hgb).part hY2 (.inr rfl)
      have kp5 : Keep r H H6 := kp4.trans fun c o _ z => sY2 c o (sY c o (s5 c o z))
      have R5 : RowAt H6 r s := ((R4.new np5 _).same' sY).same' sY2
      have K56 : KT K H3 H6 := K55.trans (KT.same sY2)
      refine ⟨_, rfl, (by show 3 ≤ sizeLine; decide), fun p6 np6 => ⟨p6, _, rfl, .inr (SqT.of upd_same), rfl, rfl, _, rfl, ?_⟩⟩
      show if inV (.str "for") (w3.map V.str) = true then _ else _
      rw [in_strs, show decide (("for" : Str) ∈ w3) = true by decide +kernel]
      have s6 := same_new np6 (.tup (w3.map V.str))
      have K6 := K56.trans (KT.same s6)
      have kp6 := kp5.trans (fun c o (_ : c ≠ r) z => s6 c o z)
      have R6 := R5.new np6 (.tup (w3.map V.str))
      refine iteT ⟨_, rfl, _, _, rfl, rfl, big _ (by first | omega | (simp only [sums, lsp, lob, lcb, lel, leq, lto, lpo, lpc]; omega)), _, rfl, _, rfl, rfl, _, rfl, ?_⟩
      rw [show decide (V.str "for" = V.str "for") = true by decide +kernel]
      refine iteT ⟨_, rfl, t, _, _, _, rfl, rfl, K6 _ _ hT3, rfl, r, s, _, s2, rfl, R6, scr kp6, Dp.kt K6 (by show tupDs (dB s2) = true; exact tupD_B s2) e4, hwS.2.2.2, by omega, by omega, by omega, fun H7 Z k7 R7 hZ hZl => ?_⟩
      refine ⟨_, _, rfl, rfl, big _ (by first | omega | (simp only [sums, lsp, lob, lcb, lel, leq, lto, lpo, lpc]; omega)), _, rfl, _, _, rfl, rfl, big _ (by first | omega | (simp only [sums, lsp, lob, lcb, lel, leq, lto, lpo, lpc]; omega)), _, _, rfl, rfl, big _ (by first | omega | (simp only [sums, lsp, lob, lcb, lel, leq, lto, lpo, lpc]; omega)), ?_⟩
      have P4 := P3.lit (X := "{") (vs := [kM "{"]) (g := .mark) [.wd "mark" "{"] (by decide +kernel) rfl (by decide +kernel) rfl
      obtain ⟨g5, hg5, P5⟩ := P4.blk hZ
      have P6m := (P5.blank hgb).lit (X := "}") (vs := [kM "}"]) (g := .mark) [.wd "mark" "}"] (by decide +kernel) rfl (by decide +kernel) rfl
      have P6 := P6m.both
      have kp7 := kp6.trans k7
      have K7 := K6.trans (R6.kt k7)
      refine ⟨_, rfl, rfl, _, rfl, ?_⟩
      rw [show decide (V.str "for" = V.str "if") = false by decide +kernel]
      refine iteF (iteF ?_)
      refine fin _ _ _ _ _ kp7 R7 ?_ (by first | omega | (simp only [sums, lsp, lob, lcb, lel, leq, lto, lpo, lpc]; omega))
      have e9 : tkB (b.take i) ++ tkS (.for_ x c1 c2 s2) = tkB (b.take i) ++ [kK "for"] ++ [kN x] ++ [kM "="] ++ tkE c1 ++ [kK "to"] ++ tkE c2 ++ [kM "{"] ++ tkB s2 ++ [kM "}"] := by
        show tkB (b.take i) ++ ([kK "for", kN x, kM "="] ++ tkE c1 ++ [kK "to"] ++ tkE c2 ++ [kM "{"] ++ tkB s2 ++ [kM "}"]) = _
        simp
      rw [e9]
      exact P6
    | ite cd a2 b2 =>
      obtain ⟨t, ts, rfl, hT3, hB⟩ := dp_tup d3
      obtain ⟨u0, q0, rfl, e0, hB⟩ := dp_cons hB
      obtain ⟨u1, q1, rfl, e1, hB⟩ := dp_cons hB
      obtain ⟨u2, q2, rfl, e2, hB⟩ := dp_cons hB
      obtain ⟨u3, q3, rfl, e3, hB⟩ := dp_cons hB
      obtain rfl := dp_nil hB
      obtain rfl := dp_str e0
      refine ⟨_, rfl, t, _, _, _, rfl, rfl, hT3, rfl, ?_⟩
      refine ⟨_, rfl, (by show 3 ≤ sizeLine; decide), fun p np => ?_⟩
      have kn := Keep.new (r := r) np (.lst (gaps.map V.str))
      refine ⟨r, s, _, rfl, R3.new np _, scr (kp.trans kn), .inl ⟨p, gaps.map V.str, rfl, R3.ne np, upd_same, (by show 1 ≤ 3; decide), (by show 3 ≤ 1000; decide), fun H4 vg k4 R4 hvg => ?_⟩⟩
      obtain ⟨gp, rfl, hgp⟩ := strs_mem hvg
      obtain ⟨hgb, hgl⟩ := gaps_ok gp hgp
      have k34 := kn.trans k4
      have K4 : KT K H3 H4 := R3.kt k34
      have kp4 := kp.trans k34
      have hT4 := K4 _ _ hT3
      refine ⟨_, _, rfl, ?_⟩
      have lw : ("if" : Str).length = 2 := by decide +kernel
      have bnd : X.length + (lenS (.ite cd a2 b2)) ≤ 1000000 := by omega
      have P1 := hX.gap hgb
      have P2 := P1.step (Wd.key (w := "if") (by decide +kernel)) (Fol.ofB (by decide +kernel))
      refine ⟨_, rfl, _, rfl, _, _, rfl, rfl, big _ (by omega), _, rfl, _, _, rfl, rfl, big _ (by rw [sums]; omega), ?_⟩
      have L2 : (X ++ gp ++ ("if" : Str)).length ≤ lenB (b.take i) + 2 + 2 := by rw [sums, sums, lw]; omega
      generalize X ++ gp ++ ("if" : Str) = X2 at P2 L2 ⊢
      have lsp : (" " : Str).length = 1 := by decide +kernel
      have lob : ("{" : Str).length = 1 := by decide +kernel
      have lcb : ("}" : Str).length = 1 := by decide +kernel
      have lel : ("else{" : Str).length = 5 := by decide +kernel
      have leq : ("=" : Str).length = 1 := by decide +kernel
      have lto : (" to" : Str).length = 3 := by decide +kernel
      have lpo : ("(" : Str).length = 1 := by decide +kernel
      have lpc : (")" : Str).length = 1 := by decide +kernel
      have lE : lenS (.ite cd a2 b2) = 20 + pl (dpE cd) + lenB a2 + lenB b2 := rfl
      have hdS' : max (dpB a2) (dpB b2) + 1 < n + 1 := hdS
      refine ⟨_, rfl, (by show 5 ≤ sizeLine; decide), fun p5 np5 => ⟨p5, _, rfl, .inr (SqT.of upd_same), rfl, rfl, _, rfl, ?_⟩⟩
      show if inV (.str "if") (w5.map V.str) = true then _ else _
      rw [in_strs, show decide (("if" : Str) ∈ w5) = true by decide +kernel]
      have s5 := same_new np5 (.tup (w5.map V.str))
      have K5 : KT K H3 (upd H4 p5 (.tup (w5.map V.str))) := K4.trans (KT.same s5)
      refine iteT ⟨_, rfl, _, _, rfl, rfl, big _ (by first | omega | (simp only [sums, lsp, lob, lcb, lel, leq, lto, lpo, lpc]; omega)), _, rfl, _, rfl, t, _, _, _, rfl, rfl, K5 _ _ hT3, rfl, _, _, cd, rfl, Dp.kt K5 (tupD_E cd) e1, hwS.1.1, Nat.lt_succ_of_le hwS.1.2, by decide, fun H5 Y sY hY hYl => ⟨_, _, rfl, rfl, big _ (by first | omega | (simp only [sums, lsp, lob, lcb, lel, leq, lto, lpo, lpc]; omega)), ?_⟩⟩
      have P3 := (P2.blank (s := " ") (by decide +kernel)).part hY (.inr rfl)
      have kp5 : Keep r H H5 := kp4.trans fun c o _ z => sY c o (s5 c o z)
      have R5 : RowAt H5 r s := (R4.new np5 _).same' sY
      have K55 : KT K H3 H5 := K5.trans (KT.same sY)
      refine ⟨_, rfl, (by show 3 ≤ sizeLine; decide), fun p6 np6 => ⟨p6, _, rfl, .inr (SqT.of upd_same), rfl, rfl, _, rfl, ?_⟩⟩
      show if inV (.str "if") (w3.map V.str) = true then _ else _
      rw [in_strs, show decide (("if" : Str) ∈ w3) = true by decide +kernel]
      have s6 := same_new np6 (.tup (w3.map V.str))
      have K6 := K55.trans (KT.same s6)
      have kp6 := kp5.trans (fun c o (_ : c ≠ r) z => s6 c o z)
      have R6 := R5.new np6 (.tup (w3.map V.str))
      refine iteT ⟨_, rfl, _, _, rfl, rfl, big _ (by first | omega | (simp only [sums, lsp, lob, lcb, lel, leq, lto, lpo, lpc]; omega)), _, rfl, _, rfl, rfl, _, rfl, ?_⟩
      rw [show decide (V.str "if" = V.str "for") = false by decide +kernel]
      refine iteF ⟨_, rfl, t, _, _, _, rfl, rfl, K6 _ _ hT3, rfl, r, s, _, a2, rfl, R6, scr kp6, Dp.kt K6 (by show tupDs (dB a2) = true; exact tupD_B a2) e2, hwS.2.1, by omega, by omega, by omega, fun H7 Z k7 R7 hZ hZl => ?_⟩
      refine ⟨_, _, rfl, rfl, big _ (by first | omega | (simp only [sums, lsp, lob, lcb, lel, leq, lto, lpo, lpc]; omega)), _, rfl, _, _, rfl, rfl, big _ (by first | omega | (simp only [sums, lsp, lob, lcb, lel, leq, lto, lpo, lpc]; omega)), _, _, rfl, rfl, big _ (by first | omega | (simp only [sums, lsp, lob, lcb, lel, leq, lto, lpo, lpc]; omega)), ?_⟩
      have P4 := P3.lit (X := "{") (vs := [kM "{"]) (g := .mark) [.wd "mark" "{"] (by decide +kernel) rfl (by decide +kernel) rfl
      obtain ⟨g5, hg5, P5⟩ := P4.blk hZ
      have P6m := (P5.blank hgb).lit (X := "}") (vs := [kM "}"]) (g := .mark) [.wd "mark" "}"] (by decide +kernel) rfl (by decide +kernel) rfl
      have P6 := P6m.both
      have kp7 := kp6.trans k7
      have K7 := K6.trans (R6.kt k7)
      refine ⟨_, rfl, rfl, _, rfl, ?_⟩
      rw [show decide (V.str "if" = V.str "if") = true by decide +kernel]
      refine iteT ⟨_, rfl, t, _, _, _, rfl, rfl, K7 _ _ hT3, rfl, Nat.zero_le _, fun pe ne => ⟨.tuple (dB b2), .tuple [], Dp.same (same_new ne _) (Dp.kt K7 (by show tupDs (dB b2) = true; exact tupD_B b2) e3), Dp.new (vs := []) (ds := []) ne .nil, shapedB hwS.2.2 (by omega), rfl, _, rfl, ?_⟩⟩
      rw [eqv_nilT]
      have s8 := same_new ne (.tup [])
      have kp8 := kp7.trans (fun c o (_ : c ≠ r) z => s8 c o z)
      have R8 := R7.new ne (.tup [])
      have K8 := K7.trans (KT.same s8)
      cases b2 with
      | nil =>
        refine iteF ?_
        refine fin _ _ _ _ _ kp8 R8 ?_ (by first | omega | (simp only [sums, lsp, lob, lcb, lel, leq, lto, lpo, lpc]; omega))
        have e9 : tkB (b.take i) ++ tkS (.ite cd a2 []) = tkB (b.take i) ++ [kK "if"] ++ tkE cd ++ [kM "{"] ++ tkB a2 ++ [kM "}"] := by
          show tkB (b.take i) ++ ([kK "if"] ++ tkE cd ++ [kM "{"] ++ tkB a2 ++ [kM "}"] ++ []) = _
          simp
        rw [e9]
        exact P6
      | cons st2 b3 =>
        refine iteT ⟨_, rfl, _, _, rfl, rfl, big _ (by first | omega | (simp only [sums, lsp, lob, lcb, lel, leq, lto, lpo, lpc]; omega)), _, rfl, _, rfl, t, _, _, _, rfl, rfl, K8 _ _ hT3, rfl, r, s, _, st2 :: b3, rfl, R8, scr kp8, Dp.kt K8 (by show tupDs (dB (st2 :: b3)) = true; exact tupD_B _) e3, hwS.2.2, by omega, by omega, by omega, fun H9 Z2 k9 R9 hZ2 hZl2 => ?_⟩
        refine ⟨_, _, rfl, rfl, big _ (by first | omega | (simp only [sums, lsp, lob, lcb, lel, leq, lto, lpo, lpc]; omega)), _, _, rfl, rfl, big _ (by first | omega | (simp only [sums, lsp, lob, lcb, lel, leq, lto, lpo, lpc]; omega)), ?_⟩
        have Q4 := P6m.lit (X := "else{") (vs := [kK "else", kM "{"]) (g := .mark) [.wd "key" "else", .wd "mark" "{"] (by decide +kernel) rfl (by decide +kernel) rfl
        obtain ⟨g7, hg7, Q5⟩ := Q4.blk hZ2
        have Q6 : PreT _ _ .mark := Q5.lit (X := "}") (vs := [kM "}"]) (g := .mark) [.wd "mark" "}"] (by decide +kernel) rfl (by rcases hg7 with q | q <;> rw [q] <;> decide +kernel) rfl
        refine fin _ _ _ _ _ (kp8.trans k9) R9 ?_ (by first | omega | (simp only [sums, lsp, lob, lcb, lel, leq, lto, lpo, lpc]; omega))
        have e9 : tkB (b.take i) ++ tkS (.ite cd a2 (st2 :: b3)) = tkB (b.take i) ++ [kK "if"] ++ tkE cd ++ [kM "{"] ++ tkB a2 ++ [kM "}"] ++ [kK "else", kM "{"] ++ tkB (st2 :: b3) ++ [kM "}"] := by
          show tkB (b.take i) ++ ([kK "if"] ++ tkE cd ++ [kM "{"] ++ tkB a2 ++ [kM "}"] ++ ([kK "else", kM "{"] ++ (tkS st2 ++ tkB b3) ++ [kM "}"])) = tkB (b.take i) ++ [kK "if"] ++ tkE cd ++ [kM "{"] ++ tkB a2 ++ [kM "}"] ++ [kK "else", kM "{"] ++ (tkS st2 ++ tkB b3) ++ [kM "}"]
          simp
        rw [e9]
        exact Q6.both
    | call g es =>
      obtain ⟨t, ts, rfl, hT3, hB⟩ := dp_tup d3
      obtain ⟨u0, q0, rfl, e0, hB⟩ := dp_cons hB
      obtain ⟨u1, q1, rfl, e1, hB⟩ := dp_cons hB
      obtain ⟨u2, q2, rfl, e2, hB⟩ := dp_cons hB
      obtain rfl := dp_nil hB
      obtain rfl := dp_str e0
      obtain rfl := dp_str e1
      refine ⟨_, rfl, t, _, _, _, rfl, rfl, hT3, rfl, ?_⟩
      refine ⟨_, rfl, (by show 3 ≤ sizeLine; decide), fun p np => ?_⟩
      have kn := Keep.new (r := r) np (.lst (gaps.map V.str))
      refine ⟨r, s, _, rfl, R3.new np _, scr (kp.trans kn), .inl ⟨p, gaps.map V.str, rfl, R3.ne np, upd_same, (by show 1 ≤ 3; decide), (by show 3 ≤ 1000; decide), fun H4 vg k4 R4 hvg => ?_⟩⟩
      obtain ⟨gp, rfl, hgp⟩ := strs_mem hvg
      obtain ⟨hgb, hgl⟩ := gaps_ok gp hgp
      have k34 := kn.trans k4
      have K4 : KT K H3 H4 := R3.kt k34
      have kp4 := kp.trans k34
      have hT4 := K4 _ _ hT3
      refine ⟨_, _, rfl, ?_⟩
      have lw : ("do" : Str).length = 2 := by decide +kernel
      have bnd : X.length + (lenS (.call g es)) ≤ 1000000 := by omega
      have P1 := hX.gap hgb
      have P2 := P1.step (Wd.key (w := "do") (by decide +kernel)) (Fol.ofB (by decide +kernel))
      refine ⟨_, rfl, _, rfl, _, _, rfl, rfl, big _ (by omega), _, rfl, _, _, rfl, rfl, big _ (by rw [sums]; omega), ?_⟩
      have L2 : (X ++ gp ++ ("do" : Str)).length ≤ lenB (b.take i) + 2 + 2 := by rw [sums, sums, lw]; omega
      generalize X ++ gp ++ ("do" : Str) = X2 at P2 L2 ⊢
      have lsp : (" " : Str).length = 1 := by decide +kernel
      have lob : ("{" : Str).length = 1 := by decide +kernel
      have lcb : ("}" : Str).length = 1 := by decide +kernel
      have lel : ("else{" : Str).length = 5 := by decide +kernel
      have leq : ("=" : Str).length = 1 := by decide +kernel
      have lto : (" to" : Str).length = 3 := by decide +kernel
      have lpo : ("(" : Str).length = 1 := by decide +kernel
      have lpc : (")" : Str).length = 1 := by decide +kernel
      have lx := nameW_len hwS.1
      have lE : lenS (.call g es) = 13 + lenEs es := rfl
      have lcm : ("," : Str).length = 1 := by decide +kernel
      refine ⟨_, rfl, (by show 5 ≤ sizeLine; decide), fun p5 np5 => ⟨p5, _, rfl, .inr (SqT.of upd_same), rfl, rfl, _, rfl, ?_⟩⟩
      show if inV (.str "do") (w5.map V.str) = true then _ else _
      rw [in_strs, show decide (("do" : Str) ∈ w5) = false by decide +kernel]
      have s5 := same_new np5 (.tup (w5.map V.str))
      refine iteF ?_
      refine ⟨_, rfl, rfl, _, rfl, ?_⟩
      rw [show decide (V.str "do" = V.str "let") = false by decide +kernel]
      refine iteF ?_
      refine ⟨_, rfl, rfl, _, rfl, ?_⟩
      rw [show decide (V.str "do" = V.str "for") = false by decide +kernel]
      refine iteF ?_
      refine ⟨_, rfl, rfl, _, rfl, ?_⟩
      rw [show decide (V.str "do" = V.str "do") = true by decide +kernel]
      have K5 : KT K H3 (upd H4 p5 (.tup (w5.map V.str))) := K4.trans (KT.same s5)
      have kp5 := kp4.trans (fun c o (_ : c ≠ r) z => s5 c o z)
      have R5 := R4.new np5 (.tup (w5.map V.str))
      obtain ⟨ae, vs, rfl, hTe, hAe⟩ := dp_tup (Dp.kt K5 (by show tupDs (es.map Ex.d) = true; exact tupDs_E es) e2)
      have hvl : vs.length = es.length := by rw [KD.DpAll.length hAe, List.length_map]
      refine iteT ⟨_, rfl, _, _, rfl, rfl, big _ (by first | omega | (simp only [sums, lsp, lob, lcb, lel, leq, lto, lpo, lpc]; omega)), _, rfl, t, _, _, _, rfl, rfl, K5 _ _ hT3, rfl, _, _, rfl, rfl, big _ (by first | omega | (simp only [sums, lsp, lob, lcb, lel, leq, lto, lpo, lpc]; omega)), _, _, rfl, rfl, big _ (by first | omega | (simp only [sums, lsp, lob, lcb, lel, leq, lto, lpo, lpc]; omega)), ⟨_, rfl⟩, _, rfl, t, _, _, _, rfl, rfl, K5 _ _ hT3, rfl, ae, rfl, ⟨_, hTe⟩, fun D hD => ?_⟩
      refine lc_tup (K := K) (a := ae) (xs := vs) (fun j H' => ∃ Ys : List Str, Ys.length = j ∧ Parts Ys (es.take j) ∧ H' D = some (.lst (Ys.map V.str)) ∧ Same (upd H4 p5 (.tup (w5.map V.str))) H') ⟨[], rfl, .nil, upd_same, same_new hD _⟩ (fun j H' _ ⟨_, _, _, _, s6⟩ => KT.same s6 _ _ hTe) ?_ ?_
      · rintro j y H6 hj ⟨Ys, hYl, hYs, hD6, s6⟩
        obtain ⟨d, hdj, hdp⟩ := KD.DpAll.get hAe hj
        obtain ⟨e, he, rfl⟩ : ∃ e, es[j]? = some e ∧ d = e.d := by
          rw [List.getElem?_map] at hdj
          cases q : es[j]? with
          | none => rw [q] at hdj; cases hdj
          | some e => rw [q] at hdj; exact ⟨e, rfl, (Option.some.inj hdj).symm⟩
        have heo := hwS.2.2 e (List.mem_of_getElem? he)
        refine ⟨rfl, ?_⟩
        unfold tYes
        refine iteT ?_
        refine ⟨_, rfl, _, rfl, _, _, e, rfl, Dp.same s6 hdp, heo.1, Nat.lt_succ_of_le heo.2, by decide, fun H7 Y s7 hY hYl2 => ?_⟩
        have hjl : j < es.length := (List.getElem?_eq_some_iff.mp he).1
        refine ⟨_, s7 _ _ hD6, (by rw [List.length_map, hYl]; exact Nat.lt_of_le_of_lt (show j ≤ 1000 by omega) (by decide)), Ys ++ [Y], by rw [List.length_append, hYl]; rfl, ?_, by rw [upd_same, List.map_append]; rfl, fun c o q => by rw [upd_ne (ne_of_none q hD)]; exact s7 _ _ (s6 _ _ q)⟩
        have e1 : es.take (j + 1) = es.take j ++ [e] := by rw [List.take_succ, he]; rfl
        rw [e1]
        exact hYs.snoc hY hYl2
      · rintro H6 ⟨Ys, hYl, hYs, hD6, s6⟩
        rw [hvl, List.take_length] at hYs
        have hsum := hYs.sum
        have hjl := hYs.jlen
        refine ⟨",", D, Ys, rfl, rfl, .inl (SqL.of hD6), by rw [lcm]; omega, ?_⟩
        rw [join_eq]
        refine ⟨_, _, rfl, rfl, big _ (by first | omega | (simp only [sums, lsp, lob, lcb, lel, leq, lto, lpo, lpc]; omega)), _, _, rfl, rfl, big _ (by first | omega | (simp only [sums, lsp, lob, lcb, lel, leq, lto, lpo, lpc]; omega)), ?_⟩
        have P3 := ((P2.blank (s := " ") (by decide +kernel)).step (Wd.nm hwS.1) (Fol.anyF _)).lit (X := "(") (vs := [kM "("]) (g := .mark) [.wd "mark" "("] (by decide +kernel) rfl (by decide +kernel) rfl
        obtain ⟨g5, hg5, P5⟩ := P3.joined (.inl rfl) hYs
        have P6 : PreT _ _ .mark := P5.lit (X := ")") (vs := [kM ")"]) (g := .mark) [.wd "mark" ")"] (by decide +kernel) rfl (by rcases hg5 with q | q <;> rw [q] <;> decide +kernel) rfl
        have kp6 := kp5.trans (fun c o (_ : c ≠ r) z => s6 c o z)
        have R6 := R5.same' s6
        refine ⟨_, rfl, (by show 3 ≤ sizeLine; decide), fun p8 np8 => ⟨p8, _, rfl, .inr (SqT.of upd_same), rfl, rfl, _, rfl, ?_⟩⟩
        show if inV (.str "do") (w3.map V.str) = true then _ else _
        rw [in_strs, show decide (("do" : Str) ∈ w3) = false by decide +kernel]
        have s8 := same_new np8 (.tup (w3.map V.str))
        refine iteF ?_
        refine ⟨_, rfl, rfl, _, rfl, ?_⟩
        rw [show decide (V.str "do" = V.str "if") = false by decide +kernel]
        refine iteF (iteF ?_)
        refine fin _ _ _ _ _ (kp6.trans fun c o _ z => s8 c o z) (R6.new np8 _) ?_ (by first | omega | (simp only [sums, lsp, lob, lcb, lel, leq, lto, lpo, lpc]; omega))
        have e9 : tkB (b.take i) ++ tkS (.call g es) = tkB (b.take i) ++ [kK "do"] ++ [kN g] ++ [kM "("] ++ tkEs es ++ [kM ")"] := by
          show tkB (b.take i) ++ ([kK "do", kN g, kM "("] ++ tkEs es ++ [kM ")"]) = _
          simp
        rw [e9]
        exact P6.both
  · rintro σ H3 ⟨X, v3, v4, v5, rfl, kp, R3, hX, hXl⟩
    have el : xs.length = b.length := by rw [KD.DpAll.length hA, dB_length]
    rw [el, List.take_length] at hX hXl
    exact ⟨_, rfl, k H3 X kp R3 hX hXl⟩
theorem ok_said {f fP fE : Addr} {fd fdP fdE : FuncData} (F : Fun K "_law_said" "_law_said" S__law_said f fd) (T : Blt mg)
    (GP : FnOk P w K mg base CX0 2 fP fdP ["row", "things"] (spPick K)) (mP : mg "_law_pick" = some (.ref fP)) (kP : PySem.W.keepIn K (.ref fP) = true) (bP : Binds K fdP ["row", "things"] [])
    (GE : FnOk P w K mg base CX0 12 fE fdE ["row", "tree"] (spPart K 12)) (mE : mg "_law_part" = some (.ref fE)) (kE : PySem.W.keepIn K (.ref fE) = true) (bE : Binds K fdE ["row", "tree"] [])
    (mI : mg "_law_said" = some (.ref f)) (bI : Binds K fd ["row", "block"] []) :
    ∀ n : Nat, FnOk P w K mg base CX0 (n + 12) f fd ["row", "block"] (spSaid K n)
  | 0 => by
    have no : ∀ vs H Q E, ¬ spSaid K 0 vs H Q E := fun vs H Q E h => by
      obtain ⟨r, s, v, b, _, _, _, _, _, h1, _⟩ := h
      omega
    exact ⟨fun vs H Q E h => absurd h (no vs H Q E), fun A outer s H args us vs Q E _ _ _ _ h => absurd h (no vs H Q E)⟩
  | n + 1 => ok_said1 F T GP mP kP bP GE mE kE bE (ok_said F T GP mP kP bP GE mE kE bE mI bI n) mI bI
end
end KD

namespace KD
open PySem L2 TL
open K0 (num Toks)
section
variable {P : Program} {w : World} {K : PySem.W.Frag} {mg : Str → Option Value} {base : Heap}
def spText (K : PySem.W.Frag) : Sp := fun vs H Q _ => ∃ (r s : Addr) (v : V) (p : Pr), vs = [.ref r, v] ∧ RowAt H r s ∧ Scr K H r s ∧ Dp K H v p.d ∧ wfP p ∧ lenP p ≤ 1000000 ∧
  ∀ (H' : Hp) (X : Str), Keep r H H' → RowAt H' r s → Toks (tl X) (tkP p) → X.length ≤ lenP p → Q (.str X) H'
theorem scText : FnScope ["row", "whole", "found", "name", "names", "block"] ["row", "whole"] (defScope S__law_text) := ⟨rfl, rfl, rfl, by decide +kernel, rfl, by decide +kernel, by decide +kernel⟩
theorem ok_text {f fI : Addr} {fd fdI : FuncData} (F : Fun K "_law_text" "_law_text" S__law_text f fd) (T : Blt mg)
    (GI : FnOk P w K mg base CX0 24 fI fdI ["row", "block"] (spSaid K 12)) (mI : mg "_law_said" = some (.ref fI)) (kI : PySem.W.keepIn K (.ref fI) = true) (bI : Binds K fdI ["row", "block"] []) :
    FnOk P w K mg base CX0 25 f fd ["row", "whole"] (spText K) := by
  refine F.ok scText (fun vs H Q E h => ?_) (fun cdv A outer s0 H vs Q E hr h => ?_)
  · obtain ⟨r, s, v, p, rfl, _⟩ := h
    rfl
  obtain ⟨r, s, v, p, rfl, hR, ⟨zs, hzs, hSc⟩, hv, hw, hlen, k⟩ := h
  have big : ∀ m : Nat, m ≤ 10000000 → m ≤ sizeLine := fun m h => Nat.le_trans h (by decide)
  have scr : ∀ {H' : Hp}, Keep r H H' → Scr K H' r s := fun kp => ⟨zs, hzs, fun H2 k2 => hSc H2 (kp.trans k2)⟩
  refine ⟨_, pss_cons (ps_set (i := 2) scText.nd rfl (Or.inl rfl) pe_str)
    (pss_cons (ps_for PassesOwn.never rfl (pi_tup (pe_ix ix_tup (pv 1) pe_int (fun _ _ => rfl))) (pg_tup rfl (pgs_cons (pg_name (i := 3) scText.nd rfl (Or.inl rfl)) (pgs_cons (pg_name (i := 4) scText.nd rfl (Or.inl rfl)) (pgs_cons (pg_name (i := 5) scText.nd rfl (Or.inl rfl)) pgs_nil))))
      (pss_one (ps_set (i := 2) scText.nd rfl (Or.inl rfl) (pe_op op_add_str (pe_op op_add_str (pe_op op_add_str (pe_op op_add_str (pe_op op_add_str (pe_op op_add_str (pe_op op_add_str (pv 2) pe_str) (pv 3)) pe_str) (pe_join pe_str (pv 4))) pe_str)
        (pe_call GI hr rfl mI kI bI .nil pass0 (pa_cons (pv 0) (pa_cons (pv 5) pa_nil)))) pe_str))))
    (pss_one (ps_ret (pe_op op_add_str (pv 2) (pe_call GI hr rfl mI kI bI .nil pass0 (pa_cons (pv 0) (pa_cons (pe_ix ix_tup (pv 1) pe_int (fun _ _ => rfl)) pa_nil))))))), ?_⟩
  obtain ⟨a, xs, rfl, hT, hA⟩ := dp_tup hv
  obtain ⟨u0, q0, rfl, e0, hA⟩ := dp_cons hA
  obtain ⟨u1, q1, rfl, e1, hA⟩ := dp_cons hA
  obtain rfl := dp_nil hA
  obtain ⟨ad, xd, rfl, hTd, hAd⟩ := dp_tup e0
  have hxd : xd.length = p.defs.length := by rw [KD.DpAll.length hAd, List.length_map]
  refine ⟨_, rfl, a, _, _, _, rfl, rfl, hT, rfl, ad, rfl, ⟨_, hTd⟩, for_tup (K := K) (a := ad) (xs := xd) (fun i σ H' => ∃ (X : Str) (v3 v4 v5 : Option V), σ = [some (.ref r), some (.ref a), some (.str X), v3, v4, v5] ∧ Keep r H H' ∧ RowAt H' r s ∧ JS X (tkDs (p.defs.take i)) .free ∧ X.length ≤ lenDs (p.defs.take i))
    ⟨"", none, none, none, rfl, Keep.refl r H, hR, by rw [List.take_zero]; exact JS.nil, by rw [show ("" : Str).length = 0 by decide +kernel]; exact Nat.zero_le _⟩ (fun i σ H' _ ⟨_, _, _, _, _, kp, _⟩ => (hR.kt kp) _ _ hTd) ?_ ?_⟩
  · rintro i y σ H3 hi ⟨X, v3, v4, v5, rfl, kp, R3, hX, hXl⟩
    obtain ⟨d, hd1, hd2⟩ := KD.DpAll.get hAd hi
    obtain ⟨df, hdf, rfl⟩ : ∃ df, p.defs[i]? = some df ∧ d = df.d := by
      rw [List.getElem?_map] at hd1
      cases q : p.defs[i]? with
      | none => rw [q] at hd1; cases hd1
      | some e => rw [q] at hd1; exact ⟨e, rfl, (Option.some.inj hd1).symm⟩
    have hwd := hw.defs df (List.mem_of_getElem? hdf)
    have etk : p.defs.take (i + 1) = p.defs.take i ++ [df] := by rw [List.take_succ, hdf]; rfl
    have hlt : lenDs (p.defs.take i) + lenD df ≤ 1000000 := by
      have q := lenDs_take p.defs (i + 1)
      rw [etk, lenDs_append] at q
      have q2 : lenDs [df] = lenD df + 0 := rfl
      unfold lenP at hlen
      omega
    have hlD : lenD df = 100 + lenB df.body := rfl
    have d3 := Dp.kt (hR.kt kp) (tupD_Df df) hd2
    obtain ⟨t, ts, rfl, hT3, hB⟩ := dp_tup d3
    obtain ⟨w0, r0, rfl, b0, hB⟩ := dp_cons hB
    obtain ⟨w1, r1, rfl, b1, hB⟩ := dp_cons hB
    obtain ⟨w2, r2, rfl, b2, hB⟩ := dp_cons hB
    obtain rfl := dp_nil hB
    obtain rfl := dp_str b0
    obtain ⟨an, xn, rfl, hTn, hAn⟩ := dp_tup b1
    have exn : xn = df.args.map V.str := by
      have : ∀ (l : List Str) (vs : List V), DpAll K H3 vs (l.map PyData.str) → vs = l.map V.str := fun l => by
        induction l with
        | nil => intro vs h; exact dp_nil h
        | cons x l ih =>
          intro vs h
          obtain ⟨v, r, rfl, h1, h2⟩ := dp_cons h
          rw [dp_str h1, ih r h2]
          rfl
      exact this _ _ hAn
    rw [exn] at hTn
    have hnl := nameW_len hwd.nm
    have hal := hwd.alen
    have hsum := names_sum hwd.args
    have hjl := names_jlen hwd.args
    have l1 : ("def " : Str).length = 4 := by decide +kernel
    have l2 : ("(" : Str).length = 1 := by decide +kernel
    have l3 : (", " : Str).length = 2 := by decide +kernel
    have l4 : ("){" : Str).length = 2 := by decide +kernel
    have l5 : (" }\n" : Str).length = 3 := by decide +kernel
    refine ⟨t, _, rfl, hT3, rfl, _, _, rfl, _, _, rfl, _, _, rfl, rfl, ?_⟩
    refine ⟨_, rfl, _, _, rfl, rfl, big _ (by omega), _, rfl, _, _, rfl, rfl, big _ (by simp only [sums, l1]; omega), _, _, rfl, rfl, big _ (by simp only [sums, l1, l2]; omega), ?_⟩
    refine ⟨⟨_, rfl⟩, _, rfl, ", ", an, df.args, rfl, rfl, .inr hTn, by rw [l3]; omega, ?_⟩
    rw [join_eq]
    refine ⟨_, _, rfl, rfl, big _ (by simp only [sums, l1, l2]; omega), _, _, rfl, rfl, big _ (by simp only [sums, l1, l2, l4]; omega), ?_⟩
    refine ⟨_, rfl, _, rfl, r, s, _, df.body, rfl, R3, scr kp, b2, hwd.body, by have := hwd.dp; omega, by decide, by omega, fun H4 Z k4 R4 hZ hZl => ?_⟩
    refine ⟨_, _, rfl, rfl, big _ (by simp only [sums, l1, l2, l4]; omega), _, _, rfl, rfl, big _ (by simp only [sums, l1, l2, l4, l5]; omega), ?_⟩
    refine ⟨_, _, _, _, rfl, kp.trans k4, R4, ?_, ?_⟩
    · have j1 := hX.lit2 (X := "def ") (vs := [kK "def"]) (g := .free) [.wd "key" "def", .bl " "] (by decide +kernel) rfl (by decide +kernel) rfl
      have j2 := (j1.step (Wd.nm hwd.nm) (Fol.anyF _)).lit2 (X := "(") (vs := [kM "("]) (g := .mark) [.wd "mark" "("] (by decide +kernel) rfl (by decide +kernel) rfl
      obtain ⟨g3, hg3, j3⟩ := j2.names (.inl rfl) hwd.args
      have j4 := j3.lit2 (X := "){") (vs := [kM ")", kM "{"]) (g := .mark) [.wd "mark" ")", .wd "mark" "{"] (by decide +kernel) rfl (by rcases hg3 with q | q <;> rw [q] <;> decide +kernel) rfl
      have j5 : ∃ g, JS (X ++ "def " ++ df.name ++ "(" ++ Str.join ", " df.args ++ "){" ++ Z) (tkDs (p.defs.take i) ++ [kK "def"] ++ [kN df.name] ++ [kM "("] ++ tkNs df.args ++ [kM ")", kM "{"] ++ tkB df.body) g := by
        rcases hZ with ⟨rfl, eZ⟩ | hZ
        · refine ⟨.mark, ?_⟩
          rw [nilS, eZ, List.append_nil]
          exact j4
        · exact ⟨.both, hZ.go j4⟩
      obtain ⟨g5, j5⟩ := j5
      have j6 := (j5.blank (s := " ") (by decide +kernel)).lit2 (X := "}\n") (vs := [kM "}"]) (g := .free) [.wd "mark" "}", .bl "\n"] (by decide +kernel) rfl (by decide +kernel) rfl
      have eT : X ++ "def " ++ df.name ++ "(" ++ Str.join ", " df.args ++ "){" ++ Z ++ (" " : Str) ++ ("}\n" : Str) = X ++ "def " ++ df.name ++ "(" ++ Str.join ", " df.args ++ "){" ++ Z ++ (" }\n" : Str) := by
        rw [← assocS, show (" " : Str) ++ ("}\n" : Str) = (" }\n" : Str) by decide +kernel]
      rw [eT] at j6
      rw [etk, tkDs_append]
      have eW : tkDs (p.defs.take i) ++ tkDs [df] = tkDs (p.defs.take i) ++ [kK "def"] ++ [kN df.name] ++ [kM "("] ++ tkNs df.args ++ [kM ")", kM "{"] ++ tkB df.body ++ [kM "}"] := by
        show tkDs (p.defs.take i) ++ (([kK "def", kN df.name, kM "("] ++ tkNs df.args ++ [kM ")", kM "{"] ++ tkB df.body ++ [kM "}"]) ++ []) = _
        simp [kN]
      rw [eW]
      exact j6
    · rw [etk, lenDs_append]
      have q2 : lenDs [df] = lenD df + 0 := rfl
      simp only [sums, l1, l2, l4, l5]
      omega
  · rintro σ H3 ⟨X, v3, v4, v5, rfl, kp, R3, hX, hXl⟩
    rw [hxd, List.take_length] at hX hXl
    have K3 : KT K H H3 := hR.kt kp
    unfold lenP at hlen
    refine ⟨_, rfl, _, rfl, _, rfl, a, _, _, _, rfl, rfl, K3 _ _ hT, rfl, r, s, _, p.body, rfl, R3, scr kp, Dp.kt K3 (by show tupDs (dB p.body) = true; exact tupD_B _) e1, hw.body, by have := hw.dp; omega, by decide, by omega, fun H4 Z k4 R4 hZ hZl => ?_⟩
    refine ⟨_, _, rfl, rfl, big _ (by omega), ?_⟩
    refine k H4 _ (kp.trans k4) R4 ?_ (by rw [sums]; unfold lenP; omega)
    have hj : ∃ g, JS (X ++ Z) (tkP p) g := by
      rcases hZ with ⟨rfl, eZ⟩ | hZ
      · refine ⟨.free, ?_⟩
        unfold tkP
        rw [nilS, eZ, List.append_nil]
        exact hX
      · exact ⟨.both, hZ.go hX⟩
    obtain ⟨g, hj⟩ := hj
    have q := hj [] [] .nil trivial
    rw [List.append_nil, List.append_nil] at q
    exact q
end
end KD

namespace KD
open PySem L2 TL
/-! ### drawn programs can be printed -/
theorem allN_nm : ∀ x ∈ allN, nameW x = true := by decide +kernel
theorem defN_nm : ∀ (i : Nat) (x : Str), x ∈ defN i → nameW x = true
  | 0, x, h => (by decide +kernel : ∀ x ∈ defN 0, nameW x = true) x h
  | 1, x, h => (by decide +kernel : ∀ x ∈ defN 1, nameW x = true) x h
  | n + 2, x, h => by cases h
def SL : Nat → Nat
  | 0 => 68
  | n + 1 => 160 + 4 * SL n
theorem pl1 : pl 1 = 22 := rfl
theorem pl2 : pl 2 = 54 := rfl
theorem SL_ge : ∀ n, 68 ≤ SL n
  | 0 => Nat.le_refl _
  | n + 1 => by show 68 ≤ 160 + 4 * SL n; omega
theorem eOk_of {ns : List Str} {e : Ex} {k : Nat} (hn : nmsOk ns) (h : okE ns e) (hk : dpE e ≤ k) (h2 : k ≤ 2) : eOk e ∧ pl (dpE e) ≤ pl k :=
  ⟨⟨wfE_of (fun x hx => allN_nm x (hn x hx)) h, by omega⟩, pl_mono hk⟩
theorem lenEs_le : ∀ {es : List Ex}, (∀ e ∈ es, dpE e ≤ 1) → lenEs es ≤ 23 * es.length
  | [], _ => Nat.le_refl _
  | e :: es, h => by
    have h1 := pl_mono (h e List.mem_cons_self)
    have h2 := lenEs_le (es := es) fun x hx => h x (List.mem_cons_of_mem _ hx)
    rw [pl1] at h1
    show pl (dpE e) + 1 + lenEs es ≤ 23 * (es.length + 1)
    omega
theorem nms_aft {ns : List Str} (h : nmsOk ns) {ds : List (Str × Nat)} {n : Nat} {s : St} (hs : okS ds n ns s) : nmsOk (aft ns s) := by
  cases s with
  | set x e =>
    unfold okS at hs
    exact nms_grow h (letN_all x hs.1)
  | _ => exact h
def dsOk (ds : List (Str × Nat)) : Prop := ∀ p ∈ ds, nameW p.1 = true ∧ p.2 ≤ 2
mutual
theorem wf_okS {ds : List (Str × Nat)} (hd : dsOk ds) : ∀ (n : Nat) (ns : List Str) (s : St), nmsOk ns → okS ds n ns s → wfS s ∧ dpS s ≤ n ∧ lenS s ≤ SL n
  | n, ns, .row e, hn, h => by
    unfold okS at h
    obtain ⟨h1, h2⟩ := eOk_of hn h.1 h.2 (by decide)
    rw [pl1] at h2
    have := SL_ge n
    exact ⟨by unfold wfS; exact h1, Nat.zero_le _, by show 6 + pl (dpE e) ≤ SL n; omega⟩
  | n, ns, .col e, hn, h => by
    unfold okS at h
    obtain ⟨h1, h2⟩ := eOk_of hn h.1 h.2 (by decide)
    rw [pl1] at h2
    have := SL_ge n
    exact ⟨by unfold wfS; exact h1, Nat.zero_le _, by show 6 + pl (dpE e) ≤ SL n; omega⟩
  | n, ns, .say e, hn, h => by
    unfold okS at h
    obtain ⟨h1, h2⟩ := eOk_of hn h.1 h.2 (by decide)
    rw [pl2] at h2
    have := SL_ge n
    exact ⟨by unfold wfS; exact h1, Nat.zero_le _, by show 6 + pl (dpE e) ≤ SL n; omega⟩
  | n, ns, .set x e, hn, h => by
    unfold okS at h
    obtain ⟨h1, h2⟩ := eOk_of hn h.2.1 h.2.2 (by decide)
    rw [pl2] at h2
    have := SL_ge n
    exact ⟨by unfold wfS; exact ⟨allN_nm x (letN_all x h.1), h1⟩, Nat.zero_le _, by show 14 + pl (dpE e) ≤ SL n; omega⟩
  | n + 1, ns, .ite c a b, hn, h => by
    unfold okS at h
    obtain ⟨h1, h2⟩ := eOk_of hn h.1 h.2.1 (by decide)
    rw [pl2] at h2
    obtain ⟨a1, a2, a3⟩ := wf_okB hd n ns a hn h.2.2.1.2
    obtain ⟨b1, b2, b3⟩ := wf_okB hd n ns b hn h.2.2.2.2
    have la := Nat.mul_le_mul_right (SL n) h.2.2.1.1
    have lb := Nat.mul_le_mul_right (SL n) h.2.2.2.1
    exact ⟨by unfold wfS; exact ⟨h1, a1, b1⟩, by show max (dpB a) (dpB b) + 1 ≤ n + 1; omega, by show 20 + pl (dpE c) + lenB a + lenB b ≤ 160 + 4 * SL n; omega⟩
  | n + 1, ns, .whl c a, hn, h => by
    unfold okS at h
    obtain ⟨h1, h2⟩ := eOk_of hn h.1 h.2.1 (by decide)
    rw [pl1] at h2
    obtain ⟨a1, a2, a3⟩ := wf_okB hd n ns a hn h.2.2.2
    have la := Nat.mul_le_mul_right (SL n) h.2.2.1
    exact ⟨by unfold wfS; exact ⟨h1, a1⟩, by show dpB a + 1 ≤ n + 1; omega, by show 20 + pl (dpE c) + lenB a ≤ 160 + 4 * SL n; omega⟩
  | n + 1, ns, .for_ x c1 c2 s, hn, h => by
    unfold okS at h
    obtain ⟨h1, h2⟩ := eOk_of hn h.2.1.1 h.2.1.2 (by decide)
    obtain ⟨h3, h4⟩ := eOk_of hn h.2.2.1.1 h.2.2.1.2 (by decide)
    rw [pl1] at h2 h4
    obtain ⟨a1, a2, a3⟩ := wf_okB hd n _ s (nms_grow hn (forN_all x h.1)) h.2.2.2.2
    have la := Nat.mul_le_mul_right (SL n) h.2.2.2.1
    exact ⟨by unfold wfS; exact ⟨allN_nm x (forN_all x h.1), h1, h3, a1⟩, by show dpB s + 1 ≤ n + 1; omega, by show 30 + pl (dpE c1) + pl (dpE c2) + lenB s ≤ 160 + 4 * SL n; omega⟩
  | n + 1, ns, .call f es, hn, h => by
    unfold okS at h
    obtain ⟨p1, p2⟩ := hd _ h.1
    have hl := lenEs_le (es := es) fun e he => (h.2 e he).2
    have p2' : es.length ≤ 2 := p2
    exact ⟨by unfold wfS; exact ⟨p1, by omega, fun e he => (eOk_of hn (h.2 e he).1 (h.2 e he).2 (by decide)).1⟩, Nat.zero_le _, by show 13 + lenEs es ≤ 160 + 4 * SL n; omega⟩
  | n + 1, ns, .stop, hn, h => ⟨by unfold wfS; trivial, Nat.zero_le _, by show 6 ≤ 160 + 4 * SL n; omega⟩
  | 0, ns, .ite _ _ _, hn, h => by unfold okS at h; exact h.elim
  | 0, ns, .whl _ _, hn, h => by unfold okS at h; exact h.elim
  | 0, ns, .for_ _ _ _ _, hn, h => by unfold okS at h; exact h.elim
  | 0, ns, .call _ _, hn, h => by unfold okS at h; exact h.elim
  | 0, ns, .stop, hn, h => by unfold okS at h; exact h.elim
theorem wf_okB {ds : List (Str × Nat)} (hd : dsOk ds) : ∀ (n : Nat) (ns : List Str) (b : List St), nmsOk ns → okB ds n ns b → wfB b ∧ dpB b ≤ n ∧ lenB b ≤ b.length * SL n
  | n, ns, [], hn, h => ⟨by unfold wfB; trivial, Nat.zero_le _, Nat.zero_le _⟩
  | n, ns, s :: b, hn, h => by
    unfold okB at h
    obtain ⟨a1, a2, a3⟩ := wf_okS hd n ns s hn h.1
    obtain ⟨b1, b2, b3⟩ := wf_okB hd n (aft ns s) b (nms_aft hn h.1) h.2
    refine ⟨by unfold wfB; exact ⟨a1, b1⟩, by show max (dpS s) (dpB b) ≤ n; omega, ?_⟩
    show lenS s + lenB b ≤ (b.length + 1) * SL n
    rw [Nat.succ_mul]
    omega
end
theorem wfP_of {sz : Nat} {p : Pr} (h : okPr sz p) (hs : sz ≤ 8) : wfP p ∧ lenP p ≤ 30000 := by
  have hds : dsOk (p.defs.map sig) := fun q hq => by
    obtain ⟨f, hf, rfl⟩ := List.mem_map.mp hq
    obtain ⟨j, hj, e⟩ := List.getElem_of_mem hf
    have r := h.defs j f (by rw [List.getElem?_eq_getElem hj, e])
    exact ⟨defN_nm j _ r.1, r.2.2.1⟩
  have s1 : SL 1 = 432 := rfl
  have s2 : SL 2 = 1888 := rfl
  obtain ⟨b1, b2, b3⟩ := wf_okB hds 2 [] p.body (fun x hx => by cases hx) h.body
  have lb := Nat.mul_le_mul_right (SL 2) h.blen
  rw [s2] at lb b3
  have hdef : ∀ f ∈ p.defs, wfD f ∧ lenB f.body ≤ 1296 := fun f hf => by
    obtain ⟨j, hj, e⟩ := List.getElem_of_mem hf
    obtain ⟨r1, r2, r3, r4, r5⟩ := h.defs j f (by rw [List.getElem?_eq_getElem hj, e])
    have hargs : ∀ x ∈ f.args, x ∈ pq := fun x hx => by
      rw [r2] at hx
      exact List.mem_of_mem_take hx
    have hnm : nmsOk f.args := fun x hx => (by decide +kernel : ∀ x ∈ pq, x ∈ allN) x (hargs x hx)
    obtain ⟨a1, a2, a3⟩ := wf_okB hds 1 f.args f.body hnm r5
    have la := Nat.mul_le_mul_right (SL 1) r4
    rw [s1] at la a3
    exact ⟨⟨defN_nm j _ r1, fun x hx => allN_nm x (hnm x hx), by omega, a1, by omega⟩, by omega⟩
  refine ⟨⟨fun f hf => (hdef f hf).1, b1, by omega⟩, ?_⟩
  have hl : ∀ fs : List Df, (∀ f ∈ fs, lenB f.body ≤ 1296) → lenDs fs ≤ 1396 * fs.length := fun fs => by
    induction fs with
    | nil => intro _; exact Nat.le_refl _
    | cons f fs ih =>
      intro hf
      have i1 := ih fun x hx => hf x (List.mem_cons_of_mem _ hx)
      have i2 := hf f List.mem_cons_self
      show 100 + lenB f.body + lenDs fs ≤ 1396 * (fs.length + 1)
      omega
  have h1 := hl p.defs fun f hf => (hdef f hf).2
  have h2 := h.len
  unfold lenP
  have h3 : p.body.length * 1888 ≤ 8 * 1888 := Nat.mul_le_mul_right _ (Nat.le_trans h.blen hs)
  omega
end KD

namespace KD
open PySem L2 TL
open K0 (Toks num)
theorem defN_ne : ∀ x ∈ defN 0, ∀ y ∈ defN 1, x ≠ y := by decide +kernel
theorem pq_nd : ∀ n ≤ 2, (pq.take n).Nodup := by decide +kernel
theorem okPr.nd {sz : Nat} {p : Pr} (h : okPr sz p) : (p.defs.map Df.name).Nodup := by
  obtain ⟨fs, b⟩ := p
  match fs, h with
  | [], _ => exact List.nodup_nil
  | [f], _ => exact (List.nodup_cons.mpr ⟨List.not_mem_nil, List.nodup_nil⟩)
  | [f, g], h =>
    have h0 := (h.defs 0 f rfl).1
    have h1 := (h.defs 1 g rfl).1
    show [f.name, g.name].Nodup
    rw [List.nodup_cons]
    refine ⟨fun q => ?_, (List.nodup_cons.mpr ⟨List.not_mem_nil, List.nodup_nil⟩)⟩
    rw [List.mem_singleton] at q
    exact defN_ne _ h0 _ h1 q
  | _ :: _ :: _ :: _, h =>
    have := h.len
    simp only [List.length_cons] at this
    omega
theorem okPr.an {sz : Nat} {p : Pr} (h : okPr sz p) : ∀ f ∈ p.defs, f.args.Nodup := fun f hf => by
  obtain ⟨j, hj, e⟩ := List.getElem_of_mem hf
  have r := h.defs j f (by rw [List.getElem?_eq_getElem hj, e])
  rw [r.2.1]
  exact pq_nd _ r.2.2.1
theorem okPr.gb {sz : Nat} {p : Pr} (h : okPr sz p) : ∀ f ∈ p.defs, okB (p.defs.map sig) 1 f.args f.body := fun f hf => by
  obtain ⟨j, hj, e⟩ := List.getElem_of_mem hf
  exact (h.defs j f (by rw [List.getElem?_eq_getElem hj, e])).2.2.2.2
theorem okPr.gp {sz : Nat} {p : Pr} (h : okPr sz p) : GP p (tkP p) := ⟨_, _, GD.tk p.defs fun f hf => (GB.tk 1 _ _ (h.gb f hf)).mono (by decide), (GB.tk 2 _ _ h.body).mono (by decide), rfl⟩
theorem okPr.gpx {sz : Nat} {p : Pr} (h : okPr sz p) : GP p (tkPx p) := ⟨_, _, GD.x p.defs fun f hf => (GB.x 1 _ _ (h.gb f hf)).mono (by decide), (GB.x 2 _ _ h.body).mono (by decide), rfl⟩
/-- a drawn text -/
theorem Rdb.drawn {sz : Nat} {p : Pr} {X : Str} (h : okPr sz p) (hs : sz ≤ 8) (hX : Toks (tl X) (tkP p)) (hl : X.length ≤ lenP p) : Rdb X p :=
  ⟨⟨_, hX, h.gp⟩, (wfP_of h hs).1, by have := (wfP_of h hs).2; omega, h.nd, h.an⟩
/-- a printed text -/
theorem Rdb.printed {sz : Nat} {p : Pr} (h : okPr sz p) (hs : sz ≤ 8) (hl : (tidyT p).length ≤ 90000) : Rdb (tidyT p) p :=
  ⟨⟨_, tidy_toks (wfP_of h hs).1, h.gpx⟩, (wfP_of h hs).1, hl, h.nd, h.an⟩
end KD

namespace KD
open PySem L2 TL
theorem cut_to (xs : List V) (k : Nat) : cutV xs none (some ((k : Nat) : Int)) = xs.take k := by
  unfold cutV HT.sIx
  simp only [List.drop_zero, Nat.sub_zero]
  rw [if_neg (by omega), Int.toNat_natCast, ← List.take_eq_take_min]
theorem cut_from (xs : List V) (k : Nat) : cutV xs (some ((k : Nat) : Int)) none = xs.drop k := by
  unfold cutV HT.sIx
  simp only
  rw [if_neg (by omega), Int.toNat_natCast]
  by_cases h : k ≤ xs.length
  · rw [Nat.min_eq_left h, List.take_of_length_le (by rw [List.length_drop]; exact Nat.le_refl _)]
  · rw [Nat.min_eq_right (by omega), List.drop_eq_nil_of_le (Nat.le_refl _), List.drop_eq_nil_of_le (by omega), List.take_nil]
end KD

/-! The program's statements: their expressions, their blocks, their heads. -/
namespace KD
open PySem L2 TL
open K0 (num)
def wdS : St → Str
  | .row _ => "row" | .col _ => "col" | .say _ => "say" | .set _ _ => "let" | .ite _ _ _ => "if" | .whl _ _ => "while" | .for_ _ _ _ _ => "for" | .call _ _ => "do" | .stop => "stop"
/-- what stands in its tuple behind the word -/
def itS : St → List PyData
  | .row e => [e.d]
  | .col e => [e.d]
  | .say e => [e.d]
  | .set x e => [.str x, e.d]
  | .ite c a b => [c.d, .tuple (dB a), .tuple (dB b)]
  | .whl c a => [c.d, .tuple (dB a)]
  | .for_ x a b s => [.str x, a.d, b.d, .tuple (dB s)]
  | .call f es => [.str f, .tuple (es.map Ex.d)]
  | .stop => []
theorem St.d_eq (s : St) : s.d = .tuple (.str (wdS s) :: itS s) := by cases s <;> (unfold St.d; rfl)
def exsOf : St → List Ex
  | .row e => [e]
  | .col e => [e]
  | .say e => [e]
  | .set _ e => [e]
  | .ite c _ _ => [c]
  | .whl c _ => [c]
  | .for_ _ a b _ => [a, b]
  | .call _ es => es
  | .stop => []
def blksOf : St → List (List St)
  | .ite _ a b => [a, b]
  | .whl _ a => [a]
  | .for_ _ _ _ s => [s]
  | _ => []
/-- where its expressions begin, where its blocks begin -/
def eAt : St → Nat
  | .set _ _ => 2 | .for_ _ _ _ _ => 2 | _ => 1
def bAt : St → Nat
  | .set _ _ => 3 | .for_ _ _ _ _ => 4 | .stop => 1 | .call _ _ => 3 | _ => 2
theorem drop_blks (s : St) : (PyData.str (wdS s) :: itS s).drop (bAt s) = (blksOf s).map fun b => PyData.tuple (dB b) := by cases s <;> rfl
theorem cut_exs (s : St) (h : ∀ f es, s ≠ .call f es) : ((PyData.str (wdS s) :: itS s).drop (eAt s)).take (bAt s - eAt s) = (exsOf s).map Ex.d := by
  cases s with
  | call f es => exact absurd rfl (h f es)
  | _ => rfl
theorem bAt_len (s : St) : bAt s ≤ (PyData.str (wdS s) :: itS s).length ∧ 1 ≤ bAt s ∧ 1 ≤ eAt s ∧ (eAt s ≤ bAt s) := by cases s <;> simp [bAt, eAt, itS]
theorem wd_do (s : St) (h : ∀ f es, s ≠ .call f es) : wdS s ≠ "do" := by
  have all : ∀ z ∈ (["row", "col", "say", "let", "if", "while", "for", "stop"] : List Str), z ≠ "do" := by decide +kernel
  cases s with
  | call f es => exact absurd rfl (h f es)
  | row e => exact all "row" (by decide +kernel)
  | col e => exact all "col" (by decide +kernel)
  | say e => exact all "say" (by decide +kernel)
  | set x e => exact all "let" (by decide +kernel)
  | ite c a b => exact all "if" (by decide +kernel)
  | whl c a => exact all "while" (by decide +kernel)
  | for_ x a b r => exact all "for" (by decide +kernel)
  | stop => exact all "stop" (by decide +kernel)
structure BTxt (K : PySem.W.Frag) (w : World) (mg : Str → Option Value) : Prop where
  blk : ∃ a, mg "BLOCKS_AT" = some (.ref a) ∧ DW.Is K w a ∧ ∀ s : St, DW.At K a (wdS s) (some (.int (bAt s : Nat)))
  exp : ∃ a, mg "EXPRESSIONS_AT" = some (.ref a) ∧ DW.Is K w a ∧ ∀ s : St, (∀ f es, s ≠ .call f es) → DW.At K a (wdS s) (some (.int (eAt s : Nat)))
theorem st_tup {K : PySem.W.Frag} {H : Hp} {v : V} {s : St} (h : Dp K H v s.d) : ∃ a ys, v = .ref a ∧ SqT K H a (.str (wdS s) :: ys) ∧ DpAll K H (.str (wdS s) :: ys) (.str (wdS s) :: itS s) := by
  rw [St.d_eq] at h
  obtain ⟨a, xs, rfl, hT, hA⟩ := dp_tup h
  obtain ⟨w0, ys, rfl, b0, hB⟩ := dp_cons hA
  obtain rfl := dp_str b0
  exact ⟨a, ys, rfl, hT, .cons b0 hB⟩
theorem dpAll_drop {K : PySem.W.Frag} {H : Hp} : ∀ (n : Nat) {vs : List V} {ds : List PyData}, DpAll K H vs ds → DpAll K H (vs.drop n) (ds.drop n)
  | 0, _, _, h => h
  | n + 1, _, _, .nil => .nil
  | n + 1, _, _, .cons _ t => dpAll_drop n t
theorem dpAll_take {K : PySem.W.Frag} {H : Hp} : ∀ (n : Nat) {vs : List V} {ds : List PyData}, DpAll K H vs ds → DpAll K H (vs.take n) (ds.take n)
  | 0, _, _, _ => .nil
  | n + 1, _, _, .nil => .nil
  | n + 1, _, _, .cons a t => .cons a (dpAll_take n t)
section
variable {P : Program} {w : World} {K : PySem.W.Frag} {mg : Str → Option Value} {base' : Heap}
def spBlocks (K : PySem.W.Frag) : Sp := fun vs H Q _ => ∃ (v : V) (s : St), vs = [v] ∧ Dp K H v s.d ∧ ∀ (H' : Hp) (p : Addr) (ws : List V), Same H H' → SqT K H' p ws → DpAll K H' ws ((blksOf s).map fun b => PyData.tuple (dB b)) → Q (.ref p) H'
theorem scBlocks : FnScope ["statement"] ["statement"] (defScope S_blocks_of) := ⟨rfl, rfl, rfl, by decide +kernel, rfl, by decide +kernel, by decide +kernel⟩
theorem ok_blocks {f : Addr} {fd : FuncData} (F : Fun K "blocks_of" "blocks_of" S_blocks_of f fd) (B : BTxt K w mg) : FnOk P w K mg base' CX0 1 f fd ["statement"] (spBlocks K) := by
  refine F.ok scBlocks (fun vs H Q E h => ?_) (fun cdv A outer s0 H vs Q E hr h => ?_)
  · obtain ⟨v, s, rfl, _⟩ := h
    rfl
  obtain ⟨v, s, rfl, hd, q⟩ := h
  obtain ⟨aB, mB, isB, hB⟩ := B.blk
  obtain ⟨a, ys, rfl, hT, hA⟩ := st_tup hd
  have hlen : (V.str (wdS s) :: ys).length = (PyData.str (wdS s) :: itS s).length := DpAll.length hA
  obtain ⟨b1, b2, b3, b4⟩ := bAt_len s
  refine ⟨_, pss_one (ps_ret (pe_slice sl_tup (pv 0) (po_some (pe_ix ix_kdict (pe_glob (v := .ref aB) rfl mB rfl) (pe_ix ix_tup (pv 0) pe_int (fun _ _ => rfl)) (fun _ _ => rfl))) po_none)), ?_⟩
  refine ⟨_, rfl, _, rfl, a, _, _, _, rfl, rfl, hT, at0, aB, _, _, rfl, rfl, kdct isB (hB s), (bAt s : Nat), rfl, a, _, rfl, hT, ?_, fun p np => ?_⟩
  · rw [HT.sIx_nat]
    rintro ⟨z, _⟩
    omega
  · rw [cut_from]
    have s1 := same_new np (.tup ((V.str (wdS s) :: ys).drop (bAt s)))
    refine q _ p _ s1 (SqT.of upd_same) ?_
    rw [← drop_blks]
    exact DpAll.same s1 (dpAll_drop _ hA)
def spExprs (K : PySem.W.Frag) : Sp := fun vs H Q _ => ∃ (v : V) (s : St), vs = [v] ∧ Dp K H v s.d ∧ ∀ (H' : Hp) (p : Addr) (ws : List V), Same H H' → SqT K H' p ws → DpAll K H' ws ((exsOf s).map Ex.d) → Q (.ref p) H'
theorem scExprs : FnScope ["statement"] ["statement"] (defScope S_expressions_of) := ⟨rfl, rfl, rfl, by decide +kernel, rfl, by decide +kernel, by decide +kernel⟩
theorem ok_exprs {f : Addr} {fd : FuncData} (F : Fun K "expressions_of" "expressions_of" S_expressions_of f fd) (B : BTxt K w mg) : FnOk P w K mg base' CX0 1 f fd ["statement"] (spExprs K) := by
  refine F.ok scExprs (fun vs H Q E h => ?_) (fun cdv A outer s0 H vs Q E hr h => ?_)
  · obtain ⟨v, s, rfl, _⟩ := h
    rfl
  obtain ⟨v, s, rfl, hd, q⟩ := h
  obtain ⟨aB, mB, isB, hB⟩ := B.blk
  obtain ⟨aE, mE, isE, hE⟩ := B.exp
  obtain ⟨a, ys, rfl, hT, hA⟩ := st_tup hd
  have hlen : (V.str (wdS s) :: ys).length = (PyData.str (wdS s) :: itS s).length := DpAll.length hA
  obtain ⟨b1, b2, b3, b4⟩ := bAt_len s
  refine ⟨_, pss_cons (ps_if (pt_cmpR op_eq (pe_ix ix_tup (pv 0) pe_int (fun _ _ => rfl)) pe_str (nomark _)) (pss_one (ps_ret (pe_ix ix_tup (pv 0) pe_int (fun _ _ => rfl)))) pss_nil)
    (pss_one (ps_ret (pe_slice sl_tup (pv 0) (po_some (pe_ix ix_kdict (pe_glob (v := .ref aE) rfl mE rfl) (pe_ix ix_tup (pv 0) pe_int (fun _ _ => rfl)) (fun _ _ => rfl))) (po_some (pe_ix ix_kdict (pe_glob (v := .ref aB) rfl mB rfl) (pe_ix ix_tup (pv 0) pe_int (fun _ _ => rfl)) (fun _ _ => rfl)))))), ?_⟩
  refine ⟨_, rfl, a, _, _, _, rfl, rfl, hT, at0, rfl, _, rfl, ?_⟩
  by_cases hc : ∃ f es, s = .call f es
  · obtain ⟨f, es, rfl⟩ := hc
    rw [show decide (V.str (wdS (.call f es)) = V.str "do") = true from decide_eq_true rfl]
    refine iteT ?_
    obtain ⟨w0, r0, e0, c0, hB⟩ := dp_cons hA
    obtain ⟨w1, r1, e1, c1, hC⟩ := dp_cons hB
    obtain ⟨w2, r2, e2, c2, hD⟩ := dp_cons hC
    obtain rfl := dp_nil hD
    cases e0
    subst e1
    subst e2
    obtain ⟨a2, zs, rfl, hT2, hA2⟩ := dp_tup c2
    exact ⟨_, rfl, a, _, _, _, rfl, rfl, hT, rfl, q H a2 zs (Same.refl H) hT2 hA2⟩
  · have hc' : ∀ f es, s ≠ .call f es := fun f es e => hc ⟨f, es, e⟩
    rw [show decide (V.str (wdS s) = V.str "do") = false from decide_eq_false (fun z => wd_do s hc' (V.str.inj z))]
    refine iteF ?_
    refine ⟨_, rfl, _, rfl, a, _, _, _, rfl, rfl, hT, at0, aE, _, _, rfl, rfl, kdct isE (hE s hc'), (eAt s : Nat), rfl, _, rfl, a, _, _, _, rfl, rfl, hT, at0, aB, _, _, rfl, rfl, kdct isB (hB s), (bAt s : Nat), rfl, a, _, rfl, hT, ?_, fun p np => ?_⟩
    · rw [HT.sIx_nat]
      rintro ⟨z, _⟩
      omega
    · have ec : cutV (V.str (wdS s) :: ys) (some ((eAt s : Nat) : Int)) (some ((bAt s : Nat) : Int)) = ((V.str (wdS s) :: ys).drop (eAt s)).take (bAt s - eAt s) := by
        unfold cutV
        rw [HT.sIx_nat, HT.sIx_nat, Nat.min_eq_left (by omega), Nat.min_eq_left (by omega)]
      rw [ec]
      have s1 := same_new np (.tup (((V.str (wdS s) :: ys).drop (eAt s)).take (bAt s - eAt s)))
      refine q _ p _ s1 (SqT.of upd_same) ?_
      rw [← cut_exs s hc']
      exact DpAll.same s1 (dpAll_take _ (dpAll_drop _ hA))
end
end KD

namespace KD
open PySem L2 TL
open K0 (Toks num)
mutual
def headsS : St → List Str
  | .row _ => ["row"]
  | .col _ => ["col"]
  | .say _ => ["say"]
  | .set _ _ => ["let"]
  | .ite _ a b => "if" :: (headsB a ++ headsB b)
  | .whl _ a => "while" :: headsB a
  | .for_ _ _ _ s => "for" :: headsB s
  | .call _ _ => ["do"]
  | .stop => ["stop"]
def headsB : List St → List Str
  | [] => []
  | s :: b => headsS s ++ headsB b
end
theorem headsB_append : ∀ a b : List St, headsB (a ++ b) = headsB a ++ headsB b
  | [], b => rfl
  | s :: a, b => by
    show headsS s ++ headsB (a ++ b) = headsS s ++ headsB a ++ headsB b
    rw [headsB_append a b, List.append_assoc]
mutual
theorem headsS_len : ∀ s : St, (headsS s).length ≤ lenS s
  | .row e => by show 1 ≤ 6 + pl (dpE e); omega
  | .col e => by show 1 ≤ 6 + pl (dpE e); omega
  | .say e => by show 1 ≤ 6 + pl (dpE e); omega
  | .set x e => by show 1 ≤ 14 + pl (dpE e); omega
  | .ite c a b => by
    have h1 := headsB_len a
    have h2 := headsB_len b
    show (headsB a ++ headsB b).length + 1 ≤ 20 + pl (dpE c) + lenB a + lenB b
    rw [List.length_append]
    omega
  | .whl c a => by
    have h1 := headsB_len a
    show (headsB a).length + 1 ≤ 20 + pl (dpE c) + lenB a
    omega
  | .for_ x c d s => by
    have h1 := headsB_len s
    show (headsB s).length + 1 ≤ 30 + pl (dpE c) + pl (dpE d) + lenB s
    omega
  | .call f es => by show 1 ≤ 13 + lenEs es; omega
  | .stop => by show 1 ≤ 6; omega
theorem headsB_len : ∀ b : List St, (headsB b).length ≤ lenB b
  | [] => Nat.le_refl _
  | s :: b => by
    have h1 := headsS_len s
    have h2 := headsB_len b
    show (headsS s ++ headsB b).length ≤ lenS s + lenB b
    rw [List.length_append]
    omega
end
theorem tupD_B' (b : List St) : tupD (.tuple (dB b)) = true := by show tupDs (dB b) = true; exact tupD_B b
section
variable {P : Program} {w : World} {K : PySem.W.Frag} {mg : Str → Option Value} {base : Heap}
def spHeads (K : PySem.W.Frag) (n : Nat) : Sp := fun vs H Q _ => ∃ (v : V) (b : List St), vs = [v] ∧ Dp K H v (.tuple (dB b)) ∧ dpB b < n ∧ lenB b ≤ 1000000 ∧ ∀ (H' : Hp) (p : Addr), Same H H' → H p = none → H' p = some (.lst ((headsB b).map V.str)) → Q (.ref p) H'
abbrev headN : List Str := ["block", "found", "tree"]
theorem scHeads : FnScope headN ["block"] (defScope S__law_heads) := ⟨rfl, rfl, rfl, by decide +kernel, rfl, by decide +kernel, by decide +kernel⟩
def w3h : List Str := ["if", "while", "for"]
theorem ok_heads1 {n : Nat} {f : Addr} {fd : FuncData} (F : Fun K "_law_heads" "_law_heads" S__law_heads f fd) (T : Blt mg)
    (GI : FnOk P w K mg base CX0 n f fd ["block"] (spHeads K n)) (mI : mg "_law_heads" = some (.ref f)) (bI : Binds K fd ["block"] []) :
    FnOk P w K mg base CX0 (n + 1) f fd ["block"] (spHeads K (n + 1)) := by
  refine F.ok scHeads (fun vs H Q E h => ?_) (fun cdv A outer s0 H vs Q E hr h => ?_)
  · obtain ⟨v, b, rfl, _⟩ := h
    rfl
  obtain ⟨v, b, rfl, hv, hd, hlen, k⟩ := h
  refine ⟨_, pss_cons (ps_set (i := 1) scHeads.nd rfl (Or.inl rfl) (pe_lst pa_nil))
    (pss_cons (ps_for PassesOwn.never rfl (pi_tup (pv 0)) (pg_name (i := 2) scHeads.nd rfl (Or.inl rfl))
      (pss_cons (ps_expr (pe_bm PySem.F.plainAttrs_list PySem.F.slot_list_append PySem.F.type_list_append mt_append (pv 1) (pa_cons (pe_ix ix_tup (pv 2) pe_int (fun _ _ => rfl)) pa_nil)))
      (pss_cons (ps_if (pt_cmpR op_in_seq (pe_ix ix_tup (pv 2) pe_int (fun _ _ => rfl)) (pe_tup (pa_cons pe_str (pa_cons pe_str (pa_cons pe_str pa_nil)))) (by rfl))
        (pss_one (ps_set (i := 1) scHeads.nd rfl (Or.inl rfl) (pe_op op_cat (pv 1) (pe_call GI hr rfl mI F.kp bI .nil pass0 (pa_cons (pe_ifExp (pt_cmpR op_eq (pe_ix ix_tup (pv 2) pe_int (fun _ _ => rfl)) pe_str (nomark _)) (pe_ix ix_tup (pv 2) pe_int (fun _ _ => rfl)) (pe_ix ix_tup (pv 2) pe_int (fun _ _ => rfl))) pa_nil))))) pss_nil)
      (pss_one (ps_if (pt_cmpR op_eq (pe_ix ix_tup (pv 2) pe_int (fun _ _ => rfl)) pe_str (nomark _))
        (pss_one (ps_set (i := 1) scHeads.nd rfl (Or.inl rfl) (pe_op op_cat (pv 1) (pe_call GI hr rfl mI F.kp bI .nil pass0 (pa_cons (pe_ix ix_tup (pv 2) pe_int (fun _ _ => rfl)) pa_nil))))) pss_nil)))))
    (pss_one (ps_ret (pv 1)))), ?_⟩
  obtain ⟨a, xs, rfl, hT, hA⟩ := dp_tup hv
  have lx : ∀ m : Nat, m ≤ 10000000 → m ≤ sizeLine := fun m h => Nat.le_trans h (by decide)
  refine ⟨Nat.zero_le _, fun fq nf => ?_⟩
  refine ⟨_, rfl, a, rfl, ⟨_, KT.same (same_new nf _) _ _ hT⟩, for_tup (K := K) (a := a) (xs := xs) (fun i σ H' => ∃ (fq : Addr) (v2 : Option V), σ = [some (.ref a), some (.ref fq), v2] ∧ Same H H' ∧ H fq = none ∧ H' fq = some (.lst ((headsB (b.take i)).map V.str)))
    ⟨fq, none, rfl, same_new nf _, nf, by rw [List.take_zero]; exact upd_same⟩ (fun i σ H' _ ⟨_, _, _, s1, _⟩ => KT.same s1 _ _ hT) ?_ ?_⟩
  · rintro i y σ H3 hi ⟨fq, v2, rfl, s1, bf, hf⟩
    obtain ⟨d, hd1, hd2⟩ := KD.DpAll.get hA hi
    obtain ⟨st, hst, rfl⟩ := dB_get hd1
    have hmem : st ∈ b := List.mem_of_getElem? hst
    have hdS : dpS st < n + 1 := Nat.lt_of_le_of_lt (dpB_mem hmem) hd
    have etk : b.take (i + 1) = b.take i ++ [st] := by
      rw [List.take_succ, hst]
      rfl
    have hlt : lenB (b.take i) + lenS st ≤ 1000000 := by
      have q := lenB_take b (i + 1)
      rw [etk, lenB_append] at q
      have q2 : lenB [st] = lenS st + 0 := rfl
      omega
    have hnl := headsB_len (b.take i)
    have eln : (headsB (b.take (i + 1))).map V.str = (headsB (b.take i)).map V.str ++ (headsS st).map V.str := by
      rw [etk, headsB_append, List.map_append]
      show _ ++ (headsS st ++ []).map V.str = _
      rw [List.append_nil]
    have d3 := Dp.same s1 hd2
    have hnf : ((headsB (b.take i)).map V.str).length < sizeLine := by rw [List.length_map]; exact Nat.lt_of_le_of_lt (show _ ≤ 1000000 by omega) (by decide)
    have hup : ∀ o, Same H (upd H3 fq o) := fun o c u q => by rw [upd_ne (ne_of_none q bf)]; exact s1 _ _ q
    cases st with
    | row e =>
      obtain ⟨t, ts, rfl, hT3, hB⟩ := dp_tup d3
      obtain ⟨u0, q0, rfl, e0, hB⟩ := dp_cons hB
      obtain ⟨u1, q1, rfl, e1, hB⟩ := dp_cons hB
      obtain rfl := dp_nil hB
      obtain rfl := dp_str e0
      refine ⟨_, rfl, .inl ⟨rfl, _, SqL.of hf⟩, _, rfl, t, _, _, _, rfl, rfl, hT3, rfl, ?_⟩
      refine ⟨fq, _, _, rfl, rfl, hf, hnf, ?_⟩
      have kt := KT.upd (K := K) hf (.lst ((headsB (b.take i)).map V.str ++ [.str "row"]))
      have hfu : (upd H3 fq (.lst ((headsB (b.take i)).map V.str ++ [.str "row"]))) fq = some (.lst ((headsB (b.take i)).map V.str ++ [.str "row"])) := upd_same
      have hup1 := hup (.lst ((headsB (b.take i)).map V.str ++ [.str "row"]))
      generalize upd H3 fq (.lst ((headsB (b.take i)).map V.str ++ [.str "row"])) = H4 at kt hfu hup1 ⊢
      refine ⟨_, rfl, t, _, _, _, rfl, rfl, kt _ _ hT3, rfl, (by show 3 ≤ sizeLine; decide), fun tp ntp => ?_⟩
      refine ⟨tp, _, rfl, .inr (SqT.of upd_same), rfl, flat_strs w3h, _, rfl, ?_⟩
      show if inV (.str "row") (w3h.map V.str) = true then _ else _
      rw [in_strs, show decide (("row" : Str) ∈ w3h) = false by decide +kernel]
      refine iteF ?_
      refine ⟨_, rfl, t, _, _, _, rfl, rfl, KT.same (same_new ntp _) _ _ (kt _ _ hT3), rfl, rfl, _, rfl, ?_⟩
      rw [show decide (V.str "row" = V.str "if") = false by decide +kernel]
      refine iteF ?_
      refine ⟨fq, _, rfl, hup1.trans (same_new ntp _), bf, ?_⟩
      rw [same_new ntp _ _ _ hfu, eln]
      rfl
    | col e =>
      obtain ⟨t, ts, rfl, hT3, hB⟩ := dp_tup d3
      obtain ⟨u0, q0, rfl, e0, hB⟩ := dp_cons hB
      obtain ⟨u1, q1, rfl, e1, hB⟩ := dp_cons hB
      obtain rfl := dp_nil hB
      obtain rfl := dp_str e0
      refine ⟨_, rfl, .inl ⟨rfl, _, SqL.of hf⟩, _, rfl, t, _, _, _, rfl, rfl, hT3, rfl, ?_⟩
      refine ⟨fq, _, _, rfl, rfl, hf, hnf, ?_⟩
      have kt := KT.upd (K := K) hf (.lst ((headsB (b.take i)).map V.str ++ [.str "col"]))
      have hfu : (upd H3 fq (.lst ((headsB (b.take i)).map V.str ++ [.str "col"]))) fq = some (.lst ((headsB (b.take i)).map V.str ++ [.str "col"])) := upd_same
      have hup1 := hup (.lst ((headsB (b.take i)).map V.str ++ [.str "col"]))
      generalize upd H3 fq (.lst ((headsB (b.take i)).map V.str ++ [.str "col"])) = H4 at kt hfu hup1 ⊢
      refine ⟨_, rfl, t, _, _, _, rfl, rfl, kt _ _ hT3, rfl, (by show 3 ≤ sizeLine; decide), fun tp ntp => ?_⟩
      refine ⟨tp, _, rfl, .inr (SqT.of upd_same), rfl, flat_strs w3h, _, rfl, ?_⟩
      show if inV (.str "col") (w3h.map V.str) = true then _ else _
      rw [in_strs, show decide (("col" : Str) ∈ w3h) = false by decide +kernel]
      refine iteF ?_
      refine ⟨_, rfl, t, _, _, _, rfl, rfl, KT.same (same_new ntp _) _ _ (kt _ _ hT3), rfl, rfl, _, rfl, ?_⟩
      rw [show decide (V.str "col" = V.str "if") = false by decide +kernel]
      refine iteF ?_
      refine ⟨fq, _, rfl, hup1.trans (same_new ntp _), bf, ?_⟩
      rw [same_new ntp _ _ _ hfu, eln]
      rfl
    | say e =>
      obtain ⟨t, ts, rfl, hT3, hB⟩ := dp_tup d3
      obtain ⟨u0, q0, rfl, e0, hB⟩ := dp_cons hB
      obtain ⟨u1, q1, rfl, e1, hB⟩ := dp_cons hB
      obtain rfl := dp_nil hB
      obtain rfl := dp_str e0
      refine ⟨_, rfl, .inl ⟨rfl, _, SqL.of hf⟩, _, rfl, t, _, _, _, rfl, rfl, hT3, rfl, ?_⟩
      refine ⟨fq, _, _, rfl, rfl, hf, hnf, ?_⟩
      have kt := KT.upd (K := K) hf (.lst ((headsB (b.take i)).map V.str ++ [.str "say"]))
      have hfu : (upd H3 fq (.lst ((headsB (b.take i)).map V.str ++ [.str "say"]))) fq = some (.lst ((headsB (b.take i)).map V.str ++ [.str "say"])) := upd_same
      have hup1 := hup (.lst ((headsB (b.take i)).map V.str ++ [.str "say"]))
      generalize upd H3 fq (.lst ((headsB (b.take i)).map V.str ++ [.str "say"])) = H4 at kt hfu hup1 ⊢
      refine ⟨_, rfl, t, _, _, _, rfl, rfl, kt _ _ hT3, rfl, (by show 3 ≤ sizeLine; decide), fun tp ntp => ?_⟩
      refine ⟨tp, _, rfl, .inr (SqT.of upd_same), rfl, flat_strs w3h, _, rfl, ?_⟩
      show if inV (.str "say") (w3h.map V.str) = true then _ else _
      rw [in_strs, show decide (("say" : Str) ∈ w3h) = false by decide +kernel]
      refine iteF ?_
      refine ⟨_, rfl, t, _, _, _, rfl, rfl, KT.same (same_new ntp _) _ _ (kt _ _ hT3), rfl, rfl, _, rfl, ?_⟩
      rw [show decide (V.str "say" = V.str "if") = false by decide +kernel]
      refine iteF ?_
      refine ⟨fq, _, rfl, hup1.trans (same_new ntp _), bf, ?_⟩
      rw [same_new ntp _ _ _ hfu, eln]
      rfl
    | set x e =>
      obtain ⟨t, ts, rfl, hT3, hB⟩ := dp_tup d3
      obtain ⟨u0, q0, rfl, e0, hB⟩ := dp_cons hB
      obtain ⟨u1, q1, rfl, e1, hB⟩ := dp_cons hB
      obtain ⟨u2, q2, rfl, e2, hB⟩ := dp_cons hB
      obtain rfl := dp_nil hB
      obtain rfl := dp_str e0
      refine ⟨_, rfl, .inl ⟨rfl, _, SqL.of hf⟩, _, rfl, t, _, _, _, rfl, rfl, hT3, rfl, ?_⟩
      refine ⟨fq, _, _, rfl, rfl, hf, hnf, ?_⟩
      have kt := KT.upd (K := K) hf (.lst ((headsB (b.take i)).map V.str ++ [.str "let"]))
      have hfu : (upd H3 fq (.lst ((headsB (b.take i)).map V.str ++ [.str "let"]))) fq = some (.lst ((headsB (b.take i)).map V.str ++ [.str "let"])) := upd_same
      have hup1 := hup (.lst ((headsB (b.take i)).map V.str ++ [.str "let"]))
      generalize upd H3 fq (.lst ((headsB (b.take i)).map V.str ++ [.str "let"])) = H4 at kt hfu hup1 ⊢
      refine ⟨_, rfl, t, _, _, _, rfl, rfl, kt _ _ hT3, rfl, (by show 3 ≤ sizeLine; decide), fun tp ntp => ?_⟩
      refine ⟨tp, _, rfl, .inr (SqT.of upd_same), rfl, flat_strs w3h, _, rfl, ?_⟩
      show if inV (.str "let") (w3h.map V.str) = true then _ else _
      rw [in_strs, show decide (("let" : Str) ∈ w3h) = false by decide +kernel]
      refine iteF ?_
      refine ⟨_, rfl, t, _, _, _, rfl, rfl, KT.same (same_new ntp _) _ _ (kt _ _ hT3), rfl, rfl, _, rfl, ?_⟩
      rw [show decide (V.str "let" = V.str "if") = false by decide +kernel]
      refine iteF ?_
      refine ⟨fq, _, rfl, hup1.trans (same_new ntp _), bf, ?_⟩
      rw [same_new ntp _ _ _ hfu, eln]
      rfl
    | call g es =>
      obtain ⟨t, ts, rfl, hT3, hB⟩ := dp_tup d3
      obtain ⟨u0, q0, rfl, e0, hB⟩ := dp_cons hB
      obtain ⟨u1, q1, rfl, e1, hB⟩ := dp_cons hB
      obtain ⟨u2, q2, rfl, e2, hB⟩ := dp_cons hB
      obtain rfl := dp_nil hB
      obtain rfl := dp_str e0
      refine ⟨_, rfl, .inl ⟨rfl, _, SqL.of hf⟩, _, rfl, t, _, _, _, rfl, rfl, hT3, rfl, ?_⟩
      refine ⟨fq, _, _, rfl, rfl, hf, hnf, ?_⟩
      have kt := KT.upd (K := K) hf (.lst ((headsB (b.take i)).map V.str ++ [.str "do"]))
      have hfu : (upd H3 fq (.lst ((headsB (b.take i)).map V.str ++ [.str "do"]))) fq = some (.lst ((headsB (b.take i)).map V.str ++ [.str "do"])) := upd_same
      have hup1 := hup (.lst ((headsB (b.take i)).map V.str ++ [.str "do"]))
      generalize upd H3 fq (.lst ((headsB (b.take i)).map V.str ++ [.str "do"])) = H4 at kt hfu hup1 ⊢
      refine ⟨_, rfl, t, _, _, _, rfl, rfl, kt _ _ hT3, rfl, (by show 3 ≤ sizeLine; decide), fun tp ntp => ?_⟩
      refine ⟨tp, _, rfl, .inr (SqT.of upd_same), rfl, flat_strs w3h, _, rfl, ?_⟩
      show if inV (.str "do") (w3h.map V.str) = true then _ else _
      rw [in_strs, show decide (("do" : Str) ∈ w3h) = false by decide +kernel]
      refine iteF ?_
      refine ⟨_, rfl, t, _, _, _, rfl, rfl, KT.same (same_new ntp _) _ _ (kt _ _ hT3), rfl, rfl, _, rfl, ?_⟩
      rw [show decide (V.str "do" = V.str "if") = false by decide +kernel]
      refine iteF ?_
      refine ⟨fq, _, rfl, hup1.trans (same_new ntp _), bf, ?_⟩
      rw [same_new ntp _ _ _ hfu, eln]
      rfl
    | stop =>
      obtain ⟨t, ts, rfl, hT3, hB⟩ := dp_tup d3
      obtain ⟨u0, q0, rfl, e0, hB⟩ := dp_cons hB
      obtain rfl := dp_nil hB
      obtain rfl := dp_str e0
      refine ⟨_, rfl, .inl ⟨rfl, _, SqL.of hf⟩, _, rfl, t, _, _, _, rfl, rfl, hT3, rfl, ?_⟩
      refine ⟨fq, _, _, rfl, rfl, hf, hnf, ?_⟩
      have kt := KT.upd (K := K) hf (.lst ((headsB (b.take i)).map V.str ++ [.str "stop"]))
      have hfu : (upd H3 fq (.lst ((headsB (b.take i)).map V.str ++ [.str "stop"]))) fq = some (.lst ((headsB (b.take i)).map V.str ++ [.str "stop"])) := upd_same
      have hup1 := hup (.lst ((headsB (b.take i)).map V.str ++ [.str "stop"]))
      generalize upd H3 fq (.lst ((headsB (b.take i)).map V.str ++ [.str "stop"])) = H4 at kt hfu hup1 ⊢
      refine ⟨_, rfl, t, _, _, _, rfl, rfl, kt _ _ hT3, rfl, (by show 3 ≤ sizeLine; decide), fun tp ntp => ?_⟩
      refine ⟨tp, _, rfl, .inr (SqT.of upd_same), rfl, flat_strs w3h, _, rfl, ?_⟩
      show if inV (.str "stop") (w3h.map V.str) = true then _ else _
      rw [in_strs, show decide (("stop" : Str) ∈ w3h) = false by decide +kernel]
      refine iteF ?_
      refine ⟨_, rfl, t, _, _, _, rfl, rfl, KT.same (same_new ntp _) _ _ (kt _ _ hT3), rfl, rfl, _, rfl, ?_⟩
      rw [show decide (V.str "stop" = V.str "if") = false by decide +kernel]
      refine iteF ?_
      refine ⟨fq, _, rfl, hup1.trans (same_new ntp _), bf, ?_⟩
      rw [same_new ntp _ _ _ hfu, eln]
      rfl
    | whl c a =>
      obtain ⟨t, ts, rfl, hT3, hB⟩ := dp_tup d3
      obtain ⟨u0, q0, rfl, e0, hB⟩ := dp_cons hB
      obtain ⟨u1, q1, rfl, e1, hB⟩ := dp_cons hB
      obtain ⟨u2, q2, rfl, e2, hB⟩ := dp_cons hB
      obtain rfl := dp_nil hB
      obtain rfl := dp_str e0
      have lE : lenS (.whl c a) = 20 + pl (dpE c) + lenB a := rfl
      have hdS' : dpB a + 1 < n + 1 := hdS
      refine ⟨_, rfl, .inl ⟨rfl, _, SqL.of hf⟩, _, rfl, t, _, _, _, rfl, rfl, hT3, rfl, ?_⟩
      refine ⟨fq, _, _, rfl, rfl, hf, hnf, ?_⟩
      have kt := KT.upd (K := K) hf (.lst ((headsB (b.take i)).map V.str ++ [.str "while"]))
      have hfu : (upd H3 fq (.lst ((headsB (b.take i)).map V.str ++ [.str "while"]))) fq = some (.lst ((headsB (b.take i)).map V.str ++ [.str "while"])) := upd_same
      have hup1 := hup (.lst ((headsB (b.take i)).map V.str ++ [.str "while"]))
      generalize upd H3 fq (.lst ((headsB (b.take i)).map V.str ++ [.str "while"])) = H4 at kt hfu hup1 ⊢
      refine ⟨_, rfl, t, _, _, _, rfl, rfl, kt _ _ hT3, rfl, (by show 3 ≤ sizeLine; decide), fun tp ntp => ?_⟩
      refine ⟨tp, _, rfl, .inr (SqT.of upd_same), rfl, flat_strs w3h, _, rfl, ?_⟩
      show if inV (.str "while") (w3h.map V.str) = true then _ else _
      rw [in_strs, show decide (("while" : Str) ∈ w3h) = true by decide +kernel]
      have s5 := same_new ntp (.tup (w3h.map V.str))
      have kt5 := kt.trans (KT.same s5)
      refine iteT ⟨_, rfl, _, rfl, t, _, _, _, rfl, rfl, kt5 _ _ hT3, rfl, rfl, _, rfl, ?_⟩
      rw [show decide (V.str "while" = V.str "for") = false by decide +kernel]
      refine iteF ⟨_, rfl, t, _, _, _, rfl, rfl, kt5 _ _ hT3, rfl, ?_⟩
      refine ⟨_, a, rfl, Dp.kt kt5 (tupD_B' a) e2, by omega, by omega, fun H6 pr s6 npr hpr => ?_⟩
      have hla := headsB_len a
      have hf6 := s6 _ _ (s5 _ _ hfu)
      refine ⟨fq, pr, _, _, rfl, rfl, hf6, hpr, (by simp only [List.length_append, List.length_map, List.length_singleton]; exact lx _ (by omega)), fun pc nc => ?_⟩
      have s7 := same_new nc (.lst ((headsB (b.take i)).map V.str ++ [.str "while"] ++ (headsB a).map V.str))
      have kt7 := (kt5.trans (KT.same s6)).trans (KT.same s7)
      have s17 := hup1.trans (s5.trans (s6.trans s7))
      have fpc : H pc = none := (hup1.trans (s5.trans s6)).free nc
      refine ⟨_, rfl, t, _, _, _, rfl, rfl, kt7 _ _ hT3, rfl, rfl, _, rfl, ?_⟩
      rw [show decide (V.str "while" = V.str "if") = false by decide +kernel]
      refine iteF ⟨pc, _, rfl, s17, fpc, ?_⟩
      rw [upd_same, eln]
      show _ = some (HO.lst ((headsB (b.take i)).map V.str ++ (("while" : Str) :: headsB a).map V.str))
      simp only [List.map_cons, List.append_assoc, List.singleton_append, List.cons_append, List.nil_append]
    | for_ x c d s =>
      obtain ⟨t, ts, rfl, hT3, hB⟩ := dp_tup d3
      obtain ⟨u0, q0, rfl, e0, hB⟩ := dp_cons hB
      obtain ⟨u1, q1, rfl, e1, hB⟩ := dp_cons hB
      obtain ⟨u2, q2, rfl, e2, hB⟩ := dp_cons hB
      obtain ⟨u3, q3, rfl, e3, hB⟩ := dp_cons hB
      obtain ⟨u4, q4, rfl, e4, hB⟩ := dp_cons hB
      obtain rfl := dp_nil hB
      obtain rfl := dp_str e0
      have lE : lenS (.for_ x c d s) = 30 + pl (dpE c) + pl (dpE d) + lenB s := rfl
      have hdS' : dpB s + 1 < n + 1 := hdS
      refine ⟨_, rfl, .inl ⟨rfl, _, SqL.of hf⟩, _, rfl, t, _, _, _, rfl, rfl, hT3, rfl, ?_⟩
      refine ⟨fq, _, _, rfl, rfl, hf, hnf, ?_⟩
      have kt := KT.upd (K := K) hf (.lst ((headsB (b.take i)).map V.str ++ [.str "for"]))
      have hfu : (upd H3 fq (.lst ((headsB (b.take i)).map V.str ++ [.str "for"]))) fq = some (.lst ((headsB (b.take i)).map V.str ++ [.str "for"])) := upd_same
      have hup1 := hup (.lst ((headsB (b.take i)).map V.str ++ [.str "for"]))
      generalize upd H3 fq (.lst ((headsB (b.take i)).map V.str ++ [.str "for"])) = H4 at kt hfu hup1 ⊢
      refine ⟨_, rfl, t, _, _, _, rfl, rfl, kt _ _ hT3, rfl, (by show 3 ≤ sizeLine; decide), fun tp ntp => ?_⟩
      refine ⟨tp, _, rfl, .inr (SqT.of upd_same), rfl, flat_strs w3h, _, rfl, ?_⟩
      show if inV (.str "for") (w3h.map V.str) = true then _ else _
      rw [in_strs, show decide (("for" : Str) ∈ w3h) = true by decide +kernel]
      have s5 := same_new ntp (.tup (w3h.map V.str))
      have kt5 := kt.trans (KT.same s5)
      refine iteT ⟨_, rfl, _, rfl, t, _, _, _, rfl, rfl, kt5 _ _ hT3, rfl, rfl, _, rfl, ?_⟩
      rw [show decide (V.str "for" = V.str "for") = true by decide +kernel]
      refine iteT ⟨_, rfl, t, _, _, _, rfl, rfl, kt5 _ _ hT3, rfl, ?_⟩
      refine ⟨_, s, rfl, Dp.kt kt5 (tupD_B' s) e4, by omega, by omega, fun H6 pr s6 npr hpr => ?_⟩
      have hla := headsB_len s
      have hf6 := s6 _ _ (s5 _ _ hfu)
      refine ⟨fq, pr, _, _, rfl, rfl, hf6, hpr, (by simp only [List.length_append, List.length_map, List.length_singleton]; exact lx _ (by omega)), fun pc nc => ?_⟩
      have s7 := same_new nc (.lst ((headsB (b.take i)).map V.str ++ [.str "for"] ++ (headsB s).map V.str))
      have kt7 := (kt5.trans (KT.same s6)).trans (KT.same s7)
      have s17 := hup1.trans (s5.trans (s6.trans s7))
      have fpc : H pc = none := (hup1.trans (s5.trans s6)).free nc
      refine ⟨_, rfl, t, _, _, _, rfl, rfl, kt7 _ _ hT3, rfl, rfl, _, rfl, ?_⟩
      rw [show decide (V.str "for" = V.str "if") = false by decide +kernel]
      refine iteF ⟨pc, _, rfl, s17, fpc, ?_⟩
      rw [upd_same, eln]
      show _ = some (HO.lst ((headsB (b.take i)).map V.str ++ (("for" : Str) :: headsB s).map V.str))
      simp only [List.map_cons, List.append_assoc, List.singleton_append, List.cons_append, List.nil_append]
    | ite c a b2 =>
      obtain ⟨t, ts, rfl, hT3, hB⟩ := dp_tup d3
      obtain ⟨u0, q0, rfl, e0, hB⟩ := dp_cons hB
      obtain ⟨u1, q1, rfl, e1, hB⟩ := dp_cons hB
      obtain ⟨u2, q2, rfl, e2, hB⟩ := dp_cons hB
      obtain ⟨u3, q3, rfl, e3, hB⟩ := dp_cons hB
      obtain rfl := dp_nil hB
      obtain rfl := dp_str e0
      have lE : lenS (.ite c a b2) = 20 + pl (dpE c) + lenB a + lenB b2 := rfl
      have hdS' : max (dpB a) (dpB b2) + 1 < n + 1 := hdS
      refine ⟨_, rfl, .inl ⟨rfl, _, SqL.of hf⟩, _, rfl, t, _, _, _, rfl, rfl, hT3, rfl, ?_⟩
      refine ⟨fq, _, _, rfl, rfl, hf, hnf, ?_⟩
      have kt := KT.upd (K := K) hf (.lst ((headsB (b.take i)).map V.str ++ [.str "if"]))
      have hfu : (upd H3 fq (.lst ((headsB (b.take i)).map V.str ++ [.str "if"]))) fq = some (.lst ((headsB (b.take i)).map V.str ++ [.str "if"])) := upd_same
      have hup1 := hup (.lst ((headsB (b.take i)).map V.str ++ [.str "if"]))
      generalize upd H3 fq (.lst ((headsB (b.take i)).map V.str ++ [.str "if"])) = H4 at kt hfu hup1 ⊢
      refine ⟨_, rfl, t, _, _, _, rfl, rfl, kt _ _ hT3, rfl, (by show 3 ≤ sizeLine; decide), fun tp ntp => ?_⟩
      refine ⟨tp, _, rfl, .inr (SqT.of upd_same), rfl, flat_strs w3h, _, rfl, ?_⟩
      show if inV (.str "if") (w3h.map V.str) = true then _ else _
      rw [in_strs, show decide (("if" : Str) ∈ w3h) = true by decide +kernel]
      have s5 := same_new ntp (.tup (w3h.map V.str))
      have kt5 := kt.trans (KT.same s5)
      refine iteT ⟨_, rfl, _, rfl, t, _, _, _, rfl, rfl, kt5 _ _ hT3, rfl, rfl, _, rfl, ?_⟩
      rw [show decide (V.str "if" = V.str "for") = false by decide +kernel]
      refine iteF ⟨_, rfl, t, _, _, _, rfl, rfl, kt5 _ _ hT3, rfl, ?_⟩
      refine ⟨_, a, rfl, Dp.kt kt5 (tupD_B' a) e2, by omega, by omega, fun H6 pr s6 npr hpr => ?_⟩
      have hla := headsB_len a
      have hf6 := s6 _ _ (s5 _ _ hfu)
      refine ⟨fq, pr, _, _, rfl, rfl, hf6, hpr, (by simp only [List.length_append, List.length_map, List.length_singleton]; exact lx _ (by omega)), fun pc nc => ?_⟩
      have s7 := same_new nc (.lst ((headsB (b.take i)).map V.str ++ [.str "if"] ++ (headsB a).map V.str))
      have kt7 := (kt5.trans (KT.same s6)).trans (KT.same s7)
      have s17 := hup1.trans (s5.trans (s6.trans s7))
      have fpc : H pc = none := (hup1.trans (s5.trans s6)).free nc
      refine ⟨_, rfl, t, _, _, _, rfl, rfl, kt7 _ _ hT3, rfl, rfl, _, rfl, ?_⟩
      rw [show decide (V.str "if" = V.str "if") = true by decide +kernel]
      have hlb := headsB_len b2
      refine iteT ⟨_, rfl, _, rfl, t, _, _, _, rfl, rfl, kt7 _ _ hT3, rfl, ?_⟩
      refine ⟨_, b2, rfl, Dp.kt kt7 (tupD_B' b2) e3, by omega, by omega, fun H8 pr2 s8 npr2 hpr2 => ?_⟩
      refine ⟨pc, pr2, _, _, rfl, rfl, s8 _ _ upd_same, hpr2, (by simp only [List.length_append, List.length_map, List.length_singleton]; exact lx _ (by omega)), fun pe ne => ?_⟩
      refine ⟨pe, _, rfl, s17.trans (s8.trans (same_new ne _)), (s17.trans s8).free ne, ?_⟩
      rw [upd_same, eln]
      show _ = some (HO.lst ((headsB (b.take i)).map V.str ++ (("if" : Str) :: (headsB a ++ headsB b2)).map V.str))
      simp only [List.map_cons, List.map_append, List.append_assoc, List.singleton_append, List.cons_append, List.nil_append]
  · rintro σ H3 ⟨fq, v2, rfl, s1, bf, hf⟩
    have el : xs.length = b.length := by rw [KD.DpAll.length hA, dB_length]
    rw [el, List.take_length] at hf
    exact ⟨_, rfl, k H3 fq s1 bf hf⟩
theorem ok_heads {f : Addr} {fd : FuncData} (F : Fun K "_law_heads" "_law_heads" S__law_heads f fd) (T : Blt mg) (mI : mg "_law_heads" = some (.ref f)) (bI : Binds K fd ["block"] []) :
    ∀ n : Nat, FnOk P w K mg base CX0 n f fd ["block"] (spHeads K n)
  | 0 => by
    have no : ∀ vs H Q E, ¬ spHeads K 0 vs H Q E := fun vs H Q E h => by
      obtain ⟨v, b, _, _, h1, _⟩ := h
      omega
    exact ⟨fun vs H Q E h => absurd h (no vs H Q E), fun A outer s H args us vs Q E _ _ _ _ h => absurd h (no vs H Q E)⟩
  | n + 1 => ok_heads1 F T (ok_heads F T mI bI n) mI bI
end
end KD

/-! The places of statements: where the heads stand in the text. -/
namespace KD
open PySem L2 TL
open K0 (num Toks)
/-- the statement words among words -/
def hdW (t : List Tk) : List Str := (t.filter fun w => decide (w.2 ∈ stW)).map (·.2)
theorem hdW_append (a b : List Tk) : hdW (a ++ b) = hdW a ++ hdW b := by unfold hdW; rw [List.filter_append, List.map_append]
theorem hdW_none {t : List Tk} (h : ∀ w ∈ t, w.2 ∉ stW) : hdW t = [] := by
  unfold hdW
  rw [List.map_eq_nil_iff, List.filter_eq_nil_iff]
  exact fun w hw q => h w hw (of_decide_eq_true q)
theorem hdW_cons {w : Tk} {t : List Tk} : hdW (w :: t) = hdW [w] ++ hdW t := hdW_append [w] t
theorem hdW_no {w : Tk} {t : List Tk} (h : w.2 ∉ stW) : hdW (w :: t) = hdW t := by
  rw [hdW_cons, hdW_none (t := [w]) fun x hx => by rw [List.mem_singleton.mp hx]; exact h]
  rfl
theorem hdW_yes {k z : Str} {t : List Tk} (h : decide (z ∈ stW) = true) : hdW ((k, z) :: t) = z :: hdW t := by
  rw [hdW_cons]
  show hdW [(k, z)] ++ hdW t = [z] ++ hdW t
  congr 1
  unfold hdW
  have e : List.filter (fun w : Tk => decide (w.2 ∈ stW)) [(k, z)] = [(k, z)] := List.filter_cons_of_pos (p := fun w : Tk => decide (w.2 ∈ stW)) h
  rw [e]
  rfl
theorem hdW_m {k z : Str} {t : List Tk} (h : decide (z ∈ stW) = false) : hdW ((k, z) :: t) = hdW t := hdW_no (of_decide_eq_false h)
mutual
theorem hdW_S : ∀ {d : Nat} {s : St} {t : List Tk}, GS d s t → wfS s → hdW t = headsS s
  | _, _, _, .row g, h => by
    rw [show kK "row" = ((("key" : Str), ("row" : Str)) : Tk) from rfl, hdW_yes (by decide +kernel), hdW_none (G.noSt g h.1)]
    rfl
  | _, _, _, .col g, h => by
    rw [show kK "col" = ((("key" : Str), ("col" : Str)) : Tk) from rfl, hdW_yes (by decide +kernel), hdW_none (G.noSt g h.1)]
    rfl
  | _, _, _, .say g, h => by
    rw [show kK "say" = ((("key" : Str), ("say" : Str)) : Tk) from rfl, hdW_yes (by decide +kernel), hdW_none (G.noSt g h.1)]
    rfl
  | _, .set x e, _, .set (t := t) g, h => by
    have e1 : [kK "let", kN x, kM "="] ++ t = kK "let" :: kN x :: kM "=" :: t := rfl
    rw [e1, show kK "let" = ((("key" : Str), ("let" : Str)) : Tk) from rfl, hdW_yes (by decide +kernel), hdW_no (w := kN x) (nameW_st h.1), show kM "=" = ((("mark" : Str), ("=" : Str)) : Tk) from rfl, hdW_m (by decide +kernel), hdW_none (G.noSt g h.2.1)]
    rfl
  | _, .ite c a [], _, .ite0 (t := t) (ta := ta) g ga, h => by
    rw [hdW_append, hdW_append, hdW_append, hdW_append, hdW_none (t := t) (G.noSt g h.1.1), hdW_B ga h.2.1, hdW_none (t := [kM "{"]) (by decide +kernel), hdW_none (t := [kM "}"]) (by decide +kernel), show hdW [kK "if"] = [("if" : Str)] by decide +kernel]
    show [("if" : Str)] ++ [] ++ [] ++ headsB a ++ [] = ("if" : Str) :: (headsB a ++ [])
    simp
  | _, .ite c a b, _, .ite (t := t) (ta := ta) (tb := tb) g ga gb, h => by
    rw [hdW_append, hdW_append, hdW_append, hdW_append, hdW_append, hdW_append, hdW_none (t := t) (G.noSt g h.1.1), hdW_B ga h.2.1, hdW_B gb h.2.2, hdW_none (t := [kM "{"]) (by decide +kernel), hdW_none (t := [kM "}"]) (by decide +kernel), hdW_none (t := [kM "}", kK "else", kM "{"]) (by decide +kernel), show hdW [kK "if"] = [("if" : Str)] by decide +kernel]
    show [("if" : Str)] ++ [] ++ [] ++ headsB a ++ [] ++ headsB b ++ [] = ("if" : Str) :: (headsB a ++ headsB b)
    simp
  | _, .whl c a, _, .whl (t := t) (ta := ta) g ga, h => by
    rw [hdW_append, hdW_append, hdW_append, hdW_append, hdW_none (t := t) (G.noSt g h.1.1), hdW_B ga h.2, hdW_none (t := [kM "{"]) (by decide +kernel), hdW_none (t := [kM "}"]) (by decide +kernel), show hdW [kK "while"] = [("while" : Str)] by decide +kernel]
    show [("while" : Str)] ++ [] ++ [] ++ headsB a ++ [] = ("while" : Str) :: headsB a
    simp
  | _, .for_ x c e s, _, .for_ (t := t) (u := u) (ts := ts) g1 g2 ga, h => by
    rw [hdW_append, hdW_append, hdW_append, hdW_append, hdW_append, hdW_append, hdW_none (t := t) (G.noSt g1 h.2.1.1), hdW_none (t := u) (G.noSt g2 h.2.2.1.1), hdW_B ga h.2.2.2, hdW_none (t := [kM "{"]) (by decide +kernel), hdW_none (t := [kM "}"]) (by decide +kernel), hdW_none (t := [kK "to"]) (by decide +kernel)]
    have e1 : hdW [kK "for", kN x, kM "="] = [("for" : Str)] := by
      rw [show kK "for" = ((("key" : Str), ("for" : Str)) : Tk) from rfl, hdW_yes (by decide +kernel), hdW_no (w := kN x) (nameW_st h.1), hdW_none (t := [kM "="]) (by decide +kernel)]
    rw [e1]
    show [("for" : Str)] ++ [] ++ [] ++ [] ++ [] ++ headsB s ++ [] = ("for" : Str) :: headsB s
    simp
  | _, .call f es, _, .call (t := t) g, h => by
    rw [hdW_append, hdW_append, hdW_none (t := t) (g.noSt fun e he => (h.2.2 e he).1), hdW_none (t := [kM ")"]) (by decide +kernel)]
    have e1 : hdW [kK "do", kN f, kM "("] = [("do" : Str)] := by
      rw [show kK "do" = ((("key" : Str), ("do" : Str)) : Tk) from rfl, hdW_yes (by decide +kernel), hdW_no (w := kN f) (nameW_st h.1), hdW_none (t := [kM "("]) (by decide +kernel)]
    rw [e1]
    rfl
  | _, _, _, .stop, _ => by
    show hdW [kK "stop"] = [("stop" : Str)]
    decide +kernel
theorem hdW_B : ∀ {d : Nat} {b : List St} {t : List Tk}, GB d b t → wfB b → hdW t = headsB b
  | _, _, _, .nil, _ => rfl
  | _, _, _, .cons gs gb, h => by
    rw [hdW_append, hdW_S gs h.1, hdW_B gb h.2]
    rfl
end
def headsD : List Df → List Str
  | [] => []
  | f :: fs => headsB f.body ++ headsD fs
theorem hdW_D : ∀ {d : Nat} {fs : List Df} {t : List Tk}, GD d fs t → (∀ f ∈ fs, wfD f) → hdW t = headsD fs
  | _, _, _, .nil, _ => rfl
  | _, f :: fs, _, .cons (t := t) (ts := ts) g r, h => by
    have hf := h f List.mem_cons_self
    rw [hdW_append, hdW_append, hdW_append, hdW_append, hdW_append, hdW_B g hf.body, hdW_D r fun x hx => h x (List.mem_cons_of_mem _ hx), hdW_none (t := tkNs f.args) (tkNs_noSt hf.args), hdW_none (t := [kM ")", kM "{"]) (by decide +kernel), hdW_none (t := [kM "}"]) (by decide +kernel)]
    have e1 : hdW [kK "def", kN f.name, kM "("] = [] := by
      rw [show kK "def" = ((("key" : Str), ("def" : Str)) : Tk) from rfl, hdW_m (by decide +kernel), hdW_no (w := kN f.name) (nameW_st hf.nm), hdW_none (t := [kM "("]) (by decide +kernel)]
    rw [e1]
    show [] ++ [] ++ [] ++ headsB f.body ++ [] ++ headsD fs = headsB f.body ++ headsD fs
    simp
/-- what the places of a text are -/
structure PlH (l : List Nat) (hs : List Str) (ps : List Nat) : Prop where
  asc : ps.Pairwise (· < ·)
  len : ps.length = hs.length
  at_ : ∀ (i p : Nat) (h : Str), ps[i]? = some p → hs[i]? = some h → 1 ≤ p ∧ p ≤ l.length ∧ (l.drop (p - 1)).take (tl h).length = tl h
theorem plH_of {l : List Nat} {ts : List T3} (h : Plc l ts) : PlH l (hdW (ts.map T3.tk)) ((ts.filter isSt).map T3.pl) := by
  have e : hdW (ts.map T3.tk) = (ts.filter isSt).map T3.w := by
    unfold hdW
    rw [List.filter_map, List.map_map]
    rfl
  refine ⟨?_, by rw [e, List.length_map, List.length_map], fun i p z hp hz => ?_⟩
  · rw [List.pairwise_map]
    exact h.1.filter _
  · rw [e, List.getElem?_map] at hz
    rw [List.getElem?_map] at hp
    cases q : (ts.filter isSt)[i]? with
    | none => rw [q] at hp; cases hp
    | some t =>
      rw [q] at hp hz
      obtain rfl : t.pl = p := Option.some.inj hp
      obtain rfl : t.w = z := Option.some.inj hz
      exact h.2 t (List.mem_filter.mp (List.mem_of_getElem? q)).1
def headsP (p : Pr) : List Str := headsD p.defs ++ headsB p.body
def spPlaces (K : PySem.W.Frag) (PT : Addr) : Sp := fun vs H Q _ => ∃ (X : Str) (p : Pr), vs = [.str X] ∧ Rdb X p ∧ GN.Tab PT H ∧
  ∀ H' a ps, Same H H' → H a = none → H' a = some (.lst (ps.map fun p : Nat => V.int (p : Nat))) → PlH (tl X) (headsP p) ps → Q (.ref a) H'
section
variable {P : Program} {w : World} {K : PySem.W.Frag} {mg : Str → Option Value} {base : Heap} {C : Addr}
theorem scPlaces : FnScope ["text", "reader"] ["text"] (defScope S_places) := ⟨rfl, rfl, rfl, by decide +kernel, rfl, by decide +kernel, by decide +kernel⟩
theorem ok_places {n : Nat} {f fI PT : Addr} {fd fdI : FuncData} (F : Fun K "places" "places" S_places f fd) (T : RTxt K mg C) (MK : Mk K C fI) (GI : FnOk P w K mg base CX0 6 fI fdI ["self", "text"] (spInit K C PT)) (bI : Binds K fdI ["self", "text"] []) (hP : Mth P w K mg base C n "program" ["self"] (spProg K C)) (hn : 7 ≤ n) :
    FnOk P w K mg base CX0 (n + 1) f fd ["text"] (spPlaces K PT) := by
  refine F.ok scPlaces (fun vs H Q E h => ?_) (fun cdv A outer s0 H vs Q E hr h => ?_)
  · obtain ⟨X, p, rfl, _⟩ := h
    rfl
  obtain ⟨X, p, rfl, hR, hT, q⟩ := h
  obtain ⟨fP, fdP, GP', mP, bP⟩ := hP.ex
  have hr7 : Room 7 _ := hr.mono hn
  refine ⟨_, pss_cons (ps_set (i := 1) scPlaces.nd rfl (Or.inl rfl) (pe_make MK GI hr7 rfl T.mgC bI .nil pass0 (pa_cons (pv 0) pa_nil)))
    (pss_cons (ps_expr (pe_meth0 (pv 1) T.cl mP GP' hr bP .nil pass0))
    (pss_one (ps_ret (pe_fld (pv 1) rfl)))), ?_⟩
  refine ⟨_, rfl, fun x dx nx ndx nex => ?_⟩
  obtain ⟨ws, hws, t, u, g1, g2, rfl⟩ := hR.toks
  have s1 : Same H (upd (upd H dx (.own x)) x (.ins C dx [])) := fun b o e => by
    rw [upd_ne (ne_of_none e nx), upd_ne (ne_of_none e ndx)]
    exact e
  refine ⟨x, dx, X, _, rfl, upd_same, Nat.le_trans hR.len (by decide), hws, s1 _ _ hT, fun H2 R er k2 h2 e2 ntA npA hts => ?_⟩
  subst er
  obtain ⟨ts0, te, ets, plc⟩ := hts
  obtain ⟨dx2, ei2⟩ := h2.ins
  have ha : At R 0 (t ++ u ++ [endT]) := by
    show (R.ts.drop 0).map T3.tk = _
    rw [List.drop_zero, e2]
    rfl
  have e0 : ts0.map T3.tk = t ++ u := by
    rw [ets, List.map_append] at e2
    exact List.append_inj_left' e2 rfl
  refine ⟨rfl, _, rfl, R.r, dx2, _, rfl, ei2, rf_no _ _ _ _ (by decide +kernel), R, p, t, u, rfl, h2, ha, g1, g2, hR.wf, hR.nd, hR.an, fun H3 v k3 d3 r3 => ?_⟩
  obtain ⟨dx3, ei3⟩ := r3.ins
  refine ⟨_, rfl, R.r, C, dx3, _, _, rfl, ei3, T.cl, T.nP, rf_places _ _ _ _, ?_⟩
  have eh : hdP R 0 (t ++ u).length = (ts0.filter isSt).map T3.pl := by
    unfold hdP
    rw [List.drop_zero, ets, ← e0, List.length_map, List.take_left]
  have ew : hdW (ts0.map T3.tk) = headsP p := by
    rw [e0, hdW_append, hdW_D g1 hR.wf.defs, hdW_B g2 hR.wf.body]
    rfl
  have r3p := r3.plc
  rw [eh] at r3p
  have pl := plH_of plc
  rw [ew] at pl
  have nP : H R.pA = none := by
    cases q0 : H R.pA with
    | none => rfl
    | some o => rw [s1 _ _ q0] at npA; cases npA
  refine q H3 _ _ (fun b o e => ?_) nP r3p pl
  have n1 : b ≠ R.r := ne_of_none e nx
  have e1 := s1 _ _ e
  have n2 : b ≠ R.pA := ne_of_none e1 npA
  exact k3 _ _ n1 n2 (k2 _ _ n1 e1)
end
end KD

/-! Rules that the layer lacks: xs.extend(a tuple), t[:0:-1] of a small tuple. -/
namespace ET
open PySem PySem.Spec PyProof.Rows L2
theorem ext_tup (l : Addr) (items : Array Value) (n : Nat) (b : Addr) (od : Option Addr) (sl : Array (Option Value)) (items2 : Array Value) (n2 : Nat) (hs0 : ¬(!items.isEmpty && Builtin.List.listTooLong (items.size + items2.size)) = true) (hs1 : items.size ≤ sizeLine) (hs2 : items.size + items2.size ≤ sizeLine + 1) :
    Meets (Builtin.«list.extend» ⟨[.ref l, .ref b], []⟩) (fun _ R s => s.heap.get? l = some { cls := .type "list", dict := none, data := .seq items n, slots := #[] } ∧ s.heap.get? b = some { cls := .type "tuple", dict := od, data := .seq items2 n2, slots := sl } ∧ R (.ok (.ret Value.none)) { s with heap := s.heap.update l (Obj.mapSeq fun x => x ++ items2), toks := s.toks }) :=
  .of_wp fun prog w A R s h => by
    obtain ⟨hp, g, d, tk, os⟩ := s; obtain ⟨hl, hb, h⟩ := h; have f1 := AutoSeq1.idx_int; have f2 := AutoSeq1.sub_tuple_tuple; have f3 := AutoSeq1.sub_list_list; have f4 := AutoSeq1.sub_tuple_list; have f5 := AutoSeq1.sub_list_tuple
    have hz' : (items ++ items2).size ≤ sizeLine + 1 := by rw [Array.size_append]; exact hs2
    wp_walk using (wpAny_updateSeq hl rfl (hz := hs1) (_hz' := hz')), AutoSeq1.wpAny_loadPart' hl, AutoSeq1.wpAny_loadPart' hb; exact ⟨_, rfl, h⟩
end ET
namespace ET
open PySem PySem.Spec PyProof.Rows L2
section
variable {X : Cx}
theorem tup_o {X : Cx} {pins : List (Addr × Obj)} {σ : L2.St} {H : Hp} {s : Shared} {a : Addr} {xs : List V} (I : Inv X pins σ H s) (h : SqT X.K H a xs) : ∃ (its : List Value) (od : Option Addr) (n : Nat) (sl : Array (Option Value)), Vals xs its ∧ s.heap.get? a = some ⟨.type "tuple", od, .seq its.toArray n, sl⟩ ∧ xs.length ≤ sizeLine := by
  obtain ⟨its, r, ⟨⟨c, od, d, sl⟩, e, e1, n, e2⟩, z⟩ := I.tuple h
  subst e1
  subst e2
  exact ⟨its, od, n, sl, r, e, z⟩
/-- l.extend(t), t a tuple -/
def rExtT (K : PySem.W.Frag) : V → List V → Hp → VK → Prop := fun x vs H Q => ∃ l b xs zs, x = .ref l ∧ vs = [.ref b] ∧ H l = some (.lst xs) ∧ SqT K H b zs ∧ xs.length + zs.length ≤ sizeLine ∧ Q .non (upd H l (.lst (xs ++ zs)))
theorem mt_extT : MtM X "list.extend" (rExtT X.K) := by
  intro pins s σ H x vs v us Q I rx rv h
  obtain ⟨l, b, xs, zs, rfl, rfl, hH, hB, hz, q⟩ := h
  cases rx
  obtain ⟨u, rfl, ru⟩ := rv.one
  cases ru
  obtain ⟨z, its, n, r, hl, e⟩ := I.lstM hH
  obtain ⟨its2, od, n2, sl, r2, e2, z2⟩ := tup_o I hB
  have hl2 := r2.length
  have hl1 := r.length
  have hsz : its.toArray.size + its2.toArray.size ≤ sizeLine := by rw [List.size_toArray, List.size_toArray]; omega
  have hlong : ¬ (!its.toArray.isEmpty && Builtin.List.listTooLong (its.toArray.size + its2.toArray.size)) = true := by
    rw [notLongL hsz, Bool.and_false]
    exact Bool.false_ne_true
  refine call_meets PySem.F.slot_list_extend ⟨_, e, rfl⟩ PySem.F.entry_list_extend (PySem.F.args_list_extend_2 _ _)
    (ext_tup l its.toArray n b od sl its2.toArray n2 hlong (by rw [List.size_toArray]; omega) (by omega)) ⟨e, e2, ?_⟩
  refine ⟨.non, _, I.lset (its' := its ++ its2) hH e (by simp) (r.append r2) ?_, rfl, q⟩
  rw [List.length_append]
  omega
/-- t[:0:-1], t of one to three items -/
theorem rev_bounds (n : Nat) (h : 1 ≤ n) : Builtin.Slice.sliceAdjust none (some 0) (-1) ((n : Nat) : Int) = ((n : Int) - 1, 0) ∧ Builtin.Slice.slicePlaces ((n : Int) - 1) 0 (-1) = n - 1 := by
  constructor
  · unfold Builtin.Slice.sliceAdjust
    have h1 : ((-1 : Int) < 0) := by decide
    simp only [h1, if_true]
    refine Prod.ext rfl ?_
    show (if (0 : Int) < 0 then max ((0 : Int) + n) (-1) else min 0 ((n : Int) - 1)) = 0
    rw [if_neg (by decide)]
    omega
  · unfold Builtin.Slice.slicePlaces
    have h1 : ¬ ((-1 : Int) > 0) := by decide
    simp only [h1, if_false, show (- -1 : Int) = 1 by decide, Int.ediv_one]
    split <;> omega
theorem rev_pick (items : Array Value) (h1 : 1 ≤ items.size) (h3 : items.size ≤ 3) : ((List.range (items.size - 1)).filterMap fun (m : Nat) => items[(((items.size : Int) - 1) + (m : Int) * (-1)).toNat]?).toArray = (items.toList.drop 1).reverse.toArray := by
  obtain ⟨l⟩ := items
  match l, h1, h3 with
  | [a], _, _ => rfl
  | [a, b], _, _ => rfl
  | [a, b, c], _, _ => rfl
theorem ap_rev {prog : Program} {w : World} {A : Around} {E : Value → Shared → Prop} {s : Shared} {sl : Addr} {n : Nat} {vu vs : Value} {Q : Int × Int × Nat → Shared → Prop} (hs : s.heap.IsSliceOf sl .none vu vs) (pu : IsPart vu (some 0)) (ps : IsPart vs (some (-1))) (h1 : 1 ≤ n)
    (h : Q ((n : Int) - 1, -1, n - 1) s) : wpAny (model prog w) A (Builtin.Slice.sliceApplied (.ref sl) (pure (n : Int))) Q E s := by
  obtain ⟨os, hos, hcs, hds⟩ := id hs
  unfold Builtin.Slice.sliceApplied Builtin.Slice.sliceFields
  refine wpAny_bind (wpAny_bind (wpAny_field hos hds (x := .none) rfl (wpAny_bind (wpAny_field hos hds (x := vu) rfl (wpAny_bind (wpAny_field hos hds (x := vs) rfl (wpAny_pure ?_)))))))
  refine wpAny_bind (HT.slicePart_ ps ?_)
  show wpAny _ _ (if ((-1 : Int) == 0) = true then _ else _) _ _ s
  rw [if_neg (by decide)]
  refine wpAny_bind (slicePart_none (wpAny_bind (HT.slicePart_ pu (wpAny_bind (wpAny_pure ?_)))))
  show wpAny _ _ (match Builtin.Slice.sliceAdjust none (some 0) (-1) (n : Int) with | (lo, hi) => pure (lo, (-1 : Int), Builtin.Slice.slicePlaces lo hi (-1))) _ _ s
  rw [(rev_bounds n h1).1]
  show wpAny _ _ (pure ((n : Int) - 1, (-1 : Int), Builtin.Slice.slicePlaces ((n : Int) - 1) 0 (-1))) _ _ s
  rw [(rev_bounds n h1).2]
  exact wpAny_pure h
theorem getItem_rev {prog : Program} {w : World} {A : Around} {E : Value → Shared → Prop} {s : Shared} {t sl : Addr} {items : Array Value} {vu vs : Value} {Q : Value → Shared → Prop} (ht : IsTup s.heap t items) (hs : s.heap.IsSliceOf sl .none vu vs) (pu : IsPart vu (some 0)) (ps : IsPart vs (some (-1))) (h1 : 1 ≤ items.size) (h3 : items.size ≤ 3)
    (h : Q (.ref s.heap.objs.size) { s with heap := s.heap.push { cls := .type "tuple", data := .seq (items.toList.drop 1).reverse.toArray } }) : wpAny (model prog w) A (getItem (.ref t) (.ref sl)) Q E s := by
  have htake : sizeOk (.seq (items.toList.drop 1).reverse.toArray) := by
    show (items.toList.drop 1).reverse.toArray.size ≤ sizeLine
    rw [List.size_toArray, List.length_reverse, List.length_drop, Array.length_toList]
    exact Nat.le_trans (by omega : items.size - 1 ≤ 3) (by decide)
  obtain ⟨os, hos, hcs, hds⟩ := id hs
  have hTs : s.TypeIs (.ref sl) "slice" := ⟨os, hos, hcs⟩
  unfold getItem
  try with_reducible refine wpAny_holding ?_
  first | refine wpAny_bind (wpAny_pure ?_) | skip
  refine wpAny_bind (wpAny_sequenceKey ht.typeIs (by decide) ?_)
  refine wpAny_bind (wpAny_callSpecial?_slot (name := Str.ofString "__getitem__") ht.typeIs PyProof.Rows.slot_tuple_getitem
    (wpAny_call_entry PyProof.Rows.slot_tuple_getitem ht.typeIs entry_tuple_getitem ?_ (args_tuple_getitem _ _)))
  show wpAny _ _ (Builtin.Tuple.tupleItemsOf (.ref t) >>= _) _ _ s
  refine wpAny_bind (tupleItemsOf_ ht ?_)
  refine wpAny_bind (wpAny_typeOf hTs ?_)
  rw [if_pos (by decide)]
  refine wpAny_bind (ap_rev hs pu ps h1 ?_)
  have hno : ¬ ((((items.size : Int) - 1) == 0 && (-1 : Int) == 1 && (items.size - 1) == items.size) = true) := by
    intro q
    rw [Bool.and_eq_true, Bool.and_eq_true] at q
    exact absurd q.1.2 (by decide)
  show wpAny _ _ (if (((items.size : Int) - 1) == 0 && (-1 : Int) == 1 && (items.size - 1) == items.size) = true then _ else _) _ _ s
  rw [if_neg hno, rev_pick items h1 h3]
  first
    | exact wpAny_bind (m := Builtin.Tuple.tupleExact _) (wpAny_newObj_type (wpAny_pure ⟨_, rfl, wpAny_pure h⟩) htake)
    | exact wpAny_bind (m := Builtin.Tuple.tupleExact _) (wpAny_newObj_type (wpAny_bind (wpAny_pure (wpAny_pure ⟨_, rfl, wpAny_pure h⟩))) htake)
    | exact wpAny_bind (wpAny_bind (m := Builtin.Tuple.tupleExact _) (wpAny_newObj_type (wpAny_pure (wpAny_pure ⟨_, rfl, wpAny_pure h⟩)) htake))
    | exact wpAny_bind (wpAny_bind (m := Builtin.Tuple.tupleExact _) (wpAny_newObj_type (wpAny_pure ⟨_, rfl, wpAny_pure h⟩) htake))
def tTailRev (K : PySem.W.Frag) (te : TE) : TE := fun σ H Q => te σ H fun x H1 => ∃ a xs, x = .ref a ∧ SqT K H1 a xs ∧ 1 ≤ xs.length ∧ xs.length ≤ 3 ∧ ∀ p, H1 p = none → Q (.ref p) (upd H1 p (.tup (xs.drop 1).reverse))
theorem pe_tailRev {e : Expr} {te : TE} {k k2 : Nat} {p1 p2 p3 p4 pos : Pos} (he : PE X e te) : PE X (.Subscript e (.Slice none (some (.Constant (.int 0) k2 p4)) (some (.UnaryOp .USub (.Constant (.int 1) k p1) p2)) p3) pos) (tTailRev X.K te) := by
  refine ⟨fun pins s σ H Q I h => ?_⟩
  refine Subscript_ (thn (he.run pins s σ H _ I h) fun v s1 ⟨x, H1, I1, r1, q1⟩ => ?_)
  obtain ⟨a, xs, ex, hx, l1, l3, q⟩ := q1
  subst ex
  cases r1
  have hst : PO X (some (.UnaryOp .USub (.Constant (.int 1) k p1) p2)) (tPart (tUn (rU fun i => .int (-i)) (tC (.int 1)))) := po_some (pe_un un_neg pe_int)
  have hup : PO X (some (.Constant (.int 0) k2 p4)) (tPart (tC (.int 0))) := po_some pe_int
  refine wpAny_Slice (thn (po_none.run pins s1 σ H1 (fun o H2 => o = none ∧ H2 = H1) I1 ⟨rfl, rfl⟩) fun vl s2 ⟨l, H2, I2, pl, el, e2⟩ => ?_)
  subst el e2
  refine thn (hup.run pins s2 σ H2 (fun o H3 => o = some 0 ∧ H3 = H2) I2 ⟨0, rfl, rfl, rfl⟩) fun vu s3 ⟨u, H3, I3, pu, eu, e3⟩ => ?_
  subst eu e3
  refine thn (hst.run pins s3 σ H3 (fun o H4 => o = some (-1) ∧ H4 = H3) I3 ⟨1, rfl, -1, rfl, rfl, rfl⟩) fun vs s4 ⟨o, H4, I4, ps, eo, e4⟩ => ?_
  subst eo e4
  cases pl
  have I5 : Inv X pins σ H4 { s4 with heap := s4.heap.push { cls := .type "slice", data := .fields #[.none, vu, vs] } } := I4.kept (t' := s4.toks) fun b ob q => Heap.get?_push_of_some _ q
  obtain ⟨its, r, ht, hz⟩ := I5.tuple hx
  have hlen := r.length
  show wpAny (model X.prog X.w) X.A (subscriptTail e (.Slice none (some (.Constant (.int 0) k2 p4)) (some (.UnaryOp .USub (.Constant (.int 1) k p1) p2)) p3) (.ref a) (.ref s4.heap.objs.size)) (EP X pins σ Q) X.xe { s4 with heap := s4.heap.push { cls := .type "slice", data := .fields #[.none, vu, vs] } }
  refine tail_any (ops := [.ref a, .ref s4.heap.objs.size]) ht.typeIs (PyProof.Rows.slot_tuple_getitem.lookup) ?_ (by with_unfolding_all rfl)
  refine getItem_rev ht (Heap.IsSliceOf.new _ .none vu vs) pu ps (by rw [List.size_toArray]; omega) (by rw [List.size_toArray]; omega) ?_
  refine ⟨.ref _, _, I5.laid (t' := s4.toks) (o := .tup (xs.drop 1).reverse) (fun b ob q => Heap.get?_push_of_some _ q) (Nat.le_refl _) ?_, rfl, q _ (I5.hok.fresh (Nat.le_refl _))⟩
  exact ⟨by rw [List.length_reverse, List.length_drop]; omega, _, (r.drop 1).reverse, IsTup.new _ _⟩
end
end ET

/-! All statements of a block, all parts of an expression, each in a list of its own. -/
namespace KD
open PySem L2 TL
theorem dpAll_append {K : PySem.W.Frag} {H : Hp} {vs : List V} {ds : List PyData} (h2 : DpAll K H vs ds) : ∀ {us : List V} {es : List PyData}, DpAll K H us es → DpAll K H (us ++ vs) (es ++ ds)
  | _, _, .nil => h2
  | _, _, .cons a t => .cons a (dpAll_append h2 t)
mutual
def stsS : St → List St
  | .ite c a b => .ite c a b :: (stsB a ++ stsB b)
  | .whl c a => .whl c a :: stsB a
  | .for_ x a b s => .for_ x a b s :: stsB s
  | .row e => [.row e]
  | .col e => [.col e]
  | .say e => [.say e]
  | .set x e => [.set x e]
  | .call f es => [.call f es]
  | .stop => [.stop]
def stsB : List St → List St
  | [] => []
  | s :: b => stsS s ++ stsB b
end
theorem stsB_append : ∀ a b : List St, stsB (a ++ b) = stsB a ++ stsB b
  | [], b => rfl
  | s :: a, b => by
    show stsS s ++ stsB (a ++ b) = stsS s ++ stsB a ++ stsB b
    rw [stsB_append a b, List.append_assoc]
def stsF : List (List St) → List St
  | [] => []
  | b :: r => stsB b ++ stsF r
theorem stsF_append : ∀ a b : List (List St), stsF (a ++ b) = stsF a ++ stsF b
  | [], b => rfl
  | s :: a, b => by
    show stsB s ++ stsF (a ++ b) = stsB s ++ stsF a ++ stsF b
    rw [stsF_append a b, List.append_assoc]
theorem stsS_eq (s : St) : stsS s = s :: stsF (blksOf s) := by
  cases s with
  | ite c a b => show _ :: (stsB a ++ stsB b) = _ :: (stsB a ++ (stsB b ++ [])); rw [List.append_nil]
  | whl c a => show _ :: stsB a = _ :: (stsB a ++ []); rw [List.append_nil]
  | for_ x a b r => show _ :: stsB r = _ :: (stsB r ++ []); rw [List.append_nil]
  | _ => rfl
mutual
theorem stsS_len : ∀ s : St, (stsS s).length = (headsS s).length
  | .ite c a b => by
    show (stsB a ++ stsB b).length + 1 = (headsB a ++ headsB b).length + 1
    rw [List.length_append, List.length_append, stsB_len a, stsB_len b]
  | .whl c a => by
    show (stsB a).length + 1 = (headsB a).length + 1
    rw [stsB_len a]
  | .for_ x a b s => by
    show (stsB s).length + 1 = (headsB s).length + 1
    rw [stsB_len s]
  | .row e => rfl
  | .col e => rfl
  | .say e => rfl
  | .set x e => rfl
  | .call f es => rfl
  | .stop => rfl
theorem stsB_len : ∀ b : List St, (stsB b).length = (headsB b).length
  | [] => rfl
  | s :: b => by
    show (stsS s ++ stsB b).length = (headsS s ++ headsB b).length
    rw [List.length_append, List.length_append, stsS_len s, stsB_len b]
end
theorem stsF_le : ∀ (l : List (List St)) (m : Nat), (stsF (l.take m)).length ≤ (stsF l).length
  | _, 0 => Nat.zero_le _
  | [], m + 1 => Nat.le_refl _
  | b :: r, m + 1 => by
    show (stsB b ++ stsF (r.take m)).length ≤ (stsB b ++ stsF r).length
    rw [List.length_append, List.length_append]
    exact Nat.add_le_add_left (stsF_le r m) _
theorem blks_dp (s : St) : ∀ b ∈ blksOf s, dpB b + 1 ≤ dpS s := by
  intro x hx
  cases s with
  | ite c a b =>
    show _ ≤ max (dpB a) (dpB b) + 1
    rcases List.mem_cons.mp hx with rfl | hx
    · omega
    · rw [List.mem_singleton.mp hx]; omega
  | whl c a => rw [List.mem_singleton.mp hx]; exact Nat.le_refl _
  | for_ y a b r => rw [List.mem_singleton.mp hx]; exact Nat.le_refl _
  | _ => cases hx
theorem blks_len (s : St) : ∀ b ∈ blksOf s, lenB b ≤ lenS s := by
  intro x hx
  cases s with
  | ite c a b =>
    show _ ≤ 20 + pl (dpE c) + lenB a + lenB b
    rcases List.mem_cons.mp hx with rfl | hx
    · omega
    · rw [List.mem_singleton.mp hx]; omega
  | whl c a => rw [List.mem_singleton.mp hx]; show _ ≤ 20 + pl (dpE c) + lenB a; omega
  | for_ y a b r => rw [List.mem_singleton.mp hx]; show _ ≤ 30 + pl (dpE a) + pl (dpE b) + lenB r; omega
  | _ => cases hx
section
variable {P : Program} {w : World} {K : PySem.W.Frag} {mg : Str → Option Value} {base : Heap}
def spStIn (K : PySem.W.Frag) (n : Nat) : Sp := fun vs H Q _ => ∃ (v : V) (b : List St), vs = [v] ∧ Dp K H v (.tuple (dB b)) ∧ dpB b < n ∧ lenB b ≤ 1000000 ∧
  ∀ (H' : Hp) (p : Addr) (ws : List V), Same H H' → H p = none → H' p = some (.lst ws) → DpAll K H' ws (dB (stsB b)) → Q (.ref p) H'
theorem scStIn : FnScope ["block", "found", "statement", "inner"] ["block"] (defScope S_statements_in) := ⟨rfl, rfl, rfl, by decide +kernel, rfl, by decide +kernel, by decide +kernel⟩
theorem ok_stIn1 {n : Nat} {f fB : Addr} {fd fdB : FuncData} (F : Fun K "statements_in" "statements_in" S_statements_in f fd)
    (GB : FnOk P w K mg base CX0 1 fB fdB ["statement"] (spBlocks K)) (mB : mg "blocks_of" = some (.ref fB)) (kB : PySem.W.keepIn K (.ref fB) = true) (bB : Binds K fdB ["statement"] [])
    (GI : FnOk P w K mg base CX0 (n + 1) f fd ["block"] (spStIn K n)) (mI : mg "statements_in" = some (.ref f)) (bI : Binds K fd ["block"] []) :
    FnOk P w K mg base CX0 (n + 1 + 1) f fd ["block"] (spStIn K (n + 1)) := by
  refine F.ok scStIn (fun vs H Q E h => ?_) (fun cdv A outer s0 H vs Q E hr h => ?_)
  · obtain ⟨v, b, rfl, _⟩ := h
    rfl
  obtain ⟨v, b, rfl, hv, hd, hlen, k⟩ := h
  have hr1 : Room 1 _ := hr.mono (by omega)
  refine ⟨_, pss_cons (ps_set (i := 1) scStIn.nd rfl (Or.inl rfl) (pe_lst pa_nil))
    (pss_cons (ps_for PassesOwn.never rfl (pi_tup (pv 0)) (pg_name (i := 2) scStIn.nd rfl (Or.inl rfl))
      (pss_cons (ps_expr (pe_bm PySem.F.plainAttrs_list PySem.F.slot_list_append PySem.F.type_list_append mt_append (pv 1) (pa_cons (pv 2) pa_nil)))
      (pss_one (ps_for PassesOwn.never rfl (pi_tup (pe_call GB hr1 rfl mB kB bB .nil pass0 (pa_cons (pv 2) pa_nil))) (pg_name (i := 3) scStIn.nd rfl (Or.inl rfl))
        (pss_one (ps_expr (pe_bm PySem.F.plainAttrs_list PySem.F.slot_list_extend PySem.F.type_list_extend mt_extend (pv 1) (pa_cons (pe_call GI hr rfl mI F.kp bI .nil pass0 (pa_cons (pv 3) pa_nil)) pa_nil))))))))
    (pss_one (ps_ret (pv 1)))), ?_⟩
  obtain ⟨a, xs, rfl, hT, hA⟩ := dp_tup hv
  have el : xs.length = b.length := by rw [DpAll.length hA, dB_length]
  refine ⟨Nat.zero_le _, fun fq nf => ?_⟩
  refine ⟨_, rfl, a, rfl, ⟨_, KT.same (same_new nf _) _ _ hT⟩, for_tup (K := K) (a := a) (xs := xs) (fun i σ H' => ∃ (v2 v3 : Option V) (ws : List V), σ = [some (.ref a), some (.ref fq), v2, v3] ∧ Same H H' ∧ H' fq = some (.lst ws) ∧ DpAll K H' ws (dB (stsB (b.take i))))
    ⟨none, none, [], rfl, same_new nf _, upd_same, .nil⟩ (fun i σ H' _ ⟨_, _, _, _, s1, _⟩ => KT.same s1 _ _ hT) ?_ ?_⟩
  · rintro i y σ H3 hi ⟨v2, v3, ws, rfl, s1, hf, hw⟩
    obtain ⟨d, hd1, hd2⟩ := DpAll.get hA hi
    obtain ⟨st, hst, rfl⟩ := dB_get hd1
    have hmem : st ∈ b := List.mem_of_getElem? hst
    have hdS : dpS st < n + 1 := Nat.lt_of_le_of_lt (dpB_mem hmem) hd
    have etk : b.take (i + 1) = b.take i ++ [st] := by
      rw [List.take_succ, hst]
      rfl
    have hlt : lenB (b.take i) + lenS st ≤ 1000000 := by
      have q := lenB_take b (i + 1)
      rw [etk, lenB_append] at q
      have q2 : lenB [st] = lenS st + 0 := rfl
      omega
    have hnl := headsB_len (b.take i)
    have hns := headsS_len st
    have wl : ws.length = (stsB (b.take i)).length := by rw [DpAll.length hw, dB_length]
    have hl1 := stsB_len (b.take i)
    have hl2 := stsS_len st
    rw [stsS_eq, List.length_cons] at hl2
    have d3 := Dp.same s1 hd2
    refine ⟨_, rfl, .inl ⟨rfl, _, SqL.of hf⟩, _, rfl, fq, ws, y, rfl, rfl, hf, Nat.lt_of_le_of_lt (show ws.length ≤ 1000000 by omega) (by decide), ?_⟩
    have kt4 : KT K H3 (upd H3 fq (.lst (ws ++ [y]))) := KT.upd hf _
    have s4 : Same H (upd H3 fq (.lst (ws ++ [y]))) := fun c o q => by rw [upd_ne (ne_of_none q nf)]; exact s1 _ _ q
    have f4 : (upd H3 fq (.lst (ws ++ [y]))) fq = some (.lst (ws ++ [y])) := upd_same
    have d4 := Dp.kt kt4 (tupD_S st) d3
    have w4 : DpAll K (upd H3 fq (.lst (ws ++ [y]))) (ws ++ [y]) (dB (stsB (b.take i) ++ [st] ++ stsF ((blksOf st).take 0))) := by
      rw [List.take_zero]
      show DpAll K _ _ (dB (stsB (b.take i) ++ [st] ++ []))
      rw [List.append_nil, dB_append]
      exact DpAll.snoc d4 (DpAll.kt kt4 (tupD_B _) hw)
    generalize upd H3 fq (.lst (ws ++ [y])) = H4 at s4 f4 d4 w4 ⊢
    refine ⟨_, rfl, y, st, rfl, d4, fun H5 p0 bs s5 hT5 hB5 => ?_⟩
    have w5 := DpAll.same s5 w4
    have f5 := s5 _ _ f4
    have nfp : H4 fq ≠ none := by rw [f4]; exact fun z => by cases z
    refine ⟨p0, rfl, ⟨_, hT5⟩, for_tup (K := K) (a := p0) (xs := bs) (fun j σ H' => ∃ (v3 : Option V) (ws : List V), σ = [some (.ref a), some (.ref fq), some y, v3] ∧ Same H H' ∧ KT K H5 H' ∧ H' fq = some (.lst ws) ∧ DpAll K H' ws (dB (stsB (b.take i) ++ [st] ++ stsF ((blksOf st).take j))))
      ⟨v3, ws ++ [y], rfl, s4.trans s5, KT.refl _ _, f5, w5⟩ (fun j σ H' _ ⟨_, _, _, _, k5, _⟩ => k5 _ _ hT5) ?_ ?_⟩
    · rintro j z σ H6 hj ⟨v3, ws6, rfl, s6, k6, f6, w6⟩
      obtain ⟨d, hd1, hd2⟩ := DpAll.get hB5 hj
      obtain ⟨ib, hib, rfl⟩ : ∃ ib, (blksOf st)[j]? = some ib ∧ d = .tuple (dB ib) := by
        rw [List.getElem?_map] at hd1
        cases q : (blksOf st)[j]? with
        | none => rw [q] at hd1; cases hd1
        | some e => rw [q] at hd1; exact ⟨e, rfl, (Option.some.inj hd1).symm⟩
      have hmi := List.mem_of_getElem? hib
      have h1 := blks_dp st ib hmi
      have h2 := blks_len st ib hmi
      have d6 := Dp.kt k6 (tupD_B' ib) hd2
      have ejk : (blksOf st).take (j + 1) = (blksOf st).take j ++ [ib] := by rw [List.take_succ, hib]; rfl
      have hle := stsF_le (blksOf st) (j + 1)
      rw [ejk, stsF_append] at hle
      have hsz : (stsB (b.take i) ++ [st] ++ stsF ((blksOf st).take j)).length + (stsB ib).length ≤ 1000000 := by
        rw [List.length_append] at hle
        have e1 : stsF [ib] = stsB ib := List.append_nil _
        rw [e1] at hle
        rw [List.length_append, List.length_append, List.length_singleton]
        omega
      have wl6 : ws6.length = (stsB (b.take i) ++ [st] ++ stsF ((blksOf st).take j)).length := by rw [DpAll.length w6, dB_length]
      refine ⟨_, rfl, .inl ⟨rfl, _, SqL.of f6⟩, _, rfl, z, ib, rfl, d6, by omega, by omega, fun H7 p7 ws7 s7 n7 f7 w7 => ?_⟩
      have f67 := s7 _ _ f6
      have wl7 : ws7.length = (stsB ib).length := by rw [DpAll.length w7, dB_length]
      refine ⟨fq, p7, ws6, ws7, rfl, rfl, f67, f7, Nat.le_trans (show ws6.length + ws7.length ≤ 1000000 by omega) (by decide), ?_⟩
      have kt8 : KT K H7 (upd H7 fq (.lst (ws6 ++ ws7))) := KT.upd f67 _
      refine ⟨_, ws6 ++ ws7, rfl, fun c o q => by rw [upd_ne (ne_of_none q nf)]; exact s7 _ _ (s6 _ _ q), (k6.trans (KT.same s7)).trans kt8, upd_same, ?_⟩
      rw [ejk, stsF_append, ← List.append_assoc, dB_append, show stsF [ib] = stsB ib from List.append_nil _]
      exact dpAll_append (DpAll.kt kt8 (tupD_B _) w7) (DpAll.kt kt8 (tupD_B _) (DpAll.same s7 w6))
    · rintro σ H6 ⟨v3, ws6, rfl, s6, k6, f6, w6⟩
      have eb : bs.length = (blksOf st).length := by rw [DpAll.length hB5, List.length_map]
      rw [eb, List.take_length] at w6
      refine ⟨_, _, ws6, rfl, s6, f6, ?_⟩
      rw [etk, stsB_append]
      have e1 : stsB [st] = [st] ++ stsF (blksOf st) := by
        show stsS st ++ [] = _
        rw [List.append_nil, stsS_eq]
        rfl
      rw [e1, ← List.append_assoc]
      exact w6
  · rintro σ H3 ⟨v2, v3, ws, rfl, s1, hf, hw⟩
    rw [el, List.take_length] at hw
    exact ⟨_, rfl, k H3 fq ws s1 nf hf hw⟩
theorem ok_stIn {f fB : Addr} {fd fdB : FuncData} (F : Fun K "statements_in" "statements_in" S_statements_in f fd)
    (GB : FnOk P w K mg base CX0 1 fB fdB ["statement"] (spBlocks K)) (mB : mg "blocks_of" = some (.ref fB)) (kB : PySem.W.keepIn K (.ref fB) = true) (bB : Binds K fdB ["statement"] []) (mI : mg "statements_in" = some (.ref f)) (bI : Binds K fd ["block"] []) :
    ∀ n : Nat, FnOk P w K mg base CX0 (n + 1) f fd ["block"] (spStIn K n)
  | 0 => by
    have no : ∀ vs H Q E, ¬ spStIn K 0 vs H Q E := fun vs H Q E h => by
      obtain ⟨v, b, _, _, h1, _⟩ := h
      omega
    exact ⟨fun vs H Q E h => absurd h (no vs H Q E), fun A outer s H args us vs Q E _ _ _ _ h => absurd h (no vs H Q E)⟩
  | n + 1 => ok_stIn1 F GB mB kB bB (ok_stIn F GB mB kB bB mI bI n) mI bI
/-! ### the statements of the definitions -/
def stsD : List Df → List St
  | [] => []
  | f :: fs => stsB f.body ++ stsD fs
theorem stsD_append : ∀ a b : List Df, stsD (a ++ b) = stsD a ++ stsD b
  | [], b => rfl
  | s :: a, b => by
    show stsB s.body ++ stsD (a ++ b) = stsB s.body ++ stsD a ++ stsD b
    rw [stsD_append a b, List.append_assoc]
theorem stsD_le : ∀ l : List Df, (stsD l).length ≤ lenDs l
  | [] => Nat.le_refl _
  | f :: fs => by
    have h1 := stsD_le fs
    have h2 := headsB_len f.body
    have h3 := stsB_len f.body
    show (stsB f.body ++ stsD fs).length ≤ 100 + lenB f.body + lenDs fs
    rw [List.length_append]
    omega
def spStTold (K : PySem.W.Frag) (n : Nat) : Sp := fun vs H Q _ => ∃ (v : V) (fs : List Df), vs = [v] ∧ Dp K H v (.tuple (fs.map Df.d)) ∧ (∀ f ∈ fs, dpB f.body < n) ∧ lenDs fs ≤ 1000000 ∧
  ∀ (H' : Hp) (p : Addr) (ws : List V), Same H H' → H p = none → H' p = some (.lst ws) → DpAll K H' ws (dB (stsD fs)) → Q (.ref p) H'
theorem scStTold : FnScope ["definitions", "found", "name", "arguments", "block"] ["definitions"] (defScope S_statements_told) := ⟨rfl, rfl, rfl, by decide +kernel, rfl, by decide +kernel, by decide +kernel⟩
theorem ok_stTold {n : Nat} {f fI : Addr} {fd fdI : FuncData} (F : Fun K "statements_told" "statements_told" S_statements_told f fd)
    (GI : FnOk P w K mg base CX0 (n + 1) fI fdI ["block"] (spStIn K n)) (mI : mg "statements_in" = some (.ref fI)) (kI : PySem.W.keepIn K (.ref fI) = true) (bI : Binds K fdI ["block"] []) :
    FnOk P w K mg base CX0 (n + 1 + 1) f fd ["definitions"] (spStTold K n) := by
  refine F.ok scStTold (fun vs H Q E h => ?_) (fun cdv A outer s0 H vs Q E hr h => ?_)
  · obtain ⟨v, b, rfl, _⟩ := h
    rfl
  obtain ⟨v, fs, rfl, hv, hd, hlen, k⟩ := h
  refine ⟨_, pss_cons (ps_set (i := 1) scStTold.nd rfl (Or.inl rfl) (pe_lst pa_nil))
    (pss_cons (ps_for PassesOwn.never rfl (pi_tup (pv 0)) (pg_tup rfl (pgs_cons (pg_name (i := 2) scStTold.nd rfl (Or.inl rfl)) (pgs_cons (pg_name (i := 3) scStTold.nd rfl (Or.inl rfl)) (pgs_cons (pg_name (i := 4) scStTold.nd rfl (Or.inl rfl)) pgs_nil))))
      (pss_one (ps_expr (pe_bm PySem.F.plainAttrs_list PySem.F.slot_list_extend PySem.F.type_list_extend mt_extend (pv 1) (pa_cons (pe_call GI hr rfl mI kI bI .nil pass0 (pa_cons (pv 4) pa_nil)) pa_nil)))))
    (pss_one (ps_ret (pv 1)))), ?_⟩
  obtain ⟨a, xs, rfl, hT, hA⟩ := dp_tup hv
  have el : xs.length = fs.length := by rw [DpAll.length hA, List.length_map]
  refine ⟨Nat.zero_le _, fun fq nf => ?_⟩
  refine ⟨_, rfl, a, rfl, ⟨_, KT.same (same_new nf _) _ _ hT⟩, for_tup (K := K) (a := a) (xs := xs) (fun i σ H' => ∃ (v2 v3 v4 : Option V) (ws : List V), σ = [some (.ref a), some (.ref fq), v2, v3, v4] ∧ Same H H' ∧ H' fq = some (.lst ws) ∧ DpAll K H' ws (dB (stsD (fs.take i))))
    ⟨none, none, none, [], rfl, same_new nf _, upd_same, .nil⟩ (fun i σ H' _ ⟨_, _, _, _, _, s1, _⟩ => KT.same s1 _ _ hT) ?_ ?_⟩
  · rintro i y σ H3 hi ⟨v2, v3, v4, ws, rfl, s1, hf, hw⟩
    obtain ⟨d, hd1, hd2⟩ := DpAll.get hA hi
    obtain ⟨df, hdf, rfl⟩ : ∃ df, fs[i]? = some df ∧ d = df.d := by
      rw [List.getElem?_map] at hd1
      cases q : fs[i]? with
      | none => rw [q] at hd1; cases hd1
      | some e => rw [q] at hd1; exact ⟨e, rfl, (Option.some.inj hd1).symm⟩
    have hmem := List.mem_of_getElem? hdf
    have etk : fs.take (i + 1) = fs.take i ++ [df] := by rw [List.take_succ, hdf]; rfl
    have hlt : lenDs (fs.take i) + lenD df ≤ 1000000 := by
      have q := lenDs_take fs (i + 1)
      rw [etk, lenDs_append] at q
      have q2 : lenDs [df] = lenD df + 0 := rfl
      omega
    have hlD : lenD df = 100 + lenB df.body := rfl
    have h5 := stsD_le (fs.take i)
    have h6 := stsB_len df.body
    have h7 := headsB_len df.body
    have wl : ws.length = (stsD (fs.take i)).length := by rw [DpAll.length hw, dB_length]
    obtain ⟨t3, ts, rfl, hT3, hB⟩ := dp_tup (Dp.same s1 hd2)
    obtain ⟨w0, r0, rfl, b0, hB⟩ := dp_cons hB
    obtain ⟨w1, r1, rfl, b1, hB⟩ := dp_cons hB
    obtain ⟨w2, r2, rfl, b2, hB⟩ := dp_cons hB
    obtain rfl := dp_nil hB
    refine ⟨t3, _, rfl, hT3, rfl, _, _, rfl, _, _, rfl, _, _, rfl, rfl, ?_⟩
    refine ⟨_, rfl, .inl ⟨rfl, _, SqL.of hf⟩, _, rfl, w2, df.body, rfl, b2, hd df hmem, by omega, fun H7 p7 ws7 s7 n7 f7 w7 => ?_⟩
    have f67 := s7 _ _ hf
    have wl7 : ws7.length = (stsB df.body).length := by rw [DpAll.length w7, dB_length]
    refine ⟨fq, p7, ws, ws7, rfl, rfl, f67, f7, Nat.le_trans (show ws.length + ws7.length ≤ 1000000 by omega) (by decide), ?_⟩
    have kt8 : KT K H7 (upd H7 fq (.lst (ws ++ ws7))) := KT.upd f67 _
    refine ⟨_, _, _, ws ++ ws7, rfl, fun c o q => by rw [upd_ne (ne_of_none q nf)]; exact s7 _ _ (s1 _ _ q), upd_same, ?_⟩
    rw [etk, stsD_append, dB_append, show stsD [df] = stsB df.body from List.append_nil _]
    exact dpAll_append (DpAll.kt kt8 (tupD_B _) w7) (DpAll.kt kt8 (tupD_B _) (DpAll.same s7 hw))
  · rintro σ H3 ⟨v2, v3, v4, ws, rfl, s1, hf, hw⟩
    rw [el, List.take_length] at hw
    exact ⟨_, rfl, k H3 fq ws s1 nf hf hw⟩
/-! ### all of a program -/
def spAllSt (K : PySem.W.Frag) (n : Nat) : Sp := fun vs H Q _ => ∃ (v : V) (p : Pr), vs = [v] ∧ Dp K H v p.d ∧ (∀ f ∈ p.defs, dpB f.body < n) ∧ dpB p.body < n ∧ lenP p ≤ 1000000 ∧
  ∀ (H' : Hp) (q : Addr) (ws : List V), Same H H' → H q = none → H' q = some (.lst ws) → DpAll K H' ws (dB (stsD p.defs ++ stsB p.body)) → Q (.ref q) H'
theorem scAllSt : FnScope ["tree", "definitions", "statements"] ["tree"] (defScope S_all_statements) := ⟨rfl, rfl, rfl, by decide +kernel, rfl, by decide +kernel, by decide +kernel⟩
theorem ok_allSt {n : Nat} {f fI fT : Addr} {fd fdI fdT : FuncData} (F : Fun K "all_statements" "all_statements" S_all_statements f fd)
    (GI : FnOk P w K mg base CX0 (n + 1) fI fdI ["block"] (spStIn K n)) (mI : mg "statements_in" = some (.ref fI)) (kI : PySem.W.keepIn K (.ref fI) = true) (bI : Binds K fdI ["block"] [])
    (GT : FnOk P w K mg base CX0 (n + 2) fT fdT ["definitions"] (spStTold K n)) (mT : mg "statements_told" = some (.ref fT)) (kT : PySem.W.keepIn K (.ref fT) = true) (bT : Binds K fdT ["definitions"] []) :
    FnOk P w K mg base CX0 (n + 2 + 1) f fd ["tree"] (spAllSt K n) := by
  refine F.ok scAllSt (fun vs H Q E h => ?_) (fun cdv A outer s0 H vs Q E hr h => ?_)
  · obtain ⟨v, b, rfl, _⟩ := h
    rfl
  obtain ⟨v, p, rfl, hv, hd, hdb, hlen, k⟩ := h
  have hr1 : Room (n + 1) _ := hr.mono (by omega)
  refine ⟨_, pss_cons (ps_asg (pv 0) (pg_tup rfl (pgs_cons (pg_name (i := 1) scAllSt.nd rfl (Or.inl rfl)) (pgs_cons (pg_name (i := 2) scAllSt.nd rfl (Or.inl rfl)) pgs_nil))))
    (pss_one (ps_ret (pe_op op_cat (pe_call GT hr rfl mT kT bT .nil pass0 (pa_cons (pv 1) pa_nil)) (pe_call GI hr1 rfl mI kI bI .nil pass0 (pa_cons (pv 2) pa_nil))))), ?_⟩
  obtain ⟨a, xs, rfl, hT, hA⟩ := dp_tup hv
  obtain ⟨w0, r0, rfl, b0, hA⟩ := dp_cons hA
  obtain ⟨w1, r1, rfl, b1, hA⟩ := dp_cons hA
  obtain rfl := dp_nil hA
  unfold lenP at hlen
  refine ⟨_, rfl, a, _, rfl, hT, rfl, _, _, rfl, _, _, rfl, rfl, ?_⟩
  refine ⟨_, rfl, w0, p.defs, rfl, b0, hd, by omega, fun H1 p1 ws1 s1 n1 f1 d1 => ?_⟩
  refine ⟨_, rfl, w1, p.body, rfl, Dp.same s1 b1, hdb, by omega, fun H2 p2 ws2 s2 n2 f2 d2 => ?_⟩
  have f12 := s2 _ _ f1
  have l1 : ws1.length = (stsD p.defs).length := by rw [DpAll.length d1, dB_length]
  have l2 : ws2.length = (stsB p.body).length := by rw [DpAll.length d2, dB_length]
  have h5 := stsD_le p.defs
  have h6 := stsB_len p.body
  have h7 := headsB_len p.body
  refine ⟨p1, p2, ws1, ws2, rfl, rfl, f12, f2, Nat.le_trans (show ws1.length + ws2.length ≤ 1000000 by omega) (by decide), fun p3 n3 => ?_⟩
  have s3 := same_new n3 (.lst (ws1 ++ ws2))
  have np3 : H p3 = none := by
    cases q : H p3 with
    | none => rfl
    | some o => rw [s2 _ _ (s1 _ _ q)] at n3; cases n3
  refine k _ p3 (ws1 ++ ws2) ((s1.trans s2).trans s3) np3 upd_same ?_
  rw [dB_append]
  exact DpAll.same s3 (dpAll_append d2 (DpAll.same s2 d1))
end
end KD

/-! All parts of an expression. -/
namespace KD
open PySem L2 TL
def subE : Ex → List Ex
  | .un _ a => [a]
  | .bin _ a b => [a, b]
  | _ => []
def exsE : Ex → List Ex
  | .un o a => .un o a :: exsE a
  | .bin o a b => .bin o a b :: (exsE a ++ exsE b)
  | .num n => [.num n]
  | .name x => [.name x]
  | .rows => [.rows]
  | .cols => [.cols]
def exsL : List Ex → List Ex
  | [] => []
  | e :: r => exsE e ++ exsL r
theorem exsL_append : ∀ a b : List Ex, exsL (a ++ b) = exsL a ++ exsL b
  | [], b => rfl
  | s :: a, b => by
    show exsE s ++ exsL (a ++ b) = exsE s ++ exsL a ++ exsL b
    rw [exsL_append a b, List.append_assoc]
theorem exsE_eq (e : Ex) : exsE e = e :: exsL (subE e) := by
  cases e with
  | un o a => show _ :: exsE a = _ :: (exsE a ++ []); rw [List.append_nil]
  | bin o a b => show _ :: (exsE a ++ exsE b) = _ :: (exsE a ++ (exsE b ++ [])); rw [List.append_nil]
  | _ => rfl
theorem exsE_len : ∀ e : Ex, (exsE e).length + 1 ≤ 2 ^ (dpE e + 1)
  | .un o a => by
    have h := exsE_len a
    show (exsE a).length + 1 + 1 ≤ 2 ^ (dpE a + 1 + 1)
    rw [Nat.pow_succ]
    omega
  | .bin o a b => by
    have h1 := exsE_len a
    have h2 := exsE_len b
    have h3 : 2 ^ (dpE a + 1) ≤ 2 ^ (max (dpE a) (dpE b) + 1) := Nat.pow_le_pow_right (by decide) (by omega)
    have h4 : 2 ^ (dpE b + 1) ≤ 2 ^ (max (dpE a) (dpE b) + 1) := Nat.pow_le_pow_right (by decide) (by omega)
    show (exsE a ++ exsE b).length + 1 + 1 ≤ 2 ^ (max (dpE a) (dpE b) + 1 + 1)
    rw [Nat.pow_succ, List.length_append]
    omega
  | .num n => by show 2 ≤ 2; decide
  | .name x => by show 2 ≤ 2; decide
  | .rows => by decide
  | .cols => by decide
theorem exsE_big {e : Ex} (h : dpE e ≤ 11) : (exsE e).length ≤ 4096 := by
  have q := exsE_len e
  have h3 : 2 ^ (dpE e + 1) ≤ 2 ^ 12 := Nat.pow_le_pow_right (by decide) (by omega)
  omega
theorem exsL_le {e : Ex} {l : List Ex} (h : e ∈ l) : (exsE e).length ≤ (exsL l).length := by
  induction l with
  | nil => cases h
  | cons x r ih =>
    show _ ≤ (exsE x ++ exsL r).length
    rw [List.length_append]
    rcases List.mem_cons.mp h with rfl | h
    · omega
    · have := ih h; omega
def wE : Ex → Str
  | .num _ => "num" | .name _ => "name" | .rows => "rows" | .cols => "cols" | .un o _ => o.w | .bin o _ _ => o.w
def isLeaf : Ex → Bool
  | .num _ => true | .name _ => true | _ => false
theorem wE_leaf (e : Ex) : inV (.str (wE e)) [.str "num", .str "name"] = isLeaf e := by
  have q : ∀ z : Str, inV (.str z) ((["num", "name"] : List Str).map V.str) = decide (z ∈ (["num", "name"] : List Str)) := fun z => in_strs z _
  have q2 := q (wE e)
  show inV _ ((["num", "name"] : List Str).map V.str) = _
  rw [q2]
  cases e with
  | num n => exact (by decide +kernel : decide (("num" : Str) ∈ (["num", "name"] : List Str)) = true)
  | name x => exact (by decide +kernel : decide (("name" : Str) ∈ (["num", "name"] : List Str)) = true)
  | rows => exact (by decide +kernel : decide (("rows" : Str) ∈ (["num", "name"] : List Str)) = false)
  | cols => exact (by decide +kernel : decide (("cols" : Str) ∈ (["num", "name"] : List Str)) = false)
  | un o a =>
    cases o with
    | neg => exact (by decide +kernel : decide (("neg" : Str) ∈ (["num", "name"] : List Str)) = false)
    | not => exact (by decide +kernel : decide (("not" : Str) ∈ (["num", "name"] : List Str)) = false)
  | bin o a b =>
    cases o with
    | black => exact (by decide +kernel : decide (("black" : Str) ∈ (["num", "name"] : List Str)) = false)
    | or => exact (by decide +kernel : decide (("or" : Str) ∈ (["num", "name"] : List Str)) = false)
    | and => exact (by decide +kernel : decide (("and" : Str) ∈ (["num", "name"] : List Str)) = false)
    | lt => exact (by decide +kernel : decide (("<" : Str) ∈ (["num", "name"] : List Str)) = false)
    | le => exact (by decide +kernel : decide (("<=" : Str) ∈ (["num", "name"] : List Str)) = false)
    | eq => exact (by decide +kernel : decide (("=" : Str) ∈ (["num", "name"] : List Str)) = false)
    | ne => exact (by decide +kernel : decide (("!=" : Str) ∈ (["num", "name"] : List Str)) = false)
    | add => exact (by decide +kernel : decide (("+" : Str) ∈ (["num", "name"] : List Str)) = false)
    | sub => exact (by decide +kernel : decide (("-" : Str) ∈ (["num", "name"] : List Str)) = false)
    | mul => exact (by decide +kernel : decide (("*" : Str) ∈ (["num", "name"] : List Str)) = false)
    | div => exact (by decide +kernel : decide (("/" : Str) ∈ (["num", "name"] : List Str)) = false)
    | mod => exact (by decide +kernel : decide (("mod" : Str) ∈ (["num", "name"] : List Str)) = false)
theorem ex_d (e : Ex) (h : isLeaf e = false) : e.d = .tuple (.str (wE e) :: (subE e).map Ex.d) := by
  cases e with
  | num n => cases h
  | name x => cases h
  | _ => rfl
theorem ex_tup {K : PySem.W.Frag} {H : Hp} {v : V} {e : Ex} (h : Dp K H v e.d) : ∃ a ys, v = .ref a ∧ SqT K H a (.str (wE e) :: ys) ∧ (isLeaf e = false → DpAll K H ys ((subE e).map Ex.d)) := by
  cases hl : isLeaf e with
  | false =>
    rw [ex_d e hl] at h
    obtain ⟨a, xs, rfl, hT, hA⟩ := dp_tup h
    obtain ⟨w0, ys, rfl, b0, hB⟩ := dp_cons hA
    obtain rfl := dp_str b0
    exact ⟨a, ys, rfl, hT, fun _ => hB⟩
  | true =>
    cases e with
    | num n =>
      obtain ⟨a, xs, rfl, hT, hA⟩ := dp_tup h
      obtain ⟨w0, ys, rfl, b0, hB⟩ := dp_cons hA
      obtain rfl := dp_str b0
      exact ⟨a, ys, rfl, hT, fun q => by cases q⟩
    | name x =>
      obtain ⟨a, xs, rfl, hT, hA⟩ := dp_tup h
      obtain ⟨w0, ys, rfl, b0, hB⟩ := dp_cons hA
      obtain rfl := dp_str b0
      exact ⟨a, ys, rfl, hT, fun q => by cases q⟩
    | _ => cases hl
theorem tupDs_Es : ∀ l : List Ex, tupDs (l.map Ex.d) = true
  | [] => rfl
  | e :: l => by
    show (tupD e.d && tupDs (l.map Ex.d)) = true
    rw [tupD_E e, tupDs_Es l]
    rfl
theorem dpAll_rev {K : PySem.W.Frag} {H : Hp} : ∀ {vs : List V} {ds : List PyData}, DpAll K H vs ds → DpAll K H vs.reverse ds.reverse
  | _, _, .nil => .nil
  | _, _, .cons a t => by
    rw [List.reverse_cons, List.reverse_cons]
    exact DpAll.snoc a (dpAll_rev t)
theorem dpAll_last {K : PySem.W.Frag} {H : Hp} {ws : List V} {ds : List PyData} {d : PyData} (h : DpAll K H ws (ds ++ [d])) : ∃ r y, ws = r ++ [y] ∧ DpAll K H r ds ∧ Dp K H y d := by
  have h2 := dpAll_rev h
  rw [List.reverse_append] at h2
  obtain ⟨y, r, e, h3, h4⟩ := dp_cons (show DpAll K H ws.reverse (d :: ds.reverse) from h2)
  refine ⟨r.reverse, y, ?_, ?_, h3⟩
  · rw [← List.reverse_reverse ws, e, List.reverse_cons]
  · have h5 := dpAll_rev h4
    rw [List.reverse_reverse] at h5
    exact h5
theorem if_pos' {c A B : Prop} [Decidable c] (hc : c) (h : A) : if c then A else B := by rw [if_pos hc]; exact h
theorem if_neg' {c A B : Prop} [Decidable c] (hc : ¬ c) (h : B) : if c then A else B := by rw [if_neg hc]; exact h
abbrev w2n : List Str := ["num", "name"]
def lenAt (H : Hp) (a : Addr) : Nat := match H a with | some (.lst us) => us.length | _ => 0
theorem lenAt_eq {H : Hp} {a : Addr} {us : List V} (h : H a = some (.lst us)) : lenAt H a = us.length := by unfold lenAt; rw [h]
theorem subE_le (e : Ex) : (subE e).length ≤ 2 := by cases e <;> simp [subE]
section
variable {P : Program} {w : World} {K : PySem.W.Frag} {mg : Str → Option Value} {base : Heap}
def spExIn (K : PySem.W.Frag) : Sp := fun vs H Q _ => ∃ (v : V) (e : Ex), vs = [v] ∧ Dp K H v e.d ∧ dpE e ≤ 11 ∧
  ∀ (H' : Hp) (p : Addr) (ws : List V), Same H H' → H p = none → H' p = some (.lst ws) → DpAll K H' ws ((exsE e).map Ex.d) → Q (.ref p) H'
theorem scExIn : FnScope ["expression", "found", "waiting", "tree"] ["expression"] (defScope S_expressions_in) := ⟨rfl, rfl, rfl, by decide +kernel, rfl, by decide +kernel, by decide +kernel⟩
theorem ok_exIn {f : Addr} {fd : FuncData} (F : Fun K "expressions_in" "expressions_in" S_expressions_in f fd) : FnOk P w K mg base CX0 1 f fd ["expression"] (spExIn K) := by
  refine F.ok scExIn (fun vs H Q E h => ?_) (fun cdv A outer s0 H vs Q E hr h => ?_)
  · obtain ⟨v, b, rfl, _⟩ := h
    rfl
  obtain ⟨v, e, rfl, hv, hd, k⟩ := h
  refine ⟨_, pss_cons (ps_set (i := 1) scExIn.nd rfl (Or.inl rfl) (pe_lst pa_nil))
    (pss_cons (ps_set (i := 2) scExIn.nd rfl (Or.inl rfl) (pe_lst (pa_cons (pv 0) pa_nil)))
    (pss_cons (ps_while PassesOwn.never (pt_truth (pv 2) (by intro _; rfl))
      (pss_cons (ps_set (i := 3) scExIn.nd rfl (Or.inl rfl) (pe_bm0 PySem.F.plainAttrs_list PySem.F.slot_list_pop PySem.F.type_list_pop mt_pop (pv 2)))
      (pss_cons (ps_expr (pe_bm PySem.F.plainAttrs_list PySem.F.slot_list_append PySem.F.type_list_append mt_append (pv 1) (pa_cons (pv 3) pa_nil)))
      (pss_one (ps_if (pt_cmpR op_notIn_seq (pe_ix ix_tup (pv 3) pe_int (fun _ _ => rfl)) (pe_tup (pa_cons pe_str (pa_cons pe_str pa_nil))) (by rfl))
        (pss_one (ps_expr (pe_bm PySem.F.plainAttrs_list PySem.F.slot_list_extend PySem.F.type_list_extend ET.mt_extT (pv 2) (pa_cons (ET.pe_tailRev (pv 3)) pa_nil)))) pss_nil)))))
    (pss_one (ps_ret (pv 1))))), ?_⟩
  refine ⟨Nat.zero_le _, fun fq nf => ?_⟩
  refine ⟨_, rfl, (by show 1 ≤ sizeLine; decide), fun wq nw => ?_⟩
  have f0 : (upd H fq (.lst [])) fq = some (.lst []) := upd_same
  have nfw : fq ≠ wq := ne_of_none f0 nw
  have nwH : H wq = none := by
    cases q : H wq with
    | none => rfl
    | some o => rw [same_new nf _ _ _ q] at nw; cases nw
  have big := exsE_big hd
  have sH : ∀ {H' : Hp} {o1 o2 : HO}, Same H H' → Same H (upd (upd H' wq o1) fq o2) := fun {H' o1 o2} s c o q => by
    rw [upd_ne (ne_of_none q nf), upd_ne (ne_of_none q nwH)]
    exact s _ _ q
  dsimp only [gName, tSeq]
  refine while_by (fun σ H' => ∃ (fn wt : List Ex) (us ws : List V) (v3 : Option V), σ = [some v, some (.ref fq), some (.ref wq), v3] ∧ Same H H' ∧ H' fq = some (.lst us) ∧ H' wq = some (.lst ws) ∧ DpAll K H' us (fn.map Ex.d) ∧ DpAll K H' ws (wt.map Ex.d) ∧ exsE e = fn ++ exsL wt.reverse)
    (fun _ H' => 5000 - lenAt H' fq)
    ⟨[], [e], [], [v], none, rfl, fun c o q => by rw [upd_ne (ne_of_none q nwH), upd_ne (ne_of_none q nf)]; exact q, by rw [upd_ne nfw]; exact f0, upd_same, .nil, .cons (Dp.same ((same_new nf _).trans (same_new nw _)) hv) .nil, (List.append_nil _).symm⟩ ?_ ?_
  · rintro σ H1 ⟨fn, wt, us, ws, v3, rfl, s1, hf, hw, df, dw, ee⟩
    cases hwt : wt.reverse with
    | nil =>
      have e0 : wt = [] := by rw [← List.reverse_reverse wt, hwt]; rfl
      subst e0
      obtain rfl := dp_nil dw
      rw [show exsL ([] : List Ex).reverse = [] from rfl, List.append_nil] at ee
      refine ⟨_, rfl, false, .inl ⟨[], SqL.of hw, rfl⟩, ?_⟩
      refine iteF ?_
      exact ⟨_, rfl, k H1 fq us s1 nf hf (by rw [ee]; exact df)⟩
    | cons x rest =>
      have e2 : wt = rest.reverse ++ [x] := by rw [← List.reverse_reverse wt, hwt, List.reverse_cons]
      rw [hwt] at ee
      subst e2
      rw [List.map_append] at dw
      obtain ⟨ws1, y, rfl, dw1, dy⟩ := dpAll_last dw
      have ul : us.length = fn.length := by rw [DpAll.length df, List.length_map]
      have wl : ws1.length = rest.length := by rw [DpAll.length dw1, List.length_map, List.length_reverse]
      have el : fn.length + (exsE x).length + (exsL rest).length = (exsE e).length := by
        rw [ee, List.length_append]
        show _ = fn.length + (exsE x ++ exsL rest).length
        rw [List.length_append]
        omega
      have ex1 : 1 ≤ (exsE x).length := by rw [exsE_eq]; exact Nat.succ_le_succ (Nat.zero_le _)
      have rl : rest.length ≤ (exsL rest).length := by
        clear hwt ee dw dw1 wl el
        induction rest with
        | nil => exact Nat.le_refl _
        | cons z r ih =>
          show r.length + 1 ≤ (exsE z ++ exsL r).length
          rw [List.length_append, exsE_eq, List.length_cons]
          omega
      refine ⟨_, rfl, true, .inl ⟨ws1 ++ [y], SqL.of hw, by cases ws1 <;> rfl⟩, ?_⟩
      refine iteT ?_
      refine ⟨_, rfl, .inl ⟨rfl, _, SqL.of hw⟩, wq, ws1 ++ [y], y, rfl, rfl, hw, by rw [List.length_append]; simp, ?_⟩
      rw [List.dropLast_concat]
      have hf2 : (upd H1 wq (.lst ws1)) fq = some (.lst us) := by rw [upd_ne nfw]; exact hf
      refine ⟨_, rfl, .inl ⟨rfl, _, SqL.of hf2⟩, _, rfl, fq, us, y, rfl, rfl, hf2, Nat.lt_of_le_of_lt (show us.length ≤ 5000 by omega) (by decide), ?_⟩
      have kt : KT K H1 (upd (upd H1 wq (.lst ws1)) fq (.lst (us ++ [y]))) := (KT.upd hw _).trans (KT.upd hf2 _)
      have s3 : Same H (upd (upd H1 wq (.lst ws1)) fq (.lst (us ++ [y]))) := sH s1
      have hf3 : (upd (upd H1 wq (.lst ws1)) fq (.lst (us ++ [y]))) fq = some (.lst (us ++ [y])) := upd_same
      have hw3 : (upd (upd H1 wq (.lst ws1)) fq (.lst (us ++ [y]))) wq = some (.lst ws1) := by rw [upd_ne nfw.symm]; exact upd_same
      have dy3 := Dp.kt kt (tupD_E x) dy
      have df3 : DpAll K (upd (upd H1 wq (.lst ws1)) fq (.lst (us ++ [y]))) (us ++ [y]) ((fn ++ [x]).map Ex.d) := by
        rw [List.map_append]
        exact DpAll.snoc dy3 (DpAll.kt kt (tupDs_E _) df)
      have dw3 := DpAll.kt kt (tupDs_E _) dw1
      have m1 := lenAt_eq hf
      generalize upd (upd H1 wq (.lst ws1)) fq (.lst (us ++ [y])) = H3 at s3 hf3 hw3 dy3 df3 dw3 ⊢
      obtain ⟨a, ys, rfl, hT, hY⟩ := ex_tup dy3
      refine ⟨_, rfl, a, _, _, _, rfl, rfl, hT, at0, ?_⟩
      refine ⟨(by show 2 ≤ sizeLine; decide), fun tp ntp => ?_⟩
      have s4 := same_new ntp (.tup [.str "num", .str "name"])
      refine ⟨tp, _, rfl, .inr (SqT.of upd_same), rfl, flat_strs w2n, ?_⟩
      have hf4 := s4 _ _ hf3
      have hw4 := s4 _ _ hw3
      have df4 := DpAll.same s4 df3
      have dw4 := DpAll.same s4 dw3
      have hT4 := KT.same s4 _ _ hT
      have s34 := s3.trans s4
      generalize upd H3 tp (.tup [.str "num", .str "name"]) = H4 at hf4 hw4 df4 dw4 hT4 s34 s4 ⊢
      refine ⟨_, rfl, ?_⟩
      cases hl : isLeaf x with
      | true =>
        refine if_neg' (by rw [if_pos rfl, wE_leaf, hl]; exact Bool.false_ne_true) ?_
        refine ⟨⟨fn ++ [x], rest.reverse, us ++ [.ref a], ws1, _, rfl, s34, hf4, hw4, df4, dw4, ?_⟩, ?_⟩
        · rw [ee, List.reverse_reverse, List.append_assoc]
          show fn ++ (exsE x ++ exsL rest) = fn ++ ([x] ++ exsL rest)
          rw [exsE_eq]
          have e3 : subE x = [] := by cases x <;> first | rfl | cases hl
          rw [e3]
          rfl
        · show 5000 - lenAt H4 fq < 5000 - lenAt H1 fq
          rw [lenAt_eq hf4, m1, List.length_append, List.length_singleton]
          omega
      | false =>
        refine if_pos' (by rw [if_pos rfl, wE_leaf, hl]; rfl) ?_
        have yl : ys.length = (subE x).length := by rw [DpAll.length (hY hl), List.length_map]
        have sl := subE_le x
        refine ⟨_, rfl, .inl ⟨rfl, _, SqL.of hw4⟩, _, rfl, a, _, rfl, hT4, (by rw [List.length_cons]; omega), (by rw [List.length_cons]; omega), fun p np => ?_⟩
        have s5 := same_new np (.tup (List.drop 1 (V.str (wE x) :: ys)).reverse)
        refine ⟨wq, p, ws1, _, rfl, rfl, s5 _ _ hw4, SqT.of upd_same, Nat.le_trans (show ws1.length + (List.drop 1 (V.str (wE x) :: ys)).reverse.length ≤ 5000 by rw [List.length_reverse, List.drop_one, List.tail_cons]; omega) (by decide), ?_⟩
        have kt5 : KT K H4 (upd (upd H4 p (.tup (List.drop 1 (V.str (wE x) :: ys)).reverse)) wq (.lst (ws1 ++ (List.drop 1 (V.str (wE x) :: ys)).reverse))) := (KT.same s5).trans (KT.upd (s5 _ _ hw4) _)
        have npf : fq ≠ p := ne_of_none hf4 np
        have nwp : wq ≠ p := ne_of_none hw4 np
        refine ⟨⟨fn ++ [x], rest.reverse ++ (subE x).reverse, us ++ [.ref a], ws1 ++ ys.reverse, _, rfl, fun c o q => ?_, by rw [upd_ne nfw]; exact s5 _ _ hf4, upd_same, DpAll.kt kt5 (tupDs_E _) df4, ?_, ?_⟩, ?_⟩
        · rw [upd_ne (ne_of_none q nwH)]
          exact s5 _ _ (s34 _ _ q)
        · rw [List.map_append]
          have h6 : DpAll K H4 ys.reverse ((subE x).reverse.map Ex.d) := by
            rw [List.map_reverse]
            exact dpAll_rev (DpAll.same s4 (hY hl))
          exact dpAll_append (DpAll.kt kt5 (tupDs_E _) h6) (DpAll.kt kt5 (tupDs_E _) dw4)
        · rw [ee, List.reverse_append, List.reverse_reverse, List.reverse_reverse, exsL_append, List.append_assoc]
          show fn ++ (exsE x ++ exsL rest) = fn ++ ([x] ++ (exsL (subE x) ++ exsL rest))
          rw [exsE_eq x, List.cons_append]
          rfl
        · show 5000 - lenAt (upd _ wq _) fq < 5000 - lenAt H1 fq
          rw [lenAt_eq (by rw [upd_ne nfw]; exact s5 _ _ hf4), m1, List.length_append, List.length_singleton]
          omega
  · rintro σ H' Q1 Q2 hq ⟨v1, e1, k1, t1, h1⟩
    exact ⟨v1, e1, k1, t1, hq _ _ h1⟩
end
end KD

/-! Names known: one statement, one expression. -/
namespace KD
open PySem L2 TL
def isNumE : Ex → Bool
  | .num _ => true | _ => false
theorem wE_num (e : Ex) : decide (V.str (wE e) = V.str "num") = isNumE e := by
  cases e with
  | num n => exact (by decide +kernel : decide (V.str ("num" : Str) = V.str "num") = true)
  | name x => exact (by decide +kernel : decide (V.str ("name" : Str) = V.str "num") = false)
  | rows => exact (by decide +kernel : decide (V.str ("rows" : Str) = V.str "num") = false)
  | cols => exact (by decide +kernel : decide (V.str ("cols" : Str) = V.str "num") = false)
  | un o a =>
    cases o with
    | neg => exact (by decide +kernel : decide (V.str ("neg" : Str) = V.str "num") = false)
    | not => exact (by decide +kernel : decide (V.str ("not" : Str) = V.str "num") = false)
  | bin o a b =>
    have q : ∀ z ∈ (["black", "or", "and", "<", "<=", "=", "!=", "+", "-", "*", "/", "mod"] : List Str), decide (V.str z = V.str "num") = false := by decide +kernel
    show decide (V.str o.w = V.str "num") = false
    exact q _ (by cases o <;> simp [Bi.w])
def isNameE : Ex → Bool
  | .name _ => true | _ => false
theorem wE_name (e : Ex) : decide (V.str (wE e) = V.str "name") = isNameE e := by
  cases e with
  | num n => exact (by decide +kernel : decide (V.str ("num" : Str) = V.str "name") = false)
  | name x => exact (by decide +kernel : decide (V.str ("name" : Str) = V.str "name") = true)
  | rows => exact (by decide +kernel : decide (V.str ("rows" : Str) = V.str "name") = false)
  | cols => exact (by decide +kernel : decide (V.str ("cols" : Str) = V.str "name") = false)
  | un o a =>
    cases o with
    | neg => exact (by decide +kernel : decide (V.str ("neg" : Str) = V.str "name") = false)
    | not => exact (by decide +kernel : decide (V.str ("not" : Str) = V.str "name") = false)
  | bin o a b =>
    have q : ∀ z ∈ (["black", "or", "and", "<", "<=", "=", "!=", "+", "-", "*", "/", "mod"] : List Str), decide (V.str z = V.str "name") = false := by decide +kernel
    show decide (V.str o.w = V.str "name") = false
    exact q _ (by cases o <;> simp [Bi.w])
theorem okE_sub {ns : List Str} : ∀ {e : Ex}, okE ns e → ∀ x ∈ exsE e, okE ns x
  | .num n, h, x, hx => by rw [List.mem_singleton.mp hx]; exact h
  | .name n, h, x, hx => by rw [List.mem_singleton.mp hx]; exact h
  | .rows, h, x, hx => by rw [List.mem_singleton.mp hx]; exact h
  | .cols, h, x, hx => by rw [List.mem_singleton.mp hx]; exact h
  | .un o a, h, x, hx => by
    rcases List.mem_cons.mp hx with rfl | hx
    · exact h
    · exact okE_sub (e := a) h x hx
  | .bin o a b, h, x, hx => by
    rcases List.mem_cons.mp hx with rfl | hx
    · exact h
    · rcases List.mem_append.mp hx with hx | hx
      · exact okE_sub (e := a) h.1 x hx
      · exact okE_sub (e := b) h.2 x hx
/-- the names are keys -/
def Knows (kvs : List (Key × V)) (ns : List Str) : Prop := ∀ x ∈ ns, (valV kvs (.inr x)).isSome = true
theorem shapedE1 {e : Ex} (h : eOk e) : SeqAt.shaped e.d = true := by
  obtain ⟨h1, h2⟩ := layE h.1
  unfold SeqAt.shaped
  rw [Bool.and_eq_true, decide_eq_true_iff]
  have h3 : dpE e ≤ 11 := h.2
  exact ⟨h1, by omega⟩
section
variable {P : Program} {w : World} {K : PySem.W.Frag} {mg : Str → Option Value} {base : Heap}
def spWritten (K : PySem.W.Frag) : Sp := fun vs H Q _ => ∃ (v : V) (e : Ex), vs = [v] ∧ Dp K H v e.d ∧ Q (.bl (isNumE e)) H
theorem scWritten : FnScope ["expression"] ["expression"] (defScope S_is_written) := ⟨rfl, rfl, rfl, by decide +kernel, rfl, by decide +kernel, by decide +kernel⟩
theorem ok_written {f : Addr} {fd : FuncData} (F : Fun K "is_written" "is_written" S_is_written f fd) : FnOk P w K mg base CX0 1 f fd ["expression"] (spWritten K) := by
  refine F.ok scWritten (fun vs H Q E h => ?_) (fun cdv A outer s0 H vs Q E hr h => ?_)
  · obtain ⟨v, e, rfl, _⟩ := h
    rfl
  obtain ⟨v, e, rfl, hv, k⟩ := h
  refine ⟨_, pss_one (ps_ret (pe_cmpR op_eq (pe_ix ix_tup (pv 0) pe_int (fun _ _ => rfl)) pe_str (nomark _))), ?_⟩
  obtain ⟨a, ys, rfl, hT, hY⟩ := ex_tup hv
  refine ⟨_, rfl, a, _, _, _, rfl, rfl, hT, at0, rfl, ?_⟩
  rw [wE_num]
  exact k
def spEnds (K : PySem.W.Frag) : Sp := fun vs H Q _ => ∃ (v : V) (s : St), vs = [v] ∧ Dp K H v s.d ∧ wfS s ∧ ∀ b H', Same H H' → Q (.bl b) H'
theorem scEnds : FnScope ["statement"] ["statement"] (defScope S_ends_all) := ⟨rfl, rfl, rfl, by decide +kernel, rfl, by decide +kernel, by decide +kernel⟩
theorem wd_while (s : St) : decide (V.str (wdS s) = V.str "while") = true → ∃ c a, s = .whl c a := by
  intro h
  cases s with
  | whl c a => exact ⟨c, a, rfl⟩
  | row e => exact absurd h (by decide +kernel : ¬ decide (V.str ("row" : Str) = V.str "while") = true)
  | col e => exact absurd h (by decide +kernel : ¬ decide (V.str ("col" : Str) = V.str "while") = true)
  | say e => exact absurd h (by decide +kernel : ¬ decide (V.str ("say" : Str) = V.str "while") = true)
  | set x e => exact absurd h (by decide +kernel : ¬ decide (V.str ("let" : Str) = V.str "while") = true)
  | ite c a b => exact absurd h (by decide +kernel : ¬ decide (V.str ("if" : Str) = V.str "while") = true)
  | for_ x a b r => exact absurd h (by decide +kernel : ¬ decide (V.str ("for" : Str) = V.str "while") = true)
  | call f es => exact absurd h (by decide +kernel : ¬ decide (V.str ("do" : Str) = V.str "while") = true)
  | stop => exact absurd h (by decide +kernel : ¬ decide (V.str ("stop" : Str) = V.str "while") = true)
theorem ok_ends {f fW : Addr} {fd fdW : FuncData} (F : Fun K "ends_all" "ends_all" S_ends_all f fd)
    (GW : FnOk P w K mg base CX0 1 fW fdW ["expression"] (spWritten K)) (mW : mg "is_written" = some (.ref fW)) (kW : PySem.W.keepIn K (.ref fW) = true) (bW : Binds K fdW ["expression"] [])
    (hZ : ∃ a, mg "ZERO" = some (.ref a) ∧ ∀ H, SqT K H a [.str "num", .int 0]) :
    FnOk P w K mg base CX0 2 f fd ["statement"] (spEnds K) := by
  refine F.ok scEnds (fun vs H Q E h => ?_) (fun cdv A outer s0 H vs Q E hr h => ?_)
  · obtain ⟨v, e, rfl, _⟩ := h
    rfl
  obtain ⟨v, s, rfl, hv, hw, k⟩ := h
  obtain ⟨aZ, mZ, sZ⟩ := hZ
  refine ⟨_, pss_cons (ps_if (pt_cmpR op_eq (pe_ix ix_tup (pv 0) pe_int (fun _ _ => rfl)) pe_str (nomark _))
      (pss_one (ps_ret (pe_and (pe_call GW hr rfl mW kW bW .nil pass0 (pa_cons (pe_ix ix_tup (pv 0) pe_int (fun _ _ => rfl)) pa_nil)) (pe_one (pe_cmpR (op_neD hr.units) (pe_ix ix_tup (pv 0) pe_int (fun _ _ => rfl)) (pe_glob (v := .ref aZ) rfl mZ rfl) (nomark _)))))) pss_nil)
    (pss_one (ps_ret (pe_cmpR op_eq (pe_ix ix_tup (pv 0) pe_int (fun _ _ => rfl)) pe_str (nomark _)))), ?_⟩
  obtain ⟨a, ys, rfl, hT, hB⟩ := st_tup hv
  refine ⟨_, rfl, a, _, _, _, rfl, rfl, hT, at0, rfl, _, rfl, ?_⟩
  refine ite2 (fun c => ?_) (fun c => ?_)
  · obtain ⟨e, b, rfl⟩ := wd_while s c
    obtain ⟨w0, r0, e0, b0, hB⟩ := dp_cons hB
    injection e0 with e01 e02
    subst e01
    subst e02
    obtain ⟨y1, r1, rfl, b1, hB⟩ := dp_cons hB
    have at1 : atI (V.str (wdS (.whl e b)) :: y1 :: r1) 1 = some y1 := atI_nat (j := 1) rfl
    refine ⟨_, rfl, a, _, _, _, rfl, rfl, hT, at1, y1, e, rfl, b1, ?_⟩
    refine ⟨_, rfl, ?_⟩
    cases e with
    | num n =>
      refine iteT ?_
      refine ⟨_, rfl, a, _, _, _, rfl, rfl, hT, at1, (Ex.num n).d, (.tuple [.str "num", .int 0]), b1, .tup (sZ H) (.cons (.str _) (.cons (.int _) .nil)), shapedE1 hw.1, by decide +kernel, ?_⟩
      exact k _ _ (Same.refl _)
    | _ => exact iteF (k _ _ (Same.refl _))
  · refine ⟨_, rfl, a, _, _, _, rfl, rfl, hT, at0, rfl, ?_⟩
    exact k _ _ (Same.refl _)
/-! ### names used -/
def spChkN (K : PySem.W.Frag) : Sp := fun vs H Q _ => ∃ (v : V) (e : Ex) (kd : Addr) (kvs : List (Key × V)) (ns : List Str), vs = [v, .ref kd] ∧ Dp K H v e.d ∧ dpE e ≤ 11 ∧ H kd = some (.dK kvs) ∧ okE ns e ∧ Knows kvs ns ∧ ∀ H', Same H H' → Q .non H'
theorem scChkN : FnScope ["expression", "known", "tree"] ["expression", "known"] (defScope S_check_names) := ⟨rfl, rfl, rfl, by decide +kernel, rfl, by decide +kernel, by decide +kernel⟩
theorem ok_chkN {f fX : Addr} {fd fdX : FuncData} (F : Fun K "check_names" "check_names" S_check_names f fd)
    (GX : FnOk P w K mg base CX0 1 fX fdX ["expression"] (spExIn K)) (mX : mg "expressions_in" = some (.ref fX)) (kX : PySem.W.keepIn K (.ref fX) = true) (bX : Binds K fdX ["expression"] []) :
    FnOk P w K mg base CX0 2 f fd ["expression", "known"] (spChkN K) := by
  refine F.ok scChkN (fun vs H Q E h => ?_) (fun cdv A outer s0 H vs Q E hr h => ?_)
  · obtain ⟨v, e, kd, kvs, ns, rfl, _⟩ := h
    rfl
  obtain ⟨v, e, kd, kvs, ns, rfl, hv, hd, hk, he, kn, k⟩ := h
  refine ⟨_, pss_one (ps_for PassesOwn.never rfl (pi_list (pe_call GX hr rfl mX kX bX .nil pass0 (pa_cons (pv 0) pa_nil))) (pg_name (i := 2) scChkN.nd rfl (Or.inl rfl))
      (pss_one (ps_if (PW.pt (pw_and (pt_cmpR op_eq (pe_ix ix_tup (pv 2) pe_int (fun _ _ => rfl)) pe_str (nomark _)) (pw_and1 (pt_cmp (pc_dnotin (Nat.lt_of_le_of_lt (Nat.add_le_add_left (by decide : 1 ≤ 64) _) hr.units) (pe_ix ix_tup (pv 2) pe_int (fun _ _ => rfl)) (pv 1)) (by rfl))))) pss_never pss_nil))), ?_⟩
  refine ⟨_, rfl, v, e, rfl, hv, hd, fun H1 p ws s1 np hp hw => ?_⟩
  have wl : ws.length = (exsE e).length := by rw [DpAll.length hw, List.length_map]
  refine ⟨p, rfl, ⟨ws, SqL.of hp⟩, for_list (K := K) (a := p) (xs := ws) (fun i σ H' => ∃ v2 : Option V, σ = [some v, some (.ref kd), v2] ∧ Same H1 H') ⟨none, rfl, Same.refl _⟩ (fun i σ H' _ ⟨_, _, s2⟩ => SqL.of (s2 _ _ hp)) ?_ ?_⟩
  · rintro i y σ H2 hi ⟨v2, rfl, s2⟩
    obtain ⟨d, hd1, hd2⟩ := DpAll.get hw hi
    obtain ⟨x, hx, rfl⟩ : ∃ x, (exsE e)[i]? = some x ∧ d = x.d := by
      rw [List.getElem?_map] at hd1
      cases q : (exsE e)[i]? with
      | none => rw [q] at hd1; cases hd1
      | some e => rw [q] at hd1; exact ⟨e, rfl, (Option.some.inj hd1).symm⟩
    have hx2 := okE_sub he x (List.mem_of_getElem? hx)
    obtain ⟨a, ys, rfl, hT, hY⟩ := ex_tup (Dp.same s2 hd2)
    refine ⟨_, rfl, a, _, _, _, rfl, rfl, hT, at0, rfl, _, rfl, ?_⟩
    rw [wE_name]
    cases hn : isNameE x with
    | false =>
      refine iteF ?_
      exact ⟨_, rfl, s2⟩
    | true =>
      refine iteT ?_
      cases x with
      | name z =>
        obtain ⟨a', xs', e', hT', hA'⟩ := dp_tup (Dp.same s2 hd2)
        obtain rfl : a = a' := V.ref.inj e'
        obtain ⟨w0, r0, rfl, b0, hB⟩ := dp_cons hA'
        obtain ⟨w1, r1, rfl, b1, hB⟩ := dp_cons hB
        obtain rfl := dp_nil hB
        obtain rfl := dp_str b1
        have at1 : atI [w0, V.str z] 1 = some (V.str z) := atI_nat (j := 1) rfl
        have kz := kn z hx2
        have hk2 := s2 _ _ (s1 _ _ hk)
        refine ⟨_, rfl, a, _, _, _, rfl, rfl, hT', at1, _, rfl, kd, valV kvs (.inr z), rfl, .inl ⟨kvs, .inr z, .inl hk2, rfl, rfl⟩, _, rfl, ?_⟩
        rw [kz]
        exact iteF ⟨_, rfl, s2⟩
      | _ => cases hn
  · rintro σ H2 ⟨v2, rfl, s2⟩
    exact k H2 (s1.trans s2)
end
end KD

/-! Names known behind a block. -/
namespace KD
open PySem L2 TL
theorem KT.updK {K : PySem.W.Frag} {H : Hp} {r : Addr} {kvs : List (Key × V)} (h : H r = some (.dK kvs)) (o : HO) : KT K H (L2.upd H r o) := fun a xs q => by
  rcases q with (q | ⟨u, q⟩) | q
  · exact .inl (.inl (by rw [upd_ne (fun e => by rw [e, h] at q; cases q)]; exact q))
  · exact .inl (.inr ⟨u, by rw [upd_ne (fun e => by rw [e, h] at q; cases q)]; exact q⟩)
  · exact .inr q
theorem okS_exs {ds : List (Str × Nat)} {m : Nat} {ns : List Str} {s : St} (h : okS ds m ns s) : ∀ e ∈ exsOf s, okE ns e := by
  intro e he
  cases m with
  | zero =>
    cases s with
    | row x => unfold okS at h; rw [List.mem_singleton.mp he]; exact h.1
    | col x => unfold okS at h; rw [List.mem_singleton.mp he]; exact h.1
    | say x => unfold okS at h; rw [List.mem_singleton.mp he]; exact h.1
    | set x y => unfold okS at h; rw [List.mem_singleton.mp he]; exact h.2.1
    | ite c a b => unfold okS at h; exact h.elim
    | whl c a => unfold okS at h; exact h.elim
    | for_ x a b r => unfold okS at h; exact h.elim
    | call f es => unfold okS at h; exact h.elim
    | stop => unfold okS at h; exact h.elim
  | succ m =>
    cases s with
    | row x => unfold okS at h; rw [List.mem_singleton.mp he]; exact h.1
    | col x => unfold okS at h; rw [List.mem_singleton.mp he]; exact h.1
    | say x => unfold okS at h; rw [List.mem_singleton.mp he]; exact h.1
    | set x y => unfold okS at h; rw [List.mem_singleton.mp he]; exact h.2.1
    | ite c a b => unfold okS at h; rw [List.mem_singleton.mp he]; exact h.1
    | whl c a => unfold okS at h; rw [List.mem_singleton.mp he]; exact h.1
    | for_ x a b r =>
      unfold okS at h
      rcases List.mem_cons.mp he with rfl | he
      · exact h.2.1.1
      · rw [List.mem_singleton.mp he]; exact h.2.2.1.1
    | call f es => unfold okS at h; exact (h.2 e he).1
    | stop => cases he
theorem wfS_exs {s : St} (h : wfS s) : ∀ e ∈ exsOf s, eOk e := by
  intro e he
  cases s with
  | row x => rw [List.mem_singleton.mp he]; exact h
  | col x => rw [List.mem_singleton.mp he]; exact h
  | say x => rw [List.mem_singleton.mp he]; exact h
  | set x y => rw [List.mem_singleton.mp he]; exact h.2
  | ite c a b => rw [List.mem_singleton.mp he]; exact h.1
  | whl c a => rw [List.mem_singleton.mp he]; exact h.1
  | for_ x a b r =>
    rcases List.mem_cons.mp he with rfl | he
    · exact h.2.1
    · rw [List.mem_singleton.mp he]; exact h.2.2.1
  | call f es => exact h.2.2 e he
  | stop => cases he
theorem okB_get {ds : List (Str × Nat)} {m : Nat} : ∀ {b : List St} {ns : List Str} {i : Nat} {s : St}, okB ds m ns b → b[i]? = some s → okS ds m (aftB ns (b.take i)) s
  | [], _, _, _, _, h => by cases h
  | t :: b, ns, 0, s, h, e => by
    unfold okB at h
    cases e
    exact h.1
  | t :: b, ns, i + 1, s, h, e => by
    unfold okB at h
    exact okB_get (b := b) h.2 e
theorem wfB_get : ∀ {b : List St} {s : St}, wfB b → s ∈ b → wfS s
  | t :: b, s, h, e => by
    rcases List.mem_cons.mp e with rfl | e
    · exact h.1
    · exact wfB_get h.2 e
theorem wd_let (s : St) : decide (V.str (wdS s) = V.str "let") = (match s with | .set _ _ => true | _ => false) := by
  cases s with
  | set x e => exact (by decide +kernel : decide (V.str ("let" : Str) = V.str "let") = true)
  | row e => exact (by decide +kernel : decide (V.str ("row" : Str) = V.str "let") = false)
  | col e => exact (by decide +kernel : decide (V.str ("col" : Str) = V.str "let") = false)
  | say e => exact (by decide +kernel : decide (V.str ("say" : Str) = V.str "let") = false)
  | ite c a b => exact (by decide +kernel : decide (V.str ("if" : Str) = V.str "let") = false)
  | whl c a => exact (by decide +kernel : decide (V.str ("while" : Str) = V.str "let") = false)
  | for_ x a b r => exact (by decide +kernel : decide (V.str ("for" : Str) = V.str "let") = false)
  | call f es => exact (by decide +kernel : decide (V.str ("do" : Str) = V.str "let") = false)
  | stop => exact (by decide +kernel : decide (V.str ("stop" : Str) = V.str "let") = false)
theorem Knows.put {kvs : List (Key × V)} {ns : List Str} {x : Str} {v : V} (h : Knows kvs ns) : Knows (putK kvs (.inr x) v) (if x ∈ ns then ns else ns ++ [x]) := by
  intro y hy
  rw [valV_put]
  by_cases e : (.inr y : Key) = .inr x
  · rw [if_pos e]; rfl
  · rw [if_neg e]
    refine h y ?_
    split at hy
    · exact hy
    · rcases List.mem_append.mp hy with q | q
      · exact q
      · exact absurd (congrArg Sum.inr (List.mem_singleton.mp q)) e
/-- what names_behind gives back -/
theorem aft_no {s : St} (h : (match s with | .set _ _ => true | _ => false) = false) (ns : List Str) : aft ns s = ns := by
  cases s with
  | set x e => cases h
  | _ => rfl
def NBr (H H' : Hp) (r : V) (m : Nat) (ns : List Str) : Prop := r = .non ∨ ∃ p kvs, r = .ref p ∧ H p = none ∧ H' p = some (.dK kvs) ∧ Knows kvs ns ∧ kvs.length ≤ m
section
variable {P : Program} {w : World} {K : PySem.W.Frag} {mg : Str → Option Value} {base : Heap}
def spNB (K : PySem.W.Frag) (n : Nat) : Sp := fun vs H Q _ => ∃ (v : V) (b : List St) (kd : Addr) (kvs : List (Key × V)) (ds : List (Str × Nat)) (m : Nat) (ns : List Str), vs = [v, .ref kd] ∧ Dp K H v (.tuple (dB b)) ∧ dpB b < n ∧ wfB b ∧ okB ds m ns b ∧ H kd = some (.dK kvs) ∧ Knows kvs ns ∧ kvs.length + lenB b ≤ 2000000 ∧
  ∀ H' r, Same H H' → NBr H H' r (kvs.length + lenB b) (aftB ns b) → Q r H'
def spNS (K : PySem.W.Frag) (n : Nat) : Sp := fun vs H Q _ => ∃ (v : V) (s : St) (kd : Addr) (kvs : List (Key × V)) (ds : List (Str × Nat)) (m : Nat) (ns : List Str), vs = [v, .ref kd] ∧ Dp K H v s.d ∧ dpS s ≤ n ∧ wfS s ∧ okS ds m ns s ∧ H kd = some (.dK kvs) ∧ Knows kvs ns ∧ kvs.length + lenS s ≤ 2000000 ∧
  ∀ H' r, Same H H' → (r = .ref kd ∨ NBr H H' r (kvs.length + lenS s) ns) → Q r H'
theorem scNB : FnScope ["block", "known", "statement", "expression"] ["block", "known"] (defScope S_names_behind) := ⟨rfl, rfl, rfl, by decide +kernel, rfl, by decide +kernel, by decide +kernel⟩
theorem ok_NB {n : Nat} {f fX fC fS fE : Addr} {fd fdX fdC fdS fdE : FuncData} (F : Fun K "names_behind" "names_behind" S_names_behind f fd) (hdict : mg "dict" = none)
    (GX : FnOk P w K mg base CX0 1 fX fdX ["statement"] (spExprs K)) (mX : mg "expressions_of" = some (.ref fX)) (kX : PySem.W.keepIn K (.ref fX) = true) (bX : Binds K fdX ["statement"] [])
    (GC : FnOk P w K mg base CX0 2 fC fdC ["expression", "known"] (spChkN K)) (mC : mg "check_names" = some (.ref fC)) (kC : PySem.W.keepIn K (.ref fC) = true) (bC : Binds K fdC ["expression", "known"] [])
    (GS : FnOk P w K mg base CX0 (2 * n + 2) fS fdS ["statement", "known"] (spNS K n)) (mS : mg "names_behind_blocks" = some (.ref fS)) (kS : PySem.W.keepIn K (.ref fS) = true) (bS : Binds K fdS ["statement", "known"] [])
    (GE : FnOk P w K mg base CX0 2 fE fdE ["statement"] (spEnds K)) (mE : mg "ends_all" = some (.ref fE)) (kE : PySem.W.keepIn K (.ref fE) = true) (bE : Binds K fdE ["statement"] []) :
    FnOk P w K mg base CX0 (2 * n + 2 + 1) f fd ["block", "known"] (spNB K (n + 1)) := by
  refine F.ok scNB (fun vs H Q E h => ?_) (fun cdv A outer s0 H vs Q E hr h => ?_)
  · obtain ⟨v, b, kd, kvs, ds, m, ns, rfl, _⟩ := h
    rfl
  obtain ⟨v, b, kd, kvs, ds, m, ns, rfl, hv, hd, hwf, hok, hk, kn, hlen, k⟩ := h
  have hr1 : Room 1 _ := hr.mono (by omega)
  have hr2 : Room 2 _ := hr.mono (by omega)
  refine ⟨_, pss_cons (ps_set (i := 1) scNB.nd rfl (Or.inl rfl) (pe_callTy call_dictD (by rfl) hdict (by decide +kernel) (pa_cons (pv 1) pa_nil)))
    (pss_cons (ps_for PassesOwn.never rfl (pi_tup (pv 0)) (pg_name (i := 2) scNB.nd rfl (Or.inl rfl))
      (pss_cons (ps_for PassesOwn.never rfl (pi_tup (pe_call GX hr1 rfl mX kX bX .nil pass0 (pa_cons (pv 2) pa_nil))) (pg_name (i := 3) scNB.nd rfl (Or.inl rfl))
        (pss_one (ps_expr (pe_call GC hr2 rfl mC kC bC .nil pass0 (pa_cons (pv 3) (pa_cons (pv 1) pa_nil))))))
      (C8.pss_cut (ps_if (pt_cmpR op_eq (pe_ix ix_tup (pv 2) pe_int (fun _ _ => rfl)) pe_str (nomark _))
        (pss_one (ps_dput (Nat.lt_of_le_of_lt (Nat.add_le_add_left (by decide : 1 ≤ 64) _) hr.units) (pv 1) (pe_ix ix_tup (pv 2) pe_int (fun _ _ => rfl)) pe_bl rfl))
        (pss_one (ps_set (i := 1) scNB.nd rfl (Or.inl rfl) (pe_call GS hr rfl mS kS bS .nil pass0 (pa_cons (pv 2) (pa_cons (pv 1) pa_nil))))))
      (pss_one (ps_if (PW.pt (pw_or (pt_cmp (pc_isN (pv 1))) (pw_or1 (pt_val (pe_call GE hr2 rfl mE kE bE .nil pass0 (pa_cons (pv 2) pa_nil)))))) (pss_one (ps_ret pe_non)) pss_nil)))))
    (pss_one (ps_ret (pv 1)))), ?_⟩
  obtain ⟨a, xs, rfl, hT, hA⟩ := dp_tup hv
  have el : xs.length = b.length := by rw [DpAll.length hA, dB_length]
  refine ⟨_, rfl, kd, kvs, rfl, .inl hk, fun kq nq => ?_⟩
  refine ⟨_, rfl, a, rfl, ⟨_, KT.same (same_new nq _) _ _ hT⟩, for_tup (K := K) (a := a) (xs := xs) (fun i σ H' => ∃ (kq : Addr) (kvs' : List (Key × V)) (v2 v3 : Option V), σ = [some (.ref a), some (.ref kq), v2, v3] ∧ Same H H' ∧ H kq = none ∧ H' kq = some (.dK kvs') ∧ Knows kvs' (aftB ns (b.take i)) ∧ kvs'.length ≤ kvs.length + lenB (b.take i))
    ⟨kq, kvs, none, none, rfl, same_new nq _, nq, upd_same, by rw [List.take_zero]; exact kn, Nat.le_add_right _ _⟩ (fun i σ H' _ ⟨_, _, _, _, _, s1, _⟩ => KT.same s1 _ _ hT) ?_ ?_⟩
  · rintro i y σ H3 hi ⟨kq, kvs', v2, v3, rfl, s1, nq, hkq, kn', kl⟩
    obtain ⟨d, hd1, hd2⟩ := DpAll.get hA hi
    obtain ⟨st, hst, rfl⟩ := dB_get hd1
    have hmem : st ∈ b := List.mem_of_getElem? hst
    have hdS : dpS st < n + 1 := Nat.lt_of_le_of_lt (dpB_mem hmem) hd
    have hws := wfB_get hwf hmem
    have hos := okB_get hok hst
    have etk : b.take (i + 1) = b.take i ++ [st] := by
      rw [List.take_succ, hst]
      rfl
    have ltk : lenB (b.take (i + 1)) = lenB (b.take i) + lenS st := by
      rw [etk, lenB_append]
      show _ + (lenS st + 0) = _
      omega
    have atk : aftB ns (b.take (i + 1)) = aft (aftB ns (b.take i)) st := by rw [etk, aftB_snoc]
    have hlt := lenB_take b (i + 1)
    have d3 := Dp.same s1 hd2
    refine ⟨_, rfl, y, st, rfl, d3, fun H5 p0 es s5 hT5 hE5 => ⟨p0, rfl, ⟨_, hT5⟩, for_tup (K := K) (a := p0) (xs := es) (fun j σ H' => ∃ (v3 : Option V), σ = [some (.ref a), some (.ref kq), some y, v3] ∧ Same H5 H') ⟨v3, rfl, Same.refl _⟩ (fun j σ H' _ ⟨_, _, s6⟩ => KT.same s6 _ _ hT5) ?_ ?_⟩⟩
    · rintro j z σ H6 hj ⟨v3, rfl, s6⟩
      obtain ⟨d, hd1, hd2⟩ := DpAll.get hE5 hj
      obtain ⟨e, he, rfl⟩ : ∃ e, (exsOf st)[j]? = some e ∧ d = e.d := by
        rw [List.getElem?_map] at hd1
        cases q : (exsOf st)[j]? with
        | none => rw [q] at hd1; cases hd1
        | some e => rw [q] at hd1; exact ⟨e, rfl, (Option.some.inj hd1).symm⟩
      have hme := List.mem_of_getElem? he
      exact ⟨_, rfl, _, rfl, z, e, kq, kvs', aftB ns (b.take i), rfl, Dp.same s6 hd2, (wfS_exs hws e hme).2, s6 _ _ (s5 _ _ hkq), okS_exs hos e hme, kn', fun H7 s7 => ⟨_, rfl, s6.trans s7⟩⟩
    · rintro σ H6 ⟨v3, rfl, s6⟩
      have s16 := (s1.trans s5).trans s6
      have hkq6 := s6 _ _ (s5 _ _ hkq)
      have d6 := Dp.same (s5.trans s6) d3
      refine ⟨fun σ2 H2 => ∃ (r : V) (v3 : Option V), σ2 = [some (.ref a), some r, some y, v3] ∧ Same H H2 ∧ NBr H H2 r (kvs.length + lenB (b.take (i + 1))) (aftB ns (b.take (i + 1))), ?_, ?_⟩
      · obtain ⟨t, ys, rfl, hT6, hB6⟩ := st_tup d6
        refine ⟨_, rfl, t, _, _, _, rfl, rfl, hT6, at0, rfl, _, rfl, ?_⟩
        rw [wd_let]
        cases hl : (match st with | .set _ _ => true | _ => false) with
        | true =>
          refine iteT ?_
          cases st with
          | set x e =>
            obtain ⟨w0, r0, e0, b0, hB6⟩ := dp_cons hB6
            injection e0 with e01 e02
            subst e01
            subst e02
            obtain ⟨y1, r1, rfl, b1, hB6⟩ := dp_cons hB6
            obtain rfl := dp_str b1
            have at1 : atI (V.str (wdS (.set x e)) :: V.str x :: r1) 1 = some (V.str x) := atI_nat (j := 1) rfl
            refine ⟨_, rfl, _, rfl, t, _, _, _, rfl, rfl, hT6, at1, kq, _, rfl, DPut.k (k := .inr x) hkq6 (Nat.lt_of_le_of_lt (show kvs'.length ≤ 2000000 by omega) (by decide)), ?_⟩
            refine ⟨.ref kq, _, rfl, fun c o q => by rw [upd_ne (ne_of_none q nq)]; exact s16 _ _ q, .inr ⟨kq, _, rfl, nq, upd_same, by rw [atk]; exact kn'.put, ?_⟩⟩
            have q := length_putK kvs' (.inr x) (.bl true)
            have q2 : lenS (.set x e) = 14 + pl (dpE e) := rfl
            omega
          | _ => cases hl
        | false =>
          refine iteF ?_
          have hno := aft_no hl (aftB ns (b.take i))
          refine ⟨_, rfl, _, rfl, .ref t, st, kq, kvs', ds, m, aftB ns (b.take i), rfl, d6, by omega, hws, hos, hkq6, kn', by omega, fun H7 r s7 hr7 => ?_⟩
          refine ⟨r, _, rfl, s16.trans s7, ?_⟩
          rw [atk, hno, ltk]
          rcases hr7 with rfl | rfl | ⟨p, kvs2, rfl, np, hp, kp, lp⟩
          · exact .inr ⟨kq, kvs', rfl, nq, s7 _ _ hkq6, kn', by omega⟩
          · exact .inl rfl
          · refine .inr ⟨p, kvs2, rfl, ?_, hp, kp, by omega⟩
            cases q : H p with
            | none => rfl
            | some o => rw [s16 _ _ q] at np; cases np
      · rintro σ2 H2 ⟨r, v3, rfl, s2, hr2'⟩
        have dq := Dp.same s2 hd2
        rcases hr2' with rfl | ⟨p, kvs2, rfl, np, hp, kp, lp⟩
        · refine ⟨_, rfl, _, rfl, ?_⟩
          refine iteT (iteT ?_)
          exact k H2 .non s2 (.inl rfl)
        · refine ⟨_, rfl, _, rfl, ?_⟩
          refine iteF ?_
          refine ⟨_, rfl, y, st, rfl, dq, hws, fun bb H9 s9 => ⟨bb, rfl, ?_⟩⟩
          cases bb with
          | true => exact iteT (k H9 .non (s2.trans s9) (.inl rfl))
          | false => exact iteF ⟨p, kvs2, _, _, rfl, s2.trans s9, np, s9 _ _ hp, kp, lp⟩
  · rintro σ H3 ⟨kq, kvs', v2, v3, rfl, s1, nq, hkq, kn', kl⟩
    rw [el, List.take_length] at kn' kl
    exact ⟨_, rfl, k H3 _ s1 (.inr ⟨kq, kvs', rfl, nq, hkq, kn', kl⟩)⟩
end
end KD

/-! Names known behind the blocks of a statement. -/
namespace KD
open PySem L2 TL
/-- a dict comprehension over the keys of a locked dict -/
theorem dc_keys {d : Addr} {o : Obj} {kvs : List (Key × V)} {g : TG} {tt : TT} {tk tv : TE} {vs : List Nat} {σ : L2.St} {H1 : Hp} {D : Addr} {Qd : Hp → Prop} (Pv : Nat → Hp → Prop) (h0 : Pv 0 (upd H1 D (.dK []))) (hl : ∀ i H, Pv i H → H d = some (.frz o (.dK kvs)))
    (hs : ∀ i k v H, kvs[i]? = some (k, v) → Pv i H → g (kV k) (wipe σ vs) H fun σ2 H2 => wipe σ2 vs = wipe σ vs ∧ tt σ2 H2 fun b H3 =>
      if b = true then tk σ2 H3 fun y H4 => tv σ2 H4 fun z H5 => ∃ kvs k, y = kV k ∧ H5 D = some (.dK kvs) ∧ kvs.length < sizeLine ∧ Pv (i + 1) (upd H5 D (.dK (putK kvs k z))) else Pv (i + 1) H3) (hd : ∀ H, Pv kvs.length H → Qd H) :
    ∃ W : Nat → Nat → Hp → Prop, (∃ m, W 0 m (upd H1 D (.dK []))) ∧ ∀ i m H, W i m H →
      ((Itk d o kvs).stop i H ∧ Qd H) ∨ ((Itk d o kvs).go i H ∧ ∃ Nx : Hp → Prop, (∀ H', Nx H' → ∃ m', m' < m ∧ W (i + 1) m' H') ∧ ∀ x H', (Itk d o kvs).yld i H x H' → g x (wipe σ vs) H' fun σ2 H2 => wipe σ2 vs = wipe σ vs ∧ tt σ2 H2 fun b H3 =>
        if b = true then tk σ2 H3 fun y H4 => tv σ2 H4 fun z H5 => ∃ kvs k, y = kV k ∧ H5 D = some (.dK kvs) ∧ kvs.length < sizeLine ∧ Nx (upd H5 D (.dK (putK kvs k z))) else Nx H3) := by
  refine ⟨fun i m H => m = kvs.length - i ∧ i ≤ kvs.length ∧ Pv i H, ⟨kvs.length, by simp, Nat.zero_le _, h0⟩, ?_⟩
  rintro i m H ⟨rfl, hi, p⟩
  have q := hl i H p
  by_cases hlt : i < kvs.length
  · refine .inr ⟨⟨q, hlt⟩, Pv (i + 1), fun H' p' => ⟨kvs.length - (i + 1), by omega, rfl, hlt, p'⟩, fun x H' y => ?_⟩
    obtain ⟨e, k, v, hk, ex⟩ := y
    subst e ex
    exact hs i k v _ hk p
  · have e : i = kvs.length := by omega
    subst e
    exact .inl ⟨⟨q, Nat.le_refl _⟩, hd H p⟩
theorem aft_sub {s : St} {ns : List Str} {x : Str} (h : x ∈ ns) : x ∈ aft ns s := by
  cases s with
  | set y e =>
    show x ∈ (if y ∈ ns then ns else ns ++ [y])
    split
    · exact h
    · exact List.mem_append_left _ h
  | _ => exact h
theorem aftB_sub : ∀ {b : List St} {ns : List Str} {x : Str}, x ∈ ns → x ∈ aftB ns b
  | [], _, _, h => h
  | s :: b, _, _, h => aftB_sub (b := b) (aft_sub h)
def isFor : St → Bool
  | .for_ _ _ _ _ => true | _ => false
def isWhl : St → Bool
  | .whl _ _ => true | _ => false
def isIte : St → Bool
  | .ite _ _ _ => true | _ => false
theorem wd_cmp (z : Str) (s : St) (l : List Bool) (h : (["row", "col", "say", "let", "if", "while", "for", "do", "stop"] : List Str).map (fun y => decide (V.str y = V.str z)) = l) :
    decide (V.str (wdS s) = V.str z) = (match s with | .row _ => l.getD 0 false | .col _ => l.getD 1 false | .say _ => l.getD 2 false | .set _ _ => l.getD 3 false | .ite _ _ _ => l.getD 4 false | .whl _ _ => l.getD 5 false | .for_ _ _ _ _ => l.getD 6 false | .call _ _ => l.getD 7 false | .stop => l.getD 8 false) := by
  subst h
  cases s <;> rfl
theorem wd_isFor (s : St) : decide (V.str (wdS s) = V.str "for") = isFor s := by
  rw [wd_cmp "for" s [false, false, false, false, false, false, true, false, false] (by decide +kernel)]
  cases s <;> rfl
theorem wd_isWhl (s : St) : decide (V.str (wdS s) = V.str "while") = isWhl s := by
  rw [wd_cmp "while" s [false, false, false, false, false, true, false, false, false] (by decide +kernel)]
  cases s <;> rfl
theorem wd_isIte (s : St) : decide (V.str (wdS s) = V.str "if") = isIte s := by
  rw [wd_cmp "if" s [false, false, false, false, true, false, false, false, false] (by decide +kernel)]
  cases s <;> rfl
theorem NBr.mono {H H1 H2 : Hp} {r : V} {m m' : Nat} {ns ns' : List Str} (h : NBr H H1 r m ns) (k : ∀ p kvs, H1 p = some (.dK kvs) → H2 p = some (.dK kvs)) (hm : m ≤ m') (hn : ∀ x ∈ ns', x ∈ ns) : NBr H H2 r m' ns' := by
  rcases h with h | ⟨p, kvs, h1, h2, h3, h4, h5⟩
  · exact .inl h
  · exact .inr ⟨p, kvs, h1, h2, k _ _ h3, fun x hx => h4 x (hn x hx), by omega⟩
section
variable {P : Program} {w : World} {K : PySem.W.Frag} {mg : Str → Option Value} {base : Heap}
abbrev nsN : List Str := ["statement", "known", "inner", "ways", "block", "way", "name"]
theorem scNS : FnScope nsN ["statement", "known"] (defScope S_names_behind_blocks) := ⟨rfl, rfl, rfl, by decide +kernel, rfl, by decide +kernel, by decide +kernel⟩
theorem ok_NS {n : Nat} {f fB fW : Addr} {fd fdB fdW : FuncData} (F : Fun K "names_behind_blocks" "names_behind_blocks" S_names_behind_blocks f fd) (hdict : mg "dict" = none)
    (GB : FnOk P w K mg base CX0 1 fB fdB ["statement"] (spBlocks K)) (mB : mg "blocks_of" = some (.ref fB)) (kB : PySem.W.keepIn K (.ref fB) = true) (bB : Binds K fdB ["statement"] [])
    (GW : FnOk P w K mg base CX0 (2 * n + 1) fW fdW ["block", "known"] (spNB K n)) (mW : mg "names_behind" = some (.ref fW)) (kW : PySem.W.keepIn K (.ref fW) = true) (bW : Binds K fdW ["block", "known"] []) :
    FnOk P w K mg base CX0 (2 * n + 1 + 1) f fd ["statement", "known"] (spNS K n) := by
  refine F.ok scNS (fun vs H Q E h => ?_) (fun cdv A outer s0 H vs Q E hr h => ?_)
  · obtain ⟨v, b, kd, kvs, ds, m, ns, rfl, _⟩ := h
    rfl
  obtain ⟨v, s, kd, kvs, ds, m, ns, rfl, hv, hd, hwf, hok, hk, kn, hlen, k⟩ := h
  have hr1 : Room 1 _ := hr.mono (by omega)
  refine ⟨_, C8.pss_cut (ps_if (pt_cmpR op_eq (pe_ix ix_tup (pv 0) pe_int (fun _ _ => rfl)) pe_str (nomark _))
      (pss_cons (ps_set (i := 2) scNS.nd rfl (Or.inl rfl) (pe_callTy call_dictD (by rfl) hdict (by decide +kernel) (pa_cons (pv 1) pa_nil)))
      (pss_cons (ps_dput (Nat.lt_of_le_of_lt (Nat.add_le_add_left (by decide : 1 ≤ 64) _) hr.units) (pv 2) (pe_ix ix_tup (pv 0) pe_int (fun _ _ => rfl)) pe_bl rfl)
      (pss_one (ps_expr (pe_call GW hr rfl mW kW bW .nil pass0 (pa_cons (pe_ix ix_tup (pv 0) pe_int (fun _ _ => rfl)) (pa_cons (pv 2) pa_nil))))))) pss_nil)
    (C8.pss_cut (ps_if (pt_cmpR op_eq (pe_ix ix_tup (pv 0) pe_int (fun _ _ => rfl)) pe_str (nomark _))
      (pss_one (ps_expr (pe_call GW hr rfl mW kW bW .nil pass0 (pa_cons (pe_ix ix_tup (pv 0) pe_int (fun _ _ => rfl)) (pa_cons (pv 1) pa_nil))))) pss_nil)
    (pss_cons (ps_if (pt_cmpR op_ne (pe_ix ix_tup (pv 0) pe_int (fun _ _ => rfl)) pe_str (nomark _)) (pss_one (ps_ret (pv 1))) pss_nil)
    (pss_cons (ps_set (i := 3) scNS.nd rfl (Or.inr rfl) (pe_lc (own := [("block", 4)]) (g := gName 4) rfl scNS.nd (pi_tup (pe_call GB hr1 rfl mB kB bB .nil pass0 (pa_cons (pv 0) pa_nil)))
      (blkOk_by (own := [("block", 4)]) (N := nsN) (sc := defScope S_names_behind_blocks) (by decide +kernel)) (fun _ _ _ _ _ => pg_name (i := 4) scNS.nd rfl (Or.inl rfl)) (fun _ _ _ _ _ => pts_nil)
      (fun _ _ _ _ _ => pe_call GW hr rfl mW kW bW .nil pass0 (pa_cons (pv 4) (pa_cons (pv 1) pa_nil)))))
    (pss_cons (ps_set (i := 3) scNS.nd rfl (Or.inr rfl) (pe_lc (own := [("way", 5)]) (g := gName 5) rfl scNS.nd (pi_list (pv 3))
      (blkOk_by (own := [("way", 5)]) (N := nsN) (sc := defScope S_names_behind_blocks) (by decide +kernel)) (fun _ _ _ _ _ => pg_name (i := 5) scNS.nd rfl (Or.inl rfl)) (fun _ _ _ _ _ => pts_one (pt_cmp (pc_notN (pv 5))))
      (fun _ _ _ _ _ => pv 5)))
    (pss_cons (ps_if (pt_not (pt_truth (pv 3) (by intro _; rfl))) (pss_one (ps_ret pe_non)) pss_nil)
    (pss_one (ps_ret (pe_lock (pe_dc (own := [("name", 6)]) (g := gName 6) rfl scNS.nd (pi_keys (pe_ix ix_list (pv 3) pe_int (fun _ _ => rfl)))
      (blkOk_by (own := [("name", 6)]) (N := nsN) (sc := defScope S_names_behind_blocks) (by decide +kernel)) (fun _ _ _ _ _ => pg_name (i := 6) scNS.nd rfl (Or.inl rfl))
      (fun _ _ _ _ _ => pts_one (pt_cmp (pc_din (Nat.lt_of_le_of_lt (Nat.add_le_add_left (by decide : 1 ≤ 64) _) hr.units) (pv 6) (pe_ix (r := rIxL K) ix_list (pv 3) (pe_un un_neg pe_int) (fun _ _ => rfl)))))
      (fun _ _ _ _ _ => pv 6) (fun _ _ _ _ _ => pe_bl)))))))))), ?_⟩
  obtain ⟨a, ys, rfl, hT, hB⟩ := st_tup hv
  refine ⟨fun σ2 H2 => ∃ v2 : Option V, σ2 = [some (.ref a), some (.ref kd), v2, none, none, none, none] ∧ Same H H2, ?_, ?_⟩
  · refine ⟨_, rfl, a, _, _, _, rfl, rfl, hT, at0, rfl, _, rfl, ?_⟩
    rw [wd_isFor]
    cases hf : isFor s with
    | false => exact iteF ⟨none, rfl, Same.refl _⟩
    | true =>
      refine iteT ?_
      cases s with
      | for_ x c e b =>
        obtain ⟨w0, r0, e0, b0, hB⟩ := dp_cons hB
        injection e0 with e01 e02
        subst e01
        subst e02
        obtain ⟨y1, r1, rfl, b1, hB⟩ := dp_cons hB
        obtain ⟨y2, r2, rfl, b2, hB⟩ := dp_cons hB
        obtain ⟨y3, r3, rfl, b3, hB⟩ := dp_cons hB
        obtain ⟨y4, r4, rfl, b4, hB⟩ := dp_cons hB
        obtain rfl := dp_str b1
        have at1 : atI (V.str (wdS (.for_ x c e b)) :: V.str x :: y2 :: y3 :: y4 :: r4) 1 = some (V.str x) := atI_nat (j := 1) rfl
        have at4 : atI (V.str (wdS (.for_ x c e b)) :: V.str x :: y2 :: y3 :: y4 :: r4) 4 = some y4 := atI_nat (j := 4) rfl
        have hdb : dpB b + 1 ≤ n := hd
        have hlS : lenS (.for_ x c e b) = 30 + pl (dpE c) + pl (dpE e) + lenB b := rfl
        refine ⟨_, rfl, kd, kvs, rfl, .inl hk, fun iq nq => ?_⟩
        have s1 := same_new nq (.dK kvs)
        have q1 := length_putK kvs (.inr x) (.bl true)
        refine ⟨_, rfl, _, rfl, a, _, _, _, rfl, rfl, KT.same s1 _ _ hT, at1, iq, _, rfl, DPut.k (k := .inr x) upd_same (Nat.lt_of_le_of_lt (show kvs.length ≤ 2000000 by omega) (by decide)), ?_⟩
        have s2 : Same H (upd (upd H iq (.dK kvs)) iq (.dK (putK kvs (.inr x) (.bl true)))) := by rw [upd_upd]; exact same_new nq _
        have i2 : (upd (upd H iq (.dK kvs)) iq (.dK (putK kvs (.inr x) (.bl true)))) iq = some (.dK (putK kvs (.inr x) (.bl true))) := upd_same
        generalize upd (upd H iq (.dK kvs)) iq (.dK (putK kvs (.inr x) (.bl true))) = H2 at s2 i2 ⊢
        obtain ⟨m', rfl⟩ : ∃ m', m = m' + 1 := by
          cases m with
          | zero => unfold okS at hok; exact hok.elim
          | succ m' => exact ⟨m', rfl⟩
        unfold okS at hok
        exact ⟨_, rfl, a, _, _, _, rfl, rfl, KT.same s2 _ _ hT, at4, _, rfl, y4, b, iq, _, ds, m', _, rfl, Dp.same s2 b4, by omega, hwf.2.2.2, hok.2.2.2.2, i2, kn.put, by omega, fun H3 r s3 _ => ⟨_, rfl, s2.trans s3⟩⟩
      | _ => cases hf
  rintro σ2 H1 ⟨v2, rfl, s1⟩
  have hT1 := KT.same s1 _ _ hT
  have hk1 := s1 _ _ hk
  refine ⟨fun σ2 H2 => σ2 = [some (.ref a), some (.ref kd), v2, none, none, none, none] ∧ Same H H2, ?_, ?_⟩
  · refine ⟨_, rfl, a, _, _, _, rfl, rfl, hT1, at0, rfl, _, rfl, ?_⟩
    rw [wd_isWhl]
    cases hf : isWhl s with
    | false => exact iteF ⟨rfl, s1⟩
    | true =>
      refine iteT ?_
      cases s with
      | whl c b =>
        obtain ⟨w0, r0, e0, b0, hB⟩ := dp_cons hB
        injection e0 with e01 e02
        subst e01
        subst e02
        obtain ⟨y1, r1, rfl, b1, hB⟩ := dp_cons hB
        obtain ⟨y2, r2, rfl, b2, hB⟩ := dp_cons hB
        have at2 : atI (V.str (wdS (.whl c b)) :: y1 :: y2 :: r2) 2 = some y2 := atI_nat (j := 2) rfl
        have hdb : dpB b + 1 ≤ n := hd
        have hlS : lenS (.whl c b) = 20 + pl (dpE c) + lenB b := rfl
        obtain ⟨m', rfl⟩ : ∃ m', m = m' + 1 := by
          cases m with
          | zero => unfold okS at hok; exact hok.elim
          | succ m' => exact ⟨m', rfl⟩
        unfold okS at hok
        exact ⟨_, rfl, a, _, _, _, rfl, rfl, hT1, at2, _, rfl, y2, b, kd, kvs, ds, m', ns, rfl, Dp.same s1 b2, by omega, hwf.2, hok.2.2.2, hk1, kn, by omega, fun H3 r s3 _ => ⟨rfl, s1.trans s3⟩⟩
      | _ => cases hf
  rintro σ2 H2 ⟨rfl, s2⟩
  have hT2 := KT.same s2 _ _ hT
  have hk2 := s2 _ _ hk
  refine ⟨_, rfl, a, _, _, _, rfl, rfl, hT2, at0, rfl, _, rfl, ?_⟩
  rw [wd_isIte]
  cases hf : isIte s with
  | false => exact iteT ⟨_, rfl, k H2 _ s2 (.inl rfl)⟩
  | true =>
    refine iteF ?_
    have hvs := hv
    cases s with
    | ite c b1 b2 =>
      have hlS : lenS (.ite c b1 b2) = 20 + pl (dpE c) + lenB b1 + lenB b2 := rfl
      have hdS : max (dpB b1) (dpB b2) + 1 ≤ n := hd
      obtain ⟨m', rfl⟩ : ∃ m', m = m' + 1 := by
        cases m with
        | zero => unfold okS at hok; exact hok.elim
        | succ m' => exact ⟨m', rfl⟩
      unfold okS at hok
      have hblk : ∀ b ∈ blksOf (.ite c b1 b2), dpB b < n ∧ wfB b ∧ okB ds m' ns b ∧ lenB b ≤ lenS (.ite c b1 b2) := fun b hb => by
        rcases List.mem_cons.mp hb with rfl | hb
        · exact ⟨by omega, hwf.2.1, hok.2.2.1.2, by omega⟩
        · rw [List.mem_singleton.mp hb]
          exact ⟨by omega, hwf.2.2, hok.2.2.2.2, by omega⟩
      refine ⟨_, rfl, .ref a, .ite c b1 b2, rfl, Dp.same s2 hv, fun H5 p0 bs s5 hT5 hB5 => ⟨p0, rfl, ⟨_, hT5⟩, fun D hD => ?_⟩⟩
      have s25 := s2.trans s5
      have hk5 := s5 _ _ hk2
      refine lc_tup (a := p0) (xs := bs) (fun i H' => ∃ acc : List V, H' D = some (.lst acc) ∧ acc.length = i ∧ Same H5 H' ∧ ∀ r ∈ acc, NBr H H' r (kvs.length + lenS (.ite c b1 b2)) ns) ⟨[], upd_same, rfl, same_new hD _, fun r hr => nomatch hr⟩ (fun i H' _ ⟨_, _, _, s6, _⟩ => KT.same s6 _ _ hT5) ?_ ?_
      · rintro i z H6 hi ⟨acc, hD6, hal, s6, hacc⟩
        obtain ⟨d, hd1, hd2⟩ := DpAll.get hB5 hi
        obtain ⟨ib, hib, rfl⟩ : ∃ ib, (blksOf (.ite c b1 b2))[i]? = some ib ∧ d = .tuple (dB ib) := by
          rw [List.getElem?_map] at hd1
          cases q : (blksOf (.ite c b1 b2))[i]? with
          | none => rw [q] at hd1; cases hd1
          | some e => rw [q] at hd1; exact ⟨e, rfl, (Option.some.inj hd1).symm⟩
        obtain ⟨g1, g2, g3, g4⟩ := hblk ib (List.mem_of_getElem? hib)
        have hil : i < 2 := (List.getElem?_eq_some_iff.mp hib).1
        refine ⟨rfl, ?_⟩
        unfold tYes
        refine iteT ?_
        refine ⟨_, rfl, _, rfl, z, ib, kd, kvs, ds, m', ns, rfl, Dp.same s6 hd2, g1, g2, g3, s6 _ _ hk5, kn, by omega, fun H7 r s7 hr7 => ?_⟩
        have hD7 := s7 _ _ hD6
        refine ⟨acc, hD7, Nat.lt_of_le_of_lt (show acc.length ≤ 2 by omega) (by decide), acc ++ [r], upd_same, by rw [List.length_append, hal]; rfl, fun b o q => ?_, fun r' hr' => ?_⟩
        · rw [upd_ne (ne_of_none q hD)]
          exact s7 _ _ (s6 _ _ q)
        · have up : ∀ p kvs, H7 p = some (.dK kvs) → (upd H7 D (.lst (acc ++ [r]))) p = some (.dK kvs) := fun p kvs q => by
            rw [upd_ne (fun e => by rw [e, hD7] at q; cases q)]
            exact q
          rcases List.mem_append.mp hr' with q | q
          · exact (hacc r' q).mono (fun p kvs q => up _ _ (s7 _ _ q)) (Nat.le_refl _) fun x hx => hx
          · rw [List.mem_singleton.mp q]
            have nb : NBr H H7 r (kvs.length + lenB ib) (aftB ns ib) := by
              rcases hr7 with q | ⟨p, kv, h1, h2, h3, h4, h5⟩
              · exact .inl q
              · refine .inr ⟨p, kv, h1, ?_, h3, h4, h5⟩
                cases q0 : H p with
                | none => rfl
                | some o => rw [s6 _ _ (s25 _ _ q0)] at h2; cases h2
            exact nb.mono up (by omega) fun x hx => aftB_sub hx
      · rintro H6 ⟨acc, hD6, hal, s6, hacc⟩
        have abl : acc.length ≤ 2 := by
          rw [hal, DpAll.length hB5, List.length_map]
          exact Nat.le_refl _
        have s26 := s25.trans s6
        -- those that are not None
        refine ⟨_, rfl, D, rfl, ⟨acc, SqL.of hD6⟩, fun D2 hD2 => ?_⟩
        refine lc_list (a := D) (xs := acc) (fun i H' => ∃ acc2 : List V, H' D2 = some (.lst acc2) ∧ acc2.length ≤ i ∧ Same H6 H' ∧ ∀ r ∈ acc2, r ≠ .non ∧ r ∈ acc) ⟨[], upd_same, Nat.le_refl _, same_new hD2 _, fun r hr => nomatch hr⟩ (fun i H' _ ⟨_, _, _, s7, _⟩ => SqL.of (s7 _ _ hD6)) ?_ ?_
        · rintro i z H7 hi ⟨acc2, h2, hl2, s7, hin⟩
          refine ⟨rfl, _, rfl, _, rfl, ?_⟩
          have hza : z ∈ acc := List.mem_of_getElem? hi
          by_cases hz : z = .non
          · rw [show decide (z = V.non) = true from decide_eq_true hz]
            exact iteF ⟨acc2, h2, by omega, s7, hin⟩
          · rw [show decide (z = V.non) = false from decide_eq_false hz]
            refine iteT ?_
            have hil : i < acc.length := (List.getElem?_eq_some_iff.mp hi).1
            refine ⟨_, rfl, acc2, h2, Nat.lt_of_le_of_lt (show acc2.length ≤ 2 by omega) (by decide), acc2 ++ [z], upd_same, by rw [List.length_append, List.length_singleton]; omega, fun b o q => ?_, fun r hr => ?_⟩
            · rw [upd_ne (ne_of_none q hD2)]
              exact s7 _ _ q
            · rcases List.mem_append.mp hr with q | q
              · exact hin r q
              · rw [List.mem_singleton.mp q]
                exact ⟨hz, hza⟩
        · rintro H7 ⟨acc2, h2, hl2, s7, hin⟩
          have s27 := s26.trans s7
          have dict : ∀ r ∈ acc2, ∃ p kv, r = .ref p ∧ H7 p = some (.dK kv) ∧ Knows kv ns ∧ kv.length ≤ kvs.length + lenS (.ite c b1 b2) := fun r hr => by
            obtain ⟨q1, q2⟩ := hin r hr
            rcases hacc r q2 with q | ⟨p, kv, h1, _, h3, h4, h5⟩
            · exact absurd q q1
            · exact ⟨p, kv, h1, s7 _ _ h3, h4, h5⟩
          cases acc2 with
          | nil => exact ⟨_, rfl, false, .inl ⟨[], SqL.of h2, rfl⟩, iteT (k H7 .non s27 (.inr (.inl rfl)))⟩
          | cons r0 rest =>
            refine ⟨_, rfl, true, .inl ⟨r0 :: rest, SqL.of h2, rfl⟩, iteF ?_⟩
            obtain ⟨p0', kv0, rfl, hp0, kn0, kl0⟩ := dict r0 List.mem_cons_self
            obtain ⟨pre, rl, epre⟩ : ∃ pre rl, V.ref p0' :: rest = pre ++ [rl] := ⟨_, _, (List.dropLast_concat_getLast (List.cons_ne_nil _ _)).symm⟩
            obtain ⟨pl', kvl, erl, hpl, knl, _⟩ := dict rl (by rw [epre]; exact List.mem_append_right _ List.mem_cons_self)
            subst erl
            refine ⟨p0', .dK kv0, hp0, True.intro, fun od => ?_⟩
            have hl0 : (upd H7 p0' (.frz od (.dK kv0))) p0' = some (.frz od (.dK kv0)) := upd_same
            have hlD : (upd H7 p0' (.frz od (.dK kv0))) D2 = some (.lst (V.ref p0' :: rest)) := by
              rw [upd_ne (fun e => by rw [e, hp0] at h2; cases h2)]
              exact h2
            have hlR : L2.Rd (upd H7 p0' (.frz od (.dK kv0))) pl' (.dK kvl) := by
              by_cases e : pl' = p0'
              · subst e
                rw [hp0] at hpl
                cases hpl
                exact .inr ⟨od, hl0⟩
              · exact .inl (by rw [upd_ne e]; exact hpl)
            have back : ∀ {H' : Hp}, Same (upd H7 p0' (.frz od (.dK kv0))) H' → Same H7 (upd H' p0' (.dK kv0)) := fun {H'} s b o q => by
              by_cases e : b = p0'
              · rw [e, hp0] at q
                rw [e, upd_same]
                exact q
              · rw [upd_ne e]
                exact s _ _ (by rw [upd_ne e]; exact q)
            have fresh : ∀ {b : Addr}, (upd H7 p0' (.frz od (.dK kv0))) b = none → H b = none ∧ b ≠ p0' := fun {b} q => by
              have e : b ≠ p0' := fun e => by rw [e, hl0] at q; cases q
              rw [upd_ne e] at q
              refine ⟨?_, e⟩
              cases q0 : H b with
              | none => rfl
              | some o => rw [s27 _ _ q0] at q; cases q
            generalize upd H7 p0' (.frz od (.dK kv0)) = Hl at hl0 hlD hlR back fresh ⊢
            refine ⟨_, rfl, D2, _, _, _, rfl, rfl, SqL.of hlD, at0, p0', od, rfl, .inl ⟨kv0, hl0, fun DD hDD => ?_⟩⟩
            refine dc_keys (fun i H' => ∃ kv : List (Key × V), H' DD = some (.dK kv) ∧ kv.length ≤ i ∧ Same Hl H' ∧ ∀ (j : Nat) (x : Str) (v : V), j < i → kv0[j]? = some (.inr x, v) → (valV kvl (.inr x)).isSome = true → (valV kv (.inr x)).isSome = true)
              ⟨[], upd_same, Nat.le_refl _, same_new hDD _, fun j _ _ hj => absurd hj (Nat.not_lt_zero _)⟩ (fun i H' ⟨_, _, _, s8, _⟩ => s8 _ _ hl0) ?_ ?_
            · rintro i ky vy H8 hi ⟨kv, h8, l8, s8, hin8⟩
              have hil : i < kv0.length := (List.getElem?_eq_some_iff.mp hi).1
              refine ⟨rfl, _, rfl, _, rfl, 1, rfl, D2, V.ref p0' :: rest, -1, V.ref pl', rfl, rfl, SqL.of (s8 _ _ hlD), by rw [epre]; exact atI_last _ _, pl', valV kvl ky, rfl, .inl ⟨kvl, ky, ?_, rfl, rfl⟩, _, rfl, ?_⟩
              · rcases hlR with q | ⟨o, q⟩
                · exact .inl (s8 _ _ q)
                · exact .inr ⟨o, s8 _ _ q⟩
              · cases hsm : (valV kvl ky).isSome with
                | false =>
                  refine iteF ⟨kv, h8, by omega, s8, fun j x v hj e1 e2 => ?_⟩
                  by_cases ej : j = i
                  · subst ej
                    rw [hi] at e1
                    cases e1
                    rw [hsm] at e2
                    cases e2
                  · exact hin8 j x v (by omega) e1 e2
                | true =>
                  refine iteT ?_
                  have q1 := length_putK kv ky (.bl true)
                  refine ⟨_, rfl, kv, ky, rfl, h8, Nat.lt_of_le_of_lt (show kv.length ≤ 2000000 by omega) (by decide), putK kv ky (.bl true), upd_same, by omega, fun b o q => ?_, fun j x v hj e1 e2 => ?_⟩
                  · rw [upd_ne (ne_of_none q hDD)]
                    exact s8 _ _ q
                  · rw [valV_put]
                    by_cases ek : (.inr x : Key) = ky
                    · rw [if_pos ek]; rfl
                    · rw [if_neg ek]
                      by_cases ej : j = i
                      · subst ej
                        rw [hi] at e1
                        cases e1
                        exact absurd rfl ek
                      · exact hin8 j x v (by omega) e1 e2
            · rintro H8 ⟨kv, h8, l8, s8, hin8⟩
              obtain ⟨nDD, neD⟩ := fresh hDD
              refine ⟨s8 _ _ hl0, ?_⟩
              refine k _ (.ref DD) (s27.trans (back s8)) (.inr (.inr ⟨DD, kv, rfl, nDD, by rw [upd_ne neD]; exact h8, fun x hx => ?_, by omega⟩))
              have e1 := kn0 x hx
              have e2 := knl x hx
              obtain ⟨j, v, hj⟩ : ∃ j v, kv0[j]? = some ((.inr x : Key), v) := by
                unfold valV at e1
                cases q : kv0.find? (fun kv => decide (kv.1 = (.inr x : Key))) with
                | none => rw [q] at e1; cases e1
                | some w =>
                  have q1 := List.find?_some q
                  obtain ⟨j, hj, e⟩ := List.getElem_of_mem (List.mem_of_find?_eq_some q)
                  refine ⟨j, w.2, ?_⟩
                  rw [List.getElem?_eq_getElem hj, e, ← of_decide_eq_true q1]
              exact hin8 j x v (List.getElem?_eq_some_iff.mp hj).1 hj e2
    | _ => cases hf
end
end KD

/-! x = {k: v for ..}, x a local. -/
namespace ET
open PySem PySem.Spec PyProof.Rows L2
section
variable {X : Cx}
theorem ps_setDc {i : Nat} {y : Str} {py : Pos} {kx vx tg iter : Expr} {ifs : List Expr} {scope : Scope} {own : List (Str × Nat)} {pos spos : Pos} {wi : TI} {g : TG} {tt : TT} {tk tv : TE} (hc : X.calm = true) (hN : X.N.Nodup) (hy : X.N[i]? = some y) (hyl : X.env.scope.names.lookup y = some .local)
    (hsw : swapsWith (.DictComp kx vx [⟨tg, iter, ifs, 0⟩] scope pos) (some (.Name y py)) spos.line X.env = pure true) (hi : PI X tg iter wi) (ok : BlkOk X.N X.env.scope scope own)
    (hg : ∀ (s : Shared) (H : Hp) (C : Addr) (cl : List (Str × Addr)) (fp : List Addr), PG (X.blk s H scope (compEnvC scope cl C X.env) fp) tg g) (ht : ∀ (s : Shared) (H : Hp) (C : Addr) (cl : List (Str × Addr)) (fp : List Addr), PTs (X.blk s H scope (compEnvC scope cl C X.env) fp) ifs tt)
    (hk : ∀ (s : Shared) (H : Hp) (C : Addr) (cl : List (Str × Addr)) (fp : List Addr), PE (X.blk s H scope (compEnvC scope cl C X.env) fp) kx tk)
    (he : ∀ (s : Shared) (H : Hp) (C : Addr) (cl : List (Str × Addr)) (fp : List Addr), PE (X.blk s H scope (compEnvC scope cl C X.env) fp) vx tv) (hs : ∀ x, foldedSetIterable iter X.env x = pure x := by intro _; rfl) :
    PS X (.Assign [.Name y py] (.DictComp kx vx [⟨tg, iter, ifs, 0⟩] scope pos) spos) (tAsg (tDc wi g tt tk tv (own.map (·.2))) (gName i)) := by
  refine ⟨fun pins s σ H D I h => ?_⟩
  rw [exec_Assign_Name_used _ _ _ _ hsw]
  refine wpAny_bind (wpAny_standAt (wpAny_bind ?_))
  show wpAny _ X.A (do let _ ← comprehension (.DictComp kx vx [⟨tg, iter, ifs, 0⟩] scope pos) scope X.env (firstIterPos [⟨tg, iter, ifs, 0⟩] pos) newDict false (eval iter X.env) (some (assign (.Name y py) X.env))) _ _ s
  have h : tDc wi g tt tk tv (own.map (·.2)) σ H (fun x H1 => gName i x σ H1 D.nx) := h
  refine wpAny_bind (thn (dc_core (Qf := fun _ s' => SP X pins D .next s') hc hN I hi ok hg ht hk he hs h fun L C s' m H' I' q hn f => ?_) fun _ s' hq => wpAny_pure (wpAny_pure hq))
  show wpAny _ _ (assign (.Name y py) X.env (.ref L)) _ _ _
  refine wpAny_assign_Name (store_ok2 (v := V.ref L) I' hN hy (.inl hyl) rfl (fun s2 I2 ⟨a, sb, ha⟩ => ?_) (.inr hyl))
  obtain ⟨f0, f1, f2, f3, f4, f5⟩ := f
  have haC : C ≠ a := by
    rcases ha with z | z
    · rw [z]; exact f1
    · exact fun e => f4 y a z e.symm
  refine ⟨m, hn.sameBut sb haC, fun h3 sb3 => ?_⟩
  exact ⟨_, H', I2.turned (t' := s2.toks) (fun b o hb e => (sb3.2 b hb).trans e) f0 f1 f3 f4 f5, q⟩
theorem sw_dict {kx vx : Expr} {gs : List Comprehension} {scope : Scope} {pos py : Pos} {y : Str} {l : Nat} {env : Env} (hk : env.scope.kind = .function) (hy : env.scope.names.lookup y = some .local) (hl : (py.line == pos.line) = true)
    (ha : (scope.names.any fun (n, k) => n == y && (k == .local || k == .cell)) = false) : swapsWith (.DictComp kx vx gs scope pos) (some (.Name y py)) l env = pure true := by
  have ky : env.kindOf y = some .local := hy
  have hb : env.blockKind = .function := by unfold Env.blockKind; rw [hk]; rfl
  unfold swapsWith
  simp only [hb, ky, ha, Expr.pos, hl]
  rfl
end
end ET

/-! Calls checked, programs checked. -/
namespace KD
open PySem L2 TL
def isCall : St → Bool
  | .call _ _ => true | _ => false
theorem wd_isCall (s : St) : decide (V.str (wdS s) = V.str "do") = isCall s := by
  rw [wd_cmp "do" s [false, false, false, false, false, false, false, true, false] (by decide +kernel)]
  cases s <;> rfl
theorem lenDs_ge : ∀ fs : List Df, fs.length ≤ lenDs fs
  | [] => Nat.le_refl _
  | f :: fs => by
    have h := lenDs_ge fs
    show fs.length + 1 ≤ 100 + lenB f.body + lenDs fs
    omega
section
variable {P : Program} {w : World} {K : PySem.W.Frag} {mg : Str → Option Value} {base : Heap}
theorem ok_NBall {fX fC fE fB fN fS : Addr} {fdX fdC fdE fdB fdN fdS : FuncData} (FN : Fun K "names_behind" "names_behind" S_names_behind fN fdN) (FS : Fun K "names_behind_blocks" "names_behind_blocks" S_names_behind_blocks fS fdS) (hdict : mg "dict" = none)
    (GX : FnOk P w K mg base CX0 1 fX fdX ["statement"] (spExprs K)) (mX : mg "expressions_of" = some (.ref fX)) (kX : PySem.W.keepIn K (.ref fX) = true) (bX : Binds K fdX ["statement"] [])
    (GC : FnOk P w K mg base CX0 2 fC fdC ["expression", "known"] (spChkN K)) (mC : mg "check_names" = some (.ref fC)) (kC : PySem.W.keepIn K (.ref fC) = true) (bC : Binds K fdC ["expression", "known"] [])
    (GE : FnOk P w K mg base CX0 2 fE fdE ["statement"] (spEnds K)) (mE : mg "ends_all" = some (.ref fE)) (kE : PySem.W.keepIn K (.ref fE) = true) (bE : Binds K fdE ["statement"] [])
    (GB : FnOk P w K mg base CX0 1 fB fdB ["statement"] (spBlocks K)) (mB : mg "blocks_of" = some (.ref fB)) (kB : PySem.W.keepIn K (.ref fB) = true) (bB : Binds K fdB ["statement"] [])
    (mN : mg "names_behind" = some (.ref fN)) (bN : Binds K fdN ["block", "known"] []) (mS : mg "names_behind_blocks" = some (.ref fS)) (bS : Binds K fdS ["statement", "known"] []) :
    ∀ n : Nat, FnOk P w K mg base CX0 (2 * n + 1) fN fdN ["block", "known"] (spNB K n)
  | 0 => by
    have no : ∀ vs H Q E, ¬ spNB K 0 vs H Q E := fun vs H Q E h => by
      obtain ⟨v, b, kd, kvs, ds, m, ns, _, _, h1, _⟩ := h
      omega
    exact ⟨fun vs H Q E h => absurd h (no vs H Q E), fun A outer s H args us vs Q E _ _ _ _ h => absurd h (no vs H Q E)⟩
  | n + 1 => ok_NB FN hdict GX mX kX bX GC mC kC bC (ok_NS FS hdict GB mB kB bB (ok_NBall FN FS hdict GX mX kX bX GC mC kC bC GE mE kE bE GB mB kB bB mN bN mS bS n) mN FN.kp bN) mS FS.kp bS GE mE kE bE
/-! ### calls -/
structure ClOk (p : Pr) : Prop where
  nd : (p.defs.map Df.name).Nodup
  fit : ∀ s ∈ stsD p.defs ++ stsB p.body, ∀ f es, s = .call f es → (f, es.length) ∈ p.defs.map fun d => (d.name, d.args.length)
def spCalls (K : PySem.W.Frag) (n : Nat) : Sp := fun vs H Q _ => ∃ (v : V) (p : Pr), vs = [v] ∧ Dp K H v p.d ∧ (∀ f ∈ p.defs, dpB f.body < n) ∧ dpB p.body < n ∧ lenP p ≤ 1000000 ∧ ClOk p ∧ ∀ H', Same H H' → Q .non H'
abbrev rLen (K : PySem.W.Frag) : List V → Hp → VK → Prop := fun xs H Q => ∃ p ys, xs = [V.ref p] ∧ (SqL K H p ys ∨ SqT K H p ys) ∧ Q (.int (ys.length : Nat)) H
abbrev ccN : List Str := ["tree", "definitions", "statements", "counts", "name", "arguments", "block", "statement"]
theorem scCC : FnScope ccN ["tree"] (defScope S_check_calls) := ⟨rfl, rfl, rfl, by decide +kernel, rfl, by decide +kernel, by decide +kernel⟩
theorem ok_calls {n : Nat} {f fA : Addr} {fd fdA : FuncData} (F : Fun K "check_calls" "check_calls" S_check_calls f fd) (T : Blt mg)
    (GA : FnOk P w K mg base CX0 (n + 2 + 1) fA fdA ["tree"] (spAllSt K n)) (mA : mg "all_statements" = some (.ref fA)) (kA : PySem.W.keepIn K (.ref fA) = true) (bA : Binds K fdA ["tree"] []) :
    FnOk P w K mg base CX0 (n + 2 + 1 + 1) f fd ["tree"] (spCalls K n) := by
  refine F.ok scCC (fun vs H Q E h => ?_) (fun cdv A outer s0 H vs Q E hr h => ?_)
  · obtain ⟨v, b, rfl, _⟩ := h
    rfl
  obtain ⟨v, p, rfl, hv, hd, hdb, hlen, hc, k⟩ := h
  refine ⟨_, pss_cons (ps_asg (pv 0) (pg_tup rfl (pgs_cons (pg_name (i := 1) scCC.nd rfl (Or.inl rfl)) (pgs_cons (pg_name (i := 2) scCC.nd rfl (Or.inl rfl)) pgs_nil))))
    (pss_cons (ET.ps_setDc (i := 3) (own := [("name", 4), ("arguments", 5), ("block", 6)]) (g := gTup K 3 (gCons (gName 4) (gCons (gName 5) (gCons (gName 6) gNil)))) (tv := tCB (rLen K) (tCons (tVar 5) tNil)) rfl scCC.nd rfl rfl (ET.sw_dict rfl rfl rfl (by decide +kernel)) (pi_tup (pv 1))
      (blkOk_by (own := [("name", 4), ("arguments", 5), ("block", 6)]) (N := ccN) (sc := defScope S_check_calls) (by decide +kernel))
      (fun _ _ _ _ _ => pg_tup rfl (pgs_cons (pg_name (i := 4) scCC.nd rfl (Or.inl rfl)) (pgs_cons (pg_name (i := 5) scCC.nd rfl (Or.inl rfl)) (pgs_cons (pg_name (i := 6) scCC.nd rfl (Or.inl rfl)) pgs_nil))))
      (fun _ _ _ _ _ => pts_nil) (fun _ _ _ _ _ => pv 4) (fun _ _ _ _ _ => pe_callB (r := rLen K) call_len_seq (by rfl) T.len PySem.boot_len (pa_cons (pv 5) pa_nil)))
    (pss_one (ps_for PassesOwn.never rfl (pi_list (pe_call GA hr rfl mA kA bA .nil pass0 (pa_cons (pv 0) pa_nil))) (pg_name (i := 7) scCC.nd rfl (Or.inl rfl))
      (pss_one (ps_if (pt_cmpR op_eq (pe_ix ix_tup (pv 7) pe_int (fun _ _ => rfl)) pe_str (nomark _))
        (pss_cons (ps_set (i := 4) scCC.nd rfl (Or.inl rfl) (pe_ix ix_tup (pv 7) pe_int (fun _ _ => rfl)))
        (pss_cons (ps_if (pt_cmp (pc_dnotin (Nat.lt_of_le_of_lt (Nat.add_le_add_left (by decide : 1 ≤ 64) _) hr.units) (pv 4) (pv 3)) (by rfl)) pss_never pss_nil)
        (pss_one (ps_if (pt_cmpR op_ne (pe_callB call_len_seq (by rfl) T.len PySem.boot_len (pa_cons (pe_ix ix_tup (pv 7) pe_int (fun _ _ => rfl)) pa_nil)) (pe_dget (Nat.lt_of_le_of_lt (Nat.add_le_add_left (by decide : 1 ≤ 64) _) hr.units) (pv 3) (pv 4) (fun _ _ => rfl)) (nomark _)) pss_never pss_nil)))) pss_nil))))), ?_⟩
  have hv0 := hv
  obtain ⟨a, xs, rfl, hT, hA⟩ := dp_tup hv
  obtain ⟨w0, r0, rfl, b0, hA⟩ := dp_cons hA
  obtain ⟨w1, r1, rfl, b1, hA⟩ := dp_cons hA
  obtain rfl := dp_nil hA
  obtain ⟨ad, xd, rfl, hTd, hAd⟩ := dp_tup b0
  have hxd : xd.length = p.defs.length := by rw [DpAll.length hAd, List.length_map]
  have hl2 := hlen
  unfold lenP at hl2
  have hge := lenDs_ge p.defs
  refine ⟨_, rfl, a, _, rfl, hT, rfl, _, _, rfl, _, _, rfl, rfl, ?_⟩
  refine ⟨_, rfl, ad, rfl, ⟨_, hTd⟩, fun D hD => ?_⟩
  refine dc_tup (a := ad) (xs := xd) (fun i H' => ∃ kv : List (Key × V), H' D = some (.dK kv) ∧ kv.length ≤ i ∧ Same H H' ∧ ∀ (j : Nat) (d : Df), j < i → p.defs[j]? = some d → valV kv (.inr d.name) = some (.int (d.args.length : Nat)))
    ⟨[], upd_same, Nat.le_refl _, same_new hD _, fun j _ hj => absurd hj (Nat.not_lt_zero _)⟩ (fun i H' _ ⟨_, _, _, s1, _⟩ => KT.same s1 _ _ hTd) ?_ ?_
  · rintro i y H1 hi ⟨kv, hk, hkl, s1, hin⟩
    obtain ⟨d, hd1, hd2⟩ := DpAll.get hAd hi
    obtain ⟨df, hdf, rfl⟩ : ∃ df, p.defs[i]? = some df ∧ d = df.d := by
      rw [List.getElem?_map] at hd1
      cases q : p.defs[i]? with
      | none => rw [q] at hd1; cases hd1
      | some e => rw [q] at hd1; exact ⟨e, rfl, (Option.some.inj hd1).symm⟩
    have hil : i < p.defs.length := (List.getElem?_eq_some_iff.mp hdf).1
    obtain ⟨t3, ts, rfl, hT3, hB⟩ := dp_tup (Dp.same s1 hd2)
    obtain ⟨u0, q0, rfl, e0, hB⟩ := dp_cons hB
    obtain ⟨u1, q1, rfl, e1, hB⟩ := dp_cons hB
    obtain ⟨u2, q2, rfl, e2, hB⟩ := dp_cons hB
    obtain rfl := dp_nil hB
    obtain rfl := dp_str e0
    obtain ⟨an, xn, rfl, hTn, hAn⟩ := dp_tup e1
    have hxn : xn.length = df.args.length := by rw [DpAll.length hAn, List.length_map]
    refine ⟨t3, _, rfl, hT3, rfl, _, _, rfl, _, _, rfl, _, _, rfl, rfl, rfl, ?_⟩
    unfold tYes
    refine iteT ?_
    refine ⟨_, rfl, _, rfl, an, xn, rfl, .inr hTn, kv, .inr df.name, rfl, hk, Nat.lt_of_le_of_lt (show kv.length ≤ 1000000 by omega) (by decide), putK kv (.inr df.name) _, upd_same, Nat.le_trans (length_putK _ _ _) (by omega), fun b o q => ?_, fun j d' hj hd' => ?_⟩
    · rw [upd_ne (ne_of_none q hD)]
      exact s1 _ _ q
    · rw [valV_put]
      by_cases ej : j = i
      · subst ej
        rw [hdf] at hd'
        cases hd'
        rw [if_pos rfl, hxn]
      · have hne : d'.name ≠ df.name := fun e => by
          have n1 : (p.defs.map Df.name)[j]? = some d'.name := by rw [List.getElem?_map, hd']; rfl
          have n2 : (p.defs.map Df.name)[i]? = some df.name := by rw [List.getElem?_map, hdf]; rfl
          have jl : j < (p.defs.map Df.name).length := (List.getElem?_eq_some_iff.mp n1).1
          have il : i < (p.defs.map Df.name).length := by rw [List.length_map]; exact hil
          have q := List.pairwise_iff_getElem.mp hc.nd j i jl il (by omega)
          exact q ((List.getElem?_eq_some_iff.mp n1).2.trans (e.trans (List.getElem?_eq_some_iff.mp n2).2.symm))
        rw [if_neg (fun e => hne (Sum.inr.inj e))]
        exact hin j d' (by omega) hd'
  · rintro H1 ⟨kv, hk, hkl, s1, hin⟩
    rw [hxd] at hin
    refine ⟨_, rfl, .ref a, p, rfl, Dp.same s1 hv0, hd, hdb, hlen, fun H2 q ws s2 nq hq hw => ?_⟩
    have wl : ws.length = (stsD p.defs ++ stsB p.body).length := by rw [DpAll.length hw, dB_length]
    have hk2 := s2 _ _ hk
    refine ⟨q, rfl, ⟨ws, SqL.of hq⟩, for_list (K := K) (a := q) (xs := ws) (fun i σ H' => ∃ (v4 v7 : Option V), σ = [some (.ref a), some (.ref ad), some w1, some (.ref D), v4, none, none, v7] ∧ Same H2 H') ⟨none, none, rfl, Same.refl _⟩ (fun i σ H' _ ⟨_, _, _, s3⟩ => SqL.of (s3 _ _ hq)) ?_ ?_⟩
    · rintro i y σ H3 hi ⟨v4, v7, rfl, s3⟩
      obtain ⟨d, hd1, hd2⟩ := DpAll.get hw hi
      obtain ⟨st, hst, rfl⟩ := dB_get hd1
      have hmem := List.mem_of_getElem? hst
      obtain ⟨t, ys, rfl, hT6, hB6⟩ := st_tup (Dp.same s3 hd2)
      refine ⟨_, rfl, t, _, _, _, rfl, rfl, hT6, at0, rfl, _, rfl, ?_⟩
      rw [wd_isCall]
      cases hcl : isCall st with
      | false => exact iteF ⟨_, _, rfl, s3⟩
      | true =>
        refine iteT ?_
        cases st with
        | call f es =>
          obtain ⟨u0, q0, e0, c0, hB6⟩ := dp_cons hB6
          injection e0 with e01 e02
          subst e01
          subst e02
          obtain ⟨y1, r1, rfl, c1, hB6⟩ := dp_cons hB6
          obtain ⟨y2, r2, rfl, c2, hB6⟩ := dp_cons hB6
          obtain rfl := dp_str c1
          obtain ⟨an, xn, rfl, hTn, hAn⟩ := dp_tup c2
          have hxn : xn.length = es.length := by rw [DpAll.length hAn, List.length_map]
          have at1 : atI (V.str (wdS (.call f es)) :: V.str f :: V.ref an :: r2) 1 = some (V.str f) := atI_nat (j := 1) rfl
          have at2 : atI (V.str (wdS (.call f es)) :: V.str f :: V.ref an :: r2) 2 = some (V.ref an) := atI_nat (j := 2) rfl
          have hfit := hc.fit _ hmem f es rfl
          obtain ⟨dd, hdd, ed⟩ := List.mem_map.mp hfit
          obtain ⟨j, hj, ej⟩ := List.getElem_of_mem hdd
          have hval := hin j dd hj (by rw [List.getElem?_eq_getElem hj, ej])
          rw [show dd.name = f from congrArg Prod.fst ed, show dd.args.length = es.length from congrArg Prod.snd ed] at hval
          have hk3 := s3 _ _ hk2
          refine ⟨_, rfl, t, _, _, _, rfl, rfl, hT6, at1, ?_⟩
          refine ⟨_, rfl, _, rfl, D, valV kv (.inr f), rfl, .inl ⟨kv, .inr f, .inl hk3, rfl, rfl⟩, _, rfl, ?_⟩
          rw [hval]
          refine iteF ?_
          refine ⟨_, rfl, t, _, _, _, rfl, rfl, hT6, at2, an, xn, rfl, .inr hTn, _, rfl, _, rfl, D, .int (es.length : Nat), rfl, .inl ⟨kv, .inr f, .inl hk3, rfl, hval.symm⟩, rfl, _, rfl, ?_⟩
          refine iteNS (by rw [hxn]) ?_
          exact ⟨_, _, rfl, s3⟩
        | _ => cases hcl
    · rintro σ H3 ⟨v4, v7, rfl, s3⟩
      exact k H3 (s1.trans (s2.trans s3))
end
end KD

/-! Programs checked: is_good, sizes. -/
namespace KD
open PySem L2 TL
/-- a program that is good -/
structure PrOk (n : Nat) (p : Pr) : Prop where
  wf : wfP p
  cl : ClOk p
  dd : ∀ f ∈ p.defs, dpB f.body < n
  db : dpB p.body < n
  len : lenP p ≤ 1000000
  nd : ∀ f ∈ p.defs, ∃ ds m, okB ds m f.args f.body
  nb : ∃ ds m, okB ds m [] p.body
theorem lenDs_mem {f : Df} : ∀ {fs : List Df}, f ∈ fs → lenD f ≤ lenDs fs
  | g :: fs, h => by
    rcases List.mem_cons.mp h with rfl | h
    · show lenD f ≤ lenD f + lenDs fs
      omega
    · have := lenDs_mem h
      show lenD f ≤ lenD g + lenDs fs
      omega
section
variable {P : Program} {w : World} {K : PySem.W.Frag} {mg : Str → Option Value} {base : Heap}
def spChkT (K : PySem.W.Frag) (n : Nat) : Sp := fun vs H Q _ => ∃ (v : V) (p : Pr), vs = [v] ∧ Dp K H v p.d ∧ PrOk n p ∧ ∀ H', Same H H' → Q .non H'
abbrev ctN : List Str := ["tree", "definitions", "statements", "name", "arguments", "block", "argument"]
theorem scCT : FnScope ctN ["tree"] (defScope S_check_tree) := ⟨rfl, rfl, rfl, by decide +kernel, rfl, by decide +kernel, by decide +kernel⟩
theorem ok_chkT {n N : Nat} {f fC fN : Addr} {fd fdC fdN : FuncData} (F : Fun K "check_tree" "check_tree" S_check_tree f fd)
    (GC : FnOk P w K mg base CX0 (n + 2 + 1 + 1) fC fdC ["tree"] (spCalls K n)) (mC : mg "check_calls" = some (.ref fC)) (kC : PySem.W.keepIn K (.ref fC) = true) (bC : Binds K fdC ["tree"] [])
    (GN : FnOk P w K mg base CX0 (2 * n + 1) fN fdN ["block", "known"] (spNB K n)) (mN : mg "names_behind" = some (.ref fN)) (kN : PySem.W.keepIn K (.ref fN) = true) (bN : Binds K fdN ["block", "known"] []) (h1 : n + 4 ≤ N) (h2 : 2 * n + 1 ≤ N) :
    FnOk P w K mg base CX0 (N + 1) f fd ["tree"] (spChkT K n) := by
  refine F.ok scCT (fun vs H Q E h => ?_) (fun cdv A outer s0 H vs Q E hr h => ?_)
  · obtain ⟨v, b, rfl, _⟩ := h
    rfl
  obtain ⟨v, p, rfl, hv, hp, k⟩ := h
  have hr1 : Room (n + 2 + 1 + 1) _ := hr.mono (by omega)
  have hr2 : Room (2 * n + 1) _ := hr.mono (by omega)
  refine ⟨_, pss_cons (ps_expr (pe_call GC hr1 rfl mC kC bC .nil pass0 (pa_cons (pv 0) pa_nil)))
    (pss_cons (ps_asg (pv 0) (pg_tup rfl (pgs_cons (pg_name (i := 1) scCT.nd rfl (Or.inl rfl)) (pgs_cons (pg_name (i := 2) scCT.nd rfl (Or.inl rfl)) pgs_nil))))
    (pss_cons (ps_for PassesOwn.never rfl (pi_tup (pv 1)) (pg_tup rfl (pgs_cons (pg_name (i := 3) scCT.nd rfl (Or.inl rfl)) (pgs_cons (pg_name (i := 4) scCT.nd rfl (Or.inl rfl)) (pgs_cons (pg_name (i := 5) scCT.nd rfl (Or.inl rfl)) pgs_nil))))
      (pss_one (ps_expr (pe_call GN hr2 rfl mN kN bN .nil pass0 (pa_cons (pv 5) (pa_cons (pe_dc (own := [("argument", 6)]) (g := gName 6) rfl scCT.nd (pi_tup (pv 4))
        (blkOk_by (own := [("argument", 6)]) (N := ctN) (sc := defScope S_check_tree) (by decide +kernel)) (fun _ _ _ _ _ => pg_name (i := 6) scCT.nd rfl (Or.inl rfl)) (fun _ _ _ _ _ => pts_nil) (fun _ _ _ _ _ => pv 6) (fun _ _ _ _ _ => pe_bl)) pa_nil))))))
    (pss_one (ps_expr (pe_call GN hr2 rfl mN kN bN .nil pass0 (pa_cons (pv 2) (pa_cons pe_dnewK pa_nil))))))), ?_⟩
  have hl := hp.len
  unfold lenP at hl
  refine ⟨_, rfl, v, p, rfl, hv, hp.dd, hp.db, hp.len, hp.cl, fun H1 s1 => ?_⟩
  obtain ⟨a, xs, rfl, hT, hA⟩ := dp_tup (Dp.same s1 hv)
  obtain ⟨w0, r0, rfl, b0, hA⟩ := dp_cons hA
  obtain ⟨w1, r1, rfl, b1, hA⟩ := dp_cons hA
  obtain rfl := dp_nil hA
  obtain ⟨ad, xd, rfl, hTd, hAd⟩ := dp_tup b0
  refine ⟨_, rfl, a, _, rfl, hT, rfl, _, _, rfl, _, _, rfl, rfl, ?_⟩
  refine ⟨_, rfl, ad, rfl, ⟨_, hTd⟩, for_tup (K := K) (a := ad) (xs := xd) (fun i σ H' => ∃ (v3 v4 v5 : Option V), σ = [some (.ref a), some (.ref ad), some w1, v3, v4, v5, none] ∧ Same H1 H') ⟨none, none, none, rfl, Same.refl _⟩ (fun i σ H' _ ⟨_, _, _, _, s2⟩ => KT.same s2 _ _ hTd) ?_ ?_⟩
  · rintro i y σ H2 hi ⟨v3, v4, v5, rfl, s2⟩
    obtain ⟨d, hd1, hd2⟩ := DpAll.get hAd hi
    obtain ⟨df, hdf, rfl⟩ : ∃ df, p.defs[i]? = some df ∧ d = df.d := by
      rw [List.getElem?_map] at hd1
      cases q : p.defs[i]? with
      | none => rw [q] at hd1; cases hd1
      | some e => rw [q] at hd1; exact ⟨e, rfl, (Option.some.inj hd1).symm⟩
    have hmem := List.mem_of_getElem? hdf
    have hwd := hp.wf.defs df hmem
    have hld := lenDs_mem hmem
    have hlD : lenD df = 100 + lenB df.body := rfl
    obtain ⟨ds, m, hok⟩ := hp.nd df hmem
    have hal := hwd.alen
    obtain ⟨t3, ts, rfl, hT3, hB⟩ := dp_tup (Dp.same s2 hd2)
    obtain ⟨u0, q0, rfl, e0, hB⟩ := dp_cons hB
    obtain ⟨u1, q1, rfl, e1, hB⟩ := dp_cons hB
    obtain ⟨u2, q2, rfl, e2, hB⟩ := dp_cons hB
    obtain rfl := dp_nil hB
    obtain ⟨an, xn, rfl, hTn, hAn⟩ := dp_tup e1
    have hxn : xn.length = df.args.length := by rw [DpAll.length hAn, List.length_map]
    refine ⟨t3, _, rfl, hT3, rfl, _, _, rfl, _, _, rfl, _, _, rfl, rfl, ?_⟩
    refine ⟨_, rfl, _, rfl, an, rfl, ⟨_, hTn⟩, fun D hD => ?_⟩
    refine dc_tup (a := an) (xs := xn) (fun i H' => ∃ kv : List (Key × V), H' D = some (.dK kv) ∧ kv.length ≤ i ∧ Same H2 H' ∧ ∀ (j : Nat) (x : Str), j < i → df.args[j]? = some x → (valV kv (.inr x)).isSome = true)
      ⟨[], upd_same, Nat.le_refl _, same_new hD _, fun j _ hj => absurd hj (Nat.not_lt_zero _)⟩ (fun i H' _ ⟨_, _, _, s3, _⟩ => KT.same s3 _ _ hTn) ?_ ?_
    · rintro i y H3 hi ⟨kv, hk, hkl, s3, hin⟩
      have hil : i < xn.length := (List.getElem?_eq_some_iff.mp hi).1
      obtain ⟨d, hd1, hd2⟩ := DpAll.get hAn hi
      obtain ⟨x, hx, rfl⟩ : ∃ x, df.args[i]? = some x ∧ d = .str x := by
        rw [List.getElem?_map] at hd1
        cases q : df.args[i]? with
        | none => rw [q] at hd1; cases hd1
        | some e => rw [q] at hd1; exact ⟨e, rfl, (Option.some.inj hd1).symm⟩
      obtain rfl := dp_str hd2
      refine ⟨rfl, ?_⟩
      unfold tYes
      refine iteT ?_
      refine ⟨_, rfl, kv, .inr x, rfl, hk, Nat.lt_of_le_of_lt (show kv.length ≤ 1000 by omega) (by decide), putK kv (.inr x) _, upd_same, Nat.le_trans (length_putK _ _ _) (by omega), fun b o q => ?_, fun j x' hj hx' => ?_⟩
      · rw [upd_ne (ne_of_none q hD)]
        exact s3 _ _ q
      · rw [valV_put]
        by_cases ek : (.inr x' : Key) = .inr x
        · rw [if_pos ek]; rfl
        · rw [if_neg ek]
          by_cases ej : j = i
          · subst ej
            rw [hx] at hx'
            cases hx'
            exact absurd rfl ek
          · exact hin j x' (by omega) hx'
    · rintro H3 ⟨kv, hk, hkl, s3, hin⟩
      have kn : Knows kv df.args := fun x hx => by
        obtain ⟨j, hj, e⟩ := List.getElem_of_mem hx
        exact hin j x (by omega) (by rw [List.getElem?_eq_getElem hj, e])
      exact ⟨u2, df.body, D, kv, ds, m, df.args, rfl, Dp.same s3 e2, hp.dd df hmem, hwd.body, hok, hk, kn, by omega, fun H4 r s4 _ => ⟨_, _, _, rfl, s2.trans (s3.trans s4)⟩⟩
  · rintro σ H2 ⟨v3, v4, v5, rfl, s2⟩
    obtain ⟨ds, m, hok⟩ := hp.nb
    refine ⟨_, rfl, fun D hD => ?_⟩
    have s3 := same_new hD (.dK [])
    exact ⟨w1, p.body, D, [], ds, m, [], rfl, Dp.same (s2.trans s3) b1, hp.db, hp.wf.body, hok, upd_same, (fun x hx => nomatch hx), by show 0 + lenB p.body ≤ 2000000; omega, fun H4 r s4 _ => k _ ((s1.trans s2).trans (s3.trans s4))⟩
/-! ### good texts -/
def spGood (K : PySem.W.Frag) (PT : Addr) (n : Nat) : Sp := fun vs H Q _ => ∃ (X : Str) (p : Pr), vs = [.str X] ∧ Rdb X p ∧ GN.Tab PT H ∧ PrOk n p ∧ ∀ H', Same H H' → Q (.bl true) H'
theorem scGood : FnScope ["text", "tree"] ["text"] (defScope S_is_good) := ⟨rfl, rfl, rfl, by decide +kernel, rfl, by decide +kernel, by decide +kernel⟩
theorem ok_good {n nR nC N : Nat} {f fR fC PT : Addr} {fd fdR fdC : FuncData} (F : Fun K "is_good" "is_good" S_is_good f fd)
    (GR : FnOk P w K mg base CX0 nR fR fdR ["text"] (spReadT K PT)) (mR : mg "read" = some (.ref fR)) (kR : PySem.W.keepIn K (.ref fR) = true) (bR : Binds K fdR ["text"] [])
    (GC : FnOk P w K mg base CX0 nC fC fdC ["tree"] (spChkT K n)) (mC : mg "check_tree" = some (.ref fC)) (kC : PySem.W.keepIn K (.ref fC) = true) (bC : Binds K fdC ["tree"] []) (h1 : nR ≤ N) (h2 : nC ≤ N) :
    FnOk P w K mg base CX0 (N + 1) f fd ["text"] (spGood K PT n) := by
  refine F.ok scGood (fun vs H Q E h => ?_) (fun cdv A outer s0 H vs Q E hr h => ?_)
  · obtain ⟨v, b, rfl, _⟩ := h
    rfl
  obtain ⟨X, p, rfl, hR, tab, hp, k⟩ := h
  have hr1 : Room nR _ := hr.mono h1
  have hr2 : Room nC _ := hr.mono h2
  refine ⟨_, pss_cons (ps_set (i := 1) scGood.nd rfl (Or.inl rfl) (pe_call GR hr1 rfl mR kR bR .nil pass0 (pa_cons (pv 0) pa_nil)))
    (pss_cons (ps_try_thru0 (pss_one (ps_expr (pe_call GC hr2 rfl mC kC bC .nil pass0 (pa_cons (pv 1) pa_nil)))))
    (pss_one (ps_ret pe_bl))), ?_⟩
  exact ⟨_, rfl, X, p, rfl, hR, tab, fun H1 v s1 hv => ⟨_, rfl, v, p, rfl, hv, hp, fun H2 s2 => k H2 (s1.trans s2)⟩⟩
/-! ### sizes -/
def spGoodT (K : PySem.W.Frag) (PT : Addr) (n : Nat) : Sp := fun vs H Q _ => ∃ (X : Str) (p : Pr), vs = [.str X] ∧ Rdb X p ∧ GN.Tab PT H ∧ PrOk n p ∧ ∀ H' v, Same H H' → Dp K H' v p.d → Q v H'
theorem scGoodT : FnScope ["text", "tree"] ["text"] (defScope S_good_tree) := ⟨rfl, rfl, rfl, by decide +kernel, rfl, by decide +kernel, by decide +kernel⟩
theorem ok_goodT {n nR nC N : Nat} {f fR fC PT : Addr} {fd fdR fdC : FuncData} (F : Fun K "good_tree" "good_tree" S_good_tree f fd)
    (GR : FnOk P w K mg base CX0 nR fR fdR ["text"] (spReadT K PT)) (mR : mg "read" = some (.ref fR)) (kR : PySem.W.keepIn K (.ref fR) = true) (bR : Binds K fdR ["text"] [])
    (GC : FnOk P w K mg base CX0 nC fC fdC ["tree"] (spChkT K n)) (mC : mg "check_tree" = some (.ref fC)) (kC : PySem.W.keepIn K (.ref fC) = true) (bC : Binds K fdC ["tree"] []) (h1 : nR ≤ N) (h2 : nC ≤ N) :
    FnOk P w K mg base CX0 (N + 1) f fd ["text"] (spGoodT K PT n) := by
  refine F.ok scGoodT (fun vs H Q E h => ?_) (fun cdv A outer s0 H vs Q E hr h => ?_)
  · obtain ⟨v, b, rfl, _⟩ := h
    rfl
  obtain ⟨X, p, rfl, hR, tab, hp, k⟩ := h
  have hr1 : Room nR _ := hr.mono h1
  have hr2 : Room nC _ := hr.mono h2
  refine ⟨_, pss_cons (ps_set (i := 1) scGoodT.nd rfl (Or.inl rfl) (pe_call GR hr1 rfl mR kR bR .nil pass0 (pa_cons (pv 0) pa_nil)))
    (pss_cons (ps_expr (pe_call GC hr2 rfl mC kC bC .nil pass0 (pa_cons (pv 1) pa_nil)))
    (pss_one (ps_ret (pv 1)))), ?_⟩
  exact ⟨_, rfl, X, p, rfl, hR, tab, fun H1 v s1 hv => ⟨_, rfl, v, p, rfl, hv, hp, fun H2 s2 => ⟨_, rfl, k H2 v (s1.trans s2) (Dp.same s2 hv)⟩⟩⟩
def spSizes (K : PySem.W.Frag) (PT : Addr) (n : Nat) : Sp := fun vs H Q _ => ∃ (X : Str) (p : Pr), vs = [.str X] ∧ Rdb X p ∧ GN.Tab PT H ∧ PrOk n p ∧
  ∀ H' a (e : Int), Same H H' → H' a = some (.tup [.int (p.defs.length : Nat), .int ((stsD p.defs ++ stsB p.body).length : Nat), .int e]) → Q (.ref a) H'
abbrev szN : List Str := ["text", "tree", "definitions", "statements", "every", "expressions", "statement", "expression"]
theorem scSz : FnScope szN ["text"] (defScope S_sizes) := ⟨rfl, rfl, rfl, by decide +kernel, rfl, by decide +kernel, by decide +kernel⟩
mutual
theorem wfB_sts : ∀ {b : List St}, wfB b → ∀ s ∈ stsB b, wfS s
  | [], _, _, h => by cases h
  | t :: b, h, s, hs => by
    rcases List.mem_append.mp (show s ∈ stsS t ++ stsB b from hs) with q | q
    · exact wfS_sts h.1 s q
    · exact wfB_sts h.2 s q
theorem wfS_sts : ∀ {t : St}, wfS t → ∀ s ∈ stsS t, wfS s
  | .ite c a b, h, s, hs => by
    rcases List.mem_cons.mp (show s ∈ St.ite c a b :: (stsB a ++ stsB b) from hs) with rfl | q
    · exact h
    · rcases List.mem_append.mp q with q | q
      · exact wfB_sts h.2.1 s q
      · exact wfB_sts h.2.2 s q
  | .whl c a, h, s, hs => by
    rcases List.mem_cons.mp (show s ∈ St.whl c a :: stsB a from hs) with rfl | q
    · exact h
    · exact wfB_sts h.2 s q
  | .for_ x a b r, h, s, hs => by
    rcases List.mem_cons.mp (show s ∈ St.for_ x a b r :: stsB r from hs) with rfl | q
    · exact h
    · exact wfB_sts h.2.2.2 s q
  | .row e, h, s, hs => by rw [List.mem_singleton.mp (show s ∈ [St.row e] from hs)]; exact h
  | .col e, h, s, hs => by rw [List.mem_singleton.mp (show s ∈ [St.col e] from hs)]; exact h
  | .say e, h, s, hs => by rw [List.mem_singleton.mp (show s ∈ [St.say e] from hs)]; exact h
  | .set x e, h, s, hs => by rw [List.mem_singleton.mp (show s ∈ [St.set x e] from hs)]; exact h
  | .call f es, h, s, hs => by rw [List.mem_singleton.mp (show s ∈ [St.call f es] from hs)]; exact h
  | .stop, h, s, hs => by rw [List.mem_singleton.mp (show s ∈ [St.stop] from hs)]; exact h
end
theorem wfP_sts {p : Pr} (h : wfP p) : ∀ s ∈ stsD p.defs ++ stsB p.body, wfS s := by
  intro s hs
  rcases List.mem_append.mp hs with q | q
  · have all : ∀ {fs : List Df}, (∀ f ∈ fs, wfD f) → ∀ s ∈ stsD fs, wfS s := fun {fs} => by
      induction fs with
      | nil => intro _ s q; cases q
      | cons f fs ih =>
        intro hf s q
        rcases List.mem_append.mp (show s ∈ stsB f.body ++ stsD fs from q) with q | q
        · exact wfB_sts (hf f List.mem_cons_self).body s q
        · exact ih (fun x hx => hf x (List.mem_cons_of_mem _ hx)) s q
    exact all h.defs s q
  · exact wfB_sts h.body s q
theorem ok_sizes {n nT nA N : Nat} {f fT fA fX fI PT : Addr} {fd fdT fdA fdX fdI : FuncData} (F : Fun K "sizes" "sizes" S_sizes f fd) (T : Blt mg)
    (GT : FnOk P w K mg base CX0 nT fT fdT ["text"] (spGoodT K PT n)) (mT : mg "good_tree" = some (.ref fT)) (kT : PySem.W.keepIn K (.ref fT) = true) (bT : Binds K fdT ["text"] [])
    (GA : FnOk P w K mg base CX0 nA fA fdA ["tree"] (spAllSt K n)) (mA : mg "all_statements" = some (.ref fA)) (kA : PySem.W.keepIn K (.ref fA) = true) (bA : Binds K fdA ["tree"] [])
    (GX : FnOk P w K mg base CX0 1 fX fdX ["statement"] (spExprs K)) (mX : mg "expressions_of" = some (.ref fX)) (kX : PySem.W.keepIn K (.ref fX) = true) (bX : Binds K fdX ["statement"] [])
    (GI : FnOk P w K mg base CX0 1 fI fdI ["expression"] (spExIn K)) (mI : mg "expressions_in" = some (.ref fI)) (kI : PySem.W.keepIn K (.ref fI) = true) (bI : Binds K fdI ["expression"] []) (h1 : nT ≤ N) (h2 : nA ≤ N) (h3 : 1 ≤ N) :
    FnOk P w K mg base CX0 (N + 1) f fd ["text"] (spSizes K PT n) := by
  refine F.ok scSz (fun vs H Q E h => ?_) (fun cdv A outer s0 H vs Q E hr h => ?_)
  · obtain ⟨v, b, rfl, _⟩ := h
    rfl
  obtain ⟨X, p, rfl, hR, tab, hp, k⟩ := h
  have hr1 : Room nT _ := hr.mono h1
  have hr2 : Room nA _ := hr.mono h2
  have hr3 : Room 1 _ := hr.mono h3
  refine ⟨_, pss_cons (ps_set (i := 1) scSz.nd rfl (Or.inl rfl) (pe_call GT hr1 rfl mT kT bT .nil pass0 (pa_cons (pv 0) pa_nil)))
    (pss_cons (ps_asg (pv 1) (pg_tup rfl (pgs_cons (pg_name (i := 2) scSz.nd rfl (Or.inl rfl)) (pgs_cons (pg_name (i := 3) scSz.nd rfl (Or.inl rfl)) pgs_nil))))
    (pss_cons (ps_set (i := 4) scSz.nd rfl (Or.inl rfl) (pe_call GA hr2 rfl mA kA bA .nil pass0 (pa_cons (pv 1) pa_nil)))
    (pss_cons (ps_set (i := 5) scSz.nd rfl (Or.inl rfl) pe_int)
    (pss_cons (ps_for PassesOwn.never rfl (pi_list (pv 4)) (pg_name (i := 6) scSz.nd rfl (Or.inl rfl))
      (pss_one (ps_for PassesOwn.never rfl (pi_tup (pe_call GX hr3 rfl mX kX bX .nil pass0 (pa_cons (pv 6) pa_nil))) (pg_name (i := 7) scSz.nd rfl (Or.inl rfl))
        (pss_one (ps_aug (i := 5) scSz.nd rfl (Or.inl rfl) (pe_callB call_len_seq (by rfl) T.len PySem.boot_len (pa_cons (pe_call GI hr3 rfl mI kI bI .nil pass0 (pa_cons (pv 7) pa_nil)) pa_nil)) ip_add)))))
    (pss_one (ps_ret (pe_tup (pa_cons (pe_callB call_len_seq (by rfl) T.len PySem.boot_len (pa_cons (pv 2) pa_nil)) (pa_cons (pe_callB call_len_seq (by rfl) T.len PySem.boot_len (pa_cons (pv 4) pa_nil)) (pa_cons (pv 5) pa_nil)))))))))), ?_⟩
  refine ⟨_, rfl, X, p, rfl, hR, tab, hp, fun H1 v s1 hv => ?_⟩
  have hv0 := hv
  obtain ⟨a, xs, rfl, hT, hA⟩ := dp_tup hv
  obtain ⟨w0, r0, rfl, b0, hA⟩ := dp_cons hA
  obtain ⟨w1, r1, rfl, b1, hA⟩ := dp_cons hA
  obtain rfl := dp_nil hA
  obtain ⟨ad, xd, rfl, hTd, hAd⟩ := dp_tup b0
  have hxd : xd.length = p.defs.length := by rw [DpAll.length hAd, List.length_map]
  refine ⟨_, rfl, a, _, rfl, hT, rfl, _, _, rfl, _, _, rfl, rfl, ?_⟩
  refine ⟨_, rfl, .ref a, p, rfl, hv0, hp.dd, hp.db, hp.len, fun H2 q ws s2 nq hq hw => ?_⟩
  have wl : ws.length = (stsD p.defs ++ stsB p.body).length := by rw [DpAll.length hw, dB_length]
  refine ⟨_, rfl, q, rfl, ⟨ws, SqL.of hq⟩, for_list (K := K) (a := q) (xs := ws) (fun i σ H' => ∃ (e : Int) (v6 v7 : Option V), σ = [some (.str X), some (.ref a), some (.ref ad), some w1, some (.ref q), some (.int e), v6, v7] ∧ Same H2 H') ⟨0, none, none, rfl, Same.refl _⟩ (fun i σ H' _ ⟨_, _, _, _, s3⟩ => SqL.of (s3 _ _ hq)) ?_ ?_⟩
  · rintro i y σ H3 hi ⟨e, v6, v7, rfl, s3⟩
    obtain ⟨d, hd1, hd2⟩ := DpAll.get hw hi
    obtain ⟨st, hst, rfl⟩ := dB_get hd1
    have hws := wfP_sts hp.wf st (List.mem_of_getElem? hst)
    refine ⟨_, rfl, y, st, rfl, Dp.same s3 hd2, fun H5 p0 es s5 hT5 hE5 => ⟨p0, rfl, ⟨_, hT5⟩, for_tup (K := K) (a := p0) (xs := es) (fun j σ H' => ∃ (e : Int) (v7 : Option V), σ = [some (.str X), some (.ref a), some (.ref ad), some w1, some (.ref q), some (.int e), some y, v7] ∧ Same H5 H') ⟨e, v7, rfl, Same.refl _⟩ (fun j σ H' _ ⟨_, _, _, s6⟩ => KT.same s6 _ _ hT5) ?_ ?_⟩⟩
    · rintro j z σ H6 hj ⟨e, v7, rfl, s6⟩
      obtain ⟨d, hd1, hd2⟩ := DpAll.get hE5 hj
      obtain ⟨x, hx, rfl⟩ : ∃ x, (exsOf st)[j]? = some x ∧ d = x.d := by
        rw [List.getElem?_map] at hd1
        cases q : (exsOf st)[j]? with
        | none => rw [q] at hd1; cases hd1
        | some e => rw [q] at hd1; exact ⟨e, rfl, (Option.some.inj hd1).symm⟩
      have hme := List.mem_of_getElem? hx
      exact ⟨_, rfl, _, rfl, z, x, rfl, Dp.same s6 hd2, (wfS_exs hws x hme).2, fun H7 p7 ws7 s7 n7 f7 w7 => ⟨p7, ws7, rfl, .inl (SqL.of f7), _, _, rfl, rfl, _, _, rfl, s6.trans s7⟩⟩
    · rintro σ H6 ⟨e, v7, rfl, s6⟩
      exact ⟨e, _, v7, rfl, (s3.trans s5).trans s6⟩
  · rintro σ H3 ⟨e, v6, v7, rfl, s3⟩
    refine ⟨_, rfl, ad, xd, rfl, .inr (KT.same (s2.trans s3) _ _ hTd), _, rfl, q, ws, rfl, .inl (SqL.of (s3 _ _ hq)), _, rfl, (by show 3 ≤ sizeLine; decide), fun tp ntp => ?_⟩
    refine k _ tp e (s1.trans (s2.trans (s3.trans (same_new ntp _)))) ?_
    rw [upd_same, hxd, wl]
end
end KD

/-! What drawn programs are: good, and slim as data. -/
namespace KD
open PySem L2 TL
mutual
theorem okB_fit {ds : List (Str × Nat)} : ∀ {b : List St} {m : Nat} {ns : List Str}, okB ds m ns b → ∀ s ∈ stsB b, ∀ f es, s = .call f es → (f, es.length) ∈ ds
  | [], _, _, _, s, hs, _, _, _ => by cases hs
  | t :: b, m, ns, h, s, hs, f, es, e => by
    unfold okB at h
    rcases List.mem_append.mp (show s ∈ stsS t ++ stsB b from hs) with q | q
    · exact okS_fit h.1 s q f es e
    · exact okB_fit h.2 s q f es e
theorem okS_fit {ds : List (Str × Nat)} : ∀ {t : St} {m : Nat} {ns : List Str}, okS ds m ns t → ∀ s ∈ stsS t, ∀ f es, s = .call f es → (f, es.length) ∈ ds
  | .ite c a b, 0, _, h, _, _, _, _, _ => by unfold okS at h; exact h.elim
  | .ite c a b, m + 1, ns, h, s, hs, f, es, e => by
    unfold okS at h
    rcases List.mem_cons.mp (show s ∈ St.ite c a b :: (stsB a ++ stsB b) from hs) with q | q
    · rw [q] at e; cases e
    · rcases List.mem_append.mp q with q | q
      · exact okB_fit h.2.2.1.2 s q f es e
      · exact okB_fit h.2.2.2.2 s q f es e
  | .whl c a, 0, _, h, _, _, _, _, _ => by unfold okS at h; exact h.elim
  | .whl c a, m + 1, ns, h, s, hs, f, es, e => by
    unfold okS at h
    rcases List.mem_cons.mp (show s ∈ St.whl c a :: stsB a from hs) with q | q
    · rw [q] at e; cases e
    · exact okB_fit h.2.2.2 s q f es e
  | .for_ x a b r, 0, _, h, _, _, _, _, _ => by unfold okS at h; exact h.elim
  | .for_ x a b r, m + 1, ns, h, s, hs, f, es, e => by
    unfold okS at h
    rcases List.mem_cons.mp (show s ∈ St.for_ x a b r :: stsB r from hs) with q | q
    · rw [q] at e; cases e
    · exact okB_fit h.2.2.2.2 s q f es e
  | .call g as, 0, _, h, _, _, _, _, _ => by unfold okS at h; exact h.elim
  | .call g as, m + 1, ns, h, s, hs, f, es, e => by
    unfold okS at h
    rw [List.mem_singleton.mp (show s ∈ [St.call g as] from hs)] at e
    cases e
    exact h.1
  | .row x, _, _, _, s, hs, f, es, e => by rw [List.mem_singleton.mp (show s ∈ [St.row x] from hs)] at e; cases e
  | .col x, _, _, _, s, hs, f, es, e => by rw [List.mem_singleton.mp (show s ∈ [St.col x] from hs)] at e; cases e
  | .say x, _, _, _, s, hs, f, es, e => by rw [List.mem_singleton.mp (show s ∈ [St.say x] from hs)] at e; cases e
  | .set x y, _, _, _, s, hs, f, es, e => by rw [List.mem_singleton.mp (show s ∈ [St.set x y] from hs)] at e; cases e
  | .stop, _, _, _, s, hs, f, es, e => by rw [List.mem_singleton.mp (show s ∈ [St.stop] from hs)] at e; cases e
end
theorem prOk_of {sz : Nat} {p : Pr} (h : okPr sz p) (hs : sz ≤ 8) (hn : (p.defs.map Df.name).Nodup) (hdd : ∀ f ∈ p.defs, dpB f.body ≤ 2) (hdb : dpB p.body ≤ 2) : PrOk 3 p := by
  obtain ⟨hw, hl⟩ := wfP_of h hs
  refine ⟨hw, ⟨hn, fun s q f es e => ?_⟩, fun f hf => Nat.lt_succ_of_le (hdd f hf), Nat.lt_succ_of_le hdb, by omega, fun f hf => ?_, ⟨_, _, h.body⟩⟩
  · show (f, es.length) ∈ p.defs.map sig
    rcases List.mem_append.mp q with q | q
    · have all : ∀ {fs : List Df}, (∀ f ∈ fs, okB (p.defs.map sig) 1 f.args f.body) → ∀ s ∈ stsD fs, ∀ f es, s = .call f es → (f, es.length) ∈ p.defs.map sig := fun {fs} => by
        induction fs with
        | nil => intro _ s q; cases q
        | cons g fs ih =>
          intro hf s q f es e
          rcases List.mem_append.mp (show s ∈ stsB g.body ++ stsD fs from q) with q | q
          · exact okB_fit (hf g List.mem_cons_self) s q f es e
          · exact ih (fun x hx => hf x (List.mem_cons_of_mem _ hx)) s q f es e
      refine all (fun g hg => ?_) s q f es e
      obtain ⟨j, hj, e⟩ := List.getElem_of_mem hg
      exact (h.defs j g (by rw [List.getElem?_eq_getElem hj, e])).2.2.2.2
    · exact okB_fit h.body s q f es e
  · obtain ⟨j, hj, e⟩ := List.getElem_of_mem hf
    exact ⟨_, _, (h.defs j f (by rw [List.getElem?_eq_getElem hj, e])).2.2.2.2⟩
/-! ### slim -/
theorem slimT {l : List PyData} (h : l.length ≤ 1000000) (h2 : slimDs l = true) : slimD (.tuple l) = true := by
  show (decide (l.length ≤ 1000000) && slimDs l) = true
  rw [h2, decide_eq_true h]
  rfl
theorem slimC {d : PyData} {l : List PyData} (h : slimD d = true) (h2 : slimDs l = true) : slimDs (d :: l) = true := by
  show (slimD d && slimDs l) = true
  rw [h, h2]
  rfl
theorem slimE : ∀ e : Ex, slimD e.d = true
  | .num n => rfl
  | .name x => rfl
  | .rows => rfl
  | .cols => rfl
  | .un o a => slimT (show 2 ≤ 1000000 by decide) (slimC rfl (slimC (slimE a) rfl))
  | .bin o a b => slimT (show 3 ≤ 1000000 by decide) (slimC rfl (slimC (slimE a) (slimC (slimE b) rfl)))
theorem slimEs : ∀ l : List Ex, slimDs (l.map Ex.d) = true
  | [] => rfl
  | e :: l => slimC (slimE e) (slimEs l)
theorem slimStrs : ∀ l : List Str, slimDs (l.map PyData.str) = true
  | [] => rfl
  | e :: l => slimC rfl (slimStrs l)
mutual
theorem slimS : ∀ s : St, wfS s → lenS s ≤ 1000000 → slimD s.d = true
  | .row e, _, _ => slimT (show 2 ≤ 1000000 by decide) (slimC rfl (slimC (slimE e) rfl))
  | .col e, _, _ => slimT (show 2 ≤ 1000000 by decide) (slimC rfl (slimC (slimE e) rfl))
  | .say e, _, _ => slimT (show 2 ≤ 1000000 by decide) (slimC rfl (slimC (slimE e) rfl))
  | .set x e, _, _ => slimT (show 3 ≤ 1000000 by decide) (slimC rfl (slimC rfl (slimC (slimE e) rfl)))
  | .ite c a b, h, l => by
    have l : 20 + pl (dpE c) + lenB a + lenB b ≤ 1000000 := l
    exact slimT (show 4 ≤ 1000000 by decide) (slimC rfl (slimC (slimE c) (slimC (slimBT a h.2.1 (by omega)) (slimC (slimBT b h.2.2 (by omega)) rfl))))
  | .whl c a, h, l => by
    have l : 20 + pl (dpE c) + lenB a ≤ 1000000 := l
    exact slimT (show 3 ≤ 1000000 by decide) (slimC rfl (slimC (slimE c) (slimC (slimBT a h.2 (by omega)) rfl)))
  | .for_ x a b r, h, l => by
    have l : 30 + pl (dpE a) + pl (dpE b) + lenB r ≤ 1000000 := l
    exact slimT (show 5 ≤ 1000000 by decide) (slimC rfl (slimC rfl (slimC (slimE a) (slimC (slimE b) (slimC (slimBT r h.2.2.2 (by omega)) rfl)))))
  | .call f es, h, _ => slimT (show 3 ≤ 1000000 by decide) (slimC rfl (slimC rfl (slimC (slimT (by rw [List.length_map]; exact Nat.le_trans h.2.1 (by decide)) (slimEs es)) rfl)))
  | .stop, _, _ => rfl
theorem slimB : ∀ b : List St, wfB b → lenB b ≤ 1000000 → slimDs (dB b) = true
  | [], _, _ => rfl
  | s :: b, h, l => by
    have l : lenS s + lenB b ≤ 1000000 := l
    exact slimC (slimS s h.1 (by omega)) (slimB b h.2 (by omega))
theorem slimBT : ∀ b : List St, wfB b → lenB b ≤ 1000000 → slimD (.tuple (dB b)) = true
  | [], _, _ => rfl
  | s :: b, h, l => by
    have l1 : lenS s + lenB b ≤ 1000000 := l
    have q := headsB_len (s :: b)
    refine slimT ?_ (slimC (slimS s h.1 (by omega)) (slimB b h.2 (by omega)))
    have q2 : ∀ b : List St, b.length ≤ lenB b := fun b => by
      induction b with
      | nil => exact Nat.le_refl _
      | cons t r ih =>
        have q3 := headsS_len t
        have q4 : 1 ≤ (headsS t).length := by cases t <;> exact Nat.succ_le_succ (Nat.zero_le _)
        show r.length + 1 ≤ lenS t + lenB r
        omega
    rw [dB_length]
    exact Nat.le_trans (q2 (s :: b)) l
end
theorem slimP {p : Pr} (h : wfP p) (l : lenP p ≤ 1000000) : slimD p.d = true := by
  unfold lenP at l
  have hd : ∀ fs : List Df, (∀ f ∈ fs, wfD f) → lenDs fs ≤ 1000000 → slimDs (fs.map Df.d) = true := fun fs => by
    induction fs with
    | nil => intro _ _; rfl
    | cons f fs ih =>
      intro hf l
      have l : 100 + lenB f.body + lenDs fs ≤ 1000000 := l
      have hw := hf f List.mem_cons_self
      exact slimC (slimT (show 3 ≤ 1000000 by decide) (slimC rfl (slimC (slimT (by rw [List.length_map]; exact Nat.le_trans hw.alen (by decide)) (slimStrs _)) (slimC (slimBT f.body hw.body (by omega)) rfl)))) (ih (fun x hx => hf x (List.mem_cons_of_mem _ hx)) (by omega))
  have q := lenDs_ge p.defs
  exact slimT (show 2 ≤ 1000000 by decide) (slimC (slimT (by rw [List.length_map]; omega) (hd p.defs h.defs (by omega))) (slimC (slimBT p.body h.body (by omega)) rfl))
end KD

/-! Programs as data: their depth. -/
namespace KD
open PySem L2 TL
open K0 (num Toks)
theorem layDs : ∀ {fs : List Df}, (∀ f ∈ fs, wfD f ∧ dpB f.body ≤ 2) → PyData.canLayAll0 (fs.map Df.d) = true ∧ PyData.depthAll (fs.map Df.d) ≤ 20
  | [], _ => ⟨rfl, Nat.zero_le _⟩
  | f :: fs, h => by
    obtain ⟨hf, hd⟩ := h f List.mem_cons_self
    obtain ⟨i1, i2⟩ := layDs (fs := fs) fun x hx => h x (List.mem_cons_of_mem _ hx)
    obtain ⟨b1, b2⟩ := layB hf.body
    have ha : ∀ l : List Str, (∀ x ∈ l, nameW x = true) → PyData.canLayAll0 (l.map PyData.str) = true := fun l => by
      induction l with
      | nil => intro _; rfl
      | cons x l ih =>
        intro hx
        show (PyData.strOk x && PyData.canLayAll0 (l.map PyData.str)) = true
        rw [nameW_ok (hx x List.mem_cons_self), ih fun y hy => hx y (List.mem_cons_of_mem _ hy)]
        rfl
    have hd2 := depth_strs f.args
    refine ⟨?_, ?_⟩
    · show ((PyData.strOk f.name && (PyData.canLayAll0 (f.args.map .str) && (PyData.canLayAll0 (dB f.body) && true))) && PyData.canLayAll0 (fs.map Df.d)) = true
      rw [nameW_ok hf.nm, ha f.args hf.args, b1, i1]
      rfl
    · show max (max 0 (max (PyData.depthAll (f.args.map .str) + 1) (max (PyData.depthAll (dB f.body) + 1) 0)) + 1) (PyData.depthAll (fs.map Df.d)) ≤ 20
      omega
theorem shapedP {p : Pr} (h : wfP p) (hd : ∀ f ∈ p.defs, dpB f.body ≤ 2) (hb : dpB p.body ≤ 2) : SeqAt.shaped p.d = true := by
  obtain ⟨a1, a2⟩ := layDs fun f hf => ⟨h.defs f hf, hd f hf⟩
  obtain ⟨b1, b2⟩ := layB h.body
  unfold SeqAt.shaped
  rw [Bool.and_eq_true, decide_eq_true_iff]
  refine ⟨?_, ?_⟩
  · show (PyData.canLayAll0 (p.defs.map Df.d) && (PyData.canLayAll0 (dB p.body) && true)) = true
    rw [a1, b1]
    rfl
  · show max (PyData.depthAll (p.defs.map Df.d) + 1) (max (PyData.depthAll (dB p.body) + 1) 0) + 1 ≤ 64
    omega
end KD

/-! sorted(set(xs)), xs a list of unlike numbers, of any length. -/
namespace ES
open PySem PySem.Spec PyProof.Rows L2
/-- an empty set's object -/
abbrev eO (w : World) : Obj := { cls := .type "set", dict := none, data := .set #[] 0 (.fresh 0 0 (!w.params.followText "set-order")) }
abbrev eH (w : World) (h : Heap) : Heap := h.push (eO w)
section
variable {P : Program} {w : World} {A : Around} {E : Value → Shared → Prop} {s : Shared}
set_option maxRecDepth 100000 in
set_option maxHeartbeats 3200000 in
theorem set_of_list {l : Addr} {its : Array Value} (ns : List Int) {Q : Value → Shared → Prop} (hh : A.handled = none) (hl : s.heap.IsList l its) (hit : IntsAre its.toList ns) (hb : ns.length + 1 < scanBound)
    (h : ∀ (h' : Heap) (tk c : Nat), SetR w h' s.heap.objs.size (fun j => decide (j ∈ ns)) c → c ≤ ns.length → (∀ b o, s.heap.get? b = some o → h'.get? b = some o) → Q (.ref s.heap.objs.size) { s with heap := h', toks := tk }) :
    wpAny (model P w) A (call (.type "set") [.ref l]) Q E s := by
  have sz : its.size = ns.length := (Array.length_toList (xs := its)).symm.trans (IntsAre.length hit)
  obtain ⟨c, tl, hmro⟩ := F.called_set.mro
  have k1 := F.called_set.made
  have k2 := F.called_set.sub
  refine wpAny_call (codeAny_of_tree ?_)
  show wpAny _ _ (callAny (.type "set") _) _ _ _
  refine wpAny_pure ⟨Code.quiet_builtin _ (by decide +kernel), codeAny_builtin F.entry_type_call ?_⟩
  rw [Around.under_plain (weight_type_call_type "set" [.ref l] []) rfl]
  have k3 := F.called_set.notType
  have k4 := F.called_set.canCreate
  have k5 := F.typeCall_set_1 (.ref l)
  repeat (any_goals (first | assumption | wp_step))
  refine codeAny_mono (code_set_led1 (.ref l) (E := E) (Q₁ := fun ob s₁ => ob = .ref s.heap.objs.size ∧ s₁ = { s with heap := eH w s.heap }) ⟨rfl, rfl⟩) fun r s₁ hr => ?_
  cases r with
  | error e => exact hr
  | ok fl =>
    cases fl with
    | ret ob =>
      obtain ⟨rfl, rfl⟩ := hr
      have gS : (eH w s.heap).get? s.heap.objs.size = some (eO w) := Heap.get?_push_size _ rfl
      have tS : Shared.TypeIs { s with heap := eH w s.heap } (.ref s.heap.objs.size) "set" := ⟨_, gS, rfl⟩
      have k6 := F.called_set.init.lookup
      have k7 := F.called_set.init.bind (.ref s.heap.objs.size)
      repeat (any_goals (first | assumption | wp_step))
      refine codeAny_mono (codeAny_call_builtin (R := wants (fun r s₂ => r = .none ∧ ∃ h' tk c, s₂ = { s with heap := h', toks := tk } ∧ SetR w h' s.heap.objs.size (fun j => decide (j ∈ ns)) c ∧ c ≤ ns.length ∧
          (∀ b o, s.heap.get? b = some o → h'.get? b = some o)) E) F.called_set.init.plain F.entry_set_init (check_set_init_1 tS ?_)) fun r₂ s₂ hr₂ => ?_
      · obtain ⟨⟨oc, od, oa, os'⟩, ho, e1, nl, e2⟩ := hl
        dsimp only at e1 e2
        subst e1
        subst e2
        have ho1 : (eH w s.heap).get? l = some ⟨.type "list", od, .seq its nl, os'⟩ := Heap.get?_push_of_some _ ho
        have k8 := F.sub_list_set
        have k9 := F.sub_list_frozenset
        have k10 : (Value.type "list" == Value.type "dict") = false := by decide
        have hl1 : (eH w s.heap).IsList l its := ⟨_, ho1, rfl, nl, rfl⟩
        unfold Builtin.«set.__init__» noKeywords Builtin.Frozenset.updateFrom
        generalize eP : pyIter = PI
        wp_walk
        subst eP
        refine wpAny_pyIter_list hl1 (wpAny_bind (wpAny_runValue ?_))
        have lt := Heap.lt_size ho
        have z1 : (eH w s.heap).objs.size = s.heap.objs.size + 1 := Heap.size_push ..
        have ne1 : l ≠ (eH w s.heap).objs.size := by rw [z1]; exact Nat.ne_of_lt (Nat.lt_succ_of_lt lt)
        have nin : s.heap.objs.size ∉ [(eH w s.heap).objs.size, l] := by
          rw [z1]
          simp only [List.mem_cons, List.not_mem_nil, or_false, not_or]
          exact ⟨Nat.ne_of_lt (Nat.lt_succ_self _), Nat.ne_of_gt lt⟩
        have val : ∀ (i : Nat) (v : Value), its[i]? = some v → ∃ k t, ns[i]? = some k ∧ v = .int k t := fun i v hv => by
          have hi : i < ns.length := by rw [← sz]; exact (Array.getElem?_eq_some_iff.mp hv).1
          obtain ⟨t, e⟩ := IntsAre.int_at hit i v (by rw [Array.getElem?_toList]; exact hv)
          refine ⟨ns[i], t, List.getElem?_eq_getElem hi, ?_⟩
          rw [e, List.getD_eq_getElem?_getD, List.getElem?_eq_getElem hi] <;> rfl
        refine set_update_ints ((Walks.list (by simp [hh]) _ l ne1 its).toS) s.heap.objs.size nin ns sz hb val (its.size - 0) 0 _ (by omega) (Nat.zero_le _) ⟨⟨_, Heap.get?_push_size _ rfl, rfl, rfl⟩, hl1.push _⟩ ⟨0, Nat.le_refl 0, setR_new_at (Heap.get?_push_of_some _ gS)⟩ fun s' c' hm hc' hS' => ?_
        obtain ⟨h', g2, d', tk', os2⟩ := s'
        obtain rfl : g2 = s.gens := hm.gens
        obtain rfl : d' = s.drawn := hm.drawn
        obtain rfl : os2 = s.os := hm.os
        show wpAny _ _ _ _ _ _
        refine wpAny_pure ?_
        show wpAny _ _ (ret Value.none) _ _ _
        rw [sz] at hc'
        refine wpAny_pure ⟨rfl, h', tk', c', rfl, hS', hc', fun b o e => ?_⟩
        have b0 := Heap.lt_size e
        refine hm.heap b o ?_ (Heap.get?_push_of_some _ (Heap.get?_push_of_some _ e))
        simp only [List.mem_cons, List.not_mem_nil, or_false, not_or]
        exact ⟨Nat.ne_of_lt b0, by rw [z1]; exact Nat.ne_of_lt (Nat.lt_succ_of_lt b0)⟩
      · cases r₂ with
        | error e => exact hr₂
        | ok fl₂ =>
          cases fl₂ with
          | ret r =>
            obtain ⟨rfl, h', tk, c, rfl, hS', hc', hk'⟩ := hr₂
            repeat (any_goals (first | assumption | wp_step))
            exact h _ _ _ hS' hc' hk'
          | _ => exact hr₂.elim
    | _ => exact hr.elim
end
end ES

namespace ES
open PySem PySem.Spec PyProof.Rows L2
section
variable {P : Program} {w : World} {A : Around} {E : Value → Shared → Prop} {s : Shared} {a : Addr}
theorem sorted_big {S : Int → Bool} {n : Nat} {Q : Value → Shared → Prop} (R : SetR w s.heap a S n) (hh : A.handled = none) (big : n ≤ 4000)
    (hQ : ∀ s' p (out : Array Value) (c : Nat) (ns : List Int), (∀ b o, s.heap.get? b = some o → s'.heap.get? b = some o) → s'.gens = s.gens → s'.os = s.os → s.heap.objs.size ≤ p → s'.heap.get? p = some (seqObj "list" out c) → IntsAre out.toList ns →
      ns.Pairwise (· < ·) → (∀ k, k ∈ ns ↔ S k = true) → ns.length ≤ 4000 → Q (.ref p) s') :
    wpAny (model P w) A (call (.builtin "sorted") [.ref a]) Q E s := by
  obtain ⟨o, es, ep, t, ho, hx, hd, g, nd, hm, hb, hf, hn, hr, hl⟩ := R
  refine Calls.call_function_entry kind_sorted plain_sorted entry_sorted (args_sorted1 _) ?_
  unfold Builtin.«sorted»
  refine wpAny_bind (m := checkCount "sorted" 1 1 _) (wpAny_pure (wpAny_bind (collect_set (A := A.in1) hh ⟨o, ho, hx.1, hd⟩ hf hb hr hl fun s1 vs kp sz e1 e2 pm => ?_)))
  have vl : vs.length = n := (pm.length_eq.trans ((List.length_map _).trans Array.length_toList)).trans hn
  have vI := ints_of vs fun v hv => by
    obtain ⟨e, he, q⟩ := List.mem_map.mp (pm.mem_iff.mp hv)
    obtain ⟨k, tk, h1, _⟩ := g e he
    exact ⟨k, tk, q.symm.trans h1⟩
  have pk : (vs.map Builtin.Re.reRawOf).Perm (es.toList.map keyOf) := by
    have q := pm.map Builtin.Re.reRawOf
    rw [List.map_map] at q
    exact q
  have vz : vs.length ≤ sizeLine := by rw [vl]; exact Nat.le_trans big (by decide)
  refine wpAny_bind (wpAny_newList ?_ vz)
  have hL : (s1.heap.push (seqObj "list" vs.toArray 0)).get? s1.heap.objs.size = some (seqObj "list" vs.toArray 0) := Heap.get?_push_size _ rfl
  refine wpAny_bind (wpAny_holding (wpAny_call_entry slot_list_sort ⟨_, hL, rfl⟩ entry_list_sort (SrtO.list_sort_ord SrtO.swo_int hL vz (fun h2 => SrtO.ints_sortable vI h2) fun out q1 q2 => ⟨_, rfl, ?_⟩) (args_list_sort _)))
  obtain ⟨r1, r2, r3⟩ := SrtO.ints_out vI q1 q2
  obtain ⟨c, hc⟩ := sortedHeap_at (vs := vs) (out := out.toArray) hL
  have pn := r2.trans pk
  refine wpAny_pure ⟨_, rfl, hQ _ s1.heap.objs.size out.toArray c (out.map SrtO.iv) (fun b u e => ?_) e1 e2 sz hc r1 (lt_of_le_nodup _ r3 (pn.nodup_iff.mpr nd)) (fun k => by rw [pn.mem_iff, ← hm k]) ?_⟩
  rotate_left
  · rw [r2.length_eq, List.length_map, vl]
    exact big
  have q := kp b u e
  have hlt := Heap.lt_size q
  show (sortedHeap (s1.heap.push (seqObj "list" vs.toArray 0)) s1.heap.objs.size vs out.toArray).get? b = some u
  rw [sortedHeap_old (Nat.ne_of_lt hlt) (by rw [size_push']; exact Nat.lt_succ_of_lt hlt)]
  exact Heap.get?_push_of_some _ q
end
section
variable {X : Cx}
/-- set(l), l a list of numbers -/
def rSetL (K : PySem.W.Frag) (w : World) : List V → Hp → VK → Prop := fun xs H Q => ∃ (l : Addr) (ns : List Int), xs = [V.ref l] ∧ SqL K H l (ns.map V.int) ∧ ns.length ≤ 4000 ∧
  ∀ (p : Addr) (c : Nat), H p = none → c ≤ ns.length → Q (.ref p) (upd H p (SetO w p (fun j => decide (j ∈ ns)) c))
theorem cr_setL (hc : X.calm = true) : CallR X (.type "set") (rSetL X.K X.w) := by
  intro pins s σ H xs us Q I r h
  obtain ⟨l, ns, rfl, hs, hn, q⟩ := h
  obtain ⟨its, rv, hl, hz⟩ := I.list hs
  rw [Vals.ref1 r]
  refine set_of_list ns (I.ok.hd hc) hl.isList (by simpa using rv.ints) (Nat.lt_of_le_of_lt (Nat.succ_le_succ hn) (by unfold scanBound; decide)) fun h' tk c R hcn k => ?_
  exact ⟨.ref _, upd H s.heap.objs.size (SetO X.w s.heap.objs.size (fun j => decide (j ∈ ns)) c), I.laid (t' := tk) k (Nat.le_refl _) (setO_new R), rfl, q _ _ (I.hok.fresh (Nat.le_refl _)) hcn⟩
/-- sorted(found), any number of members -/
def rSortB (w : World) : List V → Hp → VK → Prop := fun vs H Q => ∃ (a : Addr) (S : Int → Bool) (n : Nat), vs = [V.ref a] ∧ H a = some (SetO w a S n) ∧ n ≤ 4000 ∧
  ∀ (ns : List Int) (p : Addr), ns.Pairwise (· < ·) → (∀ k : Int, k ∈ ns ↔ S k = true) → ns.length ≤ sizeLine → H p = none → Q (.ref p) (upd H p (.lst (ns.map V.int)))
theorem cr_sortB (hc : X.calm = true) : CallR X (.builtin "sorted") (rSortB X.w) := by
  intro pins s σ H vs us Q I r h
  obtain ⟨a, S, n, rfl, ha, hn4, q⟩ := h
  rw [Vals.ref1 r]
  refine sorted_big (setO_get I ha) (I.ok.hd hc) hn4 fun s' p out c ns k e1 e2 hp hg hi hs hm h4 => ?_
  have z : ns.length ≤ sizeLine := Nat.le_trans h4 (by decide)
  have nH : H p = none := I.hok.fresh hp
  have J : Inv X pins σ (upd H p (.lst (ns.map V.int))) { s with heap := s'.heap, gens := s'.gens, drawn := s'.drawn, toks := s'.toks } :=
    I.call (ch := []) (Un.laid k hp nH) (I.hok.laid k hp ⟨by rw [List.length_map]; exact z, out.toList, c, vals_of_ints hi, hg⟩) (by rw [e1]; exact I.bare) (fun _ y => nomatch y)
  obtain ⟨x1, x2, x3, x4, x5⟩ := s'
  dsimp only at e2
  subst e2
  exact ⟨.ref p, _, J, rfl, q ns p hs hm z nH⟩
end
end ES

/-! k01: the law. -/
namespace KD
open PySem L2 TL
open K0 (Toks num)
theorem deep_of {sz : Nat} {p : Pr} (h : okPr sz p) : (∀ f ∈ p.defs, dpB f.body ≤ 2) ∧ dpB p.body ≤ 2 := by
  have hds : dsOk (p.defs.map sig) := fun q hq => by
    obtain ⟨f, hf, rfl⟩ := List.mem_map.mp hq
    obtain ⟨j, hj, e⟩ := List.getElem_of_mem hf
    have r := h.defs j f (by rw [List.getElem?_eq_getElem hj, e])
    exact ⟨defN_nm j _ r.1, r.2.2.1⟩
  refine ⟨fun f hf => ?_, (wf_okB hds 2 [] p.body (fun x hx => by cases hx) h.body).2.1⟩
  obtain ⟨j, hj, e⟩ := List.getElem_of_mem hf
  obtain ⟨r1, r2, r3, r4, r5⟩ := h.defs j f (by rw [List.getElem?_eq_getElem hj, e])
  have hnm : nmsOk f.args := fun x hx => (by decide +kernel : ∀ x ∈ pq, x ∈ allN) x (by rw [r2] at hx; exact List.mem_of_mem_take hx)
  exact Nat.le_trans (wf_okB hds 1 f.args f.body hnm r5).2.1 (by decide)
theorem tl_same {a b : Str} (h : tl a = tl b) : a = b := by
  obtain ⟨⟨x⟩⟩ := a
  obtain ⟨⟨y⟩⟩ := b
  have e : x = y := h
  rw [e]
theorem dp_ints {K : PySem.W.Frag} {H : Hp} : ∀ l : List Nat, DpAll K H (l.map fun k : Nat => V.int (k : Nat)) (l.map fun k : Nat => PyData.int (k : Nat))
  | [] => .nil
  | k :: l => .cons (.int _) (dp_ints l)
theorem lay_nats : ∀ l : List Nat, PyData.canLayAll0 (l.map fun k : Nat => PyData.int (k : Nat)) = true ∧ PyData.depthAll (l.map fun k : Nat => PyData.int (k : Nat)) = 0
  | [] => ⟨rfl, rfl⟩
  | k :: l => by
    obtain ⟨h1, h2⟩ := lay_nats l
    refine ⟨?_, ?_⟩
    · show (true && PyData.canLayAll0 (l.map fun k : Nat => PyData.int (k : Nat))) = true
      rw [h1]; rfl
    · show max 0 (PyData.depthAll (l.map fun k : Nat => PyData.int (k : Nat))) = 0
      rw [h2]; rfl
theorem shaped_nats (l : List Nat) : SeqAt.shaped (.list (l.map fun k : Nat => PyData.int (k : Nat))) = true := by
  obtain ⟨h1, h2⟩ := lay_nats l
  unfold SeqAt.shaped
  rw [Bool.and_eq_true, decide_eq_true_iff]
  refine ⟨h1, ?_⟩
  show PyData.depthAll _ + 1 ≤ 64
  rw [h2]
  decide
theorem headsD_append : ∀ a b : List Df, headsD (a ++ b) = headsD a ++ headsD b
  | [], b => rfl
  | s :: a, b => by
    show headsB s.body ++ headsD (a ++ b) = headsB s.body ++ headsD a ++ headsD b
    rw [headsD_append a b, List.append_assoc]
theorem headsD_len : ∀ fs : List Df, (headsD fs).length = (stsD fs).length
  | [] => rfl
  | f :: fs => by
    show (headsB f.body ++ headsD fs).length = (stsB f.body ++ stsD fs).length
    rw [List.length_append, List.length_append, stsB_len, headsD_len fs]
theorem headsP_len (p : Pr) : (headsP p).length = (stsD p.defs ++ stsB p.body).length := by
  unfold headsP
  rw [List.length_append, List.length_append, headsD_len, stsB_len]
theorem headsP_le {p : Pr} (h : lenP p ≤ 30000) : (headsP p).length ≤ 30000 := by
  have h1 := stsD_le p.defs
  have h2 := headsB_len p.body
  have h3 := stsB_len p.body
  unfold lenP at h
  rw [headsP_len, List.length_append]
  omega
def cntS : Nat → Nat
  | 0 => 1
  | m + 1 => 1 + 4 * cntS m
theorem cntS_pos (m : Nat) : 1 ≤ cntS m := by cases m <;> simp [cntS]
mutual
theorem cnt_B {ds : List (Str × Nat)} : ∀ {b : List St} {m : Nat} {ns : List Str}, okB ds m ns b → (stsB b).length ≤ b.length * cntS m
  | [], _, _, _ => Nat.zero_le _
  | t :: b, m, ns, h => by
    unfold okB at h
    have h1 := cnt_S h.1
    have h2 := cnt_B h.2
    show (stsS t ++ stsB b).length ≤ (b.length + 1) * cntS m
    rw [List.length_append, Nat.succ_mul]
    omega
theorem cnt_S {ds : List (Str × Nat)} : ∀ {t : St} {m : Nat} {ns : List Str}, okS ds m ns t → (stsS t).length ≤ cntS m
  | .ite c a b, 0, _, h => by unfold okS at h; exact h.elim
  | .ite c a b, m + 1, ns, h => by
    unfold okS at h
    have h1 := Nat.le_trans (cnt_B h.2.2.1.2) (Nat.mul_le_mul_right (cntS m) h.2.2.1.1)
    have h2 := Nat.le_trans (cnt_B h.2.2.2.2) (Nat.mul_le_mul_right (cntS m) h.2.2.2.1)
    show (stsB a ++ stsB b).length + 1 ≤ 1 + 4 * cntS m
    rw [List.length_append]
    omega
  | .whl c a, 0, _, h => by unfold okS at h; exact h.elim
  | .whl c a, m + 1, ns, h => by
    unfold okS at h
    have h1 := Nat.le_trans (cnt_B h.2.2.2) (Nat.mul_le_mul_right (cntS m) h.2.2.1)
    show (stsB a).length + 1 ≤ 1 + 4 * cntS m
    omega
  | .for_ x a b r, 0, _, h => by unfold okS at h; exact h.elim
  | .for_ x a b r, m + 1, ns, h => by
    unfold okS at h
    have h1 := Nat.le_trans (cnt_B h.2.2.2.2) (Nat.mul_le_mul_right (cntS m) h.2.2.2.1)
    show (stsB r).length + 1 ≤ 1 + 4 * cntS m
    omega
  | .call g as, m, _, _ => cntS_pos m
  | .row x, m, _, _ => cntS_pos m
  | .col x, m, _, _ => cntS_pos m
  | .say x, m, _, _ => cntS_pos m
  | .set x y, m, _, _ => cntS_pos m
  | .stop, m, _, _ => cntS_pos m
end
theorem headsP_few {sz : Nat} {p : Pr} (h : okPr sz p) (hs : sz ≤ 8) : (headsP p).length ≤ 4000 := by
  rw [headsP_len, List.length_append]
  have h1 := Nat.le_trans (cnt_B h.body) (Nat.mul_le_mul_right (cntS 2) h.blen)
  have c2 : cntS 2 = 21 := rfl
  have c1 : cntS 1 = 5 := rfl
  have all : ∀ fs : List Df, (∀ f ∈ fs, f.body.length ≤ 3 ∧ okB (p.defs.map sig) 1 f.args f.body) → (stsD fs).length ≤ fs.length * 15 := fun fs => by
    induction fs with
    | nil => intro _; exact Nat.zero_le _
    | cons f fs ih =>
      intro hf
      have a1 := hf f List.mem_cons_self
      have a2 := Nat.le_trans (cnt_B a1.2) (Nat.mul_le_mul_right (cntS 1) a1.1)
      have a3 := ih fun x hx => hf x (List.mem_cons_of_mem _ hx)
      show (stsB f.body ++ stsD fs).length ≤ (fs.length + 1) * 15
      rw [List.length_append]
      omega
  have h2 := all p.defs fun f hf => by
    obtain ⟨j, hj, e⟩ := List.getElem_of_mem hf
    have q := h.defs j f (by rw [List.getElem?_eq_getElem hj, e])
    exact ⟨q.2.2.2.1, q.2.2.2.2⟩
  have h3 := h.len
  rw [c2] at h1
  omega
theorem asc_eq : ∀ {l m : List Int}, l.Pairwise (· < ·) → m.Pairwise (· < ·) → (∀ k, k ∈ l ↔ k ∈ m) → l = m
  | [], [], _, _, _ => rfl
  | [], y :: m, _, _, h => absurd ((h y).mpr List.mem_cons_self) (by simp)
  | x :: l, [], _, _, h => absurd ((h x).mp List.mem_cons_self) (by simp)
  | x :: l, y :: m, hl, hm, h => by
    have hl' := List.pairwise_cons.mp hl
    have hm' := List.pairwise_cons.mp hm
    have e : x = y := by
      rcases List.mem_cons.mp ((h x).mp List.mem_cons_self) with q | q
      · exact q
      · rcases List.mem_cons.mp ((h y).mpr List.mem_cons_self) with q2 | q2
        · exact q2.symm
        · have a1 := hm'.1 x q
          have a2 := hl'.1 y q2
          omega
    subst e
    rw [asc_eq hl'.2 hm'.2 fun k => ?_]
    constructor
    · intro hk
      have a1 := hl'.1 k hk
      rcases List.mem_cons.mp ((h k).mp (List.mem_cons_of_mem _ hk)) with q | q
      · omega
      · exact q
    · intro hk
      have a1 := hm'.1 k hk
      rcases List.mem_cons.mp ((h k).mpr (List.mem_cons_of_mem _ hk)) with q | q
      · omega
      · exact q
theorem tupDs_blks : ∀ l : List (List St), tupDs (l.map fun b => PyData.tuple (dB b)) = true
  | [] => rfl
  | b :: l => by
    show (tupD (.tuple (dB b)) && tupDs (l.map fun b => PyData.tuple (dB b))) = true
    rw [tupD_B', tupDs_blks l]
    rfl
/-- the blocks of a program -/
def blkP (p : Pr) : List (List St) := p.defs.map Df.body ++ [p.body]
def headsL : List (List St) → List Str
  | [] => []
  | b :: r => headsB b ++ headsL r
theorem headsL_append : ∀ a b : List (List St), headsL (a ++ b) = headsL a ++ headsL b
  | [], b => rfl
  | s :: a, b => by
    show headsB s ++ headsL (a ++ b) = headsB s ++ headsL a ++ headsL b
    rw [headsL_append a b, List.append_assoc]
theorem headsL_D : ∀ fs : List Df, headsL (fs.map Df.body) = headsD fs
  | [] => rfl
  | f :: fs => by
    show headsB f.body ++ headsL (fs.map Df.body) = headsB f.body ++ headsD fs
    rw [headsL_D fs]
theorem headsL_P (p : Pr) : headsL (blkP p) = headsP p := by
  unfold blkP headsP
  rw [headsL_append, headsL_D]
  show _ ++ (headsB p.body ++ []) = _
  rw [List.append_nil]
theorem headsL_take (l : List (List St)) (i : Nat) : (headsL (l.take i)).length ≤ (headsL l).length := by
  have e : headsL l = headsL (l.take i) ++ headsL (l.drop i) := by rw [← headsL_append, List.take_append_drop]
  rw [e, List.length_append]
  exact Nat.le_add_right _ _
section
variable {P : Program} {w : World} {K : PySem.W.Frag} {mg : Str → Option Value} {base : Heap}
def spLaw (K : PySem.W.Frag) (PT : Addr) : Sp := fun vs H Q _ => ∃ (a : Addr) (ns : List Int), vs = [.ref a] ∧ SqL K H a (ns.map V.int) ∧ ns.length ≤ 63 ∧ GN.Tab PT H ∧ ∀ H', GN.Tab PT H' → Q (.bl true) H'
abbrev lawN : List Str := ["script", "row", "whole", "text", "spots", "heads", "one", "block", "spot", "head"]
theorem scLaw : FnScope lawN ["script"] (defScope S_law) := ⟨rfl, rfl, rfl, by decide +kernel, rfl, by decide +kernel, by decide +kernel⟩
theorem ok_law {nR nP nG nZ N : Nat} {f fWh fX fA fR fP fG fZ fH PT : Addr} {fd fdWh fdX fdA fdR fdP fdG fdZ fdH : FuncData} (F : Fun K "law" "law" S_law f fd) (T : Blt mg) (hset : mg "set" = none) (hsort : mg "sorted" = none) (hzip : mg "zip" = none)
    (GW : FnOk P w K mg base CX0 9 fWh fdWh ["row", "size"] (spWhole K)) (mW : mg "_law_whole" = some (.ref fWh)) (kW : PySem.W.keepIn K (.ref fWh) = true) (bW : Binds K fdWh ["row", "size"] [])
    (GX : FnOk P w K mg base CX0 25 fX fdX ["row", "whole"] (spText K)) (mX : mg "_law_text" = some (.ref fX)) (kX : PySem.W.keepIn K (.ref fX) = true) (bX : Binds K fdX ["row", "whole"] [])
    (GA : FnOk P w K mg base CX0 70 fA fdA ["found", "due"] (spAlk K 70)) (mA : mg "_law_alike" = some (.ref fA)) (kA : PySem.W.keepIn K (.ref fA) = true) (bA : Binds K fdA ["found", "due"] [])
    (GR : FnOk P w K mg base CX0 nR fR fdR ["text"] (spReadT K PT)) (mR : mg "read" = some (.ref fR)) (kR : PySem.W.keepIn K (.ref fR) = true) (bR : Binds K fdR ["text"] [])
    (GP : FnOk P w K mg base CX0 nP fP fdP ["text"] (spPlaces K PT)) (mP : mg "places" = some (.ref fP)) (kP : PySem.W.keepIn K (.ref fP) = true) (bP : Binds K fdP ["text"] [])
    (GG : FnOk P w K mg base CX0 nG fG fdG ["text"] (spGood K PT 3)) (mG : mg "is_good" = some (.ref fG)) (kG : PySem.W.keepIn K (.ref fG) = true) (bG : Binds K fdG ["text"] [])
    (GZ : FnOk P w K mg base CX0 nZ fZ fdZ ["text"] (spSizes K PT 3)) (mZ : mg "sizes" = some (.ref fZ)) (kZ : PySem.W.keepIn K (.ref fZ) = true) (bZ : Binds K fdZ ["text"] [])
    (GH : FnOk P w K mg base CX0 12 fH fdH ["block"] (spHeads K 12)) (mH : mg "_law_heads" = some (.ref fH)) (kH : PySem.W.keepIn K (.ref fH) = true) (bH : Binds K fdH ["block"] [])
    (h70 : 70 ≤ N) (hRN : nR ≤ N) (hPN : nP ≤ N) (hGN : nG ≤ N) (hZN : nZ ≤ N) :
    FnOk P w K mg base CX0 (N + 1) f fd ["script"] (spLaw K PT) := by
  refine F.ok scLaw (fun vs H Q E h => ?_) (fun cdv A outer s0 H vs Q E hr h => ?_)
  · obtain ⟨a, ns, rfl, _⟩ := h
    rfl
  obtain ⟨a, ns, rfl, hS, h63, tab0, k⟩ := h
  have hrW : Room 9 _ := hr.mono (by omega)
  have hrX : Room 25 _ := hr.mono (by omega)
  have hrA : Room 70 _ := hr.mono (by omega)
  have hrR : Room nR _ := hr.mono (by omega)
  have hrP : Room nP _ := hr.mono (by omega)
  have hrG : Room nG _ := hr.mono (by omega)
  have hrZ : Room nZ _ := hr.mono (by omega)
  have hrH : Room 12 _ := hr.mono (by omega)
  refine ⟨_, pss_cons (ps_set (i := 1) scLaw.nd rfl (Or.inl rfl) (pe_lst (pa_cons (pv 0) (pa_cons pe_int (pa_cons pe_int (pa_cons pe_int pa_nil))))))
    (pss_cons (ps_set (i := 2) scLaw.nd rfl (Or.inl rfl) (pe_call GW hrW rfl mW kW bW .nil pass0 (pa_cons (pv 1) (pa_cons pe_int pa_nil))))
    (pss_cons (ps_set (i := 3) scLaw.nd rfl (Or.inl rfl) (pe_call GX hrX rfl mX kX bX .nil pass0 (pa_cons (pv 1) (pa_cons (pv 2) pa_nil))))
    (pss_cons (ps_if (PW.pt (pw_or (pt_not (pt_val (pe_call GA hrA rfl mA kA bA .nil pass0 (pa_cons (pe_call GR hrR rfl mR kR bR .nil pass0 (pa_cons (pv 3) pa_nil)) (pa_cons (pv 2) pa_nil))))) (pw_or1 (pt_cmpR op_notBl (pe_call GG hrG rfl mG kG bG .nil pass0 (pa_cons (pv 3) pa_nil)) pe_bl (nomark _))))) pss_never pss_nil)
    (pss_cons (ps_par (i := 4) (j := 5) (by rfl) scLaw.nd rfl rfl (by decide) rfl rfl (pa_cons (pe_call GP hrP rfl mP kP bP .nil pass0 (pa_cons (pv 3) pa_nil)) (pa_cons (pe_lst pa_nil) pa_nil)) (by rfl))
    (pss_cons (ps_for PassesOwn.never rfl (pi_list (pe_op op_cat (pe_lc (own := [("one", 6)]) (g := gName 6) rfl scLaw.nd (pi_tup (pe_ix ix_tup (pv 2) pe_int (fun _ _ => rfl)))
        (blkOk_by (own := [("one", 6)]) (N := lawN) (sc := defScope S_law) (by decide +kernel)) (fun _ _ _ _ _ => pg_name (i := 6) scLaw.nd rfl (Or.inl rfl)) (fun _ _ _ _ _ => pts_nil) (fun _ _ _ _ _ => pe_ix (r := rIxT K) ix_tup (pv 6) pe_int (fun _ _ => rfl)))
        (pe_lst (pa_cons (pe_ix ix_tup (pv 2) pe_int (fun _ _ => rfl)) pa_nil)))) (pg_name (i := 7) scLaw.nd rfl (Or.inl rfl))
      (pss_one (ps_set (i := 5) scLaw.nd rfl (Or.inl rfl) (pe_op op_cat (pv 5) (pe_call GH hrH rfl mH kH bH .nil pass0 (pa_cons (pv 7) pa_nil))))))
    (pss_cons (ps_if (PW.pt (pw_or (pt_cmpR op_ne (pe_callB call_len_seq (by rfl) T.len PySem.boot_len (pa_cons (pv 4) pa_nil)) (pe_callB call_len_seq (by rfl) T.len PySem.boot_len (pa_cons (pv 5) pa_nil)) (nomark _))
        (pw_or1 (pt_cmpR (op_neD hr.units) (pv 4) (pe_callB (ES.cr_sortB rfl) (by rfl) hsort (by decide +kernel) (pa_cons (pe_callTy (ES.cr_setL rfl) (by rfl) hset (by decide +kernel) (pa_cons (pv 4) pa_nil)) pa_nil)) (nomark _))))) pss_never pss_nil)
    (pss_cons (ps_for PassesOwn.never rfl (pi_zip (by rfl) hzip (pa_cons (pv 4) (pa_cons (pv 5) pa_nil))) (pg_tup rfl (pgs_cons (pg_name (i := 8) scLaw.nd rfl (Or.inl rfl)) (pgs_cons (pg_name (i := 9) scLaw.nd rfl (Or.inl rfl)) pgs_nil)))
      (pss_one (ps_if (pt_cmpR op_ne (pe_slice sl_str (pv 3) (po_some (pe_op op_sub (pv 8) pe_int)) (po_some (pe_op op_add (pe_op op_sub (pv 8) pe_int) (pe_callB call_len_str (by rfl) T.len PySem.boot_len (pa_cons (pv 9) pa_nil))))) (pv 9) (nomark _)) pss_never pss_nil)))
    (pss_one (ps_ret (pe_call GA hrA rfl mA kA bA .nil pass0 (pa_cons (pe_slice sl_tup (pe_call GZ hrZ rfl mZ kZ bZ .nil pass0 (pa_cons (pv 3) pa_nil)) po_none (po_some pe_int))
      (pa_cons (pe_tup (pa_cons (pe_callB call_len_seq (by rfl) T.len PySem.boot_len (pa_cons (pe_ix ix_tup (pv 2) pe_int (fun _ _ => rfl)) pa_nil)) (pa_cons (pe_callB call_len_seq (by rfl) T.len PySem.boot_len (pa_cons (pv 5) pa_nil)) pa_nil))) pa_nil)))))))))))), ?_⟩
  refine ⟨_, rfl, (by show 4 ≤ sizeLine; decide), fun r nr => ?_⟩
  have row1 : RowAt (upd H r (.lst [.ref a, .int 0, .int 5501, .int 0])) r a := ⟨0, 5501, 0, upd_same, by decide, by decide, by decide⟩
  have same1 : Same H (upd H r (.lst [.ref a, .int 0, .int 5501, .int 0])) := same_new nr _
  have scr1 : Scr K (upd H r (.lst [.ref a, .int 0, .int 5501, .int 0])) r a := ⟨ns, h63, fun H' kp => Same.seq (fun b o q => kp b o (ne_of_none q nr) (same1 b o q)) hS⟩
  have tab1 := same1 _ _ tab0
  have ntr : PT ≠ r := ne_of_none tab0 nr
  generalize upd H r (.lst [.ref a, .int 0, .int 5501, .int 0]) = H1 at row1 same1 scr1 tab1 ⊢
  refine ⟨_, rfl, ?_⟩
  refine ⟨r, a, 6, rfl, row1, scr1, by decide, fun H2 t p k2 R2 hp hok => ?_⟩
  obtain ⟨hw, hl⟩ := wfP_of hok (by decide)
  obtain ⟨hdd, hdb⟩ := deep_of hok
  have hsl := slimP hw (by omega)
  refine ⟨_, rfl, _, rfl, r, a, _, p, rfl, R2, scr1.mono k2, hp, hw, by omega, fun H3 X k3 R3 hX hXl => ?_⟩
  have tab3 : GN.Tab PT H3 := (k2.trans k3) _ _ ntr tab1
  have hp3 : Dp K H3 (.ref t) p.d := Dp.kt (R2.kt k3) (tupD_Pr p) hp
  have hrd : Rdb X p := .drawn hok (by decide) hX hXl
  have hgood := prOk_of hok (by decide) hrd.nd hdd hdb
  have hdep : PyData.depth p.d < 70 := by
    obtain ⟨a1, a2⟩ := layDs fun f hf => ⟨hw.defs f hf, hdd f hf⟩
    obtain ⟨b1, b2⟩ := layB hw.body
    show max (PyData.depthAll (p.defs.map Df.d) + 1) (max (PyData.depthAll (dB p.body) + 1) 0) + 1 < 70
    omega
  refine ⟨_, rfl, X, p, rfl, hrd, tab3, fun H4 v4 s4 hv4 => ⟨_, rfl, v4, .ref t, p.d, rfl, hv4, Dp.same s4 hp3, hdep, hsl, fun H5 s5 => ⟨true, rfl, ?_⟩⟩⟩
  refine iteF ?_
  have tab5 := s5 _ _ (s4 _ _ tab3)
  refine ⟨_, rfl, X, p, rfl, hrd, tab5, hgood, fun H6 s6 => ⟨true, true, rfl, rfl, _, rfl, iteF ?_⟩⟩
  have tab6 := s6 _ _ tab5
  have s36 := (s4.trans s5).trans s6
  -- spots, heads
  refine ⟨_, rfl, X, p, rfl, hrd, tab6, fun H7 sa ps s7 nsa hsa pl => ?_⟩
  refine ⟨Nat.zero_le _, fun fq nf => ⟨_, _, rfl, ?_⟩⟩
  have s8 := same_new nf (.lst [])
  have hf8 : (upd H7 fq (.lst [])) fq = some (.lst ((headsL ((blkP p).take 0)).map V.str)) := upd_same
  have hsa8 := s8 _ _ hsa
  have s38 := s36.trans (s7.trans s8)
  generalize upd H7 fq (.lst []) = H8 at s8 hf8 hsa8 s38 ⊢
  have hp8 := Dp.same s38 hp3
  have tab8 := s38 _ _ tab3
  have few : (headsP p).length ≤ 4000 := headsP_few hok (by decide)
  obtain ⟨at_, xs, e0, hT, hA⟩ := dp_tup hp8
  cases e0
  obtain ⟨w0, q0, rfl, e0, hA⟩ := dp_cons hA
  obtain ⟨w1, q1, rfl, e1, hA⟩ := dp_cons hA
  obtain rfl := dp_nil hA
  obtain ⟨ad, xd, rfl, hTd, hAd⟩ := dp_tup e0
  have hxd : xd.length = p.defs.length := by rw [DpAll.length hAd, List.length_map]
  have hat1 : atI [V.ref ad, w1] 1 = some w1 := atI_nat (j := 1) rfl
  refine ⟨_, rfl, t, _, _, _, rfl, rfl, hT, at0, ad, rfl, ⟨_, hTd⟩, fun D hD => ?_⟩
  refine lc_tup (a := ad) (xs := xd) (fun i H' => ∃ acc : List V, H' D = some (.lst acc) ∧ acc.length = i ∧ Same H8 H' ∧ DpAll K H' acc (((p.defs.map Df.body).take i).map fun b => PyData.tuple (dB b))) ⟨[], upd_same, rfl, same_new hD _, .nil⟩ (fun i H' _ ⟨_, _, _, s9, _⟩ => KT.same s9 _ _ hTd) ?_ ?_
  · rintro i z H9 hi ⟨acc, hD9, hal, s9, hacc⟩
    obtain ⟨d, hd1, hd2⟩ := DpAll.get hAd hi
    obtain ⟨df, hdf, rfl⟩ : ∃ df, p.defs[i]? = some df ∧ d = df.d := by
      rw [List.getElem?_map] at hd1
      cases q : p.defs[i]? with
      | none => rw [q] at hd1; cases hd1
      | some e => rw [q] at hd1; exact ⟨e, rfl, (Option.some.inj hd1).symm⟩
    have hil : i < p.defs.length := (List.getElem?_eq_some_iff.mp hdf).1
    have hl2 := hok.len
    obtain ⟨t3, ts, rfl, hT3, hB⟩ := dp_tup (Dp.same s9 hd2)
    obtain ⟨u0, p0, rfl, c0, hB⟩ := dp_cons hB
    obtain ⟨u1, p1, rfl, c1, hB⟩ := dp_cons hB
    obtain ⟨u2, p2, rfl, c2, hB⟩ := dp_cons hB
    have hat2 : atI (u0 :: u1 :: u2 :: p2) 2 = some u2 := atI_nat (j := 2) rfl
    refine ⟨rfl, ?_⟩
    unfold tYes
    refine iteT ?_
    refine ⟨_, rfl, t3, _, _, _, rfl, rfl, hT3, hat2, acc, hD9, Nat.lt_of_le_of_lt (show acc.length ≤ 2 by omega) (by decide), acc ++ [u2], upd_same, by rw [List.length_append, hal]; rfl, fun b o q => ?_, ?_⟩
    · rw [upd_ne (ne_of_none q hD)]
      exact s9 _ _ q
    · have kt := KT.upd (K := K) hD9 (.lst (acc ++ [u2]))
      have etk : (p.defs.map Df.body).take (i + 1) = (p.defs.map Df.body).take i ++ [df.body] := by
        rw [List.take_succ, List.getElem?_map, hdf]
        rfl
      rw [etk, List.map_append]
      exact DpAll.snoc (Dp.kt kt (tupD_B' df.body) c2) (DpAll.kt kt (tupDs_blks _) hacc)
  rintro H9 ⟨acc, hD9, hal, s9, hacc⟩
  rw [hxd, List.take_of_length_le (by rw [List.length_map]; exact Nat.le_refl _)] at hacc
  rw [hxd] at hal
  refine ⟨_, rfl, t, _, _, _, rfl, rfl, KT.same s9 _ _ hT, hat1, (by show 1 ≤ sizeLine; decide), fun D2 hD2 => ?_⟩
  have s10 := same_new hD2 (.lst [w1])
  have hl2 := hok.len
  refine ⟨D, D2, acc, [w1], rfl, rfl, s10 _ _ hD9, upd_same, Nat.le_trans (show acc.length + [w1].length ≤ 3 by rw [List.length_singleton]; omega) (by decide), fun D3 hD3 => ?_⟩
  have s11 := same_new hD3 (.lst (acc ++ [w1]))
  have hD3' : (upd (upd H9 D2 (.lst [w1])) D3 (.lst (acc ++ [w1]))) D3 = some (.lst (acc ++ [w1])) := upd_same
  have sAll := s10.trans s11
  generalize upd (upd H9 D2 (.lst [w1])) D3 (.lst (acc ++ [w1])) = H10 at s11 hD3' sAll ⊢
  have hxs : DpAll K H10 (acc ++ [w1]) ((blkP p).map fun b => PyData.tuple (dB b)) := by
    unfold blkP
    rw [List.map_append]
    exact DpAll.snoc (Dp.same (s9.trans sAll) e1) (DpAll.same sAll hacc)
  have xl : (acc ++ [w1]).length = (blkP p).length := by rw [DpAll.length hxs, List.length_map]
  have hblk : ∀ b ∈ blkP p, dpB b < 12 ∧ lenB b ≤ 1000000 := fun b hb => by
    unfold lenP at hl
    rcases List.mem_append.mp hb with q | q
    · obtain ⟨df, hdf, rfl⟩ := List.mem_map.mp q
      have q2 := lenDs_mem hdf
      have q3 : lenD df = 100 + lenB df.body := rfl
      exact ⟨Nat.lt_of_le_of_lt (hdd df hdf) (by decide), by omega⟩
    · rw [List.mem_singleton.mp q]
      exact ⟨Nat.lt_of_le_of_lt hdb (by decide), by omega⟩
  refine ⟨D3, rfl, ⟨_, SqL.of hD3'⟩, for_list (K := K) (a := D3) (xs := acc ++ [w1]) (fun i σ H' => ∃ (fq : Addr) (v7 : Option V), σ = [some (.ref a), some (.ref r), some (.ref t), some (.str X), some (.ref sa), some (.ref fq), none, v7, none, none] ∧ Same H10 H' ∧ H' fq = some (.lst ((headsL ((blkP p).take i)).map V.str)))
    ⟨fq, none, rfl, Same.refl _, sAll _ _ (s9 _ _ hf8)⟩ (fun i σ H' _ ⟨_, _, _, s12, _⟩ => SqL.of (s12 _ _ hD3')) ?_ ?_⟩
  · rintro i y σ H11 hi ⟨fq, v7, rfl, s12, hf⟩
    obtain ⟨d, hd1, hd2⟩ := DpAll.get hxs hi
    obtain ⟨bk, hbk, rfl⟩ : ∃ bk, (blkP p)[i]? = some bk ∧ d = .tuple (dB bk) := by
      rw [List.getElem?_map] at hd1
      cases q : (blkP p)[i]? with
      | none => rw [q] at hd1; cases hd1
      | some e => rw [q] at hd1; exact ⟨e, rfl, (Option.some.inj hd1).symm⟩
    obtain ⟨g1, g2⟩ := hblk bk (List.mem_of_getElem? hbk)
    have etk : (blkP p).take (i + 1) = (blkP p).take i ++ [bk] := by rw [List.take_succ, hbk]; rfl
    have hle := headsL_take (blkP p) (i + 1)
    rw [headsL_P, etk, headsL_append, show headsL [bk] = headsB bk from List.append_nil _, List.length_append] at hle
    refine ⟨_, rfl, _, rfl, y, bk, rfl, Dp.same s12 hd2, g1, g2, fun H12 p12 s13 n12 h12 => ?_⟩
    refine ⟨fq, p12, _, _, rfl, rfl, s13 _ _ hf, h12, Nat.le_trans (show ((headsL ((blkP p).take i)).map V.str).length + ((headsB bk).map V.str).length ≤ 4000 by rw [List.length_map, List.length_map]; omega) (by decide), fun pn nn => ?_⟩
    refine ⟨pn, _, rfl, s12.trans (s13.trans (same_new nn _)), ?_⟩
    rw [upd_same, etk, headsL_append, show headsL [bk] = headsB bk from List.append_nil _, List.map_append]
  rintro σ H11 ⟨fq, v7, rfl, s12, hf⟩
  rw [xl, List.take_length, headsL_P] at hf
  have s812 := (s9.trans sAll).trans s12
  have hsa11 := s812 _ _ hsa8
  have eps : (ps.map fun p : Nat => V.int (p : Nat)) = (ps.map fun p : Nat => (p : Int)).map V.int := by rw [List.map_map]; rfl
  have plen : ps.length = (headsP p).length := pl.len
  have asc : (ps.map fun p : Nat => (p : Int)).Pairwise (· < ·) := by
    rw [List.pairwise_map]
    exact pl.asc.imp fun {x y} q => by omega
  have hXz : X.length ≤ sizeLine := Nat.le_trans hrd.len (by decide)
  refine ⟨_, rfl, sa, _, rfl, .inl (SqL.of hsa11), _, rfl, fq, _, rfl, .inl (SqL.of hf), rfl, _, rfl, ?_⟩
  refine iteNS (by rw [List.length_map, List.length_map, plen]) ?_
  refine ⟨_, rfl, _, rfl, sa, ps.map (fun p : Nat => (p : Int)), rfl, SqL.of (by rw [← eps]; exact hsa11), by rw [List.length_map]; omega, fun sp c nsp hc => ?_⟩
  rw [List.length_map] at hc
  refine ⟨sp, _, c, rfl, upd_same, by omega, fun ns' so hasc hmem hz nso => ?_⟩
  have ens : ns' = ps.map fun p : Nat => (p : Int) := asc_eq hasc asc fun k => by rw [hmem k, decide_eq_true_iff]
  subst ens
  have s13 := (same_new nsp (SetO w sp (fun j => decide (j ∈ ps.map fun p : Nat => (p : Int))) c)).trans (same_new nso (.lst ((ps.map fun p : Nat => (p : Int)).map V.int)))
  refine ⟨.list (ps.map fun p : Nat => PyData.int (p : Nat)), .list (ps.map fun p : Nat => PyData.int (p : Nat)), .lst (SqL.of (s13 _ _ hsa11)) (dp_ints ps), .lst (SqL.of (by rw [← eps]; exact upd_same)) (dp_ints ps), shaped_nats ps, shaped_nats ps, _, rfl, ?_⟩
  have hlay : PyData.canLay0 (.list (ps.map fun p : Nat => PyData.int (p : Nat))) = true := by
    have q := shaped_nats ps
    unfold SeqAt.shaped at q
    rw [Bool.and_eq_true] at q
    exact q.1
  rw [SeqAt.eqv_refl _ hlay]
  refine iteF ?_
  generalize upd (upd H11 sp _) so _ = H13 at s13 ⊢
  have hsa13 := s13 _ _ hsa11
  have hf13 := s13 _ _ hf
  have zl : (ps.map fun p : Nat => V.int (p : Nat)).length = ((headsP p).map V.str).length := by rw [List.length_map, List.length_map, plen]
  refine ⟨_, rfl, _, rfl, sa, fq, _, _, rfl, SqL.of hsa13, SqL.of hf13, RZ.for_zipL zl (fun i σ H' => ∃ (v8 v9 : Option V), σ = [some (.ref a), some (.ref r), some (.ref t), some (.str X), some (.ref sa), some (.ref fq), none, v7, v8, v9] ∧ Same H13 H')
    ⟨none, none, rfl, Same.refl _⟩ (fun i σ H' ⟨_, _, _, s14⟩ => ⟨SqL.of (s14 _ _ hsa13), SqL.of (s14 _ _ hf13)⟩) ?_ ?_⟩
  · rintro i x y T' σ H14 hx hy ⟨v8, v9, rfl, s14⟩ nT
    obtain ⟨pp, hpp, rfl⟩ : ∃ pp, ps[i]? = some pp ∧ x = .int (pp : Nat) := by
      rw [List.getElem?_map] at hx
      cases q : ps[i]? with
      | none => rw [q] at hx; cases hx
      | some e => rw [q] at hx; exact ⟨e, rfl, (Option.some.inj hx).symm⟩
    obtain ⟨hd, hhd, rfl⟩ : ∃ hd, (headsP p)[i]? = some hd ∧ y = .str hd := by
      rw [List.getElem?_map] at hy
      cases q : (headsP p)[i]? with
      | none => rw [q] at hy; cases hy
      | some e => rw [q] at hy; exact ⟨e, rfl, (Option.some.inj hy).symm⟩
    obtain ⟨g1, g2, g3⟩ := pl.at_ i pp hd hpp hhd
    have hXl2 : (tl X).length = X.length := (len_tl X).symm
    have g4 : hd.length ≤ X.length := by
      have q := congrArg List.length g3
      rw [List.length_take, List.length_drop] at q
      rw [len_tl hd, len_tl X]
      omega
    have sT := s14.trans (same_new nT (.tup [.int (pp : Nat), .str hd]))
    refine ⟨T', _, rfl, SqT.of upd_same, rfl, _, _, rfl, _, _, rfl, rfl, ?_⟩
    refine ⟨_, rfl, _, rfl, _, _, rfl, rfl, _, rfl, _, rfl, _, _, rfl, rfl, _, rfl, hd, rfl, Nat.le_trans g4 hXz, _, _, rfl, rfl, _, rfl, X, rfl, hXz, _, rfl, rfl, _, rfl, ?_⟩
    have c1 : ((pp : Nat) : Int) - 1 = ((pp - 1 : Nat) : Int) := by omega
    have c2 : ((pp : Nat) : Int) - 1 + ((hd.length : Nat) : Int) = ((pp - 1 + hd.length : Nat) : Int) := by omega
    have ecut : cutS X (some (((pp : Nat) : Int) - 1)) (some (((pp : Nat) : Int) - 1 + ((hd.length : Nat) : Int))) = hd := by
      rw [c2, c1]
      refine tl_same ?_
      rw [K8.cut_tl (by omega), Nat.add_sub_cancel_left, len_tl hd]
      exact g3
    refine iteNS (by rw [ecut]) ?_
    exact ⟨_, _, rfl, sT⟩
  rintro σ H14 ⟨v8, v9, rfl, s14⟩
  have s8e := s812.trans (s13.trans s14)
  have tabE := s8e _ _ tab8
  refine ⟨_, rfl, X, p, rfl, hrd, tabE, hgood, fun H15 za ze s15 hza => ?_⟩
  refine ⟨2, rfl, za, _, rfl, SqT.of hza, (by show ¬ (HT.sIx 3 0 none = 0 ∧ HT.sIx 3 3 (some 2) = 3); decide), fun zq nzq => ?_⟩
  have s16 := same_new nzq (.tup (cutV [V.int (p.defs.length : Nat), .int ((stsD p.defs ++ stsB p.body).length : Nat), .int ze] none (some 2)))
  have hzq : (upd H15 zq (.tup (cutV [V.int (p.defs.length : Nat), .int ((stsD p.defs ++ stsB p.body).length : Nat), .int ze] none (some 2)))) zq = some (.tup [V.int (p.defs.length : Nat), .int ((stsD p.defs ++ stsB p.body).length : Nat)]) := by
    rw [upd_same, show (2 : Int) = ((2 : Nat) : Int) from rfl, cut_to]
    rfl
  generalize upd H15 zq (.tup (cutV [V.int (p.defs.length : Nat), .int ((stsD p.defs ++ stsB p.body).length : Nat), .int ze] none (some 2))) = H16 at s16 hzq ⊢
  have s8f := s8e.trans (s15.trans s16)
  refine ⟨_, rfl, t, _, _, _, rfl, rfl, KT.same s8f _ _ hT, at0, ad, xd, rfl, .inr (KT.same s8f _ _ hTd), _, rfl, fq, _, rfl, .inl (SqL.of (s16 _ _ (s15 _ _ (s14 _ _ hf13)))), (by show 2 ≤ sizeLine; decide), fun tp ntp => ?_⟩
  have s17 := same_new ntp (.tup [V.int (xd.length : Nat), .int (((headsP p).map V.str).length : Nat)])
  refine ⟨.ref zq, .ref tp, .tuple [.int (p.defs.length : Nat), .int ((stsD p.defs ++ stsB p.body).length : Nat)], rfl, .tup (SqT.of (s17 _ _ hzq)) (.cons (.int _) (.cons (.int _) .nil)), ?_, by show 1 < 70; decide, rfl, fun H18 s18 => k H18 (s18 _ _ (s17 _ _ ((s15.trans s16) _ _ tabE)))⟩
  refine .tup (SqT.of (by rw [upd_same, hxd, List.length_map, headsP_len])) (.cons (.int _) (.cons (.int _) .nil))
end
end KD

namespace KD
open PySem L2 TL
open K0 (num Toks)
set_option maxHeartbeats 8000000 in
theorem all_mk {l : PySem.W.OpenLaw} {w : World} {K : PySem.W.Frag} {h : Heap} {mg : Str → Option Value} {fa C fW1 fW2 fW3 fW4 fW5 fW6 fN f1 fP1 fP2 fP3 fP4 fP5 fP6 fP7 fP8 fP9 fY1 fY2 fY3 fY4 fY5 fY6 fY7 fY8 f2 f3 f4 fX1 fX2 fX3 fX4 fX5 fX6 fX7 fX8 f7 fRI fR1 fR2 fR3 fR4 fR5 fR6 fR7 fR8 fR9 fQ1 fQ2 fQ3 fQ4 fQ5 fB1 fB2 fB3 fB4 fB5 fB6 fB7 fB8 fD1 fD2 qN PT tK tM tS tL tL0 tL1 tL2 tL3 tL4 tZ dX dB : Addr} (X : K.In h) (G : h.Ns mainGlobals mg) (hfa : mg "law" = some (.ref fa)) (TO : ∃ c P, GN.TabOf mg "is_number" h c P)
    {odW1 anW1 odW2 anW2 odW3 anW3 odW4 anW4 odW5 anW5 odW6 anW6 odN anN od1 an1 odP1 anP1 odP2 anP2 odP3 anP3 odP4 anP4 odP5 anP5 odP6 anP6 odP7 anP7 odP8 anP8 odP9 anP9 odY1 anY1 odY2 anY2 odY3 anY3 odY4 anY4 odY5 anY5 odY6 anY6 odY7 anY7 odY8 anY8 od2 an2 od3 an3 od4 an4 odX1 anX1 odX2 anX2 odX3 anX3 odX4 anX4 odX5 anX5 odX6 anX6 odX7 anX7 odX8 anX8 od7 an7 odRI anRI odR1 anR1 odR2 anR2 odR3 anR3 odR4 anR4 odR5 anR5 odR6 anR6 odR7 anR7 odR8 anR8 odR9 anR9 odQ1 anQ1 odQ2 anQ2 odQ3 anQ3 odQ4 anQ4 odQ5 anQ5 odB1 anB1 odB2 anB2 odB3 anB3 odB4 anB4 odB5 anB5 odB6 anB6 odB7 anB7 odB8 anB8 odD1 anD1 odD2 anD2 odN2 otK otM otS otL otL0 otL1 otL2 otL3 otL4 otZ : Option Addr} {slW1 slW2 slW3 slW4 slW5 slW6 slN sl1 slP1 slP2 slP3 slP4 slP5 slP6 slP7 slP8 slP9 slY1 slY2 slY3 slY4 slY5 slY6 slY7 slY8 sl2 sl3 sl4 slX1 slX2 slX3 slX4 slX5 slX6 slX7 slX8 sl7 slRI slR1 slR2 slR3 slR4 slR5 slR6 slR7 slR8 slR9 slQ1 slQ2 slQ3 slQ4 slQ5 slB1 slB2 slB3 slB4 slB5 slB6 slB7 slB8 slD1 slD2 slN2 stK stM stS stL stL0 stL1 stL2 stL3 stL4 stZ : Array (Option Value)} {ocW1 kVW1 dcW1 pmW1 cdW1 ctW1 ocW2 kVW2 dcW2 pmW2 cdW2 ctW2 ocW3 kVW3 dcW3 pmW3 cdW3 ctW3 ocW4 kVW4 dcW4 pmW4 cdW4 ctW4 ocW5 kVW5 dcW5 pmW5 cdW5 ctW5 ocW6 kVW6 dcW6 pmW6 cdW6 ctW6 ocN kVN dcN pmN ctN oc1 kV1 dc1 pm1 cd1 ct1 ocP1 kVP1 dcP1 pmP1 cdP1 ctP1 ocP2 kVP2 dcP2 pmP2 cdP2 ctP2 ocP3 kVP3 dcP3 pmP3 cdP3 ctP3 ocP4 kVP4 dcP4 pmP4 cdP4 ctP4 ocP5 kVP5 dcP5 pmP5 cdP5 ctP5 ocP6 kVP6 dcP6 pmP6 cdP6 ctP6 ocP7 kVP7 dcP7 pmP7 cdP7 ctP7 ocP8 kVP8 dcP8 pmP8 cdP8 ctP8 ocP9 kVP9 dcP9 pmP9 cdP9 ctP9 ocY1 kVY1 dcY1 pmY1 cdY1 ctY1 ocY2 kVY2 dcY2 pmY2 cdY2 ctY2 ocY3 kVY3 dcY3 pmY3 cdY3 ctY3 ocY4 kVY4 dcY4 pmY4 cdY4 ctY4 ocY5 kVY5 dcY5 pmY5 cdY5 ctY5 ocY6 kVY6 dcY6 pmY6 cdY6 ctY6 ocY7 kVY7 dcY7 pmY7 cdY7 ctY7 ocY8 kVY8 dcY8 pmY8 cdY8 ctY8 oc2 kV2 dc2 pm2 cd2 ct2 oc3 kV3 dc3 pm3 cd3 ct3 oc4 kV4 dc4 pm4 cd4 ct4 ocX1 kVX1 dcX1 pmX1 cdX1 ctX1 ocX2 kVX2 dcX2 pmX2 cdX2 ctX2 ocX3 kVX3 dcX3 pmX3 cdX3 ctX3 ocX4 kVX4 dcX4 pmX4 cdX4 ctX4 ocX5 kVX5 dcX5 pmX5 cdX5 ctX5 ocX6 kVX6 dcX6 pmX6 cdX6 ctX6 ocX7 kVX7 dcX7 pmX7 cdX7 ctX7 ocX8 kVX8 dcX8 pmX8 cdX8 ctX8 oc7 kV7 dc7 pm7 cd7 ct7 ocRI kVRI dcRI pmRI cdRI ctRI ocR1 kVR1 dcR1 pmR1 cdR1 ctR1 ocR2 kVR2 dcR2 pmR2 cdR2 ctR2 ocR3 kVR3 dcR3 pmR3 cdR3 ctR3 ocR4 kVR4 dcR4 pmR4 cdR4 ctR4 ocR5 kVR5 dcR5 pmR5 cdR5 ctR5 ocR6 kVR6 dcR6 pmR6 cdR6 ctR6 ocR7 kVR7 dcR7 pmR7 cdR7 ctR7 ocR8 kVR8 dcR8 pmR8 cdR8 ctR8 ocR9 kVR9 dcR9 pmR9 cdR9 ctR9 ocQ1 kVQ1 dcQ1 pmQ1 cdQ1 ctQ1 ocQ2 kVQ2 dcQ2 pmQ2 cdQ2 ctQ2 ocQ3 kVQ3 dcQ3 pmQ3 cdQ3 ctQ3 ocQ4 kVQ4 dcQ4 pmQ4 cdQ4 ctQ4 ocQ5 kVQ5 dcQ5 pmQ5 cdQ5 ctQ5 ocB1 kVB1 dcB1 pmB1 cdB1 ctB1 ocB2 kVB2 dcB2 pmB2 cdB2 ctB2 ocB3 kVB3 dcB3 pmB3 cdB3 ctB3 ocB4 kVB4 dcB4 pmB4 cdB4 ctB4 ocB5 kVB5 dcB5 pmB5 cdB5 ctB5 ocB6 kVB6 dcB6 pmB6 cdB6 ctB6 ocB7 kVB7 dcB7 pmB7 cdB7 ctB7 ocB8 kVB8 dcB8 pmB8 cdB8 ctB8 ocD1 kVD1 dcD1 pmD1 cdD1 ctD1 ocD2 kVD2 dcD2 pmD2 cdD2 ctD2 ocN2 : Value} {vsN2 itK itM itS itL itL0 itL1 itL2 itL3 itL4 itZ : Array Value} {edX edB : Array DictEntry} {ntK ntM ntS ntL ntL0 ntL1 ntL2 ntL3 ntL4 ntZ ndX ndB : Nat} {tk1 tk2 tk3 tk4 tk5 tk6 tk7 tk8 tk9 tdX0 tdX1 tdX2 tdX3 tdX4 tdX5 tdX6 tdX7 tdB0 tdB1 tdB2 tdB3 tdB4 tdB5 tdB6 tdB7 tdB8 : Tok}
    (aC : PySem.W.nsIn K mainGlobals "Reader" = some (some (.ref C)))
    (aW1 : PySem.W.nsIn K mainGlobals "placed_words" = some (some (.ref fW1)))
    (lW1 : K.lookup fW1 = some ⟨ocW1, odW1, .func (PySem.W.fnOf "placed_words" "placed_words" (defArgs S_placed_words) (defBody S_placed_words) (defScope S_placed_words) .none kVW1 dcW1 pmW1 anW1 cdW1 ctW1), slW1⟩)
    (cW1 : PySem.W.codeIn K cdW1 "placed_words" = true)
    (kW1 : PySem.W.keepIn K (.ref fW1) = true)
    (aW2 : PySem.W.nsIn K mainGlobals "check_text" = some (some (.ref fW2)))
    (lW2 : K.lookup fW2 = some ⟨ocW2, odW2, .func (PySem.W.fnOf "check_text" "check_text" (defArgs S_check_text) (defBody S_check_text) (defScope S_check_text) .none kVW2 dcW2 pmW2 anW2 cdW2 ctW2), slW2⟩)
    (cW2 : PySem.W.codeIn K cdW2 "check_text" = true)
    (kW2 : PySem.W.keepIn K (.ref fW2) = true)
    (aW3 : PySem.W.nsIn K mainGlobals "word_at" = some (some (.ref fW3)))
    (lW3 : K.lookup fW3 = some ⟨ocW3, odW3, .func (PySem.W.fnOf "word_at" "word_at" (defArgs S_word_at) (defBody S_word_at) (defScope S_word_at) .none kVW3 dcW3 pmW3 anW3 cdW3 ctW3), slW3⟩)
    (cW3 : PySem.W.codeIn K cdW3 "word_at" = true)
    (kW3 : PySem.W.keepIn K (.ref fW3) = true)
    (aW4 : PySem.W.nsIn K mainGlobals "signs_at" = some (some (.ref fW4)))
    (lW4 : K.lookup fW4 = some ⟨ocW4, odW4, .func (PySem.W.fnOf "signs_at" "signs_at" (defArgs S_signs_at) (defBody S_signs_at) (defScope S_signs_at) .none kVW4 dcW4 pmW4 anW4 cdW4 ctW4), slW4⟩)
    (cW4 : PySem.W.codeIn K cdW4 "signs_at" = true)
    (kW4 : PySem.W.keepIn K (.ref fW4) = true)
    (aW5 : PySem.W.nsIn K mainGlobals "run_end" = some (some (.ref fW5)))
    (lW5 : K.lookup fW5 = some ⟨ocW5, odW5, .func (PySem.W.fnOf "run_end" "run_end" (defArgs S_run_end) (defBody S_run_end) (defScope S_run_end) .none kVW5 dcW5 pmW5 anW5 cdW5 ctW5), slW5⟩)
    (cW5 : PySem.W.codeIn K cdW5 "run_end" = true)
    (kW5 : PySem.W.keepIn K (.ref fW5) = true)
    (aW6 : PySem.W.nsIn K mainGlobals "kind_of" = some (some (.ref fW6)))
    (lW6 : K.lookup fW6 = some ⟨ocW6, odW6, .func (PySem.W.fnOf "kind_of" "kind_of" (defArgs S_kind_of) (defBody S_kind_of) (defScope S_kind_of) .none kVW6 dcW6 pmW6 anW6 cdW6 ctW6), slW6⟩)
    (cW6 : PySem.W.codeIn K cdW6 "kind_of" = true)
    (kW6 : PySem.W.keepIn K (.ref fW6) = true)
    (aN : PySem.W.nsIn K mainGlobals "is_number" = some (some (.ref fN)))
    (lN : K.lookup fN = some ⟨ocN, odN, .func (PySem.W.fnOf "is_number" "is_number" (defArgs S_is_number) (defBody S_is_number) (defScope S_is_number) .none kVN dcN pmN anN (.ref qN) ctN), slN⟩)
    (cN : PySem.W.codeIn K (.ref qN) "is_number" = true)
    (kN : PySem.W.keepIn K (.ref fN) = true)
    (a1 : PySem.W.nsIn K mainGlobals "read" = some (some (.ref f1)))
    (l1 : K.lookup f1 = some ⟨oc1, od1, .func (PySem.W.fnOf "read" "read" (defArgs S_read) (defBody S_read) (defScope S_read) .none kV1 dc1 pm1 an1 cd1 ct1), sl1⟩)
    (c1 : PySem.W.codeIn K cd1 "read" = true)
    (k1 : PySem.W.keepIn K (.ref f1) = true)
    (aP1 : PySem.W.nsIn K mainGlobals "blocks_of" = some (some (.ref fP1)))
    (lP1 : K.lookup fP1 = some ⟨ocP1, odP1, .func (PySem.W.fnOf "blocks_of" "blocks_of" (defArgs S_blocks_of) (defBody S_blocks_of) (defScope S_blocks_of) .none kVP1 dcP1 pmP1 anP1 cdP1 ctP1), slP1⟩)
    (cP1 : PySem.W.codeIn K cdP1 "blocks_of" = true)
    (kP1 : PySem.W.keepIn K (.ref fP1) = true)
    (aP2 : PySem.W.nsIn K mainGlobals "expressions_of" = some (some (.ref fP2)))
    (lP2 : K.lookup fP2 = some ⟨ocP2, odP2, .func (PySem.W.fnOf "expressions_of" "expressions_of" (defArgs S_expressions_of) (defBody S_expressions_of) (defScope S_expressions_of) .none kVP2 dcP2 pmP2 anP2 cdP2 ctP2), slP2⟩)
    (cP2 : PySem.W.codeIn K cdP2 "expressions_of" = true)
    (kP2 : PySem.W.keepIn K (.ref fP2) = true)
    (aP3 : PySem.W.nsIn K mainGlobals "statements_in" = some (some (.ref fP3)))
    (lP3 : K.lookup fP3 = some ⟨ocP3, odP3, .func (PySem.W.fnOf "statements_in" "statements_in" (defArgs S_statements_in) (defBody S_statements_in) (defScope S_statements_in) .none kVP3 dcP3 pmP3 anP3 cdP3 ctP3), slP3⟩)
    (cP3 : PySem.W.codeIn K cdP3 "statements_in" = true)
    (kP3 : PySem.W.keepIn K (.ref fP3) = true)
    (aP4 : PySem.W.nsIn K mainGlobals "statements_told" = some (some (.ref fP4)))
    (lP4 : K.lookup fP4 = some ⟨ocP4, odP4, .func (PySem.W.fnOf "statements_told" "statements_told" (defArgs S_statements_told) (defBody S_statements_told) (defScope S_statements_told) .none kVP4 dcP4 pmP4 anP4 cdP4 ctP4), slP4⟩)
    (cP4 : PySem.W.codeIn K cdP4 "statements_told" = true)
    (kP4 : PySem.W.keepIn K (.ref fP4) = true)
    (aP5 : PySem.W.nsIn K mainGlobals "expressions_in" = some (some (.ref fP5)))
    (lP5 : K.lookup fP5 = some ⟨ocP5, odP5, .func (PySem.W.fnOf "expressions_in" "expressions_in" (defArgs S_expressions_in) (defBody S_expressions_in) (defScope S_expressions_in) .none kVP5 dcP5 pmP5 anP5 cdP5 ctP5), slP5⟩)
    (cP5 : PySem.W.codeIn K cdP5 "expressions_in" = true)
    (kP5 : PySem.W.keepIn K (.ref fP5) = true)
    (aP6 : PySem.W.nsIn K mainGlobals "all_statements" = some (some (.ref fP6)))
    (lP6 : K.lookup fP6 = some ⟨ocP6, odP6, .func (PySem.W.fnOf "all_statements" "all_statements" (defArgs S_all_statements) (defBody S_all_statements) (defScope S_all_statements) .none kVP6 dcP6 pmP6 anP6 cdP6 ctP6), slP6⟩)
    (cP6 : PySem.W.codeIn K cdP6 "all_statements" = true)
    (kP6 : PySem.W.keepIn K (.ref fP6) = true)
    (aP7 : PySem.W.nsIn K mainGlobals "is_written" = some (some (.ref fP7)))
    (lP7 : K.lookup fP7 = some ⟨ocP7, odP7, .func (PySem.W.fnOf "is_written" "is_written" (defArgs S_is_written) (defBody S_is_written) (defScope S_is_written) .none kVP7 dcP7 pmP7 anP7 cdP7 ctP7), slP7⟩)
    (cP7 : PySem.W.codeIn K cdP7 "is_written" = true)
    (kP7 : PySem.W.keepIn K (.ref fP7) = true)
    (aP8 : PySem.W.nsIn K mainGlobals "ends_all" = some (some (.ref fP8)))
    (lP8 : K.lookup fP8 = some ⟨ocP8, odP8, .func (PySem.W.fnOf "ends_all" "ends_all" (defArgs S_ends_all) (defBody S_ends_all) (defScope S_ends_all) .none kVP8 dcP8 pmP8 anP8 cdP8 ctP8), slP8⟩)
    (cP8 : PySem.W.codeIn K cdP8 "ends_all" = true)
    (kP8 : PySem.W.keepIn K (.ref fP8) = true)
    (aP9 : PySem.W.nsIn K mainGlobals "check_names" = some (some (.ref fP9)))
    (lP9 : K.lookup fP9 = some ⟨ocP9, odP9, .func (PySem.W.fnOf "check_names" "check_names" (defArgs S_check_names) (defBody S_check_names) (defScope S_check_names) .none kVP9 dcP9 pmP9 anP9 cdP9 ctP9), slP9⟩)
    (cP9 : PySem.W.codeIn K cdP9 "check_names" = true)
    (kP9 : PySem.W.keepIn K (.ref fP9) = true)
    (aY1 : PySem.W.nsIn K mainGlobals "names_behind" = some (some (.ref fY1)))
    (lY1 : K.lookup fY1 = some ⟨ocY1, odY1, .func (PySem.W.fnOf "names_behind" "names_behind" (defArgs S_names_behind) (defBody S_names_behind) (defScope S_names_behind) .none kVY1 dcY1 pmY1 anY1 cdY1 ctY1), slY1⟩)
    (cY1 : PySem.W.codeIn K cdY1 "names_behind" = true)
    (kY1 : PySem.W.keepIn K (.ref fY1) = true)
    (aY2 : PySem.W.nsIn K mainGlobals "names_behind_blocks" = some (some (.ref fY2)))
    (lY2 : K.lookup fY2 = some ⟨ocY2, odY2, .func (PySem.W.fnOf "names_behind_blocks" "names_behind_blocks" (defArgs S_names_behind_blocks) (defBody S_names_behind_blocks) (defScope S_names_behind_blocks) .none kVY2 dcY2 pmY2 anY2 cdY2 ctY2), slY2⟩)
    (cY2 : PySem.W.codeIn K cdY2 "names_behind_blocks" = true)
    (kY2 : PySem.W.keepIn K (.ref fY2) = true)
    (aY3 : PySem.W.nsIn K mainGlobals "check_calls" = some (some (.ref fY3)))
    (lY3 : K.lookup fY3 = some ⟨ocY3, odY3, .func (PySem.W.fnOf "check_calls" "check_calls" (defArgs S_check_calls) (defBody S_check_calls) (defScope S_check_calls) .none kVY3 dcY3 pmY3 anY3 cdY3 ctY3), slY3⟩)
    (cY3 : PySem.W.codeIn K cdY3 "check_calls" = true)
    (kY3 : PySem.W.keepIn K (.ref fY3) = true)
    (aY4 : PySem.W.nsIn K mainGlobals "check_tree" = some (some (.ref fY4)))
    (lY4 : K.lookup fY4 = some ⟨ocY4, odY4, .func (PySem.W.fnOf "check_tree" "check_tree" (defArgs S_check_tree) (defBody S_check_tree) (defScope S_check_tree) .none kVY4 dcY4 pmY4 anY4 cdY4 ctY4), slY4⟩)
    (cY4 : PySem.W.codeIn K cdY4 "check_tree" = true)
    (kY4 : PySem.W.keepIn K (.ref fY4) = true)
    (aY5 : PySem.W.nsIn K mainGlobals "good_tree" = some (some (.ref fY5)))
    (lY5 : K.lookup fY5 = some ⟨ocY5, odY5, .func (PySem.W.fnOf "good_tree" "good_tree" (defArgs S_good_tree) (defBody S_good_tree) (defScope S_good_tree) .none kVY5 dcY5 pmY5 anY5 cdY5 ctY5), slY5⟩)
    (cY5 : PySem.W.codeIn K cdY5 "good_tree" = true)
    (kY5 : PySem.W.keepIn K (.ref fY5) = true)
    (aY6 : PySem.W.nsIn K mainGlobals "is_good" = some (some (.ref fY6)))
    (lY6 : K.lookup fY6 = some ⟨ocY6, odY6, .func (PySem.W.fnOf "is_good" "is_good" (defArgs S_is_good) (defBody S_is_good) (defScope S_is_good) .none kVY6 dcY6 pmY6 anY6 cdY6 ctY6), slY6⟩)
    (cY6 : PySem.W.codeIn K cdY6 "is_good" = true)
    (kY6 : PySem.W.keepIn K (.ref fY6) = true)
    (aY7 : PySem.W.nsIn K mainGlobals "sizes" = some (some (.ref fY7)))
    (lY7 : K.lookup fY7 = some ⟨ocY7, odY7, .func (PySem.W.fnOf "sizes" "sizes" (defArgs S_sizes) (defBody S_sizes) (defScope S_sizes) .none kVY7 dcY7 pmY7 anY7 cdY7 ctY7), slY7⟩)
    (cY7 : PySem.W.codeIn K cdY7 "sizes" = true)
    (kY7 : PySem.W.keepIn K (.ref fY7) = true)
    (aY8 : PySem.W.nsIn K mainGlobals "places" = some (some (.ref fY8)))
    (lY8 : K.lookup fY8 = some ⟨ocY8, odY8, .func (PySem.W.fnOf "places" "places" (defArgs S_places) (defBody S_places) (defScope S_places) .none kVY8 dcY8 pmY8 anY8 cdY8 ctY8), slY8⟩)
    (cY8 : PySem.W.codeIn K cdY8 "places" = true)
    (kY8 : PySem.W.keepIn K (.ref fY8) = true)
    (a2 : PySem.W.nsIn K mainGlobals "_law_taken" = some (some (.ref f2)))
    (l2 : K.lookup f2 = some ⟨oc2, od2, .func (PySem.W.fnOf "_law_taken" "_law_taken" (defArgs S__law_taken) (defBody S__law_taken) (defScope S__law_taken) .none kV2 dc2 pm2 an2 cd2 ct2), sl2⟩)
    (c2 : PySem.W.codeIn K cd2 "_law_taken" = true)
    (k2 : PySem.W.keepIn K (.ref f2) = true)
    (a3 : PySem.W.nsIn K mainGlobals "_law_pick" = some (some (.ref f3)))
    (l3 : K.lookup f3 = some ⟨oc3, od3, .func (PySem.W.fnOf "_law_pick" "_law_pick" (defArgs S__law_pick) (defBody S__law_pick) (defScope S__law_pick) .none kV3 dc3 pm3 an3 cd3 ct3), sl3⟩)
    (c3 : PySem.W.codeIn K cd3 "_law_pick" = true)
    (k3 : PySem.W.keepIn K (.ref f3) = true)
    (a4 : PySem.W.nsIn K mainGlobals "_law_alike" = some (some (.ref f4)))
    (l4 : K.lookup f4 = some ⟨oc4, od4, .func (PySem.W.fnOf "_law_alike" "_law_alike" (defArgs S__law_alike) (defBody S__law_alike) (defScope S__law_alike) .none kV4 dc4 pm4 an4 cd4 ct4), sl4⟩)
    (c4 : PySem.W.codeIn K cd4 "_law_alike" = true)
    (k4 : PySem.W.keepIn K (.ref f4) = true)
    (aX1 : PySem.W.nsIn K mainGlobals "_law_expr" = some (some (.ref fX1)))
    (lX1 : K.lookup fX1 = some ⟨ocX1, odX1, .func (PySem.W.fnOf "_law_expr" "_law_expr" (defArgs S__law_expr) (defBody S__law_expr) (defScope S__law_expr) .none kVX1 dcX1 pmX1 anX1 cdX1 ctX1), slX1⟩)
    (cX1 : PySem.W.codeIn K cdX1 "_law_expr" = true)
    (kX1 : PySem.W.keepIn K (.ref fX1) = true)
    (aX2 : PySem.W.nsIn K mainGlobals "_law_side" = some (some (.ref fX2)))
    (lX2 : K.lookup fX2 = some ⟨ocX2, odX2, .func (PySem.W.fnOf "_law_side" "_law_side" (defArgs S__law_side) (defBody S__law_side) (defScope S__law_side) .none kVX2 dcX2 pmX2 anX2 cdX2 ctX2), slX2⟩)
    (cX2 : PySem.W.codeIn K cdX2 "_law_side" = true)
    (kX2 : PySem.W.keepIn K (.ref fX2) = true)
    (aX3 : PySem.W.nsIn K mainGlobals "_law_block" = some (some (.ref fX3)))
    (lX3 : K.lookup fX3 = some ⟨ocX3, odX3, .func (PySem.W.fnOf "_law_block" "_law_block" (defArgs S__law_block) (defBody S__law_block) (defScope S__law_block) .none kVX3 dcX3 pmX3 anX3 cdX3 ctX3), slX3⟩)
    (cX3 : PySem.W.codeIn K cdX3 "_law_block" = true)
    (kX3 : PySem.W.keepIn K (.ref fX3) = true)
    (aX4 : PySem.W.nsIn K mainGlobals "_law_whole" = some (some (.ref fX4)))
    (lX4 : K.lookup fX4 = some ⟨ocX4, odX4, .func (PySem.W.fnOf "_law_whole" "_law_whole" (defArgs S__law_whole) (defBody S__law_whole) (defScope S__law_whole) .none kVX4 dcX4 pmX4 anX4 cdX4 ctX4), slX4⟩)
    (cX4 : PySem.W.codeIn K cdX4 "_law_whole" = true)
    (kX4 : PySem.W.keepIn K (.ref fX4) = true)
    (aX5 : PySem.W.nsIn K mainGlobals "_law_part" = some (some (.ref fX5)))
    (lX5 : K.lookup fX5 = some ⟨ocX5, odX5, .func (PySem.W.fnOf "_law_part" "_law_part" (defArgs S__law_part) (defBody S__law_part) (defScope S__law_part) .none kVX5 dcX5 pmX5 anX5 cdX5 ctX5), slX5⟩)
    (cX5 : PySem.W.codeIn K cdX5 "_law_part" = true)
    (kX5 : PySem.W.keepIn K (.ref fX5) = true)
    (aX6 : PySem.W.nsIn K mainGlobals "_law_said" = some (some (.ref fX6)))
    (lX6 : K.lookup fX6 = some ⟨ocX6, odX6, .func (PySem.W.fnOf "_law_said" "_law_said" (defArgs S__law_said) (defBody S__law_said) (defScope S__law_said) .none kVX6 dcX6 pmX6 anX6 cdX6 ctX6), slX6⟩)
    (cX6 : PySem.W.codeIn K cdX6 "_law_said" = true)
    (kX6 : PySem.W.keepIn K (.ref fX6) = true)
    (aX7 : PySem.W.nsIn K mainGlobals "_law_text" = some (some (.ref fX7)))
    (lX7 : K.lookup fX7 = some ⟨ocX7, odX7, .func (PySem.W.fnOf "_law_text" "_law_text" (defArgs S__law_text) (defBody S__law_text) (defScope S__law_text) .none kVX7 dcX7 pmX7 anX7 cdX7 ctX7), slX7⟩)
    (cX7 : PySem.W.codeIn K cdX7 "_law_text" = true)
    (kX7 : PySem.W.keepIn K (.ref fX7) = true)
    (aX8 : PySem.W.nsIn K mainGlobals "_law_heads" = some (some (.ref fX8)))
    (lX8 : K.lookup fX8 = some ⟨ocX8, odX8, .func (PySem.W.fnOf "_law_heads" "_law_heads" (defArgs S__law_heads) (defBody S__law_heads) (defScope S__law_heads) .none kVX8 dcX8 pmX8 anX8 cdX8 ctX8), slX8⟩)
    (cX8 : PySem.W.codeIn K cdX8 "_law_heads" = true)
    (kX8 : PySem.W.keepIn K (.ref fX8) = true)
    (a7 : PySem.W.nsIn K mainGlobals "law" = some (some (.ref f7)))
    (l7 : K.lookup f7 = some ⟨oc7, od7, .func (PySem.W.fnOf "law" "law" (defArgs S_law) (defBody S_law) (defScope S_law) .none kV7 dc7 pm7 an7 cd7 ct7), sl7⟩)
    (c7 : PySem.W.codeIn K cd7 "law" = true)
    (k7 : PySem.W.keepIn K (.ref f7) = true)
    (aRI : PySem.W.findIn K (.ref C) "__init__" = some (some (.ref fRI)))
    (iRI : PySem.W.isFn K (.ref fRI) = true)
    (lRI : K.lookup fRI = some ⟨ocRI, odRI, .func (PySem.W.fnOf "__init__" "Reader.__init__" (defArgs S_Reader___init__) (defBody S_Reader___init__) (defScope S_Reader___init__) .none kVRI dcRI pmRI anRI cdRI ctRI), slRI⟩)
    (cRI : PySem.W.codeIn K cdRI "Reader.__init__" = true)
    (kRI : PySem.W.keepIn K (.ref fRI) = true)
    (aR1 : PySem.W.findIn K (.ref C) "kind" = some (some (.ref fR1)))
    (iR1 : PySem.W.isFn K (.ref fR1) = true)
    (lR1 : K.lookup fR1 = some ⟨ocR1, odR1, .func (PySem.W.fnOf "kind" "Reader.kind" (defArgs S_Reader_kind) (defBody S_Reader_kind) (defScope S_Reader_kind) .none kVR1 dcR1 pmR1 anR1 cdR1 ctR1), slR1⟩)
    (cR1 : PySem.W.codeIn K cdR1 "Reader.kind" = true)
    (kR1 : PySem.W.keepIn K (.ref fR1) = true)
    (aR2 : PySem.W.findIn K (.ref C) "word" = some (some (.ref fR2)))
    (iR2 : PySem.W.isFn K (.ref fR2) = true)
    (lR2 : K.lookup fR2 = some ⟨ocR2, odR2, .func (PySem.W.fnOf "word" "Reader.word" (defArgs S_Reader_word) (defBody S_Reader_word) (defScope S_Reader_word) .none kVR2 dcR2 pmR2 anR2 cdR2 ctR2), slR2⟩)
    (cR2 : PySem.W.codeIn K cdR2 "Reader.word" = true)
    (kR2 : PySem.W.keepIn K (.ref fR2) = true)
    (aR3 : PySem.W.findIn K (.ref C) "place" = some (some (.ref fR3)))
    (iR3 : PySem.W.isFn K (.ref fR3) = true)
    (lR3 : K.lookup fR3 = some ⟨ocR3, odR3, .func (PySem.W.fnOf "place" "Reader.place" (defArgs S_Reader_place) (defBody S_Reader_place) (defScope S_Reader_place) .none kVR3 dcR3 pmR3 anR3 cdR3 ctR3), slR3⟩)
    (cR3 : PySem.W.codeIn K cdR3 "Reader.place" = true)
    (kR3 : PySem.W.keepIn K (.ref fR3) = true)
    (aR4 : PySem.W.findIn K (.ref C) "taken" = some (some (.ref fR4)))
    (iR4 : PySem.W.isFn K (.ref fR4) = true)
    (lR4 : K.lookup fR4 = some ⟨ocR4, odR4, .func (PySem.W.fnOf "taken" "Reader.taken" (defArgs S_Reader_taken) (defBody S_Reader_taken) (defScope S_Reader_taken) .none kVR4 dcR4 pmR4 anR4 cdR4 ctR4), slR4⟩)
    (cR4 : PySem.W.codeIn K cdR4 "Reader.taken" = true)
    (kR4 : PySem.W.keepIn K (.ref fR4) = true)
    (aR5 : PySem.W.findIn K (.ref C) "passes" = some (some (.ref fR5)))
    (iR5 : PySem.W.isFn K (.ref fR5) = true)
    (lR5 : K.lookup fR5 = some ⟨ocR5, odR5, .func (PySem.W.fnOf "passes" "Reader.passes" (defArgs S_Reader_passes) (defBody S_Reader_passes) (defScope S_Reader_passes) .none kVR5 dcR5 pmR5 anR5 cdR5 ctR5), slR5⟩)
    (cR5 : PySem.W.codeIn K cdR5 "Reader.passes" = true)
    (kR5 : PySem.W.keepIn K (.ref fR5) = true)
    (aR6 : PySem.W.findIn K (.ref C) "must_pass" = some (some (.ref fR6)))
    (iR6 : PySem.W.isFn K (.ref fR6) = true)
    (lR6 : K.lookup fR6 = some ⟨ocR6, odR6, .func (PySem.W.fnOf "must_pass" "Reader.must_pass" (defArgs S_Reader_must_pass) (defBody S_Reader_must_pass) (defScope S_Reader_must_pass) .none kVR6 dcR6 pmR6 anR6 cdR6 ctR6), slR6⟩)
    (cR6 : PySem.W.codeIn K cdR6 "Reader.must_pass" = true)
    (kR6 : PySem.W.keepIn K (.ref fR6) = true)
    (aR7 : PySem.W.findIn K (.ref C) "name" = some (some (.ref fR7)))
    (iR7 : PySem.W.isFn K (.ref fR7) = true)
    (lR7 : K.lookup fR7 = some ⟨ocR7, odR7, .func (PySem.W.fnOf "name" "Reader.name" (defArgs S_Reader_name) (defBody S_Reader_name) (defScope S_Reader_name) .none kVR7 dcR7 pmR7 anR7 cdR7 ctR7), slR7⟩)
    (cR7 : PySem.W.codeIn K cdR7 "Reader.name" = true)
    (kR7 : PySem.W.keepIn K (.ref fR7) = true)
    (aR8 : PySem.W.findIn K (.ref C) "go_in" = some (some (.ref fR8)))
    (iR8 : PySem.W.isFn K (.ref fR8) = true)
    (lR8 : K.lookup fR8 = some ⟨ocR8, odR8, .func (PySem.W.fnOf "go_in" "Reader.go_in" (defArgs S_Reader_go_in) (defBody S_Reader_go_in) (defScope S_Reader_go_in) .none kVR8 dcR8 pmR8 anR8 cdR8 ctR8), slR8⟩)
    (cR8 : PySem.W.codeIn K cdR8 "Reader.go_in" = true)
    (kR8 : PySem.W.keepIn K (.ref fR8) = true)
    (aR9 : PySem.W.findIn K (.ref C) "come_out" = some (some (.ref fR9)))
    (iR9 : PySem.W.isFn K (.ref fR9) = true)
    (lR9 : K.lookup fR9 = some ⟨ocR9, odR9, .func (PySem.W.fnOf "come_out" "Reader.come_out" (defArgs S_Reader_come_out) (defBody S_Reader_come_out) (defScope S_Reader_come_out) .none kVR9 dcR9 pmR9 anR9 cdR9 ctR9), slR9⟩)
    (cR9 : PySem.W.codeIn K cdR9 "Reader.come_out" = true)
    (kR9 : PySem.W.keepIn K (.ref fR9) = true)
    (aQ1 : PySem.W.findIn K (.ref C) "expression" = some (some (.ref fQ1)))
    (iQ1 : PySem.W.isFn K (.ref fQ1) = true)
    (lQ1 : K.lookup fQ1 = some ⟨ocQ1, odQ1, .func (PySem.W.fnOf "expression" "Reader.expression" (defArgs S_Reader_expression) (defBody S_Reader_expression) (defScope S_Reader_expression) .none kVQ1 dcQ1 pmQ1 anQ1 cdQ1 ctQ1), slQ1⟩)
    (cQ1 : PySem.W.codeIn K cdQ1 "Reader.expression" = true)
    (kQ1 : PySem.W.keepIn K (.ref fQ1) = true)
    (aQ2 : PySem.W.findIn K (.ref C) "joined" = some (some (.ref fQ2)))
    (iQ2 : PySem.W.isFn K (.ref fQ2) = true)
    (lQ2 : K.lookup fQ2 = some ⟨ocQ2, odQ2, .func (PySem.W.fnOf "joined" "Reader.joined" (defArgs S_Reader_joined) (defBody S_Reader_joined) (defScope S_Reader_joined) .none kVQ2 dcQ2 pmQ2 anQ2 cdQ2 ctQ2), slQ2⟩)
    (cQ2 : PySem.W.codeIn K cdQ2 "Reader.joined" = true)
    (kQ2 : PySem.W.keepIn K (.ref fQ2) = true)
    (aQ3 : PySem.W.findIn K (.ref C) "denied" = some (some (.ref fQ3)))
    (iQ3 : PySem.W.isFn K (.ref fQ3) = true)
    (lQ3 : K.lookup fQ3 = some ⟨ocQ3, odQ3, .func (PySem.W.fnOf "denied" "Reader.denied" (defArgs S_Reader_denied) (defBody S_Reader_denied) (defScope S_Reader_denied) .none kVQ3 dcQ3 pmQ3 anQ3 cdQ3 ctQ3), slQ3⟩)
    (cQ3 : PySem.W.codeIn K cdQ3 "Reader.denied" = true)
    (kQ3 : PySem.W.keepIn K (.ref fQ3) = true)
    (aQ4 : PySem.W.findIn K (.ref C) "part" = some (some (.ref fQ4)))
    (iQ4 : PySem.W.isFn K (.ref fQ4) = true)
    (lQ4 : K.lookup fQ4 = some ⟨ocQ4, odQ4, .func (PySem.W.fnOf "part" "Reader.part" (defArgs S_Reader_part) (defBody S_Reader_part) (defScope S_Reader_part) .none kVQ4 dcQ4 pmQ4 anQ4 cdQ4 ctQ4), slQ4⟩)
    (cQ4 : PySem.W.codeIn K cdQ4 "Reader.part" = true)
    (kQ4 : PySem.W.keepIn K (.ref fQ4) = true)
    (aQ5 : PySem.W.findIn K (.ref C) "nest" = some (some (.ref fQ5)))
    (iQ5 : PySem.W.isFn K (.ref fQ5) = true)
    (lQ5 : K.lookup fQ5 = some ⟨ocQ5, odQ5, .func (PySem.W.fnOf "nest" "Reader.nest" (defArgs S_Reader_nest) (defBody S_Reader_nest) (defScope S_Reader_nest) .none kVQ5 dcQ5 pmQ5 anQ5 cdQ5 ctQ5), slQ5⟩)
    (cQ5 : PySem.W.codeIn K cdQ5 "Reader.nest" = true)
    (kQ5 : PySem.W.keepIn K (.ref fQ5) = true)
    (aB1 : PySem.W.findIn K (.ref C) "block" = some (some (.ref fB1)))
    (iB1 : PySem.W.isFn K (.ref fB1) = true)
    (lB1 : K.lookup fB1 = some ⟨ocB1, odB1, .func (PySem.W.fnOf "block" "Reader.block" (defArgs S_Reader_block) (defBody S_Reader_block) (defScope S_Reader_block) .none kVB1 dcB1 pmB1 anB1 cdB1 ctB1), slB1⟩)
    (cB1 : PySem.W.codeIn K cdB1 "Reader.block" = true)
    (kB1 : PySem.W.keepIn K (.ref fB1) = true)
    (aB2 : PySem.W.findIn K (.ref C) "statements" = some (some (.ref fB2)))
    (iB2 : PySem.W.isFn K (.ref fB2) = true)
    (lB2 : K.lookup fB2 = some ⟨ocB2, odB2, .func (PySem.W.fnOf "statements" "Reader.statements" (defArgs S_Reader_statements) (defBody S_Reader_statements) (defScope S_Reader_statements) .none kVB2 dcB2 pmB2 anB2 cdB2 ctB2), slB2⟩)
    (cB2 : PySem.W.codeIn K cdB2 "Reader.statements" = true)
    (kB2 : PySem.W.keepIn K (.ref fB2) = true)
    (aB3 : PySem.W.findIn K (.ref C) "statement" = some (some (.ref fB3)))
    (iB3 : PySem.W.isFn K (.ref fB3) = true)
    (lB3 : K.lookup fB3 = some ⟨ocB3, odB3, .func (PySem.W.fnOf "statement" "Reader.statement" (defArgs S_Reader_statement) (defBody S_Reader_statement) (defScope S_Reader_statement) .none kVB3 dcB3 pmB3 anB3 cdB3 ctB3), slB3⟩)
    (cB3 : PySem.W.codeIn K cdB3 "Reader.statement" = true)
    (kB3 : PySem.W.keepIn K (.ref fB3) = true)
    (aB4 : PySem.W.findIn K (.ref C) "set_name" = some (some (.ref fB4)))
    (iB4 : PySem.W.isFn K (.ref fB4) = true)
    (lB4 : K.lookup fB4 = some ⟨ocB4, odB4, .func (PySem.W.fnOf "set_name" "Reader.set_name" (defArgs S_Reader_set_name) (defBody S_Reader_set_name) (defScope S_Reader_set_name) .none kVB4 dcB4 pmB4 anB4 cdB4 ctB4), slB4⟩)
    (cB4 : PySem.W.codeIn K cdB4 "Reader.set_name" = true)
    (kB4 : PySem.W.keepIn K (.ref fB4) = true)
    (aB5 : PySem.W.findIn K (.ref C) "last_value" = some (some (.ref fB5)))
    (iB5 : PySem.W.isFn K (.ref fB5) = true)
    (lB5 : K.lookup fB5 = some ⟨ocB5, odB5, .func (PySem.W.fnOf "last_value" "Reader.last_value" (defArgs S_Reader_last_value) (defBody S_Reader_last_value) (defScope S_Reader_last_value) .none kVB5 dcB5 pmB5 anB5 cdB5 ctB5), slB5⟩)
    (cB5 : PySem.W.codeIn K cdB5 "Reader.last_value" = true)
    (kB5 : PySem.W.keepIn K (.ref fB5) = true)
    (aB6 : PySem.W.findIn K (.ref C) "other_block" = some (some (.ref fB6)))
    (iB6 : PySem.W.isFn K (.ref fB6) = true)
    (lB6 : K.lookup fB6 = some ⟨ocB6, odB6, .func (PySem.W.fnOf "other_block" "Reader.other_block" (defArgs S_Reader_other_block) (defBody S_Reader_other_block) (defScope S_Reader_other_block) .none kVB6 dcB6 pmB6 anB6 cdB6 ctB6), slB6⟩)
    (cB6 : PySem.W.codeIn K cdB6 "Reader.other_block" = true)
    (kB6 : PySem.W.keepIn K (.ref fB6) = true)
    (aB7 : PySem.W.findIn K (.ref C) "passed" = some (some (.ref fB7)))
    (iB7 : PySem.W.isFn K (.ref fB7) = true)
    (lB7 : K.lookup fB7 = some ⟨ocB7, odB7, .func (PySem.W.fnOf "passed" "Reader.passed" (defArgs S_Reader_passed) (defBody S_Reader_passed) (defScope S_Reader_passed) .none kVB7 dcB7 pmB7 anB7 cdB7 ctB7), slB7⟩)
    (cB7 : PySem.W.codeIn K cdB7 "Reader.passed" = true)
    (kB7 : PySem.W.keepIn K (.ref fB7) = true)
    (aB8 : PySem.W.findIn K (.ref C) "program" = some (some (.ref fB8)))
    (iB8 : PySem.W.isFn K (.ref fB8) = true)
    (lB8 : K.lookup fB8 = some ⟨ocB8, odB8, .func (PySem.W.fnOf "program" "Reader.program" (defArgs S_Reader_program) (defBody S_Reader_program) (defScope S_Reader_program) .none kVB8 dcB8 pmB8 anB8 cdB8 ctB8), slB8⟩)
    (cB8 : PySem.W.codeIn K cdB8 "Reader.program" = true)
    (kB8 : PySem.W.keepIn K (.ref fB8) = true)
    (aD1 : PySem.W.findIn K (.ref C) "definition" = some (some (.ref fD1)))
    (iD1 : PySem.W.isFn K (.ref fD1) = true)
    (lD1 : K.lookup fD1 = some ⟨ocD1, odD1, .func (PySem.W.fnOf "definition" "Reader.definition" (defArgs S_Reader_definition) (defBody S_Reader_definition) (defScope S_Reader_definition) .none kVD1 dcD1 pmD1 anD1 cdD1 ctD1), slD1⟩)
    (cD1 : PySem.W.codeIn K cdD1 "Reader.definition" = true)
    (kD1 : PySem.W.keepIn K (.ref fD1) = true)
    (aD2 : PySem.W.findIn K (.ref C) "arguments" = some (some (.ref fD2)))
    (iD2 : PySem.W.isFn K (.ref fD2) = true)
    (lD2 : K.lookup fD2 = some ⟨ocD2, odD2, .func (PySem.W.fnOf "arguments" "Reader.arguments" (defArgs S_Reader_arguments) (defBody S_Reader_arguments) (defScope S_Reader_arguments) .none kVD2 dcD2 pmD2 anD2 cdD2 ctD2), slD2⟩)
    (cD2 : PySem.W.codeIn K cdD2 "Reader.arguments" = true)
    (kD2 : PySem.W.keepIn K (.ref fD2) = true)
    (lcN : K.lookup qN = some ⟨ocN2, odN2, .fields vsN2, slN2⟩)
    (vcN : vsN2[11]? = some (.ref PT))
    (npT : K.lookup PT = none)
    (pg : PySem.W.plainGet K C Str.empty = true)
    (hd : PySem.W.hasDictIn K C = true)
    (po : PySem.W.plainOver K C = true)
    (sa : PySem.W.findIn K (.ref C) "__setattr__" = some (some (.builtin "object.__setattr__")))
    (mk : PySem.W.makesIn K C = true)
    (kc : PySem.W.keepIn K (.ref C) = true)
    (nA_told : PySem.W.findIn K (.ref C) "told" = some none)
    (nA_at : PySem.W.findIn K (.ref C) "at" = some none)
    (nA_nests : PySem.W.findIn K (.ref C) "nests" = some none)
    (nA_places : PySem.W.findIn K (.ref C) "places" = some none)
    (atK : PySem.W.nsIn K mainGlobals "KEYS" = some (some (.ref tK)))
    (ltK : K.lookup tK = some ⟨.type "tuple", otK, .seq itK ntK, stK⟩)
    (vtK : Vals (K0.kws.map V.str) itK.toList)
    (ztK : itK.size ≤ sizeLine)
    (atM : PySem.W.nsIn K mainGlobals "MARKS" = some (some (.ref tM)))
    (ltM : K.lookup tM = some ⟨.type "tuple", otM, .seq itM ntM, stM⟩)
    (vtM : Vals (K0.mks.map V.str) itM.toList)
    (ztM : itM.size ≤ sizeLine)
    (atS : PySem.W.nsIn K mainGlobals "STATEMENTS" = some (some (.ref tS)))
    (ltS : K.lookup tS = some ⟨.type "tuple", otS, .seq itS ntS, stS⟩)
    (vtS : Vals (stW.map V.str) itS.toList)
    (ztS : itS.size ≤ sizeLine)
    (atL : PySem.W.nsIn K mainGlobals "LEVELS" = some (some (.ref tL)))
    (ltL : K.lookup tL = some ⟨.type "tuple", otL, .seq itL ntL, stL⟩)
    (vtL : Vals [.ref tL0, .ref tL1, .ref tL2, .ref tL3, .ref tL4] itL.toList)
    (ztL : itL.size ≤ sizeLine)
    (ltL0 : K.lookup tL0 = some ⟨.type "tuple", otL0, .seq itL0 ntL0, stL0⟩)
    (vtL0 : Vals ((lvW 0).map V.str) itL0.toList)
    (ztL0 : itL0.size ≤ sizeLine)
    (ltL1 : K.lookup tL1 = some ⟨.type "tuple", otL1, .seq itL1 ntL1, stL1⟩)
    (vtL1 : Vals ((lvW 1).map V.str) itL1.toList)
    (ztL1 : itL1.size ≤ sizeLine)
    (ltL2 : K.lookup tL2 = some ⟨.type "tuple", otL2, .seq itL2 ntL2, stL2⟩)
    (vtL2 : Vals ((lvW 2).map V.str) itL2.toList)
    (ztL2 : itL2.size ≤ sizeLine)
    (ltL3 : K.lookup tL3 = some ⟨.type "tuple", otL3, .seq itL3 ntL3, stL3⟩)
    (vtL3 : Vals ((lvW 3).map V.str) itL3.toList)
    (ztL3 : itL3.size ≤ sizeLine)
    (ltL4 : K.lookup tL4 = some ⟨.type "tuple", otL4, .seq itL4 ntL4, stL4⟩)
    (vtL4 : Vals ((lvW 4).map V.str) itL4.toList)
    (ztL4 : itL4.size ≤ sizeLine)
    (atZ : PySem.W.nsIn K mainGlobals "ZERO" = some (some (.ref tZ)))
    (ltZ : K.lookup tZ = some ⟨.type "tuple", otZ, .seq itZ ntZ, stZ⟩)
    (vtZ : Vals [.str "num", .int 0] itZ.toList)
    (ztZ : itZ.size ≤ sizeLine)
    (s1 : PySem.W.nsIn K mainGlobals "MOST_SIGNS" = some (some (.int 100000 tk1)))
    (s2 : PySem.W.nsIn K mainGlobals "MOST_FIGURES" = some (some (.int 6 tk2)))
    (s3 : PySem.W.nsIn K mainGlobals "MOST_LETTERS" = some (some (.int 12 tk3)))
    (s4 : PySem.W.nsIn K mainGlobals "MOST_NESTS" = some (some (.int 40 tk4)))
    (s5 : PySem.W.nsIn K mainGlobals "COMPARING" = some (some (.int 2 tk5)))
    (s6 : PySem.W.nsIn K mainGlobals "PARTS" = some (some (.int 5 tk6)))
    (s7 : PySem.W.nsIn K mainGlobals "FIGURES" = some (some (.str "0123456789" tk7)))
    (s8 : PySem.W.nsIn K mainGlobals "LETTERS" = some (some (.str "abcdefghijklmnopqrstuvwxyz" tk8)))
    (s9 : PySem.W.nsIn K mainGlobals "BLANKS" = some (some (.str " \n" tk9)))
    (adX : PySem.W.nsIn K mainGlobals "EXPRESSIONS_AT" = some (some (.ref dX)))
    (ldX : K.lookup dX = some ⟨.type "dict", none, .dict edX ndX, #[]⟩)
    (kdX : PySem.W.KeysLit w.params edX.toList)
    (sdX : (dX == sysModules) = false)
    (vX0 : PySem.W.nsIn K dX "row" = some (some (.int 1 tdX0)))
    (vX1 : PySem.W.nsIn K dX "col" = some (some (.int 1 tdX1)))
    (vX2 : PySem.W.nsIn K dX "say" = some (some (.int 1 tdX2)))
    (vX3 : PySem.W.nsIn K dX "let" = some (some (.int 2 tdX3)))
    (vX4 : PySem.W.nsIn K dX "if" = some (some (.int 1 tdX4)))
    (vX5 : PySem.W.nsIn K dX "while" = some (some (.int 1 tdX5)))
    (vX6 : PySem.W.nsIn K dX "for" = some (some (.int 2 tdX6)))
    (vX7 : PySem.W.nsIn K dX "stop" = some (some (.int 1 tdX7)))
    (adB : PySem.W.nsIn K mainGlobals "BLOCKS_AT" = some (some (.ref dB)))
    (ldB : K.lookup dB = some ⟨.type "dict", none, .dict edB ndB, #[]⟩)
    (kdB : PySem.W.KeysLit w.params edB.toList)
    (sdB : (dB == sysModules) = false)
    (vB0 : PySem.W.nsIn K dB "row" = some (some (.int 2 tdB0)))
    (vB1 : PySem.W.nsIn K dB "col" = some (some (.int 2 tdB1)))
    (vB2 : PySem.W.nsIn K dB "say" = some (some (.int 2 tdB2)))
    (vB3 : PySem.W.nsIn K dB "let" = some (some (.int 3 tdB3)))
    (vB4 : PySem.W.nsIn K dB "if" = some (some (.int 2 tdB4)))
    (vB5 : PySem.W.nsIn K dB "while" = some (some (.int 2 tdB5)))
    (vB6 : PySem.W.nsIn K dB "for" = some (some (.int 4 tdB6)))
    (vB7 : PySem.W.nsIn K dB "stop" = some (some (.int 1 tdB7)))
    (vB8 : PySem.W.nsIn K dB "do" = some (some (.int 3 tdB8)))
    (z0 : PySem.W.nsIn K mainGlobals "len" = some none)
    (z1 : PySem.W.nsIn K mainGlobals "int" = some none)
    (z2 : PySem.W.nsIn K mainGlobals "isinstance" = some none)
    (z3 : PySem.W.nsIn K mainGlobals "str" = some none)
    (z4 : PySem.W.nsIn K mainGlobals "tuple" = some none)
    (z5 : PySem.W.nsIn K mainGlobals "list" = some none)
    (z6 : PySem.W.nsIn K mainGlobals "range" = some none)
    (z7 : PySem.W.nsIn K mainGlobals "bool" = some none)
    (z8 : PySem.W.nsIn K mainGlobals "all" = some none)
    (z9 : PySem.W.nsIn K mainGlobals "set" = some none)
    (z10 : PySem.W.nsIn K mainGlobals "zip" = some none)
    (z11 : PySem.W.nsIn K mainGlobals "sorted" = some none)
    (z12 : PySem.W.nsIn K mainGlobals "dict" = some none)
    : LamX.LawAtS l w K CX0 124 63 "script" mg fa h := by
  have e := hfa.symm.trans (PySem.W.mg_of X G a7)
  cases e
  have FW1 := fun_mk (st := S_placed_words) lW1 cW1 kW1
  have bW1 := FW1.binds (ps := ["text"]) fun _ _ _ _ _ _ us hl => match us, hl with | [_], _ => rfl
  have mW1 := PySem.W.mg_of X G aW1
  have FW2 := fun_mk (st := S_check_text) lW2 cW2 kW2
  have bW2 := FW2.binds (ps := ["value"]) fun _ _ _ _ _ _ us hl => match us, hl with | [_], _ => rfl
  have mW2 := PySem.W.mg_of X G aW2
  have FW3 := fun_mk (st := S_word_at) lW3 cW3 kW3
  have bW3 := FW3.binds (ps := ["text", "at"]) fun _ _ _ _ _ _ us hl => match us, hl with | [_, _], _ => rfl
  have mW3 := PySem.W.mg_of X G aW3
  have FW4 := fun_mk (st := S_signs_at) lW4 cW4 kW4
  have bW4 := FW4.binds (ps := ["text", "at"]) fun _ _ _ _ _ _ us hl => match us, hl with | [_, _], _ => rfl
  have mW4 := PySem.W.mg_of X G aW4
  have FW5 := fun_mk (st := S_run_end) lW5 cW5 kW5
  have bW5 := FW5.binds (ps := ["text", "at", "signs"]) fun _ _ _ _ _ _ us hl => match us, hl with | [_, _, _], _ => rfl
  have mW5 := PySem.W.mg_of X G aW5
  have FW6 := fun_mk (st := S_kind_of) lW6 cW6 kW6
  have bW6 := FW6.binds (ps := ["word"]) fun _ _ _ _ _ _ us hl => match us, hl with | [_], _ => rfl
  have mW6 := PySem.W.mg_of X G aW6
  have FN : K8.FunT K "is_number" "is_number" S_is_number fN _ qN := ⟨_, _, _, _, _, _, _, _, rfl, lN, cN⟩
  have bN := (fun_mk (st := S_is_number) lN cN kN).binds (ps := ["signs", "most"]) fun _ _ _ _ _ _ us hl => match us, hl with | [_, _], _ => rfl
  have mN := PySem.W.mg_of X G aN
  have F1 := fun_mk (st := S_read) l1 c1 k1
  have b1 := F1.binds (ps := ["text"]) fun _ _ _ _ _ _ us hl => match us, hl with | [_], _ => rfl
  have m1 := PySem.W.mg_of X G a1
  have FP1 := fun_mk (st := S_blocks_of) lP1 cP1 kP1
  have bP1 := FP1.binds (ps := ["statement"]) fun _ _ _ _ _ _ us hl => match us, hl with | [_], _ => rfl
  have mP1 := PySem.W.mg_of X G aP1
  have FP2 := fun_mk (st := S_expressions_of) lP2 cP2 kP2
  have bP2 := FP2.binds (ps := ["statement"]) fun _ _ _ _ _ _ us hl => match us, hl with | [_], _ => rfl
  have mP2 := PySem.W.mg_of X G aP2
  have FP3 := fun_mk (st := S_statements_in) lP3 cP3 kP3
  have bP3 := FP3.binds (ps := ["block"]) fun _ _ _ _ _ _ us hl => match us, hl with | [_], _ => rfl
  have mP3 := PySem.W.mg_of X G aP3
  have FP4 := fun_mk (st := S_statements_told) lP4 cP4 kP4
  have bP4 := FP4.binds (ps := ["definitions"]) fun _ _ _ _ _ _ us hl => match us, hl with | [_], _ => rfl
  have mP4 := PySem.W.mg_of X G aP4
  have FP5 := fun_mk (st := S_expressions_in) lP5 cP5 kP5
  have bP5 := FP5.binds (ps := ["expression"]) fun _ _ _ _ _ _ us hl => match us, hl with | [_], _ => rfl
  have mP5 := PySem.W.mg_of X G aP5
  have FP6 := fun_mk (st := S_all_statements) lP6 cP6 kP6
  have bP6 := FP6.binds (ps := ["tree"]) fun _ _ _ _ _ _ us hl => match us, hl with | [_], _ => rfl
  have mP6 := PySem.W.mg_of X G aP6
  have FP7 := fun_mk (st := S_is_written) lP7 cP7 kP7
  have bP7 := FP7.binds (ps := ["expression"]) fun _ _ _ _ _ _ us hl => match us, hl with | [_], _ => rfl
  have mP7 := PySem.W.mg_of X G aP7
  have FP8 := fun_mk (st := S_ends_all) lP8 cP8 kP8
  have bP8 := FP8.binds (ps := ["statement"]) fun _ _ _ _ _ _ us hl => match us, hl with | [_], _ => rfl
  have mP8 := PySem.W.mg_of X G aP8
  have FP9 := fun_mk (st := S_check_names) lP9 cP9 kP9
  have bP9 := FP9.binds (ps := ["expression", "known"]) fun _ _ _ _ _ _ us hl => match us, hl with | [_, _], _ => rfl
  have mP9 := PySem.W.mg_of X G aP9
  have FY1 := fun_mk (st := S_names_behind) lY1 cY1 kY1
  have bY1 := FY1.binds (ps := ["block", "known"]) fun _ _ _ _ _ _ us hl => match us, hl with | [_, _], _ => rfl
  have mY1 := PySem.W.mg_of X G aY1
  have FY2 := fun_mk (st := S_names_behind_blocks) lY2 cY2 kY2
  have bY2 := FY2.binds (ps := ["statement", "known"]) fun _ _ _ _ _ _ us hl => match us, hl with | [_, _], _ => rfl
  have mY2 := PySem.W.mg_of X G aY2
  have FY3 := fun_mk (st := S_check_calls) lY3 cY3 kY3
  have bY3 := FY3.binds (ps := ["tree"]) fun _ _ _ _ _ _ us hl => match us, hl with | [_], _ => rfl
  have mY3 := PySem.W.mg_of X G aY3
  have FY4 := fun_mk (st := S_check_tree) lY4 cY4 kY4
  have bY4 := FY4.binds (ps := ["tree"]) fun _ _ _ _ _ _ us hl => match us, hl with | [_], _ => rfl
  have mY4 := PySem.W.mg_of X G aY4
  have FY5 := fun_mk (st := S_good_tree) lY5 cY5 kY5
  have bY5 := FY5.binds (ps := ["text"]) fun _ _ _ _ _ _ us hl => match us, hl with | [_], _ => rfl
  have mY5 := PySem.W.mg_of X G aY5
  have FY6 := fun_mk (st := S_is_good) lY6 cY6 kY6
  have bY6 := FY6.binds (ps := ["text"]) fun _ _ _ _ _ _ us hl => match us, hl with | [_], _ => rfl
  have mY6 := PySem.W.mg_of X G aY6
  have FY7 := fun_mk (st := S_sizes) lY7 cY7 kY7
  have bY7 := FY7.binds (ps := ["text"]) fun _ _ _ _ _ _ us hl => match us, hl with | [_], _ => rfl
  have mY7 := PySem.W.mg_of X G aY7
  have FY8 := fun_mk (st := S_places) lY8 cY8 kY8
  have bY8 := FY8.binds (ps := ["text"]) fun _ _ _ _ _ _ us hl => match us, hl with | [_], _ => rfl
  have mY8 := PySem.W.mg_of X G aY8
  have F2 := fun_mk (st := S__law_taken) l2 c2 k2
  have b2 := F2.binds (ps := ["row", "many"]) fun _ _ _ _ _ _ us hl => match us, hl with | [_, _], _ => rfl
  have m2 := PySem.W.mg_of X G a2
  have F3 := fun_mk (st := S__law_pick) l3 c3 k3
  have b3 := F3.binds (ps := ["row", "things"]) fun _ _ _ _ _ _ us hl => match us, hl with | [_, _], _ => rfl
  have m3 := PySem.W.mg_of X G a3
  have F4 := fun_mk (st := S__law_alike) l4 c4 k4
  have b4 := F4.binds (ps := ["found", "due"]) fun _ _ _ _ _ _ us hl => match us, hl with | [_, _], _ => rfl
  have m4 := PySem.W.mg_of X G a4
  have FX1 := fun_mk (st := S__law_expr) lX1 cX1 kX1
  have bX1 := FX1.binds (ps := ["row", "names", "deep"]) fun _ _ _ _ _ _ us hl => match us, hl with | [_, _, _], _ => rfl
  have mX1 := PySem.W.mg_of X G aX1
  have FX2 := fun_mk (st := S__law_side) lX2 cX2 kX2
  have bX2 := FX2.binds (ps := ["row", "names"]) fun _ _ _ _ _ _ us hl => match us, hl with | [_, _], _ => rfl
  have mX2 := PySem.W.mg_of X G aX2
  have FX3 := fun_mk (st := S__law_block) lX3 cX3 kX3
  have bX3 := FX3.binds (ps := ["row", "names", "defs", "deep", "size"]) fun _ _ _ _ _ _ us hl => match us, hl with | [_, _, _, _, _], _ => rfl
  have mX3 := PySem.W.mg_of X G aX3
  have FX4 := fun_mk (st := S__law_whole) lX4 cX4 kX4
  have bX4 := FX4.binds (ps := ["row", "size"]) fun _ _ _ _ _ _ us hl => match us, hl with | [_, _], _ => rfl
  have mX4 := PySem.W.mg_of X G aX4
  have FX5 := fun_mk (st := S__law_part) lX5 cX5 kX5
  have bX5 := FX5.binds (ps := ["row", "tree"]) fun _ _ _ _ _ _ us hl => match us, hl with | [_, _], _ => rfl
  have mX5 := PySem.W.mg_of X G aX5
  have FX6 := fun_mk (st := S__law_said) lX6 cX6 kX6
  have bX6 := FX6.binds (ps := ["row", "block"]) fun _ _ _ _ _ _ us hl => match us, hl with | [_, _], _ => rfl
  have mX6 := PySem.W.mg_of X G aX6
  have FX7 := fun_mk (st := S__law_text) lX7 cX7 kX7
  have bX7 := FX7.binds (ps := ["row", "whole"]) fun _ _ _ _ _ _ us hl => match us, hl with | [_, _], _ => rfl
  have mX7 := PySem.W.mg_of X G aX7
  have FX8 := fun_mk (st := S__law_heads) lX8 cX8 kX8
  have bX8 := FX8.binds (ps := ["block"]) fun _ _ _ _ _ _ us hl => match us, hl with | [_], _ => rfl
  have mX8 := PySem.W.mg_of X G aX8
  have F7 := fun_mk (st := S_law) l7 c7 k7
  have FRI := fun_mk (st := S_Reader___init__) lRI cRI kRI
  have bRI := FRI.binds (ps := ["self", "text"]) fun _ _ _ _ _ _ us hl => match us, hl with | [_, _], _ => rfl
  have FR1 := fun_mk (st := S_Reader_kind) lR1 cR1 kR1
  have bR1 := FR1.binds (ps := ["self"]) fun _ _ _ _ _ _ us hl => match us, hl with | [_], _ => rfl
  have FR2 := fun_mk (st := S_Reader_word) lR2 cR2 kR2
  have bR2 := FR2.binds (ps := ["self"]) fun _ _ _ _ _ _ us hl => match us, hl with | [_], _ => rfl
  have FR3 := fun_mk (st := S_Reader_place) lR3 cR3 kR3
  have bR3 := FR3.binds (ps := ["self"]) fun _ _ _ _ _ _ us hl => match us, hl with | [_], _ => rfl
  have FR4 := fun_mk (st := S_Reader_taken) lR4 cR4 kR4
  have bR4 := FR4.binds (ps := ["self"]) fun _ _ _ _ _ _ us hl => match us, hl with | [_], _ => rfl
  have FR5 := fun_mk (st := S_Reader_passes) lR5 cR5 kR5
  have bR5 := FR5.binds (ps := ["self", "word"]) fun _ _ _ _ _ _ us hl => match us, hl with | [_, _], _ => rfl
  have FR6 := fun_mk (st := S_Reader_must_pass) lR6 cR6 kR6
  have bR6 := FR6.binds (ps := ["self", "word"]) fun _ _ _ _ _ _ us hl => match us, hl with | [_, _], _ => rfl
  have FR7 := fun_mk (st := S_Reader_name) lR7 cR7 kR7
  have bR7 := FR7.binds (ps := ["self"]) fun _ _ _ _ _ _ us hl => match us, hl with | [_], _ => rfl
  have FR8 := fun_mk (st := S_Reader_go_in) lR8 cR8 kR8
  have bR8 := FR8.binds (ps := ["self"]) fun _ _ _ _ _ _ us hl => match us, hl with | [_], _ => rfl
  have FR9 := fun_mk (st := S_Reader_come_out) lR9 cR9 kR9
  have bR9 := FR9.binds (ps := ["self"]) fun _ _ _ _ _ _ us hl => match us, hl with | [_], _ => rfl
  have FQ1 := fun_mk (st := S_Reader_expression) lQ1 cQ1 kQ1
  have bQ1 := FQ1.binds (ps := ["self"]) fun _ _ _ _ _ _ us hl => match us, hl with | [_], _ => rfl
  have FQ2 := fun_mk (st := S_Reader_joined) lQ2 cQ2 kQ2
  have bQ2 := FQ2.binds (ps := ["self", "level"]) fun _ _ _ _ _ _ us hl => match us, hl with | [_, _], _ => rfl
  have FQ3 := fun_mk (st := S_Reader_denied) lQ3 cQ3 kQ3
  have bQ3 := FQ3.binds (ps := ["self"]) fun _ _ _ _ _ _ us hl => match us, hl with | [_], _ => rfl
  have FQ4 := fun_mk (st := S_Reader_part) lQ4 cQ4 kQ4
  have bQ4 := FQ4.binds (ps := ["self"]) fun _ _ _ _ _ _ us hl => match us, hl with | [_], _ => rfl
  have FQ5 := fun_mk (st := S_Reader_nest) lQ5 cQ5 kQ5
  have bQ5 := FQ5.binds (ps := ["self"]) fun _ _ _ _ _ _ us hl => match us, hl with | [_], _ => rfl
  have FB1 := fun_mk (st := S_Reader_block) lB1 cB1 kB1
  have bB1 := FB1.binds (ps := ["self"]) fun _ _ _ _ _ _ us hl => match us, hl with | [_], _ => rfl
  have FB2 := fun_mk (st := S_Reader_statements) lB2 cB2 kB2
  have bB2 := FB2.binds (ps := ["self"]) fun _ _ _ _ _ _ us hl => match us, hl with | [_], _ => rfl
  have FB3 := fun_mk (st := S_Reader_statement) lB3 cB3 kB3
  have bB3 := FB3.binds (ps := ["self"]) fun _ _ _ _ _ _ us hl => match us, hl with | [_], _ => rfl
  have FB4 := fun_mk (st := S_Reader_set_name) lB4 cB4 kB4
  have bB4 := FB4.binds (ps := ["self"]) fun _ _ _ _ _ _ us hl => match us, hl with | [_], _ => rfl
  have FB5 := fun_mk (st := S_Reader_last_value) lB5 cB5 kB5
  have bB5 := FB5.binds (ps := ["self"]) fun _ _ _ _ _ _ us hl => match us, hl with | [_], _ => rfl
  have FB6 := fun_mk (st := S_Reader_other_block) lB6 cB6 kB6
  have bB6 := FB6.binds (ps := ["self"]) fun _ _ _ _ _ _ us hl => match us, hl with | [_], _ => rfl
  have FB7 := fun_mk (st := S_Reader_passed) lB7 cB7 kB7
  have bB7 := FB7.binds (ps := ["self"]) fun _ _ _ _ _ _ us hl => match us, hl with | [_], _ => rfl
  have FB8 := fun_mk (st := S_Reader_program) lB8 cB8 kB8
  have bB8 := FB8.binds (ps := ["self"]) fun _ _ _ _ _ _ us hl => match us, hl with | [_], _ => rfl
  have FD1 := fun_mk (st := S_Reader_definition) lD1 cD1 kD1
  have bD1 := FD1.binds (ps := ["self"]) fun _ _ _ _ _ _ us hl => match us, hl with | [_], _ => rfl
  have FD2 := fun_mk (st := S_Reader_arguments) lD2 cD2 kD2
  have bD2 := FD2.binds (ps := ["self"]) fun _ _ _ _ _ _ us hl => match us, hl with | [_], _ => rfl
  have T : Blt mg := ⟨PySem.W.mg_none_of X G z0, PySem.W.mg_none_of X G z1, PySem.W.mg_none_of X G z2, PySem.W.mg_none_of X G z3, PySem.W.mg_none_of X G z4, PySem.W.mg_none_of X G z5, PySem.W.mg_none_of X G z6, PySem.W.mg_none_of X G z7⟩
  have tup : ∀ {a : Addr} {od : Option Addr} {its : Array Value} {n : Nat} {sl : Array (Option Value)} {xs : List V}, K.lookup a = some ⟨.type "tuple", od, .seq its n, sl⟩ → Vals xs its.toList → its.size ≤ sizeLine → ∀ H, SqT K H a xs := fun l v z _ => .inr ⟨_, _, _, l, rfl, rfl, z, v⟩
  have W8 : K8.Txt K mg := { all := PySem.W.mg_none_of X G z8, keys := ⟨tK, PySem.W.mg_of X G atK, tup ltK vtK ztK⟩, marks := ⟨tM, PySem.W.mg_of X G atM, tup ltM vtM ztM⟩, figs := ⟨_, PySem.W.mg_of X G s7⟩, lets := ⟨_, PySem.W.mg_of X G s8⟩, blanks := ⟨_, PySem.W.mg_of X G s9⟩, mSigns := ⟨_, PySem.W.mg_of X G s1⟩, mFigs := ⟨_, PySem.W.mg_of X G s2⟩, mLets := ⟨_, PySem.W.mg_of X G s3⟩ }
  have R8 : RTxt K mg C := { cl := ⟨pg, hd, po, sa⟩, nT := nA_told, nA := nA_at, nN := nA_nests, nP := nA_places, mgC := PySem.W.mg_of X G aC, mst := ⟨_, PySem.W.mg_of X G s4⟩, cmp := ⟨_, PySem.W.mg_of X G s5⟩, prt := ⟨_, PySem.W.mg_of X G s6⟩, stm := ⟨tS, PySem.W.mg_of X G atS, tup ltS vtS ztS⟩, lev := ⟨tL, tL0, tL1, tL2, tL3, tL4, PySem.W.mg_of X G atL, fun H => ⟨tup ltL vtL ztL H, tup ltL0 vtL0 ztL0 H, tup ltL1 vtL1 ztL1 H, tup ltL2 vtL2 ztL2 H, tup ltL3 vtL3 ztL3 H, tup ltL4 vtL4 ztL4 H⟩⟩ }
  have RF : RFns K C := { kind := ⟨_, _, FR1, ⟨aR1, iR1, kR1⟩, bR1⟩, word := ⟨_, _, FR2, ⟨aR2, iR2, kR2⟩, bR2⟩, place := ⟨_, _, FR3, ⟨aR3, iR3, kR3⟩, bR3⟩, taken := ⟨_, _, FR4, ⟨aR4, iR4, kR4⟩, bR4⟩, passes := ⟨_, _, FR5, ⟨aR5, iR5, kR5⟩, bR5⟩, must := ⟨_, _, FR6, ⟨aR6, iR6, kR6⟩, bR6⟩, name := ⟨_, _, FR7, ⟨aR7, iR7, kR7⟩, bR7⟩, goIn := ⟨_, _, FR8, ⟨aR8, iR8, kR8⟩, bR8⟩, out := ⟨_, _, FR9, ⟨aR9, iR9, kR9⟩, bR9⟩, expr := ⟨_, _, FQ1, ⟨aQ1, iQ1, kQ1⟩, bQ1⟩, joined := ⟨_, _, FQ2, ⟨aQ2, iQ2, kQ2⟩, bQ2⟩, denied := ⟨_, _, FQ3, ⟨aQ3, iQ3, kQ3⟩, bQ3⟩, part := ⟨_, _, FQ4, ⟨aQ4, iQ4, kQ4⟩, bQ4⟩, nest := ⟨_, _, FQ5, ⟨aQ5, iQ5, kQ5⟩, bQ5⟩ }
  have RF2 : RFns2 K C := { low := RF, block := ⟨_, _, FB1, ⟨aB1, iB1, kB1⟩, bB1⟩, sts := ⟨_, _, FB2, ⟨aB2, iB2, kB2⟩, bB2⟩, st := ⟨_, _, FB3, ⟨aB3, iB3, kB3⟩, bB3⟩, setName := ⟨_, _, FB4, ⟨aB4, iB4, kB4⟩, bB4⟩, last := ⟨_, _, FB5, ⟨aB5, iB5, kB5⟩, bB5⟩, other := ⟨_, _, FB6, ⟨aB6, iB6, kB6⟩, bB6⟩, passed := ⟨_, _, FB7, ⟨aB7, iB7, kB7⟩, bB7⟩ }
  obtain ⟨c0, P0, to⟩ := TO
  have tb := to.of X mN lN rfl lcN vcN
  have BX : BTxt K w mg := by
    refine ⟨⟨dB, PySem.W.mg_of X G adB, ⟨_, _, ldB, kdB, sdB⟩, fun s => ?_⟩, ⟨dX, PySem.W.mg_of X G adX, ⟨_, _, ldX, kdX, sdX⟩, fun s hs => ?_⟩⟩
    · cases s with
      | row => exact ⟨_, vB0, _, rfl⟩
      | col => exact ⟨_, vB1, _, rfl⟩
      | say => exact ⟨_, vB2, _, rfl⟩
      | set => exact ⟨_, vB3, _, rfl⟩
      | ite => exact ⟨_, vB4, _, rfl⟩
      | whl => exact ⟨_, vB5, _, rfl⟩
      | for_ => exact ⟨_, vB6, _, rfl⟩
      | call => exact ⟨_, vB8, _, rfl⟩
      | stop => exact ⟨_, vB7, _, rfl⟩
    · cases s with
      | row => exact ⟨_, vX0, _, rfl⟩
      | col => exact ⟨_, vX1, _, rfl⟩
      | say => exact ⟨_, vX2, _, rfl⟩
      | set => exact ⟨_, vX3, _, rfl⟩
      | ite => exact ⟨_, vX4, _, rfl⟩
      | whl => exact ⟨_, vX5, _, rfl⟩
      | for_ => exact ⟨_, vX6, _, rfl⟩
      | call f es => exact absurd rfl (hs f es)
      | stop => exact ⟨_, vX7, _, rfl⟩
  have hZ : ∃ a, mg "ZERO" = some (.ref a) ∧ ∀ H, SqT K H a [.str "num", .int 0] := ⟨tZ, PySem.W.mg_of X G atZ, fun H => tup ltZ vtZ ztZ H⟩
  refine ⟨PySem.W.fnOf "law" "law" (defArgs S_law) (defBody S_law) (defScope S_law) .none kV7 dc7 pm7 an7 cd7 ct7, [(qN, PT)], (fun vs H Q E => H PT = some (.tbl #[]) ∧ spLaw K PT vs (upd H PT (.ext (GN.TabI PT))) (fun v H' => GN.Tab PT H' ∧ ∀ H'', Q v H'') E), fun p hp => ?_, fun p hp => ?_, fun p hp => ?_, fun s v => .of_eq rfl, fun H a ns hlen _ hT hS => ?_, fun base KB GB hTB => ?_⟩
  · rw [List.mem_singleton.mp hp]
    exact tb.2
  · rw [List.mem_singleton.mp hp]
    exact npT
  · rw [List.mem_singleton.mp hp]
    exact tb.1
  · have hP := hT _ List.mem_cons_self
    have far : ∀ {b : Addr} {u : HO}, (∀ ps, u ≠ .tbl ps) → H b = some u → b ≠ PT := fun n q z => by
      rw [z, hP] at q
      exact n _ (Option.some.inj q).symm
    refine ⟨hP, a, ns, rfl, ?_, hlen, upd_same, fun H' hT' => ⟨hT', fun _ => rfl⟩⟩
    rcases hS with (q | ⟨o, q⟩) | q
    · exact .inl (.inl (by rw [upd_ne (far (fun ps z => by cases z) q)]; exact q))
    · exact .inl (.inr ⟨o, by rw [upd_ne (far (fun ps z => by cases z) q)]; exact q⟩)
    · exact .inr q
  · have TB0 := hTB _ List.mem_cons_self
    have TB : GxR.TabB base mg qN PT := ⟨TB0.code, TB0.bm, TB0.gP⟩
    refine GN.untab ?_
    have G2 := K8.ok_check (P := l.prog) (w := w) (base := base) FW2 W8 T
    have G5 := K8.ok_runEnd (P := l.prog) (w := w) (base := base) FW5 W8 T
    have GN1 := K8.ok_isNum (P := l.prog) (w := w) (base := base) FN W8 T TB
    have G6 := K8.ok_kind FW6 W8 T GN1 mN kN bN
    have G4 := K8.ok_signs FW4 W8 G5 mW5 kW5 bW5
    have G3 := K8.ok_wordAt FW3 W8 G4 mW4 kW4 bW4 G6 mW6 kW6 bW6
    have G1 := ok_placed FW1 W8 T G2 mW2 kW2 bW2 G3 mW3 kW3 bW3
    have GI := ok_init FRI T R8 G1 mW1 kW1 bW1
    have L := RF.low (P := l.prog) (w := w) (mg := mg) (base := base) R8
    have GS := sok RF2 T R8 L 3
    have mset := PySem.W.mg_none_of X G z9
    have mzip := PySem.W.mg_none_of X G z10
    have msort := PySem.W.mg_none_of X G z11
    have mdict := PySem.W.mg_none_of X G z12
    have GBk : Mth l.prog w K mg base C 118 "block" ["self"] (spBlk K C 4) := ⟨_, _, ok_blk (n := 117) FB1 R8 L GS (by decide), ⟨aB1, iB1, kB1⟩, bB1⟩
    have GAr : Mth l.prog w K mg base C 118 "arguments" ["self"] (spArgs K C) := ⟨_, _, (ok_args (n := 3) FD2 T mset R8 L (by decide)).mono (by decide), ⟨aD2, iD2, kD2⟩, bD2⟩
    have GDf : Mth l.prog w K mg base C 119 "definition" ["self"] (spDef K C) := ⟨_, _, ok_def (n := 118) FD1 R8 L GAr GBk (by decide), ⟨aD1, iD1, kD1⟩, bD1⟩
    have GP : Mth l.prog w K mg base C 120 "program" ["self"] (spProg K C) := ⟨_, _, ok_prog (n := 119) FB8 T R8 L (GS.mono (by decide)) GDf (by decide), ⟨aB8, iB8, kB8⟩, bB8⟩
    have GR := ok_read (n := 120) F1 R8 ⟨mk, aRI, iRI, kc⟩ GI bRI GP (by decide)
    have GPl := ok_places (n := 120) FY8 R8 ⟨mk, aRI, iRI, kc⟩ GI bRI GP (by decide)
    have GBs := ok_blocks (P := l.prog) (base' := base) FP1 BX
    have GEx := ok_exprs (P := l.prog) (base' := base) FP2 BX
    have GSi := ok_stIn FP3 GBs mP1 kP1 bP1 mP3 bP3 3
    have GSt := ok_stTold FP4 GSi mP3 kP3 bP3
    have GAs := ok_allSt FP6 GSi mP3 kP3 bP3 GSt mP4 kP4 bP4
    have GXi := ok_exIn (P := l.prog) (w := w) (mg := mg) (base := base) FP5
    have GWr := ok_written (P := l.prog) (w := w) (mg := mg) (base := base) FP7
    have GEa := ok_ends FP8 GWr mP7 kP7 bP7 hZ
    have GCn := ok_chkN FP9 GXi mP5 kP5 bP5
    have GNb := ok_NBall FY1 FY2 mdict GEx mP2 kP2 bP2 GCn mP9 kP9 bP9 GEa mP8 kP8 bP8 GBs mP1 kP1 bP1 mY1 bY1 mY2 bY2 3
    have GCc := ok_calls FY3 T GAs mP6 kP6 bP6
    have GCt := ok_chkT (N := 7) FY4 GCc mY3 kY3 bY3 GNb mY1 kY1 bY1 (by decide) (by decide)
    have GGt := ok_goodT (N := 121) FY5 GR m1 k1 b1 GCt mY4 kY4 bY4 (by decide) (by decide)
    have GGd := ok_good (N := 121) FY6 GR m1 k1 b1 GCt mY4 kY4 bY4 (by decide) (by decide)
    have GSz := ok_sizes (N := 122) FY7 T GGt mY5 kY5 bY5 GAs mP6 kP6 bP6 GEx mP2 kP2 bP2 GXi mP5 kP5 bP5 (by decide) (by decide) (by decide)
    have GT := ok_taken (P := l.prog) (w := w) (base := base) F2 T
    have GK := ok_pick F3 T GT m2 k2 b2
    have E0 := ok_expr0 FX1 T GT m2 k2 b2 GK m3 k3 b3
    have E1 := ok_exprS FX1 T GT m2 k2 b2 GK m3 k3 b3 E0 mX1 bX1
    have E2 := ok_exprS FX1 T GT m2 k2 b2 GK m3 k3 b3 E1 mX1 bX1
    have GSd := ok_side FX2 T GT m2 k2 b2 GK m3 k3 b3 E1 mX1 kX1 bX1
    have BL0 := ok_block0 FX3 T GT m2 k2 b2 GK m3 k3 b3 E2 mX1 kX1 bX1 GSd mX2 kX2 bX2
    have BL1 := ok_blockS FX3 T GT m2 k2 b2 GK m3 k3 b3 E2 mX1 kX1 bX1 GSd mX2 kX2 bX2 E1 BL0 mX3 bX3
    have BL2 := ok_blockS FX3 T GT m2 k2 b2 GK m3 k3 b3 E2 mX1 kX1 bX1 GSd mX2 kX2 bX2 E1 BL1 mX3 bX3
    have GW := ok_whole FX4 T GT m2 k2 b2 GK m3 k3 b3 BL1 BL2 mX3 kX3 bX3
    have GPt := ok_part (P := l.prog) (w := w) (base := base) FX5 T mX5 bX5 12
    have GSa := ok_said FX6 T GK m3 k3 b3 GPt mX5 kX5 bX5 mX6 bX6 12
    have GTx := ok_text FX7 T GSa mX6 kX6 bX6
    have GHe := ok_heads (P := l.prog) (w := w) (base := base) FX8 T mX8 bX8 12
    exact ok_law (N := 123) F7 T mset msort mzip GW mX4 kX4 bX4 GTx mX7 kX7 bX7 (ok_alk F4 T m4 b4 70) m4 k4 b4 GR m1 k1 b1 GPl mY8 kY8 bY8 GGd mY6 kY6 bY6 GSz mY7 kY7 bY7 GHe mX8 kX8 bX8 (by decide) (by decide) (by decide) (by decide) (by decide)
theorem walk {l : PySem.W.OpenLaw} {q : Program} {loose : List Str} {XP : (Str → Option Value) → Heap → Prop} {YP : World → Heap → Prop} {d : DefRec} {K : Params → PySem.W.Frag} (hn : l.most = some 63) (hdf : d.params.defaults = []) (named : ((PyProof.Rows.recsOf q).any fun e => e.name == "is_number") = true)
    (hY : ∀ (w : World) (h : Heap), YP w h → (K w.params).In h)
    (F : ∀ (w : World) (mg : Str → Option Value) (fa : Addr) (h : Heap), (K w.params).In h → h.Ns mainGlobals mg → mg d.name = some (.ref fa) → (∃ c P, GN.TabOf mg "is_number" h c P) → LamX.LawAtS l w (K w.params) CX0 124 63 "script" mg fa h) :
    PySem.W.WalkO q loose XP YP l.row.toRowW d [] (fun f vs => PySem.call f vs) :=
  GN.walk_tab (n := 63) (k := 124) (x := "script") (nm := "is_number") (CX := fun _ => CX0) hn (by decide) hdf ⟨rfl, by decide, by decide⟩ named hY F fun _ _ _ _ _ z => z
end KD
open PySem PySem.W PyProof.Rows
set_option maxRecDepth 100000 in
set_option maxHeartbeats 0 in
theorem PySem.Challenge.cw_strokes_k01_whole_trees_holds : PySem.Challenge.rw_strokes_k01_whole_trees.Holds := by
  w_on; o_law; k_head; (case hw => w_witness2)
  k_fill
  refine KD.walk (l := PySem.Challenge.rw_strokes_k01_whole_trees) rfl rfl (by first | rfl | decide +kernel) (fun w h Y => PySem.W.kIn_of Y) ?F
  case F =>
    intro w mg fa h KX G hmg TO
    refine' KD.all_mk KX G hmg TO ?aC ?aW1 ?lW1 ?cW1 ?kW1 ?aW2 ?lW2 ?cW2 ?kW2 ?aW3 ?lW3 ?cW3 ?kW3 ?aW4 ?lW4 ?cW4 ?kW4 ?aW5 ?lW5 ?cW5 ?kW5 ?aW6 ?lW6 ?cW6 ?kW6 ?aN ?lN ?cN ?kN ?a1 ?l1 ?c1 ?k1 ?aP1 ?lP1 ?cP1 ?kP1 ?aP2 ?lP2 ?cP2 ?kP2 ?aP3 ?lP3 ?cP3 ?kP3 ?aP4 ?lP4 ?cP4 ?kP4 ?aP5 ?lP5 ?cP5 ?kP5 ?aP6 ?lP6 ?cP6 ?kP6 ?aP7 ?lP7 ?cP7 ?kP7 ?aP8 ?lP8 ?cP8 ?kP8 ?aP9 ?lP9 ?cP9 ?kP9 ?aY1 ?lY1 ?cY1 ?kY1 ?aY2 ?lY2 ?cY2 ?kY2 ?aY3 ?lY3 ?cY3 ?kY3 ?aY4 ?lY4 ?cY4 ?kY4 ?aY5 ?lY5 ?cY5 ?kY5 ?aY6 ?lY6 ?cY6 ?kY6 ?aY7 ?lY7 ?cY7 ?kY7 ?aY8 ?lY8 ?cY8 ?kY8 ?a2 ?l2 ?c2 ?k2 ?a3 ?l3 ?c3 ?k3 ?a4 ?l4 ?c4 ?k4 ?aX1 ?lX1 ?cX1 ?kX1 ?aX2 ?lX2 ?cX2 ?kX2 ?aX3 ?lX3 ?cX3 ?kX3 ?aX4 ?lX4 ?cX4 ?kX4 ?aX5 ?lX5 ?cX5 ?kX5 ?aX6 ?lX6 ?cX6 ?kX6 ?aX7 ?lX7 ?cX7 ?kX7 ?aX8 ?lX8 ?cX8 ?kX8 ?a7 ?l7 ?c7 ?k7 ?aRI ?iRI ?lRI ?cRI ?kRI ?aR1 ?iR1 ?lR1 ?cR1 ?kR1 ?aR2 ?iR2 ?lR2 ?cR2 ?kR2 ?aR3 ?iR3 ?lR3 ?cR3 ?kR3 ?aR4 ?iR4 ?lR4 ?cR4 ?kR4 ?aR5 ?iR5 ?lR5 ?cR5 ?kR5 ?aR6 ?iR6 ?lR6 ?cR6 ?kR6 ?aR7 ?iR7 ?lR7 ?cR7 ?kR7 ?aR8 ?iR8 ?lR8 ?cR8 ?kR8 ?aR9 ?iR9 ?lR9 ?cR9 ?kR9 ?aQ1 ?iQ1 ?lQ1 ?cQ1 ?kQ1 ?aQ2 ?iQ2 ?lQ2 ?cQ2 ?kQ2 ?aQ3 ?iQ3 ?lQ3 ?cQ3 ?kQ3 ?aQ4 ?iQ4 ?lQ4 ?cQ4 ?kQ4 ?aQ5 ?iQ5 ?lQ5 ?cQ5 ?kQ5 ?aB1 ?iB1 ?lB1 ?cB1 ?kB1 ?aB2 ?iB2 ?lB2 ?cB2 ?kB2 ?aB3 ?iB3 ?lB3 ?cB3 ?kB3 ?aB4 ?iB4 ?lB4 ?cB4 ?kB4 ?aB5 ?iB5 ?lB5 ?cB5 ?kB5 ?aB6 ?iB6 ?lB6 ?cB6 ?kB6 ?aB7 ?iB7 ?lB7 ?cB7 ?kB7 ?aB8 ?iB8 ?lB8 ?cB8 ?kB8 ?aD1 ?iD1 ?lD1 ?cD1 ?kD1 ?aD2 ?iD2 ?lD2 ?cD2 ?kD2 ?lcN ?vcN ?npT ?pg ?hd ?po ?sa ?mk ?kc ?nA_told ?nA_at ?nA_nests ?nA_places ?atK ?ltK ?vtK ?ztK ?atM ?ltM ?vtM ?ztM ?atS ?ltS ?vtS ?ztS ?atL ?ltL ?vtL ?ztL ?ltL0 ?vtL0 ?ztL0 ?ltL1 ?vtL1 ?ztL1 ?ltL2 ?vtL2 ?ztL2 ?ltL3 ?vtL3 ?ztL3 ?ltL4 ?vtL4 ?ztL4 ?atZ ?ltZ ?vtZ ?ztZ ?s1 ?s2 ?s3 ?s4 ?s5 ?s6 ?s7 ?s8 ?s9 ?adX ?ldX ?kdX ?sdX ?vX0 ?vX1 ?vX2 ?vX3 ?vX4 ?vX5 ?vX6 ?vX7 ?adB ?ldB ?kdB ?sdB ?vB0 ?vB1 ?vB2 ?vB3 ?vB4 ?vB5 ?vB6 ?vB7 ?vB8 ?z0 ?z1 ?z2 ?z3 ?z4 ?z5 ?z6 ?z7 ?z8 ?z9 ?z10 ?z11 ?z12
    (case aC => k_is)
    (case aW1 => k_is)
    (case lW1 => k_is)
    (case cW1 => k_is)
    (case kW1 => k_is)
    (case aW2 => k_is)
    (case lW2 => k_is)
    (case cW2 => k_is)
    (case kW2 => k_is)
    (case aW3 => k_is)
    (case lW3 => k_is)
    (case cW3 => k_is)
    (case kW3 => k_is)
    (case aW4 => k_is)
    (case lW4 => k_is)
    (case cW4 => k_is)
    (case kW4 => k_is)
    (case aW5 => k_is)
    (case lW5 => k_is)
    (case cW5 => k_is)
    (case kW5 => k_is)
    (case aW6 => k_is)
    (case lW6 => k_is)
    (case cW6 => k_is)
    (case kW6 => k_is)
    (case aN => k_is)
    (case lN => k_is)
    (case cN => k_is)
    (case kN => k_is)
    (case a1 => k_is)
    (case l1 => k_is)
    (case c1 => k_is)
    (case k1 => k_is)
    (case aP1 => k_is)
    (case lP1 => k_is)
    (case cP1 => k_is)
    (case kP1 => k_is)
    (case aP2 => k_is)
    (case lP2 => k_is)
    (case cP2 => k_is)
    (case kP2 => k_is)
    (case aP3 => k_is)
    (case lP3 => k_is)
    (case cP3 => k_is)
    (case kP3 => k_is)
    (case aP4 => k_is)
    (case lP4 => k_is)
    (case cP4 => k_is)
    (case kP4 => k_is)
    (case aP5 => k_is)
    (case lP5 => k_is)
    (case cP5 => k_is)
    (case kP5 => k_is)
    (case aP6 => k_is)
    (case lP6 => k_is)
    (case cP6 => k_is)
    (case kP6 => k_is)
    (case aP7 => k_is)
    (case lP7 => k_is)
    (case cP7 => k_is)
    (case kP7 => k_is)
    (case aP8 => k_is)
    (case lP8 => k_is)
    (case cP8 => k_is)
    (case kP8 => k_is)
    (case aP9 => k_is)
    (case lP9 => k_is)
    (case cP9 => k_is)
    (case kP9 => k_is)
    (case aY1 => k_is)
    (case lY1 => k_is)
    (case cY1 => k_is)
    (case kY1 => k_is)
    (case aY2 => k_is)
    (case lY2 => k_is)
    (case cY2 => k_is)
    (case kY2 => k_is)
    (case aY3 => k_is)
    (case lY3 => k_is)
    (case cY3 => k_is)
    (case kY3 => k_is)
    (case aY4 => k_is)
    (case lY4 => k_is)
    (case cY4 => k_is)
    (case kY4 => k_is)
    (case aY5 => k_is)
    (case lY5 => k_is)
    (case cY5 => k_is)
    (case kY5 => k_is)
    (case aY6 => k_is)
    (case lY6 => k_is)
    (case cY6 => k_is)
    (case kY6 => k_is)
    (case aY7 => k_is)
    (case lY7 => k_is)
    (case cY7 => k_is)
    (case kY7 => k_is)
    (case aY8 => k_is)
    (case lY8 => k_is)
    (case cY8 => k_is)
    (case kY8 => k_is)
    (case a2 => k_is)
    (case l2 => k_is)
    (case c2 => k_is)
    (case k2 => k_is)
    (case a3 => k_is)
    (case l3 => k_is)
    (case c3 => k_is)
    (case k3 => k_is)
    (case a4 => k_is)
    (case l4 => k_is)
    (case c4 => k_is)
    (case k4 => k_is)
    (case aX1 => k_is)
    (case lX1 => k_is)
    (case cX1 => k_is)
    (case kX1 => k_is)
    (case aX2 => k_is)
    (case lX2 => k_is)
    (case cX2 => k_is)
    (case kX2 => k_is)
    (case aX3 => k_is)
    (case lX3 => k_is)
    (case cX3 => k_is)
    (case kX3 => k_is)
    (case aX4 => k_is)
    (case lX4 => k_is)
    (case cX4 => k_is)
    (case kX4 => k_is)
    (case aX5 => k_is)
    (case lX5 => k_is)
    (case cX5 => k_is)
    (case kX5 => k_is)
    (case aX6 => k_is)
    (case lX6 => k_is)
    (case cX6 => k_is)
    (case kX6 => k_is)
    (case aX7 => k_is)
    (case lX7 => k_is)
    (case cX7 => k_is)
    (case kX7 => k_is)
    (case aX8 => k_is)
    (case lX8 => k_is)
    (case cX8 => k_is)
    (case kX8 => k_is)
    (case a7 => k_is)
    (case l7 => k_is)
    (case c7 => k_is)
    (case k7 => k_is)
    (case aRI => k_is)
    (case iRI => k_is)
    (case lRI => k_is)
    (case cRI => k_is)
    (case kRI => k_is)
    (case aR1 => k_is)
    (case iR1 => k_is)
    (case lR1 => k_is)
    (case cR1 => k_is)
    (case kR1 => k_is)
    (case aR2 => k_is)
    (case iR2 => k_is)
    (case lR2 => k_is)
    (case cR2 => k_is)
    (case kR2 => k_is)
    (case aR3 => k_is)
    (case iR3 => k_is)
    (case lR3 => k_is)
    (case cR3 => k_is)
    (case kR3 => k_is)
    (case aR4 => k_is)
    (case iR4 => k_is)
    (case lR4 => k_is)
    (case cR4 => k_is)
    (case kR4 => k_is)
    (case aR5 => k_is)
    (case iR5 => k_is)
    (case lR5 => k_is)
    (case cR5 => k_is)
    (case kR5 => k_is)
    (case aR6 => k_is)
    (case iR6 => k_is)
    (case lR6 => k_is)
    (case cR6 => k_is)
    (case kR6 => k_is)
    (case aR7 => k_is)
    (case iR7 => k_is)
    (case lR7 => k_is)
    (case cR7 => k_is)
    (case kR7 => k_is)
    (case aR8 => k_is)
    (case iR8 => k_is)
    (case lR8 => k_is)
    (case cR8 => k_is)
    (case kR8 => k_is)
    (case aR9 => k_is)
    (case iR9 => k_is)
    (case lR9 => k_is)
    (case cR9 => k_is)
    (case kR9 => k_is)
    (case aQ1 => k_is)
    (case iQ1 => k_is)
    (case lQ1 => k_is)
    (case cQ1 => k_is)
    (case kQ1 => k_is)
    (case aQ2 => k_is)
    (case iQ2 => k_is)
    (case lQ2 => k_is)
    (case cQ2 => k_is)
    (case kQ2 => k_is)
    (case aQ3 => k_is)
    (case iQ3 => k_is)
    (case lQ3 => k_is)
    (case cQ3 => k_is)
    (case kQ3 => k_is)
    (case aQ4 => k_is)
    (case iQ4 => k_is)
    (case lQ4 => k_is)
    (case cQ4 => k_is)
    (case kQ4 => k_is)
    (case aQ5 => k_is)
    (case iQ5 => k_is)
    (case lQ5 => k_is)
    (case cQ5 => k_is)
    (case kQ5 => k_is)
    (case aB1 => k_is)
    (case iB1 => k_is)
    (case lB1 => k_is)
    (case cB1 => k_is)
    (case kB1 => k_is)
    (case aB2 => k_is)
    (case iB2 => k_is)
    (case lB2 => k_is)
    (case cB2 => k_is)
    (case kB2 => k_is)
    (case aB3 => k_is)
    (case iB3 => k_is)
    (case lB3 => k_is)
    (case cB3 => k_is)
    (case kB3 => k_is)
    (case aB4 => k_is)
    (case iB4 => k_is)
    (case lB4 => k_is)
    (case cB4 => k_is)
    (case kB4 => k_is)
    (case aB5 => k_is)
    (case iB5 => k_is)
    (case lB5 => k_is)
    (case cB5 => k_is)
    (case kB5 => k_is)
    (case aB6 => k_is)
    (case iB6 => k_is)
    (case lB6 => k_is)
    (case cB6 => k_is)
    (case kB6 => k_is)
    (case aB7 => k_is)
    (case iB7 => k_is)
    (case lB7 => k_is)
    (case cB7 => k_is)
    (case kB7 => k_is)
    (case aB8 => k_is)
    (case iB8 => k_is)
    (case lB8 => k_is)
    (case cB8 => k_is)
    (case kB8 => k_is)
    (case aD1 => k_is)
    (case iD1 => k_is)
    (case lD1 => k_is)
    (case cD1 => k_is)
    (case kD1 => k_is)
    (case aD2 => k_is)
    (case iD2 => k_is)
    (case lD2 => k_is)
    (case cD2 => k_is)
    (case kD2 => k_is)
    (case lcN => k_is)
    (case vcN => rfl)
    (case npT => first | k_is | rfl | decide +kernel)
    (case pg => k_is)
    (case hd => k_is)
    (case po => k_is)
    (case sa => k_is)
    (case mk => k_is)
    (case kc => k_is)
    (case nA_told => k_is)
    (case nA_at => k_is)
    (case nA_nests => k_is)
    (case nA_places => k_is)
    (case atK => k_is)
    (case ltK => k_is)
    (case vtK => (repeat (first | exact Paired.nil | refine Paired.cons ⟨_, rfl⟩ ?_)))
    (case ztK => first | decide | decide +kernel)
    (case atM => k_is)
    (case ltM => k_is)
    (case vtM => (repeat (first | exact Paired.nil | refine Paired.cons ⟨_, rfl⟩ ?_)))
    (case ztM => first | decide | decide +kernel)
    (case atS => k_is)
    (case ltS => k_is)
    (case vtS => (repeat (first | exact Paired.nil | refine Paired.cons ⟨_, rfl⟩ ?_)))
    (case ztS => first | decide | decide +kernel)
    (case atL => k_is)
    (case ltL => k_is)
    (case vtL => (repeat (first | exact Paired.nil | refine Paired.cons rfl ?_)))
    (case ztL => first | decide | decide +kernel)
    (case ltL0 => k_is)
    (case vtL0 => (repeat (first | exact Paired.nil | refine Paired.cons ⟨_, rfl⟩ ?_)))
    (case ztL0 => first | decide | decide +kernel)
    (case ltL1 => k_is)
    (case vtL1 => (repeat (first | exact Paired.nil | refine Paired.cons ⟨_, rfl⟩ ?_)))
    (case ztL1 => first | decide | decide +kernel)
    (case ltL2 => k_is)
    (case vtL2 => (repeat (first | exact Paired.nil | refine Paired.cons ⟨_, rfl⟩ ?_)))
    (case ztL2 => first | decide | decide +kernel)
    (case ltL3 => k_is)
    (case vtL3 => (repeat (first | exact Paired.nil | refine Paired.cons ⟨_, rfl⟩ ?_)))
    (case ztL3 => first | decide | decide +kernel)
    (case ltL4 => k_is)
    (case vtL4 => (repeat (first | exact Paired.nil | refine Paired.cons ⟨_, rfl⟩ ?_)))
    (case ztL4 => first | decide | decide +kernel)
    (case atZ => k_is)
    (case ltZ => k_is)
    (case vtZ => (repeat (first | exact Paired.nil | refine Paired.cons ⟨_, rfl⟩ ?_)))
    (case ztZ => first | decide | decide +kernel)
    (case s1 => k_is)
    (case s2 => k_is)
    (case s3 => k_is)
    (case s4 => k_is)
    (case s5 => k_is)
    (case s6 => k_is)
    (case s7 => k_is)
    (case s8 => k_is)
    (case s9 => k_is)
    (case adX => k_is)
    (case ldX => k_is)
    (case kdX => ((repeat (refine ⟨⟨_, _, rfl, rfl⟩, ?_⟩)) <;> exact True.intro))
    (case sdX => first | rfl | decide | decide +kernel)
    (case vX0 => k_is)
    (case vX1 => k_is)
    (case vX2 => k_is)
    (case vX3 => k_is)
    (case vX4 => k_is)
    (case vX5 => k_is)
    (case vX6 => k_is)
    (case vX7 => k_is)
    (case adB => k_is)
    (case ldB => k_is)
    (case kdB => ((repeat (refine ⟨⟨_, _, rfl, rfl⟩, ?_⟩)) <;> exact True.intro))
    (case sdB => first | rfl | decide | decide +kernel)
    (case vB0 => k_is)
    (case vB1 => k_is)
    (case vB2 => k_is)
    (case vB3 => k_is)
    (case vB4 => k_is)
    (case vB5 => k_is)
    (case vB6 => k_is)
    (case vB7 => k_is)
    (case vB8 => k_is)
    (case z0 => k_is)
    (case z1 => k_is)
    (case z2 => k_is)
    (case z3 => k_is)
    (case z4 => k_is)
    (case z5 => k_is)
    (case z6 => k_is)
    (case z7 => k_is)
    (case z8 => k_is)
    (case z9 => k_is)
    (case z10 => k_is)
    (case z11 => k_is)
    (case z12 => k_is)

