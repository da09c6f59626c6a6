import PyProof.Rows.All
import Wide.All
import OpenK.AllK
import Wide.FinOn
import HandS.ForMost
import HandS.IsInst
import HandS.Style
import HandS.Codes
import HandS.Gcd
import KE.KMathGC
import KE.KDictCopyH
import HandS.Flow
import HandS.EndTab
import PySem.Challenge.RW_strokes_k23_whole_numbers_of_effects
set_option Elab.async false
set_option linter.all false
set_option maxRecDepth 100000
/-! Trees of programs: the data of the drawn trees, and how data lies in the abstract heap. -/
namespace KD
open PySem L2 TL
/-! ### trees -/
inductive Un | neg | not
  deriving DecidableEq
inductive Bi | black | or | and | lt | le | eq | ne | add | sub | mul | div | mod
  deriving DecidableEq
inductive Ex
  | num (n : Nat) | name (x : Str) | rows | cols | un (o : Un) (a : Ex) | bin (o : Bi) (a b : Ex)
inductive St
  | row (e : Ex) | col (e : Ex) | say (e : Ex) | set (x : Str) (e : Ex) | ite (c : Ex) (a b : List St) | whl (c : Ex) (a : List St) | for_ (x : Str) (a b : Ex) (s : List St) | call (f : Str) (es : List Ex) | stop
structure Df where
  name : Str
  args : List Str
  body : List St
structure Pr where
  defs : List Df
  body : List St
def Un.w : Un → Str
  | .neg => "neg" | .not => "not"
def Bi.w : Bi → Str
  | .black => "black" | .or => "or" | .and => "and" | .lt => "<" | .le => "<=" | .eq => "=" | .ne => "!=" | .add => "+" | .sub => "-" | .mul => "*" | .div => "/" | .mod => "mod"
def Ex.d : Ex → PyData
  | .num n => .tuple [.str "num", .int n]
  | .name x => .tuple [.str "name", .str x]
  | .rows => .tuple [.str "rows"]
  | .cols => .tuple [.str "cols"]
  | .un o a => .tuple [.str o.w, a.d]
  | .bin o a b => .tuple [.str o.w, a.d, b.d]
mutual
def St.d : St → PyData
  | .row e => .tuple [.str "row", e.d]
  | .col e => .tuple [.str "col", e.d]
  | .say e => .tuple [.str "say", e.d]
  | .set x e => .tuple [.str "let", .str x, e.d]
  | .ite c a b => .tuple [.str "if", c.d, .tuple (dB a), .tuple (dB b)]
  | .whl c a => .tuple [.str "while", c.d, .tuple (dB a)]
  | .for_ x a b s => .tuple [.str "for", .str x, a.d, b.d, .tuple (dB s)]
  | .call f es => .tuple [.str "do", .str f, .tuple (es.map Ex.d)]
  | .stop => .tuple [.str "stop"]
def dB : List St → List PyData
  | [] => []
  | s :: b => s.d :: dB b
end
theorem dB_append : ∀ (a b : List St), dB (a ++ b) = dB a ++ dB b
  | [], b => rfl
  | s :: a, b => by
    show s.d :: dB (a ++ b) = s.d :: (dB a ++ dB b)
    rw [dB_append a b]
theorem dB_length : ∀ (a : List St), (dB a).length = a.length
  | [] => rfl
  | s :: a => by
    show (dB a).length + 1 = a.length + 1
    rw [dB_length a]
def Df.d (f : Df) : PyData := .tuple [.str f.name, .tuple (f.args.map .str), .tuple (dB f.body)]
def Pr.d (p : Pr) : PyData := .tuple [.tuple (p.defs.map Df.d), .tuple (dB p.body)]

/-! ### what drawn trees keep -/
/-- the names used are among these, the numbers are small -/
def okE (ns : List Str) : Ex → Prop
  | .num n => n < 1000000
  | .name x => x ∈ ns
  | .rows => True
  | .cols => True
  | .un _ a => okE ns a
  | .bin _ a b => okE ns a ∧ okE ns b
def dpE : Ex → Nat
  | .un _ a => dpE a + 1
  | .bin _ a b => max (dpE a) (dpE b) + 1
  | _ => 0
def letN : List Str := ["a", "b", "c", "long"]
def forN : List Str := ["i", "j", "a"]
/-- names known behind a statement -/
def aft (ns : List Str) : St → List Str
  | .set x _ => if x ∈ ns then ns else ns ++ [x]
  | _ => ns
def aftB : List Str → List St → List Str
  | ns, [] => ns
  | ns, s :: b => aftB (aft ns s) b
mutual
/-- a drawn statement: names known, calls that fit, blocks of at most two statements, n deep -/
def okS (ds : List (Str × Nat)) : Nat → List Str → St → Prop
  | _, ns, .row e => okE ns e ∧ dpE e ≤ 1
  | _, ns, .col e => okE ns e ∧ dpE e ≤ 1
  | _, ns, .say e => okE ns e ∧ dpE e ≤ 2
  | _, ns, .set x e => x ∈ letN ∧ okE ns e ∧ dpE e ≤ 2
  | n + 1, ns, .ite c a b => okE ns c ∧ dpE c ≤ 2 ∧ (a.length ≤ 2 ∧ okB ds n ns a) ∧ (b.length ≤ 2 ∧ okB ds n ns b)
  | n + 1, ns, .whl c a => okE ns c ∧ dpE c ≤ 1 ∧ a.length ≤ 2 ∧ okB ds n ns a
  | n + 1, ns, .for_ x a b s => x ∈ forN ∧ (okE ns a ∧ dpE a ≤ 1) ∧ (okE ns b ∧ dpE b ≤ 1) ∧ s.length ≤ 2 ∧ okB ds n (if x ∈ ns then ns else ns ++ [x]) s
  | n + 1, ns, .call f es => (f, es.length) ∈ ds ∧ ∀ e ∈ es, okE ns e ∧ dpE e ≤ 1
  | n + 1, _, .stop => True
  | 0, _, .ite _ _ _ => False
  | 0, _, .whl _ _ => False
  | 0, _, .for_ _ _ _ _ => False
  | 0, _, .call _ _ => False
  | 0, _, .stop => False
def okB (ds : List (Str × Nat)) : Nat → List Str → List St → Prop
  | _, _, [] => True
  | n, ns, s :: b => okS ds n ns s ∧ okB ds n (aft ns s) b
end
theorem aftB_snoc : ∀ (b : List St) (ns : List Str) (s : St), aftB ns (b ++ [s]) = aft (aftB ns b) s
  | [], _, _ => rfl
  | t :: b, ns, s => by
    show aftB (aft ns t) (b ++ [s]) = _
    rw [aftB_snoc b]
    rfl
theorem okB_snoc {ds : List (Str × Nat)} {n : Nat} : ∀ {b : List St} {ns : List Str} {s : St}, okB ds n ns b → okS ds n (aftB ns b) s → okB ds n ns (b ++ [s])
  | [], ns, s, _, h => by
    show okB ds n ns [s]
    unfold okB
    exact ⟨h, by unfold okB; trivial⟩
  | t :: b, ns, s, h, h2 => by
    unfold okB at h
    show okB ds n ns (t :: (b ++ [s]))
    unfold okB
    exact ⟨h.1, okB_snoc (b := b) h.2 h2⟩

/-! ### data in the heap -/
mutual
/-- tuples, texts, numbers, bools and None alone -/
def tupD : PyData → Bool
  | .none => true
  | .bool _ => true
  | .int _ => true
  | .str _ => true
  | .tuple xs => tupDs xs
  | _ => false
def tupDs : List PyData → Bool
  | [] => true
  | x :: xs => tupD x && tupDs xs
end
/-- all tuples that are read are kept -/
def KT (K : PySem.W.Frag) (H H' : Hp) : Prop := ∀ a xs, SqT K H a xs → SqT K H' a xs
theorem KT.refl (K : PySem.W.Frag) (H : Hp) : KT K H H := fun _ _ h => h
theorem KT.trans {K : PySem.W.Frag} {H H1 H2 : Hp} (a : KT K H H1) (b : KT K H1 H2) : KT K H H2 := fun x y h => b x y (a x y h)
theorem KT.of {K : PySem.W.Frag} {H H' : Hp} (h : ∀ a o, H a = some o → (∀ xs, o ≠ .lst xs) → H' a = some o) : KT K H H' := fun a xs q => by
  rcases q with (q | ⟨o, q⟩) | q
  · exact .inl (.inl (h _ _ q (fun _ z => by cases z)))
  · exact .inl (.inr ⟨o, h _ _ q (fun _ z => by cases z)⟩)
  · exact .inr q
theorem KT.same {K : PySem.W.Frag} {H H' : Hp} (h : Same H H') : KT K H H' := KT.of fun a o q _ => h a o q
theorem KT.upd {K : PySem.W.Frag} {H : Hp} {r : Addr} {xs : List V} (h : H r = some (.lst xs)) (o : HO) : KT K H (upd H r o) := KT.of fun a u q n => by
  rw [upd_ne fun e => ?_]
  · exact q
  · rw [e, h] at q
    exact n xs (Option.some.inj q).symm
mutual
theorem Dp.kt {K : PySem.W.Frag} {H H' : Hp} (k : KT K H H') : ∀ {v : V} {d : PyData}, tupD d = true → Dp K H v d → Dp K H' v d
  | _, .none, _, h => by cases h; exact .non
  | _, .bool b, _, h => by cases h; exact .bl b
  | _, .int i, _, h => by cases h; exact .int i
  | _, .str x, _, h => by cases h; exact .str x
  | _, .tuple ds, t, h => by
    cases h with
    | tup h1 h2 => exact .tup (k _ _ h1) (DpAll.kt k (by unfold tupD at t; exact t) h2)
  | _, .list _, t, _ => by unfold tupD at t; cases t
  | _, .dict _, t, _ => by unfold tupD at t; cases t
theorem DpAll.kt {K : PySem.W.Frag} {H H' : Hp} (k : KT K H H') : ∀ {vs : List V} {ds : List PyData}, tupDs ds = true → DpAll K H vs ds → DpAll K H' vs ds
  | _, [], _, h => by cases h; exact .nil
  | _, d :: ds, t, h => by
    unfold tupDs at t
    rw [Bool.and_eq_true] at t
    cases h with
    | cons h1 h2 => exact .cons (Dp.kt k t.1 h1) (DpAll.kt k t.2 h2)
end
mutual
theorem Dp.same {K : PySem.W.Frag} {H H' : Hp} (k : Same H H') : ∀ {v : V} {d : PyData}, Dp K H v d → Dp K H' v d
  | _, .none, h => by cases h; exact .non
  | _, .bool b, h => by cases h; exact .bl b
  | _, .int i, h => by cases h; exact .int i
  | _, .str x, h => by cases h; exact .str x
  | _, .tuple ds, h => by
    cases h with
    | tup h1 h2 => exact .tup (KT.same k _ _ h1) (DpAll.same k h2)
  | _, .list ds, h => by
    cases h with
    | lst h1 h2 => exact .lst (k.seq h1) (DpAll.same k h2)
  | _, .dict _, h => by cases h
theorem DpAll.same {K : PySem.W.Frag} {H H' : Hp} (k : Same H H') : ∀ {vs : List V} {ds : List PyData}, DpAll K H vs ds → DpAll K H' vs ds
  | _, [], h => by cases h; exact .nil
  | _, d :: ds, h => by
    cases h with
    | cons h1 h2 => exact .cons (Dp.same k h1) (DpAll.same k h2)
end
theorem DpAll.length {K : PySem.W.Frag} {H : Hp} : ∀ {vs : List V} {ds : List PyData}, DpAll K H vs ds → vs.length = ds.length
  | _, [], h => by cases h; rfl
  | _, d :: ds, h => by
    cases h with
    | cons h1 h2 => rw [List.length_cons, List.length_cons, DpAll.length h2]
theorem DpAll.snoc {K : PySem.W.Frag} {H : Hp} {v : V} {d : PyData} (h : Dp K H v d) : ∀ {vs : List V} {ds : List PyData}, DpAll K H vs ds → DpAll K H (vs ++ [v]) (ds ++ [d])
  | _, [], h2 => by cases h2; exact .cons h .nil
  | _, e :: ds, h2 => by
    cases h2 with
    | cons h3 h4 => exact .cons h3 (DpAll.snoc h h4)
theorem DpAll.get {K : PySem.W.Frag} {H : Hp} : ∀ {vs : List V} {ds : List PyData} {i : Nat} {v : V}, DpAll K H vs ds → vs[i]? = some v → ∃ d, ds[i]? = some d ∧ Dp K H v d
  | _, [], i, v, h, e => by cases h; simp at e
  | _, d :: ds, 0, v, h, e => by
    cases h with
    | cons h1 h2 => exact ⟨d, rfl, by have := Option.some.inj e; subst this; exact h1⟩
  | _, d :: ds, i + 1, v, h, e => by
    cases h with
    | cons h1 h2 => exact DpAll.get (i := i) h2 e
theorem tupDs_append : ∀ (a b : List PyData), tupDs (a ++ b) = (tupDs a && tupDs b)
  | [], b => by rw [List.nil_append]; unfold tupDs; cases b <;> rfl
  | x :: a, b => by
    show (tupD x && tupDs (a ++ b)) = ((tupD x && tupDs a) && tupDs b)
    rw [tupDs_append a b, Bool.and_assoc]
theorem tupD_E : ∀ e : Ex, tupD e.d = true
  | .num _ => rfl
  | .name _ => rfl
  | .rows => rfl
  | .cols => rfl
  | .un o a => by
    show (true && (tupD a.d && true)) = true
    rw [tupD_E a]; rfl
  | .bin o a b => by
    show (true && (tupD a.d && (tupD b.d && true))) = true
    rw [tupD_E a, tupD_E b]; rfl
theorem tupDs_E : ∀ es : List Ex, tupDs (es.map Ex.d) = true
  | [] => rfl
  | e :: es => by
    show (tupD e.d && tupDs (es.map Ex.d)) = true
    rw [tupD_E e, tupDs_E es]; rfl
theorem tupDs_str : ∀ es : List Str, tupDs (es.map PyData.str) = true
  | [] => rfl
  | e :: es => by
    show (true && tupDs (es.map PyData.str)) = true
    rw [tupDs_str es]; rfl
mutual
theorem tupD_S : ∀ s : St, tupD s.d = true
  | .row e => by show (true && (tupD e.d && true)) = true; rw [tupD_E e]; rfl
  | .col e => by show (true && (tupD e.d && true)) = true; rw [tupD_E e]; rfl
  | .say e => by show (true && (tupD e.d && true)) = true; rw [tupD_E e]; rfl
  | .set x e => by show (true && (true && (tupD e.d && true))) = true; rw [tupD_E e]; rfl
  | .ite c a b => by show (true && (tupD c.d && (tupDs (dB a) && (tupDs (dB b) && true)))) = true; rw [tupD_E c, tupD_B a, tupD_B b]; rfl
  | .whl c a => by show (true && (tupD c.d && (tupDs (dB a) && true))) = true; rw [tupD_E c, tupD_B a]; rfl
  | .for_ x a b s => by show (true && (true && (tupD a.d && (tupD b.d && (tupDs (dB s) && true))))) = true; rw [tupD_E a, tupD_E b, tupD_B s]; rfl
  | .call f es => by show (true && (true && (tupDs (es.map Ex.d) && true))) = true; rw [tupDs_E es]; rfl
  | .stop => rfl
theorem tupD_B : ∀ b : List St, tupDs (dB b) = true
  | [] => rfl
  | s :: b => by
    show (tupD s.d && tupDs (dB b)) = true
    rw [tupD_S s, tupD_B b]; rfl
end
/-- two, three things in a new tuple -/
theorem Dp.new {K : PySem.W.Frag} {H : Hp} {p : Addr} {vs : List V} {ds : List PyData} (hp : H p = none) (h : DpAll K H vs ds) : Dp K (upd H p (.tup vs)) (.ref p) (.tuple ds) :=
  .tup (SqT.of upd_same) (KD.DpAll.same (fun b o q => by rw [upd_ne (ne_of_none q hp)]; exact q) h)
end KD

namespace KD
open PySem L2 TL
def top (i : Nat) : Stmt := PySem.Challenge.pw_strokes_k23_whole_numbers_of_effects.main.body.getD i (.Pass ⟨0, 0, 0, 0⟩)
abbrev S_check_board : Stmt := top 6
abbrev S_is_integer : Stmt := top 7
abbrev S_normal_form : Stmt := top 9
abbrev S_layers_of : Stmt := top 10
abbrev S_Tally___init__ : Stmt := inClass (top 12) 0
abbrev S_Tally_all_effects : Stmt := inClass (top 12) 1
abbrev S_Tally_beginning_with : Stmt := inClass (top 12) 2
abbrev S_Tally_is_row : Stmt := inClass (top 12) 3
abbrev S_Tally_behind_layer : Stmt := inClass (top 12) 4
abbrev S_count_effects : Stmt := top 14
abbrev S__law_taken : Stmt := top 16
abbrev S__law_alike : Stmt := top 17
abbrev S__law_onto : Stmt := top 18
abbrev S__law_choose : Stmt := top 19
abbrev S_law : Stmt := top 20
end KD

/-! The law's own drawing of programs: each def walked once. -/
namespace KD
open PySem L2 TL
/-- the built-ins' names are free -/
structure Blt (mg : Str → Option Value) : Prop where
  len : mg "len" = none
  int : mg "int" = none
  isi : mg "isinstance" = none
  str : mg "str" = none
  tup : mg "tuple" = none
  list : mg "list" = none
  range : mg "range" = none
  bool : mg "bool" = none
/-! ### the row of draws -/
def rowO (s : Addr) (i a b : Int) : HO := .lst [.ref s, .int i, .int a, .int b]
def RowAt (H : Hp) (r s : Addr) : Prop := ∃ i a b : Int, H r = some (rowO s i a b) ∧ 0 ≤ i ∧ 0 ≤ a ∧ a < 2147483647
/-- all that was tracked is kept, but at r -/
def Keep (r : Addr) (H H' : Hp) : Prop := ∀ b o, b ≠ r → H b = some o → H' b = some o
theorem Keep.refl (r : Addr) (H : Hp) : Keep r H H := fun _ _ _ h => h
theorem Keep.trans {r : Addr} {H H1 H2 : Hp} (a : Keep r H H1) (b : Keep r H1 H2) : Keep r H H2 := fun c o n h => b c o n (a c o n h)
theorem Keep.upd (r : Addr) (H : Hp) (o : HO) : Keep r H (upd H r o) := fun b u n h => by rw [upd_ne n]; exact h
theorem Keep.new {r p : Addr} {H : Hp} (h : H p = none) (o : HO) : Keep r H (L2.upd H p o) := fun b u _ q => by rw [upd_ne (ne_of_none q h)]; exact q
def Scr (K : PySem.W.Frag) (H : Hp) (r s : Addr) : Prop := ∃ ns : List Int, ns.length ≤ 63 ∧ ∀ H', Keep r H H' → SqL K H' s (ns.map V.int)
theorem Scr.mono {K : PySem.W.Frag} {H H' : Hp} {r s : Addr} (h : Scr K H r s) (k : Keep r H H') : Scr K H' r s := by
  obtain ⟨ns, h1, h2⟩ := h
  exact ⟨ns, h1, fun H2 k2 => h2 H2 (k.trans k2)⟩
theorem upd2 {H : Hp} {r : Addr} {o u : HO} : upd (upd H r o) r u = upd H r u := upd_upd

/-! ### promises -/
def spTaken (K : PySem.W.Frag) : Sp := fun vs H Q _ => ∃ (r s : Addr) (many : Int), vs = [.ref r, .int many] ∧ RowAt H r s ∧ Scr K H r s ∧ 1 ≤ many ∧ many ≤ 1000000 ∧
  ∀ (H' : Hp) (v : Int), Keep r H H' → RowAt H' r s → 0 ≤ v → v < many → Q (.int v) H'

section
variable {P : Program} {w : World} {K : PySem.W.Frag} {mg : Str → Option Value} {base : Heap}
theorem scTaken : FnScope ["row", "many", "found", "cell"] ["row", "many"] (defScope S__law_taken) := ⟨rfl, rfl, rfl, by decide +kernel, rfl, by decide +kernel, by decide +kernel⟩
theorem ok_taken {f : Addr} {fd : FuncData} (F : Fun K "_law_taken" "_law_taken" S__law_taken f fd) (T : Blt mg) : FnOk P w K mg base CX0 1 f fd ["row", "many"] (spTaken K) := by
  refine F.ok scTaken (fun vs H Q E h => ?_) (fun cdv A outer s0 H vs Q E hr h => ?_)
  · obtain ⟨r, s, many, rfl, _⟩ := h
    rfl
  obtain ⟨r, s, many, rfl, ⟨i, a, b, hR, hi, ha, ha2⟩, ⟨ns, hns, hS⟩, hm1, hm2, k⟩ := h
  refine ⟨_, pss_cons (ps_if (pt_cmpR op_gt (pe_ix ix_list (pv 0) pe_int (fun _ _ => rfl)) pe_int (nomark _))
      (pss_cons (ps_set (i := 2) scTaken.nd rfl (Or.inl rfl) (pe_op op_mod (pe_callTy call_int1 (by rfl) T.int (by decide +kernel) (pa_cons (pe_ix ix_list (pv 0) pe_int (fun _ _ => rfl)) pa_nil)) (pv 1)))
      (pss_cons (ps_asg (pe_op op_fdiv (pe_ix ix_list (pv 0) pe_int (fun _ _ => rfl)) (pv 1)) (pg_sub (pv 0) pe_int set_list))
      (pss_one (ps_ret (pv 2))))) pss_nil)
    (pss_cons (ps_asg (pe_op op_add (pe_ix ix_list (pv 0) pe_int (fun _ _ => rfl)) pe_int) (pg_sub (pv 0) pe_int set_list))
    (pss_cons (ps_if (pt_cmpR op_gt (pe_ix ix_list (pv 0) pe_int (fun _ _ => rfl)) (pe_callB call_len_seq (by rfl) T.len PySem.boot_len (pa_cons (pe_ix ix_list (pv 0) pe_int (fun _ _ => rfl)) pa_nil)) (nomark _))
      (pss_cons (ps_asg (pe_op op_mod (pe_callTy call_int1 (by rfl) T.int (by decide +kernel) (pa_cons (pe_op op_add (pe_op op_mul (pe_ix ix_list (pv 0) pe_int (fun _ _ => rfl)) pe_int) pe_int) pa_nil)) pe_int) (pg_sub (pv 0) pe_int set_list))
      (pss_one (ps_ret (pe_op op_mod (pe_callTy call_int1 (by rfl) T.int (by decide +kernel) (pa_cons (pe_op op_fdiv (pe_ix ix_list (pv 0) pe_int (fun _ _ => rfl)) pe_int) pa_nil)) (pv 1))))) pss_nil)
    (pss_cons (ps_set (i := 3) scTaken.nd rfl (Or.inl rfl) (pe_ix ix_list (pe_ix ix_list (pv 0) pe_int (fun _ _ => rfl)) (pe_op op_sub (pe_ix ix_list (pv 0) pe_int (fun _ _ => rfl)) pe_int) (fun _ _ => rfl)))
    (pss_cons (ps_asg (pe_op op_mod (pe_callTy call_int1 (by rfl) T.int (by decide +kernel) (pa_cons (pe_op op_add (pe_op op_add (pe_op op_mul (pe_ix ix_list (pv 0) pe_int (fun _ _ => rfl)) pe_int) (pv 3)) pe_int) pa_nil)) pe_int) (pg_sub (pv 0) pe_int set_list))
    (pss_cons (ps_if (pt_cmpR op_ge (pv 3) (pe_op op_pow pe_int pe_int) (nomark _))
      (pss_one (ps_asg (pe_op op_fdiv (pv 3) (pv 1)) (pg_sub (pv 0) pe_int set_list))) pss_nil)
    (pss_one (ps_ret (pe_op op_mod (pe_callTy call_int1 (by rfl) T.int (by decide +kernel) (pa_cons (pv 3) pa_nil)) (pv 1))))))))), ?_⟩
  have hm : (0 : Int) < many := by omega
  have hdv : (0 : Int) < many ∧ many < 1073741824 := ⟨hm, by omega⟩
  -- row[3] > 0
  refine ⟨_, rfl, r, _, _, _, rfl, rfl, SqL.of hR, rfl, _, _, rfl, rfl, _, rfl, ?_⟩
  refine ite2 (fun c => ?_) (fun c => ?_)
  · have hb : b > 0 := of_decide_eq_true c
    refine ⟨_, rfl, r, _, _, _, rfl, rfl, SqL.of hR, rfl, .inl ⟨_, rfl, _, rfl, _, _, rfl, rfl, hm, ?_⟩⟩
    refine ⟨_, rfl, r, _, _, _, rfl, rfl, SqL.of hR, rfl, _, rfl, _, _, rfl, rfl, hdv, _, rfl, r, _, _, 3, rfl, rfl, hR, rfl, ?_⟩
    refine ⟨_, rfl, ?_⟩
    exact k _ _ (Keep.upd r H _) ⟨i, a, b / many, upd_same, hi, ha, ha2⟩ (Int.emod_nonneg _ (by omega)) (Int.emod_lt_of_pos _ hm)
  · -- row[1] = row[1] + 1
    refine ⟨_, rfl, r, _, _, _, rfl, rfl, SqL.of hR, rfl, _, _, rfl, rfl, _, rfl, r, _, _, 1, rfl, rfl, hR, rfl, ?_⟩
    have k1 : Keep r H (upd H r (rowO s (i + 1) a b)) := Keep.upd r H _
    have hR1 : (upd H r (rowO s (i + 1) a b)) r = some (.lst [.ref s, .int (i + 1), .int a, .int b]) := upd_same
    have hS1 := hS _ k1
    -- if row[1] > len(row[0])
    refine ⟨_, rfl, r, _, _, _, rfl, rfl, SqL.of hR1, rfl, _, rfl, r, _, _, _, rfl, rfl, SqL.of hR1, rfl, s, _, rfl, .inl hS1, _, _, rfl, rfl, _, rfl, ?_⟩
    refine ite2 (fun c1 => ?_) (fun c1 => ?_)
    · refine ⟨_, rfl, r, _, _, _, rfl, rfl, SqL.of hR1, rfl, _, _, rfl, rfl, .inl ⟨by omega, by omega⟩, _, _, rfl, rfl, .inl ⟨_, rfl, _, _, rfl, rfl, (by show (0 : Int) < 2147483647; decide), _, rfl, r, _, _, 2, rfl, rfl, hR1, rfl, ?_⟩⟩
      rw [upd2]
      have hR2 : (upd H r (.lst [.ref s, .int (i + 1), .int ((a * 48271 + 11) % 2147483647), .int b])) r = some (.lst [.ref s, .int (i + 1), .int ((a * 48271 + 11) % 2147483647), .int b]) := upd_same
      refine ⟨_, rfl, r, _, _, _, rfl, rfl, SqL.of hR2, rfl, _, _, rfl, rfl, ⟨by decide, by decide⟩, .inl ⟨_, rfl, _, rfl, _, _, rfl, rfl, hm, ?_⟩⟩
      exact k _ _ (Keep.upd r H _) ⟨i + 1, (a * 48271 + 11) % 2147483647, b, upd_same, by omega, by omega, by omega⟩ (Int.emod_nonneg _ (by omega)) (Int.emod_lt_of_pos _ hm)
    · have c1' : ¬ (i + 1 > (((ns.map V.int).length : Nat) : Int)) := of_decide_eq_false (Bool.eq_false_iff.mpr c1)
      rw [List.length_map] at c1'
      have hlt : i.toNat < ns.length := by omega
      have ei : i + 1 - 1 = ((i.toNat : Nat) : Int) := by omega
      have q : atI (ns.map V.int) (i + 1 - 1) = some (.int ns[i.toNat]) := by
        rw [ei]
        exact atI_nat (by rw [List.getElem?_map, List.getElem?_eq_getElem hlt] <;> rfl)
      generalize ns[i.toNat] = cell at q
      refine ⟨_, rfl, r, _, _, _, rfl, rfl, SqL.of hR1, rfl, _, rfl, r, _, _, _, rfl, rfl, SqL.of hR1, rfl, _, _, rfl, rfl, s, _, _, _, rfl, rfl, hS1, q, ?_⟩
      refine ⟨_, rfl, r, _, _, _, rfl, rfl, SqL.of hR1, rfl, _, _, rfl, rfl, .inl ⟨by omega, by omega⟩, _, rfl, _, _, rfl, rfl, _, _, rfl, rfl, .inl ⟨_, rfl, _, _, rfl, rfl, (by show (0 : Int) < 2147483647; decide), _, rfl, r, _, _, 2, rfl, rfl, hR1, rfl, ?_⟩⟩
      rw [upd2]
      have hR2 : (upd H r (.lst [.ref s, .int (i + 1), .int ((a * 48271 + cell + 11) % 2147483647), .int b])) r = some (.lst [.ref s, .int (i + 1), .int ((a * 48271 + cell + 11) % 2147483647), .int b]) := upd_same
      refine ⟨_, rfl, _, _, rfl, rfl, ⟨by decide, by decide, by decide⟩, _, _, rfl, rfl, _, rfl, ?_⟩
      refine ite2 (fun c2 => ?_) (fun c2 => ?_)
      · refine ⟨_, rfl, _, rfl, _, _, rfl, rfl, hdv, _, rfl, r, _, _, 3, rfl, rfl, hR2, rfl, ?_⟩
        rw [upd2]
        refine ⟨_, rfl, .inl ⟨_, rfl, _, rfl, _, _, rfl, rfl, hm, ?_⟩⟩
        exact k _ _ (Keep.upd r H _) ⟨i + 1, (a * 48271 + cell + 11) % 2147483647, cell / many, upd_same, by omega, by omega, by omega⟩ (Int.emod_nonneg _ (by omega)) (Int.emod_lt_of_pos _ hm)
      · refine ⟨_, rfl, .inl ⟨_, rfl, _, rfl, _, _, rfl, rfl, hm, ?_⟩⟩
        exact k _ _ (Keep.upd r H _) ⟨i + 1, (a * 48271 + cell + 11) % 2147483647, b, upd_same, by omega, by omega, by omega⟩ (Int.emod_nonneg _ (by omega)) (Int.emod_lt_of_pos _ hm)
end
end KD

/-! math.comb; a dict whose keys are tuples of one truth value and two numbers. -/
namespace EM
open PySem PySem.Spec PyProof.Rows L2
section
variable {X : Cx}
def rComb : List V → Hp → VK → Prop := fun vs H Q => ∃ a b : Int, vs = [.int a, .int b] ∧ 0 ≤ a ∧ 0 ≤ b ∧ a ≤ 9000 ∧ Q (.int (PySem.W.mcComb a b)) H
theorem cr_comb : CallR X (.builtin "math.comb") rComb := by
  rintro pins s σ H vs us Q I r ⟨a, b, rfl, h0, h1, h2, q⟩
  obtain ⟨t, u, rfl⟩ := Vals.int2 r
  exact PySem.W.mc_comb h0 h1 (by omega) (.inr (by omega)) fun _ => ⟨.int _, H, I.tok _, ⟨_, rfl⟩, q⟩
end
/-- the key's leaves -/
abbrev lv (k : Bool × Int × Int) : List Leaf := [.num (if k.1 = true then 1 else 0), .num k.2.1, .num k.2.2]
abbrev Row := (Bool × Int × Int) × Addr × Value
abbrev raw (x : Row) : List Leaf × Addr × Value := (lv x.1, x.2)
abbrev knd (P : Program) (w : World) := tupleKind (leafKind P w)
def InD (P : Program) (w : World) (a : Addr) (xs : List Row) (h : Heap) : Prop :=
  (a == sysModules) = false ∧ ∃ o es ep, h.get? a = some o ∧ o.ExactDict ∧ o.data = .dict es ep ∧ es.toList = (xs.map raw).map (entryOfKey (knd P w)) ∧ ((xs.map raw).map (·.1)).Nodup
def MpO (P : Program) (w : World) (a : Addr) (xs : List Row) : HO := .ext (InD P w a xs)
/-- the keys' tuples stand -/
def KeysIn (H : Hp) (xs : List Row) : Prop := ∀ x ∈ xs, H x.2.1 = some (.tup [.bl x.1.1, .int x.1.2.1, .int x.1.2.2])
theorem KeysIn.same {H H' : Hp} {xs : List Row} (h : KeysIn H xs) (k : ∀ b ys, H b = some (.tup ys) → H' b = some (.tup ys)) : KeysIn H' xs := fun x hx => k _ _ (h x hx)
section
variable {P : Program} {w : World} {H : Hp} {h : Heap} {a q : Addr} {xs : List Row}
theorem obj_of (x : InD P w a xs h) : ObjOk P w H h a (MpO P w a xs) := by
  have x0 := x
  obtain ⟨_, o, es, ep, e, _⟩ := x0
  refine ⟨x, ⟨o, e⟩, ?_⟩
  rintro h1 h2 ⟨y, o, es, ep, e1, r⟩ k
  exact ⟨y, o, es, ep, k _ e1, r⟩
theorem key_is {k : Bool × Int × Int} (ok : HOk P w H h) (e : H q = some (.tup [.bl k.1, .int k.2.1, .int k.2.2])) : (knd P w).is h (lv k) q := by
  obtain ⟨_, its, r, o, h1, h2, n, h3⟩ := (show ObjOk P w H h q (.tup [.bl k.1, .int k.2.1, .int k.2.2]) from ok q _ e)
  refine ⟨o, its.toArray, n, h1, h2, h3, ?_⟩
  rw [List.toList_toArray]
  cases r with
  | cons r1 r =>
    cases r with
    | cons r2 r =>
      cases r with
      | cons r3 r =>
        cases r
        obtain rfl := (show _ = Value.bool k.1 from r1)
        obtain ⟨t2, rfl⟩ := (show ∃ t, _ = Value.int k.2.1 t from r2)
        obtain ⟨t3, rfl⟩ := (show ∃ t, _ = Value.int k.2.2 t from r3)
        exact .cons (decide_eq_true rfl) (.cons (decide_eq_true rfl) (.cons (decide_eq_true rfl) .nil))
theorem in_of (ok : HOk P w H h) (e : H a = some (MpO P w a xs)) (ks : KeysIn H xs) : (a == sysModules) = false ∧ h.DictOfH (knd P w) a (xs.map raw) := by
  obtain ⟨⟨y, o, es, ep, e1, e2, e3, e4, e5⟩, _⟩ := (show ObjOk P w H h a (MpO P w a xs) from ok a _ e)
  refine ⟨y, o, es, ep, e1, e2, e3, e4, fun x hx => ?_, e5⟩
  obtain ⟨z, hz, rfl⟩ := List.mem_map.mp hx
  exact key_is ok (ks z hz)
end
def valM (xs : List Row) (k : Bool × Int × Int) : Option (Addr × Value) := atKey (xs.map raw) (lv k)
section
variable {X : Cx}
/-- what a reading needs: the dict, its keys, the key's tuple -/
def At (X : Cx) (H : Hp) (a q : Addr) (xs : List Row) (k : Bool × Int × Int) : Prop := H a = some (MpO X.prog X.w a xs) ∧ KeysIn H xs ∧ H q = some (.tup [.bl k.1, .int k.2.1, .int k.2.2])
def rNotInM (X : Cx) : V → V → Hp → VK → Prop := fun x y H Q => ∃ a q xs k, x = .ref q ∧ y = .ref a ∧ At X H a q xs k ∧ Q (.bl (!(valM xs k).isSome)) H
theorem op_notInM (hu : X.A.units + 1 < cLine) : OpR X (compareOp .NotIn) (rNotInM X) := by
  rintro pins s σ H x y v u Q I rx ry ⟨a, q, xs, k, rfl, rfl, ⟨e, ks, eq⟩, h⟩
  obtain rfl : v = Value.ref q := rx
  obtain rfl : u = Value.ref a := ry
  obtain ⟨hd, dd⟩ := in_of I.hok e ks
  exact wpAny_notIn_heap (tupleKind_room_in1 hu) (key_is I.hok eq) hd dd ⟨.bl _, H, I.tok _, rfl, h⟩
def tGetM (X : Cx) (td ty : TE) : TE := fun σ H Q => td σ H fun x H1 => ty σ H1 fun y H2 => ∃ a q xs k p v, x = .ref a ∧ y = .ref q ∧ At X H2 a q xs k ∧ valM xs k = some p ∧ RelV v p.2 ∧ Q v H2
variable {o i value : Expr} {pos pos' : Pos} {td ty tv : TE}
theorem pe_getM (hu : X.A.units + 1 < cLine) (ho : PE X o td) (hi : PE X i ty) (hs : NoSl i) : PE X (.Subscript o i pos) (tGetM X td ty) := by
  refine ⟨fun pins s σ H Q I h => ?_⟩
  refine subD_of PySem.F.slot_dict_getitem.lookup hs (thn (ho.run pins s σ H _ I h) fun u s1 ⟨x, H1, I1, rx, q1⟩ => thn (hi.run pins s1 σ H1 _ I1 q1) fun iv s2 ⟨y, H2, I2, ry, a, q, xs, k, p, v, ex, ey, ⟨e, ks, eq⟩, hp, rv, q2⟩ => ?_)
  subst ex ey
  obtain rfl : u = Value.ref a := rx
  obtain rfl : iv = Value.ref q := ry
  obtain ⟨_, dd⟩ := in_of I2.hok e ks
  exact ⟨dd.typeIs, wpAny_getItem_heap (tupleKind_room_in1 hu) (key_is I2.hok eq) dd hp ⟨v, H2, I2.tok _, rv, q2⟩⟩
theorem lv_inj {a b : Bool × Int × Int} (h : lv a = lv b) : a = b := by
  obtain ⟨f, i, j⟩ := a
  obtain ⟨g, k, l⟩ := b
  injection h with h1 h
  injection h with h2 h
  injection h with h3 _
  injection h1 with h1
  injection h2 with h2
  injection h3 with h3
  dsimp only at h1 h2 h3
  subst h2 h3
  cases f <;> cases g <;> first | rfl | (exfalso; revert h1; simp)
/-- the rows behind d[k] = r -/
def putM (xs : List Row) (k : Bool × Int × Int) (q : Addr) (r : Value) : List Row := if (valM xs k).isSome = true then xs.map (fun x => if x.1 = k then (x.1, x.2.1, r) else x) else xs ++ [(k, q, r)]
theorem stored_put {xs : List Row} {k : Bool × Int × Int} {q : Addr} {r : Value} : storedH (xs.map raw) (lv k) q r = (putM xs k q r).map raw := by
  unfold storedH putM
  by_cases h : (valM xs k).isSome = true
  · rw [if_pos h, if_pos (show (atKey (xs.map raw) (lv k)).isSome = true from h), List.map_map, List.map_map]
    refine List.map_congr_left fun x _ => ?_
    show (if lv x.1 = lv k then (lv x.1, x.2.1, r) else raw x) = raw (if x.1 = k then (x.1, x.2.1, r) else x)
    by_cases e : x.1 = k
    · rw [if_pos (by rw [e]), if_pos e]
    · rw [if_neg (fun z => e (lv_inj z)), if_neg e]
  · rw [if_neg h, if_neg (show ¬ (atKey (xs.map raw) (lv k)).isSome = true from h), List.map_append]
    rfl
/-- behind d[k] = v -/
def sPutM (X : Cx) (td ty tv : TE) : TS := fun D σ H => tv σ H fun v H1 => td σ H1 fun x H2 => ty σ H2 fun y H3 => ∃ a q xs k, x = .ref a ∧ y = .ref q ∧ At X H3 a q xs k ∧ xs.length ≤ 1000000 ∧
  ∀ r, RelV v r → D.nx σ (upd H3 a (MpO X.prog X.w a (putM xs k q r)))
theorem ps_putM (hu : X.A.units + 1 < cLine) (ho : PE X o td) (hi : PE X i ty) (hv : PE X value tv) (hs : swapsWith value (some (.Subscript o i pos')) pos.line X.env = pure false) :
    PS X (.Assign [.Subscript o i pos'] value pos) (sPutM X td ty tv) := by
  refine ⟨fun pins s σ H D I h => ?_⟩
  refine wpAny_Assign_Subscript (thn (hv.run pins s σ H _ I h) fun r s1 ⟨v, H1, I1, rv, q1⟩ => thn (ho.run pins s1 σ H1 _ I1 q1) fun u s2 ⟨x, H2, I2, rx, q2⟩ => thn (hi.run pins s2 σ H2 _ I2 q2) fun iv s3 ⟨y, H3, I3, ry, a, q, xs, k, ex, ey, ⟨e, ks, eq⟩, hl, q3⟩ => ?_) hs
  subst ex ey
  obtain rfl : u = Value.ref a := rx
  obtain rfl : iv = Value.ref q := ry
  obtain ⟨hd, dd⟩ := in_of I3.hok e ks
  have hz : (xs.map raw).length ≤ sizeLine := by rw [List.length_map]; exact Nat.le_trans hl (by decide)
  refine wpAny_setItem_heap (hsz := hz) (tupleKind_room_in1 hu) (key_is I3.hok eq) dd fun h' dd' hsb => ⟨σ, _, ?_, q3 r rv⟩
  rw [stored_put] at dd'
  obtain ⟨ob, es, ep, e1, e2, e3, e4, _, e5⟩ := dd'
  exact d_write I3 (by rw [e]; exact True.intro) hsb ⟨ob, e1⟩ (obj_of ⟨hd, ob, es, ep, e1, e2, e3, e4, e5⟩)
/-- {}, to be such a dict -/
def tNewM (X : Cx) : TE := fun _ H Q => ∀ p, H p = none → Q (.ref p) (upd H p (MpO X.prog X.w p []))
theorem pe_newM : PE X (.Dict [] [] pos) (tNewM X) := ⟨fun pins s σ H Q I h =>
  wpAny_Dict_empty ⟨.ref s.heap.objs.size, _, I.laid (a := s.heap.objs.size) (o := MpO X.prog X.w s.heap.objs.size []) (t' := s.toks) (fun _ _ q => Heap.get?_push_of_some _ q) (Nat.le_refl _)
    (obj_of ⟨beq_eq_false_iff_ne.mpr (Ne.symm (Nat.ne_of_lt I.big)), _, #[], 0, Heap.get?_push_size _ rfl, ⟨rfl, rfl, rfl⟩, rfl, rfl, List.nodup_nil⟩), rfl, h _ (I.hok.fresh (Nat.le_refl _))⟩⟩
end
end EM

/-! Numbers of ways, by tables. -/
namespace EM
/-- the sum of f 0, .., f (n - 1) -/
def sm (f : Nat → Nat) : Nat → Nat
  | 0 => 0
  | n + 1 => sm f n + f n
def gt (t : List (List Nat)) (a b : Nat) : Nat := (t.getD a []).getD b 0
def cbT : List (List Nat) := [[1, 0, 0, 0, 0, 0, 0, 0, 0, 0, 0, 0, 0], [1, 1, 0, 0, 0, 0, 0, 0, 0, 0, 0, 0, 0], [1, 2, 1, 0, 0, 0, 0, 0, 0, 0, 0, 0, 0], [1, 3, 3, 1, 0, 0, 0, 0, 0, 0, 0, 0, 0], [1, 4, 6, 4, 1, 0, 0, 0, 0, 0, 0, 0, 0], [1, 5, 10, 10, 5, 1, 0, 0, 0, 0, 0, 0, 0], [1, 6, 15, 20, 15, 6, 1, 0, 0, 0, 0, 0, 0], [1, 7, 21, 35, 35, 21, 7, 1, 0, 0, 0, 0, 0], [1, 8, 28, 56, 70, 56, 28, 8, 1, 0, 0, 0, 0], [1, 9, 36, 84, 126, 126, 84, 36, 9, 1, 0, 0, 0], [1, 10, 45, 120, 210, 252, 210, 120, 45, 10, 1, 0, 0], [1, 11, 55, 165, 330, 462, 462, 330, 165, 55, 11, 1, 0], [1, 12, 66, 220, 495, 792, 924, 792, 495, 220, 66, 12, 1]]
def tT : List (List Nat) := [[1, 1, 3, 7, 15, 31, 63, 127, 255, 511, 1023, 2047, 4095], [1, 1, 5, 19, 65, 211, 665, 2059, 6305, 19171, 58025, 175099, 527345], [1, 1, 9, 55, 285, 1351, 6069, 26335, 111645, 465751, 1921029, 7859215, 31964205], [1, 1, 17, 163, 1229, 8131, 49637, 287323, 1602989, 8710291, 46423157, 243875083, 1267233149], [1, 1, 33, 487, 5205, 46711, 376173, 2817487, 20051925, 137489671, 916794813, 5984501887, 38425231845], [1, 1, 65, 1459, 21725, 259411, 2700725, 25635499, 227864765, 1929604771, 15750886085, 124965752539, 969524238605], [1, 1, 129, 4375, 89685, 1405351, 18639789, 220869055, 2414533845, 24861741751, 244542548349, 2320862372335, 21409339247205], [1, 1, 257, 13123, 367229, 7474531, 124912277, 1826652283, 24273860189, 300328695091, 3517270140197, 39451501824043, 427478538581549], [1, 1, 513, 39367, 1494645, 39207511, 818512653, 14639793967, 234320600565, 3451262045671, 47674042291293, 626007819039967, 7891805197415685], [1, 1, 1025, 118099, 6056285, 203508211, 5271215285, 114486081739, 2190805905725, 38125037589571, 616458814338245, 9403972620816379, 136868389738317965], [1, 1, 2049, 354295, 24459285, 1047817351, 33488547309, 878047033375, 19966523908245, 407993560665751, 7673790939041469, 135138208056543055, 2256319264719834405], [1, 1, 4097, 1062883, 98541629, 5361372931, 210482146517, 6629833350043, 178245128309789, 4254589923751891, 92595557822516837, 1872456617879561803, 35673297666824986349], [1, 1, 8193, 3188647, 396284085, 27299552311, 1311632592333, 49430627784847, 1564524843377205, 43430995839209671, 1088839901305106973, 25169517092574256447, 544675742038971795525]]
def tF : List (List Nat) := [[0, 0, 0, 0, 0, 0, 0, 0, 0, 0, 0, 0, 0], [1, 2, 4, 8, 16, 32, 64, 128, 256, 512, 1024, 2048, 4096], [1, 4, 14, 46, 146, 454, 1394, 4246, 12866, 38854, 117074, 352246, 1058786], [1, 8, 46, 230, 1066, 4718, 20266, 85310, 354106, 1455278, 5938186, 24104990, 97478746], [1, 16, 146, 1066, 6902, 41506, 237686, 1315666, 7107302, 37712866, 197451926, 1023358066, 5262831302], [1, 32, 454, 4718, 41506, 329462, 2441314, 17234438, 117437746, 779305142, 5067707074, 32440729958, 205120773586], [1, 64, 1394, 20266, 237686, 2441314, 22934774, 202229266, 1701740006, 13821281314, 109214866454, 844558486066, 6419351203526], [1, 128, 4246, 85310, 1315666, 17234438, 202229266, 2193664790, 22447207906, 219680806598, 2076319823986, 19088476874870, 171615294959746], [1, 256, 12866, 354106, 7107302, 117437746, 1701740006, 22447207906, 276054834902, 3216941445106, 35934231683846, 388027036757506, 4076344795442102], [1, 512, 38854, 1455278, 37712866, 779305142, 13821281314, 219680806598, 3216941445106, 44222780245622, 578333776748674, 7265797378375718, 88340967898764946], [1, 1024, 117074, 5938186, 197451926, 5067707074, 109214866454, 2076319823986, 35934231683846, 578333776748674, 8787513806478134, 127464417117501586, 1779861060057044966], [1, 2048, 352246, 24104990, 1023358066, 32440729958, 844558486066, 19088476874870, 388027036757506, 7265797378375718, 127464417117501586, 2121181056663291350, 33800841048945424546], [1, 4096, 1058786, 97478746, 5262831302, 205120773586, 6419351203526, 171615294959746, 4076344795442102, 88340967898764946, 1779861060057044966, 33800841048945424546, 611373265185174628502]]
def oT : List (List Nat) := [[1, 0, 0, 0, 0, 0, 0, 0, 0, 0, 0, 0, 0], [0, 1, 0, 0, 0, 0, 0, 0, 0, 0, 0, 0, 0], [0, 1, 2, 0, 0, 0, 0, 0, 0, 0, 0, 0, 0], [0, 1, 6, 6, 0, 0, 0, 0, 0, 0, 0, 0, 0], [0, 1, 14, 36, 24, 0, 0, 0, 0, 0, 0, 0, 0], [0, 1, 30, 150, 240, 120, 0, 0, 0, 0, 0, 0, 0], [0, 1, 62, 540, 1560, 1800, 720, 0, 0, 0, 0, 0, 0], [0, 1, 126, 1806, 8400, 16800, 15120, 5040, 0, 0, 0, 0, 0], [0, 1, 254, 5796, 40824, 126000, 191520, 141120, 40320, 0, 0, 0, 0], [0, 1, 510, 18150, 186480, 834120, 1905120, 2328480, 1451520, 362880, 0, 0, 0], [0, 1, 1022, 55980, 818520, 5103000, 16435440, 29635200, 30240000, 16329600, 3628800, 0, 0], [0, 1, 2046, 171006, 3498000, 29607600, 129230640, 322494480, 479001600, 419126400, 199584000, 39916800, 0], [0, 1, 4094, 519156, 14676024, 165528000, 953029440, 3162075840, 6411968640, 8083152000, 6187104000, 2634508800, 479001600]]
def wT : List (List Nat) := [[0, 0, 0, 0, 0, 0, 0, 0, 0, 0, 0, 0, 0], [1, 1, 1, 1, 1, 1, 1, 1, 1, 1, 1, 1, 1], [1, 3, 7, 15, 31, 63, 127, 255, 511, 1023, 2047, 4095, 8191], [1, 7, 31, 115, 391, 1267, 3991, 12355, 37831, 115027, 348151, 1050595, 3164071], [1, 15, 115, 675, 3451, 16275, 72955, 316275, 1340251, 5590035, 23054395, 94314675, 383578651], [1, 31, 391, 3451, 25231, 164731, 999391, 5767051, 32122831, 174397531, 929043391, 4879252651, 25349936431], [1, 63, 1267, 16275, 164731, 1441923, 11467387, 85314915, 604907611, 4138663683, 27561477307, 179770837155, 1153715889691], [1, 127, 3991, 72955, 999391, 11467387, 116914351, 1096832395, 9682617631, 81653389147, 664787648911, 5265635313835, 40808731724671], [1, 255, 12355, 316275, 5767051, 85314915, 1096832395, 12764590275, 138027417451, 1411532175075, 13822841561035, 130806563235075, 1204304320305451], [1, 511, 37831, 1340251, 32122831, 604907611, 9682617631, 138027417451, 1805409270031, 22111390122811, 257220473522431, 2872040475136651, 31022987790661231], [1, 1023, 115027, 5590035, 174397531, 4138663683, 81653389147, 1411532175075, 22111390122811, 321113303226243, 4393756903239067, 57317980108103715, 719270531725399291], [1, 2047, 348151, 23054395, 929043391, 27561477307, 664787648911, 13822841561035, 257220473522431, 4393756903239067, 70146437009397871, 1060590528331645675, 15338554965273810271], [1, 4095, 1050595, 94314675, 4879252651, 179770837155, 5265635313835, 130806563235075, 2872040475136651, 57317980108103715, 1060590528331645675, 18462286083671614275, 305686632592587314251]]
def cb (a b : Nat) : Nat := gt cbT a b
/-- ways on behind a layer -/
def th (f : Bool) (o c : Nat) : Nat := if f = true then gt tT o c else gt tF o c
def oo (n p : Nat) : Nat := gt oT n p
def ww (s m : Nat) : Nat := gt wT s m
def thT (f : Bool) (o c j : Nat) : Nat := cb c (j + 1) * th (!f) (c - (j + 1)) o
def wwT (s m j : Nat) : Nat := oo s (j + 1) * (oo m (j + 1) + oo m j)
/-- effects that begin with a line, later ones of its sort being so many -/
def bwT (n c l j : Nat) : Nat := cb l j * th true (n - 1 - j) c
def bw (n c l : Nat) : Nat := sm (bwT n c l) (l + 1)
def bl (r c i : Nat) : Nat := if i < r then bw r c (r - 1 - i) else bw c r (c - 1 - (i - r))
def cnt (r c : Nat) : Nat := 1 + sm (bl r c) (r + c)
def gg1 (a b s j : Nat) : Nat := cb a s * cb b j * ww s j
def gg (a b i : Nat) : Nat := sm (gg1 a b (i + 1)) b
def gT (a b : Nat) : Nat := sm (gg a b) a
theorem cb_ok : ∀ a : Fin 13, ∀ b : Fin 13, b.val ≤ a.val → PySem.W.mcComb (a.val : Int) (b.val : Int) = ((cb a.val b.val : Nat) : Int) := by decide +kernel
theorem cb_lt : ∀ a : Fin 13, ∀ b : Fin 13, cb a.val b.val < 1000 := by decide +kernel
theorem cb_0 : ∀ a : Fin 13, cb a.val 0 = 1 := by decide +kernel
theorem cb_step : ∀ a : Fin 13, ∀ b : Fin 12, b.val < a.val → ((cb a.val b.val : Nat) : Int) * ((a.val : Int) - (b.val : Int)) / ((b.val : Int) + 1) = ((cb a.val (b.val + 1) : Nat) : Int) := by decide +kernel
theorem th_0 : ∀ c : Fin 13, th false 0 c.val = 0 := by decide +kernel
theorem th_step : ∀ f : Bool, ∀ o : Fin 13, ∀ c : Fin 13, ¬ (o.val = 0 ∧ f = false) → th f o.val c.val = 1 + sm (thT f o.val c.val) c.val := by decide +kernel
theorem oo_00 : oo 0 0 = 1 := by decide +kernel
theorem oo_0s : ∀ p : Fin 12, oo 0 (p.val + 1) = 0 := by decide +kernel
theorem oo_s0 : ∀ n : Fin 12, oo (n.val + 1) 0 = 0 := by decide +kernel
theorem oo_ss : ∀ n : Fin 12, ∀ p : Fin 12, oo (n.val + 1) (p.val + 1) = (p.val + 1) * (oo n.val (p.val + 1) + oo n.val p.val) := by decide +kernel
theorem oo_lt : ∀ n : Fin 13, ∀ p : Fin 13, oo n.val p.val < 2 ^ 60 := by decide +kernel
theorem ww_ok : ∀ s : Fin 13, ∀ m : Fin 13, ww s.val m.val = sm (wwT s.val m.val) s.val := by decide +kernel
theorem all_ok : ∀ r : Fin 12, ∀ c : Fin 12, cnt (r.val + 1) (c.val + 1) = 1 + gT (r.val + 1) (c.val + 1) + gT (c.val + 1) (r.val + 1) := by decide +kernel
theorem cnt11 : cnt 1 1 = 3 := by decide +kernel
theorem cnt22 : cnt 2 2 = 27 := by decide +kernel
end EM

/-! Boards; the normal form of one line. -/
namespace KD
open PySem L2 TL EM
theorem same_new {H : Hp} {p : Addr} (h : H p = none) (o : HO) : Same H (upd H p o) := fun b u q => by rw [upd_ne (ne_of_none q h)]; exact q
def spIsInt : Sp := fun vs H Q _ => ∃ i : Int, vs = [.int i] ∧ Q (.bl true) H
def spBoard : Sp := fun vs H Q _ => ∃ r c : Int, vs = [.int r, .int c] ∧ 1 ≤ r ∧ r ≤ 20 ∧ 1 ≤ c ∧ c ≤ 20 ∧ ∀ H', Same H H' → Q .non H'
/-- lines, one line alone: the list of one list of it -/
def spLay1 (K : PySem.W.Frag) : Sp := fun vs H Q _ => ∃ (r x : Int) (a : Addr), vs = [.int r, .ref a] ∧ SqL K H a [.int x] ∧ ∀ H' p q, Same H H' → H p = none → H' p = some (.lst [.ref q]) → H' q = some (.lst [.int x]) → Q (.ref p) H'
def spNorm1 (K : PySem.W.Frag) : Sp := fun vs H Q _ => ∃ (r c x : Int) (a : Addr), vs = [.int r, .int c, .ref a] ∧ 1 ≤ r ∧ 1 ≤ c ∧ SqL K H a [.int x] ∧ ∀ H' p, Same H H' → H' p = some (.tup [.int x]) → Q (.ref p) H'
section
variable {P : Program} {w : World} {K : PySem.W.Frag} {mg : Str → Option Value} {base : Heap}
theorem scIsInt : FnScope ["value"] ["value"] (defScope S_is_integer) := ⟨rfl, rfl, rfl, by decide +kernel, rfl, by decide +kernel, by decide +kernel⟩
theorem ok_isInt {f : Addr} {fd : FuncData} (F : Fun K "is_integer" "is_integer" S_is_integer f fd) (T : Blt mg) : FnOk P w K mg base CX0 1 f fd ["value"] spIsInt := by
  refine F.ok scIsInt (fun vs H Q E h => ?_) (fun cdv A outer s0 H vs Q E hr h => ?_)
  · obtain ⟨i, rfl, _⟩ := h
    rfl
  obtain ⟨i, rfl, k⟩ := h
  refine ⟨_, pss_one (ps_ret (pe_and (pe_callB call_isi (by rfl) T.isi (by decide +kernel) (pa_cons (pv 0) (pa_cons (pe_bltn (v := .ty "int") (by rfl) T.int (by decide +kernel) rfl) pa_nil)))
    (pe_one (pe_not (pe_callB call_isi (by rfl) T.isi (by decide +kernel) (pa_cons (pv 0) (pa_cons (pe_bltn (v := .ty "bool") (by rfl) T.bool (by decide +kernel) rfl) pa_nil))))))), ?_⟩
  refine ⟨_, rfl, _, _, _, _, true, rfl, .ty "int", .base (.int _), kit_ty (by decide +kernel), true, rfl, iteT ?_⟩
  exact ⟨_, rfl, _, _, _, _, false, rfl, .ty "bool", .base (.int _), kit_ty (by decide +kernel), _, rfl, k⟩
abbrev cbN : List Str := ["rows", "columns", "value"]
theorem scBoard : FnScope cbN ["rows", "columns"] (defScope S_check_board) := ⟨rfl, rfl, rfl, by decide +kernel, rfl, by decide +kernel, by decide +kernel⟩
theorem ok_board {f fI : Addr} {fd fdI : FuncData} (F : Fun K "check_board" "check_board" S_check_board f fd) (mM : ∃ t, mg "MOST_LINES" = some (.int 20 t))
    (GI : FnOk P w K mg base CX0 1 fI fdI ["value"] spIsInt) (mI : mg "is_integer" = some (.ref fI)) (kI : PySem.W.keepIn K (.ref fI) = true) (bI : Binds K fdI ["value"] []) : FnOk P w K mg base CX0 2 f fd ["rows", "columns"] spBoard := by
  refine F.ok scBoard (fun vs H Q E h => ?_) (fun cdv A outer s0 H vs Q E hr h => ?_)
  · obtain ⟨r, c, rfl, _⟩ := h
    rfl
  obtain ⟨r, c, rfl, r1, r2, c1, c2, k⟩ := h
  obtain ⟨t, mM⟩ := mM
  refine ⟨_, pss_one (ps_for PassesOwn.never rfl (pi_tup (pe_tup (pa_cons (pv 0) (pa_cons (pv 1) pa_nil)))) (pg_name (i := 2) scBoard.nd rfl (Or.inl rfl))
    (pss_one (ps_if (PW.pt (pw_or (pt_not (pt_val (pe_call GI hr rfl mI kI bI .nil pass0 (pa_cons (pv 2) pa_nil)))) (pw_or1 (pt_not (pt_chain op_le op_le pe_int (pv 2) (pe_glob (v := .int 20) rfl mM ⟨_, rfl⟩)))))) pss_never pss_nil))), ?_⟩
  refine ⟨_, rfl, _, rfl, (by show 2 ≤ sizeLine; decide), fun p hp => ⟨p, rfl, ⟨_, SqT.of upd_same⟩, ?_⟩⟩
  have s1 := same_new hp (.tup [.int r, .int c])
  have u1 : (upd H p (.tup [.int r, .int c])) p = some (.tup [.int r, .int c]) := upd_same
  generalize upd H p (.tup [.int r, .int c]) = H1 at s1 u1 ⊢
  refine for_tup (a := p) (xs := [.int r, .int c]) (fun i σ H' => ∃ v, σ = [some (.int r), some (.int c), v] ∧ H' = H1) ⟨none, rfl, rfl⟩ (fun i σ H' _ ⟨v, _, e⟩ => by rw [e]; exact SqT.of u1) ?_ ?_
  · rintro i x σ H' hx ⟨v, rfl, rfl⟩
    obtain ⟨j, rfl, j1, j2⟩ : ∃ j : Int, x = .int j ∧ 1 ≤ j ∧ j ≤ 20 := by
      match i, hx with
      | 0, hx => exact ⟨r, (Option.some.inj hx).symm, r1, r2⟩
      | 1, hx => exact ⟨c, (Option.some.inj hx).symm, c1, c2⟩
    refine ⟨_, rfl, j, rfl, _, rfl, iteF ?_⟩
    refine ⟨_, rfl, _, _, rfl, rfl, _, rfl, ?_⟩
    rw [decide_eq_true j1]
    refine iteT ?_
    refine ⟨_, _, rfl, rfl, _, rfl, ?_⟩
    rw [decide_eq_true j2]
    exact iteF ⟨_, rfl, rfl⟩
  · rintro σ H' ⟨v, rfl, rfl⟩
    exact k _ s1
abbrev laN : List Str := ["rows", "lines", "found", "line"]
theorem scLay : FnScope laN ["rows", "lines"] (defScope S_layers_of) := ⟨rfl, rfl, rfl, by decide +kernel, rfl, by decide +kernel, by decide +kernel⟩
theorem ok_lay {f : Addr} {fd : FuncData} (F : Fun K "layers_of" "layers_of" S_layers_of f fd) : FnOk P w K mg base CX0 1 f fd ["rows", "lines"] (spLay1 K) := by
  refine F.ok scLay (fun vs H Q E h => ?_) (fun cdv A outer s0 H vs Q E hr h => ?_)
  · obtain ⟨r, x, a, rfl, _⟩ := h
    rfl
  obtain ⟨r, x, a, rfl, hA, k⟩ := h
  refine ⟨_, pss_cons (ps_set (i := 2) scLay.nd rfl (Or.inl rfl) (pe_lst pa_nil))
    (pss_cons (ps_for PassesOwn.never rfl (pi_list (pv 1)) (pg_name (i := 3) scLay.nd rfl (Or.inl rfl))
      (pss_one (ps_if (PW.pt (pw_and (pt_truth (pv 2) (by intro _; rfl)) (pw_and1 (pt_cmpR op_eq (pe_cmpR op_lt (pe_ix ix_list (pe_ix ix_list (pv 2) (pe_un un_neg pe_int) (fun _ _ => rfl)) pe_int (fun _ _ => rfl)) (pv 0) (nomark _)) (pe_cmpR op_lt (pv 3) (pv 0) (nomark _)) (nomark _)))))
        pss_never (pss_one (ps_expr (pe_bm PySem.F.plainAttrs_list PySem.F.slot_list_append PySem.F.type_list_append mt_append (pv 2) (pa_cons (pe_lst (pa_cons (pv 3) pa_nil)) pa_nil)))))))
    (pss_one (ps_ret (pv 2)))), ?_⟩
  refine ⟨Nat.zero_le _, fun p hp => ?_⟩
  have s1 := same_new hp (.lst [])
  have u1 : (upd H p (.lst [])) p = some (.lst []) := upd_same
  generalize upd H p (.lst []) = H1 at s1 u1 ⊢
  refine ⟨_, rfl, a, rfl, ⟨_, s1.seq hA⟩, ?_⟩
  refine for_list (a := a) (xs := [.int x]) (fun i σ H' => ∃ v, σ = [some (.int r), some (.ref a), some (.ref p), v] ∧ Same H H' ∧ ((i = 0 ∧ H' p = some (.lst [])) ∨ (i = 1 ∧ ∃ q, H' p = some (.lst [.ref q]) ∧ H' q = some (.lst [.int x])))) ⟨none, rfl, s1, .inl ⟨rfl, u1⟩⟩ (fun i σ H' _ ⟨v, _, s, _⟩ => s.seq hA) ?_ ?_
  · rintro i y σ H' hy ⟨v, rfl, s, hc⟩
    match i, hy with
    | 0, hy =>
      obtain rfl := Option.some.inj hy
      have hp' : H' p = some (.lst []) := by
        rcases hc with ⟨_, h⟩ | ⟨z, _⟩
        · exact h
        · cases z
      refine ⟨_, rfl, false, .inl ⟨_, SqL.of hp', rfl⟩, iteF ?_⟩
      refine ⟨_, rfl, .inl ⟨rfl, _, SqL.of hp'⟩, _, rfl, (by show 1 ≤ sizeLine; decide), fun q hq => ?_⟩
      have ne : p ≠ q := ne_of_none hp' hq
      refine ⟨p, _, _, rfl, rfl, (by rw [upd_ne ne]; exact hp'), (by show 0 < sizeLine; decide), ?_⟩
      refine ⟨_, rfl, fun b o h => ?_, .inr ⟨rfl, q, upd_same, ?_⟩⟩
      · have hb : b ≠ p := ne_of_none h hp
        rw [upd_ne hb, upd_ne (ne_of_none (s b o h) hq)]
        exact s b o h
      · rw [upd_ne ne.symm]
        exact upd_same
  · rintro σ H' ⟨v, rfl, s, hc⟩
    rcases hc with ⟨z, _⟩ | ⟨_, q, h1, h2⟩
    · cases z
    · exact ⟨_, rfl, k _ _ _ s hp h1 h2⟩
end
end KD

/-! The normal form of one line. -/
namespace KD
open PySem L2 TL EM
section
variable {P : Program} {w : World} {K : PySem.W.Frag} {mg : Str → Option Value} {base : Heap}
abbrev nfN : List Str := ["rows", "columns", "lines", "seen", "kept", "rows_later", "columns_later", "line", "shows", "layer"]
theorem scNf : FnScope nfN ["rows", "columns", "lines"] (defScope S_normal_form) := ⟨rfl, rfl, rfl, by decide +kernel, rfl, by decide +kernel, by decide +kernel⟩
theorem ok_norm {f fL : Addr} {fd fdL : FuncData} (F : Fun K "normal_form" "normal_form" S_normal_form f fd) (T : Blt mg) (hso : mg "sorted" = none)
    (GL : FnOk P w K mg base CX0 1 fL fdL ["rows", "lines"] (spLay1 K)) (mL : mg "layers_of" = some (.ref fL)) (kL : PySem.W.keepIn K (.ref fL) = true) (bL : Binds K fdL ["rows", "lines"] []) : FnOk P w K mg base CX0 2 f fd ["rows", "columns", "lines"] (spNorm1 K) := by
  refine F.ok scNf (fun vs H Q E h => ?_) (fun cdv A outer s0 H vs Q E hr h => ?_)
  · obtain ⟨r, c, x, a, rfl, _⟩ := h
    rfl
  obtain ⟨r, c, x, a, rfl, r1, c1, hA, k⟩ := h
  have hu := hu_of hr
  refine ⟨_, pss_cons (ps_set (i := 3) scNf.nd rfl (Or.inl rfl) pe_dnewK)
    (pss_cons (ps_set (i := 4) scNf.nd rfl (Or.inl rfl) (pe_lst pa_nil))
    (pss_cons (ps_asg2 pe_int (pg_name (i := 5) scNf.nd rfl (Or.inl rfl)) (pg_name (i := 6) scNf.nd rfl (Or.inl rfl)))
    (pss_cons (ps_for PassesOwn.never rfl (pi_list (pe_revL (pv 2))) (pg_name (i := 7) scNf.nd rfl (Or.inl rfl))
      (pss_one (ps_if (pt_cmp (pc_dnotin hu (pv 7) (pv 3)))
        (pss_cons (ps_dput hu (pv 3) (pv 7) pe_bl rfl)
        (pss_cons (ps_if (pt_cmpR op_lt (pv 7) (pv 0) (nomark _))
          (pss_cons (ps_aug (i := 5) scNf.nd rfl (Or.inl rfl) pe_int iop_add) (pss_one (ps_set (i := 8) scNf.nd rfl (Or.inl rfl) (pe_cmpR op_lt (pv 6) (pv 1) (nomark _)))))
          (pss_cons (ps_aug (i := 6) scNf.nd rfl (Or.inl rfl) pe_int iop_add) (pss_one (ps_set (i := 8) scNf.nd rfl (Or.inl rfl) (pe_cmpR op_lt (pv 5) (pv 0) (nomark _))))))
        (pss_one (ps_if (pt_val (pv 8)) (pss_one (ps_expr (pe_bm PySem.F.plainAttrs_list PySem.F.slot_list_append PySem.F.type_list_append mt_append (pv 4) (pa_cons (pv 7) pa_nil)))) pss_nil)))) pss_nil)))
    (pss_one (ps_ret (pe_callTy call_tuple_of (by rfl) T.tup (by decide +kernel) (pa_cons
      (pe_lc2 (own := [("layer", 9), ("line", 7)]) (g := gName 9) (g1 := gName 7) (vs1 := [7]) (wi1 := iList K (tCB (rSorted K) (tCons (tVar 9) tNil))) rfl scNf.nd (pi_list (pe_call GL (hr.mono (by decide)) rfl mL kL bL .nil pass0 (pa_cons (pv 0) (pa_cons (pe_revL (pv 4)) pa_nil))))
        (blkOk_by (own := [("layer", 9), ("line", 7)]) (N := nfN) (sc := defScope S_normal_form) (by decide +kernel)) (by decide) (fun _ _ _ _ _ => pg_name (i := 9) scNf.nd rfl (Or.inl rfl)) (fun _ _ _ _ _ => pts_nil)
        (fun _ _ _ _ _ => pi_list (pe_callB (r := rSorted K) cr_sorted (by rfl) hso (by decide +kernel) (pa_cons (pv 9) pa_nil))) (fun _ _ _ _ _ => pg_name (i := 7) scNf.nd rfl (Or.inl rfl)) (fun _ _ _ _ _ => pts_nil)
        (fun _ _ _ _ _ => pv 7)) pa_nil))))))), ?_⟩
  refine fun d hd => ⟨Nat.zero_le _, fun p hp => ?_⟩
  have np : p ≠ d := ne_of_none upd_same hp |>.symm
  have s1 : Same H (upd (upd H d (.dK [])) p (.lst [])) := (same_new hd _).trans (same_new hp _)
  have u1 : (upd (upd H d (.dK [])) p (.lst [])) d = some (.dK []) := by rw [upd_ne np.symm]; exact upd_same
  have u2 : (upd (upd H d (.dK [])) p (.lst [])) p = some (.lst []) := upd_same
  have f2 : H p = none := (same_new hd _).free hp
  generalize upd (upd H d (.dK [])) p (.lst []) = H1 at s1 u1 u2 ⊢
  refine ⟨_, rfl, a, _, rfl, s1.seq hA, fun q hq => ?_⟩
  have s2 := s1.trans (same_new hq (.lst [.int x]))
  have v1 : (upd H1 q (.lst [.int x])) d = some (.dK []) := by rw [upd_ne (ne_of_none u1 hq)]; exact u1
  have v2 : (upd H1 q (.lst [.int x])) p = some (.lst []) := by rw [upd_ne (ne_of_none u2 hq)]; exact u2
  have v3 : (upd H1 q (.lst [.int x])) q = some (.lst [.int x]) := upd_same
  show ∃ b, V.ref q = V.ref b ∧ _
  generalize e2 : upd H1 q (.lst [V.int x].reverse) = H2
  obtain rfl : upd H1 q (.lst [.int x]) = H2 := e2
  generalize upd H1 q (.lst [.int x]) = H2 at s2 v1 v2 v3 ⊢
  refine ⟨q, rfl, ⟨_, SqL.of v3⟩, ?_⟩
  refine for_list (a := q) (xs := [.int x]) (fun i σ H' => ∃ b1 b2 v7 v8, σ = [some (.int r), some (.int c), some (.ref a), some (.ref d), some (.ref p), some b1, some b2, v7, v8, none] ∧ Same H H' ∧ H' q = some (.lst [.int x]) ∧
      ((i = 0 ∧ b1 = .int 0 ∧ b2 = .int 0 ∧ H' d = some (.dK []) ∧ H' p = some (.lst [])) ∨ (i = 1 ∧ H' p = some (.lst [.int x])))) ⟨_, _, none, none, rfl, s2, v3, .inl ⟨rfl, rfl, rfl, v1, v2⟩⟩ (fun i σ H' _ ⟨_, _, _, _, _, _, h, _⟩ => SqL.of h) ?_ ?_
  · rintro i y σ H' hy ⟨b1, b2, v7, v8, rfl, s, hq', hc⟩
    match i, hy with
    | 0, hy =>
      obtain rfl := Option.some.inj hy
      obtain ⟨rfl, rfl, hd', hp'⟩ : b1 = .int 0 ∧ b2 = .int 0 ∧ H' d = some (.dK []) ∧ H' p = some (.lst []) := by
        rcases hc with ⟨_, h⟩ | ⟨z, _⟩
        · exact h
        · cases z
      refine ⟨_, rfl, _, rfl, d, _, rfl, DGet.k (k := Sum.inl x) hd', _, rfl, ?_⟩
      show if (!(valV ([] : List (Key × V)) (Sum.inl x)).isSome) = true then _ else _
      refine iteT ?_
      refine ⟨_, rfl, _, rfl, d, _, rfl, DPut.k (k := Sum.inl x) hd' (by decide), ?_⟩
      have ndp : d ≠ p := ne_of hd' hp' (by intro z; cases z)
      have nq : q ≠ d := ne_of hq' hd' (by intro z; cases z)
      have hD : H d = none := hd
      have s3 : Same H (upd H' d (.dK (putK [] (Sum.inl x) (.bl true)))) := fun b o h => by rw [upd_ne (ne_of_none h hd)]; exact s b o h
      have hq3 : (upd H' d (.dK (putK [] (Sum.inl x) (.bl true)))) q = some (.lst [.int x]) := by rw [upd_ne nq]; exact hq'
      have hp3 : (upd H' d (.dK (putK [] (Sum.inl x) (.bl true)))) p = some (.lst []) := by rw [upd_ne ndp.symm]; exact hp'
      generalize upd H' d (.dK (putK [] (Sum.inl x) (.bl true))) = H3 at s3 hq3 hp3 ⊢
      have nqp : q ≠ p := fun e => by rw [e, hp3] at hq3; cases hq3
      have fin : ∀ b1 b2 v7 v8, (fun σ H' => ∃ b1 b2 v7 v8, σ = [some (.int r), some (.int c), some (.ref a), some (.ref d), some (.ref p), some b1, some b2, v7, v8, none] ∧ Same H H' ∧ H' q = some (.lst [.int x]) ∧
          ((0 + 1 = 0 ∧ b1 = .int 0 ∧ b2 = .int 0 ∧ H' d = some (.dK []) ∧ H' p = some (.lst [])) ∨ (0 + 1 = 1 ∧ H' p = some (.lst [.int x])))) ([some (.int r), some (.int c), some (.ref a), some (.ref d), some (.ref p), some b1, some b2, v7, v8, none] : L2.St) (upd H3 p (.lst ([] ++ [.int x]))) := fun b1 b2 v7 v8 =>
        ⟨b1, b2, v7, v8, rfl, fun b o h => by rw [upd_ne (ne_of_none h f2)]; exact s3 b o h, by rw [upd_ne nqp]; exact hq3, .inr ⟨rfl, upd_same⟩⟩
      refine ⟨_, rfl, _, rfl, _, _, rfl, rfl, _, rfl, ?_⟩
      refine ite2 (fun _ => ?_) (fun _ => ?_)
      · refine ⟨_, rfl, _, _, rfl, rfl, ?_⟩
        refine ⟨_, rfl, _, rfl, _, _, rfl, rfl, ?_⟩
        refine ⟨_, rfl, _, rfl, ?_⟩
        rw [decide_eq_true (by omega : (0 : Int) < c)]
        refine iteT ?_
        exact ⟨_, rfl, .inl ⟨rfl, _, SqL.of hp3⟩, _, rfl, p, _, _, rfl, rfl, hp3, (by show 0 < sizeLine; decide), fin _ _ _ _⟩
      · refine ⟨_, rfl, _, _, rfl, rfl, ?_⟩
        refine ⟨_, rfl, _, rfl, _, _, rfl, rfl, ?_⟩
        refine ⟨_, rfl, _, rfl, ?_⟩
        rw [decide_eq_true (by omega : (0 : Int) < r)]
        refine iteT ?_
        exact ⟨_, rfl, .inl ⟨rfl, _, SqL.of hp3⟩, _, rfl, p, _, _, rfl, rfl, hp3, (by show 0 < sizeLine; decide), fin _ _ _ _⟩
  · rintro σ H' ⟨b1, b2, v7, v8, rfl, s, hq', hc⟩
    have hp' : H' p = some (.lst [.int x]) := by
      rcases hc with ⟨z, _⟩ | ⟨_, h⟩
      · cases z
      · exact h
    refine ⟨_, rfl, _, rfl, p, _, rfl, SqL.of hp', fun l hl => ?_⟩
    have s4 := same_new hl (.lst [.int x])
    have w1 : (upd H' l (.lst [.int x])) l = some (.lst [.int x]) := upd_same
    show ∃ (r' x' : Int) (a' : Addr), _
    refine ⟨r, x, l, rfl, SqL.of w1, fun H5 p5 q5 s5 n5 g5 g6 => ?_⟩
    have s5' : Same H H5 := (s.trans s4).trans s5
    refine ⟨p5, rfl, ⟨_, SqL.of g5⟩, fun D hD => ?_⟩
    have dn : ∀ {b : Addr} {o : HO}, H b = some o → b ≠ D := fun h => ne_of_none (s5' _ _ h) hD
    refine ⟨fun i m Hx => (i = 0 ∧ m = 1 ∧ Hx = upd H5 D (.lst [])) ∨ (i = 1 ∧ m = 0 ∧ Hx D = some (.lst [.int x]) ∧ Same H Hx ∧ Hx p5 = some (.lst [.ref q5])), ⟨1, .inl ⟨rfl, rfl, rfl⟩⟩, ?_⟩
    have h5 : (upd H5 D (.lst [])) p5 = some (.lst [.ref q5]) := by rw [upd_ne (ne_of_none g5 hD)]; exact g5
    have h6 : (upd H5 D (.lst [])) q5 = some (.lst [.int x]) := by rw [upd_ne (ne_of_none g6 hD)]; exact g6
    rintro i m Hx (⟨rfl, rfl, rfl⟩ | ⟨rfl, rfl, w2, w3, w4⟩)
    · refine .inr ⟨⟨_, _, SqL.of h5, rfl⟩, fun Hx => Hx D = some (.lst [.int x]) ∧ Same H Hx ∧ Hx p5 = some (.lst [.ref q5]), fun H' h => ⟨0, Nat.zero_lt_one, .inr ⟨rfl, rfl, h⟩⟩, fun y H' yy => ?_⟩
      obtain ⟨rfl, yy⟩ := yy
      obtain rfl := Option.some.inj (yy _ (SqL.of h5))
      refine ⟨rfl, ?_⟩
      unfold tYes
      refine iteT ?_
      refine ⟨_, rfl, q5, [x], rfl, SqL.of h6, (by show 1 < 64; decide), fun ns' p6 pm _ hp6 => ?_⟩
      obtain rfl := List.perm_singleton.mp pm
      have k6 : (upd (upd H5 D (.lst [])) p6 (.lst ([x].map V.int))) p6 = some (.lst [.int x]) := upd_same
      have k5 : (upd (upd H5 D (.lst [])) p6 (.lst ([x].map V.int))) p5 = some (.lst [.ref q5]) := by rw [upd_ne (ne_of_none h5 hp6)]; exact h5
      have kD : (upd (upd H5 D (.lst [])) p6 (.lst ([x].map V.int))) D = some (.lst []) := by rw [upd_ne (ne_of_none upd_same hp6)]; exact upd_same
      have kS : ∀ b o, H b = some o → (upd (upd H5 D (.lst [])) p6 (.lst ([x].map V.int))) b = some o := fun b o h => by
        have z : (upd H5 D (.lst [])) b = some o := by rw [upd_ne (dn h)]; exact s5' _ _ h
        rw [upd_ne (ne_of_none z hp6)]
        exact z
      generalize upd (upd H5 D (.lst [])) p6 (.lst ([x].map V.int)) = H7 at k6 k5 kD kS ⊢
      have n6 : p6 ≠ D := fun e => by rw [e, kD] at k6; cases k6
      have n5 : p5 ≠ D := ne_of_none g5 hD
      refine ⟨p6, rfl, ⟨_, SqL.of k6⟩, ?_⟩
      refine ⟨fun j k Hy => (j = 0 ∧ k = 1 ∧ Hy = H7) ∨ (j = 1 ∧ k = 0 ∧ Hy D = some (.lst [.int x]) ∧ Same H Hy ∧ Hy p5 = some (.lst [.ref q5]) ∧ Hy p6 = some (.lst [.int x])), ⟨1, .inl ⟨rfl, rfl, rfl⟩⟩, ?_⟩
      rintro j k Hy (⟨rfl, rfl, rfl⟩ | ⟨rfl, rfl, t1, t2, t3, t4⟩)
      · refine .inr ⟨⟨_, _, SqL.of k6, rfl⟩, fun Hy => Hy D = some (.lst [.int x]) ∧ Same H Hy ∧ Hy p5 = some (.lst [.ref q5]) ∧ Hy p6 = some (.lst [.int x]), fun H' h => ⟨0, Nat.zero_lt_one, .inr ⟨rfl, rfl, h⟩⟩, fun y H' yy => ?_⟩
        obtain ⟨rfl, yy⟩ := yy
        obtain rfl := Option.some.inj (yy _ (SqL.of k6))
        refine ⟨rfl, ?_⟩
        refine iteT ?_
        refine ⟨_, rfl, [], kD, (by show 0 < sizeLine; decide), upd_same, fun b o h => ?_, ?_, ?_⟩
        · rw [upd_ne (dn h)]
          exact kS _ _ h
        · rw [upd_ne n5]
          exact k5
        · rw [upd_ne n6]
          exact k6
      · exact .inl ⟨⟨_, SqL.of t4, Nat.le_refl _⟩, t1, t2, t3⟩
    · refine .inl ⟨⟨_, SqL.of w4, Nat.le_refl _⟩, ?_⟩
      refine ⟨D, _, rfl, .inl ⟨SqL.of w2, fun l2 hl2 => ?_⟩⟩
      exact k _ _ (w3.trans (same_new hl2 _)) upd_same
end
end KD

/-! The tally: its making, its rows, the ways on behind a layer. -/
namespace KD
open PySem L2 TL EM
/-! ### what it has counted -/
theorem nodup_le {α : Type} [DecidableEq α] : ∀ {l s : List α}, l.Nodup → (∀ x ∈ l, x ∈ s) → l.length ≤ s.length
  | [], _, _, _ => Nat.zero_le _
  | a :: l, s, h, k => by
    have h1 := List.nodup_cons.mp h
    have ha := k a List.mem_cons_self
    have q := nodup_le (l := l) (s := s.erase a) h1.2 fun x hx => (List.mem_erase_of_ne fun e => h1.1 (by rw [← e]; exact hx)).mpr (k x (List.mem_cons_of_mem _ hx))
    rw [List.length_erase_of_mem ha] at q
    have : 0 < s.length := List.length_pos_of_mem ha
    rw [List.length_cons]
    omega
abbrev kOf (f : Bool) (o c : Nat) : Bool × Int × Int := (f, (o : Int), (c : Int))
def kAll : List (Bool × Int × Int) := [true, false].flatMap fun f => (List.range 13).flatMap fun o => (List.range 13).map fun c => kOf f o c
theorem kAll_len : kAll.length = 338 := by decide +kernel
theorem kAll_mem {f : Bool} {o c : Nat} (ho : o ≤ 12) (hc : c ≤ 12) : kOf f o c ∈ kAll :=
  List.mem_flatMap.mpr ⟨f, by cases f <;> decide, List.mem_flatMap.mpr ⟨o, List.mem_range.mpr (by omega), List.mem_map.mpr ⟨c, List.mem_range.mpr (by omega), rfl⟩⟩⟩
theorem valM_none {xs : List Row} {k : Bool × Int × Int} (h : valM xs k = none) : ∀ x ∈ xs, x.1 ≠ k := fun x hx e => by
  unfold valM atKey at h
  rw [Option.map_eq_none_iff, List.find?_eq_none] at h
  have := h (raw x) (List.mem_map.mpr ⟨x, hx, rfl⟩)
  subst e
  simp at this
theorem valM_some {xs : List Row} {k : Bool × Int × Int} {p : Addr × Value} (h : valM xs k = some p) : ∃ x ∈ xs, x.1 = k ∧ x.2 = p := by
  unfold valM atKey at h
  rw [Option.map_eq_some_iff] at h
  obtain ⟨y, hy, rfl⟩ := h
  have h1 := List.find?_some hy
  obtain ⟨x, hx, rfl⟩ := List.mem_map.mp (List.mem_of_find?_eq_some hy)
  exact ⟨x, hx, lv_inj (by simpa using h1), rfl⟩
theorem valM_is {xs : List Row} {k : Bool × Int × Int} (h : ∃ x ∈ xs, x.1 = k) : (valM xs k).isSome = true := by
  obtain ⟨x, hx, e⟩ := h
  cases q : valM xs k with
  | some p => rfl
  | none => exact absurd e (valM_none q x hx)
/-- every number is the number of ways; no key stands twice -/
structure Memo (H : Hp) (xs : List Row) : Prop where
  ks : KeysIn H xs
  nd : (xs.map (·.1)).Nodup
  val : ∀ x ∈ xs, ∃ (f : Bool) (o c : Nat), o ≤ 12 ∧ c ≤ 12 ∧ x.1 = kOf f o c ∧ RelV (.int ((th f o c : Nat) : Int)) x.2.2
theorem Memo.len {H : Hp} {xs : List Row} (m : Memo H xs) : xs.length ≤ 338 := by
  have q := nodup_le (s := kAll) m.nd fun k hk => by
    obtain ⟨x, hx, rfl⟩ := List.mem_map.mp hk
    obtain ⟨f, o, c, ho, hc, e, _⟩ := m.val x hx
    rw [e]
    exact kAll_mem ho hc
  rw [List.length_map, kAll_len] at q
  exact q
theorem Memo.put {H H' : Hp} {xs : List Row} (m : Memo H xs) {f : Bool} {o c : Nat} {q : Addr} {r : Value} (ho : o ≤ 12) (hc : c ≤ 12) (hq : H q = some (.tup [.bl f, .int (o : Int), .int (c : Int)])) (hr : RelV (.int ((th f o c : Nat) : Int)) r) (k : ∀ b ys, H b = some (.tup ys) → H' b = some (.tup ys)) :
    Memo H' (putM xs (kOf f o c) q r) ∧ (valM (putM xs (kOf f o c) q r) (kOf f o c)).isSome = true := by
  unfold putM
  by_cases h : (valM xs (kOf f o c)).isSome = true
  · rw [if_pos h]
    have keys : ∀ x : Row, (if x.1 = kOf f o c then (x.1, x.2.1, r) else x : Row).1 = x.1 := fun x => by split <;> rfl
    refine ⟨⟨fun x hx => ?_, ?_, fun x hx => ?_⟩, ?_⟩
    · obtain ⟨y, hy, rfl⟩ := List.mem_map.mp hx
      have z := k _ _ (m.ks y hy)
      split
      · exact z
      · exact z
    · rw [List.map_map]
      rw [show ((fun x : Row => x.1) ∘ fun x : Row => if x.1 = kOf f o c then (x.1, x.2.1, r) else x) = fun x : Row => x.1 from funext keys]
      exact m.nd
    · obtain ⟨y, hy, rfl⟩ := List.mem_map.mp hx
      split
      · rename_i e
        exact ⟨f, o, c, ho, hc, e, hr⟩
      · exact m.val y hy
    · obtain ⟨p, hp⟩ := Option.isSome_iff_exists.mp h
      obtain ⟨x, hx, e, _⟩ := valM_some hp
      exact valM_is ⟨_, List.mem_map.mpr ⟨x, hx, rfl⟩, (keys x).trans e⟩
  · rw [if_neg h]
    have hn : valM xs (kOf f o c) = none := by
      cases q : valM xs (kOf f o c) with
      | none => rfl
      | some p => rw [q] at h; exact absurd rfl h
    refine ⟨⟨fun x hx => ?_, ?_, fun x hx => ?_⟩, valM_is ⟨_, List.mem_append_right _ List.mem_cons_self, rfl⟩⟩
    · rcases List.mem_append.mp hx with hx | hx
      · exact k _ _ (m.ks x hx)
      · rw [List.mem_singleton.mp hx]
        exact k _ _ hq
    · rw [List.map_append]
      refine List.nodup_append.mpr ⟨m.nd, by simp, ?_⟩
      intro a ha b hb e
      obtain ⟨x, hx, rfl⟩ := List.mem_map.mp ha
      rw [List.map_cons, List.map_nil, List.mem_singleton] at hb
      exact valM_none hn x hx (e.trans hb)
    · rcases List.mem_append.mp hx with hx | hx
      · exact m.val x hx
      · rw [List.mem_singleton.mp hx]
        exact ⟨f, o, c, ho, hc, rfl, hr⟩
/-! ### the tally -/
def tf (R Cc d : V) : List (Str × V) := putF "known" d (putF "columns" Cc (putF "rows" R []))
theorem tf_rows (R Cc d : V) : (tf R Cc d).lookup ("rows" : Str) = some R := by
  unfold tf
  rw [lookup_putF, if_neg (by decide), lookup_putF, if_neg (by decide), lookup_putF, if_pos rfl]
theorem tf_cols (R Cc d : V) : (tf R Cc d).lookup ("columns" : Str) = some Cc := by
  unfold tf
  rw [lookup_putF, if_neg (by decide), lookup_putF, if_pos rfl]
theorem tf_known (R Cc d : V) : (tf R Cc d).lookup ("known" : Str) = some d := by
  unfold tf
  rw [lookup_putF, if_pos rfl]
theorem tf_no (R Cc d : V) {m : Str} (h : decide (m = "rows") = false ∧ decide (m = "columns") = false ∧ decide (m = "known") = false) : (tf R Cc d).lookup m = none := by
  unfold tf
  rw [lookup_putF, if_neg (of_decide_eq_false h.2.2), lookup_putF, if_neg (of_decide_eq_false h.2.1), lookup_putF, if_neg (of_decide_eq_false h.1)]
  rfl
structure TTxt (K : PySem.W.Frag) (mg : Str → Option Value) (C : Addr) : Prop where
  cl : Cls K C
  nR : NoAttr K C "rows"
  nC : NoAttr K C "columns"
  nK : NoAttr K C "known"
  mgC : mg "Tally" = some (.ref C)
/-- the tally at t of R rows and S columns, its dict at d -/
def TlAt (P : Program) (w : World) (C t d : Addr) (R S : Nat) (H : Hp) : Prop := (∃ dx, H t = some (.ins C dx (tf (.int (R : Int)) (.int (S : Int)) (.ref d)))) ∧ ∃ xs, H d = some (MpO P w d xs) ∧ Memo H xs
theorem Memo.keep {H H' : Hp} {d : Addr} {P : Program} {w : World} {ys xs : List Row} (hd : H d = some (MpO P w d ys)) (m : Memo H xs) (k : Keep d H H') : Memo H' xs :=
  ⟨fun x hx => k _ _ (ne_of (m.ks x hx) hd (by intro z; cases z)) (m.ks x hx), m.nd, m.val⟩
theorem TlAt.same {P : Program} {w : World} {C t d : Addr} {R S : Nat} {H H' : Hp} (h : TlAt P w C t d R S H) (s : Same H H') : TlAt P w C t d R S H' := by
  obtain ⟨⟨dx, e⟩, xs, h1, h2⟩ := h
  exact ⟨⟨dx, s _ _ e⟩, xs, s _ _ h1, ⟨fun x hx => s _ _ (h2.ks x hx), h2.nd, h2.val⟩⟩
theorem Keep.same {r : Addr} {H H' : Hp} (s : Same H H') : Keep r H H' := fun b o _ h => s b o h
def spTInit (C : Addr) (P : Program) (w : World) : Sp := fun vs H Q _ => ∃ (t dx : Addr) (R S : Nat), vs = [.ref t, .int (R : Int), .int (S : Int)] ∧ H t = some (.ins C dx []) ∧
  ∀ H' d, (∀ b o, b ≠ t → H b = some o → H' b = some o) → H d = none → TlAt P w C t d R S H' → Q .non H'
def spIsRow (C : Addr) (P : Program) (w : World) : Sp := fun vs H Q _ => ∃ (t d : Addr) (R S : Nat) (i : Int), vs = [.ref t, .int i] ∧ TlAt P w C t d R S H ∧ Q (.bl (decide (i < (R : Int)))) H
def spBehind (C : Addr) (P : Program) (w : World) (n : Nat) : Sp := fun vs H Q _ => ∃ (t d : Addr) (R S : Nat) (f : Bool) (o c : Nat), vs = [.ref t, .bl f, .int (o : Int), .int (c : Int)] ∧ TlAt P w C t d R S H ∧ o ≤ 12 ∧ c ≤ 12 ∧ o + c < n ∧
  ∀ H', Keep d H H' → TlAt P w C t d R S H' → Q (.int ((th f o c : Nat) : Int)) H'
section
variable {P : Program} {w : World} {K : PySem.W.Frag} {mg : Str → Option Value} {base : Heap} {C : Addr}
theorem scTInit : FnScope ["self", "rows", "columns"] ["self", "rows", "columns"] (defScope S_Tally___init__) := ⟨rfl, rfl, rfl, by decide +kernel, rfl, by decide +kernel, by decide +kernel⟩
theorem ok_tinit {f : Addr} {fd : FuncData} (F : Fun K "__init__" "Tally.__init__" S_Tally___init__ f fd) (T : TTxt K mg C) : FnOk P w K mg base CX0 1 f fd ["self", "rows", "columns"] (spTInit C P w) := by
  refine F.ok scTInit (fun vs H Q E h => ?_) (fun cdv A outer s0 H vs Q E hr h => ?_)
  · obtain ⟨t, dx, R, S, rfl, _⟩ := h
    rfl
  obtain ⟨t, dx, R, S, rfl, hI, k⟩ := h
  refine ⟨_, pss_cons (ps_fld (pv 0) (pv 1) rfl) (pss_cons (ps_fld (pv 0) (pv 2) rfl) (pss_one (ps_fld (pv 0) pe_newM rfl))), ?_⟩
  refine ⟨_, rfl, _, rfl, t, C, dx, _, rfl, hI, T.cl, T.nR, (by show 0 < 1000; decide), ?_⟩
  refine ⟨_, rfl, _, rfl, t, C, dx, _, rfl, upd_same, T.cl, T.nC, (by show 1 < 1000; decide), ?_⟩
  rw [upd_upd]
  refine fun d hd => ⟨_, rfl, t, C, dx, putF "columns" (.int (S : Int)) (putF "rows" (.int (R : Int)) []), rfl, ?_, T.cl, T.nK, (by show 2 < 1000; decide), ?_⟩
  · rw [upd_ne (ne_of_none upd_same hd)]
    exact upd_same
  · have ntd : t ≠ d := ne_of_none upd_same hd
    refine k _ d (fun b o n h => ?_) ?_ ⟨⟨dx, upd_same⟩, [], ?_, ⟨fun x hx => (nomatch hx), List.nodup_nil, fun x hx => (nomatch hx)⟩⟩
    · have hb : (upd H t (.ins C dx (putF "columns" (.int (S : Int)) (putF "rows" (.int (R : Int)) [])))) b = some o := by rw [upd_ne n]; exact h
      rw [upd_ne n, upd_ne (ne_of_none hb hd)]
      exact hb
    · rw [← hd, upd_ne ntd.symm]
    · rw [upd_ne ntd.symm]
      exact upd_same
theorem scIsRow : FnScope ["self", "line"] ["self", "line"] (defScope S_Tally_is_row) := ⟨rfl, rfl, rfl, by decide +kernel, rfl, by decide +kernel, by decide +kernel⟩
theorem ok_isRow {f : Addr} {fd : FuncData} (F : Fun K "is_row" "Tally.is_row" S_Tally_is_row f fd) (T : TTxt K mg C) : FnOk P w K mg base CX0 1 f fd ["self", "line"] (spIsRow C P w) := by
  refine F.ok scIsRow (fun vs H Q E h => ?_) (fun cdv A outer s0 H vs Q E hr h => ?_)
  · obtain ⟨t, d, R, S, i, rfl, _⟩ := h
    rfl
  obtain ⟨t, d, R, S, i, rfl, ⟨⟨dx, hI⟩, _⟩, k⟩ := h
  refine ⟨_, pss_one (ps_ret (pe_cmpR op_lt (pv 1) (pe_fld (pv 0) rfl) (nomark _))), ?_⟩
  exact ⟨_, rfl, _, rfl, t, C, dx, _, _, rfl, hI, T.cl, T.nR, tf_rows _ _ _, _, _, rfl, rfl, k⟩
abbrev bhN : List Str := ["self", "is_first", "own", "crossing", "key", "many", "more"]
theorem scBh : FnScope bhN ["self", "is_first", "own", "crossing"] (defScope S_Tally_behind_layer) := ⟨rfl, rfl, rfl, by decide +kernel, rfl, by decide +kernel, by decide +kernel⟩
theorem ok_bh1 {n : Nat} {f : Addr} {fd : FuncData} (F : Fun K "behind_layer" "Tally.behind_layer" S_Tally_behind_layer f fd) (B : Blt mg) (hcomb : mg "comb" = some (.builtin "math.comb")) (T : TTxt K mg C)
    (GI : FnOk P w K mg base CX0 n f fd ["self", "is_first", "own", "crossing"] (spBehind C P w n)) (mI : Meth K C "behind_layer" f) (bI : Binds K fd ["self", "is_first", "own", "crossing"] []) :
    FnOk P w K mg base CX0 (n + 1) f fd ["self", "is_first", "own", "crossing"] (spBehind C P w (n + 1)) := by
  refine F.ok scBh (fun vs H Q E h => ?_) (fun cdv A outer s0 H vs Q E hr h => ?_)
  · obtain ⟨t, d, R, S, f, o, c, rfl, _⟩ := h
    rfl
  obtain ⟨t, d, R, S, b, o, c, rfl, hT, ho, hc, hn, k⟩ := h
  have hu := hu_of hr
  refine ⟨_, C8.pss_cut (ps_if (PW.pt (pw_and (pt_cmpR op_eq (pv 2) pe_int (nomark _)) (pw_and1 (pt_not (pt_val (pv 1)))))) (pss_one (ps_ret pe_int)) pss_nil)
    (pss_cons (ps_set (i := 4) scBh.nd rfl (Or.inl rfl) (pe_tup (pa_cons (pv 1) (pa_cons (pv 2) (pa_cons (pv 3) pa_nil)))))
    (C8.pss_cut (ps_if (pt_cmpR (op_notInM hu) (pv 4) (pe_fld (pv 0) rfl) (by rfl))
      (pss_cons (ps_set (i := 5) scBh.nd rfl (Or.inl rfl) pe_int)
      (pss_cons (ps_for PassesOwn.never rfl (pi_range2 rfl B.range (pa_cons pe_int (pa_cons (pe_op op_add (pv 3) pe_int) pa_nil))) (pg_name (i := 6) scBh.nd rfl (Or.inl rfl))
        (pss_one (ps_aug (i := 5) scBh.nd rfl (Or.inl rfl) (pe_op op_mul (pe_callBfun cr_comb (by rfl) hcomb (pa_cons (pv 3) (pa_cons (pv 6) pa_nil)))
          (pe_meth (pv 0) T.cl mI GI hr bI .nil pass0 (pa_cons (pe_not (pv 1)) (pa_cons (pe_op op_sub (pv 3) (pv 6)) (pa_cons (pv 2) pa_nil))))) iop_add)))
      (pss_one (ps_putM hu (pe_fld (pv 0) rfl) (pv 4) (pv 5) rfl)))) pss_nil)
    (pss_one (ps_ret (pe_getM hu (pe_fld (pv 0) rfl) (pv 4) (fun _ _ => rfl)))))), ?_⟩
  obtain ⟨⟨dx, hI⟩, xs, hD, hM⟩ := id hT
  have last : ∀ H', Keep d H H' → TlAt P w C t d R S H' → (o = 0 ∧ b = false) → Q (.int 0) H' := fun H' k' t' e => by
    have q := k H' k' t'
    have z := th_0 ⟨c, by omega⟩
    rw [e.1, e.2] at q
    rw [show ((th false 0 c : Nat) : Int) = 0 by rw [z]; rfl] at q
    exact q
  refine ⟨fun σ H2 => σ = [some (.ref t), some (.bl b), some (.int (o : Int)), some (.int (c : Int)), none, none, none] ∧ H2 = H ∧ ¬ (o = 0 ∧ b = false), ?_, ?_⟩
  · refine ⟨_, rfl, rfl, _, rfl, ?_⟩
    by_cases e0 : o = 0
    · subst e0
      refine iteT ?_
      refine ⟨_, rfl, b, rfl, ?_⟩
      cases b with
      | false => exact iteT (last H (Keep.refl _ _) hT ⟨rfl, rfl⟩)
      | true => exact iteF ⟨rfl, rfl, fun e => by cases e.2⟩
    · rw [decide_eq_false (fun e => e0 (by injection e with e; omega))]
      exact iteF ⟨rfl, rfl, fun e => e0 e.1⟩
  rintro σ H2 ⟨rfl, rfl, hne⟩
  refine ⟨_, rfl, _, rfl, _, rfl, (by show 3 ≤ sizeLine; decide), fun q hq => ?_⟩
  have s1 := same_new hq (.tup [.bl b, .int (o : Int), .int (c : Int)])
  have hT1 := hT.same s1
  have uq : (upd H2 q (.tup [.bl b, .int (o : Int), .int (c : Int)])) q = some (.tup [.bl b, .int (o : Int), .int (c : Int)]) := upd_same
  generalize upd H2 q (.tup [.bl b, .int (o : Int), .int (c : Int)]) = H1 at s1 hT1 uq ⊢
  refine ⟨fun σ H3 => ∃ v5 v6 xs, σ = [some (.ref t), some (.bl b), some (.int (o : Int)), some (.int (c : Int)), some (.ref q), v5, v6] ∧ Keep d H2 H3 ∧ TlAt P w C t d R S H3 ∧ H3 d = some (MpO P w d xs) ∧ Memo H3 xs ∧ H3 q = some (.tup [.bl b, .int (o : Int), .int (c : Int)]) ∧ (valM xs (kOf b o c)).isSome = true, ?_, ?_⟩
  · obtain ⟨⟨dx1, hI1⟩, xs1, hD1, hM1⟩ := id hT1
    refine ⟨_, rfl, _, rfl, t, C, dx1, _, _, rfl, hI1, T.cl, T.nK, tf_known _ _ _, d, q, xs1, kOf b o c, rfl, rfl, ⟨hD1, hM1.ks, uq⟩, _, rfl, ?_⟩
    cases hv : valM xs1 (kOf b o c) with
    | some p => exact iteF ⟨none, none, xs1, rfl, Keep.same s1, hT1, hD1, hM1, uq, by rw [hv]; rfl⟩
    | none =>
      refine iteT ?_
      have en : ((c : Int) + 1 - 1).toNat = c := by omega
      refine ⟨_, rfl, _, _, rfl, rfl, 1, (c : Int) + 1, rfl, ⟨by decide, by decide, by omega, by omega⟩, ?_⟩
      refine for_range (fun i σ H' => ∃ v6, i ≤ c ∧ σ = [some (.ref t), some (.bl b), some (.int (o : Int)), some (.int (c : Int)), some (.ref q), some (.int ((1 + sm (thT b o c) i : Nat) : Int)), v6] ∧ Keep d H1 H' ∧ TlAt P w C t d R S H') ⟨none, Nat.zero_le _, rfl, Keep.refl _ _, hT1⟩ ?_ ?_
      · rintro i σ H3 hi ⟨v6, hic, rfl, k3, hT3⟩
        rw [en] at hi
        have e1 : (1 + (i : Int)) = ((i + 1 : Nat) : Int) := by omega
        rw [e1]
        obtain ⟨⟨dx3, hI3⟩, _⟩ := id hT3
        have ecb := cb_ok ⟨c, by omega⟩ ⟨i + 1, by omega⟩ (by show i + 1 ≤ c; omega)
        have lcb := cb_lt ⟨c, by omega⟩ ⟨i + 1, by omega⟩
        dsimp only at ecb lcb
        refine ⟨_, rfl, _, rfl, _, rfl, _, _, rfl, by omega, by omega, by omega, ?_⟩
        rw [ecb]
        refine ⟨_, rfl, t, dx3, _, rfl, hI3, tf_no _ _ _ (by decide +kernel), _, rfl, b, rfl, _, rfl, _, rfl, _, _, rfl, rfl, _, rfl, ?_⟩
        refine ⟨t, d, R, S, !b, c - (i + 1), o, by show [V.ref t, V.bl (!b), V.int ((c : Int) - ((i + 1 : Nat) : Int)), V.int (o : Int)] = _; rw [show (c : Int) - ((i + 1 : Nat) : Int) = ((c - (i + 1) : Nat) : Int) by omega], hT3, by omega, ho, by omega, fun H4 k4 hT4 => ?_⟩
        refine ⟨_, _, rfl, rfl, .inl ⟨by omega, by omega⟩, _, _, rfl, rfl, ?_⟩
        refine ⟨some (.int ((i + 1 : Nat) : Int)), hi, ?_, k3.trans k4, hT4⟩
        have es : ((1 + sm (thT b o c) i : Nat) : Int) + ((cb c (i + 1) : Nat) : Int) * ((th (!b) (c - (i + 1)) o : Nat) : Int) = ((1 + sm (thT b o c) (i + 1) : Nat) : Int) := by
          show _ = ((1 + (sm (thT b o c) i + cb c (i + 1) * th (!b) (c - (i + 1)) o) : Nat) : Int)
          simp only [Int.natCast_add, Int.natCast_mul, Int.add_assoc]
        rw [← es]
        rfl
      · rintro σ H3 ⟨v6, _, rfl, k3, hT3⟩
        rw [en]
        obtain ⟨⟨dx3, hI3⟩, xs3, hD3, hM3⟩ := id hT3
        have uq3 := k3 _ _ (ne_of uq hD1 (by intro z; cases z)) uq
        have eth := th_step b ⟨o, by omega⟩ ⟨c, by omega⟩ hne
        dsimp only at eth
        rw [← eth]
        refine ⟨_, rfl, _, rfl, t, C, dx3, _, _, rfl, hI3, T.cl, T.nK, tf_known _ _ _, _, rfl, d, q, xs3, kOf b o c, rfl, rfl, ⟨hD3, hM3.ks, uq3⟩, Nat.le_trans hM3.len (by decide), fun r hr => ?_⟩
        have ntd : t ≠ d := ne_of hI3 hD3 (by intro z; cases z)
        have kt : ∀ b' ys, H3 b' = some (.tup ys) → (upd H3 d (MpO P w d (putM xs3 (kOf b o c) q r))) b' = some (.tup ys) := fun b' ys h => by
          rw [upd_ne (ne_of h hD3 (by intro z; cases z))]
          exact h
        obtain ⟨m4, v4⟩ := hM3.put ho hc uq3 hr kt
        exact ⟨_, _, _, rfl, ((Keep.same s1).trans k3).trans (Keep.upd d H3 _), ⟨⟨dx3, by rw [upd_ne ntd]; exact hI3⟩, _, upd_same, m4⟩, upd_same, m4, kt _ _ uq3, v4⟩
  · rintro σ H3 ⟨v5, v6, xs3, rfl, k3, hT3, hD3, hM3, uq3, hv⟩
    obtain ⟨⟨dx3, hI3⟩, _⟩ := id hT3
    obtain ⟨p, hp⟩ := Option.isSome_iff_exists.mp hv
    obtain ⟨x, hx, e1, e2⟩ := valM_some hp
    obtain ⟨f', o', c', _, _, e3, rv⟩ := hM3.val x hx
    have ek : kOf b o c = kOf f' o' c' := e1.symm.trans e3
    injection ek with ek1 ek
    injection ek with ek2 ek3
    obtain rfl : o = o' := by omega
    obtain rfl : c = c' := by omega
    subst ek1
    rw [e2] at rv
    exact ⟨_, rfl, t, C, dx3, _, _, rfl, hI3, T.cl, T.nK, tf_known _ _ _, _, rfl, d, q, xs3, kOf b o c, p, _, rfl, rfl, ⟨hD3, hM3.ks, uq3⟩, hp, rv, k H3 k3 hT3⟩
theorem ok_bh {f : Addr} {fd : FuncData} (F : Fun K "behind_layer" "Tally.behind_layer" S_Tally_behind_layer f fd) (B : Blt mg) (hcomb : mg "comb" = some (.builtin "math.comb")) (T : TTxt K mg C)
    (mI : Meth K C "behind_layer" f) (bI : Binds K fd ["self", "is_first", "own", "crossing"] []) : ∀ n : Nat, FnOk P w K mg base CX0 n f fd ["self", "is_first", "own", "crossing"] (spBehind C P w n)
  | 0 => by
    have no : ∀ vs H Q E, ¬ spBehind C P w 0 vs H Q E := fun vs H Q E h => by
      obtain ⟨t, d, R, S, f, o, c, _, _, _, _, h1, _⟩ := h
      omega
    exact ⟨fun vs H Q E h => absurd h (no vs H Q E), fun A outer s H args us vs Q E _ _ _ _ h => absurd h (no vs H Q E)⟩
  | n + 1 => ok_bh1 F B hcomb T (ok_bh F B hcomb T mI bI n) mI bI
end
end KD

/-! How many effects begin with a line; all effects of a board. -/
namespace KD
open PySem L2 TL EM
def lL (R S x : Nat) : List Nat := (List.range (R + S)).filter fun y => !(x == y)
def lO (R S x : Nat) : List Nat := (lL R S x).filter fun y => decide (y < R) == decide (x < R)
def lM (R S x : Nat) : List Nat := (lO R S x).filter fun y => decide (x < y)
theorem len_ok : ∀ R : Fin 12, ∀ S : Fin 12, ∀ x : Fin 24, x.val < R.val + 1 + (S.val + 1) →
    (lL (R.val + 1) (S.val + 1) x.val).length = R.val + 1 + S.val ∧ (lO (R.val + 1) (S.val + 1) x.val).length = (if x.val < R.val + 1 then R.val else S.val) ∧ (lM (R.val + 1) (S.val + 1) x.val).length = (if x.val < R.val + 1 then R.val - x.val else S.val - (x.val - (R.val + 1))) := by decide +kernel
def nts (l : List Nat) : List V := l.map fun y : Nat => V.int (y : Int)
theorem nts_get {l : List Nat} {i : Nat} {v : V} (h : (nts l)[i]? = some v) : ∃ y, l[i]? = some y ∧ v = .int (y : Int) := by
  unfold nts at h
  rw [List.getElem?_map] at h
  cases q : l[i]? with
  | none => rw [q] at h; cases h
  | some y => rw [q] at h; exact ⟨y, rfl, (Option.some.inj h).symm⟩
theorem nts_app (l : List Nat) (y : Nat) : nts (l ++ [y]) = nts l ++ [.int (y : Int)] := by unfold nts; rw [List.map_append]; rfl
theorem nts_len (l : List Nat) : (nts l).length = l.length := by unfold nts; rw [List.length_map]
def spBegin (C : Addr) (P : Program) (w : World) : Sp := fun vs H Q _ => ∃ (t d a : Addr) (R S x : Nat), vs = [.ref t, .ref a] ∧ TlAt P w C t d R S H ∧ H a = some (.lst [.int (x : Int)]) ∧ 1 ≤ R ∧ R ≤ 12 ∧ 1 ≤ S ∧ S ≤ 12 ∧ x < R + S ∧
  ∀ H', Keep d H H' → TlAt P w C t d R S H' → Q (.int ((bl R S x : Nat) : Int)) H'
section
variable {P : Program} {w : World} {K : PySem.W.Frag} {mg : Str → Option Value} {base : Heap} {C : Addr}
abbrev bgN : List Str := ["self", "lines", "last", "left", "own", "later", "is_first", "many", "more", "line"]
theorem scBg : FnScope bgN ["self", "lines"] (defScope S_Tally_beginning_with) := ⟨rfl, rfl, rfl, by decide +kernel, rfl, by decide +kernel, by decide +kernel⟩
theorem ok_bg {f fN fR fH : Addr} {fd fdN fdR fdH : FuncData} (F : Fun K "beginning_with" "Tally.beginning_with" S_Tally_beginning_with f fd) (B : Blt mg) (hcomb : mg "comb" = some (.builtin "math.comb")) (T : TTxt K mg C)
    (GN : FnOk P w K mg base CX0 2 fN fdN ["rows", "columns", "lines"] (spNorm1 K)) (mN : mg "normal_form" = some (.ref fN)) (kN : PySem.W.keepIn K (.ref fN) = true) (bN : Binds K fdN ["rows", "columns", "lines"] [])
    (GR : FnOk P w K mg base CX0 1 fR fdR ["self", "line"] (spIsRow C P w)) (mR : Meth K C "is_row" fR) (bR : Binds K fdR ["self", "line"] [])
    (GH : FnOk P w K mg base CX0 25 fH fdH ["self", "is_first", "own", "crossing"] (spBehind C P w 25)) (mH : Meth K C "behind_layer" fH) (bH : Binds K fdH ["self", "is_first", "own", "crossing"] []) :
    FnOk P w K mg base CX0 26 f fd ["self", "lines"] (spBegin C P w) := by
  refine F.ok scBg (fun vs H Q E h => ?_) (fun cdv A outer s0 H vs Q E hr h => ?_)
  · obtain ⟨t, d, a, R, S, x, rfl, _⟩ := h
    rfl
  obtain ⟨t, d, a, R, S, x, rfl, hT, hA, R1, R2, S1, S2, hx, k⟩ := h
  have hr1 : Room 1 _ := hr.mono (by decide)
  have hr2 : Room 2 _ := hr.mono (by decide)
  refine ⟨_, pss_cons (ps_if (pt_cmpR (op_neD hr.units) (pe_call GN hr2 rfl mN kN bN .nil pass0 (pa_cons (pe_fld (pv 0) rfl) (pa_cons (pe_fld (pv 0) rfl) (pa_cons (pv 1) pa_nil)))) (pe_callTy call_tuple_of (by rfl) B.tup (by decide +kernel) (pa_cons (pv 1) pa_nil)) (nomark _)) pss_never pss_nil)
    (pss_cons (ps_set (i := 2) scBg.nd rfl (Or.inr rfl) (pe_ix ix_list (pv 1) (pe_un un_neg pe_int) (fun _ _ => rfl)))
    (pss_cons (ps_setLc (i := 3) (own := [("line", 9)]) (g := gName 9) (by rfl) scBg.nd rfl rfl (sw_true rfl rfl rfl (by decide +kernel)) (pi_range1 rfl B.range (pa_cons (pe_op op_add (pe_fld (pv 0) rfl) (pe_fld (pv 0) rfl)) pa_nil))
      (blkOk_by (own := [("line", 9)]) (N := bgN) (sc := defScope S_Tally_beginning_with) (by decide +kernel)) (fun _ _ _ _ _ => pg_name (i := 9) scBg.nd rfl (Or.inl rfl)) (fun _ _ _ _ _ => pts_one (pt_cmpR (r := rIn K true) op_notIn_seq (pv 9) (pv 1) (by rfl))) (fun _ _ _ _ _ => pv 9))
    (pss_cons (ps_setLc (i := 4) (own := [("line", 9)]) (g := gName 9) (by rfl) scBg.nd rfl rfl (sw_true rfl rfl rfl (by decide +kernel)) (pi_list (pv 3))
      (blkOk_by (own := [("line", 9)]) (N := bgN) (sc := defScope S_Tally_beginning_with) (by decide +kernel)) (fun _ _ _ _ _ => pg_name (i := 9) scBg.nd rfl (Or.inl rfl))
      (fun _ _ _ _ _ => pts_one (pt_cmpR op_eq (pe_meth (pv 0) T.cl mR GR hr1 bR .nil pass0 (pa_cons (pv 9) pa_nil)) (pe_meth (pv 0) T.cl mR GR hr1 bR .nil pass0 (pa_cons (pv 2) pa_nil)) (nomark _))) (fun _ _ _ _ _ => pv 9))
    (pss_cons (ps_set (i := 5) scBg.nd rfl (Or.inl rfl) (pe_callB call_len_seq (by rfl) B.len PySem.boot_len (pa_cons (pe_lc (own := [("line", 9)]) (g := gName 9) rfl scBg.nd (pi_list (pv 4))
      (blkOk_by (own := [("line", 9)]) (N := bgN) (sc := defScope S_Tally_beginning_with) (by decide +kernel)) (fun _ _ _ _ _ => pg_name (i := 9) scBg.nd rfl (Or.inl rfl)) (fun _ _ _ _ _ => pts_one (pt_cmpR op_gt (pv 9) (pv 2) (nomark _))) (fun _ _ _ _ _ => pv 9)) pa_nil)))
    (pss_cons (ps_set (i := 6) scBg.nd rfl (Or.inl rfl) (pe_cmpR op_eq (pe_meth (pv 0) T.cl mR GR hr1 bR .nil pass0 (pa_cons (pv 2) pa_nil)) (pe_meth (pv 0) T.cl mR GR hr1 bR .nil pass0 (pa_cons (pe_ix ix_list (pv 1) pe_int (fun _ _ => rfl)) pa_nil)) (nomark _)))
    (pss_cons (ps_set (i := 7) scBg.nd rfl (Or.inl rfl) pe_int)
    (pss_cons (ps_for PassesOwn.never rfl (pi_range1 rfl B.range (pa_cons (pe_op op_add (pv 5) pe_int) pa_nil)) (pg_name (i := 8) scBg.nd rfl (Or.inl rfl))
      (pss_one (ps_aug (i := 7) scBg.nd rfl (Or.inl rfl) (pe_op op_mul (pe_callBfun cr_comb (by rfl) hcomb (pa_cons (pv 5) (pa_cons (pv 8) pa_nil)))
        (pe_meth (pv 0) T.cl mH GH hr bH .nil pass0 (pa_cons (pv 6) (pa_cons (pe_op op_sub (pe_callB call_len_seq (by rfl) B.len PySem.boot_len (pa_cons (pv 4) pa_nil)) (pv 8)) (pa_cons (pe_op op_sub (pe_callB call_len_seq (by rfl) B.len PySem.boot_len (pa_cons (pv 3) pa_nil)) (pe_callB call_len_seq (by rfl) B.len PySem.boot_len (pa_cons (pv 4) pa_nil))) pa_nil))))) iop_add)))
    (pss_one (ps_ret (pv 7)))))))))), ?_⟩
  obtain ⟨⟨dx, hI⟩, xs, hD, hM⟩ := id hT
  refine ⟨_, rfl, t, C, dx, _, _, rfl, hI, T.cl, T.nR, tf_rows _ _ _, _, rfl, t, C, dx, _, _, rfl, hI, T.cl, T.nC, tf_cols _ _ _, _, rfl, _, _, _, _, rfl, by omega, by omega, SqL.of hA, fun H1 p s1 h1 => ?_⟩
  refine ⟨_, rfl, a, _, rfl, .inl ⟨SqL.of (s1 _ _ hA), fun l hl => ?_⟩⟩
  have s2 := same_new hl (.tup [.int (x : Int)])
  have h1' := s2 _ _ h1
  have u2 : (upd H1 l (.tup [.int (x : Int)])) l = some (.tup [.int (x : Int)]) := upd_same
  have s12 := s1.trans s2
  generalize upd H1 l (.tup [.int (x : Int)]) = H2 at s2 h1' u2 s12 ⊢
  refine ⟨.tuple [.int x], .tuple [.int x], .tup (SqT.of h1') (.cons (.int _) .nil), .tup (SqT.of u2) (.cons (.int _) .nil), rfl, rfl, _, rfl, ?_⟩
  have ee : PyData.eqv (.tuple [.int (x : Int)]) (.tuple [.int (x : Int)]) = true := SeqAt.eqv_refl _ rfl
  rw [ee]
  refine iteF ?_
  have hT2 := hT.same s12
  have hA2 := s12 _ _ hA
  have hI2 := s12 _ _ hI
  have hD2 := s12 _ _ hD
  refine ⟨_, rfl, 1, rfl, a, _, _, _, rfl, rfl, SqL.of hA2, rfl, ?_⟩
  -- left
  refine ⟨_, rfl, t, C, dx, _, _, rfl, hI2, T.cl, T.nR, tf_rows _ _ _, _, rfl, t, C, dx, _, _, rfl, hI2, T.cl, T.nC, tf_cols _ _ _, _, _, rfl, rfl, _, rfl, by omega, by omega, fun D1 nD1 => ?_⟩
  have eRS : ((R : Int) + (S : Int)).toNat = R + S := by omega
  have up : ∀ {H3 : Hp} {D : Addr} {L : List V}, Same H2 H3 → H2 D = none → Same H2 (upd H3 D (.lst L)) := fun s n b o h => by
    rw [upd_ne (ne_of_none h n)]
    exact s _ _ h
  refine lc_range (fun i H3 => Same H2 H3 ∧ H3 D1 = some (.lst (nts ((List.range i).filter fun y => !(x == y))))) ⟨same_new nD1 _, upd_same⟩ ?_ ?_
  · rintro i H3 hi ⟨s3, hD3⟩
    rw [Int.zero_add]
    refine ⟨rfl, _, rfl, _, rfl, a, _, rfl, .inl (SqL.of (s3 _ _ hA2)), rfl, rfl, _, rfl, ?_⟩
    rw [List.range_succ, List.filter_append]
    have ei : inV (V.int (i : Int)) [V.int (x : Int)] = (x == i) := by
      show (((x : Int) == (i : Int)) || false) = (x == i)
      rw [Bool.or_false, Bool.eq_iff_iff, beq_iff_eq, beq_iff_eq]
      exact Int.ofNat_inj
    show if (!inV (V.int (i : Int)) [V.int (x : Int)]) = true then _ else _
    rw [ei]
    cases hb : x == i with
    | true =>
      refine iteF ⟨s3, ?_⟩
      rw [show List.filter (fun y => !(x == y)) [i] = [] by simp [hb], List.append_nil]
      exact hD3
    | false =>
      refine iteT ⟨_, rfl, _, hD3, ?_, up s3 nD1, ?_⟩
      · rw [nts_len]
        refine Nat.lt_of_le_of_lt (List.length_filter_le _ _) ?_
        rw [List.length_range]
        exact Nat.lt_of_lt_of_le hi (by rw [eRS]; exact Nat.le_trans (by omega : R + S ≤ 24) (by decide))
      · rw [show List.filter (fun y => !(x == y)) [i] = [i] by simp [hb], nts_app]
        exact upd_same
  rintro H3 ⟨s3, hD3⟩
  rw [eRS] at hD3
  change H3 D1 = some (.lst (nts (lL R S x))) at hD3
  have hI3 := s3 _ _ hI2
  have hA3 := s3 _ _ hA2
  have hT3 := hT2.same s3
  -- own
  refine ⟨_, rfl, D1, rfl, ⟨_, SqL.of hD3⟩, fun D2 nD2 => ?_⟩
  have up3 : ∀ {H' H4 : Hp} {D : Addr} {L : List V}, Same H' H4 → H' D = none → Same H' (upd H4 D (.lst L)) := fun s n b o h => by
    rw [upd_ne (ne_of_none h n)]
    exact s _ _ h
  have tk : ∀ {l : List Nat} {i y : Nat}, l[i]? = some y → l.take (i + 1) = l.take i ++ [y] := fun h => by rw [List.take_succ, h]; rfl
  have ln := len_ok ⟨R - 1, by omega⟩ ⟨S - 1, by omega⟩ ⟨x, by omega⟩ (by show x < R - 1 + 1 + (S - 1 + 1); omega)
  dsimp only at ln
  rw [show R - 1 + 1 = R by omega, show S - 1 + 1 = S by omega] at ln
  obtain ⟨ln1, ln2, ln3⟩ := ln
  have small : ∀ {l m : List Nat} {f : Nat → Bool} {i : Nat}, m = l → l.length ≤ 24 → (nts ((m.take i).filter f)).length < sizeLine := fun e h => by
    rw [nts_len, e]
    exact Nat.lt_of_le_of_lt (Nat.le_trans (List.length_filter_le _ _) (by rw [List.length_take]; omega)) (by decide : 24 < sizeLine)
  refine lc_list (a := D1) (xs := nts (lL R S x)) (fun i H4 => Same H3 H4 ∧ H4 D2 = some (.lst (nts (((lL R S x).take i).filter fun y => decide (y < R) == decide (x < R))))) ⟨same_new nD2 _, upd_same⟩ (fun i H4 _ ⟨s4, _⟩ => SqL.of (s4 _ _ hD3)) ?_ ?_
  · rintro i z H4 hz ⟨s4, hD4⟩
    obtain ⟨y, hy, rfl⟩ := nts_get hz
    have hT4 := hT3.same s4
    have hI4 := s4 _ _ hI3
    refine ⟨rfl, _, rfl, t, dx, _, rfl, hI4, tf_no _ _ _ (by decide +kernel), _, rfl, t, d, R, S, (y : Int), rfl, hT4, _, rfl, t, dx, _, rfl, hI4, tf_no _ _ _ (by decide +kernel), _, rfl, t, d, R, S, (x : Int), rfl, hT4, rfl, _, rfl, ?_⟩
    rw [tk hy, List.filter_append]
    have eb : decide (V.bl (decide ((y : Int) < (R : Int))) = V.bl (decide ((x : Int) < (R : Int)))) = (decide (y < R) == decide (x < R)) := by
      rw [show decide ((y : Int) < (R : Int)) = decide (y < R) from by rw [Bool.eq_iff_iff, decide_eq_true_iff, decide_eq_true_iff]; omega, show decide ((x : Int) < (R : Int)) = decide (x < R) from by rw [Bool.eq_iff_iff, decide_eq_true_iff, decide_eq_true_iff]; omega]
      cases decide (y < R) <;> cases decide (x < R) <;> rfl
    rw [eb]
    cases hb : decide (y < R) == decide (x < R) with
    | true =>
      refine iteT ⟨_, rfl, _, hD4, small rfl (by omega), up3 s4 nD2, ?_⟩
      rw [show List.filter (fun y => decide (y < R) == decide (x < R)) [y] = [y] by simp only [List.filter_cons, hb, if_true, List.filter_nil], nts_app]
      exact upd_same
    | false =>
      refine iteF ⟨s4, ?_⟩
      rw [show List.filter (fun y => decide (y < R) == decide (x < R)) [y] = [] by simp [List.filter_cons, hb], List.append_nil]
      exact hD4
  rintro H4 ⟨s4, hD4⟩
  rw [nts_len, List.take_length] at hD4
  change H4 D2 = some (.lst (nts (lO R S x))) at hD4
  have hI4 := s4 _ _ hI3
  have hA4 := s4 _ _ hA3
  have hT4 := hT3.same s4
  have hL4 := s4 _ _ hD3
  -- later
  refine ⟨_, rfl, D2, rfl, ⟨_, SqL.of hD4⟩, fun D3 nD3 => ?_⟩
  refine lc_list (a := D2) (xs := nts (lO R S x)) (fun i H5 => Same H4 H5 ∧ H5 D3 = some (.lst (nts (((lO R S x).take i).filter fun y => decide (x < y))))) ⟨same_new nD3 _, upd_same⟩ (fun i H5 _ ⟨s5, _⟩ => SqL.of (s5 _ _ hD4)) ?_ ?_
  · rintro i z H5 hz ⟨s5, hD5⟩
    obtain ⟨y, hy, rfl⟩ := nts_get hz
    refine ⟨rfl, _, rfl, _, rfl, _, _, rfl, rfl, _, rfl, ?_⟩
    rw [tk hy, List.filter_append]
    have eb : decide ((y : Int) > (x : Int)) = decide (x < y) := by rw [Bool.eq_iff_iff, decide_eq_true_iff, decide_eq_true_iff]; omega
    rw [eb]
    have lo24 : (lO R S x).length ≤ 24 := by rw [ln2]; split <;> omega
    cases hb : decide (x < y) with
    | true =>
      refine iteT ⟨_, rfl, _, hD5, small rfl lo24, up3 s5 nD3, ?_⟩
      rw [show List.filter (fun y => decide (x < y)) [y] = [y] by simp only [List.filter_cons, hb, if_true, List.filter_nil], nts_app]
      exact upd_same
    | false =>
      refine iteF ⟨s5, ?_⟩
      rw [show List.filter (fun y => decide (x < y)) [y] = [] by simp only [List.filter_cons, hb, List.filter_nil]; rfl, List.append_nil]
      exact hD5
  rintro H5 ⟨s5, hD5⟩
  rw [nts_len, List.take_length] at hD5
  change H5 D3 = some (.lst (nts (lM R S x))) at hD5
  have hI5 := s5 _ _ hI4
  have hA5 := s5 _ _ hA4
  have hT5 := hT4.same s5
  have hL5 := s5 _ _ hL4
  have hO5 := s5 _ _ hD4
  -- len(later), is_first, many
  refine ⟨D3, _, rfl, .inl (SqL.of hD5), ?_⟩
  rw [nts_len]
  refine ⟨_, rfl, t, dx, _, rfl, hI5, tf_no _ _ _ (by decide +kernel), _, rfl, t, d, R, S, (x : Int), rfl, hT5, _, rfl, t, dx, _, rfl, hI5, tf_no _ _ _ (by decide +kernel), _, rfl, a, _, _, _, rfl, rfl, SqL.of hA5, rfl, t, d, R, S, (x : Int), rfl, hT5, rfl, ?_⟩
  rw [show decide (V.bl (decide ((x : Int) < (R : Int))) = V.bl (decide ((x : Int) < (R : Int)))) = true from decide_eq_true rfl]
  obtain ⟨n, c, l, eb, e1, e2, e3, n1, n2, c1, l1⟩ : ∃ n c l : Nat, bl R S x = bw n c l ∧ (lM R S x).length = l ∧ (lO R S x).length = n - 1 ∧ (lL R S x).length = n - 1 + c ∧ 1 ≤ n ∧ n ≤ 12 ∧ c ≤ 12 ∧ l ≤ n - 1 := by
    by_cases h : x < R
    · refine ⟨R, S, R - 1 - x, ?_, ?_, ?_, by rw [ln1]; omega, R1, R2, S2, by omega⟩
      · unfold bl
        rw [if_pos h]
      · rw [ln3, if_pos h]
      · rw [ln2, if_pos h]
    · refine ⟨S, R, S - 1 - (x - R), ?_, ?_, ?_, by rw [ln1]; omega, S1, S2, R2, by omega⟩
      · unfold bl
        rw [if_neg h]
      · rw [ln3, if_neg h]
      · rw [ln2, if_neg h]
  rw [e1]
  rw [eb] at k
  have k5 : Keep d H H5 := Keep.same ((s12.trans s3).trans (s4.trans s5))
  have fd : ∀ {D : Addr} {L : List V}, H5 D = some (.lst L) → D ≠ d := fun h => ne_of h (by
    have q := ((s12.trans s3).trans (s4.trans s5)) _ _ hD
    exact q) (by intro z; cases z)
  refine ⟨_, rfl, _, _, rfl, rfl, (l : Int) + 1, rfl, by omega, by omega, ?_⟩
  have el : ((l : Int) + 1).toNat = l + 1 := by omega
  refine for_range (fun i σ H' => ∃ v8, i ≤ l + 1 ∧ σ = [some (.ref t), some (.ref a), some (.int (x : Int)), some (.ref D1), some (.ref D2), some (.int (l : Int)), some (.bl true), some (.int ((sm (bwT n c l) i : Nat) : Int)), v8, none] ∧ Keep d H5 H' ∧ TlAt P w C t d R S H') ⟨none, Nat.zero_le _, rfl, Keep.refl _ _, hT5⟩ ?_ ?_
  · rintro i σ H6 hi ⟨v8, hil, rfl, k6, hT6⟩
    rw [el] at hi
    rw [Int.zero_add]
    obtain ⟨⟨dx6, hI6⟩, _⟩ := id hT6
    have hL6 := k6 _ _ (fd hL5) hL5
    have hO6 := k6 _ _ (fd hO5) hO5
    have ecb := cb_ok ⟨l, by omega⟩ ⟨i, by omega⟩ (by show i ≤ l; omega)
    have lcb := cb_lt ⟨l, by omega⟩ ⟨i, by omega⟩
    dsimp only at ecb lcb
    refine ⟨_, rfl, _, rfl, _, rfl, _, _, rfl, by omega, by omega, by omega, ?_⟩
    rw [ecb]
    refine ⟨_, rfl, t, dx6, _, rfl, hI6, tf_no _ _ _ (by decide +kernel), _, rfl, _, rfl, D2, _, rfl, .inl (SqL.of hO6), _, rfl, _, _, rfl, rfl, _, rfl, D1, _, rfl, .inl (SqL.of hL6), _, rfl, D2, _, rfl, .inl (SqL.of hO6), _, _, rfl, rfl, ?_⟩
    refine ⟨t, d, R, S, true, n - 1 - i, c, ?_, hT6, by omega, c1, by omega, fun H7 k7 hT7 => ?_⟩
    · show [V.ref t, V.bl true, V.int (((nts (lO R S x)).length : Nat) - (i : Int)), V.int ((((nts (lL R S x)).length : Nat) : Int) - (((nts (lO R S x)).length : Nat) : Int))] = _
      rw [nts_len, nts_len, e2, e3, show ((n - 1 : Nat) : Int) - (i : Int) = ((n - 1 - i : Nat) : Int) by omega, show ((n - 1 + c : Nat) : Int) - ((n - 1 : Nat) : Int) = (c : Int) by omega]
    refine ⟨_, _, rfl, rfl, .inl ⟨by omega, by omega⟩, _, _, rfl, rfl, ?_⟩
    refine ⟨some (.int (i : Int)), hi, ?_, k6.trans k7, hT7⟩
    have es : ((sm (bwT n c l) i : Nat) : Int) + ((cb l i : Nat) : Int) * ((th true (n - 1 - i) c : Nat) : Int) = ((sm (bwT n c l) (i + 1) : Nat) : Int) := by
      show _ = ((sm (bwT n c l) i + cb l i * th true (n - 1 - i) c : Nat) : Int)
      simp only [Int.natCast_add, Int.natCast_mul]
    rw [← es]
    rfl
  · rintro σ H6 ⟨v8, _, rfl, k6, hT6⟩
    rw [el]
    exact ⟨_, rfl, k H6 (k5.trans k6) hT6⟩
end
end KD

/-! All effects of a board; their number. -/
namespace KD
open PySem L2 TL EM
def sums (f : Nat → Nat) (n : Nat) : List Int := (List.range n).map fun i : Nat => ((f i : Nat) : Int)
theorem sums_succ (f : Nat → Nat) (n : Nat) : sums f (n + 1) = sums f n ++ [((f n : Nat) : Int)] := by
  unfold sums
  rw [List.range_succ, List.map_append]
  rfl
theorem sums_sum (f : Nat → Nat) : ∀ n : Nat, (sums f n).sum = ((sm f n : Nat) : Int)
  | 0 => rfl
  | n + 1 => by
    rw [sums_succ, List.sum_append, sums_sum f n]
    show ((sm f n : Nat) : Int) + (((f n : Nat) : Int) + 0) = ((sm f n + f n : Nat) : Int)
    rw [Int.add_zero, Int.natCast_add]
theorem sums_len (f : Nat → Nat) (n : Nat) : (sums f n).length = n := by unfold sums; rw [List.length_map, List.length_range]
def spAll (C : Addr) (P : Program) (w : World) : Sp := fun vs H Q _ => ∃ (t d : Addr) (R S : Nat), vs = [.ref t] ∧ TlAt P w C t d R S H ∧ 1 ≤ R ∧ R ≤ 12 ∧ 1 ≤ S ∧ S ≤ 12 ∧ ∀ H', Keep d H H' → TlAt P w C t d R S H' → Q (.int ((cnt R S : Nat) : Int)) H'
def spCount : Sp := fun vs H Q _ => ∃ R S : Nat, vs = [.int (R : Int), .int (S : Int)] ∧ 1 ≤ R ∧ R ≤ 12 ∧ 1 ≤ S ∧ S ≤ 12 ∧ ∀ H', Same H H' → Q (.int ((cnt R S : Nat) : Int)) H'
section
variable {P : Program} {w : World} {K : PySem.W.Frag} {mg : Str → Option Value} {base : Heap} {C : Addr}
theorem scAll : FnScope ["self", "line"] ["self"] (defScope S_Tally_all_effects) := ⟨rfl, rfl, rfl, by decide +kernel, rfl, by decide +kernel, by decide +kernel⟩
theorem ok_all {f fG : Addr} {fd fdG : FuncData} (F : Fun K "all_effects" "Tally.all_effects" S_Tally_all_effects f fd) (B : Blt mg) (hsum : mg "sum" = none) (T : TTxt K mg C)
    (GG : FnOk P w K mg base CX0 26 fG fdG ["self", "lines"] (spBegin C P w)) (mG : Meth K C "beginning_with" fG) (bG : Binds K fdG ["self", "lines"] []) : FnOk P w K mg base CX0 27 f fd ["self"] (spAll C P w) := by
  refine F.ok scAll (fun vs H Q E h => ?_) (fun cdv A outer s0 H vs Q E hr h => ?_)
  · obtain ⟨t, d, R, S, rfl, _⟩ := h
    rfl
  obtain ⟨t, d, R, S, rfl, hT, R1, R2, S1, S2, k⟩ := h
  refine ⟨_, pss_one (ps_ret (pe_op op_add pe_int (pe_callB (cr_sum rfl) (by rfl) hsum (by decide +kernel) (pa_cons (pe_lc (own := [("line", 1)]) (g := gName 1) rfl scAll.nd
    (pi_range1 rfl B.range (pa_cons (pe_op op_add (pe_fld (pv 0) rfl) (pe_fld (pv 0) rfl)) pa_nil))
    (blkOk_by (own := [("line", 1)]) (N := ["self", "line"]) (sc := defScope S_Tally_all_effects) (by decide +kernel)) (fun _ _ _ _ _ => pg_name (i := 1) scAll.nd rfl (Or.inl rfl)) (fun _ _ _ _ _ => pts_nil)
    (fun _ _ _ _ _ => pe_meth (pv 0) T.cl mG GG hr bG .nil pass0 (pa_cons (pe_lst (pa_cons (pv 1) pa_nil)) pa_nil))) pa_nil)))), ?_⟩
  obtain ⟨⟨dx, hI⟩, xs, hD, hM⟩ := id hT
  refine ⟨_, rfl, t, C, dx, _, _, rfl, hI, T.cl, T.nR, tf_rows _ _ _, _, rfl, t, C, dx, _, _, rfl, hI, T.cl, T.nC, tf_cols _ _ _, _, _, rfl, rfl, _, rfl, by omega, by omega, fun D nD => ?_⟩
  have eRS : ((R : Int) + (S : Int)).toNat = R + S := by omega
  refine lc_range (fun i H' => Keep d H H' ∧ TlAt P w C t d R S H' ∧ H' D = some (.lst ((sums (bl R S) i).map V.int))) ⟨Keep.same (same_new nD _), hT.same (same_new nD _), upd_same⟩ ?_ ?_
  · rintro i H1 hi ⟨k1, hT1, hD1⟩
    rw [eRS] at hi
    rw [Int.zero_add]
    refine ⟨rfl, ?_⟩
    unfold tYes
    refine iteT ?_
    obtain ⟨⟨dx1, hI1⟩, xs1, hd1, _⟩ := id hT1
    refine ⟨_, rfl, t, dx1, _, rfl, hI1, tf_no _ _ _ (by decide +kernel), _, rfl, (by show 1 ≤ sizeLine; decide), fun p hp => ?_⟩
    have s2 := same_new hp (.lst [.int (i : Int)])
    have nDd : D ≠ d := ne_of hD1 hd1 (by intro z; cases z)
    refine ⟨t, d, p, R, S, i, rfl, hT1.same s2, upd_same, R1, R2, S1, S2, by omega, fun H2 k2 hT2 => ?_⟩
    have hD2 : H2 D = some (.lst ((sums (bl R S) i).map V.int)) := k2 _ _ nDd (s2 _ _ hD1)
    refine ⟨_, hD2, ?_, fun b o n h => ?_, ?_, ?_⟩
    · rw [List.length_map, sums_len]
      exact Nat.lt_of_lt_of_le hi (Nat.le_trans (by omega : R + S ≤ 24) (by decide))
    · rw [upd_ne (ne_of_none h nD)]
      exact k2 _ _ n (s2 _ _ (k1 _ _ n h))
    · obtain ⟨⟨dx2, hI2⟩, xs2, hd2, hm2⟩ := hT2
      have ht : t ≠ D := ne_of hI2 hD2 (by intro z; cases z)
      exact ⟨⟨dx2, by rw [upd_ne ht]; exact hI2⟩, xs2, by rw [upd_ne nDd.symm]; exact hd2, ⟨fun x hx => by rw [upd_ne (ne_of (hm2.ks x hx) hD2 (by intro z; cases z))]; exact hm2.ks x hx, hm2.nd, hm2.val⟩⟩
    · rw [sums_succ, List.map_append]
      exact upd_same
  · rintro H1 ⟨k1, hT1, hD1⟩
    rw [eRS] at hD1
    refine ⟨D, sums (bl R S) (R + S), rfl, SqL.of hD1, _, _, rfl, rfl, ?_⟩
    have q := k H1 k1 hT1
    rw [sums_sum]
    have e : (1 : Int) + ((sm (bl R S) (R + S) : Nat) : Int) = ((cnt R S : Nat) : Int) := by
      show _ = ((1 + sm (bl R S) (R + S) : Nat) : Int)
      omega
    show Q (.int ((1 : Int) + ((sm (bl R S) (R + S) : Nat) : Int))) H1
    rw [e]
    exact q
theorem scCount : FnScope ["rows", "columns"] ["rows", "columns"] (defScope S_count_effects) := ⟨rfl, rfl, rfl, by decide +kernel, rfl, by decide +kernel, by decide +kernel⟩
theorem ok_count {f fB fI fA : Addr} {fd fdB fdI fdA : FuncData} (F : Fun K "count_effects" "count_effects" S_count_effects f fd) (T : TTxt K mg C)
    (GB : FnOk P w K mg base CX0 2 fB fdB ["rows", "columns"] spBoard) (mB : mg "check_board" = some (.ref fB)) (kB : PySem.W.keepIn K (.ref fB) = true) (bB : Binds K fdB ["rows", "columns"] [])
    (MK : Mk K C fI) (GI : FnOk P w K mg base CX0 1 fI fdI ["self", "rows", "columns"] (spTInit C P w)) (bI : Binds K fdI ["self", "rows", "columns"] [])
    (GA : FnOk P w K mg base CX0 27 fA fdA ["self"] (spAll C P w)) (mA : Meth K C "all_effects" fA) (bA : Binds K fdA ["self"] []) : FnOk P w K mg base CX0 28 f fd ["rows", "columns"] spCount := by
  refine F.ok scCount (fun vs H Q E h => ?_) (fun cdv A outer s0 H vs Q E hr h => ?_)
  · obtain ⟨R, S, rfl, _⟩ := h
    rfl
  obtain ⟨R, S, rfl, R1, R2, S1, S2, k⟩ := h
  have hr2 : Room 2 _ := hr.mono (by decide)
  refine ⟨_, pss_cons (ps_expr (pe_call GB hr2 rfl mB kB bB .nil pass0 (pa_cons (pv 0) (pa_cons (pv 1) pa_nil))))
    (pss_one (ps_ret (pe_meth0 (pe_make MK GI hr2 rfl T.mgC bI .nil pass0 (pa_cons (pv 0) (pa_cons (pv 1) pa_nil))) T.cl mA GA hr bA .nil pass0))), ?_⟩
  refine ⟨_, rfl, _, rfl, _, _, rfl, by omega, by omega, by omega, by omega, fun H1 s1 => ?_⟩
  refine ⟨_, rfl, _, rfl, fun t dx nt nd ne => ?_⟩
  have s2 : Same H1 (upd (upd H1 dx (.own t)) t (.ins C dx [])) := fun b o e => by
    rw [upd_ne (ne_of_none e nt), upd_ne (ne_of_none e nd)]
    exact e
  refine ⟨t, dx, R, S, rfl, upd_same, fun H2 d k2 hd hT => ?_⟩
  obtain ⟨⟨dx2, hI2⟩, _⟩ := id hT
  refine ⟨rfl, t, dx2, _, rfl, hI2, tf_no _ _ _ (by decide +kernel), t, d, R, S, rfl, hT, R1, R2, S1, S2, fun H3 k3 hT3 => ?_⟩
  refine k H3 fun b o e => ?_
  have e1 := s1 _ _ e
  have n1 : b ≠ t := ne_of_none e1 nt
  exact k3 _ _ (ne_of_none (s2 _ _ e1) hd) (k2 _ _ n1 (s2 _ _ e1))
end
end KD

/-! The law's own numbers. -/
namespace KD
open PySem L2 TL EM
def us2 : List Value := [.type "tuple", .type "list"]
theorem cls2 : Paired ClsV [.ty "tuple", .ty "list"] us2 := .cons (.ty _) (.cons (.ty _) .nil)
theorem kit2 {K : PySem.W.Frag} {a : String} {b1 b2 b : Bool} (h1 : kitB a "tuple" = some b1) (h2 : kitB a "list" = some b2) (hb : b = (b1 || b2)) : PySem.W.kitAny K (.type a) us2 = some b := by
  subst hb
  exact kitAny_cons (b := b1) (kit_ty h1) (fun e => by rw [e]; exact kitAny_cons (b := b2) (kit_ty h2) (fun e2 => by rw [e2]; exact kitAny_nil) (fun e2 => by rw [e2]; rfl)) (fun e => by rw [e]; rfl)
def ontoL (n p : Nat) : List Int := (List.range (p + 1)).map fun j : Nat => ((oo n j : Nat) : Int)
def spOnto : Sp := fun vs H Q _ => ∃ n p : Nat, vs = [.int (n : Int), .int (p : Int)] ∧ n ≤ 12 ∧ p ≤ 12 ∧ ∀ H', Same H H' → Q (.int ((oo n p : Nat) : Int)) H'
def spChoose : Sp := fun vs H Q _ => ∃ n p : Nat, vs = [.int (n : Int), .int (p : Int)] ∧ n ≤ 12 ∧ p ≤ n ∧ ∀ H', Same H H' → Q (.int ((cb n p : Nat) : Int)) H'
def spAlI : Sp := fun vs H Q _ => ∃ z : Int, vs = [.int z, .int z] ∧ ∀ H', Same H H' → Q (.bl true) H'
theorem onto0 : ∀ p : Fin 13, [V.int 1] ++ (List.replicate (p.val : Int).toNat [V.int 0]).flatten = (ontoL 0 p.val).map V.int := by decide +kernel
theorem ontoL_get {n p j : Nat} (h : j ≤ p) : ((ontoL n p).map V.int)[j]? = some (.int ((oo n j : Nat) : Int)) := by
  unfold ontoL
  rw [List.getElem?_map, List.getElem?_map, List.getElem?_range (by omega)]
  rfl
theorem ontoL_len (n p : Nat) : ((ontoL n p).map V.int).length = p + 1 := by unfold ontoL; rw [List.length_map, List.length_map, List.length_range]
section
variable {P : Program} {w : World} {K : PySem.W.Frag} {mg : Str → Option Value} {base : Heap}
theorem scAlike : FnScope ["found", "due", "k"] ["found", "due"] (defScope S__law_alike) := ⟨rfl, rfl, rfl, by decide +kernel, rfl, by decide +kernel, by decide +kernel⟩
theorem ok_alI {f : Addr} {fd : FuncData} (F : Fun K "_law_alike" "_law_alike" S__law_alike f fd) (T : Blt mg) : FnOk P w K mg base CX0 1 f fd ["found", "due"] spAlI := by
  refine F.ok scAlike (fun vs H Q E h => ?_) (fun cdv A outer s0 H vs Q E hr h => ?_)
  · obtain ⟨z, rfl, _⟩ := h
    rfl
  obtain ⟨z, rfl, k⟩ := h
  refine ⟨_, pss_cons (ps_if (pt_val (pe_callB call_isiT (by rfl) T.isi (by decide +kernel) (pa_cons (pv 1) (pa_cons (pe_tup (pa_cons (pe_bltn (v := .ty "tuple") (by rfl) T.tup (by decide +kernel) rfl) (pa_cons (pe_bltn (v := .ty "list") (by rfl) T.list (by decide +kernel) rfl) pa_nil))) pa_nil)))) pss_never pss_nil)
    (pss_cons (ps_if (PW.pt (pw_or (pt_cmp (pc_isN (pv 1))) (pw_or1 (pt_val (pe_callB call_isi (by rfl) T.isi (by decide +kernel) (pa_cons (pv 1) (pa_cons (pe_bltn (v := .ty "str") (by rfl) T.str (by decide +kernel) rfl) pa_nil))))))) pss_never pss_nil)
    (pss_one (ps_ret (pe_and (pe_callB call_isi (by rfl) T.isi (by decide +kernel) (pa_cons (pv 0) (pa_cons (pe_bltn (v := .ty "int") (by rfl) T.int (by decide +kernel) rfl) pa_nil)))
      (pe_and (pe_cmpR op_eq
        (pe_callB call_isi (by rfl) T.isi (by decide +kernel) (pa_cons (pv 0) (pa_cons (pe_bltn (v := .ty "bool") (by rfl) T.bool (by decide +kernel) rfl) pa_nil)))
        (pe_callB call_isi (by rfl) T.isi (by decide +kernel) (pa_cons (pv 1) (pa_cons (pe_bltn (v := .ty "bool") (by rfl) T.bool (by decide +kernel) rfl) pa_nil))) (nomark _))
      (pe_one (pe_cmpR op_eq (pv 0) (pv 1) (nomark _)))))))), ?_⟩
  refine ⟨_, rfl, (by show 2 ≤ sizeLine; decide), fun tp htp => ⟨_, tp, _, _, us2, false, rfl, upd_same, cls2, .base (.int _), kit2 (b1 := false) (b2 := false) (by decide +kernel) (by decide +kernel) rfl, false, rfl, iteF ?_⟩⟩
  refine ⟨_, rfl, _, rfl, iteF ?_⟩
  refine ⟨_, rfl, _, _, _, _, false, rfl, .ty "str", .base (.int _), kit_ty (by decide +kernel), false, rfl, iteF ?_⟩
  refine ⟨_, rfl, _, _, _, _, true, rfl, .ty "int", .base (.int _), kit_ty (by decide +kernel), true, rfl, iteT ?_⟩
  refine ⟨_, rfl, _, _, _, _, false, rfl, .ty "bool", .base (.int _), kit_ty (by decide +kernel), _, rfl, _, _, _, _, false, rfl, .ty "bool", .base (.int _), kit_ty (by decide +kernel), rfl, true, rfl, iteT ?_⟩
  refine ⟨_, rfl, _, rfl, rfl, ?_⟩
  show Q (.bl (decide (V.int z = V.int z))) _
  rw [decide_eq_true rfl]
  exact k _ (same_new htp _)
theorem scCh : FnScope ["many", "some", "found", "step"] ["many", "some"] (defScope S__law_choose) := ⟨rfl, rfl, rfl, by decide +kernel, rfl, by decide +kernel, by decide +kernel⟩
theorem ok_choose {f : Addr} {fd : FuncData} (F : Fun K "_law_choose" "_law_choose" S__law_choose f fd) (T : Blt mg) : FnOk P w K mg base CX0 1 f fd ["many", "some"] spChoose := by
  refine F.ok scCh (fun vs H Q E h => ?_) (fun cdv A outer s0 H vs Q E hr h => ?_)
  · obtain ⟨n, p, rfl, _⟩ := h
    rfl
  obtain ⟨n, p, rfl, hn, hp, k⟩ := h
  refine ⟨_, pss_cons (ps_set (i := 2) scCh.nd rfl (Or.inl rfl) pe_int)
    (pss_cons (ps_for PassesOwn.never rfl (pi_range1 rfl T.range (pa_cons (pv 1) pa_nil)) (pg_name (i := 3) scCh.nd rfl (Or.inl rfl))
      (pss_one (ps_set (i := 2) scCh.nd rfl (Or.inl rfl) (pe_op op_fdiv (pe_op op_mul (pv 2) (pe_op op_sub (pv 0) (pv 3))) (pe_op op_add (pv 3) pe_int)))))
    (pss_one (ps_ret (pv 2)))), ?_⟩
  have ep : ((p : Nat) : Int).toNat = p := by omega
  refine ⟨_, rfl, (p : Int), rfl, by omega, by omega, ?_⟩
  refine for_range (fun i σ H' => ∃ v3, i ≤ p ∧ σ = [some (.int (n : Int)), some (.int (p : Int)), some (.int ((cb n i : Nat) : Int)), v3] ∧ H' = H) ⟨none, Nat.zero_le _, ?_, rfl⟩ ?_ ?_
  · rw [cb_0 ⟨n, by omega⟩]
    rfl
  · rintro i σ H' hi ⟨v3, _, rfl, rfl⟩
    rw [ep] at hi
    rw [Int.zero_add]
    have st := cb_step ⟨n, by omega⟩ ⟨i, by omega⟩ (by show i < n; omega)
    have lt := cb_lt ⟨n, by omega⟩ ⟨i, by omega⟩
    dsimp only at st lt
    refine ⟨_, rfl, _, rfl, _, rfl, _, _, rfl, rfl, _, _, rfl, rfl, .inl ⟨by omega, by omega⟩, _, rfl, _, _, rfl, rfl, _, _, rfl, rfl, ⟨by omega, by omega⟩, ?_⟩
    refine ⟨some (.int (i : Int)), hi, ?_, rfl⟩
    rw [← st]
    rfl
  · rintro σ H' ⟨v3, _, rfl, rfl⟩
    rw [ep]
    exact ⟨_, rfl, k _ (Same.refl _)⟩
abbrev onN : List Str := ["many", "parts", "found", "step", "part"]
theorem scOn : FnScope onN ["many", "parts"] (defScope S__law_onto) := ⟨rfl, rfl, rfl, by decide +kernel, rfl, by decide +kernel, by decide +kernel⟩
theorem ok_onto {f : Addr} {fd : FuncData} (F : Fun K "_law_onto" "_law_onto" S__law_onto f fd) (T : Blt mg) : FnOk P w K mg base CX0 1 f fd ["many", "parts"] spOnto := by
  refine F.ok scOn (fun vs H Q E h => ?_) (fun cdv A outer s0 H vs Q E hr h => ?_)
  · obtain ⟨n, p, rfl, _⟩ := h
    rfl
  obtain ⟨n, p, rfl, hn, hp, k⟩ := h
  refine ⟨_, pss_cons (ps_set (i := 2) scOn.nd rfl (Or.inr rfl) (pe_op op_cat (pe_lst (pa_cons pe_int pa_nil)) (pe_op op_rep (pe_lst (pa_cons pe_int pa_nil)) (pv 1))))
    (pss_cons (ps_for PassesOwn.never rfl (pi_range1 rfl T.range (pa_cons (pv 0) pa_nil)) (pg_name (i := 3) scOn.nd rfl (Or.inl rfl))
      (pss_one (ps_set (i := 2) scOn.nd rfl (Or.inr rfl) (pe_op op_cat (pe_lst (pa_cons pe_int pa_nil)) (pe_lc (own := [("part", 4)]) (g := gName 4) rfl scOn.nd
        (pi_range2 rfl T.range (pa_cons pe_int (pa_cons (pe_op op_add (pv 1) pe_int) pa_nil)))
        (blkOk_by (own := [("part", 4)]) (N := onN) (sc := defScope S__law_onto) (by decide +kernel)) (fun _ _ _ _ _ => pg_name (i := 4) scOn.nd rfl (Or.inl rfl)) (fun _ _ _ _ _ => pts_nil)
        (fun _ _ _ _ _ => pe_op op_mul (pv 4) (pe_op op_add (pe_ix (r := rIxL K) ix_list (pv 2) (pv 4) (fun _ _ => rfl)) (pe_ix (r := rIxL K) ix_list (pv 2) (pe_op op_sub (pv 4) pe_int) (fun _ _ => rfl)))))))))
    (pss_one (ps_ret (pe_ix ix_list (pv 2) (pv 1) (fun _ _ => rfl))))), ?_⟩
  refine ⟨(by show 1 ≤ sizeLine; decide), fun a ha => ?_⟩
  refine ⟨(by show 1 ≤ sizeLine; decide), fun b hb => ?_⟩
  have s1 := (same_new ha (.lst [.int 1])).trans (same_new hb (.lst [.int 0]))
  have ua : (upd (upd H a (.lst [.int 1])) b (.lst [.int 0])) a = some (.lst [.int 1]) := by rw [upd_ne (ne_of_none upd_same hb)]; exact upd_same
  have ub : (upd (upd H a (.lst [.int 1])) b (.lst [.int 0])) b = some (.lst [.int 0]) := upd_same
  generalize upd (upd H a (.lst [.int 1])) b (.lst [.int 0]) = H1 at s1 ua ub ⊢
  refine ⟨_, rfl, b, (p : Int), _, rfl, rfl, ub, by omega, by omega, ?_, fun c hc => ?_⟩
  · show 1 * ((p : Int)).toNat ≤ sizeLine
    exact Nat.le_trans (by omega : 1 * ((p : Int)).toNat ≤ 12) (by decide)
  have s2 := s1.trans (same_new hc (.lst (List.replicate ((p : Int)).toNat [V.int 0]).flatten))
  have ua2 : (upd H1 c (.lst (List.replicate ((p : Int)).toNat [V.int 0]).flatten)) a = some (.lst [.int 1]) := by rw [upd_ne (ne_of_none ua hc)]; exact ua
  have uc2 : (upd H1 c (.lst (List.replicate ((p : Int)).toNat [V.int 0]).flatten)) c = some (.lst (List.replicate ((p : Int)).toNat [V.int 0]).flatten) := upd_same
  generalize upd H1 c (.lst (List.replicate ((p : Int)).toNat [V.int 0]).flatten) = H2 at s2 ua2 uc2 ⊢
  have e0 := onto0 ⟨p, by omega⟩
  dsimp only at e0
  have l0 : ([V.int 1] ++ (List.replicate ((p : Int)).toNat [V.int 0]).flatten).length ≤ 13 := by rw [e0, ontoL_len]; omega
  refine ⟨a, c, _, _, rfl, rfl, ua2, uc2, ?_, fun q hq => ?_⟩
  · rw [List.length_append] at l0
    exact Nat.le_trans l0 (by decide)
  rw [e0]
  have s3 := s2.trans (same_new hq (.lst ((ontoL 0 p).map V.int)))
  have en : ((n : Nat) : Int).toNat = n := by omega
  refine ⟨_, rfl, (n : Int), rfl, by omega, by omega, ?_⟩
  refine for_range (fun i σ H' => ∃ v3 q, i ≤ n ∧ σ = [some (.int (n : Int)), some (.int (p : Int)), some (.ref q), v3, none] ∧ Same H H' ∧ H' q = some (.lst ((ontoL i p).map V.int))) ⟨none, q, Nat.zero_le _, rfl, s3, upd_same⟩ ?_ ?_
  · rintro i σ H3 hi ⟨v3, q, _, rfl, s3, hq⟩
    rw [en] at hi
    refine ⟨(by show 1 ≤ sizeLine; decide), fun a ha => ?_⟩
    have s4 := s3.trans (same_new ha (.lst [.int 0]))
    have ha4 : (upd H3 a (.lst [.int 0])) a = some (.lst [.int 0]) := upd_same
    have hq4 : (upd H3 a (.lst [.int 0])) q = some (.lst ((ontoL i p).map V.int)) := by rw [upd_ne (ne_of_none hq ha)]; exact hq
    generalize upd H3 a (.lst [.int 0]) = H4 at s4 ha4 hq4 ⊢
    refine ⟨_, rfl, _, _, rfl, rfl, 1, (p : Int) + 1, rfl, ⟨by decide, by decide, by omega, by omega⟩, fun D nD => ?_⟩
    have ep : ((p : Int) + 1 - 1).toNat = p := by omega
    refine lc_range (fun j H' => j ≤ p ∧ Same H4 H' ∧ H' D = some (.lst ((sums (fun j => oo (i + 1) (j + 1)) j).map V.int))) ⟨Nat.zero_le _, same_new nD _, upd_same⟩ ?_ ?_
    · rintro j H5 hj ⟨_, s5, hD⟩
      rw [ep] at hj
      have e1 : (1 + (j : Int)) = ((j + 1 : Nat) : Int) := by omega
      rw [e1]
      have hq5 := s5 _ _ hq4
      refine ⟨rfl, ?_⟩
      unfold tYes
      refine iteT ?_
      have oss := oo_ss ⟨i, by omega⟩ ⟨j, by omega⟩
      have ol1 := oo_lt ⟨i, by omega⟩ ⟨j, by omega⟩
      dsimp only at oss ol1
      refine ⟨_, rfl, _, rfl, _, rfl, q, _, _, _, rfl, rfl, SqL.of hq5, atI_nat (ontoL_get (by omega)), _, rfl, _, rfl, _, _, rfl, rfl, q, _, _, (.int ((oo i j : Nat) : Int)), rfl, rfl, SqL.of hq5, ?_, _, _, rfl, rfl, _, _, rfl, rfl, .inl ⟨by omega, by omega⟩, _, hD, ?_, by omega, fun b o h => ?_, ?_⟩
      · rw [show ((j + 1 : Nat) : Int) - 1 = ((j : Nat) : Int) by omega]
        exact atI_nat (ontoL_get (by omega))
      · rw [List.length_map, sums_len]
        exact Nat.lt_of_lt_of_le hj (Nat.le_trans hp (by decide))
      · rw [upd_ne (ne_of_none h nD)]
        exact s5 _ _ h
      · rw [sums_succ, List.map_append]
        have ev : ((oo (i + 1) (j + 1) : Nat) : Int) = ((j + 1 : Nat) : Int) * (((oo i (j + 1) : Nat) : Int) + ((oo i j : Nat) : Int)) := by
          rw [oss]
          simp only [Int.natCast_mul, Int.natCast_add]
        rw [ev]
        exact upd_same
    · rintro H5 ⟨_, s5, hD⟩
      rw [ep] at hD
      have hlen : ((sums (fun j => oo (i + 1) (j + 1)) p).map V.int).length = p := by rw [List.length_map, sums_len]
      refine ⟨a, D, _, _, rfl, rfl, s5 _ _ ha4, hD, ?_, fun q2 hq2 => ?_⟩
      · rw [hlen]
        exact Nat.le_trans (by omega : 1 + p ≤ 13) (by decide)
      have ee : [V.int 0] ++ (sums (fun j => oo (i + 1) (j + 1)) p).map V.int = (ontoL (i + 1) p).map V.int := by
        have z := oo_s0 ⟨i, by omega⟩
        dsimp only at z
        unfold ontoL sums
        rw [List.range_succ_eq_map, List.map_cons, List.map_cons, z, List.map_map, List.map_map, List.map_map]
        rfl
      rw [ee]
      exact ⟨_, q2, hi, rfl, (s4.trans s5).trans (same_new hq2 _), upd_same⟩
  · rintro σ H3 ⟨v3, q, _, rfl, s3, hq⟩
    rw [en] at hq
    exact ⟨_, rfl, _, rfl, q, _, _, _, rfl, rfl, SqL.of hq, atI_nat (ontoL_get (Nat.le_refl _)), k _ s3⟩
end
end KD

/-! The law. -/
namespace KD
open PySem L2 TL EM
abbrev lwN : List Str := ["script", "row", "high", "wide", "found", "one", "other", "some", "more", "ways", "parts"]
def sl (a r : Addr) (h w f : Nat) (v5 v6 v7 v8 v9 v10 : Option V) : L2.St := [some (.ref a), some (.ref r), some (.int (h : Int)), some (.int (w : Int)), some (.int (f : Int)), v5, v6, v7, v8, v9, v10]
def spLaw (K : PySem.W.Frag) : Sp := fun vs H Q _ => ∃ (a : Addr) (ns : List Int), vs = [.ref a] ∧ SqL K H a (ns.map V.int) ∧ ns.length ≤ 63 ∧ ∀ H', Q (.bl true) H'
def fnd (h w : Nat) : Nat → Nat
  | 0 => 1
  | 1 => 1 + gT h w
  | _ => 1 + gT h w + gT w h
section
variable {P : Program} {w : World} {K : PySem.W.Frag} {mg : Str → Option Value} {base : Heap}
theorem scLaw : FnScope lwN ["script"] (defScope S_law) := ⟨rfl, rfl, rfl, by decide +kernel, rfl, by decide +kernel, by decide +kernel⟩
theorem ok_law {f fT fA fO fC fE : Addr} {fd fdT fdA fdO fdC fdE : FuncData} (F : Fun K "law" "law" S_law f fd) (T : Blt mg)
    (GT : FnOk P w K mg base CX0 1 fT fdT ["row", "many"] (spTaken K)) (mT : mg "_law_taken" = some (.ref fT)) (kT : PySem.W.keepIn K (.ref fT) = true) (bT : Binds K fdT ["row", "many"] [])
    (GA : FnOk P w K mg base CX0 1 fA fdA ["found", "due"] spAlI) (mA : mg "_law_alike" = some (.ref fA)) (kA : PySem.W.keepIn K (.ref fA) = true) (bA : Binds K fdA ["found", "due"] [])
    (GO : FnOk P w K mg base CX0 1 fO fdO ["many", "parts"] spOnto) (mO : mg "_law_onto" = some (.ref fO)) (kO : PySem.W.keepIn K (.ref fO) = true) (bO : Binds K fdO ["many", "parts"] [])
    (GC : FnOk P w K mg base CX0 1 fC fdC ["many", "some"] spChoose) (mC : mg "_law_choose" = some (.ref fC)) (kC : PySem.W.keepIn K (.ref fC) = true) (bC : Binds K fdC ["many", "some"] [])
    (GE : FnOk P w K mg base CX0 28 fE fdE ["rows", "columns"] spCount) (mE : mg "count_effects" = some (.ref fE)) (kE : PySem.W.keepIn K (.ref fE) = true) (bE : Binds K fdE ["rows", "columns"] []) :
    FnOk P w K mg base CX0 29 f fd ["script"] (spLaw K) := by
  refine F.ok scLaw (fun vs H Q E h => ?_) (fun cdv A outer s0 H vs Q E hr h => ?_)
  · obtain ⟨a, ns, rfl, _⟩ := h
    rfl
  obtain ⟨a, ns, rfl, hS, h63, k⟩ := h
  have hr1 : Room 1 _ := hr.mono (by decide)
  refine ⟨_, pss_cons (ps_set (i := 1) scLaw.nd rfl (Or.inl rfl) (pe_lst (pa_cons (pv 0) (pa_cons pe_int (pa_cons pe_int (pa_cons pe_int pa_nil))))))
    (pss_cons (ps_par3 (i := 2) (j := 3) (l := 4) rfl scLaw.nd rfl rfl rfl (by decide) (by decide) (by decide) rfl rfl rfl (pa_cons (pe_op op_add pe_int (pe_call GT hr1 rfl mT kT bT .nil pass0 (pa_cons (pv 1) (pa_cons pe_int pa_nil)))) (pa_cons (pe_op op_add pe_int (pe_call GT hr1 rfl mT kT bT .nil pass0 (pa_cons (pv 1) (pa_cons pe_int pa_nil)))) (pa_cons pe_int pa_nil))) (by rfl))
    (pss_cons (ps_for PassesOwn.never rfl (pi_list (pe_lst (pa_cons (pe_tup (pa_cons (pv 2) (pa_cons (pv 3) pa_nil))) (pa_cons (pe_tup (pa_cons (pv 3) (pa_cons (pv 2) pa_nil))) pa_nil)))) (pg_tup rfl (pgs_cons (pg_name (i := 5) scLaw.nd rfl (Or.inl rfl)) (pgs_cons (pg_name (i := 6) scLaw.nd rfl (Or.inl rfl)) pgs_nil)))
      (pss_one (ps_for PassesOwn.never rfl (pi_range2 rfl T.range (pa_cons pe_int (pa_cons (pe_op op_add (pv 5) pe_int) pa_nil))) (pg_name (i := 7) scLaw.nd rfl (Or.inl rfl))
        (pss_one (ps_for PassesOwn.never rfl (pi_range1 rfl T.range (pa_cons (pv 6) pa_nil)) (pg_name (i := 8) scLaw.nd rfl (Or.inl rfl))
          (pss_cons (ps_set (i := 9) scLaw.nd rfl (Or.inl rfl) pe_int)
          (pss_cons (ps_for PassesOwn.never rfl (pi_range2 rfl T.range (pa_cons pe_int (pa_cons (pe_op op_add (pv 7) pe_int) pa_nil))) (pg_name (i := 10) scLaw.nd rfl (Or.inl rfl))
            (pss_one (ps_set (i := 9) scLaw.nd rfl (Or.inl rfl) (pe_op op_add (pv 9) (pe_op op_mul (pe_call GO hr1 rfl mO kO bO .nil pass0 (pa_cons (pv 7) (pa_cons (pv 10) pa_nil)))
              (pe_op op_add (pe_call GO hr1 rfl mO kO bO .nil pass0 (pa_cons (pv 8) (pa_cons (pv 10) pa_nil))) (pe_call GO hr1 rfl mO kO bO .nil pass0 (pa_cons (pv 8) (pa_cons (pe_op op_sub (pv 10) pe_int) pa_nil)))))))))
          (pss_one (ps_set (i := 4) scLaw.nd rfl (Or.inl rfl) (pe_op op_add (pv 4) (pe_op op_mul (pe_op op_mul (pe_call GC hr1 rfl mC kC bC .nil pass0 (pa_cons (pv 5) (pa_cons (pv 7) pa_nil))) (pe_call GC hr1 rfl mC kC bC .nil pass0 (pa_cons (pv 6) (pa_cons (pv 8) pa_nil)))) (pv 9))))))))))))
    (pss_one (ps_ret (pe_and (pe_call GA hr1 rfl mA kA bA .nil pass0 (pa_cons (pe_call GE hr rfl mE kE bE .nil pass0 (pa_cons (pv 2) (pa_cons (pv 3) pa_nil))) (pa_cons (pv 4) pa_nil)))
      (pe_and (pe_cmpR op_eq (pe_call GE hr rfl mE kE bE .nil pass0 (pa_cons pe_int (pa_cons pe_int pa_nil))) pe_int (nomark _)) (pe_one (pe_cmpR op_eq (pe_call GE hr rfl mE kE bE .nil pass0 (pa_cons pe_int (pa_cons pe_int pa_nil))) pe_int (nomark _))))))))), ?_⟩
  refine ⟨_, rfl, (by show 4 ≤ sizeLine; decide), fun r nr => ?_⟩
  have row1 : RowAt (upd H r (.lst [.ref a, .int 0, .int 5523, .int 0])) r a := ⟨0, 5523, 0, upd_same, by decide, by decide, by decide⟩
  have same1 := same_new nr (.lst [.ref a, .int 0, .int 5523, .int 0])
  have u1 : (upd H r (.lst [.ref a, .int 0, .int 5523, .int 0])) r = some (.lst [.ref a, .int 0, .int 5523, .int 0]) := upd_same
  have scr1 : Scr K (upd H r (.lst [.ref a, .int 0, .int 5523, .int 0])) r a := ⟨ns, h63, fun H' kp => Same.seq (fun b o q => kp b o (ne_of_none q nr) (same1 b o q)) hS⟩
  generalize upd H r (.lst [.ref a, .int 0, .int 5523, .int 0]) = H1 at row1 same1 u1 scr1 ⊢
  refine ⟨_, rfl, r, a, 12, rfl, row1, scr1, by decide, by decide, fun H2 hv k2 R2 h0 h1 => ?_⟩
  obtain ⟨h, rfl⟩ : ∃ h : Nat, hv = (h : Int) := ⟨hv.toNat, by omega⟩
  refine ⟨_, _, rfl, rfl, _, rfl, r, a, 12, rfl, R2, scr1.mono k2, by decide, by decide, fun H3 wv k3 R3 w0 w1 => ?_⟩
  obtain ⟨w', rfl⟩ : ∃ w' : Nat, wv = (w' : Int) := ⟨wv.toNat, by omega⟩
  refine ⟨_, _, rfl, rfl, _, _, _, rfl, ?_⟩
  have eh : (1 : Int) + (h : Int) = ((h + 1 : Nat) : Int) := by omega
  have ew : (1 : Int) + (w' : Int) = ((w' + 1 : Nat) : Int) := by omega
  simp only [eh, ew]
  obtain ⟨h, rfl, h1, h2⟩ : ∃ g : Nat, h = g - 1 ∧ 1 ≤ g ∧ g ≤ 12 := ⟨h + 1, by omega, by omega, by omega⟩
  obtain ⟨w', rfl, w1, w2⟩ : ∃ g : Nat, w' = g - 1 ∧ 1 ≤ g ∧ g ≤ 12 := ⟨w' + 1, by omega, by omega, by omega⟩
  rw [show h - 1 + 1 = h by omega, show w' - 1 + 1 = w' by omega]
  refine ⟨_, rfl, _, rfl, (by show 2 ≤ sizeLine; decide), fun t1 n1 => ?_⟩
  refine ⟨_, rfl, _, rfl, (by show 2 ≤ sizeLine; decide), fun t2 n2 => ?_⟩
  refine ⟨(by show 2 ≤ sizeLine; decide), fun l nl => ?_⟩
  have ul : (upd (upd (upd H3 t1 (.tup [.int (h : Int), .int (w' : Int)])) t2 (.tup [.int (w' : Int), .int (h : Int)])) l (.lst [.ref t1, .ref t2])) l = some (.lst [.ref t1, .ref t2]) := upd_same
  have ut2 : (upd (upd (upd H3 t1 (.tup [.int (h : Int), .int (w' : Int)])) t2 (.tup [.int (w' : Int), .int (h : Int)])) l (.lst [.ref t1, .ref t2])) t2 = some (.tup [.int (w' : Int), .int (h : Int)]) := by
    rw [upd_ne (ne_of_none upd_same nl)]
    exact upd_same
  have ut1 : (upd (upd (upd H3 t1 (.tup [.int (h : Int), .int (w' : Int)])) t2 (.tup [.int (w' : Int), .int (h : Int)])) l (.lst [.ref t1, .ref t2])) t1 = some (.tup [.int (h : Int), .int (w' : Int)]) := by
    have z : (upd (upd H3 t1 (.tup [.int (h : Int), .int (w' : Int)])) t2 (.tup [.int (w' : Int), .int (h : Int)])) t1 = some (.tup [.int (h : Int), .int (w' : Int)]) := by
      rw [upd_ne (ne_of_none upd_same n2)]
      exact upd_same
    rw [upd_ne (ne_of_none z nl)]
    exact z
  generalize upd (upd (upd H3 t1 (.tup [.int (h : Int), .int (w' : Int)])) t2 (.tup [.int (w' : Int), .int (h : Int)])) l (.lst [.ref t1, .ref t2]) = H6 at ul ut1 ut2 ⊢
  refine ⟨l, rfl, ⟨_, SqL.of ul⟩, for_list (a := l) (xs := [.ref t1, .ref t2]) (fun i σ H' => ∃ v5 v6 v7 v8 v9 v10, σ = sl a r h w' (fnd h w' i) v5 v6 v7 v8 v9 v10 ∧ Same H6 H') ⟨none, none, none, none, none, none, rfl, Same.refl _⟩ (fun i σ H' _ ⟨_, _, _, _, _, _, _, s⟩ => SqL.of (s _ _ ul)) ?_ ?_⟩
  · rintro i x σ H7 hx ⟨v5, v6, v7, v8, v9, v10, rfl, s7⟩
    obtain ⟨t, p, q, rfl, ht, p1, p2, q1, q2, ef⟩ : ∃ (t : Addr) (p q : Nat), x = .ref t ∧ H7 t = some (.tup [.int (p : Int), .int (q : Int)]) ∧ 1 ≤ p ∧ p ≤ 12 ∧ 1 ≤ q ∧ q ≤ 12 ∧ fnd h w' (i + 1) = fnd h w' i + gT p q := by
      match i, hx with
      | 0, hx => exact ⟨t1, h, w', (Option.some.inj hx).symm, s7 _ _ ut1, h1, h2, w1, w2, rfl⟩
      | 1, hx => exact ⟨t2, w', h, (Option.some.inj hx).symm, s7 _ _ ut2, w1, w2, h1, h2, rfl⟩
    rw [ef]
    generalize fnd h w' i = f0
    refine ⟨t, _, rfl, SqT.of ht, rfl, _, _, rfl, _, _, rfl, rfl, ?_⟩
    have ep : ((p : Int) + 1 - 1).toNat = p := by omega
    have eq : ((q : Nat) : Int).toNat = q := by omega
    -- for some
    refine ⟨_, rfl, _, _, rfl, rfl, 1, (p : Int) + 1, rfl, ⟨by decide, by decide, by omega, by omega⟩, ?_⟩
    refine for_range (fun j σ H' => ∃ v7 v8 v9 v10, j ≤ p ∧ σ = sl a r h w' (f0 + sm (gg p q) j) (some (.int (p : Int))) (some (.int (q : Int))) v7 v8 v9 v10 ∧ Same H7 H') ⟨v7, v8, v9, v10, Nat.zero_le _, rfl, Same.refl _⟩ ?_ ?_
    · rintro j σ H8 hj ⟨v7, v8, v9, v10, _, rfl, s8⟩
      rw [ep] at hj
      rw [show (1 : Int) + (j : Int) = ((j + 1 : Nat) : Int) by omega]
      show _
      generalize ef1 : f0 + sm (gg p q) j = f1
      have ef2 : f0 + sm (gg p q) (j + 1) = f1 + sm (gg1 p q (j + 1)) q := by
        rw [← ef1]
        show f0 + (sm (gg p q) j + gg p q j) = _
        rw [← Nat.add_assoc]
        rfl
      rw [ef2]
      have js : j + 1 ≤ 12 := by omega
      have jp : j + 1 ≤ p := hj
      generalize hs : j + 1 = s at *
      -- for more
      refine ⟨_, rfl, (q : Int), rfl, by omega, by omega, ?_⟩
      refine for_range (fun m σ H' => ∃ v8 v9 v10, m ≤ q ∧ σ = sl a r h w' (f1 + sm (gg1 p q s) m) (some (.int (p : Int))) (some (.int (q : Int))) (some (.int (s : Int))) v8 v9 v10 ∧ Same H8 H') ⟨v8, v9, v10, Nat.zero_le _, rfl, Same.refl _⟩ ?_ ?_
      · rintro m σ H9 hm ⟨v8, v9, v10, _, rfl, s9⟩
        rw [eq] at hm
        rw [Int.zero_add]
        -- ways = 0, for parts
        have es : ((s : Int) + 1 - 1).toNat = s := by omega
        refine ⟨_, rfl, _, _, rfl, rfl, 1, (s : Int) + 1, rfl, ⟨by decide, by decide, by omega, by omega⟩, ?_⟩
        refine for_range (fun e σ H' => ∃ v10, e ≤ s ∧ σ = sl a r h w' (f1 + sm (gg1 p q s) m) (some (.int (p : Int))) (some (.int (q : Int))) (some (.int (s : Int))) (some (.int (m : Int))) (some (.int ((sm (wwT s m) e : Nat) : Int))) v10 ∧ Same H9 H') ⟨v10, Nat.zero_le _, rfl, Same.refl _⟩ ?_ ?_
        · rintro e σ H10 he ⟨v10, _, rfl, s10⟩
          rw [es] at he
          rw [show (1 : Int) + (e : Int) = ((e + 1 : Nat) : Int) by omega]
          have lo := oo_lt ⟨s, by omega⟩ ⟨e + 1, by omega⟩
          dsimp only at lo
          refine ⟨_, rfl, _, rfl, _, rfl, s, e + 1, rfl, by omega, by omega, fun H11 s11 => ?_⟩
          refine ⟨_, rfl, _, rfl, m, e + 1, rfl, by omega, by omega, fun H12 s12 => ?_⟩
          refine ⟨_, rfl, _, rfl, _, _, rfl, rfl, m, e, ?_, by omega, by omega, fun H13 s13 => ?_⟩
          · show [V.int (m : Int), V.int (((e + 1 : Nat) : Int) - 1)] = _
            rw [show ((e + 1 : Nat) : Int) - 1 = (e : Int) by omega]
          refine ⟨_, _, rfl, rfl, _, _, rfl, rfl, .inl ⟨by omega, by omega⟩, _, _, rfl, rfl, ?_⟩
          refine ⟨some (.int ((e + 1 : Nat) : Int)), he, ?_, ((s10.trans s11).trans s12).trans s13⟩
          have ev : ((sm (wwT s m) e : Nat) : Int) + ((oo s (e + 1) : Nat) : Int) * (((oo m (e + 1) : Nat) : Int) + ((oo m e : Nat) : Int)) = ((sm (wwT s m) (e + 1) : Nat) : Int) := by
            show _ = ((sm (wwT s m) e + oo s (e + 1) * (oo m (e + 1) + oo m e) : Nat) : Int)
            simp only [Int.natCast_add, Int.natCast_mul]
          rw [← ev]
          rfl
        · rintro σ H10 ⟨v10, _, rfl, s10⟩
          rw [es]
          have ew' := ww_ok ⟨s, by omega⟩ ⟨m, by omega⟩
          dsimp only at ew'
          rw [← ew']
          have b1 := cb_lt ⟨p, by omega⟩ ⟨s, by omega⟩
          have b2 := cb_lt ⟨q, by omega⟩ ⟨m, by omega⟩
          dsimp only at b1 b2
          have b3 : cb p s * cb q m ≤ 999 * 999 := Nat.mul_le_mul (by omega) (by omega)
          have b4 : ((cb p s : Nat) : Int) * ((cb q m : Nat) : Int) = ((cb p s * cb q m : Nat) : Int) := (Int.natCast_mul _ _).symm
          refine ⟨_, rfl, _, rfl, _, rfl, p, s, rfl, p2, jp, fun H11 s11 => ?_⟩
          refine ⟨_, rfl, _, rfl, q, m, rfl, q2, by omega, fun H12 s12 => ?_⟩
          refine ⟨_, _, rfl, rfl, .inl ⟨by omega, by omega⟩, _, rfl, _, _, rfl, rfl, .inl ⟨by omega, by omega⟩, _, _, rfl, rfl, ?_⟩
          refine ⟨some (.int (m : Int)), some (.int ((ww s m : Nat) : Int)), v10, hm, ?_, (s9.trans s10).trans (s11.trans s12)⟩
          have ev : ((f1 + sm (gg1 p q s) m : Nat) : Int) + ((cb p s : Nat) : Int) * ((cb q m : Nat) : Int) * ((ww s m : Nat) : Int) = ((f1 + sm (gg1 p q s) (m + 1) : Nat) : Int) := by
            show _ = ((f1 + (sm (gg1 p q s) m + cb p s * cb q m * ww s m) : Nat) : Int)
            simp only [Int.natCast_add, Int.natCast_mul, Int.add_assoc]
          show _ = sl a r h w' (f1 + sm (gg1 p q s) (m + 1)) _ _ _ _ _ _
          unfold sl
          rw [← ev]
          rfl
      · rintro σ H9 ⟨v8, v9, v10, _, rfl, s9⟩
        rw [eq]
        exact ⟨some (.int (s : Int)), v8, v9, v10, jp, rfl, s8.trans s9⟩
    · rintro σ H8 ⟨v7, v8, v9, v10, _, rfl, s8⟩
      rw [ep]
      exact ⟨_, _, v7, v8, v9, v10, rfl, s7.trans s8⟩
  · rintro σ H7 ⟨v5, v6, v7, v8, v9, v10, rfl, s7⟩
    have ef : fnd h w' 2 = cnt h w' := by
      have z := all_ok ⟨h - 1, by omega⟩ ⟨w' - 1, by omega⟩
      dsimp only at z
      rw [show h - 1 + 1 = h by omega, show w' - 1 + 1 = w' by omega] at z
      rw [z]
      rfl
    show _
    refine ⟨_, rfl, _, rfl, h, w', rfl, h1, h2, w1, w2, fun H8 s8 => ?_⟩
    refine ⟨_, rfl, ((cnt h w' : Nat) : Int), ?_, fun H9 s9 => ?_⟩
    · show [V.int ((cnt h w' : Nat) : Int), V.int ((fnd h w' 2 : Nat) : Int)] = _
      rw [ef]
    refine ⟨true, rfl, iteT ?_⟩
    refine ⟨1, 1, rfl, by decide, by decide, by decide, by decide, fun H10 s10 => ?_⟩
    rw [cnt11]
    refine ⟨rfl, true, rfl, iteT ?_⟩
    refine ⟨2, 2, rfl, by decide, by decide, by decide, by decide, fun H11 s11 => ?_⟩
    rw [cnt22]
    exact ⟨rfl, k _⟩
end
end KD

namespace KD
open PySem L2 TL EM
set_option maxHeartbeats 8000000 in
theorem all_mk {l : PySem.W.OpenLaw} {w : World} {K : PySem.W.Frag} {h : Heap} {mg : Str → Option Value} {fa C fB fI fN fL fE fT fA fO fH fW fM0 fM1 fM2 fM3 fM4 : Addr} (X : K.In h) (G : h.Ns mainGlobals mg) (hfa : mg "law" = some (.ref fa))
    {odB anB odI anI odN anN odL anL odE anE odT anT odA anA odO anO odH anH odW anW odM0 anM0 odM1 anM1 odM2 anM2 odM3 anM3 odM4 anM4 : Option Addr} {slB slI slN slL slE slT slA slO slH slW slM0 slM1 slM2 slM3 slM4 : Array (Option Value)} {ocB kVB dcB pmB cdB ctB ocI kVI dcI pmI cdI ctI ocN kVN dcN pmN cdN ctN ocL kVL dcL pmL cdL ctL ocE kVE dcE pmE cdE ctE ocT kVT dcT pmT cdT ctT ocA kVA dcA pmA cdA ctA ocO kVO dcO pmO cdO ctO ocH kVH dcH pmH cdH ctH ocW kVW dcW pmW cdW ctW ocM0 kVM0 dcM0 pmM0 cdM0 ctM0 ocM1 kVM1 dcM1 pmM1 cdM1 ctM1 ocM2 kVM2 dcM2 pmM2 cdM2 ctM2 ocM3 kVM3 dcM3 pmM3 cdM3 ctM3 ocM4 kVM4 dcM4 pmM4 cdM4 ctM4 : Value} {tk1 : Tok}
    (aC : PySem.W.nsIn K mainGlobals "Tally" = some (some (.ref C)))
    (aB : PySem.W.nsIn K mainGlobals "check_board" = some (some (.ref fB)))
    (lB : K.lookup fB = some ⟨ocB, odB, .func (PySem.W.fnOf "check_board" "check_board" (defArgs S_check_board) (defBody S_check_board) (defScope S_check_board) .none kVB dcB pmB anB cdB ctB), slB⟩)
    (cB : PySem.W.codeIn K cdB "check_board" = true)
    (kB : PySem.W.keepIn K (.ref fB) = true)
    (aI : PySem.W.nsIn K mainGlobals "is_integer" = some (some (.ref fI)))
    (lI : K.lookup fI = some ⟨ocI, odI, .func (PySem.W.fnOf "is_integer" "is_integer" (defArgs S_is_integer) (defBody S_is_integer) (defScope S_is_integer) .none kVI dcI pmI anI cdI ctI), slI⟩)
    (cI : PySem.W.codeIn K cdI "is_integer" = true)
    (kI : PySem.W.keepIn K (.ref fI) = true)
    (aN : PySem.W.nsIn K mainGlobals "normal_form" = some (some (.ref fN)))
    (lN : K.lookup fN = some ⟨ocN, odN, .func (PySem.W.fnOf "normal_form" "normal_form" (defArgs S_normal_form) (defBody S_normal_form) (defScope S_normal_form) .none kVN dcN pmN anN cdN ctN), slN⟩)
    (cN : PySem.W.codeIn K cdN "normal_form" = true)
    (kN : PySem.W.keepIn K (.ref fN) = true)
    (aL : PySem.W.nsIn K mainGlobals "layers_of" = some (some (.ref fL)))
    (lL : K.lookup fL = some ⟨ocL, odL, .func (PySem.W.fnOf "layers_of" "layers_of" (defArgs S_layers_of) (defBody S_layers_of) (defScope S_layers_of) .none kVL dcL pmL anL cdL ctL), slL⟩)
    (cL : PySem.W.codeIn K cdL "layers_of" = true)
    (kL : PySem.W.keepIn K (.ref fL) = true)
    (aE : PySem.W.nsIn K mainGlobals "count_effects" = some (some (.ref fE)))
    (lE : K.lookup fE = some ⟨ocE, odE, .func (PySem.W.fnOf "count_effects" "count_effects" (defArgs S_count_effects) (defBody S_count_effects) (defScope S_count_effects) .none kVE dcE pmE anE cdE ctE), slE⟩)
    (cE : PySem.W.codeIn K cdE "count_effects" = true)
    (kE : PySem.W.keepIn K (.ref fE) = true)
    (aT : PySem.W.nsIn K mainGlobals "_law_taken" = some (some (.ref fT)))
    (lT : K.lookup fT = some ⟨ocT, odT, .func (PySem.W.fnOf "_law_taken" "_law_taken" (defArgs S__law_taken) (defBody S__law_taken) (defScope S__law_taken) .none kVT dcT pmT anT cdT ctT), slT⟩)
    (cT : PySem.W.codeIn K cdT "_law_taken" = true)
    (kT : PySem.W.keepIn K (.ref fT) = true)
    (aA : PySem.W.nsIn K mainGlobals "_law_alike" = some (some (.ref fA)))
    (lA : K.lookup fA = some ⟨ocA, odA, .func (PySem.W.fnOf "_law_alike" "_law_alike" (defArgs S__law_alike) (defBody S__law_alike) (defScope S__law_alike) .none kVA dcA pmA anA cdA ctA), slA⟩)
    (cA : PySem.W.codeIn K cdA "_law_alike" = true)
    (kA : PySem.W.keepIn K (.ref fA) = true)
    (aO : PySem.W.nsIn K mainGlobals "_law_onto" = some (some (.ref fO)))
    (lO : K.lookup fO = some ⟨ocO, odO, .func (PySem.W.fnOf "_law_onto" "_law_onto" (defArgs S__law_onto) (defBody S__law_onto) (defScope S__law_onto) .none kVO dcO pmO anO cdO ctO), slO⟩)
    (cO : PySem.W.codeIn K cdO "_law_onto" = true)
    (kO : PySem.W.keepIn K (.ref fO) = true)
    (aH : PySem.W.nsIn K mainGlobals "_law_choose" = some (some (.ref fH)))
    (lH : K.lookup fH = some ⟨ocH, odH, .func (PySem.W.fnOf "_law_choose" "_law_choose" (defArgs S__law_choose) (defBody S__law_choose) (defScope S__law_choose) .none kVH dcH pmH anH cdH ctH), slH⟩)
    (cH : PySem.W.codeIn K cdH "_law_choose" = true)
    (kH : PySem.W.keepIn K (.ref fH) = true)
    (aW : PySem.W.nsIn K mainGlobals "law" = some (some (.ref fW)))
    (lW : K.lookup fW = some ⟨ocW, odW, .func (PySem.W.fnOf "law" "law" (defArgs S_law) (defBody S_law) (defScope S_law) .none kVW dcW pmW anW cdW ctW), slW⟩)
    (cW : PySem.W.codeIn K cdW "law" = true)
    (kW : PySem.W.keepIn K (.ref fW) = true)
    (aM0 : PySem.W.findIn K (.ref C) "__init__" = some (some (.ref fM0)))
    (iM0 : PySem.W.isFn K (.ref fM0) = true)
    (lM0 : K.lookup fM0 = some ⟨ocM0, odM0, .func (PySem.W.fnOf "__init__" "Tally.__init__" (defArgs S_Tally___init__) (defBody S_Tally___init__) (defScope S_Tally___init__) .none kVM0 dcM0 pmM0 anM0 cdM0 ctM0), slM0⟩)
    (cM0 : PySem.W.codeIn K cdM0 "Tally.__init__" = true)
    (kM0 : PySem.W.keepIn K (.ref fM0) = true)
    (aM1 : PySem.W.findIn K (.ref C) "all_effects" = some (some (.ref fM1)))
    (iM1 : PySem.W.isFn K (.ref fM1) = true)
    (lM1 : K.lookup fM1 = some ⟨ocM1, odM1, .func (PySem.W.fnOf "all_effects" "Tally.all_effects" (defArgs S_Tally_all_effects) (defBody S_Tally_all_effects) (defScope S_Tally_all_effects) .none kVM1 dcM1 pmM1 anM1 cdM1 ctM1), slM1⟩)
    (cM1 : PySem.W.codeIn K cdM1 "Tally.all_effects" = true)
    (kM1 : PySem.W.keepIn K (.ref fM1) = true)
    (aM2 : PySem.W.findIn K (.ref C) "beginning_with" = some (some (.ref fM2)))
    (iM2 : PySem.W.isFn K (.ref fM2) = true)
    (lM2 : K.lookup fM2 = some ⟨ocM2, odM2, .func (PySem.W.fnOf "beginning_with" "Tally.beginning_with" (defArgs S_Tally_beginning_with) (defBody S_Tally_beginning_with) (defScope S_Tally_beginning_with) .none kVM2 dcM2 pmM2 anM2 cdM2 ctM2), slM2⟩)
    (cM2 : PySem.W.codeIn K cdM2 "Tally.beginning_with" = true)
    (kM2 : PySem.W.keepIn K (.ref fM2) = true)
    (aM3 : PySem.W.findIn K (.ref C) "is_row" = some (some (.ref fM3)))
    (iM3 : PySem.W.isFn K (.ref fM3) = true)
    (lM3 : K.lookup fM3 = some ⟨ocM3, odM3, .func (PySem.W.fnOf "is_row" "Tally.is_row" (defArgs S_Tally_is_row) (defBody S_Tally_is_row) (defScope S_Tally_is_row) .none kVM3 dcM3 pmM3 anM3 cdM3 ctM3), slM3⟩)
    (cM3 : PySem.W.codeIn K cdM3 "Tally.is_row" = true)
    (kM3 : PySem.W.keepIn K (.ref fM3) = true)
    (aM4 : PySem.W.findIn K (.ref C) "behind_layer" = some (some (.ref fM4)))
    (iM4 : PySem.W.isFn K (.ref fM4) = true)
    (lM4 : K.lookup fM4 = some ⟨ocM4, odM4, .func (PySem.W.fnOf "behind_layer" "Tally.behind_layer" (defArgs S_Tally_behind_layer) (defBody S_Tally_behind_layer) (defScope S_Tally_behind_layer) .none kVM4 dcM4 pmM4 anM4 cdM4 ctM4), slM4⟩)
    (cM4 : PySem.W.codeIn K cdM4 "Tally.behind_layer" = true)
    (kM4 : PySem.W.keepIn K (.ref fM4) = true)
    (pg : PySem.W.plainGet K C Str.empty = true)
    (hd : PySem.W.hasDictIn K C = true)
    (po : PySem.W.plainOver K C = true)
    (sa : PySem.W.findIn K (.ref C) "__setattr__" = some (some (.builtin "object.__setattr__")))
    (mk : PySem.W.makesIn K C = true)
    (kc : PySem.W.keepIn K (.ref C) = true)
    (nA_rows : PySem.W.findIn K (.ref C) "rows" = some none)
    (nA_columns : PySem.W.findIn K (.ref C) "columns" = some none)
    (nA_known : PySem.W.findIn K (.ref C) "known" = some none)
    (s1 : PySem.W.nsIn K mainGlobals "MOST_LINES" = some (some (.int 20 tk1)))
    (yc : PySem.W.nsIn K mainGlobals "comb" = some (some (.builtin "math.comb")))
    (z0 : PySem.W.nsIn K mainGlobals "len" = some none)
    (z1 : PySem.W.nsIn K mainGlobals "int" = some none)
    (z2 : PySem.W.nsIn K mainGlobals "isinstance" = some none)
    (z3 : PySem.W.nsIn K mainGlobals "str" = some none)
    (z4 : PySem.W.nsIn K mainGlobals "tuple" = some none)
    (z5 : PySem.W.nsIn K mainGlobals "list" = some none)
    (z6 : PySem.W.nsIn K mainGlobals "range" = some none)
    (z7 : PySem.W.nsIn K mainGlobals "bool" = some none)
    (z8 : PySem.W.nsIn K mainGlobals "sorted" = some none)
    (z9 : PySem.W.nsIn K mainGlobals "sum" = some none)
    : LamX.LawAtS l w K CX0 29 63 "script" mg fa h := by
  have e := hfa.symm.trans (PySem.W.mg_of X G aW)
  cases e
  have FB := fun_mk (st := S_check_board) lB cB kB
  have bB := FB.binds (ps := ["rows", "columns"]) fun _ _ _ _ _ _ us hl => match us, hl with | [_, _], _ => rfl
  have mB := PySem.W.mg_of X G aB
  have FI := fun_mk (st := S_is_integer) lI cI kI
  have bI := FI.binds (ps := ["value"]) fun _ _ _ _ _ _ us hl => match us, hl with | [_], _ => rfl
  have mI := PySem.W.mg_of X G aI
  have FN := fun_mk (st := S_normal_form) lN cN kN
  have bN := FN.binds (ps := ["rows", "columns", "lines"]) fun _ _ _ _ _ _ us hl => match us, hl with | [_, _, _], _ => rfl
  have mN := PySem.W.mg_of X G aN
  have FL := fun_mk (st := S_layers_of) lL cL kL
  have bL := FL.binds (ps := ["rows", "lines"]) fun _ _ _ _ _ _ us hl => match us, hl with | [_, _], _ => rfl
  have mL := PySem.W.mg_of X G aL
  have FE := fun_mk (st := S_count_effects) lE cE kE
  have bE := FE.binds (ps := ["rows", "columns"]) fun _ _ _ _ _ _ us hl => match us, hl with | [_, _], _ => rfl
  have mE := PySem.W.mg_of X G aE
  have FT := fun_mk (st := S__law_taken) lT cT kT
  have bT := FT.binds (ps := ["row", "many"]) fun _ _ _ _ _ _ us hl => match us, hl with | [_, _], _ => rfl
  have mT := PySem.W.mg_of X G aT
  have FA := fun_mk (st := S__law_alike) lA cA kA
  have bA := FA.binds (ps := ["found", "due"]) fun _ _ _ _ _ _ us hl => match us, hl with | [_, _], _ => rfl
  have mA := PySem.W.mg_of X G aA
  have FO := fun_mk (st := S__law_onto) lO cO kO
  have bO := FO.binds (ps := ["many", "parts"]) fun _ _ _ _ _ _ us hl => match us, hl with | [_, _], _ => rfl
  have mO := PySem.W.mg_of X G aO
  have FH := fun_mk (st := S__law_choose) lH cH kH
  have bH := FH.binds (ps := ["many", "some"]) fun _ _ _ _ _ _ us hl => match us, hl with | [_, _], _ => rfl
  have mH := PySem.W.mg_of X G aH
  have FW := fun_mk (st := S_law) lW cW kW
  have FM0 := fun_mk (st := S_Tally___init__) lM0 cM0 kM0
  have bM0 := FM0.binds (ps := ["self", "rows", "columns"]) fun _ _ _ _ _ _ us hl => match us, hl with | [_, _, _], _ => rfl
  have FM1 := fun_mk (st := S_Tally_all_effects) lM1 cM1 kM1
  have bM1 := FM1.binds (ps := ["self"]) fun _ _ _ _ _ _ us hl => match us, hl with | [_], _ => rfl
  have FM2 := fun_mk (st := S_Tally_beginning_with) lM2 cM2 kM2
  have bM2 := FM2.binds (ps := ["self", "lines"]) fun _ _ _ _ _ _ us hl => match us, hl with | [_, _], _ => rfl
  have FM3 := fun_mk (st := S_Tally_is_row) lM3 cM3 kM3
  have bM3 := FM3.binds (ps := ["self", "line"]) fun _ _ _ _ _ _ us hl => match us, hl with | [_, _], _ => rfl
  have FM4 := fun_mk (st := S_Tally_behind_layer) lM4 cM4 kM4
  have bM4 := FM4.binds (ps := ["self", "is_first", "own", "crossing"]) fun _ _ _ _ _ _ us hl => match us, hl with | [_, _, _, _], _ => rfl
  have T : Blt mg := ⟨PySem.W.mg_none_of X G z0, PySem.W.mg_none_of X G z1, PySem.W.mg_none_of X G z2, PySem.W.mg_none_of X G z3, PySem.W.mg_none_of X G z4, PySem.W.mg_none_of X G z5, PySem.W.mg_none_of X G z6, PySem.W.mg_none_of X G z7⟩
  have TT : TTxt K mg C := { cl := ⟨pg, hd, po, sa⟩, nR := nA_rows, nC := nA_columns, nK := nA_known, mgC := PySem.W.mg_of X G aC }
  have yc' := PySem.W.mg_of X G yc
  refine ⟨PySem.W.fnOf "law" "law" (defArgs S_law) (defBody S_law) (defScope S_law) .none kVW dcW pmW anW cdW ctW, [], spLaw K, fun p hp => (nomatch hp), fun p hp => (nomatch hp), fun p hp => (nomatch hp), fun s v => .of_eq rfl, fun H a ns hlen _ _ hS => ⟨a, ns, rfl, hS, hlen, fun _ => rfl⟩, fun base KB GB _ => ?_⟩
  have GI := ok_isInt (P := l.prog) (w := w) (base := base) FI T
  have GB' := ok_board FB ⟨_, PySem.W.mg_of X G s1⟩ GI mI kI bI
  have GL := ok_lay (P := l.prog) (w := w) (mg := mg) (base := base) FL
  have GN := ok_norm FN T (PySem.W.mg_none_of X G z8) GL mL kL bL
  have G0 := ok_tinit (P := l.prog) (w := w) (mg := mg) (base := base) FM0 TT
  have G3 := ok_isRow (P := l.prog) (w := w) (mg := mg) (base := base) FM3 TT
  have G4 := ok_bh (P := l.prog) (w := w) (base := base) FM4 T yc' TT ⟨aM4, iM4, kM4⟩ bM4 25
  have G2 := ok_bg FM2 T yc' TT GN mN kN bN G3 ⟨aM3, iM3, kM3⟩ bM3 G4 ⟨aM4, iM4, kM4⟩ bM4
  have G1 := ok_all FM1 T (PySem.W.mg_none_of X G z9) TT G2 ⟨aM2, iM2, kM2⟩ bM2
  have GE := ok_count FE TT GB' mB kB bB ⟨mk, aM0, iM0, kc⟩ G0 bM0 G1 ⟨aM1, iM1, kM1⟩ bM1
  exact ok_law FW T (ok_taken FT T) mT kT bT (ok_alI FA T) mA kA bA (ok_onto FO T) mO kO bO (ok_choose FH T) mH kH bH GE mE kE bE
theorem walk {l : PySem.W.OpenLaw} {q : Program} {loose : List Str} {XP : (Str → Option Value) → Heap → Prop} {YP : World → Heap → Prop} {d : DefRec} {K : Params → PySem.W.Frag} (hn : l.most = some 63) (hdf : d.params.defaults = [])
    (hY : ∀ (w : World) (h : Heap), YP w h → (K w.params).In h)
    (F : ∀ (w : World) (mg : Str → Option Value) (fa : Addr) (h : Heap), YP w h → (K w.params).In h → h.Ns mainGlobals mg → mg d.name = some (.ref fa) → LamX.LawAtS l w (K w.params) CX0 29 63 "script" mg fa h) :
    PySem.W.WalkO q loose XP YP l.row.toRowW d [] (fun f vs => PySem.call f vs) :=
  LamX.walk_ofTs (n := 63) (k := 29) (x := "script") (CX := fun _ => CX0) hn (by decide) hdf ⟨rfl, by decide, by decide⟩ hY F fun _ _ _ _ _ z => z
end KD
open PySem PySem.W PyProof.Rows
set_option maxRecDepth 100000 in
set_option maxHeartbeats 0 in
theorem PySem.Challenge.cw_strokes_k23_whole_numbers_of_effects_holds : PySem.Challenge.rw_strokes_k23_whole_numbers_of_effects.Holds := by
  w_on; o_law; k_head; (case hw => w_witness2)
  k_fill
  refine KD.walk (l := PySem.Challenge.rw_strokes_k23_whole_numbers_of_effects) rfl rfl (fun w h Y => PySem.W.kIn_of Y) ?F
  case F =>
    intro w mg fa h Y KX G hmg
    refine' KD.all_mk KX G hmg ?aC ?aB ?lB ?cB ?kB ?aI ?lI ?cI ?kI ?aN ?lN ?cN ?kN ?aL ?lL ?cL ?kL ?aE ?lE ?cE ?kE ?aT ?lT ?cT ?kT ?aA ?lA ?cA ?kA ?aO ?lO ?cO ?kO ?aH ?lH ?cH ?kH ?aW ?lW ?cW ?kW ?aM0 ?iM0 ?lM0 ?cM0 ?kM0 ?aM1 ?iM1 ?lM1 ?cM1 ?kM1 ?aM2 ?iM2 ?lM2 ?cM2 ?kM2 ?aM3 ?iM3 ?lM3 ?cM3 ?kM3 ?aM4 ?iM4 ?lM4 ?cM4 ?kM4 ?pg ?hd ?po ?sa ?mk ?kc ?nA_rows ?nA_columns ?nA_known ?s1 ?yc ?z0 ?z1 ?z2 ?z3 ?z4 ?z5 ?z6 ?z7 ?z8 ?z9
    (case aC => k_is)
    (case aB => k_is)
    (case lB => k_is)
    (case cB => k_is)
    (case kB => k_is)
    (case aI => k_is)
    (case lI => k_is)
    (case cI => k_is)
    (case kI => k_is)
    (case aN => k_is)
    (case lN => k_is)
    (case cN => k_is)
    (case kN => k_is)
    (case aL => k_is)
    (case lL => k_is)
    (case cL => k_is)
    (case kL => k_is)
    (case aE => k_is)
    (case lE => k_is)
    (case cE => k_is)
    (case kE => k_is)
    (case aT => k_is)
    (case lT => k_is)
    (case cT => k_is)
    (case kT => k_is)
    (case aA => k_is)
    (case lA => k_is)
    (case cA => k_is)
    (case kA => k_is)
    (case aO => k_is)
    (case lO => k_is)
    (case cO => k_is)
    (case kO => k_is)
    (case aH => k_is)
    (case lH => k_is)
    (case cH => k_is)
    (case kH => k_is)
    (case aW => k_is)
    (case lW => k_is)
    (case cW => k_is)
    (case kW => k_is)
    (case aM0 => k_is)
    (case iM0 => k_is)
    (case lM0 => k_is)
    (case cM0 => k_is)
    (case kM0 => k_is)
    (case aM1 => k_is)
    (case iM1 => k_is)
    (case lM1 => k_is)
    (case cM1 => k_is)
    (case kM1 => k_is)
    (case aM2 => k_is)
    (case iM2 => k_is)
    (case lM2 => k_is)
    (case cM2 => k_is)
    (case kM2 => k_is)
    (case aM3 => k_is)
    (case iM3 => k_is)
    (case lM3 => k_is)
    (case cM3 => k_is)
    (case kM3 => k_is)
    (case aM4 => k_is)
    (case iM4 => k_is)
    (case lM4 => k_is)
    (case cM4 => k_is)
    (case kM4 => k_is)
    (case pg => k_is)
    (case hd => k_is)
    (case po => k_is)
    (case sa => k_is)
    (case mk => k_is)
    (case kc => k_is)
    (case nA_rows => k_is)
    (case nA_columns => k_is)
    (case nA_known => k_is)
    (case s1 => k_is)
    (case yc => k_is)
    (case z0 => k_is)
    (case z1 => k_is)
    (case z2 => k_is)
    (case z3 => k_is)
    (case z4 => k_is)
    (case z5 => k_is)
    (case z6 => k_is)
    (case z7 => k_is)
    (case z8 => k_is)
    (case z9 => k_is)
