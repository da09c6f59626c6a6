import PyProof.Rows.All
import Wide.All
import OpenK.AllK
import Wide.FinOn
import HandS.ForMost
import HandS.IsInst
import HandS.Style
import HandS.Codes
import HandS.Dict
import HandS.ExcInit
import HandS.ExcField
import HandS.WordsExc
import HandS.Words
import HandS.More
import HandS.AnyAll
import HandS.Text
import HandS.TupAny
import HandS.TupMul
import PyProof.StrBlock2
import HandS.ExcOwn
import HandS.Small
import HandS.TryOnly
import HandS.EndOwn
import PySem.Challenge.RW_strokes_k10_whole_codes_by_hand
set_option Elab.async false
set_option linter.all false
set_option maxRecDepth 100000
namespace KD
open PySem L2 TL
def top (i : Nat) : Stmt := PySem.Challenge.pw_strokes_k10_whole_codes_by_hand.main.body.getD i (.Pass ⟨0, 0, 0, 0⟩)
abbrev S__wall : Stmt := top 0
abbrev S_NotDone___init__ : Stmt := inClass (top 6) 0
abbrev S_with_line : Stmt := top 11
abbrev S_check_picture : Stmt := top 12
abbrev S_is_picture : Stmt := top 13
abbrev S_is_row : Stmt := top 14
abbrev S_is_integer : Stmt := top 15
abbrev S_within : Stmt := top 19
abbrev S_add : Stmt := top 20
abbrev S_subtract : Stmt := top 21
abbrev S_multiply : Stmt := top 22
abbrev S_divide : Stmt := top 23
abbrev S_remain : Stmt := top 24
abbrev S_is_less : Stmt := top 25
abbrev S_is_at_most : Stmt := top 26
abbrev S_is_equal : Stmt := top 27
abbrev S_is_unlike : Stmt := top 28
abbrev S_truth : Stmt := top 29
abbrev S_negative : Stmt := top 30
abbrev S_denial : Stmt := top 31
abbrev S_made_of_two : Stmt := top 34
abbrev S_made_of_one : Stmt := top 35
abbrev S_cell : Stmt := top 36
abbrev S_row_line : Stmt := top 37
abbrev S_column_line : Stmt := top 38
abbrev S_is_code : Stmt := top 48
abbrev S_check_code : Stmt := top 49
abbrev S_is_order : Stmt := top 50
abbrev S_has_its_number : Stmt := top 51
abbrev S_check_ticks : Stmt := top 55
abbrev S_Processor___init__ : Stmt := inClass (top 58) 0
abbrev S_Processor_go : Stmt := inClass (top 58) 1
abbrev S_Processor_do_next : Stmt := inClass (top 58) 2
abbrev S_Processor_do_order : Stmt := inClass (top 58) 3
abbrev S_Processor_take : Stmt := inClass (top 58) 4
abbrev S_Processor_paint : Stmt := inClass (top 58) 5
abbrev S_Processor_next_statement : Stmt := inClass (top 58) 6
abbrev S_Processor_state : Stmt := inClass (top 58) 7
abbrev S_Processor_mark : Stmt := inClass (top 58) 8
abbrev S_Processor_go_back : Stmt := inClass (top 58) 9
abbrev S_push : Stmt := top 59
abbrev S_load : Stmt := top 60
abbrev S_store : Stmt := top 61
abbrev S_copy_uppermost : Stmt := top 62
abbrev S_lay_rows : Stmt := top 63
abbrev S_lay_columns : Stmt := top 64
abbrev S_look : Stmt := top 65
abbrev S_paint_row : Stmt := top 66
abbrev S_paint_column : Stmt := top 67
abbrev S_say : Stmt := top 68
abbrev S_jump : Stmt := top 69
abbrev S_jump_at_zero : Stmt := top 70
abbrev S_jump_at_some : Stmt := top 71
abbrev S_tick : Stmt := top 72
abbrev S_call : Stmt := top 73
abbrev S_make_frame : Stmt := top 74
abbrev S_come_back : Stmt := top 75
abbrev S_stop : Stmt := top 76
abbrev S_finish : Stmt := top 77
abbrev S_execute : Stmt := top 80
abbrev S_orders_done : Stmt := top 81
abbrev S_ended : Stmt := top 82
abbrev S__law_taken : Stmt := top 84
abbrev S__law_pick : Stmt := top 85
abbrev S__law_alike : Stmt := top 86
abbrev S__law_picture : Stmt := top 87
abbrev S__law_stroke : Stmt := top 88
abbrev S__law_order : Stmt := top 89
abbrev S_law : Stmt := top 90
abbrev cellN : Str := "cell_v"
end KD

/-! Ended: the error by which a run ends; a local that holds a def of the program, called. -/
namespace KD
open PySem PySem.Spec PyProof.Rows L2 TL
theorem same_nw {H : Hp} {p : Addr} (h : H p = none) (o : HO) : Same H (upd H p o) := fun b u q => by rw [upd_ne (ne_of_none q h)]; exact q
/-- what the top says of Ended -/
structure EnT (K : PySem.W.Frag) (mg : Str → Option Value) (C fI : Addr) (fd : FuncData) : Prop where
  g : mg "Ended" = some (.ref C)
  o : OexC K C
  i : PySem.W.findIn K (.ref C) "__init__" = some (some (.ref fI))
  t : PySem.W.typeIn K (.ref fI) = some (.type "function")
  ff : Fun K "__init__" "NotDone.__init__" S_NotDone___init__ fI fd
  b : Binds K fd ["self", "end"] []
  no : PySem.W.findIn K (.ref C) "end" = some none
  x : XfC K C
  s : PySem.W.exmOne K (.ref C) (.ref C) = some true
/-- the error's own dict -/
def endD (m : Str) : HO := .xd [("end", .str m)]
def spEInit (K : PySem.W.Frag) (C : Addr) : Sp := fun vs H Q _ => ∃ (a : Addr) (m : Str), vs = [.ref a, .str m] ∧ H a = some (exo a C none) ∧ ∀ dx, H dx = none → dx ≠ a → Q .non (upd (upd H dx (exd dx [("end", .str m)])) a (exo a C (some dx)))
section
variable {P : Program} {w : World} {K : PySem.W.Frag} {mg : Str → Option Value} {base : Heap}
theorem scEI : FnScope ["self", "end"] ["self", "end"] (defScope S_NotDone___init__) := ⟨rfl, rfl, rfl, by decide +kernel, rfl, by decide +kernel, by decide +kernel⟩
theorem ok_einit {C fI : Addr} {fd : FuncData} (T : EnT K mg C fI fd) : FnOk P w K mg base CX0 1 fI fd ["self", "end"] (spEInit K C) := by
  refine T.ff.ok scEI (fun vs H Q E h => ?_) (fun cdv A outer s0 H vs Q E hr h => ?_)
  · obtain ⟨a, m, rfl, _⟩ := h
    rfl
  obtain ⟨a, m, rfl, ha, k⟩ := h
  refine ⟨_, pss_one (ps_ost (pv 0) (pv 1)), ?_⟩
  exact ⟨_, rfl, _, rfl, a, C, rfl, T.o, T.no, .inl ⟨ha, k⟩⟩
end
section
variable {X : Cx}
/-- raise Ended("..") -/
theorem ps_ended {C fI : Addr} {fd : FuncData} {W : WX} {m : Str} {j : Nat} {p p2 pos pos2 : Pos} (T : EnT X.K X.mg C fI fd) (hc : X.calm = true) (hr : Room 2 X.A) (tk : Takes X W) (hg : Gl X "Ended") :
    PS X (.Raise (some (.Call (.Name "Ended" p) [.Constant (.str m) j p2] [] pos)) none pos2) (fun _ σ H => ∀ d H', Same H H' → H d = none → H' d = some (endD m) → W (.ref C) (some d) σ H') := by
  have q := ps_raise (pos := pos2) hc tk (pmk_oex (pos := pos) (p := p) T.o T.i T.t (ok_einit (P := X.prog) (w := X.w) (base := X.base) T) hr T.b .nil pass0 hg T.g (pa_cons (pe_str (x := m) (pos := p2) (j := j)) pa_nil) (by decide))
  refine ⟨fun pins s σ H D I h => q.run pins s σ H D I ?_⟩
  refine ⟨by show 1 ≤ 1000; decide, fun a na => ⟨a, m, rfl, upd_same, fun dx ndx hne => ⟨rfl, dx, [("end", .str m)], upd_same, ?_, ?_, ?_⟩⟩⟩
  · rw [upd_ne hne, upd_same]
  · rw [upd_ne hne] at ndx
    exact ndx
  · have nd : H dx = none := by rw [upd_ne hne] at ndx; exact ndx
    refine h dx _ (fun x u hx => ?_) nd upd_same
    have n1 : x ≠ a := ne_of_none hx na
    have n2 : x ≠ dx := ne_of_none hx nd
    rw [upd_ne n2, del_ne n1, upd_ne n1, upd_ne n2, upd_ne n1]
    exact hx
/-- a local that holds a def of the program, called -/
def tCallF (P : Program) (w : World) (K : PySem.W.Frag) (mg : Str → Option Value) (base : Heap) (CX : CXT) (j i : Nat) (E : XK) (t : TA) : TE := fun σ H Q =>
  ∃ (f : Addr) (fd : FuncData) (ps : List Str) (sp : Sp) (k : Nat), σ[i]? = some (some (.ref f)) ∧ FnOk P w K mg base CX k f fd ps sp ∧ k ≤ j ∧ PySem.W.keepIn K (.ref f) = true ∧ Binds K fd ps [] ∧ t σ H fun vs H1 => sp vs H1 Q E
theorem pe_cvF {CX : CXT} {i j : Nat} {E : XK} {x : Str} {e : Expr} {es : List Expr} {t : TA} {p pos : Pos} (hr : Room j X.A) (hN : X.N[i]? = some x) (hv : Vis X.env.scope x) (hx : Passes CX X E) (ha : PA X (e :: es) t)
    (hd : (x == ("__debug__" : Str)) = false := by decide) (hcd : (x == ("__classdict__" : Str)) = false := by decide)
    (he : starEach (e :: es) X.env = (false, eval e X.env) :: starEach es X.env := by rfl) (hpl : (backTo pos (starEach es X.env)).any (·.1) = false := by rfl) :
    PE X (.Call (.Name x p) (e :: es) [] pos) (tCallF X.prog X.w X.K X.mg X.base CX j i E t) := by
  refine ⟨fun pins s σ H Q I h => ?_⟩
  obtain ⟨f, fd, ps, sp, k, hs, F, hk, kp, b, ht⟩ := h
  refine wpAny_Call_Name_kw (thn ((pe_var (pos := p) hN hv hd hcd).run pins s σ H (fun v H1 => v = .ref f ∧ H1 = H) I ⟨.ref f, hs, rfl, rfl⟩) fun u s1 ⟨v, H1, I1, r1, q1⟩ => ?_)
  obtain ⟨rfl, rfl⟩ := q1
  cases r1
  refine PySem.W.callWith_K (h₀ := X.base) I.ok.mod.kin kp (thn (ha.run pos pins s1 σ _ _ I1 ht) fun us s2 ⟨vs, H2, I2, r, q⟩ => ⟨I2.kIn, ?_⟩) he hpl
  exact run_fn F (hr.mono hk) b .nil hx I2 r (by rw [List.append_nil]; exact q)
end
end KD

/-! Trees of programs: the data of the drawn trees, and how data lies in the abstract heap. -/
namespace KD
open PySem L2 TL
/-! ### trees -/
inductive Un | neg | not
  deriving DecidableEq
inductive Bi | black | or | and | lt | le | eq | ne | add | sub | mul | div | mod
  deriving DecidableEq
inductive Ex
  | num (n : Nat) | name (x : Str) | rows | cols | un (o : Un) (a : Ex) | bin (o : Bi) (a b : Ex)
inductive St
  | row (e : Ex) | col (e : Ex) | say (e : Ex) | set (x : Str) (e : Ex) | ite (c : Ex) (a b : List St) | whl (c : Ex) (a : List St) | for_ (x : Str) (a b : Ex) (s : List St) | call (f : Str) (es : List Ex) | stop
structure Df where
  name : Str
  args : List Str
  body : List St
structure Pr where
  defs : List Df
  body : List St
def Un.w : Un → Str
  | .neg => "neg" | .not => "not"
def Bi.w : Bi → Str
  | .black => "black" | .or => "or" | .and => "and" | .lt => "<" | .le => "<=" | .eq => "=" | .ne => "!=" | .add => "+" | .sub => "-" | .mul => "*" | .div => "/" | .mod => "mod"
def Ex.d : Ex → PyData
  | .num n => .tuple [.str "num", .int n]
  | .name x => .tuple [.str "name", .str x]
  | .rows => .tuple [.str "rows"]
  | .cols => .tuple [.str "cols"]
  | .un o a => .tuple [.str o.w, a.d]
  | .bin o a b => .tuple [.str o.w, a.d, b.d]
mutual
def St.d : St → PyData
  | .row e => .tuple [.str "row", e.d]
  | .col e => .tuple [.str "col", e.d]
  | .say e => .tuple [.str "say", e.d]
  | .set x e => .tuple [.str "let", .str x, e.d]
  | .ite c a b => .tuple [.str "if", c.d, .tuple (dB a), .tuple (dB b)]
  | .whl c a => .tuple [.str "while", c.d, .tuple (dB a)]
  | .for_ x a b s => .tuple [.str "for", .str x, a.d, b.d, .tuple (dB s)]
  | .call f es => .tuple [.str "do", .str f, .tuple (es.map Ex.d)]
  | .stop => .tuple [.str "stop"]
def dB : List St → List PyData
  | [] => []
  | s :: b => s.d :: dB b
end
theorem dB_append : ∀ (a b : List St), dB (a ++ b) = dB a ++ dB b
  | [], b => rfl
  | s :: a, b => by
    show s.d :: dB (a ++ b) = s.d :: (dB a ++ dB b)
    rw [dB_append a b]
theorem dB_length : ∀ (a : List St), (dB a).length = a.length
  | [] => rfl
  | s :: a => by
    show (dB a).length + 1 = a.length + 1
    rw [dB_length a]
def Df.d (f : Df) : PyData := .tuple [.str f.name, .tuple (f.args.map .str), .tuple (dB f.body)]
def Pr.d (p : Pr) : PyData := .tuple [.tuple (p.defs.map Df.d), .tuple (dB p.body)]

/-! ### what drawn trees keep -/
/-- the names used are among these, the numbers are small -/
def okE (ns : List Str) : Ex → Prop
  | .num n => n < 1000000
  | .name x => x ∈ ns
  | .rows => True
  | .cols => True
  | .un _ a => okE ns a
  | .bin _ a b => okE ns a ∧ okE ns b
def dpE : Ex → Nat
  | .un _ a => dpE a + 1
  | .bin _ a b => max (dpE a) (dpE b) + 1
  | _ => 0
def letN : List Str := ["a", "b", "c", "long"]
def forN : List Str := ["i", "j", "a"]
/-- names known behind a statement -/
def aft (ns : List Str) : St → List Str
  | .set x _ => if x ∈ ns then ns else ns ++ [x]
  | _ => ns
def aftB : List Str → List St → List Str
  | ns, [] => ns
  | ns, s :: b => aftB (aft ns s) b
mutual
/-- a drawn statement: names known, calls that fit, blocks of at most two statements, n deep -/
def okS (ds : List (Str × Nat)) : Nat → List Str → St → Prop
  | _, ns, .row e => okE ns e ∧ dpE e ≤ 1
  | _, ns, .col e => okE ns e ∧ dpE e ≤ 1
  | _, ns, .say e => okE ns e ∧ dpE e ≤ 2
  | _, ns, .set x e => x ∈ letN ∧ okE ns e ∧ dpE e ≤ 2
  | n + 1, ns, .ite c a b => okE ns c ∧ dpE c ≤ 2 ∧ (a.length ≤ 2 ∧ okB ds n ns a) ∧ (b.length ≤ 2 ∧ okB ds n ns b)
  | n + 1, ns, .whl c a => okE ns c ∧ dpE c ≤ 1 ∧ a.length ≤ 2 ∧ okB ds n ns a
  | n + 1, ns, .for_ x a b s => x ∈ forN ∧ (okE ns a ∧ dpE a ≤ 1) ∧ (okE ns b ∧ dpE b ≤ 1) ∧ s.length ≤ 2 ∧ okB ds n (if x ∈ ns then ns else ns ++ [x]) s
  | n + 1, ns, .call f es => (f, es.length) ∈ ds ∧ ∀ e ∈ es, okE ns e ∧ dpE e ≤ 1
  | n + 1, _, .stop => True
  | 0, _, .ite _ _ _ => False
  | 0, _, .whl _ _ => False
  | 0, _, .for_ _ _ _ _ => False
  | 0, _, .call _ _ => False
  | 0, _, .stop => False
def okB (ds : List (Str × Nat)) : Nat → List Str → List St → Prop
  | _, _, [] => True
  | n, ns, s :: b => okS ds n ns s ∧ okB ds n (aft ns s) b
end
theorem aftB_snoc : ∀ (b : List St) (ns : List Str) (s : St), aftB ns (b ++ [s]) = aft (aftB ns b) s
  | [], _, _ => rfl
  | t :: b, ns, s => by
    show aftB (aft ns t) (b ++ [s]) = _
    rw [aftB_snoc b]
    rfl
theorem okB_snoc {ds : List (Str × Nat)} {n : Nat} : ∀ {b : List St} {ns : List Str} {s : St}, okB ds n ns b → okS ds n (aftB ns b) s → okB ds n ns (b ++ [s])
  | [], ns, s, _, h => by
    show okB ds n ns [s]
    unfold okB
    exact ⟨h, by unfold okB; trivial⟩
  | t :: b, ns, s, h, h2 => by
    unfold okB at h
    show okB ds n ns (t :: (b ++ [s]))
    unfold okB
    exact ⟨h.1, okB_snoc (b := b) h.2 h2⟩

/-! ### data in the heap -/
mutual
/-- tuples, texts, numbers, bools and None alone -/
def tupD : PyData → Bool
  | .none => true
  | .bool _ => true
  | .int _ => true
  | .str _ => true
  | .tuple xs => tupDs xs
  | _ => false
def tupDs : List PyData → Bool
  | [] => true
  | x :: xs => tupD x && tupDs xs
end
/-- all tuples that are read are kept -/
def KT (K : PySem.W.Frag) (H H' : Hp) : Prop := ∀ a xs, SqT K H a xs → SqT K H' a xs
theorem KT.refl (K : PySem.W.Frag) (H : Hp) : KT K H H := fun _ _ h => h
theorem KT.trans {K : PySem.W.Frag} {H H1 H2 : Hp} (a : KT K H H1) (b : KT K H1 H2) : KT K H H2 := fun x y h => b x y (a x y h)
theorem KT.of {K : PySem.W.Frag} {H H' : Hp} (h : ∀ a o, H a = some o → (∀ xs, o ≠ .lst xs) → H' a = some o) : KT K H H' := fun a xs q => by
  rcases q with (q | ⟨o, q⟩) | q
  · exact .inl (.inl (h _ _ q (fun _ z => by cases z)))
  · exact .inl (.inr ⟨o, h _ _ q (fun _ z => by cases z)⟩)
  · exact .inr q
theorem KT.same {K : PySem.W.Frag} {H H' : Hp} (h : Same H H') : KT K H H' := KT.of fun a o q _ => h a o q
theorem KT.upd {K : PySem.W.Frag} {H : Hp} {r : Addr} {xs : List V} (h : H r = some (.lst xs)) (o : HO) : KT K H (upd H r o) := KT.of fun a u q n => by
  rw [upd_ne fun e => ?_]
  · exact q
  · rw [e, h] at q
    exact n xs (Option.some.inj q).symm
mutual
theorem Dp.kt {K : PySem.W.Frag} {H H' : Hp} (k : KT K H H') : ∀ {v : V} {d : PyData}, tupD d = true → Dp K H v d → Dp K H' v d
  | _, .none, _, h => by cases h; exact .non
  | _, .bool b, _, h => by cases h; exact .bl b
  | _, .int i, _, h => by cases h; exact .int i
  | _, .str x, _, h => by cases h; exact .str x
  | _, .tuple ds, t, h => by
    cases h with
    | tup h1 h2 => exact .tup (k _ _ h1) (DpAll.kt k (by unfold tupD at t; exact t) h2)
  | _, .list _, t, _ => by unfold tupD at t; cases t
  | _, .dict _, t, _ => by unfold tupD at t; cases t
theorem DpAll.kt {K : PySem.W.Frag} {H H' : Hp} (k : KT K H H') : ∀ {vs : List V} {ds : List PyData}, tupDs ds = true → DpAll K H vs ds → DpAll K H' vs ds
  | _, [], _, h => by cases h; exact .nil
  | _, d :: ds, t, h => by
    unfold tupDs at t
    rw [Bool.and_eq_true] at t
    cases h with
    | cons h1 h2 => exact .cons (Dp.kt k t.1 h1) (DpAll.kt k t.2 h2)
end
mutual
theorem Dp.same {K : PySem.W.Frag} {H H' : Hp} (k : Same H H') : ∀ {v : V} {d : PyData}, Dp K H v d → Dp K H' v d
  | _, .none, h => by cases h; exact .non
  | _, .bool b, h => by cases h; exact .bl b
  | _, .int i, h => by cases h; exact .int i
  | _, .str x, h => by cases h; exact .str x
  | _, .tuple ds, h => by
    cases h with
    | tup h1 h2 => exact .tup (KT.same k _ _ h1) (DpAll.same k h2)
  | _, .list ds, h => by
    cases h with
    | lst h1 h2 => exact .lst (k.seq h1) (DpAll.same k h2)
  | _, .dict _, h => by cases h
theorem DpAll.same {K : PySem.W.Frag} {H H' : Hp} (k : Same H H') : ∀ {vs : List V} {ds : List PyData}, DpAll K H vs ds → DpAll K H' vs ds
  | _, [], h => by cases h; exact .nil
  | _, d :: ds, h => by
    cases h with
    | cons h1 h2 => exact .cons (Dp.same k h1) (DpAll.same k h2)
end
theorem DpAll.length {K : PySem.W.Frag} {H : Hp} : ∀ {vs : List V} {ds : List PyData}, DpAll K H vs ds → vs.length = ds.length
  | _, [], h => by cases h; rfl
  | _, d :: ds, h => by
    cases h with
    | cons h1 h2 => rw [List.length_cons, List.length_cons, DpAll.length h2]
theorem DpAll.snoc {K : PySem.W.Frag} {H : Hp} {v : V} {d : PyData} (h : Dp K H v d) : ∀ {vs : List V} {ds : List PyData}, DpAll K H vs ds → DpAll K H (vs ++ [v]) (ds ++ [d])
  | _, [], h2 => by cases h2; exact .cons h .nil
  | _, e :: ds, h2 => by
    cases h2 with
    | cons h3 h4 => exact .cons h3 (DpAll.snoc h h4)
theorem DpAll.get {K : PySem.W.Frag} {H : Hp} : ∀ {vs : List V} {ds : List PyData} {i : Nat} {v : V}, DpAll K H vs ds → vs[i]? = some v → ∃ d, ds[i]? = some d ∧ Dp K H v d
  | _, [], i, v, h, e => by cases h; simp at e
  | _, d :: ds, 0, v, h, e => by
    cases h with
    | cons h1 h2 => exact ⟨d, rfl, by have := Option.some.inj e; subst this; exact h1⟩
  | _, d :: ds, i + 1, v, h, e => by
    cases h with
    | cons h1 h2 => exact DpAll.get (i := i) h2 e
theorem tupDs_append : ∀ (a b : List PyData), tupDs (a ++ b) = (tupDs a && tupDs b)
  | [], b => by rw [List.nil_append]; unfold tupDs; cases b <;> rfl
  | x :: a, b => by
    show (tupD x && tupDs (a ++ b)) = ((tupD x && tupDs a) && tupDs b)
    rw [tupDs_append a b, Bool.and_assoc]
theorem tupD_E : ∀ e : Ex, tupD e.d = true
  | .num _ => rfl
  | .name _ => rfl
  | .rows => rfl
  | .cols => rfl
  | .un o a => by
    show (true && (tupD a.d && true)) = true
    rw [tupD_E a]; rfl
  | .bin o a b => by
    show (true && (tupD a.d && (tupD b.d && true))) = true
    rw [tupD_E a, tupD_E b]; rfl
theorem tupDs_E : ∀ es : List Ex, tupDs (es.map Ex.d) = true
  | [] => rfl
  | e :: es => by
    show (tupD e.d && tupDs (es.map Ex.d)) = true
    rw [tupD_E e, tupDs_E es]; rfl
theorem tupDs_str : ∀ es : List Str, tupDs (es.map PyData.str) = true
  | [] => rfl
  | e :: es => by
    show (true && tupDs (es.map PyData.str)) = true
    rw [tupDs_str es]; rfl
mutual
theorem tupD_S : ∀ s : St, tupD s.d = true
  | .row e => by show (true && (tupD e.d && true)) = true; rw [tupD_E e]; rfl
  | .col e => by show (true && (tupD e.d && true)) = true; rw [tupD_E e]; rfl
  | .say e => by show (true && (tupD e.d && true)) = true; rw [tupD_E e]; rfl
  | .set x e => by show (true && (true && (tupD e.d && true))) = true; rw [tupD_E e]; rfl
  | .ite c a b => by show (true && (tupD c.d && (tupDs (dB a) && (tupDs (dB b) && true)))) = true; rw [tupD_E c, tupD_B a, tupD_B b]; rfl
  | .whl c a => by show (true && (tupD c.d && (tupDs (dB a) && true))) = true; rw [tupD_E c, tupD_B a]; rfl
  | .for_ x a b s => by show (true && (true && (tupD a.d && (tupD b.d && (tupDs (dB s) && true))))) = true; rw [tupD_E a, tupD_E b, tupD_B s]; rfl
  | .call f es => by show (true && (true && (tupDs (es.map Ex.d) && true))) = true; rw [tupDs_E es]; rfl
  | .stop => rfl
theorem tupD_B : ∀ b : List St, tupDs (dB b) = true
  | [] => rfl
  | s :: b => by
    show (tupD s.d && tupDs (dB b)) = true
    rw [tupD_S s, tupD_B b]; rfl
end
/-- two, three things in a new tuple -/
theorem Dp.new {K : PySem.W.Frag} {H : Hp} {p : Addr} {vs : List V} {ds : List PyData} (hp : H p = none) (h : DpAll K H vs ds) : Dp K (upd H p (.tup vs)) (.ref p) (.tuple ds) :=
  .tup (SqT.of upd_same) (KD.DpAll.same (fun b o q => by rw [upd_ne (ne_of_none q hp)]; exact q) h)
end KD

/-! The law's own drawing of programs: each def walked once. -/
namespace KD
open PySem L2 TL
/-- the built-ins' names are free -/
structure Blt (mg : Str → Option Value) : Prop where
  len : mg "len" = none
  int : mg "int" = none
  isi : mg "isinstance" = none
  str : mg "str" = none
  tup : mg "tuple" = none
  list : mg "list" = none
  range : mg "range" = none
  bool : mg "bool" = none
/-! ### the row of draws -/
def rowO (s : Addr) (i a b : Int) : HO := .lst [.ref s, .int i, .int a, .int b]
def RowAt (H : Hp) (r s : Addr) : Prop := ∃ i a b : Int, H r = some (rowO s i a b) ∧ 0 ≤ i ∧ 0 ≤ a ∧ a < 2147483647
/-- all that was tracked is kept, but at r -/
def Keep (r : Addr) (H H' : Hp) : Prop := ∀ b o, b ≠ r → H b = some o → H' b = some o
theorem Keep.refl (r : Addr) (H : Hp) : Keep r H H := fun _ _ _ h => h
theorem Keep.trans {r : Addr} {H H1 H2 : Hp} (a : Keep r H H1) (b : Keep r H1 H2) : Keep r H H2 := fun c o n h => b c o n (a c o n h)
theorem Keep.upd (r : Addr) (H : Hp) (o : HO) : Keep r H (upd H r o) := fun b u n h => by rw [upd_ne n]; exact h
theorem Keep.new {r p : Addr} {H : Hp} (h : H p = none) (o : HO) : Keep r H (L2.upd H p o) := fun b u _ q => by rw [upd_ne (ne_of_none q h)]; exact q
def Scr (K : PySem.W.Frag) (H : Hp) (r s : Addr) : Prop := ∃ ns : List Int, ns.length ≤ 63 ∧ ∀ H', Keep r H H' → SqL K H' s (ns.map V.int)
theorem Scr.mono {K : PySem.W.Frag} {H H' : Hp} {r s : Addr} (h : Scr K H r s) (k : Keep r H H') : Scr K H' r s := by
  obtain ⟨ns, h1, h2⟩ := h
  exact ⟨ns, h1, fun H2 k2 => h2 H2 (k.trans k2)⟩
theorem upd2 {H : Hp} {r : Addr} {o u : HO} : upd (upd H r o) r u = upd H r u := upd_upd

/-! ### promises -/
def spTaken (K : PySem.W.Frag) : Sp := fun vs H Q _ => ∃ (r s : Addr) (many : Int), vs = [.ref r, .int many] ∧ RowAt H r s ∧ Scr K H r s ∧ 1 ≤ many ∧ many ≤ 1000000000 ∧
  ∀ (H' : Hp) (v : Int), Keep r H H' → RowAt H' r s → 0 ≤ v → v < many → Q (.int v) H'
def spPick (K : PySem.W.Frag) : Sp := fun vs H Q _ => ∃ (r s : Addr) (x : V), vs = [.ref r, x] ∧ RowAt H r s ∧ Scr K H r s ∧
  ((∃ (p : Addr) (xs : List V), x = .ref p ∧ p ≠ r ∧ H p = some (.lst xs) ∧ 1 ≤ xs.length ∧ xs.length ≤ 1000 ∧ ∀ (H' : Hp) (v : V), Keep r H H' → RowAt H' r s → v ∈ xs → Q v H') ∨
   (∃ z : Str, x = .str z ∧ 1 ≤ z.length ∧ z.length ≤ 1000 ∧ ∀ (H' : Hp) (c : Nat), Keep r H H' → RowAt H' r s → c ∈ tl z → Q (.str ⟨#[c]⟩) H'))

section
variable {P : Program} {w : World} {K : PySem.W.Frag} {mg : Str → Option Value} {base : Heap}
theorem scTaken : FnScope ["row", "many", "found", cellN] ["row", "many"] (defScope S__law_taken) := ⟨rfl, rfl, rfl, by decide +kernel, rfl, by decide +kernel, by decide +kernel⟩
theorem ok_taken {f : Addr} {fd : FuncData} (F : Fun K "_law_taken" "_law_taken" S__law_taken f fd) (T : Blt mg) : FnOk P w K mg base CX0 1 f fd ["row", "many"] (spTaken K) := by
  refine F.ok scTaken (fun vs H Q E h => ?_) (fun cdv A outer s0 H vs Q E hr h => ?_)
  · obtain ⟨r, s, many, rfl, _⟩ := h
    rfl
  obtain ⟨r, s, many, rfl, ⟨i, a, b, hR, hi, ha, ha2⟩, ⟨ns, hns, hS⟩, hm1, hm2, k⟩ := h
  refine ⟨_, pss_cons (ps_if (pt_cmpR op_gt (pe_ix ix_list (pv 0) pe_int (fun _ _ => rfl)) pe_int (nomark _))
      (pss_cons (ps_set (i := 2) scTaken.nd rfl (Or.inl rfl) (pe_op op_mod (pe_callTy call_int1 (by rfl) T.int (by decide +kernel) (pa_cons (pe_ix ix_list (pv 0) pe_int (fun _ _ => rfl)) pa_nil)) (pv 1)))
      (pss_cons (ps_asg (pe_op op_fdiv (pe_ix ix_list (pv 0) pe_int (fun _ _ => rfl)) (pv 1)) (pg_sub (pv 0) pe_int set_list))
      (pss_one (ps_ret (pv 2))))) pss_nil)
    (pss_cons (ps_asg (pe_op op_add (pe_ix ix_list (pv 0) pe_int (fun _ _ => rfl)) pe_int) (pg_sub (pv 0) pe_int set_list))
    (pss_cons (ps_if (pt_cmpR op_gt (pe_ix ix_list (pv 0) pe_int (fun _ _ => rfl)) (pe_callB call_len_seq (by rfl) T.len PySem.boot_len (pa_cons (pe_ix ix_list (pv 0) pe_int (fun _ _ => rfl)) pa_nil)) (nomark _))
      (pss_cons (ps_asg (pe_op op_mod (pe_callTy call_int1 (by rfl) T.int (by decide +kernel) (pa_cons (pe_op op_add (pe_op op_mul (pe_ix ix_list (pv 0) pe_int (fun _ _ => rfl)) pe_int) pe_int) pa_nil)) pe_int) (pg_sub (pv 0) pe_int set_list))
      (pss_one (ps_ret (pe_op op_mod (pe_callTy call_int1 (by rfl) T.int (by decide +kernel) (pa_cons (pe_op op_fdiv (pe_ix ix_list (pv 0) pe_int (fun _ _ => rfl)) pe_int) pa_nil)) (pv 1))))) pss_nil)
    (pss_cons (ps_set (i := 3) scTaken.nd rfl (Or.inl rfl) (pe_ix ix_list (pe_ix ix_list (pv 0) pe_int (fun _ _ => rfl)) (pe_op op_sub (pe_ix ix_list (pv 0) pe_int (fun _ _ => rfl)) pe_int) (fun _ _ => rfl)))
    (pss_cons (ps_asg (pe_op op_mod (pe_callTy call_int1 (by rfl) T.int (by decide +kernel) (pa_cons (pe_op op_add (pe_op op_add (pe_op op_mul (pe_ix ix_list (pv 0) pe_int (fun _ _ => rfl)) pe_int) (pv 3)) pe_int) pa_nil)) pe_int) (pg_sub (pv 0) pe_int set_list))
    (pss_cons (ps_if (pt_cmpR op_ge (pv 3) (pe_op op_pow pe_int pe_int) (nomark _))
      (pss_one (ps_asg (pe_op op_fdiv (pv 3) (pv 1)) (pg_sub (pv 0) pe_int set_list))) pss_nil)
    (pss_one (ps_ret (pe_op op_mod (pe_callTy call_int1 (by rfl) T.int (by decide +kernel) (pa_cons (pv 3) pa_nil)) (pv 1))))))))), ?_⟩
  have hm : (0 : Int) < many := by omega
  have hdv : (0 : Int) < many ∧ many < 1073741824 := ⟨hm, by omega⟩
  -- row[3] > 0
  refine ⟨_, rfl, r, _, _, _, rfl, rfl, SqL.of hR, rfl, _, _, rfl, rfl, _, rfl, ?_⟩
  refine ite2 (fun c => ?_) (fun c => ?_)
  · have hb : b > 0 := of_decide_eq_true c
    refine ⟨_, rfl, r, _, _, _, rfl, rfl, SqL.of hR, rfl, .inl ⟨_, rfl, _, rfl, _, _, rfl, rfl, hm, ?_⟩⟩
    refine ⟨_, rfl, r, _, _, _, rfl, rfl, SqL.of hR, rfl, _, rfl, _, _, rfl, rfl, hdv, _, rfl, r, _, _, 3, rfl, rfl, hR, rfl, ?_⟩
    refine ⟨_, rfl, ?_⟩
    exact k _ _ (Keep.upd r H _) ⟨i, a, b / many, upd_same, hi, ha, ha2⟩ (Int.emod_nonneg _ (by omega)) (Int.emod_lt_of_pos _ hm)
  · -- row[1] = row[1] + 1
    refine ⟨_, rfl, r, _, _, _, rfl, rfl, SqL.of hR, rfl, _, _, rfl, rfl, _, rfl, r, _, _, 1, rfl, rfl, hR, rfl, ?_⟩
    have k1 : Keep r H (upd H r (rowO s (i + 1) a b)) := Keep.upd r H _
    have hR1 : (upd H r (rowO s (i + 1) a b)) r = some (.lst [.ref s, .int (i + 1), .int a, .int b]) := upd_same
    have hS1 := hS _ k1
    -- if row[1] > len(row[0])
    refine ⟨_, rfl, r, _, _, _, rfl, rfl, SqL.of hR1, rfl, _, rfl, r, _, _, _, rfl, rfl, SqL.of hR1, rfl, s, _, rfl, .inl hS1, _, _, rfl, rfl, _, rfl, ?_⟩
    refine ite2 (fun c1 => ?_) (fun c1 => ?_)
    · refine ⟨_, rfl, r, _, _, _, rfl, rfl, SqL.of hR1, rfl, _, _, rfl, rfl, .inl ⟨by omega, by omega⟩, _, _, rfl, rfl, .inl ⟨_, rfl, _, _, rfl, rfl, (by show (0 : Int) < 2147483647; decide), _, rfl, r, _, _, 2, rfl, rfl, hR1, rfl, ?_⟩⟩
      rw [upd2]
      have hR2 : (upd H r (.lst [.ref s, .int (i + 1), .int ((a * 48271 + 11) % 2147483647), .int b])) r = some (.lst [.ref s, .int (i + 1), .int ((a * 48271 + 11) % 2147483647), .int b]) := upd_same
      refine ⟨_, rfl, r, _, _, _, rfl, rfl, SqL.of hR2, rfl, _, _, rfl, rfl, ⟨by decide, by decide⟩, .inl ⟨_, rfl, _, rfl, _, _, rfl, rfl, hm, ?_⟩⟩
      exact k _ _ (Keep.upd r H _) ⟨i + 1, (a * 48271 + 11) % 2147483647, b, upd_same, by omega, by omega, by omega⟩ (Int.emod_nonneg _ (by omega)) (Int.emod_lt_of_pos _ hm)
    · have c1' : ¬ (i + 1 > (((ns.map V.int).length : Nat) : Int)) := of_decide_eq_false (Bool.eq_false_iff.mpr c1)
      rw [List.length_map] at c1'
      have hlt : i.toNat < ns.length := by omega
      have ei : i + 1 - 1 = ((i.toNat : Nat) : Int) := by omega
      have q : atI (ns.map V.int) (i + 1 - 1) = some (.int ns[i.toNat]) := by
        rw [ei]
        exact atI_nat (by rw [List.getElem?_map, List.getElem?_eq_getElem hlt] <;> rfl)
      generalize ns[i.toNat] = cell at q
      refine ⟨_, rfl, r, _, _, _, rfl, rfl, SqL.of hR1, rfl, _, rfl, r, _, _, _, rfl, rfl, SqL.of hR1, rfl, _, _, rfl, rfl, s, _, _, _, rfl, rfl, hS1, q, ?_⟩
      refine ⟨_, rfl, r, _, _, _, rfl, rfl, SqL.of hR1, rfl, _, _, rfl, rfl, .inl ⟨by omega, by omega⟩, _, rfl, _, _, rfl, rfl, _, _, rfl, rfl, .inl ⟨_, rfl, _, _, rfl, rfl, (by show (0 : Int) < 2147483647; decide), _, rfl, r, _, _, 2, rfl, rfl, hR1, rfl, ?_⟩⟩
      rw [upd2]
      have hR2 : (upd H r (.lst [.ref s, .int (i + 1), .int ((a * 48271 + cell + 11) % 2147483647), .int b])) r = some (.lst [.ref s, .int (i + 1), .int ((a * 48271 + cell + 11) % 2147483647), .int b]) := upd_same
      refine ⟨_, rfl, _, _, rfl, rfl, ⟨by decide, by decide, by decide⟩, _, _, rfl, rfl, _, rfl, ?_⟩
      refine ite2 (fun c2 => ?_) (fun c2 => ?_)
      · refine ⟨_, rfl, _, rfl, _, _, rfl, rfl, hdv, _, rfl, r, _, _, 3, rfl, rfl, hR2, rfl, ?_⟩
        rw [upd2]
        refine ⟨_, rfl, .inl ⟨_, rfl, _, rfl, _, _, rfl, rfl, hm, ?_⟩⟩
        exact k _ _ (Keep.upd r H _) ⟨i + 1, (a * 48271 + cell + 11) % 2147483647, cell / many, upd_same, by omega, by omega, by omega⟩ (Int.emod_nonneg _ (by omega)) (Int.emod_lt_of_pos _ hm)
      · refine ⟨_, rfl, .inl ⟨_, rfl, _, rfl, _, _, rfl, rfl, hm, ?_⟩⟩
        exact k _ _ (Keep.upd r H _) ⟨i + 1, (a * 48271 + cell + 11) % 2147483647, b, upd_same, by omega, by omega, by omega⟩ (Int.emod_nonneg _ (by omega)) (Int.emod_lt_of_pos _ hm)
/-! ### _law_pick -/
theorem scPick : FnScope ["row", "things"] ["row", "things"] (defScope S__law_pick) := ⟨rfl, rfl, rfl, by decide +kernel, rfl, by decide +kernel, by decide +kernel⟩
theorem atI_int {α : Type} {xs : List α} {v : Int} (h0 : 0 ≤ v) (h1 : v < xs.length) : ∃ y, atI xs v = some y ∧ y ∈ xs := by
  have hlt : v.toNat < xs.length := by omega
  have e : v = ((v.toNat : Nat) : Int) := by omega
  refine ⟨xs[v.toNat], ?_, List.getElem_mem hlt⟩
  have q : atI xs ((v.toNat : Nat) : Int) = some xs[v.toNat] := atI_nat (List.getElem?_eq_getElem hlt)
  rw [← e] at q
  exact q
theorem ok_pick {f fT : Addr} {fd fdT : FuncData} (F : Fun K "_law_pick" "_law_pick" S__law_pick f fd) (T : Blt mg) (GT : FnOk P w K mg base CX0 1 fT fdT ["row", "many"] (spTaken K)) (mT : mg "_law_taken" = some (.ref fT)) (kT : PySem.W.keepIn K (.ref fT) = true) (bT : Binds K fdT ["row", "many"] []) :
    FnOk P w K mg base CX0 2 f fd ["row", "things"] (spPick K) := by
  refine F.ok scPick (fun vs H Q E h => ?_) (fun cdv A outer s0 H vs Q E hr h => ?_)
  · obtain ⟨r, s, x, rfl, _⟩ := h
    rfl
  obtain ⟨r, s, x, rfl, hR, hS, h⟩ := h
  rcases h with ⟨p, xs, rfl, hpr, hp, hl1, hl2, k⟩ | ⟨z, rfl, hl1, hl2, k⟩
  · refine ⟨_, pss_one (ps_ret (pe_ix ix_list (pv 1) (pe_call GT hr rfl mT kT bT .nil pass0 (pa_cons (pv 0) (pa_cons (pe_callB call_len_seq (by rfl) T.len PySem.boot_len (pa_cons (pv 1) pa_nil)) pa_nil))) (fun _ _ => rfl))), ?_⟩
    refine ⟨_, rfl, _, rfl, _, rfl, p, xs, rfl, .inl (SqL.of hp), r, s, (xs.length : Int), rfl, hR, hS, by omega, by omega, fun H' v kp hR' h0 h1 => ?_⟩
    obtain ⟨y, hy, my⟩ := atI_int (xs := xs) h0 h1
    exact ⟨p, xs, v, y, rfl, rfl, SqL.of (kp p _ hpr hp), hy, k H' y kp hR' my⟩
  · refine ⟨_, pss_one (ps_ret (pe_ix ix_str (pv 1) (pe_call GT hr rfl mT kT bT .nil pass0 (pa_cons (pv 0) (pa_cons (pe_callB call_len_str (by rfl) T.len PySem.boot_len (pa_cons (pv 1) pa_nil)) pa_nil))) (fun _ _ => rfl))), ?_⟩
    have hz : z.length ≤ sizeLine := Nat.le_trans hl2 (by decide)
    refine ⟨_, rfl, _, rfl, _, rfl, z, rfl, hz, r, s, (z.length : Int), rfl, hR, hS, by omega, by omega, fun H' v kp hR' h0 h1 => ?_⟩
    obtain ⟨c, hc, mc⟩ := atI_int (xs := tl z) h0 (by rw [← len_tl]; exact h1)
    exact ⟨z, v, c, rfl, rfl, hz, hc, k H' c kp hR' mc⟩

/-! ### expressions -/
def allN : List Str := ["a", "b", "c", "long", "i", "j", "p", "q"]
def nmsOk (ns : List Str) : Prop := ∀ x ∈ ns, x ∈ allN
theorem allN_ok : ∀ x ∈ allN, PyData.strOk x = true := by decide +kernel
theorem dp_strs {H : Hp} : ∀ l : List Str, DpAll K H (l.map V.str) (l.map PyData.str)
  | [] => .nil
  | x :: l => .cons (.str x) (dp_strs l)
theorem lay_strs : ∀ {l : List Str}, nmsOk l → PyData.canLayAll0 (l.map PyData.str) = true
  | [], _ => rfl
  | x :: l, h => by
    show (PyData.strOk x && PyData.canLayAll0 (l.map PyData.str)) = true
    rw [allN_ok x (h x List.mem_cons_self), lay_strs (l := l) fun y hy => h y (List.mem_cons_of_mem _ hy)]
    rfl
theorem depth_strs : ∀ (l : List Str), PyData.depthAll (l.map PyData.str) ≤ 1
  | [] => by decide
  | x :: l => by
    have ih := depth_strs l
    show max (PyData.depth (.str x)) (PyData.depthAll (l.map PyData.str)) ≤ 1
    have : PyData.depth (.str x) ≤ 1 := by first | decide | exact Nat.le_refl _ | simp [PyData.depth]
    omega
theorem shaped_strs {l : List Str} (h : nmsOk l) : SeqAt.shaped (.list (l.map PyData.str)) = true := by
  unfold SeqAt.shaped
  rw [Bool.and_eq_true, decide_eq_true_iff]
  refine ⟨lay_strs h, ?_⟩
  have := depth_strs l
  show PyData.depthAll (l.map PyData.str) + 1 ≤ 64
  omega
theorem eqv_nil : ∀ l : List PyData, PyData.eqv (.list l) (.list []) = l.isEmpty
  | [] => rfl
  | x :: l => by rw [PyData.eqv]; rfl
theorem RowAt.is {H : Hp} {r s : Addr} (h : RowAt H r s) : ∃ xs, H r = some (.lst xs) := by
  obtain ⟨i, a, b, h, _⟩ := h
  exact ⟨_, h⟩
theorem RowAt.new {H : Hp} {r s p : Addr} (h : RowAt H r s) (hp : H p = none) (o : HO) : RowAt (upd H p o) r s := by
  obtain ⟨i, a, b, h, h2⟩ := h
  exact ⟨i, a, b, by rw [upd_ne (ne_of_none h hp)]; exact h, h2⟩
theorem RowAt.ne {H : Hp} {r s p : Addr} (h : RowAt H r s) (hp : H p = none) : p ≠ r := by
  obtain ⟨xs, h⟩ := h.is
  exact (ne_of_none h hp).symm
theorem RowAt.kt {H H' : Hp} {r s : Addr} (h : RowAt H r s) (k : Keep r H H') : KT K H H' := by
  obtain ⟨xs, hx⟩ := h.is
  exact KT.of fun a o q n => k a o (fun e => by rw [e, hx] at q; exact n xs (Option.some.inj q).symm) q
theorem in_strs (w : Str) : ∀ l : List Str, inV (.str w) (l.map V.str) = decide (w ∈ l)
  | [] => by simp [inV]
  | a :: l => by
    have ih := in_strs w l
    unfold inV at ih ⊢
    rw [List.map_cons, List.any_cons, ih]
    have e : eqV (.str a) (.str w) = decide (a = w) := by
      show (a == w) = _
      rw [Bool.eq_iff_iff]
      simp
    rw [e, Bool.eq_iff_iff]
    simp only [Bool.or_eq_true, decide_eq_true_eq, List.mem_cons]
    constructor
    · rintro (h | h)
      · exact Or.inl h.symm
      · exact Or.inr h
    · rintro (h | h)
      · exact Or.inl h.symm
      · exact Or.inr h
theorem flat_strs (l : List Str) : (l.map V.str).all flatV = true := by
  rw [List.all_eq_true]
  intro x hx
  obtain ⟨s, _, rfl⟩ := List.mem_map.mp hx
  rfl
theorem strs_mem {v : V} {l : List Str} (h : v ∈ l.map V.str) : ∃ k, v = .str k ∧ k ∈ l := by
  obtain ⟨k, hk, e⟩ := List.mem_map.mp h
  exact ⟨k, e.symm, hk⟩
def numN : List Nat := [0, 1, 1, 2, 2, 3, 4, 7, 31, 999999]
theorem num_mem {v : V} (h : v ∈ numN.map fun n => V.int ((n : Nat) : Int)) : ∃ n : Nat, v = .int ((n : Nat) : Int) ∧ n < 1000000 := by
  obtain ⟨n, hn, e⟩ := List.mem_map.mp h
  exact ⟨n, e.symm, (by decide : ∀ n ∈ numN, n < 1000000) n hn⟩
def un2 : List Str := ["neg", "not"]
def bi13 : List Str := ["or", "and", "<", "<=", "=", "!=", "+", "-", "+", "-", "*", "/", "mod"]
theorem un_mem : ∀ x ∈ un2, ∃ o : Un, o.w = x := by
  intro x hx
  simp only [un2, List.mem_cons, List.not_mem_nil, or_false] at hx
  rcases hx with rfl | rfl
  · exact ⟨.neg, rfl⟩
  · exact ⟨.not, rfl⟩
theorem bi_mem : ∀ x ∈ bi13, ∃ o : Bi, o.w = x := by
  intro x hx
  simp only [bi13, List.mem_cons, List.not_mem_nil, or_false] at hx
  rcases hx with rfl | rfl | rfl | rfl | rfl | rfl | rfl | rfl | rfl | rfl | rfl | rfl | rfl
  · exact ⟨.or, rfl⟩
  · exact ⟨.and, rfl⟩
  · exact ⟨.lt, rfl⟩
  · exact ⟨.le, rfl⟩
  · exact ⟨.eq, rfl⟩
  · exact ⟨.ne, rfl⟩
  · exact ⟨.add, rfl⟩
  · exact ⟨.sub, rfl⟩
  · exact ⟨.add, rfl⟩
  · exact ⟨.sub, rfl⟩
  · exact ⟨.mul, rfl⟩
  · exact ⟨.div, rfl⟩
  · exact ⟨.mod, rfl⟩
end
end KD

/-! Orders' arithmetic: within, add .. denial, made_of_two, made_of_one. -/
namespace KD
open PySem L2 TL
def Small (x : Int) : Prop := -1000000000 ≤ x ∧ x ≤ 1000000000
instance (x : Int) : Decidable (Small x) := by unfold Small; exact inferInstance
/-- Ended is raised -/
def rz (CE : Addr) (m : Str) (H : Hp) (E : XK) : Prop := ∀ d H', Same H H' → H d = none → H' d = some (endD m) → E (.ref CE) (some d) H'
inductive O2 | add | sub | mul | lt | le | eq | ne
def O2.w : O2 → Str
  | .add => "add" | .sub => "sub" | .mul => "mul" | .lt => "lt" | .le => "le" | .eq => "eq" | .ne => "ne"
def O2.v : O2 → Int → Int → Int
  | .add, a, b => a + b | .sub, a, b => a - b | .mul, a, b => a * b
  | .lt, a, b => if a < b then 1 else 0 | .le, a, b => if a ≤ b then 1 else 0 | .eq, a, b => if a = b then 1 else 0 | .ne, a, b => if a ≠ b then 1 else 0
inductive O1 | neg | not | truth
def O1.w : O1 → Str
  | .neg => "neg" | .not => "not" | .truth => "truth"
def O1.v : O1 → Int → Int
  | .neg, a => -a | .not, a => if a = 0 then 1 else 0 | .truth, a => if a ≠ 0 then 1 else 0
theorem small_bit (c : Prop) [Decidable c] : Small (if c then 1 else 0) := by split <;> decide
theorem dec_int (a b : Int) : decide (V.int a = V.int b) = decide (a = b) := by
  rw [Bool.eq_iff_iff, decide_eq_true_iff, decide_eq_true_iff]
  exact ⟨V.int.inj, fun e => by rw [e]⟩
def spWithin (CE : Addr) : Sp := fun vs H Q E => ∃ x : Int, vs = [.int x] ∧ (Small x → Q (.int x) H) ∧ (¬ Small x → rz CE "number" H E)
def spO2 (CE : Addr) (o : O2) : Sp := fun vs H Q E => ∃ a b : Int, vs = [.int a, .int b] ∧ Small a ∧ Small b ∧ (Small (o.v a b) → Q (.int (o.v a b)) H) ∧ (¬ Small (o.v a b) → rz CE "number" H E)
def spO1 (o : O1) : Sp := fun vs H Q _ => ∃ a : Int, vs = [.int a] ∧ Q (.int (o.v a)) H
def spM2 (CE : Addr) : Sp := fun vs H Q E => ∃ (o : O2) (a b : Int), vs = [.str o.w, .int a, .int b] ∧ Small a ∧ Small b ∧ (Small (o.v a b) → Q (.int (o.v a b)) H) ∧ (¬ Small (o.v a b) → rz CE "number" H E)
def spM1 : Sp := fun vs H Q _ => ∃ (o : O1) (a : Int), vs = [.str o.w, .int a] ∧ Q (.int (o.v a)) H
theorem psX {X : Cx} {E₁ : Value → Shared → Prop} {E : XK} (hs : X.stack = X.env :: X.outer) (hf : X.env.frame = some X.env.locals) (hex : X.ex = [])
    (hx : X.xe = fun e s' => wpAny (model X.prog X.w) X.A (leaving X.env e) (fun _ s'' => L2.CX X.prog X.w X.outer X.H_0 X.s_0 E e s'') E₁ s') : Passes (L2.CX X.prog X.w) X E := passes_call (takes_of hs hf hex hx) fun _ _ _ _ h => h
section
variable {P : Program} {w : World} {K : PySem.W.Frag} {mg : Str → Option Value} {base : Heap}
theorem scWithin : FnScope ["number"] ["number"] (defScope S_within) := ⟨rfl, rfl, rfl, by decide +kernel, rfl, by decide +kernel, by decide +kernel⟩
theorem ok_within {f CE fI : Addr} {fd fdI : FuncData} (F : Fun K "within" "within" S_within f fd) (TE : EnT K mg CE fI fdI) (habs : mg "abs" = none) (mM : ∃ t, mg "MOST" = some (.int 1000000000 t)) : FnOk P w K mg base (L2.CX P w) 3 f fd ["number"] (spWithin CE) := by
  refine F.okX scWithin (fun vs H Q E h => ?_) (fun cdv A outer s0 H vs Q E hr h => ?_)
  · obtain ⟨x, rfl, _⟩ := h
    rfl
  obtain ⟨x, rfl, k1, k2⟩ := h
  obtain ⟨t, mM⟩ := mM
  refine ⟨_, pss_cons (ps_if (pt_cmpR op_gt (pe_callB call_abs (by rfl) habs (by decide +kernel) (pa_cons (pv 0) pa_nil)) (pe_glob (v := .int 1000000000) rfl mM ⟨_, rfl⟩) (nomark _))
      (pss_one (ps_ended TE rfl hr (takes_of rfl rfl rfl rfl) (by rfl))) pss_nil) (pss_one (ps_ret (pv 0))), ?_⟩
  refine ⟨_, rfl, x, rfl, _, _, rfl, rfl, _, rfl, ?_⟩
  refine ite2 (fun c => ?_) (fun c => ?_)
  · rw [decide_eq_true_iff] at c
    exact k2 (fun s => by unfold Small at s; split at c <;> omega)
  · rw [decide_eq_true_iff] at c
    exact ⟨_, rfl, k1 (by unfold Small; split at c <;> omega)⟩
theorem sc_add : FnScope ["first", "second"] ["first", "second"] (defScope S_add) := ⟨rfl, rfl, rfl, by decide +kernel, rfl, by decide +kernel, by decide +kernel⟩
theorem ok_add {f fW CE : Addr} {fd fdW : FuncData} (F : Fun K "add" "add" S_add f fd) (GW : FnOk P w K mg base (L2.CX P w) 3 fW fdW ["number"] (spWithin CE)) (mW : mg "within" = some (.ref fW)) (kW : PySem.W.keepIn K (.ref fW) = true) (bW : Binds K fdW ["number"] []) :
    FnOk P w K mg base (L2.CX P w) 4 f fd ["first", "second"] (spO2 CE .add) := by
  refine F.okX sc_add (fun vs H Q E h => ?_) (fun cdv A outer s0 H vs Q E hr h => ?_)
  · obtain ⟨a, b, rfl, _⟩ := h
    rfl
  obtain ⟨a, b, rfl, ha, hb, k1, k2⟩ := h
  refine ⟨_, pss_one (ps_ret (pe_call GW hr rfl mW kW bW .nil (psX rfl rfl rfl rfl) (pa_cons (pe_op op_add (pv 0) (pv 1)) pa_nil))), ?_⟩
  exact ⟨_, rfl, _, rfl, _, _, rfl, rfl, _, rfl, k1, k2⟩
theorem sc_subtract : FnScope ["first", "second"] ["first", "second"] (defScope S_subtract) := ⟨rfl, rfl, rfl, by decide +kernel, rfl, by decide +kernel, by decide +kernel⟩
theorem ok_subtract {f fW CE : Addr} {fd fdW : FuncData} (F : Fun K "subtract" "subtract" S_subtract f fd) (GW : FnOk P w K mg base (L2.CX P w) 3 fW fdW ["number"] (spWithin CE)) (mW : mg "within" = some (.ref fW)) (kW : PySem.W.keepIn K (.ref fW) = true) (bW : Binds K fdW ["number"] []) :
    FnOk P w K mg base (L2.CX P w) 4 f fd ["first", "second"] (spO2 CE .sub) := by
  refine F.okX sc_subtract (fun vs H Q E h => ?_) (fun cdv A outer s0 H vs Q E hr h => ?_)
  · obtain ⟨a, b, rfl, _⟩ := h
    rfl
  obtain ⟨a, b, rfl, ha, hb, k1, k2⟩ := h
  refine ⟨_, pss_one (ps_ret (pe_call GW hr rfl mW kW bW .nil (psX rfl rfl rfl rfl) (pa_cons (pe_op op_sub (pv 0) (pv 1)) pa_nil))), ?_⟩
  exact ⟨_, rfl, _, rfl, _, _, rfl, rfl, _, rfl, k1, k2⟩
theorem sc_multiply : FnScope ["first", "second"] ["first", "second"] (defScope S_multiply) := ⟨rfl, rfl, rfl, by decide +kernel, rfl, by decide +kernel, by decide +kernel⟩
theorem ok_multiply {f fW CE : Addr} {fd fdW : FuncData} (F : Fun K "multiply" "multiply" S_multiply f fd) (GW : FnOk P w K mg base (L2.CX P w) 3 fW fdW ["number"] (spWithin CE)) (mW : mg "within" = some (.ref fW)) (kW : PySem.W.keepIn K (.ref fW) = true) (bW : Binds K fdW ["number"] []) :
    FnOk P w K mg base (L2.CX P w) 4 f fd ["first", "second"] (spO2 CE .mul) := by
  refine F.okX sc_multiply (fun vs H Q E h => ?_) (fun cdv A outer s0 H vs Q E hr h => ?_)
  · obtain ⟨a, b, rfl, _⟩ := h
    rfl
  obtain ⟨a, b, rfl, ha, hb, k1, k2⟩ := h
  refine ⟨_, pss_one (ps_ret (pe_call GW hr rfl mW kW bW .nil (psX rfl rfl rfl rfl) (pa_cons (pe_op op_mul (pv 0) (pv 1)) pa_nil))), ?_⟩
  refine ⟨_, rfl, _, rfl, _, _, rfl, rfl, .inl ?_, _, rfl, k1, k2⟩
  unfold Small at ha
  constructor <;> omega
theorem sc_is_less : FnScope ["first", "second"] ["first", "second"] (defScope S_is_less) := ⟨rfl, rfl, rfl, by decide +kernel, rfl, by decide +kernel, by decide +kernel⟩
theorem ok_is_less {f CE : Addr} {fd : FuncData} (F : Fun K "is_less" "is_less" S_is_less f fd) (T : Blt mg) : FnOk P w K mg base (L2.CX P w) 4 f fd ["first", "second"] (spO2 CE .lt) := by
  refine F.okX sc_is_less (fun vs H Q E h => ?_) (fun cdv A outer s0 H vs Q E hr h => ?_)
  · obtain ⟨a, b, rfl, _⟩ := h
    rfl
  obtain ⟨a, b, rfl, ha, hb, k1, k2⟩ := h
  have k := k1 (small_bit _)
  refine ⟨_, pss_one (ps_ret (pe_callTy call_int1 (by rfl) T.int (by decide +kernel) (pa_cons (pe_cmpR op_lt (pv 0) (pv 1) (nomark _)) pa_nil))), ?_⟩
  refine ⟨_, rfl, _, rfl, a, b, rfl, rfl, .inr ⟨_, rfl, ?_⟩⟩
  rw [show (if (decide _ : Bool) = true then (1 : Int) else 0) = _ from by simp only [decide_eq_true_eq]; rfl]
  exact k
theorem sc_is_at_most : FnScope ["first", "second"] ["first", "second"] (defScope S_is_at_most) := ⟨rfl, rfl, rfl, by decide +kernel, rfl, by decide +kernel, by decide +kernel⟩
theorem ok_is_at_most {f CE : Addr} {fd : FuncData} (F : Fun K "is_at_most" "is_at_most" S_is_at_most f fd) (T : Blt mg) : FnOk P w K mg base (L2.CX P w) 4 f fd ["first", "second"] (spO2 CE .le) := by
  refine F.okX sc_is_at_most (fun vs H Q E h => ?_) (fun cdv A outer s0 H vs Q E hr h => ?_)
  · obtain ⟨a, b, rfl, _⟩ := h
    rfl
  obtain ⟨a, b, rfl, ha, hb, k1, k2⟩ := h
  have k := k1 (small_bit _)
  refine ⟨_, pss_one (ps_ret (pe_callTy call_int1 (by rfl) T.int (by decide +kernel) (pa_cons (pe_cmpR op_le (pv 0) (pv 1) (nomark _)) pa_nil))), ?_⟩
  refine ⟨_, rfl, _, rfl, a, b, rfl, rfl, .inr ⟨_, rfl, ?_⟩⟩
  rw [show (if (decide _ : Bool) = true then (1 : Int) else 0) = _ from by simp only [decide_eq_true_eq]; rfl]
  exact k
theorem sc_is_equal : FnScope ["first", "second"] ["first", "second"] (defScope S_is_equal) := ⟨rfl, rfl, rfl, by decide +kernel, rfl, by decide +kernel, by decide +kernel⟩
theorem ok_is_equal {f CE : Addr} {fd : FuncData} (F : Fun K "is_equal" "is_equal" S_is_equal f fd) (T : Blt mg) : FnOk P w K mg base (L2.CX P w) 4 f fd ["first", "second"] (spO2 CE .eq) := by
  refine F.okX sc_is_equal (fun vs H Q E h => ?_) (fun cdv A outer s0 H vs Q E hr h => ?_)
  · obtain ⟨a, b, rfl, _⟩ := h
    rfl
  obtain ⟨a, b, rfl, ha, hb, k1, k2⟩ := h
  have k := k1 (small_bit _)
  refine ⟨_, pss_one (ps_ret (pe_callTy call_int1 (by rfl) T.int (by decide +kernel) (pa_cons (pe_cmpR op_eq (pv 0) (pv 1) (nomark _)) pa_nil))), ?_⟩
  refine ⟨_, rfl, _, rfl, rfl, .inr ⟨_, rfl, ?_⟩⟩
  have e : (if (decide (V.int a = V.int b)) = true then (1 : Int) else 0) = O2.eq.v a b := by
    rw [dec_int]
    show _ = if a = b then 1 else 0
    by_cases c : a = b
    · simp [c]
    · simp [c]
  show Q (V.int (if decide (V.int a = V.int b) = true then 1 else 0)) H
  rw [e]
  exact k
theorem sc_is_unlike : FnScope ["first", "second"] ["first", "second"] (defScope S_is_unlike) := ⟨rfl, rfl, rfl, by decide +kernel, rfl, by decide +kernel, by decide +kernel⟩
theorem ok_is_unlike {f CE : Addr} {fd : FuncData} (F : Fun K "is_unlike" "is_unlike" S_is_unlike f fd) (T : Blt mg) : FnOk P w K mg base (L2.CX P w) 4 f fd ["first", "second"] (spO2 CE .ne) := by
  refine F.okX sc_is_unlike (fun vs H Q E h => ?_) (fun cdv A outer s0 H vs Q E hr h => ?_)
  · obtain ⟨a, b, rfl, _⟩ := h
    rfl
  obtain ⟨a, b, rfl, ha, hb, k1, k2⟩ := h
  have k := k1 (small_bit _)
  refine ⟨_, pss_one (ps_ret (pe_callTy call_int1 (by rfl) T.int (by decide +kernel) (pa_cons (pe_cmpR op_ne (pv 0) (pv 1) (nomark _)) pa_nil))), ?_⟩
  refine ⟨_, rfl, _, rfl, rfl, .inr ⟨_, rfl, ?_⟩⟩
  have e : (if (!decide (V.int a = V.int b)) = true then (1 : Int) else 0) = O2.ne.v a b := by
    rw [dec_int]
    show _ = if a ≠ b then 1 else 0
    by_cases c : a = b
    · simp [c]
    · simp [c]
  show Q (V.int (if (!decide (V.int a = V.int b)) = true then 1 else 0)) H
  rw [e]
  exact k
theorem sc_truth : FnScope ["number"] ["number"] (defScope S_truth) := ⟨rfl, rfl, rfl, by decide +kernel, rfl, by decide +kernel, by decide +kernel⟩
theorem ok_truth {f : Addr} {fd : FuncData} (F : Fun K "truth" "truth" S_truth f fd) (T : Blt mg) : FnOk P w K mg base CX0 4 f fd ["number"] (spO1 .truth) := by
  refine F.ok sc_truth (fun vs H Q E h => ?_) (fun cdv A outer s0 H vs Q E hr h => ?_)
  · obtain ⟨a, rfl, _⟩ := h
    rfl
  obtain ⟨a, rfl, k⟩ := h
  refine ⟨_, pss_one (ps_ret (pe_callTy call_int1 (by rfl) T.int (by decide +kernel) (pa_cons (pe_cmpR op_ne (pv 0) pe_int (nomark _)) pa_nil))), ?_⟩
  refine ⟨_, rfl, rfl, .inr ⟨_, rfl, ?_⟩⟩
  have e : (if (!decide (V.int a = V.int 0)) = true then (1 : Int) else 0) = O1.truth.v a := by
    rw [dec_int]
    show _ = if a ≠ 0 then 1 else 0
    by_cases c : a = 0
    · simp [c]
    · simp [c]
  show Q (V.int (if (!decide (V.int a = V.int 0)) = true then 1 else 0)) H
  rw [e]
  exact k
theorem sc_denial : FnScope ["number"] ["number"] (defScope S_denial) := ⟨rfl, rfl, rfl, by decide +kernel, rfl, by decide +kernel, by decide +kernel⟩
theorem ok_denial {f : Addr} {fd : FuncData} (F : Fun K "denial" "denial" S_denial f fd) (T : Blt mg) : FnOk P w K mg base CX0 4 f fd ["number"] (spO1 .not) := by
  refine F.ok sc_denial (fun vs H Q E h => ?_) (fun cdv A outer s0 H vs Q E hr h => ?_)
  · obtain ⟨a, rfl, _⟩ := h
    rfl
  obtain ⟨a, rfl, k⟩ := h
  refine ⟨_, pss_one (ps_ret (pe_callTy call_int1 (by rfl) T.int (by decide +kernel) (pa_cons (pe_cmpR op_eq (pv 0) pe_int (nomark _)) pa_nil))), ?_⟩
  refine ⟨_, rfl, rfl, .inr ⟨_, rfl, ?_⟩⟩
  have e : (if (decide (V.int a = V.int 0)) = true then (1 : Int) else 0) = O1.not.v a := by
    rw [dec_int]
    show _ = if a = 0 then 1 else 0
    by_cases c : a = 0
    · simp [c]
    · simp [c]
  show Q (V.int (if decide (V.int a = V.int 0) = true then 1 else 0)) H
  rw [e]
  exact k
theorem sc_negative : FnScope ["number"] ["number"] (defScope S_negative) := ⟨rfl, rfl, rfl, by decide +kernel, rfl, by decide +kernel, by decide +kernel⟩
theorem ok_negative {f : Addr} {fd : FuncData} (F : Fun K "negative" "negative" S_negative f fd) : FnOk P w K mg base CX0 4 f fd ["number"] (spO1 .neg) := by
  refine F.ok sc_negative (fun vs H Q E h => ?_) (fun cdv A outer s0 H vs Q E hr h => ?_)
  · obtain ⟨a, rfl, _⟩ := h
    rfl
  obtain ⟨a, rfl, k⟩ := h
  exact ⟨_, pss_one (ps_ret (pe_un un_neg (pv 0))), ⟨_, rfl, _, rfl, k⟩⟩
/-! ### by their words -/
abbrev m2N : List Str := ["word", "first", "second", "action"]
theorem sc_m2 : FnScope m2N ["word", "first", "second"] (defScope S_made_of_two) := ⟨rfl, rfl, rfl, by decide +kernel, rfl, by decide +kernel, by decide +kernel⟩
theorem ok_m2 {f d CE : Addr} {fd : FuncData} (F : Fun K "made_of_two" "made_of_two" S_made_of_two f fd) (hd : mg "OF_TWO" = some (.ref d))
    (hf : ∀ o : O2, ∃ g gd, KDct K w d o.w (.ref g) ∧ FnOk P w K mg base (L2.CX P w) 4 g gd ["first", "second"] (spO2 CE o) ∧ PySem.W.keepIn K (.ref g) = true ∧ Binds K gd ["first", "second"] []) :
    FnOk P w K mg base (L2.CX P w) 5 f fd ["word", "first", "second"] (spM2 CE) := by
  refine F.okX sc_m2 (fun vs H Q E h => ?_) (fun cdv A outer s0 H vs Q E hr h => ?_)
  · obtain ⟨o, a, b, rfl, _⟩ := h
    rfl
  obtain ⟨o, a, b, rfl, ha, hb, k1, k2⟩ := h
  obtain ⟨g, gd, kd, FG, kp, bd⟩ := hf o
  refine ⟨_, pss_cons (ps_set (i := 3) sc_m2.nd rfl (Or.inl rfl) (pe_ix ix_kdict (pe_glob (v := .ref d) rfl hd rfl) (pv 0) (fun _ _ => rfl)))
    (pss_one (ps_ret (pe_cvF (i := 3) hr rfl (Or.inl rfl) (psX rfl rfl rfl rfl) (pa_cons (pv 1) (pa_cons (pv 2) pa_nil))))), ?_⟩
  exact ⟨_, rfl, d, o.w, _, rfl, rfl, kd, g, gd, _, spO2 CE o, 4, rfl, FG, Nat.le_refl _, kp, bd, _, rfl, _, rfl, a, b, rfl, ha, hb, k1, k2⟩
abbrev m1N : List Str := ["word", "number", "action"]
theorem sc_m1 : FnScope m1N ["word", "number"] (defScope S_made_of_one) := ⟨rfl, rfl, rfl, by decide +kernel, rfl, by decide +kernel, by decide +kernel⟩
theorem ok_m1 {f d : Addr} {fd : FuncData} (F : Fun K "made_of_one" "made_of_one" S_made_of_one f fd) (hd : mg "OF_ONE" = some (.ref d))
    (hf : ∀ o : O1, ∃ g gd, KDct K w d o.w (.ref g) ∧ FnOk P w K mg base CX0 4 g gd ["number"] (spO1 o) ∧ PySem.W.keepIn K (.ref g) = true ∧ Binds K gd ["number"] []) :
    FnOk P w K mg base CX0 5 f fd ["word", "number"] spM1 := by
  refine F.ok sc_m1 (fun vs H Q E h => ?_) (fun cdv A outer s0 H vs Q E hr h => ?_)
  · obtain ⟨o, a, rfl, _⟩ := h
    rfl
  obtain ⟨o, a, rfl, k⟩ := h
  obtain ⟨g, gd, kd, FG, kp, bd⟩ := hf o
  refine ⟨_, pss_cons (ps_set (i := 2) sc_m1.nd rfl (Or.inl rfl) (pe_ix ix_kdict (pe_glob (v := .ref d) rfl hd rfl) (pv 0) (fun _ _ => rfl)))
    (pss_one (ps_ret (pe_cvF (E := E0) (i := 2) hr rfl (Or.inl rfl) pass0 (pa_cons (pv 1) pa_nil)))), ?_⟩
  exact ⟨_, rfl, d, o.w, _, rfl, rfl, kd, g, gd, _, spO1 o, 4, rfl, FG, Nat.le_refl _, kp, bd, _, rfl, a, rfl, k⟩
end
end KD

/-! A generator expression in all(..): its table of code objects is told by what always holds of it, so that nothing that is tracked changes. -/
namespace GN
open PySem PySem.Spec PyProof.Rows L2
/-- what is always true of the table at P -/
def TabI (P : Addr) (h : Heap) : Prop := ∃ ps : Array Value, h.get? P = some { cls := .none, data := .fields ps } ∧ TriplesOk ps.toList
/-- the table at P is tracked so -/
def Tab (P : Addr) (H : Hp) : Prop := H P = some (.ext (TabI P))
theorem TabI.okX {P0 : Program} {w : World} {P : Addr} {H : Hp} {h : Heap} (t : TabI P h) : ObjOk P0 w H h P (.ext (TabI P)) := by
  obtain ⟨ps, e, q⟩ := t
  exact ⟨⟨ps, e, q⟩, ⟨_, e⟩, fun h1 h2 z k => by
    obtain ⟨qs, e1, q1⟩ := z
    exact ⟨qs, k _ e1, q1⟩⟩
section
variable {X : Cx} {pins : List (Addr × Obj)} {σ : L2.St} {H : Hp} {s : Shared}
/-- the table has grown, all else stands -/
theorem grow {P : Addr} {h2 : Heap} {gs : Array GenState} {dr : Drawn} {tk : Nat} (I : Inv X pins σ H s) (hP : Tab P H) (kp : ∀ b o, b ≠ P → s.heap.get? b = some o → h2.get? b = some o) (hT : TabI P h2) (hg : AllBare gs) :
    Inv X pins σ H { s with heap := h2, gens := gs, drawn := dr, toks := tk } := by
  have away : ∀ {b : Addr}, H b = none → b ≠ P := fun n z => by rw [z, hP] at n; cases n
  have other : ∀ {b : Addr} {u : HO}, H b = some u → (∀ φ, u ≠ .ext φ) → b ≠ P := fun q n z => by
    rw [z, hP] at q
    exact n _ (Option.some.inj q).symm
  refine I.step (g' := gs) (d' := dr) (ch := []) (by intro b hb; cases hb) (fun b o _ _ _ q n => kp b o (away n) q) (fun b o _ _ _ q n => ⟨_, kp b o (away n) q⟩) (fun b o _ _ n => n) ?_ (fun b xs q => q) (fun b o u q => q) (fun b ps q => ⟨#[], by rw [q, Array.append_empty]⟩) ?_ ?_ hg
  · intro b o _ q
    by_cases z : b = P
    · obtain ⟨ps, e, _⟩ := hT
      exact ⟨_, z ▸ e⟩
    · exact ⟨o, kp b o z q⟩
  · rintro m ⟨o, es, ep, ho, r⟩
    exact ⟨o, es, ep, kp _ o (away I.free) ho, r⟩
  · intro b u q
    by_cases z : b = P
    · subst z
      rw [hP] at q
      cases q
      exact hT.okX
    · refine (I.hok b u q).stay (fun d v hd e => kp d v ?_ e) (fun _ e => e) (fun _ _ e => e)
      rcases hd with hd | hd
      · rw [hd]; exact z
      · exact other hd fun φ y => by cases y
/-- what the element must be: a test of the sign that is held, the module's names at hand -/
def Elt (X : Cx) (sc : Scope) (x : Str) (elt : Expr) (pb : Nat → Bool) : Prop :=
  ∀ (env : Env) (B : Around) (Ex : Value → Shared → Prop) (c : Nat) (t : Tok) (s2 : Shared) (m2 : Str → Option Value), env.scope = sc → env.globals = mainGlobals → s2.heap.Ns mainGlobals X.mg → s2.heap.Ns env.locals m2 → m2 x = some (.str ⟨#[c]⟩ t) →
    wpAny (model X.prog X.w) B (eval elt env) (fun y s3 => y = .bool (pb c) ∧ Keeps s2 s3) Ex s2
/-- x in NAME, the name being a text of the module -/
theorem elt_in {sc : Scope} {x y : Str} {Z : Str} {tz : Tok} {p1 p2 p3 : Pos} (hk : sc.kind = .function) (hx : sc.names.lookup x = some .local) (hy : sc.names.lookup y = some .globalImplicit) (hm : X.mg y = some (.str Z tz)) (d1 : (x == ("__debug__" : Str)) = false := by decide) (d2 : (y == ("__debug__" : Str)) = false := by decide) :
    Elt X sc x (.Compare (.Name x p1) [.In] [.Name y p2] p3) (fun c => decide (c ∈ Z.cps.toList)) := by
  intro env B Ex c t s2 m2 hs hgl hG hn hm2
  refine wpAny_Compare1 ?_
  refine wpAny_Name (wpAny_loadName_local (by rw [hs]; exact hk) (by show env.scope.names.lookup x = _; rw [hs]; exact hx) hn hm2 ?_) d1
  refine Calls.Name_function_global (by rw [hs]; exact hk) (by show env.scope.names.lookup y = _; rw [hs]; exact hy) (Calls.loadGlobal_global (by rw [hgl]; exact hG) hm ?_) d2
  refine PyProof.Rows.in_str ⟨?_, GxR.keeps_refl _⟩
  rw [PySem.StrLaws.found_one Z c]
end
end GN
namespace GN
open PySem PySem.Spec PyProof.Rows L2
section
variable {X : Cx} {pins : List (Addr × Obj)} {σ : L2.St} {H : Hp} {s : Shared}
/-- the generator at g goes over the signs of z, in the state s5 -/
def Goes (X : Cx) (pins : List (Addr × Obj)) (σ : L2.St) (H1 : Hp) (z : Str) (pb : Nat → Bool) (g : Addr) (s5 : Shared) : Prop :=
  ∃ (fp wr : List Addr) (G : Array GenState → Array GenState → Prop) (F : Nat → Value → Prop) (St : Nat → Shared → Prop),
    St 0 s5 ∧ WalksS X.prog X.w X.A.in1 g fp wr G z.cps.size F St ∧ (∀ s', Moved wr G s5 s' → Inv X pins σ H1 s') ∧
    TruthOf X.prog X.w X.A.in1 F (GxR.trF pb z.cps.toList)
theorem gen_signs {c P : Addr} {elt iter : Expr} {x : Str} {px gp : Pos} {sc : Scope} {pb : Nat → Bool} {te : TE} {k : Nat} {Z : Value → Shared → Prop} {R : Str → Hp → Prop}
    (hr : Room k X.A) (TB : GxR.TabB X.base X.mg c P) (hc : X.env.code = .ref c) (S : GxR.GenS X.env sc x) (hi : PE X iter te) (hel : Elt X sc x elt pb)
    (hfold : ∀ v, genFold iter X.env v = pure v) (I : Inv X pins σ H s) (h : te σ H fun v H1 => ∃ z : Str, v = .str z ∧ Tab P H1 ∧ R z H1)
    (after : ∀ z H1 g s5, R z H1 → Goes X pins σ H1 z pb g s5 → Z (.ref g) s5) :
    wpAny (model X.prog X.w) X.A (eval (.GeneratorExp elt [⟨.Name x px, iter, [], 0⟩] sc gp) X.env) Z X.xe s := by
  have room : X.A.depth < recursionLimit := by have := hr.dp; omega
  refine wpAny_GeneratorExp_walksQ (cl := cloFrom X.env.cells sc.names []) hr.hd S.co (closure_ok S.free) S.cell S.dot S.loc S.kind room (thn (hi.run pins s σ H _ I h) ?_) hfold
  rintro xv s1 ⟨v, H1, J, rv, z, rfl, hT, hR⟩
  obtain ⟨tz, rfl⟩ := id rv
  obtain ⟨ps, eP, tr⟩ : TabI P s1.heap := (J.hok P _ hT).1
  refine wpAny_pyIter_str fun it St W st0 => ?_
  have lim : (s1.heap.push it).NoLimit := J.nolimit.push it
  refine ⟨lim, ?_⟩
  have szit : (s1.heap.push it).objs.size = s1.heap.objs.size + 1 := Heap.size_push ..
  have eP2 : (s1.heap.push it).get? P = some { cls := .none, data := .fields ps } := Heap.get?_push_of_some _ eP
  have code0 : PySem.W.CodeHd (s1.heap.push it) c P := TB.code.keeps fun b u e => Heap.get?_push_of_some _ (J.bk b u e)
  -- what follows, wherever the generator's code object comes from
  have rest : ∀ (cv : Value) (h3 : Heap) (tk : Nat), Heap.ExtBut P (s1.heap.push it) h3 → (s1.heap.push it).objs.size ≤ h3.objs.size → TabI P h3 →
      wpAny (model X.prog X.w) X.A (builtinsFor X.env.globals X.env.builtins) (fun bi s4 =>
        ∃ Ia fp wr n0 Pf St0 pz F, Value.ref s1.heap.objs.size = .ref Ia ∧ (∀ A2 : Around, A2.handled = none → Walks X.prog X.w A2 Ia fp wr n0 Pf St0) ∧ St0 0 s4.heap ∧ (∀ b ∈ fp, b < s4.heap.objs.size) ∧ s4.heap.NoLimit ∧ cStatics ∉ wr ∧
          (∀ hq : Heap, (∀ b o, s4.heap.get? b = some o → hq.get? b = some o) →
            QuietGen X.prog X.w (genEnv sc (cloFrom X.env.cells sc.names []) s4.heap.objs.size cv bi X.env) x [] elt (List.range s4.heap.objs.size) wr Pf pz F hq) ∧
          (∀ a h5 tk2 g, g.bare = true → s4.heap.objs.size < a → h5.objs.size = a + 1 → (∀ b o, s4.heap.get? b = some o → h5.get? b = some o) →
            WalksS X.prog X.w X.A.in4 a (a :: s4.heap.objs.size :: List.range s4.heap.objs.size) (s4.heap.objs.size :: wr) (GenOnlyQ s4.gens.size) (passing pz n0 0).length
              (fun j y => ∃ i, (passing pz n0 0)[j]? = some i ∧ F i y) (GenAt X.prog X.w X.A.in4 a s4.gens.size s4.heap.objs.size (List.range s4.heap.objs.size) wr pz n0 F) →
            GenAt X.prog X.w X.A.in4 a s4.gens.size s4.heap.objs.size (List.range s4.heap.objs.size) wr pz n0 F 0 { s4 with gens := s4.gens.push g, toks := tk2, heap := h5 } →
            Z (.ref a) { s4 with gens := s4.gens.push g, toks := tk2, heap := h5 })) X.xe { s1 with heap := h3, toks := tk } := by
    intro cv h3 tk ext size hT3
    obtain ⟨bm, ob, b1, b2, b3, b4, b5, b6, b7, b8⟩ := TB.bm
    have stays : ∀ b u, b ≠ P → s1.heap.get? b = some u → h3.get? b = some u := fun b u n e => ext b u n (Heap.get?_push_of_some _ e)
    have glob : h3.Ns mainGlobals X.mg := ((J.mod.glob.keeps J.bk).push it).extBut ext TB.gP
    have low : ∀ {b : Addr} {u : Obj}, s1.heap.get? b = some u → b < s1.heap.objs.size := fun e => Heap.lt_size e
    have nlim : cStatics ≠ P := fun z => by
      obtain ⟨_, ⟨o2, es, ep, ho, hd, _⟩, _⟩ := J.nolimit
      rw [z, eP] at ho
      cases ho
      cases hd
    have stat : cStatics < s1.heap.objs.size := let ⟨_, hns, _⟩ := J.nolimit; hns.lt
    refine wpAny_builtinsFor (m := X.mg) (by rw [J.ok.glob]; exact glob) b1 b2 (stays _ _ b4 (J.bk _ _ b5)) b6 b7 b8 ?_
    refine ⟨s1.heap.objs.size, [s1.heap.objs.size], [s1.heap.objs.size], z.cps.size, SignAt z, St, (fun _ => true), (fun i y => ∃ d, z.cps[i]? = some d ∧ y = .bool (pb d)), rfl, W, ?_, ?_, lim.extBut ext nlim, ?_, ?_, ?_⟩
    · refine (W X.A hr.hd).frame _ _ _ st0 fun b hb u e => ext b u (fun q => ?_) e
      have q1 : b = s1.heap.objs.size := List.mem_singleton.mp hb
      exact Nat.ne_of_lt (low eP) (q.symm.trans q1)
    · intro b hb
      rw [List.mem_singleton.mp hb]
      show s1.heap.objs.size < h3.objs.size
      omega
    · intro q
      have q1 : cStatics = s1.heap.objs.size := List.mem_singleton.mp q
      rw [q1] at stat
      exact Nat.lt_irrefl _ stat
    · intro hq hk
      constructor
      · intro A2 E2 i v s2 m2 _ _ _ _ _
        simp only [List.forIn_nil]
        exact wpAny_pure ⟨rfl, GxR.keeps_refl _⟩
      · intro A2 E2 i v s2 m2 _ hv _ hn hm kk
        obtain ⟨d, u, hd, rfl⟩ := hv
        have inR : mainGlobals ∈ List.range h3.objs.size := List.mem_range.mpr glob.lt
        have notw : mainGlobals ∉ [s1.heap.objs.size] := fun q => by
          have q1 : mainGlobals = s1.heap.objs.size := List.mem_singleton.mp q
          have q2 : mainGlobals < s1.heap.objs.size := (J.mod.glob.keeps J.bk).lt
          rw [q1] at q2
          exact Nat.lt_irrefl _ q2
        have glob2 : s2.heap.Ns mainGlobals X.mg := by
          obtain ⟨o, es, ep, e, r⟩ := glob
          exact ⟨o, es, ep, kk mainGlobals inR notw o (hk _ _ e), r⟩
        exact wpAny_mono (hel _ A2 E2 d u s2 m2 rfl J.ok.glob glob2 hn hm) (fun y s3 r => ⟨⟨d, hd, r.1⟩, r.2⟩) fun _ _ e => e
    · intro a h5 tk2 g gb low5 size5 keep5 W5 at5
      simp only [GxR.passing_true, List.length_range] at W5
      refine after z H1 a _ hR ⟨_, _, _, _, _, at5, W5.in4_1, fun s' mv => ?_, fun j y sj Qj Ej hy hQ => ?_⟩
      · have safe : ∀ b u, s1.heap.get? b = some u → b ∉ h3.objs.size :: [s1.heap.objs.size] := fun b u e hb => by
          have l1 := low e
          rcases List.mem_cons.mp hb with q | q
          · rw [q] at l1
            have l2 : (h3.objs.size : Nat) < s1.heap.objs.size := l1
            omega
          · rw [List.mem_singleton.mp q] at l1
            exact Nat.lt_irrefl _ l1
        obtain ⟨qs, e3, t3⟩ := hT3
        have Y := grow (h2 := s'.heap) (gs := s'.gens) (dr := s'.drawn) (tk := s'.toks) J hT (fun b u n e => mv.heap b u (safe b u e) (keep5 b u (stays b u n e))) ⟨qs, mv.heap P _ (safe P _ eP) (keep5 P _ e3), t3⟩ (AllBare.movedS (J.bare.push gb) mv)
        rw [GxR.sh_eta s1 s' mv.os] at Y
        exact Y
      · obtain ⟨i, ei, d, ed, rfl⟩ := hy
        obtain ⟨li, ei2⟩ := List.getElem?_eq_some_iff.mp ei
        rw [List.getElem_range] at ei2
        subst ei2
        have hQ2 : Qj (GxR.trF pb z.cps.toList j) sj := hQ
        rw [GxR.trF_some (b := d) (by rw [Array.getElem?_toList]; exact ed)] at hQ2
        exact wpAny_truthy_bool hQ2
  cases found : codeAmong gp ps.toList with
  | some cv => exact wpAny_genexprCode_hit hc (code0.code eP2 tr) found (rest cv _ s1.toks (Heap.ExtBut.refl _ _) (Nat.le_refl _) ⟨ps, eP2, tr⟩)
  | none =>
    refine wpAny_genexprCodeX hc (code0.code eP2 tr) (code0.tab eP2) found fun c2 h2 tk ext ge lt isC _ tab2 _ => ?_
    obtain ⟨_, _, _, _, _, _, _, _, _, _, _, _, _, _, _, _, _, _, _, tr2, _⟩ := isC
    exact rest _ h2 tk ext (Nat.le_trans ge (Nat.le_of_lt lt)) ⟨_, tab2.2, tr2⟩
/-- all(test for x in e), e a text -/
def tAll (P : Addr) (pb : Nat → Bool) (te : TE) : TE := fun σ H Q => te σ H fun v H1 => ∃ z : Str, v = .str z ∧ Tab P H1 ∧ Q (.bl (z.cps.toList.all pb)) H1
theorem pe_all {c P : Addr} {elt iter : Expr} {x : Str} {px p pos gp : Pos} {sc : Scope} {pb : Nat → Bool} {te : TE} {k : Nat}
    (hr : Room k X.A) (hg : Gl X "all") (hm : X.mg "all" = none) (TB : GxR.TabB X.base X.mg c P) (hc : X.env.code = .ref c) (S : GxR.GenS X.env sc x) (hi : PE X iter te) (hel : Elt X sc x elt pb)
    (hfold : ∀ v, genFold iter X.env v = pure v) (hb : bootBuiltins "all" = some (.builtin "all") := by decide +kernel)
    (one : starEach [.GeneratorExp elt [⟨.Name x px, iter, [], 0⟩] sc gp] X.env = (false, eval (.GeneratorExp elt [⟨.Name x px, iter, [], 0⟩] sc gp) X.env) :: starEach [] X.env := by rfl) :
    PE X (.Call (.Name "all" p) [.GeneratorExp elt [⟨.Name x px, iter, [], 0⟩] sc gp] [] pos) (tAll P pb te) := by
  constructor
  intro pins s σ H Q I h
  refine wpAny_Call_Name_kw (ld_blt I hg hm hb (PyProof.Rows.callWith_builtin1 ?_ one (by rfl)))
  rw [one]
  show wpAny _ _ (spliced ((false, eval (.GeneratorExp elt [⟨.Name x px, iter, [], 0⟩] sc gp) X.env) :: backTo pos (starEach [] X.env))) _ _ s
  refine Calls.spliced_cons (gen_signs (R := fun z H1 => Q (.bl (z.cps.toList.all pb)) H1) hr TB hc S hi hel hfold I h fun z H1 g s5 hR hG => Calls.spliced_nil ?_)
  obtain ⟨fp, wr, G, F, St, st, W, inv, tr⟩ := hG
  refine call_all_walkS (W.self 0 _ _ _ st ⟨g, fp, wr, G, _, F, St, _, rfl, W, st, tr, fun s' mv => ⟨.bl _, H1, inv s' mv, rfl, ?_⟩⟩)
  rw [GxR.all_signs z pb]
  exact hR
end
end GN

namespace KD
open PySem L2 TL
theorem cut_to (xs : List V) (k : Nat) : cutV xs none (some ((k : Nat) : Int)) = xs.take k := by
  unfold cutV HT.sIx
  simp only [List.drop_zero, Nat.sub_zero]
  rw [if_neg (by omega), Int.toNat_natCast, ← List.take_eq_take_min]
theorem cut_from (xs : List V) (k : Nat) : cutV xs (some ((k : Nat) : Int)) none = xs.drop k := by
  unfold cutV HT.sIx
  simp only
  rw [if_neg (by omega), Int.toNat_natCast]
  by_cases h : k ≤ xs.length
  · rw [Nat.min_eq_left h, List.take_of_length_le (by rw [List.length_drop]; exact Nat.le_refl _)]
  · rw [Nat.min_eq_right (by omega), List.drop_eq_nil_of_le (Nat.le_refl _), List.drop_eq_nil_of_le (by omega), List.take_nil]
end KD

/-! Words of a text: the mathematics. -/
namespace K0
open PySem L2 TL

def isFig (c : Nat) : Bool := decide (48 ≤ c) && decide (c ≤ 57)
def isLet (c : Nat) : Bool := decide (97 ≤ c) && decide (c ≤ 122)
def isAl (c : Nat) : Bool := isFig c || isLet c
def isBl (c : Nat) : Bool := (c == 32) || (c == 10)
def kws : List Str := ["row", "col", "let", "if", "else", "while", "for", "to", "do", "def", "say", "stop", "rows", "cols", "black", "mod", "and", "or", "not"]
def mks : List Str := ["<=", "!=", "{", "}", "(", ")", "+", "-", "*", "/", "<", "=", ","]
def inM (l : List Nat) : Bool := mks.any fun m => tl m == l

/-- what stands at the head of the rest -/
def sigs : List Nat → List Nat
  | [] => []
  | c :: r => if isFig c then (c :: r).takeWhile isFig else if isLet c then (c :: r).takeWhile isLet else if inM ((c :: r).take 2) then (c :: r).take 2 else [c]

def kind (w : Str) : Option Str :=
  if w ∈ kws then some ("key" : Str) else if w ∈ mks then some ("mark" : Str) else
  match tl w with
  | [] => none
  | c :: _ => if isLet c && decide ((tl w).length ≤ 12) then some ("name" : Str) else
    if isFig c && (if c == 48 then decide (w = "0") else decide ((tl w).length ≤ 6)) then some ("number" : Str) else none

inductive Toks : List Nat → List (Str × Str) → Prop
  | nil : Toks [] []
  | blank {c : Nat} {cs : List Nat} {ws : List (Str × Str)} : isBl c = true → Toks cs ws → Toks (c :: cs) ws
  | word {c : Nat} {r cs : List Nat} {w k : Str} {ws : List (Str × Str)} : isBl c = false → c :: r = tl w ++ cs → tl w ≠ [] → sigs (c :: r) = tl w → kind w = some k → Toks cs ws → Toks (c :: r) ((k, w) :: ws)

theorem toks_nil {ws : List (Str × Str)} (h : Toks [] ws) : ws = [] := by cases h; rfl
theorem toks_blank {c : Nat} {cs : List Nat} {ws : List (Str × Str)} (hc : isBl c = true) (h : Toks (c :: cs) ws) : Toks cs ws := by
  cases h with
  | blank _ h => exact h
  | word hb => rw [hc] at hb; cases hb
theorem toks_word {c : Nat} {r : List Nat} {ws : List (Str × Str)} (hc : isBl c = false) (h : Toks (c :: r) ws) :
    ∃ (w k : Str) (cs : List Nat) (us : List (Str × Str)), c :: r = tl w ++ cs ∧ tl w ≠ [] ∧ sigs (c :: r) = tl w ∧ kind w = some k ∧ ws = (k, w) :: us ∧ Toks cs us := by
  cases h with
  | blank hb => rw [hc] at hb; cases hb
  | word _ e n s kd t => exact ⟨_, _, _, _, e, n, s, kd, rfl, t⟩

/-- what may stand behind a word of kind k -/
def Ok (k : Str) (cs : List Nat) : Prop := match cs with
  | [] => True
  | c :: _ => isBl c = true ∨ (k = "mark" ∧ isAl c = true) ∨ (k ≠ "mark" ∧ isAl c = false)

structure Wd (k w : Str) : Prop where
  kd : kind w = some k
  hd : ∃ c r, tl w = c :: r ∧ isBl c = false ∧ (k = "mark" → isAl c = false) ∧ (k ≠ "mark" → isAl c = true)
  mm : ∀ cs, Ok k cs → sigs (tl w ++ cs) = tl w

/-- the text T, cut so far into ws, the last word of kind last -/
def J (T : List Nat) (ws : List (Str × Str)) (last : Str) : Prop := ∀ cs us, Toks cs us → (last = "" ∨ Ok last cs) → Toks (T ++ cs) (ws ++ us)

theorem toks_blanks : ∀ {s cs : List Nat} {ws : List (Str × Str)}, s.all isBl = true → Toks cs ws → Toks (s ++ cs) ws
  | [], _, _, _, t => t
  | c :: s, cs, ws, h, t => by
    rw [List.all_cons, Bool.and_eq_true] at h
    exact .blank h.1 (toks_blanks h.2 t)
theorem J_start {T : List Nat} (h : T.all isBl = true) : J T [] "" := fun cs us t _ => toks_blanks h t
theorem J_step {T s : List Nat} {ws : List (Str × Str)} {last k w : Str} (j : J T ws last) (wd : Wd k w) (hs : s.all isBl = true) (hk : s ≠ [] ∨ ¬ ((last = "mark" ∧ k = "mark") ∨ (last ≠ "mark" ∧ k ≠ "mark"))) (k0 : k ≠ "") :
    J (T ++ s ++ tl w) (ws ++ [(k, w)]) k := by
  intro cs us t o
  have o' : Ok k cs := by
    rcases o with o | o
    · exact absurd o k0
    · exact o
  obtain ⟨c, r, e, hb, hm, hn⟩ := wd.hd
  have t1 : Toks (tl w ++ cs) ((k, w) :: us) := by
    have ss := wd.mm cs o'
    have e2 : tl w ++ cs = c :: (r ++ cs) := by rw [e]; rfl
    have e3 := ss
    rw [e2] at e3
    rw [e2]
    exact .word hb e2.symm (by rw [e]; exact List.cons_ne_nil _ _) e3 wd.kd t
  have t2 := toks_blanks hs t1
  have t3 := j (s ++ (tl w ++ cs)) ((k, w) :: us) t2 (by
    cases s with
    | cons b s' =>
      right
      rw [List.all_cons, Bool.and_eq_true] at hs
      exact Or.inl hs.1
    | nil =>
      right
      rw [List.nil_append, e]
      show Ok last (c :: (r ++ cs))
      rcases hk with hk | hk
      · exact absurd rfl hk
      · by_cases hl : last = "mark"
        · have k1 : k ≠ "mark" := fun q => hk (Or.inl ⟨hl, q⟩)
          exact Or.inr (Or.inl ⟨hl, hn k1⟩)
        · have k1 : k = "mark" := by
            apply Classical.byContradiction
            intro q
            exact hk (Or.inr ⟨hl, q⟩)
          exact Or.inr (Or.inr ⟨hl, hm k1⟩))
  rw [List.append_assoc, List.append_assoc, List.append_assoc]
  exact t3
theorem J_end {T : List Nat} {ws : List (Str × Str)} {last : Str} (j : J T ws last) : Toks T ws ∧ Toks (T ++ [32, 10]) ws := by
  have a := j [] [] .nil (Or.inr trivial)
  have b := j [32, 10] [] (.blank rfl (.blank rfl .nil)) (Or.inr (Or.inl rfl))
  rw [List.append_nil, List.append_nil] at a
  rw [List.append_nil] at b
  exact ⟨a, b⟩

/-! ### words of each kind -/
theorem takeWhile_all {p : Nat → Bool} : ∀ {l cs : List Nat}, l.all p = true → (∀ c r, cs = c :: r → p c = false) → (l ++ cs).takeWhile p = l
  | [], [], _, _ => rfl
  | [], c :: r, _, h => by
    have e := h c r rfl
    show (c :: r).takeWhile p = []
    rw [List.takeWhile_cons]
    simp only [e]
    rfl
  | a :: l, cs, hl, h => by
    rw [List.all_cons, Bool.and_eq_true] at hl
    show (a :: (l ++ cs)).takeWhile p = a :: l
    rw [List.takeWhile_cons, if_pos hl.1, takeWhile_all hl.2 h]
theorem ok_let {k : Str} {cs : List Nat} (hk : k ≠ "mark") (o : Ok k cs) : ∀ c r, cs = c :: r → isLet c = false ∧ isFig c = false := by
  intro c r e
  subst e
  rcases o with o | o | o
  · unfold isBl at o
    simp only [Bool.or_eq_true, beq_iff_eq] at o
    rcases o with o | o <;> subst o <;> decide
  · exact absurd o.1 hk
  · have q := o.2
    unfold isAl at q
    rw [Bool.or_eq_false_iff] at q
    exact ⟨q.2, q.1⟩
theorem let_fig {c : Nat} (h : isLet c = true) : isFig c = false ∧ isBl c = false := by
  unfold isLet at h
  unfold isFig isBl
  simp only [Bool.and_eq_true, decide_eq_true_eq] at h
  simp only [Bool.and_eq_false_iff, decide_eq_false_iff_not, Bool.or_eq_false_iff, beq_eq_false_iff_ne]
  omega
theorem fig_let {c : Nat} (h : isFig c = true) : isLet c = false ∧ isBl c = false := by
  unfold isFig at h
  unfold isLet isBl
  simp only [Bool.and_eq_true, decide_eq_true_eq] at h
  simp only [Bool.and_eq_false_iff, decide_eq_false_iff_not, Bool.or_eq_false_iff, beq_eq_false_iff_ne]
  omega
theorem wd_lets {k w : Str} (hk : k ≠ "mark") (kd : kind w = some k) (hn : tl w ≠ []) (ha : (tl w).all isLet = true) : Wd k w := by
  cases e : tl w with
  | nil => exact absurd e hn
  | cons c r =>
    rw [e] at ha
    have hc : isLet c = true := by
      rw [List.all_cons, Bool.and_eq_true] at ha
      exact ha.1
    have ff := let_fig hc
    refine ⟨kd, ⟨c, r, e, ff.2, fun q => absurd q hk, fun _ => by unfold isAl; rw [hc, Bool.or_true]⟩, fun cs o => ?_⟩
    rw [e]
    show (if isFig c then (c :: (r ++ cs)).takeWhile isFig else if isLet c then (c :: (r ++ cs)).takeWhile isLet else _) = c :: r
    rw [if_neg (by rw [ff.1]; exact Bool.false_ne_true), if_pos hc]
    exact takeWhile_all (l := c :: r) ha fun c' r' q => (ok_let hk o c' r' q).1
theorem wd_figs {k w : Str} (hk : k ≠ "mark") (kd : kind w = some k) (hn : tl w ≠ []) (ha : (tl w).all isFig = true) : Wd k w := by
  cases e : tl w with
  | nil => exact absurd e hn
  | cons c r =>
    rw [e] at ha
    have hc : isFig c = true := by
      rw [List.all_cons, Bool.and_eq_true] at ha
      exact ha.1
    have ff := fig_let hc
    refine ⟨kd, ⟨c, r, e, ff.2, fun q => absurd q hk, fun _ => by unfold isAl; rw [hc, Bool.true_or]⟩, fun cs o => ?_⟩
    rw [e]
    show (if isFig c then (c :: (r ++ cs)).takeWhile isFig else _) = c :: r
    rw [if_pos hc]
    exact takeWhile_all (l := c :: r) ha fun c' r' q => (ok_let hk o c' r' q).2

theorem kws_all : ∀ w ∈ kws, (tl w).all isLet = true ∧ tl w ≠ [] := by decide +kernel
def firstOk : List Nat → Bool
  | [] => false
  | c :: r => !isAl c && !isBl c && (decide (r = []) || decide (r = [61]))
theorem mks_first : ∀ w ∈ mks, ∃ c r, tl w = c :: r ∧ isAl c = false ∧ isBl c = false ∧ (r = [] ∨ r = [61]) := by
  intro w hw
  have h : ∀ w ∈ mks, firstOk (tl w) = true := by decide +kernel
  have q := h w hw
  cases e : tl w with
  | nil => rw [e] at q; cases q
  | cons c r =>
    rw [e] at q
    have q' : (!isAl c && !isBl c && (decide (r = []) || decide (r = [61]))) = true := q
    simp only [Bool.and_eq_true, Bool.not_eq_true', Bool.or_eq_true, decide_eq_true_eq] at q'
    exact ⟨c, r, rfl, q'.1.1, q'.1.2, q'.2⟩
theorem mks_kind : ∀ w ∈ mks, w ∉ kws := by decide +kernel
theorem kind_key {w : Str} (h : w ∈ kws) : kind w = some ("key" : Str) := by unfold kind; rw [if_pos h]
theorem kind_mark {w : Str} (h : w ∈ mks) : kind w = some ("mark" : Str) := by unfold kind; rw [if_neg (mks_kind w h), if_pos h]
theorem wd_key {w : Str} (h : w ∈ kws) : Wd "key" w := wd_lets (by decide +kernel) (kind_key h) (kws_all w h).2 (kws_all w h).1
theorem inM_iff {l : List Nat} : inM l = true ↔ ∃ m ∈ mks, tl m = l := by
  unfold inM
  rw [List.any_eq_true]
  constructor
  · rintro ⟨m, hm, e⟩; exact ⟨m, hm, by simpa using e⟩
  · rintro ⟨m, hm, e⟩; exact ⟨m, hm, by simpa using e⟩
/-- no mark of two signs ends in a blank, a letter or a figure -/
theorem no_two {c d : Nat} (h : inM [c, d] = true) : d = 61 := by
  obtain ⟨m, hm, e⟩ := inM_iff.mp h
  obtain ⟨c', r, e1, _, _, hr⟩ := mks_first m hm
  rw [e] at e1
  injection e1 with _ e2
  rcases hr with hr | hr
  · rw [hr] at e2; cases e2
  · rw [hr] at e2; injection e2
theorem wd_mark {w : Str} (h : w ∈ mks) : Wd "mark" w := by
  obtain ⟨c, r, e, ha, hb, hr⟩ := mks_first w h
  have h2 : isFig c = false ∧ isLet c = false := by
    unfold isAl at ha
    rwa [Bool.or_eq_false_iff] at ha
  refine ⟨kind_mark h, ⟨c, r, e, hb, fun _ => ha, fun q => absurd rfl q⟩, fun cs o => ?_⟩
  rw [e]
  show (if isFig c then _ else if isLet c then _ else if inM ((c :: (r ++ cs)).take 2) then (c :: (r ++ cs)).take 2 else [c]) = c :: r
  rw [if_neg (by rw [h2.1]; exact Bool.false_ne_true), if_neg (by rw [h2.2]; exact Bool.false_ne_true)]
  rcases hr with hr | hr
  · subst hr
    cases cs with
    | nil =>
      have q : inM [c] = true := inM_iff.mpr ⟨w, h, e⟩
      show (if inM [c] = true then [c] else [c]) = [c]
      rw [if_pos q]
    | cons d cs =>
      have nd : ¬ d = 61 := by
        intro q
        subst q
        rcases o with o | o | o
        · exact absurd o (by decide)
        · exact absurd o.2 (by decide)
        · exact o.1 rfl
      show (if inM [c, d] = true then [c, d] else [c]) = [c]
      rw [if_neg fun q => nd (no_two q)]
  · subst hr
    have q : inM [c, 61] = true := inM_iff.mpr ⟨w, h, e⟩
    show (if inM [c, 61] = true then [c, 61] else [c]) = [c, 61]
    rw [if_pos q]
theorem not_mark {w : Str} {c : Nat} {r : List Nat} (e : tl w = c :: r) (h : isAl c = true) : w ∉ mks := by
  intro q
  obtain ⟨c', r', e', ha, _⟩ := mks_first w q
  rw [e] at e'
  injection e' with e1 _
  rw [← e1, h] at ha
  cases ha
theorem kind_name {w : Str} (hn : tl w ≠ []) (ha : (tl w).all isLet = true) (hl : (tl w).length ≤ 12) (hk : w ∉ kws) : kind w = some ("name" : Str) := by
  cases e : tl w with
  | nil => exact absurd e hn
  | cons c r =>
    have hc : isLet c = true := by
      rw [e, List.all_cons, Bool.and_eq_true] at ha
      exact ha.1
    unfold kind
    rw [if_neg hk, if_neg (not_mark e (by unfold isAl; rw [hc, Bool.or_true]))]
    rw [e] at hl
    simp only [e, hc, decide_eq_true hl, Bool.and_self, if_true]
theorem wd_name {w : Str} (hn : tl w ≠ []) (ha : (tl w).all isLet = true) (hl : (tl w).length ≤ 12) (hk : w ∉ kws) : Wd "name" w :=
  wd_lets (by decide +kernel) (kind_name hn ha hl hk) hn ha

/-! ### numbers -/
def num (n : Nat) : Str := Str.ofString (toString ((n : Nat) : Int))
theorem tl_num' (n : Nat) : tl (num n) = numL n := tl_num n
theorem numL_fig (n : Nat) : (numL n).all isFig = true := by
  rw [List.all_eq_true]
  intro c hc
  have q := numL_digits n c hc
  unfold isFig
  simp only [Bool.and_eq_true, decide_eq_true_eq]
  omega
theorem numL_ne (n : Nat) : numL n ≠ [] := by
  by_cases h : n < 10
  · rw [numL_lt h]; exact List.cons_ne_nil _ _
  · rw [numL_step (by omega)]
    intro q
    rw [List.append_eq_nil_iff] at q
    cases q.2
theorem numL_first (n : Nat) (h : 0 < n) : ∃ c r, numL n = c :: r ∧ c ≠ 48 := by
  induction n using Nat.strongRecOn with
  | _ n ih =>
    by_cases h1 : n < 10
    · exact ⟨48 + n, [], numL_lt h1, by omega⟩
    · obtain ⟨c, r, e, hc⟩ := ih (n / 10) (by omega) (by omega)
      refine ⟨c, r ++ [48 + n % 10], ?_, hc⟩
      rw [numL_step (by omega), e]
      rfl
theorem numL_len : ∀ (k n : Nat), n < 10 ^ (k + 1) → (numL n).length ≤ k + 1
  | 0, n, h => by rw [numL_lt (by simpa using h)]; exact Nat.le_refl _
  | k + 1, n, h => by
    by_cases h1 : n < 10
    · rw [numL_lt h1]; simp
    · rw [numL_step (by omega), List.length_append, List.length_singleton]
      have h2 : n < 10 ^ (k + 1) * 10 := by rw [← Nat.pow_succ]; exact h
      have q := numL_len k (n / 10) (by omega)
      omega
theorem num_zero : num 0 = "0" := by
  apply ext_tl
  rw [tl_num', numL_lt (by decide)]
  decide +kernel
theorem kws_not_fig {w : Str} {c : Nat} {r : List Nat} (e : tl w = c :: r) (h : isFig c = true) : w ∉ kws := by
  intro q
  have a := (kws_all w q).1
  rw [e, List.all_cons, Bool.and_eq_true] at a
  rw [(fig_let h).1] at a
  cases a.1
theorem kind_num {n : Nat} (h : n < 1000000) : kind (num n) = some ("number" : Str) := by
  have hl : (tl (num n)).length ≤ 6 := by rw [tl_num']; exact numL_len 5 n h
  cases e : tl (num n) with
  | nil =>
    rw [tl_num'] at e
    exact absurd e (numL_ne n)
  | cons c r =>
    have hc : isFig c = true := by
      have a := numL_fig n
      rw [← tl_num', e, List.all_cons, Bool.and_eq_true] at a
      exact a.1
    unfold kind
    rw [if_neg (kws_not_fig e hc), if_neg (not_mark e (by unfold isAl; rw [hc, Bool.true_or]))]
    rw [e] at hl
    simp only [e, (fig_let hc).1, Bool.false_and, hc, Bool.true_and]
    rw [if_neg Bool.false_ne_true]
    by_cases h0 : n = 0
    · subst h0
      have ec : c = 48 := by
        rw [tl_num', numL_lt (by decide)] at e
        injection e with e1 _
        exact e1.symm
      subst ec
      rw [num_zero]
      have e1 : (48 == 48 : Bool) = true := rfl
      rw [if_pos e1, decide_eq_true rfl, if_pos rfl]
    · obtain ⟨c', r', e', hc'⟩ := numL_first n (by omega)
      rw [← tl_num', e] at e'
      injection e' with e1 _
      have hc2 : (c == 48) = false := by rw [e1]; simpa using hc'
      simp only [hc2]
      rw [if_neg Bool.false_ne_true, decide_eq_true hl, if_pos rfl]
theorem wd_num {n : Nat} (h : n < 1000000) : Wd "number" (num n) :=
  wd_figs (by decide +kernel) (kind_num h) (by rw [tl_num']; exact numL_ne n) (by rw [tl_num']; exact numL_fig n)
theorem num_len {n : Nat} (h : n < 1000000) : (num n).length ≤ 6 := by
  rw [len_tl, tl_num']
  exact numL_len 5 n h
end K0

/-! The words of printed programs. -/
namespace KD
open PySem L2 TL
open K0 (isFig isLet isAl isBl kws mks sigs kind Toks inM num)
abbrev Tk := Str × Str
/-- what may stand behind the text so far -/
inductive F3 | free | mark | word | both
def Fol (f : F3) : List Nat → Prop
  | [] => True
  | c :: _ => match f with
    | .free => True
    | .mark => c ≠ 61
    | .word => isAl c = false
    | .both => c ≠ 61 ∧ isAl c = false
theorem Fol.bl {f : F3} {c : Nat} {r : List Nat} (h : isBl c = true) : Fol f (c :: r) := by
  have q : isAl c = false ∧ c ≠ 61 := by
    unfold isBl at h
    simp only [Bool.or_eq_true, beq_iff_eq] at h
    rcases h with h | h <;> subst h <;> exact ⟨by decide, by decide⟩
  cases f with
  | free => exact trivial
  | mark => exact q.2
  | word => exact q.1
  | both => exact ⟨q.2, q.1⟩
/-- the text T, cut so far into ws -/
def J (T : List Nat) (ws : List Tk) (f : F3) : Prop := ∀ cs us, Toks cs us → Fol f cs → Toks (T ++ cs) (ws ++ us)
theorem J.nil : J [] [] .free := fun cs us t _ => t
theorem J.weak {T : List Nat} {ws : List Tk} {f g : F3} (j : J T ws f) (h : ∀ cs, Fol g cs → Fol f cs) : J T ws g := fun cs us t o => j cs us t (h cs o)
theorem Fol.of_both {f : F3} (hf : f ≠ .free → True) : ∀ cs, Fol .both cs → Fol f cs
  | [], _ => trivial
  | c :: r, h => by
    cases f with
    | free => exact trivial
    | mark => exact h.1
    | word => exact h.2
    | both => exact h
theorem J.both {T : List Nat} {ws : List Tk} {f : F3} (j : J T ws f) : J T ws .both := j.weak (Fol.of_both fun _ => trivial)
theorem J.blank {T s : List Nat} {ws : List Tk} {f : F3} (j : J T ws f) (hs : s.all isBl = true) (hn : s ≠ []) : J (T ++ s) ws .free := fun cs us t _ => by
  rw [List.append_assoc]
  refine j _ _ (K0.toks_blanks hs t) ?_
  cases s with
  | nil => exact absurd rfl hn
  | cons c r =>
    rw [List.all_cons, Bool.and_eq_true] at hs
    exact Fol.bl hs.1
/-- a word that is cut out whole where what follows allows it -/
structure Wd (f : F3) (k w : Str) : Prop where
  kd : kind w = some k
  hd : ∃ c r, tl w = c :: r ∧ isBl c = false
  mm : ∀ cs, Fol f cs → sigs (tl w ++ cs) = tl w
theorem J.step {T : List Nat} {ws : List Tk} {f g : F3} {k w : Str} (j : J T ws f) (wd : Wd g k w) (o : Fol f (tl w)) : J (T ++ tl w) (ws ++ [(k, w)]) g := fun cs us t o2 => by
  obtain ⟨c, r, e, hb⟩ := wd.hd
  have t1 : Toks (tl w ++ cs) ((k, w) :: us) := by
    have ss := wd.mm cs o2
    have e2 : tl w ++ cs = c :: (r ++ cs) := by rw [e]; rfl
    have e3 := ss
    rw [e2] at e3
    rw [e2]
    exact .word hb e2.symm (by rw [e]; exact List.cons_ne_nil _ _) e3 wd.kd t
  have t2 := j _ _ t1 (by
    rw [e] at o ⊢
    exact o)
  rw [List.append_assoc, List.append_assoc]
  exact t2
theorem Wd.of {k w : Str} (hk : k ≠ "mark") (h : K0.Wd k w) : Wd .word k w := by
  obtain ⟨c, r, e, hb, _, _⟩ := h.hd
  refine ⟨h.kd, ⟨c, r, e, hb⟩, fun cs o => h.mm cs ?_⟩
  cases cs with
  | nil => trivial
  | cons d cs => exact Or.inr (Or.inr ⟨hk, o⟩)
theorem Wd.key {w : Str} (h : w ∈ kws) : Wd .word "key" w := Wd.of (by decide +kernel) (K0.wd_key h)
theorem Wd.name {w : Str} (hn : tl w ≠ []) (ha : (tl w).all isLet = true) (hl : (tl w).length ≤ 12) (hk : w ∉ kws) : Wd .word "name" w := Wd.of (by decide +kernel) (K0.wd_name hn ha hl hk)
theorem Wd.num {n : Nat} (h : n < 1000000) : Wd .word "number" (num n) := Wd.of (by decide +kernel) (K0.wd_num h)
theorem Wd.mark {w : Str} (h : w ∈ mks) : Wd .mark "mark" w := by
  obtain ⟨c, r, e, ha, hb, hr⟩ := K0.mks_first w h
  have h2 : isFig c = false ∧ isLet c = false := by
    unfold isAl at ha
    rwa [Bool.or_eq_false_iff] at ha
  refine ⟨K0.kind_mark h, ⟨c, r, e, hb⟩, fun cs o => ?_⟩
  rw [e]
  show (if isFig c then _ else if isLet c then _ else if inM ((c :: (r ++ cs)).take 2) then (c :: (r ++ cs)).take 2 else [c]) = c :: r
  rw [if_neg (by rw [h2.1]; exact Bool.false_ne_true), if_neg (by rw [h2.2]; exact Bool.false_ne_true)]
  rcases hr with hr | hr
  · subst hr
    cases cs with
    | nil =>
      have q : inM [c] = true := K0.inM_iff.mpr ⟨w, h, e⟩
      show (if inM [c] = true then [c] else [c]) = [c]
      rw [if_pos q]
    | cons d cs =>
      show (if inM [c, d] = true then [c, d] else [c]) = [c]
      rw [if_neg fun q => o (K0.no_two q)]
  · subst hr
    have q : inM [c, 61] = true := K0.inM_iff.mpr ⟨w, h, e⟩
    show (if inM [c, 61] = true then [c, 61] else [c]) = [c, 61]
    rw [if_pos q]
/-- a text is all blanks -/
def blS (s : Str) : Bool := (tl s).all isBl && !(tl s).isEmpty
/-! ### texts of Str: the same by Str -/
/-- a look's text within a text -/
def HasB (T : List Nat) : Prop := ∃ a b, T = a ++ tl ("black(" : Str) ++ b
theorem HasB.app {T : List Nat} (h : HasB T) (s : List Nat) : HasB (T ++ s) := by
  obtain ⟨a, b, rfl⟩ := h
  exact ⟨a, b ++ s, by rw [List.append_assoc]⟩
/-- a look among the words stands in the text as it is said -/
def BkJ (T : List Nat) (ws : List Tk) : Prop := (("key", "black") : Tk) ∈ ws → HasB T
/-- a word is no look -/
def noBk (k w : Str) : Bool := decide (k ≠ "key") || decide (w ≠ "black")
theorem noBk_name (w : Str) : noBk "name" w = true := by
  unfold noBk
  rw [show decide (("name" : Str) ≠ "key") = true by decide +kernel]
  rfl
theorem noBk_number (w : Str) : noBk "number" w = true := by
  unfold noBk
  rw [show decide (("number" : Str) ≠ "key") = true by decide +kernel]
  rfl
theorem noBk_mark (w : Str) : noBk "mark" w = true := by
  unfold noBk
  rw [show decide (("mark" : Str) ≠ "key") = true by decide +kernel]
  rfl
theorem noBk_ne {k w : Str} (h : noBk k w = true) : (("key", "black") : Tk) ≠ (k, w) := fun e => by
  cases e
  exact absurd h (by decide +kernel)
structure JS (T : Str) (ws : List Tk) (f : F3) : Prop where
  j : J (tl T) ws f
  b : BkJ (tl T) ws
theorem JS.nil : JS "" [] .free := by
  refine ⟨?_, fun h => by cases h⟩
  show J (tl ("" : Str)) [] .free
  rw [show tl ("" : Str) = [] by decide +kernel]
  exact J.nil
theorem JS.blank {T s : Str} {ws : List Tk} {f : F3} (j : JS T ws f) (h : blS s = true) : JS (T ++ s) ws .free := by
  unfold blS at h
  rw [Bool.and_eq_true] at h
  refine ⟨?_, fun m => by rw [tl_append]; exact (j.b m).app _⟩
  show J (tl (T ++ s)) ws .free
  rw [tl_append]
  refine J.blank j.j h.1 fun q => ?_
  rw [q] at h
  cases h.2
theorem JS.step {T w k : Str} {ws : List Tk} {f g : F3} (j : JS T ws f) (wd : Wd g k w) (o : Fol f (tl w)) (hb : noBk k w = true := by first | exact noBk_name _ | exact noBk_number _ | exact noBk_mark _ | decide +kernel) : JS (T ++ w) (ws ++ [(k, w)]) g := by
  refine ⟨?_, fun m => ?_⟩
  · show J (tl (T ++ w)) _ g
    rw [tl_append]
    exact J.step j.j wd o
  · rw [tl_append]
    rcases List.mem_append.mp m with m | m
    · exact (j.b m).app _
    · exact absurd (List.mem_singleton.mp m) (noBk_ne hb)
theorem JS.both {T : Str} {ws : List Tk} {f : F3} (j : JS T ws f) : JS T ws .both := ⟨J.both j.j, j.b⟩
theorem assocS (a b c : Str) : a ++ (b ++ c) = a ++ b ++ c := by
  apply ext_tl
  rw [tl_append, tl_append, tl_append, tl_append, List.append_assoc]
theorem nilS (a : Str) : a ++ ("" : Str) = a := by
  apply ext_tl
  rw [tl_append, show tl ("" : Str) = [] by decide +kernel, List.append_nil]
/-- literals: a text of marks and keys, by its words -/
inductive LW | bl (s : Str) | wd (k w : Str)
def LW.t : LW → Str
  | .bl s => s
  | .wd _ w => w
def LW.ok : LW → Bool
  | .bl s => blS s
  | .wd k w => noBk k w && ((decide (k = "key") && decide (w ∈ kws)) || (decide (k = "mark") && decide (w ∈ mks)))
def folB (f : F3) : List Nat → Bool
  | [] => true
  | c :: _ => match f with
    | .free => true
    | .mark => c != 61
    | .word => !isAl c
    | .both => c != 61 && !isAl c
theorem Fol.ofB {f : F3} : ∀ {l : List Nat}, folB f l = true → Fol f l
  | [], _ => trivial
  | c :: r, h => by
    cases f with
    | free => exact trivial
    | mark => show c ≠ 61; simpa [folB] using h
    | word => show isAl c = false; simpa [folB] using h
    | both => show c ≠ 61 ∧ isAl c = false; simpa [folB] using h
def litF : F3 → List LW → F3
  | f, [] => f
  | _, .bl _ :: r => litF .free r
  | _, .wd k _ :: r => litF (if k = "mark" then .mark else .word) r
def litOk : F3 → List LW → Bool
  | _, [] => true
  | f, .bl s :: r => blS s && litOk .free r
  | f, .wd k w :: r => LW.ok (.wd k w) && folB f (tl w) && litOk (if k = "mark" then .mark else .word) r
def litW : List LW → List Tk
  | [] => []
  | .bl _ :: r => litW r
  | .wd k w :: r => (k, w) :: litW r
def litT : List LW → Str
  | [] => ""
  | p :: r => p.t ++ litT r
theorem J.lits : ∀ (ps : List LW) {T : Str} {ws : List Tk} {f : F3}, J (tl T) ws f → litOk f ps = true → J (tl (T ++ litT ps)) (ws ++ litW ps) (litF f ps)
  | [], T, ws, f, j, _ => by
    show J (tl (T ++ ("" : Str))) (ws ++ []) f
    rw [nilS, List.append_nil]
    exact j
  | .bl s :: r, T, ws, f, j, h => by
    unfold litOk at h
    rw [Bool.and_eq_true] at h
    show J (tl (T ++ (s ++ litT r))) (ws ++ litW r) (litF .free r)
    rw [assocS]
    refine J.lits r ?_ h.2
    have q := h.1
    unfold blS at q
    rw [Bool.and_eq_true] at q
    rw [tl_append]
    refine J.blank j q.1 fun z => ?_
    rw [z] at q
    cases q.2
  | .wd k w :: r, T, ws, f, j, h => by
    unfold litOk at h
    rw [Bool.and_eq_true, Bool.and_eq_true] at h
    show J (tl (T ++ (w ++ litT r))) (ws ++ ((k, w) :: litW r)) (litF (if k = "mark" then .mark else .word) r)
    rw [assocS, show ws ++ ((k, w) :: litW r) = (ws ++ [(k, w)]) ++ litW r by rw [List.append_assoc]; rfl]
    refine J.lits r ?_ h.2
    have q := h.1.1
    unfold LW.ok at q
    simp only [Bool.or_eq_true, Bool.and_eq_true, decide_eq_true_eq] at q
    obtain ⟨_, q⟩ := q
    rw [tl_append]
    rcases q with ⟨q1, q2⟩ | ⟨q1, q2⟩
    · subst q1
      rw [if_neg (by decide +kernel)]
      exact J.step j (Wd.key q2) (Fol.ofB h.1.2)
    · subst q1
      rw [if_pos rfl]
      exact J.step j (Wd.mark q2) (Fol.ofB h.1.2)
theorem JS.lit : ∀ (ps : List LW) {T : Str} {ws : List Tk} {f : F3}, JS T ws f → litOk f ps = true → JS (T ++ litT ps) (ws ++ litW ps) (litF f ps)
  | [], T, ws, f, j, _ => by
    show JS (T ++ ("" : Str)) (ws ++ []) f
    rw [nilS, List.append_nil]
    exact j
  | .bl s :: r, T, ws, f, j, h => by
    unfold litOk at h
    rw [Bool.and_eq_true] at h
    show JS (T ++ (s ++ litT r)) (ws ++ litW r) (litF .free r)
    rw [assocS]
    exact JS.lit r (j.blank h.1) h.2
  | .wd k w :: r, T, ws, f, j, h => by
    unfold litOk at h
    rw [Bool.and_eq_true, Bool.and_eq_true] at h
    show JS (T ++ (w ++ litT r)) (ws ++ ((k, w) :: litW r)) (litF (if k = "mark" then .mark else .word) r)
    rw [assocS, show ws ++ ((k, w) :: litW r) = (ws ++ [(k, w)]) ++ litW r by rw [List.append_assoc]; rfl]
    refine JS.lit r ?_ h.2
    have q := h.1.1
    unfold LW.ok at q
    simp only [Bool.or_eq_true, Bool.and_eq_true, decide_eq_true_eq] at q
    obtain ⟨qb, q⟩ := q
    rcases q with ⟨q1, q2⟩ | ⟨q1, q2⟩
    · subst q1
      rw [if_neg (by decide +kernel)]
      exact j.step (Wd.key q2) (Fol.ofB h.1.2) qb
    · subst q1
      rw [if_pos rfl]
      exact j.step (Wd.mark q2) (Fol.ofB h.1.2) qb
/-! ### words of trees, all inner expressions in brackets -/
def kK (w : Str) : Tk := ("key", w)
def kM (w : Str) : Tk := ("mark", w)
def kN (w : Str) : Tk := ("name", w)
def Bi.tk (o : Bi) : Tk := match o with
  | .or => kK "or" | .and => kK "and" | .mod => kK "mod" | .black => kK "black"
  | o => kM o.w
def tkE : Ex → List Tk
  | .num n => [("number", num n)]
  | .name x => [kN x]
  | .rows => [kK "rows"]
  | .cols => [kK "cols"]
  | .un .neg a => [kM "(", kM "-", kM "("] ++ tkE a ++ [kM ")", kM ")"]
  | .un .not a => [kM "(", kK "not", kM "("] ++ tkE a ++ [kM ")", kM ")"]
  | .bin .black a b => [kK "black", kM "("] ++ tkE a ++ [kM ","] ++ tkE b ++ [kM ")"]
  | .bin o a b => [kM "("] ++ tkE a ++ [o.tk] ++ tkE b ++ [kM ")"]
def tkEs : List Ex → List Tk
  | [] => []
  | [e] => tkE e
  | e :: es => tkE e ++ [kM ","] ++ tkEs es
def tkNs : List Str → List Tk
  | [] => []
  | [x] => [kN x]
  | x :: xs => [kN x, kM ","] ++ tkNs xs
mutual
def tkS : St → List Tk
  | .row e => kK "row" :: tkE e
  | .col e => kK "col" :: tkE e
  | .say e => kK "say" :: tkE e
  | .set x e => [kK "let", kN x, kM "="] ++ tkE e
  | .ite c a b => [kK "if"] ++ tkE c ++ [kM "{"] ++ tkB a ++ [kM "}"] ++ (match b with | [] => [] | s :: r => [kK "else", kM "{"] ++ (tkS s ++ tkB r) ++ [kM "}"])
  | .whl c a => [kK "while"] ++ tkE c ++ [kM "{"] ++ tkB a ++ [kM "}"]
  | .for_ x a b s => [kK "for", kN x, kM "="] ++ tkE a ++ [kK "to"] ++ tkE b ++ [kM "{"] ++ tkB s ++ [kM "}"]
  | .call f es => [kK "do", kN f, kM "("] ++ tkEs es ++ [kM ")"]
  | .stop => [kK "stop"]
def tkB : List St → List Tk
  | [] => []
  | s :: b => tkS s ++ tkB b
end
def tkD (f : Df) : List Tk := [kK "def", kN f.name, kM "("] ++ tkNs f.args ++ [kM ")", kM "{"] ++ tkB f.body ++ [kM "}"]
def tkDs : List Df → List Tk
  | [] => []
  | f :: fs => tkD f ++ tkDs fs
def tkP (p : Pr) : List Tk := tkDs p.defs ++ tkB p.body
/-- the names that drawn programs have are words -/
def nameW (x : Str) : Bool := !(tl x).isEmpty && (tl x).all isLet && decide ((tl x).length ≤ 6) && decide (x ∉ kws)
theorem Wd.nm {x : Str} (h : nameW x = true) : Wd .word "name" x := by
  unfold nameW at h
  simp only [Bool.and_eq_true, decide_eq_true_eq, Bool.not_eq_true'] at h
  exact Wd.name (fun q => by rw [q] at h; cases h.1.1.1) h.1.1.2 (by omega) h.2
theorem nameW_len {x : Str} (h : nameW x = true) : x.length ≤ 6 := by
  unfold nameW at h
  simp only [Bool.and_eq_true, decide_eq_true_eq] at h
  rw [len_tl]
  exact h.1.2
theorem nameW_ne {x : Str} (h : nameW x = true) : ∃ c r, tl x = c :: r ∧ isLet c = true := by
  unfold nameW at h
  simp only [Bool.and_eq_true, decide_eq_true_eq, Bool.not_eq_true'] at h
  cases e : tl x with
  | nil => rw [e] at h; cases h.1.1.1
  | cons c r =>
    rw [e, List.all_cons, Bool.and_eq_true] at h
    exact ⟨c, r, rfl, h.1.1.2.1⟩
/-- a part's text: it begins with no =, what follows it is neither = nor a letter or figure -/
structure PartT (X : Str) (ws : List Tk) : Prop where
  hd : ∃ c r, tl X = c :: r ∧ c ≠ 61
  seg : ∀ {T : Str} {us : List Tk} {f : F3}, JS T us f → Fol f (tl X) → JS (T ++ X) (us ++ ws) .both
theorem PartT.fol_mark {X : Str} {ws : List Tk} (h : PartT X ws) : Fol .mark (tl X) := by
  obtain ⟨c, r, e, hc⟩ := h.hd
  rw [e]
  exact hc
theorem PartT.fol_free {X : Str} {ws : List Tk} (h : PartT X ws) : Fol .free (tl X) := by
  obtain ⟨c, r, e, hc⟩ := h.hd
  rw [e]
  trivial
theorem al_ne {c : Nat} (h : isAl c = true) : c ≠ 61 := by
  intro q
  subst q
  exact absurd h (by decide)
theorem PartT.name {x : Str} (h : nameW x = true) : PartT x [kN x] := by
  obtain ⟨c, r, e, hc⟩ := nameW_ne h
  exact ⟨⟨c, r, e, al_ne (by unfold isAl; rw [hc, Bool.or_true])⟩, fun j o => (j.step (Wd.nm h) o).both⟩
theorem PartT.key {x : Str} (h : x ∈ kws) (hb : noBk "key" x = true := by decide +kernel) : PartT x [kK x] := by
  have q := K0.kws_all x h
  refine ⟨?_, fun j o => (j.step (Wd.key h) o hb).both⟩
  cases e : tl x with
  | nil => exact absurd e q.2
  | cons c r =>
    rw [e, List.all_cons, Bool.and_eq_true] at q
    exact ⟨c, r, rfl, al_ne (by unfold isAl; rw [q.1.1, Bool.or_true])⟩
theorem PartT.numb {n : Nat} (h : n < 1000000) : PartT (num n) [("number", num n)] := by
  refine ⟨?_, fun j o => (j.step (Wd.num h) o).both⟩
  have q := K0.numL_fig n
  cases e : tl (num n) with
  | nil => rw [K0.tl_num'] at e; exact absurd e (K0.numL_ne n)
  | cons c r =>
    rw [← K0.tl_num', e, List.all_cons, Bool.and_eq_true] at q
    exact ⟨c, r, rfl, al_ne (by unfold isAl; rw [q.1, Bool.true_or])⟩
theorem Fol.head {f : F3} {c : Nat} {r q : List Nat} (h : Fol f (c :: r)) : Fol f (c :: q) := h
theorem PartT.fol {X : Str} {ws : List Tk} (h : PartT X ws) {f : F3} (hf : f = .mark ∨ f = .free) : Fol f (tl X) := by
  rcases hf with q | q
  · rw [q]; exact h.fol_mark
  · rw [q]; exact h.fol_free
theorem lit_head {w Y Z : Str} {f : F3} (hw : tl w ≠ []) (e : Y = w ++ Z) (h : Fol f (tl Y)) : Fol f (tl w) := by
  rw [e, tl_append] at h
  cases c : tl w with
  | nil => exact absurd c hw
  | cons a b => rw [c] at h; exact h
/-- a word, a literal, a part, a literal -/
theorem PartT.one {ps qs : List LW} {X Y k0 w0 : Str} {ws : List Tk} {g : F3} (hX : PartT X ws) (eY : Y = w0 ++ (litT ps ++ (X ++ litT qs))) (wd : Wd g k0 w0) (h61 : Fol .mark (tl w0))
    (h1 : litOk g ps = true) (h2 : litF g ps = .mark ∨ litF g ps = .free) (h3 : litOk .both qs = true) (hb : noBk k0 w0 = true := by first | exact noBk_name _ | exact noBk_mark _ | decide +kernel) : PartT Y ((k0, w0) :: (litW ps ++ (ws ++ litW qs))) := by
  obtain ⟨c, r, ec, _⟩ := wd.hd
  have hne : tl w0 ≠ [] := by rw [ec]; exact List.cons_ne_nil _ _
  refine ⟨⟨c, r ++ tl (litT ps ++ (X ++ litT qs)), by rw [eY, tl_append, ec]; rfl, by rw [ec] at h61; exact h61⟩, fun {T us f} j o => ?_⟩
  have j1 := j.step wd (lit_head hne eY o) hb
  have j2 := JS.lit ps j1 h1
  have j3 := hX.seg j2 (hX.fol h2)
  have j4 := (JS.lit qs j3 h3).both
  rw [eY]
  have e1 : T ++ (w0 ++ (litT ps ++ (X ++ litT qs))) = T ++ w0 ++ litT ps ++ X ++ litT qs := by rw [assocS, assocS, assocS]
  have e2 : us ++ ((k0, w0) :: (litW ps ++ (ws ++ litW qs))) = us ++ [(k0, w0)] ++ litW ps ++ ws ++ litW qs := by simp
  rw [e1, e2]
  exact j4
/-- a word, a literal, a part, a literal, a part, a literal -/
theorem PartT.two {ps qs rs : List LW} {X X2 Y k0 w0 : Str} {ws ws2 : List Tk} {g : F3} (hX : PartT X ws) (hX2 : PartT X2 ws2) (eY : Y = w0 ++ (litT ps ++ (X ++ (litT qs ++ (X2 ++ litT rs))))) (wd : Wd g k0 w0) (h61 : Fol .mark (tl w0))
    (h1 : litOk g ps = true) (h2 : litF g ps = .mark ∨ litF g ps = .free) (h3 : litOk .both qs = true) (h4 : litF .both qs = .mark ∨ litF .both qs = .free) (h5 : litOk .both rs = true) (hb : (noBk k0 w0 || decide (w0 ++ litT ps = "black(")) = true := by first | decide +kernel | (rw [noBk_mark]; rfl)) :
    PartT Y ((k0, w0) :: (litW ps ++ (ws ++ (litW qs ++ (ws2 ++ litW rs))))) := by
  obtain ⟨c, r, ec, _⟩ := wd.hd
  have hne : tl w0 ≠ [] := by rw [ec]; exact List.cons_ne_nil _ _
  refine ⟨⟨c, r ++ tl (litT ps ++ (X ++ (litT qs ++ (X2 ++ litT rs)))), by rw [eY, tl_append, ec]; rfl, by rw [ec] at h61; exact h61⟩, fun {T us f} j o => ?_⟩
  have j2 : JS (T ++ w0 ++ litT ps) (us ++ [(k0, w0)] ++ litW ps) (litF g ps) := by
    rw [Bool.or_eq_true] at hb
    rcases hb with hb | hb
    · exact JS.lit ps (j.step wd (lit_head hne eY o) hb) h1
    · rw [decide_eq_true_iff] at hb
      have a1 : J (tl (T ++ w0)) (us ++ [(k0, w0)]) g := by rw [tl_append]; exact J.step j.j wd (lit_head hne eY o)
      refine ⟨J.lits ps a1 h1, fun _ => ⟨tl T, [], ?_⟩⟩
      rw [← assocS, tl_append, hb, List.append_nil]
  have j3 := hX.seg j2 (hX.fol h2)
  have j4 := JS.lit qs j3 h3
  have j5 := hX2.seg j4 (hX2.fol h4)
  have j6 := (JS.lit rs j5 h5).both
  rw [eY]
  have e1 : T ++ (w0 ++ (litT ps ++ (X ++ (litT qs ++ (X2 ++ litT rs))))) = T ++ w0 ++ litT ps ++ X ++ litT qs ++ X2 ++ litT rs := by rw [assocS, assocS, assocS, assocS, assocS]
  have e2 : us ++ ((k0, w0) :: (litW ps ++ (ws ++ (litW qs ++ (ws2 ++ litW rs))))) = us ++ [(k0, w0)] ++ litW ps ++ ws ++ litW qs ++ ws2 ++ litW rs := by simp
  rw [e1, e2]
  exact j6
/-- what a tree needs to be printed: small numbers, names that are words -/
def wfE : Ex → Prop
  | .num n => n < 1000000
  | .name x => nameW x = true
  | .rows => True
  | .cols => True
  | .un _ a => wfE a
  | .bin _ a b => wfE a ∧ wfE b
theorem wfE_of {ns : List Str} (h : ∀ x ∈ ns, nameW x = true) : ∀ {e : Ex}, okE ns e → wfE e
  | .num _, q => q
  | .name x, q => h x q
  | .rows, _ => trivial
  | .cols, _ => trivial
  | .un _ a, q => wfE_of h (e := a) q
  | .bin _ a b, q => ⟨wfE_of h (e := a) q.1, wfE_of h (e := b) q.2⟩
/-- how long a part's text is at most -/
def pl : Nat → Nat
  | 0 => 6
  | n + 1 => 2 * pl n + 10
end KD

namespace KD
open PySem L2 TL
open K0 (num)
theorem dp_tup {K : PySem.W.Frag} {H : Hp} {v : V} {ds : List PyData} (h : Dp K H v (.tuple ds)) : ∃ a xs, v = .ref a ∧ SqT K H a xs ∧ DpAll K H xs ds := by
  cases h with
  | tup h1 h2 => exact ⟨_, _, rfl, h1, h2⟩
theorem dp_cons {K : PySem.W.Frag} {H : Hp} {xs : List V} {d : PyData} {ds : List PyData} (h : DpAll K H xs (d :: ds)) : ∃ v vs, xs = v :: vs ∧ Dp K H v d ∧ DpAll K H vs ds := by
  cases h with
  | cons h1 h2 => exact ⟨_, _, rfl, h1, h2⟩
theorem dp_nil {K : PySem.W.Frag} {H : Hp} {xs : List V} (h : DpAll K H xs []) : xs = [] := by cases h; rfl
theorem dp_str {K : PySem.W.Frag} {H : Hp} {v : V} {x : Str} (h : Dp K H v (.str x)) : v = .str x := by cases h; rfl
theorem dp_int {K : PySem.W.Frag} {H : Hp} {v : V} {x : Int} (h : Dp K H v (.int x)) : v = .int x := by cases h; rfl
theorem sums (a b : Str) : (a ++ b).length = a.length + b.length := by rw [len_tl, tl_append, List.length_append, ← len_tl, ← len_tl]
theorem dec_str (a b : Str) : decide (V.str a = V.str b) = decide (a = b) := by
  rw [Bool.eq_iff_iff, decide_eq_true_iff, decide_eq_true_iff]
  exact ⟨fun q => V.str.inj q, fun q => by rw [q]⟩
theorem same_new {H : Hp} {p : Addr} (h : H p = none) (o : HO) : Same H (upd H p o) := fun b u q => by rw [upd_ne (ne_of_none q h)]; exact q
theorem log_small {m : Nat} (h : m < 1000000) : (((m : Nat) : Int)).natAbs.log2 < 1920 := by
  rw [Int.natAbs_natCast]
  by_cases h0 : m = 0
  · subst h0; decide
  · have q : m.log2 < 20 := (Nat.log2_lt h0).mpr (by omega)
    omega
def n3 : List Str := ["name", "rows", "cols"]
def Bi.lw (o : Bi) : LW := .wd o.tk.1 o.tk.2
theorem Bi.tk_w (o : Bi) : o.tk.2 = o.w := by cases o <;> rfl
theorem Bi.lit (o : Bi) (h : o ≠ .black) : litOk .both [.bl " ", o.lw, .bl " "] = true := by cases o <;> first | decide +kernel | exact absurd rfl h
theorem Bi.not (o : Bi) (h : o ≠ .black) : ¬ (o.w = "num") ∧ o.w ∉ n3 ∧ ¬ (o.w = "black") ∧ o.w ∉ un2 := by
  cases o with
  | black => exact absurd rfl h
  | _ => decide +kernel
theorem Bi.len (o : Bi) : o.w.length ≤ 5 := by cases o <;> decide +kernel
theorem tk_bin {o : Bi} (h : o ≠ .black) (a b : Ex) : tkE (.bin o a b) = [kM "("] ++ tkE a ++ [o.tk] ++ tkE b ++ [kM ")"] := by
  cases o with
  | black => exact absurd rfl h
  | _ => rfl
theorem Bi.litF (o : Bi) : litF .both [.bl " ", o.lw, .bl " "] = .free := by cases o <;> rfl
section
variable {P : Program} {w : World} {K : PySem.W.Frag} {mg : Str → Option Value} {base : Heap}
/-! ### _law_part -/
def spPart (K : PySem.W.Frag) (n : Nat) : Sp := fun vs H Q _ => ∃ (x v : V) (e : Ex), vs = [x, v] ∧ Dp K H v e.d ∧ wfE e ∧ dpE e < n ∧ n ≤ 12 ∧
  ∀ (H' : Hp) (X : Str), Same H H' → PartT X (tkE e) → X.length ≤ pl (dpE e) → Q (.str X) H'
theorem pl_mono : ∀ {a b : Nat}, a ≤ b → pl a ≤ pl b
  | 0, 0, _ => Nat.le_refl _
  | 0, b + 1, _ => by
    have := pl_mono (a := 0) (b := b) (Nat.zero_le _)
    show pl 0 ≤ 2 * pl b + 10
    omega
  | a + 1, b + 1, h => by
    have := pl_mono (a := a) (b := b) (by omega)
    show 2 * pl a + 10 ≤ 2 * pl b + 10
    omega
theorem pl_small {a : Nat} (h : a ≤ 12) : pl a ≤ 100000 := Nat.le_trans (pl_mono h) (by decide)
end
end KD

namespace KD
open PySem L2 TL
mutual
/-- no list is too long -/
def slimD : PyData → Bool
  | .list xs => decide (xs.length ≤ 1000000) && slimDs xs
  | .tuple xs => decide (xs.length ≤ 1000000) && slimDs xs
  | .dict _ => false
  | _ => true
def slimDs : List PyData → Bool
  | [] => true
  | x :: xs => slimD x && slimDs xs
end
theorem slimDs_get : ∀ {xs : List PyData} {i : Nat} {d : PyData}, slimDs xs = true → xs[i]? = some d → slimD d = true
  | [], i, d, _, h => by simp at h
  | x :: xs, 0, d, h, e => by
    unfold slimDs at h
    rw [Bool.and_eq_true] at h
    have := Option.some.inj e
    subst this
    exact h.1
  | x :: xs, i + 1, d, h, e => by
    unfold slimDs at h
    rw [Bool.and_eq_true] at h
    exact slimDs_get (i := i) h.2 e
theorem depth_get : ∀ {xs : List PyData} {i : Nat} {d : PyData}, xs[i]? = some d → PyData.depth d ≤ PyData.depthAll xs
  | [], i, d, h => by simp at h
  | x :: xs, 0, d, e => by
    have := Option.some.inj e
    subst this
    exact Nat.le_max_left _ _
  | x :: xs, i + 1, d, e => Nat.le_trans (depth_get (i := i) e) (Nat.le_max_right _ _)
def us2 : List Value := [.type "tuple", .type "list"]
theorem cls2 : Paired ClsV [.ty "tuple", .ty "list"] us2 := .cons (.ty _) (.cons (.ty _) .nil)
theorem kit2 {K : PySem.W.Frag} {a : String} {b1 b2 b : Bool} (h1 : kitB a "tuple" = some b1) (h2 : kitB a "list" = some b2) (hb : b = (b1 || b2)) : PySem.W.kitAny K (.type a) us2 = some b := by
  subst hb
  exact kitAny_cons (b := b1) (kit_ty h1) (fun e => by rw [e]; exact kitAny_cons (b := b2) (kit_ty h2) (fun e2 => by rw [e2]; exact kitAny_nil) (fun e2 => by rw [e2]; rfl)) (fun e => by rw [e]; rfl)
theorem Fp.list {K : PySem.W.Frag} {H : Hp} {a : Addr} {xs : List V} (h : SqL K H a xs) : TyX K H (.ref a) (.type "list") := by
  rcases h with (h | ⟨o, h⟩) | ⟨o, its, n, h1, h2, _⟩
  · exact .base (.lst h)
  · exact .base (.frz h)
  · exact .kList h1 h2
theorem Fp.tup {K : PySem.W.Frag} {H : Hp} {a : Addr} {xs : List V} (h : SqT K H a xs) : TyX K H (.ref a) (.type "tuple") := by
  rcases h with (h | ⟨o, h⟩) | ⟨o, its, n, h1, h2, _⟩
  · exact .base (.tup h)
  · exact .fTuple h
  · exact .kTuple h1 h2
def bxT (C : Bool) : String := if C then "tuple" else "list"
def Bx (K : PySem.W.Frag) (C : Bool) (H : Hp) (a : Addr) (xs : List V) : Prop := if C then SqT K H a xs else SqL K H a xs
theorem Bx.ty {K : PySem.W.Frag} {H : Hp} {a : Addr} {xs : List V} : ∀ {C : Bool}, Bx K C H a xs → TyX K H (.ref a) (.type (bxT C))
  | true, h => Fp.tup h
  | false, h => Fp.list h
theorem Bx.same {K : PySem.W.Frag} {H H' : Hp} {a : Addr} {xs : List V} (s : Same H H') : ∀ {C : Bool}, Bx K C H a xs → Bx K C H' a xs
  | true, h => KT.same s _ _ h
  | false, h => s.seq h
theorem Bx.seq {K : PySem.W.Frag} {H : Hp} {a : Addr} {xs : List V} : ∀ {C : Bool}, Bx K C H a xs → SqL K H a xs ∨ SqT K H a xs
  | true, h => .inr h
  | false, h => .inl h
theorem Bx.kit {K : PySem.W.Frag} : ∀ {C : Bool}, PySem.W.kitAny K (.type (bxT C)) us2 = some true
  | true => kit2 (b1 := true) (b2 := false) (by decide +kernel) (by decide +kernel) rfl
  | false => kit2 (b1 := false) (b2 := true) (by decide +kernel) (by decide +kernel) rfl
theorem Bx.isl {K : PySem.W.Frag} : ∀ {C : Bool}, PySem.W.kitOne K (.type (bxT C)) (.type "list") = some (!C)
  | true => kit_ty (by decide +kernel)
  | false => kit_ty (by decide +kernel)
def bxD (C : Bool) (ds : List PyData) : PyData := if C then .tuple ds else .list ds
theorem Bx.of {K : PySem.W.Frag} {H : Hp} {v : V} {ds : List PyData} : ∀ {C : Bool}, Dp K H v (bxD C ds) → ∃ a xs, v = .ref a ∧ Bx K C H a xs ∧ DpAll K H xs ds
  | true, h => dp_tup h
  | false, h => by
    cases (show Dp K H v (.list ds) from h) with
    | lst h1 h2 => exact ⟨_, _, rfl, h1, h2⟩
section
variable {P : Program} {w : World} {K : PySem.W.Frag} {mg : Str → Option Value} {base : Heap}
theorem scAlike : FnScope ["found", "due", "k"] ["found", "due"] (defScope S__law_alike) := ⟨rfl, rfl, rfl, by decide +kernel, rfl, by decide +kernel, by decide +kernel⟩
def spAlk (K : PySem.W.Frag) (n : Nat) : Sp := fun vs H Q _ => ∃ (x y : V) (d : PyData), vs = [x, y] ∧ Dp K H x d ∧ Dp K H y d ∧ PyData.depth d < n ∧ slimD d = true ∧ ∀ H', Same H H' → Q (.bl true) H'
theorem ok_alk1 {n : Nat} {f : Addr} {fd : FuncData} (F : Fun K "_law_alike" "_law_alike" S__law_alike f fd) (T : Blt mg) (GI : FnOk P w K mg base CX0 n f fd ["found", "due"] (spAlk K n)) (mI : mg "_law_alike" = some (.ref f)) (bI : Binds K fd ["found", "due"] []) :
    FnOk P w K mg base CX0 (n + 1) f fd ["found", "due"] (spAlk K (n + 1)) := by
  refine F.ok scAlike (fun vs H Q E h => ?_) (fun cdv A outer s0 H vs Q E hr h => ?_)
  · obtain ⟨x, y, d, rfl, _⟩ := h
    rfl
  obtain ⟨x, y, d, rfl, hx, hy, hd, hs, k⟩ := h
  have isT : ∀ i : Nat, True := fun _ => trivial
  refine ⟨_, pss_cons (ps_if (pt_val (pe_callB call_isiT (by rfl) T.isi (by decide +kernel) (pa_cons (pv 1) (pa_cons (pe_tup (pa_cons (pe_bltn (v := .ty "tuple") (by rfl) T.tup (by decide +kernel) rfl) (pa_cons (pe_bltn (v := .ty "list") (by rfl) T.list (by decide +kernel) rfl) pa_nil))) pa_nil))))
      (pss_cons (ps_if (PW.pt (pw_or (pt_not (pt_val (pe_callB call_isiT (by rfl) T.isi (by decide +kernel) (pa_cons (pv 0) (pa_cons (pe_tup (pa_cons (pe_bltn (v := .ty "tuple") (by rfl) T.tup (by decide +kernel) rfl) (pa_cons (pe_bltn (v := .ty "list") (by rfl) T.list (by decide +kernel) rfl) pa_nil))) pa_nil)))))
          (pw_or1 (pt_cmpR op_ne (pe_callB call_isi (by rfl) T.isi (by decide +kernel) (pa_cons (pv 0) (pa_cons (pe_bltn (v := .ty "list") (by rfl) T.list (by decide +kernel) rfl) pa_nil)))
            (pe_callB call_isi (by rfl) T.isi (by decide +kernel) (pa_cons (pv 1) (pa_cons (pe_bltn (v := .ty "list") (by rfl) T.list (by decide +kernel) rfl) pa_nil))) (nomark _))))) pss_never pss_nil)
      (pss_cons (ps_if (pt_cmpR op_ne (pe_callB call_len_seq (by rfl) T.len PySem.boot_len (pa_cons (pv 0) pa_nil)) (pe_callB call_len_seq (by rfl) T.len PySem.boot_len (pa_cons (pv 1) pa_nil)) (nomark _)) pss_never pss_nil)
      (pss_one (ps_ret (pe_cmpR (op_eqD hr.units) (pe_lc (own := [("k", 2)]) (g := gName 2) rfl scAlike.nd (pi_range1 rfl T.range (pa_cons (pe_callB call_len_seq (by rfl) T.len PySem.boot_len (pa_cons (pv 1) pa_nil)) pa_nil))
          (blkOk_by (own := [("k", 2)]) (N := ["found", "due", "k"]) (sc := defScope S__law_alike) (by decide +kernel)) (fun _ _ _ _ _ => pg_name (i := 2) scAlike.nd rfl (Or.inl rfl))
          (fun _ _ _ _ _ => pts_one (pt_not (pt_val (pe_call GI hr rfl mI F.kp bI .nil pass0 (pa_cons (pe_ix (r := rIx K) ix_seq (pv 0) (pv 2) (fun _ _ => rfl)) (pa_cons (pe_ix (r := rIx K) ix_seq (pv 1) (pv 2) (fun _ _ => rfl)) pa_nil))))))
          (fun _ _ _ _ _ => pv 2)) (pe_lst pa_nil) (nomark _)))))) pss_nil)
    (pss_cons (ps_if (PW.pt (pw_or (pt_cmp (pc_isN (pv 1))) (pw_or1 (pt_val (pe_callB call_isi (by rfl) T.isi (by decide +kernel) (pa_cons (pv 1) (pa_cons (pe_bltn (v := .ty "str") (by rfl) T.str (by decide +kernel) rfl) pa_nil)))))))
      (pss_one (ps_ret (pe_and (pe_cmpR op_eq (pv 0) (pv 1) (nomark _)) (pe_one (pe_cmpR op_eq
        (pe_callB call_isi (by rfl) T.isi (by decide +kernel) (pa_cons (pv 0) (pa_cons (pe_bltn (v := .ty "str") (by rfl) T.str (by decide +kernel) rfl) pa_nil)))
        (pe_callB call_isi (by rfl) T.isi (by decide +kernel) (pa_cons (pv 1) (pa_cons (pe_bltn (v := .ty "str") (by rfl) T.str (by decide +kernel) rfl) pa_nil))) (nomark _)))))) pss_nil)
    (pss_one (ps_ret (pe_and (pe_callB call_isi (by rfl) T.isi (by decide +kernel) (pa_cons (pv 0) (pa_cons (pe_bltn (v := .ty "int") (by rfl) T.int (by decide +kernel) rfl) pa_nil)))
      (pe_and (pe_cmpR op_eq
        (pe_callB call_isi (by rfl) T.isi (by decide +kernel) (pa_cons (pv 0) (pa_cons (pe_bltn (v := .ty "bool") (by rfl) T.bool (by decide +kernel) rfl) pa_nil)))
        (pe_callB call_isi (by rfl) T.isi (by decide +kernel) (pa_cons (pv 1) (pa_cons (pe_bltn (v := .ty "bool") (by rfl) T.bool (by decide +kernel) rfl) pa_nil))) (nomark _))
      (pe_one (pe_cmpR op_eq (pv 0) (pv 1) (nomark _)))))))), ?_⟩
  by_cases hbx : ∃ (C : Bool) (ds : List PyData), d = bxD C ds
  · obtain ⟨C, ds, rfl⟩ := hbx
    obtain ⟨p, xs, rfl, hp, hxs⟩ := Bx.of hx
    obtain ⟨q, ys, rfl, hq, hys⟩ := Bx.of hy
    have hsl : ds.length ≤ 1000000 ∧ slimDs ds = true := by
      cases C with
      | true =>
        have z : (decide (ds.length ≤ 1000000) && slimDs ds) = true := hs
        rw [Bool.and_eq_true, decide_eq_true_iff] at z
        exact z
      | false =>
        have z : (decide (ds.length ≤ 1000000) && slimDs ds) = true := hs
        rw [Bool.and_eq_true, decide_eq_true_iff] at z
        exact z
    have hdd : PyData.depthAll ds < n := by
      cases C with
      | true =>
        have z : PyData.depthAll ds + 1 < n + 1 := hd
        omega
      | false =>
        have z : PyData.depthAll ds + 1 < n + 1 := hd
        omega
    have l1 := KD.DpAll.length hxs
    have l2 := KD.DpAll.length hys
    have h1000 : ys.length ≤ 1000000 := by rw [l2]; exact hsl.1
    refine ⟨_, rfl, (by show 2 ≤ sizeLine; decide), fun tp htp => ⟨_, tp, _, _, us2, true, rfl, upd_same, cls2, Bx.ty (Bx.same (same_new htp _) hq), Bx.kit, true, rfl, iteT ?_⟩⟩
    have s1 := same_new htp (.tup [.ty "tuple", .ty "list"])
    refine ⟨_, rfl, (by show 2 ≤ sizeLine; decide), fun tp2 htp2 => ?_⟩
    have s2 := s1.trans (same_new htp2 (.tup [.ty "tuple", .ty "list"]))
    refine ⟨_, tp2, _, _, us2, true, rfl, upd_same, cls2, Bx.ty (Bx.same s2 hp), Bx.kit, true, rfl, iteF ?_⟩
    generalize upd (upd H tp (.tup [.ty "tuple", .ty "list"])) tp2 (.tup [.ty "tuple", .ty "list"]) = H2 at s2 ⊢
    refine ⟨_, rfl, _, _, _, _, !C, rfl, .ty "list", Bx.ty (Bx.same s2 hp), Bx.isl, _, rfl, _, _, _, _, !C, rfl, .ty "list", Bx.ty (Bx.same s2 hq), Bx.isl, rfl, _, rfl, iteNS rfl ?_⟩
    refine ⟨_, rfl, p, xs, rfl, Bx.seq (Bx.same s2 hp), _, rfl, q, ys, rfl, Bx.seq (Bx.same s2 hq), rfl, _, rfl, iteNS (by rw [l1, l2]) ?_⟩
    refine ⟨_, rfl, q, ys, rfl, Bx.seq (Bx.same s2 hq), _, rfl, by omega, by omega, fun D hD => ?_⟩
    have s3 := s2.trans (same_new hD (.lst []))
    refine lc_range (lo := 0) (n := ((ys.length : Nat) : Int).toNat) (fun _ H' => H' D = some (.lst []) ∧ Same H H') ⟨upd_same, s3⟩ ?_ ?_
    · rintro i H' hi ⟨hD', s4⟩
      have hi' : i < ys.length := by omega
      have ei : (0 : Int) + (i : Int) = ((i : Nat) : Int) := by omega
      obtain ⟨x, hx⟩ : ∃ x, xs[i]? = some x := ⟨_, List.getElem?_eq_getElem (by omega)⟩
      obtain ⟨y, hy⟩ : ∃ y, ys[i]? = some y := ⟨_, List.getElem?_eq_getElem hi'⟩
      have ax : atI xs (0 + (i : Int)) = some x := by rw [ei]; exact atI_nat hx
      have ay : atI ys (0 + (i : Int)) = some y := by rw [ei]; exact atI_nat hy
      obtain ⟨d1, e1, g1⟩ := KD.DpAll.get hxs hx
      obtain ⟨d2, e2, g2⟩ := KD.DpAll.get hys hy
      have e12 : d1 = d2 := by rw [e1] at e2; exact Option.some.inj e2
      subst e12
      have ix : ∀ {a : Addr} {zs : List V} {v : V} (Q2 : VK), Bx K C H a zs → atI zs (0 + (i : Int)) = some v → Q2 v H' → rIx K (.ref a) (.int (0 + (i : Int))) H' Q2 := fun {a zs v} Q2 h1 h2 h3 => by
        rcases Bx.seq (Bx.same s4 h1) with h | h
        · exact .inl ⟨a, zs, _, v, rfl, rfl, h, h2, h3⟩
        · exact .inr (.inl ⟨a, zs, _, v, rfl, rfl, h, h2, h3⟩)
      refine ⟨rfl, ?_⟩
      refine ⟨_, rfl, _, rfl, ix _ hp ax ?_⟩
      refine ⟨_, rfl, _, rfl, ix _ hq ay ?_⟩
      refine ⟨x, y, d1, rfl, Dp.same s4 g1, Dp.same s4 g2, Nat.lt_of_le_of_lt (depth_get e1) hdd, slimDs_get hsl.2 e1, fun H5 s5 => ⟨true, rfl, iteF ?_⟩⟩
      exact ⟨s5 _ _ hD', s4.trans s5⟩
    · rintro H' ⟨hD', s4⟩
      refine ⟨Nat.zero_le _, fun l hl' => ⟨.list [], .list [], .lst (SqL.of (same_new hl' _ _ _ hD')) .nil, .lst (SqL.of upd_same) .nil, rfl, rfl, ?_⟩⟩
      show Q (.bl true) _
      exact k _ (s4.trans (same_new hl' _))
  cases d with
  | list ds => exact absurd ⟨false, ds, rfl⟩ hbx
  | tuple ds => exact absurd ⟨true, ds, rfl⟩ hbx
  | dict kvs => cases hs
  | none =>
    cases hx
    cases hy
    refine ⟨_, rfl, (by show 2 ≤ sizeLine; decide), fun tp htp => ⟨_, tp, _, _, us2, false, rfl, upd_same, cls2, .base .non, kit2 (b1 := false) (b2 := false) (by decide +kernel) (by decide +kernel) rfl, false, rfl, iteF ?_⟩⟩
    refine ⟨_, rfl, _, rfl, iteT ?_⟩
    refine ⟨_, rfl, _, rfl, rfl, _, rfl, iteT ?_⟩
    refine ⟨_, rfl, _, _, _, _, false, rfl, .ty "str", .base .non, kit_ty (by decide +kernel), _, rfl, _, _, _, _, false, rfl, .ty "str", .base .non, kit_ty (by decide +kernel), rfl, ?_⟩
    exact k _ (same_new htp _)
  | str z =>
    cases hx
    cases hy
    refine ⟨_, rfl, (by show 2 ≤ sizeLine; decide), fun tp htp => ⟨_, tp, _, _, us2, false, rfl, upd_same, cls2, .base (.str _), kit2 (b1 := false) (b2 := false) (by decide +kernel) (by decide +kernel) rfl, false, rfl, iteF ?_⟩⟩
    refine ⟨_, rfl, _, rfl, iteF ?_⟩
    refine ⟨_, rfl, _, _, _, _, true, rfl, .ty "str", .base (.str _), kit_ty (by decide +kernel), true, rfl, iteT ?_⟩
    refine ⟨_, rfl, _, rfl, rfl, _, rfl, ?_⟩
    rw [decide_eq_true rfl]
    refine iteT ?_
    refine ⟨_, rfl, _, _, _, _, true, rfl, .ty "str", .base (.str _), kit_ty (by decide +kernel), _, rfl, _, _, _, _, true, rfl, .ty "str", .base (.str _), kit_ty (by decide +kernel), rfl, ?_⟩
    exact k _ (same_new htp _)
  | bool z =>
    cases hx
    cases hy
    refine ⟨_, rfl, (by show 2 ≤ sizeLine; decide), fun tp htp => ⟨_, tp, _, _, us2, false, rfl, upd_same, cls2, .base (.bl _), kit2 (b1 := false) (b2 := false) (by decide +kernel) (by decide +kernel) rfl, false, rfl, iteF ?_⟩⟩
    refine ⟨_, rfl, _, rfl, iteF ?_⟩
    refine ⟨_, rfl, _, _, _, _, false, rfl, .ty "str", .base (.bl _), kit_ty (by decide +kernel), false, rfl, iteF ?_⟩
    refine ⟨_, rfl, _, _, _, _, true, rfl, .ty "int", .base (.bl _), kit_ty (by decide +kernel), true, rfl, iteT ?_⟩
    refine ⟨_, rfl, _, _, _, _, true, rfl, .ty "bool", .base (.bl _), kit_ty (by decide +kernel), _, rfl, _, _, _, _, true, rfl, .ty "bool", .base (.bl _), kit_ty (by decide +kernel), rfl, true, rfl, iteT ?_⟩
    refine ⟨_, rfl, _, rfl, rfl, ?_⟩
    show Q (.bl (decide (V.bl z = V.bl z))) _
    rw [decide_eq_true rfl]
    exact k _ (same_new htp _)
  | int z =>
    cases hx
    cases hy
    refine ⟨_, rfl, (by show 2 ≤ sizeLine; decide), fun tp htp => ⟨_, tp, _, _, us2, false, rfl, upd_same, cls2, .base (.int _), kit2 (b1 := false) (b2 := false) (by decide +kernel) (by decide +kernel) rfl, false, rfl, iteF ?_⟩⟩
    refine ⟨_, rfl, _, rfl, iteF ?_⟩
    refine ⟨_, rfl, _, _, _, _, false, rfl, .ty "str", .base (.int _), kit_ty (by decide +kernel), false, rfl, iteF ?_⟩
    refine ⟨_, rfl, _, _, _, _, true, rfl, .ty "int", .base (.int _), kit_ty (by decide +kernel), true, rfl, iteT ?_⟩
    refine ⟨_, rfl, _, _, _, _, false, rfl, .ty "bool", .base (.int _), kit_ty (by decide +kernel), _, rfl, _, _, _, _, false, rfl, .ty "bool", .base (.int _), kit_ty (by decide +kernel), rfl, true, rfl, iteT ?_⟩
    refine ⟨_, rfl, _, rfl, rfl, ?_⟩
    show Q (.bl (decide (V.int z = V.int z))) _
    rw [decide_eq_true rfl]
    exact k _ (same_new htp _)
theorem ok_alk {f : Addr} {fd : FuncData} (F : Fun K "_law_alike" "_law_alike" S__law_alike f fd) (T : Blt mg) (mI : mg "_law_alike" = some (.ref f)) (bI : Binds K fd ["found", "due"] []) :
    ∀ n : Nat, FnOk P w K mg base CX0 n f fd ["found", "due"] (spAlk K n)
  | 0 => by
    have no : ∀ vs H Q E, ¬ spAlk K 0 vs H Q E := fun vs H Q E h => by
      obtain ⟨x, y, d, _, _, _, h1, _⟩ := h
      omega
    exact ⟨fun vs H Q E h => absurd h (no vs H Q E), fun A outer s H args us vs Q E _ _ _ _ h => absurd h (no vs H Q E)⟩
  | n + 1 => ok_alk1 F T (ok_alk F T mI bI n) mI bI
end
end KD

/-! Rules in short: t + u, t[a:b], t * n of tuples; s * n of texts; sign in (A, B) within a generator expression. -/
namespace EB
open PySem PySem.Spec PyProof.Rows L2 KD
section
variable {X : Cx}
/-- t + u -/
def rCatS (K : PySem.W.Frag) : R2 := fun x y H Q => ∃ a b xs ys, x = .ref a ∧ y = .ref b ∧ SqT K H a xs ∧ SqT K H b ys ∧ xs.length + ys.length ≤ 1000 ∧ ∀ p H', Same H H' → SqT K H' p (xs ++ ys) → Q (.ref p) H'
theorem op_catS : OpR X (binaryOp .Add) (rCatS X.K) := by
  rintro pins s σ H x y v u Q I rx ry ⟨a, b, xs, ys, rfl, rfl, ha, hb, hz, q⟩
  refine op_catA pins s σ H _ _ v u Q I rx ry ⟨a, b, xs, ys, rfl, rfl, ha, hb, Nat.le_trans hz (by decide), fun e => ?_, fun _ e => ?_, fun _ _ p hp => ?_⟩
  · subst e
    exact q b H (Same.refl H) hb
  · subst e
    rw [List.append_nil] at q
    exact q a H (Same.refl H) ha
  · exact q p _ (same_new hp _) (SqT.of upd_same)
/-- t[lo:hi] -/
def rSlZ (K : PySem.W.Frag) : V → Option Int → Option Int → Hp → VK → Prop := fun x lo hi H Q => ∃ a xs, x = .ref a ∧ SqT K H a xs ∧ ∀ p H', Same H H' → SqT K H' p (cutV xs lo hi) → Q (.ref p) H'
theorem cut_whole {xs : List V} {lo hi : Option Int} (h : HT.sIx xs.length 0 lo = 0 ∧ HT.sIx xs.length xs.length hi = xs.length) : cutV xs lo hi = xs := by
  unfold cutV
  rw [h.1, h.2, List.drop_zero, Nat.sub_zero, List.take_length]
theorem sl_tupS : SlR X (rSlZ X.K) := by
  rintro pins s σ H x v vl vu lo hi sl Q I rx hs pl pu ⟨a, xs, rfl, hx, q⟩
  refine sl_tupA pins s σ H _ v vl vu lo hi sl Q I rx hs pl pu ⟨a, xs, rfl, hx, fun e => ?_, fun _ p hp => ?_⟩
  · exact q a H (Same.refl H) (by rw [cut_whole e]; exact hx)
  · exact q p _ (same_new hp _) (SqT.of upd_same)
/-- s * n, s one sign -/
def rMulS : R2 := fun x y H Q => ∃ (c : Nat) (n : Nat), x = .str ⟨#[c]⟩ ∧ y = .int (n : Int) ∧ n ≤ 1000 ∧ Q (.str ⟨(List.replicate n c).toArray⟩) H
theorem rep_one (c : Nat) : ∀ (m : Nat) (acc : Array Nat), List.foldl (fun x1 x2 => x1 ++ x2) acc (List.replicate m #[c]) = acc ++ (List.replicate m c).toArray
  | 0, acc => by simp
  | m + 1, acc => by
    rw [List.replicate_succ, List.foldl_cons, rep_one c m, List.replicate_succ]
    rw [Array.append_assoc]
    exact congrArg (fun x => acc ++ x) (show ([c].toArray ++ (List.replicate m c).toArray) = (c :: List.replicate m c).toArray by simp)
theorem mul_one (c n : Nat) : Txt.mul ⟨#[c]⟩ (n : Int) = ⟨(List.replicate n c).toArray⟩ := by
  unfold Txt.mul
  match n with
  | 0 => rfl
  | 1 => rfl
  | m + 2 =>
    have h1 : ¬ (((m + 2 : Nat) : Int) < 1) := by omega
    have h2 : ((((m + 2 : Nat) : Int) == 1 || Str.length ⟨#[c]⟩ == 0)) = false := by
      rw [show (((m + 2 : Nat) : Int) == 1) = false from beq_eq_false_iff_ne.mpr (by omega)]
      rfl
    rw [if_neg h1, h2, Int.toNat_natCast]
    show (⟨List.foldl (fun x1 x2 => x1 ++ x2) #[] (List.replicate (m + 2) #[c])⟩ : Str) = _
    rw [rep_one]
    simp
theorem op_mulS : OpR X (binaryOp .Mult) rMulS := by
  rintro pins s σ H x y v u Q I rx ry ⟨c, n, rfl, rfl, hn, q⟩
  obtain ⟨t, rfl⟩ := rx
  obtain ⟨t', rfl⟩ := ry
  refine SB.mul ⟨?_, fun h _ => ?_, fun _ _ => ?_⟩ fun t' k => ⟨.str (Txt.mul ⟨#[c]⟩ (n : Int)), H, I.tok _, ⟨_, rfl⟩, by rw [mul_one]; exact q⟩
  · rw [decide_eq_false (by omega), decide_eq_false (by omega)]
    rfl
  · have h2 : (1 : Int) ≤ (2 ^ 63 - 1) / (n : Int) := (Int.le_ediv_iff_mul_le (by omega)).mpr (by omega)
    show ¬ ((1 : Int) > _)
    omega
  · show Builtin.Str.tooLong (1 * ((n : Int)).toNat) = false
    unfold Builtin.Str.tooLong
    exact decide_eq_false (by rw [Int.toNat_natCast, sizeLine_eq]; omega)
theorem tuple_mul1 (l : Addr) (items : Array Value) (n : Nat) (dd : Option Addr) (sl : Array (Option Value)) (u : Tok) :
    Meets (Builtin.«tuple.__mul__» ⟨[.ref l, .int 1 u], []⟩) (fun _ R s => s.heap.get? l = some { cls := .type "tuple", dict := dd, data := .seq items n, slots := sl } ∧ R (.ok (.ret (Value.ref l))) s) :=
  .of_wp fun prog w A R s h => by
    obtain ⟨hp, g, d, tk, os⟩ := s
    obtain ⟨hl, h⟩ := h
    have f1 := AutoSeq1.idx_int
    wp_walk using wpAny_loadPart' hl
    exact ⟨_, rfl, h⟩
/-- (v,) * k -/
def rRepS (K : PySem.W.Frag) : R2 := fun x y H Q => ∃ (l : Addr) (k : Nat) (v : V), x = .ref l ∧ y = .int (k : Int) ∧ SqT K H l [v] ∧ 1 ≤ k ∧ k ≤ 1000 ∧ ∀ p H', Same H H' → SqT K H' p (List.replicate k v) → Q (.ref p) H'
theorem flat_one {α : Type} (v : α) : ∀ k : Nat, (List.replicate k [v]).flatten = List.replicate k v
  | 0 => rfl
  | k + 1 => by
    rw [List.replicate_succ, List.flatten_cons, flat_one v k]
    rfl
theorem op_repS : OpR X (binaryOp .Mult) (rRepS X.K) := by
  rintro pins s σ H x y v u Q I rx ry ⟨l, k, w, rfl, rfl, hT, h1, h2, q⟩
  by_cases hk : k = 1
  · subst hk
    cases rx
    obtain ⟨t, rfl⟩ := ry
    obtain ⟨its, r, ⟨⟨cls, dd, data, sl⟩, ho, hc, n, hd⟩, hs⟩ := I.tuple hT
    simp only at hc hd
    subst hc hd
    exact wpAny_binaryOp_repeat_ref (T := "tuple") (U := "int") (by decide) ⟨_, ho, rfl⟩ (fun s' => typeIs_int s' 1 t) noFill_tuple_mul F.fills_int_mul F.slot_int_rmul repeat_tuple F.slot_int_index.lookup
      (call_meets F.slot_int_rmul (typeIs_int s 1 t) F.entry_int_rmul (F.args_int_rmul_2 _ _) (int_rmul_tuple 1 t l its.toArray n dd sl)
        ⟨ho, rfl, ⟨_, ho, rfl⟩, call_meets F.slot_tuple_mul ⟨_, ho, rfl⟩ F.entry_tuple_mul (F.args_tuple_mul_2 _ _) (tuple_mul1 l its.toArray n dd sl t) ⟨ho, ⟨.ref l, H, I, rfl, q l H (Same.refl H) hT⟩⟩⟩)
  · refine op_repT pins s σ H _ _ v u Q I rx ry ⟨l, (k : Int), _, rfl, rfl, hT, by simp, by omega, by omega, (by show 1 ≤ 1000; decide), fun p hp => ?_⟩
    rw [Int.toNat_natCast, flat_one]
    exact q p _ (same_new hp _) (SqT.of upd_same)
end
end EB
namespace GN
open PySem PySem.Spec PyProof.Rows L2
section
variable {X : Cx}
/-- x in (NAME, NAME), both texts of the module -/
theorem elt_in2 {sc : Scope} {x y1 y2 : Str} {Z1 Z2 : Str} {t1 t2 : Tok} {p1 p2 p3 p4 p5 : Pos} {j : Nat} (hk : sc.kind = .function) (hx : sc.names.lookup x = some .local) (hy1 : sc.names.lookup y1 = some .globalImplicit) (hy2 : sc.names.lookup y2 = some .globalImplicit)
    (hm1 : X.mg y1 = some (.str Z1 t1)) (hm2 : X.mg y2 = some (.str Z2 t2)) (d0 : (x == ("__debug__" : Str)) = false := by decide) (d1 : (y1 == ("__debug__" : Str)) = false := by decide) (d2 : (y2 == ("__debug__" : Str)) = false := by decide) :
    Elt X sc x (.Compare (.Name x p1) [.In] [.Tuple [.Name y1 p2, .Name y2 p3] j p4] p5) (fun c => inV (.str ⟨#[c]⟩) [.str Z1, .str Z2]) := by
  intro env B Ex c t s2 m2 hs hgl hG hn hm
  have glob : ∀ {y : Str} {Z : Str} {tz : Tok} {p : Pos} {A' : Around} {E' : Value → Shared → Prop} {Q : Value → Shared → Prop}, sc.names.lookup y = some .globalImplicit → X.mg y = some (.str Z tz) → (y == ("__debug__" : Str)) = false → Q (.str Z tz) s2 → wpAny (model X.prog X.w) A' (eval (.Name y p) env) Q E' s2 := fun a b e q =>
    Calls.Name_function_global (by rw [hs]; exact hk) (by show env.scope.names.lookup _ = _; rw [hs]; exact a) (Calls.loadGlobal_global (by rw [hgl]; exact hG) b q) e
  refine wpAny_Compare1 ?_
  refine wpAny_Name (wpAny_loadName_local (by rw [hs]; exact hk) (by show env.scope.names.lookup x = _; rw [hs]; exact hx) hn hm ?_) d0
  refine wpAny_Tuple_spliced ?_
  show wpAny _ _ (spliced ((false, eval (.Name y1 p2) env) :: (false, eval (.Name y2 p3) env) :: [])) _ _ s2
  refine Calls.spliced_cons (glob hy1 hm1 d1 (Calls.spliced_cons (glob hy2 hm2 d2 (Calls.spliced_nil ⟨(by show 2 ≤ sizeLine; decide), ?_⟩))))
  have r : Vals [V.str Z1, V.str Z2] [Value.str Z1 t1, Value.str Z2 t2] := .cons ⟨_, rfl⟩ (.cons ⟨_, rfl⟩ .nil)
  have fs : [V.str Z1, V.str Z2].all flatV = true := rfl
  refine SeqAt.in_tupleAt (eqU (V.str ⟨#[c]⟩)) ⟨_, Heap.get?_push_size _ rfl, rfl, _, rfl⟩ (fun w hw => mem_eqAt (x := V.str ⟨#[c]⟩) ⟨_, rfl⟩ rfl r fs w (by simpa using hw)) ⟨?_, ⟨_, _, rfl, fun b o e => Heap.get?_push_of_some _ e⟩⟩
  rw [show ([Value.str Z1 t1, Value.str Z2 t2] : List Value).toArray.any (eqU (V.str ⟨#[c]⟩)) = [Value.str Z1 t1, Value.str Z2 t2].any (eqU (V.str ⟨#[c]⟩)) by simp, any_eqU r fs]
  rfl
end
end GN

/-! Pictures, and lines painted on them. -/
namespace KD
open PySem L2 TL EB
abbrev Pic := List (List Nat)
abbrev sOf (l : List Nat) : Str := ⟨l.toArray⟩
def rowsV (p : Pic) : List V := p.map fun l => V.str (sOf l)
theorem tl_sOf (l : List Nat) : tl (sOf l) = l := tl_mk l
theorem sOf_len (l : List Nat) : (sOf l).length = l.length := by rw [len_tl, tl_sOf]
theorem sOf_app (a b : List Nat) : sOf a ++ sOf b = sOf (a ++ b) := ext_tl (by rw [tl_append, tl_sOf, tl_sOf, tl_sOf])
theorem s_hash : ("#" : Str) = sOf [35] := by decide +kernel
theorem s_dot : ("." : Str) = sOf [46] := by decide +kernel
theorem s_dash : ("-" : Str) = sOf [45] := by decide +kernel
theorem cutS_to (l : List Nat) (k : Nat) : cutS (sOf l) none (some ((k : Nat) : Int)) = sOf (l.take k) := by
  unfold cutS HT.sIx
  rw [sOf_len]
  simp only [List.drop_zero, Nat.sub_zero]
  rw [if_neg (by omega), Int.toNat_natCast]
  refine congrArg Str.mk (congrArg List.toArray ?_)
  show l.take (min k l.length) = l.take k
  rw [← List.take_eq_take_min]
theorem cutS_from (l : List Nat) (k : Nat) : cutS (sOf l) (some ((k : Nat) : Int)) none = sOf (l.drop k) := by
  unfold cutS HT.sIx
  rw [sOf_len]
  simp only
  rw [if_neg (by omega), Int.toNat_natCast]
  refine congrArg Str.mk (congrArg List.toArray ?_)
  show (l.drop (min k l.length)).take (l.length - min k l.length) = l.drop k
  by_cases h : k ≤ l.length
  · rw [Nat.min_eq_left h, List.take_of_length_le (by rw [List.length_drop]; exact Nat.le_refl _)]
  · rw [Nat.min_eq_right (by omega), List.drop_eq_nil_of_le (Nat.le_refl _), List.drop_eq_nil_of_le (by omega), List.take_nil]
/-- a picture of so many rows and columns, of any signs -/
structure Sized (h w : Nat) (p : Pic) : Prop where
  h1 : 1 ≤ h
  h2 : h ≤ 20
  w1 : 1 ≤ w
  w2 : w ≤ 20
  len : p.length = h
  row : ∀ l ∈ p, l.length = w
def pnt (h w : Nat) (p : Pic) (l : Nat) : Pic := if l < h then p.set l (List.replicate w 35) else p.map fun z => z.set (l - h) 46
def pnts (h w : Nat) (p : Pic) (ls : List Nat) : Pic := ls.foldl (pnt h w) p
theorem Sized.pnt {h w : Nat} {p : Pic} (s : Sized h w p) (l : Nat) : Sized h w (pnt h w p l) := by
  unfold KD.pnt
  split
  · refine ⟨s.h1, s.h2, s.w1, s.w2, by rw [List.length_set]; exact s.len, fun z hz => ?_⟩
    rcases List.mem_or_eq_of_mem_set hz with q | q
    · exact s.row z q
    · rw [q, List.length_replicate]
  · refine ⟨s.h1, s.h2, s.w1, s.w2, by rw [List.length_map]; exact s.len, fun z hz => ?_⟩
    obtain ⟨y, hy, rfl⟩ := List.mem_map.mp hz
    rw [List.length_set]
    exact s.row y hy
theorem Sized.pnts {h w : Nat} : ∀ {ls : List Nat} {p : Pic}, Sized h w p → Sized h w (pnts h w p ls)
  | [], _, s => s
  | l :: ls, _, s => Sized.pnts (ls := ls) (s.pnt l)
theorem rowsV_len (p : Pic) : (rowsV p).length = p.length := by unfold rowsV; rw [List.length_map]
theorem rowsV_get {p : Pic} {i : Nat} {v : V} (h : (rowsV p)[i]? = some v) : ∃ l, p[i]? = some l ∧ v = .str (sOf l) := by
  unfold rowsV at h
  rw [List.getElem?_map] at h
  cases q : p[i]? with
  | none => rw [q] at h; cases h
  | some y => rw [q] at h; exact ⟨y, rfl, (Option.some.inj h).symm⟩
theorem set_cut (p : Pic) (l : Nat) (x : List Nat) (h : l < p.length) : (rowsV p).take l ++ [V.str (sOf x)] ++ (rowsV p).drop (l + 1) = rowsV (p.set l x) := by
  unfold rowsV
  rw [List.map_set, List.set_eq_take_append_cons_drop, if_pos (by rw [List.length_map]; exact h), List.append_assoc]
  rfl
theorem set_row (z : List Nat) (c x : Nat) (h : c < z.length) : sOf (z.take c) ++ sOf [x] ++ sOf (z.drop (c + 1)) = sOf (z.set c x) := by
  rw [sOf_app, sOf_app, List.set_eq_take_append_cons_drop, if_pos h, List.append_assoc]
  rfl
def spLine (K : PySem.W.Frag) : Sp := fun vs H Q _ => ∃ (a : Addr) (p : Pic) (h w l : Nat), vs = [.ref a, .int (l : Int)] ∧ SqT K H a (rowsV p) ∧ Sized h w p ∧ l < h + w ∧ ∀ b H', Same H H' → SqT K H' b (rowsV (pnt h w p l)) → Q (.ref b) H'
def spLines (K : PySem.W.Frag) : Sp := fun vs H Q _ => ∃ (a b : Addr) (p : Pic) (h w : Nat) (ls : List Nat), vs = [.ref a, .ref b] ∧ SqT K H a (rowsV p) ∧ Sized h w p ∧ (SqL K H b (ls.map fun y : Nat => V.int (y : Int)) ∨ SqT K H b (ls.map fun y : Nat => V.int (y : Int))) ∧ (∀ l ∈ ls, l < h + w) ∧
  ∀ c H', Same H H' → SqT K H' c (rowsV (pnts h w p ls)) → Q (.ref c) H'
section
variable {P : Program} {w : World} {K : PySem.W.Frag} {mg : Str → Option Value} {base : Heap}
abbrev wlN : List Str := ["picture", "line", "rows", "column", "row"]
theorem scWl : FnScope wlN ["picture", "line"] (defScope S_with_line) := ⟨rfl, rfl, rfl, by decide +kernel, rfl, by decide +kernel, by decide +kernel⟩
theorem ok_line {f : Addr} {fd : FuncData} (F : Fun K "with_line" "with_line" S_with_line f fd) (T : Blt mg) (mB : ∃ t, mg "BLACK" = some (.str "#" t)) (mW : ∃ t, mg "WHITE" = some (.str "." t)) : FnOk P w K mg base CX0 1 f fd ["picture", "line"] (spLine K) := by
  refine F.ok scWl (fun vs H Q E h => ?_) (fun cdv A outer s0 H vs Q E hr hh => ?_)
  · obtain ⟨a, p, h, w, l, rfl, _⟩ := h
    rfl
  obtain ⟨a, p, h, w, l, rfl, hA, hs, hl, k⟩ := hh
  obtain ⟨tB, mB⟩ := mB
  obtain ⟨tW, mW⟩ := mW
  refine ⟨_, pss_cons (ps_set (i := 2) scWl.nd rfl (Or.inl rfl) (pe_callB call_len_seq (by rfl) T.len PySem.boot_len (pa_cons (pv 0) pa_nil)))
    (pss_cons (ps_if (pt_cmpR op_lt (pv 1) (pv 2) (nomark _))
      (pss_one (ps_ret (pe_op op_catS (pe_op op_catS (pe_slice sl_tupS (pv 0) po_none (po_some (pv 1))) (pe_tup (pa_cons (pe_op op_mulS (pe_glob (v := .str "#") rfl mB ⟨_, rfl⟩) (pe_callB call_len_str (by rfl) T.len PySem.boot_len (pa_cons (pe_ix ix_tup (pv 0) pe_int (fun _ _ => rfl)) pa_nil))) pa_nil)))
        (pe_slice sl_tupS (pv 0) (po_some (pe_op op_add (pv 1) pe_int)) po_none)))) pss_nil)
    (pss_cons (ps_set (i := 3) scWl.nd rfl (Or.inr rfl) (pe_op op_sub (pv 1) (pv 2)))
    (pss_one (ps_ret (pe_callTy call_tuple_of (by rfl) T.tup (by decide +kernel) (pa_cons (pe_lc (own := [("row", 4)]) (g := gName 4) rfl scWl.nd (pi_tup (pv 0))
      (blkOk_by (own := [("row", 4)]) (N := wlN) (sc := defScope S_with_line) (by decide +kernel)) (fun _ _ _ _ _ => pg_name (i := 4) scWl.nd rfl (Or.inl rfl)) (fun _ _ _ _ _ => pts_nil)
      (fun _ _ _ _ _ => pe_op op_add_str (pe_op op_add_str (pe_slice sl_str (pv 4) po_none (po_some (pv 3))) (pe_glob (v := .str ".") rfl mW ⟨_, rfl⟩)) (pe_slice sl_str (pv 4) (po_some (pe_op op_add (pv 3) pe_int)) po_none))) pa_nil)))))), ?_⟩
  refine ⟨_, rfl, a, _, rfl, .inr hA, ?_⟩
  rw [rowsV_len, hs.len]
  refine ⟨_, rfl, _, rfl, _, _, rfl, rfl, _, rfl, ?_⟩
  have hl0 : 0 < p.length := by rw [hs.len]; exact hs.h1
  obtain ⟨z0, e0⟩ : ∃ z0, p[0]? = some z0 := ⟨_, List.getElem?_eq_getElem hl0⟩
  have w0 : z0.length = w := hs.row z0 (List.mem_of_getElem? e0)
  have r0 : atI (rowsV p) 0 = some (.str (sOf z0)) := by
    refine atI_nat (j := 0) ?_
    unfold rowsV
    rw [List.getElem?_map, e0]
    rfl
  have lz : ∀ {z : List Nat}, z.length ≤ 20 → (sOf z).length ≤ sizeLine := fun h => by rw [sOf_len]; exact Nat.le_trans h (by decide)
  have h20 := hs.h2
  have w20 := hs.w2
  by_cases hlt : l < h
  · rw [decide_eq_true (by omega : (l : Int) < (h : Int))]
    refine iteT ?_
    refine ⟨_, rfl, _, rfl, _, rfl, a, _, rfl, hA, fun p1 H1 s1 h1 => ?_⟩
    rw [cut_to] at h1
    refine ⟨_, rfl, a, _, _, _, rfl, rfl, KT.same s1 _ _ hA, r0, _, rfl, lz (by omega), 35, w, by rw [s_hash], by rw [sOf_len, w0], by omega, (by show 1 ≤ sizeLine; decide), fun p2 n2 => ?_⟩
    have s2 := same_new n2 (.tup [.str ⟨(List.replicate w 35).toArray⟩])
    refine ⟨p1, p2, _, _, rfl, rfl, KT.same s2 _ _ h1, SqT.of upd_same, ?_, fun p3 H3 s3 h3 => ?_⟩
    · rw [List.length_take, rowsV_len, hs.len]
      show min l h + 1 ≤ 1000
      omega
    have sA := (s1.trans s2).trans s3
    refine ⟨_, rfl, _, rfl, _, _, rfl, rfl, _, rfl, a, _, rfl, KT.same sA _ _ hA, fun p4 H4 s4 h4 => ?_⟩
    rw [show (l : Int) + 1 = ((l + 1 : Nat) : Int) by omega, cut_from] at h4
    refine ⟨p3, p4, _, _, rfl, rfl, KT.same s4 _ _ h3, h4, ?_, fun p5 H5 s5 h5 => ?_⟩
    · rw [List.length_append, List.length_take, List.length_drop, rowsV_len, hs.len]
      show min l h + 1 + (h - (l + 1)) ≤ 1000
      omega
    refine k p5 H5 ((sA.trans s4).trans s5) ?_
    rw [set_cut p l (List.replicate w 35) (by rw [hs.len]; exact hlt)] at h5
    unfold pnt
    rw [if_pos hlt]
    exact h5
  · rw [decide_eq_false (by omega : ¬ (l : Int) < (h : Int))]
    refine iteF ?_
    refine ⟨_, rfl, _, rfl, _, _, rfl, rfl, ?_⟩
    have ec : (l : Int) - (h : Int) = ((l - h : Nat) : Int) := by omega
    refine ⟨_, rfl, a, rfl, ⟨_, hA⟩, fun D nD => ?_⟩
    refine lc_tup (a := a) (xs := rowsV p) (fun i H' => ∃ acc : Pic, H' D = some (.lst (rowsV acc)) ∧ acc = (p.take i).map (fun z => z.set (l - h) 46) ∧ Same H H') ⟨[], upd_same, rfl, same_new nD _⟩ (fun i H' _ ⟨_, _, _, s⟩ => KT.same s _ _ hA) ?_ ?_
    · rintro i v H1 hi ⟨acc, hD, ea, s1⟩
      obtain ⟨z, hz, rfl⟩ := rowsV_get hi
      have hzw := hs.row z (List.mem_of_getElem? hz)
      refine ⟨rfl, ?_⟩
      unfold tYes
      refine iteT ?_
      refine ⟨_, rfl, _, rfl, _, rfl, sOf z, rfl, lz (by omega), ?_⟩
      rw [ec, cutS_to]
      refine ⟨_, _, rfl, rfl, ?_, _, rfl, _, rfl, _, _, rfl, rfl, _, rfl, sOf z, rfl, lz (by omega), ?_⟩
      · rw [sOf_len, List.length_take, s_dot, sOf_len]
        exact Nat.le_trans (by show min (l - h) z.length + 1 ≤ 21; omega) (by decide)
      show ∃ (i j : Str), _
      rw [show (l : Int) - (h : Int) + 1 = ((l - h + 1 : Nat) : Int) by omega, cutS_from]
      refine ⟨_, _, rfl, rfl, ?_, acc.map (fun l => V.str (sOf l)), hD, ?_, acc ++ [z.set (l - h) 46], ?_, ?_, ?_⟩
      · rw [s_dot, sOf_app, sOf_len, sOf_len, List.length_append, List.length_take, List.length_drop]
        exact Nat.le_trans (by show min (l - h) z.length + 1 + (z.length - (l - h + 1)) ≤ 41; omega) (by decide)
      · rw [List.length_map, ea, List.length_map, List.length_take, hs.len]
        exact Nat.lt_of_le_of_lt (by omega : min i h ≤ 20) (by decide)
      · rw [s_dot, set_row z (l - h) 46 (by omega)]
        unfold rowsV
        rw [List.map_append]
        exact upd_same
      · rw [List.take_succ, hz, List.map_append, ea]
        rfl
      · intro b o q
        rw [upd_ne (ne_of_none q nD)]
        exact s1 _ _ q
    · rintro H1 ⟨acc, hD, ea, s1⟩
      rw [rowsV_len, List.take_length] at ea
      refine ⟨D, _, rfl, .inl ⟨SqL.of hD, fun t ht => ?_⟩⟩
      refine k t _ (s1.trans (same_new ht _)) (SqT.of ?_)
      unfold pnt
      rw [if_neg hlt, ← ea]
      exact upd_same
end
end KD

/-! Orders that look and paint: cell, row_line, column_line. -/
namespace KD
open PySem L2 TL
def cellP (p : Pic) (r c : Int) : Int := if (p.getD (r - 1).toNat []).getD (c - 1).toNat 0 = 35 then 1 else 0
def spCell (K : PySem.W.Frag) (CE : Addr) : Sp := fun vs H Q E => ∃ (a : Addr) (p : Pic) (h w : Nat) (r c : Int), vs = [.ref a, .int r, .int c] ∧ SqT K H a (rowsV p) ∧ Sized h w p ∧
  ((1 ≤ r ∧ r ≤ h ∧ 1 ≤ c ∧ c ≤ w) → Q (.int (cellP p r c)) H) ∧ (¬ (1 ≤ r ∧ r ≤ h ∧ 1 ≤ c ∧ c ≤ w) → rz CE "range" H E)
def spRowL (K : PySem.W.Frag) (CE : Addr) : Sp := fun vs H Q E => ∃ (a : Addr) (p : Pic) (h w : Nat) (r : Int), vs = [.ref a, .int r] ∧ SqT K H a (rowsV p) ∧ Sized h w p ∧
  ((1 ≤ r ∧ r ≤ h) → Q (.int (r - 1)) H) ∧ (¬ (1 ≤ r ∧ r ≤ h) → rz CE "range" H E)
def spColL (K : PySem.W.Frag) (CE : Addr) : Sp := fun vs H Q E => ∃ (a : Addr) (p : Pic) (h w : Nat) (c : Int), vs = [.ref a, .int c] ∧ SqT K H a (rowsV p) ∧ Sized h w p ∧
  ((1 ≤ c ∧ c ≤ w) → Q (.int (h + c - 1)) H) ∧ (¬ (1 ≤ c ∧ c ≤ w) → rz CE "range" H E)
section
variable {P : Program} {w : World} {K : PySem.W.Frag} {mg : Str → Option Value} {base : Heap}
theorem sc_rowl : FnScope ["picture", "row"] ["picture", "row"] (defScope S_row_line) := ⟨rfl, rfl, rfl, by decide +kernel, rfl, by decide +kernel, by decide +kernel⟩
theorem ok_rowl {f CE fI : Addr} {fd fdI : FuncData} (F : Fun K "row_line" "row_line" S_row_line f fd) (TE : EnT K mg CE fI fdI) (T : Blt mg) : FnOk P w K mg base (L2.CX P w) 3 f fd ["picture", "row"] (spRowL K CE) := by
  refine F.okX sc_rowl (fun vs H Q E h => ?_) (fun cdv A outer s0 H vs Q E hr h => ?_)
  · obtain ⟨a, p, h, w, r, rfl, _⟩ := h
    rfl
  obtain ⟨a, p, h, w, r, rfl, hp, sz, k1, k2⟩ := h
  refine ⟨_, pss_cons (ps_if (pt_not (pt_chain op_le op_le pe_int (pv 1) (pe_callB call_len_seq (by rfl) T.len PySem.boot_len (pa_cons (pv 0) pa_nil)))) (pss_one (ps_ended TE rfl hr (takes_of rfl rfl rfl rfl) (by rfl))) pss_nil)
    (pss_one (ps_ret (pe_op op_sub (pv 1) pe_int))), ?_⟩
  have el : (rowsV p).length = h := by rw [rowsV_len, sz.len]
  refine ⟨_, rfl, _, _, rfl, rfl, _, rfl, ?_⟩
  refine ite2 (fun c1 => ?_) (fun c1 => ?_)
  · rw [decide_eq_true_iff] at c1
    refine ⟨_, rfl, a, _, rfl, .inr hp, _, _, rfl, rfl, _, rfl, ?_⟩
    rw [el]
    by_cases c2 : r ≤ (h : Int)
    · rw [decide_eq_true c2]
      exact iteF ⟨_, rfl, _, _, rfl, rfl, k1 ⟨c1, c2⟩⟩
    · rw [decide_eq_false c2]
      exact iteT (k2 fun z => c2 z.2)
  · rw [decide_eq_true_iff] at c1
    exact ⟨_, rfl, iteT (k2 fun z => c1 z.1)⟩
theorem sc_coll : FnScope ["picture", "column"] ["picture", "column"] (defScope S_column_line) := ⟨rfl, rfl, rfl, by decide +kernel, rfl, by decide +kernel, by decide +kernel⟩
theorem ok_coll {f CE fI : Addr} {fd fdI : FuncData} (F : Fun K "column_line" "column_line" S_column_line f fd) (TE : EnT K mg CE fI fdI) (T : Blt mg) : FnOk P w K mg base (L2.CX P w) 3 f fd ["picture", "column"] (spColL K CE) := by
  refine F.okX sc_coll (fun vs H Q E h => ?_) (fun cdv A outer s0 H vs Q E hr h => ?_)
  · obtain ⟨a, p, h, w, r, rfl, _⟩ := h
    rfl
  obtain ⟨a, p, h, w, c, rfl, hp, sz, k1, k2⟩ := h
  refine ⟨_, pss_cons (ps_if (pt_not (pt_chain op_le op_le pe_int (pv 1) (pe_callB call_len_str (by rfl) T.len PySem.boot_len (pa_cons (pe_ix ix_tup (pv 0) pe_int (fun _ _ => rfl)) pa_nil)))) (pss_one (ps_ended TE rfl hr (takes_of rfl rfl rfl rfl) (by rfl))) pss_nil)
    (pss_one (ps_ret (pe_op op_sub (pe_op op_add (pe_callB call_len_seq (by rfl) T.len PySem.boot_len (pa_cons (pv 0) pa_nil)) (pv 1)) pe_int))), ?_⟩
  have el : (rowsV p).length = h := by rw [rowsV_len, sz.len]
  obtain ⟨l0, h0, e0⟩ : ∃ l0, atI (rowsV p) 0 = some (.str (sOf l0)) ∧ l0.length = w := by
    have pos : 0 < p.length := by rw [sz.len]; exact sz.h1
    refine ⟨p[0], atI_nat (j := 0) ?_, sz.row _ (List.getElem_mem pos)⟩
    unfold rowsV
    rw [List.getElem?_map, List.getElem?_eq_getElem pos]
    rfl
  refine ⟨_, rfl, _, _, rfl, rfl, _, rfl, ?_⟩
  refine ite2 (fun c1 => ?_) (fun c1 => ?_)
  · rw [decide_eq_true_iff] at c1
    refine ⟨_, rfl, a, _, _, _, rfl, rfl, hp, h0, _, rfl, by rw [sOf_len, e0]; exact Nat.le_trans sz.w2 (by decide), _, _, rfl, rfl, _, rfl, ?_⟩
    rw [sOf_len, e0]
    by_cases c2 : c ≤ (w : Int)
    · rw [decide_eq_true c2]
      refine iteF ⟨_, rfl, a, _, rfl, .inr hp, _, rfl, _, _, rfl, rfl, _, _, rfl, rfl, ?_⟩
      rw [el]
      exact k1 ⟨c1, c2⟩
    · rw [decide_eq_false c2]
      exact iteT (k2 fun z => c2 z.2)
  · rw [decide_eq_true_iff] at c1
    exact ⟨_, rfl, iteT (k2 fun z => c1 z.1)⟩
theorem sc_cell : FnScope ["picture", "row", "column"] ["picture", "row", "column"] (defScope S_cell) := ⟨rfl, rfl, rfl, by decide +kernel, rfl, by decide +kernel, by decide +kernel⟩
theorem ok_cell {f CE fI : Addr} {fd fdI : FuncData} (F : Fun K "cell" "cell" S_cell f fd) (TE : EnT K mg CE fI fdI) (T : Blt mg) (mB : ∃ t, mg "BLACK" = some (.str "#" t)) : FnOk P w K mg base (L2.CX P w) 3 f fd ["picture", "row", "column"] (spCell K CE) := by
  refine F.okX sc_cell (fun vs H Q E h => ?_) (fun cdv A outer s0 H vs Q E hr h => ?_)
  · obtain ⟨a, p, h, w, r, c, rfl, _⟩ := h
    rfl
  obtain ⟨a, p, h, w, r, c, rfl, hp, sz, k1, k2⟩ := h
  obtain ⟨tB, mB⟩ := mB
  refine ⟨_, pss_cons (ps_if (PW.pt (pw_or (pt_not (pt_chain op_le op_le pe_int (pv 1) (pe_callB call_len_seq (by rfl) T.len PySem.boot_len (pa_cons (pv 0) pa_nil)))) (pw_or1 (pt_not (pt_chain op_le op_le pe_int (pv 2) (pe_callB call_len_str (by rfl) T.len PySem.boot_len (pa_cons (pe_ix ix_tup (pv 0) pe_int (fun _ _ => rfl)) pa_nil))))))) (pss_one (ps_ended TE rfl hr (takes_of rfl rfl rfl rfl) (by rfl))) pss_nil)
    (pss_one (ps_ret (pe_callTy call_int1 (by rfl) T.int (by decide +kernel) (pa_cons (pe_cmpR op_eq (pe_ix ix_str (pe_ix ix_tup (pv 0) (pe_op op_sub (pv 1) pe_int) (fun _ _ => rfl)) (pe_op op_sub (pv 2) pe_int) (fun _ _ => rfl)) (pe_glob (v := .str "#") rfl mB ⟨_, rfl⟩) (nomark _)) pa_nil)))), ?_⟩
  have el : (rowsV p).length = h := by rw [rowsV_len, sz.len]
  obtain ⟨l0, h0, e0⟩ : ∃ l0, atI (rowsV p) 0 = some (.str (sOf l0)) ∧ l0.length = w := by
    have pos : 0 < p.length := by rw [sz.len]; exact sz.h1
    refine ⟨p[0], atI_nat (j := 0) ?_, sz.row _ (List.getElem_mem pos)⟩
    unfold rowsV
    rw [List.getElem?_map, List.getElem?_eq_getElem pos]
    rfl
  by_cases c1 : 1 ≤ r
  · by_cases c2 : r ≤ (h : Int)
    · by_cases c3 : 1 ≤ c
      · by_cases c4 : c ≤ (w : Int)
        · refine ⟨_, rfl, _, _, rfl, rfl, _, rfl, ?_⟩
          rw [decide_eq_true c1]
          refine iteT ⟨_, rfl, a, _, rfl, .inr hp, _, _, rfl, rfl, _, rfl, ?_⟩
          rw [el, decide_eq_true c2]
          refine iteF ⟨_, rfl, _, _, rfl, rfl, _, rfl, ?_⟩
          rw [decide_eq_true c3]
          refine iteT ⟨_, rfl, a, _, _, _, rfl, rfl, hp, h0, _, rfl, by rw [sOf_len, e0]; exact Nat.le_trans sz.w2 (by decide), _, _, rfl, rfl, _, rfl, ?_⟩
          rw [sOf_len, e0, decide_eq_true c4]
          refine iteF ?_
          obtain ⟨ri, er⟩ : ∃ ri : Nat, r - 1 = (ri : Int) := ⟨(r - 1).toNat, by omega⟩
          obtain ⟨ci, ec⟩ : ∃ ci : Nat, c - 1 = (ci : Int) := ⟨(c - 1).toNat, by omega⟩
          obtain ⟨l, hl⟩ : ∃ l, p[ri]? = some l := ⟨_, List.getElem?_eq_getElem (by rw [sz.len]; omega)⟩
          have ll : l.length = w := sz.row l (List.mem_of_getElem? hl)
          obtain ⟨ch, hch⟩ : ∃ ch, l[ci]? = some ch := ⟨_, List.getElem?_eq_getElem (by rw [ll]; omega)⟩
          have a1 : atI (rowsV p) (r - 1) = some (.str (sOf l)) := by
            rw [er]
            refine atI_nat ?_
            unfold rowsV
            rw [List.getElem?_map, hl]
            rfl
          have a2 : atI (sOf l).cps.toList (c - 1) = some ch := by
            rw [ec]
            exact atI_nat hch
          have ev : cellP p r c = if ch = 35 then 1 else 0 := by
            unfold cellP
            rw [er, ec, Int.toNat_natCast, Int.toNat_natCast, List.getD_eq_getElem?_getD, List.getD_eq_getElem?_getD, hl]
            show (if (l[ci]?).getD 0 = 35 then (1 : Int) else 0) = _
            rw [hch]
            rfl
          refine ⟨_, rfl, _, rfl, _, _, rfl, rfl, a, _, _, _, rfl, rfl, hp, a1, _, rfl, _, _, rfl, rfl, sOf l, _, ch, rfl, rfl, by rw [sOf_len, ll]; exact Nat.le_trans sz.w2 (by decide), a2, rfl, .inr ⟨_, rfl, ?_⟩⟩
          have k := k1 ⟨c1, c2, c3, c4⟩
          rw [ev] at k
          have e : (if decide (V.str ⟨#[ch]⟩ = V.str "#") = true then (1 : Int) else 0) = if ch = 35 then 1 else 0 := by
            have d : decide (V.str ⟨#[ch]⟩ = V.str "#") = decide (ch = 35) := by
              rw [Bool.eq_iff_iff, decide_eq_true_iff, decide_eq_true_iff, show ("#" : Str) = ⟨#[35]⟩ by decide +kernel]
              constructor
              · intro z
                have z2 := V.str.inj z
                injection z2 with z3
                have z4 := congrArg Array.toList z3
                injection z4
              · intro z
                rw [z]
            rw [d]
            by_cases q : ch = 35 <;> simp [q]
          show Q (V.int (if decide (V.str ⟨#[ch]⟩ = V.str "#") = true then 1 else 0)) H
          rw [e]
          exact k
        · refine ⟨_, rfl, _, _, rfl, rfl, _, rfl, ?_⟩
          rw [decide_eq_true c1]
          refine iteT ⟨_, rfl, a, _, rfl, .inr hp, _, _, rfl, rfl, _, rfl, ?_⟩
          rw [el, decide_eq_true c2]
          refine iteF ⟨_, rfl, _, _, rfl, rfl, _, rfl, ?_⟩
          rw [decide_eq_true c3]
          refine iteT ⟨_, rfl, a, _, _, _, rfl, rfl, hp, h0, _, rfl, by rw [sOf_len, e0]; exact Nat.le_trans sz.w2 (by decide), _, _, rfl, rfl, _, rfl, ?_⟩
          rw [sOf_len, e0, decide_eq_false c4]
          exact iteT (k2 fun z => c4 z.2.2.2)
      · refine ⟨_, rfl, _, _, rfl, rfl, _, rfl, ?_⟩
        rw [decide_eq_true c1]
        refine iteT ⟨_, rfl, a, _, rfl, .inr hp, _, _, rfl, rfl, _, rfl, ?_⟩
        rw [el, decide_eq_true c2]
        refine iteF ⟨_, rfl, _, _, rfl, rfl, _, rfl, ?_⟩
        rw [decide_eq_false c3]
        exact iteF ⟨_, rfl, iteT (k2 fun z => c3 z.2.2.1)⟩
    · refine ⟨_, rfl, _, _, rfl, rfl, _, rfl, ?_⟩
      rw [decide_eq_true c1]
      refine iteT ⟨_, rfl, a, _, rfl, .inr hp, _, _, rfl, rfl, _, rfl, ?_⟩
      rw [el, decide_eq_false c2]
      exact iteT (k2 fun z => c2 z.2.1)
  · refine ⟨_, rfl, _, _, rfl, rfl, _, rfl, ?_⟩
    rw [decide_eq_false c1]
    exact iteF ⟨_, rfl, iteT (k2 fun z => c1 z.1)⟩
end
end KD

/-! Lines painted one behind another; the law's own. -/
namespace KD
open PySem L2 TL EB
section
variable {P : Program} {w : World} {K : PySem.W.Frag} {mg : Str → Option Value} {base : Heap}
abbrev wsN : List Str := ["picture", "lines", "line"]
theorem nat_get {l : List Nat} {i : Nat} {v : V} (h : (l.map fun y : Nat => V.int (y : Int))[i]? = some v) : ∃ y, l[i]? = some y ∧ v = .int (y : Int) := by
  rw [List.getElem?_map] at h
  cases q : l[i]? with
  | none => rw [q] at h; cases h
  | some y => rw [q] at h; exact ⟨y, rfl, (Option.some.inj h).symm⟩
theorem pnts_snoc {h w : Nat} {p : Pic} {ls : List Nat} {i l : Nat} (q : ls[i]? = some l) : pnts h w p (ls.take (i + 1)) = pnt h w (pnts h w p (ls.take i)) l := by
  unfold pnts
  rw [List.take_succ, q, List.foldl_append]
  rfl
abbrev stN : List Str := ["picture", "line", "at", "told"]
theorem scSt : FnScope stN ["picture", "line"] (defScope S__law_stroke) := ⟨rfl, rfl, rfl, by decide +kernel, rfl, by decide +kernel, by decide +kernel⟩
theorem ok_stroke {f : Addr} {fd : FuncData} (F : Fun K "_law_stroke" "_law_stroke" S__law_stroke f fd) (T : Blt mg) : FnOk P w K mg base CX0 1 f fd ["picture", "line"] (spLine K) := by
  refine F.ok scSt (fun vs H Q E h => ?_) (fun cdv A outer s0 H vs Q E hr hh => ?_)
  · obtain ⟨a, p, h, w, l, rfl, _⟩ := h
    rfl
  obtain ⟨a, p, h, w, l, rfl, hA, hs, hl, k⟩ := hh
  refine ⟨_, pss_cons (ps_if (pt_cmpR op_lt (pv 1) (pe_callB call_len_seq (by rfl) T.len PySem.boot_len (pa_cons (pv 0) pa_nil)) (nomark _))
      (pss_one (ps_ret (pe_op op_catS (pe_op op_catS (pe_slice sl_tupS (pv 0) po_none (po_some (pv 1))) (pe_tup (pa_cons (pe_op op_mulS pe_str (pe_callB call_len_str (by rfl) T.len PySem.boot_len (pa_cons (pe_ix ix_tup (pv 0) pe_int (fun _ _ => rfl)) pa_nil))) pa_nil)))
        (pe_slice sl_tupS (pv 0) (po_some (pe_op op_add (pv 1) pe_int)) po_none)))) pss_nil)
    (pss_cons (ps_set (i := 2) scSt.nd rfl (Or.inr rfl) (pe_op op_sub (pv 1) (pe_callB call_len_seq (by rfl) T.len PySem.boot_len (pa_cons (pv 0) pa_nil))))
    (pss_one (ps_ret (pe_callTy call_tuple_of (by rfl) T.tup (by decide +kernel) (pa_cons (pe_lc (own := [("told", 3)]) (g := gName 3) rfl scSt.nd (pi_tup (pv 0))
      (blkOk_by (own := [("told", 3)]) (N := stN) (sc := defScope S__law_stroke) (by decide +kernel)) (fun _ _ _ _ _ => pg_name (i := 3) scSt.nd rfl (Or.inl rfl)) (fun _ _ _ _ _ => pts_nil)
      (fun _ _ _ _ _ => pe_op op_add_str (pe_op op_add_str (pe_slice sl_str (pv 3) po_none (po_some (pv 2))) pe_str) (pe_slice sl_str (pv 3) (po_some (pe_op op_add (pv 2) pe_int)) po_none))) pa_nil))))), ?_⟩
  refine ⟨_, rfl, _, rfl, a, _, rfl, .inr hA, ?_⟩
  rw [rowsV_len, hs.len]
  refine ⟨_, _, rfl, rfl, _, rfl, ?_⟩
  have hl0 : 0 < p.length := by rw [hs.len]; exact hs.h1
  obtain ⟨z0, e0⟩ : ∃ z0, p[0]? = some z0 := ⟨_, List.getElem?_eq_getElem hl0⟩
  have w0 : z0.length = w := hs.row z0 (List.mem_of_getElem? e0)
  have r0 : atI (rowsV p) 0 = some (.str (sOf z0)) := by
    refine atI_nat (j := 0) ?_
    unfold rowsV
    rw [List.getElem?_map, e0]
    rfl
  have lz : ∀ {z : List Nat}, z.length ≤ 20 → (sOf z).length ≤ sizeLine := fun h => by rw [sOf_len]; exact Nat.le_trans h (by decide)
  have h20 := hs.h2
  have w20 := hs.w2
  by_cases hlt : l < h
  · rw [decide_eq_true (by omega : (l : Int) < (h : Int))]
    refine iteT ?_
    refine ⟨_, rfl, _, rfl, _, rfl, a, _, rfl, hA, fun p1 H1 s1 h1 => ?_⟩
    rw [cut_to] at h1
    refine ⟨_, rfl, a, _, _, _, rfl, rfl, KT.same s1 _ _ hA, r0, _, rfl, lz (by omega), 35, w, by rw [s_hash], by rw [sOf_len, w0], by omega, (by show 1 ≤ sizeLine; decide), fun p2 n2 => ?_⟩
    have s2 := same_new n2 (.tup [.str ⟨(List.replicate w 35).toArray⟩])
    refine ⟨p1, p2, _, _, rfl, rfl, KT.same s2 _ _ h1, SqT.of upd_same, ?_, fun p3 H3 s3 h3 => ?_⟩
    · rw [List.length_take, rowsV_len, hs.len]
      show min l h + 1 ≤ 1000
      omega
    have sA := (s1.trans s2).trans s3
    refine ⟨_, rfl, _, rfl, _, _, rfl, rfl, _, rfl, a, _, rfl, KT.same sA _ _ hA, fun p4 H4 s4 h4 => ?_⟩
    rw [show (l : Int) + 1 = ((l + 1 : Nat) : Int) by omega, cut_from] at h4
    refine ⟨p3, p4, _, _, rfl, rfl, KT.same s4 _ _ h3, h4, ?_, fun p5 H5 s5 h5 => ?_⟩
    · rw [List.length_append, List.length_take, List.length_drop, rowsV_len, hs.len]
      show min l h + 1 + (h - (l + 1)) ≤ 1000
      omega
    refine k p5 H5 ((sA.trans s4).trans s5) ?_
    rw [set_cut p l (List.replicate w 35) (by rw [hs.len]; exact hlt)] at h5
    unfold pnt
    rw [if_pos hlt]
    exact h5
  · rw [decide_eq_false (by omega : ¬ (l : Int) < (h : Int))]
    refine iteF ?_
    refine ⟨_, rfl, _, rfl, a, _, rfl, .inr hA, ?_⟩
    rw [rowsV_len, hs.len]
    refine ⟨_, _, rfl, rfl, ?_⟩
    have ec : (l : Int) - (h : Int) = ((l - h : Nat) : Int) := by omega
    refine ⟨_, rfl, a, rfl, ⟨_, hA⟩, fun D nD => ?_⟩
    refine lc_tup (a := a) (xs := rowsV p) (fun i H' => ∃ acc : Pic, H' D = some (.lst (rowsV acc)) ∧ acc = (p.take i).map (fun z => z.set (l - h) 46) ∧ Same H H') ⟨[], upd_same, rfl, same_new nD _⟩ (fun i H' _ ⟨_, _, _, s⟩ => KT.same s _ _ hA) ?_ ?_
    · rintro i v H1 hi ⟨acc, hD, ea, s1⟩
      obtain ⟨z, hz, rfl⟩ := rowsV_get hi
      have hzw := hs.row z (List.mem_of_getElem? hz)
      refine ⟨rfl, ?_⟩
      unfold tYes
      refine iteT ?_
      refine ⟨_, rfl, _, rfl, _, rfl, sOf z, rfl, lz (by omega), ?_⟩
      rw [ec, cutS_to]
      refine ⟨_, _, rfl, rfl, ?_, _, rfl, _, rfl, _, _, rfl, rfl, _, rfl, sOf z, rfl, lz (by omega), ?_⟩
      · rw [sOf_len, List.length_take, s_dot, sOf_len]
        exact Nat.le_trans (by show min (l - h) z.length + 1 ≤ 21; omega) (by decide)
      show ∃ (i j : Str), _
      rw [show (l : Int) - (h : Int) + 1 = ((l - h + 1 : Nat) : Int) by omega, cutS_from]
      refine ⟨_, _, rfl, rfl, ?_, acc.map (fun l => V.str (sOf l)), hD, ?_, acc ++ [z.set (l - h) 46], ?_, ?_, ?_⟩
      · rw [s_dot, sOf_app, sOf_len, sOf_len, List.length_append, List.length_take, List.length_drop]
        exact Nat.le_trans (by show min (l - h) z.length + 1 + (z.length - (l - h + 1)) ≤ 41; omega) (by decide)
      · rw [List.length_map, ea, List.length_map, List.length_take, hs.len]
        exact Nat.lt_of_le_of_lt (by omega : min i h ≤ 20) (by decide)
      · rw [s_dot, set_row z (l - h) 46 (by omega)]
        unfold rowsV
        rw [List.map_append]
        exact upd_same
      · rw [List.take_succ, hz, List.map_append, ea]
        rfl
      · intro b o q
        rw [upd_ne (ne_of_none q nD)]
        exact s1 _ _ q
    · rintro H1 ⟨acc, hD, ea, s1⟩
      rw [rowsV_len, List.take_length] at ea
      refine ⟨D, _, rfl, .inl ⟨SqL.of hD, fun t ht => ?_⟩⟩
      refine k t _ (s1.trans (same_new ht _)) (SqT.of ?_)
      unfold pnt
      rw [if_neg hlt, ← ea]
      exact upd_same
end
end KD

/-! The machine: its orders, its state, what an order does; its object in memory. -/
namespace KD
open PySem L2 TL
/-- the orders that are met here -/
inductive Od | push (n : Int) | load (k : Nat) | store (k : Nat) | copy | rows | cols | black | two (o : O2) | one (o : O1) | row | col | say | jump (k : Nat) | zero (k : Nat) | some (k : Nat) | tick (k : Nat) | frame (k : Nat) | done
def Od.w : Od → Str
  | .push _ => "push" | .load _ => "load" | .store _ => "store" | .copy => "copy" | .rows => "rows" | .cols => "cols" | .black => "black" | .two o => o.w | .one o => o.w | .row => "row" | .col => "col" | .say => "say"
  | .jump _ => "jump" | .zero _ => "zero" | .some _ => "some" | .tick _ => "tick" | .frame _ => "frame" | .done => "done"
def Od.n : Od → Int
  | .push n => n | .load k => k | .store k => k | .jump k => k | .zero k => k | .some k => k | .tick k => k | .frame k => k | _ => 0
structure Ms where
  at_ : Int
  stk : List Int
  sl : List (Option Int)
  pic : Pic
  tk : Int
  ln : List Nat
  sd : List Int
  cnt : Int
  idl : Int
  nb : V
  en : Str
/-- what an order does; none of it with an error's word -/
def act (h w : Nat) (o : Od) (m : Ms) : Except Str Ms := match o with
  | .push n => .ok { m with stk := m.stk ++ [n] }
  | .load k => match m.sl[k]? with
    | some (some x) => .ok { m with stk := m.stk ++ [x] }
    | _ => .error "broken"
  | .store k => match m.stk.getLast? with
    | some x => .ok { m with stk := m.stk.dropLast, sl := m.sl.set k (some x) }
    | none => .error "broken"
  | .copy => match m.stk.getLast? with
    | some x => .ok { m with stk := m.stk.dropLast ++ [x, x] }
    | none => .error "broken"
  | .rows => .ok { m with stk := m.stk ++ [(h : Int)] }
  | .cols => .ok { m with stk := m.stk ++ [(w : Int)] }
  | .black => match m.stk.getLast?, m.stk.dropLast.getLast? with
    | some c, some r => if 1 ≤ r ∧ r ≤ h ∧ 1 ≤ c ∧ c ≤ w then .ok { m with stk := m.stk.dropLast.dropLast ++ [cellP m.pic r c] } else .error "range"
    | _, _ => .error "broken"
  | .two o => match m.stk.getLast?, m.stk.dropLast.getLast? with
    | some b, some a => if Small (o.v a b) then .ok { m with stk := m.stk.dropLast.dropLast ++ [o.v a b] } else .error "number"
    | _, _ => .error "broken"
  | .one o => match m.stk.getLast? with
    | some a => .ok { m with stk := m.stk.dropLast ++ [o.v a] }
    | none => .error "broken"
  | .row => match m.stk.getLast? with
    | some r => if 1 ≤ r ∧ r ≤ h then .ok { m with stk := m.stk.dropLast, pic := pnt h w m.pic (r - 1).toNat, ln := m.ln ++ [(r - 1).toNat] } else .error "range"
    | none => .error "broken"
  | .col => match m.stk.getLast? with
    | some c => if 1 ≤ c ∧ c ≤ w then .ok { m with stk := m.stk.dropLast, pic := pnt h w m.pic (h + (c - 1).toNat), ln := m.ln ++ [h + (c - 1).toNat] } else .error "range"
    | none => .error "broken"
  | .say => match m.stk.getLast? with
    | some x => .ok { m with stk := m.stk.dropLast, sd := m.sd ++ [x] }
    | none => .error "broken"
  | .jump k => .ok { m with at_ := k }
  | .zero k => match m.stk.getLast? with
    | some x => .ok { m with stk := m.stk.dropLast, at_ := if x = 0 then (k : Int) else m.at_ }
    | none => .error "broken"
  | .some k => match m.stk.getLast? with
    | some x => .ok { m with stk := m.stk.dropLast, at_ := if x = 0 then m.at_ else (k : Int) }
    | none => .error "broken"
  | .tick k => if m.tk = 0 then .error "limit" else .ok { m with tk := m.tk - 1, idl := 0, nb := .int k }
  | .frame k => .ok { m with sl := List.replicate k none }
  | .done => .error "done"
def Ms.next (m : Ms) : Ms := { m with at_ := m.at_ + 1, cnt := m.cnt + 1, idl := m.idl + 1 }
def stp (h w : Nat) (o : Od) (m : Ms) : Ms := match act h w o m.next with
  | .ok m' => m'
  | .error e => { m.next with en := e }
/-! ### lists of fields -/
theorem putF_zip (f : Str) (v : V) : ∀ (ks : List Str) (vs : List V) (i : Nat), ks.length = vs.length → ks.Nodup → ks[i]? = some f → putF f v (ks.zip vs) = ks.zip (vs.set i v)
  | [], _, i, _, _, h => by cases h
  | k :: ks, [], _, h, _, _ => by cases h
  | k :: ks, x :: vs, 0, _, _, h => by
    obtain rfl := Option.some.inj h
    show (if k = k then _ else _) = _
    rw [if_pos rfl]
    rfl
  | k :: ks, x :: vs, i + 1, hl, nd, h => by
    have nd' := List.nodup_cons.mp nd
    have n : ¬ k = f := fun e => nd'.1 (by rw [e]; exact List.mem_of_getElem? h)
    show (if k = f then _ else (k, x) :: putF f v (ks.zip vs)) = _
    rw [if_neg n, putF_zip f v ks vs i (Nat.succ.inj hl) nd'.2 h]
    rfl
theorem lookup_zip (f : Str) : ∀ (ks : List Str) (vs : List V) (i : Nat), ks.length = vs.length → ks.Nodup → ks[i]? = some f → (ks.zip vs).lookup f = vs[i]?
  | [], _, i, _, _, h => by cases h
  | k :: ks, [], _, h, _, _ => by cases h
  | k :: ks, x :: vs, 0, _, _, h => by
    obtain rfl := Option.some.inj h
    show List.lookup k ((k, x) :: ks.zip vs) = _
    rw [List.lookup_cons, beq_self_eq_true]
    rfl
  | k :: ks, x :: vs, i + 1, hl, nd, h => by
    have nd' := List.nodup_cons.mp nd
    have n : ¬ f = k := fun e => nd'.1 (by rw [← e]; exact List.mem_of_getElem? h)
    show List.lookup f ((k, x) :: ks.zip vs) = _
    rw [List.lookup_cons, show (f == k) = false from by simp [n]]
    exact lookup_zip f ks vs i (Nat.succ.inj hl) nd'.2 h
def prK : List Str := ["orders", "picture", "ticks", "at", "stack", "slots", "below", "lines", "said", "count", "idle", "number", "end"]
theorem prK_nd : prK.Nodup := by decide +kernel
/-- the addresses of what the machine's object holds -/
structure PrA where
  dx : Addr
  co : Addr
  pa : Addr
  sa : Addr
  la : Addr
  ba : Addr
  na : Addr
  da : Addr
def prV (A : PrA) (m : Ms) : List V := [.ref A.co, .ref A.pa, .int m.tk, .int m.at_, .ref A.sa, .ref A.la, .ref A.ba, .ref A.na, .ref A.da, .int m.cnt, .int m.idl, m.nb, .str m.en]
def oV : Option Int → V
  | some i => .int i
  | none => .non
def slV (l : List (Option Int)) : List V := l.map oV
def natV (l : List Nat) : List V := l.map fun y : Nat => V.int (y : Int)
structure PrM (K : PySem.W.Frag) (C o : Addr) (B : Hp) (h w : Nat) (A : PrA) (m : Ms) (H : Hp) : Prop where
  ins : H o = some (.ins C A.dx (prK.zip (prV A m)))
  pic : SqT K H A.pa (rowsV m.pic)
  stk : H A.sa = some (.lst (m.stk.map V.int))
  sl : H A.la = some (.lst (slV m.sl))
  ln : H A.na = some (.lst (natV m.ln))
  sd : H A.da = some (.lst (m.sd.map V.int))
  n1 : A.sa ≠ A.la ∧ A.sa ≠ A.na ∧ A.sa ≠ A.da
  n2 : A.la ≠ A.na ∧ A.la ≠ A.da ∧ A.na ≠ A.da
  fr : B o = none ∧ B A.sa = none ∧ B A.la = none ∧ B A.na = none ∧ B A.da = none
  sm : Same B H
  sz : Sized h w m.pic
section
variable {K : PySem.W.Frag} {C o : Addr} {B H H' : Hp} {h w : Nat} {A : PrA} {m : Ms}
theorem PrM.same (g : PrM K C o B h w A m H) (s : Same H H') : PrM K C o B h w A m H' := ⟨s _ _ g.ins, KT.same s _ _ g.pic, s _ _ g.stk, s _ _ g.sl, s _ _ g.ln, s _ _ g.sd, g.n1, g.n2, g.fr, g.sm.trans s, g.sz⟩
theorem PrM.ne_ins (g : PrM K C o B h w A m H) : A.sa ≠ o ∧ A.la ≠ o ∧ A.na ≠ o ∧ A.da ≠ o :=
  ⟨ne_of g.stk g.ins (by intro z; cases z), ne_of g.sl g.ins (by intro z; cases z), ne_of g.ln g.ins (by intro z; cases z), ne_of g.sd g.ins (by intro z; cases z)⟩
theorem pic_upd {a b : Addr} {p : Pic} {v : HO} (hp : SqT K H a (rowsV p)) (k : KT K H (upd H b v)) : SqT K (upd H b v) a (rowsV p) := k _ _ hp
theorem kt_lst {b : Addr} {xs : List V} {v : HO} (hb : H b = some (.lst xs)) : KT K H (upd H b v) := KT.upd hb v
theorem kt_ins {b C dx : Addr} {fs : List (Str × V)} {v : HO} (hb : H b = some (.ins C dx fs)) : KT K H (upd H b v) := fun a xs q => by
  rcases q with (q | ⟨u, q⟩) | q
  · exact .inl (.inl (by rw [upd_ne (ne_of q hb (by intro z; cases z))]; exact q))
  · exact .inl (.inr ⟨u, by rw [upd_ne (ne_of q hb (by intro z; cases z))]; exact q⟩)
  · exact .inr q
theorem sm_upd {b : Addr} {v : HO} (s : Same B H) (n : B b = none) : Same B (upd H b v) := fun x u hx => by
  rw [upd_ne (ne_of_none hx n)]
  exact s x u hx
theorem PrM.setStk (g : PrM K C o B h w A m H) (s : List Int) : PrM K C o B h w A { m with stk := s } (upd H A.sa (.lst (s.map V.int))) := by
  obtain ⟨i1, i2, i3, i4⟩ := g.ne_ins
  exact ⟨by rw [upd_ne i1.symm]; exact g.ins, kt_lst g.stk _ _ g.pic, upd_same, by rw [upd_ne g.n1.1.symm]; exact g.sl, by rw [upd_ne g.n1.2.1.symm]; exact g.ln, by rw [upd_ne g.n1.2.2.symm]; exact g.sd, g.n1, g.n2, g.fr, sm_upd g.sm g.fr.2.1, g.sz⟩
theorem PrM.setSl (g : PrM K C o B h w A m H) (s : List (Option Int)) : PrM K C o B h w A { m with sl := s } (upd H A.la (.lst (slV s))) := by
  obtain ⟨i1, i2, i3, i4⟩ := g.ne_ins
  exact ⟨by rw [upd_ne i2.symm]; exact g.ins, kt_lst g.sl _ _ g.pic, by rw [upd_ne g.n1.1]; exact g.stk, upd_same, by rw [upd_ne g.n2.1.symm]; exact g.ln, by rw [upd_ne g.n2.2.1.symm]; exact g.sd, g.n1, g.n2, g.fr, sm_upd g.sm g.fr.2.2.1, g.sz⟩
theorem PrM.setLn (g : PrM K C o B h w A m H) (s : List Nat) : PrM K C o B h w A { m with ln := s } (upd H A.na (.lst (natV s))) := by
  obtain ⟨i1, i2, i3, i4⟩ := g.ne_ins
  exact ⟨by rw [upd_ne i3.symm]; exact g.ins, kt_lst g.ln _ _ g.pic, by rw [upd_ne g.n1.2.1]; exact g.stk, by rw [upd_ne g.n2.1]; exact g.sl, upd_same, by rw [upd_ne g.n2.2.2.symm]; exact g.sd, g.n1, g.n2, g.fr, sm_upd g.sm g.fr.2.2.2.1, g.sz⟩
theorem PrM.setSd (g : PrM K C o B h w A m H) (s : List Int) : PrM K C o B h w A { m with sd := s } (upd H A.da (.lst (s.map V.int))) := by
  obtain ⟨i1, i2, i3, i4⟩ := g.ne_ins
  exact ⟨by rw [upd_ne i4.symm]; exact g.ins, kt_lst g.sd _ _ g.pic, by rw [upd_ne g.n1.2.2]; exact g.stk, by rw [upd_ne g.n2.2.1]; exact g.sl, by rw [upd_ne g.n2.2.2]; exact g.ln, upd_same, g.n1, g.n2, g.fr, sm_upd g.sm g.fr.2.2.2.2, g.sz⟩
/-- a field of the object set -/
theorem PrM.put (g : PrM K C o B h w A m H) (i : Nat) (f : Str) (v : V) (m' : Ms) (hf : prK[i]? = some f) (hv : (prV A m).set i v = prV A m') (e1 : m'.pic = m.pic) (e2 : m'.stk = m.stk) (e3 : m'.sl = m.sl) (e4 : m'.ln = m.ln) (e5 : m'.sd = m.sd) :
    PrM K C o B h w A m' (upd H o (.ins C A.dx (putF f v (prK.zip (prV A m))))) := by
  obtain ⟨i1, i2, i3, i4⟩ := g.ne_ins
  rw [putF_zip f v prK (prV A m) i rfl prK_nd hf, hv]
  exact ⟨upd_same, by rw [e1]; exact kt_ins g.ins _ _ g.pic, by rw [upd_ne i1, e2]; exact g.stk, by rw [upd_ne i2, e3]; exact g.sl, by rw [upd_ne i3, e4]; exact g.ln, by rw [upd_ne i4, e5]; exact g.sd, g.n1, g.n2, g.fr, sm_upd g.sm g.fr.1, by rw [e1]; exact g.sz⟩
theorem PrM.look (A : PrA) (m : Ms) (i : Nat) {f : Str} {v : V} (hf : prK[i]? = some f) (hv : (prV A m)[i]? = some v) : (prK.zip (prV A m)).lookup f = some v := by
  rw [lookup_zip f prK (prV A m) i rfl prK_nd hf]
  exact hv
end
/-- what the top says of the machine's class -/
structure PTx (K : PySem.W.Frag) (C : Addr) : Prop where
  cl : Cls K C
  na : ∀ f ∈ prK, NoAttr K C f
theorem PTx.no {K : PySem.W.Frag} {C : Addr} (T : PTx K C) (i : Nat) {f : Str} (h : prK[i]? = some f) : NoAttr K C f := T.na f (List.mem_of_getElem? h)
theorem prK_no (A : PrA) (m : Ms) {f : Str} (h : f ∉ prK) : (prK.zip (prV A m)).lookup f = none := by
  have q : ∀ (ks : List Str) (vs : List V), f ∉ ks → (ks.zip vs).lookup f = none := fun ks => by
    induction ks with
    | nil => intro vs _; rfl
    | cons k ks ih =>
      intro vs hn
      cases vs with
      | nil => rfl
      | cons x vs =>
        have nk : ¬ f = k := fun e => hn (by rw [e]; exact List.mem_cons_self)
        show List.lookup f ((k, x) :: ks.zip vs) = none
        rw [List.lookup_cons, show (f == k) = false from by simp [nk]]
        exact ih vs fun m => hn (List.mem_cons_of_mem _ m)
  exact q prK _ h
end KD

/-! The machine's methods and its orders, walked. -/
namespace KD
open PySem L2 TL
/-- lists within their bounds -/
structure OkM (m : Ms) : Prop where
  l1 : m.stk.length ≤ 1000
  l2 : m.ln.length ≤ 1000
  l3 : m.sd.length ≤ 1000
  l4 : m.sl.length ≤ 10
  s1 : ∀ x ∈ m.stk, Small x
  s2 : ∀ x, some x ∈ m.sl → Small x
def preA (od : Od) (m : Ms) : Prop := OkM m ∧ match od with
  | .load k => k < m.sl.length
  | .store k => k < m.sl.length
  | .frame k => k ≤ 10
  | _ => True
def spTake (K : PySem.W.Frag) (C CE : Addr) : Sp := fun vs H Q E => ∃ (o : Addr) (B : Hp) (h w : Nat) (A : PrA) (m : Ms), vs = [.ref o] ∧ PrM K C o B h w A m H ∧
  (∀ x, m.stk.getLast? = some x → ∀ H', PrM K C o B h w A { m with stk := m.stk.dropLast } H' → Q (.int x) H') ∧ (m.stk.getLast? = none → rz CE "broken" H E)
def spPaint (K : PySem.W.Frag) (C : Addr) : Sp := fun vs H Q _ => ∃ (o : Addr) (B : Hp) (h w : Nat) (A : PrA) (m : Ms) (l : Nat), vs = [.ref o, .int (l : Int)] ∧ PrM K C o B h w A m H ∧ l < h + w ∧ m.ln.length ≤ 1000 ∧
  ∀ (A' : PrA) H', PrM K C o B h w { A' with co := A.co } { m with pic := pnt h w m.pic l, ln := m.ln ++ [l] } H' → Q .non H'
def spAct (K : PySem.W.Frag) (C CE : Addr) (od : Od) : Sp := fun vs H Q E => ∃ (o : Addr) (B : Hp) (h w : Nat) (A : PrA) (m : Ms), vs = [.ref o, .int od.n] ∧ PrM K C o B h w A m H ∧ preA od m ∧
  (∀ m', act h w od m = .ok m' → ∀ (A' : PrA) H', PrM K C o B h w { A' with co := A.co } m' H' → Q .non H') ∧
  (∀ e, act h w od m = .error e → ∀ d (A' : PrA) s' H', PrM K C o B h w { A' with co := A.co } { m with stk := s' } H' → H' d = some (endD e) → E (.ref CE) (some d) H')
theorem last_get {l : List Int} {x : Int} (h : l.getLast? = some x) : (l.map V.int)[(l.map V.int).length - 1]? = some (.int x) := by
  rw [List.length_map, List.getElem?_map]
  rw [List.getLast?_eq_getElem?] at h
  rw [h]
  rfl
theorem drop_map (l : List Int) : (l.map V.int).dropLast = l.dropLast.map V.int := by rw [List.map_dropLast]
theorem small_last {l : List Int} (hs : ∀ x ∈ l, Small x) {x : Int} (h : l.getLast? = some x) : Small x := hs x (List.mem_of_getLast? h)
section
variable {K : PySem.W.Frag} {C o : Addr} {B H H' : Hp} {h w : Nat} {A : PrA} {m : Ms}
theorem PrM.push (g : PrM K C o B h w A m H) (x : Int) : PrM K C o B h w A { m with stk := m.stk ++ [x] } (upd H A.sa (.lst (m.stk.map V.int ++ [.int x]))) := by
  have q := g.setStk (m.stk ++ [x])
  rw [List.map_append] at q
  exact q
theorem PrM.pop (g : PrM K C o B h w A m H) : PrM K C o B h w A { m with stk := m.stk.dropLast } (upd H A.sa (.lst (m.stk.map V.int).dropLast)) := by
  rw [drop_map]
  exact g.setStk _
/-- the same state, the stack left out of account -/
theorem PrM.self (g : PrM K C o B h w A m H) : PrM K C o B h w A { m with stk := m.stk } H := g
end
section
variable {P : Program} {w : World} {K : PySem.W.Frag} {mg : Str → Option Value} {base : Heap} {C CE : Addr}
theorem sc_take : FnScope ["self"] ["self"] (defScope S_Processor_take) := ⟨rfl, rfl, rfl, by decide +kernel, rfl, by decide +kernel, by decide +kernel⟩
theorem ok_take {f fI : Addr} {fd fdI : FuncData} (F : Fun K "take" "Processor.take" S_Processor_take f fd) (TE : EnT K mg CE fI fdI) (T : PTx K C) : FnOk P w K mg base (L2.CX P w) 3 f fd ["self"] (spTake K C CE) := by
  refine F.okX sc_take (fun vs H Q E h => ?_) (fun cdv A0 outer s0 H vs Q E hr h => ?_)
  · obtain ⟨o, B, h, w, A, m, rfl, _⟩ := h
    rfl
  obtain ⟨o, B, h, w, A, m, rfl, g, k1, k2⟩ := h
  refine ⟨_, pss_cons (ps_if (pt_not (pt_truth (pe_fld (pv 0) rfl) (by intro _; rfl))) (pss_one (ps_ended TE rfl hr (takes_of rfl rfl rfl rfl) (by rfl))) pss_nil)
    (pss_one (ps_ret (pe_bm0 PySem.F.plainAttrs_list PySem.F.slot_list_pop PySem.F.type_list_pop mt_pop (pe_fld (pv 0) rfl)))), ?_⟩
  cases hl : m.stk.getLast? with
  | none =>
    have e0 : m.stk = [] := List.getLast?_eq_none_iff.mp hl
    refine ⟨_, rfl, o, C, A.dx, _, _, rfl, g.ins, T.cl, T.no 4 rfl, PrM.look A m 4 rfl rfl, false, .inl ⟨_, SqL.of g.stk, by rw [e0]; rfl⟩, ?_⟩
    exact iteT (k2 hl)
  | some x =>
    have ne : (m.stk.map V.int).isEmpty = false := by
      cases e : m.stk with
      | nil => rw [e] at hl; cases hl
      | cons _ _ => rfl
    refine ⟨_, rfl, o, C, A.dx, _, _, rfl, g.ins, T.cl, T.no 4 rfl, PrM.look A m 4 rfl rfl, true, .inl ⟨_, SqL.of g.stk, by rw [ne]; rfl⟩, ?_⟩
    refine iteF ?_
    refine ⟨_, rfl, o, C, A.dx, _, _, rfl, g.ins, T.cl, T.no 4 rfl, PrM.look A m 4 rfl rfl, .inl ⟨rfl, _, SqL.of g.stk⟩, A.sa, _, _, rfl, rfl, g.stk, last_get hl, ?_⟩
    exact k1 x hl _ g.pop
theorem sc_paint : FnScope ["self", "line"] ["self", "line"] (defScope S_Processor_paint) := ⟨rfl, rfl, rfl, by decide +kernel, rfl, by decide +kernel, by decide +kernel⟩
theorem ok_paint {f fL : Addr} {fd fdL : FuncData} (F : Fun K "paint" "Processor.paint" S_Processor_paint f fd) (T : PTx K C)
    (GL : FnOk P w K mg base CX0 1 fL fdL ["picture", "line"] (spLine K)) (mL : mg "with_line" = some (.ref fL)) (kL : PySem.W.keepIn K (.ref fL) = true) (bL : Binds K fdL ["picture", "line"] []) :
    FnOk P w K mg base CX0 2 f fd ["self", "line"] (spPaint K C) := by
  refine F.ok sc_paint (fun vs H Q E h => ?_) (fun cdv A0 outer s0 H vs Q E hr h => ?_)
  · obtain ⟨o, B, h, w, A, m, l, rfl, _⟩ := h
    rfl
  obtain ⟨o, B, h, w, A, m, l, rfl, g, hl, ll, k⟩ := h
  refine ⟨_, pss_cons (ps_fld (pv 0) (pe_call GL hr rfl mL kL bL .nil pass0 (pa_cons (pe_fld (pv 0) rfl) (pa_cons (pv 1) pa_nil))) rfl)
    (pss_one (ps_expr (pe_bm PySem.F.plainAttrs_list PySem.F.slot_list_append PySem.F.type_list_append mt_append (pe_fld (pv 0) rfl) (pa_cons (pv 1) pa_nil)))), ?_⟩
  refine ⟨_, rfl, o, C, A.dx, _, _, rfl, g.ins, T.cl, T.no 1 rfl, PrM.look A m 1 rfl rfl, _, rfl, A.pa, m.pic, h, w, l, rfl, g.pic, g.sz, hl, fun b H1 s1 h1 => ?_⟩
  have g1 := g.same s1
  refine ⟨_, rfl, o, C, A.dx, _, rfl, g1.ins, T.cl, T.no 1 rfl, (by show 13 < 1000; decide), ?_⟩
  have g2 : PrM K C o B h w { A with pa := b } { m with pic := pnt h w m.pic l } (upd H1 o (.ins C A.dx (putF "picture" (.ref b) (prK.zip (prV A m))))) := by
    obtain ⟨i1, i2, i3, i4⟩ := g1.ne_ins
    rw [putF_zip "picture" (.ref b) prK (prV A m) 1 rfl prK_nd rfl]
    exact ⟨upd_same, kt_ins g1.ins _ _ h1, by rw [upd_ne i1]; exact g1.stk, by rw [upd_ne i2]; exact g1.sl, by rw [upd_ne i3]; exact g1.ln, by rw [upd_ne i4]; exact g1.sd, g1.n1, g1.n2, g1.fr, sm_upd g1.sm g1.fr.1, g1.sz.pnt l⟩
  generalize upd H1 o (.ins C A.dx (putF "picture" (.ref b) (prK.zip (prV A m)))) = H2 at g2 ⊢
  refine ⟨_, rfl, o, C, A.dx, _, _, rfl, g2.ins, T.cl, T.no 7 rfl, PrM.look { A with pa := b } { m with pic := pnt h w m.pic l } 7 rfl rfl, .inl ⟨rfl, _, SqL.of g2.ln⟩, _, rfl, A.na, _, _, rfl, rfl, g2.ln, ?_, ?_⟩
  · unfold natV
    rw [List.length_map]
    exact Nat.lt_of_le_of_lt ll (by decide)
  · have q := g2.setLn (m.ln ++ [l])
    unfold natV at q
    rw [List.map_append] at q
    exact k { A with pa := b } _ q
theorem sc_apush : FnScope ["play", "number"] ["play", "number"] (defScope S_push) := ⟨rfl, rfl, rfl, by decide +kernel, rfl, by decide +kernel, by decide +kernel⟩
theorem ok_apush {f : Addr} {fd : FuncData} (F : Fun K "push" "push" S_push f fd) (T : PTx K C) (n : Int) : FnOk P w K mg base (L2.CX P w) 4 f fd ["play", "number"] (spAct K C CE (.push n)) := by
  refine F.okX sc_apush (fun vs H Q E h => ?_) (fun cdv A0 outer s0 H vs Q E hr h => ?_)
  · obtain ⟨o, B, h, w, A, m, rfl, _⟩ := h
    rfl
  obtain ⟨o, B, h, w, A, m, e0, g, ⟨okm, pre⟩, k1, k2⟩ := h
  have e0 : vs = [.ref o, .int n] := e0
  subst e0
  refine ⟨_, pss_one (ps_expr (pe_bm PySem.F.plainAttrs_list PySem.F.slot_list_append PySem.F.type_list_append mt_append (pe_fld (pv 0) rfl) (pa_cons (pv 1) pa_nil))), ?_⟩
  exact ⟨_, rfl, o, C, A.dx, _, _, rfl, g.ins, T.cl, T.no 4 rfl, PrM.look A m 4 rfl rfl, .inl ⟨rfl, _, SqL.of g.stk⟩, _, rfl, A.sa, _, _, rfl, rfl, g.stk, by rw [List.length_map]; exact Nat.lt_of_le_of_lt okm.l1 (by decide), k1 _ rfl A _ (g.push n)⟩
theorem sc_alay_rows : FnScope ["play", "number"] ["play", "number"] (defScope S_lay_rows) := ⟨rfl, rfl, rfl, by decide +kernel, rfl, by decide +kernel, by decide +kernel⟩
theorem ok_alay_rows {f : Addr} {fd : FuncData} (F : Fun K "lay_rows" "lay_rows" S_lay_rows f fd) (T : PTx K C) (Bl : Blt mg) : FnOk P w K mg base (L2.CX P w) 4 f fd ["play", "number"] (spAct K C CE .rows) := by
  refine F.okX sc_alay_rows (fun vs H Q E h => ?_) (fun cdv A0 outer s0 H vs Q E hr h => ?_)
  · obtain ⟨o, B, h, w, A, m, rfl, _⟩ := h
    rfl
  obtain ⟨o, B, h, w, A, m, e0, g, ⟨okm, pre⟩, k1, k2⟩ := h
  have e0 : vs = [.ref o, .int 0] := e0
  subst e0
  refine ⟨_, pss_one (ps_expr (pe_bm PySem.F.plainAttrs_list PySem.F.slot_list_append PySem.F.type_list_append mt_append (pe_fld (pv 0) rfl) (pa_cons (pe_callB call_len_seq (by rfl) Bl.len PySem.boot_len (pa_cons (pe_fld (pv 0) rfl) pa_nil)) pa_nil))), ?_⟩
  have el : (rowsV m.pic).length = h := by rw [rowsV_len, g.sz.len]
  refine ⟨_, rfl, o, C, A.dx, _, _, rfl, g.ins, T.cl, T.no 4 rfl, PrM.look A m 4 rfl rfl, .inl ⟨rfl, _, SqL.of g.stk⟩, _, rfl, o, C, A.dx, _, _, rfl, g.ins, T.cl, T.no 1 rfl, PrM.look A m 1 rfl rfl, A.pa, _, rfl, .inr g.pic, A.sa, _, _, rfl, rfl, g.stk, by rw [List.length_map]; exact Nat.lt_of_le_of_lt okm.l1 (by decide), ?_⟩
  rw [el]
  exact k1 _ rfl A _ (g.push h)
theorem sc_alay_columns : FnScope ["play", "number"] ["play", "number"] (defScope S_lay_columns) := ⟨rfl, rfl, rfl, by decide +kernel, rfl, by decide +kernel, by decide +kernel⟩
theorem ok_alay_columns {f : Addr} {fd : FuncData} (F : Fun K "lay_columns" "lay_columns" S_lay_columns f fd) (T : PTx K C) (Bl : Blt mg) : FnOk P w K mg base (L2.CX P w) 4 f fd ["play", "number"] (spAct K C CE .cols) := by
  refine F.okX sc_alay_columns (fun vs H Q E h => ?_) (fun cdv A0 outer s0 H vs Q E hr h => ?_)
  · obtain ⟨o, B, h, w, A, m, rfl, _⟩ := h
    rfl
  obtain ⟨o, B, h, w, A, m, e0, g, ⟨okm, pre⟩, k1, k2⟩ := h
  have e0 : vs = [.ref o, .int 0] := e0
  subst e0
  refine ⟨_, pss_one (ps_expr (pe_bm PySem.F.plainAttrs_list PySem.F.slot_list_append PySem.F.type_list_append mt_append (pe_fld (pv 0) rfl) (pa_cons (pe_callB call_len_str (by rfl) Bl.len PySem.boot_len (pa_cons (pe_ix ix_tup (pe_fld (pv 0) rfl) pe_int (fun _ _ => rfl)) pa_nil)) pa_nil))), ?_⟩
  obtain ⟨l0, h0, e0⟩ : ∃ l0, atI (rowsV m.pic) 0 = some (.str (sOf l0)) ∧ l0.length = w := by
    have pos : 0 < m.pic.length := by rw [g.sz.len]; exact g.sz.h1
    refine ⟨m.pic[0], atI_nat (j := 0) ?_, g.sz.row _ (List.getElem_mem pos)⟩
    unfold rowsV
    rw [List.getElem?_map, List.getElem?_eq_getElem pos]
    rfl
  refine ⟨_, rfl, o, C, A.dx, _, _, rfl, g.ins, T.cl, T.no 4 rfl, PrM.look A m 4 rfl rfl, .inl ⟨rfl, _, SqL.of g.stk⟩, _, rfl, o, C, A.dx, _, _, rfl, g.ins, T.cl, T.no 1 rfl, PrM.look A m 1 rfl rfl, A.pa, _, _, _, rfl, rfl, g.pic, h0, _, rfl, by rw [sOf_len, e0]; exact Nat.le_trans g.sz.w2 (by decide), A.sa, _, _, rfl, rfl, g.stk, by rw [List.length_map]; exact Nat.lt_of_le_of_lt okm.l1 (by decide), ?_⟩
  rw [sOf_len, e0]
  exact k1 _ rfl A _ (g.push w)
theorem sc_asay : FnScope ["play", "number"] ["play", "number"] (defScope S_say) := ⟨rfl, rfl, rfl, by decide +kernel, rfl, by decide +kernel, by decide +kernel⟩
theorem ok_asay {f fT : Addr} {fd fdT : FuncData} (F : Fun K "say" "say" S_say f fd) (T : PTx K C) (GT : FnOk P w K mg base (L2.CX P w) 3 fT fdT ["self"] (spTake K C CE)) (mT : Meth K C "take" fT) (bT : Binds K fdT ["self"] []) : FnOk P w K mg base (L2.CX P w) 4 f fd ["play", "number"] (spAct K C CE .say) := by
  refine F.okX sc_asay (fun vs H Q E h => ?_) (fun cdv A0 outer s0 H vs Q E hr h => ?_)
  · obtain ⟨o, B, h, w, A, m, rfl, _⟩ := h
    rfl
  obtain ⟨o, B, h, w, A, m, e0, g, ⟨okm, pre⟩, k1, k2⟩ := h
  have e0 : vs = [.ref o, .int 0] := e0
  subst e0
  refine ⟨_, pss_one (ps_expr (pe_bm PySem.F.plainAttrs_list PySem.F.slot_list_append PySem.F.type_list_append mt_append (pe_fld (pv 0) rfl) (pa_cons (pe_meth0 (pv 0) T.cl mT GT (hr.mono (by decide)) bT .nil (psX rfl rfl rfl rfl)) pa_nil))), ?_⟩
  refine ⟨_, rfl, o, C, A.dx, _, _, rfl, g.ins, T.cl, T.no 8 rfl, PrM.look A m 8 rfl rfl, .inl ⟨rfl, _, SqL.of g.sd⟩, _, rfl, o, _, _, rfl, g.ins, prK_no A m (by decide +kernel), o, B, h, w, A, m, rfl, g, fun x hx H1 g1 => ?_, fun hx d H1 s1 nd hd => ?_⟩
  · refine ⟨A.da, _, _, rfl, rfl, g1.sd, by rw [List.length_map]; exact Nat.lt_of_le_of_lt okm.l3 (by decide), ?_⟩
    have q := g1.setSd (m.sd ++ [x])
    rw [List.map_append] at q
    exact k1 _ (by show (match m.stk.getLast? with | some x => _ | none => _) = _; rw [hx]) A _ q
  · exact k2 "broken" (by show (match m.stk.getLast? with | some x => _ | none => _) = _; rw [hx]) d A m.stk H1 (g.same s1) hd
theorem sc_ajump : FnScope ["play", "number"] ["play", "number"] (defScope S_jump) := ⟨rfl, rfl, rfl, by decide +kernel, rfl, by decide +kernel, by decide +kernel⟩
theorem ok_ajump {f : Addr} {fd : FuncData} (F : Fun K "jump" "jump" S_jump f fd) (T : PTx K C) (n : Nat) : FnOk P w K mg base (L2.CX P w) 4 f fd ["play", "number"] (spAct K C CE (.jump n)) := by
  refine F.okX sc_ajump (fun vs H Q E h => ?_) (fun cdv A0 outer s0 H vs Q E hr h => ?_)
  · obtain ⟨o, B, h, w, A, m, rfl, _⟩ := h
    rfl
  obtain ⟨o, B, h, w, A, m, e0, g, ⟨okm, pre⟩, k1, k2⟩ := h
  have e0 : vs = [.ref o, .int (n : Int)] := e0
  subst e0
  refine ⟨_, pss_one (ps_fld (pv 0) (pv 1) rfl), ?_⟩
  exact ⟨_, rfl, _, rfl, o, C, A.dx, _, rfl, g.ins, T.cl, T.no 3 rfl, (by show 13 < 1000; decide), k1 _ rfl A _ (g.put 3 "at" (.int n) { m with at_ := n } rfl rfl rfl rfl rfl rfl rfl)⟩
theorem sc_ajump_at_zero : FnScope ["play", "number"] ["play", "number"] (defScope S_jump_at_zero) := ⟨rfl, rfl, rfl, by decide +kernel, rfl, by decide +kernel, by decide +kernel⟩
theorem ok_ajump_at_zero {f fT : Addr} {fd fdT : FuncData} (F : Fun K "jump_at_zero" "jump_at_zero" S_jump_at_zero f fd) (T : PTx K C) (GT : FnOk P w K mg base (L2.CX P w) 3 fT fdT ["self"] (spTake K C CE)) (mT : Meth K C "take" fT) (bT : Binds K fdT ["self"] []) (n : Nat) : FnOk P w K mg base (L2.CX P w) 4 f fd ["play", "number"] (spAct K C CE (.zero n)) := by
  refine F.okX sc_ajump_at_zero (fun vs H Q E h => ?_) (fun cdv A0 outer s0 H vs Q E hr h => ?_)
  · obtain ⟨o, B, h, w, A, m, rfl, _⟩ := h
    rfl
  obtain ⟨o, B, h, w, A, m, e0, g, ⟨okm, pre⟩, k1, k2⟩ := h
  have e0 : vs = [.ref o, .int (n : Int)] := e0
  subst e0
  refine ⟨_, pss_one (ps_if (pt_cmpR op_eq (pe_meth0 (pv 0) T.cl mT GT (hr.mono (by decide)) bT .nil (psX rfl rfl rfl rfl)) pe_int (nomark _)) (pss_one (ps_fld (pv 0) (pv 1) rfl)) pss_nil), ?_⟩
  refine ⟨_, rfl, o, _, _, rfl, g.ins, prK_no A m (by decide +kernel), o, B, h, w, A, m, rfl, g, fun x hx H1 g1 => ?_, fun hx d H1 s1 nd hd => ?_⟩
  · refine ⟨rfl, _, rfl, ?_⟩
    rw [dec_int]
    by_cases c : x = 0
    · rw [decide_eq_true c]
      refine iteT ⟨_, rfl, _, rfl, o, C, A.dx, _, rfl, g1.ins, T.cl, T.no 3 rfl, (by show 13 < 1000; decide), ?_⟩
      exact k1 { m with stk := m.stk.dropLast, at_ := n } (by show (match m.stk.getLast? with | some x => _ | none => _) = _; rw [hx]; simp [c]) A _ (g1.put 3 "at" (.int n) { m with stk := m.stk.dropLast, at_ := n } rfl rfl rfl rfl rfl rfl rfl)
    · rw [decide_eq_false c]
      refine iteF ?_
      exact k1 { m with stk := m.stk.dropLast } (by show (match m.stk.getLast? with | some x => _ | none => _) = _; rw [hx]; simp [c]) A _ g1
  · exact k2 "broken" (by show (match m.stk.getLast? with | some x => _ | none => _) = _; rw [hx]) d A m.stk H1 (g.same s1) hd
theorem sc_ajump_at_some : FnScope ["play", "number"] ["play", "number"] (defScope S_jump_at_some) := ⟨rfl, rfl, rfl, by decide +kernel, rfl, by decide +kernel, by decide +kernel⟩
theorem ok_ajump_at_some {f fT : Addr} {fd fdT : FuncData} (F : Fun K "jump_at_some" "jump_at_some" S_jump_at_some f fd) (T : PTx K C) (GT : FnOk P w K mg base (L2.CX P w) 3 fT fdT ["self"] (spTake K C CE)) (mT : Meth K C "take" fT) (bT : Binds K fdT ["self"] []) (n : Nat) : FnOk P w K mg base (L2.CX P w) 4 f fd ["play", "number"] (spAct K C CE (.some n)) := by
  refine F.okX sc_ajump_at_some (fun vs H Q E h => ?_) (fun cdv A0 outer s0 H vs Q E hr h => ?_)
  · obtain ⟨o, B, h, w, A, m, rfl, _⟩ := h
    rfl
  obtain ⟨o, B, h, w, A, m, e0, g, ⟨okm, pre⟩, k1, k2⟩ := h
  have e0 : vs = [.ref o, .int (n : Int)] := e0
  subst e0
  refine ⟨_, pss_one (ps_if (pt_cmpR op_ne (pe_meth0 (pv 0) T.cl mT GT (hr.mono (by decide)) bT .nil (psX rfl rfl rfl rfl)) pe_int (nomark _)) (pss_one (ps_fld (pv 0) (pv 1) rfl)) pss_nil), ?_⟩
  refine ⟨_, rfl, o, _, _, rfl, g.ins, prK_no A m (by decide +kernel), o, B, h, w, A, m, rfl, g, fun x hx H1 g1 => ?_, fun hx d H1 s1 nd hd => ?_⟩
  · refine ⟨rfl, _, rfl, ?_⟩
    rw [dec_int]
    by_cases c : x = 0
    · rw [decide_eq_true c]
      refine iteF ?_
      exact k1 { m with stk := m.stk.dropLast } (by show (match m.stk.getLast? with | some x => _ | none => _) = _; rw [hx]; simp [c]) A _ g1
    · rw [decide_eq_false c]
      refine iteT ⟨_, rfl, _, rfl, o, C, A.dx, _, rfl, g1.ins, T.cl, T.no 3 rfl, (by show 13 < 1000; decide), ?_⟩
      exact k1 { m with stk := m.stk.dropLast, at_ := n } (by show (match m.stk.getLast? with | some x => _ | none => _) = _; rw [hx]; simp [c]) A _ (g1.put 3 "at" (.int n) { m with stk := m.stk.dropLast, at_ := n } rfl rfl rfl rfl rfl rfl rfl)
  · exact k2 "broken" (by show (match m.stk.getLast? with | some x => _ | none => _) = _; rw [hx]) d A m.stk H1 (g.same s1) hd
theorem sc_afinish : FnScope ["play", "number"] ["play", "number"] (defScope S_finish) := ⟨rfl, rfl, rfl, by decide +kernel, rfl, by decide +kernel, by decide +kernel⟩
theorem ok_afinish {f fI : Addr} {fd fdI : FuncData} (F : Fun K "finish" "finish" S_finish f fd) (T : PTx K C) (TE : EnT K mg CE fI fdI) : FnOk P w K mg base (L2.CX P w) 4 f fd ["play", "number"] (spAct K C CE .done) := by
  refine F.okX sc_afinish (fun vs H Q E h => ?_) (fun cdv A0 outer s0 H vs Q E hr h => ?_)
  · obtain ⟨o, B, h, w, A, m, rfl, _⟩ := h
    rfl
  obtain ⟨o, B, h, w, A, m, e0, g, ⟨okm, pre⟩, k1, k2⟩ := h
  have e0 : vs = [.ref o, .int 0] := e0
  subst e0
  refine ⟨_, pss_one (ps_ended TE rfl (hr.mono (by decide)) (takes_of rfl rfl rfl rfl) (by rfl)), ?_⟩
  exact fun d H1 s1 nd hd => k2 "done" rfl d A m.stk H1 (g.same s1) hd
end
end KD

/-! The machine's orders, the rest of them. -/
namespace KD
open PySem L2 TL
theorem slV_get (l : List (Option Int)) (k : Nat) : (slV l)[k]? = (l[k]?).map oV := by
  unfold slV
  rw [List.getElem?_map]
theorem slV_set (l : List (Option Int)) (k : Nat) (x : Int) : (slV l).set k (.int x) = slV (l.set k (some x)) := by
  unfold slV
  rw [List.map_set]
  rfl
theorem flat_non : ∀ n : Nat, (List.replicate n [V.non]).flatten = List.replicate n (oV none)
  | 0 => rfl
  | n + 1 => by
    rw [List.replicate_succ, List.flatten_cons, flat_non n, List.replicate_succ]
    rfl
theorem slV_len (l : List (Option Int)) : (slV l).length = l.length := by unfold slV; rw [List.length_map]
section
variable {P : Program} {w : World} {K : PySem.W.Frag} {mg : Str → Option Value} {base : Heap} {C CE : Addr}
theorem sc_aload : FnScope ["play", "number"] ["play", "number"] (defScope S_load) := ⟨rfl, rfl, rfl, by decide +kernel, rfl, by decide +kernel, by decide +kernel⟩
theorem ok_aload {f fI : Addr} {fd fdI : FuncData} (F : Fun K "load" "load" S_load f fd) (T : PTx K C) (TE : EnT K mg CE fI fdI) (Bl : Blt mg) (n : Nat) : FnOk P w K mg base (L2.CX P w) 4 f fd ["play", "number"] (spAct K C CE (.load n)) := by
  refine F.okX sc_aload (fun vs H Q E h => ?_) (fun cdv A0 outer s0 H vs Q E hr h => ?_)
  · obtain ⟨o, B, h, w, A, m, rfl, _⟩ := h
    rfl
  obtain ⟨o, B, h, w, A, m, e0, g, ⟨okm, pre⟩, k1, k2⟩ := h
  have e0 : vs = [.ref o, .int (n : Int)] := e0
  subst e0
  refine ⟨_, pss_cons (ps_if (PW.pt (pw_or (pt_cmpR op_ge (pv 1) (pe_callB call_len_seq (by rfl) Bl.len PySem.boot_len (pa_cons (pe_fld (pv 0) rfl) pa_nil)) (nomark _)) (pw_or1 (pt_cmp (pc_isN (pe_ix ix_list (pe_fld (pv 0) rfl) (pv 1) (fun _ _ => rfl))))))) (pss_one (ps_ended TE rfl (hr.mono (by decide)) (takes_of rfl rfl rfl rfl) (by rfl))) pss_nil)
    (pss_one (ps_expr (pe_bm PySem.F.plainAttrs_list PySem.F.slot_list_append PySem.F.type_list_append mt_append (pe_fld (pv 0) rfl) (pa_cons (pe_ix ix_list (pe_fld (pv 0) rfl) (pv 1) (fun _ _ => rfl)) pa_nil)))), ?_⟩
  have pre : n < m.sl.length := pre
  obtain ⟨x, hx⟩ : ∃ x, m.sl[n]? = some x := ⟨_, List.getElem?_eq_getElem pre⟩
  have hv : atI (slV m.sl) (n : Int) = some (oV x) := atI_nat (by rw [slV_get, hx]; rfl)
  refine ⟨_, rfl, _, rfl, o, C, A.dx, _, _, rfl, g.ins, T.cl, T.no 5 rfl, PrM.look A m 5 rfl rfl, A.la, _, rfl, .inl (SqL.of g.sl), _, _, rfl, rfl, _, rfl, ?_⟩
  rw [slV_len, decide_eq_false (show ¬ ((n : Int) ≥ ((m.sl.length : Nat) : Int)) by omega)]
  refine iteF ?_
  refine ⟨_, rfl, o, C, A.dx, _, _, rfl, g.ins, T.cl, T.no 5 rfl, PrM.look A m 5 rfl rfl, _, rfl, A.la, _, _, _, rfl, rfl, SqL.of g.sl, hv, _, rfl, ?_⟩
  cases x with
  | none =>
    rw [show decide (oV none = V.non) = true from decide_eq_true rfl]
    exact iteT fun d H1 s1 nd hd => k2 "broken" (by show (match m.sl[n]? with | some (some x) => _ | _ => _) = _; rw [hx]) d A m.stk H1 (g.same s1) hd
  | some y =>
    rw [show decide (oV (some y) = V.non) = false from decide_eq_false (by intro z; cases z)]
    refine iteF ?_
    exact ⟨_, rfl, o, C, A.dx, _, _, rfl, g.ins, T.cl, T.no 4 rfl, PrM.look A m 4 rfl rfl, .inl ⟨rfl, _, SqL.of g.stk⟩, _, rfl, o, C, A.dx, _, _, rfl, g.ins, T.cl, T.no 5 rfl, PrM.look A m 5 rfl rfl, _, rfl, A.la, _, _, _, rfl, rfl, SqL.of g.sl, hv, A.sa, _, _, rfl, rfl, g.stk, by rw [List.length_map]; exact Nat.lt_of_le_of_lt okm.l1 (by decide), k1 _ (by show (match m.sl[n]? with | some (some x) => _ | _ => _) = _; rw [hx]) A _ (g.push y)⟩
theorem sc_acopy_uppermost : FnScope ["play", "number", "uppermost"] ["play", "number"] (defScope S_copy_uppermost) := ⟨rfl, rfl, rfl, by decide +kernel, rfl, by decide +kernel, by decide +kernel⟩
theorem ok_acopy_uppermost {f fT : Addr} {fd fdT : FuncData} (F : Fun K "copy_uppermost" "copy_uppermost" S_copy_uppermost f fd) (T : PTx K C) (GT : FnOk P w K mg base (L2.CX P w) 3 fT fdT ["self"] (spTake K C CE)) (mT : Meth K C "take" fT) (bT : Binds K fdT ["self"] []) : FnOk P w K mg base (L2.CX P w) 4 f fd ["play", "number"] (spAct K C CE .copy) := by
  refine F.okX sc_acopy_uppermost (fun vs H Q E h => ?_) (fun cdv A0 outer s0 H vs Q E hr h => ?_)
  · obtain ⟨o, B, h, w, A, m, rfl, _⟩ := h
    rfl
  obtain ⟨o, B, h, w, A, m, e0, g, ⟨okm, pre⟩, k1, k2⟩ := h
  have e0 : vs = [.ref o, .int 0] := e0
  subst e0
  refine ⟨_, pss_cons (ps_set (i := 2) sc_acopy_uppermost.nd rfl (Or.inl rfl) (pe_meth0 (pv 0) T.cl mT GT (hr.mono (by decide)) bT .nil (psX rfl rfl rfl rfl))) (pss_one (ps_expr (pe_bm PySem.F.plainAttrs_list PySem.F.slot_list_extend PySem.F.type_list_extend mt_extend (pe_fld (pv 0) rfl) (pa_cons (pe_lst (pa_cons (pv 2) (pa_cons (pv 2) pa_nil))) pa_nil)))), ?_⟩
  refine ⟨_, rfl, o, _, _, rfl, g.ins, prK_no A m (by decide +kernel), o, B, h, w, A, m, rfl, g, fun x hx H1 g1 => ?_, fun hx d H1 s1 nd hd => ?_⟩
  · refine ⟨_, rfl, o, C, A.dx, _, _, rfl, g1.ins, T.cl, T.no 4 rfl, PrM.look A { m with stk := m.stk.dropLast } 4 rfl rfl, .inl ⟨rfl, _, SqL.of g1.stk⟩, _, rfl, _, rfl, (by show 2 ≤ sizeLine; decide), fun p np => ?_⟩
    have g2 := g1.same (same_nw np (.lst [.int x, .int x]))
    have hp : (upd H1 p (.lst [.int x, .int x])) p = some (.lst [.int x, .int x]) := upd_same
    generalize upd H1 p (.lst [.int x, .int x]) = H2 at g2 hp ⊢
    refine ⟨A.sa, p, _, _, rfl, rfl, g2.stk, hp, ?_, ?_⟩
    · rw [List.length_map]
      have := okm.l1
      exact Nat.le_trans (show m.stk.dropLast.length + 2 ≤ 2000 by rw [List.length_dropLast]; omega) (by decide)
    · have q := g2.setStk (m.stk.dropLast ++ [x, x])
      rw [List.map_append] at q
      exact k1 _ (by show (match m.stk.getLast? with | some x => _ | none => _) = _; rw [hx]) A _ q
  · exact k2 "broken" (by show (match m.stk.getLast? with | some x => _ | none => _) = _; rw [hx]) d A m.stk H1 (g.same s1) hd
theorem sc_atick : FnScope ["play", "number"] ["play", "number"] (defScope S_tick) := ⟨rfl, rfl, rfl, by decide +kernel, rfl, by decide +kernel, by decide +kernel⟩
theorem ok_atick {f fI : Addr} {fd fdI : FuncData} (F : Fun K "tick" "tick" S_tick f fd) (T : PTx K C) (TE : EnT K mg CE fI fdI) (n : Nat) : FnOk P w K mg base (L2.CX P w) 4 f fd ["play", "number"] (spAct K C CE (.tick n)) := by
  refine F.okX sc_atick (fun vs H Q E h => ?_) (fun cdv A0 outer s0 H vs Q E hr h => ?_)
  · obtain ⟨o, B, h, w, A, m, rfl, _⟩ := h
    rfl
  obtain ⟨o, B, h, w, A, m, e0, g, ⟨okm, pre⟩, k1, k2⟩ := h
  have e0 : vs = [.ref o, .int (n : Int)] := e0
  subst e0
  refine ⟨_, pss_cons (ps_if (pt_cmpR op_eq (pe_fld (pv 0) rfl) pe_int (nomark _)) (pss_one (ps_ended TE rfl (hr.mono (by decide)) (takes_of rfl rfl rfl rfl) (by rfl))) pss_nil)
    (pss_cons (ps_fldaug (pv 0) pe_int iop_sub) (pss_cons (ps_fld (pv 0) pe_int rfl) (pss_one (ps_fld (pv 0) (pv 1) rfl)))), ?_⟩
  refine ⟨_, rfl, o, C, A.dx, _, _, rfl, g.ins, T.cl, T.no 2 rfl, PrM.look A m 2 rfl rfl, rfl, _, rfl, ?_⟩
  rw [dec_int]
  by_cases c : m.tk = 0
  · rw [decide_eq_true c]
    exact iteT fun d H1 s1 nd hd => k2 "limit" (by show (if m.tk = 0 then _ else _) = _; rw [if_pos c]) d A m.stk H1 (g.same s1) hd
  · rw [decide_eq_false c]
    refine iteF ?_
    refine ⟨_, rfl, o, C, A.dx, _, _, rfl, g.ins, T.cl, T.no 2 rfl, PrM.look A m 2 rfl rfl, _, _, rfl, rfl, A.dx, _, g.ins, (by show 13 < 1000; decide), ?_⟩
    have g1 := g.put 2 "ticks" (.int (m.tk - 1)) { m with tk := m.tk - 1 } rfl rfl rfl rfl rfl rfl rfl
    generalize upd H o (.ins C A.dx (putF "ticks" (.int (m.tk - 1)) (prK.zip (prV A m)))) = H1 at g1 ⊢
    refine ⟨_, rfl, o, C, A.dx, _, rfl, g1.ins, T.cl, T.no 10 rfl, (by show 13 < 1000; decide), ?_⟩
    have g2 := g1.put 10 "idle" (.int 0) { m with tk := m.tk - 1, idl := 0 } rfl rfl rfl rfl rfl rfl rfl
    generalize upd H1 o _ = H2 at g2 ⊢
    refine ⟨_, rfl, _, rfl, o, C, A.dx, _, rfl, g2.ins, T.cl, T.no 11 rfl, (by show 13 < 1000; decide), ?_⟩
    exact k1 _ (by show (if m.tk = 0 then _ else _) = _; rw [if_neg c]) A _ (g2.put 11 "number" (.int n) { m with tk := m.tk - 1, idl := 0, nb := .int n } rfl rfl rfl rfl rfl rfl rfl)
theorem sc_amake_frame : FnScope ["play", "number"] ["play", "number"] (defScope S_make_frame) := ⟨rfl, rfl, rfl, by decide +kernel, rfl, by decide +kernel, by decide +kernel⟩
theorem ok_amake_frame {f : Addr} {fd : FuncData} (F : Fun K "make_frame" "make_frame" S_make_frame f fd) (T : PTx K C) (n : Nat) : FnOk P w K mg base (L2.CX P w) 4 f fd ["play", "number"] (spAct K C CE (.frame n)) := by
  refine F.okX sc_amake_frame (fun vs H Q E h => ?_) (fun cdv A0 outer s0 H vs Q E hr h => ?_)
  · obtain ⟨o, B, h, w, A, m, rfl, _⟩ := h
    rfl
  obtain ⟨o, B, h, w, A, m, e0, g, ⟨okm, pre⟩, k1, k2⟩ := h
  have e0 : vs = [.ref o, .int (n : Int)] := e0
  subst e0
  refine ⟨_, pss_one (ps_fld (pv 0) (pe_op op_rep (pe_lst (pa_cons pe_non pa_nil)) (pv 1)) rfl), ?_⟩
  have pre : n ≤ 10 := pre
  refine ⟨(by show 1 ≤ sizeLine; decide), fun p np => ?_⟩
  have g1 := g.same (same_nw np (.lst [.non]))
  have hp : (upd H p (.lst [.non])) p = some (.lst [.non]) := upd_same
  generalize upd H p (.lst [.non]) = H1 at g1 hp ⊢
  refine ⟨_, rfl, p, _, _, rfl, rfl, hp, by omega, by omega, Nat.le_trans (show 1 * (n : Int).toNat ≤ 100 by omega) (by decide), fun q nq => ?_⟩
  have eq : (List.replicate (n : Int).toNat [V.non]).flatten = slV (List.replicate n none) := by
    unfold slV
    rw [List.map_replicate, Int.toNat_natCast]
    exact flat_non n
  rw [eq]
  have s2 := same_nw nq (.lst (slV (List.replicate n none)))
  have hq : (upd H1 q (.lst (slV (List.replicate n none)))) q = some (.lst (slV (List.replicate n none))) := upd_same
  have g2 := g1.same s2
  have nqs : q ≠ A.sa ∧ q ≠ A.na ∧ q ≠ A.da ∧ q ≠ o := ⟨(fun e => by rw [e, g1.stk] at nq; cases nq), (fun e => by rw [e, g1.ln] at nq; cases nq), (fun e => by rw [e, g1.sd] at nq; cases nq), (fun e => by rw [e, g1.ins] at nq; cases nq)⟩
  have nBq : B q = none := g1.sm.free nq
  generalize upd H1 q (.lst (slV (List.replicate n none))) = H2 at g2 hq ⊢
  refine ⟨_, rfl, o, C, A.dx, _, rfl, g2.ins, T.cl, T.no 5 rfl, (by show 13 < 1000; decide), ?_⟩
  refine k1 _ rfl { A with la := q } _ ?_
  obtain ⟨i1, i2, i3, i4⟩ := g2.ne_ins
  obtain ⟨q1, q2, q3, q4⟩ := nqs
  rw [putF_zip "slots" (.ref q) prK (prV A m) 5 rfl prK_nd rfl]
  exact ⟨upd_same, kt_ins g2.ins _ _ g2.pic, by rw [upd_ne i1]; exact g2.stk, by rw [upd_ne q4]; exact hq, by rw [upd_ne i3]; exact g2.ln, by rw [upd_ne i4]; exact g2.sd, ⟨q1.symm, g2.n1.2.1, g2.n1.2.2⟩, ⟨q2, q3, g2.n2.2.2⟩, ⟨g2.fr.1, g2.fr.2.1, nBq, g2.fr.2.2.2.1, g2.fr.2.2.2.2⟩, sm_upd g2.sm g2.fr.1, g2.sz⟩
end
end KD

/-! The machine's orders that take two or paint; store. -/
namespace KD
open PySem L2 TL
section
variable {P : Program} {w : World} {K : PySem.W.Frag} {mg : Str → Option Value} {base : Heap} {C CE : Addr}
theorem sc_astore : FnScope ["play", "number"] ["play", "number"] (defScope S_store) := ⟨rfl, rfl, rfl, by decide +kernel, rfl, by decide +kernel, by decide +kernel⟩
theorem ok_astore {f fT fI : Addr} {fd fdT fdI : FuncData} (F : Fun K "store" "store" S_store f fd) (T : PTx K C) (TE : EnT K mg CE fI fdI) (Bl : Blt mg) (GT : FnOk P w K mg base (L2.CX P w) 3 fT fdT ["self"] (spTake K C CE)) (mT : Meth K C "take" fT) (bT : Binds K fdT ["self"] []) (n : Nat) : FnOk P w K mg base (L2.CX P w) 4 f fd ["play", "number"] (spAct K C CE (.store n)) := by
  refine F.okX sc_astore (fun vs H Q E h => ?_) (fun cdv A0 outer s0 H vs Q E hr h => ?_)
  · obtain ⟨o, B, h, w, A, m, rfl, _⟩ := h
    rfl
  obtain ⟨o, B, h, w, A, m, e0, g, ⟨okm, pre⟩, k1, k2⟩ := h
  have e0 : vs = [.ref o, .int (n : Int)] := e0
  subst e0
  refine ⟨_, pss_cons (ps_if (pt_cmpR op_ge (pv 1) (pe_callB call_len_seq (by rfl) Bl.len PySem.boot_len (pa_cons (pe_fld (pv 0) rfl) pa_nil)) (nomark _)) (pss_one (ps_ended TE rfl (hr.mono (by decide)) (takes_of rfl rfl rfl rfl) (by rfl))) pss_nil)
    (pss_one (ps_asg (pe_meth0 (pv 0) T.cl mT GT (hr.mono (by decide)) bT .nil (psX rfl rfl rfl rfl)) (pg_sub (pe_fld (pv 0) rfl) (pv 1) set_list))), ?_⟩
  have pre : n < m.sl.length := pre
  refine ⟨_, rfl, _, rfl, o, C, A.dx, _, _, rfl, g.ins, T.cl, T.no 5 rfl, PrM.look A m 5 rfl rfl, A.la, _, rfl, .inl (SqL.of g.sl), _, _, rfl, rfl, _, rfl, ?_⟩
  rw [slV_len, decide_eq_false (show ¬ ((n : Int) ≥ ((m.sl.length : Nat) : Int)) by omega)]
  refine iteF ?_
  refine ⟨_, rfl, o, _, _, rfl, g.ins, prK_no A m (by decide +kernel), o, B, h, w, A, m, rfl, g, fun x hx H1 g1 => ?_, fun hx d H1 s1 nd hd => ?_⟩
  · refine ⟨_, rfl, o, C, A.dx, _, _, rfl, g1.ins, T.cl, T.no 5 rfl, PrM.look A { m with stk := m.stk.dropLast } 5 rfl rfl, _, rfl, A.la, _, _, n, rfl, rfl, g1.sl, ?_, ?_⟩
    · unfold ixN
      rw [if_pos (Int.natCast_nonneg n), if_pos (by rw [slV_len]; exact Int.ofNat_lt.mpr pre), Int.toNat_natCast]
    rw [slV_set]
    exact k1 _ (by show (match m.stk.getLast? with | some x => _ | none => _) = _; rw [hx]) A _ (g1.setSl _)
  · exact k2 "broken" (by show (match m.stk.getLast? with | some x => _ | none => _) = _; rw [hx]) d A m.stk H1 (g.same s1) hd
theorem sc_apaint_row : FnScope ["play", "number"] ["play", "number"] (defScope S_paint_row) := ⟨rfl, rfl, rfl, by decide +kernel, rfl, by decide +kernel, by decide +kernel⟩
theorem ok_apaint_row {f fT fP fR : Addr} {fd fdT fdP fdR : FuncData} (F : Fun K "paint_row" "paint_row" S_paint_row f fd) (T : PTx K C) (GT : FnOk P w K mg base (L2.CX P w) 3 fT fdT ["self"] (spTake K C CE)) (mT : Meth K C "take" fT) (bT : Binds K fdT ["self"] []) (GP : FnOk P w K mg base CX0 2 fP fdP ["self", "line"] (spPaint K C)) (mP : Meth K C "paint" fP) (bP : Binds K fdP ["self", "line"] []) (GR : FnOk P w K mg base (L2.CX P w) 3 fR fdR ["picture", "row"] (spRowL K CE)) (mR : mg "row_line" = some (.ref fR)) (kR : PySem.W.keepIn K (.ref fR) = true) (bR : Binds K fdR ["picture", "row"] []) : FnOk P w K mg base (L2.CX P w) 4 f fd ["play", "number"] (spAct K C CE .row) := by
  refine F.okX sc_apaint_row (fun vs H Q E h => ?_) (fun cdv A0 outer s0 H vs Q E hr h => ?_)
  · obtain ⟨o, B, h, w, A, m, rfl, _⟩ := h
    rfl
  obtain ⟨o, B, h, w, A, m, e0, g, ⟨okm, pre⟩, k1, k2⟩ := h
  have e0 : vs = [.ref o, .int 0] := e0
  subst e0
  refine ⟨_, pss_one (ps_expr (pe_meth (pv 0) T.cl mP GP (hr.mono (by decide)) bP .nil pass0 (pa_cons (pe_call GR (hr.mono (by decide)) rfl mR kR bR .nil (psX rfl rfl rfl rfl) (pa_cons (pe_fld (pv 0) rfl) (pa_cons (pe_meth0 (pv 0) T.cl mT GT (hr.mono (by decide)) bT .nil (psX rfl rfl rfl rfl)) pa_nil))) pa_nil))), ?_⟩
  refine ⟨_, rfl, o, _, _, rfl, g.ins, prK_no A m (by decide +kernel), _, rfl, o, C, A.dx, _, _, rfl, g.ins, T.cl, T.no 1 rfl, PrM.look A m 1 rfl rfl, _, rfl, o, _, _, rfl, g.ins, prK_no A m (by decide +kernel), o, B, h, w, A, m, rfl, g, fun x hx H1 g1 => ?_, fun hx d H1 s1 nd hd => ?_⟩
  · refine ⟨A.pa, m.pic, h, w, x, rfl, g1.pic, g1.sz, fun c => ?_, fun c d H2 s2 nd hd => ?_⟩
    · have e : x - 1 = (((x - 1).toNat : Nat) : Int) := by omega
      rw [e]
      refine ⟨o, B, h, w, A, _, (x - 1).toNat, rfl, g1, by omega, okm.l2, fun A' H2 g2 => ?_⟩
      exact k1 _ (by show (match m.stk.getLast? with | some x => _ | none => _) = _; rw [hx]; show (if _ then _ else _) = _; rw [if_pos c]) A' H2 g2
    · exact k2 "range" (by show (match m.stk.getLast? with | some x => _ | none => _) = _; rw [hx]; show (if _ then _ else _) = _; rw [if_neg c]) d A m.stk.dropLast H2 (g1.same s2) hd
  · exact k2 "broken" (by show (match m.stk.getLast? with | some x => _ | none => _) = _; rw [hx]) d A m.stk H1 (g.same s1) hd
theorem sc_apaint_column : FnScope ["play", "number"] ["play", "number"] (defScope S_paint_column) := ⟨rfl, rfl, rfl, by decide +kernel, rfl, by decide +kernel, by decide +kernel⟩
theorem ok_apaint_column {f fT fP fR : Addr} {fd fdT fdP fdR : FuncData} (F : Fun K "paint_column" "paint_column" S_paint_column f fd) (T : PTx K C) (GT : FnOk P w K mg base (L2.CX P w) 3 fT fdT ["self"] (spTake K C CE)) (mT : Meth K C "take" fT) (bT : Binds K fdT ["self"] []) (GP : FnOk P w K mg base CX0 2 fP fdP ["self", "line"] (spPaint K C)) (mP : Meth K C "paint" fP) (bP : Binds K fdP ["self", "line"] []) (GR : FnOk P w K mg base (L2.CX P w) 3 fR fdR ["picture", "column"] (spColL K CE)) (mR : mg "column_line" = some (.ref fR)) (kR : PySem.W.keepIn K (.ref fR) = true) (bR : Binds K fdR ["picture", "column"] []) : FnOk P w K mg base (L2.CX P w) 4 f fd ["play", "number"] (spAct K C CE .col) := by
  refine F.okX sc_apaint_column (fun vs H Q E h => ?_) (fun cdv A0 outer s0 H vs Q E hr h => ?_)
  · obtain ⟨o, B, h, w, A, m, rfl, _⟩ := h
    rfl
  obtain ⟨o, B, h, w, A, m, e0, g, ⟨okm, pre⟩, k1, k2⟩ := h
  have e0 : vs = [.ref o, .int 0] := e0
  subst e0
  refine ⟨_, pss_one (ps_expr (pe_meth (pv 0) T.cl mP GP (hr.mono (by decide)) bP .nil pass0 (pa_cons (pe_call GR (hr.mono (by decide)) rfl mR kR bR .nil (psX rfl rfl rfl rfl) (pa_cons (pe_fld (pv 0) rfl) (pa_cons (pe_meth0 (pv 0) T.cl mT GT (hr.mono (by decide)) bT .nil (psX rfl rfl rfl rfl)) pa_nil))) pa_nil))), ?_⟩
  refine ⟨_, rfl, o, _, _, rfl, g.ins, prK_no A m (by decide +kernel), _, rfl, o, C, A.dx, _, _, rfl, g.ins, T.cl, T.no 1 rfl, PrM.look A m 1 rfl rfl, _, rfl, o, _, _, rfl, g.ins, prK_no A m (by decide +kernel), o, B, h, w, A, m, rfl, g, fun x hx H1 g1 => ?_, fun hx d H1 s1 nd hd => ?_⟩
  · refine ⟨A.pa, m.pic, h, w, x, rfl, g1.pic, g1.sz, fun c => ?_, fun c d H2 s2 nd hd => ?_⟩
    · have e : (h : Int) + x - 1 = ((h + (x - 1).toNat : Nat) : Int) := by omega
      rw [e]
      refine ⟨o, B, h, w, A, _, h + (x - 1).toNat, rfl, g1, by omega, okm.l2, fun A' H2 g2 => ?_⟩
      exact k1 _ (by show (match m.stk.getLast? with | some x => _ | none => _) = _; rw [hx]; show (if _ then _ else _) = _; rw [if_pos c]) A' H2 g2
    · exact k2 "range" (by show (match m.stk.getLast? with | some x => _ | none => _) = _; rw [hx]; show (if _ then _ else _) = _; rw [if_neg c]) d A m.stk.dropLast H2 (g1.same s2) hd
  · exact k2 "broken" (by show (match m.stk.getLast? with | some x => _ | none => _) = _; rw [hx]) d A m.stk H1 (g.same s1) hd
theorem sc_alook : FnScope ["play", "number", "column"] ["play", "number"] (defScope S_look) := ⟨rfl, rfl, rfl, by decide +kernel, rfl, by decide +kernel, by decide +kernel⟩
theorem ok_alook {f fT fR : Addr} {fd fdT fdR : FuncData} (F : Fun K "look" "look" S_look f fd) (T : PTx K C) (GT : FnOk P w K mg base (L2.CX P w) 3 fT fdT ["self"] (spTake K C CE)) (mT : Meth K C "take" fT) (bT : Binds K fdT ["self"] []) (GR : FnOk P w K mg base (L2.CX P w) 3 fR fdR ["picture", "row", "column"] (spCell K CE)) (mR : mg "cell" = some (.ref fR)) (kR : PySem.W.keepIn K (.ref fR) = true) (bR : Binds K fdR ["picture", "row", "column"] []) : FnOk P w K mg base (L2.CX P w) 4 f fd ["play", "number"] (spAct K C CE .black) := by
  refine F.okX sc_alook (fun vs H Q E h => ?_) (fun cdv A0 outer s0 H vs Q E hr h => ?_)
  · obtain ⟨o, B, h, w, A, m, rfl, _⟩ := h
    rfl
  obtain ⟨o, B, h, w, A, m, e0, g, ⟨okm, pre⟩, k1, k2⟩ := h
  have e0 : vs = [.ref o, .int 0] := e0
  subst e0
  refine ⟨_, pss_cons (ps_set (i := 2) sc_alook.nd rfl (Or.inl rfl) (pe_meth0 (pv 0) T.cl mT GT (hr.mono (by decide)) bT .nil (psX rfl rfl rfl rfl))) (pss_one (ps_expr (pe_bm PySem.F.plainAttrs_list PySem.F.slot_list_append PySem.F.type_list_append mt_append (pe_fld (pv 0) rfl) (pa_cons (pe_call GR (hr.mono (by decide)) rfl mR kR bR .nil (psX rfl rfl rfl rfl) (pa_cons (pe_fld (pv 0) rfl) (pa_cons (pe_meth0 (pv 0) T.cl mT GT (hr.mono (by decide)) bT .nil (psX rfl rfl rfl rfl)) (pa_cons (pv 2) pa_nil)))) pa_nil)))), ?_⟩
  refine ⟨_, rfl, o, _, _, rfl, g.ins, prK_no A m (by decide +kernel), o, B, h, w, A, m, rfl, g, fun c hc H1 g1 => ?_, fun hx d H1 s1 nd hd => ?_⟩
  · refine ⟨_, rfl, o, C, A.dx, _, _, rfl, g1.ins, T.cl, T.no 4 rfl, PrM.look A { m with stk := m.stk.dropLast } 4 rfl rfl, .inl ⟨rfl, _, SqL.of g1.stk⟩, _, rfl, o, C, A.dx, _, _, rfl, g1.ins, T.cl, T.no 1 rfl, PrM.look A { m with stk := m.stk.dropLast } 1 rfl rfl, _, rfl, o, _, _, rfl, g1.ins, prK_no A { m with stk := m.stk.dropLast } (by decide +kernel), o, B, h, w, A, { m with stk := m.stk.dropLast }, rfl, g1, fun r hr' H2 g2 => ?_, fun hx d H2 s2 nd hd => ?_⟩
    · have hr2 : m.stk.dropLast.getLast? = some r := hr'
      refine ⟨_, rfl, A.pa, m.pic, h, w, r, c, rfl, g2.pic, g2.sz, fun q => ?_, fun q d H3 s3 nd hd => ?_⟩
      · refine ⟨A.sa, _, _, rfl, rfl, g2.stk, ?_, ?_⟩
        · rw [List.length_map]
          have := okm.l1
          exact Nat.lt_of_le_of_lt (show m.stk.dropLast.dropLast.length ≤ 2000 by rw [List.length_dropLast, List.length_dropLast]; omega) (by decide)
        · exact k1 _ (by show (match m.stk.getLast?, m.stk.dropLast.getLast? with | some c, some r => _ | _, _ => _) = _; rw [hc, hr2]; show (if _ then _ else _) = _; rw [if_pos q]) A _ (g2.push _)
      · exact k2 "range" (by show (match m.stk.getLast?, m.stk.dropLast.getLast? with | some c, some r => _ | _, _ => _) = _; rw [hc, hr2]; show (if _ then _ else _) = _; rw [if_neg q]) d A m.stk.dropLast.dropLast H3 (g2.same s3) hd
    · have hx2 : m.stk.dropLast.getLast? = none := hx
      exact k2 "broken" (by show (match m.stk.getLast?, m.stk.dropLast.getLast? with | some c, some r => _ | _, _ => _) = _; rw [hc, hx2]) d A m.stk.dropLast H2 (g1.same s2) hd
  · exact k2 "broken" (by show (match m.stk.getLast?, m.stk.dropLast.getLast? with | some c, some r => _ | _, _ => _) = _; rw [hx]) d A m.stk H1 (g.same s1) hd
end
end KD

/-! The machine's do_order, do_next, go. -/
namespace KD
open PySem L2 TL
/-- not one of those that OF_TWO, OF_ONE hold -/
def Od.plain : Od → Bool
  | .two _ => false | .one _ => false | _ => true
structure DsT (K : PySem.W.Frag) (w : World) (d2 d1 : Addr) : Prop where
  k2 : ∃ es n, KDict K w d2 es n
  k1 : ∃ es n, KDict K w d1 es n
  i2 : ∀ o : O2, ∃ r, PySem.W.nsIn K d2 o.w = some (some r)
  n2 : ∀ od : Od, od.plain = true → PySem.W.nsIn K d2 od.w = some none
  m2 : ∀ o : O1, PySem.W.nsIn K d2 o.w = some none
  i1 : ∀ o : O1, ∃ r, PySem.W.nsIn K d1 o.w = some (some r)
  n1 : ∀ od : Od, od.plain = true → PySem.W.nsIn K d1 od.w = some none
def spOrd (K : PySem.W.Frag) (C CE : Addr) : Sp := fun vs H Q E => ∃ (od : Od) (o : Addr) (B : Hp) (h w : Nat) (A : PrA) (m : Ms), vs = [.ref o, .str od.w, .int od.n] ∧ PrM K C o B h w A m H ∧ preA od m ∧
  (∀ m', act h w od m = .ok m' → ∀ (A' : PrA) H', PrM K C o B h w { A' with co := A.co } m' H' → Q .non H') ∧
  (∀ e, act h w od m = .error e → ∀ d (A' : PrA) s' H', PrM K C o B h w { A' with co := A.co } { m with stk := s' } H' → H' d = some (endD e) → E (.ref CE) (some d) H')
section
variable {P : Program} {w : World} {K : PySem.W.Frag} {mg : Str → Option Value} {base : Heap} {C CE : Addr}
abbrev ordN : List Str := ["self", "word", "number", "second", "action"]
theorem sc_ord : FnScope ordN ["self", "word", "number"] (defScope S_Processor_do_order) := ⟨rfl, rfl, rfl, by decide +kernel, rfl, by decide +kernel, by decide +kernel⟩
theorem ok_ord {f fT f2 f1 d2 d1 dA : Addr} {fd fdT fd2 fd1 : FuncData} (F : Fun K "do_order" "Processor.do_order" S_Processor_do_order f fd) (T : PTx K C) (D : DsT K w d2 d1) (g2 : mg "OF_TWO" = some (.ref d2)) (g1 : mg "OF_ONE" = some (.ref d1)) (gA : mg "ACTIONS" = some (.ref dA))
    (GT : FnOk P w K mg base (L2.CX P w) 3 fT fdT ["self"] (spTake K C CE)) (mT : Meth K C "take" fT) (bT : Binds K fdT ["self"] [])
    (G2 : FnOk P w K mg base (L2.CX P w) 5 f2 fd2 ["word", "first", "second"] (spM2 CE)) (m2 : mg "made_of_two" = some (.ref f2)) (k2 : PySem.W.keepIn K (.ref f2) = true) (b2 : Binds K fd2 ["word", "first", "second"] [])
    (G1 : FnOk P w K mg base CX0 5 f1 fd1 ["word", "number"] spM1) (m1 : mg "made_of_one" = some (.ref f1)) (k1 : PySem.W.keepIn K (.ref f1) = true) (b1 : Binds K fd1 ["word", "number"] [])
    (hA : ∀ od : Od, od.plain = true → ∃ g gd, KDct K w dA od.w (.ref g) ∧ FnOk P w K mg base (L2.CX P w) 4 g gd ["play", "number"] (spAct K C CE od) ∧ PySem.W.keepIn K (.ref g) = true ∧ Binds K gd ["play", "number"] []) :
    FnOk P w K mg base (L2.CX P w) 6 f fd ["self", "word", "number"] (spOrd K C CE) := by
  refine F.okX sc_ord (fun vs H Q E h => ?_) (fun cdv A0 outer s0 H vs Q E hr h => ?_)
  · obtain ⟨od, o, B, h, w, A, m, rfl, _⟩ := h
    rfl
  obtain ⟨od, o, B, h, w, A, m, rfl, g, pre, q1, q2⟩ := h
  obtain ⟨es2, n2, K2⟩ := D.k2
  obtain ⟨es1, n1, K1⟩ := D.k1
  have okm := pre.1
  refine ⟨_, pss_one (ps_if (pt_cmpR (op_in_kd K2) (pv 1) (pe_glob (v := .ref d2) rfl g2 rfl) (by rfl))
      (pss_cons (ps_set (i := 3) sc_ord.nd rfl (Or.inl rfl) (pe_meth0 (pv 0) T.cl mT GT (hr.mono (by decide)) bT .nil (psX rfl rfl rfl rfl)))
      (pss_one (ps_expr (pe_bm PySem.F.plainAttrs_list PySem.F.slot_list_append PySem.F.type_list_append mt_append (pe_fld (pv 0) rfl) (pa_cons (pe_call G2 hr rfl m2 k2 b2 .nil (psX rfl rfl rfl rfl) (pa_cons (pv 1) (pa_cons (pe_meth0 (pv 0) T.cl mT GT (hr.mono (by decide)) bT .nil (psX rfl rfl rfl rfl)) (pa_cons (pv 3) pa_nil)))) pa_nil)))))
      (pss_one (ps_if (pt_cmpR (op_in_kd K1) (pv 1) (pe_glob (v := .ref d1) rfl g1 rfl) (by rfl))
        (pss_one (ps_expr (pe_bm PySem.F.plainAttrs_list PySem.F.slot_list_append PySem.F.type_list_append mt_append (pe_fld (pv 0) rfl) (pa_cons (pe_call G1 hr rfl m1 k1 b1 .nil pass0 (pa_cons (pv 1) (pa_cons (pe_meth0 (pv 0) T.cl mT GT (hr.mono (by decide)) bT .nil (psX rfl rfl rfl rfl)) pa_nil))) pa_nil))))
        (pss_cons (ps_set (i := 4) sc_ord.nd rfl (Or.inl rfl) (pe_ix ix_kdict (pe_glob (v := .ref dA) rfl gA rfl) (pv 1) (fun _ _ => rfl)))
        (pss_one (ps_expr (pe_cvF (i := 4) (j := 5) hr rfl (Or.inl rfl) (psX rfl rfl rfl rfl) (pa_cons (pv 0) (pa_cons (pv 2) pa_nil))))))))), ?_⟩
  by_cases hp : od.plain = true
  · obtain ⟨gf, gd, kd, FG, kp, bd⟩ := hA od hp
    refine ⟨_, rfl, od.w, _, rfl, rfl, D.n2 od hp, _, rfl, iteF ?_⟩
    refine ⟨_, rfl, od.w, _, rfl, rfl, D.n1 od hp, _, rfl, iteF ?_⟩
    exact ⟨_, rfl, dA, od.w, _, rfl, rfl, kd, gf, gd, _, spAct K C CE od, 4, rfl, FG, by decide, kp, bd, _, rfl, _, rfl, o, B, h, w, A, m, rfl, g, pre, q1, q2⟩
  cases od with
  | two o2 =>
    obtain ⟨r, hr2⟩ := D.i2 o2
    refine ⟨_, rfl, o2.w, _, rfl, rfl, hr2, _, rfl, iteT ?_⟩
    refine ⟨_, rfl, o, _, _, rfl, g.ins, prK_no A m (by decide +kernel), o, B, h, w, A, m, rfl, g, fun b hb H1 g1 => ?_, fun hx d H1 s1 nd hd => ?_⟩
    · refine ⟨_, rfl, o, C, A.dx, _, _, rfl, g1.ins, T.cl, T.no 4 rfl, PrM.look A { m with stk := m.stk.dropLast } 4 rfl rfl, .inl ⟨rfl, _, SqL.of g1.stk⟩, _, rfl, _, rfl, o, _, _, rfl, g1.ins, prK_no A { m with stk := m.stk.dropLast } (by decide +kernel), o, B, h, w, A, { m with stk := m.stk.dropLast }, rfl, g1, fun a ha H2 g2 => ?_, fun hx d H2 s2 nd hd => ?_⟩
      · have ha2 : m.stk.dropLast.getLast? = some a := ha
        have sb := small_last okm.s1 hb
        have sa : Small a := okm.s1 a (List.dropLast_subset _ (List.mem_of_getLast? ha2))
        refine ⟨_, rfl, o2, a, b, rfl, sa, sb, fun c => ?_, fun c d H3 s3 nd hd => ?_⟩
        · refine ⟨A.sa, _, _, rfl, rfl, g2.stk, ?_, ?_⟩
          · rw [List.length_map]
            have := okm.l1
            exact Nat.lt_of_le_of_lt (show m.stk.dropLast.dropLast.length ≤ 2000 by rw [List.length_dropLast, List.length_dropLast]; omega) (by decide)
          · exact q1 _ (by show (match m.stk.getLast?, m.stk.dropLast.getLast? with | some b, some a => _ | _, _ => _) = _; rw [hb, ha2]; show (if _ then _ else _) = _; rw [if_pos c]) A _ (g2.push _)
        · exact q2 "number" (by show (match m.stk.getLast?, m.stk.dropLast.getLast? with | some b, some a => _ | _, _ => _) = _; rw [hb, ha2]; show (if _ then _ else _) = _; rw [if_neg c]) d A m.stk.dropLast.dropLast H3 (g2.same s3) hd
      · have hx2 : m.stk.dropLast.getLast? = none := hx
        exact q2 "broken" (by show (match m.stk.getLast?, m.stk.dropLast.getLast? with | some b, some a => _ | _, _ => _) = _; rw [hb, hx2]) d A m.stk.dropLast H2 (g1.same s2) hd
    · exact q2 "broken" (by show (match m.stk.getLast?, m.stk.dropLast.getLast? with | some b, some a => _ | _, _ => _) = _; rw [hx]) d A m.stk H1 (g.same s1) hd
  | one o1 =>
    obtain ⟨r, hr1⟩ := D.i1 o1
    refine ⟨_, rfl, o1.w, _, rfl, rfl, D.m2 o1, _, rfl, iteF ?_⟩
    refine ⟨_, rfl, o1.w, _, rfl, rfl, hr1, _, rfl, iteT ?_⟩
    refine ⟨_, rfl, o, C, A.dx, _, _, rfl, g.ins, T.cl, T.no 4 rfl, PrM.look A m 4 rfl rfl, .inl ⟨rfl, _, SqL.of g.stk⟩, _, rfl, _, rfl, o, _, _, rfl, g.ins, prK_no A m (by decide +kernel), o, B, h, w, A, m, rfl, g, fun a ha H1 g1 => ?_, fun hx d H1 s1 nd hd => ?_⟩
    · refine ⟨o1, a, rfl, A.sa, _, _, rfl, rfl, g1.stk, ?_, ?_⟩
      · rw [List.length_map]
        have := okm.l1
        exact Nat.lt_of_le_of_lt (show m.stk.dropLast.length ≤ 2000 by rw [List.length_dropLast]; omega) (by decide)
      · exact q1 _ (by show (match m.stk.getLast? with | some x => _ | none => _) = _; rw [ha]) A _ (g1.push _)
    · exact q2 "broken" (by show (match m.stk.getLast? with | some x => _ | none => _) = _; rw [hx]) d A m.stk H1 (g.same s1) hd
  | _ => exact absurd rfl hp
end
end KD

/-! The machine's do_next, go. -/
namespace KD
open PySem PySem.Spec PyProof.Rows L2 TL
/-- o.m(e, ..) in a try's body -/
def tMethE (C : Addr) (m : Str) (sp : Sp) (E : L2.St → XK) (ta : TE) (t : TA) : TE := fun σ H Q => ta σ H fun x H1 => ∃ a dx fs, x = .ref a ∧ H1 a = some (.ins C dx fs) ∧ fs.lookup m = none ∧ t σ H1 fun vs H2 => sp (x :: vs) H2 Q (E σ)
theorem pe_methE {X : Cx} {CX : CXT} {k : Nat} {f C : Addr} {fd : FuncData} {ps : List Str} {sp : Sp} {E : L2.St → XK} {m : Str} {pos apos : Pos} {e o : Expr} {es : List Expr} {ta : TE} {t : TA} {pl : Sem Bool} (he : PE X o ta) (c : Cls X.K C) (hm : Meth X.K C m f) (F : FnOk X.prog X.w X.K X.mg X.base CX k f fd ps sp) (hr : Room k X.A) (hb : Binds X.K fd ps []) (hx : ∀ σ, PassesAt CX X σ (E σ)) (ha : PA X (e :: es) t)
    (hst : starEach (e :: es) X.env = (false, eval e X.env) :: starEach es X.env := by rfl) (hpl : (backTo pos (starEach es X.env)).any (·.1) = false := by rfl)
    (ht : eval (.Call (.Attribute o m apos) (e :: es) [] pos) X.env = (do
      let ov ← eval o X.env
      standAt apos.atName
      let (f, first) ← holding [ov] (getMethod ov m pl)
      callWith pos f first (backTo pos (starEach (e :: es) X.env)) (backToKw pos (keywordEach [] X.env))) := by rfl) :
    PE X (.Call (.Attribute o m apos) (e :: es) [] pos) (tMethE C m sp E ta t) := by
  refine ⟨fun pins s σ H Q I h => ?_⟩
  refine PySem.W.methodCall_KW (pl := pl) (thn (he.run pins s σ H _ I h) fun u s1 ⟨x, H1, I1, rx, a, dx, fs, ex, ea, l, q⟩ => ?_) ht
  subst ex
  obtain rfl : u = Value.ref a := rx
  refine getmeth_ok I1 ea c hm l ?_
  refine PySem.W.callWith_K (first := [.ref a]) (h₀ := X.base) I.ok.mod.kin hm.kp (thn (ha.run pos pins s1 σ H1 _ I1 q) fun us s2 ⟨vs, H2, I2, r, q2⟩ => ⟨I2.kIn, ?_⟩) hst hpl
  exact run_fnS (us := .ref a :: us) (vs := .ref a :: vs) F hr hb (hx σ) I2 (.cons rfl r) q2
/-- an order as data -/
def odD (od : Od) : PyData := .tuple [.str od.w, .int od.n]
/-- the same but for a stack left behind at an end -/
def EqS (m2 m1 : Ms) : Prop := m2 = { m1 with stk := m2.stk } ∧ (m1.en = "" → m2 = m1)
theorem EqS.refl (m : Ms) : EqS m m := ⟨rfl, fun _ => rfl⟩
theorem EqS.en {m2 m1 : Ms} (h : EqS m2 m1) : m2.en = m1.en := by rw [h.1]
/-- what must hold for one order to be done -/
structure CanDo (h w : Nat) (code : List Od) (m : Ms) (od : Od) : Prop where
  at0 : 0 ≤ m.at_
  cd : code[m.at_.toNat]? = some od
  pre : preA od m.next
  idl : m.idl + 1 < 100000
  id0 : 0 ≤ m.idl
theorem act_en {h w : Nat} {od : Od} {m m' : Ms} (e : act h w od m = .ok m') : m'.en = m.en ∧ (m'.idl = m.idl ∨ m'.idl = 0) := by
  cases od <;> simp only [act] at e
  all_goals first
    | (cases e; exact ⟨rfl, .inl rfl⟩)
    | (cases e; done)
    | (split at e <;> first | (cases e; exact ⟨rfl, .inl rfl⟩) | (cases e; exact ⟨rfl, .inr rfl⟩) | (cases e) | (split at e <;> first | (cases e; exact ⟨rfl, .inl rfl⟩) | (cases e)))
theorem act_err {h w : Nat} {od : Od} {m : Ms} {e : Str} (x : act h w od m = .error e) : e ∈ (["broken", "range", "number", "limit", "done"] : List Str) := by
  cases od <;> simp only [act] at x
  all_goals first
    | (cases x; simp)
    | (cases x)
    | (split at x <;> first | (cases x; simp) | (cases x) | (split at x <;> first | (cases x; simp) | (cases x)))
def spNext (K : PySem.W.Frag) (C : Addr) : Sp := fun vs H Q _ => ∃ (o : Addr) (B : Hp) (h w : Nat) (A : PrA) (m : Ms) (code : List Od) (od : Od), vs = [.ref o] ∧ PrM K C o B h w A m H ∧ Dp K B (.ref A.co) (.tuple (code.map odD)) ∧ CanDo h w code m od ∧ m.en = "" ∧
  ∀ A' m' H', PrM K C o B h w A' m' H' → A'.co = A.co → EqS m' (stp h w od m) → Q .non H'
section
variable {P : Program} {w : World} {K : PySem.W.Frag} {mg : Str → Option Value} {base : Heap} {C CE : Addr}
abbrev nxN : List Str := ["self", "word", "number", "ended"]
theorem sc_nx : FnScope nxN ["self"] (defScope S_Processor_do_next) := ⟨rfl, rfl, rfl, by decide +kernel, rfl, by decide +kernel, by decide +kernel⟩
theorem ok_next {f fO fI : Addr} {fd fdO fdI : FuncData} (F : Fun K "do_next" "Processor.do_next" S_Processor_do_next f fd) (T : PTx K C) (TE : EnT K mg CE fI fdI) (mI : ∃ t, mg "MOST_IDLE" = some (.int 100000 t))
    (GO : FnOk P w K mg base (L2.CX P w) 6 fO fdO ["self", "word", "number"] (spOrd K C CE)) (mO : Meth K C "do_order" fO) (bO : Binds K fdO ["self", "word", "number"] []) :
    FnOk P w K mg base CX0 7 f fd ["self"] (spNext K C) := by
  refine F.ok sc_nx (fun vs H Q E h => ?_) (fun cdv A0 outer s0 H vs Q E hr h => ?_)
  · obtain ⟨o, B, h, w, A, m, code, od, rfl, _⟩ := h
    rfl
  obtain ⟨o, B, h, w, A, m, code, od, rfl, g, hc, can, e0, k⟩ := h
  obtain ⟨tI, mI⟩ := mI
  refine ⟨_, pss_cons (ps_asg (pe_ix ix_tup (pe_fld (pv 0) rfl) (pe_fld (pv 0) rfl) (fun _ _ => rfl)) (pg_tup rfl (pgs_cons (pg_name (i := 1) sc_nx.nd rfl (Or.inl rfl)) (pgs_cons (pg_name (i := 2) sc_nx.nd rfl (Or.inl rfl)) pgs_nil))))
    (pss_cons (ps_fldaug (pv 0) pe_int iop_add) (pss_cons (ps_fldaug (pv 0) pe_int iop_add) (pss_cons (ps_fldaug (pv 0) pe_int iop_add)
    (pss_one (ps_try_as (i := 3) (tb := fun W => tSeq (tDrop (tMethE C "do_order" (spOrd K C CE) (WE W) (tVar 0) (tCons (tVar 1) (tCons (tVar 2) tNil)))) (tIfS (tTest (tOp rEq (tFld K (tVar 0) "idle") (tC (.int 100000)))) tNever tNext)) (ts := fun a cls d => sFld K (tVar 0) (tXf a cls d CE "end" (tVar 3)) "end") (Wout := fun _ _ _ _ => False) rfl rfl sc_nx.nd rfl rfl ⟨rfl, by decide, Or.inl TE.g⟩ takes0
      (fun W pn xe tk _ => pss_cons (ps_expr (by exact (pe_methE (pv 0) T.cl mO GO hr bO (fun σ => passAt tk σ) (by exact (pa_cons (pv 1) (pa_cons (pv 2) pa_nil))))))
        (pss_one (ps_if (by exact (pt_cmpR op_eq (pe_fld (pv 0) rfl) (pe_glob (v := .int 100000) rfl mI ⟨_, rfl⟩) (nomark _))) pss_never pss_nil)))
      (fun a oe cls d pn hz hf => pss_one (by exact (ps_fld (pv 0) (by exact (pe_xf TE.x TE.no hz hf (pv 3))) rfl)))))))), ?_⟩
  obtain ⟨co, xs, ec, hco, hxs⟩ := dp_tup (Dp.same g.sm hc)
  have ec' : A.co = co := V.ref.inj ec
  subst ec'
  have at0 := can.at0
  have eat : m.at_ = ((m.at_.toNat : Nat) : Int) := by omega
  have hcm : (code.map odD)[m.at_.toNat]? = some (odD od) := by rw [List.getElem?_map, can.cd]; rfl
  have lt : m.at_.toNat < xs.length := by
    rw [DpAll.length hxs]
    exact (List.getElem?_eq_some_iff.mp hcm).1
  obtain ⟨d0, hd0, hd1⟩ := DpAll.get hxs (List.getElem?_eq_getElem lt)
  rw [hcm] at hd0
  obtain rfl := Option.some.inj hd0
  obtain ⟨t, ys, et, hT, hB⟩ := dp_tup hd1
  obtain ⟨u0, r0, rfl, c0, hB⟩ := dp_cons hB
  obtain ⟨u1, r1, rfl, c1, hB⟩ := dp_cons hB
  obtain rfl := dp_nil hB
  obtain rfl := dp_str c0
  obtain rfl := dp_int c1
  have hat : atI xs m.at_ = some (.ref t) := by
    rw [eat]
    exact atI_nat (by rw [List.getElem?_eq_getElem lt, et])
  refine ⟨_, rfl, o, C, A.dx, _, _, rfl, g.ins, T.cl, T.no 0 rfl, PrM.look A m 0 rfl rfl, _, rfl, o, C, A.dx, _, _, rfl, g.ins, T.cl, T.no 3 rfl, PrM.look A m 3 rfl rfl, A.co, xs, _, _, rfl, rfl, hco, hat, t, _, rfl, hT, rfl, _, _, rfl, _, _, rfl, rfl, ?_⟩
  refine ⟨_, rfl, o, C, A.dx, _, _, rfl, g.ins, T.cl, T.no 3 rfl, PrM.look A m 3 rfl rfl, _, _, rfl, rfl, A.dx, _, g.ins, (by show 13 < 1000; decide), ?_⟩
  have g1 := g.put 3 "at" (.int (m.at_ + 1)) { m with at_ := m.at_ + 1 } rfl rfl rfl rfl rfl rfl rfl
  generalize upd H o (.ins C A.dx (putF "at" (.int (m.at_ + 1)) (prK.zip (prV A m)))) = H1 at g1 ⊢
  refine ⟨_, rfl, o, C, A.dx, _, _, rfl, g1.ins, T.cl, T.no 9 rfl, PrM.look A { m with at_ := m.at_ + 1 } 9 rfl rfl, _, _, rfl, rfl, A.dx, _, g1.ins, (by show 13 < 1000; decide), ?_⟩
  have g2 := g1.put 9 "count" (.int (m.cnt + 1)) { m with at_ := m.at_ + 1, cnt := m.cnt + 1 } rfl rfl rfl rfl rfl rfl rfl
  generalize upd H1 o _ = H2 at g2 ⊢
  refine ⟨_, rfl, o, C, A.dx, _, _, rfl, g2.ins, T.cl, T.no 10 rfl, PrM.look A { m with at_ := m.at_ + 1, cnt := m.cnt + 1 } 10 rfl rfl, _, _, rfl, rfl, A.dx, _, g2.ins, (by show 13 < 1000; decide), ?_⟩
  have g3 := g2.put 10 "idle" (.int (m.idl + 1)) m.next rfl rfl rfl rfl rfl rfl rfl
  generalize upd H2 o _ = H3 at g3 ⊢
  refine ⟨_, rfl, o, A.dx, _, rfl, g3.ins, prK_no A m.next (by decide +kernel), _, rfl, _, rfl, od, o, B, h, w, A, m.next, rfl, g3, can.pre, fun m' e A' H' g' => ?_, fun e x d A' s' H' g' hd => ?_⟩
  · obtain ⟨e1, e2⟩ := act_en e
    have id0 := can.id0
    have idl := can.idl
    have en : m'.idl ≠ 100000 := by
      have e3 : m.next.idl = m.idl + 1 := rfl
      rcases e2 with e2 | e2
      · rw [e2, e3]; omega
      · rw [e2]; decide
    refine ⟨_, rfl, o, C, _, _, _, rfl, g'.ins, T.cl, T.no 10 rfl, PrM.look { A' with co := A.co } m' 10 rfl rfl, rfl, _, rfl, ?_⟩
    rw [dec_int, decide_eq_false en]
    refine iteF ?_
    have es : stp h w od m = m' := by unfold stp; rw [e]
    exact k { A' with co := A.co } m' H' g' rfl (by rw [es]; exact EqS.refl m')
  · refine ⟨true, TE.s, fun _ a0 _ => ?_, fun q => Bool.noConfusion q⟩
    refine ⟨_, rfl, rfl, rfl, d, _, .str e, rfl, hd, by rw [List.lookup_cons, beq_self_eq_true], _, rfl, o, C, _, _, rfl, g'.ins, T.cl, T.no 12 rfl, (by show 13 < 1000; decide), ?_⟩
    refine k { A' with co := A.co } { m.next with stk := s', en := e } _ (g'.put 12 "end" (.str e) { m.next with stk := s', en := e } rfl rfl rfl rfl rfl rfl rfl) rfl ?_
    have es : stp h w od m = { m.next with en := e } := by unfold stp; rw [x]
    rw [es]
    refine ⟨rfl, fun z => ?_⟩
    have z : e = "" := z
    have q := act_err x
    rw [z] at q
    exact absurd q (by decide +kernel)
/-- orders done one behind another until the run ends -/
inductive Runs (h w : Nat) (code : List Od) : Nat → Ms → Ms → Prop
  | stop {m : Ms} : m.en ≠ "" → Runs h w code 0 m m
  | turn {n : Nat} {m m' : Ms} {od : Od} : m.en = "" → CanDo h w code m od → Runs h w code n (stp h w od m) m' → Runs h w code (n + 1) m m'
def spGoM (K : PySem.W.Frag) (C : Addr) : Sp := fun vs H Q _ => ∃ (o : Addr) (B : Hp) (h w : Nat) (A : PrA) (m mE : Ms) (code : List Od) (n : Nat), vs = [.ref o] ∧ PrM K C o B h w A m H ∧ Dp K B (.ref A.co) (.tuple (code.map odD)) ∧ Runs h w code n m mE ∧
  ∀ A' m' H', PrM K C o B h w A' m' H' → EqS m' mE → Q .non H'
theorem sc_goM : FnScope ["self"] ["self"] (defScope S_Processor_go) := ⟨rfl, rfl, rfl, by decide +kernel, rfl, by decide +kernel, by decide +kernel⟩
theorem ok_goM {f fN : Addr} {fd fdN : FuncData} (F : Fun K "go" "Processor.go" S_Processor_go f fd) (T : PTx K C)
    (GN : FnOk P w K mg base CX0 7 fN fdN ["self"] (spNext K C)) (mN : Meth K C "do_next" fN) (bN : Binds K fdN ["self"] []) :
    FnOk P w K mg base CX0 8 f fd ["self"] (spGoM K C) := by
  refine F.ok sc_goM (fun vs H Q E h => ?_) (fun cdv A0 outer s0 H vs Q E hr h => ?_)
  · obtain ⟨o, B, h, w, A, m, mE, code, n, rfl, _⟩ := h
    rfl
  obtain ⟨o, B, h, w, A, m, mE, code, n, rfl, g, hc, ru, k⟩ := h
  refine ⟨_, pss_one (ps_while PassesOwn.never (pt_cmpR op_eq (pe_fld (pv 0) rfl) pe_str (nomark _)) (pss_one (ps_expr (pe_meth0 (pv 0) T.cl mN GN hr bN .nil pass0)))), ?_⟩
  refine ⟨fun n σ H' => ∃ (A' : PrA) (m2 m1 : Ms), σ = [some (.ref o)] ∧ PrM K C o B h w A' m2 H' ∧ A'.co = A.co ∧ EqS m2 m1 ∧ Runs h w code n m1 mE, ⟨n, A, m, m, rfl, g, rfl, EqS.refl m, ru⟩, ?_⟩
  rintro n σ H1 ⟨A1, m2, m1, rfl, g1, e1, es, r1⟩
  refine ⟨_, rfl, o, C, _, _, _, rfl, g1.ins, T.cl, T.no 12 rfl, PrM.look A1 m2 12 rfl rfl, rfl, _, rfl, ?_⟩
  rw [dec_str, es.en]
  cases r1 with
  | stop hne =>
    rw [decide_eq_false hne]
    exact iteF (k A1 m2 H1 g1 es)
  | @turn n _ _ od he can r2 =>
    rw [decide_eq_true he]
    have e2 : m2 = m1 := es.2 he
    subst e2
    refine iteT ⟨fun σ' H' => ∃ m', m' < n + 1 ∧ ∃ (A' : PrA) (m2 m1 : Ms), σ' = [some (.ref o)] ∧ PrM K C o B h w A' m2 H' ∧ A'.co = A.co ∧ EqS m2 m1 ∧ Runs h w code m' m1 mE, fun _ _ z => z, ?_⟩
    refine ⟨_, rfl, o, _, _, rfl, g1.ins, prK_no A1 m2 (by decide +kernel), o, B, h, w, A1, m2, code, od, rfl, g1, by rw [e1]; exact hc, can, he, fun A' m' H' g' e' es' => ?_⟩
    exact ⟨n, Nat.lt_succ_self n, A', m', _, rfl, g', e'.trans e1, es', r2⟩
end
end KD

/-! The machine is made. -/
namespace KD
open PySem L2 TL
theorem putF_app (f : Str) (v : V) : ∀ (ks : List Str) (vs : List V), ks.length = vs.length → f ∉ ks → putF f v (ks.zip vs) = (ks ++ [f]).zip (vs ++ [v])
  | [], [], _, _ => rfl
  | k :: ks, x :: vs, hl, hn => by
    have n : ¬ k = f := fun e => hn (by rw [e]; exact List.mem_cons_self)
    show (if k = f then _ else (k, x) :: putF f v (ks.zip vs)) = _
    rw [if_neg n, putF_app f v ks vs (Nat.succ.inj hl) fun m => hn (List.mem_cons_of_mem _ m)]
    rfl
  | [], _ :: _, hl, _ => by cases hl
  | _ :: _, [], hl, _ => by cases hl
def ms0 (p : Pic) (tk : Int) : Ms := ⟨0, [], [], p, tk, [], [], 0, 0, .non, ""⟩
def spPInit (K : PySem.W.Frag) (C : Addr) : Sp := fun vs H Q _ => ∃ (o dx co pa : Addr) (tk : Int) (B : Hp) (h w : Nat) (p : Pic), vs = [.ref o, .ref co, .ref pa, .int tk] ∧ H o = some (.ins C dx []) ∧ SqT K H pa (rowsV p) ∧ Sized h w p ∧ B o = none ∧ Same B H ∧
  ∀ A H', PrM K C o B h w A (ms0 p tk) H' → A.co = co → Q .non H'
section
variable {P : Program} {w : World} {K : PySem.W.Frag} {mg : Str → Option Value} {base : Heap} {C CE : Addr}
theorem sc_pinit : FnScope ["self", "value", "picture", "ticks"] ["self", "value", "picture", "ticks"] (defScope S_Processor___init__) := ⟨rfl, rfl, rfl, by decide +kernel, rfl, by decide +kernel, by decide +kernel⟩
theorem ok_pinit {f : Addr} {fd : FuncData} (F : Fun K "__init__" "Processor.__init__" S_Processor___init__ f fd) (T : PTx K C) : FnOk P w K mg base CX0 1 f fd ["self", "value", "picture", "ticks"] (spPInit K C) := by
  refine F.ok sc_pinit (fun vs H Q E h => ?_) (fun cdv A0 outer s0 H vs Q E hr h => ?_)
  · obtain ⟨o, dx, co, pa, tk, B, h, w, p, rfl, _⟩ := h
    rfl
  obtain ⟨o, dx, co, pa, tk, B, h, w, p, rfl, hO, hp, sz, nBo, sm, k⟩ := h
  refine ⟨_, (pss_cons (ps_fld (pv 0) (pv 1) rfl) (pss_cons (ps_fld (pv 0) (pv 2) rfl) (pss_cons (ps_fld (pv 0) (pv 3) rfl) (pss_cons (ps_fld (pv 0) pe_int rfl) (pss_cons (ps_fld (pv 0) (pe_lst pa_nil) rfl) (pss_cons (ps_fld (pv 0) (pe_lst pa_nil) rfl) (pss_cons (ps_fld (pv 0) (pe_lst pa_nil) rfl) (pss_cons (ps_fld (pv 0) (pe_lst pa_nil) rfl) (pss_cons (ps_fld (pv 0) (pe_lst pa_nil) rfl) (pss_cons (ps_fld (pv 0) pe_int rfl) (pss_cons (ps_fld (pv 0) pe_int rfl) (pss_cons (ps_fld (pv 0) pe_non rfl) (pss_one (ps_fld (pv 0) pe_str rfl)))))))))))))), ?_⟩
  refine ⟨_, rfl, _, rfl, o, C, dx, _, rfl, hO, T.cl, T.no 0 rfl, (by show 0 < 1000; decide), ?_⟩
  have e0 : putF "orders" (.ref co) [] = (["orders"] : List Str).zip ([.ref co] : List V) := putF_app _ _ [] [] rfl (by decide +kernel)
  have hO' : (upd H o (.ins C dx (putF "orders" (.ref co) []))) o = some (.ins C dx ((["orders"] : List Str).zip ([.ref co] : List V))) := by rw [e0]; exact upd_same
  have hp := kt_ins (v := .ins C dx (putF "orders" (.ref co) [])) hO _ _ hp
  have sm := sm_upd (v := .ins C dx (putF "orders" (.ref co) [])) sm nBo
  clear hO
  have hO := hO'
  clear hO'
  generalize upd H o (.ins C dx (putF "orders" (.ref co) [])) = G1 at hO hp sm  ⊢
  refine ⟨_, rfl, _, rfl, o, C, dx, _, rfl, hO, T.cl, T.no 1 rfl, (by show 1 < 1000; decide), ?_⟩
  have e1 : putF "picture" (.ref pa) ((["orders"] : List Str).zip ([.ref co] : List V)) = (["orders", "picture"] : List Str).zip ([.ref co, .ref pa] : List V) := putF_app _ _ ["orders"] [.ref co] rfl (by decide +kernel)
  have hO' : (upd G1 o (.ins C dx (putF "picture" (.ref pa) ((["orders"] : List Str).zip ([.ref co] : List V))))) o = some (.ins C dx ((["orders", "picture"] : List Str).zip ([.ref co, .ref pa] : List V))) := by rw [e1]; exact upd_same
  have hp := kt_ins (v := .ins C dx (putF "picture" (.ref pa) ((["orders"] : List Str).zip ([.ref co] : List V)))) hO _ _ hp
  have sm := sm_upd (v := .ins C dx (putF "picture" (.ref pa) ((["orders"] : List Str).zip ([.ref co] : List V)))) sm nBo
  clear hO
  have hO := hO'
  clear hO'
  generalize upd G1 o (.ins C dx (putF "picture" (.ref pa) ((["orders"] : List Str).zip ([.ref co] : List V)))) = G2 at hO hp sm  ⊢
  refine ⟨_, rfl, _, rfl, o, C, dx, _, rfl, hO, T.cl, T.no 2 rfl, (by show 2 < 1000; decide), ?_⟩
  have e2 : putF "ticks" (.int tk) ((["orders", "picture"] : List Str).zip ([.ref co, .ref pa] : List V)) = (["orders", "picture", "ticks"] : List Str).zip ([.ref co, .ref pa, .int tk] : List V) := putF_app _ _ ["orders", "picture"] [.ref co, .ref pa] rfl (by decide +kernel)
  have hO' : (upd G2 o (.ins C dx (putF "ticks" (.int tk) ((["orders", "picture"] : List Str).zip ([.ref co, .ref pa] : List V))))) o = some (.ins C dx ((["orders", "picture", "ticks"] : List Str).zip ([.ref co, .ref pa, .int tk] : List V))) := by rw [e2]; exact upd_same
  have hp := kt_ins (v := .ins C dx (putF "ticks" (.int tk) ((["orders", "picture"] : List Str).zip ([.ref co, .ref pa] : List V)))) hO _ _ hp
  have sm := sm_upd (v := .ins C dx (putF "ticks" (.int tk) ((["orders", "picture"] : List Str).zip ([.ref co, .ref pa] : List V)))) sm nBo
  clear hO
  have hO := hO'
  clear hO'
  generalize upd G2 o (.ins C dx (putF "ticks" (.int tk) ((["orders", "picture"] : List Str).zip ([.ref co, .ref pa] : List V)))) = G3 at hO hp sm  ⊢
  refine ⟨_, rfl, o, C, dx, _, rfl, hO, T.cl, T.no 3 rfl, (by show 3 < 1000; decide), ?_⟩
  have e3 : putF "at" (.int 0) ((["orders", "picture", "ticks"] : List Str).zip ([.ref co, .ref pa, .int tk] : List V)) = (["orders", "picture", "ticks", "at"] : List Str).zip ([.ref co, .ref pa, .int tk, .int 0] : List V) := putF_app _ _ ["orders", "picture", "ticks"] [.ref co, .ref pa, .int tk] rfl (by decide +kernel)
  have hO' : (upd G3 o (.ins C dx (putF "at" (.int 0) ((["orders", "picture", "ticks"] : List Str).zip ([.ref co, .ref pa, .int tk] : List V))))) o = some (.ins C dx ((["orders", "picture", "ticks", "at"] : List Str).zip ([.ref co, .ref pa, .int tk, .int 0] : List V))) := by rw [e3]; exact upd_same
  have hp := kt_ins (v := .ins C dx (putF "at" (.int 0) ((["orders", "picture", "ticks"] : List Str).zip ([.ref co, .ref pa, .int tk] : List V)))) hO _ _ hp
  have sm := sm_upd (v := .ins C dx (putF "at" (.int 0) ((["orders", "picture", "ticks"] : List Str).zip ([.ref co, .ref pa, .int tk] : List V)))) sm nBo
  clear hO
  have hO := hO'
  clear hO'
  generalize upd G3 o (.ins C dx (putF "at" (.int 0) ((["orders", "picture", "ticks"] : List Str).zip ([.ref co, .ref pa, .int tk] : List V)))) = G4 at hO hp sm  ⊢
  refine ⟨Nat.zero_le _, fun sa nsa => ?_⟩
  have nsa_o : sa ≠ o := fun e => by rw [e, hO] at nsa; cases nsa
  have hO := same_nw nsa (.lst []) _ _ hO
  have hp := KT.same (same_nw nsa (.lst [])) _ _ hp
  have nBsa : B sa = none := sm.free nsa
  have sm := sm.trans (same_nw nsa (.lst []))
  have hsa : (upd G4 sa (.lst [])) sa = some (.lst []) := upd_same
  generalize upd G4 sa (.lst []) = G5 at hO hp sm hsa ⊢
  refine ⟨_, rfl, o, C, dx, _, rfl, hO, T.cl, T.no 4 rfl, (by show 4 < 1000; decide), ?_⟩
  have e4 : putF "stack" (.ref sa) ((["orders", "picture", "ticks", "at"] : List Str).zip ([.ref co, .ref pa, .int tk, .int 0] : List V)) = (["orders", "picture", "ticks", "at", "stack"] : List Str).zip ([.ref co, .ref pa, .int tk, .int 0, .ref sa] : List V) := putF_app _ _ ["orders", "picture", "ticks", "at"] [.ref co, .ref pa, .int tk, .int 0] rfl (by decide +kernel)
  have hO' : (upd G5 o (.ins C dx (putF "stack" (.ref sa) ((["orders", "picture", "ticks", "at"] : List Str).zip ([.ref co, .ref pa, .int tk, .int 0] : List V))))) o = some (.ins C dx ((["orders", "picture", "ticks", "at", "stack"] : List Str).zip ([.ref co, .ref pa, .int tk, .int 0, .ref sa] : List V))) := by rw [e4]; exact upd_same
  have hp := kt_ins (v := .ins C dx (putF "stack" (.ref sa) ((["orders", "picture", "ticks", "at"] : List Str).zip ([.ref co, .ref pa, .int tk, .int 0] : List V)))) hO _ _ hp
  have sm := sm_upd (v := .ins C dx (putF "stack" (.ref sa) ((["orders", "picture", "ticks", "at"] : List Str).zip ([.ref co, .ref pa, .int tk, .int 0] : List V)))) sm nBo
  have hsa : (upd G5 o (.ins C dx (putF "stack" (.ref sa) ((["orders", "picture", "ticks", "at"] : List Str).zip ([.ref co, .ref pa, .int tk, .int 0] : List V))))) sa = some (.lst []) := by rw [upd_ne nsa_o]; exact hsa
  clear hO
  have hO := hO'
  clear hO'
  generalize upd G5 o (.ins C dx (putF "stack" (.ref sa) ((["orders", "picture", "ticks", "at"] : List Str).zip ([.ref co, .ref pa, .int tk, .int 0] : List V)))) = G6 at hO hp sm hsa ⊢
  refine ⟨Nat.zero_le _, fun la nla => ?_⟩
  have nla_o : la ≠ o := fun e => by rw [e, hO] at nla; cases nla
  have hO := same_nw nla (.lst []) _ _ hO
  have hp := KT.same (same_nw nla (.lst [])) _ _ hp
  have nBla : B la = none := sm.free nla
  have sm := sm.trans (same_nw nla (.lst []))
  have nla_sa : la ≠ sa := fun e => by rw [e, hsa] at nla; cases nla
  have hsa := same_nw nla (.lst []) _ _ hsa
  have hla : (upd G6 la (.lst [])) la = some (.lst []) := upd_same
  generalize upd G6 la (.lst []) = G7 at hO hp sm hsa hla ⊢
  refine ⟨_, rfl, o, C, dx, _, rfl, hO, T.cl, T.no 5 rfl, (by show 5 < 1000; decide), ?_⟩
  have e5 : putF "slots" (.ref la) ((["orders", "picture", "ticks", "at", "stack"] : List Str).zip ([.ref co, .ref pa, .int tk, .int 0, .ref sa] : List V)) = (["orders", "picture", "ticks", "at", "stack", "slots"] : List Str).zip ([.ref co, .ref pa, .int tk, .int 0, .ref sa, .ref la] : List V) := putF_app _ _ ["orders", "picture", "ticks", "at", "stack"] [.ref co, .ref pa, .int tk, .int 0, .ref sa] rfl (by decide +kernel)
  have hO' : (upd G7 o (.ins C dx (putF "slots" (.ref la) ((["orders", "picture", "ticks", "at", "stack"] : List Str).zip ([.ref co, .ref pa, .int tk, .int 0, .ref sa] : List V))))) o = some (.ins C dx ((["orders", "picture", "ticks", "at", "stack", "slots"] : List Str).zip ([.ref co, .ref pa, .int tk, .int 0, .ref sa, .ref la] : List V))) := by rw [e5]; exact upd_same
  have hp := kt_ins (v := .ins C dx (putF "slots" (.ref la) ((["orders", "picture", "ticks", "at", "stack"] : List Str).zip ([.ref co, .ref pa, .int tk, .int 0, .ref sa] : List V)))) hO _ _ hp
  have sm := sm_upd (v := .ins C dx (putF "slots" (.ref la) ((["orders", "picture", "ticks", "at", "stack"] : List Str).zip ([.ref co, .ref pa, .int tk, .int 0, .ref sa] : List V)))) sm nBo
  have hsa : (upd G7 o (.ins C dx (putF "slots" (.ref la) ((["orders", "picture", "ticks", "at", "stack"] : List Str).zip ([.ref co, .ref pa, .int tk, .int 0, .ref sa] : List V))))) sa = some (.lst []) := by rw [upd_ne nsa_o]; exact hsa
  have hla : (upd G7 o (.ins C dx (putF "slots" (.ref la) ((["orders", "picture", "ticks", "at", "stack"] : List Str).zip ([.ref co, .ref pa, .int tk, .int 0, .ref sa] : List V))))) la = some (.lst []) := by rw [upd_ne nla_o]; exact hla
  clear hO
  have hO := hO'
  clear hO'
  generalize upd G7 o (.ins C dx (putF "slots" (.ref la) ((["orders", "picture", "ticks", "at", "stack"] : List Str).zip ([.ref co, .ref pa, .int tk, .int 0, .ref sa] : List V)))) = G8 at hO hp sm hsa hla ⊢
  refine ⟨Nat.zero_le _, fun ba nba => ?_⟩
  have nba_o : ba ≠ o := fun e => by rw [e, hO] at nba; cases nba
  have hO := same_nw nba (.lst []) _ _ hO
  have hp := KT.same (same_nw nba (.lst [])) _ _ hp
  have nBba : B ba = none := sm.free nba
  have sm := sm.trans (same_nw nba (.lst []))
  have nba_sa : ba ≠ sa := fun e => by rw [e, hsa] at nba; cases nba
  have nba_la : ba ≠ la := fun e => by rw [e, hla] at nba; cases nba
  have hsa := same_nw nba (.lst []) _ _ hsa
  have hla := same_nw nba (.lst []) _ _ hla
  have hba : (upd G8 ba (.lst [])) ba = some (.lst []) := upd_same
  generalize upd G8 ba (.lst []) = G9 at hO hp sm hsa hla hba ⊢
  refine ⟨_, rfl, o, C, dx, _, rfl, hO, T.cl, T.no 6 rfl, (by show 6 < 1000; decide), ?_⟩
  have e6 : putF "below" (.ref ba) ((["orders", "picture", "ticks", "at", "stack", "slots"] : List Str).zip ([.ref co, .ref pa, .int tk, .int 0, .ref sa, .ref la] : List V)) = (["orders", "picture", "ticks", "at", "stack", "slots", "below"] : List Str).zip ([.ref co, .ref pa, .int tk, .int 0, .ref sa, .ref la, .ref ba] : List V) := putF_app _ _ ["orders", "picture", "ticks", "at", "stack", "slots"] [.ref co, .ref pa, .int tk, .int 0, .ref sa, .ref la] rfl (by decide +kernel)
  have hO' : (upd G9 o (.ins C dx (putF "below" (.ref ba) ((["orders", "picture", "ticks", "at", "stack", "slots"] : List Str).zip ([.ref co, .ref pa, .int tk, .int 0, .ref sa, .ref la] : List V))))) o = some (.ins C dx ((["orders", "picture", "ticks", "at", "stack", "slots", "below"] : List Str).zip ([.ref co, .ref pa, .int tk, .int 0, .ref sa, .ref la, .ref ba] : List V))) := by rw [e6]; exact upd_same
  have hp := kt_ins (v := .ins C dx (putF "below" (.ref ba) ((["orders", "picture", "ticks", "at", "stack", "slots"] : List Str).zip ([.ref co, .ref pa, .int tk, .int 0, .ref sa, .ref la] : List V)))) hO _ _ hp
  have sm := sm_upd (v := .ins C dx (putF "below" (.ref ba) ((["orders", "picture", "ticks", "at", "stack", "slots"] : List Str).zip ([.ref co, .ref pa, .int tk, .int 0, .ref sa, .ref la] : List V)))) sm nBo
  have hsa : (upd G9 o (.ins C dx (putF "below" (.ref ba) ((["orders", "picture", "ticks", "at", "stack", "slots"] : List Str).zip ([.ref co, .ref pa, .int tk, .int 0, .ref sa, .ref la] : List V))))) sa = some (.lst []) := by rw [upd_ne nsa_o]; exact hsa
  have hla : (upd G9 o (.ins C dx (putF "below" (.ref ba) ((["orders", "picture", "ticks", "at", "stack", "slots"] : List Str).zip ([.ref co, .ref pa, .int tk, .int 0, .ref sa, .ref la] : List V))))) la = some (.lst []) := by rw [upd_ne nla_o]; exact hla
  have hba : (upd G9 o (.ins C dx (putF "below" (.ref ba) ((["orders", "picture", "ticks", "at", "stack", "slots"] : List Str).zip ([.ref co, .ref pa, .int tk, .int 0, .ref sa, .ref la] : List V))))) ba = some (.lst []) := by rw [upd_ne nba_o]; exact hba
  clear hO
  have hO := hO'
  clear hO'
  generalize upd G9 o (.ins C dx (putF "below" (.ref ba) ((["orders", "picture", "ticks", "at", "stack", "slots"] : List Str).zip ([.ref co, .ref pa, .int tk, .int 0, .ref sa, .ref la] : List V)))) = G10 at hO hp sm hsa hla hba ⊢
  refine ⟨Nat.zero_le _, fun na nna => ?_⟩
  have nna_o : na ≠ o := fun e => by rw [e, hO] at nna; cases nna
  have hO := same_nw nna (.lst []) _ _ hO
  have hp := KT.same (same_nw nna (.lst [])) _ _ hp
  have nBna : B na = none := sm.free nna
  have sm := sm.trans (same_nw nna (.lst []))
  have nna_sa : na ≠ sa := fun e => by rw [e, hsa] at nna; cases nna
  have nna_la : na ≠ la := fun e => by rw [e, hla] at nna; cases nna
  have nna_ba : na ≠ ba := fun e => by rw [e, hba] at nna; cases nna
  have hsa := same_nw nna (.lst []) _ _ hsa
  have hla := same_nw nna (.lst []) _ _ hla
  have hba := same_nw nna (.lst []) _ _ hba
  have hna : (upd G10 na (.lst [])) na = some (.lst []) := upd_same
  generalize upd G10 na (.lst []) = G11 at hO hp sm hsa hla hba hna ⊢
  refine ⟨_, rfl, o, C, dx, _, rfl, hO, T.cl, T.no 7 rfl, (by show 7 < 1000; decide), ?_⟩
  have e7 : putF "lines" (.ref na) ((["orders", "picture", "ticks", "at", "stack", "slots", "below"] : List Str).zip ([.ref co, .ref pa, .int tk, .int 0, .ref sa, .ref la, .ref ba] : List V)) = (["orders", "picture", "ticks", "at", "stack", "slots", "below", "lines"] : List Str).zip ([.ref co, .ref pa, .int tk, .int 0, .ref sa, .ref la, .ref ba, .ref na] : List V) := putF_app _ _ ["orders", "picture", "ticks", "at", "stack", "slots", "below"] [.ref co, .ref pa, .int tk, .int 0, .ref sa, .ref la, .ref ba] rfl (by decide +kernel)
  have hO' : (upd G11 o (.ins C dx (putF "lines" (.ref na) ((["orders", "picture", "ticks", "at", "stack", "slots", "below"] : List Str).zip ([.ref co, .ref pa, .int tk, .int 0, .ref sa, .ref la, .ref ba] : List V))))) o = some (.ins C dx ((["orders", "picture", "ticks", "at", "stack", "slots", "below", "lines"] : List Str).zip ([.ref co, .ref pa, .int tk, .int 0, .ref sa, .ref la, .ref ba, .ref na] : List V))) := by rw [e7]; exact upd_same
  have hp := kt_ins (v := .ins C dx (putF "lines" (.ref na) ((["orders", "picture", "ticks", "at", "stack", "slots", "below"] : List Str).zip ([.ref co, .ref pa, .int tk, .int 0, .ref sa, .ref la, .ref ba] : List V)))) hO _ _ hp
  have sm := sm_upd (v := .ins C dx (putF "lines" (.ref na) ((["orders", "picture", "ticks", "at", "stack", "slots", "below"] : List Str).zip ([.ref co, .ref pa, .int tk, .int 0, .ref sa, .ref la, .ref ba] : List V)))) sm nBo
  have hsa : (upd G11 o (.ins C dx (putF "lines" (.ref na) ((["orders", "picture", "ticks", "at", "stack", "slots", "below"] : List Str).zip ([.ref co, .ref pa, .int tk, .int 0, .ref sa, .ref la, .ref ba] : List V))))) sa = some (.lst []) := by rw [upd_ne nsa_o]; exact hsa
  have hla : (upd G11 o (.ins C dx (putF "lines" (.ref na) ((["orders", "picture", "ticks", "at", "stack", "slots", "below"] : List Str).zip ([.ref co, .ref pa, .int tk, .int 0, .ref sa, .ref la, .ref ba] : List V))))) la = some (.lst []) := by rw [upd_ne nla_o]; exact hla
  have hba : (upd G11 o (.ins C dx (putF "lines" (.ref na) ((["orders", "picture", "ticks", "at", "stack", "slots", "below"] : List Str).zip ([.ref co, .ref pa, .int tk, .int 0, .ref sa, .ref la, .ref ba] : List V))))) ba = some (.lst []) := by rw [upd_ne nba_o]; exact hba
  have hna : (upd G11 o (.ins C dx (putF "lines" (.ref na) ((["orders", "picture", "ticks", "at", "stack", "slots", "below"] : List Str).zip ([.ref co, .ref pa, .int tk, .int 0, .ref sa, .ref la, .ref ba] : List V))))) na = some (.lst []) := by rw [upd_ne nna_o]; exact hna
  clear hO
  have hO := hO'
  clear hO'
  generalize upd G11 o (.ins C dx (putF "lines" (.ref na) ((["orders", "picture", "ticks", "at", "stack", "slots", "below"] : List Str).zip ([.ref co, .ref pa, .int tk, .int 0, .ref sa, .ref la, .ref ba] : List V)))) = G12 at hO hp sm hsa hla hba hna ⊢
  refine ⟨Nat.zero_le _, fun da nda => ?_⟩
  have nda_o : da ≠ o := fun e => by rw [e, hO] at nda; cases nda
  have hO := same_nw nda (.lst []) _ _ hO
  have hp := KT.same (same_nw nda (.lst [])) _ _ hp
  have nBda : B da = none := sm.free nda
  have sm := sm.trans (same_nw nda (.lst []))
  have nda_sa : da ≠ sa := fun e => by rw [e, hsa] at nda; cases nda
  have nda_la : da ≠ la := fun e => by rw [e, hla] at nda; cases nda
  have nda_ba : da ≠ ba := fun e => by rw [e, hba] at nda; cases nda
  have nda_na : da ≠ na := fun e => by rw [e, hna] at nda; cases nda
  have hsa := same_nw nda (.lst []) _ _ hsa
  have hla := same_nw nda (.lst []) _ _ hla
  have hba := same_nw nda (.lst []) _ _ hba
  have hna := same_nw nda (.lst []) _ _ hna
  have hda : (upd G12 da (.lst [])) da = some (.lst []) := upd_same
  generalize upd G12 da (.lst []) = G13 at hO hp sm hsa hla hba hna hda ⊢
  refine ⟨_, rfl, o, C, dx, _, rfl, hO, T.cl, T.no 8 rfl, (by show 8 < 1000; decide), ?_⟩
  have e8 : putF "said" (.ref da) ((["orders", "picture", "ticks", "at", "stack", "slots", "below", "lines"] : List Str).zip ([.ref co, .ref pa, .int tk, .int 0, .ref sa, .ref la, .ref ba, .ref na] : List V)) = (["orders", "picture", "ticks", "at", "stack", "slots", "below", "lines", "said"] : List Str).zip ([.ref co, .ref pa, .int tk, .int 0, .ref sa, .ref la, .ref ba, .ref na, .ref da] : List V) := putF_app _ _ ["orders", "picture", "ticks", "at", "stack", "slots", "below", "lines"] [.ref co, .ref pa, .int tk, .int 0, .ref sa, .ref la, .ref ba, .ref na] rfl (by decide +kernel)
  have hO' : (upd G13 o (.ins C dx (putF "said" (.ref da) ((["orders", "picture", "ticks", "at", "stack", "slots", "below", "lines"] : List Str).zip ([.ref co, .ref pa, .int tk, .int 0, .ref sa, .ref la, .ref ba, .ref na] : List V))))) o = some (.ins C dx ((["orders", "picture", "ticks", "at", "stack", "slots", "below", "lines", "said"] : List Str).zip ([.ref co, .ref pa, .int tk, .int 0, .ref sa, .ref la, .ref ba, .ref na, .ref da] : List V))) := by rw [e8]; exact upd_same
  have hp := kt_ins (v := .ins C dx (putF "said" (.ref da) ((["orders", "picture", "ticks", "at", "stack", "slots", "below", "lines"] : List Str).zip ([.ref co, .ref pa, .int tk, .int 0, .ref sa, .ref la, .ref ba, .ref na] : List V)))) hO _ _ hp
  have sm := sm_upd (v := .ins C dx (putF "said" (.ref da) ((["orders", "picture", "ticks", "at", "stack", "slots", "below", "lines"] : List Str).zip ([.ref co, .ref pa, .int tk, .int 0, .ref sa, .ref la, .ref ba, .ref na] : List V)))) sm nBo
  have hsa : (upd G13 o (.ins C dx (putF "said" (.ref da) ((["orders", "picture", "ticks", "at", "stack", "slots", "below", "lines"] : List Str).zip ([.ref co, .ref pa, .int tk, .int 0, .ref sa, .ref la, .ref ba, .ref na] : List V))))) sa = some (.lst []) := by rw [upd_ne nsa_o]; exact hsa
  have hla : (upd G13 o (.ins C dx (putF "said" (.ref da) ((["orders", "picture", "ticks", "at", "stack", "slots", "below", "lines"] : List Str).zip ([.ref co, .ref pa, .int tk, .int 0, .ref sa, .ref la, .ref ba, .ref na] : List V))))) la = some (.lst []) := by rw [upd_ne nla_o]; exact hla
  have hba : (upd G13 o (.ins C dx (putF "said" (.ref da) ((["orders", "picture", "ticks", "at", "stack", "slots", "below", "lines"] : List Str).zip ([.ref co, .ref pa, .int tk, .int 0, .ref sa, .ref la, .ref ba, .ref na] : List V))))) ba = some (.lst []) := by rw [upd_ne nba_o]; exact hba
  have hna : (upd G13 o (.ins C dx (putF "said" (.ref da) ((["orders", "picture", "ticks", "at", "stack", "slots", "below", "lines"] : List Str).zip ([.ref co, .ref pa, .int tk, .int 0, .ref sa, .ref la, .ref ba, .ref na] : List V))))) na = some (.lst []) := by rw [upd_ne nna_o]; exact hna
  have hda : (upd G13 o (.ins C dx (putF "said" (.ref da) ((["orders", "picture", "ticks", "at", "stack", "slots", "below", "lines"] : List Str).zip ([.ref co, .ref pa, .int tk, .int 0, .ref sa, .ref la, .ref ba, .ref na] : List V))))) da = some (.lst []) := by rw [upd_ne nda_o]; exact hda
  clear hO
  have hO := hO'
  clear hO'
  generalize upd G13 o (.ins C dx (putF "said" (.ref da) ((["orders", "picture", "ticks", "at", "stack", "slots", "below", "lines"] : List Str).zip ([.ref co, .ref pa, .int tk, .int 0, .ref sa, .ref la, .ref ba, .ref na] : List V)))) = G14 at hO hp sm hsa hla hba hna hda ⊢
  refine ⟨_, rfl, o, C, dx, _, rfl, hO, T.cl, T.no 9 rfl, (by show 9 < 1000; decide), ?_⟩
  have e9 : putF "count" (.int 0) ((["orders", "picture", "ticks", "at", "stack", "slots", "below", "lines", "said"] : List Str).zip ([.ref co, .ref pa, .int tk, .int 0, .ref sa, .ref la, .ref ba, .ref na, .ref da] : List V)) = (["orders", "picture", "ticks", "at", "stack", "slots", "below", "lines", "said", "count"] : List Str).zip ([.ref co, .ref pa, .int tk, .int 0, .ref sa, .ref la, .ref ba, .ref na, .ref da, .int 0] : List V) := putF_app _ _ ["orders", "picture", "ticks", "at", "stack", "slots", "below", "lines", "said"] [.ref co, .ref pa, .int tk, .int 0, .ref sa, .ref la, .ref ba, .ref na, .ref da] rfl (by decide +kernel)
  have hO' : (upd G14 o (.ins C dx (putF "count" (.int 0) ((["orders", "picture", "ticks", "at", "stack", "slots", "below", "lines", "said"] : List Str).zip ([.ref co, .ref pa, .int tk, .int 0, .ref sa, .ref la, .ref ba, .ref na, .ref da] : List V))))) o = some (.ins C dx ((["orders", "picture", "ticks", "at", "stack", "slots", "below", "lines", "said", "count"] : List Str).zip ([.ref co, .ref pa, .int tk, .int 0, .ref sa, .ref la, .ref ba, .ref na, .ref da, .int 0] : List V))) := by rw [e9]; exact upd_same
  have hp := kt_ins (v := .ins C dx (putF "count" (.int 0) ((["orders", "picture", "ticks", "at", "stack", "slots", "below", "lines", "said"] : List Str).zip ([.ref co, .ref pa, .int tk, .int 0, .ref sa, .ref la, .ref ba, .ref na, .ref da] : List V)))) hO _ _ hp
  have sm := sm_upd (v := .ins C dx (putF "count" (.int 0) ((["orders", "picture", "ticks", "at", "stack", "slots", "below", "lines", "said"] : List Str).zip ([.ref co, .ref pa, .int tk, .int 0, .ref sa, .ref la, .ref ba, .ref na, .ref da] : List V)))) sm nBo
  have hsa : (upd G14 o (.ins C dx (putF "count" (.int 0) ((["orders", "picture", "ticks", "at", "stack", "slots", "below", "lines", "said"] : List Str).zip ([.ref co, .ref pa, .int tk, .int 0, .ref sa, .ref la, .ref ba, .ref na, .ref da] : List V))))) sa = some (.lst []) := by rw [upd_ne nsa_o]; exact hsa
  have hla : (upd G14 o (.ins C dx (putF "count" (.int 0) ((["orders", "picture", "ticks", "at", "stack", "slots", "below", "lines", "said"] : List Str).zip ([.ref co, .ref pa, .int tk, .int 0, .ref sa, .ref la, .ref ba, .ref na, .ref da] : List V))))) la = some (.lst []) := by rw [upd_ne nla_o]; exact hla
  have hba : (upd G14 o (.ins C dx (putF "count" (.int 0) ((["orders", "picture", "ticks", "at", "stack", "slots", "below", "lines", "said"] : List Str).zip ([.ref co, .ref pa, .int tk, .int 0, .ref sa, .ref la, .ref ba, .ref na, .ref da] : List V))))) ba = some (.lst []) := by rw [upd_ne nba_o]; exact hba
  have hna : (upd G14 o (.ins C dx (putF "count" (.int 0) ((["orders", "picture", "ticks", "at", "stack", "slots", "below", "lines", "said"] : List Str).zip ([.ref co, .ref pa, .int tk, .int 0, .ref sa, .ref la, .ref ba, .ref na, .ref da] : List V))))) na = some (.lst []) := by rw [upd_ne nna_o]; exact hna
  have hda : (upd G14 o (.ins C dx (putF "count" (.int 0) ((["orders", "picture", "ticks", "at", "stack", "slots", "below", "lines", "said"] : List Str).zip ([.ref co, .ref pa, .int tk, .int 0, .ref sa, .ref la, .ref ba, .ref na, .ref da] : List V))))) da = some (.lst []) := by rw [upd_ne nda_o]; exact hda
  clear hO
  have hO := hO'
  clear hO'
  generalize upd G14 o (.ins C dx (putF "count" (.int 0) ((["orders", "picture", "ticks", "at", "stack", "slots", "below", "lines", "said"] : List Str).zip ([.ref co, .ref pa, .int tk, .int 0, .ref sa, .ref la, .ref ba, .ref na, .ref da] : List V)))) = G15 at hO hp sm hsa hla hba hna hda ⊢
  refine ⟨_, rfl, o, C, dx, _, rfl, hO, T.cl, T.no 10 rfl, (by show 10 < 1000; decide), ?_⟩
  have e10 : putF "idle" (.int 0) ((["orders", "picture", "ticks", "at", "stack", "slots", "below", "lines", "said", "count"] : List Str).zip ([.ref co, .ref pa, .int tk, .int 0, .ref sa, .ref la, .ref ba, .ref na, .ref da, .int 0] : List V)) = (["orders", "picture", "ticks", "at", "stack", "slots", "below", "lines", "said", "count", "idle"] : List Str).zip ([.ref co, .ref pa, .int tk, .int 0, .ref sa, .ref la, .ref ba, .ref na, .ref da, .int 0, .int 0] : List V) := putF_app _ _ ["orders", "picture", "ticks", "at", "stack", "slots", "below", "lines", "said", "count"] [.ref co, .ref pa, .int tk, .int 0, .ref sa, .ref la, .ref ba, .ref na, .ref da, .int 0] rfl (by decide +kernel)
  have hO' : (upd G15 o (.ins C dx (putF "idle" (.int 0) ((["orders", "picture", "ticks", "at", "stack", "slots", "below", "lines", "said", "count"] : List Str).zip ([.ref co, .ref pa, .int tk, .int 0, .ref sa, .ref la, .ref ba, .ref na, .ref da, .int 0] : List V))))) o = some (.ins C dx ((["orders", "picture", "ticks", "at", "stack", "slots", "below", "lines", "said", "count", "idle"] : List Str).zip ([.ref co, .ref pa, .int tk, .int 0, .ref sa, .ref la, .ref ba, .ref na, .ref da, .int 0, .int 0] : List V))) := by rw [e10]; exact upd_same
  have hp := kt_ins (v := .ins C dx (putF "idle" (.int 0) ((["orders", "picture", "ticks", "at", "stack", "slots", "below", "lines", "said", "count"] : List Str).zip ([.ref co, .ref pa, .int tk, .int 0, .ref sa, .ref la, .ref ba, .ref na, .ref da, .int 0] : List V)))) hO _ _ hp
  have sm := sm_upd (v := .ins C dx (putF "idle" (.int 0) ((["orders", "picture", "ticks", "at", "stack", "slots", "below", "lines", "said", "count"] : List Str).zip ([.ref co, .ref pa, .int tk, .int 0, .ref sa, .ref la, .ref ba, .ref na, .ref da, .int 0] : List V)))) sm nBo
  have hsa : (upd G15 o (.ins C dx (putF "idle" (.int 0) ((["orders", "picture", "ticks", "at", "stack", "slots", "below", "lines", "said", "count"] : List Str).zip ([.ref co, .ref pa, .int tk, .int 0, .ref sa, .ref la, .ref ba, .ref na, .ref da, .int 0] : List V))))) sa = some (.lst []) := by rw [upd_ne nsa_o]; exact hsa
  have hla : (upd G15 o (.ins C dx (putF "idle" (.int 0) ((["orders", "picture", "ticks", "at", "stack", "slots", "below", "lines", "said", "count"] : List Str).zip ([.ref co, .ref pa, .int tk, .int 0, .ref sa, .ref la, .ref ba, .ref na, .ref da, .int 0] : List V))))) la = some (.lst []) := by rw [upd_ne nla_o]; exact hla
  have hba : (upd G15 o (.ins C dx (putF "idle" (.int 0) ((["orders", "picture", "ticks", "at", "stack", "slots", "below", "lines", "said", "count"] : List Str).zip ([.ref co, .ref pa, .int tk, .int 0, .ref sa, .ref la, .ref ba, .ref na, .ref da, .int 0] : List V))))) ba = some (.lst []) := by rw [upd_ne nba_o]; exact hba
  have hna : (upd G15 o (.ins C dx (putF "idle" (.int 0) ((["orders", "picture", "ticks", "at", "stack", "slots", "below", "lines", "said", "count"] : List Str).zip ([.ref co, .ref pa, .int tk, .int 0, .ref sa, .ref la, .ref ba, .ref na, .ref da, .int 0] : List V))))) na = some (.lst []) := by rw [upd_ne nna_o]; exact hna
  have hda : (upd G15 o (.ins C dx (putF "idle" (.int 0) ((["orders", "picture", "ticks", "at", "stack", "slots", "below", "lines", "said", "count"] : List Str).zip ([.ref co, .ref pa, .int tk, .int 0, .ref sa, .ref la, .ref ba, .ref na, .ref da, .int 0] : List V))))) da = some (.lst []) := by rw [upd_ne nda_o]; exact hda
  clear hO
  have hO := hO'
  clear hO'
  generalize upd G15 o (.ins C dx (putF "idle" (.int 0) ((["orders", "picture", "ticks", "at", "stack", "slots", "below", "lines", "said", "count"] : List Str).zip ([.ref co, .ref pa, .int tk, .int 0, .ref sa, .ref la, .ref ba, .ref na, .ref da, .int 0] : List V)))) = G16 at hO hp sm hsa hla hba hna hda ⊢
  refine ⟨_, rfl, o, C, dx, _, rfl, hO, T.cl, T.no 11 rfl, (by show 11 < 1000; decide), ?_⟩
  have e11 : putF "number" (.non) ((["orders", "picture", "ticks", "at", "stack", "slots", "below", "lines", "said", "count", "idle"] : List Str).zip ([.ref co, .ref pa, .int tk, .int 0, .ref sa, .ref la, .ref ba, .ref na, .ref da, .int 0, .int 0] : List V)) = (["orders", "picture", "ticks", "at", "stack", "slots", "below", "lines", "said", "count", "idle", "number"] : List Str).zip ([.ref co, .ref pa, .int tk, .int 0, .ref sa, .ref la, .ref ba, .ref na, .ref da, .int 0, .int 0, .non] : List V) := putF_app _ _ ["orders", "picture", "ticks", "at", "stack", "slots", "below", "lines", "said", "count", "idle"] [.ref co, .ref pa, .int tk, .int 0, .ref sa, .ref la, .ref ba, .ref na, .ref da, .int 0, .int 0] rfl (by decide +kernel)
  have hO' : (upd G16 o (.ins C dx (putF "number" (.non) ((["orders", "picture", "ticks", "at", "stack", "slots", "below", "lines", "said", "count", "idle"] : List Str).zip ([.ref co, .ref pa, .int tk, .int 0, .ref sa, .ref la, .ref ba, .ref na, .ref da, .int 0, .int 0] : List V))))) o = some (.ins C dx ((["orders", "picture", "ticks", "at", "stack", "slots", "below", "lines", "said", "count", "idle", "number"] : List Str).zip ([.ref co, .ref pa, .int tk, .int 0, .ref sa, .ref la, .ref ba, .ref na, .ref da, .int 0, .int 0, .non] : List V))) := by rw [e11]; exact upd_same
  have hp := kt_ins (v := .ins C dx (putF "number" (.non) ((["orders", "picture", "ticks", "at", "stack", "slots", "below", "lines", "said", "count", "idle"] : List Str).zip ([.ref co, .ref pa, .int tk, .int 0, .ref sa, .ref la, .ref ba, .ref na, .ref da, .int 0, .int 0] : List V)))) hO _ _ hp
  have sm := sm_upd (v := .ins C dx (putF "number" (.non) ((["orders", "picture", "ticks", "at", "stack", "slots", "below", "lines", "said", "count", "idle"] : List Str).zip ([.ref co, .ref pa, .int tk, .int 0, .ref sa, .ref la, .ref ba, .ref na, .ref da, .int 0, .int 0] : List V)))) sm nBo
  have hsa : (upd G16 o (.ins C dx (putF "number" (.non) ((["orders", "picture", "ticks", "at", "stack", "slots", "below", "lines", "said", "count", "idle"] : List Str).zip ([.ref co, .ref pa, .int tk, .int 0, .ref sa, .ref la, .ref ba, .ref na, .ref da, .int 0, .int 0] : List V))))) sa = some (.lst []) := by rw [upd_ne nsa_o]; exact hsa
  have hla : (upd G16 o (.ins C dx (putF "number" (.non) ((["orders", "picture", "ticks", "at", "stack", "slots", "below", "lines", "said", "count", "idle"] : List Str).zip ([.ref co, .ref pa, .int tk, .int 0, .ref sa, .ref la, .ref ba, .ref na, .ref da, .int 0, .int 0] : List V))))) la = some (.lst []) := by rw [upd_ne nla_o]; exact hla
  have hba : (upd G16 o (.ins C dx (putF "number" (.non) ((["orders", "picture", "ticks", "at", "stack", "slots", "below", "lines", "said", "count", "idle"] : List Str).zip ([.ref co, .ref pa, .int tk, .int 0, .ref sa, .ref la, .ref ba, .ref na, .ref da, .int 0, .int 0] : List V))))) ba = some (.lst []) := by rw [upd_ne nba_o]; exact hba
  have hna : (upd G16 o (.ins C dx (putF "number" (.non) ((["orders", "picture", "ticks", "at", "stack", "slots", "below", "lines", "said", "count", "idle"] : List Str).zip ([.ref co, .ref pa, .int tk, .int 0, .ref sa, .ref la, .ref ba, .ref na, .ref da, .int 0, .int 0] : List V))))) na = some (.lst []) := by rw [upd_ne nna_o]; exact hna
  have hda : (upd G16 o (.ins C dx (putF "number" (.non) ((["orders", "picture", "ticks", "at", "stack", "slots", "below", "lines", "said", "count", "idle"] : List Str).zip ([.ref co, .ref pa, .int tk, .int 0, .ref sa, .ref la, .ref ba, .ref na, .ref da, .int 0, .int 0] : List V))))) da = some (.lst []) := by rw [upd_ne nda_o]; exact hda
  clear hO
  have hO := hO'
  clear hO'
  generalize upd G16 o (.ins C dx (putF "number" (.non) ((["orders", "picture", "ticks", "at", "stack", "slots", "below", "lines", "said", "count", "idle"] : List Str).zip ([.ref co, .ref pa, .int tk, .int 0, .ref sa, .ref la, .ref ba, .ref na, .ref da, .int 0, .int 0] : List V)))) = G17 at hO hp sm hsa hla hba hna hda ⊢
  refine ⟨_, rfl, o, C, dx, _, rfl, hO, T.cl, T.no 12 rfl, (by show 12 < 1000; decide), ?_⟩
  have e12 : putF "end" (.str "") ((["orders", "picture", "ticks", "at", "stack", "slots", "below", "lines", "said", "count", "idle", "number"] : List Str).zip ([.ref co, .ref pa, .int tk, .int 0, .ref sa, .ref la, .ref ba, .ref na, .ref da, .int 0, .int 0, .non] : List V)) = (["orders", "picture", "ticks", "at", "stack", "slots", "below", "lines", "said", "count", "idle", "number", "end"] : List Str).zip ([.ref co, .ref pa, .int tk, .int 0, .ref sa, .ref la, .ref ba, .ref na, .ref da, .int 0, .int 0, .non, .str ""] : List V) := putF_app _ _ ["orders", "picture", "ticks", "at", "stack", "slots", "below", "lines", "said", "count", "idle", "number"] [.ref co, .ref pa, .int tk, .int 0, .ref sa, .ref la, .ref ba, .ref na, .ref da, .int 0, .int 0, .non] rfl (by decide +kernel)
  have hO' : (upd G17 o (.ins C dx (putF "end" (.str "") ((["orders", "picture", "ticks", "at", "stack", "slots", "below", "lines", "said", "count", "idle", "number"] : List Str).zip ([.ref co, .ref pa, .int tk, .int 0, .ref sa, .ref la, .ref ba, .ref na, .ref da, .int 0, .int 0, .non] : List V))))) o = some (.ins C dx ((["orders", "picture", "ticks", "at", "stack", "slots", "below", "lines", "said", "count", "idle", "number", "end"] : List Str).zip ([.ref co, .ref pa, .int tk, .int 0, .ref sa, .ref la, .ref ba, .ref na, .ref da, .int 0, .int 0, .non, .str ""] : List V))) := by rw [e12]; exact upd_same
  have hp := kt_ins (v := .ins C dx (putF "end" (.str "") ((["orders", "picture", "ticks", "at", "stack", "slots", "below", "lines", "said", "count", "idle", "number"] : List Str).zip ([.ref co, .ref pa, .int tk, .int 0, .ref sa, .ref la, .ref ba, .ref na, .ref da, .int 0, .int 0, .non] : List V)))) hO _ _ hp
  have sm := sm_upd (v := .ins C dx (putF "end" (.str "") ((["orders", "picture", "ticks", "at", "stack", "slots", "below", "lines", "said", "count", "idle", "number"] : List Str).zip ([.ref co, .ref pa, .int tk, .int 0, .ref sa, .ref la, .ref ba, .ref na, .ref da, .int 0, .int 0, .non] : List V)))) sm nBo
  have hsa : (upd G17 o (.ins C dx (putF "end" (.str "") ((["orders", "picture", "ticks", "at", "stack", "slots", "below", "lines", "said", "count", "idle", "number"] : List Str).zip ([.ref co, .ref pa, .int tk, .int 0, .ref sa, .ref la, .ref ba, .ref na, .ref da, .int 0, .int 0, .non] : List V))))) sa = some (.lst []) := by rw [upd_ne nsa_o]; exact hsa
  have hla : (upd G17 o (.ins C dx (putF "end" (.str "") ((["orders", "picture", "ticks", "at", "stack", "slots", "below", "lines", "said", "count", "idle", "number"] : List Str).zip ([.ref co, .ref pa, .int tk, .int 0, .ref sa, .ref la, .ref ba, .ref na, .ref da, .int 0, .int 0, .non] : List V))))) la = some (.lst []) := by rw [upd_ne nla_o]; exact hla
  have hba : (upd G17 o (.ins C dx (putF "end" (.str "") ((["orders", "picture", "ticks", "at", "stack", "slots", "below", "lines", "said", "count", "idle", "number"] : List Str).zip ([.ref co, .ref pa, .int tk, .int 0, .ref sa, .ref la, .ref ba, .ref na, .ref da, .int 0, .int 0, .non] : List V))))) ba = some (.lst []) := by rw [upd_ne nba_o]; exact hba
  have hna : (upd G17 o (.ins C dx (putF "end" (.str "") ((["orders", "picture", "ticks", "at", "stack", "slots", "below", "lines", "said", "count", "idle", "number"] : List Str).zip ([.ref co, .ref pa, .int tk, .int 0, .ref sa, .ref la, .ref ba, .ref na, .ref da, .int 0, .int 0, .non] : List V))))) na = some (.lst []) := by rw [upd_ne nna_o]; exact hna
  have hda : (upd G17 o (.ins C dx (putF "end" (.str "") ((["orders", "picture", "ticks", "at", "stack", "slots", "below", "lines", "said", "count", "idle", "number"] : List Str).zip ([.ref co, .ref pa, .int tk, .int 0, .ref sa, .ref la, .ref ba, .ref na, .ref da, .int 0, .int 0, .non] : List V))))) da = some (.lst []) := by rw [upd_ne nda_o]; exact hda
  clear hO
  have hO := hO'
  clear hO'
  generalize upd G17 o (.ins C dx (putF "end" (.str "") ((["orders", "picture", "ticks", "at", "stack", "slots", "below", "lines", "said", "count", "idle", "number"] : List Str).zip ([.ref co, .ref pa, .int tk, .int 0, .ref sa, .ref la, .ref ba, .ref na, .ref da, .int 0, .int 0, .non] : List V)))) = G18 at hO hp sm hsa hla hba hna hda ⊢
  refine k ⟨dx, co, pa, sa, la, ba, na, da⟩ _ ⟨hO, hp, hsa, hla, hna, hda, ⟨nla_sa.symm, nna_sa.symm, nda_sa.symm⟩, ⟨nna_la.symm, nda_la.symm, nda_na.symm⟩, ⟨nBo, nBsa, nBla, nBna, nBda⟩, sm, sz⟩ rfl
end
end KD

/-! What is a line, a list of lines, a row, a picture, a board. -/
namespace KD
open PySem L2 TL EB
def spIsInt : Sp := fun vs H Q _ => ∃ i : Int, vs = [.int i] ∧ Q (.bl true) H
def spBoard : Sp := fun vs H Q _ => ∃ r c : Int, vs = [.int r, .int c] ∧ 1 ≤ r ∧ r ≤ 20 ∧ 1 ≤ c ∧ c ≤ 20 ∧ ∀ H', Same H H' → Q .non H'
def BW (p : Pic) : Prop := ∀ l ∈ p, ∀ c ∈ l, c = 35 ∨ c = 46
def spIsLine : Sp := fun vs H Q _ => ∃ R S v : Int, vs = [.int R, .int S, .int v] ∧ 0 ≤ v ∧ v < R + S ∧ Q (.bl true) H
def natsV (ls : List Nat) : List V := ls.map fun y : Nat => V.int (y : Int)
def spIsStrokes (K : PySem.W.Frag) : Sp := fun vs H Q _ => ∃ (R S : Nat) (a : Addr) (ls : List Nat), vs = [.int (R : Int), .int (S : Int), .ref a] ∧ SqL K H a (natsV ls) ∧ ls.length ≤ 1000 ∧ (∀ l ∈ ls, l < R + S) ∧ ∀ H', Same H H' → Q (.bl true) H'
def spCkStrokes (K : PySem.W.Frag) : Sp := fun vs H Q _ => ∃ (R S : Nat) (a : Addr) (ls : List Nat), vs = [.int (R : Int), .int (S : Int), .ref a] ∧ SqL K H a (natsV ls) ∧ ls.length ≤ 1000 ∧ (∀ l ∈ ls, l < R + S) ∧ ∀ H', Same H H' → Q .non H'
def spRow (PT : Addr) : Sp := fun vs H Q _ => ∃ l : List Nat, vs = [.str (sOf l)] ∧ 1 ≤ l.length ∧ l.length ≤ 20 ∧ (∀ c ∈ l, c = 35 ∨ c = 46) ∧ GN.Tab PT H ∧ Q (.bl true) H
def spIsPic (K : PySem.W.Frag) (PT : Addr) : Sp := fun vs H Q _ => ∃ (a : Addr) (p : Pic) (h w : Nat), vs = [.ref a] ∧ SqT K H a (rowsV p) ∧ Sized h w p ∧ BW p ∧ GN.Tab PT H ∧ Q (.bl true) H
def spCkPic (K : PySem.W.Frag) (PT : Addr) : Sp := fun vs H Q _ => ∃ (a : Addr) (p : Pic) (h w : Nat), vs = [.ref a] ∧ SqT K H a (rowsV p) ∧ Sized h w p ∧ BW p ∧ GN.Tab PT H ∧ Q .non H
structure FunT (K : PySem.W.Frag) (x qual : Str) (st : Stmt) (f : Addr) (fd : FuncData) (c : Addr) : Prop where
  ex : ∃ (oc : Value) (od : Option Addr) (kV doc pm : Value) (an : Option Addr) (ct : Value) (osl : Array (Option Value)),
    fd = PySem.W.fnOf x qual (defArgs st) (defBody st) (defScope st) .none kV doc pm an (.ref c) ct ∧ K.lookup f = some ⟨oc, od, .func fd, osl⟩ ∧ PySem.W.codeIn K (.ref c) qual = true
section
variable {P : Program} {w : World} {K : PySem.W.Frag} {mg : Str → Option Value} {base : Heap}
theorem FunT.ok {x qual : Str} {st : Stmt} {f c : Addr} {fd : FuncData} {N ps : List Str} {k : Nat} {sp : Sp} (F : FunT K x qual st f fd c) (S : FnScope N ps (defScope st)) (ln : ∀ vs H Q E, sp vs H Q E → vs.length = ps.length)
    (body : ∀ (A : Around) (outer : List Env) (s : Shared) (H : Hp) (vs : List V) (Q : VK) (E : XK), Room k (A.deeper (PyProof.Rows.envOfC qual (defScope st) s.heap.objs.size f (.ref c))) → sp vs H Q E →
      ∃ t, PSs (cxOf CX0 P w K mg base N qual (defScope st) f (.ref c) A outer s H E) (defBody st) t ∧ t { nx := fun _ H' => Q .non H', rt := Q } (start N vs) H) : FnOk P w K mg base CX0 (k + 1) f fd ps sp := by
  obtain ⟨oc, od, kV, doc, pm, an, ct, osl, rfl, lk, hcd⟩ := F.ex
  exact fn_of lk hcd S ln body

theorem scIsInt : FnScope ["value"] ["value"] (defScope S_is_integer) := ⟨rfl, rfl, rfl, by decide +kernel, rfl, by decide +kernel, by decide +kernel⟩
theorem ok_isInt {f : Addr} {fd : FuncData} (F : Fun K "is_integer" "is_integer" S_is_integer f fd) (T : Blt mg) : FnOk P w K mg base CX0 1 f fd ["value"] spIsInt := by
  refine F.ok scIsInt (fun vs H Q E h => ?_) (fun cdv A outer s0 H vs Q E hr h => ?_)
  · obtain ⟨i, rfl, _⟩ := h
    rfl
  obtain ⟨i, rfl, k⟩ := h
  refine ⟨_, pss_one (ps_ret (pe_and (pe_callB call_isi (by rfl) T.isi (by decide +kernel) (pa_cons (pv 0) (pa_cons (pe_bltn (v := .ty "int") (by rfl) T.int (by decide +kernel) rfl) pa_nil)))
    (pe_one (pe_not (pe_callB call_isi (by rfl) T.isi (by decide +kernel) (pa_cons (pv 0) (pa_cons (pe_bltn (v := .ty "bool") (by rfl) T.bool (by decide +kernel) rfl) pa_nil))))))), ?_⟩
  refine ⟨_, rfl, _, _, _, _, true, rfl, .ty "int", .base (.int _), kit_ty (by decide +kernel), true, rfl, iteT ?_⟩
  exact ⟨_, rfl, _, _, _, _, false, rfl, .ty "bool", .base (.int _), kit_ty (by decide +kernel), _, rfl, k⟩
abbrev cbN : List Str := ["rows", "columns", "value"]
theorem scGen {env : Env} : GxR.GenS env { kind := ScopeKind.function, names := [(PySem.Str.ofString ".0", PySem.NameKind.local), (PySem.Str.ofString "sign", PySem.NameKind.local), (PySem.Str.ofString "BLACK", PySem.NameKind.globalImplicit), (PySem.Str.ofString "WHITE", PySem.NameKind.globalImplicit)], isGenerator := true, isCoroutine := false, more := [] : Scope } "sign" := by
  refine ⟨rfl, rfl, ?_, rfl, rfl, ?_⟩
  · decide +kernel
  · intro y hy e
    have no : ∀ y ∈ ([(PySem.Str.ofString ".0", PySem.NameKind.local), (PySem.Str.ofString "sign", PySem.NameKind.local), (PySem.Str.ofString "BLACK", PySem.NameKind.globalImplicit), (PySem.Str.ofString "WHITE", PySem.NameKind.globalImplicit)] : List (Str × NameKind)), y.2 ≠ .free := by decide +kernel
    exact absurd e (no y hy)
theorem scRow : FnScope ["value"] ["value"] (defScope S_is_row) := ⟨rfl, rfl, rfl, by decide +kernel, rfl, by decide +kernel, by decide +kernel⟩
theorem ok_row {f c PT : Addr} {fd : FuncData} (F : FunT K "is_row" "is_row" S_is_row f fd c) (T : Blt mg) (hall : mg "all" = none) (mM : ∃ t, mg "MOST_LINES" = some (.int 20 t)) (mB : ∃ t, mg "BLACK" = some (.str "#" t)) (mW : ∃ t, mg "WHITE" = some (.str "." t)) (TB : GxR.TabB base mg c PT) :
    FnOk P w K mg base CX0 2 f fd ["value"] (spRow PT) := by
  refine F.ok scRow (fun vs H Q E h => ?_) (fun A outer s0 H vs Q E hr h => ?_)
  · obtain ⟨l, rfl, _⟩ := h
    rfl
  obtain ⟨l, rfl, l1, l2, hc, hT, k⟩ := h
  obtain ⟨tM, mM⟩ := mM
  obtain ⟨tB, mB⟩ := mB
  obtain ⟨tW, mW⟩ := mW
  have hz : (sOf l).length ≤ sizeLine := by rw [sOf_len]; exact Nat.le_trans l2 (by decide)
  refine ⟨_, pss_cons (ps_if (PW.pt (pw_or (pt_not (pt_val (pe_callB call_isi (by rfl) T.isi (by decide +kernel) (pa_cons (pv 0) (pa_cons (pe_bltn (v := .ty "str") (by rfl) T.str (by decide +kernel) rfl) pa_nil)))))
      (pw_or1 (pt_not (pt_chain op_le op_le pe_int (pe_callB call_len_str (by rfl) T.len PySem.boot_len (pa_cons (pv 0) pa_nil)) (pe_glob (v := .int 20) rfl mM ⟨_, rfl⟩)))))) pss_never pss_nil)
    (pss_one (ps_ret (GN.pe_all (k := 1) (P := PT) (c := c) hr rfl hall TB rfl scGen (pv 0) (GN.elt_in2 (Z1 := "#") (Z2 := ".") rfl rfl rfl rfl mB mW) (fun _ => rfl)))), ?_⟩
  refine ⟨_, rfl, _, _, _, _, true, rfl, .ty "str", .base (.str _), kit_ty (by decide +kernel), true, rfl, iteF ?_⟩
  refine ⟨_, rfl, sOf l, rfl, hz, _, _, rfl, rfl, _, rfl, ?_⟩
  rw [sOf_len, decide_eq_true (by omega : (1 : Int) ≤ ((l.length : Nat) : Int))]
  refine iteT ⟨_, _, rfl, rfl, _, rfl, ?_⟩
  rw [decide_eq_true (by omega : ((l.length : Nat) : Int) ≤ 20)]
  refine iteF ?_
  refine ⟨_, rfl, sOf l, rfl, hT, ?_⟩
  have e : (sOf l).cps.toList.all (fun c => inV (.str ⟨#[c]⟩) [.str "#", .str "."]) = true := by
    rw [List.all_eq_true]
    intro c hc'
    have q : c ∈ l := hc'
    rcases hc c q with rfl | rfl
    · decide +kernel
    · decide +kernel
  rw [e]
  exact k
abbrev ipN : List Str := ["value", "row"]
theorem scIsPic : FnScope ipN ["value"] (defScope S_is_picture) := ⟨rfl, rfl, rfl, by decide +kernel, rfl, by decide +kernel, by decide +kernel⟩
theorem ok_isPic {f fR PT : Addr} {fd fdR : FuncData} (F : Fun K "is_picture" "is_picture" S_is_picture f fd) (T : Blt mg) (mM : ∃ t, mg "MOST_LINES" = some (.int 20 t))
    (GR : FnOk P w K mg base CX0 2 fR fdR ["value"] (spRow PT)) (mR : mg "is_row" = some (.ref fR)) (kR : PySem.W.keepIn K (.ref fR) = true) (bR : Binds K fdR ["value"] []) : FnOk P w K mg base CX0 3 f fd ["value"] (spIsPic K PT) := by
  refine F.ok scIsPic (fun vs H Q E h => ?_) (fun cdv A outer s0 H vs Q E hr hh => ?_)
  · obtain ⟨a, p, h, w, rfl, _⟩ := h
    rfl
  obtain ⟨a, p, h, w, rfl, hA, hs, hb, hT, k⟩ := hh
  obtain ⟨tM, mM⟩ := mM
  have h1 := hs.h1
  have h2 := hs.h2
  have w1 := hs.w1
  have w2 := hs.w2
  have lz : ∀ {z : List Nat}, z ∈ p → (sOf z).length ≤ sizeLine := fun h => by rw [sOf_len, hs.row _ h]; exact Nat.le_trans w2 (by decide)
  refine ⟨_, pss_cons (ps_if (PW.pt (pw_or (pt_not (pt_val (pe_callB call_isi (by rfl) T.isi (by decide +kernel) (pa_cons (pv 0) (pa_cons (pe_bltn (v := .ty "tuple") (by rfl) T.tup (by decide +kernel) rfl) pa_nil)))))
      (pw_or1 (pt_not (pt_chain op_le op_le pe_int (pe_callB call_len_seq (by rfl) T.len PySem.boot_len (pa_cons (pv 0) pa_nil)) (pe_glob (v := .int 20) rfl mM ⟨_, rfl⟩)))))) pss_never pss_nil)
    (pss_cons (ps_for PassesOwn.never rfl (pi_tup (pv 0)) (pg_name (i := 1) scIsPic.nd rfl (Or.inl rfl))
      (pss_one (ps_if (PW.pt (pw_or (pt_not (pt_val (pe_call GR hr rfl mR kR bR .nil pass0 (pa_cons (pv 1) pa_nil))))
        (pw_or1 (pt_cmpR op_ne (pe_callB call_len_str (by rfl) T.len PySem.boot_len (pa_cons (pv 1) pa_nil)) (pe_callB call_len_str (by rfl) T.len PySem.boot_len (pa_cons (pe_ix ix_tup (pv 0) pe_int (fun _ _ => rfl)) pa_nil)) (nomark _))))) pss_never pss_nil)))
    (pss_one (ps_ret pe_bl))), ?_⟩
  refine ⟨_, rfl, _, _, _, _, true, rfl, .ty "tuple", Fp.tup hA, kit_ty (by decide +kernel), true, rfl, iteF ?_⟩
  refine ⟨_, rfl, a, _, rfl, .inr hA, _, _, rfl, rfl, _, rfl, ?_⟩
  rw [rowsV_len, hs.len, decide_eq_true (by omega : (1 : Int) ≤ (h : Int))]
  refine iteT ⟨_, _, rfl, rfl, _, rfl, ?_⟩
  rw [decide_eq_true (by omega : (h : Int) ≤ 20)]
  refine iteF ?_
  have hl0 : 0 < p.length := by rw [hs.len]; exact h1
  obtain ⟨z0, e0⟩ : ∃ z0, p[0]? = some z0 := ⟨_, List.getElem?_eq_getElem hl0⟩
  have m0 := List.mem_of_getElem? e0
  have r0 : atI (rowsV p) 0 = some (.str (sOf z0)) := by
    refine atI_nat (j := 0) ?_
    unfold rowsV
    rw [List.getElem?_map, e0]
    rfl
  refine ⟨_, rfl, a, rfl, ⟨_, hA⟩, for_tup (a := a) (xs := rowsV p) (fun i σ H' => ∃ v, σ = [some (.ref a), v] ∧ H' = H) ⟨none, rfl, rfl⟩ (fun i σ H' _ ⟨_, _, e⟩ => by rw [e]; exact hA) ?_ ?_⟩
  · rintro i x σ H1 hx ⟨v, rfl, rfl⟩
    obtain ⟨z, hz, rfl⟩ := rowsV_get hx
    have mz := List.mem_of_getElem? hz
    refine ⟨_, rfl, z, rfl, by rw [hs.row z mz]; exact w1, by rw [hs.row z mz]; exact w2, hb z mz, hT, true, rfl, iteF ?_⟩
    refine ⟨_, rfl, _, rfl, lz mz, _, rfl, a, _, _, _, rfl, rfl, hA, r0, _, rfl, lz m0, rfl, _, rfl, ?_⟩
    rw [sOf_len, sOf_len, hs.row z mz, hs.row z0 m0, decide_eq_true rfl]
    exact iteF ⟨_, rfl, rfl⟩
  · rintro σ H1 ⟨v, rfl, rfl⟩
    exact k
theorem scCkPic : FnScope ["value"] ["value"] (defScope S_check_picture) := ⟨rfl, rfl, rfl, by decide +kernel, rfl, by decide +kernel, by decide +kernel⟩
theorem ok_ckPic {f fR PT : Addr} {fd fdR : FuncData} (F : Fun K "check_picture" "check_picture" S_check_picture f fd)
    (GR : FnOk P w K mg base CX0 3 fR fdR ["value"] (spIsPic K PT)) (mR : mg "is_picture" = some (.ref fR)) (kR : PySem.W.keepIn K (.ref fR) = true) (bR : Binds K fdR ["value"] []) : FnOk P w K mg base CX0 4 f fd ["value"] (spCkPic K PT) := by
  refine F.ok scCkPic (fun vs H Q E h => ?_) (fun cdv A outer s0 H vs Q E hr hh => ?_)
  · obtain ⟨a, p, h, w, rfl, _⟩ := h
    rfl
  obtain ⟨a, p, h, w, rfl, hA, hs, hb, hT, k⟩ := hh
  refine ⟨_, pss_one (ps_if (pt_not (pt_val (pe_call GR hr rfl mR kR bR .nil pass0 (pa_cons (pv 0) pa_nil)))) pss_never pss_nil), ?_⟩
  exact ⟨_, rfl, a, p, h, w, rfl, hA, hs, hb, hT, true, rfl, iteF k⟩
end
end KD

/-! As ELC, without its imports. -/
namespace KD
open PySem L2 TL
/-- a source that gives the values of a list, whatever is made meanwhile -/
def Src {α : Type} (J : It) (ls : List α) (v : α → V) (H1 : Hp) : Prop := ∀ H, Same H1 H →
  (∀ (i : Nat) (x : α), ls[i]? = some x → J.go i H ∧ ∀ y H', J.yld i H y H' → y = v x ∧ H' = H) ∧ J.stop ls.length H
theorem src_list {α : Type} {K : PySem.W.Frag} {a : Addr} {ls : List α} {v : α → V} {H1 : Hp} (h : SqL K H1 a (ls.map v)) : Src (Itl K a) ls v H1 := fun H s => by
  have h' := s.seq h
  refine ⟨fun i x hx => ⟨⟨_, v x, h', by rw [List.getElem?_map, hx]; rfl⟩, fun y H' hy => ⟨?_, hy.1⟩⟩, ⟨_, h', by rw [List.length_map]; exact Nat.le_refl _⟩⟩
  have z := hy.2 _ h'
  rw [List.getElem?_map, hx] at z
  exact (Option.some.inj z).symm
theorem src_tup {α : Type} {K : PySem.W.Frag} {a : Addr} {ls : List α} {v : α → V} {H1 : Hp} (h : SqT K H1 a (ls.map v)) : Src (Itt K a) ls v H1 := fun H s => by
  have h' := KT.same s _ _ h
  refine ⟨fun i x hx => ⟨⟨_, v x, h', by rw [List.getElem?_map, hx]; rfl⟩, fun y H' hy => ⟨?_, hy.1⟩⟩, ⟨_, h', by rw [List.length_map]; exact Nat.le_refl _⟩⟩
  have z := hy.2 _ h'
  rw [List.getElem?_map, hx] at z
  exact (Option.some.inj z).symm
theorem src_range {lo : Int} {n : Nat} {H1 : Hp} : Src (Itr lo n) (List.range n) (fun k : Nat => .int (lo + k)) H1 := fun H s => by
  rw [List.length_range]
  refine ⟨fun i x hx => ?_, Nat.le_refl _⟩
  have hi : i < n := by
    have := (List.getElem?_eq_some_iff.mp hx).1
    rwa [List.length_range] at this
  rw [List.getElem?_range hi] at hx
  cases hx
  exact ⟨hi, fun y H' hy => ⟨hy.2, hy.1⟩⟩
theorem lcf {α : Type} {J : It} {ls : List α} {v e : α → V} {f : α → Bool} {g : TG} {tt : TT} {te : TE} {vs : List Nat} {σ : L2.St} {H1 : Hp} {D : Addr} {Qd : Hp → Prop} (S : Src J ls v H1) (nD : H1 D = none) (len : ls.length ≤ 1000000)
    (hs : ∀ x ∈ ls, ∀ H, Same H1 H → ∀ (Yes : VK) (No : Hp → Prop), (f x = true → ∀ H4, Same H H4 → Yes (e x) H4) → (f x = false → ∀ H4, Same H H4 → No H4) →
      g (v x) (wipe σ vs) H fun σ2 H2 => wipe σ2 vs = wipe σ vs ∧ tt σ2 H2 fun b H3 => if b = true then te σ2 H3 Yes else No H3)
    (hd : ∀ H, Same H1 H → H D = some (.lst ((ls.filter f).map e)) → Qd H) :
    ∃ W : Nat → Nat → Hp → Prop, (∃ m, W 0 m (upd H1 D (.lst []))) ∧ ∀ i m H, W i m H →
      (J.stop i H ∧ Qd H) ∨ (J.go i H ∧ ∃ Nx : Hp → Prop, (∀ H', Nx H' → ∃ m', m' < m ∧ W (i + 1) m' H') ∧ ∀ x H', J.yld i H x H' → g x (wipe σ vs) H' fun σ2 H2 => wipe σ2 vs = wipe σ vs ∧ tt σ2 H2 fun b H3 =>
        if b = true then te σ2 H3 fun y H4 => ∃ acc, H4 D = some (.lst acc) ∧ acc.length < sizeLine ∧ Nx (upd H4 D (.lst (acc ++ [y]))) else Nx H3) := by
  refine ⟨fun i m H => m = ls.length - i ∧ i ≤ ls.length ∧ Same H1 H ∧ H D = some (.lst (((ls.take i).filter f).map e)), ⟨ls.length, by simp, Nat.zero_le _, same_new nD _, by rw [List.take_zero]; exact upd_same⟩, ?_⟩
  rintro i m H ⟨rfl, hi, s, hD⟩
  obtain ⟨go, stop⟩ := S H s
  by_cases hlt : i < ls.length
  · obtain ⟨x, hx⟩ : ∃ x, ls[i]? = some x := ⟨_, List.getElem?_eq_getElem hlt⟩
    obtain ⟨g0, hy⟩ := go i x hx
    refine .inr ⟨g0, fun H' => i < ls.length ∧ Same H1 H' ∧ H' D = some (.lst (((ls.take (i + 1)).filter f).map e)), fun H' h => ⟨ls.length - (i + 1), by omega, rfl, hlt, h.2⟩, fun y H' h => ?_⟩
    obtain ⟨rfl, rfl⟩ := hy y H' h
    refine hs x (List.mem_of_getElem? hx) H' s _ _ (fun fx H4 s4 => ?_) (fun fx H4 s4 => ?_)
    · refine ⟨_, s4 _ _ hD, ?_, hlt, fun b o hb => ?_, ?_⟩
      · rw [List.length_map]
        have a1 := List.length_filter_le f (ls.take i)
        rw [List.length_take] at a1
        exact Nat.lt_of_le_of_lt (show _ ≤ 1000000 by omega) (by decide)
      · rw [upd_ne (ne_of_none hb nD)]
        exact s4 _ _ (s _ _ hb)
      · rw [List.take_succ, hx, List.filter_append, List.map_append]
        show _ = some (HO.lst (_ ++ ([x].filter f).map e))
        rw [List.filter_cons, if_pos fx]
        exact upd_same
    · refine ⟨hlt, s.trans s4, ?_⟩
      rw [List.take_succ, hx, List.filter_append, List.map_append]
      show _ = some (HO.lst (_ ++ ([x].filter f).map e))
      rw [List.filter_cons, if_neg (by rw [fx]; decide)]
      show _ = some (HO.lst (_ ++ []))
      rw [List.append_nil]
      exact s4 _ _ hD
  · have e : i = ls.length := by omega
    subst e
    refine .inl ⟨stop, hd H s ?_⟩
    rw [List.take_length] at hD
    exact hD
theorem all_true {β : Type} (l : List β) : (l.map fun _ => true).all id = true := by
  rw [List.all_eq_true]
  intro b mb
  obtain ⟨_, _, rfl⟩ := List.mem_map.mp mb
  rfl
theorem filt_tt {α : Type} (l : List α) : l.filter (fun _ => true) = l := List.filter_eq_self.mpr fun _ _ => rfl
end KD

/-! Codes that are codes: is_order, has_its_number, is_code, check_code. -/
namespace KD
open PySem L2 TL
def numW : List Str := ["push", "load", "store", "tick", "frame", "jump", "zero", "some", "call"]
def plaW : List Str := ["copy", "rows", "cols", "black", "add", "sub", "mul", "div", "mod", "lt", "le", "eq", "ne", "neg", "not", "truth", "row", "col", "say", "back", "stop", "done"]
def couW : List Str := ["load", "store", "tick", "frame"]
def leaW : List Str := ["jump", "zero", "some"]
def lasW : List Str := ["done", "stop", "back", "jump"]
structure CdT (K : PySem.W.Frag) (mg : Str → Option Value) : Prop where
  num : ∃ a, mg "NUMBERED" = some (.ref a) ∧ ∀ H, SqT K H a (numW.map V.str)
  pla : ∃ a, mg "PLAIN" = some (.ref a) ∧ ∀ H, SqT K H a (plaW.map V.str)
  cou : ∃ a, mg "COUNTED" = some (.ref a) ∧ ∀ H, SqT K H a (couW.map V.str)
  lea : ∃ a, mg "LEADING" = some (.ref a) ∧ ∀ H, SqT K H a (leaW.map V.str)
  las : ∃ a, mg "LAST" = some (.ref a) ∧ ∀ H, SqT K H a (lasW.map V.str)
  most : ∃ t, mg "MOST" = some (.int 1000000000 t)
  least : ∃ t, mg "LEAST_ORDERS" = some (.int 2 t)
  mOrd : ∃ t, mg "MOST_ORDERS" = some (.int 50000 t)
  mCnt : ∃ t, mg "MOST_COUNT" = some (.int 50000 t)
/-- an order's number is right in a code of n orders -/
def odOk (n : Nat) : Od → Prop
  | .push x => Small x | .load k => k ≤ 50000 | .store k => k ≤ 50000 | .tick k => k ≤ 50000 | .frame k => k ≤ 50000
  | .jump k => k < n | .zero k => k < n | .some k => k < n | _ => True
theorem od_sort (od : Od) : (od.w ∈ numW ∧ od.w ∉ plaW) ∨ (od.w ∉ numW ∧ od.w ∈ plaW ∧ od.n = 0) := by
  cases od with
  | push _ => exact .inl (by show ("push" : Str) ∈ numW ∧ ("push" : Str) ∉ plaW; decide +kernel)
  | load _ => exact .inl (by show ("load" : Str) ∈ numW ∧ ("load" : Str) ∉ plaW; decide +kernel)
  | store _ => exact .inl (by show ("store" : Str) ∈ numW ∧ ("store" : Str) ∉ plaW; decide +kernel)
  | jump _ => exact .inl (by show ("jump" : Str) ∈ numW ∧ ("jump" : Str) ∉ plaW; decide +kernel)
  | zero _ => exact .inl (by show ("zero" : Str) ∈ numW ∧ ("zero" : Str) ∉ plaW; decide +kernel)
  | some _ => exact .inl (by show ("some" : Str) ∈ numW ∧ ("some" : Str) ∉ plaW; decide +kernel)
  | tick _ => exact .inl (by show ("tick" : Str) ∈ numW ∧ ("tick" : Str) ∉ plaW; decide +kernel)
  | frame _ => exact .inl (by show ("frame" : Str) ∈ numW ∧ ("frame" : Str) ∉ plaW; decide +kernel)
  | two o => exact .inr (by cases o <;> exact ⟨by decide +kernel, by decide +kernel, rfl⟩)
  | one o => exact .inr (by cases o <;> exact ⟨by decide +kernel, by decide +kernel, rfl⟩)
  | _ => exact .inr ⟨by decide +kernel, by decide +kernel, rfl⟩
theorem notKind {s : Str} (h : s ∈ plaW) : s ≠ "push" ∧ s ∉ couW ∧ s ≠ "call" ∧ s ∉ leaW := by
  have z : plaW.all (fun s => decide (s ≠ "push" ∧ s ∉ couW ∧ s ≠ "call" ∧ s ∉ leaW)) = true := by decide +kernel
  exact of_decide_eq_true (List.all_eq_true.mp z s h)
theorem od_kind (od : Od) (n : Nat) (ok : odOk n od) : (∃ x, od = .push x ∧ Small x) ∨ (∃ k : Nat, od.w ≠ "push" ∧ od.w ∈ couW ∧ od.n = (k : Int) ∧ k ≤ 50000) ∨ (∃ k : Nat, od.w ≠ "push" ∧ od.w ∉ couW ∧ od.w ≠ "call" ∧ od.w ∈ leaW ∧ od.n = (k : Int) ∧ k < n) ∨
    (od.w ≠ "push" ∧ od.w ∉ couW ∧ od.w ≠ "call" ∧ od.w ∉ leaW ∧ od.n = 0) := by
  rcases od_sort od with ⟨h1, h2⟩ | ⟨h1, h2, h3⟩
  · cases od with
    | push x => exact .inl ⟨x, rfl, ok⟩
    | load k => exact .inr (.inl ⟨k, by show ("load" : Str) ≠ _; decide +kernel, by show ("load" : Str) ∈ _; decide +kernel, rfl, ok⟩)
    | store k => exact .inr (.inl ⟨k, by show ("store" : Str) ≠ _; decide +kernel, by show ("store" : Str) ∈ _; decide +kernel, rfl, ok⟩)
    | tick k => exact .inr (.inl ⟨k, by show ("tick" : Str) ≠ _; decide +kernel, by show ("tick" : Str) ∈ _; decide +kernel, rfl, ok⟩)
    | frame k => exact .inr (.inl ⟨k, by show ("frame" : Str) ≠ _; decide +kernel, by show ("frame" : Str) ∈ _; decide +kernel, rfl, ok⟩)
    | jump k => exact .inr (.inr (.inl ⟨k, by show ("jump" : Str) ≠ _; decide +kernel, by show ("jump" : Str) ∉ _; decide +kernel, by show ("jump" : Str) ≠ _; decide +kernel, by show ("jump" : Str) ∈ _; decide +kernel, rfl, ok⟩))
    | zero k => exact .inr (.inr (.inl ⟨k, by show ("zero" : Str) ≠ _; decide +kernel, by show ("zero" : Str) ∉ _; decide +kernel, by show ("zero" : Str) ≠ _; decide +kernel, by show ("zero" : Str) ∈ _; decide +kernel, rfl, ok⟩))
    | some k => exact .inr (.inr (.inl ⟨k, by show ("some" : Str) ≠ _; decide +kernel, by show ("some" : Str) ∉ _; decide +kernel, by show ("some" : Str) ≠ _; decide +kernel, by show ("some" : Str) ∈ _; decide +kernel, rfl, ok⟩))
    | two o => exact absurd (by cases o <;> (first | (show ("add" : Str) ∈ plaW; decide +kernel) | exact List.mem_of_elem_eq_true (by decide +kernel))) h2
    | one o => exact absurd (by cases o <;> exact List.mem_of_elem_eq_true (by decide +kernel)) h2
    | copy => exact absurd (by show ("copy" : Str) ∈ plaW; decide +kernel) h2
    | rows => exact absurd (by show ("rows" : Str) ∈ plaW; decide +kernel) h2
    | cols => exact absurd (by show ("cols" : Str) ∈ plaW; decide +kernel) h2
    | black => exact absurd (by show ("black" : Str) ∈ plaW; decide +kernel) h2
    | row => exact absurd (by show ("row" : Str) ∈ plaW; decide +kernel) h2
    | col => exact absurd (by show ("col" : Str) ∈ plaW; decide +kernel) h2
    | say => exact absurd (by show ("say" : Str) ∈ plaW; decide +kernel) h2
    | done => exact absurd (by show ("done" : Str) ∈ plaW; decide +kernel) h2
  · obtain ⟨a, b, c, d⟩ := notKind h2
    exact .inr (.inr (.inr ⟨a, b, c, d, h3⟩))
theorem flatS (l : List Str) : (l.map V.str).all flatV = true := by
  rw [List.all_eq_true]
  intro x m
  obtain ⟨_, _, rfl⟩ := List.mem_map.mp m
  rfl
def spIsOrd (K : PySem.W.Frag) : Sp := fun vs H Q _ => ∃ (t : Addr) (od : Od), vs = [.ref t] ∧ SqT K H t [.str od.w, .int od.n] ∧ Q (.bl true) H
def spHasN (K : PySem.W.Frag) : Sp := fun vs H Q _ => ∃ (co : Addr) (xs : List V) (od : Od), vs = [.ref co, .str od.w, .int od.n] ∧ SqT K H co xs ∧ odOk xs.length od ∧ Q (.bl true) H
section
variable {P : Program} {w : World} {K : PySem.W.Frag} {mg : Str → Option Value} {base : Heap}
theorem sc_isord : FnScope ["value", "word", "number"] ["value"] (defScope S_is_order) := ⟨rfl, rfl, rfl, by decide +kernel, rfl, by decide +kernel, by decide +kernel⟩
theorem ok_isord {f fI : Addr} {fd fdI : FuncData} (F : Fun K "is_order" "is_order" S_is_order f fd) (T : Blt mg) (D : CdT K mg)
    (GI : FnOk P w K mg base CX0 1 fI fdI ["value"] spIsInt) (mI : mg "is_integer" = some (.ref fI)) (kI : PySem.W.keepIn K (.ref fI) = true) (bI : Binds K fdI ["value"] []) : FnOk P w K mg base CX0 2 f fd ["value"] (spIsOrd K) := by
  refine F.ok sc_isord (fun vs H Q E h => ?_) (fun cdv A outer s0 H vs Q E hr h => ?_)
  · obtain ⟨t, od, rfl, _⟩ := h
    rfl
  obtain ⟨t, od, rfl, hT, k⟩ := h
  obtain ⟨aN, mN, hN⟩ := D.num
  obtain ⟨aP, mP, hP⟩ := D.pla
  refine ⟨_, pss_cons (ps_if (PW.pt (pw_or (pt_not (pt_val (pe_callB call_isi (by rfl) T.isi (by decide +kernel) (pa_cons (pv 0) (pa_cons (pe_bltn (v := .ty "tuple") (by rfl) T.tup (by decide +kernel) rfl) pa_nil)))))
      (pw_or1 (pt_cmpR op_ne (pe_callB call_len_seq (by rfl) T.len PySem.boot_len (pa_cons (pv 0) pa_nil)) pe_int (nomark _))))) pss_never pss_nil)
    (pss_cons (ps_asg (pv 0) (pg_tup rfl (pgs_cons (pg_name (i := 1) sc_isord.nd rfl (Or.inl rfl)) (pgs_cons (pg_name (i := 2) sc_isord.nd rfl (Or.inl rfl)) pgs_nil))))
    (pss_one (ps_ret (pe_and (pe_or (pe_cmpR op_in_seq (pv 1) (pe_glob (v := .ref aN) rfl mN rfl) (by rfl)) (pe_one (pe_cmpR op_in_seq (pv 1) (pe_glob (v := .ref aP) rfl mP rfl) (by rfl)))) (pe_one (pe_call GI hr rfl mI kI bI .nil pass0 (pa_cons (pv 2) pa_nil))))))), ?_⟩
  refine ⟨_, rfl, _, _, _, _, true, rfl, .ty "tuple", Fp.tup hT, kit_ty (by decide +kernel), true, rfl, iteF ?_⟩
  refine ⟨_, rfl, t, _, rfl, .inr hT, rfl, _, rfl, iteF ?_⟩
  refine ⟨_, rfl, t, _, rfl, hT, rfl, _, _, rfl, _, _, rfl, rfl, ?_⟩
  refine ⟨_, rfl, aN, _, rfl, .inr (hN H), rfl, flatS _, ?_⟩
  have fin : ∀ c : Bool, c = true → Q (.bl true) H := fun _ _ => k
  have e1 : (if false = true then !inV (V.str od.w) (numW.map V.str) else inV (V.str od.w) (numW.map V.str)) = decide (od.w ∈ numW) := in_strs od.w numW
  have e2 : (if false = true then !inV (V.str od.w) (plaW.map V.str) else inV (V.str od.w) (plaW.map V.str)) = decide (od.w ∈ plaW) := in_strs od.w plaW
  rw [e1]
  rcases od_sort od with ⟨h1, h2⟩ | ⟨h1, h2, h3⟩
  · rw [decide_eq_true h1]
    exact ⟨true, rfl, iteT ⟨true, rfl, iteT ⟨_, rfl, _, rfl, k⟩⟩⟩
  · rw [decide_eq_false h1]
    refine ⟨false, rfl, iteF ?_⟩
    refine ⟨_, rfl, aP, _, rfl, .inr (hP H), rfl, flatS _, ?_⟩
    rw [e2, decide_eq_true h2]
    exact ⟨true, rfl, iteT ⟨_, rfl, _, rfl, k⟩⟩
theorem sc_hasn : FnScope ["value", "word", "number"] ["value", "word", "number"] (defScope S_has_its_number) := ⟨rfl, rfl, rfl, by decide +kernel, rfl, by decide +kernel, by decide +kernel⟩
theorem ok_hasn {f : Addr} {fd : FuncData} (F : Fun K "has_its_number" "has_its_number" S_has_its_number f fd) (T : Blt mg) (D : CdT K mg) : FnOk P w K mg base CX0 2 f fd ["value", "word", "number"] (spHasN K) := by
  refine F.ok sc_hasn (fun vs H Q E h => ?_) (fun cdv A outer s0 H vs Q E hr h => ?_)
  · obtain ⟨co, xs, od, rfl, _⟩ := h
    rfl
  obtain ⟨co, xs, od, rfl, hC, ok, k⟩ := h
  obtain ⟨aC, mC, hCo⟩ := D.cou
  obtain ⟨aL, mL, hLe⟩ := D.lea
  obtain ⟨tM, mM⟩ := D.most
  obtain ⟨tN, mN⟩ := D.mCnt
  refine ⟨_, pss_cons (ps_if (pt_cmpR op_eq (pv 1) pe_str (nomark _)) (pss_one (ps_ret (pe_chain op_le op_le (pe_un un_neg (pe_glob (v := .int 1000000000) rfl mM ⟨_, rfl⟩)) (pv 2) (pe_glob (v := .int 1000000000) rfl mM ⟨_, rfl⟩)))) pss_nil)
    (pss_cons (ps_if (pt_cmpR op_in_seq (pv 1) (pe_glob (v := .ref aC) rfl mC rfl) (by rfl)) (pss_one (ps_ret (pe_chain op_le op_le pe_int (pv 2) (pe_glob (v := .int 50000) rfl mN ⟨_, rfl⟩)))) pss_nil)
    (pss_cons (ps_if (pt_cmpR op_eq (pv 1) pe_str (nomark _)) pss_never pss_nil)
    (pss_cons (ps_if (pt_cmpR op_in_seq (pv 1) (pe_glob (v := .ref aL) rfl mL rfl) (by rfl)) (pss_one (ps_ret (pe_chain op_le op_lt pe_int (pv 2) (pe_callB call_len_seq (by rfl) T.len PySem.boot_len (pa_cons (pv 0) pa_nil))))) pss_nil)
    (pss_one (ps_ret (pe_cmpR op_eq (pv 2) pe_int (nomark _))))))), ?_⟩
  have eC : (if false = true then !inV (V.str od.w) (couW.map V.str) else inV (V.str od.w) (couW.map V.str)) = decide (od.w ∈ couW) := in_strs od.w couW
  have eL : (if false = true then !inV (V.str od.w) (leaW.map V.str) else inV (V.str od.w) (leaW.map V.str)) = decide (od.w ∈ leaW) := in_strs od.w leaW
  have hM : (1000000000 : Int) = 1000000000 := rfl
  rcases od_kind od xs.length ok with ⟨x, rfl, sx⟩ | ⟨n, np, hc, en, hn⟩ | ⟨n, np, nc, nl, hl, en, hn⟩ | ⟨np, nc, nl, hl, en⟩
  · refine ⟨_, rfl, rfl, _, rfl, ?_⟩
    rw [dec_str, decide_eq_true (show (Od.push x).w = "push" from rfl)]
    obtain ⟨s1, s2⟩ := sx
    refine iteT ⟨_, rfl, _, rfl, _, _, rfl, rfl, _, rfl, ?_⟩
    rw [decide_eq_true (show (-1000000000 : Int) ≤ (Od.push x).n from s1)]
    refine iteT ⟨_, _, rfl, rfl, ?_⟩
    show Q (.bl (decide ((Od.push x).n ≤ 1000000000))) H
    rw [decide_eq_true (show (Od.push x).n ≤ 1000000000 from s2)]
    exact k
  · refine ⟨_, rfl, rfl, _, rfl, ?_⟩
    rw [dec_str, decide_eq_false np]
    refine iteF ?_
    refine ⟨_, rfl, aC, _, rfl, .inr (hCo H), rfl, flatS _, _, rfl, ?_⟩
    rw [eC, decide_eq_true hc]
    refine iteT ?_
    refine ⟨_, rfl, _, _, rfl, rfl, _, rfl, ?_⟩
    rw [en, decide_eq_true (Int.natCast_nonneg n)]
    refine iteT ⟨_, _, rfl, rfl, ?_⟩
    show Q (.bl (decide (((n : Nat) : Int) ≤ 50000))) H
    rw [decide_eq_true (show ((n : Nat) : Int) ≤ 50000 by omega)]
    exact k
  · refine ⟨_, rfl, rfl, _, rfl, ?_⟩
    rw [dec_str, decide_eq_false np]
    refine iteF ?_
    refine ⟨_, rfl, aC, _, rfl, .inr (hCo H), rfl, flatS _, _, rfl, ?_⟩
    rw [eC, decide_eq_false nc]
    refine iteF ?_
    refine ⟨_, rfl, rfl, _, rfl, ?_⟩
    rw [dec_str, decide_eq_false nl]
    refine iteF ?_
    refine ⟨_, rfl, aL, _, rfl, .inr (hLe H), rfl, flatS _, _, rfl, ?_⟩
    rw [eL, decide_eq_true hl]
    refine iteT ?_
    refine ⟨_, rfl, _, _, rfl, rfl, _, rfl, ?_⟩
    rw [en, decide_eq_true (Int.natCast_nonneg n)]
    refine iteT ⟨_, rfl, co, _, rfl, .inr hC, _, _, rfl, rfl, ?_⟩
    show Q (.bl (decide (((n : Nat) : Int) < ((xs.length : Nat) : Int)))) H
    rw [decide_eq_true (by omega)]
    exact k
  · refine ⟨_, rfl, rfl, _, rfl, ?_⟩
    rw [dec_str, decide_eq_false np]
    refine iteF ?_
    refine ⟨_, rfl, aC, _, rfl, .inr (hCo H), rfl, flatS _, _, rfl, ?_⟩
    rw [eC, decide_eq_false nc]
    refine iteF ?_
    refine ⟨_, rfl, rfl, _, rfl, ?_⟩
    rw [dec_str, decide_eq_false nl]
    refine iteF ?_
    refine ⟨_, rfl, aL, _, rfl, .inr (hLe H), rfl, flatS _, _, rfl, ?_⟩
    rw [eL, decide_eq_false hl]
    refine iteF ⟨_, rfl, rfl, ?_⟩
    rw [dec_int, en]
    exact k
theorem atI_end {xs : List V} {v : V} (h : xs.getLast? = some v) : atI xs (-1) = some v := by
  obtain ⟨l, rfl⟩ := List.getLast?_eq_some_iff.mp h
  unfold atI ixN
  rw [List.length_append, List.length_singleton, if_neg (by decide), if_pos (by omega), show ((-1 : Int) + ((l.length + 1 : Nat) : Int)).toNat = l.length by omega]
  show (l ++ [v])[l.length]? = some v
  rw [List.getElem?_append_right (Nat.le_refl _), Nat.sub_self]
  rfl
/-- orders in memory, one by one -/
theorem ods_of {H : Hp} : ∀ {code : List Od} {xs : List V}, DpAll K H xs (code.map odD) → ∃ ps : List (Addr × Od), ps.map Prod.snd = code ∧ xs = ps.map (fun p => V.ref p.1) ∧ ∀ p ∈ ps, SqT K H p.1 [.str p.2.w, .int p.2.n]
  | [], xs, h => by
    cases h
    exact ⟨[], rfl, rfl, fun _ m => by cases m⟩
  | od :: r, xs, h => by
    obtain ⟨x, xs', rfl, h1, h2⟩ := dp_cons h
    obtain ⟨ps, e1, e2, e3⟩ := ods_of h2
    obtain ⟨t, ys, et, hT, hB⟩ := dp_tup h1
    obtain ⟨u0, r0, rfl, c0, hB⟩ := dp_cons hB
    obtain ⟨u1, r1, rfl, c1, hB⟩ := dp_cons hB
    obtain rfl := dp_nil hB
    obtain rfl := dp_str c0
    obtain rfl := dp_int c1
    refine ⟨(t, od) :: ps, by rw [List.map_cons, e1], by rw [List.map_cons, e2, et], fun p m => ?_⟩
    rcases List.mem_cons.mp m with rfl | m
    · exact hT
    · exact e3 p m
/-- a code as it must be -/
structure CodeOk (code : List Od) : Prop where
  l1 : 2 ≤ code.length
  l2 : code.length ≤ 50000
  fst : ∃ k, code.head? = some (.frame k)
  lst : code.getLast? = some .done
  n : ∀ od ∈ code, odOk code.length od
def spIsCode (K : PySem.W.Frag) : Sp := fun vs H Q _ => ∃ (co : Addr) (code : List Od), vs = [.ref co] ∧ Dp K H (.ref co) (.tuple (code.map odD)) ∧ CodeOk code ∧ ∀ H', Same H H' → Q (.bl true) H'
def spCkCode (K : PySem.W.Frag) : Sp := fun vs H Q _ => ∃ (co : Addr) (code : List Od), vs = [.ref co] ∧ Dp K H (.ref co) (.tuple (code.map odD)) ∧ CodeOk code ∧ ∀ H', Same H H' → Q .non H'
def spCkTk : Sp := fun vs H Q _ => ∃ i : Int, vs = [.int i] ∧ 0 ≤ i ∧ i ≤ 20000 ∧ Q .non H
abbrev icN : List Str := ["value", "order", "word", "number"]
theorem sc_iscode : FnScope icN ["value"] (defScope S_is_code) := ⟨rfl, rfl, rfl, by decide +kernel, rfl, by decide +kernel, by decide +kernel⟩
theorem ok_iscode {f fO fN : Addr} {fd fdO fdN : FuncData} (F : Fun K "is_code" "is_code" S_is_code f fd) (T : Blt mg) (hall : mg "all" = none) (D : CdT K mg)
    (GO : FnOk P w K mg base CX0 2 fO fdO ["value"] (spIsOrd K)) (mO : mg "is_order" = some (.ref fO)) (kO : PySem.W.keepIn K (.ref fO) = true) (bO : Binds K fdO ["value"] [])
    (GN : FnOk P w K mg base CX0 2 fN fdN ["value", "word", "number"] (spHasN K)) (mN : mg "has_its_number" = some (.ref fN)) (kN : PySem.W.keepIn K (.ref fN) = true) (bN : Binds K fdN ["value", "word", "number"] []) :
    FnOk P w K mg base CX0 3 f fd ["value"] (spIsCode K) := by
  refine F.ok sc_iscode (fun vs H Q E h => ?_) (fun cdv A outer s0 H vs Q E hr h => ?_)
  · obtain ⟨co, code, rfl, _⟩ := h
    rfl
  obtain ⟨co, code, rfl, hC, ok, k⟩ := h
  obtain ⟨aL, mL, hL⟩ := D.las
  obtain ⟨t2, m2⟩ := D.least
  obtain ⟨t5, m5⟩ := D.mOrd
  refine ⟨_, pss_cons (ps_if (PW.pt (pw_or (pt_not (pt_val (pe_callB call_isi (by rfl) T.isi (by decide +kernel) (pa_cons (pv 0) (pa_cons (pe_bltn (v := .ty "tuple") (by rfl) T.tup (by decide +kernel) rfl) pa_nil)))))
      (pw_or1 (pt_not (pt_chain op_le op_le (pe_glob (v := .int 2) rfl m2 ⟨_, rfl⟩) (pe_callB call_len_seq (by rfl) T.len PySem.boot_len (pa_cons (pv 0) pa_nil)) (pe_glob (v := .int 50000) rfl m5 ⟨_, rfl⟩)))))) pss_never pss_nil)
    (pss_cons (ps_if (pt_not (pt_val (pe_callB (cr_all rfl) (by rfl) hall (by decide +kernel) (pa_cons (pe_lc (own := [("order", 1)]) (g := gName 1) rfl sc_iscode.nd (pi_tup (pv 0))
        (blkOk_by (own := [("order", 1)]) (N := icN) (sc := defScope S_is_code) (by decide +kernel)) (fun _ _ _ _ _ => pg_name (i := 1) sc_iscode.nd rfl (Or.inl rfl)) (fun _ _ _ _ _ => pts_nil)
        (fun _ _ _ _ _ => pe_call GO hr rfl mO kO bO .nil pass0 (pa_cons (pv 1) pa_nil))) pa_nil)))) pss_never pss_nil)
    (pss_cons (ps_if (PW.pt (pw_or (pt_cmpR op_ne (pe_ix ix_tup (pe_ix ix_tup (pv 0) pe_int (fun _ _ => rfl)) pe_int (fun _ _ => rfl)) pe_str (nomark _))
        (pw_or1 (pt_cmpR op_notIn_seq (pe_ix ix_tup (pe_ix ix_tup (pv 0) (pe_un un_neg pe_int) (fun _ _ => rfl)) pe_int (fun _ _ => rfl)) (pe_glob (v := .ref aL) rfl mL rfl) (by rfl))))) pss_never pss_nil)
    (pss_one (ps_ret (pe_callB (cr_all rfl) (by rfl) hall (by decide +kernel) (pa_cons (pe_lc (own := [("word", 2), ("number", 3)]) (g := gTup K 2 (gCons (gName 2) (gCons (gName 3) gNil))) rfl sc_iscode.nd (pi_tup (pv 0))
        (blkOk_by (own := [("word", 2), ("number", 3)]) (N := icN) (sc := defScope S_is_code) (by decide +kernel)) (fun _ _ _ _ _ => pg_tup rfl (pgs_cons (pg_name (i := 2) sc_iscode.nd rfl (Or.inl rfl)) (pgs_cons (pg_name (i := 3) sc_iscode.nd rfl (Or.inl rfl)) pgs_nil))) (fun _ _ _ _ _ => pts_nil)
        (fun _ _ _ _ _ => pe_call GN hr rfl mN kN bN .nil pass0 (pa_cons (pv 0) (pa_cons (pv 2) (pa_cons (pv 3) pa_nil))))) pa_nil)))))), ?_⟩
  obtain ⟨co', xs, ec, hco, hxs⟩ := dp_tup hC
  obtain rfl : co = co' := V.ref.inj ec
  obtain ⟨ps, rfl, rfl, hp⟩ := ods_of hxs
  have l1 := ok.l1
  have l2 := ok.l2
  rw [List.length_map] at l1 l2
  refine ⟨_, rfl, _, _, _, _, true, rfl, .ty "tuple", Fp.tup hco, kit_ty (by decide +kernel), true, rfl, iteF ?_⟩
  refine ⟨_, rfl, co, _, rfl, .inr hco, _, _, rfl, rfl, _, rfl, ?_⟩
  rw [List.length_map, decide_eq_true (by omega : (2 : Int) ≤ ((ps.length : Nat) : Int))]
  refine iteT ⟨_, _, rfl, rfl, _, rfl, ?_⟩
  rw [decide_eq_true (by omega : ((ps.length : Nat) : Int) ≤ 50000)]
  refine iteF ?_
  refine ⟨_, rfl, co, rfl, ⟨_, hco⟩, fun L nL => ?_⟩
  refine lcf (ls := ps) (v := fun p : Addr × Od => V.ref p.1) (e := fun _ => V.bl true) (f := fun _ => true) (src_tup hco) nL (by omega) (fun p mp H2 e2 Yes No hy hn => ⟨rfl, ?_⟩) (fun H2 e2 hD => ?_)
  · unfold tYes
    refine iteT ?_
    exact ⟨_, rfl, p.1, p.2, rfl, KT.same e2 _ _ (hp p mp), hy rfl _ (fun _ _ h => h)⟩
  rw [filt_tt] at hD
  refine ⟨L, ps.map (fun _ => true), rfl, SqL.of (by rw [List.map_map]; exact hD), ?_⟩
  rw [all_true]
  refine ⟨true, rfl, iteF ?_⟩
  have hco := KT.same e2 _ _ hco
  have hp := fun p mp => KT.same e2 _ _ (hp p mp)
  obtain ⟨k0, hf⟩ := ok.fst
  cases ps with
  | nil => simp at l1
  | cons p0 pr =>
  have e0 : p0.2 = .frame k0 := Option.some.inj hf
  have hp0 := hp p0 List.mem_cons_self
  rw [e0] at hp0
  refine ⟨_, rfl, co, _, _, _, rfl, rfl, hco, (atI_nat (j := 0) rfl : atI (List.map (fun p : Addr × Od => V.ref p.1) (p0 :: pr)) 0 = some (V.ref p0.1)), p0.1, _, _, _, rfl, rfl, hp0, rfl, rfl, _, rfl, ?_⟩
  refine iteF ?_
  have hl := ok.lst
  rw [List.getLast?_map] at hl
  cases hq : (p0 :: pr).getLast? with
  | none => rw [hq] at hl; cases hl
  | some pl =>
  rw [hq] at hl
  have e1 : pl.2 = .done := Option.some.inj hl
  have hpl := hp pl (List.mem_of_getLast? hq)
  rw [e1] at hpl
  refine ⟨_, rfl, _, rfl, co, _, _, _, rfl, rfl, hco, atI_end (by rw [List.getLast?_map, hq]; rfl), pl.1, _, _, _, rfl, rfl, hpl, rfl, aL, _, rfl, .inr (hL H2), rfl, flatS _, _, rfl, ?_⟩
  refine iteF ?_
  refine ⟨_, rfl, co, rfl, ⟨_, hco⟩, fun L2 nL2 => ?_⟩
  refine lcf (ls := p0 :: pr) (v := fun p : Addr × Od => V.ref p.1) (e := fun _ => V.bl true) (f := fun _ => true) (src_tup hco) nL2 (by omega) (fun p mp H3 e3 Yes No hy hn => ?_) (fun H3 e3 hD3 => ?_)
  · refine ⟨p.1, _, rfl, KT.same e3 _ _ (hp p mp), rfl, _, _, rfl, _, _, rfl, rfl, rfl, ?_⟩
    unfold tYes
    refine iteT ?_
    refine ⟨_, rfl, _, rfl, _, rfl, co, _, p.2, rfl, KT.same e3 _ _ hco, ?_, hy rfl _ (fun _ _ h => h)⟩
    rw [List.length_map]
    have := ok.n p.2 (List.mem_map.mpr ⟨p, mp, rfl⟩)
    rw [List.length_map] at this
    exact this
  rw [filt_tt] at hD3
  refine ⟨L2, (p0 :: pr).map (fun _ => true), rfl, SqL.of (by rw [List.map_map]; exact hD3), ?_⟩
  rw [all_true]
  exact k _ (e2.trans e3)
theorem sc_ckc : FnScope ["value"] ["value"] (defScope S_check_code) := ⟨rfl, rfl, rfl, by decide +kernel, rfl, by decide +kernel, by decide +kernel⟩
theorem ok_ckCode {f fC : Addr} {fd fdC : FuncData} (F : Fun K "check_code" "check_code" S_check_code f fd)
    (GC : FnOk P w K mg base CX0 3 fC fdC ["value"] (spIsCode K)) (mC : mg "is_code" = some (.ref fC)) (kC : PySem.W.keepIn K (.ref fC) = true) (bC : Binds K fdC ["value"] []) : FnOk P w K mg base CX0 4 f fd ["value"] (spCkCode K) := by
  refine F.ok sc_ckc (fun vs H Q E h => ?_) (fun cdv A outer s0 H vs Q E hr h => ?_)
  · obtain ⟨co, code, rfl, _⟩ := h
    rfl
  obtain ⟨co, code, rfl, hC, ok, k⟩ := h
  refine ⟨_, pss_one (ps_if (pt_not (pt_val (pe_call GC hr rfl mC kC bC .nil pass0 (pa_cons (pv 0) pa_nil)))) pss_never pss_nil), ?_⟩
  exact ⟨_, rfl, co, code, rfl, hC, ok, fun H1 s1 => ⟨true, rfl, iteF (k H1 s1)⟩⟩
theorem sc_ckt : FnScope ["value"] ["value"] (defScope S_check_ticks) := ⟨rfl, rfl, rfl, by decide +kernel, rfl, by decide +kernel, by decide +kernel⟩
theorem ok_ckTk {f fI : Addr} {fd fdI : FuncData} (F : Fun K "check_ticks" "check_ticks" S_check_ticks f fd) (mM : ∃ t, mg "MOST_TICKS" = some (.int 20000 t))
    (GI : FnOk P w K mg base CX0 1 fI fdI ["value"] spIsInt) (mI : mg "is_integer" = some (.ref fI)) (kI : PySem.W.keepIn K (.ref fI) = true) (bI : Binds K fdI ["value"] []) : FnOk P w K mg base CX0 2 f fd ["value"] spCkTk := by
  refine F.ok sc_ckt (fun vs H Q E h => ?_) (fun cdv A outer s0 H vs Q E hr h => ?_)
  · obtain ⟨i, rfl, _⟩ := h
    rfl
  obtain ⟨i, rfl, i0, i1, k⟩ := h
  obtain ⟨tM, mM⟩ := mM
  refine ⟨_, pss_one (ps_if (PW.pt (pw_or (pt_not (pt_val (pe_call GI hr rfl mI kI bI .nil pass0 (pa_cons (pv 0) pa_nil)))) (pw_or1 (pt_not (pt_chain op_le op_le pe_int (pv 0) (pe_glob (v := .int 20000) rfl mM ⟨_, rfl⟩)))))) pss_never pss_nil), ?_⟩
  refine ⟨_, rfl, i, rfl, _, rfl, iteF ?_⟩
  refine ⟨_, rfl, _, _, rfl, rfl, _, rfl, ?_⟩
  rw [decide_eq_true i0]
  refine iteT ⟨_, _, rfl, rfl, _, rfl, ?_⟩
  rw [decide_eq_true i1]
  exact iteF k
end
end KD

/-! ended, execute, orders_done. -/
namespace KD
open PySem L2 TL
/-- what a run is given -/
structure RunIn (K : PySem.W.Frag) (PT : Addr) (H : Hp) (co pa : Addr) (code : List Od) (p : Pic) (h w : Nat) (tk : Int) (mE : Ms) : Prop where
  dp : Dp K H (.ref co) (.tuple (code.map odD))
  cok : CodeOk code
  pic : SqT K H pa (rowsV p)
  sz : Sized h w p
  bw : BW p
  tab : GN.Tab PT H
  t0 : 0 ≤ tk
  t1 : tk ≤ 20000
  run : ∃ n, Runs h w code n (ms0 p tk) mE
def spEnded (K : PySem.W.Frag) (C PT : Addr) : Sp := fun vs H Q _ => ∃ (co pa : Addr) (code : List Od) (p : Pic) (h w : Nat) (tk : Int) (mE : Ms), vs = [.ref co, .ref pa, .int tk] ∧ RunIn K PT H co pa code p h w tk mE ∧
  ∀ (o : Addr) (B H' : Hp) (A : PrA) (m : Ms), Same H B → PrM K C o B h w A m H' → EqS m mE → Q (.ref o) H'
def runD (m : Ms) : PyData := .tuple [.tuple (m.pic.map fun l => .str (sOf l)), .tuple (m.ln.map fun k : Nat => .int (k : Int)), .tuple (m.sd.map PyData.int), .str m.en]
def spExec (K : PySem.W.Frag) (PT : Addr) : Sp := fun vs H Q _ => ∃ (co pa : Addr) (code : List Od) (p : Pic) (h w : Nat) (tk : Int) (mE : Ms), vs = [.ref co, .ref pa, .int tk] ∧ RunIn K PT H co pa code p h w tk mE ∧
  ∀ (r : Addr) (H' : Hp), Same H H' → Dp K H' (.ref r) (runD mE) → Q (.ref r) H'
def spDoneN (K : PySem.W.Frag) (PT : Addr) : Sp := fun vs H Q _ => ∃ (co pa : Addr) (code : List Od) (p : Pic) (h w : Nat) (tk : Int) (mE : Ms), vs = [.ref co, .ref pa, .int tk] ∧ RunIn K PT H co pa code p h w tk mE ∧
  ∀ (H' : Hp), Same H H' → Q (.int mE.cnt) H'
theorem dp_intz {K : PySem.W.Frag} {H : Hp} : ∀ l : List Int, DpAll K H (l.map V.int) (l.map PyData.int)
  | [] => .nil
  | _ :: l => .cons (.int _) (dp_intz l)
theorem dp_natz {K : PySem.W.Frag} {H : Hp} : ∀ l : List Nat, DpAll K H (natV l) (l.map fun k : Nat => PyData.int (k : Int))
  | [] => .nil
  | _ :: l => .cons (.int _) (dp_natz l)
theorem dp_rows {K : PySem.W.Frag} {H : Hp} : ∀ p : Pic, DpAll K H (rowsV p) (p.map fun l => PyData.str (sOf l))
  | [] => .nil
  | _ :: l => .cons (.str _) (dp_rows l)
section
variable {P : Program} {w : World} {K : PySem.W.Frag} {mg : Str → Option Value} {base : Heap} {C CE PT : Addr}
abbrev enN : List Str := ["value", "picture", "ticks", "play"]
theorem sc_en : FnScope enN ["value", "picture", "ticks"] (defScope S_ended) := ⟨rfl, rfl, rfl, by decide +kernel, rfl, by decide +kernel, by decide +kernel⟩
theorem ok_ended {f fC fP fT fI fG : Addr} {fd fdC fdP fdT fdI fdG : FuncData} (F : Fun K "ended" "ended" S_ended f fd) (T : PTx K C) (mgC : mg "Processor" = some (.ref C)) (M : Mk K C fI)
    (GC : FnOk P w K mg base CX0 4 fC fdC ["value"] (spCkCode K)) (mC : mg "check_code" = some (.ref fC)) (kC : PySem.W.keepIn K (.ref fC) = true) (bC : Binds K fdC ["value"] [])
    (GP : FnOk P w K mg base CX0 4 fP fdP ["value"] (spCkPic K PT)) (mP : mg "check_picture" = some (.ref fP)) (kP : PySem.W.keepIn K (.ref fP) = true) (bP : Binds K fdP ["value"] [])
    (GT : FnOk P w K mg base CX0 2 fT fdT ["value"] spCkTk) (mT : mg "check_ticks" = some (.ref fT)) (kT : PySem.W.keepIn K (.ref fT) = true) (bT : Binds K fdT ["value"] [])
    (GI : FnOk P w K mg base CX0 1 fI fdI ["self", "value", "picture", "ticks"] (spPInit K C)) (bI : Binds K fdI ["self", "value", "picture", "ticks"] [])
    (GG : FnOk P w K mg base CX0 8 fG fdG ["self"] (spGoM K C)) (mG : Meth K C "go" fG) (bG : Binds K fdG ["self"] []) :
    FnOk P w K mg base CX0 9 f fd ["value", "picture", "ticks"] (spEnded K C PT) := by
  refine F.ok sc_en (fun vs H Q E h => ?_) (fun cdv A0 outer s0 H vs Q E hr h => ?_)
  · obtain ⟨co, pa, code, p, h, w, tk, mE, rfl, _⟩ := h
    rfl
  obtain ⟨co, pa, code, p, h, w, tk, mE, rfl, g, k⟩ := h
  obtain ⟨n, run⟩ := g.run
  refine ⟨_, pss_cons (ps_expr (pe_call GC (hr.mono (by decide)) rfl mC kC bC .nil pass0 (pa_cons (pv 0) pa_nil)))
    (pss_cons (ps_expr (pe_call GP (hr.mono (by decide)) rfl mP kP bP .nil pass0 (pa_cons (pv 1) pa_nil)))
    (pss_cons (ps_expr (pe_call GT (hr.mono (by decide)) rfl mT kT bT .nil pass0 (pa_cons (pv 2) pa_nil)))
    (pss_cons (ps_set (i := 3) sc_en.nd rfl (Or.inl rfl) (pe_make M GI (hr.mono (by decide)) rfl mgC bI .nil pass0 (pa_cons (pv 0) (pa_cons (pv 1) (pa_cons (pv 2) pa_nil)))))
    (pss_cons (ps_expr (pe_meth0 (pv 3) T.cl mG GG hr bG .nil pass0))
    (pss_one (ps_ret (pv 3))))))), ?_⟩
  refine ⟨_, rfl, co, code, rfl, g.dp, g.cok, fun H1 s1 => ?_⟩
  refine ⟨_, rfl, pa, p, h, w, rfl, KT.same s1 _ _ g.pic, g.sz, g.bw, s1 _ _ g.tab, ?_⟩
  refine ⟨_, rfl, tk, rfl, g.t0, g.t1, ?_⟩
  refine ⟨_, rfl, _, rfl, _, rfl, fun o dx no ndx nn => ?_⟩
  have s2 : Same H1 (upd (upd H1 dx (.own o)) o (.ins C dx [])) := fun x u h => by
    rw [upd_ne (ne_of_none h no), upd_ne (ne_of_none h ndx)]; exact h
  refine ⟨o, dx, co, pa, tk, H1, h, w, p, rfl, upd_same, KT.same (s1.trans s2) _ _ g.pic, g.sz, no, s2, fun A2 H3 g3 e3 => ⟨rfl, ?_⟩⟩
  refine ⟨_, rfl, o, A2.dx, _, rfl, g3.ins, prK_no A2 _ (by decide +kernel), o, H1, h, w, A2, ms0 p tk, mE, code, n, rfl, g3, by rw [e3]; exact Dp.same s1 g.dp, run, fun A4 m4 H4 g4 e4 => ?_⟩
  exact ⟨_, rfl, k o H1 H4 A4 m4 s1 g4 e4⟩
abbrev exN : List Str := ["value", "picture", "ticks", "play"]
theorem sc_ex : FnScope exN ["value", "picture", "ticks"] (defScope S_execute) := ⟨rfl, rfl, rfl, by decide +kernel, rfl, by decide +kernel, by decide +kernel⟩
theorem EqS.f {m m1 : Ms} (e : EqS m m1) : m.pic = m1.pic ∧ m.ln = m1.ln ∧ m.sd = m1.sd ∧ m.en = m1.en ∧ m.cnt = m1.cnt := by
  rw [e.1]
  exact ⟨rfl, rfl, rfl, rfl, rfl⟩
theorem ok_exec {f fE : Addr} {fd fdE : FuncData} (F : Fun K "execute" "execute" S_execute f fd) (B : Blt mg) (T : PTx K C)
    (GE : FnOk P w K mg base CX0 9 fE fdE ["value", "picture", "ticks"] (spEnded K C PT)) (mE : mg "ended" = some (.ref fE)) (kE : PySem.W.keepIn K (.ref fE) = true) (bE : Binds K fdE ["value", "picture", "ticks"] []) :
    FnOk P w K mg base CX0 10 f fd ["value", "picture", "ticks"] (spExec K PT) := by
  refine F.ok sc_ex (fun vs H Q E h => ?_) (fun cdv A0 outer s0 H vs Q E hr h => ?_)
  · obtain ⟨co, pa, code, p, h, w, tk, mE, rfl, _⟩ := h
    rfl
  obtain ⟨co, pa, code, p, h, w, tk, m, rfl, g, k⟩ := h
  refine ⟨_, pss_cons (ps_set (i := 3) sc_ex.nd rfl (Or.inl rfl) (pe_call GE hr rfl mE kE bE .nil pass0 (pa_cons (pv 0) (pa_cons (pv 1) (pa_cons (pv 2) pa_nil)))))
    (pss_one (ps_ret (pe_tup (pa_cons (pe_fld (pv 3) rfl) (pa_cons (pe_callTy call_tuple_of (by rfl) B.tup (by decide +kernel) (pa_cons (pe_fld (pv 3) rfl) pa_nil)) (pa_cons (pe_callTy call_tuple_of (by rfl) B.tup (by decide +kernel) (pa_cons (pe_fld (pv 3) rfl) pa_nil)) (pa_cons (pe_fld (pv 3) rfl) pa_nil))))))), ?_⟩
  refine ⟨_, rfl, _, rfl, _, rfl, co, pa, code, p, h, w, tk, m, rfl, g, fun o B H1 A m2 sB g1 es => ?_⟩
  obtain ⟨f1, f2, f3, f4, _⟩ := es.f
  refine ⟨_, rfl, o, C, A.dx, _, _, rfl, g1.ins, T.cl, T.no 1 rfl, PrM.look A m2 1 rfl rfl, _, rfl, o, C, A.dx, _, _, rfl, g1.ins, T.cl, T.no 7 rfl, PrM.look A m2 7 rfl rfl, A.na, _, rfl, .inl ⟨SqL.of g1.ln, fun l1 n1 => ?_⟩⟩
  have q1 := same_nw n1 (.tup (natV m2.ln))
  have u1 : (upd H1 l1 (.tup (natV m2.ln))) l1 = some (.tup (natV m2.ln)) := upd_same
  have g2 := g1.same q1
  generalize upd H1 l1 (.tup (natV m2.ln)) = H2 at q1 u1 g2 ⊢
  refine ⟨_, rfl, o, C, A.dx, _, _, rfl, g2.ins, T.cl, T.no 8 rfl, PrM.look A m2 8 rfl rfl, A.da, _, rfl, .inl ⟨SqL.of g2.sd, fun l2 n2 => ?_⟩⟩
  have q2 := same_nw n2 (.tup (m2.sd.map V.int))
  have u2 : (upd H2 l2 (.tup (m2.sd.map V.int))) l2 = some (.tup (m2.sd.map V.int)) := upd_same
  have g3 := g2.same q2
  have u1 := q2 _ _ u1
  generalize upd H2 l2 (.tup (m2.sd.map V.int)) = H3 at q2 u1 u2 g3 ⊢
  refine ⟨_, rfl, o, C, A.dx, _, _, rfl, g3.ins, T.cl, T.no 12 rfl, PrM.look A m2 12 rfl rfl, (by show 4 ≤ sizeLine; decide), fun r nr => ?_⟩
  have q3 := same_nw nr (.tup [.ref A.pa, .ref l1, .ref l2, .str m2.en])
  refine k r _ ((sB.trans g3.sm).trans q3) ?_
  refine .tup (SqT.of upd_same) ?_
  rw [← f1, ← f2, ← f3, ← f4]
  exact .cons (.tup (KT.same q3 _ _ g3.pic) (dp_rows _)) (.cons (.tup (SqT.of (q3 _ _ u1)) (dp_natz _)) (.cons (.tup (SqT.of (q3 _ _ u2)) (dp_intz _)) (.cons (.str _) .nil)))
theorem sc_od : FnScope ["value", "picture", "ticks"] ["value", "picture", "ticks"] (defScope S_orders_done) := ⟨rfl, rfl, rfl, by decide +kernel, rfl, by decide +kernel, by decide +kernel⟩
theorem ok_doneN {f fE : Addr} {fd fdE : FuncData} (F : Fun K "orders_done" "orders_done" S_orders_done f fd) (T : PTx K C)
    (GE : FnOk P w K mg base CX0 9 fE fdE ["value", "picture", "ticks"] (spEnded K C PT)) (mE : mg "ended" = some (.ref fE)) (kE : PySem.W.keepIn K (.ref fE) = true) (bE : Binds K fdE ["value", "picture", "ticks"] []) :
    FnOk P w K mg base CX0 10 f fd ["value", "picture", "ticks"] (spDoneN K PT) := by
  refine F.ok sc_od (fun vs H Q E h => ?_) (fun cdv A0 outer s0 H vs Q E hr h => ?_)
  · obtain ⟨co, pa, code, p, h, w, tk, mE, rfl, _⟩ := h
    rfl
  obtain ⟨co, pa, code, p, h, w, tk, m, rfl, g, k⟩ := h
  refine ⟨_, pss_one (ps_ret (pe_fld (pe_call GE hr rfl mE kE bE .nil pass0 (pa_cons (pv 0) (pa_cons (pv 1) (pa_cons (pv 2) pa_nil)))) rfl)), ?_⟩
  refine ⟨_, rfl, _, rfl, _, rfl, co, pa, code, p, h, w, tk, m, rfl, g, fun o B H1 A m2 sB g1 es => ?_⟩
  obtain ⟨_, _, _, _, f5⟩ := es.f
  refine ⟨o, C, A.dx, _, _, rfl, g1.ins, T.cl, T.no 9 rfl, PrM.look A m2 9 rfl rfl, ?_⟩
  show Q (.int m2.cnt) H1
  rw [f5]
  exact k _ (sB.trans g1.sm)
end
end KD

/-! The law's own machine: its state in memory. -/
namespace KD
open PySem L2 TL
abbrev skS (f : Str) : Key := Sum.inr f
theorem valV_zip (f : Str) : ∀ (ks : List Str) (vs : List V) (i : Nat), ks.length = vs.length → ks.Nodup → ks[i]? = some f → valV ((ks.map skS).zip vs) (skS f) = vs[i]?
  | [], _, i, _, _, h => by cases h
  | k :: ks, [], _, h, _, _ => by cases h
  | k :: ks, x :: vs, 0, _, _, h => by
    obtain rfl := Option.some.inj h
    exact valV_pos (p := (skS k, x)) rfl
  | k :: ks, x :: vs, i + 1, hl, nd, h => by
    have nd' := List.nodup_cons.mp nd
    have n : ¬ skS k = skS f := fun e => nd'.1 (by rw [Sum.inr.inj e]; exact List.mem_of_getElem? h)
    show valV ((skS k, x) :: (ks.map skS).zip vs) (skS f) = _
    rw [valV_neg n]
    exact valV_zip f ks vs i (Nat.succ.inj hl) nd'.2 h
theorem any_zip (f : Str) : ∀ (ks : List Str) (vs : List V) (i : Nat), ks.length = vs.length → ks[i]? = some f → (((ks.map skS).zip vs).any fun kv => decide (kv.1 = skS f)) = true
  | [], _, i, _, h => by cases h
  | k :: ks, [], _, h, _ => by cases h
  | k :: ks, x :: vs, 0, _, h => by
    obtain rfl := Option.some.inj h
    show ((skS k, x) :: (ks.map skS).zip vs).any _ = _
    rw [List.any_cons, decide_eq_true rfl]
    rfl
  | k :: ks, x :: vs, i + 1, hl, h => by
    show ((skS k, x) :: (ks.map skS).zip vs).any _ = _
    rw [List.any_cons, any_zip f ks vs i (Nat.succ.inj hl) h, Bool.or_true]
theorem map_zip (f : Str) (v : V) : ∀ (ks : List Str) (vs : List V) (i : Nat), ks.length = vs.length → ks.Nodup → ks[i]? = some f → ((ks.map skS).zip vs).map (fun kv => if kv.1 = skS f then (kv.1, v) else kv) = (ks.map skS).zip (vs.set i v)
  | [], _, i, _, _, h => by cases h
  | k :: ks, [], _, h, _, _ => by cases h
  | k :: ks, x :: vs, 0, hl, nd, h => by
    obtain rfl := Option.some.inj h
    have nd' := List.nodup_cons.mp nd
    show (if skS k = skS k then _ else _) :: ((ks.map skS).zip vs).map _ = _
    rw [if_pos rfl]
    have q : ∀ (js : List Str) (us : List V), k ∉ js → ((js.map skS).zip us).map (fun kv => if kv.1 = skS k then (kv.1, v) else kv) = (js.map skS).zip us := fun js => by
      induction js with
      | nil => intro us _; rfl
      | cons j js ih =>
        intro us hn
        cases us with
        | nil => rfl
        | cons u us =>
          show (if skS j = skS k then _ else _) :: ((js.map skS).zip us).map _ = _
          rw [if_neg (fun e => hn (by rw [Sum.inr.inj e]; exact List.mem_cons_self)), ih us fun m => hn (List.mem_cons_of_mem _ m)]
          rfl
    rw [q ks vs nd'.1]
    rfl
  | k :: ks, x :: vs, i + 1, hl, nd, h => by
    have nd' := List.nodup_cons.mp nd
    have n : ¬ skS k = skS f := fun e => nd'.1 (by rw [Sum.inr.inj e]; exact List.mem_of_getElem? h)
    show (if skS k = skS f then _ else _) :: ((ks.map skS).zip vs).map _ = _
    rw [if_neg n, map_zip f v ks vs i (Nat.succ.inj hl) nd'.2 h]
    rfl
theorem putK_zip (f : Str) (v : V) (ks : List Str) (vs : List V) (i : Nat) (hl : ks.length = vs.length) (nd : ks.Nodup) (h : ks[i]? = some f) : putK ((ks.map skS).zip vs) (skS f) v = (ks.map skS).zip (vs.set i v) := by
  unfold putK
  rw [if_pos (any_zip f ks vs i hl h)]
  exact map_zip f v ks vs i hl nd h
def stK : List Str := ["at", "pile", "slots", "now", "lines", "said", "left", "end", "count"]
theorem stK_nd : stK.Nodup := by decide +kernel
structure LA where
  pl : Addr
  sl : Addr
  nw : Addr
  ln : Addr
  sd : Addr
def stV (A : LA) (m : Ms) : List V := [.int m.at_, .ref A.pl, .ref A.sl, .ref A.nw, .ref A.ln, .ref A.sd, .int m.tk, .str m.en, .int m.cnt]
def kvS (A : LA) (m : Ms) : List (Key × V) := (stK.map skS).zip (stV A m)
structure LS (K : PySem.W.Frag) (S : Addr) (B : Hp) (h w : Nat) (A : LA) (m : Ms) (H : Hp) : Prop where
  d : H S = some (.dK (kvS A m))
  pile : H A.pl = some (.lst (m.stk.map V.int))
  slots : H A.sl = some (.lst (slV m.sl))
  now : SqT K H A.nw (rowsV m.pic)
  lines : H A.ln = some (.lst (natV m.ln))
  said : H A.sd = some (.lst (m.sd.map V.int))
  n1 : A.pl ≠ A.sl ∧ A.pl ≠ A.ln ∧ A.pl ≠ A.sd
  n2 : A.sl ≠ A.ln ∧ A.sl ≠ A.sd ∧ A.ln ≠ A.sd
  fr : B S = none ∧ B A.pl = none ∧ B A.sl = none ∧ B A.ln = none ∧ B A.sd = none
  sm : Same B H
  sz : Sized h w m.pic
theorem kt_dk {K : PySem.W.Frag} {H : Hp} {b : Addr} {c : List (Key × V)} {v : HO} (hb : H b = some (.dK c)) : KT K H (upd H b v) := fun a xs q => by
  rcases q with (q | ⟨u, q⟩) | q
  · exact .inl (.inl (by rw [upd_ne (ne_of q hb (by intro z; cases z))]; exact q))
  · exact .inl (.inr ⟨u, by rw [upd_ne (ne_of q hb (by intro z; cases z))]; exact q⟩)
  · exact .inr q
section
variable {K : PySem.W.Frag} {S : Addr} {B H H' : Hp} {h w : Nat} {A : LA} {m : Ms}
theorem LS.same (g : LS K S B h w A m H) (s : Same H H') : LS K S B h w A m H' := ⟨s _ _ g.d, s _ _ g.pile, s _ _ g.slots, KT.same s _ _ g.now, s _ _ g.lines, s _ _ g.said, g.n1, g.n2, g.fr, g.sm.trans s, g.sz⟩
theorem LS.ne (g : LS K S B h w A m H) : A.pl ≠ S ∧ A.sl ≠ S ∧ A.ln ≠ S ∧ A.sd ≠ S :=
  ⟨ne_of g.pile g.d (by intro z; cases z), ne_of g.slots g.d (by intro z; cases z), ne_of g.lines g.d (by intro z; cases z), ne_of g.said g.d (by intro z; cases z)⟩
theorem LS.get (g : LS K S B h w A m H) (i : Nat) {f : Str} {v : V} (hf : stK[i]? = some f) (hv : (stV A m)[i]? = some v) : DGet H S (.str f) (some v) := by
  have z := DGet.k (k := skS f) g.d
  have e : valV (kvS A m) (skS f) = some v := (valV_zip f stK (stV A m) i rfl stK_nd hf).trans hv
  rw [e] at z
  exact z
theorem LS.put (g : LS K S B h w A m H) (i : Nat) {f : Str} {v : V} (A' : LA) (m' : Ms) (hf : stK[i]? = some f) (hv : stV A' m' = (stV A m).set i v) (ea : (A'.pl, A'.sl, A'.ln, A'.sd) = (A.pl, A.sl, A.ln, A.sd)) (em : (m'.stk, m'.sl, m'.ln, m'.sd) = (m.stk, m.sl, m.ln, m.sd))
    (hp : SqT K H A'.nw (rowsV m'.pic)) (hs : Sized h w m'.pic) : DPut H S (.str f) v (upd H S (.dK (kvS A' m'))) ∧ LS K S B h w A' m' (upd H S (.dK (kvS A' m'))) := by
  have z := DPut.k (k := skS f) (v := v) g.d (by show 9 < sizeLine; decide)
  have e : putK (kvS A m) (skS f) v = kvS A' m' := by
    show putK ((stK.map skS).zip (stV A m)) (skS f) v = (stK.map skS).zip (stV A' m')
    rw [putK_zip f v stK (stV A m) i rfl stK_nd hf, hv]
  rw [e] at z
  refine ⟨z, ?_⟩
  obtain ⟨pl, sl, nw, ln, sd⟩ := A
  obtain ⟨pl', sl', nw', ln', sd'⟩ := A'
  simp only [Prod.mk.injEq] at ea em
  obtain ⟨e1, e2, e3, e4⟩ := ea
  obtain ⟨f1, f2, f3, f4⟩ := em
  subst e1 e2 e3 e4
  obtain ⟨i1, i2, i3, i4⟩ := g.ne
  refine ⟨upd_same, ?_, ?_, kt_dk g.d _ _ hp, ?_, ?_, g.n1, g.n2, g.fr, sm_upd g.sm g.fr.1, hs⟩
  · rw [f1, upd_ne i1]; exact g.pile
  · rw [f2, upd_ne i2]; exact g.slots
  · rw [f3, upd_ne i3]; exact g.lines
  · rw [f4, upd_ne i4]; exact g.said
theorem LS.setPile (g : LS K S B h w A m H) (s : List Int) : LS K S B h w A { m with stk := s } (upd H A.pl (.lst (s.map V.int))) := by
  obtain ⟨i1, i2, i3, i4⟩ := g.ne
  exact ⟨by rw [upd_ne i1.symm]; exact g.d, upd_same, by rw [upd_ne g.n1.1.symm]; exact g.slots, kt_lst g.pile _ _ g.now, by rw [upd_ne g.n1.2.1.symm]; exact g.lines, by rw [upd_ne g.n1.2.2.symm]; exact g.said, g.n1, g.n2, g.fr, sm_upd g.sm g.fr.2.1, g.sz⟩
theorem LS.setSlots (g : LS K S B h w A m H) (s : List (Option Int)) : LS K S B h w A { m with sl := s } (upd H A.sl (.lst (slV s))) := by
  obtain ⟨i1, i2, i3, i4⟩ := g.ne
  exact ⟨by rw [upd_ne i2.symm]; exact g.d, by rw [upd_ne g.n1.1]; exact g.pile, upd_same, kt_lst g.slots _ _ g.now, by rw [upd_ne g.n2.1.symm]; exact g.lines, by rw [upd_ne g.n2.2.1.symm]; exact g.said, g.n1, g.n2, g.fr, sm_upd g.sm g.fr.2.2.1, g.sz⟩
theorem LS.setLines (g : LS K S B h w A m H) (s : List Nat) : LS K S B h w A { m with ln := s } (upd H A.ln (.lst (natV s))) := by
  obtain ⟨i1, i2, i3, i4⟩ := g.ne
  exact ⟨by rw [upd_ne i3.symm]; exact g.d, by rw [upd_ne g.n1.2.1]; exact g.pile, by rw [upd_ne g.n2.1]; exact g.slots, kt_lst g.lines _ _ g.now, upd_same, by rw [upd_ne g.n2.2.2.symm]; exact g.said, g.n1, g.n2, g.fr, sm_upd g.sm g.fr.2.2.2.1, g.sz⟩
theorem LS.setSaid (g : LS K S B h w A m H) (s : List Int) : LS K S B h w A { m with sd := s } (upd H A.sd (.lst (s.map V.int))) := by
  obtain ⟨i1, i2, i3, i4⟩ := g.ne
  exact ⟨by rw [upd_ne i4.symm]; exact g.d, by rw [upd_ne g.n1.2.2]; exact g.pile, by rw [upd_ne g.n2.2.1]; exact g.slots, kt_lst g.said _ _ g.now, by rw [upd_ne g.n2.2.2]; exact g.lines, upd_same, g.n1, g.n2, g.fr, sm_upd g.sm g.fr.2.2.2.2, g.sz⟩
theorem LS.push (g : LS K S B h w A m H) (x : Int) : LS K S B h w A { m with stk := m.stk ++ [x] } (upd H A.pl (.lst (m.stk.map V.int ++ [.int x]))) := by
  have z := g.setPile (m.stk ++ [x])
  rw [List.map_append] at z
  exact z
theorem LS.pushLine (g : LS K S B h w A m H) (x : Nat) : LS K S B h w A { m with ln := m.ln ++ [x] } (upd H A.ln (.lst (natV m.ln ++ [.int (x : Int)]))) := by
  have z := g.setLines (m.ln ++ [x])
  have e : natV (m.ln ++ [x]) = natV m.ln ++ [.int (x : Int)] := by unfold natV; rw [List.map_append]; rfl
  rw [e] at z
  exact z
theorem LS.pushSaid (g : LS K S B h w A m H) (x : Int) : LS K S B h w A { m with sd := m.sd ++ [x] } (upd H A.sd (.lst (m.sd.map V.int ++ [.int x]))) := by
  have z := g.setSaid (m.sd ++ [x])
  rw [List.map_append] at z
  exact z
end
/-- a word in a tuple of words -/
theorem rIn_lit {K : PySem.W.Frag} {x : Str} (ws : List Str) {p : Addr} {H : Hp} {Q : VK} (h : SqT K H p (ws.map V.str)) (q : Q (.bl (decide (x ∈ ws))) H) : rIn K false (.str x) (.ref p) H Q := by
  refine ⟨p, _, rfl, .inr h, rfl, flatS ws, ?_⟩
  show Q (.bl (inV (V.str x) (ws.map V.str))) H
  rw [in_strs]
  exact q
theorem dT {c : Prop} [Decidable c] {a b : Prop} (h : c) (k : a) : if decide c = true then a else b := by rw [if_pos (decide_eq_true h)]; exact k
theorem dF {c : Prop} [Decidable c] {a b : Prop} (h : ¬ c) (k : b) : if decide c = true then a else b := by rw [if_neg (by rw [decide_eq_false h]; exact Bool.false_ne_true)]; exact k
/-- the law does not know frames behind the first order -/
def LawOd : Od → Prop
  | .frame _ => False
  | _ => True
def spLOrd (K : PySem.W.Frag) : Sp := fun vs H Q _ => ∃ (S t : Addr) (B : Hp) (h w : Nat) (A : LA) (m : Ms) (od : Od), vs = [.ref S, .ref t] ∧ LS K S B h w A m H ∧ SqT K H t [.str od.w, .int od.n] ∧ m.en = "" ∧ preA od m ∧ LawOd od ∧
  ∀ (A' : LA) (s' : List Int) (t' : Int) (H' : Hp), LS K S B h w A' { stp h w od m with stk := s', tk := t' } H' → ((stp h w od m).en = "" → s' = (stp h w od m).stk ∧ t' = (stp h w od m).tk) → Q .non H'
end KD

/-! The law's own machine: one order (_law_order). -/
namespace KD
open PySem L2 TL
def lo1 : List Str := ["copy", "neg", "not", "truth", "row", "col", "say", "zero", "some", "store"]
def lo2 : List Str := ["add", "sub", "mul", "lt", "le", "eq", "ne", "black"]
def ndO : Od → Nat
  | .copy => 1 | .one _ => 1 | .row => 1 | .col => 1 | .say => 1 | .zero _ => 1 | .some _ => 1 | .store _ => 1 | .two _ => 2 | .black => 2 | _ => 0
theorem need_kind (od : Od) (lw : LawOd od) : (od.w ∈ lo1 ∧ od.w ∉ lo2 ∧ od.w ≠ "load" ∧ ndO od = 1) ∨ (od.w ∉ lo1 ∧ od.w ∈ lo2 ∧ od.w ≠ "load" ∧ ndO od = 2) ∨ (od.w ∉ lo1 ∧ od.w ∉ lo2 ∧ ndO od = 0) := by
  cases od with
  | two o => exact .inr (.inl (by cases o <;> exact ⟨by decide +kernel, by decide +kernel, by decide +kernel, rfl⟩))
  | one o => exact .inl (by cases o <;> exact ⟨by decide +kernel, by decide +kernel, by decide +kernel, rfl⟩)
  | frame k => exact lw.elim
  | push x => exact .inr (.inr ⟨by show ("push" : Str) ∉ _; decide +kernel, by show ("push" : Str) ∉ _; decide +kernel, rfl⟩)
  | load x => exact .inr (.inr ⟨by show ("load" : Str) ∉ _; decide +kernel, by show ("load" : Str) ∉ _; decide +kernel, rfl⟩)
  | jump x => exact .inr (.inr ⟨by show ("jump" : Str) ∉ _; decide +kernel, by show ("jump" : Str) ∉ _; decide +kernel, rfl⟩)
  | tick x => exact .inr (.inr ⟨by show ("tick" : Str) ∉ _; decide +kernel, by show ("tick" : Str) ∉ _; decide +kernel, rfl⟩)
  | store x => exact .inl ⟨by show ("store" : Str) ∈ _; decide +kernel, by show ("store" : Str) ∉ _; decide +kernel, by show ("store" : Str) ≠ _; decide +kernel, rfl⟩
  | zero x => exact .inl ⟨by show ("zero" : Str) ∈ _; decide +kernel, by show ("zero" : Str) ∉ _; decide +kernel, by show ("zero" : Str) ≠ _; decide +kernel, rfl⟩
  | some x => exact .inl ⟨by show ("some" : Str) ∈ _; decide +kernel, by show ("some" : Str) ∉ _; decide +kernel, by show ("some" : Str) ≠ _; decide +kernel, rfl⟩
  | black => exact .inr (.inl ⟨by decide +kernel, by decide +kernel, by decide +kernel, rfl⟩)
  | rows => exact .inr (.inr ⟨by decide +kernel, by decide +kernel, rfl⟩)
  | cols => exact .inr (.inr ⟨by decide +kernel, by decide +kernel, rfl⟩)
  | done => exact .inr (.inr ⟨by decide +kernel, by decide +kernel, rfl⟩)
  | _ => exact .inl ⟨by decide +kernel, by decide +kernel, by decide +kernel, rfl⟩
theorem act_brk1 {h w : Nat} {od : Od} {m : Ms} (n : ndO od = 1) (x : m.stk.getLast? = none) : act h w od m = .error "broken" := by
  cases od <;> first | (cases n; done) | (unfold act; rw [x])
theorem act_brk2 {h w : Nat} {od : Od} {m : Ms} (n : ndO od = 2) (x : m.stk.getLast? = none ∨ m.stk.dropLast.getLast? = none) : act h w od m = .error "broken" := by
  rcases x with x | x <;> cases od <;> first | (cases n; done) | (unfold act; rw [x]; done) | (unfold act; rw [x]; cases m.stk.getLast? <;> rfl)
theorem pop_at (s : List Int) (i : Nat) (h : i < s.length) : ∃ x : Int, ((s.take (s.length - i)).map V.int)[((s.take (s.length - i)).map V.int).length - 1]? = some (.int x) ∧ ((s.take (s.length - i)).map V.int).dropLast = (s.take (s.length - (i + 1))).map V.int ∧ s.reverse.take (i + 1) = s.reverse.take i ++ [x] := by
  have hj : s.length - i - 1 < s.length := by omega
  refine ⟨s[s.length - i - 1], ?_, ?_, ?_⟩
  · rw [List.length_map, List.length_take, Nat.min_eq_left (by omega), List.getElem?_map, List.getElem?_take_of_lt (by omega), List.getElem?_eq_getElem hj]
    rfl
  · rw [← List.map_dropLast, List.dropLast_eq_take, List.take_take]
    congr 2
    rw [List.length_take]
    omega
  · rw [List.take_succ, List.getElem?_reverse h, show s.length - 1 - i = s.length - i - 1 by omega, List.getElem?_eq_getElem hj]
    rfl
theorem LS.updD {K : PySem.W.Frag} {S D : Addr} {B H : Hp} {h w : Nat} {A : LA} {m : Ms} {acc : List V} (g : LS K S B h w A m H) (hD : H D = some (.lst acc)) (n : D ≠ A.pl ∧ D ≠ A.sl ∧ D ≠ A.ln ∧ D ≠ A.sd) (b : B D = none) (v : HO) : LS K S B h w A m (upd H D v) := by
  have nS : S ≠ D := ne_of g.d hD (by intro z; cases z)
  exact ⟨by rw [upd_ne nS]; exact g.d, by rw [upd_ne n.1.symm]; exact g.pile, by rw [upd_ne n.2.1.symm]; exact g.slots, kt_lst hD _ _ g.now, by rw [upd_ne n.2.2.1.symm]; exact g.lines, by rw [upd_ne n.2.2.2.symm]; exact g.said, g.n1, g.n2, g.fr, sm_upd g.sm b, g.sz⟩
theorem last1 {s : List Int} {x : Int} (h : s.getLast? = some x) : s = s.dropLast ++ [x] := by
  obtain ⟨l, rfl⟩ := List.getLast?_eq_some_iff.mp h
  rw [List.dropLast_concat]
theorem bqT2 (x y : Int) {a b : Str} (h : a = b) : (V.bl (decide (V.int x = V.int y)) = V.bl (decide (V.str a = V.str b))) ↔ x = y := by
  rw [dec_int, decide_eq_true (show V.str a = V.str b by rw [h])]
  constructor
  · intro z
    exact of_decide_eq_true (V.bl.inj z)
  · intro z
    rw [decide_eq_true z]
theorem bqF2 (x y : Int) {a b : Str} (h : a ≠ b) : (V.bl (decide (V.int x = V.int y)) = V.bl (decide (V.str a = V.str b))) ↔ x ≠ y := by
  rw [dec_int, decide_eq_false (show ¬ V.str a = V.str b from fun z => h (V.str.inj z))]
  constructor
  · intro z
    exact of_decide_eq_false (V.bl.inj z)
  · intro z
    rw [decide_eq_false z]
theorem abs_gt (v : Int) : ((if v < 0 then -v else v) > (10 : Int) ^ (9 : Int).toNat) ↔ ¬ Small v := by
  rw [show (10 : Int) ^ (9 : Int).toNat = 1000000000 from by decide]
  unfold Small
  split <;> omega
theorem valV_none {k : Key} : ∀ {kvs : List (Key × V)}, k ∉ kvs.map Prod.fst → valV kvs k = none
  | [], _ => rfl
  | p :: r, h => by
    rw [valV_neg (fun e => h (by rw [← e]; exact List.mem_cons_self))]
    exact valV_none fun z => h (List.mem_cons_of_mem _ z)
theorem mergeK_nd : ∀ (more acc : List (Key × V)), ((acc ++ more).map Prod.fst).Nodup → mergeK acc more = acc ++ more
  | [], acc, _ => (List.append_nil acc).symm
  | p :: r, acc, h => by
    show mergeK (putK acc p.1 p.2) r = _
    have nd : (acc.map Prod.fst ++ p.1 :: r.map Prod.fst).Nodup := by rw [List.map_append] at h; exact h
    have n : p.1 ∉ acc.map Prod.fst := fun z => (List.nodup_append.mp nd).2.2 _ z _ List.mem_cons_self rfl
    rw [putK_new _ (valV_none n), mergeK_nd r (acc ++ [(p.1, p.2)]) (by rw [List.append_assoc]; exact h), List.append_assoc]
    rfl
theorem skN {f : Str} {ks : List Str} (h : f ∉ ks) : skS f ∉ ks.map skS := fun z => by
  obtain ⟨g, m, e⟩ := List.mem_map.mp z
  rw [Sum.inr.inj e] at m
  exact h m
def tbK : List Str := ["add", "sub", "mul", "lt", "le"]
theorem bqT (x : Int) {a b : Str} (h : a = b) : (V.bl (decide (V.int x = V.int 0)) = V.bl (decide (V.str a = V.str b))) ↔ x = 0 := by
  rw [dec_int, decide_eq_true (show V.str a = V.str b by rw [h])]
  constructor
  · intro z
    exact of_decide_eq_true (V.bl.inj z)
  · intro z
    rw [decide_eq_true z]
theorem bqF (x : Int) {a b : Str} (h : a ≠ b) : (V.bl (decide (V.int x = V.int 0)) = V.bl (decide (V.str a = V.str b))) ↔ x ≠ 0 := by
  rw [dec_int, decide_eq_false (show ¬ V.str a = V.str b from fun z => h (V.str.inj z))]
  constructor
  · intro z
    exact of_decide_eq_false (V.bl.inj z)
  · intro z
    rw [decide_eq_false z]
theorem bit_of {p q : Prop} [Decidable p] [Decidable q] (h : p ↔ q) : (if decide p = true then (1 : Int) else 0) = if q then 1 else 0 := by
  by_cases c : q
  · rw [if_pos c, if_pos (decide_eq_true (h.mpr c))]
  · rw [if_neg c, if_neg (by rw [decide_eq_false (fun z => c (h.mp z))]; exact Bool.false_ne_true)]
theorem normS {F : L2.St → Hp → Prop} {σ σ' : L2.St} {H : Hp} (e : σ = σ') (h : F σ' H) : F σ H := by rw [e]; exact h
theorem sF {a b : Str} {x y : Prop} (h : a ≠ b) (k : y) : if decide (V.str a = V.str b) = true then x else y := dF (fun z => h (V.str.inj z)) k
theorem sT {a b : Str} {x y : Prop} (h : a = b) (k : x) : if decide (V.str a = V.str b) = true then x else y := dT (by rw [h]) k
section
variable {P : Program} {w : World} {K : PySem.W.Frag} {mg : Str → Option Value} {base : Heap}
abbrev loN : List Str := ["state", "one", "word", "number", "pile", "need", "some", "step", "high", "wide", "other", "table", "found"]
theorem sc_lo : FnScope loN ["state", "one"] (defScope S__law_order) := ⟨rfl, rfl, rfl, by decide +kernel, rfl, by decide +kernel, by decide +kernel⟩
set_option maxHeartbeats 8000000 in
theorem ok_lord {f fS : Addr} {fd fdS : FuncData} (F : Fun K "_law_order" "_law_order" S__law_order f fd) (T : Blt mg) (habs : mg "abs" = none)
    (GS : FnOk P w K mg base CX0 1 fS fdS ["picture", "line"] (spLine K)) (mS : mg "_law_stroke" = some (.ref fS)) (kS : PySem.W.keepIn K (.ref fS) = true) (bS : Binds K fdS ["picture", "line"] []) :
    FnOk P w K mg base CX0 2 f fd ["state", "one"] (spLOrd K) := by
  refine F.ok sc_lo (fun vs H Q E h => ?_) (fun cdv A0 outer s0 H vs Q E hr h => ?_)
  · obtain ⟨S, t, B, h, w, A, m, od, rfl, _⟩ := h
    rfl
  obtain ⟨S, t, B, h, w, A, m, od, rfl, g, hT, en0, ⟨okm, pre⟩, lw, k⟩ := h
  have hu := Nat.lt_of_le_of_lt (Nat.add_le_add_left (by decide : 1 ≤ 64) _) hr.units
  have hr1 : Room 1 _ := hr.mono (by decide)
  refine ⟨_, (pss_cons (ps_asg (pv 1) (pg_tup rfl (pgs_cons (pg_name (i := 2) sc_lo.nd rfl (Or.inl rfl)) (pgs_cons (pg_name (i := 3) sc_lo.nd rfl (Or.inl rfl)) pgs_nil)))) (pss_cons (ps_asg (pe_tup (pa_cons (pe_dget hu (pv 0) pe_str (fun _ _ => rfl)) (pa_cons (pe_op op_add (pe_dget hu (pv 0) pe_str (fun _ _ => rfl)) pe_int) (pa_cons (pe_op op_add (pe_dget hu (pv 0) pe_str (fun _ _ => rfl)) pe_int) pa_nil)))) (pg_tup rfl (pgs_cons (pg_name (i := 4) sc_lo.nd rfl (Or.inr rfl)) (pgs_cons (pg_sub (pv 0) pe_str (set_dict hu)) (pgs_cons (pg_sub (pv 0) pe_str (set_dict hu)) pgs_nil))))) (pss_cons (ps_set (i := 5) sc_lo.nd rfl (Or.inl rfl) (pe_ifExp (pt_cmpR op_in_seq (pv 2) (pe_tup (pa_cons pe_str (pa_cons pe_str (pa_cons pe_str (pa_cons pe_str (pa_cons pe_str (pa_cons pe_str (pa_cons pe_str (pa_cons pe_str (pa_cons pe_str (pa_cons pe_str pa_nil))))))))))) (by rfl)) pe_int pe_int)) (pss_cons (ps_set (i := 5) sc_lo.nd rfl (Or.inl rfl) (pe_ifExp (pt_cmpR op_in_seq (pv 2) (pe_tup (pa_cons pe_str (pa_cons pe_str (pa_cons pe_str (pa_cons pe_str (pa_cons pe_str (pa_cons pe_str (pa_cons pe_str (pa_cons pe_str pa_nil))))))))) (by rfl)) pe_int (pv 5))) (pss_cons (ps_if (PW.pt (pw_or (pt_cmpR op_lt (pe_callB call_len_seq (by rfl) T.len PySem.boot_len (pa_cons (pv 4) pa_nil)) (pv 5) (nomark _)) (pw_or1 (PW.pt (pw_and (pt_cmpR op_eq (pv 2) pe_str (nomark _)) (pw_and1 (pt_cmp (pc_isN (pe_ix ix_list (pe_dget hu (pv 0) pe_str (fun _ _ => rfl)) (pv 3) (fun _ _ => rfl)))))))))) (pss_cons (ps_dput hu (pv 0) pe_str pe_str rfl) (pss_one ps_retN)) pss_nil) (pss_cons (ps_set (i := 6) sc_lo.nd rfl (Or.inl rfl) (pe_revL (pe_lc (te := tBM0 K "list" rPop (tVar 4)) (own := [("step", 7)]) (g := gName 7) rfl sc_lo.nd (pi_range1 rfl T.range (pa_cons (pv 5) pa_nil)) (blkOk_by (own := [("step", 7)]) (N := loN) (sc := defScope S__law_order) (by decide +kernel)) (fun _ _ _ _ _ => pg_name (i := 7) sc_lo.nd rfl (Or.inl rfl)) (fun _ _ _ _ _ => pts_nil) (fun _ _ _ _ _ => by exact (pe_bm0 PySem.F.plainAttrs_list PySem.F.slot_list_pop PySem.F.type_list_pop mt_pop (pv 4)))))) (pss_cons (ps_par (i := 8) (j := 9) (by rfl) sc_lo.nd rfl rfl (by decide) rfl rfl (pa_cons (pe_callB call_len_seq (by rfl) T.len PySem.boot_len (pa_cons (pe_dget hu (pv 0) pe_str (fun _ _ => rfl)) pa_nil)) (pa_cons (pe_callB call_len_str (by rfl) T.len PySem.boot_len (pa_cons (pe_ix ix_tup (pe_dget hu (pv 0) pe_str (fun _ _ => rfl)) pe_int (fun _ _ => rfl)) pa_nil)) pa_nil)) (by rfl)) (pss_one (ps_if (pt_cmpR op_in_seq (pv 2) (pe_tup (pa_cons pe_str (pa_cons pe_str (pa_cons pe_str (pa_cons pe_str pa_nil))))) (by rfl)) (pss_one (ps_expr (pe_bm PySem.F.plainAttrs_list PySem.F.slot_list_append PySem.F.type_list_append mt_append (pv 4) (pa_cons (pe_ifExp (pt_cmpR op_eq (pv 2) pe_str (nomark _)) (pv 3) (pe_ifExp (pt_cmpR op_eq (pv 2) pe_str (nomark _)) (pe_ix ix_list (pe_dget hu (pv 0) pe_str (fun _ _ => rfl)) (pv 3) (fun _ _ => rfl)) (pe_ifExp (pt_cmpR op_eq (pv 2) pe_str (nomark _)) (pv 8) (pv 9)))) pa_nil)))) (pss_one (ps_if (pt_cmpR op_eq (pv 2) pe_str (nomark _)) (pss_one (ps_expr (pe_bm PySem.F.plainAttrs_list PySem.F.slot_list_extend PySem.F.type_list_extend mt_extend (pv 4) (pa_cons (pe_op op_cat (pv 6) (pv 6)) pa_nil)))) (pss_one (ps_if (pt_cmpR op_eq (pv 2) pe_str (nomark _)) (pss_one (ps_asg (pe_ix ix_list (pv 6) pe_int (fun _ _ => rfl)) (pg_sub (pe_dget hu (pv 0) pe_str (fun _ _ => rfl)) (pv 3) set_list))) (pss_one (ps_if (pt_cmpR op_in_seq (pv 2) (pe_tup (pa_cons pe_str (pa_cons pe_str (pa_cons pe_str pa_nil)))) (by rfl)) (pss_one (ps_if (PW.pt (pw_or (pt_cmpR op_eq (pv 2) pe_str (nomark _)) (pw_or1 (pt_cmpR op_eq (pe_cmpR op_eq (pe_ix ix_list (pv 6) pe_int (fun _ _ => rfl)) pe_int (nomark _)) (pe_cmpR op_eq (pv 2) pe_str (nomark _)) (nomark _))))) (pss_one (ps_dput hu (pv 0) pe_str (pv 3) rfl)) pss_nil)) (pss_one (ps_if (pt_cmpR op_in_seq (pv 2) (pe_tup (pa_cons pe_str (pa_cons pe_str (pa_cons pe_str pa_nil)))) (by rfl)) (pss_one (ps_expr (pe_bm PySem.F.plainAttrs_list PySem.F.slot_list_append PySem.F.type_list_append mt_append (pv 4) (pa_cons (pe_ifExp (pt_cmpR op_eq (pv 2) pe_str (nomark _)) (pe_op op_sub pe_int (pe_ix ix_list (pv 6) pe_int (fun _ _ => rfl))) (pe_callTy call_int1 (by rfl) T.int (by decide +kernel) (pa_cons (pe_cmpR op_eq (pe_cmpR op_eq (pe_ix ix_list (pv 6) pe_int (fun _ _ => rfl)) pe_int (nomark _)) (pe_cmpR op_eq (pv 2) pe_str (nomark _)) (nomark _)) pa_nil))) pa_nil)))) (pss_one (ps_if (pt_cmpR op_in_seq (pv 2) (pe_tup (pa_cons pe_str (pa_cons pe_str pa_nil))) (by rfl)) (pss_one (ps_if (pt_chain op_le op_le pe_int (pe_ix ix_list (pv 6) pe_int (fun _ _ => rfl)) (pe_ifExp (pt_cmpR op_eq (pv 2) pe_str (nomark _)) (pv 8) (pv 9))) (pss_cons (ps_expr (pe_bm PySem.F.plainAttrs_list PySem.F.slot_list_append PySem.F.type_list_append mt_append (pe_dget hu (pv 0) pe_str (fun _ _ => rfl)) (pa_cons (pe_op op_add (pe_op op_sub (pe_ix ix_list (pv 6) pe_int (fun _ _ => rfl)) pe_int) (pe_ifExp (pt_cmpR op_eq (pv 2) pe_str (nomark _)) pe_int (pv 8))) pa_nil))) (pss_one (ps_dput hu (pv 0) pe_str (pe_call GS hr1 rfl mS kS bS .nil pass0 (pa_cons (pe_dget hu (pv 0) pe_str (fun _ _ => rfl)) (pa_cons (pe_ix ix_list (pe_dget hu (pv 0) pe_str (fun _ _ => rfl)) (pe_un un_neg pe_int) (fun _ _ => rfl)) pa_nil))) rfl))) (pss_one (ps_dput hu (pv 0) pe_str pe_str rfl)))) (pss_one (ps_if (pt_cmpR op_eq (pv 2) pe_str (nomark _)) (pss_one (ps_expr (pe_bm PySem.F.plainAttrs_list PySem.F.slot_list_append PySem.F.type_list_append mt_append (pe_dget hu (pv 0) pe_str (fun _ _ => rfl)) (pa_cons (pe_ix ix_list (pv 6) pe_int (fun _ _ => rfl)) pa_nil)))) (pss_one (ps_if (pt_cmpR op_eq (pv 2) pe_str (nomark _)) (pss_one (ps_if (PW.pt (pw_and (pt_chain op_le op_le pe_int (pe_ix ix_list (pv 6) pe_int (fun _ _ => rfl)) (pv 8)) (pw_and1 (pt_chain op_le op_le pe_int (pe_ix ix_list (pv 6) pe_int (fun _ _ => rfl)) (pv 9))))) (pss_one (ps_expr (pe_bm PySem.F.plainAttrs_list PySem.F.slot_list_append PySem.F.type_list_append mt_append (pv 4) (pa_cons (pe_callTy call_int1 (by rfl) T.int (by decide +kernel) (pa_cons (pe_cmpR op_eq (pe_ix ix_str (pe_ix ix_tup (pe_dget hu (pv 0) pe_str (fun _ _ => rfl)) (pe_op op_sub (pe_ix ix_list (pv 6) pe_int (fun _ _ => rfl)) pe_int) (fun _ _ => rfl)) (pe_op op_sub (pe_ix ix_list (pv 6) pe_int (fun _ _ => rfl)) pe_int) (fun _ _ => rfl)) pe_str (nomark _)) pa_nil)) pa_nil)))) (pss_one (ps_dput hu (pv 0) pe_str pe_str rfl)))) (pss_one (ps_if (pt_cmpR op_in_seq (pv 2) (pe_tup (pa_cons pe_str (pa_cons pe_str pa_nil))) (by rfl)) (pss_cons (ps_dput hu (pv 0) pe_str (pe_ifExp (pt_cmpR op_eq (pv 2) pe_str (nomark _)) pe_str (pe_ifExp (pt_cmpR op_eq (pe_dget hu (pv 0) pe_str (fun _ _ => rfl)) pe_int (nomark _)) pe_str pe_str)) rfl) (pss_one (ps_dput hu (pv 0) pe_str (pe_op op_sub (pe_dget hu (pv 0) pe_str (fun _ _ => rfl)) pe_int) rfl))) (pss_cons (ps_asg (pv 6) (pg_lst rfl (pgs_cons (pg_name (i := 1) sc_lo.nd rfl (Or.inl rfl)) (pgs_cons (pg_name (i := 10) sc_lo.nd rfl (Or.inl rfl)) pgs_nil)))) (pss_cons (ps_set (i := 11) sc_lo.nd rfl (Or.inl rfl) (pe_disp (pps_cons pe_str (pe_op op_add (pv 1) (pv 10)) (pps_cons pe_str (pe_op op_sub (pv 1) (pv 10)) (pps_cons pe_str (pe_op op_mul (pv 1) (pv 10)) (pps_cons pe_str (pe_callTy call_int1 (by rfl) T.int (by decide +kernel) (pa_cons (pe_cmpR op_lt (pv 1) (pv 10) (nomark _)) pa_nil)) (pps_cons pe_str (pe_callTy call_int1 (by rfl) T.int (by decide +kernel) (pa_cons (pe_cmpR op_le (pv 1) (pv 10) (nomark _)) pa_nil)) pps_nil))))) rfl rfl (by intro z; cases z) (by show 5 ≤ 15; decide))) (pss_cons (ps_set (i := 12) sc_lo.nd rfl (Or.inl rfl) (pe_ifExp (pt_cmp (pc_din hu (pv 2) (pv 11))) (pe_dget hu (pv 11) (pv 2) (fun _ _ => rfl)) (pe_callTy call_int1 (by rfl) T.int (by decide +kernel) (pa_cons (pe_cmpR op_eq (pe_cmpR op_eq (pv 1) (pv 10) (nomark _)) (pe_cmpR op_eq (pv 2) pe_str (nomark _)) (nomark _)) pa_nil)))) (pss_cons (ps_if (pt_cmpR op_gt (pe_callB call_abs (by rfl) habs (by decide +kernel) (pa_cons (pv 12) pa_nil)) (pe_op op_pow pe_int pe_int) (nomark _)) (pss_one (ps_dput hu (pv 0) pe_str pe_str rfl)) pss_nil) (pss_one (ps_expr (pe_bm PySem.F.plainAttrs_list PySem.F.slot_list_append PySem.F.type_list_append mt_append (pv 4) (pa_cons (pv 12) pa_nil))))))))))))))))))))))))))))))))), ?_⟩
  refine ⟨_, rfl, t, _, rfl, hT, rfl, _, _, rfl, _, _, rfl, rfl, ?_⟩
  refine ⟨_, rfl, S, _, rfl, g.get 1 rfl rfl, _, rfl, S, _, rfl, g.get 0 rfl rfl, _, _, rfl, rfl, _, rfl, S, _, rfl, g.get 8 rfl rfl, _, _, rfl, rfl, (by show 3 ≤ sizeLine; decide), fun p np => ?_⟩
  have g1 := g.same (same_new np (.tup [.ref A.pl, .int (m.at_ + 1), .int (m.cnt + 1)]))
  have hp1 : (upd H p (.tup [.ref A.pl, .int (m.at_ + 1), .int (m.cnt + 1)])) p = some (.tup [.ref A.pl, .int (m.at_ + 1), .int (m.cnt + 1)]) := upd_same
  generalize upd H p (.tup [.ref A.pl, .int (m.at_ + 1), .int (m.cnt + 1)]) = H1 at g1 hp1 ⊢
  obtain ⟨d1, g2⟩ := g1.put 0 (f := "at") (v := .int (m.at_ + 1)) A { m with at_ := m.at_ + 1 } rfl rfl rfl rfl g1.now g1.sz
  refine ⟨p, _, rfl, SqT.of hp1, rfl, _, _, rfl, _, _, rfl, _, rfl, S, _, rfl, d1, ?_⟩
  generalize upd H1 S _ = H2 at g2 ⊢
  obtain ⟨d2, g3⟩ := g2.put 8 (f := "count") (v := .int (m.cnt + 1)) A m.next rfl rfl rfl rfl g2.now g2.sz
  refine ⟨_, _, rfl, _, rfl, S, _, rfl, d2, rfl, ?_⟩
  generalize upd H2 S _ = H3 at g3 ⊢
  clear g1 g2 d1 d2 hp1 g
  have g := g3
  clear g3
  rcases need_kind od lw with ⟨h1, h2, hl, hn⟩ | ⟨h1, h2, hl, hn⟩ | ⟨h1, h2, hn⟩
  · refine ⟨_, rfl, (by show 10 ≤ sizeLine; decide), fun p np => rIn_lit lo1 (SqT.of upd_same) ⟨_, rfl, ?_⟩⟩
    have g := g.same (same_new np (.tup [.str "copy", .str "neg", .str "not", .str "truth", .str "row", .str "col", .str "say", .str "zero", .str "some", .str "store"]))
    generalize upd H3 p (.tup [.str "copy", .str "neg", .str "not", .str "truth", .str "row", .str "col", .str "say", .str "zero", .str "some", .str "store"]) = H4 at g ⊢
    refine dT h1 ?_
    refine ⟨_, rfl, (by show 8 ≤ sizeLine; decide), fun p np => rIn_lit lo2 (SqT.of upd_same) ⟨_, rfl, ?_⟩⟩
    have g := g.same (same_new np (.tup [.str "add", .str "sub", .str "mul", .str "lt", .str "le", .str "eq", .str "ne", .str "black"]))
    generalize upd H4 p (.tup [.str "add", .str "sub", .str "mul", .str "lt", .str "le", .str "eq", .str "ne", .str "black"]) = H5 at g ⊢
    refine dF h2 ?_
    refine ⟨_, rfl, ?_⟩
    refine ⟨_, rfl, A.pl, _, rfl, .inl (SqL.of g.pile), _, rfl, _, _, rfl, rfl, _, rfl, ?_⟩
    obtain ⟨l0, e0, w0⟩ : ∃ l0, atI (rowsV m.pic) 0 = some (.str (sOf l0)) ∧ l0.length = w := by
      have sz : Sized h w m.pic := g.sz
      have pos : 0 < m.pic.length := by rw [sz.len]; exact sz.h1
      refine ⟨m.pic[0], atI_nat (j := 0) ?_, sz.row _ (List.getElem_mem pos)⟩
      unfold rowsV
      rw [List.getElem?_map, List.getElem?_eq_getElem pos]
      rfl
    rcases hx : m.stk.getLast? with _ | x
    · refine dT (by show (((m.stk.map V.int).length : Nat) : Int) < 1; rw [List.length_map, List.getLast?_eq_none_iff.mp hx]; decide) (iteT ?_)
      obtain ⟨d, g'⟩ := g.put 7 (f := "end") (v := .str "broken") A { m.next with en := "broken" } rfl rfl rfl rfl g.now g.sz
      refine ⟨_, rfl, S, _, rfl, d, ?_⟩
      have es : stp h w od m = { m.next with en := "broken" } := by unfold stp; rw [act_brk1 (m := m.next) hn hx]
      rw [es] at k
      exact k A m.stk m.tk _ g' fun e => absurd (show ("broken" : Str) = "" from e) (by decide +kernel)
    obtain ⟨s, hs⟩ : ∃ s, m.stk = s ++ [x] := ⟨_, last1 hx⟩
    refine dF (by show ¬ (((m.stk.map V.int).length : Nat) : Int) < 1; rw [List.length_map, hs, List.length_append]; show ¬ (((s.length + 1 : Nat)) : Int) < 1; omega) ?_
    refine ⟨_, rfl, rfl, _, rfl, sF hl (iteF ?_)⟩
    refine ⟨_, rfl, _, rfl, by decide, by decide, fun D nD => ?_⟩
    have nB : B D = none := g.sm.free nD
    have nDD : D ≠ A.pl ∧ D ≠ A.sl ∧ D ≠ A.ln ∧ D ≠ A.sd := ⟨fun e => (by rw [e, g.pile] at nD; cases nD), fun e => (by rw [e, g.slots] at nD; cases nD), fun e => (by rw [e, g.lines] at nD; cases nD), fun e => (by rw [e, g.said] at nD; cases nD)⟩
    have hk : 1 ≤ m.stk.length := by rw [hs, List.length_append]; exact Nat.le_add_left 1 _
    refine lc_range (lo := 0) (n := ((1 : Nat) : Int).toNat) (fun i H' => LS K S B h w A { m.next with stk := m.stk.take (m.stk.length - i) } H' ∧ H' D = some (.lst ((m.stk.reverse.take i).map V.int)) ∧ i ≤ 1) ⟨?_, upd_same, Nat.zero_le _⟩ ?_ ?_
    · rw [Nat.sub_zero, List.take_length]
      exact g.same (same_new nD _)
    · rintro i H' hi ⟨gi, hD, hik⟩
      have hi : i < 1 := hi
      obtain ⟨x, p1, p2, p3⟩ := pop_at m.stk i (by omega)
      refine ⟨rfl, ?_⟩
      unfold tYes
      refine iteT ?_
      refine ⟨_, rfl, .inl ⟨rfl, _, SqL.of gi.pile⟩, A.pl, _, .int x, rfl, rfl, gi.pile, p1, ?_⟩
      have g4 := gi.setPile (m.stk.take (m.stk.length - (i + 1)))
      rw [← p2] at g4
      have hD4 : (upd H' A.pl (.lst ((m.stk.take (m.stk.length - i)).map V.int).dropLast)) D = some (.lst ((m.stk.reverse.take i).map V.int)) := by rw [upd_ne nDD.1]; exact hD
      refine ⟨_, hD4, ?_, g4.updD hD4 nDD nB _, ?_, hi⟩
      · rw [List.length_map, List.length_take]
        exact Nat.lt_of_le_of_lt (Nat.min_le_left _ _) (Nat.lt_of_lt_of_le hi (by decide))
      · rw [p3, List.map_append]
        exact upd_same
    rintro H' ⟨gi, hD, _⟩
    have gi : LS K S B h w A { m.next with stk := m.stk.take (m.stk.length - 1) } H' := gi
    have hD : H' D = some (.lst ((m.stk.reverse.take 1).map V.int)) := hD
    refine ⟨D, _, rfl, SqL.of hD, fun q nq => ?_⟩
    have g := gi.same (same_new nq (.lst ((m.stk.reverse.take 1).map V.int).reverse))
    have hq : (upd H' q (.lst ((m.stk.reverse.take 1).map V.int).reverse)) q = some (.lst ((m.stk.reverse.take 1).map V.int).reverse) := upd_same
    generalize upd H' q (.lst ((m.stk.reverse.take 1).map V.int).reverse) = H5 at g hq ⊢
    have eK : m.stk.take (m.stk.length - 1) = s := by rw [hs, List.length_append, show s.length + [x].length - 1 = s.length from rfl, List.take_left]
    have eT : ((m.stk.reverse.take 1).map V.int).reverse = [.int x] := by rw [hs, List.reverse_append]; rfl
    rw [eT] at hq
    have g : LS K S B h w A { m.next with stk := s } H5 := by
      have z := g
      rw [show ({ m.next with stk := m.stk.take (m.stk.length - 1) } : Ms) = { m.next with stk := s } by rw [eK]] at z
      exact z
    clear gi hD nD eK eT
    refine ⟨_, rfl, S, _, rfl, g.get 3 rfl rfl, A.nw, _, rfl, .inr g.now, _, rfl, S, _, rfl, g.get 3 rfl rfl, A.nw, _, _, _, rfl, rfl, g.now, e0, sOf l0, rfl, by rw [sOf_len, w0]; exact Nat.le_trans g.sz.w2 (by decide), _, _, rfl, ?_⟩
    rw [rowsV_len, sOf_len, g.sz.len, w0]
    refine normS (σ' := [some (.ref S), some (.ref t), some (.str od.w), some (.int od.n), some (.ref A.pl), some (.int 1), some (.ref q), none, some (.int (h : Int)), some (.int (w : Int)), none, none, none]) rfl ?_
    have hd : m.stk.dropLast = s := by rw [hs, List.dropLast_concat]
    have hsl : s.length ≤ 1000 := by have z := okm.l1; rw [hs, List.length_append] at z; exact Nat.le_trans (Nat.le_add_right _ _) z
    cases od with
    | copy =>
      refine ⟨_, rfl, (by show 4 ≤ sizeLine; decide), fun p np => rIn_lit ["push", "load", "rows", "cols"] (SqT.of upd_same) ⟨_, rfl, ?_⟩⟩
      have g := g.same (same_new np (.tup [.str "push", .str "load", .str "rows", .str "cols"]))
      have hq := same_new np (.tup [.str "push", .str "load", .str "rows", .str "cols"]) _ _ hq
      generalize upd H5 p (.tup [.str "push", .str "load", .str "rows", .str "cols"]) = H6 at g hq ⊢
      refine dF (by show ("copy" : Str) ∉ (["push", "load", "rows", "cols"] : List Str); decide +kernel) ?_
      refine ⟨_, rfl, rfl, _, rfl, sT rfl ?_⟩
      have es : stp h w .copy m = { m.next with stk := s ++ [x, x] } := by simp only [stp, act, Ms.next, hx, hd]
      rw [es] at k
      refine ⟨_, rfl, .inl ⟨rfl, _, SqL.of g.pile⟩, _, rfl, _, rfl, q, q, _, _, rfl, rfl, hq, hq, (by show 2 ≤ sizeLine; decide), fun p np => ?_⟩
      have g6 := g.same (same_new np (.lst ([.int x] ++ [.int x])))
      have g7 := g6.setPile (s ++ [x, x])
      rw [List.map_append] at g7
      exact ⟨A.pl, p, _, _, rfl, rfl, g6.pile, upd_same, (by rw [List.length_map]; exact Nat.le_trans (Nat.add_le_add_right hsl 2) (by decide)), k A _ _ _ g7 fun _ => ⟨rfl, rfl⟩⟩
    | one o =>
      cases o with
      | neg =>
        refine ⟨_, rfl, (by show 4 ≤ sizeLine; decide), fun p np => rIn_lit ["push", "load", "rows", "cols"] (SqT.of upd_same) ⟨_, rfl, ?_⟩⟩
        have g := g.same (same_new np (.tup [.str "push", .str "load", .str "rows", .str "cols"]))
        have hq := same_new np (.tup [.str "push", .str "load", .str "rows", .str "cols"]) _ _ hq
        generalize upd H5 p (.tup [.str "push", .str "load", .str "rows", .str "cols"]) = H6 at g hq ⊢
        refine dF (by show ("neg" : Str) ∉ (["push", "load", "rows", "cols"] : List Str); decide +kernel) ?_
        refine ⟨_, rfl, rfl, _, rfl, sF (by show ("neg" : Str) ≠ "copy"; decide +kernel) ?_⟩
        refine ⟨_, rfl, rfl, _, rfl, sF (by show ("neg" : Str) ≠ "store"; decide +kernel) ?_⟩
        refine ⟨_, rfl, (by show 3 ≤ sizeLine; decide), fun p np => rIn_lit ["jump", "zero", "some"] (SqT.of upd_same) ⟨_, rfl, ?_⟩⟩
        have g := g.same (same_new np (.tup [.str "jump", .str "zero", .str "some"]))
        have hq := same_new np (.tup [.str "jump", .str "zero", .str "some"]) _ _ hq
        generalize upd H6 p (.tup [.str "jump", .str "zero", .str "some"]) = H7 at g hq ⊢
        refine dF (by show ("neg" : Str) ∉ (["jump", "zero", "some"] : List Str); decide +kernel) ?_
        refine ⟨_, rfl, (by show 3 ≤ sizeLine; decide), fun p np => rIn_lit ["neg", "not", "truth"] (SqT.of upd_same) ⟨_, rfl, ?_⟩⟩
        have g := g.same (same_new np (.tup [.str "neg", .str "not", .str "truth"]))
        have hq := same_new np (.tup [.str "neg", .str "not", .str "truth"]) _ _ hq
        generalize upd H7 p (.tup [.str "neg", .str "not", .str "truth"]) = H8 at g hq ⊢
        refine dT (by show ("neg" : Str) ∈ (["neg", "not", "truth"] : List Str); decide +kernel) ?_
        have es : stp h w (.one .neg) m = { m.next with stk := s ++ [0 - x] } := by simp only [stp, act, Ms.next, hx, hd, O1.v, Int.zero_sub]
        rw [es] at k
        exact ⟨_, rfl, .inl ⟨rfl, _, SqL.of g.pile⟩, _, rfl, rfl, _, rfl, sT rfl ⟨_, rfl, q, _, _, _, rfl, rfl, SqL.of hq, (atI_nat (j := 0) rfl), _, _, rfl, rfl, A.pl, _, _, rfl, rfl, g.pile, (by rw [List.length_map]; exact Nat.lt_of_le_of_lt hsl (by decide)), k A _ _ _ (g.push _) fun _ => ⟨rfl, rfl⟩⟩⟩
      | not =>
        refine ⟨_, rfl, (by show 4 ≤ sizeLine; decide), fun p np => rIn_lit ["push", "load", "rows", "cols"] (SqT.of upd_same) ⟨_, rfl, ?_⟩⟩
        have g := g.same (same_new np (.tup [.str "push", .str "load", .str "rows", .str "cols"]))
        have hq := same_new np (.tup [.str "push", .str "load", .str "rows", .str "cols"]) _ _ hq
        generalize upd H5 p (.tup [.str "push", .str "load", .str "rows", .str "cols"]) = H6 at g hq ⊢
        refine dF (by show ("not" : Str) ∉ (["push", "load", "rows", "cols"] : List Str); decide +kernel) ?_
        refine ⟨_, rfl, rfl, _, rfl, sF (by show ("not" : Str) ≠ "copy"; decide +kernel) ?_⟩
        refine ⟨_, rfl, rfl, _, rfl, sF (by show ("not" : Str) ≠ "store"; decide +kernel) ?_⟩
        refine ⟨_, rfl, (by show 3 ≤ sizeLine; decide), fun p np => rIn_lit ["jump", "zero", "some"] (SqT.of upd_same) ⟨_, rfl, ?_⟩⟩
        have g := g.same (same_new np (.tup [.str "jump", .str "zero", .str "some"]))
        have hq := same_new np (.tup [.str "jump", .str "zero", .str "some"]) _ _ hq
        generalize upd H6 p (.tup [.str "jump", .str "zero", .str "some"]) = H7 at g hq ⊢
        refine dF (by show ("not" : Str) ∉ (["jump", "zero", "some"] : List Str); decide +kernel) ?_
        refine ⟨_, rfl, (by show 3 ≤ sizeLine; decide), fun p np => rIn_lit ["neg", "not", "truth"] (SqT.of upd_same) ⟨_, rfl, ?_⟩⟩
        have g := g.same (same_new np (.tup [.str "neg", .str "not", .str "truth"]))
        have hq := same_new np (.tup [.str "neg", .str "not", .str "truth"]) _ _ hq
        generalize upd H7 p (.tup [.str "neg", .str "not", .str "truth"]) = H8 at g hq ⊢
        refine dT (by show ("not" : Str) ∈ (["neg", "not", "truth"] : List Str); decide +kernel) ?_
        have eb : (if decide (V.bl (decide (V.int x = V.int 0)) = V.bl (decide (V.str "not" = V.str "not"))) = true then (1 : Int) else 0) = O1.v .not x := bit_of (bqT x rfl)
        have es : stp h w (.one .not) m = { m.next with stk := s ++ [(if decide (V.bl (decide (V.int x = V.int 0)) = V.bl (decide (V.str "not" = V.str "not"))) = true then (1 : Int) else 0)] } := by rw [eb]; simp only [stp, act, Ms.next, hx, hd]
        rw [es] at k
        exact ⟨_, rfl, .inl ⟨rfl, _, SqL.of g.pile⟩, _, rfl, rfl, _, rfl, sF (by show ("not" : Str) ≠ "neg"; decide +kernel) ⟨_, rfl, q, _, _, _, rfl, rfl, SqL.of hq, (atI_nat (j := 0) rfl), rfl, _, rfl, rfl, rfl, .inr ⟨_, rfl, A.pl, _, _, rfl, rfl, g.pile, (by rw [List.length_map]; exact Nat.lt_of_le_of_lt hsl (by decide)), k A _ _ _ (g.push _) fun _ => ⟨rfl, rfl⟩⟩⟩⟩
      | truth =>
        refine ⟨_, rfl, (by show 4 ≤ sizeLine; decide), fun p np => rIn_lit ["push", "load", "rows", "cols"] (SqT.of upd_same) ⟨_, rfl, ?_⟩⟩
        have g := g.same (same_new np (.tup [.str "push", .str "load", .str "rows", .str "cols"]))
        have hq := same_new np (.tup [.str "push", .str "load", .str "rows", .str "cols"]) _ _ hq
        generalize upd H5 p (.tup [.str "push", .str "load", .str "rows", .str "cols"]) = H6 at g hq ⊢
        refine dF (by show ("truth" : Str) ∉ (["push", "load", "rows", "cols"] : List Str); decide +kernel) ?_
        refine ⟨_, rfl, rfl, _, rfl, sF (by show ("truth" : Str) ≠ "copy"; decide +kernel) ?_⟩
        refine ⟨_, rfl, rfl, _, rfl, sF (by show ("truth" : Str) ≠ "store"; decide +kernel) ?_⟩
        refine ⟨_, rfl, (by show 3 ≤ sizeLine; decide), fun p np => rIn_lit ["jump", "zero", "some"] (SqT.of upd_same) ⟨_, rfl, ?_⟩⟩
        have g := g.same (same_new np (.tup [.str "jump", .str "zero", .str "some"]))
        have hq := same_new np (.tup [.str "jump", .str "zero", .str "some"]) _ _ hq
        generalize upd H6 p (.tup [.str "jump", .str "zero", .str "some"]) = H7 at g hq ⊢
        refine dF (by show ("truth" : Str) ∉ (["jump", "zero", "some"] : List Str); decide +kernel) ?_
        refine ⟨_, rfl, (by show 3 ≤ sizeLine; decide), fun p np => rIn_lit ["neg", "not", "truth"] (SqT.of upd_same) ⟨_, rfl, ?_⟩⟩
        have g := g.same (same_new np (.tup [.str "neg", .str "not", .str "truth"]))
        have hq := same_new np (.tup [.str "neg", .str "not", .str "truth"]) _ _ hq
        generalize upd H7 p (.tup [.str "neg", .str "not", .str "truth"]) = H8 at g hq ⊢
        refine dT (by show ("truth" : Str) ∈ (["neg", "not", "truth"] : List Str); decide +kernel) ?_
        have eb : (if decide (V.bl (decide (V.int x = V.int 0)) = V.bl (decide (V.str "truth" = V.str "not"))) = true then (1 : Int) else 0) = O1.v .truth x := bit_of (bqF x (by show ("truth" : Str) ≠ "not"; decide +kernel))
        have es : stp h w (.one .truth) m = { m.next with stk := s ++ [(if decide (V.bl (decide (V.int x = V.int 0)) = V.bl (decide (V.str "truth" = V.str "not"))) = true then (1 : Int) else 0)] } := by rw [eb]; simp only [stp, act, Ms.next, hx, hd]
        rw [es] at k
        exact ⟨_, rfl, .inl ⟨rfl, _, SqL.of g.pile⟩, _, rfl, rfl, _, rfl, sF (by show ("truth" : Str) ≠ "neg"; decide +kernel) ⟨_, rfl, q, _, _, _, rfl, rfl, SqL.of hq, (atI_nat (j := 0) rfl), rfl, _, rfl, rfl, rfl, .inr ⟨_, rfl, A.pl, _, _, rfl, rfl, g.pile, (by rw [List.length_map]; exact Nat.lt_of_le_of_lt hsl (by decide)), k A _ _ _ (g.push _) fun _ => ⟨rfl, rfl⟩⟩⟩⟩
    | row =>
      refine ⟨_, rfl, (by show 4 ≤ sizeLine; decide), fun p np => rIn_lit ["push", "load", "rows", "cols"] (SqT.of upd_same) ⟨_, rfl, ?_⟩⟩
      have g := g.same (same_new np (.tup [.str "push", .str "load", .str "rows", .str "cols"]))
      have hq := same_new np (.tup [.str "push", .str "load", .str "rows", .str "cols"]) _ _ hq
      generalize upd H5 p (.tup [.str "push", .str "load", .str "rows", .str "cols"]) = H6 at g hq ⊢
      refine dF (by show ("row" : Str) ∉ (["push", "load", "rows", "cols"] : List Str); decide +kernel) ?_
      refine ⟨_, rfl, rfl, _, rfl, sF (by show ("row" : Str) ≠ "copy"; decide +kernel) ?_⟩
      refine ⟨_, rfl, rfl, _, rfl, sF (by show ("row" : Str) ≠ "store"; decide +kernel) ?_⟩
      refine ⟨_, rfl, (by show 3 ≤ sizeLine; decide), fun p np => rIn_lit ["jump", "zero", "some"] (SqT.of upd_same) ⟨_, rfl, ?_⟩⟩
      have g := g.same (same_new np (.tup [.str "jump", .str "zero", .str "some"]))
      have hq := same_new np (.tup [.str "jump", .str "zero", .str "some"]) _ _ hq
      generalize upd H6 p (.tup [.str "jump", .str "zero", .str "some"]) = H7 at g hq ⊢
      refine dF (by show ("row" : Str) ∉ (["jump", "zero", "some"] : List Str); decide +kernel) ?_
      refine ⟨_, rfl, (by show 3 ≤ sizeLine; decide), fun p np => rIn_lit ["neg", "not", "truth"] (SqT.of upd_same) ⟨_, rfl, ?_⟩⟩
      have g := g.same (same_new np (.tup [.str "neg", .str "not", .str "truth"]))
      have hq := same_new np (.tup [.str "neg", .str "not", .str "truth"]) _ _ hq
      generalize upd H7 p (.tup [.str "neg", .str "not", .str "truth"]) = H8 at g hq ⊢
      refine dF (by show ("row" : Str) ∉ (["neg", "not", "truth"] : List Str); decide +kernel) ?_
      refine ⟨_, rfl, (by show 2 ≤ sizeLine; decide), fun p np => rIn_lit ["row", "col"] (SqT.of upd_same) ⟨_, rfl, ?_⟩⟩
      have g := g.same (same_new np (.tup [.str "row", .str "col"]))
      have hq := same_new np (.tup [.str "row", .str "col"]) _ _ hq
      generalize upd H8 p (.tup [.str "row", .str "col"]) = H9 at g hq ⊢
      refine dT (by show ("row" : Str) ∈ (["row", "col"] : List Str); decide +kernel) ?_
      by_cases c1 : 1 ≤ x
      · by_cases c2 : x ≤ (h : Int)
        · refine ⟨_, rfl, q, _, _, _, rfl, rfl, SqL.of hq, (atI_nat (j := 0) rfl), _, _, rfl, rfl, _, rfl, dT c1 ⟨_, rfl, rfl, _, rfl, sT rfl ⟨_, rfl, _, _, rfl, rfl, _, rfl, dT c2 ?_⟩⟩⟩
          have es : stp h w .row m = { m.next with stk := s, pic := pnt h w m.pic (x - 1).toNat, ln := m.ln ++ [(x - 1).toNat] } := by simp only [stp, act, Ms.next, hx, hd, if_pos (And.intro c1 c2)]
          rw [es] at k
          have h1' := g.sz.h1
          have ex : x - 1 + 0 = (((x - 1).toNat : Nat) : Int) := by omega
          have lt : (x - 1).toNat < h + w := by omega
          refine ⟨_, rfl, S, _, rfl, g.get 4 rfl rfl, .inl ⟨rfl, _, SqL.of g.lines⟩, _, rfl, q, _, _, _, rfl, rfl, SqL.of hq, (atI_nat (j := 0) rfl), _, _, rfl, rfl, _, rfl, rfl, _, rfl, sT rfl ⟨_, _, rfl, rfl, A.ln, _, _, rfl, rfl, g.lines, (by unfold natV; rw [List.length_map]; exact Nat.lt_of_le_of_lt okm.l2 (by decide)), ?_⟩⟩
          have g6 := g.pushLine (x - 1).toNat
          rw [← ex] at g6
          have el : atI (natV (m.ln ++ [(x - 1).toNat])) (-1) = some (.int (((x - 1).toNat : Nat) : Int)) := atI_end (by unfold natV; rw [List.map_append]; exact List.getLast?_concat)
          refine ⟨_, rfl, S, _, rfl, g6.get 3 rfl rfl, _, rfl, S, _, rfl, g6.get 4 rfl rfl, _, rfl, A.ln, _, _, _, rfl, rfl, SqL.of g6.lines, el, A.nw, m.pic, h, w, (x - 1).toNat, rfl, g6.now, g6.sz, lt, fun b H7 s7 hb => ?_⟩
          have g7 := g6.same s7
          obtain ⟨d, g8⟩ := g7.put 3 (f := "now") (v := .ref b) { A with nw := b } { m.next with stk := s, pic := pnt h w m.pic (x - 1).toNat, ln := m.ln ++ [(x - 1).toNat] } rfl rfl rfl rfl hb (g7.sz.pnt _)
          exact ⟨_, rfl, S, _, rfl, d, k _ _ _ _ g8 fun _ => ⟨rfl, rfl⟩⟩
        · refine ⟨_, rfl, q, _, _, _, rfl, rfl, SqL.of hq, (atI_nat (j := 0) rfl), _, _, rfl, rfl, _, rfl, dT c1 ⟨_, rfl, rfl, _, rfl, sT rfl ⟨_, rfl, _, _, rfl, rfl, _, rfl, dF c2 ?_⟩⟩⟩
          have es : stp h w .row m = { m.next with en := "range" } := by simp only [stp, act, Ms.next, hx, hd, if_neg (fun z : 1 ≤ x ∧ x ≤ (h : Int) => c2 z.2)]
          rw [es] at k
          obtain ⟨d, g'⟩ := g.put 7 (f := "end") (v := .str "range") A { m.next with stk := s, en := "range" } rfl rfl rfl rfl g.now g.sz
          exact  ⟨_, rfl, S, _, rfl, d, k A s m.tk _ g' fun e => absurd (show ("range" : Str) = "" from e) (by decide +kernel)⟩
      · refine ⟨_, rfl, q, _, _, _, rfl, rfl, SqL.of hq, (atI_nat (j := 0) rfl), _, _, rfl, rfl, _, rfl, dF c1 ⟨_, rfl, iteF ?_⟩⟩
        have es : stp h w .row m = { m.next with en := "range" } := by simp only [stp, act, Ms.next, hx, hd, if_neg (fun z : 1 ≤ x ∧ x ≤ (h : Int) => c1 z.1)]
        rw [es] at k
        obtain ⟨d, g'⟩ := g.put 7 (f := "end") (v := .str "range") A { m.next with stk := s, en := "range" } rfl rfl rfl rfl g.now g.sz
        exact  ⟨_, rfl, S, _, rfl, d, k A s m.tk _ g' fun e => absurd (show ("range" : Str) = "" from e) (by decide +kernel)⟩
    | col =>
      refine ⟨_, rfl, (by show 4 ≤ sizeLine; decide), fun p np => rIn_lit ["push", "load", "rows", "cols"] (SqT.of upd_same) ⟨_, rfl, ?_⟩⟩
      have g := g.same (same_new np (.tup [.str "push", .str "load", .str "rows", .str "cols"]))
      have hq := same_new np (.tup [.str "push", .str "load", .str "rows", .str "cols"]) _ _ hq
      generalize upd H5 p (.tup [.str "push", .str "load", .str "rows", .str "cols"]) = H6 at g hq ⊢
      refine dF (by show ("col" : Str) ∉ (["push", "load", "rows", "cols"] : List Str); decide +kernel) ?_
      refine ⟨_, rfl, rfl, _, rfl, sF (by show ("col" : Str) ≠ "copy"; decide +kernel) ?_⟩
      refine ⟨_, rfl, rfl, _, rfl, sF (by show ("col" : Str) ≠ "store"; decide +kernel) ?_⟩
      refine ⟨_, rfl, (by show 3 ≤ sizeLine; decide), fun p np => rIn_lit ["jump", "zero", "some"] (SqT.of upd_same) ⟨_, rfl, ?_⟩⟩
      have g := g.same (same_new np (.tup [.str "jump", .str "zero", .str "some"]))
      have hq := same_new np (.tup [.str "jump", .str "zero", .str "some"]) _ _ hq
      generalize upd H6 p (.tup [.str "jump", .str "zero", .str "some"]) = H7 at g hq ⊢
      refine dF (by show ("col" : Str) ∉ (["jump", "zero", "some"] : List Str); decide +kernel) ?_
      refine ⟨_, rfl, (by show 3 ≤ sizeLine; decide), fun p np => rIn_lit ["neg", "not", "truth"] (SqT.of upd_same) ⟨_, rfl, ?_⟩⟩
      have g := g.same (same_new np (.tup [.str "neg", .str "not", .str "truth"]))
      have hq := same_new np (.tup [.str "neg", .str "not", .str "truth"]) _ _ hq
      generalize upd H7 p (.tup [.str "neg", .str "not", .str "truth"]) = H8 at g hq ⊢
      refine dF (by show ("col" : Str) ∉ (["neg", "not", "truth"] : List Str); decide +kernel) ?_
      refine ⟨_, rfl, (by show 2 ≤ sizeLine; decide), fun p np => rIn_lit ["row", "col"] (SqT.of upd_same) ⟨_, rfl, ?_⟩⟩
      have g := g.same (same_new np (.tup [.str "row", .str "col"]))
      have hq := same_new np (.tup [.str "row", .str "col"]) _ _ hq
      generalize upd H8 p (.tup [.str "row", .str "col"]) = H9 at g hq ⊢
      refine dT (by show ("col" : Str) ∈ (["row", "col"] : List Str); decide +kernel) ?_
      by_cases c1 : 1 ≤ x
      · by_cases c2 : x ≤ (w : Int)
        · refine ⟨_, rfl, q, _, _, _, rfl, rfl, SqL.of hq, (atI_nat (j := 0) rfl), _, _, rfl, rfl, _, rfl, dT c1 ⟨_, rfl, rfl, _, rfl, sF (by show ("col" : Str) ≠ "row"; decide +kernel) ⟨_, rfl, _, _, rfl, rfl, _, rfl, dT c2 ?_⟩⟩⟩
          have es : stp h w .col m = { m.next with stk := s, pic := pnt h w m.pic (h + (x - 1).toNat), ln := m.ln ++ [(h + (x - 1).toNat)] } := by simp only [stp, act, Ms.next, hx, hd, if_pos (And.intro c1 c2)]
          rw [es] at k
          have h1' := g.sz.h1
          have ex : x - 1 + (h : Int) = (((h + (x - 1).toNat) : Nat) : Int) := by omega
          have lt : (h + (x - 1).toNat) < h + w := by omega
          refine ⟨_, rfl, S, _, rfl, g.get 4 rfl rfl, .inl ⟨rfl, _, SqL.of g.lines⟩, _, rfl, q, _, _, _, rfl, rfl, SqL.of hq, (atI_nat (j := 0) rfl), _, _, rfl, rfl, _, rfl, rfl, _, rfl, sF (by show ("col" : Str) ≠ "row"; decide +kernel) ⟨_, rfl, _, _, rfl, rfl, A.ln, _, _, rfl, rfl, g.lines, (by unfold natV; rw [List.length_map]; exact Nat.lt_of_le_of_lt okm.l2 (by decide)), ?_⟩⟩
          have g6 := g.pushLine (h + (x - 1).toNat)
          rw [← ex] at g6
          have el : atI (natV (m.ln ++ [(h + (x - 1).toNat)])) (-1) = some (.int (((h + (x - 1).toNat) : Nat) : Int)) := atI_end (by unfold natV; rw [List.map_append]; exact List.getLast?_concat)
          refine ⟨_, rfl, S, _, rfl, g6.get 3 rfl rfl, _, rfl, S, _, rfl, g6.get 4 rfl rfl, _, rfl, A.ln, _, _, _, rfl, rfl, SqL.of g6.lines, el, A.nw, m.pic, h, w, (h + (x - 1).toNat), rfl, g6.now, g6.sz, lt, fun b H7 s7 hb => ?_⟩
          have g7 := g6.same s7
          obtain ⟨d, g8⟩ := g7.put 3 (f := "now") (v := .ref b) { A with nw := b } { m.next with stk := s, pic := pnt h w m.pic (h + (x - 1).toNat), ln := m.ln ++ [(h + (x - 1).toNat)] } rfl rfl rfl rfl hb (g7.sz.pnt _)
          exact ⟨_, rfl, S, _, rfl, d, k _ _ _ _ g8 fun _ => ⟨rfl, rfl⟩⟩
        · refine ⟨_, rfl, q, _, _, _, rfl, rfl, SqL.of hq, (atI_nat (j := 0) rfl), _, _, rfl, rfl, _, rfl, dT c1 ⟨_, rfl, rfl, _, rfl, sF (by show ("col" : Str) ≠ "row"; decide +kernel) ⟨_, rfl, _, _, rfl, rfl, _, rfl, dF c2 ?_⟩⟩⟩
          have es : stp h w .col m = { m.next with en := "range" } := by simp only [stp, act, Ms.next, hx, hd, if_neg (fun z : 1 ≤ x ∧ x ≤ (w : Int) => c2 z.2)]
          rw [es] at k
          obtain ⟨d, g'⟩ := g.put 7 (f := "end") (v := .str "range") A { m.next with stk := s, en := "range" } rfl rfl rfl rfl g.now g.sz
          exact  ⟨_, rfl, S, _, rfl, d, k A s m.tk _ g' fun e => absurd (show ("range" : Str) = "" from e) (by decide +kernel)⟩
      · refine ⟨_, rfl, q, _, _, _, rfl, rfl, SqL.of hq, (atI_nat (j := 0) rfl), _, _, rfl, rfl, _, rfl, dF c1 ⟨_, rfl, iteF ?_⟩⟩
        have es : stp h w .col m = { m.next with en := "range" } := by simp only [stp, act, Ms.next, hx, hd, if_neg (fun z : 1 ≤ x ∧ x ≤ (w : Int) => c1 z.1)]
        rw [es] at k
        obtain ⟨d, g'⟩ := g.put 7 (f := "end") (v := .str "range") A { m.next with stk := s, en := "range" } rfl rfl rfl rfl g.now g.sz
        exact  ⟨_, rfl, S, _, rfl, d, k A s m.tk _ g' fun e => absurd (show ("range" : Str) = "" from e) (by decide +kernel)⟩
    | say =>
      refine ⟨_, rfl, (by show 4 ≤ sizeLine; decide), fun p np => rIn_lit ["push", "load", "rows", "cols"] (SqT.of upd_same) ⟨_, rfl, ?_⟩⟩
      have g := g.same (same_new np (.tup [.str "push", .str "load", .str "rows", .str "cols"]))
      have hq := same_new np (.tup [.str "push", .str "load", .str "rows", .str "cols"]) _ _ hq
      generalize upd H5 p (.tup [.str "push", .str "load", .str "rows", .str "cols"]) = H6 at g hq ⊢
      refine dF (by show ("say" : Str) ∉ (["push", "load", "rows", "cols"] : List Str); decide +kernel) ?_
      refine ⟨_, rfl, rfl, _, rfl, sF (by show ("say" : Str) ≠ "copy"; decide +kernel) ?_⟩
      refine ⟨_, rfl, rfl, _, rfl, sF (by show ("say" : Str) ≠ "store"; decide +kernel) ?_⟩
      refine ⟨_, rfl, (by show 3 ≤ sizeLine; decide), fun p np => rIn_lit ["jump", "zero", "some"] (SqT.of upd_same) ⟨_, rfl, ?_⟩⟩
      have g := g.same (same_new np (.tup [.str "jump", .str "zero", .str "some"]))
      have hq := same_new np (.tup [.str "jump", .str "zero", .str "some"]) _ _ hq
      generalize upd H6 p (.tup [.str "jump", .str "zero", .str "some"]) = H7 at g hq ⊢
      refine dF (by show ("say" : Str) ∉ (["jump", "zero", "some"] : List Str); decide +kernel) ?_
      refine ⟨_, rfl, (by show 3 ≤ sizeLine; decide), fun p np => rIn_lit ["neg", "not", "truth"] (SqT.of upd_same) ⟨_, rfl, ?_⟩⟩
      have g := g.same (same_new np (.tup [.str "neg", .str "not", .str "truth"]))
      have hq := same_new np (.tup [.str "neg", .str "not", .str "truth"]) _ _ hq
      generalize upd H7 p (.tup [.str "neg", .str "not", .str "truth"]) = H8 at g hq ⊢
      refine dF (by show ("say" : Str) ∉ (["neg", "not", "truth"] : List Str); decide +kernel) ?_
      refine ⟨_, rfl, (by show 2 ≤ sizeLine; decide), fun p np => rIn_lit ["row", "col"] (SqT.of upd_same) ⟨_, rfl, ?_⟩⟩
      have g := g.same (same_new np (.tup [.str "row", .str "col"]))
      have hq := same_new np (.tup [.str "row", .str "col"]) _ _ hq
      generalize upd H8 p (.tup [.str "row", .str "col"]) = H9 at g hq ⊢
      refine dF (by show ("say" : Str) ∉ (["row", "col"] : List Str); decide +kernel) ?_
      refine ⟨_, rfl, rfl, _, rfl, sT rfl ?_⟩
      have es : stp h w .say m = { m.next with stk := s, sd := m.sd ++ [x] } := by simp only [stp, act, Ms.next, hx, hd]
      rw [es] at k
      exact ⟨_, rfl, S, _, rfl, g.get 5 rfl rfl, .inl ⟨rfl, _, SqL.of g.said⟩, _, rfl, q, _, _, _, rfl, rfl, SqL.of hq, (atI_nat (j := 0) rfl), A.sd, _, _, rfl, rfl, g.said, (by rw [List.length_map]; exact Nat.lt_of_le_of_lt okm.l3 (by decide)), k A _ _ _ (g.pushSaid x) fun _ => ⟨rfl, rfl⟩⟩
    | zero n =>
      refine ⟨_, rfl, (by show 4 ≤ sizeLine; decide), fun p np => rIn_lit ["push", "load", "rows", "cols"] (SqT.of upd_same) ⟨_, rfl, ?_⟩⟩
      have g := g.same (same_new np (.tup [.str "push", .str "load", .str "rows", .str "cols"]))
      have hq := same_new np (.tup [.str "push", .str "load", .str "rows", .str "cols"]) _ _ hq
      generalize upd H5 p (.tup [.str "push", .str "load", .str "rows", .str "cols"]) = H6 at g hq ⊢
      refine dF (by show ("zero" : Str) ∉ (["push", "load", "rows", "cols"] : List Str); decide +kernel) ?_
      refine ⟨_, rfl, rfl, _, rfl, sF (by show ("zero" : Str) ≠ "copy"; decide +kernel) ?_⟩
      refine ⟨_, rfl, rfl, _, rfl, sF (by show ("zero" : Str) ≠ "store"; decide +kernel) ?_⟩
      refine ⟨_, rfl, (by show 3 ≤ sizeLine; decide), fun p np => rIn_lit ["jump", "zero", "some"] (SqT.of upd_same) ⟨_, rfl, ?_⟩⟩
      have g := g.same (same_new np (.tup [.str "jump", .str "zero", .str "some"]))
      have hq := same_new np (.tup [.str "jump", .str "zero", .str "some"]) _ _ hq
      generalize upd H6 p (.tup [.str "jump", .str "zero", .str "some"]) = H7 at g hq ⊢
      refine dT (by show ("zero" : Str) ∈ (["jump", "zero", "some"] : List Str); decide +kernel) ?_
      refine ⟨_, rfl, rfl, _, rfl, sF (by show ("zero" : Str) ≠ "jump"; decide +kernel) ⟨_, rfl, q, _, _, _, rfl, rfl, SqL.of hq, (atI_nat (j := 0) rfl), rfl, _, rfl, rfl, rfl, _, rfl, ?_⟩⟩
      by_cases c : x = 0
      · have es : stp h w (.zero n) m = { m.next with stk := s, at_ := (n : Int) } := by simp only [stp, act, Ms.next, hx, hd, if_pos c]
        rw [es] at k
        obtain ⟨d, g'⟩ := g.put 0 (f := "at") (v := .int (n : Int)) A { m.next with stk := s, at_ := (n : Int) } rfl rfl rfl rfl g.now g.sz
        exact dT ((bqT x rfl).mpr c) ⟨_, rfl, _, rfl, S, _, rfl, d, k A _ _ _ g' fun _ => ⟨rfl, rfl⟩⟩
      · have es : stp h w (.zero n) m = { m.next with stk := s, at_ := m.at_ + 1 } := by simp only [stp, act, Ms.next, hx, hd, if_neg c]
        rw [es] at k
        exact dF (fun z => c ((bqT x rfl).mp z)) (k A _ _ _ g fun _ => ⟨rfl, rfl⟩)
    | some n =>
      refine ⟨_, rfl, (by show 4 ≤ sizeLine; decide), fun p np => rIn_lit ["push", "load", "rows", "cols"] (SqT.of upd_same) ⟨_, rfl, ?_⟩⟩
      have g := g.same (same_new np (.tup [.str "push", .str "load", .str "rows", .str "cols"]))
      have hq := same_new np (.tup [.str "push", .str "load", .str "rows", .str "cols"]) _ _ hq
      generalize upd H5 p (.tup [.str "push", .str "load", .str "rows", .str "cols"]) = H6 at g hq ⊢
      refine dF (by show ("some" : Str) ∉ (["push", "load", "rows", "cols"] : List Str); decide +kernel) ?_
      refine ⟨_, rfl, rfl, _, rfl, sF (by show ("some" : Str) ≠ "copy"; decide +kernel) ?_⟩
      refine ⟨_, rfl, rfl, _, rfl, sF (by show ("some" : Str) ≠ "store"; decide +kernel) ?_⟩
      refine ⟨_, rfl, (by show 3 ≤ sizeLine; decide), fun p np => rIn_lit ["jump", "zero", "some"] (SqT.of upd_same) ⟨_, rfl, ?_⟩⟩
      have g := g.same (same_new np (.tup [.str "jump", .str "zero", .str "some"]))
      have hq := same_new np (.tup [.str "jump", .str "zero", .str "some"]) _ _ hq
      generalize upd H6 p (.tup [.str "jump", .str "zero", .str "some"]) = H7 at g hq ⊢
      refine dT (by show ("some" : Str) ∈ (["jump", "zero", "some"] : List Str); decide +kernel) ?_
      refine ⟨_, rfl, rfl, _, rfl, sF (by show ("some" : Str) ≠ "jump"; decide +kernel) ⟨_, rfl, q, _, _, _, rfl, rfl, SqL.of hq, (atI_nat (j := 0) rfl), rfl, _, rfl, rfl, rfl, _, rfl, ?_⟩⟩
      by_cases c : x = 0
      · have es : stp h w (.some n) m = { m.next with stk := s, at_ := m.at_ + 1 } := by simp only [stp, act, Ms.next, hx, hd, if_pos c]
        rw [es] at k
        exact dF (fun z => (bqF x (by show ("some" : Str) ≠ "zero"; decide +kernel)).mp z c) (k A _ _ _ g fun _ => ⟨rfl, rfl⟩)
      · have es : stp h w (.some n) m = { m.next with stk := s, at_ := (n : Int) } := by simp only [stp, act, Ms.next, hx, hd, if_neg c]
        rw [es] at k
        obtain ⟨d, g'⟩ := g.put 0 (f := "at") (v := .int (n : Int)) A { m.next with stk := s, at_ := (n : Int) } rfl rfl rfl rfl g.now g.sz
        exact dT ((bqF x (by show ("some" : Str) ≠ "zero"; decide +kernel)).mpr c) ⟨_, rfl, _, rfl, S, _, rfl, d, k A _ _ _ g' fun _ => ⟨rfl, rfl⟩⟩
    | store n =>
      refine ⟨_, rfl, (by show 4 ≤ sizeLine; decide), fun p np => rIn_lit ["push", "load", "rows", "cols"] (SqT.of upd_same) ⟨_, rfl, ?_⟩⟩
      have g := g.same (same_new np (.tup [.str "push", .str "load", .str "rows", .str "cols"]))
      have hq := same_new np (.tup [.str "push", .str "load", .str "rows", .str "cols"]) _ _ hq
      generalize upd H5 p (.tup [.str "push", .str "load", .str "rows", .str "cols"]) = H6 at g hq ⊢
      refine dF (by show ("store" : Str) ∉ (["push", "load", "rows", "cols"] : List Str); decide +kernel) ?_
      refine ⟨_, rfl, rfl, _, rfl, sF (by show ("store" : Str) ≠ "copy"; decide +kernel) ?_⟩
      refine ⟨_, rfl, rfl, _, rfl, sT rfl ?_⟩
      have es : stp h w (.store n) m = { m.next with stk := s, sl := m.sl.set n (some x) } := by simp only [stp, act, Ms.next, hx, hd]
      rw [es] at k
      have pre : n < m.sl.length := pre
      refine ⟨_, rfl, q, _, _, _, rfl, rfl, SqL.of hq, (atI_nat (j := 0) rfl), _, rfl, S, _, rfl, g.get 2 rfl rfl, _, rfl, A.sl, _, _, n, rfl, rfl, g.slots, ?_, ?_⟩
      · show ixN (slV m.sl).length (n : Int) = some n
        unfold ixN
        rw [if_pos (Int.natCast_nonneg n), if_pos (by rw [slV_len]; exact Int.ofNat_lt.mpr pre), Int.toNat_natCast]
      rw [slV_set]
      exact k A _ _ _ (g.setSlots _) fun _ => ⟨rfl, rfl⟩
    | _ => cases hn

  · refine ⟨_, rfl, (by show 10 ≤ sizeLine; decide), fun p np => rIn_lit lo1 (SqT.of upd_same) ⟨_, rfl, ?_⟩⟩
    have g := g.same (same_new np (.tup [.str "copy", .str "neg", .str "not", .str "truth", .str "row", .str "col", .str "say", .str "zero", .str "some", .str "store"]))
    generalize upd H3 p (.tup [.str "copy", .str "neg", .str "not", .str "truth", .str "row", .str "col", .str "say", .str "zero", .str "some", .str "store"]) = H4 at g ⊢
    refine dF h1 ?_
    refine ⟨_, rfl, (by show 8 ≤ sizeLine; decide), fun p np => rIn_lit lo2 (SqT.of upd_same) ⟨_, rfl, ?_⟩⟩
    have g := g.same (same_new np (.tup [.str "add", .str "sub", .str "mul", .str "lt", .str "le", .str "eq", .str "ne", .str "black"]))
    generalize upd H4 p (.tup [.str "add", .str "sub", .str "mul", .str "lt", .str "le", .str "eq", .str "ne", .str "black"]) = H5 at g ⊢
    refine dT h2 ?_
    refine ⟨_, rfl, A.pl, _, rfl, .inl (SqL.of g.pile), _, rfl, _, _, rfl, rfl, _, rfl, ?_⟩
    obtain ⟨l0, e0, w0⟩ : ∃ l0, atI (rowsV m.pic) 0 = some (.str (sOf l0)) ∧ l0.length = w := by
      have sz : Sized h w m.pic := g.sz
      have pos : 0 < m.pic.length := by rw [sz.len]; exact sz.h1
      refine ⟨m.pic[0], atI_nat (j := 0) ?_, sz.row _ (List.getElem_mem pos)⟩
      unfold rowsV
      rw [List.getElem?_map, List.getElem?_eq_getElem pos]
      rfl
    rcases hx : m.stk.getLast? with _ | y
    · refine dT (by show (((m.stk.map V.int).length : Nat) : Int) < 2; rw [List.length_map, List.getLast?_eq_none_iff.mp hx]; decide) (iteT ?_)
      obtain ⟨d, g'⟩ := g.put 7 (f := "end") (v := .str "broken") A { m.next with en := "broken" } rfl rfl rfl rfl g.now g.sz
      refine ⟨_, rfl, S, _, rfl, d, ?_⟩
      have es : stp h w od m = { m.next with en := "broken" } := by unfold stp; rw [act_brk2 (m := m.next) hn (.inl hx)]
      rw [es] at k
      exact k A m.stk m.tk _ g' fun e => absurd (show ("broken" : Str) = "" from e) (by decide +kernel)
    rcases hx2 : m.stk.dropLast.getLast? with _ | x
    · refine dT (by show (((m.stk.map V.int).length : Nat) : Int) < 2; rw [List.length_map, last1 hx, List.getLast?_eq_none_iff.mp hx2]; show ((1 : Nat) : Int) < 2; decide) (iteT ?_)
      obtain ⟨d, g'⟩ := g.put 7 (f := "end") (v := .str "broken") A { m.next with en := "broken" } rfl rfl rfl rfl g.now g.sz
      refine ⟨_, rfl, S, _, rfl, d, ?_⟩
      have es : stp h w od m = { m.next with en := "broken" } := by unfold stp; rw [act_brk2 (m := m.next) hn (.inr hx2)]
      rw [es] at k
      exact k A m.stk m.tk _ g' fun e => absurd (show ("broken" : Str) = "" from e) (by decide +kernel)
    obtain ⟨s, hs⟩ : ∃ s, m.stk = s ++ [x, y] := ⟨_, (last1 hx).trans (by rw [last1 hx2, List.append_assoc]; rfl)⟩
    refine dF (by show ¬ (((m.stk.map V.int).length : Nat) : Int) < 2; rw [List.length_map, hs, List.length_append]; show ¬ (((s.length + 2 : Nat)) : Int) < 2; omega) ?_
    refine ⟨_, rfl, rfl, _, rfl, sF hl (iteF ?_)⟩
    refine ⟨_, rfl, _, rfl, by decide, by decide, fun D nD => ?_⟩
    have nB : B D = none := g.sm.free nD
    have nDD : D ≠ A.pl ∧ D ≠ A.sl ∧ D ≠ A.ln ∧ D ≠ A.sd := ⟨fun e => (by rw [e, g.pile] at nD; cases nD), fun e => (by rw [e, g.slots] at nD; cases nD), fun e => (by rw [e, g.lines] at nD; cases nD), fun e => (by rw [e, g.said] at nD; cases nD)⟩
    have hk : 2 ≤ m.stk.length := by rw [hs, List.length_append]; exact Nat.le_add_left 2 _
    refine lc_range (lo := 0) (n := ((2 : Nat) : Int).toNat) (fun i H' => LS K S B h w A { m.next with stk := m.stk.take (m.stk.length - i) } H' ∧ H' D = some (.lst ((m.stk.reverse.take i).map V.int)) ∧ i ≤ 2) ⟨?_, upd_same, Nat.zero_le _⟩ ?_ ?_
    · rw [Nat.sub_zero, List.take_length]
      exact g.same (same_new nD _)
    · rintro i H' hi ⟨gi, hD, hik⟩
      have hi : i < 2 := hi
      obtain ⟨x, p1, p2, p3⟩ := pop_at m.stk i (by omega)
      refine ⟨rfl, ?_⟩
      unfold tYes
      refine iteT ?_
      refine ⟨_, rfl, .inl ⟨rfl, _, SqL.of gi.pile⟩, A.pl, _, .int x, rfl, rfl, gi.pile, p1, ?_⟩
      have g4 := gi.setPile (m.stk.take (m.stk.length - (i + 1)))
      rw [← p2] at g4
      have hD4 : (upd H' A.pl (.lst ((m.stk.take (m.stk.length - i)).map V.int).dropLast)) D = some (.lst ((m.stk.reverse.take i).map V.int)) := by rw [upd_ne nDD.1]; exact hD
      refine ⟨_, hD4, ?_, g4.updD hD4 nDD nB _, ?_, hi⟩
      · rw [List.length_map, List.length_take]
        exact Nat.lt_of_le_of_lt (Nat.min_le_left _ _) (Nat.lt_of_lt_of_le hi (by decide))
      · rw [p3, List.map_append]
        exact upd_same
    rintro H' ⟨gi, hD, _⟩
    have gi : LS K S B h w A { m.next with stk := m.stk.take (m.stk.length - 2) } H' := gi
    have hD : H' D = some (.lst ((m.stk.reverse.take 2).map V.int)) := hD
    refine ⟨D, _, rfl, SqL.of hD, fun q nq => ?_⟩
    have g := gi.same (same_new nq (.lst ((m.stk.reverse.take 2).map V.int).reverse))
    have hq : (upd H' q (.lst ((m.stk.reverse.take 2).map V.int).reverse)) q = some (.lst ((m.stk.reverse.take 2).map V.int).reverse) := upd_same
    generalize upd H' q (.lst ((m.stk.reverse.take 2).map V.int).reverse) = H5 at g hq ⊢
    have eK : m.stk.take (m.stk.length - 2) = s := by rw [hs, List.length_append, show s.length + [x, y].length - 2 = s.length from rfl, List.take_left]
    have eT : ((m.stk.reverse.take 2).map V.int).reverse = [.int x, .int y] := by rw [hs, List.reverse_append]; rfl
    rw [eT] at hq
    have g : LS K S B h w A { m.next with stk := s } H5 := by
      have z := g
      rw [show ({ m.next with stk := m.stk.take (m.stk.length - 2) } : Ms) = { m.next with stk := s } by rw [eK]] at z
      exact z
    clear gi hD nD eK eT
    refine ⟨_, rfl, S, _, rfl, g.get 3 rfl rfl, A.nw, _, rfl, .inr g.now, _, rfl, S, _, rfl, g.get 3 rfl rfl, A.nw, _, _, _, rfl, rfl, g.now, e0, sOf l0, rfl, by rw [sOf_len, w0]; exact Nat.le_trans g.sz.w2 (by decide), _, _, rfl, ?_⟩
    rw [rowsV_len, sOf_len, g.sz.len, w0]
    refine normS (σ' := [some (.ref S), some (.ref t), some (.str od.w), some (.int od.n), some (.ref A.pl), some (.int 2), some (.ref q), none, some (.int (h : Int)), some (.int (w : Int)), none, none, none]) rfl ?_
    have hd : m.stk.dropLast.getLast? = some x := hx2
    have hd2 : m.stk.dropLast.dropLast = s := by
      rw [hs, show s ++ [x, y] = s ++ [x] ++ [y] by rw [List.append_assoc]; rfl, List.dropLast_concat, List.dropLast_concat]
    have hsl : s.length ≤ 1000 := by have z := okm.l1; rw [hs, List.length_append] at z; exact Nat.le_trans (Nat.le_add_right _ _) z
    have sx : Small x := okm.s1 x (by show x ∈ m.stk; rw [hs]; exact List.mem_append_right _ List.mem_cons_self)
    have sy : Small y := okm.s1 y (by show y ∈ m.stk; rw [hs]; exact List.mem_append_right _ (List.mem_cons_of_mem _ List.mem_cons_self))
    cases od with
    | black =>
      refine ⟨_, rfl, (by show 4 ≤ sizeLine; decide), fun p np => rIn_lit ["push", "load", "rows", "cols"] (SqT.of upd_same) ⟨_, rfl, ?_⟩⟩
      have g := g.same (same_new np (.tup [.str "push", .str "load", .str "rows", .str "cols"]))
      have hq := same_new np (.tup [.str "push", .str "load", .str "rows", .str "cols"]) _ _ hq
      generalize upd H5 p (.tup [.str "push", .str "load", .str "rows", .str "cols"]) = H6 at g hq ⊢
      refine dF (by show ("black" : Str) ∉ (["push", "load", "rows", "cols"] : List Str); decide +kernel) ?_
      refine ⟨_, rfl, rfl, _, rfl, sF (by show ("black" : Str) ≠ "copy"; decide +kernel) ?_⟩
      refine ⟨_, rfl, rfl, _, rfl, sF (by show ("black" : Str) ≠ "store"; decide +kernel) ?_⟩
      refine ⟨_, rfl, (by show 3 ≤ sizeLine; decide), fun p np => rIn_lit ["jump", "zero", "some"] (SqT.of upd_same) ⟨_, rfl, ?_⟩⟩
      have g := g.same (same_new np (.tup [.str "jump", .str "zero", .str "some"]))
      have hq := same_new np (.tup [.str "jump", .str "zero", .str "some"]) _ _ hq
      generalize upd H6 p (.tup [.str "jump", .str "zero", .str "some"]) = H7 at g hq ⊢
      refine dF (by show ("black" : Str) ∉ (["jump", "zero", "some"] : List Str); decide +kernel) ?_
      refine ⟨_, rfl, (by show 3 ≤ sizeLine; decide), fun p np => rIn_lit ["neg", "not", "truth"] (SqT.of upd_same) ⟨_, rfl, ?_⟩⟩
      have g := g.same (same_new np (.tup [.str "neg", .str "not", .str "truth"]))
      have hq := same_new np (.tup [.str "neg", .str "not", .str "truth"]) _ _ hq
      generalize upd H7 p (.tup [.str "neg", .str "not", .str "truth"]) = H8 at g hq ⊢
      refine dF (by show ("black" : Str) ∉ (["neg", "not", "truth"] : List Str); decide +kernel) ?_
      refine ⟨_, rfl, (by show 2 ≤ sizeLine; decide), fun p np => rIn_lit ["row", "col"] (SqT.of upd_same) ⟨_, rfl, ?_⟩⟩
      have g := g.same (same_new np (.tup [.str "row", .str "col"]))
      have hq := same_new np (.tup [.str "row", .str "col"]) _ _ hq
      generalize upd H8 p (.tup [.str "row", .str "col"]) = H9 at g hq ⊢
      refine dF (by show ("black" : Str) ∉ (["row", "col"] : List Str); decide +kernel) ?_
      refine ⟨_, rfl, rfl, _, rfl, sF (by show ("black" : Str) ≠ "say"; decide +kernel) ?_⟩
      refine ⟨_, rfl, rfl, _, rfl, sT rfl ?_⟩
      by_cases c1 : 1 ≤ x
      · by_cases c2 : x ≤ (h : Int)
        · by_cases c3 : 1 ≤ y
          · by_cases c4 : y ≤ (w : Int)
            · refine ⟨_, rfl, q, _, _, _, rfl, rfl, SqL.of hq, (atI_nat (j := 0) rfl), _, _, rfl, rfl, _, rfl, dT c1 ⟨_, rfl, _, _, rfl, rfl, _, rfl, dT c2 ⟨_, rfl, q, _, _, _, rfl, rfl, SqL.of hq, (atI_nat (j := 1) rfl), _, _, rfl, rfl, _, rfl, dT c3 ⟨_, rfl, _, _, rfl, rfl, _, rfl, dT c4 ?_⟩⟩⟩⟩
              obtain ⟨ri, er⟩ : ∃ ri : Nat, x - 1 = (ri : Int) := ⟨(x - 1).toNat, by omega⟩
              obtain ⟨ci, ec⟩ : ∃ ci : Nat, y - 1 = (ci : Int) := ⟨(y - 1).toNat, by omega⟩
              have sz : Sized h w m.pic := g.sz
              obtain ⟨l, hl'⟩ : ∃ l, m.pic[ri]? = some l := ⟨_, List.getElem?_eq_getElem (by rw [sz.len]; omega)⟩
              have ll : l.length = w := sz.row l (List.mem_of_getElem? hl')
              obtain ⟨ch, hch⟩ : ∃ ch, l[ci]? = some ch := ⟨_, List.getElem?_eq_getElem (by rw [ll]; omega)⟩
              have a1 : atI (rowsV m.pic) (x - 1) = some (.str (sOf l)) := by
                rw [er]
                refine atI_nat ?_
                unfold rowsV
                rw [List.getElem?_map, hl']
                rfl
              have a2 : atI (sOf l).cps.toList (y - 1) = some ch := by
                rw [ec]
                exact atI_nat hch
              have ev : cellP m.pic x y = if decide (V.str ⟨#[ch]⟩ = V.str "#") = true then (1 : Int) else 0 := by
                unfold cellP
                rw [er, ec, Int.toNat_natCast, Int.toNat_natCast, List.getD_eq_getElem?_getD, List.getD_eq_getElem?_getD, hl']
                show (if (l[ci]?).getD 0 = 35 then (1 : Int) else 0) = _
                rw [hch]
                show (if ch = 35 then (1 : Int) else 0) = _
                have d : decide (V.str ⟨#[ch]⟩ = V.str "#") = decide (ch = 35) := by
                  rw [Bool.eq_iff_iff, decide_eq_true_iff, decide_eq_true_iff, show ("#" : Str) = ⟨#[35]⟩ by decide +kernel]
                  constructor
                  · intro z
                    have z2 := V.str.inj z
                    injection z2 with z3
                    have z4 := congrArg Array.toList z3
                    injection z4
                  · intro z
                    rw [z]
                rw [d]
                by_cases q : ch = 35 <;> simp [q]
              have es : stp h w .black m = { m.next with stk := s ++ [if decide (V.str ⟨#[ch]⟩ = V.str "#") = true then (1 : Int) else 0] } := by
                rw [← ev]
                simp only [stp, act, Ms.next, hx, hd, hd2, if_pos (And.intro c1 (And.intro c2 (And.intro c3 c4)))]
              rw [es] at k
              exact ⟨_, rfl, .inl ⟨rfl, _, SqL.of g.pile⟩, _, rfl, S, _, rfl, g.get 3 rfl rfl, _, rfl, q, _, _, _, rfl, rfl, SqL.of hq, (atI_nat (j := 0) rfl), _, _, rfl, rfl, A.nw, _, _, _, rfl, rfl, g.now, a1, _, rfl, q, _, _, _, rfl, rfl, SqL.of hq, (atI_nat (j := 1) rfl), _, _, rfl, rfl, sOf l, _, ch, rfl, rfl, (by rw [sOf_len, ll]; exact Nat.le_trans sz.w2 (by decide)), a2, rfl, .inr ⟨_, rfl, A.pl, _, _, rfl, rfl, g.pile, (by rw [List.length_map]; exact Nat.lt_of_le_of_lt hsl (by decide)), k A _ _ _ (g.push _) fun _ => ⟨rfl, rfl⟩⟩⟩
            · refine ⟨_, rfl, q, _, _, _, rfl, rfl, SqL.of hq, (atI_nat (j := 0) rfl), _, _, rfl, rfl, _, rfl, dT c1 ⟨_, rfl, _, _, rfl, rfl, _, rfl, dT c2 ⟨_, rfl, q, _, _, _, rfl, rfl, SqL.of hq, (atI_nat (j := 1) rfl), _, _, rfl, rfl, _, rfl, dT c3 ⟨_, rfl, _, _, rfl, rfl, _, rfl, dF c4 ?_⟩⟩⟩⟩
              have es : stp h w .black m = { m.next with en := "range" } := by simp only [stp, act, Ms.next, hx, hd, hd2, if_neg (fun z : 1 ≤ x ∧ x ≤ (h : Int) ∧ 1 ≤ y ∧ y ≤ (w : Int) => c4 z.2.2.2)]
              rw [es] at k
              obtain ⟨d, g'⟩ := g.put 7 (f := "end") (v := .str "range") A { m.next with stk := s, en := "range" } rfl rfl rfl rfl g.now g.sz
              exact  ⟨_, rfl, S, _, rfl, d, k A s m.tk _ g' fun e => absurd (show ("range" : Str) = "" from e) (by decide +kernel)⟩
          · refine ⟨_, rfl, q, _, _, _, rfl, rfl, SqL.of hq, (atI_nat (j := 0) rfl), _, _, rfl, rfl, _, rfl, dT c1 ⟨_, rfl, _, _, rfl, rfl, _, rfl, dT c2 ⟨_, rfl, q, _, _, _, rfl, rfl, SqL.of hq, (atI_nat (j := 1) rfl), _, _, rfl, rfl, _, rfl, dF c3 ⟨_, rfl, iteF ?_⟩⟩⟩⟩
            have es : stp h w .black m = { m.next with en := "range" } := by simp only [stp, act, Ms.next, hx, hd, hd2, if_neg (fun z : 1 ≤ x ∧ x ≤ (h : Int) ∧ 1 ≤ y ∧ y ≤ (w : Int) => c3 z.2.2.1)]
            rw [es] at k
            obtain ⟨d, g'⟩ := g.put 7 (f := "end") (v := .str "range") A { m.next with stk := s, en := "range" } rfl rfl rfl rfl g.now g.sz
            exact  ⟨_, rfl, S, _, rfl, d, k A s m.tk _ g' fun e => absurd (show ("range" : Str) = "" from e) (by decide +kernel)⟩
        · refine ⟨_, rfl, q, _, _, _, rfl, rfl, SqL.of hq, (atI_nat (j := 0) rfl), _, _, rfl, rfl, _, rfl, dT c1 ⟨_, rfl, _, _, rfl, rfl, _, rfl, dF c2 (iteF ?_)⟩⟩
          have es : stp h w .black m = { m.next with en := "range" } := by simp only [stp, act, Ms.next, hx, hd, hd2, if_neg (fun z : 1 ≤ x ∧ x ≤ (h : Int) ∧ 1 ≤ y ∧ y ≤ (w : Int) => c2 z.2.1)]
          rw [es] at k
          obtain ⟨d, g'⟩ := g.put 7 (f := "end") (v := .str "range") A { m.next with stk := s, en := "range" } rfl rfl rfl rfl g.now g.sz
          exact  ⟨_, rfl, S, _, rfl, d, k A s m.tk _ g' fun e => absurd (show ("range" : Str) = "" from e) (by decide +kernel)⟩
      · refine ⟨_, rfl, q, _, _, _, rfl, rfl, SqL.of hq, (atI_nat (j := 0) rfl), _, _, rfl, rfl, _, rfl, dF c1 ⟨_, rfl, iteF ?_⟩⟩
        have es : stp h w .black m = { m.next with en := "range" } := by simp only [stp, act, Ms.next, hx, hd, hd2, if_neg (fun z : 1 ≤ x ∧ x ≤ (h : Int) ∧ 1 ≤ y ∧ y ≤ (w : Int) => c1 z.1)]
        rw [es] at k
        obtain ⟨d, g'⟩ := g.put 7 (f := "end") (v := .str "range") A { m.next with stk := s, en := "range" } rfl rfl rfl rfl g.now g.sz
        exact  ⟨_, rfl, S, _, rfl, d, k A s m.tk _ g' fun e => absurd (show ("range" : Str) = "" from e) (by decide +kernel)⟩
    | two o =>
      refine ⟨_, rfl, (by show 4 ≤ sizeLine; decide), fun p np => rIn_lit ["push", "load", "rows", "cols"] (SqT.of upd_same) ⟨_, rfl, ?_⟩⟩
      have g := g.same (same_new np (.tup [.str "push", .str "load", .str "rows", .str "cols"]))
      have hq := same_new np (.tup [.str "push", .str "load", .str "rows", .str "cols"]) _ _ hq
      generalize upd H5 p (.tup [.str "push", .str "load", .str "rows", .str "cols"]) = H6 at g hq ⊢
      refine dF (show (Od.two o).w ∉ (["push", "load", "rows", "cols"] : List Str) by cases o <;> decide +kernel) ?_
      refine ⟨_, rfl, rfl, _, rfl, sF (show (Od.two o).w ≠ "copy" by cases o <;> decide +kernel) ?_⟩
      refine ⟨_, rfl, rfl, _, rfl, sF (show (Od.two o).w ≠ "store" by cases o <;> decide +kernel) ?_⟩
      refine ⟨_, rfl, (by show 3 ≤ sizeLine; decide), fun p np => rIn_lit ["jump", "zero", "some"] (SqT.of upd_same) ⟨_, rfl, ?_⟩⟩
      have g := g.same (same_new np (.tup [.str "jump", .str "zero", .str "some"]))
      have hq := same_new np (.tup [.str "jump", .str "zero", .str "some"]) _ _ hq
      generalize upd H6 p (.tup [.str "jump", .str "zero", .str "some"]) = H7 at g hq ⊢
      refine dF (show (Od.two o).w ∉ (["jump", "zero", "some"] : List Str) by cases o <;> decide +kernel) ?_
      refine ⟨_, rfl, (by show 3 ≤ sizeLine; decide), fun p np => rIn_lit ["neg", "not", "truth"] (SqT.of upd_same) ⟨_, rfl, ?_⟩⟩
      have g := g.same (same_new np (.tup [.str "neg", .str "not", .str "truth"]))
      have hq := same_new np (.tup [.str "neg", .str "not", .str "truth"]) _ _ hq
      generalize upd H7 p (.tup [.str "neg", .str "not", .str "truth"]) = H8 at g hq ⊢
      refine dF (show (Od.two o).w ∉ (["neg", "not", "truth"] : List Str) by cases o <;> decide +kernel) ?_
      refine ⟨_, rfl, (by show 2 ≤ sizeLine; decide), fun p np => rIn_lit ["row", "col"] (SqT.of upd_same) ⟨_, rfl, ?_⟩⟩
      have g := g.same (same_new np (.tup [.str "row", .str "col"]))
      have hq := same_new np (.tup [.str "row", .str "col"]) _ _ hq
      generalize upd H8 p (.tup [.str "row", .str "col"]) = H9 at g hq ⊢
      refine dF (show (Od.two o).w ∉ (["row", "col"] : List Str) by cases o <;> decide +kernel) ?_
      refine ⟨_, rfl, rfl, _, rfl, sF (show (Od.two o).w ≠ "say" by cases o <;> decide +kernel) ?_⟩
      refine ⟨_, rfl, rfl, _, rfl, sF (show (Od.two o).w ≠ "black" by cases o <;> decide +kernel) ?_⟩
      refine ⟨_, rfl, (by show 2 ≤ sizeLine; decide), fun p np => rIn_lit ["tick", "done"] (SqT.of upd_same) ⟨_, rfl, ?_⟩⟩
      have g := g.same (same_new np (.tup [.str "tick", .str "done"]))
      have hq := same_new np (.tup [.str "tick", .str "done"]) _ _ hq
      generalize upd H9 p (.tup [.str "tick", .str "done"]) = H10 at g hq ⊢
      refine dF (show (Od.two o).w ∉ (["tick", "done"] : List Str) by cases o <;> decide +kernel) ?_
      refine ⟨_, rfl, q, _, rfl, SqL.of hq, rfl, _, _, rfl, _, _, rfl, rfl, ?_⟩
      refine normS (σ' := [some (.ref S), some (.int x), some (.str (Od.two o).w), some (.int (Od.two o).n), some (.ref A.pl), some (.int 2), some (.ref q), none, some (.int (h : Int)), some (.int (w : Int)), some (.int y), none, none]) rfl ?_
      refine fun p np => ?_
      have hM : ∀ vs5 : List V, vs5.length = 5 → mergeK [] ((tbK.map skS).zip vs5) = (tbK.map skS).zip vs5 := fun vs5 l5 => by
        rw [mergeK_nd _ [] (by rw [List.nil_append, List.map_fst_zip (by rw [List.length_map, l5]; decide)]; decide +kernel)]
        rfl
      have cm : CMul x y := .inl ⟨Int.lt_of_lt_of_le (by decide) sx.1, Int.lt_of_le_of_lt sx.2 (by decide)⟩
      refine ⟨_, rfl, _, rfl, _, _, rfl, rfl, _, rfl, _, rfl, _, _, rfl, rfl, _, rfl, _, rfl, _, _, rfl, rfl, cm, _, rfl, _, rfl, _, _, rfl, rfl, .inr ⟨_, rfl, _, rfl, _, rfl, _, _, rfl, rfl, .inr ⟨_, rfl, upd_same, (tbK.map skS).zip [V.int (x + y), V.int (x - y), V.int (x * y), V.int ((if decide (x < y) = true then (1 : Int) else 0)), V.int ((if decide (x ≤ y) = true then (1 : Int) else 0))], rfl, (by show 5 ≤ 15; decide), ?_⟩⟩⟩
      have s8 : Same H10 (upd (upd H10 p (.dK [])) p (.dK (mergeK [] ((tbK.map skS).zip [V.int (x + y), V.int (x - y), V.int (x * y), V.int ((if decide (x < y) = true then (1 : Int) else 0)), V.int ((if decide (x ≤ y) = true then (1 : Int) else 0))])))) := fun x u h => by rw [upd_ne (ne_of_none h np), upd_ne (ne_of_none h np)]; exact h
      have g := g.same s8
      have hdt : (upd (upd H10 p (.dK [])) p (.dK (mergeK [] ((tbK.map skS).zip [V.int (x + y), V.int (x - y), V.int (x * y), V.int ((if decide (x < y) = true then (1 : Int) else 0)), V.int ((if decide (x ≤ y) = true then (1 : Int) else 0))])))) p = some (.dK ((tbK.map skS).zip [V.int (x + y), V.int (x - y), V.int (x * y), V.int ((if decide (x < y) = true then (1 : Int) else 0)), V.int ((if decide (x ≤ y) = true then (1 : Int) else 0))])) := by rw [hM [V.int (x + y), V.int (x - y), V.int (x * y), V.int ((if decide (x < y) = true then (1 : Int) else 0)), V.int ((if decide (x ≤ y) = true then (1 : Int) else 0))] rfl]; exact upd_same
      generalize upd (upd H10 p (.dK [])) p (.dK (mergeK [] ((tbK.map skS).zip [V.int (x + y), V.int (x - y), V.int (x * y), V.int ((if decide (x < y) = true then (1 : Int) else 0)), V.int ((if decide (x ≤ y) = true then (1 : Int) else 0))]))) = H11 at g hdt ⊢
      have cp : CPow 10 9 := ⟨by decide, by decide, by decide⟩
      cases o with
      | add =>
        have dg : DGet H11 p (.str "add") (some (.int (x + y))) := by
          have z := DGet.k (k := skS "add") hdt
          rw [(valV_zip "add" tbK [V.int (x + y), V.int (x - y), V.int (x * y), V.int ((if decide (x < y) = true then (1 : Int) else 0)), V.int ((if decide (x ≤ y) = true then (1 : Int) else 0))] 0 rfl (by decide +kernel) rfl : valV ((tbK.map skS).zip [V.int (x + y), V.int (x - y), V.int (x * y), V.int ((if decide (x < y) = true then (1 : Int) else 0)), V.int ((if decide (x ≤ y) = true then (1 : Int) else 0))]) (skS "add") = some (.int (x + y)))] at z
          exact z
        have eb : (x + y) = O2.v .add x y := rfl
        refine ⟨_, rfl, _, rfl, p, _, rfl, dg, _, rfl, iteT ⟨_, rfl, _, rfl, p, _, rfl, dg, ?_⟩⟩
        by_cases c : Small (x + y)
        · have es : stp h w (.two .add) m = { m.next with stk := s ++ [(x + y)] } := by
            rw [eb] at c ⊢
            simp only [stp, act, Ms.next, hx, hd, hd2, if_pos c]
          rw [es] at k
          exact ⟨_, rfl, (x + y), rfl, _, _, rfl, rfl, cp, _, _, rfl, rfl, _, rfl, dF (fun z => (abs_gt _).mp z c) ⟨_, rfl, .inl ⟨rfl, _, SqL.of g.pile⟩, _, rfl, A.pl, _, _, rfl, rfl, g.pile, (by rw [List.length_map]; exact Nat.lt_of_le_of_lt hsl (by decide)), k A _ _ _ (g.push _) fun _ => ⟨rfl, rfl⟩⟩⟩
        · have es : stp h w (.two .add) m = { m.next with en := "number" } := by
            rw [eb] at c
            simp only [stp, act, Ms.next, hx, hd, hd2, if_neg c]
          rw [es] at k
          obtain ⟨d, g'⟩ := g.put 7 (f := "end") (v := .str "number") A { m.next with stk := s, en := "number" } rfl rfl rfl rfl g.now g.sz
          exact ⟨_, rfl, (x + y), rfl, _, _, rfl, rfl, cp, _, _, rfl, rfl, _, rfl, dT ((abs_gt _).mpr c) ⟨_, rfl, S, _, rfl, d, _, rfl, .inl ⟨rfl, _, SqL.of g'.pile⟩, _, rfl, A.pl, _, _, rfl, rfl, g'.pile, (by rw [List.length_map]; exact Nat.lt_of_le_of_lt hsl (by decide)), k A _ _ _ (g'.push _) fun e => absurd (show ("number" : Str) = "" from e) (by decide +kernel)⟩⟩
      | sub =>
        have dg : DGet H11 p (.str "sub") (some (.int (x - y))) := by
          have z := DGet.k (k := skS "sub") hdt
          rw [(valV_zip "sub" tbK [V.int (x + y), V.int (x - y), V.int (x * y), V.int ((if decide (x < y) = true then (1 : Int) else 0)), V.int ((if decide (x ≤ y) = true then (1 : Int) else 0))] 1 rfl (by decide +kernel) rfl : valV ((tbK.map skS).zip [V.int (x + y), V.int (x - y), V.int (x * y), V.int ((if decide (x < y) = true then (1 : Int) else 0)), V.int ((if decide (x ≤ y) = true then (1 : Int) else 0))]) (skS "sub") = some (.int (x - y)))] at z
          exact z
        have eb : (x - y) = O2.v .sub x y := rfl
        refine ⟨_, rfl, _, rfl, p, _, rfl, dg, _, rfl, iteT ⟨_, rfl, _, rfl, p, _, rfl, dg, ?_⟩⟩
        by_cases c : Small (x - y)
        · have es : stp h w (.two .sub) m = { m.next with stk := s ++ [(x - y)] } := by
            rw [eb] at c ⊢
            simp only [stp, act, Ms.next, hx, hd, hd2, if_pos c]
          rw [es] at k
          exact ⟨_, rfl, (x - y), rfl, _, _, rfl, rfl, cp, _, _, rfl, rfl, _, rfl, dF (fun z => (abs_gt _).mp z c) ⟨_, rfl, .inl ⟨rfl, _, SqL.of g.pile⟩, _, rfl, A.pl, _, _, rfl, rfl, g.pile, (by rw [List.length_map]; exact Nat.lt_of_le_of_lt hsl (by decide)), k A _ _ _ (g.push _) fun _ => ⟨rfl, rfl⟩⟩⟩
        · have es : stp h w (.two .sub) m = { m.next with en := "number" } := by
            rw [eb] at c
            simp only [stp, act, Ms.next, hx, hd, hd2, if_neg c]
          rw [es] at k
          obtain ⟨d, g'⟩ := g.put 7 (f := "end") (v := .str "number") A { m.next with stk := s, en := "number" } rfl rfl rfl rfl g.now g.sz
          exact ⟨_, rfl, (x - y), rfl, _, _, rfl, rfl, cp, _, _, rfl, rfl, _, rfl, dT ((abs_gt _).mpr c) ⟨_, rfl, S, _, rfl, d, _, rfl, .inl ⟨rfl, _, SqL.of g'.pile⟩, _, rfl, A.pl, _, _, rfl, rfl, g'.pile, (by rw [List.length_map]; exact Nat.lt_of_le_of_lt hsl (by decide)), k A _ _ _ (g'.push _) fun e => absurd (show ("number" : Str) = "" from e) (by decide +kernel)⟩⟩
      | mul =>
        have dg : DGet H11 p (.str "mul") (some (.int (x * y))) := by
          have z := DGet.k (k := skS "mul") hdt
          rw [(valV_zip "mul" tbK [V.int (x + y), V.int (x - y), V.int (x * y), V.int ((if decide (x < y) = true then (1 : Int) else 0)), V.int ((if decide (x ≤ y) = true then (1 : Int) else 0))] 2 rfl (by decide +kernel) rfl : valV ((tbK.map skS).zip [V.int (x + y), V.int (x - y), V.int (x * y), V.int ((if decide (x < y) = true then (1 : Int) else 0)), V.int ((if decide (x ≤ y) = true then (1 : Int) else 0))]) (skS "mul") = some (.int (x * y)))] at z
          exact z
        have eb : (x * y) = O2.v .mul x y := rfl
        refine ⟨_, rfl, _, rfl, p, _, rfl, dg, _, rfl, iteT ⟨_, rfl, _, rfl, p, _, rfl, dg, ?_⟩⟩
        by_cases c : Small (x * y)
        · have es : stp h w (.two .mul) m = { m.next with stk := s ++ [(x * y)] } := by
            rw [eb] at c ⊢
            simp only [stp, act, Ms.next, hx, hd, hd2, if_pos c]
          rw [es] at k
          exact ⟨_, rfl, (x * y), rfl, _, _, rfl, rfl, cp, _, _, rfl, rfl, _, rfl, dF (fun z => (abs_gt _).mp z c) ⟨_, rfl, .inl ⟨rfl, _, SqL.of g.pile⟩, _, rfl, A.pl, _, _, rfl, rfl, g.pile, (by rw [List.length_map]; exact Nat.lt_of_le_of_lt hsl (by decide)), k A _ _ _ (g.push _) fun _ => ⟨rfl, rfl⟩⟩⟩
        · have es : stp h w (.two .mul) m = { m.next with en := "number" } := by
            rw [eb] at c
            simp only [stp, act, Ms.next, hx, hd, hd2, if_neg c]
          rw [es] at k
          obtain ⟨d, g'⟩ := g.put 7 (f := "end") (v := .str "number") A { m.next with stk := s, en := "number" } rfl rfl rfl rfl g.now g.sz
          exact ⟨_, rfl, (x * y), rfl, _, _, rfl, rfl, cp, _, _, rfl, rfl, _, rfl, dT ((abs_gt _).mpr c) ⟨_, rfl, S, _, rfl, d, _, rfl, .inl ⟨rfl, _, SqL.of g'.pile⟩, _, rfl, A.pl, _, _, rfl, rfl, g'.pile, (by rw [List.length_map]; exact Nat.lt_of_le_of_lt hsl (by decide)), k A _ _ _ (g'.push _) fun e => absurd (show ("number" : Str) = "" from e) (by decide +kernel)⟩⟩
      | lt =>
        have dg : DGet H11 p (.str "lt") (some (.int ((if decide (x < y) = true then (1 : Int) else 0)))) := by
          have z := DGet.k (k := skS "lt") hdt
          rw [(valV_zip "lt" tbK [V.int (x + y), V.int (x - y), V.int (x * y), V.int ((if decide (x < y) = true then (1 : Int) else 0)), V.int ((if decide (x ≤ y) = true then (1 : Int) else 0))] 3 rfl (by decide +kernel) rfl : valV ((tbK.map skS).zip [V.int (x + y), V.int (x - y), V.int (x * y), V.int ((if decide (x < y) = true then (1 : Int) else 0)), V.int ((if decide (x ≤ y) = true then (1 : Int) else 0))]) (skS "lt") = some (.int ((if decide (x < y) = true then (1 : Int) else 0))))] at z
          exact z
        have eb : ((if decide (x < y) = true then (1 : Int) else 0)) = O2.v .lt x y := bit_of Iff.rfl
        refine ⟨_, rfl, _, rfl, p, _, rfl, dg, _, rfl, iteT ⟨_, rfl, _, rfl, p, _, rfl, dg, ?_⟩⟩
        by_cases c : Small ((if decide (x < y) = true then (1 : Int) else 0))
        · have es : stp h w (.two .lt) m = { m.next with stk := s ++ [((if decide (x < y) = true then (1 : Int) else 0))] } := by
            rw [eb] at c ⊢
            simp only [stp, act, Ms.next, hx, hd, hd2, if_pos c]
          rw [es] at k
          exact ⟨_, rfl, ((if decide (x < y) = true then (1 : Int) else 0)), rfl, _, _, rfl, rfl, cp, _, _, rfl, rfl, _, rfl, dF (fun z => (abs_gt _).mp z c) ⟨_, rfl, .inl ⟨rfl, _, SqL.of g.pile⟩, _, rfl, A.pl, _, _, rfl, rfl, g.pile, (by rw [List.length_map]; exact Nat.lt_of_le_of_lt hsl (by decide)), k A _ _ _ (g.push _) fun _ => ⟨rfl, rfl⟩⟩⟩
        · have es : stp h w (.two .lt) m = { m.next with en := "number" } := by
            rw [eb] at c
            simp only [stp, act, Ms.next, hx, hd, hd2, if_neg c]
          rw [es] at k
          obtain ⟨d, g'⟩ := g.put 7 (f := "end") (v := .str "number") A { m.next with stk := s, en := "number" } rfl rfl rfl rfl g.now g.sz
          exact ⟨_, rfl, ((if decide (x < y) = true then (1 : Int) else 0)), rfl, _, _, rfl, rfl, cp, _, _, rfl, rfl, _, rfl, dT ((abs_gt _).mpr c) ⟨_, rfl, S, _, rfl, d, _, rfl, .inl ⟨rfl, _, SqL.of g'.pile⟩, _, rfl, A.pl, _, _, rfl, rfl, g'.pile, (by rw [List.length_map]; exact Nat.lt_of_le_of_lt hsl (by decide)), k A _ _ _ (g'.push _) fun e => absurd (show ("number" : Str) = "" from e) (by decide +kernel)⟩⟩
      | le =>
        have dg : DGet H11 p (.str "le") (some (.int ((if decide (x ≤ y) = true then (1 : Int) else 0)))) := by
          have z := DGet.k (k := skS "le") hdt
          rw [(valV_zip "le" tbK [V.int (x + y), V.int (x - y), V.int (x * y), V.int ((if decide (x < y) = true then (1 : Int) else 0)), V.int ((if decide (x ≤ y) = true then (1 : Int) else 0))] 4 rfl (by decide +kernel) rfl : valV ((tbK.map skS).zip [V.int (x + y), V.int (x - y), V.int (x * y), V.int ((if decide (x < y) = true then (1 : Int) else 0)), V.int ((if decide (x ≤ y) = true then (1 : Int) else 0))]) (skS "le") = some (.int ((if decide (x ≤ y) = true then (1 : Int) else 0))))] at z
          exact z
        have eb : ((if decide (x ≤ y) = true then (1 : Int) else 0)) = O2.v .le x y := bit_of Iff.rfl
        refine ⟨_, rfl, _, rfl, p, _, rfl, dg, _, rfl, iteT ⟨_, rfl, _, rfl, p, _, rfl, dg, ?_⟩⟩
        by_cases c : Small ((if decide (x ≤ y) = true then (1 : Int) else 0))
        · have es : stp h w (.two .le) m = { m.next with stk := s ++ [((if decide (x ≤ y) = true then (1 : Int) else 0))] } := by
            rw [eb] at c ⊢
            simp only [stp, act, Ms.next, hx, hd, hd2, if_pos c]
          rw [es] at k
          exact ⟨_, rfl, ((if decide (x ≤ y) = true then (1 : Int) else 0)), rfl, _, _, rfl, rfl, cp, _, _, rfl, rfl, _, rfl, dF (fun z => (abs_gt _).mp z c) ⟨_, rfl, .inl ⟨rfl, _, SqL.of g.pile⟩, _, rfl, A.pl, _, _, rfl, rfl, g.pile, (by rw [List.length_map]; exact Nat.lt_of_le_of_lt hsl (by decide)), k A _ _ _ (g.push _) fun _ => ⟨rfl, rfl⟩⟩⟩
        · have es : stp h w (.two .le) m = { m.next with en := "number" } := by
            rw [eb] at c
            simp only [stp, act, Ms.next, hx, hd, hd2, if_neg c]
          rw [es] at k
          obtain ⟨d, g'⟩ := g.put 7 (f := "end") (v := .str "number") A { m.next with stk := s, en := "number" } rfl rfl rfl rfl g.now g.sz
          exact ⟨_, rfl, ((if decide (x ≤ y) = true then (1 : Int) else 0)), rfl, _, _, rfl, rfl, cp, _, _, rfl, rfl, _, rfl, dT ((abs_gt _).mpr c) ⟨_, rfl, S, _, rfl, d, _, rfl, .inl ⟨rfl, _, SqL.of g'.pile⟩, _, rfl, A.pl, _, _, rfl, rfl, g'.pile, (by rw [List.length_map]; exact Nat.lt_of_le_of_lt hsl (by decide)), k A _ _ _ (g'.push _) fun e => absurd (show ("number" : Str) = "" from e) (by decide +kernel)⟩⟩
      | eq =>
        have dg : DGet H11 p (.str "eq") none := by
          have z := DGet.k (k := skS "eq") hdt
          rw [valV_none (by rw [List.map_fst_zip (by rw [List.length_map]; exact Nat.le_refl _)]; exact skN (by decide +kernel))] at z
          exact z
        have eb : (if decide (V.bl (decide (V.int x = V.int y)) = V.bl (decide (V.str "eq" = V.str "eq"))) = true then (1 : Int) else 0) = O2.v .eq x y := bit_of (bqT2 x y rfl)
        refine ⟨_, rfl, _, rfl, p, _, rfl, dg, _, rfl, iteF ⟨_, rfl, _, rfl, rfl, _, rfl, rfl, rfl, .inr ⟨_, rfl, ?_⟩⟩⟩
        by_cases c : Small (if decide (V.bl (decide (V.int x = V.int y)) = V.bl (decide (V.str "eq" = V.str "eq"))) = true then (1 : Int) else 0)
        · have es : stp h w (.two .eq) m = { m.next with stk := s ++ [(if decide (V.bl (decide (V.int x = V.int y)) = V.bl (decide (V.str "eq" = V.str "eq"))) = true then (1 : Int) else 0)] } := by
            rw [eb] at c ⊢
            simp only [stp, act, Ms.next, hx, hd, hd2, if_pos c]
          rw [es] at k
          exact ⟨_, rfl, (if decide (V.bl (decide (V.int x = V.int y)) = V.bl (decide (V.str "eq" = V.str "eq"))) = true then (1 : Int) else 0), rfl, _, _, rfl, rfl, cp, _, _, rfl, rfl, _, rfl, dF (fun z => (abs_gt _).mp z c) ⟨_, rfl, .inl ⟨rfl, _, SqL.of g.pile⟩, _, rfl, A.pl, _, _, rfl, rfl, g.pile, (by rw [List.length_map]; exact Nat.lt_of_le_of_lt hsl (by decide)), k A _ _ _ (g.push _) fun _ => ⟨rfl, rfl⟩⟩⟩
        · have es : stp h w (.two .eq) m = { m.next with en := "number" } := by
            rw [eb] at c
            simp only [stp, act, Ms.next, hx, hd, hd2, if_neg c]
          rw [es] at k
          obtain ⟨d, g'⟩ := g.put 7 (f := "end") (v := .str "number") A { m.next with stk := s, en := "number" } rfl rfl rfl rfl g.now g.sz
          exact ⟨_, rfl, (if decide (V.bl (decide (V.int x = V.int y)) = V.bl (decide (V.str "eq" = V.str "eq"))) = true then (1 : Int) else 0), rfl, _, _, rfl, rfl, cp, _, _, rfl, rfl, _, rfl, dT ((abs_gt _).mpr c) ⟨_, rfl, S, _, rfl, d, _, rfl, .inl ⟨rfl, _, SqL.of g'.pile⟩, _, rfl, A.pl, _, _, rfl, rfl, g'.pile, (by rw [List.length_map]; exact Nat.lt_of_le_of_lt hsl (by decide)), k A _ _ _ (g'.push _) fun e => absurd (show ("number" : Str) = "" from e) (by decide +kernel)⟩⟩
      | ne =>
        have dg : DGet H11 p (.str "ne") none := by
          have z := DGet.k (k := skS "ne") hdt
          rw [valV_none (by rw [List.map_fst_zip (by rw [List.length_map]; exact Nat.le_refl _)]; exact skN (by decide +kernel))] at z
          exact z
        have eb : (if decide (V.bl (decide (V.int x = V.int y)) = V.bl (decide (V.str "ne" = V.str "eq"))) = true then (1 : Int) else 0) = O2.v .ne x y := bit_of (bqF2 x y (by show ("ne" : Str) ≠ "eq"; decide +kernel))
        refine ⟨_, rfl, _, rfl, p, _, rfl, dg, _, rfl, iteF ⟨_, rfl, _, rfl, rfl, _, rfl, rfl, rfl, .inr ⟨_, rfl, ?_⟩⟩⟩
        by_cases c : Small (if decide (V.bl (decide (V.int x = V.int y)) = V.bl (decide (V.str "ne" = V.str "eq"))) = true then (1 : Int) else 0)
        · have es : stp h w (.two .ne) m = { m.next with stk := s ++ [(if decide (V.bl (decide (V.int x = V.int y)) = V.bl (decide (V.str "ne" = V.str "eq"))) = true then (1 : Int) else 0)] } := by
            rw [eb] at c ⊢
            simp only [stp, act, Ms.next, hx, hd, hd2, if_pos c]
          rw [es] at k
          exact ⟨_, rfl, (if decide (V.bl (decide (V.int x = V.int y)) = V.bl (decide (V.str "ne" = V.str "eq"))) = true then (1 : Int) else 0), rfl, _, _, rfl, rfl, cp, _, _, rfl, rfl, _, rfl, dF (fun z => (abs_gt _).mp z c) ⟨_, rfl, .inl ⟨rfl, _, SqL.of g.pile⟩, _, rfl, A.pl, _, _, rfl, rfl, g.pile, (by rw [List.length_map]; exact Nat.lt_of_le_of_lt hsl (by decide)), k A _ _ _ (g.push _) fun _ => ⟨rfl, rfl⟩⟩⟩
        · have es : stp h w (.two .ne) m = { m.next with en := "number" } := by
            rw [eb] at c
            simp only [stp, act, Ms.next, hx, hd, hd2, if_neg c]
          rw [es] at k
          obtain ⟨d, g'⟩ := g.put 7 (f := "end") (v := .str "number") A { m.next with stk := s, en := "number" } rfl rfl rfl rfl g.now g.sz
          exact ⟨_, rfl, (if decide (V.bl (decide (V.int x = V.int y)) = V.bl (decide (V.str "ne" = V.str "eq"))) = true then (1 : Int) else 0), rfl, _, _, rfl, rfl, cp, _, _, rfl, rfl, _, rfl, dT ((abs_gt _).mpr c) ⟨_, rfl, S, _, rfl, d, _, rfl, .inl ⟨rfl, _, SqL.of g'.pile⟩, _, rfl, A.pl, _, _, rfl, rfl, g'.pile, (by rw [List.length_map]; exact Nat.lt_of_le_of_lt hsl (by decide)), k A _ _ _ (g'.push _) fun e => absurd (show ("number" : Str) = "" from e) (by decide +kernel)⟩⟩
    | _ => cases hn

  · refine ⟨_, rfl, (by show 10 ≤ sizeLine; decide), fun p np => rIn_lit lo1 (SqT.of upd_same) ⟨_, rfl, ?_⟩⟩
    have g := g.same (same_new np (.tup [.str "copy", .str "neg", .str "not", .str "truth", .str "row", .str "col", .str "say", .str "zero", .str "some", .str "store"]))
    generalize upd H3 p (.tup [.str "copy", .str "neg", .str "not", .str "truth", .str "row", .str "col", .str "say", .str "zero", .str "some", .str "store"]) = H4 at g ⊢
    refine dF h1 ?_
    refine ⟨_, rfl, (by show 8 ≤ sizeLine; decide), fun p np => rIn_lit lo2 (SqT.of upd_same) ⟨_, rfl, ?_⟩⟩
    have g := g.same (same_new np (.tup [.str "add", .str "sub", .str "mul", .str "lt", .str "le", .str "eq", .str "ne", .str "black"]))
    generalize upd H4 p (.tup [.str "add", .str "sub", .str "mul", .str "lt", .str "le", .str "eq", .str "ne", .str "black"]) = H5 at g ⊢
    refine dF h2 ?_
    refine ⟨_, rfl, ?_⟩
    refine ⟨_, rfl, A.pl, _, rfl, .inl (SqL.of g.pile), _, rfl, _, _, rfl, rfl, _, rfl, ?_⟩
    obtain ⟨l0, e0, w0⟩ : ∃ l0, atI (rowsV m.pic) 0 = some (.str (sOf l0)) ∧ l0.length = w := by
      have sz : Sized h w m.pic := g.sz
      have pos : 0 < m.pic.length := by rw [sz.len]; exact sz.h1
      refine ⟨m.pic[0], atI_nat (j := 0) ?_, sz.row _ (List.getElem_mem pos)⟩
      unfold rowsV
      rw [List.getElem?_map, List.getElem?_eq_getElem pos]
      rfl
    refine dF (by show ¬ (((m.stk.map V.int).length : Nat) : Int) < 0; omega) ?_
    cases od with
    | push n =>
      refine ⟨_, rfl, rfl, _, rfl, sF (by show ("push" : Str) ≠ "load"; decide +kernel) ?_⟩
      refine iteF ?_
      refine ⟨_, rfl, _, rfl, by decide, by decide, fun D nD => ?_⟩
      have nB : B D = none := g.sm.free nD
      have nDD : D ≠ A.pl ∧ D ≠ A.sl ∧ D ≠ A.ln ∧ D ≠ A.sd := ⟨fun e => (by rw [e, g.pile] at nD; cases nD), fun e => (by rw [e, g.slots] at nD; cases nD), fun e => (by rw [e, g.lines] at nD; cases nD), fun e => (by rw [e, g.said] at nD; cases nD)⟩
      have hk : 0 ≤ m.stk.length := by omega
      refine lc_range (lo := 0) (n := ((0 : Nat) : Int).toNat) (fun i H' => LS K S B h w A { m.next with stk := m.stk.take (m.stk.length - i) } H' ∧ H' D = some (.lst ((m.stk.reverse.take i).map V.int)) ∧ i ≤ 0) ⟨?_, upd_same, Nat.zero_le _⟩ ?_ ?_
      · rw [Nat.sub_zero, List.take_length]
        exact g.same (same_new nD _)
      · rintro i H' hi ⟨gi, hD, hik⟩
        have hi : i < 0 := hi
        obtain ⟨x, p1, p2, p3⟩ := pop_at m.stk i (by omega)
        refine ⟨rfl, ?_⟩
        unfold tYes
        refine iteT ?_
        refine ⟨_, rfl, .inl ⟨rfl, _, SqL.of gi.pile⟩, A.pl, _, .int x, rfl, rfl, gi.pile, p1, ?_⟩
        have g4 := gi.setPile (m.stk.take (m.stk.length - (i + 1)))
        rw [← p2] at g4
        have hD4 : (upd H' A.pl (.lst ((m.stk.take (m.stk.length - i)).map V.int).dropLast)) D = some (.lst ((m.stk.reverse.take i).map V.int)) := by rw [upd_ne nDD.1]; exact hD
        refine ⟨_, hD4, ?_, g4.updD hD4 nDD nB _, ?_, hi⟩
        · rw [List.length_map, List.length_take]
          exact Nat.lt_of_le_of_lt (Nat.min_le_left _ _) (Nat.lt_of_lt_of_le hi (by decide))
        · rw [p3, List.map_append]
          exact upd_same
      rintro H' ⟨gi, hD, _⟩
      have gi : LS K S B h w A { m.next with stk := m.stk.take (m.stk.length - 0) } H' := gi
      have hD : H' D = some (.lst ((m.stk.reverse.take 0).map V.int)) := hD
      refine ⟨D, _, rfl, SqL.of hD, fun q nq => ?_⟩
      have g := gi.same (same_new nq (.lst ((m.stk.reverse.take 0).map V.int).reverse))
      have hq : (upd H' q (.lst ((m.stk.reverse.take 0).map V.int).reverse)) q = some (.lst ((m.stk.reverse.take 0).map V.int).reverse) := upd_same
      generalize upd H' q (.lst ((m.stk.reverse.take 0).map V.int).reverse) = H5 at g hq ⊢
      have eK : m.stk.take (m.stk.length - 0) = m.stk := by rw [Nat.sub_zero, List.take_length]
      have eT : ((m.stk.reverse.take 0).map V.int).reverse = [] := by rfl
      rw [eT] at hq
      have g : LS K S B h w A { m.next with stk := m.stk } H5 := by
        have z := g
        rw [show ({ m.next with stk := m.stk.take (m.stk.length - 0) } : Ms) = { m.next with stk := m.stk } by rw [eK]] at z
        exact z
      clear gi hD nD eK eT
      refine ⟨_, rfl, S, _, rfl, g.get 3 rfl rfl, A.nw, _, rfl, .inr g.now, _, rfl, S, _, rfl, g.get 3 rfl rfl, A.nw, _, _, _, rfl, rfl, g.now, e0, sOf l0, rfl, by rw [sOf_len, w0]; exact Nat.le_trans g.sz.w2 (by decide), _, _, rfl, ?_⟩
      rw [rowsV_len, sOf_len, g.sz.len, w0]
      refine normS (σ' := [some (.ref S), some (.ref t), some (.str (Od.push n).w), some (.int (Od.push n).n), some (.ref A.pl), some (.int 0), some (.ref q), none, some (.int (h : Int)), some (.int (w : Int)), none, none, none]) rfl ?_
      refine ⟨_, rfl, (by show 4 ≤ sizeLine; decide), fun p np => rIn_lit ["push", "load", "rows", "cols"] (SqT.of upd_same) ⟨_, rfl, ?_⟩⟩
      have g := g.same (same_new np (.tup [.str "push", .str "load", .str "rows", .str "cols"]))
      have hq := same_new np (.tup [.str "push", .str "load", .str "rows", .str "cols"]) _ _ hq
      generalize upd H5 p (.tup [.str "push", .str "load", .str "rows", .str "cols"]) = H6 at g hq ⊢
      refine dT (by show ("push" : Str) ∈ (["push", "load", "rows", "cols"] : List Str); decide +kernel) ?_
      have es : stp h w (.push n) m = { m.next with stk := m.stk ++ [n] } := by simp only [stp, act, Ms.next, hn]
      rw [es] at k
      exact ⟨_, rfl, .inl ⟨rfl, _, SqL.of g.pile⟩, _, rfl, rfl, _, rfl, sT rfl ⟨_, rfl, A.pl, _, _, rfl, rfl, g.pile, (by rw [List.length_map]; exact Nat.lt_of_le_of_lt okm.l1 (by decide)), k A _ _ _ (g.push _) fun _ => ⟨rfl, rfl⟩ ⟩⟩
    | rows =>
      refine ⟨_, rfl, rfl, _, rfl, sF (by show ("rows" : Str) ≠ "load"; decide +kernel) ?_⟩
      refine iteF ?_
      refine ⟨_, rfl, _, rfl, by decide, by decide, fun D nD => ?_⟩
      have nB : B D = none := g.sm.free nD
      have nDD : D ≠ A.pl ∧ D ≠ A.sl ∧ D ≠ A.ln ∧ D ≠ A.sd := ⟨fun e => (by rw [e, g.pile] at nD; cases nD), fun e => (by rw [e, g.slots] at nD; cases nD), fun e => (by rw [e, g.lines] at nD; cases nD), fun e => (by rw [e, g.said] at nD; cases nD)⟩
      have hk : 0 ≤ m.stk.length := by omega
      refine lc_range (lo := 0) (n := ((0 : Nat) : Int).toNat) (fun i H' => LS K S B h w A { m.next with stk := m.stk.take (m.stk.length - i) } H' ∧ H' D = some (.lst ((m.stk.reverse.take i).map V.int)) ∧ i ≤ 0) ⟨?_, upd_same, Nat.zero_le _⟩ ?_ ?_
      · rw [Nat.sub_zero, List.take_length]
        exact g.same (same_new nD _)
      · rintro i H' hi ⟨gi, hD, hik⟩
        have hi : i < 0 := hi
        obtain ⟨x, p1, p2, p3⟩ := pop_at m.stk i (by omega)
        refine ⟨rfl, ?_⟩
        unfold tYes
        refine iteT ?_
        refine ⟨_, rfl, .inl ⟨rfl, _, SqL.of gi.pile⟩, A.pl, _, .int x, rfl, rfl, gi.pile, p1, ?_⟩
        have g4 := gi.setPile (m.stk.take (m.stk.length - (i + 1)))
        rw [← p2] at g4
        have hD4 : (upd H' A.pl (.lst ((m.stk.take (m.stk.length - i)).map V.int).dropLast)) D = some (.lst ((m.stk.reverse.take i).map V.int)) := by rw [upd_ne nDD.1]; exact hD
        refine ⟨_, hD4, ?_, g4.updD hD4 nDD nB _, ?_, hi⟩
        · rw [List.length_map, List.length_take]
          exact Nat.lt_of_le_of_lt (Nat.min_le_left _ _) (Nat.lt_of_lt_of_le hi (by decide))
        · rw [p3, List.map_append]
          exact upd_same
      rintro H' ⟨gi, hD, _⟩
      have gi : LS K S B h w A { m.next with stk := m.stk.take (m.stk.length - 0) } H' := gi
      have hD : H' D = some (.lst ((m.stk.reverse.take 0).map V.int)) := hD
      refine ⟨D, _, rfl, SqL.of hD, fun q nq => ?_⟩
      have g := gi.same (same_new nq (.lst ((m.stk.reverse.take 0).map V.int).reverse))
      have hq : (upd H' q (.lst ((m.stk.reverse.take 0).map V.int).reverse)) q = some (.lst ((m.stk.reverse.take 0).map V.int).reverse) := upd_same
      generalize upd H' q (.lst ((m.stk.reverse.take 0).map V.int).reverse) = H5 at g hq ⊢
      have eK : m.stk.take (m.stk.length - 0) = m.stk := by rw [Nat.sub_zero, List.take_length]
      have eT : ((m.stk.reverse.take 0).map V.int).reverse = [] := by rfl
      rw [eT] at hq
      have g : LS K S B h w A { m.next with stk := m.stk } H5 := by
        have z := g
        rw [show ({ m.next with stk := m.stk.take (m.stk.length - 0) } : Ms) = { m.next with stk := m.stk } by rw [eK]] at z
        exact z
      clear gi hD nD eK eT
      refine ⟨_, rfl, S, _, rfl, g.get 3 rfl rfl, A.nw, _, rfl, .inr g.now, _, rfl, S, _, rfl, g.get 3 rfl rfl, A.nw, _, _, _, rfl, rfl, g.now, e0, sOf l0, rfl, by rw [sOf_len, w0]; exact Nat.le_trans g.sz.w2 (by decide), _, _, rfl, ?_⟩
      rw [rowsV_len, sOf_len, g.sz.len, w0]
      refine normS (σ' := [some (.ref S), some (.ref t), some (.str (Od.rows).w), some (.int (Od.rows).n), some (.ref A.pl), some (.int 0), some (.ref q), none, some (.int (h : Int)), some (.int (w : Int)), none, none, none]) rfl ?_
      refine ⟨_, rfl, (by show 4 ≤ sizeLine; decide), fun p np => rIn_lit ["push", "load", "rows", "cols"] (SqT.of upd_same) ⟨_, rfl, ?_⟩⟩
      have g := g.same (same_new np (.tup [.str "push", .str "load", .str "rows", .str "cols"]))
      have hq := same_new np (.tup [.str "push", .str "load", .str "rows", .str "cols"]) _ _ hq
      generalize upd H5 p (.tup [.str "push", .str "load", .str "rows", .str "cols"]) = H6 at g hq ⊢
      refine dT (by show ("rows" : Str) ∈ (["push", "load", "rows", "cols"] : List Str); decide +kernel) ?_
      have es : stp h w (.rows) m = { m.next with stk := m.stk ++ [(h : Int)] } := by simp only [stp, act, Ms.next, hn]
      rw [es] at k
      exact ⟨_, rfl, .inl ⟨rfl, _, SqL.of g.pile⟩, _, rfl, rfl, _, rfl, sF (by show ("rows" : Str) ≠ "push"; decide +kernel) ⟨_, rfl, rfl, _, rfl, sF (by show ("rows" : Str) ≠ "load"; decide +kernel) ⟨_, rfl, rfl, _, rfl, sT rfl ⟨_, rfl, A.pl, _, _, rfl, rfl, g.pile, (by rw [List.length_map]; exact Nat.lt_of_le_of_lt okm.l1 (by decide)), k A _ _ _ (g.push _) fun _ => ⟨rfl, rfl⟩ ⟩⟩⟩⟩
    | cols =>
      refine ⟨_, rfl, rfl, _, rfl, sF (by show ("cols" : Str) ≠ "load"; decide +kernel) ?_⟩
      refine iteF ?_
      refine ⟨_, rfl, _, rfl, by decide, by decide, fun D nD => ?_⟩
      have nB : B D = none := g.sm.free nD
      have nDD : D ≠ A.pl ∧ D ≠ A.sl ∧ D ≠ A.ln ∧ D ≠ A.sd := ⟨fun e => (by rw [e, g.pile] at nD; cases nD), fun e => (by rw [e, g.slots] at nD; cases nD), fun e => (by rw [e, g.lines] at nD; cases nD), fun e => (by rw [e, g.said] at nD; cases nD)⟩
      have hk : 0 ≤ m.stk.length := by omega
      refine lc_range (lo := 0) (n := ((0 : Nat) : Int).toNat) (fun i H' => LS K S B h w A { m.next with stk := m.stk.take (m.stk.length - i) } H' ∧ H' D = some (.lst ((m.stk.reverse.take i).map V.int)) ∧ i ≤ 0) ⟨?_, upd_same, Nat.zero_le _⟩ ?_ ?_
      · rw [Nat.sub_zero, List.take_length]
        exact g.same (same_new nD _)
      · rintro i H' hi ⟨gi, hD, hik⟩
        have hi : i < 0 := hi
        obtain ⟨x, p1, p2, p3⟩ := pop_at m.stk i (by omega)
        refine ⟨rfl, ?_⟩
        unfold tYes
        refine iteT ?_
        refine ⟨_, rfl, .inl ⟨rfl, _, SqL.of gi.pile⟩, A.pl, _, .int x, rfl, rfl, gi.pile, p1, ?_⟩
        have g4 := gi.setPile (m.stk.take (m.stk.length - (i + 1)))
        rw [← p2] at g4
        have hD4 : (upd H' A.pl (.lst ((m.stk.take (m.stk.length - i)).map V.int).dropLast)) D = some (.lst ((m.stk.reverse.take i).map V.int)) := by rw [upd_ne nDD.1]; exact hD
        refine ⟨_, hD4, ?_, g4.updD hD4 nDD nB _, ?_, hi⟩
        · rw [List.length_map, List.length_take]
          exact Nat.lt_of_le_of_lt (Nat.min_le_left _ _) (Nat.lt_of_lt_of_le hi (by decide))
        · rw [p3, List.map_append]
          exact upd_same
      rintro H' ⟨gi, hD, _⟩
      have gi : LS K S B h w A { m.next with stk := m.stk.take (m.stk.length - 0) } H' := gi
      have hD : H' D = some (.lst ((m.stk.reverse.take 0).map V.int)) := hD
      refine ⟨D, _, rfl, SqL.of hD, fun q nq => ?_⟩
      have g := gi.same (same_new nq (.lst ((m.stk.reverse.take 0).map V.int).reverse))
      have hq : (upd H' q (.lst ((m.stk.reverse.take 0).map V.int).reverse)) q = some (.lst ((m.stk.reverse.take 0).map V.int).reverse) := upd_same
      generalize upd H' q (.lst ((m.stk.reverse.take 0).map V.int).reverse) = H5 at g hq ⊢
      have eK : m.stk.take (m.stk.length - 0) = m.stk := by rw [Nat.sub_zero, List.take_length]
      have eT : ((m.stk.reverse.take 0).map V.int).reverse = [] := by rfl
      rw [eT] at hq
      have g : LS K S B h w A { m.next with stk := m.stk } H5 := by
        have z := g
        rw [show ({ m.next with stk := m.stk.take (m.stk.length - 0) } : Ms) = { m.next with stk := m.stk } by rw [eK]] at z
        exact z
      clear gi hD nD eK eT
      refine ⟨_, rfl, S, _, rfl, g.get 3 rfl rfl, A.nw, _, rfl, .inr g.now, _, rfl, S, _, rfl, g.get 3 rfl rfl, A.nw, _, _, _, rfl, rfl, g.now, e0, sOf l0, rfl, by rw [sOf_len, w0]; exact Nat.le_trans g.sz.w2 (by decide), _, _, rfl, ?_⟩
      rw [rowsV_len, sOf_len, g.sz.len, w0]
      refine normS (σ' := [some (.ref S), some (.ref t), some (.str (Od.cols).w), some (.int (Od.cols).n), some (.ref A.pl), some (.int 0), some (.ref q), none, some (.int (h : Int)), some (.int (w : Int)), none, none, none]) rfl ?_
      refine ⟨_, rfl, (by show 4 ≤ sizeLine; decide), fun p np => rIn_lit ["push", "load", "rows", "cols"] (SqT.of upd_same) ⟨_, rfl, ?_⟩⟩
      have g := g.same (same_new np (.tup [.str "push", .str "load", .str "rows", .str "cols"]))
      have hq := same_new np (.tup [.str "push", .str "load", .str "rows", .str "cols"]) _ _ hq
      generalize upd H5 p (.tup [.str "push", .str "load", .str "rows", .str "cols"]) = H6 at g hq ⊢
      refine dT (by show ("cols" : Str) ∈ (["push", "load", "rows", "cols"] : List Str); decide +kernel) ?_
      have es : stp h w (.cols) m = { m.next with stk := m.stk ++ [(w : Int)] } := by simp only [stp, act, Ms.next, hn]
      rw [es] at k
      exact ⟨_, rfl, .inl ⟨rfl, _, SqL.of g.pile⟩, _, rfl, rfl, _, rfl, sF (by show ("cols" : Str) ≠ "push"; decide +kernel) ⟨_, rfl, rfl, _, rfl, sF (by show ("cols" : Str) ≠ "load"; decide +kernel) ⟨_, rfl, rfl, _, rfl, sF (by show ("cols" : Str) ≠ "rows"; decide +kernel) ⟨_, rfl, A.pl, _, _, rfl, rfl, g.pile, (by rw [List.length_map]; exact Nat.lt_of_le_of_lt okm.l1 (by decide)), k A _ _ _ (g.push _) fun _ => ⟨rfl, rfl⟩ ⟩⟩⟩⟩
    | load n =>
      have pre : n < m.sl.length := pre
      obtain ⟨x, hx⟩ : ∃ x, m.sl[n]? = some x := ⟨_, List.getElem?_eq_getElem pre⟩
      have hv : atI (slV m.sl) (n : Int) = some (oV x) := atI_nat (by rw [slV_get, hx]; rfl)
      cases x with
      | none =>
        obtain ⟨d, g'⟩ := g.put 7 (f := "end") (v := .str "broken") A { m.next with en := "broken" } rfl rfl rfl rfl g.now g.sz
        have es : stp h w (.load n) m = { m.next with en := "broken" } := by simp only [stp, act, Ms.next, hx]
        rw [es] at k
        exact ⟨_, rfl, rfl, _, rfl, sT rfl ⟨_, rfl, S, _, rfl, g.get 2 rfl rfl, _, rfl, A.sl, _, _, _, rfl, rfl, SqL.of g.slots, hv, _, rfl, dT rfl ⟨_, rfl, S, _, rfl, d, k A m.stk m.tk _ g' fun e => absurd (show ("broken" : Str) = "" from e) (by decide +kernel)⟩⟩⟩
      | some y =>
        refine ⟨_, rfl, rfl, _, rfl, sT rfl ⟨_, rfl, S, _, rfl, g.get 2 rfl rfl, _, rfl, A.sl, _, _, _, rfl, rfl, SqL.of g.slots, hv, _, rfl, dF (by intro z; cases z) ?_⟩⟩
        refine ⟨_, rfl, _, rfl, by decide, by decide, fun D nD => ?_⟩
        have nB : B D = none := g.sm.free nD
        have nDD : D ≠ A.pl ∧ D ≠ A.sl ∧ D ≠ A.ln ∧ D ≠ A.sd := ⟨fun e => (by rw [e, g.pile] at nD; cases nD), fun e => (by rw [e, g.slots] at nD; cases nD), fun e => (by rw [e, g.lines] at nD; cases nD), fun e => (by rw [e, g.said] at nD; cases nD)⟩
        have hk : 0 ≤ m.stk.length := by omega
        refine lc_range (lo := 0) (n := ((0 : Nat) : Int).toNat) (fun i H' => LS K S B h w A { m.next with stk := m.stk.take (m.stk.length - i) } H' ∧ H' D = some (.lst ((m.stk.reverse.take i).map V.int)) ∧ i ≤ 0) ⟨?_, upd_same, Nat.zero_le _⟩ ?_ ?_
        · rw [Nat.sub_zero, List.take_length]
          exact g.same (same_new nD _)
        · rintro i H' hi ⟨gi, hD, hik⟩
          have hi : i < 0 := hi
          obtain ⟨x, p1, p2, p3⟩ := pop_at m.stk i (by omega)
          refine ⟨rfl, ?_⟩
          unfold tYes
          refine iteT ?_
          refine ⟨_, rfl, .inl ⟨rfl, _, SqL.of gi.pile⟩, A.pl, _, .int x, rfl, rfl, gi.pile, p1, ?_⟩
          have g4 := gi.setPile (m.stk.take (m.stk.length - (i + 1)))
          rw [← p2] at g4
          have hD4 : (upd H' A.pl (.lst ((m.stk.take (m.stk.length - i)).map V.int).dropLast)) D = some (.lst ((m.stk.reverse.take i).map V.int)) := by rw [upd_ne nDD.1]; exact hD
          refine ⟨_, hD4, ?_, g4.updD hD4 nDD nB _, ?_, hi⟩
          · rw [List.length_map, List.length_take]
            exact Nat.lt_of_le_of_lt (Nat.min_le_left _ _) (Nat.lt_of_lt_of_le hi (by decide))
          · rw [p3, List.map_append]
            exact upd_same
        rintro H' ⟨gi, hD, _⟩
        have gi : LS K S B h w A { m.next with stk := m.stk.take (m.stk.length - 0) } H' := gi
        have hD : H' D = some (.lst ((m.stk.reverse.take 0).map V.int)) := hD
        refine ⟨D, _, rfl, SqL.of hD, fun q nq => ?_⟩
        have g := gi.same (same_new nq (.lst ((m.stk.reverse.take 0).map V.int).reverse))
        have hq : (upd H' q (.lst ((m.stk.reverse.take 0).map V.int).reverse)) q = some (.lst ((m.stk.reverse.take 0).map V.int).reverse) := upd_same
        generalize upd H' q (.lst ((m.stk.reverse.take 0).map V.int).reverse) = H5 at g hq ⊢
        have eK : m.stk.take (m.stk.length - 0) = m.stk := by rw [Nat.sub_zero, List.take_length]
        have eT : ((m.stk.reverse.take 0).map V.int).reverse = [] := by rfl
        rw [eT] at hq
        have g : LS K S B h w A { m.next with stk := m.stk } H5 := by
          have z := g
          rw [show ({ m.next with stk := m.stk.take (m.stk.length - 0) } : Ms) = { m.next with stk := m.stk } by rw [eK]] at z
          exact z
        clear gi hD nD eK eT
        refine ⟨_, rfl, S, _, rfl, g.get 3 rfl rfl, A.nw, _, rfl, .inr g.now, _, rfl, S, _, rfl, g.get 3 rfl rfl, A.nw, _, _, _, rfl, rfl, g.now, e0, sOf l0, rfl, by rw [sOf_len, w0]; exact Nat.le_trans g.sz.w2 (by decide), _, _, rfl, ?_⟩
        rw [rowsV_len, sOf_len, g.sz.len, w0]
        refine normS (σ' := [some (.ref S), some (.ref t), some (.str (Od.load n).w), some (.int (Od.load n).n), some (.ref A.pl), some (.int 0), some (.ref q), none, some (.int (h : Int)), some (.int (w : Int)), none, none, none]) rfl ?_
        refine ⟨_, rfl, (by show 4 ≤ sizeLine; decide), fun p np => rIn_lit ["push", "load", "rows", "cols"] (SqT.of upd_same) ⟨_, rfl, ?_⟩⟩
        have g := g.same (same_new np (.tup [.str "push", .str "load", .str "rows", .str "cols"]))
        have hq := same_new np (.tup [.str "push", .str "load", .str "rows", .str "cols"]) _ _ hq
        generalize upd H5 p (.tup [.str "push", .str "load", .str "rows", .str "cols"]) = H6 at g hq ⊢
        refine dT (by show ("load" : Str) ∈ (["push", "load", "rows", "cols"] : List Str); decide +kernel) ?_
        have es : stp h w (.load n) m = { m.next with stk := m.stk ++ [y] } := by simp only [stp, act, Ms.next, hx]
        rw [es] at k
        exact ⟨_, rfl, .inl ⟨rfl, _, SqL.of g.pile⟩, _, rfl, rfl, _, rfl, sF (by show ("load" : Str) ≠ "push"; decide +kernel) ⟨_, rfl, rfl, _, rfl, sT rfl ⟨_, rfl, S, _, rfl, g.get 2 rfl rfl, _, rfl, A.sl, _, _, _, rfl, rfl, SqL.of g.slots, hv, A.pl, _, _, rfl, rfl, g.pile, (by rw [List.length_map]; exact Nat.lt_of_le_of_lt okm.l1 (by decide)), k A _ _ _ (g.push _) fun _ => ⟨rfl, rfl⟩⟩⟩⟩
    | jump n =>
      refine ⟨_, rfl, rfl, _, rfl, sF (by show ("jump" : Str) ≠ "load"; decide +kernel) ?_⟩
      refine iteF ?_
      refine ⟨_, rfl, _, rfl, by decide, by decide, fun D nD => ?_⟩
      have nB : B D = none := g.sm.free nD
      have nDD : D ≠ A.pl ∧ D ≠ A.sl ∧ D ≠ A.ln ∧ D ≠ A.sd := ⟨fun e => (by rw [e, g.pile] at nD; cases nD), fun e => (by rw [e, g.slots] at nD; cases nD), fun e => (by rw [e, g.lines] at nD; cases nD), fun e => (by rw [e, g.said] at nD; cases nD)⟩
      have hk : 0 ≤ m.stk.length := by omega
      refine lc_range (lo := 0) (n := ((0 : Nat) : Int).toNat) (fun i H' => LS K S B h w A { m.next with stk := m.stk.take (m.stk.length - i) } H' ∧ H' D = some (.lst ((m.stk.reverse.take i).map V.int)) ∧ i ≤ 0) ⟨?_, upd_same, Nat.zero_le _⟩ ?_ ?_
      · rw [Nat.sub_zero, List.take_length]
        exact g.same (same_new nD _)
      · rintro i H' hi ⟨gi, hD, hik⟩
        have hi : i < 0 := hi
        obtain ⟨x, p1, p2, p3⟩ := pop_at m.stk i (by omega)
        refine ⟨rfl, ?_⟩
        unfold tYes
        refine iteT ?_
        refine ⟨_, rfl, .inl ⟨rfl, _, SqL.of gi.pile⟩, A.pl, _, .int x, rfl, rfl, gi.pile, p1, ?_⟩
        have g4 := gi.setPile (m.stk.take (m.stk.length - (i + 1)))
        rw [← p2] at g4
        have hD4 : (upd H' A.pl (.lst ((m.stk.take (m.stk.length - i)).map V.int).dropLast)) D = some (.lst ((m.stk.reverse.take i).map V.int)) := by rw [upd_ne nDD.1]; exact hD
        refine ⟨_, hD4, ?_, g4.updD hD4 nDD nB _, ?_, hi⟩
        · rw [List.length_map, List.length_take]
          exact Nat.lt_of_le_of_lt (Nat.min_le_left _ _) (Nat.lt_of_lt_of_le hi (by decide))
        · rw [p3, List.map_append]
          exact upd_same
      rintro H' ⟨gi, hD, _⟩
      have gi : LS K S B h w A { m.next with stk := m.stk.take (m.stk.length - 0) } H' := gi
      have hD : H' D = some (.lst ((m.stk.reverse.take 0).map V.int)) := hD
      refine ⟨D, _, rfl, SqL.of hD, fun q nq => ?_⟩
      have g := gi.same (same_new nq (.lst ((m.stk.reverse.take 0).map V.int).reverse))
      have hq : (upd H' q (.lst ((m.stk.reverse.take 0).map V.int).reverse)) q = some (.lst ((m.stk.reverse.take 0).map V.int).reverse) := upd_same
      generalize upd H' q (.lst ((m.stk.reverse.take 0).map V.int).reverse) = H5 at g hq ⊢
      have eK : m.stk.take (m.stk.length - 0) = m.stk := by rw [Nat.sub_zero, List.take_length]
      have eT : ((m.stk.reverse.take 0).map V.int).reverse = [] := by rfl
      rw [eT] at hq
      have g : LS K S B h w A { m.next with stk := m.stk } H5 := by
        have z := g
        rw [show ({ m.next with stk := m.stk.take (m.stk.length - 0) } : Ms) = { m.next with stk := m.stk } by rw [eK]] at z
        exact z
      clear gi hD nD eK eT
      refine ⟨_, rfl, S, _, rfl, g.get 3 rfl rfl, A.nw, _, rfl, .inr g.now, _, rfl, S, _, rfl, g.get 3 rfl rfl, A.nw, _, _, _, rfl, rfl, g.now, e0, sOf l0, rfl, by rw [sOf_len, w0]; exact Nat.le_trans g.sz.w2 (by decide), _, _, rfl, ?_⟩
      rw [rowsV_len, sOf_len, g.sz.len, w0]
      refine normS (σ' := [some (.ref S), some (.ref t), some (.str (Od.jump n).w), some (.int (Od.jump n).n), some (.ref A.pl), some (.int 0), some (.ref q), none, some (.int (h : Int)), some (.int (w : Int)), none, none, none]) rfl ?_
      refine ⟨_, rfl, (by show 4 ≤ sizeLine; decide), fun p np => rIn_lit ["push", "load", "rows", "cols"] (SqT.of upd_same) ⟨_, rfl, ?_⟩⟩
      have g := g.same (same_new np (.tup [.str "push", .str "load", .str "rows", .str "cols"]))
      have hq := same_new np (.tup [.str "push", .str "load", .str "rows", .str "cols"]) _ _ hq
      generalize upd H5 p (.tup [.str "push", .str "load", .str "rows", .str "cols"]) = H6 at g hq ⊢
      refine dF (by show ("jump" : Str) ∉ (["push", "load", "rows", "cols"] : List Str); decide +kernel) ?_
      refine ⟨_, rfl, rfl, _, rfl, sF (by show ("jump" : Str) ≠ "copy"; decide +kernel) ?_⟩
      refine ⟨_, rfl, rfl, _, rfl, sF (by show ("jump" : Str) ≠ "store"; decide +kernel) ?_⟩
      refine ⟨_, rfl, (by show 3 ≤ sizeLine; decide), fun p np => rIn_lit ["jump", "zero", "some"] (SqT.of upd_same) ⟨_, rfl, ?_⟩⟩
      have g := g.same (same_new np (.tup [.str "jump", .str "zero", .str "some"]))
      have hq := same_new np (.tup [.str "jump", .str "zero", .str "some"]) _ _ hq
      generalize upd H6 p (.tup [.str "jump", .str "zero", .str "some"]) = H7 at g hq ⊢
      refine dT (by show ("jump" : Str) ∈ (["jump", "zero", "some"] : List Str); decide +kernel) ?_
      have es : stp h w (.jump n) m = { m.next with at_ := (n : Int) } := by simp only [stp, act, Ms.next, hn]
      rw [es] at k
      obtain ⟨d, g'⟩ := g.put 0 (f := "at") (v := .int (n : Int)) A { m.next with at_ := (n : Int) } rfl rfl rfl rfl g.now g.sz
      exact ⟨_, rfl, rfl, _, rfl, sT rfl (iteT ⟨_, rfl, _, rfl, S, _, rfl, d, k A _ _ _ g' fun _ => ⟨rfl, rfl⟩⟩)⟩
    | tick n =>
      refine ⟨_, rfl, rfl, _, rfl, sF (by show ("tick" : Str) ≠ "load"; decide +kernel) ?_⟩
      refine iteF ?_
      refine ⟨_, rfl, _, rfl, by decide, by decide, fun D nD => ?_⟩
      have nB : B D = none := g.sm.free nD
      have nDD : D ≠ A.pl ∧ D ≠ A.sl ∧ D ≠ A.ln ∧ D ≠ A.sd := ⟨fun e => (by rw [e, g.pile] at nD; cases nD), fun e => (by rw [e, g.slots] at nD; cases nD), fun e => (by rw [e, g.lines] at nD; cases nD), fun e => (by rw [e, g.said] at nD; cases nD)⟩
      have hk : 0 ≤ m.stk.length := by omega
      refine lc_range (lo := 0) (n := ((0 : Nat) : Int).toNat) (fun i H' => LS K S B h w A { m.next with stk := m.stk.take (m.stk.length - i) } H' ∧ H' D = some (.lst ((m.stk.reverse.take i).map V.int)) ∧ i ≤ 0) ⟨?_, upd_same, Nat.zero_le _⟩ ?_ ?_
      · rw [Nat.sub_zero, List.take_length]
        exact g.same (same_new nD _)
      · rintro i H' hi ⟨gi, hD, hik⟩
        have hi : i < 0 := hi
        obtain ⟨x, p1, p2, p3⟩ := pop_at m.stk i (by omega)
        refine ⟨rfl, ?_⟩
        unfold tYes
        refine iteT ?_
        refine ⟨_, rfl, .inl ⟨rfl, _, SqL.of gi.pile⟩, A.pl, _, .int x, rfl, rfl, gi.pile, p1, ?_⟩
        have g4 := gi.setPile (m.stk.take (m.stk.length - (i + 1)))
        rw [← p2] at g4
        have hD4 : (upd H' A.pl (.lst ((m.stk.take (m.stk.length - i)).map V.int).dropLast)) D = some (.lst ((m.stk.reverse.take i).map V.int)) := by rw [upd_ne nDD.1]; exact hD
        refine ⟨_, hD4, ?_, g4.updD hD4 nDD nB _, ?_, hi⟩
        · rw [List.length_map, List.length_take]
          exact Nat.lt_of_le_of_lt (Nat.min_le_left _ _) (Nat.lt_of_lt_of_le hi (by decide))
        · rw [p3, List.map_append]
          exact upd_same
      rintro H' ⟨gi, hD, _⟩
      have gi : LS K S B h w A { m.next with stk := m.stk.take (m.stk.length - 0) } H' := gi
      have hD : H' D = some (.lst ((m.stk.reverse.take 0).map V.int)) := hD
      refine ⟨D, _, rfl, SqL.of hD, fun q nq => ?_⟩
      have g := gi.same (same_new nq (.lst ((m.stk.reverse.take 0).map V.int).reverse))
      have hq : (upd H' q (.lst ((m.stk.reverse.take 0).map V.int).reverse)) q = some (.lst ((m.stk.reverse.take 0).map V.int).reverse) := upd_same
      generalize upd H' q (.lst ((m.stk.reverse.take 0).map V.int).reverse) = H5 at g hq ⊢
      have eK : m.stk.take (m.stk.length - 0) = m.stk := by rw [Nat.sub_zero, List.take_length]
      have eT : ((m.stk.reverse.take 0).map V.int).reverse = [] := by rfl
      rw [eT] at hq
      have g : LS K S B h w A { m.next with stk := m.stk } H5 := by
        have z := g
        rw [show ({ m.next with stk := m.stk.take (m.stk.length - 0) } : Ms) = { m.next with stk := m.stk } by rw [eK]] at z
        exact z
      clear gi hD nD eK eT
      refine ⟨_, rfl, S, _, rfl, g.get 3 rfl rfl, A.nw, _, rfl, .inr g.now, _, rfl, S, _, rfl, g.get 3 rfl rfl, A.nw, _, _, _, rfl, rfl, g.now, e0, sOf l0, rfl, by rw [sOf_len, w0]; exact Nat.le_trans g.sz.w2 (by decide), _, _, rfl, ?_⟩
      rw [rowsV_len, sOf_len, g.sz.len, w0]
      refine normS (σ' := [some (.ref S), some (.ref t), some (.str (Od.tick n).w), some (.int (Od.tick n).n), some (.ref A.pl), some (.int 0), some (.ref q), none, some (.int (h : Int)), some (.int (w : Int)), none, none, none]) rfl ?_
      refine ⟨_, rfl, (by show 4 ≤ sizeLine; decide), fun p np => rIn_lit ["push", "load", "rows", "cols"] (SqT.of upd_same) ⟨_, rfl, ?_⟩⟩
      have g := g.same (same_new np (.tup [.str "push", .str "load", .str "rows", .str "cols"]))
      have hq := same_new np (.tup [.str "push", .str "load", .str "rows", .str "cols"]) _ _ hq
      generalize upd H5 p (.tup [.str "push", .str "load", .str "rows", .str "cols"]) = H6 at g hq ⊢
      refine dF (by show ("tick" : Str) ∉ (["push", "load", "rows", "cols"] : List Str); decide +kernel) ?_
      refine ⟨_, rfl, rfl, _, rfl, sF (by show ("tick" : Str) ≠ "copy"; decide +kernel) ?_⟩
      refine ⟨_, rfl, rfl, _, rfl, sF (by show ("tick" : Str) ≠ "store"; decide +kernel) ?_⟩
      refine ⟨_, rfl, (by show 3 ≤ sizeLine; decide), fun p np => rIn_lit ["jump", "zero", "some"] (SqT.of upd_same) ⟨_, rfl, ?_⟩⟩
      have g := g.same (same_new np (.tup [.str "jump", .str "zero", .str "some"]))
      have hq := same_new np (.tup [.str "jump", .str "zero", .str "some"]) _ _ hq
      generalize upd H6 p (.tup [.str "jump", .str "zero", .str "some"]) = H7 at g hq ⊢
      refine dF (by show ("tick" : Str) ∉ (["jump", "zero", "some"] : List Str); decide +kernel) ?_
      refine ⟨_, rfl, (by show 3 ≤ sizeLine; decide), fun p np => rIn_lit ["neg", "not", "truth"] (SqT.of upd_same) ⟨_, rfl, ?_⟩⟩
      have g := g.same (same_new np (.tup [.str "neg", .str "not", .str "truth"]))
      have hq := same_new np (.tup [.str "neg", .str "not", .str "truth"]) _ _ hq
      generalize upd H7 p (.tup [.str "neg", .str "not", .str "truth"]) = H8 at g hq ⊢
      refine dF (by show ("tick" : Str) ∉ (["neg", "not", "truth"] : List Str); decide +kernel) ?_
      refine ⟨_, rfl, (by show 2 ≤ sizeLine; decide), fun p np => rIn_lit ["row", "col"] (SqT.of upd_same) ⟨_, rfl, ?_⟩⟩
      have g := g.same (same_new np (.tup [.str "row", .str "col"]))
      have hq := same_new np (.tup [.str "row", .str "col"]) _ _ hq
      generalize upd H8 p (.tup [.str "row", .str "col"]) = H9 at g hq ⊢
      refine dF (by show ("tick" : Str) ∉ (["row", "col"] : List Str); decide +kernel) ?_
      refine ⟨_, rfl, rfl, _, rfl, sF (by show ("tick" : Str) ≠ "say"; decide +kernel) ?_⟩
      refine ⟨_, rfl, rfl, _, rfl, sF (by show ("tick" : Str) ≠ "black"; decide +kernel) ?_⟩
      refine ⟨_, rfl, (by show 2 ≤ sizeLine; decide), fun p np => rIn_lit ["tick", "done"] (SqT.of upd_same) ⟨_, rfl, ?_⟩⟩
      have g := g.same (same_new np (.tup [.str "tick", .str "done"]))
      have hq := same_new np (.tup [.str "tick", .str "done"]) _ _ hq
      generalize upd H9 p (.tup [.str "tick", .str "done"]) = H10 at g hq ⊢
      refine dT (by show ("tick" : Str) ∈ (["tick", "done"] : List Str); decide +kernel) ?_
      by_cases c : m.tk = 0
      · have es : stp h w (.tick n) m = { m.next with en := "limit" } := by unfold stp; rw [show act h w (.tick n) m.next = .error "limit" from if_pos c]
        rw [es] at k
        obtain ⟨d, g'⟩ := g.put 7 (f := "end") (v := .str "limit") A { m.next with en := "limit" } rfl rfl rfl rfl g.now g.sz
        obtain ⟨d2, g2⟩ := g'.put 6 (f := "left") (v := .int (m.tk - 1)) A { m.next with en := "limit", tk := m.tk - 1 } rfl rfl rfl rfl g'.now g'.sz
        exact ⟨_, rfl, rfl, _, rfl, sF (by show ("tick" : Str) ≠ "done"; decide +kernel) ⟨_, rfl, S, _, rfl, g.get 6 rfl rfl, rfl, _, rfl, dT (by rw [show m.next.tk = m.tk from rfl, c]) ⟨_, rfl, S, _, rfl, d, _, rfl, S, _, rfl, g'.get 6 rfl rfl, _, _, rfl, rfl, _, rfl, S, _, rfl, d2, k A m.stk (m.tk - 1) _ g2 fun e => absurd (show ("limit" : Str) = "" from e) (by decide +kernel)⟩⟩⟩
      · have es : stp h w (.tick n) m = { m.next with tk := m.tk - 1, idl := 0, nb := .int n } := by unfold stp; rw [show act h w (.tick n) m.next = .ok { m.next with tk := m.tk - 1, idl := 0, nb := .int n } from if_neg c]
        rw [es] at k
        obtain ⟨d, g'⟩ := g.put 7 (f := "end") (v := .str "") A m.next rfl (by simp only [stV, Ms.next, en0]; rfl) rfl rfl g.now g.sz
        obtain ⟨d2, g2⟩ := g'.put 6 (f := "left") (v := .int (m.tk - 1)) A { m.next with tk := m.tk - 1, idl := 0, nb := .int n } rfl rfl rfl rfl g'.now g'.sz
        exact ⟨_, rfl, rfl, _, rfl, sF (by show ("tick" : Str) ≠ "done"; decide +kernel) ⟨_, rfl, S, _, rfl, g.get 6 rfl rfl, rfl, _, rfl, dF (fun z => c (V.int.inj z)) ⟨_, rfl, S, _, rfl, d, _, rfl, S, _, rfl, g'.get 6 rfl rfl, _, _, rfl, rfl, _, rfl, S, _, rfl, d2, k A m.stk (m.tk - 1) _ g2 fun _ => ⟨rfl, rfl⟩⟩⟩⟩
    | done =>
      refine ⟨_, rfl, rfl, _, rfl, sF (by show ("done" : Str) ≠ "load"; decide +kernel) ?_⟩
      refine iteF ?_
      refine ⟨_, rfl, _, rfl, by decide, by decide, fun D nD => ?_⟩
      have nB : B D = none := g.sm.free nD
      have nDD : D ≠ A.pl ∧ D ≠ A.sl ∧ D ≠ A.ln ∧ D ≠ A.sd := ⟨fun e => (by rw [e, g.pile] at nD; cases nD), fun e => (by rw [e, g.slots] at nD; cases nD), fun e => (by rw [e, g.lines] at nD; cases nD), fun e => (by rw [e, g.said] at nD; cases nD)⟩
      have hk : 0 ≤ m.stk.length := by omega
      refine lc_range (lo := 0) (n := ((0 : Nat) : Int).toNat) (fun i H' => LS K S B h w A { m.next with stk := m.stk.take (m.stk.length - i) } H' ∧ H' D = some (.lst ((m.stk.reverse.take i).map V.int)) ∧ i ≤ 0) ⟨?_, upd_same, Nat.zero_le _⟩ ?_ ?_
      · rw [Nat.sub_zero, List.take_length]
        exact g.same (same_new nD _)
      · rintro i H' hi ⟨gi, hD, hik⟩
        have hi : i < 0 := hi
        obtain ⟨x, p1, p2, p3⟩ := pop_at m.stk i (by omega)
        refine ⟨rfl, ?_⟩
        unfold tYes
        refine iteT ?_
        refine ⟨_, rfl, .inl ⟨rfl, _, SqL.of gi.pile⟩, A.pl, _, .int x, rfl, rfl, gi.pile, p1, ?_⟩
        have g4 := gi.setPile (m.stk.take (m.stk.length - (i + 1)))
        rw [← p2] at g4
        have hD4 : (upd H' A.pl (.lst ((m.stk.take (m.stk.length - i)).map V.int).dropLast)) D = some (.lst ((m.stk.reverse.take i).map V.int)) := by rw [upd_ne nDD.1]; exact hD
        refine ⟨_, hD4, ?_, g4.updD hD4 nDD nB _, ?_, hi⟩
        · rw [List.length_map, List.length_take]
          exact Nat.lt_of_le_of_lt (Nat.min_le_left _ _) (Nat.lt_of_lt_of_le hi (by decide))
        · rw [p3, List.map_append]
          exact upd_same
      rintro H' ⟨gi, hD, _⟩
      have gi : LS K S B h w A { m.next with stk := m.stk.take (m.stk.length - 0) } H' := gi
      have hD : H' D = some (.lst ((m.stk.reverse.take 0).map V.int)) := hD
      refine ⟨D, _, rfl, SqL.of hD, fun q nq => ?_⟩
      have g := gi.same (same_new nq (.lst ((m.stk.reverse.take 0).map V.int).reverse))
      have hq : (upd H' q (.lst ((m.stk.reverse.take 0).map V.int).reverse)) q = some (.lst ((m.stk.reverse.take 0).map V.int).reverse) := upd_same
      generalize upd H' q (.lst ((m.stk.reverse.take 0).map V.int).reverse) = H5 at g hq ⊢
      have eK : m.stk.take (m.stk.length - 0) = m.stk := by rw [Nat.sub_zero, List.take_length]
      have eT : ((m.stk.reverse.take 0).map V.int).reverse = [] := by rfl
      rw [eT] at hq
      have g : LS K S B h w A { m.next with stk := m.stk } H5 := by
        have z := g
        rw [show ({ m.next with stk := m.stk.take (m.stk.length - 0) } : Ms) = { m.next with stk := m.stk } by rw [eK]] at z
        exact z
      clear gi hD nD eK eT
      refine ⟨_, rfl, S, _, rfl, g.get 3 rfl rfl, A.nw, _, rfl, .inr g.now, _, rfl, S, _, rfl, g.get 3 rfl rfl, A.nw, _, _, _, rfl, rfl, g.now, e0, sOf l0, rfl, by rw [sOf_len, w0]; exact Nat.le_trans g.sz.w2 (by decide), _, _, rfl, ?_⟩
      rw [rowsV_len, sOf_len, g.sz.len, w0]
      refine normS (σ' := [some (.ref S), some (.ref t), some (.str (Od.done).w), some (.int (Od.done).n), some (.ref A.pl), some (.int 0), some (.ref q), none, some (.int (h : Int)), some (.int (w : Int)), none, none, none]) rfl ?_
      refine ⟨_, rfl, (by show 4 ≤ sizeLine; decide), fun p np => rIn_lit ["push", "load", "rows", "cols"] (SqT.of upd_same) ⟨_, rfl, ?_⟩⟩
      have g := g.same (same_new np (.tup [.str "push", .str "load", .str "rows", .str "cols"]))
      have hq := same_new np (.tup [.str "push", .str "load", .str "rows", .str "cols"]) _ _ hq
      generalize upd H5 p (.tup [.str "push", .str "load", .str "rows", .str "cols"]) = H6 at g hq ⊢
      refine dF (by show ("done" : Str) ∉ (["push", "load", "rows", "cols"] : List Str); decide +kernel) ?_
      refine ⟨_, rfl, rfl, _, rfl, sF (by show ("done" : Str) ≠ "copy"; decide +kernel) ?_⟩
      refine ⟨_, rfl, rfl, _, rfl, sF (by show ("done" : Str) ≠ "store"; decide +kernel) ?_⟩
      refine ⟨_, rfl, (by show 3 ≤ sizeLine; decide), fun p np => rIn_lit ["jump", "zero", "some"] (SqT.of upd_same) ⟨_, rfl, ?_⟩⟩
      have g := g.same (same_new np (.tup [.str "jump", .str "zero", .str "some"]))
      have hq := same_new np (.tup [.str "jump", .str "zero", .str "some"]) _ _ hq
      generalize upd H6 p (.tup [.str "jump", .str "zero", .str "some"]) = H7 at g hq ⊢
      refine dF (by show ("done" : Str) ∉ (["jump", "zero", "some"] : List Str); decide +kernel) ?_
      refine ⟨_, rfl, (by show 3 ≤ sizeLine; decide), fun p np => rIn_lit ["neg", "not", "truth"] (SqT.of upd_same) ⟨_, rfl, ?_⟩⟩
      have g := g.same (same_new np (.tup [.str "neg", .str "not", .str "truth"]))
      have hq := same_new np (.tup [.str "neg", .str "not", .str "truth"]) _ _ hq
      generalize upd H7 p (.tup [.str "neg", .str "not", .str "truth"]) = H8 at g hq ⊢
      refine dF (by show ("done" : Str) ∉ (["neg", "not", "truth"] : List Str); decide +kernel) ?_
      refine ⟨_, rfl, (by show 2 ≤ sizeLine; decide), fun p np => rIn_lit ["row", "col"] (SqT.of upd_same) ⟨_, rfl, ?_⟩⟩
      have g := g.same (same_new np (.tup [.str "row", .str "col"]))
      have hq := same_new np (.tup [.str "row", .str "col"]) _ _ hq
      generalize upd H8 p (.tup [.str "row", .str "col"]) = H9 at g hq ⊢
      refine dF (by show ("done" : Str) ∉ (["row", "col"] : List Str); decide +kernel) ?_
      refine ⟨_, rfl, rfl, _, rfl, sF (by show ("done" : Str) ≠ "say"; decide +kernel) ?_⟩
      refine ⟨_, rfl, rfl, _, rfl, sF (by show ("done" : Str) ≠ "black"; decide +kernel) ?_⟩
      refine ⟨_, rfl, (by show 2 ≤ sizeLine; decide), fun p np => rIn_lit ["tick", "done"] (SqT.of upd_same) ⟨_, rfl, ?_⟩⟩
      have g := g.same (same_new np (.tup [.str "tick", .str "done"]))
      have hq := same_new np (.tup [.str "tick", .str "done"]) _ _ hq
      generalize upd H9 p (.tup [.str "tick", .str "done"]) = H10 at g hq ⊢
      refine dT (by show ("done" : Str) ∈ (["tick", "done"] : List Str); decide +kernel) ?_
      have es : stp h w .done m = { m.next with en := "done" } := by simp only [stp, act, Ms.next]
      rw [es] at k
      obtain ⟨d, g'⟩ := g.put 7 (f := "end") (v := .str "done") A { m.next with en := "done" } rfl rfl rfl rfl g.now g.sz
      obtain ⟨d2, g2⟩ := g'.put 6 (f := "left") (v := .int (m.tk - 1)) A { m.next with en := "done", tk := m.tk - 1 } rfl rfl rfl rfl g'.now g'.sz
      exact ⟨_, rfl, rfl, _, rfl, sT rfl ⟨_, rfl, S, _, rfl, d, _, rfl, S, _, rfl, g'.get 6 rfl rfl, _, _, rfl, rfl, _, rfl, S, _, rfl, d2, k A m.stk (m.tk - 1) _ g2 fun e => absurd (show ("done" : Str) = "" from e) (by decide +kernel)⟩⟩
    | frame n => exact lw.elim
    | _ => cases hn

end
end KD

/-! Codes as the law draws them; what holds step by step. -/
namespace KD
open PySem L2 TL
def drW : List Str := ["push", "load", "store", "copy", "rows", "cols", "neg", "not", "truth", "add", "sub", "mul", "lt", "le", "eq", "ne", "row", "col", "say", "jump", "zero", "some", "tick", "black"]
def drJ : List Str := ["jump", "zero", "some"]
def drT : List Str := ["load", "store", "tick", "push"]
/-- an order as the law draws it -/
def DrO (size : Nat) : Od → Prop
  | .push x => 0 ≤ x ∧ x ≤ 2 | .load k => k ≤ 1 | .store k => k ≤ 1 | .tick k => k ≤ 1
  | .jump k => 1 ≤ k ∧ k ≤ size | .zero k => 1 ≤ k ∧ k ≤ size | .some k => 1 ≤ k ∧ k ≤ size
  | .frame _ => False | _ => True
/-- a number as the law draws it for a word -/
def DrN (size : Nat) (w : Str) (n : Int) : Prop := (w ∈ drJ → 1 ≤ n ∧ n ≤ size) ∧ (w ∈ drT → 0 ≤ n ∧ n ≤ (if w = "push" then 2 else 1)) ∧ (w ∉ drJ → w ∉ drT → n = 0)
theorem mkOd {size : Nat} {w : Str} {n : Int} (hw : w ∈ drW) (h : DrN size w n) : ∃ od : Od, od.w = w ∧ od.n = n ∧ DrO size od ∧ od ≠ .done := by
  obtain ⟨h1, h2, h3⟩ := h
  unfold drW at hw
  simp only [List.mem_cons, List.not_mem_nil, or_false] at hw
  rcases hw with rfl | rfl | rfl | rfl | rfl | rfl | rfl | rfl | rfl | rfl | rfl | rfl | rfl | rfl | rfl | rfl | rfl | rfl | rfl | rfl | rfl | rfl | rfl | rfl
  · obtain ⟨a, b⟩ := h2 (by decide +kernel)
    rw [if_pos rfl] at b
    exact ⟨.push n, rfl, rfl, ⟨a, b⟩, by intro z; cases z⟩
  · obtain ⟨a, b⟩ := h2 (by decide +kernel)
    rw [if_neg (by decide +kernel)] at b
    exact ⟨.load n.toNat, rfl, by show ((n.toNat : Nat) : Int) = n; omega, by show n.toNat ≤ 1; omega, by intro z; cases z⟩
  · obtain ⟨a, b⟩ := h2 (by decide +kernel)
    rw [if_neg (by decide +kernel)] at b
    exact ⟨.store n.toNat, rfl, by show ((n.toNat : Nat) : Int) = n; omega, by show n.toNat ≤ 1; omega, by intro z; cases z⟩
  · exact ⟨.copy, rfl, (h3 (by decide +kernel) (by decide +kernel)).symm, trivial, by intro z; cases z⟩
  · exact ⟨.rows, rfl, (h3 (by decide +kernel) (by decide +kernel)).symm, trivial, by intro z; cases z⟩
  · exact ⟨.cols, rfl, (h3 (by decide +kernel) (by decide +kernel)).symm, trivial, by intro z; cases z⟩
  · exact ⟨(.one .neg), rfl, (h3 (by decide +kernel) (by decide +kernel)).symm, trivial, by intro z; cases z⟩
  · exact ⟨(.one .not), rfl, (h3 (by decide +kernel) (by decide +kernel)).symm, trivial, by intro z; cases z⟩
  · exact ⟨(.one .truth), rfl, (h3 (by decide +kernel) (by decide +kernel)).symm, trivial, by intro z; cases z⟩
  · exact ⟨(.two .add), rfl, (h3 (by decide +kernel) (by decide +kernel)).symm, trivial, by intro z; cases z⟩
  · exact ⟨(.two .sub), rfl, (h3 (by decide +kernel) (by decide +kernel)).symm, trivial, by intro z; cases z⟩
  · exact ⟨(.two .mul), rfl, (h3 (by decide +kernel) (by decide +kernel)).symm, trivial, by intro z; cases z⟩
  · exact ⟨(.two .lt), rfl, (h3 (by decide +kernel) (by decide +kernel)).symm, trivial, by intro z; cases z⟩
  · exact ⟨(.two .le), rfl, (h3 (by decide +kernel) (by decide +kernel)).symm, trivial, by intro z; cases z⟩
  · exact ⟨(.two .eq), rfl, (h3 (by decide +kernel) (by decide +kernel)).symm, trivial, by intro z; cases z⟩
  · exact ⟨(.two .ne), rfl, (h3 (by decide +kernel) (by decide +kernel)).symm, trivial, by intro z; cases z⟩
  · exact ⟨.row, rfl, (h3 (by decide +kernel) (by decide +kernel)).symm, trivial, by intro z; cases z⟩
  · exact ⟨.col, rfl, (h3 (by decide +kernel) (by decide +kernel)).symm, trivial, by intro z; cases z⟩
  · exact ⟨.say, rfl, (h3 (by decide +kernel) (by decide +kernel)).symm, trivial, by intro z; cases z⟩
  · obtain ⟨a, b⟩ := h1 (by decide +kernel)
    exact ⟨.jump n.toNat, rfl, by show ((n.toNat : Nat) : Int) = n; omega, by show 1 ≤ n.toNat ∧ n.toNat ≤ size; omega, by intro z; cases z⟩
  · obtain ⟨a, b⟩ := h1 (by decide +kernel)
    exact ⟨.zero n.toNat, rfl, by show ((n.toNat : Nat) : Int) = n; omega, by show 1 ≤ n.toNat ∧ n.toNat ≤ size; omega, by intro z; cases z⟩
  · obtain ⟨a, b⟩ := h1 (by decide +kernel)
    exact ⟨.some n.toNat, rfl, by show ((n.toNat : Nat) : Int) = n; omega, by show 1 ≤ n.toNat ∧ n.toNat ≤ size; omega, by intro z; cases z⟩
  · obtain ⟨a, b⟩ := h2 (by decide +kernel)
    rw [if_neg (by decide +kernel)] at b
    exact ⟨.tick n.toNat, rfl, by show ((n.toNat : Nat) : Int) = n; omega, by show n.toNat ≤ 1; omega, by intro z; cases z⟩
  · exact ⟨.black, rfl, (h3 (by decide +kernel) (by decide +kernel)).symm, trivial, by intro z; cases z⟩
/-- what holds of the machine after i orders while it runs -/
structure Bd (size i : Nat) (m : Ms) : Prop where
  a1 : 1 ≤ m.at_
  a2 : m.at_ ≤ size
  st : m.stk.length ≤ i
  sm : ∀ x ∈ m.stk, Small x
  sl : m.sl.length = 2
  ss : ∀ x, some x ∈ m.sl → Small x
  i0 : 0 ≤ m.idl
  i1 : m.idl ≤ i + 1
/-- lists that only grow by one -/
structure Bl (i : Nat) (m : Ms) : Prop where
  ln : m.ln.length ≤ i
  sd : m.sd.length ≤ i
theorem bl_step {h w : Nat} {od : Od} {m : Ms} {i : Nat} (b : Bl i m) : Bl (i + 1) (stp h w od m) := by
  have b1 : m.next.ln.length ≤ i := b.ln
  have b2 : m.next.sd.length ≤ i := b.sd
  unfold stp
  cases e : act h w od m.next with
  | error x => exact ⟨Nat.le_succ_of_le b1, Nat.le_succ_of_le b2⟩
  | ok m' =>
    show Bl (i + 1) m'
    cases od <;> simp only [act] at e
    all_goals first
      | (cases e; exact ⟨Nat.le_succ_of_le b1, Nat.le_succ_of_le b2⟩)
      | (cases e; done)
      | (split at e <;> first
          | (cases e; exact ⟨Nat.le_succ_of_le b1, Nat.le_succ_of_le b2⟩)
          | (cases e; exact ⟨Nat.le_succ_of_le b1, by show (_ ++ [_]).length ≤ _; rw [List.length_append]; exact Nat.succ_le_succ b2⟩)
          | (cases e; done)
          | (split at e <;> first
              | (cases e; exact ⟨Nat.le_succ_of_le b1, Nat.le_succ_of_le b2⟩)
              | (cases e; exact ⟨by show (_ ++ [_]).length ≤ _; rw [List.length_append]; exact Nat.succ_le_succ b1, Nat.le_succ_of_le b2⟩)
              | (cases e; done)))
theorem small_neg {x : Int} (h : Small x) : Small (-x) := ⟨by have := h.2; omega, by have := h.1; omega⟩
theorem small_one {o : O1} {x : Int} (h : Small x) : Small (o.v x) := by
  cases o with
  | neg => exact small_neg h
  | not => exact small_bit _
  | truth => exact small_bit _
theorem mem_drop {s : List Int} {x : Int} (h : x ∈ s.dropLast) : x ∈ s := List.dropLast_subset s h
theorem Bd.okm {size i : Nat} {m : Ms} (b : Bd size i m) (l : Bl i m) (hi : i ≤ 300) : OkM m :=
  ⟨Nat.le_trans b.st (by omega), Nat.le_trans l.ln (by omega), Nat.le_trans l.sd (by omega), by rw [b.sl]; decide, b.sm, b.ss⟩
/-- a stack that may stand at i -/
def StB (i : Nat) (s : List Int) : Prop := s.length ≤ i ∧ ∀ x ∈ s, Small x
theorem StB.push {i : Nat} {s : List Int} {x : Int} (g : StB i s) (hx : Small x) : StB (i + 1) (s ++ [x]) := by
  refine ⟨by rw [List.length_append]; exact Nat.succ_le_succ g.1, fun y hy => ?_⟩
  rcases List.mem_append.mp hy with hy | hy
  · exact g.2 y hy
  · rw [List.mem_singleton.mp hy]; exact hx
theorem StB.drop {i : Nat} {s : List Int} (g : StB i s) : StB i s.dropLast := ⟨by rw [List.length_dropLast]; exact Nat.le_trans (Nat.sub_le _ _) g.1, fun x hx => g.2 x (mem_drop hx)⟩
theorem StB.drop1 {i : Nat} {s : List Int} {x : Int} (g : StB i s) (h : s.getLast? = some x) : StB (i - 1) s.dropLast ∧ 1 ≤ i := by
  have e := last1 h
  have l : s.length = s.dropLast.length + 1 := by rw [List.length_dropLast]; have : 0 < s.length := by rw [e, List.length_append]; exact Nat.lt_of_lt_of_le Nat.zero_lt_one (Nat.le_add_left _ _)
                                                  omega
  have l1 := g.1
  exact ⟨⟨by omega, fun x hx => g.2 x (mem_drop hx)⟩, by omega⟩
theorem StB.mono {i j : Nat} {s : List Int} (g : StB i s) (h : i ≤ j) : StB j s := ⟨Nat.le_trans g.1 h, g.2⟩
theorem StB.last {i : Nat} {s : List Int} {x : Int} (g : StB i s) (h : s.getLast? = some x) : Small x := g.2 x (List.mem_of_getLast? h)
theorem small_nat {n : Nat} (h : n ≤ 20) : Small (n : Int) := ⟨by omega, by omega⟩
theorem small_cell (p : Pic) (r c : Int) : Small (cellP p r c) := small_bit _
theorem bd_step {h w size i : Nat} {od : Od} {m : Ms} (b : Bd size i m) (d : DrO size od) (h20 : h ≤ 20) (w20 : w ≤ 20) (lt : m.at_ + 1 ≤ size) (e0 : (stp h w od m).en = "") : Bd size (i + 1) (stp h w od m) := by
  have s : StB i m.next.stk := ⟨b.st, b.sm⟩
  have b1 := b.a1
  have i0 := b.i0
  have i1 := b.i1
  have a1 : 1 ≤ m.next.at_ := by show 1 ≤ m.at_ + 1; omega
  have a2 : m.next.at_ ≤ size := lt
  have j0 : 0 ≤ m.next.idl := by show 0 ≤ m.idl + 1; omega
  have j1 : m.next.idl ≤ ((i + 1 : Nat) : Int) + 1 := by show m.idl + 1 ≤ _; omega
  have sl : m.next.sl.length = 2 := b.sl
  have ss : ∀ x, some x ∈ m.next.sl → Small x := b.ss
  unfold stp at e0 ⊢
  cases e : act h w od m.next with
  | error x =>
    rw [e] at e0
    have e0 : x = "" := e0
    have q := act_err e
    rw [e0] at q
    exact absurd q (by decide +kernel)
  | ok m' =>
    show Bd size (i + 1) m'
    clear e0
    have mk : ∀ (s' : List Int) (p : Pic) (ln : List Nat) (sd : List Int), StB (i + 1) s' → Bd size (i + 1) { m.next with stk := s', pic := p, ln := ln, sd := sd } := fun s' p ln sd g => ⟨a1, a2, g.1, g.2, sl, ss, j0, j1⟩
    cases od with
    | push n =>
      cases e
      obtain ⟨d1, d2⟩ := d
      exact mk _ _ _ _ (s.push ⟨by omega, by omega⟩)
    | load k =>
      simp only [act] at e
      split at e
      · rename_i y q
        cases e
        exact mk _ _ _ _ (s.push (ss y (List.mem_of_getElem? q)))
      · cases e
    | store k =>
      simp only [act] at e
      split at e
      · rename_i y q
        cases e
        refine ⟨a1, a2, (s.drop.mono (Nat.le_succ i)).1, s.drop.2, by rw [List.length_set]; exact sl, fun x hx => ?_, j0, j1⟩
        rcases List.mem_or_eq_of_mem_set hx with hx | hx
        · exact ss x hx
        · rw [Option.some.inj hx]; exact s.last q
      · cases e
    | copy =>
      simp only [act] at e
      split at e
      · rename_i y q
        cases e
        obtain ⟨g, gi⟩ := s.drop1 q
        have z := (g.push (s.last q)).push (s.last q)
        rw [List.append_assoc] at z
        exact mk _ _ _ _ (z.mono (by omega))
      · cases e
    | rows =>
      cases e
      exact mk _ _ _ _ (s.push (small_nat h20))
    | cols =>
      cases e
      exact mk _ _ _ _ (s.push (small_nat w20))
    | black =>
      simp only [act] at e
      split at e
      · split at e
        · cases e
          exact mk _ _ _ _ (s.drop.drop.push (small_cell _ _ _))
        · cases e
      · cases e
    | two o =>
      simp only [act] at e
      split at e
      · split at e
        · rename_i q
          cases e
          exact mk _ _ _ _ (s.drop.drop.push q)
        · cases e
      · cases e
    | one o =>
      simp only [act] at e
      split at e
      · rename_i y q
        cases e
        exact mk _ _ _ _ (s.drop.push (small_one (s.last q)))
      · cases e
    | row =>
      simp only [act] at e
      split at e
      · split at e
        · cases e
          exact mk _ _ _ _ (s.drop.mono (Nat.le_succ i))
        · cases e
      · cases e
    | col =>
      simp only [act] at e
      split at e
      · split at e
        · cases e
          exact mk _ _ _ _ (s.drop.mono (Nat.le_succ i))
        · cases e
      · cases e
    | say =>
      simp only [act] at e
      split at e
      · cases e
        exact mk _ _ _ _ (s.drop.mono (Nat.le_succ i))
      · cases e
    | jump k =>
      cases e
      obtain ⟨d1, d2⟩ := d
      exact ⟨by show 1 ≤ ((k : Nat) : Int); omega, by show ((k : Nat) : Int) ≤ size; omega, (s.mono (Nat.le_succ i)).1, s.2, sl, ss, j0, j1⟩
    | zero k =>
      obtain ⟨d1, d2⟩ := d
      simp only [act] at e
      split at e
      · rename_i y q
        cases e
        refine ⟨?_, ?_, (s.drop.mono (Nat.le_succ i)).1, s.drop.2, sl, ss, j0, j1⟩
        · show (1 : Int) ≤ (if y = 0 then (k : Int) else m.next.at_); split <;> omega
        · show (if y = 0 then (k : Int) else m.next.at_) ≤ (size : Int); split <;> omega
      · cases e
    | some k =>
      obtain ⟨d1, d2⟩ := d
      simp only [act] at e
      split at e
      · rename_i y q
        cases e
        refine ⟨?_, ?_, (s.drop.mono (Nat.le_succ i)).1, s.drop.2, sl, ss, j0, j1⟩
        · show (1 : Int) ≤ (if y = 0 then m.next.at_ else (k : Int)); split <;> omega
        · show (if y = 0 then m.next.at_ else (k : Int)) ≤ (size : Int); split <;> omega
      · cases e
    | tick k =>
      simp only [act] at e
      split at e
      · cases e
      · cases e
        exact ⟨a1, a2, (s.mono (Nat.le_succ i)).1, s.2, sl, ss, Int.le_refl 0, by show (0 : Int) ≤ _; omega⟩
    | frame k => exact d.elim
    | done => cases e
/-- a run begun -/
def Pre (h w : Nat) (code : List Od) (m0 m : Ms) : Prop := ∃ n, ∀ k mE, Runs h w code k m mE → Runs h w code (k + n) m0 mE
theorem Pre.step {h w : Nat} {code : List Od} {m0 m : Ms} {od : Od} (p : Pre h w code m0 m) (e : m.en = "") (c : CanDo h w code m od) : Pre h w code m0 (stp h w od m) := by
  obtain ⟨n, p⟩ := p
  refine ⟨n + 1, fun k mE r => ?_⟩
  rw [show k + (n + 1) = (k + 1) + n by omega]
  exact p _ _ (.turn e c r)
theorem Pre.stop {h w : Nat} {code : List Od} {m0 m : Ms} (p : Pre h w code m0 m) (e : m.en ≠ "") : ∃ n, Runs h w code n m0 m := by
  obtain ⟨n, p⟩ := p
  exact ⟨_, p _ _ (.stop e)⟩
/-- the machine behind its first order, a frame of two -/
def ms1 (p : Pic) (tk : Int) : Ms := ⟨1, [], [none, none], p, tk, [], [], 1, 1, .non, ""⟩
theorem pre_one {h w : Nat} {code : List Od} {p : Pic} {tk : Int} (e : code[0]? = some (.frame 2)) : Pre h w code (ms0 p tk) (ms1 p tk) := by
  have z : Pre h w code (ms0 p tk) (stp h w (.frame 2) (ms0 p tk)) := Pre.step ⟨0, fun k mE r => r⟩ rfl ⟨Int.le_refl 0, e, ⟨⟨Nat.zero_le _, Nat.zero_le _, Nat.zero_le _, Nat.zero_le _, (fun _ h => nomatch h), (fun _ h => nomatch h)⟩, by show 2 ≤ 10; decide⟩, by show (0 : Int) + 1 < 100000; decide, Int.le_refl 0⟩
  exact z
theorem bd_one {size : Nat} {p : Pic} {tk : Int} (h : 1 ≤ size) : Bd size 0 (ms1 p tk) := by
  refine ⟨Int.le_refl 1, by show (1 : Int) ≤ size; omega, Nat.le_refl 0, (fun _ h => nomatch h), rfl, fun x hx => ?_, by show (0 : Int) ≤ 1; decide, by show (1 : Int) ≤ _; decide⟩
  have z : some x ∈ ([none, none] : List (Option Int)) := hx
  simp at z
end KD

/-! As EBX: the law's picture, without EBX's imports. -/
namespace KD
open PySem L2 TL EB
def spLPic (K : PySem.W.Frag) : Sp := fun vs H Q _ => ∃ (r s : Addr) (h w : Nat), vs = [.ref r, .int (h : Int), .int (w : Int)] ∧ RowAt H r s ∧ Scr K H r s ∧ 1 ≤ h ∧ h ≤ 20 ∧ 1 ≤ w ∧ w ≤ 20 ∧
  ∀ (H' : Hp) (c : Addr) (p : Pic), Keep r H H' → RowAt H' r s → SqT K H' c (rowsV p) → Sized h w p → BW p → Q (.ref c) H'
theorem Keep.same' {r : Addr} {H H' : Hp} (s : Same H H') : Keep r H H' := fun b o _ h => s b o h
theorem pe_joinK {X : Cx} {o e : Expr} {to te : TE} {apos pos : Pos} (K : PySem.W.Frag) (hK : X.K = K) (ho : PE X o to) (he : PE X e te) (hs : starEach [e] X.env = [(false, eval e X.env)] := by rfl) (hbase : attributeBase o "join" X.env (eval o X.env) = eval o X.env := by rfl) (hline : (apos.endLine == pos.line) = true := by rfl) :
    PE X (.Call (.Attribute o "join" apos) [e] [] pos) (tM1 (fun x xs H Q => ∃ a p, ∃ ys : List Str, x = .str a ∧ xs = [.ref p] ∧ (SqL K H p (ys.map V.str) ∨ SqT K H p (ys.map V.str)) ∧
      (ys.map (·.length)).sum + ys.length * a.length ≤ 16777216 ∧ Q (.str (Txt.join a ys)) H) to te) := by
  subst hK
  exact pe_join ho he hs hbase hline
theorem tY {σ : L2.St} {H : Hp} {Q : Bool → Hp → Prop} (h : Q true H) : tYes σ H Q := h
theorem join_sOf : ∀ z : List Nat, Str.join "" (z.map fun c => sOf [c]) = sOf z
  | [] => rfl
  | [c] => rfl
  | c :: d :: z => by
    show sOf [c] ++ "" ++ Str.join "" ((d :: z).map fun c => sOf [c]) = _
    rw [join_sOf (d :: z), show sOf [c] ++ ("" : Str) = sOf [c] from rfl, sOf_app]
    rfl
section
variable {P : Program} {w : World} {K : PySem.W.Frag} {mg : Str → Option Value} {base : Heap}
abbrev pcN : List Str := ["row", "high", "wide", "spot", "at"]
theorem scPc : FnScope pcN ["row", "high", "wide"] (defScope S__law_picture) := ⟨rfl, rfl, rfl, by decide +kernel, rfl, by decide +kernel, by decide +kernel⟩
theorem ok_lpic {f fP : Addr} {fd fdP : FuncData} (F : Fun K "_law_picture" "_law_picture" S__law_picture f fd) (T : Blt mg)
    (GP : FnOk P w K mg base CX0 2 fP fdP ["row", "things"] (spPick K)) (mP : mg "_law_pick" = some (.ref fP)) (kP : PySem.W.keepIn K (.ref fP) = true) (bP : Binds K fdP ["row", "things"] []) :
    FnOk P w K mg base CX0 3 f fd ["row", "high", "wide"] (spLPic K) := by
  refine F.ok scPc (fun vs H Q E hh => ?_) (fun cdv A outer s0 H vs Q E hr hh => ?_)
  · obtain ⟨r, s, h, w, rfl, _⟩ := hh
    rfl
  obtain ⟨r, s, h, w, rfl, hR, hS, h1, h2, w1, w2, k⟩ := hh
  refine ⟨_, pss_one (ps_ret (pe_callTy call_tuple_of (by rfl) T.tup (by decide +kernel) (pa_cons (pe_lc (own := [("at", 4)]) (g := gName 4) rfl scPc.nd (pi_range1 rfl T.range (pa_cons (pv 1) pa_nil))
    (blkOk_by (own := [("at", 4)]) (N := pcN) (sc := defScope S__law_picture) (by decide +kernel)) (fun _ _ _ _ _ => pg_name (i := 4) scPc.nd rfl (Or.inl rfl)) (fun _ _ _ _ _ => pts_nil)
    (fun _ _ _ _ _ => pe_joinK K rfl pe_str (pe_lc (own := [("spot", 3)]) (g := gName 3) rfl scPc.nd (pi_range1 rfl T.range (pa_cons (pv 2) pa_nil))
      (blkOk_by (own := [("spot", 3)]) (N := pcN) (by rfl)) (fun _ _ _ _ _ => pg_name (i := 3) scPc.nd rfl (Or.inl rfl)) (fun _ _ _ _ _ => pts_nil)
      (fun _ _ _ _ _ => pe_call GP hr rfl mP kP bP .nil pass0 (pa_cons (pv 0) (pa_cons pe_str pa_nil)))))) pa_nil))), ?_⟩
  refine ⟨_, rfl, _, rfl, by omega, by omega, fun D nD => ?_⟩
  have nrD := hR.ne nD
  refine lc_range (lo := 0) (n := ((h : Nat) : Int).toNat) (fun i H' => ∃ p : Pic, p.length = i ∧ (∀ l ∈ p, l.length = w) ∧ BW p ∧ H' D = some (.lst (rowsV p)) ∧ Keep r H H' ∧ RowAt H' r s)
    ⟨[], rfl, (fun _ h => nomatch h), (fun _ h => nomatch h), upd_same, Keep.same' (same_new nD _), hR.new nD _⟩ ?_ ?_
  · rintro i H1 hi ⟨p, pl, pw, pb, hD, k1, R1⟩
    refine ⟨rfl, tY (iteT ?_)⟩
    refine ⟨⟨_, rfl⟩, _, rfl, _, rfl, by omega, by omega, fun D2 nD2 => ?_⟩
    have nDD : D ≠ D2 := ne_of_none hD nD2
    have nrD2 := R1.ne nD2
    refine lc_range (lo := 0) (n := ((w : Nat) : Int).toNat) (fun j H' => ∃ z : List Nat, z.length = j ∧ (∀ c ∈ z, c = 35 ∨ c = 46) ∧ H' D2 = some (.lst (z.map fun c => V.str (sOf [c]))) ∧ Keep r H1 H' ∧ RowAt H' r s)
      ⟨[], rfl, (fun _ h => nomatch h), upd_same, Keep.same' (same_new nD2 _), R1.new nD2 _⟩ ?_ ?_
    · rintro j H2 hj ⟨z, zl, zb, hD2, k2, R2⟩
      refine ⟨rfl, ?_⟩
      unfold tYes
      refine iteT ?_
      refine ⟨_, rfl, r, s, _, rfl, R2, hS.mono (k1.trans k2), .inr ⟨_, rfl, by decide, by decide, fun H3 c k3 R3 hc => ?_⟩⟩
      have hc2 : c = 35 ∨ c = 46 := by
        have e : tl ("#." : Str) = [35, 46] := by decide +kernel
        rw [e] at hc
        simpa using hc
      have hD3 := k3 _ _ nrD2 hD2
      refine ⟨_, hD3, by rw [List.length_map]; exact Nat.lt_of_le_of_lt (show z.length ≤ 20 by omega) (by decide), z ++ [c], by rw [List.length_append, zl]; rfl, fun d hd => ?_, ?_, fun b o n hb => ?_, ?_⟩
      · rcases List.mem_append.mp hd with q | q
        · exact zb d q
        · rw [List.mem_singleton.mp q]
          exact hc2
      · rw [List.map_append]
        exact upd_same
      · rw [upd_ne (ne_of_none hb nD2)]
        exact k3 _ _ n (k2 _ _ n hb)
      · obtain ⟨x1, x2, x3, q1, q2⟩ := R3
        exact ⟨x1, x2, x3, by rw [upd_ne nrD2.symm]; exact q1, q2⟩
    · rintro H2 ⟨z, zl, zb, hD2, k2, R2⟩
      have hD3 := k2 _ _ nrD hD
      refine ⟨_, D2, z.map fun c => sOf [c], rfl, rfl, .inl (SqL.of (by rw [List.map_map]; exact hD2)), ?_, ?_⟩
      · have e0 : ((z.map fun c => sOf [c]).map (·.length)).sum = z.length := by
          rw [List.map_map]
          clear zl zb hD2
          induction z with
          | nil => rfl
          | cons a z ih =>
            rw [List.map_cons, List.sum_cons, ih, List.length_cons]
            show (sOf [a]).length + _ = _
            rw [sOf_len]
            show 1 + _ = _
            omega
        rw [e0]
        show z.length + (z.map fun c => sOf [c]).length * 0 ≤ _
        omega
      · have ej : Txt.join ("" : Str) (z.map fun c => sOf [c]) = sOf z := by
          rw [join_eq]
          clear zl zb hD2
          exact join_sOf z
        rw [ej]
        refine ⟨rowsV p, hD3, by rw [rowsV_len]; exact Nat.lt_of_le_of_lt (show p.length ≤ 20 by omega) (by decide), p ++ [z], by rw [List.length_append, pl]; rfl, fun l hl => ?_, fun l hl => ?_, ?_, fun b o n hb => ?_, ?_⟩
        · rcases List.mem_append.mp hl with q | q
          · exact pw l q
          · rw [List.mem_singleton.mp q, zl]
            omega
        · rcases List.mem_append.mp hl with q | q
          · exact pb l q
          · rw [List.mem_singleton.mp q]
            exact zb
        · unfold rowsV
          rw [List.map_append]
          exact upd_same
        · rw [upd_ne (ne_of_none hb nD)]
          exact k2 _ _ n (k1 _ _ n hb)
        · obtain ⟨x1, x2, x3, q1, q2⟩ := R2
          exact ⟨x1, x2, x3, by rw [upd_ne nrD.symm]; exact q1, q2⟩
  · rintro H1 ⟨p, pl, pw, pb, hD, k1, R1⟩
    refine ⟨D, _, rfl, .inl ⟨SqL.of hD, fun t ht => ?_⟩⟩
    exact k _ t p (fun b o n hb => by rw [upd_ne (ne_of_none (k1 _ _ n hb) ht)]; exact k1 _ _ n hb) (R1.new ht _) (SqT.of upd_same) ⟨h1, h2, w1, w2, by omega, pw⟩ pb
end
theorem u65 {k : Nat} {A : Around} (r : Room k A) : A.units + 65 < cLine := by have := r.un; omega
theorem gNm {i : Nat} {v : V} {σ : L2.St} {H : Hp} {Q : L2.St → Hp → Prop} (h : Q (σ.set i (some v)) H) : gName i v σ H Q := h
theorem seqI {t u : TS} {D : Ends} {σ : L2.St} {H : Hp} (h : t { D with nx := u D } σ H) : tSeq t u D σ H := h
theorem parI {i j : Nat} {ta : TA} {D : Ends} {σ : L2.St} {H : Hp} (h : ta σ H fun vs H1 => ∃ v w, vs = [v, w] ∧ D.nx ((σ.set i (some v)).set j (some w)) H1) : tPar i j ta D σ H := h
theorem consI {ta : TE} {tr : TA} {σ : L2.St} {H : Hp} {Q : List V → Hp → Prop} (h : ta σ H fun x H1 => tr σ H1 fun xs H2 => Q (x :: xs) H2) : tCons ta tr σ H Q := h
theorem ifsI {c : TT} {t u : TS} {D : Ends} {σ : L2.St} {H : Hp} (h : c σ H fun b H1 => if b = true then t D σ H1 else u D σ H1) : tIfS c t u D σ H := h
theorem nxI {D : Ends} {σ : L2.St} {H : Hp} (h : D.nx σ H) : tNext D σ H := h
structure LwT (P : Program) (w : World) (K : PySem.W.Frag) (mg : Str → Option Value) (base : Heap) (n : Nat) (nm : Str) (ps : List Str) (sp : Sp) : Prop where
  ex : ∃ f fd, FnOk P w K mg base CX0 n f fd ps sp ∧ mg nm = some (.ref f) ∧ PySem.W.keepIn K (.ref f) = true ∧ Binds K fd ps []
/-- the law's row of draws -/
structure Rw (K : PySem.W.Frag) (r s : Addr) (H : Hp) : Prop where
  row : RowAt H r s
  scr : Scr K H r s
theorem Rw.keep {K : PySem.W.Frag} {r s : Addr} {H H' : Hp} (g : Rw K r s H) (k : Keep r H H') (R : RowAt H' r s) : Rw K r s H' := ⟨R, g.scr.mono k⟩
theorem Rw.same {K : PySem.W.Frag} {r s : Addr} {H H' : Hp} (g : Rw K r s H) (k : Same H H') : Rw K r s H' := g.keep (Keep.same' k) (by
  obtain ⟨i, a, b, h, h2⟩ := g.row
  exact ⟨i, a, b, k _ _ h, h2⟩)
theorem Rw.ner {K : PySem.W.Frag} {r s b : Addr} {H : Hp} (g : Rw K r s H) (h : H b = none) : b ≠ r := g.row.ne h
theorem Rw.net {K : PySem.W.Frag} {r s b : Addr} {H : Hp} {xs : List V} (g : Rw K r s H) (h : H b = some (.tup xs)) : b ≠ r := by
  obtain ⟨ys, hy⟩ := g.row.is
  exact ne_of h hy (by intro z; cases z)
theorem Rw.new {K : PySem.W.Frag} {r a : Addr} {H : Hp} {ns : List Int} {n : Int} (hS : SqL K H a (ns.map V.int)) (h63 : ns.length ≤ 63) (nr : H r = none) (n0 : 0 ≤ n) (n1 : n < 2147483647) :
    Rw K r a (upd H r (.lst [.ref a, .int 0, .int n, .int 0])) :=
  ⟨⟨0, n, 0, upd_same, by decide, n0, n1⟩, ⟨ns, h63, fun H' kp => Same.seq (fun b o q => kp b o (ne_of_none q nr) (same_new nr (.lst [.ref a, .int 0, .int n, .int 0]) b o q)) hS⟩⟩
end KD

/-! k10: the law. -/
namespace KD
open PySem L2 TL EB
def spLaw (K : PySem.W.Frag) (PT : Addr) : Sp := fun vs H Q _ => ∃ (a : Addr) (ns : List Int), vs = [.ref a] ∧ SqL K H a (ns.map V.int) ∧ ns.length ≤ 63 ∧ GN.Tab PT H ∧ ∀ H', GN.Tab PT H' → Q (.bl true) H'

def drL : List Str := ["push", "push", "push", "load", "store", "copy", "rows", "cols", "neg", "not", "truth", "add", "sub", "mul", "lt", "le", "eq", "ne", "row", "col", "say", "jump", "zero", "some", "tick", "black"]
def pairW : List Str := ["add", "sub", "mul", "lt", "le", "eq", "ne", "black"]
theorem drL_in {x : Str} (h : x ∈ drL) : x ∈ drW := by
  have z : drL.all (fun x => decide (x ∈ drW)) = true := by decide +kernel
  exact of_decide_eq_true (List.all_eq_true.mp z x h)
/-- drawn orders in memory -/
def OM (ps : List (Addr × Od)) (H : Hp) : Prop := ∀ p ∈ ps, H p.1 = some (.tup [.str p.2.w, .int p.2.n])
structure D0 (K : PySem.W.Frag) (PT r s : Addr) (Hb : Hp) (ps : List (Addr × Od)) (H : Hp) : Prop where
  row : RowAt H r s
  sc : Scr K Hb r s
  kp : Keep r Hb H
  tb : GN.Tab PT H
  pr : PT ≠ r
  om : OM ps H
section
variable {K : PySem.W.Frag} {PT r s L J : Addr} {ps : List (Addr × Od)} {Hb H H' : Hp}
theorem D0.rw (g : D0 K PT r s Hb ps H) : Rw K r s H := ⟨g.row, g.sc.mono g.kp⟩
theorem D0.keep (g : D0 K PT r s Hb ps H) (k : Keep r H H') (R : RowAt H' r s) : D0 K PT r s Hb ps H' := ⟨R, g.sc, g.kp.trans k, k _ _ g.pr g.tb, g.pr, fun p m => k _ _ (g.rw.net (g.om p m)) (g.om p m)⟩
theorem D0.same (g : D0 K PT r s Hb ps H) (k : Same H H') : D0 K PT r s Hb ps H' := ⟨(g.rw.same k).row, g.sc, g.kp.trans (Keep.same' k), k _ _ g.tb, g.pr, fun p m => k _ _ (g.om p m)⟩
theorem D0.new (g : D0 K PT r s Hb ps H) {t : Addr} {od : Od} (n : H t = none) : D0 K PT r s Hb (ps ++ [(t, od)]) (upd H t (.tup [.str od.w, .int od.n])) := by
  have g2 := g.same (same_new n (.tup [.str od.w, .int od.n]))
  refine ⟨g2.row, g2.sc, g2.kp, g2.tb, g2.pr, fun p m => ?_⟩
  rcases List.mem_append.mp m with m | m
  · exact g2.om p m
  · rw [List.mem_singleton.mp m]
    exact upd_same
theorem D0.out (g : D0 K PT r s Hb ps H) {t : Addr} (n : H t = none) : Hb t = none := by
  cases e : Hb t with
  | none => rfl
  | some o => rw [g.kp t o (g.rw.ner n) e] at n; cases n
def refs (ps : List (Addr × Od)) : List V := ps.map fun p => V.ref p.1
structure Dw (K : PySem.W.Frag) (PT r s L J : Addr) (Hb : Hp) (ps : List (Addr × Od)) (H : Hp) : Prop where
  d : D0 K PT r s Hb ps H
  told : H L = some (.lst (refs ps))
  prs : H J = some (.lst (pairW.map V.str))
  nL : L ≠ r
  nJ : J ≠ r
  nLJ : L ≠ J
  bL : Hb L = none
theorem Dw.keep (g : Dw K PT r s L J Hb ps H) (k : Keep r H H') (R : RowAt H' r s) : Dw K PT r s L J Hb ps H' := ⟨g.d.keep k R, k _ _ g.nL g.told, k _ _ g.nJ g.prs, g.nL, g.nJ, g.nLJ, g.bL⟩
theorem Dw.same (g : Dw K PT r s L J Hb ps H) (k : Same H H') : Dw K PT r s L J Hb ps H' := ⟨g.d.same k, k _ _ g.told, k _ _ g.prs, g.nL, g.nJ, g.nLJ, g.bL⟩
theorem Dw.push (g : Dw K PT r s L J Hb ps H) {t : Addr} {od : Od} (n : H t = none) : Dw K PT r s L J Hb (ps ++ [(t, od)]) (upd (upd H t (.tup [.str od.w, .int od.n])) L (.lst (refs ps ++ [.ref t]))) := by
  have g2 := g.d.new (od := od) n
  have g3 := g.same (same_new n (.tup [.str od.w, .int od.n]))
  obtain ⟨i, x, y, hr, hr2⟩ := g2.rw.row
  have k : ∀ b o, b ≠ L → (upd H t (.tup [.str od.w, .int od.n])) b = some o → (upd (upd H t (.tup [.str od.w, .int od.n])) L (.lst (refs ps ++ [.ref t]))) b = some o := fun b o nb hb => by rw [upd_ne nb]; exact hb
  have nT : PT ≠ L := ne_of g3.d.tb g3.told (by intro z; cases z)
  refine ⟨⟨⟨i, x, y, k _ _ g.nL.symm hr, hr2⟩, g2.sc, fun b o nb hb => k _ _ (ne_of_none hb g.bL) (g2.kp _ _ nb hb), k _ _ nT g2.tb, g2.pr, fun p m => k _ _ (ne_of (g2.om p m) g3.told (by intro z; cases z)) (g2.om p m)⟩, ?_, k _ _ g.nLJ.symm g3.prs, g.nL, g.nJ, g.nLJ, g.bL⟩
  · rw [show refs (ps ++ [(t, od)]) = refs ps ++ [.ref t] by unfold refs; rw [List.map_append]; rfl]
    exact upd_same
end
theorem seqJ {t u : TS} {D : Ends} {σ : L2.St} {H : Hp} (J : L2.St → Hp → Prop) (h1 : ∀ G : L2.St → Hp → Prop, (∀ σ' H', J σ' H' → G σ' H') → t { D with nx := G } σ H) (h2 : ∀ σ' H', J σ' H' → u D σ' H') : tSeq t u D σ H := h1 (u D) h2
theorem rIn_litL {K : PySem.W.Frag} {x : Str} (ws : List Str) {p : Addr} {H : Hp} {Q : VK} (h : SqL K H p (ws.map V.str)) (q : Q (.bl (decide (x ∈ ws))) H) : rIn K false (.str x) (.ref p) H Q := by
  refine ⟨p, _, rfl, .inl h, rfl, flatS ws, ?_⟩
  show Q (.bl (inV (V.str x) (ws.map V.str))) H
  rw [in_strs]
  exact q
theorem nF {a b : Str} {x y : Prop} (h : a = b) (k : y) : if (!decide (V.str a = V.str b)) = true then x else y := by
  rw [if_neg (by rw [decide_eq_true (by rw [h])]; decide)]; exact k
theorem nT {a b : Str} {x y : Prop} (h : a ≠ b) (k : x) : if (!decide (V.str a = V.str b)) = true then x else y := by
  rw [if_pos (by rw [decide_eq_false (fun z => h (V.str.inj z))]; rfl)]; exact k
/-- the law's slots while it draws -/
def sgD (a r : Addr) (size : Nat) (dp : Int) (L J : Addr) (v6 v7 : Option V) (w : Str) (n nd : Int) (v11 : Option V) : L2.St :=
  [some (.ref a), some (.ref r), some (.int (size : Int)), some (.int dp), some (.ref L), some (.ref J), v6, v7, some (.str w), some (.int n), some (.int nd), v11, none, none, none, none, none]

theorem leafs {α : Type} (f : α → PyData) (h0 : ∀ x, PyData.depth (f x) = 0) (h1 : ∀ x, slimD (f x) = true) : ∀ l : List α, PyData.depthAll (l.map f) = 0 ∧ slimDs (l.map f) = true
  | [] => ⟨rfl, rfl⟩
  | x :: l => by
    obtain ⟨a, b⟩ := leafs f h0 h1 l
    refine ⟨?_, ?_⟩
    · show max (PyData.depth (f x)) (PyData.depthAll (l.map f)) = 0
      rw [h0, a]
      rfl
    · show (slimD (f x) && slimDs (l.map f)) = true
      rw [h1, b]
      rfl
theorem run_slim {m : Ms} (a : m.pic.length ≤ 1000000) (b : m.ln.length ≤ 1000000) (c : m.sd.length ≤ 1000000) : PyData.depth (runD m) < 5 ∧ slimD (runD m) = true := by
  obtain ⟨a1, a2⟩ := leafs (fun l : List Nat => PyData.str (sOf l)) (fun _ => rfl) (fun _ => rfl) m.pic
  obtain ⟨b1, b2⟩ := leafs (fun k : Nat => PyData.int (k : Int)) (fun _ => rfl) (fun _ => rfl) m.ln
  obtain ⟨c1, c2⟩ := leafs PyData.int (fun _ => rfl) (fun _ => rfl) m.sd
  constructor
  · unfold runD
    simp only [PyData.depth, PyData.depthAll, a1, b1, c1]
    decide
  · unfold runD
    simp only [slimD, slimDs, a2, b2, c2, List.length_map, decide_eq_true a, decide_eq_true b, decide_eq_true c, Bool.and_true]
    exact decide_eq_true (by show 4 ≤ 1000000; decide)
theorem om_dp {K : PySem.W.Frag} {H : Hp} : ∀ {ps : List (Addr × Od)}, OM ps H → DpAll K H (refs ps) ((ps.map Prod.snd).map odD)
  | [], _ => .nil
  | p :: ps, h => .cons (.tup (SqT.of (h p List.mem_cons_self)) (.cons (.str _) (.cons (.int _) .nil))) (om_dp fun q m => h q (List.mem_cons_of_mem _ m))
theorem kt_keep {K : PySem.W.Frag} {H H' : Hp} {r s : Addr} (g : Rw K r s H) (k : Keep r H H') : KT K H H' := fun a xs q => by
  obtain ⟨ys, hy⟩ := g.row.is
  rcases q with (q | ⟨u, q⟩) | q
  · exact .inl (.inl (k _ _ (ne_of q hy (by intro z; cases z)) q))
  · exact .inl (.inr ⟨u, k _ _ (ne_of q hy (by intro z; cases z)) q⟩)
  · exact .inr q
theorem LS.mk0 {K : PySem.W.Frag} {S pl sl nw ln sd : Addr} {B : Hp} {h w : Nat} {p : Pic} {tk : Int} (hp : SqT K B nw (rowsV p)) (sz : Sized h w p) (nS : B S = none) (npl : (upd B S (.dK [])) pl = none) (nsl : (upd (upd B S (.dK [])) pl (.lst [])) sl = none)
    (nln : (upd (upd (upd B S (.dK [])) pl (.lst [])) sl (.lst [.non, .non])) ln = none) (nsd : (upd (upd (upd (upd B S (.dK [])) pl (.lst [])) sl (.lst [.non, .non])) ln (.lst [])) sd = none) :
    (upd (upd (upd (upd (upd B S (.dK [])) pl (.lst [])) sl (.lst [.non, .non])) ln (.lst [])) sd (.lst [])) S = some (.dK []) ∧
    LS K S B h w ⟨pl, sl, nw, ln, sd⟩ (ms1 p tk) (upd (upd (upd (upd (upd (upd B S (.dK [])) pl (.lst [])) sl (.lst [.non, .non])) ln (.lst [])) sd (.lst [])) S (.dK (mergeK [] (kvS ⟨pl, sl, nw, ln, sd⟩ (ms1 p tk))))) := by
  have q0 := same_new nS (.dK [])
  have q1 := same_new npl (.lst [])
  have q2 := same_new nsl (.lst [.non, .non])
  have q3 := same_new nln (.lst [])
  have q4 := same_new nsd (.lst [])
  have uS : (upd (upd (upd (upd (upd B S (.dK [])) pl (.lst [])) sl (.lst [.non, .non])) ln (.lst [])) sd (.lst [])) S = some (.dK []) := q4 _ _ (q3 _ _ (q2 _ _ (q1 _ _ upd_same)))
  have upl : (upd (upd (upd (upd (upd B S (.dK [])) pl (.lst [])) sl (.lst [.non, .non])) ln (.lst [])) sd (.lst [])) pl = some (.lst []) := q4 _ _ (q3 _ _ (q2 _ _ upd_same))
  have usl : (upd (upd (upd (upd (upd B S (.dK [])) pl (.lst [])) sl (.lst [.non, .non])) ln (.lst [])) sd (.lst [])) sl = some (.lst [.non, .non]) := q4 _ _ (q3 _ _ upd_same)
  have uln : (upd (upd (upd (upd (upd B S (.dK [])) pl (.lst [])) sl (.lst [.non, .non])) ln (.lst [])) sd (.lst [])) ln = some (.lst []) := q4 _ _ upd_same
  have usd : (upd (upd (upd (upd (upd B S (.dK [])) pl (.lst [])) sl (.lst [.non, .non])) ln (.lst [])) sd (.lst [])) sd = some (.lst []) := upd_same
  have bpl := q0.free npl
  have bsl := (q0.trans q1).free nsl
  have bln := ((q0.trans q1).trans q2).free nln
  have bsd := (((q0.trans q1).trans q2).trans q3).free nsd
  have n1 : pl ≠ sl := ne_of_none upd_same nsl
  have n2 : pl ≠ ln := ne_of_none (q2 _ _ upd_same) nln
  have n3 : pl ≠ sd := ne_of_none (q3 _ _ (q2 _ _ upd_same)) nsd
  have n4 : sl ≠ ln := ne_of_none upd_same nln
  have n5 : sl ≠ sd := ne_of_none (q3 _ _ upd_same) nsd
  have n6 : ln ≠ sd := ne_of_none upd_same nsd
  have hp := KT.same ((((q0.trans q1).trans q2).trans q3).trans q4) _ _ hp
  have sm := (((q0.trans q1).trans q2).trans q3).trans q4
  generalize upd (upd (upd (upd (upd B S (.dK [])) pl (.lst [])) sl (.lst [.non, .non])) ln (.lst [])) sd (.lst []) = H at uS upl usl uln usd hp sm ⊢
  have e : mergeK [] (kvS ⟨pl, sl, nw, ln, sd⟩ (ms1 p tk)) = kvS ⟨pl, sl, nw, ln, sd⟩ (ms1 p tk) := by
    rw [mergeK_nd _ [] (by rw [List.nil_append]; unfold kvS; rw [List.map_fst_zip (by rw [List.length_map]; exact Nat.le_refl 9)]; decide +kernel)]
    rfl
  rw [e]
  refine ⟨uS, upd_same, ?_, ?_, kt_dk uS _ _ hp, ?_, ?_, ⟨n1, n2, n3⟩, ⟨n4, n5, n6⟩, ⟨nS, bpl, bsl, bln, bsd⟩, sm_upd sm nS, sz⟩
  · rw [upd_ne (ne_of upl uS (by intro z; cases z))]; exact upl
  · rw [upd_ne (ne_of usl uS (by intro z; cases z))]; exact usl
  · rw [upd_ne (ne_of uln uS (by intro z; cases z))]; exact uln
  · rw [upd_ne (ne_of usd uS (by intro z; cases z))]; exact usd
section
variable {P : Program} {w : World} {K : PySem.W.Frag} {mg : Str → Option Value} {base : Heap}
abbrev l10N : List Str := ["script", "row", "size", "deep", "told", "pairs", "at", "some", "word", "number", "need", "made", "start", "most", "state", "step", "due"]
theorem sc_l10 : FnScope l10N ["script"] (defScope S_law) := ⟨rfl, rfl, rfl, by decide +kernel, rfl, by decide +kernel, by decide +kernel⟩
set_option maxHeartbeats 8000000 in
theorem ok_law10 {f PT : Addr} {fd : FuncData} (F : Fun K "law" "law" S_law f fd) (T : Blt mg)
    (gT : LwT P w K mg base 1 "_law_taken" ["row", "many"] (spTaken K)) (gP : LwT P w K mg base 2 "_law_pick" ["row", "things"] (spPick K)) (gPc : LwT P w K mg base 3 "_law_picture" ["row", "high", "wide"] (spLPic K)) (gA : LwT P w K mg base 5 "_law_alike" ["found", "due"] (spAlk K 5))
    (gO : LwT P w K mg base 2 "_law_order" ["state", "one"] (spLOrd K)) (gC : LwT P w K mg base 3 "is_code" ["value"] (spIsCode K)) (gE : LwT P w K mg base 10 "execute" ["value", "picture", "ticks"] (spExec K PT)) (gD : LwT P w K mg base 10 "orders_done" ["value", "picture", "ticks"] (spDoneN K PT)) :
    FnOk P w K mg base CX0 11 f fd ["script"] (spLaw K PT) := by
  obtain ⟨fT, fdT, GT, mT, kT, bT⟩ := gT.ex
  obtain ⟨fP, fdP, GP, mP, kP, bP⟩ := gP.ex
  obtain ⟨fPc, fdPc, GPc, mPc, kPc, bPc⟩ := gPc.ex
  obtain ⟨fA, fdA, GA, mA, kA, bA⟩ := gA.ex
  obtain ⟨fO, fdO, GO, mO, kO, bO⟩ := gO.ex
  obtain ⟨fC, fdC, GC, mC, kC, bC⟩ := gC.ex
  obtain ⟨fE, fdE, GE, mE, kE, bE⟩ := gE.ex
  obtain ⟨fD, fdD, GD, mD, kD, bD⟩ := gD.ex
  refine F.ok sc_l10 (fun vs H Q E h => ?_) (fun cdv A outer s0 H vs Q E hr h => ?_)
  · obtain ⟨a, ns, rfl, _⟩ := h
    rfl
  obtain ⟨a, ns, rfl, hS, h63, hTab, k⟩ := h
  have hr1 : Room 1 _ := hr.mono (by decide)
  have hr2 : Room 2 _ := hr.mono (by decide)
  have hr3 : Room 3 _ := hr.mono (by decide)
  have hr5 : Room 5 _ := hr.mono (by decide)
  have hu := Nat.lt_of_le_of_lt (Nat.add_le_add_left (by decide : 1 ≤ 64) _) hr.units
  refine ⟨_, (pss_cons (ps_set (i := 1) sc_l10.nd rfl (Or.inl rfl) (pe_lst (pa_cons (pv 0) (pa_cons pe_int (pa_cons pe_int (pa_cons pe_int pa_nil))))))
    (pss_cons (ps_par (i := 2) (j := 3) (by rfl) sc_l10.nd rfl rfl (by decide) rfl rfl (pa_cons (pe_op op_add pe_int (pe_call GT hr1 rfl mT kT bT .nil pass0 (pa_cons (pv 1) (pa_cons pe_int pa_nil)))) (pa_cons pe_int pa_nil)) (by rfl))
    (pss_cons (ps_set (i := 4) sc_l10.nd rfl (Or.inl rfl) (pe_lst (pa_cons (pe_tup (pa_cons pe_str (pa_cons pe_int pa_nil))) (pa_cons (pe_tup (pa_cons pe_str (pa_cons (pe_call GT hr1 rfl mT kT bT .nil pass0 (pa_cons (pv 1) (pa_cons pe_int pa_nil))) pa_nil))) (pa_cons (pe_tup (pa_cons pe_str (pa_cons pe_int pa_nil))) (pa_cons (pe_tup (pa_cons pe_str (pa_cons (pe_call GT hr1 rfl mT kT bT .nil pass0 (pa_cons (pv 1) (pa_cons pe_int pa_nil))) pa_nil))) (pa_cons (pe_tup (pa_cons pe_str (pa_cons pe_int pa_nil))) pa_nil)))))))
    (pss_cons (ps_set (i := 5) sc_l10.nd rfl (Or.inl rfl) (pe_lst (pa_cons pe_str (pa_cons pe_str (pa_cons pe_str (pa_cons pe_str (pa_cons pe_str (pa_cons pe_str (pa_cons pe_str (pa_cons pe_str pa_nil))))))))))
    (pss_cons (ps_for PassesOwn.never rfl (pi_range2 rfl T.range (pa_cons pe_int (pa_cons (pv 2) pa_nil))) (pg_name (i := 6) sc_l10.nd rfl (Or.inl rfl)) (pss_cons (ps_set (i := 7) sc_l10.nd rfl (Or.inl rfl) (pe_lst (pa_cons pe_str (pa_cons pe_str (pa_cons pe_str (pa_cons pe_str (pa_cons pe_str (pa_cons pe_str (pa_cons pe_str (pa_cons pe_str (pa_cons pe_str (pa_cons pe_str (pa_cons pe_str (pa_cons pe_str (pa_cons pe_str (pa_cons pe_str pa_nil))))))))))))))))
    (pss_cons (ps_set (i := 8) sc_l10.nd rfl (Or.inl rfl) (pe_call GP hr2 rfl mP kP bP .nil pass0 (pa_cons (pv 1) (pa_cons (pe_op op_cat (pv 7) (pe_lst (pa_cons pe_str (pa_cons pe_str (pa_cons pe_str (pa_cons pe_str (pa_cons pe_str (pa_cons pe_str (pa_cons pe_str (pa_cons pe_str (pa_cons pe_str (pa_cons pe_str (pa_cons pe_str (pa_cons pe_str pa_nil)))))))))))))) pa_nil))))
    (pss_cons (ps_par (i := 9) (j := 10) (by rfl) sc_l10.nd rfl rfl (by decide) rfl rfl (pa_cons pe_int (pa_cons (pe_ifExp (pt_cmpR op_in_seq (pv 8) (pv 5) (by rfl)) pe_int pe_int) pa_nil)) (by rfl))
    (pss_cons (ps_if (pt_cmpR op_in_seq (pv 8) (pe_tup (pa_cons pe_str (pa_cons pe_str (pa_cons pe_str (pa_cons pe_str (pa_cons pe_str (pa_cons pe_str (pa_cons pe_str (pa_cons pe_str (pa_cons pe_str (pa_cons pe_str pa_nil))))))))))) (by rfl)) (pss_one (ps_set (i := 10) sc_l10.nd rfl (Or.inl rfl) pe_int)) pss_nil)
    (pss_cons (ps_if (PW.pt (pw_or (pt_cmpR op_gt (pv 10) (pv 3) (nomark _)) (pw_or1 (PW.pt (pw_and (pt_cmpR op_in_seq (pv 8) (pe_tup (pa_cons pe_str (pa_cons pe_str (pa_cons pe_str (pa_cons pe_str pa_nil))))) (by rfl)) (pw_and1 (pt_cmpR op_gt (pe_call GT hr1 rfl mT kT bT .nil pass0 (pa_cons (pv 1) (pa_cons pe_int pa_nil))) pe_int (nomark _)))))))) (pss_one (ps_asg (pe_tup (pa_cons pe_str (pa_cons pe_int pa_nil))) (pg_tup rfl (pgs_cons (pg_name (i := 8) sc_l10.nd rfl (Or.inl rfl)) (pgs_cons (pg_name (i := 10) sc_l10.nd rfl (Or.inl rfl)) pgs_nil))))) pss_nil)
    (pss_cons (ps_set (i := 11) sc_l10.nd rfl (Or.inl rfl) (pe_or (pe_cmpR op_in_seq (pv 8) (pv 5) (by rfl)) (pe_one (pe_cmpR op_in_seq (pv 8) (pe_tup (pa_cons pe_str (pa_cons pe_str (pa_cons pe_str (pa_cons pe_str (pa_cons pe_str (pa_cons pe_str (pa_cons pe_str pa_nil)))))))) (by rfl)))))
    (pss_cons (ps_set (i := 3) sc_l10.nd rfl (Or.inl rfl) (pe_op op_add (pe_op op_sub (pv 3) (pv 10)) (pe_ifExp (pt_cmpR op_eq (pv 8) pe_str (nomark _)) pe_int (pe_callTy call_int1 (by rfl) T.int (by decide +kernel) (pa_cons (pv 11) pa_nil)))))
    (pss_cons (ps_if (pt_cmpR op_in_seq (pv 8) (pe_tup (pa_cons pe_str (pa_cons pe_str (pa_cons pe_str pa_nil)))) (by rfl)) (pss_one (ps_set (i := 9) sc_l10.nd rfl (Or.inl rfl) (pe_op op_add pe_int (pe_call GT hr1 rfl mT kT bT .nil pass0 (pa_cons (pv 1) (pa_cons (pv 2) pa_nil)))))) pss_nil)
    (pss_cons (ps_if (pt_cmpR op_in_seq (pv 8) (pe_tup (pa_cons pe_str (pa_cons pe_str (pa_cons pe_str (pa_cons pe_str pa_nil))))) (by rfl)) (pss_one (ps_set (i := 9) sc_l10.nd rfl (Or.inl rfl) (pe_call GT hr1 rfl mT kT bT .nil pass0 (pa_cons (pv 1) (pa_cons (pe_ifExp (pt_cmpR op_ne (pv 8) pe_str (nomark _)) pe_int pe_int) pa_nil))))) pss_nil)
    (pss_one (ps_expr (pe_bm PySem.F.plainAttrs_list PySem.F.slot_list_append PySem.F.type_list_append mt_append (pv 4) (pa_cons (pe_tup (pa_cons (pv 8) (pa_cons (pv 9) pa_nil))) pa_nil))))))))))))))
    (pss_cons (ps_expr (pe_bm PySem.F.plainAttrs_list PySem.F.slot_list_append PySem.F.type_list_append mt_append (pv 4) (pa_cons (pe_tup (pa_cons pe_str (pa_cons pe_int pa_nil))) pa_nil)))
    (pss_cons (ps_par3 (i := 4) (j := 12) (l := 13) (by rfl) sc_l10.nd rfl rfl rfl (by decide) (by decide) (by decide) rfl rfl rfl (pa_cons (pe_callTy call_tuple_of (by rfl) T.tup (by decide +kernel) (pa_cons (pv 4) pa_nil)) (pa_cons (pe_call GPc hr3 rfl mPc kPc bPc .nil pass0 (pa_cons (pv 1) (pa_cons (pe_op op_add pe_int (pe_call GT hr1 rfl mT kT bT .nil pass0 (pa_cons (pv 1) (pa_cons pe_int pa_nil)))) (pa_cons (pe_op op_add pe_int (pe_call GT hr1 rfl mT kT bT .nil pass0 (pa_cons (pv 1) (pa_cons pe_int pa_nil)))) pa_nil)))) (pa_cons (pe_call GT hr1 rfl mT kT bT .nil pass0 (pa_cons (pv 1) (pa_cons pe_int pa_nil))) pa_nil))) (by rfl))
    (pss_cons (ps_set (i := 14) sc_l10.nd rfl (Or.inl rfl) (pe_disp (pps_cons pe_str pe_int (pps_cons pe_str (pe_lst pa_nil) (pps_cons pe_str (pe_lst (pa_cons pe_non (pa_cons pe_non pa_nil))) (pps_cons pe_str (pv 12) (pps_cons pe_str (pe_lst pa_nil) (pps_cons pe_str (pe_lst pa_nil) (pps_cons pe_str (pv 13) (pps_cons pe_str pe_str (pps_cons pe_str pe_int pps_nil))))))))) rfl rfl (by intro z; cases z) (by show 9 ≤ 15; decide)))
    (pss_cons (ps_for PassesOwn.never rfl (pi_range1 rfl T.range (pa_cons pe_int pa_nil)) (pg_name (i := 15) sc_l10.nd rfl (Or.inl rfl)) (pss_one (ps_if (pt_cmpR op_eq (pe_dget hu (pv 14) pe_str (fun _ _ => rfl)) pe_str (nomark _)) (pss_one (ps_expr (pe_call GO hr2 rfl mO kO bO .nil pass0 (pa_cons (pv 14) (pa_cons (pe_ix ix_tup (pv 4) (pe_dget hu (pv 14) pe_str (fun _ _ => rfl)) (fun _ _ => rfl)) pa_nil))))) pss_nil)))
    (pss_cons (ps_if (pt_cmpR op_notBl (pe_call GC hr3 rfl mC kC bC .nil pass0 (pa_cons (pv 4) pa_nil)) pe_bl (nomark _)) pss_never pss_nil)
    (pss_cons (ps_if (pt_cmpR op_eq (pe_dget hu (pv 14) pe_str (fun _ _ => rfl)) pe_str (nomark _)) (pss_one (ps_ret pe_bl)) pss_nil)
    (pss_cons (ps_set (i := 16) sc_l10.nd rfl (Or.inl rfl) (pe_tup (pa_cons (pe_dget hu (pv 14) pe_str (fun _ _ => rfl)) (pa_cons (pe_callTy call_tuple_of (by rfl) T.tup (by decide +kernel) (pa_cons (pe_dget hu (pv 14) pe_str (fun _ _ => rfl)) pa_nil)) (pa_cons (pe_callTy call_tuple_of (by rfl) T.tup (by decide +kernel) (pa_cons (pe_dget hu (pv 14) pe_str (fun _ _ => rfl)) pa_nil)) (pa_cons (pe_dget hu (pv 14) pe_str (fun _ _ => rfl)) pa_nil))))))
    (pss_cons (ps_if (pt_cmpR op_eq (pe_dget hu (pv 14) pe_str (fun _ _ => rfl)) pe_str (nomark _)) (pss_one (ps_ret (pe_cmpR op_eq (pe_ix ix_tup (pe_call GE hr rfl mE kE bE .nil pass0 (pa_cons (pv 4) (pa_cons (pv 12) (pa_cons (pv 13) pa_nil)))) pe_int (fun _ _ => rfl)) pe_str (nomark _)))) pss_nil)
    (pss_one (ps_ret (pe_and (pe_call GA hr5 rfl mA kA bA .nil pass0 (pa_cons (pe_call GE hr rfl mE kE bE .nil pass0 (pa_cons (pv 4) (pa_cons (pv 12) (pa_cons (pv 13) pa_nil)))) (pa_cons (pv 16) pa_nil))) (pe_one (pe_call GA hr5 rfl mA kA bA .nil pass0 (pa_cons (pe_call GD hr rfl mD kD bD .nil pass0 (pa_cons (pv 4) (pa_cons (pv 12) (pa_cons (pv 13) pa_nil)))) (pa_cons (pe_dget hu (pv 14) pe_str (fun _ _ => rfl)) pa_nil)))))))))))))))))))), ?_⟩
  refine ⟨_, rfl, (by show 4 ≤ sizeLine; decide), fun r nr => ?_⟩
  have g1 := Rw.new hS h63 nr (n := 5510) (by decide) (by decide)
  have d1 : D0 K PT r a (upd H r (.lst [.ref a, .int 0, .int 5510, .int 0])) [] (upd H r (.lst [.ref a, .int 0, .int 5510, .int 0])) := ⟨g1.row, g1.scr, Keep.refl _ _, same_new nr _ _ _ hTab, ne_of_none hTab nr, (fun _ m => nomatch m)⟩
  generalize upd H r (.lst [.ref a, .int 0, .int 5510, .int 0]) = H1 at d1 g1 ⊢
  refine ⟨_, rfl, r, a, 24, rfl, d1.rw.row, d1.rw.scr, by decide, by decide, fun H2 x2 k2 R2 a2 b2 => ?_⟩
  have d2 := d1.keep k2 R2
  obtain ⟨size, es⟩ : ∃ size : Nat, (8 : Int) + x2 = (size : Int) := ⟨(8 + x2).toNat, by omega⟩
  have s8 : 8 ≤ size := by omega
  have s31 : size ≤ 31 := by omega
  refine ⟨_, _, rfl, rfl, .int (size : Int), .int 0, congrArg (fun z => [V.int z, V.int 0]) es, ?_⟩
  clear g1 d1 k2 R2
  refine ⟨(by show 2 ≤ sizeLine; decide), fun t1 nt1 => ?_⟩
  have d3 := d2.new (od := .frame 2) nt1
  refine ⟨_, rfl, r, a, 3, rfl, d3.rw.row, d3.rw.scr, by decide, by decide, fun H3 x3 k3 R3 a3 b3 => ⟨(by show 2 ≤ sizeLine; decide), fun t2 nt2 => ⟨(by show 2 ≤ sizeLine; decide), fun t3 nt3 => ?_⟩⟩⟩
  have d5 := ((d3.keep k3 R3).new (od := .push x3) nt2).new (od := .store 0) nt3
  refine ⟨_, rfl, r, a, 3, rfl, d5.rw.row, d5.rw.scr, by decide, by decide, fun H4 x4 k4 R4 a4 b4 => ⟨(by show 2 ≤ sizeLine; decide), fun t4 nt4 => ⟨(by show 2 ≤ sizeLine; decide), fun t5 nt5 => ⟨(by show 5 ≤ sizeLine; decide), fun L nL => ?_⟩⟩⟩⟩
  have d7 := ((d5.keep k4 R4).new (od := .push x4) nt4).new (od := .store 1) nt5
  refine ⟨(by show 8 ≤ sizeLine; decide), fun J nJ => ?_⟩
  have dw : Dw K PT r a L J H1 ([] ++ [(t1, .frame 2)] ++ [(t2, .push x3)] ++ [(t3, .store 0)] ++ [(t4, .push x4)] ++ [(t5, .store 1)]) _ := ⟨d7.same ((same_new nL (.lst [.ref t1, .ref t2, .ref t3, .ref t4, .ref t5])).trans (same_new nJ (.lst (pairW.map V.str)))), same_new nJ (.lst (pairW.map V.str)) _ _ upd_same, upd_same, d7.rw.ner nL, (d7.same (same_new nL (.lst [.ref t1, .ref t2, .ref t3, .ref t4, .ref t5]))).rw.ner nJ, ne_of_none upd_same nJ, d7.out nL⟩
  refine gNm (normS (σ' := [some (.ref a), some (.ref r), some (.int (size : Int)), some (.int 0), some (.ref L), some (.ref J), none, none, none, none, none, none, none, none, none, none, none]) rfl ?_)
  have b31 : ((size : Nat) : Int) ≤ 31 := by omega
  refine ⟨_, rfl, 5, size, rfl, ⟨by decide, by decide, by omega, by omega⟩, ?_⟩
  refine for_range (fun i σ H' => ∃ (dp : Int) (v6 v7 v8 v9 v10 v11 : Option V) (ps : List (Addr × Od)), σ = [some (.ref a), some (.ref r), some (.int (size : Int)), some (.int dp), some (.ref L), some (.ref J), v6, v7, v8, v9, v10, v11, none, none, none, none, none] ∧
      Dw K PT r a L J H1 ps H' ∧ ps.length = 5 + i ∧ (ps.map Prod.snd).head? = some (.frame 2) ∧ ∀ od ∈ (ps.map Prod.snd).drop 1, DrO size od ∧ od ≠ .done)
    ⟨0, none, none, none, none, none, none, _, rfl, dw, rfl, rfl, ?_⟩ ?_ ?_
  · intro od m
    have m : od ∈ [Od.push x3, .store 0, .push x4, .store 1] := m
    simp only [List.mem_cons, List.not_mem_nil, or_false] at m
    rcases m with rfl | rfl | rfl | rfl
    · exact ⟨⟨by omega, by omega⟩, by intro z; cases z⟩
    · exact ⟨by show 0 ≤ 1; decide, by intro z; cases z⟩
    · exact ⟨⟨by omega, by omega⟩, by intro z; cases z⟩
    · exact ⟨by show 1 ≤ 1; decide, by intro z; cases z⟩
  · rintro i σ H5 hi ⟨dp, v6, v7, v8, v9, v10, v11, ps, rfl, g, lp, hh, ho⟩
    clear dw
    have lps : ps.length ≤ 40 := by omega
    refine gNm ?_
    refine seqJ (fun σ H => ∃ s1, σ = [some (.ref a), some (.ref r), some (.int (size : Int)), some (.int dp), some (.ref L), some (.ref J), some (.int (5 + (i : Int))), some (.ref s1), v8, v9, v10, v11, none, none, none, none, none] ∧ Dw K PT r a L J H1 ps H ∧ H s1 = some (.lst [.str "push", .str "push", .str "push", .str "load", .str "store", .str "copy", .str "rows", .str "cols", .str "neg", .str "not", .str "truth", .str "add", .str "sub", .str "mul"])) (fun G hG => ?_) ?_
    · exact ⟨(by show 14 ≤ sizeLine; decide), fun s1 n1 => hG _ _ ⟨s1, rfl, g.same (same_new n1 _), upd_same⟩⟩
    rintro σ H6 ⟨s1, rfl, g, u1⟩
    refine seqJ (fun σ H => ∃ w0, w0 ∈ drW ∧ σ = [some (.ref a), some (.ref r), some (.int (size : Int)), some (.int dp), some (.ref L), some (.ref J), some (.int (5 + (i : Int))), some (.ref s1), some (.str w0), v9, v10, v11, none, none, none, none, none] ∧ Dw K PT r a L J H1 ps H) (fun G hG => ?_) ?_
    · refine ⟨_, rfl, _, rfl, (by show 12 ≤ sizeLine; decide), fun s2 n2 => ⟨s1, s2, _, _, rfl, rfl, same_new n2 _ _ _ u1, upd_same, (by show 26 ≤ sizeLine; decide), fun s3 n3 => ?_⟩⟩
      have g6 := g.same (same_new n2 (.lst [.str "lt", .str "le", .str "eq", .str "ne", .str "row", .str "col", .str "say", .str "jump", .str "zero", .str "some", .str "tick", .str "black"]))
      have g7 := g6.same (same_new n3 (.lst ([.str "push", .str "push", .str "push", .str "load", .str "store", .str "copy", .str "rows", .str "cols", .str "neg", .str "not", .str "truth", .str "add", .str "sub", .str "mul"] ++ [.str "lt", .str "le", .str "eq", .str "ne", .str "row", .str "col", .str "say", .str "jump", .str "zero", .str "some", .str "tick", .str "black"])))
      refine ⟨r, a, _, rfl, g7.d.rw.row, g7.d.rw.scr, .inl ⟨s3, _, rfl, g6.d.rw.ner n3, upd_same, (by show 1 ≤ 26; decide), (by show 26 ≤ 1000; decide), fun H7 v k6 R6 hv => ?_⟩⟩
      obtain ⟨w0, hw, rfl⟩ := (List.mem_map (f := V.str) (l := drL)).mp hv
      exact hG _ _ ⟨w0, drL_in hw, rfl, g7.keep k6 R6⟩
    rintro σ H7 ⟨w0, hw, rfl, g⟩
    refine seqJ (fun σ H => ∃ nd, σ = sgD a r size dp L J (some (.int (5 + (i : Int)))) (some (.ref s1)) w0 0 nd v11 ∧ Dw K PT r a L J H1 ps H) (fun G hG => ?_) ?_
    · refine ⟨_, rfl, _, rfl, rIn_litL pairW (SqL.of g.prs) ⟨_, rfl, ?_⟩⟩
      by_cases c : w0 ∈ pairW
      · exact dT c ⟨_, _, rfl, hG _ _ ⟨_, rfl, g⟩⟩
      · exact dF c ⟨_, _, rfl, hG _ _ ⟨_, rfl, g⟩⟩
    rintro σ H7 ⟨nd, rfl, g⟩
    refine seqJ (fun σ H => ∃ nd, σ = sgD a r size dp L J (some (.int (5 + (i : Int)))) (some (.ref s1)) w0 0 nd v11 ∧ Dw K PT r a L J H1 ps H) (fun G hG => ?_) ?_
    · refine ⟨_, rfl, (by show 10 ≤ sizeLine; decide), fun p np => rIn_lit ["copy", "neg", "not", "truth", "row", "col", "say", "zero", "some", "store"] (SqT.of upd_same) ⟨_, rfl, ?_⟩⟩
      have g := g.same (same_new np (.tup [.str "copy", .str "neg", .str "not", .str "truth", .str "row", .str "col", .str "say", .str "zero", .str "some", .str "store"]))
      by_cases c : w0 ∈ (["copy", "neg", "not", "truth", "row", "col", "say", "zero", "some", "store"] : List Str)
      · exact dT c (hG _ _ ⟨_, rfl, g⟩)
      · exact dF c (hG _ _ ⟨_, rfl, g⟩)
    rintro σ H8 ⟨nd, rfl, g⟩
    refine seqJ (fun σ H => ∃ nd w1, w1 ∈ drW ∧ σ = sgD a r size dp L J (some (.int (5 + (i : Int)))) (some (.ref s1)) w1 0 nd v11 ∧ Dw K PT r a L J H1 ps H) (fun G hG => ?_) ?_
    · have yes : ∀ H, Dw K PT r a L J H1 ps H → tTup (tCons (tC (.str "push")) (tCons (tC (.int 0)) tNil)) (sgD a r size dp L J (some (.int (5 + (i : Int)))) (some (.ref s1)) w0 0 nd v11) H (fun x H1 => gTup K 2 (gCons (gName 8) (gCons (gName 10) gNil)) x (sgD a r size dp L J (some (.int (5 + (i : Int)))) (some (.ref s1)) w0 0 nd v11) H1 G) := fun H g => by
        refine ⟨(by show 2 ≤ sizeLine; decide), fun p np => ⟨p, _, rfl, SqT.of upd_same, rfl, _, _, rfl, _, _, rfl, rfl, hG _ _ ⟨_, "push", by decide +kernel, rfl, g.same (same_new np _)⟩⟩⟩
      refine ⟨_, rfl, _, rfl, _, _, rfl, rfl, _, rfl, ?_⟩
      by_cases c : nd > dp
      · exact dT c (iteT (yes _ g))
      · refine dF c ?_
        refine ⟨_, rfl, (by show 4 ≤ sizeLine; decide), fun p np => rIn_lit ["jump", "row", "col", "black"] (SqT.of upd_same) ⟨_, rfl, ?_⟩⟩
        have g := g.same (same_new np (.tup [.str "jump", .str "row", .str "col", .str "black"]))
        by_cases c2 : w0 ∈ (["jump", "row", "col", "black"] : List Str)
        · refine dT c2 ⟨_, rfl, r, a, 3, rfl, g.d.rw.row, g.d.rw.scr, by decide, by decide, fun H9 x9 k9 R9 a9 b9 => ⟨_, _, rfl, rfl, _, rfl, ?_⟩⟩
          have g := g.keep k9 R9
          by_cases c3 : x9 > 0
          · exact dT c3 (yes _ g)
          · exact dF c3 (hG _ _ ⟨_, w0, hw, rfl, g⟩)
        · exact dF c2 (iteF (hG _ _ ⟨_, w0, hw, rfl, g⟩))
    rintro σ H9 ⟨nd, w1, hw1, rfl, g⟩
    refine seqJ (fun σ H => ∃ b, σ = sgD a r size dp L J (some (.int (5 + (i : Int)))) (some (.ref s1)) w1 0 nd (some (.bl b)) ∧ Dw K PT r a L J H1 ps H) (fun G hG => ?_) ?_
    · refine ⟨_, rfl, _, rfl, rIn_litL pairW (SqL.of g.prs) ⟨_, rfl, ?_⟩⟩
      by_cases c : w1 ∈ pairW
      · exact dT c (hG _ _ ⟨_, rfl, g⟩)
      · refine dF c ?_
        exact ⟨_, rfl, (by show 7 ≤ sizeLine; decide), fun p np => rIn_lit ["neg", "not", "truth", "push", "load", "rows", "cols"] (SqT.of upd_same) (hG _ _ ⟨_, rfl, g.same (same_new np _)⟩)⟩
    rintro σ H10 ⟨b, rfl, g⟩
    refine seqJ (fun σ H => ∃ dp, σ = sgD a r size dp L J (some (.int (5 + (i : Int)))) (some (.ref s1)) w1 0 nd (some (.bl b)) ∧ Dw K PT r a L J H1 ps H) (fun G hG => ?_) ?_
    · refine ⟨_, rfl, _, rfl, _, _, rfl, rfl, _, rfl, rfl, _, rfl, ?_⟩
      by_cases c : w1 = "copy"
      · exact sT c ⟨_, _, rfl, rfl, hG _ _ ⟨_, rfl, g⟩⟩
      · exact sF c ⟨_, rfl, .inr ⟨_, rfl, _, _, rfl, rfl, hG _ _ ⟨_, rfl, g⟩⟩⟩
    rintro σ H11 ⟨dp1, rfl, g⟩
    refine seqJ (fun σ H => ∃ n : Int, (w1 ∈ drJ → 1 ≤ n ∧ n ≤ size) ∧ (w1 ∉ drJ → n = 0) ∧ σ = sgD a r size dp1 L J (some (.int (5 + (i : Int)))) (some (.ref s1)) w1 n nd (some (.bl b)) ∧ Dw K PT r a L J H1 ps H) (fun G hG => ?_) ?_
    · refine ⟨_, rfl, (by show 3 ≤ sizeLine; decide), fun p np => rIn_lit drJ (SqT.of upd_same) ⟨_, rfl, ?_⟩⟩
      have g := g.same (same_new np (.tup [.str "jump", .str "zero", .str "some"]))
      by_cases c : w1 ∈ drJ
      · exact dT c ⟨_, rfl, _, rfl, r, a, size, rfl, g.d.rw.row, g.d.rw.scr, by omega, by omega, fun H9 x9 k9 R9 a9 b9 => ⟨_, _, rfl, rfl, hG _ _ ⟨_, fun _ => ⟨by omega, by omega⟩, fun z => absurd c z, rfl, g.keep k9 R9⟩⟩⟩
      · exact dF c (hG _ _ ⟨0, fun z => absurd z c, fun _ => rfl, rfl, g⟩)
    rintro σ H12 ⟨n, j1, j2, rfl, g⟩
    refine seqJ (fun σ H => ∃ n : Int, DrN size w1 n ∧ σ = sgD a r size dp1 L J (some (.int (5 + (i : Int)))) (some (.ref s1)) w1 n nd (some (.bl b)) ∧ Dw K PT r a L J H1 ps H) (fun G hG => ?_) ?_
    · refine ⟨_, rfl, (by show 4 ≤ sizeLine; decide), fun p np => rIn_lit drT (SqT.of upd_same) ⟨_, rfl, ?_⟩⟩
      have g := g.same (same_new np (.tup [.str "load", .str "store", .str "tick", .str "push"]))
      have dj : w1 ∈ drT → w1 ∉ drJ := fun z => by
        have q : drT.all (fun x => decide (x ∉ drJ)) = true := by decide +kernel
        exact of_decide_eq_true (List.all_eq_true.mp q w1 z)
      by_cases c : w1 ∈ drT
      · refine dT c ⟨_, rfl, _, rfl, rfl, _, rfl, ?_⟩
        by_cases c2 : w1 = "push"
        · exact nF c2 ⟨r, a, 3, rfl, g.d.rw.row, g.d.rw.scr, by decide, by decide, fun H9 x9 k9 R9 a9 b9 => hG _ _ ⟨x9, ⟨fun z => absurd z (dj c), fun _ => ⟨a9, by rw [if_pos c2]; omega⟩, fun _ z => absurd c z⟩, rfl, g.keep k9 R9⟩⟩
        · exact nT c2 ⟨r, a, 2, rfl, g.d.rw.row, g.d.rw.scr, by decide, by decide, fun H9 x9 k9 R9 a9 b9 => hG _ _ ⟨x9, ⟨fun z => absurd z (dj c), fun _ => ⟨a9, by rw [if_neg c2]; omega⟩, fun _ z => absurd c z⟩, rfl, g.keep k9 R9⟩⟩
      · exact dF c (hG _ _ ⟨n, ⟨j1, fun z => absurd z c, fun z _ => j2 z⟩, rfl, g⟩)
    rintro σ H13 ⟨n, dn, rfl, g⟩
    obtain ⟨od, e1, e2, e3, e4⟩ := mkOd hw1 dn
    subst e1 e2
    refine ⟨_, rfl, .inl ⟨rfl, _, SqL.of g.told⟩, _, rfl, _, rfl, (by show 2 ≤ sizeLine; decide), fun t nt => ⟨L, _, _, rfl, rfl, same_new nt _ _ _ g.told, (by unfold refs; rw [List.length_map]; exact Nat.lt_of_le_of_lt lps (by decide)), ?_⟩⟩
    refine ⟨dp1, _, _, _, _, _, _, ps ++ [(t, od)], rfl, g.push nt, by rw [List.length_append, lp]; rfl, ?_, ?_⟩
    · cases ps with
      | nil => cases hh
      | cons p0 pr => exact hh
    · intro o m
      cases ps with
      | nil => cases hh
      | cons p0 pr =>
        have m : o ∈ (pr ++ [(t, od)]).map Prod.snd := m
        rw [List.map_append] at m
        rcases List.mem_append.mp m with m | m
        · exact ho o m
        · rw [List.mem_singleton.mp m]
          exact ⟨e3, e4⟩
  rintro σ H5 ⟨dp, v6, v7, v8, v9, v10, v11, ps, rfl, g, lp, hh, ho⟩
  have hn : (((size : Nat) : Int) - 5).toNat = size - 5 := by omega
  have lp : ps.length = size := by omega
  refine ⟨_, rfl, .inl ⟨rfl, _, SqL.of g.told⟩, (by show 2 ≤ sizeLine; decide), fun t nt => ⟨L, _, _, rfl, rfl, same_new nt _ _ _ g.told, (by unfold refs; rw [List.length_map, lp]; exact Nat.lt_of_le_of_lt s31 (by decide)), ?_⟩⟩
  have g6 : Dw K PT r a L J H1 (ps ++ [(t, .done)]) (upd (upd H5 t (.tup [.str "done", .int 0])) L (.lst (refs ps ++ [.ref t]))) := g.push (od := .done) nt
  generalize upd (upd H5 t (.tup [.str "done", .int 0])) L (.lst (refs ps ++ [.ref t])) = H6 at g6 ⊢
  obtain ⟨qs, eq⟩ : ∃ qs, qs = ps ++ [(t, Od.done)] := ⟨_, rfl⟩
  obtain ⟨code, ec⟩ : ∃ code, code = qs.map Prod.snd := ⟨_, rfl⟩
  have ec2 : code = ps.map Prod.snd ++ [.done] := by rw [ec, eq, List.map_append]; rfl
  rw [← eq] at g6
  have cl : code.length = size + 1 := by rw [ec2, List.length_append, List.length_map, lp]; rfl
  have c0 : code[0]? = some (.frame 2) := by
    cases ps with
    | nil => cases hh
    | cons p0 pr => rw [ec2]; exact hh
  have cO : ∀ j od, 1 ≤ j → code[j]? = some od → (DrO size od ∧ od ≠ .done ∧ j < size) ∨ (od = .done ∧ j = size) := fun j od j1 hj => by
    rw [ec2] at hj
    by_cases c : j < size
    · rw [List.getElem?_append_left (by rw [List.length_map, lp]; exact c)] at hj
      refine .inl ?_
      have m : od ∈ (ps.map Prod.snd).drop 1 := by
        refine List.mem_of_getElem? (i := j - 1) ?_
        rw [List.getElem?_drop, show 1 + (j - 1) = j by omega]
        exact hj
      exact ⟨(ho od m).1, (ho od m).2, c⟩
    · rw [List.getElem?_append_right (by rw [List.length_map, lp]; omega), List.length_map, lp] at hj
      have z : j - size = 0 := by
        cases q : j - size with
        | zero => rfl
        | succ n => rw [q] at hj; cases hj
      rw [z] at hj
      exact .inr ⟨(Option.some.inj hj).symm, by omega⟩
  have cok : CodeOk code := by
    refine ⟨by omega, by omega, ⟨2, by rw [List.head?_eq_getElem?]; exact c0⟩, by rw [ec2]; exact List.getLast?_concat, fun od m => ?_⟩
    obtain ⟨j, hj⟩ := List.getElem?_of_mem m
    by_cases j1 : 1 ≤ j
    · rcases cO j od j1 hj with ⟨d, _, _⟩ | ⟨rfl, _⟩
      · rw [cl]
        cases od with
        | push x => obtain ⟨d1, d2⟩ := d; exact ⟨by omega, by omega⟩
        | load k => have d : k ≤ 1 := d; show k ≤ 50000; omega
        | store k => have d : k ≤ 1 := d; show k ≤ 50000; omega
        | tick k => have d : k ≤ 1 := d; show k ≤ 50000; omega
        | jump k => obtain ⟨d1, d2⟩ := d; show k < size + 1; omega
        | zero k => obtain ⟨d1, d2⟩ := d; show k < size + 1; omega
        | some k => obtain ⟨d1, d2⟩ := d; show k < size + 1; omega
        | frame k => exact d.elim
        | _ => exact trivial
      · exact trivial
    · have z : j = 0 := by omega
      rw [z, c0] at hj
      rw [← Option.some.inj hj]
      show 2 ≤ 50000
      decide
  clear g
  refine ⟨_, rfl, L, _, rfl, .inl ⟨SqL.of g6.told, fun tt ntt => ?_⟩⟩
  have g7 := g6.d.same (same_new ntt (.tup (refs qs)))
  have ut : (upd H6 tt (.tup (refs qs))) tt = some (.tup (refs qs)) := upd_same
  have ntr := g6.d.rw.ner ntt
  generalize upd H6 tt (.tup (refs qs)) = H7 at g7 ut ⊢
  refine ⟨_, rfl, _, rfl, r, a, 3, rfl, g7.rw.row, g7.rw.scr, by decide, by decide, fun H8 x8 k8 R8 a8 b8 => ⟨_, _, rfl, rfl, _, rfl, r, a, 3, rfl, R8, g7.rw.scr.mono k8, by decide, by decide, fun H9 x9 k9 R9 a9 b9 => ⟨_, _, rfl, rfl, ?_⟩⟩⟩
  have g9 := (g7.keep k8 R8).keep k9 R9
  obtain ⟨h, eh⟩ : ∃ h : Nat, (1 : Int) + x8 = (h : Int) := ⟨(1 + x8).toNat, by omega⟩
  obtain ⟨w, ew⟩ : ∃ w : Nat, (1 : Int) + x9 = (w : Int) := ⟨(1 + x9).toNat, by omega⟩
  refine ⟨r, a, h, w, (by show [V.ref r, V.int (1 + x8), V.int (1 + x9)] = _; rw [eh, ew]), g9.rw.row, g9.rw.scr, by omega, by omega, by omega, by omega, fun H10 c p k10 R10 hp sz bw => ?_⟩
  have g10 := g9.keep k10 R10
  refine ⟨_, rfl, r, a, 9, rfl, g10.rw.row, g10.rw.scr, by decide, by decide, fun H11 x11 k11 R11 a11 b11 => ⟨_, _, _, rfl, ?_⟩⟩
  have g11 := g10.keep k11 R11
  have hp := kt_keep g10.rw k11 _ _ hp
  have ut := k11 _ _ ntr (k10 _ _ ntr (k9 _ _ ntr (k8 _ _ ntr ut)))
  clear k8 k9 k10 k11 R8 R9 R10 R11 g7 g9 g10 g6
  refine normS (σ' := [some (.ref a), some (.ref r), some (.int (size : Int)), some (.int dp), some (.ref tt), some (.ref J), v6, v7, v8, v9, v10, v11, some (.ref c), some (.int x11), none, none, none]) rfl ?_
  refine fun S nS => ⟨(by show 0 ≤ sizeLine; decide), fun pl npl => ⟨(by show 2 ≤ sizeLine; decide), fun sl nsl => ⟨_, rfl, (by show 0 ≤ sizeLine; decide), fun ln nln => ⟨(by show 0 ≤ sizeLine; decide), fun sd nsd => ⟨_, rfl, ?_⟩⟩⟩⟩⟩
  obtain ⟨uS, ls⟩ := LS.mk0 (tk := x11) hp sz nS npl nsl nln nsd
  refine ⟨uS, kvS ⟨pl, sl, c, ln, sd⟩ (ms1 p x11), rfl, (by show 9 ≤ 15; decide), ?_⟩
  generalize upd (upd (upd (upd (upd (upd H11 S _) pl _) sl _) ln _) sd _) S _ = H12 at ls ⊢
  refine gNm (normS (σ' := [some (.ref a), some (.ref r), some (.int (size : Int)), some (.int dp), some (.ref tt), some (.ref J), v6, v7, v8, v9, v10, v11, some (.ref c), some (.int x11), some (.ref S), none, none]) rfl ?_)
  refine ⟨_, rfl, by decide, by decide, ?_⟩
  refine for_range (fun i σ H' => ∃ (v15 : Option V) (A : LA) (m : Ms) (s' : List Int) (t' : Int), σ = [some (.ref a), some (.ref r), some (.int (size : Int)), some (.int dp), some (.ref tt), some (.ref J), v6, v7, v8, v9, v10, v11, some (.ref c), some (.int x11), some (.ref S), v15, none] ∧
      LS K S H11 h w A { m with stk := s', tk := t' } H' ∧ (m.en = "" → s' = m.stk ∧ t' = m.tk ∧ Bd size i m) ∧ Bl i m ∧ Pre h w code (ms0 p x11) m)
    ⟨none, _, ms1 p x11, [], x11, rfl, ls, (fun _ => ⟨rfl, rfl, bd_one (by omega)⟩), ⟨Nat.le_refl 0, Nat.le_refl 0⟩, pre_one c0⟩ ?_ ?_
  · rintro i σ H13 hi ⟨v15, A, m, s', t', rfl, l, him, bl, pr⟩
    have hi : i < 300 := hi
    refine gNm ?_
    refine ⟨_, rfl, S, _, rfl, l.get 7 rfl rfl, rfl, _, rfl, ?_⟩
    by_cases e : m.en = ""
    · obtain ⟨rfl, rfl, bd⟩ := him e
      refine sT e ?_
      have b1 := bd.a1
      have b2 := bd.a2
      obtain ⟨j, ej⟩ : ∃ j : Nat, m.at_ = (j : Int) := ⟨m.at_.toNat, by omega⟩
      obtain ⟨od, hod⟩ : ∃ od, code[j]? = some od := ⟨_, List.getElem?_eq_getElem (by rw [cl]; omega)⟩
      have hq0 := hod
      rw [ec, List.getElem?_map] at hq0
      obtain ⟨q, hq, eqod⟩ := Option.map_eq_some_iff.mp hq0
      have hat : atI (refs qs) m.at_ = some (.ref q.1) := by
        rw [ej]
        refine atI_nat ?_
        unfold refs
        rw [List.getElem?_map, hq]
        rfl
      have hqt := g11.om q (List.mem_of_getElem? hq)
      rw [eqod] at hqt
      have okm := bd.okm bl (by omega)
      have hd := cO j od (by omega) hod
      have pre : preA od m := by
        refine ⟨okm, ?_⟩
        rcases hd with ⟨d, _, _⟩ | ⟨rfl, _⟩
        · cases od with
          | load k => have d : k ≤ 1 := d; show k < m.sl.length; rw [bd.sl]; omega
          | store k => have d : k ≤ 1 := d; show k < m.sl.length; rw [bd.sl]; omega
          | frame k => exact d.elim
          | _ => exact trivial
        · exact trivial
      have lw : LawOd od := by
        rcases hd with ⟨d, _, _⟩ | ⟨rfl, _⟩
        · cases od with
          | frame k => exact d.elim
          | _ => exact trivial
        · exact trivial
      have can : CanDo h w code m od := ⟨by omega, by rw [ej, Int.toNat_natCast]; exact hod, ⟨⟨okm.l1, okm.l2, okm.l3, okm.l4, okm.s1, okm.s2⟩, pre.2⟩, by have := bd.i1; omega, bd.i0⟩
      refine ⟨_, rfl, _, rfl, _, rfl, S, _, rfl, l.get 0 rfl rfl, tt, _, _, _, rfl, rfl, SqT.of (l.sm _ _ ut), hat, S, q.1, H11, h, w, A, m, od, rfl, l, SqT.of (l.sm _ _ hqt), e, pre, lw, fun A2 s2 t2 H14 l2 hl2 => ?_⟩
      refine ⟨_, A2, stp h w od m, s2, t2, rfl, l2, fun e2 => ?_, bl_step bl, pr.step e can⟩
      obtain ⟨z1, z2⟩ := hl2 e2
      refine ⟨z1, z2, ?_⟩
      rcases hd with ⟨d, _, jl⟩ | ⟨rfl, _⟩
      · exact bd_step bd d (by have := sz.h2; omega) (by have := sz.w2; omega) (by omega) e2
      · exact absurd (show ("done" : Str) = "" from e2) (by decide +kernel)
    · exact sF e ⟨_, A, m, s', t', rfl, l, fun z => absurd z e, ⟨Nat.le_succ_of_le bl.ln, Nat.le_succ_of_le bl.sd⟩, pr⟩
  rintro σ H13 ⟨v15, A, m, s', t', rfl, l, him, bl, pr⟩
  have hdp : ∀ {H}, Same H11 H → Dp K H (.ref tt) (.tuple (code.map odD)) := fun s => by
    rw [ec]
    exact .tup (SqT.of (s _ _ ut)) (om_dp fun q mq => s _ _ (g11.om q mq))
  refine ⟨_, rfl, tt, code, rfl, hdp l.sm, cok, fun H14 s14 => ⟨_, _, rfl, rfl, _, rfl, iteF ?_⟩⟩
  have l := l.same s14
  refine ⟨_, rfl, S, _, rfl, l.get 7 rfl rfl, rfl, _, rfl, ?_⟩
  by_cases e : m.en = ""
  · exact sT e (k _ (l.sm _ _ g11.tb))
  refine sF e ?_
  have run : ∀ {H}, Same H11 H → RunIn K PT H tt c code p h w x11 m := fun s => ⟨hdp s, cok, KT.same s _ _ hp, sz, bw, s _ _ g11.tb, a11, by omega, pr.stop e⟩
  refine ⟨_, rfl, S, _, rfl, l.get 3 rfl rfl, _, rfl, S, _, rfl, l.get 4 rfl rfl, A.ln, _, rfl, .inl ⟨SqL.of l.lines, fun q1 m1 => ?_⟩⟩
  have l1 := l.same (same_new m1 (.tup (natV m.ln)))
  have w1 : (upd H14 q1 (.tup (natV m.ln))) q1 = some (.tup (natV m.ln)) := upd_same
  generalize upd H14 q1 (.tup (natV m.ln)) = H15 at l1 w1 ⊢
  refine ⟨_, rfl, S, _, rfl, l1.get 5 rfl rfl, A.sd, _, rfl, .inl ⟨SqL.of l1.said, fun q2 m2 => ?_⟩⟩
  have l2 := l1.same (same_new m2 (.tup (m.sd.map V.int)))
  have w1 := same_new m2 (.tup (m.sd.map V.int)) _ _ w1
  have w2 : (upd H15 q2 (.tup (m.sd.map V.int))) q2 = some (.tup (m.sd.map V.int)) := upd_same
  generalize upd H15 q2 (.tup (m.sd.map V.int)) = H16 at l2 w1 w2 ⊢
  refine ⟨_, rfl, S, _, rfl, l2.get 7 rfl rfl, (by show 4 ≤ sizeLine; decide), fun du ndu => ?_⟩
  have l3 := l2.same (same_new ndu (.tup [.ref A.nw, .ref q1, .ref q2, .str m.en]))
  have w1 := same_new ndu (.tup [.ref A.nw, .ref q1, .ref q2, .str m.en]) _ _ w1
  have w2 := same_new ndu (.tup [.ref A.nw, .ref q1, .ref q2, .str m.en]) _ _ w2
  have w3 : (upd H16 du (.tup [.ref A.nw, .ref q1, .ref q2, .str m.en])) du = some (.tup [.ref A.nw, .ref q1, .ref q2, .str m.en]) := upd_same
  generalize upd H16 du (.tup [.ref A.nw, .ref q1, .ref q2, .str m.en]) = H17 at l3 w1 w2 w3 ⊢
  have due : Dp K H17 (.ref du) (runD m) := .tup (SqT.of w3) (.cons (.tup l3.now (dp_rows _)) (.cons (.tup (SqT.of w1) (dp_natz _)) (.cons (.tup (SqT.of w2) (dp_intz _)) (.cons (.str _) .nil))))
  refine ⟨_, rfl, S, _, rfl, l3.get 7 rfl rfl, rfl, _, rfl, ?_⟩
  by_cases eb : m.en = "broken"
  · refine sT eb ⟨_, rfl, _, rfl, _, rfl, tt, c, code, p, h, w, x11, m, rfl, run l3.sm, fun q H18 s18 hq => ?_⟩
    obtain ⟨q', xs, eqr, hq1, hq2⟩ := dp_tup hq
    obtain rfl := V.ref.inj eqr
    obtain ⟨u0, r0, rfl, _, hq2⟩ := dp_cons hq2
    obtain ⟨u1, r1, rfl, _, hq2⟩ := dp_cons hq2
    obtain ⟨u2, r2, rfl, _, hq2⟩ := dp_cons hq2
    obtain ⟨u3, r3, rfl, h3, hq2⟩ := dp_cons hq2
    obtain rfl := dp_str h3
    refine ⟨_, _, _, _, rfl, rfl, hq1, (atI_nat (j := 3) rfl), rfl, ?_⟩
    rw [eb]
    exact k _ (s18 _ _ (l3.sm _ _ g11.tb))
  refine sF eb ?_
  have sl5 : PyData.depth (runD m) < 5 ∧ slimD (runD m) = true := run_slim (by have z := l.sz; have z1 := z.len; have z2 := z.h2; show m.pic.length ≤ _; exact Nat.le_trans (Nat.le_of_eq z1) (Nat.le_trans z2 (by decide))) (Nat.le_trans bl.ln (by decide)) (Nat.le_trans bl.sd (by decide))
  refine ⟨_, rfl, _, rfl, _, rfl, tt, c, code, p, h, w, x11, m, rfl, run l3.sm, fun q H18 s18 hq => ⟨_, rfl, _, _, runD m, rfl, hq, Dp.same s18 due, sl5.1, sl5.2, fun H19 s19 => ⟨true, rfl, iteT ?_⟩⟩⟩
  have l5 := (l3.same s18).same s19
  exact ⟨_, rfl, _, rfl, _, rfl, tt, c, code, p, h, w, x11, m, rfl, run l5.sm, fun H20 s20 => ⟨_, rfl, S, _, rfl, (l5.same s20).get 8 rfl rfl, _, _, .int m.cnt, rfl, .int _, .int _, (by unfold PyData.depth; decide), rfl, fun H21 s21 => k _ (s21 _ _ (s20 _ _ (l5.sm _ _ g11.tb)))⟩⟩
end
end KD

/-! The end of a law whose program holds a generator expression in one def: its table, told by what always holds, and back. -/
namespace GN
open PySem PySem.Spec PyProof.Rows L2

/-- the table, empty as the top leaves it, is told by what always holds; at the end it is told as it stands -/
theorem untab {P0 : Program} {w : World} {K : PySem.W.Frag} {mg : Str → Option Value} {base : Heap} {k : Nat} {f PT : Addr} {fd : FuncData} {ps : List Str} {sp : Sp} (G : FnOk P0 w K mg base CX0 k f fd ps sp) :
    FnOk P0 w K mg base CX0 k f fd ps (fun vs H Q E => H PT = some (.tbl #[]) ∧ sp vs (upd H PT (.ext (TabI PT))) (fun v H' => Tab PT H' ∧ ∀ H'', Q v H'') E) := by
  refine ⟨fun vs H Q E h => G.len _ _ _ _ h.2, fun A outer s H args us vs Q E hr e0 hb hv h => ?_⟩
  obtain ⟨hP, h⟩ := h
  have away : ∀ {b : Addr}, H b = none → b ≠ PT := fun n z => by rw [z, hP] at n; cases n
  have same : ∀ {b : Addr}, b ≠ PT → upd H PT (.ext (TabI PT)) b = H b := fun n => upd_ne n
  have none1 : ∀ {b : Addr}, H b = none → upd H PT (.ext (TabI PT)) b = none := fun n => by rw [same (away n)]; exact n
  have ePT := e0.hok PT _ hP
  have hok1 : HOk P0 w (upd H PT (.ext (TabI PT))) s.heap := fun b u q => by
    by_cases z : b = PT
    · subst z
      rw [upd_same] at q
      cases q
      exact TabI.okX ⟨#[], ePT, trivial⟩
    · rw [same z] at q
      refine (e0.hok b u q).stay (fun _ _ _ e => e) (fun d e => ?_) (fun d xs e => ?_)
      · rw [same (fun y => by rw [y, hP] at e; cases e)]; exact e
      · rw [same (fun y => by rw [y, hP] at e; cases e)]; exact e
  have e1 : Env0 P0 w K mg base A outer s (upd H PT (.ext (TabI PT))) := ⟨e0.frames, e0.mod, fun b o e => ⟨(e0.bs b o e).1, none1 (e0.bs b o e).2⟩, e0.bsz, e0.funs, fun b m => none1 (e0.frf b m), hok1, e0.bare⟩
  refine codeAny_mono (G.run A outer s _ args us vs _ E hr e1 hb hv h) fun r s' z => ?_
  cases r with
  | error e => exact z
  | ok fl =>
    cases fl with
    | next => exact z
    | brk => exact z
    | cont => exact z
    | ret u =>
      obtain ⟨v, H', os, bare, un, hok, rv, hT, q⟩ := z
      obtain ⟨qs, eP, tr⟩ : TabI PT s'.heap := (hok PT _ hT).1
      have far : ∀ {b : Addr} {x : HO}, (∀ φ, x ≠ .ext φ) → H' b = some x → b ≠ PT := fun n e y => by
        rw [y, hT] at e
        exact n _ (Option.some.inj e).symm
      refine ⟨v, upd H' PT (.tbl qs), os, bare, ⟨fun b o e n => un.keep b o e (none1 n), fun b o e n => un.slot b o e (none1 n), fun b o e n m => ?_, un.there, fun b xs e => ?_, fun b o x e => ?_, fun b ts e => ?_⟩, fun b x e => ?_, rv, q _⟩
      · rw [upd_ne (away n)]
        exact un.free b o e (none1 n) m
      · have nb : b ≠ PT := fun y => by rw [y, hP] at e; cases e
        rw [upd_ne nb]
        exact un.tups b xs (by rw [same nb]; exact e)
      · have nb : b ≠ PT := fun y => by rw [y, hP] at e; cases e
        rw [upd_ne nb]
        exact un.frzs b o x (by rw [same nb]; exact e)
      · by_cases y : b = PT
        · subst y
          rw [hP] at e
          cases e
          exact ⟨qs, by rw [upd_same, Array.empty_append]⟩
        · rw [upd_ne y]
          exact un.tbls b ts (by rw [same y]; exact e)
      · by_cases y : b = PT
        · subst y
          rw [upd_same] at e
          cases e
          exact eP
        · rw [upd_ne y] at e
          refine (hok b x e).stay (fun _ _ _ e => e) (fun d e => ?_) (fun d xs e => ?_)
          · rw [upd_ne (far (fun φ y => by cases y) e)]; exact e
          · rw [upd_ne (far (fun φ y => by cases y) e)]; exact e
/-- what the head tells of the def nm: its code object and its empty table -/
def TabOf (mg : Str → Option Value) (nm : Str) (h : Heap) (c PT : Addr) : Prop := ∃ (a : Addr) (o : Obj) (fd : FuncData), mg nm = some (.ref a) ∧ h.get? a = some o ∧ o.data = .func fd ∧ fd.code = .ref c ∧ PySem.W.CodeHd h c PT ∧ h.get? PT = some { cls := .none, data := .fields #[] }
theorem TabOf.of {K : PySem.W.Frag} {mg : Str → Option Value} {nm : Str} {h : Heap} {c PT c0 P0 f : Addr} {oc : Value} {od : Option Addr} {fd : FuncData} {sl : Array (Option Value)} {e : Value} {dd : Option Addr} {vs : Array Value} {sl2 : Array (Option Value)} (X : K.In h) (t : TabOf mg nm h c0 P0)
    (m : mg nm = some (.ref f)) (l : K.lookup f = some ⟨oc, od, .func fd, sl⟩) (hc : fd.code = .ref c) (lc : K.lookup c = some ⟨e, dd, .fields vs, sl2⟩) (hv : vs[11]? = some (.ref PT)) : PySem.W.CodeHd h c PT ∧ h.get? PT = some { cls := .none, data := .fields #[] } := by
  obtain ⟨a, o, fd2, m2, e2, d2, c2, cd, eP⟩ := t
  rw [m] at m2
  cases m2
  have e3 := X _ _ l
  rw [e3] at e2
  cases e2
  cases d2
  rw [hc] at c2
  cases c2
  have e4 := X _ _ lc
  have cd2 := cd
  obtain ⟨o5, vs5, _, _, _, _, _, _, _, f1, _, f3, f4, _⟩ := cd
  rw [e4] at f1
  cases f1
  cases f3
  rw [hv] at f4
  cases f4
  exact ⟨cd2, eP⟩
theorem walk_tab {l : PySem.W.OpenLaw} {n k : Nat} {q : Program} {loose : List Str} {XP : (Str → Option Value) → Heap → Prop} {YP : World → Heap → Prop} {d : DefRec} {K : Params → PySem.W.Frag} {CX : World → CXT} {x nm : Str}
    (h1 : l.most = some n) (h2 : n ≤ sizeLine) (h3 : d.params.defaults = []) (h4 : Room k callerA) (named : ((recsOf q).any fun e => e.name == nm) = true) (toK : ∀ (w : World) (h : Heap), YP w h → (K w.params).In h)
    (F : ∀ (w : World) (mg : Str → Option Value) (fa : Addr) (h : Heap), (K w.params).In h → h.Ns mainGlobals mg → mg d.name = some (.ref fa) → (∃ c PT, TabOf mg nm h c PT) → LamX.LawAtS l w (K w.params) (CX w) k n x mg fa h)
    (quiet : ∀ (w : World) (H : Hp) (s : Shared) (e : Value) (s' : Shared), CX w [] H s (fun _ _ _ => False) e s' → False) :
    PySem.W.WalkO q loose XP YP l.row.toRowW d [] (fun f vs => PySem.call f vs) :=
  Att.attach_callB h1 h3 fun w s0 s1 mg mb fa _ _ _ _ a vs ns G Y _ _ _ hmg hobj hints hlen hbits hg => by
    have KX := toK w _ Y
    have tb : ∃ c PT, TabOf mg nm s1.heap c PT := by
      obtain ⟨r, hr, en⟩ := List.any_eq_true.mp named
      obtain ⟨b, o, fd, c, PT, m, e, dd, cc, ic, ta⟩ := G.T.tab r hr
      rw [beq_iff_eq.mp en] at m
      exact ⟨c, PT, b, o, fd, m, e, dd, cc, PySem.W.CodeHd.of ic ta, ta.2⟩
    obtain ⟨fd, cs, sp, tE, tN, tC, bs, asks, ok⟩ := F w mg fa _ KX G.T.g hmg tb
    exact LamX.law_callTs KX G.T.g G.T.b G.T.builtins G.T.nolimit hg tE tN tC G.T.bmain hobj hints (Nat.le_trans hlen h2) h4 ok bs (fun H hH hS => asks H a ns hlen hbits hH hS) fun H e s' => quiet w H s1 e s'
end GN

namespace KD
open PySem L2 TL
open EB
theorem exm_own {K : PySem.W.Frag} {S : Addr} (h1 : PySem.W.subIn K (.ref S) (.type "BaseException") = some true) (h2 : PySem.W.isClsIn K S = true) (h3 : PySem.W.typeIn K (.ref S) = some (.type "type")) (h4 : PySem.W.subIn K (.ref S) (.ref S) = some true) : PySem.W.exmOne K (.ref S) (.ref S) = some true := by
  have h2 : (PySem.W.clsIn K S).isSome = true := h2
  have e2 : ((PySem.W.clsIn K S).isSome && PySem.W.typeIn K (.ref S) == some (.type "type")) = true := by rw [h2, h3] <;> rfl
  unfold PySem.W.exmOne
  rw [h1, if_pos (show (some true == some true) = true from rfl)]
  show (if ((PySem.W.clsIn K S).isSome && PySem.W.typeIn K (.ref S) == some (.type "type")) = true then PySem.W.subIn K (.ref S) (.ref S) else none) = some true
  rw [if_pos e2]
  exact h4
set_option maxHeartbeats 8000000 in
theorem all_mk {l : PySem.W.OpenLaw} {w : World} {K : PySem.W.Frag} {h : Heap} {mg : Str → Option Value} {fa C fP4 fP5 fP8 fN fQ2 fA0 fA1 fA2 fA3 fA4 fA5 fA6 fA7 fA8 fA9 fB0 fB1 fB2 fB3 fB4 fB5 fD1 fD2 fD3 fD4 fD5 fU1 fU2 fU3 fU4 fU5 fU6 fU7 fU8 fU9 fW1 fW2 fW3 fW4 fW5 fW6 fW7 fX1 fX2 fX3 fR2 fR3 fR4 fR6 fR7 fR8 f7 fV1 fV2 fV3 fV4 fV5 fV6 C2 fE0 qN PT t1 t2 t3 t4 t5 dX2 dX1 dXA : Addr} (X : K.In h) (G : h.Ns mainGlobals mg) (hfa : mg "law" = some (.ref fa)) (TO : ∃ c P, GN.TabOf mg "is_row" h c P)
    {odP4 anP4 odP5 anP5 odP8 anP8 odN anN odQ2 anQ2 odA0 anA0 odA1 anA1 odA2 anA2 odA3 anA3 odA4 anA4 odA5 anA5 odA6 anA6 odA7 anA7 odA8 anA8 odA9 anA9 odB0 anB0 odB1 anB1 odB2 anB2 odB3 anB3 odB4 anB4 odB5 anB5 odD1 anD1 odD2 anD2 odD3 anD3 odD4 anD4 odD5 anD5 odU1 anU1 odU2 anU2 odU3 anU3 odU4 anU4 odU5 anU5 odU6 anU6 odU7 anU7 odU8 anU8 odU9 anU9 odW1 anW1 odW2 anW2 odW3 anW3 odW4 anW4 odW5 anW5 odW6 anW6 odW7 anW7 odX1 anX1 odX2 anX2 odX3 anX3 odR2 anR2 odR3 anR3 odR4 anR4 odR6 anR6 odR7 anR7 odR8 anR8 od7 an7 odV1 anV1 odV2 anV2 odV3 anV3 odV4 anV4 odV5 anV5 odV6 anV6 odE0 anE0 odN2 ot1 ot2 ot3 ot4 ot5 : Option Addr} {slP4 slP5 slP8 slN slQ2 slA0 slA1 slA2 slA3 slA4 slA5 slA6 slA7 slA8 slA9 slB0 slB1 slB2 slB3 slB4 slB5 slD1 slD2 slD3 slD4 slD5 slU1 slU2 slU3 slU4 slU5 slU6 slU7 slU8 slU9 slW1 slW2 slW3 slW4 slW5 slW6 slW7 slX1 slX2 slX3 slR2 slR3 slR4 slR6 slR7 slR8 sl7 slV1 slV2 slV3 slV4 slV5 slV6 slE0 slN2 st1 st2 st3 st4 st5 : Array (Option Value)} {ocP4 kVP4 dcP4 pmP4 cdP4 ctP4 ocP5 kVP5 dcP5 pmP5 cdP5 ctP5 ocP8 kVP8 dcP8 pmP8 cdP8 ctP8 ocN kVN dcN pmN ctN ocQ2 kVQ2 dcQ2 pmQ2 cdQ2 ctQ2 ocA0 kVA0 dcA0 pmA0 cdA0 ctA0 ocA1 kVA1 dcA1 pmA1 cdA1 ctA1 ocA2 kVA2 dcA2 pmA2 cdA2 ctA2 ocA3 kVA3 dcA3 pmA3 cdA3 ctA3 ocA4 kVA4 dcA4 pmA4 cdA4 ctA4 ocA5 kVA5 dcA5 pmA5 cdA5 ctA5 ocA6 kVA6 dcA6 pmA6 cdA6 ctA6 ocA7 kVA7 dcA7 pmA7 cdA7 ctA7 ocA8 kVA8 dcA8 pmA8 cdA8 ctA8 ocA9 kVA9 dcA9 pmA9 cdA9 ctA9 ocB0 kVB0 dcB0 pmB0 cdB0 ctB0 ocB1 kVB1 dcB1 pmB1 cdB1 ctB1 ocB2 kVB2 dcB2 pmB2 cdB2 ctB2 ocB3 kVB3 dcB3 pmB3 cdB3 ctB3 ocB4 kVB4 dcB4 pmB4 cdB4 ctB4 ocB5 kVB5 dcB5 pmB5 cdB5 ctB5 ocD1 kVD1 dcD1 pmD1 cdD1 ctD1 ocD2 kVD2 dcD2 pmD2 cdD2 ctD2 ocD3 kVD3 dcD3 pmD3 cdD3 ctD3 ocD4 kVD4 dcD4 pmD4 cdD4 ctD4 ocD5 kVD5 dcD5 pmD5 cdD5 ctD5 ocU1 kVU1 dcU1 pmU1 cdU1 ctU1 ocU2 kVU2 dcU2 pmU2 cdU2 ctU2 ocU3 kVU3 dcU3 pmU3 cdU3 ctU3 ocU4 kVU4 dcU4 pmU4 cdU4 ctU4 ocU5 kVU5 dcU5 pmU5 cdU5 ctU5 ocU6 kVU6 dcU6 pmU6 cdU6 ctU6 ocU7 kVU7 dcU7 pmU7 cdU7 ctU7 ocU8 kVU8 dcU8 pmU8 cdU8 ctU8 ocU9 kVU9 dcU9 pmU9 cdU9 ctU9 ocW1 kVW1 dcW1 pmW1 cdW1 ctW1 ocW2 kVW2 dcW2 pmW2 cdW2 ctW2 ocW3 kVW3 dcW3 pmW3 cdW3 ctW3 ocW4 kVW4 dcW4 pmW4 cdW4 ctW4 ocW5 kVW5 dcW5 pmW5 cdW5 ctW5 ocW6 kVW6 dcW6 pmW6 cdW6 ctW6 ocW7 kVW7 dcW7 pmW7 cdW7 ctW7 ocX1 kVX1 dcX1 pmX1 cdX1 ctX1 ocX2 kVX2 dcX2 pmX2 cdX2 ctX2 ocX3 kVX3 dcX3 pmX3 cdX3 ctX3 ocR2 kVR2 dcR2 pmR2 cdR2 ctR2 ocR3 kVR3 dcR3 pmR3 cdR3 ctR3 ocR4 kVR4 dcR4 pmR4 cdR4 ctR4 ocR6 kVR6 dcR6 pmR6 cdR6 ctR6 ocR7 kVR7 dcR7 pmR7 cdR7 ctR7 ocR8 kVR8 dcR8 pmR8 cdR8 ctR8 oc7 kV7 dc7 pm7 cd7 ct7 ocV1 kVV1 dcV1 pmV1 cdV1 ctV1 ocV2 kVV2 dcV2 pmV2 cdV2 ctV2 ocV3 kVV3 dcV3 pmV3 cdV3 ctV3 ocV4 kVV4 dcV4 pmV4 cdV4 ctV4 ocV5 kVV5 dcV5 pmV5 cdV5 ctV5 ocV6 kVV6 dcV6 pmV6 cdV6 ctV6 ocE0 kVE0 dcE0 pmE0 cdE0 ctE0 ocN2 : Value} {vsN2 it1 it2 it3 it4 it5 : Array Value} {edX2 edX1 edXA : Array DictEntry} {nt1 nt2 nt3 nt4 nt5 ndX2 ndX1 ndXA : Nat} {tk1 tk4 tk5 tk6 tk7 tk8 tk9 tk2 tk3 : Tok} {nmE qE : Str} {NE : Addr} {bsE bmE : List Value} {snE : List Str} {subE : List Value} {abE : Bool} {colE : Option Bool} {ddE : Option Addr} {e0 e1 e2 e3 e5 : Option Value}
    (aC : PySem.W.nsIn K mainGlobals "Processor" = some (some (.ref C)))
    (aP4 : PySem.W.nsIn K mainGlobals "with_line" = some (some (.ref fP4)))
    (lP4 : K.lookup fP4 = some ⟨ocP4, odP4, .func (PySem.W.fnOf "with_line" "with_line" (defArgs S_with_line) (defBody S_with_line) (defScope S_with_line) .none kVP4 dcP4 pmP4 anP4 cdP4 ctP4), slP4⟩)
    (cP4 : PySem.W.codeIn K cdP4 "with_line" = true)
    (kP4 : PySem.W.keepIn K (.ref fP4) = true)
    (aP5 : PySem.W.nsIn K mainGlobals "check_picture" = some (some (.ref fP5)))
    (lP5 : K.lookup fP5 = some ⟨ocP5, odP5, .func (PySem.W.fnOf "check_picture" "check_picture" (defArgs S_check_picture) (defBody S_check_picture) (defScope S_check_picture) .none kVP5 dcP5 pmP5 anP5 cdP5 ctP5), slP5⟩)
    (cP5 : PySem.W.codeIn K cdP5 "check_picture" = true)
    (kP5 : PySem.W.keepIn K (.ref fP5) = true)
    (aP8 : PySem.W.nsIn K mainGlobals "is_picture" = some (some (.ref fP8)))
    (lP8 : K.lookup fP8 = some ⟨ocP8, odP8, .func (PySem.W.fnOf "is_picture" "is_picture" (defArgs S_is_picture) (defBody S_is_picture) (defScope S_is_picture) .none kVP8 dcP8 pmP8 anP8 cdP8 ctP8), slP8⟩)
    (cP8 : PySem.W.codeIn K cdP8 "is_picture" = true)
    (kP8 : PySem.W.keepIn K (.ref fP8) = true)
    (aN : PySem.W.nsIn K mainGlobals "is_row" = some (some (.ref fN)))
    (lN : K.lookup fN = some ⟨ocN, odN, .func (PySem.W.fnOf "is_row" "is_row" (defArgs S_is_row) (defBody S_is_row) (defScope S_is_row) .none kVN dcN pmN anN (.ref qN) ctN), slN⟩)
    (cN : PySem.W.codeIn K (.ref qN) "is_row" = true)
    (kN : PySem.W.keepIn K (.ref fN) = true)
    (aQ2 : PySem.W.nsIn K mainGlobals "is_integer" = some (some (.ref fQ2)))
    (lQ2 : K.lookup fQ2 = some ⟨ocQ2, odQ2, .func (PySem.W.fnOf "is_integer" "is_integer" (defArgs S_is_integer) (defBody S_is_integer) (defScope S_is_integer) .none kVQ2 dcQ2 pmQ2 anQ2 cdQ2 ctQ2), slQ2⟩)
    (cQ2 : PySem.W.codeIn K cdQ2 "is_integer" = true)
    (kQ2 : PySem.W.keepIn K (.ref fQ2) = true)
    (aA0 : PySem.W.nsIn K mainGlobals "within" = some (some (.ref fA0)))
    (lA0 : K.lookup fA0 = some ⟨ocA0, odA0, .func (PySem.W.fnOf "within" "within" (defArgs S_within) (defBody S_within) (defScope S_within) .none kVA0 dcA0 pmA0 anA0 cdA0 ctA0), slA0⟩)
    (cA0 : PySem.W.codeIn K cdA0 "within" = true)
    (kA0 : PySem.W.keepIn K (.ref fA0) = true)
    (aA1 : PySem.W.nsIn K mainGlobals "add" = some (some (.ref fA1)))
    (lA1 : K.lookup fA1 = some ⟨ocA1, odA1, .func (PySem.W.fnOf "add" "add" (defArgs S_add) (defBody S_add) (defScope S_add) .none kVA1 dcA1 pmA1 anA1 cdA1 ctA1), slA1⟩)
    (cA1 : PySem.W.codeIn K cdA1 "add" = true)
    (kA1 : PySem.W.keepIn K (.ref fA1) = true)
    (aA2 : PySem.W.nsIn K mainGlobals "subtract" = some (some (.ref fA2)))
    (lA2 : K.lookup fA2 = some ⟨ocA2, odA2, .func (PySem.W.fnOf "subtract" "subtract" (defArgs S_subtract) (defBody S_subtract) (defScope S_subtract) .none kVA2 dcA2 pmA2 anA2 cdA2 ctA2), slA2⟩)
    (cA2 : PySem.W.codeIn K cdA2 "subtract" = true)
    (kA2 : PySem.W.keepIn K (.ref fA2) = true)
    (aA3 : PySem.W.nsIn K mainGlobals "multiply" = some (some (.ref fA3)))
    (lA3 : K.lookup fA3 = some ⟨ocA3, odA3, .func (PySem.W.fnOf "multiply" "multiply" (defArgs S_multiply) (defBody S_multiply) (defScope S_multiply) .none kVA3 dcA3 pmA3 anA3 cdA3 ctA3), slA3⟩)
    (cA3 : PySem.W.codeIn K cdA3 "multiply" = true)
    (kA3 : PySem.W.keepIn K (.ref fA3) = true)
    (aA4 : PySem.W.nsIn K mainGlobals "is_less" = some (some (.ref fA4)))
    (lA4 : K.lookup fA4 = some ⟨ocA4, odA4, .func (PySem.W.fnOf "is_less" "is_less" (defArgs S_is_less) (defBody S_is_less) (defScope S_is_less) .none kVA4 dcA4 pmA4 anA4 cdA4 ctA4), slA4⟩)
    (cA4 : PySem.W.codeIn K cdA4 "is_less" = true)
    (kA4 : PySem.W.keepIn K (.ref fA4) = true)
    (aA5 : PySem.W.nsIn K mainGlobals "is_at_most" = some (some (.ref fA5)))
    (lA5 : K.lookup fA5 = some ⟨ocA5, odA5, .func (PySem.W.fnOf "is_at_most" "is_at_most" (defArgs S_is_at_most) (defBody S_is_at_most) (defScope S_is_at_most) .none kVA5 dcA5 pmA5 anA5 cdA5 ctA5), slA5⟩)
    (cA5 : PySem.W.codeIn K cdA5 "is_at_most" = true)
    (kA5 : PySem.W.keepIn K (.ref fA5) = true)
    (aA6 : PySem.W.nsIn K mainGlobals "is_equal" = some (some (.ref fA6)))
    (lA6 : K.lookup fA6 = some ⟨ocA6, odA6, .func (PySem.W.fnOf "is_equal" "is_equal" (defArgs S_is_equal) (defBody S_is_equal) (defScope S_is_equal) .none kVA6 dcA6 pmA6 anA6 cdA6 ctA6), slA6⟩)
    (cA6 : PySem.W.codeIn K cdA6 "is_equal" = true)
    (kA6 : PySem.W.keepIn K (.ref fA6) = true)
    (aA7 : PySem.W.nsIn K mainGlobals "is_unlike" = some (some (.ref fA7)))
    (lA7 : K.lookup fA7 = some ⟨ocA7, odA7, .func (PySem.W.fnOf "is_unlike" "is_unlike" (defArgs S_is_unlike) (defBody S_is_unlike) (defScope S_is_unlike) .none kVA7 dcA7 pmA7 anA7 cdA7 ctA7), slA7⟩)
    (cA7 : PySem.W.codeIn K cdA7 "is_unlike" = true)
    (kA7 : PySem.W.keepIn K (.ref fA7) = true)
    (aA8 : PySem.W.nsIn K mainGlobals "truth" = some (some (.ref fA8)))
    (lA8 : K.lookup fA8 = some ⟨ocA8, odA8, .func (PySem.W.fnOf "truth" "truth" (defArgs S_truth) (defBody S_truth) (defScope S_truth) .none kVA8 dcA8 pmA8 anA8 cdA8 ctA8), slA8⟩)
    (cA8 : PySem.W.codeIn K cdA8 "truth" = true)
    (kA8 : PySem.W.keepIn K (.ref fA8) = true)
    (aA9 : PySem.W.nsIn K mainGlobals "negative" = some (some (.ref fA9)))
    (lA9 : K.lookup fA9 = some ⟨ocA9, odA9, .func (PySem.W.fnOf "negative" "negative" (defArgs S_negative) (defBody S_negative) (defScope S_negative) .none kVA9 dcA9 pmA9 anA9 cdA9 ctA9), slA9⟩)
    (cA9 : PySem.W.codeIn K cdA9 "negative" = true)
    (kA9 : PySem.W.keepIn K (.ref fA9) = true)
    (aB0 : PySem.W.nsIn K mainGlobals "denial" = some (some (.ref fB0)))
    (lB0 : K.lookup fB0 = some ⟨ocB0, odB0, .func (PySem.W.fnOf "denial" "denial" (defArgs S_denial) (defBody S_denial) (defScope S_denial) .none kVB0 dcB0 pmB0 anB0 cdB0 ctB0), slB0⟩)
    (cB0 : PySem.W.codeIn K cdB0 "denial" = true)
    (kB0 : PySem.W.keepIn K (.ref fB0) = true)
    (aB1 : PySem.W.nsIn K mainGlobals "made_of_two" = some (some (.ref fB1)))
    (lB1 : K.lookup fB1 = some ⟨ocB1, odB1, .func (PySem.W.fnOf "made_of_two" "made_of_two" (defArgs S_made_of_two) (defBody S_made_of_two) (defScope S_made_of_two) .none kVB1 dcB1 pmB1 anB1 cdB1 ctB1), slB1⟩)
    (cB1 : PySem.W.codeIn K cdB1 "made_of_two" = true)
    (kB1 : PySem.W.keepIn K (.ref fB1) = true)
    (aB2 : PySem.W.nsIn K mainGlobals "made_of_one" = some (some (.ref fB2)))
    (lB2 : K.lookup fB2 = some ⟨ocB2, odB2, .func (PySem.W.fnOf "made_of_one" "made_of_one" (defArgs S_made_of_one) (defBody S_made_of_one) (defScope S_made_of_one) .none kVB2 dcB2 pmB2 anB2 cdB2 ctB2), slB2⟩)
    (cB2 : PySem.W.codeIn K cdB2 "made_of_one" = true)
    (kB2 : PySem.W.keepIn K (.ref fB2) = true)
    (aB3 : PySem.W.nsIn K mainGlobals "cell" = some (some (.ref fB3)))
    (lB3 : K.lookup fB3 = some ⟨ocB3, odB3, .func (PySem.W.fnOf "cell" "cell" (defArgs S_cell) (defBody S_cell) (defScope S_cell) .none kVB3 dcB3 pmB3 anB3 cdB3 ctB3), slB3⟩)
    (cB3 : PySem.W.codeIn K cdB3 "cell" = true)
    (kB3 : PySem.W.keepIn K (.ref fB3) = true)
    (aB4 : PySem.W.nsIn K mainGlobals "row_line" = some (some (.ref fB4)))
    (lB4 : K.lookup fB4 = some ⟨ocB4, odB4, .func (PySem.W.fnOf "row_line" "row_line" (defArgs S_row_line) (defBody S_row_line) (defScope S_row_line) .none kVB4 dcB4 pmB4 anB4 cdB4 ctB4), slB4⟩)
    (cB4 : PySem.W.codeIn K cdB4 "row_line" = true)
    (kB4 : PySem.W.keepIn K (.ref fB4) = true)
    (aB5 : PySem.W.nsIn K mainGlobals "column_line" = some (some (.ref fB5)))
    (lB5 : K.lookup fB5 = some ⟨ocB5, odB5, .func (PySem.W.fnOf "column_line" "column_line" (defArgs S_column_line) (defBody S_column_line) (defScope S_column_line) .none kVB5 dcB5 pmB5 anB5 cdB5 ctB5), slB5⟩)
    (cB5 : PySem.W.codeIn K cdB5 "column_line" = true)
    (kB5 : PySem.W.keepIn K (.ref fB5) = true)
    (aD1 : PySem.W.nsIn K mainGlobals "is_code" = some (some (.ref fD1)))
    (lD1 : K.lookup fD1 = some ⟨ocD1, odD1, .func (PySem.W.fnOf "is_code" "is_code" (defArgs S_is_code) (defBody S_is_code) (defScope S_is_code) .none kVD1 dcD1 pmD1 anD1 cdD1 ctD1), slD1⟩)
    (cD1 : PySem.W.codeIn K cdD1 "is_code" = true)
    (kD1 : PySem.W.keepIn K (.ref fD1) = true)
    (aD2 : PySem.W.nsIn K mainGlobals "check_code" = some (some (.ref fD2)))
    (lD2 : K.lookup fD2 = some ⟨ocD2, odD2, .func (PySem.W.fnOf "check_code" "check_code" (defArgs S_check_code) (defBody S_check_code) (defScope S_check_code) .none kVD2 dcD2 pmD2 anD2 cdD2 ctD2), slD2⟩)
    (cD2 : PySem.W.codeIn K cdD2 "check_code" = true)
    (kD2 : PySem.W.keepIn K (.ref fD2) = true)
    (aD3 : PySem.W.nsIn K mainGlobals "is_order" = some (some (.ref fD3)))
    (lD3 : K.lookup fD3 = some ⟨ocD3, odD3, .func (PySem.W.fnOf "is_order" "is_order" (defArgs S_is_order) (defBody S_is_order) (defScope S_is_order) .none kVD3 dcD3 pmD3 anD3 cdD3 ctD3), slD3⟩)
    (cD3 : PySem.W.codeIn K cdD3 "is_order" = true)
    (kD3 : PySem.W.keepIn K (.ref fD3) = true)
    (aD4 : PySem.W.nsIn K mainGlobals "has_its_number" = some (some (.ref fD4)))
    (lD4 : K.lookup fD4 = some ⟨ocD4, odD4, .func (PySem.W.fnOf "has_its_number" "has_its_number" (defArgs S_has_its_number) (defBody S_has_its_number) (defScope S_has_its_number) .none kVD4 dcD4 pmD4 anD4 cdD4 ctD4), slD4⟩)
    (cD4 : PySem.W.codeIn K cdD4 "has_its_number" = true)
    (kD4 : PySem.W.keepIn K (.ref fD4) = true)
    (aD5 : PySem.W.nsIn K mainGlobals "check_ticks" = some (some (.ref fD5)))
    (lD5 : K.lookup fD5 = some ⟨ocD5, odD5, .func (PySem.W.fnOf "check_ticks" "check_ticks" (defArgs S_check_ticks) (defBody S_check_ticks) (defScope S_check_ticks) .none kVD5 dcD5 pmD5 anD5 cdD5 ctD5), slD5⟩)
    (cD5 : PySem.W.codeIn K cdD5 "check_ticks" = true)
    (kD5 : PySem.W.keepIn K (.ref fD5) = true)
    (aU1 : PySem.W.nsIn K mainGlobals "push" = some (some (.ref fU1)))
    (lU1 : K.lookup fU1 = some ⟨ocU1, odU1, .func (PySem.W.fnOf "push" "push" (defArgs S_push) (defBody S_push) (defScope S_push) .none kVU1 dcU1 pmU1 anU1 cdU1 ctU1), slU1⟩)
    (cU1 : PySem.W.codeIn K cdU1 "push" = true)
    (kU1 : PySem.W.keepIn K (.ref fU1) = true)
    (aU2 : PySem.W.nsIn K mainGlobals "load" = some (some (.ref fU2)))
    (lU2 : K.lookup fU2 = some ⟨ocU2, odU2, .func (PySem.W.fnOf "load" "load" (defArgs S_load) (defBody S_load) (defScope S_load) .none kVU2 dcU2 pmU2 anU2 cdU2 ctU2), slU2⟩)
    (cU2 : PySem.W.codeIn K cdU2 "load" = true)
    (kU2 : PySem.W.keepIn K (.ref fU2) = true)
    (aU3 : PySem.W.nsIn K mainGlobals "store" = some (some (.ref fU3)))
    (lU3 : K.lookup fU3 = some ⟨ocU3, odU3, .func (PySem.W.fnOf "store" "store" (defArgs S_store) (defBody S_store) (defScope S_store) .none kVU3 dcU3 pmU3 anU3 cdU3 ctU3), slU3⟩)
    (cU3 : PySem.W.codeIn K cdU3 "store" = true)
    (kU3 : PySem.W.keepIn K (.ref fU3) = true)
    (aU4 : PySem.W.nsIn K mainGlobals "copy_uppermost" = some (some (.ref fU4)))
    (lU4 : K.lookup fU4 = some ⟨ocU4, odU4, .func (PySem.W.fnOf "copy_uppermost" "copy_uppermost" (defArgs S_copy_uppermost) (defBody S_copy_uppermost) (defScope S_copy_uppermost) .none kVU4 dcU4 pmU4 anU4 cdU4 ctU4), slU4⟩)
    (cU4 : PySem.W.codeIn K cdU4 "copy_uppermost" = true)
    (kU4 : PySem.W.keepIn K (.ref fU4) = true)
    (aU5 : PySem.W.nsIn K mainGlobals "lay_rows" = some (some (.ref fU5)))
    (lU5 : K.lookup fU5 = some ⟨ocU5, odU5, .func (PySem.W.fnOf "lay_rows" "lay_rows" (defArgs S_lay_rows) (defBody S_lay_rows) (defScope S_lay_rows) .none kVU5 dcU5 pmU5 anU5 cdU5 ctU5), slU5⟩)
    (cU5 : PySem.W.codeIn K cdU5 "lay_rows" = true)
    (kU5 : PySem.W.keepIn K (.ref fU5) = true)
    (aU6 : PySem.W.nsIn K mainGlobals "lay_columns" = some (some (.ref fU6)))
    (lU6 : K.lookup fU6 = some ⟨ocU6, odU6, .func (PySem.W.fnOf "lay_columns" "lay_columns" (defArgs S_lay_columns) (defBody S_lay_columns) (defScope S_lay_columns) .none kVU6 dcU6 pmU6 anU6 cdU6 ctU6), slU6⟩)
    (cU6 : PySem.W.codeIn K cdU6 "lay_columns" = true)
    (kU6 : PySem.W.keepIn K (.ref fU6) = true)
    (aU7 : PySem.W.nsIn K mainGlobals "look" = some (some (.ref fU7)))
    (lU7 : K.lookup fU7 = some ⟨ocU7, odU7, .func (PySem.W.fnOf "look" "look" (defArgs S_look) (defBody S_look) (defScope S_look) .none kVU7 dcU7 pmU7 anU7 cdU7 ctU7), slU7⟩)
    (cU7 : PySem.W.codeIn K cdU7 "look" = true)
    (kU7 : PySem.W.keepIn K (.ref fU7) = true)
    (aU8 : PySem.W.nsIn K mainGlobals "paint_row" = some (some (.ref fU8)))
    (lU8 : K.lookup fU8 = some ⟨ocU8, odU8, .func (PySem.W.fnOf "paint_row" "paint_row" (defArgs S_paint_row) (defBody S_paint_row) (defScope S_paint_row) .none kVU8 dcU8 pmU8 anU8 cdU8 ctU8), slU8⟩)
    (cU8 : PySem.W.codeIn K cdU8 "paint_row" = true)
    (kU8 : PySem.W.keepIn K (.ref fU8) = true)
    (aU9 : PySem.W.nsIn K mainGlobals "paint_column" = some (some (.ref fU9)))
    (lU9 : K.lookup fU9 = some ⟨ocU9, odU9, .func (PySem.W.fnOf "paint_column" "paint_column" (defArgs S_paint_column) (defBody S_paint_column) (defScope S_paint_column) .none kVU9 dcU9 pmU9 anU9 cdU9 ctU9), slU9⟩)
    (cU9 : PySem.W.codeIn K cdU9 "paint_column" = true)
    (kU9 : PySem.W.keepIn K (.ref fU9) = true)
    (aW1 : PySem.W.nsIn K mainGlobals "say" = some (some (.ref fW1)))
    (lW1 : K.lookup fW1 = some ⟨ocW1, odW1, .func (PySem.W.fnOf "say" "say" (defArgs S_say) (defBody S_say) (defScope S_say) .none kVW1 dcW1 pmW1 anW1 cdW1 ctW1), slW1⟩)
    (cW1 : PySem.W.codeIn K cdW1 "say" = true)
    (kW1 : PySem.W.keepIn K (.ref fW1) = true)
    (aW2 : PySem.W.nsIn K mainGlobals "jump" = some (some (.ref fW2)))
    (lW2 : K.lookup fW2 = some ⟨ocW2, odW2, .func (PySem.W.fnOf "jump" "jump" (defArgs S_jump) (defBody S_jump) (defScope S_jump) .none kVW2 dcW2 pmW2 anW2 cdW2 ctW2), slW2⟩)
    (cW2 : PySem.W.codeIn K cdW2 "jump" = true)
    (kW2 : PySem.W.keepIn K (.ref fW2) = true)
    (aW3 : PySem.W.nsIn K mainGlobals "jump_at_zero" = some (some (.ref fW3)))
    (lW3 : K.lookup fW3 = some ⟨ocW3, odW3, .func (PySem.W.fnOf "jump_at_zero" "jump_at_zero" (defArgs S_jump_at_zero) (defBody S_jump_at_zero) (defScope S_jump_at_zero) .none kVW3 dcW3 pmW3 anW3 cdW3 ctW3), slW3⟩)
    (cW3 : PySem.W.codeIn K cdW3 "jump_at_zero" = true)
    (kW3 : PySem.W.keepIn K (.ref fW3) = true)
    (aW4 : PySem.W.nsIn K mainGlobals "jump_at_some" = some (some (.ref fW4)))
    (lW4 : K.lookup fW4 = some ⟨ocW4, odW4, .func (PySem.W.fnOf "jump_at_some" "jump_at_some" (defArgs S_jump_at_some) (defBody S_jump_at_some) (defScope S_jump_at_some) .none kVW4 dcW4 pmW4 anW4 cdW4 ctW4), slW4⟩)
    (cW4 : PySem.W.codeIn K cdW4 "jump_at_some" = true)
    (kW4 : PySem.W.keepIn K (.ref fW4) = true)
    (aW5 : PySem.W.nsIn K mainGlobals "tick" = some (some (.ref fW5)))
    (lW5 : K.lookup fW5 = some ⟨ocW5, odW5, .func (PySem.W.fnOf "tick" "tick" (defArgs S_tick) (defBody S_tick) (defScope S_tick) .none kVW5 dcW5 pmW5 anW5 cdW5 ctW5), slW5⟩)
    (cW5 : PySem.W.codeIn K cdW5 "tick" = true)
    (kW5 : PySem.W.keepIn K (.ref fW5) = true)
    (aW6 : PySem.W.nsIn K mainGlobals "make_frame" = some (some (.ref fW6)))
    (lW6 : K.lookup fW6 = some ⟨ocW6, odW6, .func (PySem.W.fnOf "make_frame" "make_frame" (defArgs S_make_frame) (defBody S_make_frame) (defScope S_make_frame) .none kVW6 dcW6 pmW6 anW6 cdW6 ctW6), slW6⟩)
    (cW6 : PySem.W.codeIn K cdW6 "make_frame" = true)
    (kW6 : PySem.W.keepIn K (.ref fW6) = true)
    (aW7 : PySem.W.nsIn K mainGlobals "finish" = some (some (.ref fW7)))
    (lW7 : K.lookup fW7 = some ⟨ocW7, odW7, .func (PySem.W.fnOf "finish" "finish" (defArgs S_finish) (defBody S_finish) (defScope S_finish) .none kVW7 dcW7 pmW7 anW7 cdW7 ctW7), slW7⟩)
    (cW7 : PySem.W.codeIn K cdW7 "finish" = true)
    (kW7 : PySem.W.keepIn K (.ref fW7) = true)
    (aX1 : PySem.W.nsIn K mainGlobals "execute" = some (some (.ref fX1)))
    (lX1 : K.lookup fX1 = some ⟨ocX1, odX1, .func (PySem.W.fnOf "execute" "execute" (defArgs S_execute) (defBody S_execute) (defScope S_execute) .none kVX1 dcX1 pmX1 anX1 cdX1 ctX1), slX1⟩)
    (cX1 : PySem.W.codeIn K cdX1 "execute" = true)
    (kX1 : PySem.W.keepIn K (.ref fX1) = true)
    (aX2 : PySem.W.nsIn K mainGlobals "orders_done" = some (some (.ref fX2)))
    (lX2 : K.lookup fX2 = some ⟨ocX2, odX2, .func (PySem.W.fnOf "orders_done" "orders_done" (defArgs S_orders_done) (defBody S_orders_done) (defScope S_orders_done) .none kVX2 dcX2 pmX2 anX2 cdX2 ctX2), slX2⟩)
    (cX2 : PySem.W.codeIn K cdX2 "orders_done" = true)
    (kX2 : PySem.W.keepIn K (.ref fX2) = true)
    (aX3 : PySem.W.nsIn K mainGlobals "ended" = some (some (.ref fX3)))
    (lX3 : K.lookup fX3 = some ⟨ocX3, odX3, .func (PySem.W.fnOf "ended" "ended" (defArgs S_ended) (defBody S_ended) (defScope S_ended) .none kVX3 dcX3 pmX3 anX3 cdX3 ctX3), slX3⟩)
    (cX3 : PySem.W.codeIn K cdX3 "ended" = true)
    (kX3 : PySem.W.keepIn K (.ref fX3) = true)
    (aR2 : PySem.W.nsIn K mainGlobals "_law_taken" = some (some (.ref fR2)))
    (lR2 : K.lookup fR2 = some ⟨ocR2, odR2, .func (PySem.W.fnOf "_law_taken" "_law_taken" (defArgs S__law_taken) (defBody S__law_taken) (defScope S__law_taken) .none kVR2 dcR2 pmR2 anR2 cdR2 ctR2), slR2⟩)
    (cR2 : PySem.W.codeIn K cdR2 "_law_taken" = true)
    (kR2 : PySem.W.keepIn K (.ref fR2) = true)
    (aR3 : PySem.W.nsIn K mainGlobals "_law_pick" = some (some (.ref fR3)))
    (lR3 : K.lookup fR3 = some ⟨ocR3, odR3, .func (PySem.W.fnOf "_law_pick" "_law_pick" (defArgs S__law_pick) (defBody S__law_pick) (defScope S__law_pick) .none kVR3 dcR3 pmR3 anR3 cdR3 ctR3), slR3⟩)
    (cR3 : PySem.W.codeIn K cdR3 "_law_pick" = true)
    (kR3 : PySem.W.keepIn K (.ref fR3) = true)
    (aR4 : PySem.W.nsIn K mainGlobals "_law_alike" = some (some (.ref fR4)))
    (lR4 : K.lookup fR4 = some ⟨ocR4, odR4, .func (PySem.W.fnOf "_law_alike" "_law_alike" (defArgs S__law_alike) (defBody S__law_alike) (defScope S__law_alike) .none kVR4 dcR4 pmR4 anR4 cdR4 ctR4), slR4⟩)
    (cR4 : PySem.W.codeIn K cdR4 "_law_alike" = true)
    (kR4 : PySem.W.keepIn K (.ref fR4) = true)
    (aR6 : PySem.W.nsIn K mainGlobals "_law_picture" = some (some (.ref fR6)))
    (lR6 : K.lookup fR6 = some ⟨ocR6, odR6, .func (PySem.W.fnOf "_law_picture" "_law_picture" (defArgs S__law_picture) (defBody S__law_picture) (defScope S__law_picture) .none kVR6 dcR6 pmR6 anR6 cdR6 ctR6), slR6⟩)
    (cR6 : PySem.W.codeIn K cdR6 "_law_picture" = true)
    (kR6 : PySem.W.keepIn K (.ref fR6) = true)
    (aR7 : PySem.W.nsIn K mainGlobals "_law_stroke" = some (some (.ref fR7)))
    (lR7 : K.lookup fR7 = some ⟨ocR7, odR7, .func (PySem.W.fnOf "_law_stroke" "_law_stroke" (defArgs S__law_stroke) (defBody S__law_stroke) (defScope S__law_stroke) .none kVR7 dcR7 pmR7 anR7 cdR7 ctR7), slR7⟩)
    (cR7 : PySem.W.codeIn K cdR7 "_law_stroke" = true)
    (kR7 : PySem.W.keepIn K (.ref fR7) = true)
    (aR8 : PySem.W.nsIn K mainGlobals "_law_order" = some (some (.ref fR8)))
    (lR8 : K.lookup fR8 = some ⟨ocR8, odR8, .func (PySem.W.fnOf "_law_order" "_law_order" (defArgs S__law_order) (defBody S__law_order) (defScope S__law_order) .none kVR8 dcR8 pmR8 anR8 cdR8 ctR8), slR8⟩)
    (cR8 : PySem.W.codeIn K cdR8 "_law_order" = true)
    (kR8 : PySem.W.keepIn K (.ref fR8) = true)
    (a7 : PySem.W.nsIn K mainGlobals "law" = some (some (.ref f7)))
    (l7 : K.lookup f7 = some ⟨oc7, od7, .func (PySem.W.fnOf "law" "law" (defArgs S_law) (defBody S_law) (defScope S_law) .none kV7 dc7 pm7 an7 cd7 ct7), sl7⟩)
    (c7 : PySem.W.codeIn K cd7 "law" = true)
    (k7 : PySem.W.keepIn K (.ref f7) = true)
    (aV1 : PySem.W.findIn K (.ref C) "__init__" = some (some (.ref fV1)))
    (iV1 : PySem.W.isFn K (.ref fV1) = true)
    (lV1 : K.lookup fV1 = some ⟨ocV1, odV1, .func (PySem.W.fnOf "__init__" "Processor.__init__" (defArgs S_Processor___init__) (defBody S_Processor___init__) (defScope S_Processor___init__) .none kVV1 dcV1 pmV1 anV1 cdV1 ctV1), slV1⟩)
    (cV1 : PySem.W.codeIn K cdV1 "Processor.__init__" = true)
    (kV1 : PySem.W.keepIn K (.ref fV1) = true)
    (aV2 : PySem.W.findIn K (.ref C) "go" = some (some (.ref fV2)))
    (iV2 : PySem.W.isFn K (.ref fV2) = true)
    (lV2 : K.lookup fV2 = some ⟨ocV2, odV2, .func (PySem.W.fnOf "go" "Processor.go" (defArgs S_Processor_go) (defBody S_Processor_go) (defScope S_Processor_go) .none kVV2 dcV2 pmV2 anV2 cdV2 ctV2), slV2⟩)
    (cV2 : PySem.W.codeIn K cdV2 "Processor.go" = true)
    (kV2 : PySem.W.keepIn K (.ref fV2) = true)
    (aV3 : PySem.W.findIn K (.ref C) "do_next" = some (some (.ref fV3)))
    (iV3 : PySem.W.isFn K (.ref fV3) = true)
    (lV3 : K.lookup fV3 = some ⟨ocV3, odV3, .func (PySem.W.fnOf "do_next" "Processor.do_next" (defArgs S_Processor_do_next) (defBody S_Processor_do_next) (defScope S_Processor_do_next) .none kVV3 dcV3 pmV3 anV3 cdV3 ctV3), slV3⟩)
    (cV3 : PySem.W.codeIn K cdV3 "Processor.do_next" = true)
    (kV3 : PySem.W.keepIn K (.ref fV3) = true)
    (aV4 : PySem.W.findIn K (.ref C) "do_order" = some (some (.ref fV4)))
    (iV4 : PySem.W.isFn K (.ref fV4) = true)
    (lV4 : K.lookup fV4 = some ⟨ocV4, odV4, .func (PySem.W.fnOf "do_order" "Processor.do_order" (defArgs S_Processor_do_order) (defBody S_Processor_do_order) (defScope S_Processor_do_order) .none kVV4 dcV4 pmV4 anV4 cdV4 ctV4), slV4⟩)
    (cV4 : PySem.W.codeIn K cdV4 "Processor.do_order" = true)
    (kV4 : PySem.W.keepIn K (.ref fV4) = true)
    (aV5 : PySem.W.findIn K (.ref C) "take" = some (some (.ref fV5)))
    (iV5 : PySem.W.isFn K (.ref fV5) = true)
    (lV5 : K.lookup fV5 = some ⟨ocV5, odV5, .func (PySem.W.fnOf "take" "Processor.take" (defArgs S_Processor_take) (defBody S_Processor_take) (defScope S_Processor_take) .none kVV5 dcV5 pmV5 anV5 cdV5 ctV5), slV5⟩)
    (cV5 : PySem.W.codeIn K cdV5 "Processor.take" = true)
    (kV5 : PySem.W.keepIn K (.ref fV5) = true)
    (aV6 : PySem.W.findIn K (.ref C) "paint" = some (some (.ref fV6)))
    (iV6 : PySem.W.isFn K (.ref fV6) = true)
    (lV6 : K.lookup fV6 = some ⟨ocV6, odV6, .func (PySem.W.fnOf "paint" "Processor.paint" (defArgs S_Processor_paint) (defBody S_Processor_paint) (defScope S_Processor_paint) .none kVV6 dcV6 pmV6 anV6 cdV6 ctV6), slV6⟩)
    (cV6 : PySem.W.codeIn K cdV6 "Processor.paint" = true)
    (kV6 : PySem.W.keepIn K (.ref fV6) = true)
    (aC2 : PySem.W.nsIn K mainGlobals "Ended" = some (some (.ref C2)))
    (aE0 : PySem.W.findIn K (.ref C2) "__init__" = some (some (.ref fE0)))
    (iE0 : PySem.W.isFn K (.ref fE0) = true)
    (lE0 : K.lookup fE0 = some ⟨ocE0, odE0, .func (PySem.W.fnOf "__init__" "NotDone.__init__" (defArgs S_NotDone___init__) (defBody S_NotDone___init__) (defScope S_NotDone___init__) .none kVE0 dcE0 pmE0 anE0 cdE0 ctE0), slE0⟩)
    (cE0 : PySem.W.codeIn K cdE0 "NotDone.__init__" = true)
    (kE0 : PySem.W.keepIn K (.ref fE0) = true)
    (xL : K.lookup C2 = some (excClassObj nmE qE C2 NE bsE bmE true snE subE abE colE ddE e0 e1 e2 e3 e5 "ValueError.__new__"))
    (rE : PySem.HandSPX.refsVE bmE = true)
    (sa2 : PySem.W.findIn K (.ref C2) "__setattr__" = some (some (.builtin "object.__setattr__")))
    (ga2 : PySem.W.findIn K (.ref C2) "__getattribute__" = some (some (.builtin "BaseException.__getattribute__")))
    (gg2 : PySem.W.findIn K (.ref C2) "__getattr__" = some none)
    (eC2 : PySem.W.subIn K (.ref C2) (.type "BaseException") = some true)
    (tC2 : PySem.W.typeIn K (.ref C2) = some (.type "type"))
    (hC2 : PySem.W.hasDictIn K C2 = true)
    (iC2 : PySem.W.isClsIn K C2 = true)
    (sC2 : PySem.W.subIn K (.ref C2) (.ref C2) = some true)
    (kC2 : PySem.W.keepIn K (.ref C2) = true)
    (tE : PySem.W.typeIn K (.ref fE0) = some (.type "function"))
    (nB_end : PySem.W.findIn K (.ref C2) "end" = some none)
    (lcN : K.lookup qN = some ⟨ocN2, odN2, .fields vsN2, slN2⟩)
    (vcN : vsN2[11]? = some (.ref PT))
    (npT : K.lookup PT = none)
    (pg : PySem.W.plainGet K C Str.empty = true)
    (hd : PySem.W.hasDictIn K C = true)
    (po : PySem.W.plainOver K C = true)
    (sa : PySem.W.findIn K (.ref C) "__setattr__" = some (some (.builtin "object.__setattr__")))
    (mk : PySem.W.makesIn K C = true)
    (kc : PySem.W.keepIn K (.ref C) = true)
    (nA_orders : PySem.W.findIn K (.ref C) "orders" = some none)
    (nA_picture : PySem.W.findIn K (.ref C) "picture" = some none)
    (nA_ticks : PySem.W.findIn K (.ref C) "ticks" = some none)
    (nA_at : PySem.W.findIn K (.ref C) "at" = some none)
    (nA_stack : PySem.W.findIn K (.ref C) "stack" = some none)
    (nA_slots : PySem.W.findIn K (.ref C) "slots" = some none)
    (nA_below : PySem.W.findIn K (.ref C) "below" = some none)
    (nA_lines : PySem.W.findIn K (.ref C) "lines" = some none)
    (nA_said : PySem.W.findIn K (.ref C) "said" = some none)
    (nA_count : PySem.W.findIn K (.ref C) "count" = some none)
    (nA_idle : PySem.W.findIn K (.ref C) "idle" = some none)
    (nA_number : PySem.W.findIn K (.ref C) "number" = some none)
    (nA_end : PySem.W.findIn K (.ref C) "end" = some none)
    (at1 : PySem.W.nsIn K mainGlobals "NUMBERED" = some (some (.ref t1)))
    (lt1 : K.lookup t1 = some ⟨.type "tuple", ot1, .seq it1 nt1, st1⟩)
    (vt1 : Vals (numW.map V.str) it1.toList)
    (zt1 : it1.size ≤ sizeLine)
    (at2 : PySem.W.nsIn K mainGlobals "PLAIN" = some (some (.ref t2)))
    (lt2 : K.lookup t2 = some ⟨.type "tuple", ot2, .seq it2 nt2, st2⟩)
    (vt2 : Vals (plaW.map V.str) it2.toList)
    (zt2 : it2.size ≤ sizeLine)
    (at3 : PySem.W.nsIn K mainGlobals "COUNTED" = some (some (.ref t3)))
    (lt3 : K.lookup t3 = some ⟨.type "tuple", ot3, .seq it3 nt3, st3⟩)
    (vt3 : Vals (couW.map V.str) it3.toList)
    (zt3 : it3.size ≤ sizeLine)
    (at4 : PySem.W.nsIn K mainGlobals "LEADING" = some (some (.ref t4)))
    (lt4 : K.lookup t4 = some ⟨.type "tuple", ot4, .seq it4 nt4, st4⟩)
    (vt4 : Vals (leaW.map V.str) it4.toList)
    (zt4 : it4.size ≤ sizeLine)
    (at5 : PySem.W.nsIn K mainGlobals "LAST" = some (some (.ref t5)))
    (lt5 : K.lookup t5 = some ⟨.type "tuple", ot5, .seq it5 nt5, st5⟩)
    (vt5 : Vals (lasW.map V.str) it5.toList)
    (zt5 : it5.size ≤ sizeLine)
    (s1 : PySem.W.nsIn K mainGlobals "MOST_LINES" = some (some (.int 20 tk1)))
    (s4 : PySem.W.nsIn K mainGlobals "MOST" = some (some (.int 1000000000 tk4)))
    (s5 : PySem.W.nsIn K mainGlobals "LEAST_ORDERS" = some (some (.int 2 tk5)))
    (s6 : PySem.W.nsIn K mainGlobals "MOST_ORDERS" = some (some (.int 50000 tk6)))
    (s7 : PySem.W.nsIn K mainGlobals "MOST_COUNT" = some (some (.int 50000 tk7)))
    (s8 : PySem.W.nsIn K mainGlobals "MOST_TICKS" = some (some (.int 20000 tk8)))
    (s9 : PySem.W.nsIn K mainGlobals "MOST_IDLE" = some (some (.int 100000 tk9)))
    (s2 : PySem.W.nsIn K mainGlobals "BLACK" = some (some (.str "#" tk2)))
    (s3 : PySem.W.nsIn K mainGlobals "WHITE" = some (some (.str "." tk3)))
    (adX2 : PySem.W.nsIn K mainGlobals "OF_TWO" = some (some (.ref dX2)))
    (ldX2 : K.lookup dX2 = some ⟨.type "dict", none, .dict edX2 ndX2, #[]⟩)
    (kdX2 : PySem.W.KeysLit w.params edX2.toList)
    (sdX2 : (dX2 == sysModules) = false)
    (vX20 : PySem.W.nsIn K dX2 "add" = some (some (.ref fA1)))
    (vX21 : PySem.W.nsIn K dX2 "sub" = some (some (.ref fA2)))
    (vX22 : PySem.W.nsIn K dX2 "mul" = some (some (.ref fA3)))
    (vX23 : PySem.W.nsIn K dX2 "lt" = some (some (.ref fA4)))
    (vX24 : PySem.W.nsIn K dX2 "le" = some (some (.ref fA5)))
    (vX25 : PySem.W.nsIn K dX2 "eq" = some (some (.ref fA6)))
    (vX26 : PySem.W.nsIn K dX2 "ne" = some (some (.ref fA7)))
    (uX20 : PySem.W.nsIn K dX2 "push" = some none)
    (uX21 : PySem.W.nsIn K dX2 "load" = some none)
    (uX22 : PySem.W.nsIn K dX2 "store" = some none)
    (uX23 : PySem.W.nsIn K dX2 "copy" = some none)
    (uX24 : PySem.W.nsIn K dX2 "rows" = some none)
    (uX25 : PySem.W.nsIn K dX2 "cols" = some none)
    (uX26 : PySem.W.nsIn K dX2 "black" = some none)
    (uX27 : PySem.W.nsIn K dX2 "row" = some none)
    (uX28 : PySem.W.nsIn K dX2 "col" = some none)
    (uX29 : PySem.W.nsIn K dX2 "say" = some none)
    (uX210 : PySem.W.nsIn K dX2 "jump" = some none)
    (uX211 : PySem.W.nsIn K dX2 "zero" = some none)
    (uX212 : PySem.W.nsIn K dX2 "some" = some none)
    (uX213 : PySem.W.nsIn K dX2 "tick" = some none)
    (uX214 : PySem.W.nsIn K dX2 "frame" = some none)
    (uX215 : PySem.W.nsIn K dX2 "done" = some none)
    (uX216 : PySem.W.nsIn K dX2 "neg" = some none)
    (uX217 : PySem.W.nsIn K dX2 "not" = some none)
    (uX218 : PySem.W.nsIn K dX2 "truth" = some none)
    (adX1 : PySem.W.nsIn K mainGlobals "OF_ONE" = some (some (.ref dX1)))
    (ldX1 : K.lookup dX1 = some ⟨.type "dict", none, .dict edX1 ndX1, #[]⟩)
    (kdX1 : PySem.W.KeysLit w.params edX1.toList)
    (sdX1 : (dX1 == sysModules) = false)
    (vX10 : PySem.W.nsIn K dX1 "neg" = some (some (.ref fA9)))
    (vX11 : PySem.W.nsIn K dX1 "not" = some (some (.ref fB0)))
    (vX12 : PySem.W.nsIn K dX1 "truth" = some (some (.ref fA8)))
    (uX10 : PySem.W.nsIn K dX1 "push" = some none)
    (uX11 : PySem.W.nsIn K dX1 "load" = some none)
    (uX12 : PySem.W.nsIn K dX1 "store" = some none)
    (uX13 : PySem.W.nsIn K dX1 "copy" = some none)
    (uX14 : PySem.W.nsIn K dX1 "rows" = some none)
    (uX15 : PySem.W.nsIn K dX1 "cols" = some none)
    (uX16 : PySem.W.nsIn K dX1 "black" = some none)
    (uX17 : PySem.W.nsIn K dX1 "row" = some none)
    (uX18 : PySem.W.nsIn K dX1 "col" = some none)
    (uX19 : PySem.W.nsIn K dX1 "say" = some none)
    (uX110 : PySem.W.nsIn K dX1 "jump" = some none)
    (uX111 : PySem.W.nsIn K dX1 "zero" = some none)
    (uX112 : PySem.W.nsIn K dX1 "some" = some none)
    (uX113 : PySem.W.nsIn K dX1 "tick" = some none)
    (uX114 : PySem.W.nsIn K dX1 "frame" = some none)
    (uX115 : PySem.W.nsIn K dX1 "done" = some none)
    (adXA : PySem.W.nsIn K mainGlobals "ACTIONS" = some (some (.ref dXA)))
    (ldXA : K.lookup dXA = some ⟨.type "dict", none, .dict edXA ndXA, #[]⟩)
    (kdXA : PySem.W.KeysLit w.params edXA.toList)
    (sdXA : (dXA == sysModules) = false)
    (vXA0 : PySem.W.nsIn K dXA "push" = some (some (.ref fU1)))
    (vXA1 : PySem.W.nsIn K dXA "load" = some (some (.ref fU2)))
    (vXA2 : PySem.W.nsIn K dXA "store" = some (some (.ref fU3)))
    (vXA3 : PySem.W.nsIn K dXA "copy" = some (some (.ref fU4)))
    (vXA4 : PySem.W.nsIn K dXA "rows" = some (some (.ref fU5)))
    (vXA5 : PySem.W.nsIn K dXA "cols" = some (some (.ref fU6)))
    (vXA6 : PySem.W.nsIn K dXA "black" = some (some (.ref fU7)))
    (vXA7 : PySem.W.nsIn K dXA "row" = some (some (.ref fU8)))
    (vXA8 : PySem.W.nsIn K dXA "col" = some (some (.ref fU9)))
    (vXA9 : PySem.W.nsIn K dXA "say" = some (some (.ref fW1)))
    (vXA10 : PySem.W.nsIn K dXA "jump" = some (some (.ref fW2)))
    (vXA11 : PySem.W.nsIn K dXA "zero" = some (some (.ref fW3)))
    (vXA12 : PySem.W.nsIn K dXA "some" = some (some (.ref fW4)))
    (vXA13 : PySem.W.nsIn K dXA "tick" = some (some (.ref fW5)))
    (vXA14 : PySem.W.nsIn K dXA "frame" = some (some (.ref fW6)))
    (vXA15 : PySem.W.nsIn K dXA "done" = some (some (.ref fW7)))
    (z0 : PySem.W.nsIn K mainGlobals "len" = some none)
    (z1 : PySem.W.nsIn K mainGlobals "int" = some none)
    (z2 : PySem.W.nsIn K mainGlobals "isinstance" = some none)
    (z3 : PySem.W.nsIn K mainGlobals "str" = some none)
    (z4 : PySem.W.nsIn K mainGlobals "tuple" = some none)
    (z5 : PySem.W.nsIn K mainGlobals "list" = some none)
    (z6 : PySem.W.nsIn K mainGlobals "range" = some none)
    (z7 : PySem.W.nsIn K mainGlobals "bool" = some none)
    (z8 : PySem.W.nsIn K mainGlobals "all" = some none)
    (z9 : PySem.W.nsIn K mainGlobals "abs" = some none)
    : LamX.LawAtS l w K CX0 11 63 "script" mg fa h := by
  have e := hfa.symm.trans (PySem.W.mg_of X G a7)
  cases e
  have FP4 := fun_mk (st := S_with_line) lP4 cP4 kP4
  have bP4 := FP4.binds (ps := ["picture", "line"]) fun _ _ _ _ _ _ us hl => match us, hl with | [_, _], _ => rfl
  have mP4 := PySem.W.mg_of X G aP4
  have FP5 := fun_mk (st := S_check_picture) lP5 cP5 kP5
  have bP5 := FP5.binds (ps := ["value"]) fun _ _ _ _ _ _ us hl => match us, hl with | [_], _ => rfl
  have mP5 := PySem.W.mg_of X G aP5
  have FP8 := fun_mk (st := S_is_picture) lP8 cP8 kP8
  have bP8 := FP8.binds (ps := ["value"]) fun _ _ _ _ _ _ us hl => match us, hl with | [_], _ => rfl
  have mP8 := PySem.W.mg_of X G aP8
  have FN : KD.FunT K "is_row" "is_row" S_is_row fN _ qN := ⟨⟨_, _, _, _, _, _, _, _, rfl, lN, cN⟩⟩
  have bN := (fun_mk (st := S_is_row) lN cN kN).binds (ps := ["value"]) fun _ _ _ _ _ _ us hl => match us, hl with | [_], _ => rfl
  have mN := PySem.W.mg_of X G aN
  have FQ2 := fun_mk (st := S_is_integer) lQ2 cQ2 kQ2
  have bQ2 := FQ2.binds (ps := ["value"]) fun _ _ _ _ _ _ us hl => match us, hl with | [_], _ => rfl
  have mQ2 := PySem.W.mg_of X G aQ2
  have FA0 := fun_mk (st := S_within) lA0 cA0 kA0
  have bA0 := FA0.binds (ps := ["number"]) fun _ _ _ _ _ _ us hl => match us, hl with | [_], _ => rfl
  have mA0 := PySem.W.mg_of X G aA0
  have FA1 := fun_mk (st := S_add) lA1 cA1 kA1
  have bA1 := FA1.binds (ps := ["first", "second"]) fun _ _ _ _ _ _ us hl => match us, hl with | [_, _], _ => rfl
  have mA1 := PySem.W.mg_of X G aA1
  have FA2 := fun_mk (st := S_subtract) lA2 cA2 kA2
  have bA2 := FA2.binds (ps := ["first", "second"]) fun _ _ _ _ _ _ us hl => match us, hl with | [_, _], _ => rfl
  have mA2 := PySem.W.mg_of X G aA2
  have FA3 := fun_mk (st := S_multiply) lA3 cA3 kA3
  have bA3 := FA3.binds (ps := ["first", "second"]) fun _ _ _ _ _ _ us hl => match us, hl with | [_, _], _ => rfl
  have mA3 := PySem.W.mg_of X G aA3
  have FA4 := fun_mk (st := S_is_less) lA4 cA4 kA4
  have bA4 := FA4.binds (ps := ["first", "second"]) fun _ _ _ _ _ _ us hl => match us, hl with | [_, _], _ => rfl
  have mA4 := PySem.W.mg_of X G aA4
  have FA5 := fun_mk (st := S_is_at_most) lA5 cA5 kA5
  have bA5 := FA5.binds (ps := ["first", "second"]) fun _ _ _ _ _ _ us hl => match us, hl with | [_, _], _ => rfl
  have mA5 := PySem.W.mg_of X G aA5
  have FA6 := fun_mk (st := S_is_equal) lA6 cA6 kA6
  have bA6 := FA6.binds (ps := ["first", "second"]) fun _ _ _ _ _ _ us hl => match us, hl with | [_, _], _ => rfl
  have mA6 := PySem.W.mg_of X G aA6
  have FA7 := fun_mk (st := S_is_unlike) lA7 cA7 kA7
  have bA7 := FA7.binds (ps := ["first", "second"]) fun _ _ _ _ _ _ us hl => match us, hl with | [_, _], _ => rfl
  have mA7 := PySem.W.mg_of X G aA7
  have FA8 := fun_mk (st := S_truth) lA8 cA8 kA8
  have bA8 := FA8.binds (ps := ["number"]) fun _ _ _ _ _ _ us hl => match us, hl with | [_], _ => rfl
  have mA8 := PySem.W.mg_of X G aA8
  have FA9 := fun_mk (st := S_negative) lA9 cA9 kA9
  have bA9 := FA9.binds (ps := ["number"]) fun _ _ _ _ _ _ us hl => match us, hl with | [_], _ => rfl
  have mA9 := PySem.W.mg_of X G aA9
  have FB0 := fun_mk (st := S_denial) lB0 cB0 kB0
  have bB0 := FB0.binds (ps := ["number"]) fun _ _ _ _ _ _ us hl => match us, hl with | [_], _ => rfl
  have mB0 := PySem.W.mg_of X G aB0
  have FB1 := fun_mk (st := S_made_of_two) lB1 cB1 kB1
  have bB1 := FB1.binds (ps := ["word", "first", "second"]) fun _ _ _ _ _ _ us hl => match us, hl with | [_, _, _], _ => rfl
  have mB1 := PySem.W.mg_of X G aB1
  have FB2 := fun_mk (st := S_made_of_one) lB2 cB2 kB2
  have bB2 := FB2.binds (ps := ["word", "number"]) fun _ _ _ _ _ _ us hl => match us, hl with | [_, _], _ => rfl
  have mB2 := PySem.W.mg_of X G aB2
  have FB3 := fun_mk (st := S_cell) lB3 cB3 kB3
  have bB3 := FB3.binds (ps := ["picture", "row", "column"]) fun _ _ _ _ _ _ us hl => match us, hl with | [_, _, _], _ => rfl
  have mB3 := PySem.W.mg_of X G aB3
  have FB4 := fun_mk (st := S_row_line) lB4 cB4 kB4
  have bB4 := FB4.binds (ps := ["picture", "row"]) fun _ _ _ _ _ _ us hl => match us, hl with | [_, _], _ => rfl
  have mB4 := PySem.W.mg_of X G aB4
  have FB5 := fun_mk (st := S_column_line) lB5 cB5 kB5
  have bB5 := FB5.binds (ps := ["picture", "column"]) fun _ _ _ _ _ _ us hl => match us, hl with | [_, _], _ => rfl
  have mB5 := PySem.W.mg_of X G aB5
  have FD1 := fun_mk (st := S_is_code) lD1 cD1 kD1
  have bD1 := FD1.binds (ps := ["value"]) fun _ _ _ _ _ _ us hl => match us, hl with | [_], _ => rfl
  have mD1 := PySem.W.mg_of X G aD1
  have FD2 := fun_mk (st := S_check_code) lD2 cD2 kD2
  have bD2 := FD2.binds (ps := ["value"]) fun _ _ _ _ _ _ us hl => match us, hl with | [_], _ => rfl
  have mD2 := PySem.W.mg_of X G aD2
  have FD3 := fun_mk (st := S_is_order) lD3 cD3 kD3
  have bD3 := FD3.binds (ps := ["value"]) fun _ _ _ _ _ _ us hl => match us, hl with | [_], _ => rfl
  have mD3 := PySem.W.mg_of X G aD3
  have FD4 := fun_mk (st := S_has_its_number) lD4 cD4 kD4
  have bD4 := FD4.binds (ps := ["value", "word", "number"]) fun _ _ _ _ _ _ us hl => match us, hl with | [_, _, _], _ => rfl
  have mD4 := PySem.W.mg_of X G aD4
  have FD5 := fun_mk (st := S_check_ticks) lD5 cD5 kD5
  have bD5 := FD5.binds (ps := ["value"]) fun _ _ _ _ _ _ us hl => match us, hl with | [_], _ => rfl
  have mD5 := PySem.W.mg_of X G aD5
  have FU1 := fun_mk (st := S_push) lU1 cU1 kU1
  have bU1 := FU1.binds (ps := ["play", "number"]) fun _ _ _ _ _ _ us hl => match us, hl with | [_, _], _ => rfl
  have mU1 := PySem.W.mg_of X G aU1
  have FU2 := fun_mk (st := S_load) lU2 cU2 kU2
  have bU2 := FU2.binds (ps := ["play", "number"]) fun _ _ _ _ _ _ us hl => match us, hl with | [_, _], _ => rfl
  have mU2 := PySem.W.mg_of X G aU2
  have FU3 := fun_mk (st := S_store) lU3 cU3 kU3
  have bU3 := FU3.binds (ps := ["play", "number"]) fun _ _ _ _ _ _ us hl => match us, hl with | [_, _], _ => rfl
  have mU3 := PySem.W.mg_of X G aU3
  have FU4 := fun_mk (st := S_copy_uppermost) lU4 cU4 kU4
  have bU4 := FU4.binds (ps := ["play", "number"]) fun _ _ _ _ _ _ us hl => match us, hl with | [_, _], _ => rfl
  have mU4 := PySem.W.mg_of X G aU4
  have FU5 := fun_mk (st := S_lay_rows) lU5 cU5 kU5
  have bU5 := FU5.binds (ps := ["play", "number"]) fun _ _ _ _ _ _ us hl => match us, hl with | [_, _], _ => rfl
  have mU5 := PySem.W.mg_of X G aU5
  have FU6 := fun_mk (st := S_lay_columns) lU6 cU6 kU6
  have bU6 := FU6.binds (ps := ["play", "number"]) fun _ _ _ _ _ _ us hl => match us, hl with | [_, _], _ => rfl
  have mU6 := PySem.W.mg_of X G aU6
  have FU7 := fun_mk (st := S_look) lU7 cU7 kU7
  have bU7 := FU7.binds (ps := ["play", "number"]) fun _ _ _ _ _ _ us hl => match us, hl with | [_, _], _ => rfl
  have mU7 := PySem.W.mg_of X G aU7
  have FU8 := fun_mk (st := S_paint_row) lU8 cU8 kU8
  have bU8 := FU8.binds (ps := ["play", "number"]) fun _ _ _ _ _ _ us hl => match us, hl with | [_, _], _ => rfl
  have mU8 := PySem.W.mg_of X G aU8
  have FU9 := fun_mk (st := S_paint_column) lU9 cU9 kU9
  have bU9 := FU9.binds (ps := ["play", "number"]) fun _ _ _ _ _ _ us hl => match us, hl with | [_, _], _ => rfl
  have mU9 := PySem.W.mg_of X G aU9
  have FW1 := fun_mk (st := S_say) lW1 cW1 kW1
  have bW1 := FW1.binds (ps := ["play", "number"]) fun _ _ _ _ _ _ us hl => match us, hl with | [_, _], _ => rfl
  have mW1 := PySem.W.mg_of X G aW1
  have FW2 := fun_mk (st := S_jump) lW2 cW2 kW2
  have bW2 := FW2.binds (ps := ["play", "number"]) fun _ _ _ _ _ _ us hl => match us, hl with | [_, _], _ => rfl
  have mW2 := PySem.W.mg_of X G aW2
  have FW3 := fun_mk (st := S_jump_at_zero) lW3 cW3 kW3
  have bW3 := FW3.binds (ps := ["play", "number"]) fun _ _ _ _ _ _ us hl => match us, hl with | [_, _], _ => rfl
  have mW3 := PySem.W.mg_of X G aW3
  have FW4 := fun_mk (st := S_jump_at_some) lW4 cW4 kW4
  have bW4 := FW4.binds (ps := ["play", "number"]) fun _ _ _ _ _ _ us hl => match us, hl with | [_, _], _ => rfl
  have mW4 := PySem.W.mg_of X G aW4
  have FW5 := fun_mk (st := S_tick) lW5 cW5 kW5
  have bW5 := FW5.binds (ps := ["play", "number"]) fun _ _ _ _ _ _ us hl => match us, hl with | [_, _], _ => rfl
  have mW5 := PySem.W.mg_of X G aW5
  have FW6 := fun_mk (st := S_make_frame) lW6 cW6 kW6
  have bW6 := FW6.binds (ps := ["play", "number"]) fun _ _ _ _ _ _ us hl => match us, hl with | [_, _], _ => rfl
  have mW6 := PySem.W.mg_of X G aW6
  have FW7 := fun_mk (st := S_finish) lW7 cW7 kW7
  have bW7 := FW7.binds (ps := ["play", "number"]) fun _ _ _ _ _ _ us hl => match us, hl with | [_, _], _ => rfl
  have mW7 := PySem.W.mg_of X G aW7
  have FX1 := fun_mk (st := S_execute) lX1 cX1 kX1
  have bX1 := FX1.binds (ps := ["value", "picture", "ticks"]) fun _ _ _ _ _ _ us hl => match us, hl with | [_, _, _], _ => rfl
  have mX1 := PySem.W.mg_of X G aX1
  have FX2 := fun_mk (st := S_orders_done) lX2 cX2 kX2
  have bX2 := FX2.binds (ps := ["value", "picture", "ticks"]) fun _ _ _ _ _ _ us hl => match us, hl with | [_, _, _], _ => rfl
  have mX2 := PySem.W.mg_of X G aX2
  have FX3 := fun_mk (st := S_ended) lX3 cX3 kX3
  have bX3 := FX3.binds (ps := ["value", "picture", "ticks"]) fun _ _ _ _ _ _ us hl => match us, hl with | [_, _, _], _ => rfl
  have mX3 := PySem.W.mg_of X G aX3
  have FR2 := fun_mk (st := S__law_taken) lR2 cR2 kR2
  have bR2 := FR2.binds (ps := ["row", "many"]) fun _ _ _ _ _ _ us hl => match us, hl with | [_, _], _ => rfl
  have mR2 := PySem.W.mg_of X G aR2
  have FR3 := fun_mk (st := S__law_pick) lR3 cR3 kR3
  have bR3 := FR3.binds (ps := ["row", "things"]) fun _ _ _ _ _ _ us hl => match us, hl with | [_, _], _ => rfl
  have mR3 := PySem.W.mg_of X G aR3
  have FR4 := fun_mk (st := S__law_alike) lR4 cR4 kR4
  have bR4 := FR4.binds (ps := ["found", "due"]) fun _ _ _ _ _ _ us hl => match us, hl with | [_, _], _ => rfl
  have mR4 := PySem.W.mg_of X G aR4
  have FR6 := fun_mk (st := S__law_picture) lR6 cR6 kR6
  have bR6 := FR6.binds (ps := ["row", "high", "wide"]) fun _ _ _ _ _ _ us hl => match us, hl with | [_, _, _], _ => rfl
  have mR6 := PySem.W.mg_of X G aR6
  have FR7 := fun_mk (st := S__law_stroke) lR7 cR7 kR7
  have bR7 := FR7.binds (ps := ["picture", "line"]) fun _ _ _ _ _ _ us hl => match us, hl with | [_, _], _ => rfl
  have mR7 := PySem.W.mg_of X G aR7
  have FR8 := fun_mk (st := S__law_order) lR8 cR8 kR8
  have bR8 := FR8.binds (ps := ["state", "one"]) fun _ _ _ _ _ _ us hl => match us, hl with | [_, _], _ => rfl
  have mR8 := PySem.W.mg_of X G aR8
  have F7 := fun_mk (st := S_law) l7 c7 k7
  have FV1 := fun_mk (st := S_Processor___init__) lV1 cV1 kV1
  have bV1 := FV1.binds (ps := ["self", "value", "picture", "ticks"]) fun _ _ _ _ _ _ us hl => match us, hl with | [_, _, _, _], _ => rfl
  have FV2 := fun_mk (st := S_Processor_go) lV2 cV2 kV2
  have bV2 := FV2.binds (ps := ["self"]) fun _ _ _ _ _ _ us hl => match us, hl with | [_], _ => rfl
  have FV3 := fun_mk (st := S_Processor_do_next) lV3 cV3 kV3
  have bV3 := FV3.binds (ps := ["self"]) fun _ _ _ _ _ _ us hl => match us, hl with | [_], _ => rfl
  have FV4 := fun_mk (st := S_Processor_do_order) lV4 cV4 kV4
  have bV4 := FV4.binds (ps := ["self", "word", "number"]) fun _ _ _ _ _ _ us hl => match us, hl with | [_, _, _], _ => rfl
  have FV5 := fun_mk (st := S_Processor_take) lV5 cV5 kV5
  have bV5 := FV5.binds (ps := ["self"]) fun _ _ _ _ _ _ us hl => match us, hl with | [_], _ => rfl
  have FV6 := fun_mk (st := S_Processor_paint) lV6 cV6 kV6
  have bV6 := FV6.binds (ps := ["self", "line"]) fun _ _ _ _ _ _ us hl => match us, hl with | [_, _], _ => rfl
  have FE0 := fun_mk (st := S_NotDone___init__) lE0 cE0 kE0
  have bE0 := FE0.binds (ps := ["self", "end"]) fun _ _ _ _ _ _ us hl => match us, hl with | [_, _], _ => rfl
  have T : Blt mg := ⟨PySem.W.mg_none_of X G z0, PySem.W.mg_none_of X G z1, PySem.W.mg_none_of X G z2, PySem.W.mg_none_of X G z3, PySem.W.mg_none_of X G z4, PySem.W.mg_none_of X G z5, PySem.W.mg_none_of X G z6, PySem.W.mg_none_of X G z7⟩
  have hall := PySem.W.mg_none_of X G z8
  have habs := PySem.W.mg_none_of X G z9
  have tup : ∀ {a : Addr} {od : Option Addr} {its : Array Value} {n : Nat} {sl : Array (Option Value)} {xs : List V}, K.lookup a = some ⟨.type "tuple", od, .seq its n, sl⟩ → Vals xs its.toList → its.size ≤ sizeLine → ∀ H, SqT K H a xs := fun l v z _ => .inr ⟨_, _, _, l, rfl, rfl, z, v⟩
  have hM : ∃ t, mg "MOST_LINES" = some (.int 20 t) := ⟨_, PySem.W.mg_of X G s1⟩
  have hB : ∃ t, mg "BLACK" = some (.str "#" t) := ⟨_, PySem.W.mg_of X G s2⟩
  have hW : ∃ t, mg "WHITE" = some (.str "." t) := ⟨_, PySem.W.mg_of X G s3⟩
  have CD : CdT K mg := { num := ⟨t1, PySem.W.mg_of X G at1, fun H => tup lt1 vt1 zt1 H⟩, pla := ⟨t2, PySem.W.mg_of X G at2, fun H => tup lt2 vt2 zt2 H⟩, cou := ⟨t3, PySem.W.mg_of X G at3, fun H => tup lt3 vt3 zt3 H⟩, lea := ⟨t4, PySem.W.mg_of X G at4, fun H => tup lt4 vt4 zt4 H⟩, las := ⟨t5, PySem.W.mg_of X G at5, fun H => tup lt5 vt5 zt5 H⟩, most := ⟨_, PySem.W.mg_of X G s4⟩, least := ⟨_, PySem.W.mg_of X G s5⟩, mOrd := ⟨_, PySem.W.mg_of X G s6⟩, mCnt := ⟨_, PySem.W.mg_of X G s7⟩ }
  have EN : EnT K mg C2 fE0 _ := { g := PySem.W.mg_of X G aC2, o := ⟨⟨_, _, _, _, _, _, _, _, _, _, _, _, _, _, _, xL, rE⟩, sa2, eC2, tC2, kC2⟩, i := aE0, t := tE, ff := FE0, b := bE0, no := nB_end, x := ⟨ga2, gg2, eC2, hC2⟩, s := exm_own eC2 iC2 tC2 sC2 }
  have PT0 : PTx K C := ⟨⟨pg, hd, po, sa⟩, fun f mf => by
    simp only [prK, List.mem_cons, List.not_mem_nil, or_false] at mf
    rcases mf with rfl | rfl | rfl | rfl | rfl | rfl | rfl | rfl | rfl | rfl | rfl | rfl | rfl
    · exact nA_orders
    · exact nA_picture
    · exact nA_ticks
    · exact nA_at
    · exact nA_stack
    · exact nA_slots
    · exact nA_below
    · exact nA_lines
    · exact nA_said
    · exact nA_count
    · exact nA_idle
    · exact nA_number
    · exact nA_end⟩
  have DS : DsT K w dX2 dX1 := by
    refine ⟨⟨_, _, ⟨ldX2, kdX2, sdX2⟩⟩, ⟨_, _, ⟨ldX1, kdX1, sdX1⟩⟩, fun o => ?_, fun od hp => ?_, fun o => ?_, fun o => ?_, fun od hp => ?_⟩
    · cases o with
      | add => exact ⟨_, vX20⟩
      | sub => exact ⟨_, vX21⟩
      | mul => exact ⟨_, vX22⟩
      | lt => exact ⟨_, vX23⟩
      | le => exact ⟨_, vX24⟩
      | eq => exact ⟨_, vX25⟩
      | ne => exact ⟨_, vX26⟩
    · cases od with
      | push n => exact uX20
      | load n => exact uX21
      | store n => exact uX22
      | copy => exact uX23
      | rows => exact uX24
      | cols => exact uX25
      | black => exact uX26
      | row => exact uX27
      | col => exact uX28
      | say => exact uX29
      | jump n => exact uX210
      | zero n => exact uX211
      | some n => exact uX212
      | tick n => exact uX213
      | frame n => exact uX214
      | done => exact uX215
      | two o => cases hp
      | one o => cases hp
    · cases o with
      | neg => exact uX216
      | not => exact uX217
      | truth => exact uX218
    · cases o with
      | neg => exact ⟨_, vX10⟩
      | not => exact ⟨_, vX11⟩
      | truth => exact ⟨_, vX12⟩
    · cases od with
      | push n => exact uX10
      | load n => exact uX11
      | store n => exact uX12
      | copy => exact uX13
      | rows => exact uX14
      | cols => exact uX15
      | black => exact uX16
      | row => exact uX17
      | col => exact uX18
      | say => exact uX19
      | jump n => exact uX110
      | zero n => exact uX111
      | some n => exact uX112
      | tick n => exact uX113
      | frame n => exact uX114
      | done => exact uX115
      | two o => cases hp
      | one o => cases hp
  obtain ⟨c0, P0, to⟩ := TO
  have tb := to.of X mN lN rfl lcN vcN
  refine ⟨PySem.W.fnOf "law" "law" (defArgs S_law) (defBody S_law) (defScope S_law) .none kV7 dc7 pm7 an7 cd7 ct7, [(qN, PT)], (fun vs H Q E => H PT = some (.tbl #[]) ∧ spLaw K PT vs (upd H PT (.ext (GN.TabI PT))) (fun v H' => GN.Tab PT H' ∧ ∀ H'', Q v H'') E), fun p hp => ?_, fun p hp => ?_, fun p hp => ?_, fun s v => .of_eq rfl, fun H a ns hlen _ hT hS => ?_, fun base KB GB hTB => ?_⟩
  · rw [List.mem_singleton.mp hp]
    exact tb.2
  · rw [List.mem_singleton.mp hp]
    exact npT
  · rw [List.mem_singleton.mp hp]
    exact tb.1
  · have hP := hT _ List.mem_cons_self
    have far : ∀ {b : Addr} {u : HO}, (∀ ps, u ≠ .tbl ps) → H b = some u → b ≠ PT := fun n q z => by
      rw [z, hP] at q
      exact n _ (Option.some.inj q).symm
    refine ⟨hP, a, ns, rfl, ?_, hlen, upd_same, fun H' hT' => ⟨hT', fun _ => rfl⟩⟩
    rcases hS with (q | ⟨o, q⟩) | q
    · exact .inl (.inl (by rw [upd_ne (far (fun ps z => by cases z) q)]; exact q))
    · exact .inl (.inr ⟨o, by rw [upd_ne (far (fun ps z => by cases z) q)]; exact q⟩)
    · exact .inr q
  · have TB0 := hTB _ List.mem_cons_self
    have TB : GxR.TabB base mg qN PT := ⟨TB0.code, TB0.bm, TB0.gP⟩
    refine GN.untab ?_
    have g4 := ok_line (P := l.prog) (w := w) (base := base) FP4 T hB hW
    have gI := ok_isInt (P := l.prog) (w := w) (base := base) FQ2 T
    have gR := ok_row (P := l.prog) (w := w) FN T hall hM hB hW TB
    have g8 := ok_isPic FP8 T hM gR mN kN bN
    have g5 := ok_ckPic FP5 g8 mP8 kP8 bP8
    have gWi := ok_within (P := l.prog) (w := w) (base := base) FA0 EN habs ⟨_, PySem.W.mg_of X G s4⟩
    have gM2 := ok_m2 FB1 (PySem.W.mg_of X G adX2) fun o => by
      cases o with
      | add => exact ⟨_, _, ⟨_, _, _, ldX2, kdX2, vX20, rfl⟩, ok_add FA1 gWi mA0 kA0 bA0, kA1, bA1⟩
      | sub => exact ⟨_, _, ⟨_, _, _, ldX2, kdX2, vX21, rfl⟩, ok_subtract FA2 gWi mA0 kA0 bA0, kA2, bA2⟩
      | mul => exact ⟨_, _, ⟨_, _, _, ldX2, kdX2, vX22, rfl⟩, ok_multiply FA3 gWi mA0 kA0 bA0, kA3, bA3⟩
      | lt => exact ⟨_, _, ⟨_, _, _, ldX2, kdX2, vX23, rfl⟩, ok_is_less (P := l.prog) (w := w) (base := base) FA4 T, kA4, bA4⟩
      | le => exact ⟨_, _, ⟨_, _, _, ldX2, kdX2, vX24, rfl⟩, ok_is_at_most (P := l.prog) (w := w) (base := base) FA5 T, kA5, bA5⟩
      | eq => exact ⟨_, _, ⟨_, _, _, ldX2, kdX2, vX25, rfl⟩, ok_is_equal (P := l.prog) (w := w) (base := base) FA6 T, kA6, bA6⟩
      | ne => exact ⟨_, _, ⟨_, _, _, ldX2, kdX2, vX26, rfl⟩, ok_is_unlike (P := l.prog) (w := w) (base := base) FA7 T, kA7, bA7⟩
    have gM1 := ok_m1 (P := l.prog) (w := w) (base := base) FB2 (PySem.W.mg_of X G adX1) fun o => by
      cases o with
      | neg => exact ⟨_, _, ⟨_, _, _, ldX1, kdX1, vX10, rfl⟩, ok_negative (P := l.prog) (w := w) (mg := mg) (base := base) FA9, kA9, bA9⟩
      | not => exact ⟨_, _, ⟨_, _, _, ldX1, kdX1, vX11, rfl⟩, ok_denial (P := l.prog) (w := w) (base := base) FB0 T, kB0, bB0⟩
      | truth => exact ⟨_, _, ⟨_, _, _, ldX1, kdX1, vX12, rfl⟩, ok_truth (P := l.prog) (w := w) (base := base) FA8 T, kA8, bA8⟩
    have gCl := ok_cell (P := l.prog) (w := w) (base := base) FB3 EN T hB
    have gRl := ok_rowl (P := l.prog) (w := w) (base := base) FB4 EN T
    have gCo := ok_coll (P := l.prog) (w := w) (base := base) FB5 EN T
    have gTk := ok_take (P := l.prog) (w := w) (base := base) FV5 EN PT0
    have gPt := ok_paint FV6 PT0 g4 mP4 kP4 bP4
    have gOr := ok_ord (dA := dXA) FV4 PT0 DS (PySem.W.mg_of X G adX2) (PySem.W.mg_of X G adX1) (PySem.W.mg_of X G adXA) gTk ⟨aV5, iV5, kV5⟩ bV5 gM2 mB1 kB1 bB1 gM1 mB2 kB2 bB2 fun od hp => by
      cases od with
      | push n => exact ⟨_, _, ⟨_, _, _, ldXA, kdXA, vXA0, rfl⟩, ok_apush (C := C) (CE := C2) (P := l.prog) (w := w) (mg := mg) (base := base) FU1 PT0 n, kU1, bU1⟩
      | load n => exact ⟨_, _, ⟨_, _, _, ldXA, kdXA, vXA1, rfl⟩, ok_aload (P := l.prog) (w := w) (base := base) FU2 PT0 EN T n, kU2, bU2⟩
      | store n => exact ⟨_, _, ⟨_, _, _, ldXA, kdXA, vXA2, rfl⟩, ok_astore FU3 PT0 EN T gTk ⟨aV5, iV5, kV5⟩ bV5 n, kU3, bU3⟩
      | copy => exact ⟨_, _, ⟨_, _, _, ldXA, kdXA, vXA3, rfl⟩, ok_acopy_uppermost FU4 PT0 gTk ⟨aV5, iV5, kV5⟩ bV5, kU4, bU4⟩
      | rows => exact ⟨_, _, ⟨_, _, _, ldXA, kdXA, vXA4, rfl⟩, ok_alay_rows (C := C) (CE := C2) (P := l.prog) (w := w) (base := base) FU5 PT0 T, kU5, bU5⟩
      | cols => exact ⟨_, _, ⟨_, _, _, ldXA, kdXA, vXA5, rfl⟩, ok_alay_columns (C := C) (CE := C2) (P := l.prog) (w := w) (base := base) FU6 PT0 T, kU6, bU6⟩
      | black => exact ⟨_, _, ⟨_, _, _, ldXA, kdXA, vXA6, rfl⟩, ok_alook FU7 PT0 gTk ⟨aV5, iV5, kV5⟩ bV5 gCl mB3 kB3 bB3, kU7, bU7⟩
      | row => exact ⟨_, _, ⟨_, _, _, ldXA, kdXA, vXA7, rfl⟩, ok_apaint_row FU8 PT0 gTk ⟨aV5, iV5, kV5⟩ bV5 gPt ⟨aV6, iV6, kV6⟩ bV6 gRl mB4 kB4 bB4, kU8, bU8⟩
      | col => exact ⟨_, _, ⟨_, _, _, ldXA, kdXA, vXA8, rfl⟩, ok_apaint_column FU9 PT0 gTk ⟨aV5, iV5, kV5⟩ bV5 gPt ⟨aV6, iV6, kV6⟩ bV6 gCo mB5 kB5 bB5, kU9, bU9⟩
      | say => exact ⟨_, _, ⟨_, _, _, ldXA, kdXA, vXA9, rfl⟩, ok_asay FW1 PT0 gTk ⟨aV5, iV5, kV5⟩ bV5, kW1, bW1⟩
      | jump n => exact ⟨_, _, ⟨_, _, _, ldXA, kdXA, vXA10, rfl⟩, ok_ajump (C := C) (CE := C2) (P := l.prog) (w := w) (mg := mg) (base := base) FW2 PT0 n, kW2, bW2⟩
      | zero n => exact ⟨_, _, ⟨_, _, _, ldXA, kdXA, vXA11, rfl⟩, ok_ajump_at_zero FW3 PT0 gTk ⟨aV5, iV5, kV5⟩ bV5 n, kW3, bW3⟩
      | some n => exact ⟨_, _, ⟨_, _, _, ldXA, kdXA, vXA12, rfl⟩, ok_ajump_at_some FW4 PT0 gTk ⟨aV5, iV5, kV5⟩ bV5 n, kW4, bW4⟩
      | tick n => exact ⟨_, _, ⟨_, _, _, ldXA, kdXA, vXA13, rfl⟩, ok_atick (P := l.prog) (w := w) (base := base) FW5 PT0 EN n, kW5, bW5⟩
      | frame n => exact ⟨_, _, ⟨_, _, _, ldXA, kdXA, vXA14, rfl⟩, ok_amake_frame (C := C) (CE := C2) (P := l.prog) (w := w) (mg := mg) (base := base) FW6 PT0 n, kW6, bW6⟩
      | done => exact ⟨_, _, ⟨_, _, _, ldXA, kdXA, vXA15, rfl⟩, ok_afinish (P := l.prog) (w := w) (base := base) FW7 PT0 EN, kW7, bW7⟩
      | two o => cases hp
      | one o => cases hp
    have gNx := ok_next FV3 PT0 EN ⟨_, PySem.W.mg_of X G s9⟩ gOr ⟨aV4, iV4, kV4⟩ bV4
    have gGo := ok_goM FV2 PT0 gNx ⟨aV3, iV3, kV3⟩ bV3
    have gIn := ok_pinit (P := l.prog) (w := w) (mg := mg) (base := base) FV1 PT0
    have gIo := ok_isord FD3 T CD gI mQ2 kQ2 bQ2
    have gHn := ok_hasn (P := l.prog) (w := w) (base := base) FD4 T CD
    have gIc := ok_iscode FD1 T hall CD gIo mD3 kD3 bD3 gHn mD4 kD4 bD4
    have gCc := ok_ckCode FD2 gIc mD1 kD1 bD1
    have gCt := ok_ckTk FD5 ⟨_, PySem.W.mg_of X G s8⟩ gI mQ2 kQ2 bQ2
    have gEn := ok_ended FX3 PT0 (PySem.W.mg_of X G aC) ⟨mk, aV1, iV1, kc⟩ gCc mD2 kD2 bD2 g5 mP5 kP5 bP5 gCt mD5 kD5 bD5 gIn bV1 gGo ⟨aV2, iV2, kV2⟩ bV2
    have gEx := ok_exec FX1 T PT0 gEn mX3 kX3 bX3
    have gDn := ok_doneN FX2 PT0 gEn mX3 kX3 bX3
    have e2 := ok_taken (P := l.prog) (w := w) (base := base) FR2 T
    have e3 := ok_pick FR3 T e2 mR2 kR2 bR2
    have e4 := ok_alk (P := l.prog) (w := w) (base := base) FR4 T mR4 bR4 5
    have e6 := ok_lpic FR6 T e3 mR3 kR3 bR3
    have e7 := ok_stroke (P := l.prog) (w := w) (base := base) FR7 T
    have e8 := ok_lord FR8 T habs e7 mR7 kR7 bR7
    exact ok_law10 F7 T ⟨⟨_, _, e2, mR2, kR2, bR2⟩⟩ ⟨⟨_, _, e3, mR3, kR3, bR3⟩⟩ ⟨⟨_, _, e6, mR6, kR6, bR6⟩⟩ ⟨⟨_, _, e4, mR4, kR4, bR4⟩⟩ ⟨⟨_, _, e8, mR8, kR8, bR8⟩⟩ ⟨⟨_, _, gIc, mD1, kD1, bD1⟩⟩ ⟨⟨_, _, gEx, mX1, kX1, bX1⟩⟩ ⟨⟨_, _, gDn, mX2, kX2, bX2⟩⟩
theorem walk {l : PySem.W.OpenLaw} {q : Program} {loose : List Str} {XP : (Str → Option Value) → Heap → Prop} {YP : World → Heap → Prop} {d : DefRec} {K : Params → PySem.W.Frag} (hn : l.most = some 63) (hdf : d.params.defaults = []) (named : ((PyProof.Rows.recsOf q).any fun e => e.name == "is_row") = true)
    (hY : ∀ (w : World) (h : Heap), YP w h → (K w.params).In h)
    (F : ∀ (w : World) (mg : Str → Option Value) (fa : Addr) (h : Heap), (K w.params).In h → h.Ns mainGlobals mg → mg d.name = some (.ref fa) → (∃ c P, GN.TabOf mg "is_row" h c P) → LamX.LawAtS l w (K w.params) CX0 11 63 "script" mg fa h) :
    PySem.W.WalkO q loose XP YP l.row.toRowW d [] (fun f vs => PySem.call f vs) :=
  GN.walk_tab (n := 63) (k := 11) (x := "script") (nm := "is_row") (CX := fun _ => CX0) hn (by decide) hdf ⟨rfl, by decide, by decide⟩ named hY F fun _ _ _ _ _ z => z
end KD
open PySem PySem.W PyProof.Rows
set_option maxRecDepth 100000 in
set_option maxHeartbeats 0 in
theorem PySem.Challenge.cw_strokes_k10_whole_codes_by_hand_holds : PySem.Challenge.rw_strokes_k10_whole_codes_by_hand.Holds := by
  w_on; o_law; k_head; (case hw => w_witness2)
  k_fill
  refine KD.walk (l := PySem.Challenge.rw_strokes_k10_whole_codes_by_hand) rfl rfl (by first | rfl | decide +kernel) (fun w h Y => PySem.W.kIn_of Y) ?F
  case F =>
    intro w mg fa h KX G hmg TO
    refine' KD.all_mk KX G hmg TO ?aC ?aP4 ?lP4 ?cP4 ?kP4 ?aP5 ?lP5 ?cP5 ?kP5 ?aP8 ?lP8 ?cP8 ?kP8 ?aN ?lN ?cN ?kN ?aQ2 ?lQ2 ?cQ2 ?kQ2 ?aA0 ?lA0 ?cA0 ?kA0 ?aA1 ?lA1 ?cA1 ?kA1 ?aA2 ?lA2 ?cA2 ?kA2 ?aA3 ?lA3 ?cA3 ?kA3 ?aA4 ?lA4 ?cA4 ?kA4 ?aA5 ?lA5 ?cA5 ?kA5 ?aA6 ?lA6 ?cA6 ?kA6 ?aA7 ?lA7 ?cA7 ?kA7 ?aA8 ?lA8 ?cA8 ?kA8 ?aA9 ?lA9 ?cA9 ?kA9 ?aB0 ?lB0 ?cB0 ?kB0 ?aB1 ?lB1 ?cB1 ?kB1 ?aB2 ?lB2 ?cB2 ?kB2 ?aB3 ?lB3 ?cB3 ?kB3 ?aB4 ?lB4 ?cB4 ?kB4 ?aB5 ?lB5 ?cB5 ?kB5 ?aD1 ?lD1 ?cD1 ?kD1 ?aD2 ?lD2 ?cD2 ?kD2 ?aD3 ?lD3 ?cD3 ?kD3 ?aD4 ?lD4 ?cD4 ?kD4 ?aD5 ?lD5 ?cD5 ?kD5 ?aU1 ?lU1 ?cU1 ?kU1 ?aU2 ?lU2 ?cU2 ?kU2 ?aU3 ?lU3 ?cU3 ?kU3 ?aU4 ?lU4 ?cU4 ?kU4 ?aU5 ?lU5 ?cU5 ?kU5 ?aU6 ?lU6 ?cU6 ?kU6 ?aU7 ?lU7 ?cU7 ?kU7 ?aU8 ?lU8 ?cU8 ?kU8 ?aU9 ?lU9 ?cU9 ?kU9 ?aW1 ?lW1 ?cW1 ?kW1 ?aW2 ?lW2 ?cW2 ?kW2 ?aW3 ?lW3 ?cW3 ?kW3 ?aW4 ?lW4 ?cW4 ?kW4 ?aW5 ?lW5 ?cW5 ?kW5 ?aW6 ?lW6 ?cW6 ?kW6 ?aW7 ?lW7 ?cW7 ?kW7 ?aX1 ?lX1 ?cX1 ?kX1 ?aX2 ?lX2 ?cX2 ?kX2 ?aX3 ?lX3 ?cX3 ?kX3 ?aR2 ?lR2 ?cR2 ?kR2 ?aR3 ?lR3 ?cR3 ?kR3 ?aR4 ?lR4 ?cR4 ?kR4 ?aR6 ?lR6 ?cR6 ?kR6 ?aR7 ?lR7 ?cR7 ?kR7 ?aR8 ?lR8 ?cR8 ?kR8 ?a7 ?l7 ?c7 ?k7 ?aV1 ?iV1 ?lV1 ?cV1 ?kV1 ?aV2 ?iV2 ?lV2 ?cV2 ?kV2 ?aV3 ?iV3 ?lV3 ?cV3 ?kV3 ?aV4 ?iV4 ?lV4 ?cV4 ?kV4 ?aV5 ?iV5 ?lV5 ?cV5 ?kV5 ?aV6 ?iV6 ?lV6 ?cV6 ?kV6 ?aC2 ?aE0 ?iE0 ?lE0 ?cE0 ?kE0 ?xL ?rE ?sa2 ?ga2 ?gg2 ?eC2 ?tC2 ?hC2 ?iC2 ?sC2 ?kC2 ?tE ?nB_end ?lcN ?vcN ?npT ?pg ?hd ?po ?sa ?mk ?kc ?nA_orders ?nA_picture ?nA_ticks ?nA_at ?nA_stack ?nA_slots ?nA_below ?nA_lines ?nA_said ?nA_count ?nA_idle ?nA_number ?nA_end ?at1 ?lt1 ?vt1 ?zt1 ?at2 ?lt2 ?vt2 ?zt2 ?at3 ?lt3 ?vt3 ?zt3 ?at4 ?lt4 ?vt4 ?zt4 ?at5 ?lt5 ?vt5 ?zt5 ?s1 ?s4 ?s5 ?s6 ?s7 ?s8 ?s9 ?s2 ?s3 ?adX2 ?ldX2 ?kdX2 ?sdX2 ?vX20 ?vX21 ?vX22 ?vX23 ?vX24 ?vX25 ?vX26 ?uX20 ?uX21 ?uX22 ?uX23 ?uX24 ?uX25 ?uX26 ?uX27 ?uX28 ?uX29 ?uX210 ?uX211 ?uX212 ?uX213 ?uX214 ?uX215 ?uX216 ?uX217 ?uX218 ?adX1 ?ldX1 ?kdX1 ?sdX1 ?vX10 ?vX11 ?vX12 ?uX10 ?uX11 ?uX12 ?uX13 ?uX14 ?uX15 ?uX16 ?uX17 ?uX18 ?uX19 ?uX110 ?uX111 ?uX112 ?uX113 ?uX114 ?uX115 ?adXA ?ldXA ?kdXA ?sdXA ?vXA0 ?vXA1 ?vXA2 ?vXA3 ?vXA4 ?vXA5 ?vXA6 ?vXA7 ?vXA8 ?vXA9 ?vXA10 ?vXA11 ?vXA12 ?vXA13 ?vXA14 ?vXA15 ?z0 ?z1 ?z2 ?z3 ?z4 ?z5 ?z6 ?z7 ?z8 ?z9
    (case aC => k_is)
    (case aP4 => k_is)
    (case lP4 => k_is)
    (case cP4 => k_is)
    (case kP4 => k_is)
    (case aP5 => k_is)
    (case lP5 => k_is)
    (case cP5 => k_is)
    (case kP5 => k_is)
    (case aP8 => k_is)
    (case lP8 => k_is)
    (case cP8 => k_is)
    (case kP8 => k_is)
    (case aN => k_is)
    (case lN => k_is)
    (case cN => k_is)
    (case kN => k_is)
    (case aQ2 => k_is)
    (case lQ2 => k_is)
    (case cQ2 => k_is)
    (case kQ2 => k_is)
    (case aA0 => k_is)
    (case lA0 => k_is)
    (case cA0 => k_is)
    (case kA0 => k_is)
    (case aA1 => k_is)
    (case lA1 => k_is)
    (case cA1 => k_is)
    (case kA1 => k_is)
    (case aA2 => k_is)
    (case lA2 => k_is)
    (case cA2 => k_is)
    (case kA2 => k_is)
    (case aA3 => k_is)
    (case lA3 => k_is)
    (case cA3 => k_is)
    (case kA3 => k_is)
    (case aA4 => k_is)
    (case lA4 => k_is)
    (case cA4 => k_is)
    (case kA4 => k_is)
    (case aA5 => k_is)
    (case lA5 => k_is)
    (case cA5 => k_is)
    (case kA5 => k_is)
    (case aA6 => k_is)
    (case lA6 => k_is)
    (case cA6 => k_is)
    (case kA6 => k_is)
    (case aA7 => k_is)
    (case lA7 => k_is)
    (case cA7 => k_is)
    (case kA7 => k_is)
    (case aA8 => k_is)
    (case lA8 => k_is)
    (case cA8 => k_is)
    (case kA8 => k_is)
    (case aA9 => k_is)
    (case lA9 => k_is)
    (case cA9 => k_is)
    (case kA9 => k_is)
    (case aB0 => k_is)
    (case lB0 => k_is)
    (case cB0 => k_is)
    (case kB0 => k_is)
    (case aB1 => k_is)
    (case lB1 => k_is)
    (case cB1 => k_is)
    (case kB1 => k_is)
    (case aB2 => k_is)
    (case lB2 => k_is)
    (case cB2 => k_is)
    (case kB2 => k_is)
    (case aB3 => k_is)
    (case lB3 => k_is)
    (case cB3 => k_is)
    (case kB3 => k_is)
    (case aB4 => k_is)
    (case lB4 => k_is)
    (case cB4 => k_is)
    (case kB4 => k_is)
    (case aB5 => k_is)
    (case lB5 => k_is)
    (case cB5 => k_is)
    (case kB5 => k_is)
    (case aD1 => k_is)
    (case lD1 => k_is)
    (case cD1 => k_is)
    (case kD1 => k_is)
    (case aD2 => k_is)
    (case lD2 => k_is)
    (case cD2 => k_is)
    (case kD2 => k_is)
    (case aD3 => k_is)
    (case lD3 => k_is)
    (case cD3 => k_is)
    (case kD3 => k_is)
    (case aD4 => k_is)
    (case lD4 => k_is)
    (case cD4 => k_is)
    (case kD4 => k_is)
    (case aD5 => k_is)
    (case lD5 => k_is)
    (case cD5 => k_is)
    (case kD5 => k_is)
    (case aU1 => k_is)
    (case lU1 => k_is)
    (case cU1 => k_is)
    (case kU1 => k_is)
    (case aU2 => k_is)
    (case lU2 => k_is)
    (case cU2 => k_is)
    (case kU2 => k_is)
    (case aU3 => k_is)
    (case lU3 => k_is)
    (case cU3 => k_is)
    (case kU3 => k_is)
    (case aU4 => k_is)
    (case lU4 => k_is)
    (case cU4 => k_is)
    (case kU4 => k_is)
    (case aU5 => k_is)
    (case lU5 => k_is)
    (case cU5 => k_is)
    (case kU5 => k_is)
    (case aU6 => k_is)
    (case lU6 => k_is)
    (case cU6 => k_is)
    (case kU6 => k_is)
    (case aU7 => k_is)
    (case lU7 => k_is)
    (case cU7 => k_is)
    (case kU7 => k_is)
    (case aU8 => k_is)
    (case lU8 => k_is)
    (case cU8 => k_is)
    (case kU8 => k_is)
    (case aU9 => k_is)
    (case lU9 => k_is)
    (case cU9 => k_is)
    (case kU9 => k_is)
    (case aW1 => k_is)
    (case lW1 => k_is)
    (case cW1 => k_is)
    (case kW1 => k_is)
    (case aW2 => k_is)
    (case lW2 => k_is)
    (case cW2 => k_is)
    (case kW2 => k_is)
    (case aW3 => k_is)
    (case lW3 => k_is)
    (case cW3 => k_is)
    (case kW3 => k_is)
    (case aW4 => k_is)
    (case lW4 => k_is)
    (case cW4 => k_is)
    (case kW4 => k_is)
    (case aW5 => k_is)
    (case lW5 => k_is)
    (case cW5 => k_is)
    (case kW5 => k_is)
    (case aW6 => k_is)
    (case lW6 => k_is)
    (case cW6 => k_is)
    (case kW6 => k_is)
    (case aW7 => k_is)
    (case lW7 => k_is)
    (case cW7 => k_is)
    (case kW7 => k_is)
    (case aX1 => k_is)
    (case lX1 => k_is)
    (case cX1 => k_is)
    (case kX1 => k_is)
    (case aX2 => k_is)
    (case lX2 => k_is)
    (case cX2 => k_is)
    (case kX2 => k_is)
    (case aX3 => k_is)
    (case lX3 => k_is)
    (case cX3 => k_is)
    (case kX3 => k_is)
    (case aR2 => k_is)
    (case lR2 => k_is)
    (case cR2 => k_is)
    (case kR2 => k_is)
    (case aR3 => k_is)
    (case lR3 => k_is)
    (case cR3 => k_is)
    (case kR3 => k_is)
    (case aR4 => k_is)
    (case lR4 => k_is)
    (case cR4 => k_is)
    (case kR4 => k_is)
    (case aR6 => k_is)
    (case lR6 => k_is)
    (case cR6 => k_is)
    (case kR6 => k_is)
    (case aR7 => k_is)
    (case lR7 => k_is)
    (case cR7 => k_is)
    (case kR7 => k_is)
    (case aR8 => k_is)
    (case lR8 => k_is)
    (case cR8 => k_is)
    (case kR8 => k_is)
    (case a7 => k_is)
    (case l7 => k_is)
    (case c7 => k_is)
    (case k7 => k_is)
    (case aV1 => k_is)
    (case iV1 => k_is)
    (case lV1 => k_is)
    (case cV1 => k_is)
    (case kV1 => k_is)
    (case aV2 => k_is)
    (case iV2 => k_is)
    (case lV2 => k_is)
    (case cV2 => k_is)
    (case kV2 => k_is)
    (case aV3 => k_is)
    (case iV3 => k_is)
    (case lV3 => k_is)
    (case cV3 => k_is)
    (case kV3 => k_is)
    (case aV4 => k_is)
    (case iV4 => k_is)
    (case lV4 => k_is)
    (case cV4 => k_is)
    (case kV4 => k_is)
    (case aV5 => k_is)
    (case iV5 => k_is)
    (case lV5 => k_is)
    (case cV5 => k_is)
    (case kV5 => k_is)
    (case aV6 => k_is)
    (case iV6 => k_is)
    (case lV6 => k_is)
    (case cV6 => k_is)
    (case kV6 => k_is)
    (case aC2 => k_is)
    (case aE0 => k_is)
    (case iE0 => k_is)
    (case lE0 => k_is)
    (case cE0 => k_is)
    (case kE0 => k_is)
    (case xL => k_is)
    (case rE => first | rfl | decide +kernel)
    (case sa2 => k_is)
    (case ga2 => k_is)
    (case gg2 => k_is)
    (case eC2 => k_is)
    (case tC2 => k_is)
    (case hC2 => k_is)
    (case iC2 => k_is)
    (case sC2 => first | rfl | k_is)
    (case kC2 => k_is)
    (case tE => k_is)
    (case nB_end => k_is)
    (case lcN => k_is)
    (case vcN => rfl)
    (case npT => first | k_is | rfl | decide +kernel)
    (case pg => k_is)
    (case hd => k_is)
    (case po => k_is)
    (case sa => k_is)
    (case mk => k_is)
    (case kc => k_is)
    (case nA_orders => k_is)
    (case nA_picture => k_is)
    (case nA_ticks => k_is)
    (case nA_at => k_is)
    (case nA_stack => k_is)
    (case nA_slots => k_is)
    (case nA_below => k_is)
    (case nA_lines => k_is)
    (case nA_said => k_is)
    (case nA_count => k_is)
    (case nA_idle => k_is)
    (case nA_number => k_is)
    (case nA_end => k_is)
    (case at1 => k_is)
    (case lt1 => k_is)
    (case vt1 => (repeat (first | exact Paired.nil | refine Paired.cons ⟨_, rfl⟩ ?_)))
    (case zt1 => first | decide | decide +kernel)
    (case at2 => k_is)
    (case lt2 => k_is)
    (case vt2 => (repeat (first | exact Paired.nil | refine Paired.cons ⟨_, rfl⟩ ?_)))
    (case zt2 => first | decide | decide +kernel)
    (case at3 => k_is)
    (case lt3 => k_is)
    (case vt3 => (repeat (first | exact Paired.nil | refine Paired.cons ⟨_, rfl⟩ ?_)))
    (case zt3 => first | decide | decide +kernel)
    (case at4 => k_is)
    (case lt4 => k_is)
    (case vt4 => (repeat (first | exact Paired.nil | refine Paired.cons ⟨_, rfl⟩ ?_)))
    (case zt4 => first | decide | decide +kernel)
    (case at5 => k_is)
    (case lt5 => k_is)
    (case vt5 => (repeat (first | exact Paired.nil | refine Paired.cons ⟨_, rfl⟩ ?_)))
    (case zt5 => first | decide | decide +kernel)
    (case s1 => k_is)
    (case s4 => k_is)
    (case s5 => k_is)
    (case s6 => k_is)
    (case s7 => k_is)
    (case s8 => k_is)
    (case s9 => k_is)
    (case s2 => k_is)
    (case s3 => k_is)
    (case adX2 => k_is)
    (case ldX2 => k_is)
    (case kdX2 => ((repeat (refine ⟨⟨_, _, rfl, rfl⟩, ?_⟩)) <;> exact True.intro))
    (case sdX2 => first | rfl | decide | decide +kernel)
    (case vX20 => k_is)
    (case vX21 => k_is)
    (case vX22 => k_is)
    (case vX23 => k_is)
    (case vX24 => k_is)
    (case vX25 => k_is)
    (case vX26 => k_is)
    (case uX20 => k_is)
    (case uX21 => k_is)
    (case uX22 => k_is)
    (case uX23 => k_is)
    (case uX24 => k_is)
    (case uX25 => k_is)
    (case uX26 => k_is)
    (case uX27 => k_is)
    (case uX28 => k_is)
    (case uX29 => k_is)
    (case uX210 => k_is)
    (case uX211 => k_is)
    (case uX212 => k_is)
    (case uX213 => k_is)
    (case uX214 => k_is)
    (case uX215 => k_is)
    (case uX216 => k_is)
    (case uX217 => k_is)
    (case uX218 => k_is)
    (case adX1 => k_is)
    (case ldX1 => k_is)
    (case kdX1 => ((repeat (refine ⟨⟨_, _, rfl, rfl⟩, ?_⟩)) <;> exact True.intro))
    (case sdX1 => first | rfl | decide | decide +kernel)
    (case vX10 => k_is)
    (case vX11 => k_is)
    (case vX12 => k_is)
    (case uX10 => k_is)
    (case uX11 => k_is)
    (case uX12 => k_is)
    (case uX13 => k_is)
    (case uX14 => k_is)
    (case uX15 => k_is)
    (case uX16 => k_is)
    (case uX17 => k_is)
    (case uX18 => k_is)
    (case uX19 => k_is)
    (case uX110 => k_is)
    (case uX111 => k_is)
    (case uX112 => k_is)
    (case uX113 => k_is)
    (case uX114 => k_is)
    (case uX115 => k_is)
    (case adXA => k_is)
    (case ldXA => k_is)
    (case kdXA => ((repeat (refine ⟨⟨_, _, rfl, rfl⟩, ?_⟩)) <;> exact True.intro))
    (case sdXA => first | rfl | decide | decide +kernel)
    (case vXA0 => k_is)
    (case vXA1 => k_is)
    (case vXA2 => k_is)
    (case vXA3 => k_is)
    (case vXA4 => k_is)
    (case vXA5 => k_is)
    (case vXA6 => k_is)
    (case vXA7 => k_is)
    (case vXA8 => k_is)
    (case vXA9 => k_is)
    (case vXA10 => k_is)
    (case vXA11 => k_is)
    (case vXA12 => k_is)
    (case vXA13 => k_is)
    (case vXA14 => k_is)
    (case vXA15 => k_is)
    (case z0 => k_is)
    (case z1 => k_is)
    (case z2 => k_is)
    (case z3 => k_is)
    (case z4 => k_is)
    (case z5 => k_is)
    (case z6 => k_is)
    (case z7 => k_is)
    (case z8 => k_is)
    (case z9 => k_is)

