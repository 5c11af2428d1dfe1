import PyProof.Rows.All
import Wide.All
import OpenK.AllK
import Wide.FinOn
import HandS.Base
import HandS.Call
import HandS.List
import HandS.Comp
import HandS.Ends
import HandS.Iter
import HandS.Text
import HandS.Words
import HandS.WordsList
import HandS.More
import HandS.Codes
import HandS.IsInst
import HandS.Zip
import HandS.Walk
import HandS.Style
import HandS.IntHex
import HandS.StrMore
import KE.KRevSl
import HandS.Defaults
import HandS.MakeKwOnly
import KE.GoesEnum
import KE.KExcSuper
import HandS.Exc
import HandS.ExcInit
import HandS.FStr
import HandS.Conv
import HandS.ExcField
import HandS.Lambda
import HandS.Star
import HandS.WordsExc
import HandS.DictComp
import HandS.WordsDict
import HandS.ClsMeth
import HandS.WideBits
import HandS.ForDict
import HandS.Property
import HandS.Deep
import HandS.OwnEq
import HandS.SetFor
import HandS.EndTab
import KE.OsRunLaw
import PySem.Challenge.RW_fivefault_k73_whole_large_boards_spread
set_option Elab.async false
set_option linter.all false
set_option maxRecDepth 100000

namespace Fv
open PySem PySem.Spec PyProof.Rows L2
/-! ### heaps -/
theorem same_upd {H : Hp} {p : Addr} {o : HO} (h : H p = none) : Same H (upd H p o) := fun b x e => by
  rw [upd_ne (ne_of_none e h)]
  exact e
/-- all but what stands at M is as it was -/
def SmX (M : List Addr) (H H' : Hp) : Prop := ∀ b o, b ∉ M → H b = some o → H' b = some o
theorem SmX.refl (M : List Addr) (H : Hp) : SmX M H H := fun _ _ _ h => h
theorem SmX.trans {M : List Addr} {H H1 H2 : Hp} (a : SmX M H H1) (b : SmX M H1 H2) : SmX M H H2 := fun c o m h => b c o m (a c o m h)
theorem SmX.of_same {M : List Addr} {H H1 : Hp} (a : Same H H1) : SmX M H H1 := fun c o _ h => a c o h
theorem SmX.new {M : List Addr} {H : Hp} {p : Addr} {o : HO} (h : H p = none) : SmX M H (upd H p o) := .of_same (same_upd h)
theorem SmX.sub {M M' : List Addr} {H H1 : Hp} (a : SmX M H H1) (h : ∀ b, b ∈ M → b ∈ M' ∨ H b = none) : SmX M' H H1 := fun c o m e => by
  refine a c o (fun hc => ?_) e
  rcases h c hc with q | q
  · exact m q
  · rw [q] at e; cases e
theorem SmX.at {M : List Addr} {H H1 : Hp} {a : Addr} (h : ∀ b, b ≠ a → H1 b = H b) (m : a ∈ M) : SmX M H H1 := fun c o n e => by
  rw [h c (fun z => n (z ▸ m))]; exact e
theorem SmX.put {M : List Addr} {H H1 : Hp} {p : Addr} {o : HO} (a : SmX M H H1) (m : p ∈ M) : SmX M H (L2.upd H1 p o) := fun c x n e => by
  have ne : c ≠ p := fun z => n (z ▸ m)
  rw [upd_ne ne]; exact a c x n e
/-- what does not stand at M -/
def hide (M : List Addr) (H : Hp) : Hp := fun b => if b ∈ M then none else H b
theorem hide_ne {M : List Addr} {H : Hp} {b : Addr} (h : b ∉ M) : hide M H b = H b := by unfold hide; rw [if_neg h]
theorem hide_some {M : List Addr} {H : Hp} {b : Addr} {o : HO} (h : hide M H b = some o) : b ∉ M ∧ H b = some o := by
  unfold hide at h
  by_cases m : b ∈ M
  · rw [if_pos m] at h; cases h
  · rw [if_neg m] at h; exact ⟨m, h⟩
theorem hide_same {M : List Addr} {H : Hp} : Same (hide M H) H := fun b o h => (hide_some h).2
theorem SmX.hid {M : List Addr} {H H' : Hp} (h : SmX M H H') : Same (hide M H) (hide M H') := fun b o e => by
  obtain ⟨m, e⟩ := hide_some e
  rw [hide_ne m]
  exact h b o m e
theorem hide_sub {M M' : List Addr} {H : Hp} (h : ∀ b, b ∈ M' → b ∈ M) : Same (hide M H) (hide M' H) := fun b o e => by
  obtain ⟨m, e⟩ := hide_some e
  rw [hide_ne (fun z => m (h b z))]
  exact e
theorem same_seqT {K : PySem.W.Frag} {H H' : Hp} {a : Addr} {xs : List V} (e : Same H H') (h : SqT K H a xs) : SqT K H' a xs := by
  rcases h with (h | ⟨o, h⟩) | h
  · exact .inl (.inl (e _ _ h))
  · exact .inl (.inr ⟨o, e _ _ h⟩)
  · exact .inr h
mutual
theorem dp_same {K : PySem.W.Frag} {H H' : Hp} (e : Same H H') : ∀ (d : PyData) (v : V), Dp K H v d → Dp K H' v d
  | .none, _, h => by cases h; exact .non
  | .bool b, _, h => by cases h; exact .bl b
  | .int i, _, h => by cases h; exact .int i
  | .str x, _, h => by cases h; exact .str x
  | .list ds, _, h => by cases h with | lst hs ha => exact .lst (e.seq hs) (dpAll_same e ds _ ha)
  | .tuple ds, _, h => by cases h with | tup hs ha => exact .tup (same_seqT e hs) (dpAll_same e ds _ ha)
  | .dict kvs, _, h => by cases h
theorem dpAll_same {K : PySem.W.Frag} {H H' : Hp} (e : Same H H') : ∀ (ds : List PyData) (vs : List V), DpAll K H vs ds → DpAll K H' vs ds
  | [], _, h => by cases h; exact .nil
  | d :: ds, _, h => by cases h with | cons h1 h2 => exact .cons (dp_same e d _ h1) (dpAll_same e ds _ h2)
end
theorem dpAll_len {K : PySem.W.Frag} {H : Hp} : ∀ {vs : List V} {ds : List PyData}, DpAll K H vs ds → vs.length = ds.length
  | _, _, .nil => rfl
  | _, _, .cons _ h => by rw [List.length_cons, List.length_cons, dpAll_len h]
theorem dpAll_get {K : PySem.W.Frag} {H : Hp} : ∀ {vs : List V} {ds : List PyData} {i : Nat} {v : V}, DpAll K H vs ds → vs[i]? = some v → ∃ d, ds[i]? = some d ∧ Dp K H v d
  | _, _, _, _, .nil, e => by simp at e
  | _, _, 0, _, .cons h _, e => by simp at e; subst e; exact ⟨_, rfl, h⟩
  | _ :: vs, _ :: ds, i + 1, _, .cons _ h, e => by
    have e' : vs[i]? = some _ := e
    exact dpAll_get (ds := ds) h e'
theorem dpAll_app {K : PySem.W.Frag} {H : Hp} : ∀ {vs ws : List V} {ds es : List PyData}, DpAll K H vs ds → DpAll K H ws es → DpAll K H (vs ++ ws) (ds ++ es)
  | _, _, _, _, .nil, h => h
  | _, _, _, _, .cons h1 h2, h => .cons h1 (dpAll_app h2 h)
theorem dpAll_drop {K : PySem.W.Frag} {H : Hp} : ∀ (n : Nat) {vs : List V} {ds : List PyData}, DpAll K H vs ds → DpAll K H (vs.drop n) (ds.drop n)
  | 0, _, _, h => h
  | n + 1, _, _, .nil => .nil
  | n + 1, _, _, .cons _ h => dpAll_drop n h
/-! ### data -/
mutual
/-- plain data, nested at most n deep -/
def gd : Nat → PyData → Bool
  | _, .none => true
  | _, .bool _ => true
  | _, .int _ => true
  | _, .str x => PyData.strOk x && decide (x.length ≤ 100000)
  | 0, _ => false
  | n + 1, .list ds => gdAll n ds && decide (ds.length ≤ 1000)
  | n + 1, .tuple ds => gdAll n ds && decide (ds.length ≤ 1000)
  | _, .dict _ => false
def gdAll : Nat → List PyData → Bool
  | _, [] => true
  | n, d :: ds => gd n d && gdAll n ds
end
theorem gdAll_iff {n : Nat} : ∀ {ds : List PyData}, gdAll n ds = true ↔ ∀ d ∈ ds, gd n d = true
  | [] => by simp [gdAll]
  | d :: ds => by simp [gdAll, gdAll_iff (n := n) (ds := ds)]
mutual
theorem gd_up : ∀ (n : Nat) (d : PyData), gd n d = true → gd (n + 1) d = true
  | _, .none, _ => rfl
  | _, .bool _, _ => rfl
  | _, .int _, _ => rfl
  | 0, .str x, h => h
  | n + 1, .str x, h => h
  | 0, .list _, h => by cases h
  | 0, .tuple _, h => by cases h
  | 0, .dict _, h => by cases h
  | n + 1, .list ds, h => by
    simp only [gd, Bool.and_eq_true] at h ⊢
    exact ⟨gdAll_up n ds h.1, h.2⟩
  | n + 1, .tuple ds, h => by
    simp only [gd, Bool.and_eq_true] at h ⊢
    exact ⟨gdAll_up n ds h.1, h.2⟩
  | n + 1, .dict _, h => by cases h
theorem gdAll_up : ∀ (n : Nat) (ds : List PyData), gdAll n ds = true → gdAll (n + 1) ds = true
  | _, [], _ => rfl
  | n, d :: ds, h => by
    simp only [gdAll, Bool.and_eq_true] at h ⊢
    exact ⟨gd_up n d h.1, gdAll_up n ds h.2⟩
end
theorem gd_le {n m : Nat} {d : PyData} (h : gd n d = true) (hm : n ≤ m) : gd m d = true := by
  induction hm with
  | refl => exact h
  | step _ ih => exact gd_up _ _ ih
mutual
theorem gd_lay : ∀ (n : Nat) (d : PyData), gd n d = true → d.canLay0 = true ∧ d.depth ≤ n
  | _, .none, _ => ⟨rfl, by simp [PyData.depth]⟩
  | _, .bool _, _ => ⟨rfl, by simp [PyData.depth]⟩
  | _, .int _, _ => ⟨rfl, by simp [PyData.depth]⟩
  | 0, .str x, h => ⟨by simp only [gd, Bool.and_eq_true] at h; simpa [PyData.canLay0] using h.1, by simp [PyData.depth]⟩
  | n + 1, .str x, h => ⟨by simp only [gd, Bool.and_eq_true] at h; simpa [PyData.canLay0] using h.1, by simp [PyData.depth]⟩
  | 0, .list _, h => by cases h
  | 0, .tuple _, h => by cases h
  | 0, .dict _, h => by cases h
  | n + 1, .list ds, h => by
    have q := gdAll_lay n ds (by simp only [gd, Bool.and_eq_true] at h; exact h.1)
    exact ⟨by simpa [PyData.canLay0] using q.1, by simp only [PyData.depth]; omega⟩
  | n + 1, .tuple ds, h => by
    have q := gdAll_lay n ds (by simp only [gd, Bool.and_eq_true] at h; exact h.1)
    exact ⟨by simpa [PyData.canLay0] using q.1, by simp only [PyData.depth]; omega⟩
  | n + 1, .dict _, h => by cases h
theorem gdAll_lay : ∀ (n : Nat) (ds : List PyData), gdAll n ds = true → PyData.canLayAll0 ds = true ∧ PyData.depthAll ds ≤ n
  | _, [], _ => ⟨rfl, by simp [PyData.depthAll]⟩
  | n, d :: ds, h => by
    simp only [gdAll, Bool.and_eq_true] at h
    have a := gd_lay n d h.1
    have b := gdAll_lay n ds h.2
    exact ⟨by simp [PyData.canLayAll0, a.1, b.1], by simp only [PyData.depthAll]; omega⟩
end
theorem gd_list {n : Nat} {ds : List PyData} (h : gd (n + 1) (.list ds) = true) : ds.length ≤ 1000 ∧ ∀ d ∈ ds, gd n d = true := by
  simp only [gd, Bool.and_eq_true, decide_eq_true_eq] at h
  exact ⟨h.2, gdAll_iff.mp h.1⟩
theorem gd_tuple {n : Nat} {ds : List PyData} (h : gd (n + 1) (.tuple ds) = true) : ds.length ≤ 1000 ∧ ∀ d ∈ ds, gd n d = true := by
  simp only [gd, Bool.and_eq_true, decide_eq_true_eq] at h
  exact ⟨h.2, gdAll_iff.mp h.1⟩
theorem gd_tup {n : Nat} {ds : List PyData} (h : ∀ d ∈ ds, gd n d = true) (hl : ds.length ≤ 1000) : gd (n + 1) (.tuple ds) = true := by
  simp only [gd, Bool.and_eq_true, decide_eq_true_eq]
  exact ⟨gdAll_iff.mpr h, hl⟩
theorem gd_lst {n : Nat} {ds : List PyData} (h : ∀ d ∈ ds, gd n d = true) (hl : ds.length ≤ 1000) : gd (n + 1) (.list ds) = true := by
  simp only [gd, Bool.and_eq_true, decide_eq_true_eq]
  exact ⟨gdAll_iff.mpr h, hl⟩
theorem gd_shaped {n : Nat} {d : PyData} (h : gd n d = true) (hn : n ≤ 64) : SeqAt.shaped d = true := by
  have q := gd_lay n d h
  show (d.canLay0 && decide (d.depth ≤ 64)) = true
  rw [q.1, decide_eq_true (Nat.le_trans q.2 hn)]
  rfl
end Fv


namespace Fv
open PySem PySem.Spec PyProof.Rows L2
/-! ### an own def as its callers see it -/
structure Own (P : Program) (w : World) (K : PySem.W.Frag) (mg : Str → Option Value) (base : Heap) (k : Nat) (x : Str) (ps : List Str) (sp : Sp) : Prop where
  ex : ∃ (f : Addr) (fd : FuncData), mg x = some (.ref f) ∧ PySem.W.keepIn K (.ref f) = true ∧ Binds K fd ps [] ∧ FnOk P w K mg base CX0 k f fd ps sp
section
variable {X : Cx} {k : Nat} {x : Str} {ps : List Str} {sp : Sp} {e : Expr} {es : List Expr} {t : TA} {p pos : Pos}
theorem pe_own (C : Own X.prog X.w X.K X.mg X.base k x ps sp) (hr : Room k X.A) (hg : Gl X x) (ha : PA X (e :: es) t) (hdb : (x == ("__debug__" : Str)) = false := by decide)
    (he : starEach (e :: es) X.env = (false, eval e X.env) :: starEach es X.env := by rfl) (hpl : (backTo pos (starEach es X.env)).any (·.1) = false := by rfl) : PE X (.Call (.Name x p) (e :: es) [] pos) (tCall sp [] E0 t) := by
  obtain ⟨f, fd, h1, h2, h3, h4⟩ := C.ex
  exact pe_call h4 hr hg h1 h2 h3 .nil pass0 ha hdb he hpl
end
/-! ### isinstance of data -/
def tyN : PyData → String
  | .none => "NoneType"
  | .bool _ => "bool"
  | .int _ => "int"
  | .str _ => "str"
  | .list _ => "list"
  | .tuple _ => "tuple"
  | .dict _ => "dict"
/-- isinstance of data, by the names of the types -/
def isB : String → String → Bool
  | a, b => a == b || (a == "bool" && b == "int")
def tyOk (T : String) : Bool := T == "str" || T == "int" || T == "bool" || T == "list" || T == "tuple" || T == "dict"
theorem kitB_all {d : PyData} {T : String} (h : tyOk T = true) : kitB (tyN d) T = some (isB (tyN d) T) := by
  simp only [tyOk, Bool.or_eq_true, beq_iff_eq] at h
  rcases h with ((((h | h) | h) | h) | h) | h <;> subst h <;> cases d <;> (simp only [tyN]; decide +kernel)
theorem dp_ty {K : PySem.W.Frag} {H : Hp} {v : V} {d : PyData} (h : Dp K H v d) : TyX K H v (.type (tyN d)) := by
  cases h with
  | non => exact .base .non
  | bl b => exact .base (.bl b)
  | int i => exact .base (.int i)
  | str x => exact .base (.str x)
  | lst hs ha =>
    rcases hs with (h | ⟨o, h⟩) | ⟨o, its, n, h1, h2, _⟩
    · exact .base (.lst h)
    · exact .base (.frz h)
    · exact .kList h1 h2
  | tup hs ha =>
    rcases hs with (h | ⟨o, h⟩) | ⟨o, its, n, h1, h2, _⟩
    · exact .base (.tup h)
    · exact .fTuple h
    · exact .kTuple h1 h2
def rIsD (K : PySem.W.Frag) : List V → Hp → VK → Prop := fun xs H Q => ∃ (x : V) (T : String) (d : PyData), xs = [x, .ty T] ∧ tyOk T = true ∧ Dp K H x d ∧ Q (.bl (isB (tyN d) T)) H
theorem call_isD {X : Cx} : CallR X (.builtin "isinstance") (rIsD X.K) := by
  intro pins s σ H xs us Q I r h
  obtain ⟨x, T, d, rfl, hT, hd, q⟩ := h
  exact call_isi pins s σ H _ us Q I r ⟨x, .ty T, _, _, _, rfl, .ty T, dp_ty hd, kit_ty (kitB_all hT), q⟩
section
variable {X : Cx} {e : Expr} {te : TE} {T : String} {y : Str} {p p2 pos : Pos}
theorem pe_isD (hg : Gl X "isinstance") (hm : X.mg "isinstance" = none) (hg2 : Gl X y) (hm2 : X.mg y = none) (ha : PE X e te)
    (hv : bootBuiltins y = some (.type T) := by decide +kernel) (hn : y ≠ "__name__" := by decide) (hd2 : (y == ("__debug__" : Str)) = false := by decide)
    (he : starEach (e :: [.Name y p2]) X.env = (false, eval e X.env) :: starEach [.Name y p2] X.env := by rfl) (hpl : (backTo pos (starEach [.Name y p2] X.env)).any (·.1) = false := by rfl) :
    PE X (.Call (.Name "isinstance" p) [e, .Name y p2] [] pos) (tCB (rIsD X.K) (tCons te (tCons (tC (.ty T)) tNil))) :=
  pe_callB (x := "isinstance") call_isD hg hm (by decide +kernel) (pa_cons ha (pa_cons (pe_bltn (v := .ty T) (pos := p2) hg2 hm2 hv rfl hn hd2) pa_nil) (hs := he)) (by decide) (by decide) he hpl
/-! ### in, not in: a tuple of data -/
def rInT (K : PySem.W.Frag) : R2 := fun x y H Q => ∃ d ds, Dp K H x d ∧ Dp K H y (.tuple ds) ∧ SeqAt.shaped d = true ∧ SeqAt.shaped (.tuple ds) = true ∧ Q (.bl (ds.any fun z => PyData.eqv z d)) H
def rNotInT (K : PySem.W.Frag) : R2 := fun x y H Q => ∃ d ds, Dp K H x d ∧ Dp K H y (.tuple ds) ∧ SeqAt.shaped d = true ∧ SeqAt.shaped (.tuple ds) = true ∧ Q (.bl (!ds.any fun z => PyData.eqv z d)) H
theorem room_shaped {n : Nat} {ds : List PyData} {d : PyData} (h : SeqAt.shaped d = true) (hu : n + 65 < cLine) : n + 1 + min (PyData.depthAll ds) d.depth < cLine := by
  have := SeqAt.depth_of_shaped h
  have := Nat.min_le_right (PyData.depthAll ds) d.depth
  omega
theorem op_inT (hu : X.A.units + 65 < cLine) : OpR X (compareOp .In) (rInT X.K) := by
  intro pins s σ H x y v u Q I rx ry h
  obtain ⟨d, ds, hd, he, sd, se, q⟩ := h
  obtain ⟨as, r1⟩ := Dp.reads I d x v hd rx
  obtain ⟨bs, r2⟩ := Dp.reads I (.tuple ds) y u he ry
  exact SeqAt.in_tuple_reads r2 r1 (SeqAt.canLay_of_shaped se) (SeqAt.canLay_of_shaped sd) (room_shaped sd hu) ⟨.bl _, H, I, rfl, q⟩
theorem op_notInT (hu : X.A.units + 65 < cLine) : OpR X (compareOp .NotIn) (rNotInT X.K) := by
  intro pins s σ H x y v u Q I rx ry h
  obtain ⟨d, ds, hd, he, sd, se, q⟩ := h
  obtain ⟨as, r1⟩ := Dp.reads I d x v hd rx
  obtain ⟨bs, r2⟩ := Dp.reads I (.tuple ds) y u he ry
  exact SeqAt.notIn_tuple_reads r2 r1 (SeqAt.canLay_of_shaped se) (SeqAt.canLay_of_shaped sd) (room_shaped sd hu) ⟨.bl _, H, I, rfl, q⟩
end
theorem hu65 {A : Around} {k : Nat} (hr : Room k A) : A.units + 65 < cLine := by have := hr.un; omega
/-! ### the source of draws -/
/-- the source at a: its script at L, ns -/
def Src (H : Hp) (a L : Addr) (ns : List Int) : Prop := ∃ i p st c : Int, H a = some (.lst [.ref L, .int i, .int p, .int st, .int c]) ∧ H L = some (.lst (ns.map V.int)) ∧ 0 ≤ i ∧ 0 ≤ st ∧ st < 2147483629
theorem Src.off {H H' : Hp} {a L b : Addr} {ns : List Int} (h : Src H a L ns) (hb : H b = none) (e : ∀ c, c ≠ b → H' c = H c) : Src H' a L ns := by
  obtain ⟨i, p, st, c, h1, h2, h3⟩ := h
  exact ⟨i, p, st, c, by rw [e a (ne_of_none h1 hb)]; exact h1, by rw [e L (ne_of_none h2 hb)]; exact h2, h3⟩
theorem Src.same {H H' : Hp} {a L : Addr} {ns : List Int} (h : Src H a L ns) (e : Same H H') : Src H' a L ns := by
  obtain ⟨i, p, st, c, h1, h2, h3⟩ := h
  exact ⟨i, p, st, c, e _ _ h1, e _ _ h2, h3⟩
def spSource (K : PySem.W.Frag) : Sp := fun vs H Q _ => ∃ (a : Addr) (ns : List Int), vs = [.ref a] ∧ SqL K H a (ns.map V.int) ∧ ns.length ≤ 63 ∧
  ∀ (H' : Hp) (p L : Addr), Same H H' → H p = none → H L = none → Src H' p L ns → Q (.ref p) H'
def spTake : Sp := fun vs H Q _ => ∃ (a L : Addr) (ns : List Int) (n : Int), vs = [.ref a, .int n] ∧ Src H a L ns ∧ 1 ≤ n ∧ n ≤ 1000000 ∧
  ∀ (H' : Hp) (d : Int), 0 ≤ d → d < n → Src H' a L ns → (∀ b, b ≠ a → H' b = H b) → Q (.int d) H'
def spPick : Sp := fun vs H Q _ => ∃ (a L r : Addr) (ns : List Int) (xs : List V), vs = [.ref a, .ref r] ∧ Src H a L ns ∧ r ≠ a ∧ H r = some (.lst xs) ∧ 0 < xs.length ∧ xs.length ≤ 1000 ∧
  ∀ (H' : Hp) (v : V), v ∈ xs → Src H' a L ns → (∀ b, b ≠ a → H' b = H b) → Q v H'
def spMixed : Sp := fun vs H Q _ => ∃ (a L r : Addr) (ns : List Int) (xs : List V), vs = [.ref a, .ref r] ∧ Src H a L ns ∧ r ≠ a ∧ H r = some (.lst xs) ∧ xs.length ≤ 1000 ∧
  ∀ (H' : Hp) (p : Addr) (ys : List V), ys.Perm xs → H p = none → H' p = some (.lst ys) → Src H' a L ns → (∀ b, b ≠ a → b ≠ p → H' b = H b) → Q (.ref p) H'
end Fv


namespace Fv
open PySem PySem.Spec PyProof.Rows L2
/-! ### list(text) -/
def signs (x : Str) : List V := x.cps.toList.map fun c => V.str ⟨#[c]⟩
theorem vals_signs {x : Str} {acc : Array Value} (h : ItemsOf (SignAt x) acc x.cps.size) : Vals (signs x) acc.toList := by
  have hs : acc.toList.length = x.cps.toList.length := by simpa using h.1
  have hi : ∀ (j : Nat) (v : Value), acc.toList[j]? = some v → ∃ c u, x.cps.toList[j]? = some c ∧ v = .str ⟨#[c]⟩ u := fun j v e => by
    obtain ⟨c, u, e1, e2⟩ := h.2 j v (by simpa using e)
    exact ⟨c, u, by simpa using e1, e2⟩
  unfold signs
  generalize acc.toList = us at hs hi
  generalize x.cps.toList = cs at hs hi
  induction cs generalizing us with
  | nil =>
    cases us with
    | nil => exact .nil
    | cons u us => simp at hs
  | cons c cs ih =>
    cases us with
    | nil => simp at hs
    | cons u us =>
      obtain ⟨c', t, e1, e2⟩ := hi 0 u rfl
      simp at e1
      subst e1
      refine .cons ⟨t, e2⟩ (ih us (by simpa using hs) fun j v e => ?_)
      obtain ⟨c', t, e1, e2⟩ := hi (j + 1) v (by simpa using e)
      exact ⟨c', t, by simpa using e1, e2⟩
section
variable {X : Cx}
theorem call_listStr (hh : X.A.handled = none) : CallR X (.type "list") (fun xs H Q => ∃ x : Str, xs = [.str x] ∧ x.cps.size ≤ sizeLine ∧ ∀ l, H l = none → Q (.ref l) (upd H l (.lst (signs x)))) := by
  intro pins s σ H xs us Q I r h
  obtain ⟨x, rfl, hz, q⟩ := h
  obtain ⟨u, rfl, rx⟩ := vals1 r
  obtain ⟨t, rfl⟩ := rx
  refine call_list_str hh x t (fun h' tk acc' c' kp e it => ?_) hz
  have rv := vals_signs it
  refine ⟨.ref s.heap.objs.size, _, I.laid (t' := tk) kp (Nat.le_refl _) (show ObjOk X.prog X.w _ h' _ (.lst (signs x)) from ⟨?_, acc'.toList, c', rv, ?_⟩), rfl, q _ (I.hok.fresh (Nat.le_refl _))⟩
  · unfold signs; rw [List.length_map, Array.length_toList]; exact hz
  · simpa using e
end
theorem atI_mem {xs : List V} {i : Int} (h0 : 0 ≤ i) (h : i < (xs.length : Nat)) : ∃ v, atI xs i = some v ∧ v ∈ xs := by
  have hk : i.toNat < xs.length := by omega
  have q : atI xs ((i.toNat : Nat) : Int) = some xs[i.toNat] := atI_nat (List.getElem?_eq_getElem hk)
  rw [show ((i.toNat : Nat) : Int) = i by omega] at q
  exact ⟨_, q, List.getElem_mem hk⟩
theorem le1000 {n : Nat} (h : n ≤ 1000) : n ≤ sizeLine := Nat.le_of_lt (small1000 h)
/-- the letters of a list of signs are texts of one sign of a to h -/
def lett (v : V) : Prop := v ∈ signs "abcdefgh"
theorem lett_data {v : V} (h : lett v) : ∃ x : Str, v = .str x ∧ x ∈ (["a", "b", "c", "d", "e", "f", "g", "h"] : List Str) := by
  have e : signs "abcdefgh" = (["a", "b", "c", "d", "e", "f", "g", "h"] : List Str).map V.str := by decide +kernel
  unfold lett at h
  rw [e] at h
  obtain ⟨x, hx, rfl⟩ := List.mem_map.mp h
  exact ⟨x, rfl, hx⟩
def spSigns : Sp := fun vs H Q _ => ∃ (a L : Addr) (ns : List Int) (n : Int), vs = [.ref a, .int n] ∧ Src H a L ns ∧ 1 ≤ n ∧ n ≤ 8 ∧
  ∀ (H' : Hp) (p : Addr) (ys : List V), 0 < ys.length → ys.length ≤ n → (∀ y ∈ ys, lett y) → ys.Nodup → H p = none → H' p = some (.lst ys) → Src H' a L ns → SmX [a] H H' → Q (.ref p) H'
theorem cut_take (xs : List V) {n : Int} (h : 0 ≤ n) : cutV xs none (some n) = xs.take n.toNat := by
  unfold cutV
  rw [HT.sIx_none, show HT.sIx xs.length xs.length (some n) = min n.toNat xs.length by
    have := HT.sIx_nat xs.length xs.length n.toNat
    rw [show ((n.toNat : Nat) : Int) = n by omega] at this
    exact this]
  rw [List.drop_zero, Nat.sub_zero]
  rcases Nat.le_total n.toNat xs.length with q | q
  · rw [Nat.min_eq_left q]
  · rw [Nat.min_eq_right q, List.take_of_length_le (Nat.le_refl _), List.take_of_length_le q]
theorem cut_drop1 (xs : List V) : cutV xs (some 1) none = xs.drop 1 := by
  unfold cutV
  rw [show HT.sIx xs.length 0 (some 1) = min 1 xs.length from HT.sIx_nat xs.length 0 1, HT.sIx_none]
  cases xs with
  | nil => rfl
  | cons x r =>
    rw [show min 1 (x :: r).length = 1 by
      rw [List.length_cons]
      omega]
    show (List.take ((x :: r).length - 1) r) = r
    rw [List.length_cons, Nat.add_sub_cancel]
    exact List.take_length
theorem at0 {x : V} {xs : List V} : atI (x :: xs) 0 = some x := atI_nat (xs := x :: xs) (rfl : (x :: xs)[0]? = some x)
end Fv


namespace Fv
open PySem PySem.Spec PyProof.Rows L2 TL
/-- a text of these signs -/
def mk (l : List Nat) : Str := ⟨l.toArray⟩
theorem tl_mk (l : List Nat) : tl (mk l) = l := rfl
theorem mk_len (l : List Nat) : (mk l).length = l.length := by rw [len_tl, tl_mk]
theorem join_empty : ∀ l : List Nat, Txt.join "" (l.map fun c => (⟨#[c]⟩ : Str)) = mk l := fun l => by
  refine ext_tl ?_
  rw [join_eq, tl_join, List.map_map]
  have e : ∀ l : List Nat, joinL (tl "") (l.map (tl ∘ fun c => (⟨#[c]⟩ : Str))) = l := fun l => by
    induction l with
    | nil => rfl
    | cons c l ih =>
      cases l with
      | nil => rfl
      | cons c2 l =>
        show [c] ++ (tl "" ++ joinL (tl "") ((c2 :: l).map (tl ∘ fun c => (⟨#[c]⟩ : Str)))) = _
        rw [ih]
        rfl
  exact e l
theorem pos26 : (0 : Int) < 26 := by decide
theorem sum_ones : ∀ l : List Nat, ((l.map fun c => (⟨#[c]⟩ : Str)).map (·.length)).sum = l.length
  | [] => rfl
  | c :: l => by rw [List.map_cons, List.map_cons, List.sum_cons, sum_ones l, List.length_cons]; show 1 + _ = _; omega
end Fv


/-! spreading boards, by simple places (mathematics) -/
namespace FvO
/-- the board spreads -/
def SprB (n : Nat) (lo hi : Nat → Nat → Nat) : Prop := ∀ x, x < n → ∀ y, y < n → ∀ z, z < n → lo x (hi y z) = hi (lo x y) (lo x z)
/-- the other places below p are those below s -/
def SimB (n : Nat) (b : Nat → Nat → Bool) (p s : Nat) : Prop := s < n ∧ ∀ y, y < n → b y s = (b y p && decide (y ≠ p))
/-- the places that p is not below are those below t -/
def PriB (n : Nat) (b : Nat → Nat → Bool) (p t : Nat) : Prop := t < n ∧ ∀ z, z < n → b z t = !b p z
structure Lat (n : Nat) (b : Nat → Nat → Bool) (lo hi : Nat → Nat → Nat) (bt : Nat) : Prop where
  rf : ∀ x, x < n → b x x = true
  an : ∀ x y, x < n → y < n → b x y = true → b y x = true → x = y
  tr : ∀ x y z, x < n → y < n → z < n → b x y = true → b y z = true → b x z = true
  lo : ∀ x y, x < n → y < n → lo x y < n ∧ ∀ z, z < n → b z (lo x y) = (b z x && b z y)
  hi : ∀ x y, x < n → y < n → hi x y < n ∧ ∀ z, z < n → b (hi x y) z = (b x z && b y z)
  bt : bt < n ∧ ∀ z, z < n → b bt z = true
theorem countP_lt {α : Type} {p q : α → Bool} : ∀ {l : List α}, (∀ x ∈ l, p x = true → q x = true) → (∃ x ∈ l, q x = true ∧ p x = false) → l.countP p < l.countP q
  | [], _, ⟨_, h, _⟩ => nomatch h
  | a :: l, h, ⟨x, hx, h1, h2⟩ => by
    have le : l.countP p ≤ l.countP q := List.countP_mono_left fun y hy => h y (List.mem_cons_of_mem _ hy)
    rw [List.countP_cons, List.countP_cons]
    rcases List.mem_cons.mp hx with e | e
    · rw [← e, h1, h2]
      simp
      omega
    · have lt := countP_lt (l := l) (fun y hy => h y (List.mem_cons_of_mem _ hy)) ⟨x, e, h1, h2⟩
      cases c : p a with
      | true => rw [h a List.mem_cons_self c]; simp; omega
      | false => simp; omega
section
variable {n : Nat} {b : Nat → Nat → Bool} {lo hi : Nat → Nat → Nat} {bt : Nat}
theorem Lat.lo_l (B : Lat n b lo hi bt) {x y : Nat} (hx : x < n) (hy : y < n) : b (lo x y) x = true ∧ b (lo x y) y = true := by
  have z := (B.lo x y hx hy).2 _ (B.lo x y hx hy).1
  rw [B.rf _ (B.lo x y hx hy).1] at z
  exact Bool.and_eq_true_iff.mp z.symm
theorem Lat.hi_u (B : Lat n b lo hi bt) {x y : Nat} (hx : x < n) (hy : y < n) : b x (hi x y) = true ∧ b y (hi x y) = true := by
  have z := (B.hi x y hx hy).2 _ (B.hi x y hx hy).1
  rw [B.rf _ (B.hi x y hx hy).1] at z
  exact Bool.and_eq_true_iff.mp z.symm
theorem Lat.lo_in (B : Lat n b lo hi bt) {x y z : Nat} (hx : x < n) (hy : y < n) (hz : z < n) (h1 : b z x = true) (h2 : b z y = true) : b z (lo x y) = true := by rw [(B.lo x y hx hy).2 z hz, h1, h2]; rfl
theorem Lat.hi_in (B : Lat n b lo hi bt) {x y z : Nat} (hx : x < n) (hy : y < n) (hz : z < n) (h1 : b x z = true) (h2 : b y z = true) : b (hi x y) z = true := by rw [(B.hi x y hx hy).2 z hz, h1, h2]; rfl
/-- what is below p and not above it is below s -/
theorem SimB.low (B : Lat n b lo hi bt) {p s x : Nat} (hp : p < n) (h : SimB n b p s) (hx : x < n) (nx : b p x = false) : b (lo p x) s = true := by
  have l := (B.lo p x hp hx).1
  rw [h.2 _ l, (B.lo_l hp hx).1, Bool.true_and]
  refine decide_eq_true fun e => ?_
  have := (B.lo_l hp hx).2
  rw [e, nx] at this
  cases this
theorem SimB.self {p s : Nat} (hp : p < n) (h : SimB n b p s) : b p s = false := by rw [h.2 p hp]; simp
theorem pri_of (B : Lat n b lo hi bt) (S : SprB n lo hi) {p s : Nat} (hp : p < n) (h : SimB n b p s) : ∃ t, PriB n b p t := by
  have step : ∀ x y, x < n → y < n → b p x = false → b p y = false → b p (hi x y) = false := fun x y hx hy h1 h2 => by
    have hu := (B.hi x y hx hy).1
    refine Bool.eq_false_iff.mpr fun z => ?_
    have e : lo p (hi x y) = p := B.an _ _ (B.lo p _ hp hu).1 hp (B.lo_l hp hu).1 (B.lo_in hp hu hp (B.rf p hp) z)
    rw [S p hp x hx y hy] at e
    have l1 := (B.lo p x hp hx).1
    have l2 := (B.lo p y hp hy).1
    have := B.hi_in l1 l2 h.1 (h.low B hp hx h1) (h.low B hp hy h2)
    rw [e, h.self hp] at this
    cases this
  have fold : ∀ (l : List Nat) (x : Nat), x < n → b p x = false → (∀ z ∈ l, z < n ∧ b p z = false) → l.foldl hi x < n ∧ b p (l.foldl hi x) = false ∧ b x (l.foldl hi x) = true ∧ ∀ z ∈ l, b z (l.foldl hi x) = true := fun l => by
    induction l with
    | nil => intro x hx h1 _; exact ⟨hx, h1, B.rf x hx, fun z hz => nomatch hz⟩
    | cons a l ih =>
      intro x hx h1 hl
      obtain ⟨ha, ha2⟩ := hl a List.mem_cons_self
      have hu := (B.hi x a hx ha).1
      obtain ⟨i1, i2, i3, i4⟩ := ih (hi x a) hu (step x a hx ha h1 ha2) fun z hz => hl z (List.mem_cons_of_mem _ hz)
      rw [List.foldl_cons]
      refine ⟨i1, i2, B.tr _ _ _ hx hu i1 (B.hi_u hx ha).1 i3, fun z hz => ?_⟩
      rcases List.mem_cons.mp hz with e | e
      · rw [e]; exact B.tr _ _ _ ha hu i1 (B.hi_u hx ha).2 i3
      · exact i4 z e
  have nb : b p bt = false := by
    refine Bool.eq_false_iff.mpr fun z => ?_
    have e : p = bt := B.an _ _ hp B.bt.1 z (B.bt.2 p hp)
    have hs := h.2 s h.1
    rw [B.rf s h.1] at hs
    have h2 := Bool.and_eq_true_iff.mp hs.symm
    have es : s = p := B.an _ _ h.1 hp h2.1 (by rw [e]; exact B.bt.2 s h.1)
    rw [es] at h2
    simp at h2
  obtain ⟨f1, f2, _, f4⟩ := fold ((List.range n).filter fun z => !b p z) bt B.bt.1 nb fun z hz => by
    have := List.mem_filter.mp hz
    exact ⟨List.mem_range.mp this.1, by have := this.2; cases c : b p z with | false => rfl | true => rw [c] at this; cases this⟩
  refine ⟨_, f1, fun z hz => ?_⟩
  cases c : b p z with
  | false => exact f4 z (List.mem_filter.mpr ⟨List.mem_range.mpr hz, by rw [c]; rfl⟩)
  | true =>
    refine Bool.eq_false_iff.mpr fun k => ?_
    have := B.tr _ _ _ hp hz f1 c k
    rw [f2] at this
    cases this
/-- simple places suffice -/
theorem dens (B : Lat n b lo hi bt) {d : Nat} (hd : d < n) : ∀ (N a : Nat), (List.range n).countP (fun y => b y a) < N → a < n → (∀ p, p < n → (∃ s, SimB n b p s) → b p a = true → b p d = true) → b a d = true
  | 0, _, h, _, _ => absurd h (Nat.not_lt_zero _)
  | N + 1, a, h, ha, hs => by
    have below : ∀ c, c < n → b c a = true → c ≠ a → b c d = true := fun c hc h1 h2 => by
      refine dens B hd N c ?_ hc fun p hp hsp hpc => hs p hp hsp (B.tr _ _ _ hp hc ha hpc h1)
      have : (List.range n).countP (fun y => b y c) < (List.range n).countP (fun y => b y a) := by
        refine countP_lt (fun y hy h3 => B.tr _ _ _ (List.mem_range.mp hy) hc ha h3 h1) ⟨a, List.mem_range.mpr ha, B.rf a ha, ?_⟩
        exact Bool.eq_false_iff.mpr fun z => h2 (B.an _ _ hc ha h1 z)
      omega
    cases c : b a d with
    | true => rfl
    | false =>
      have l := (B.lo a d ha hd).1
      have sim : SimB n b a (lo a d) := ⟨l, fun y hy => by
        rw [(B.lo a d ha hd).2 y hy]
        by_cases e : y = a
        · subst e; rw [c]; simp
        · rw [decide_eq_true e, Bool.and_true]
          cases k : b y a with
          | false => rfl
          | true => rw [below y hy k e]; rfl⟩
      have := hs a ha ⟨_, sim⟩ (B.rf a ha)
      rw [c] at this
      cases this
theorem spr_of (B : Lat n b lo hi bt) (h : ∀ p, p < n → (∃ s, SimB n b p s) → ∃ t, PriB n b p t) : SprB n lo hi := fun x hx y hy z hz => by
  have hu := (B.hi y z hy hz).1
  have l1 := B.lo x y hx hy
  have l2 := B.lo x z hx hz
  have l := B.lo x _ hx hu
  have u := B.hi _ _ l1.1 l2.1
  refine B.an _ _ l.1 u.1 (dens B u.1 _ _ (Nat.lt_succ_self _) l.1 fun p hp hs ha => ?_) (B.hi_in l1.1 l2.1 l.1 (B.lo_in hx hu l1.1 (B.lo_l hx hy).1 ?_) (B.lo_in hx hu l2.1 (B.lo_l hx hz).1 ?_))
  · obtain ⟨t, ht, pt⟩ := h p hp hs
    rw [l.2 p hp] at ha
    obtain ⟨a1, a2⟩ := Bool.and_eq_true_iff.mp ha
    cases c1 : b p y with
    | true => exact B.tr _ _ _ hp l1.1 u.1 (B.lo_in hx hy hp a1 c1) (B.hi_u l1.1 l2.1).1
    | false =>
      cases c2 : b p z with
      | true => exact B.tr _ _ _ hp l2.1 u.1 (B.lo_in hx hz hp a1 c2) (B.hi_u l1.1 l2.1).2
      | false =>
        have k := B.hi_in hy hz ht (by rw [pt y hy, c1]; rfl) (by rw [pt z hz, c2]; rfl)
        rw [pt _ hu, a2] at k
        cases k
  · exact B.tr _ _ _ l1.1 hy hu (B.lo_l hx hy).2 (B.hi_u hy hz).1
  · exact B.tr _ _ _ l2.1 hz hu (B.lo_l hx hz).2 (B.hi_u hy hz).2
theorem spr_iff (B : Lat n b lo hi bt) : SprB n lo hi ↔ ∀ p, p < n → (∃ s, SimB n b p s) → ∃ t, PriB n b p t :=
  ⟨fun S p hp ⟨s, hs⟩ => pri_of B S hp hs, spr_of B⟩
end
end FvO


/-! faults of boards (mathematics): a board without ladders and fans above its covers spreads -/
namespace FvO
/-- z stands right above x -/
def Cov (n : Nat) (b : Nat → Nat → Bool) (x z : Nat) : Prop := b x z = true ∧ x ≠ z ∧ ∀ y, y < n → b x y = true → b y z = true → y = x ∨ y = z
/-- two places right above one have an up right above them -/
def UpC (n : Nat) (b : Nat → Nat → Bool) (hi : Nat → Nat → Nat) : Prop := ∀ o x z, o < n → x < n → z < n → Cov n b o x → Cov n b o z → x ≠ z → Cov n b x (hi x z)
/-- no three places right above one, with a third below the up of two -/
def NoFan (n : Nat) (b : Nat → Nat → Bool) (hi : Nat → Nat → Nat) : Prop := ∀ o x y z, o < n → x < n → y < n → z < n → Cov n b o x → Cov n b o y → Cov n b o z → x ≠ y → z ≠ x → z ≠ y → b z (hi x y) = false
section
variable {n : Nat} {b : Nat → Nat → Bool} {lo hi : Nat → Nat → Nat} {bt tp : Nat}
/-- how many places stand above -/
def upN (n : Nat) (b : Nat → Nat → Bool) (x : Nat) : Nat := (List.range n).countP fun y => b x y
theorem upN_lt (B : Lat n b lo hi bt) {x y : Nat} (hx : x < n) (hy : y < n) (h : b x y = true) (ne : x ≠ y) : upN n b y < upN n b x := by
  refine countP_lt (fun z hz h' => B.tr _ _ _ hx hy (List.mem_range.mp hz) h h') ⟨x, List.mem_range.mpr hx, B.rf x hx, ?_⟩
  refine Bool.eq_false_iff.mpr fun h' => ne (B.an _ _ hx hy h h')
/-- between two places the first step -/
theorem cov_ex (B : Lat n b lo hi bt) : ∀ (k : Nat) (x z : Nat), x < n → z < n → b x z = true → x ≠ z → upN n b x ≤ k + upN n b z → ∃ y, y < n ∧ Cov n b x y ∧ b y z = true
  | 0, x, z, hx, hz, h, ne, hk => by
    have := upN_lt B hx hz h ne
    omega
  | k + 1, x, z, hx, hz, h, ne, hk => by
    by_cases c : ∃ y, y < n ∧ b x y = true ∧ b y z = true ∧ y ≠ x ∧ y ≠ z
    · obtain ⟨y, hy, h1, h2, n1, n2⟩ := c
      have l1 := upN_lt B hy hz h2 n2
      have l2 := upN_lt B hx hy h1 (Ne.symm n1)
      obtain ⟨w, hw, cw, bw⟩ := cov_ex B k x y hx hy h1 (Ne.symm n1) (by omega)
      exact ⟨w, hw, cw, B.tr _ _ _ hw hy hz bw h2⟩
    · refine ⟨z, hz, ⟨h, ne, fun y hy h1 h2 => ?_⟩, B.rf z hz⟩
      by_cases e1 : y = x
      · exact .inl e1
      · by_cases e2 : y = z
        · exact .inr e2
        · exact absurd ⟨y, hy, h1, h2, e1, e2⟩ c
theorem cov_up (B : Lat n b lo hi bt) {x z : Nat} (hx : x < n) (hz : z < n) (h : b x z = true) (ne : x ≠ z) : ∃ y, y < n ∧ Cov n b x y ∧ b y z = true := cov_ex B (upN n b x) x z hx hz h ne (by omega)
/-- the board turned over -/
structure Two (n : Nat) (b : Nat → Nat → Bool) (lo hi : Nat → Nat → Nat) (bt tp : Nat) : Prop where
  u : Lat n b lo hi bt
  d : Lat n (fun x y => b y x) hi lo tp
theorem Cov.dual {x z : Nat} (h : Cov n (fun x y => b y x) x z) : Cov n b z x := ⟨h.1, Ne.symm h.2.1, fun y hy h1 h2 => (h.2.2 y hy h2 h1).symm⟩
theorem Cov.turn {x z : Nat} (h : Cov n b z x) : Cov n (fun x y => b y x) x z := ⟨h.1, Ne.symm h.2.1, fun y hy h1 h2 => (h.2.2 y hy h2 h1).symm⟩
theorem cov_dn (T : Two n b lo hi bt tp) {x z : Nat} (hx : x < n) (hz : z < n) (h : b x z = true) (ne : x ≠ z) : ∃ y, y < n ∧ Cov n b y z ∧ b x y = true := by
  obtain ⟨y, hy, c, h'⟩ := cov_up T.d hz hx h (Ne.symm ne)
  exact ⟨y, hy, c.dual, h'⟩
/-- the low of two places right above one -/
theorem cov_lo (B : Lat n b lo hi bt) {o x z : Nat} (ho : o < n) (hx : x < n) (hz : z < n) (c1 : Cov n b o x) (c2 : Cov n b o z) (ne : x ≠ z) : lo x z = o := by
  have l := (B.lo x z hx hz).1
  have g := B.lo_in hx hz ho c1.1 c2.1
  have u := B.lo_l hx hz
  rcases c1.2.2 _ l g u.1 with e | e
  · exact e
  · rcases c2.2.2 _ l g u.2 with e2 | e2
    · exact e2
    · exact absurd (e.symm.trans e2) ne
/-- the low right below two places, from the rule turned over -/
def DnC (n : Nat) (b : Nat → Nat → Bool) (lo : Nat → Nat → Nat) : Prop := ∀ i x z, i < n → x < n → z < n → Cov n b x i → Cov n b z i → x ≠ z → Cov n b (lo x z) x
theorem dnC_of (h : UpC n (fun x y => b y x) lo) : DnC n b lo := fun i x z hi' hx hz c1 c2 ne => (h i x z hi' hx hz c1.turn c2.turn ne).dual
theorem lo_comm (B : Lat n b lo hi bt) {x z : Nat} (hx : x < n) (hz : z < n) : lo x z = lo z x := by
  have a := (B.lo x z hx hz).1
  have c := (B.lo z x hz hx).1
  exact B.an _ _ a c (B.lo_in hz hx a (B.lo_l hx hz).2 (B.lo_l hx hz).1) (B.lo_in hx hz c (B.lo_l hz hx).2 (B.lo_l hz hx).1)
theorem hi_comm (B : Lat n b lo hi bt) {x z : Nat} (hx : x < n) (hz : z < n) : hi x z = hi z x := by
  have a := (B.hi x z hx hz).1
  have c := (B.hi z x hz hx).1
  exact B.an _ _ a c (B.hi_in hx hz c (B.hi_u hz hx).2 (B.hi_u hz hx).1) (B.hi_in hz hx a (B.hi_u hx hz).2 (B.hi_u hx hz).1)
/-- two places right below one have it as their up -/
theorem cov_hi (T : Two n b lo hi bt tp) {i x z : Nat} (h : i < n) (hx : x < n) (hz : z < n) (c1 : Cov n b x i) (c2 : Cov n b z i) (ne : x ≠ z) : hi x z = i := cov_lo T.d h hx hz c1.turn c2.turn ne
/-- two places right below i, none of them above p: then p does not stand below i -/
theorem no_desc (T : Two n b lo hi bt tp) (D : DnC n b lo) (N : NoFan n b hi) {p s : Nat} (hp : p < n) (hs : SimB n b p s) : ∀ (k i x y : Nat), i < n → x < n → y < n → upN n b i + k ≥ n + 1 → Cov n b x i → Cov n b y i → x ≠ y → b p x = false → b p y = false → b p i = false
  | 0, i, x, y, hi', hx, hy, hk, c1, c2, ne, nx, ny => by
    have : upN n b i ≤ n := by
      have := List.countP_le_length (p := fun y => b i y) (l := List.range n)
      rw [List.length_range] at this
      exact this
    omega
  | k + 1, i, x, y, hi', hx, hy, hk, c1, c2, ne, nx, ny => by
    have B := T.u
    refine Bool.eq_false_iff.mpr fun hpi => ?_
    -- p is not i
    have pi : p ≠ i := fun e => by
      have bx : b x s = true := by rw [hs.2 x hx, e, c1.1, decide_eq_true (show x ≠ i from fun z => c1.2.1 z)]; rfl
      have by' : b y s = true := by rw [hs.2 y hy, e, c2.1, decide_eq_true (show y ≠ i from fun z => c2.2.1 z)]; rfl
      have h1 := B.hi_in hx hy hs.1 bx by'
      rw [cov_hi T hi' hx hy c1 c2 ne, ← e, hs.self hp] at h1
      cases h1
    obtain ⟨w, hw, cw, pw⟩ := cov_dn T hp hi' hpi pi
    have wx : x ≠ w := fun e => by rw [e, pw] at nx; cases nx
    have wy : y ≠ w := fun e => by rw [e, pw] at ny; cases ny
    have o_lt := (B.lo x y hx hy).1
    have cox := D i x y hi' hx hy c1 c2 ne
    have coy : Cov n b (lo x y) y := by rw [lo_comm B hx hy]; exact D i y x hi' hy hx c2 c1 (Ne.symm ne)
    have a1 := D i x w hi' hx hw c1 cw wx
    have a2 := D i w x hi' hw hx cw c1 (Ne.symm wx)
    have b2 := D i w y hi' hw hy cw c2 (Ne.symm wy)
    -- w is not above o
    have now : b (lo x y) w = false := by
      refine Bool.eq_false_iff.mpr fun h => ?_
      have l := (B.lo x w hx hw).1
      have g := B.lo_in hx hw o_lt (B.lo_l hx hy).1 h
      have e : lo x w = lo x y := by
        rcases cox.2.2 _ l g (B.lo_l hx hw).1 with e | e
        · exact e
        · exact absurd e a1.2.1
      have cow : Cov n b (lo x y) w := by rw [← e, lo_comm B hx hw]; exact a2
      have := N _ x y w o_lt hx hy hw cox coy cow ne (Ne.symm wx) (Ne.symm wy)
      rw [cov_hi T hi' hx hy c1 c2 ne, cw.1] at this
      cases this
    have l1 := (B.lo w x hw hx).1
    have l2 := (B.lo w y hw hy).1
    refine absurd pw (Bool.eq_false_iff.mp (no_desc T D N hp hs k w (lo w x) (lo w y) hw l1 l2 ?_ a2 b2 ?_ ?_ ?_))
    · have := upN_lt B hw hi' cw.1 cw.2.1
      omega
    · intro e
      have h1 : b (lo w x) (lo x y) = true := B.lo_in hx hy l1 (B.lo_l hw hx).2 (by rw [e]; exact (B.lo_l hw hy).2)
      have a1' : Cov n b (lo w x) x := by rw [lo_comm B hw hx]; exact a1
      rcases a1'.2.2 _ o_lt h1 (B.lo_l hx hy).1 with e2 | e2
      · rw [e2, (B.lo_l hw hx).1] at now; cases now
      · exact cox.2.1 e2
    · exact Bool.eq_false_iff.mpr fun h => by
        rw [B.tr _ _ _ hp l1 hx h (B.lo_l hw hx).2] at nx; cases nx
    · exact Bool.eq_false_iff.mpr fun h => by
        rw [B.tr _ _ _ hp l2 hy h (B.lo_l hw hy).2] at ny; cases ny
/-- a simple place that is below neither of two is not below their up -/
theorem sim_pri (T : Two n b lo hi bt tp) (U : UpC n b hi) (D : DnC n b lo) (N : NoFan n b hi) {p s : Nat} (hp : p < n) (hs : SimB n b p s) : ∀ (k o x y : Nat), o < n → x < n → y < n → upN n b o ≤ k → b o x = true → b o y = true → b p x = false → b p y = false → b p (hi x y) = false
  | 0, o, x, y, ho, hx, hy, hk, h1, h2, nx, ny => by
    have : 0 < upN n b o := List.countP_pos_iff.mpr ⟨o, List.mem_range.mpr ho, T.u.rf o ho⟩
    omega
  | k + 1, o, x, y, ho, hx, hy, hk, h1, h2, nx, ny => by
    have B := T.u
    have hu := (B.hi x y hx hy).1
    by_cases ex : o = x
    · have e : hi x y = y := B.an _ _ hu hy (B.hi_in hx hy hy (ex ▸ h2) (B.rf y hy)) (B.hi_u hx hy).2
      rw [e]; exact ny
    by_cases ey : o = y
    · have e : hi x y = x := B.an _ _ hu hx (B.hi_in hx hy hx (B.rf x hx) (ey ▸ h1)) (B.hi_u hx hy).1
      rw [e]; exact nx
    obtain ⟨x', hx', cx, bx⟩ := cov_up B ho hx h1 ex
    obtain ⟨y', hy', cy, by'⟩ := cov_up B ho hy h2 ey
    have lx := upN_lt B ho hx' cx.1 cx.2.1
    have ly := upN_lt B ho hy' cy.1 cy.2.1
    by_cases e : x' = y'
    · exact sim_pri T U D N hp hs k x' x y hx' hx hy (by omega) bx (e ▸ by') nx ny
    have nx' : b p x' = false := Bool.eq_false_iff.mpr fun h => by rw [B.tr _ _ _ hp hx' hx h bx] at nx; cases nx
    have ny' : b p y' = false := Bool.eq_false_iff.mpr fun h => by rw [B.tr _ _ _ hp hy' hy h by'] at ny; cases ny
    have u1 := (B.hi x' y' hx' hy').1
    -- the small up
    have c1 := U o x' y' ho hx' hy' cx cy e
    have c2 : Cov n b y' (hi x' y') := by rw [hi_comm B hx' hy']; exact U o y' x' ho hy' hx' cy cx (Ne.symm e)
    have m1 : b p (hi x' y') = false := no_desc T D N hp hs (n + 1) _ x' y' u1 hx' hy' (by omega) c1 c2 e nx' ny'
    -- with x
    have m2 : b p (hi x (hi x' y')) = false := sim_pri T U D N hp hs k x' x (hi x' y') hx' hx u1 (by omega) bx (B.hi_u hx' hy').1 nx m1
    have u2 := (B.hi x _ hx u1).1
    have yb : b y' (hi x (hi x' y')) = true := B.tr _ _ _ hy' u1 u2 (B.hi_u hx' hy').2 (B.hi_u hx u1).2
    have m3 := sim_pri T U D N hp hs k y' (hi x (hi x' y')) y hy' u2 hy (by omega) yb by' m2 ny
    have u3 := (B.hi _ _ u2 hy).1
    refine Bool.eq_false_iff.mpr fun h => ?_
    have g : b (hi x y) (hi (hi x (hi x' y')) y) = true := B.hi_in hx hy u3 (B.tr _ _ _ hx u2 u3 (B.hi_u hx u1).1 (B.hi_u u2 hy).1) (B.hi_u u2 hy).2
    rw [B.tr _ _ _ hp hu u3 h g] at m3
    cases m3
/-- the greatest of the places that a simple place is not below -/
theorem pri_ex (T : Two n b lo hi bt tp) (U : UpC n b hi) (D : DnC n b lo) (N : NoFan n b hi) {p s : Nat} (hp : p < n) (hs : SimB n b p s) : ∃ t, PriB n b p t := by
  have B := T.u
  have step : ∀ x y, x < n → y < n → b p x = false → b p y = false → b p (hi x y) = false := fun x y hx hy h1 h2 =>
    sim_pri T U D N hp hs (upN n b bt) bt x y B.bt.1 hx hy (Nat.le_refl _) (B.bt.2 x hx) (B.bt.2 y hy) h1 h2
  have pb : b p bt = false := by
    refine Bool.eq_false_iff.mpr fun h => ?_
    have e : p = bt := B.an _ _ hp B.bt.1 h (B.bt.2 p hp)
    have : b bt s = true := B.bt.2 s hs.1
    rw [hs.2 bt B.bt.1, ← e] at this
    simp at this
  have all : ∀ l : List Nat, (∀ x ∈ l, x < n) → ∃ t, t < n ∧ b p t = false ∧ ∀ x ∈ l, b p x = false → b x t = true := fun l => by
    induction l with
    | nil => exact fun _ => ⟨bt, B.bt.1, pb, fun _ h => nomatch h⟩
    | cons x l ih =>
      intro hl
      obtain ⟨t, ht, h1, h2⟩ := ih fun y hy => hl y (List.mem_cons_of_mem _ hy)
      have hx := hl x List.mem_cons_self
      cases c : b p x with
      | true =>
        refine ⟨t, ht, h1, fun y hy h => ?_⟩
        rcases List.mem_cons.mp hy with e | e
        · rw [e, c] at h; cases h
        · exact h2 y e h
      | false =>
        refine ⟨hi x t, (B.hi x t hx ht).1, step x t hx ht c h1, fun y hy h => ?_⟩
        rcases List.mem_cons.mp hy with e | e
        · rw [e]; exact (B.hi_u hx ht).1
        · exact B.tr _ _ _ (hl y hy) ht (B.hi x t hx ht).1 (h2 y e h) (B.hi_u hx ht).2
  obtain ⟨t, ht, h1, h2⟩ := all (List.range n) fun x hx => List.mem_range.mp hx
  refine ⟨t, ht, fun z hz => ?_⟩
  cases c : b p z with
  | false => exact h2 z (List.mem_range.mpr hz) c
  | true =>
    refine Bool.eq_false_iff.mpr fun h => ?_
    rw [B.tr _ _ _ hp hz ht c h] at h1
    cases h1
/-- no ladder, none on the board turned over, no fan: the board spreads -/
theorem spr_of_none (T : Two n b lo hi bt tp) (U : UpC n b hi) (V : UpC n (fun x y => b y x) lo) (N : NoFan n b hi) : SprB n lo hi :=
  (spr_iff T.u).mpr fun _ hp ⟨_, hs⟩ => pri_ex T U (dnC_of V) N hp hs
/-! ### ladders -/
def LadB (n : Nat) (b : Nat → Nat → Bool) (lo hi : Nat → Nat → Nat) (x y z : Nat) : Prop := x < n ∧ y < n ∧ z < n ∧ b x y = true ∧ x ≠ y ∧ lo x z = lo y z ∧ hi x z = hi y z
/-- a step up is kept by an up -/
theorem semi (B : Lat n b lo hi bt) (U : UpC n b hi) : ∀ (k o x z : Nat), o < n → x < n → z < n → upN n b o ≤ k → b o x = true → Cov n b o z → b z x = false → Cov n b x (hi x z)
  | 0, o, x, z, ho, hx, hz, hk, h, c, nz => by
    have : 0 < upN n b o := List.countP_pos_iff.mpr ⟨o, List.mem_range.mpr ho, B.rf o ho⟩
    omega
  | k + 1, o, x, z, ho, hx, hz, hk, h, c, nz => by
    by_cases e : o = x
    · subst e
      have : hi o z = z := B.an _ _ (B.hi o z ho hz).1 hz (B.hi_in ho hz hz c.1 (B.rf z hz)) (B.hi_u ho hz).2
      rw [this]; exact c
    obtain ⟨x', hx', cx, bx⟩ := cov_up B ho hx h e
    have ne : x' ≠ z := fun e' => by rw [← e', bx] at nz; cases nz
    have c2 := U o x' z ho hx' hz cx c ne
    have u := (B.hi x' z hx' hz).1
    have r := semi B U k x' x (hi x' z) hx' hx u (by have := upN_lt B ho hx' cx.1 cx.2.1; omega) bx c2 (Bool.eq_false_iff.mpr fun h' => by rw [B.tr _ _ _ hz u hx (B.hi_u hx' hz).2 h'] at nz; cases nz)
    have e2 : hi x (hi x' z) = hi x z := by
      have a := (B.hi x _ hx u).1
      have c' := (B.hi x z hx hz).1
      exact B.an _ _ a c' (B.hi_in hx u c' (B.hi_u hx hz).1 (B.hi_in hx' hz c' (B.tr _ _ _ hx' hx c' bx (B.hi_u hx hz).1) (B.hi_u hx hz).2)) (B.hi_in hx hz a (B.hi_u hx u).1 (B.tr _ _ _ hz u a (B.hi_u hx' hz).2 (B.hi_u hx u).2))
    rw [← e2]
    exact r
theorem no_lad (T : Two n b lo hi bt tp) (U : UpC n b hi) (V : UpC n (fun x y => b y x) lo) : ∀ (k x y z : Nat), upN n b (lo x z) ≤ k → ¬ LadB n b lo hi x y z
  | 0, x, y, z, hk, ⟨hx, hy, hz, _⟩ => by
    have ho := (T.u.lo x z hx hz).1
    have : 0 < upN n b (lo x z) := List.countP_pos_iff.mpr ⟨_, List.mem_range.mpr ho, T.u.rf _ ho⟩
    omega
  | k + 1, x, y, z, hk, ⟨hx, hy, hz, hxy, ne, el, eh⟩ => by
    have B := T.u
    have ho := (B.lo x z hx hz).1
    have oz := (B.lo_l hx hz).2
    have ox := (B.lo_l hx hz).1
    have oy : b (lo x z) y = true := by rw [el]; exact (B.lo_l hy hz).1
    -- z is not o
    have nz : lo x z ≠ z := fun e => by
      have zx : b z x = true := by rw [← e]; exact ox
      have zy : b z y = true := by rw [← e]; exact oy
      have e1 : hi x z = x := B.an _ _ (B.hi x z hx hz).1 hx (B.hi_in hx hz hx (B.rf x hx) zx) (B.hi_u hx hz).1
      have e2 : hi y z = y := B.an _ _ (B.hi y z hy hz).1 hy (B.hi_in hy hz hy (B.rf y hy) zy) (B.hi_u hy hz).1
      exact ne (e1.symm.trans (eh.trans e2))
    obtain ⟨z1, hz1, cz, bz⟩ := cov_up B ho hz oz nz
    have nx : b z1 x = false := Bool.eq_false_iff.mpr fun h => cz.2.1 (B.an _ _ ho hz1 cz.1 (B.lo_in hx hz hz1 h bz))
    have ny : b z1 y = false := Bool.eq_false_iff.mpr fun h => cz.2.1 (B.an _ _ ho hz1 cz.1 (by rw [el]; exact B.lo_in hy hz hz1 h bz))
    have cx := semi B U _ _ x z1 ho hx hz1 (Nat.le_refl _) ox cz nx
    have cy := semi B U _ _ y z1 ho hy hz1 (Nat.le_refl _) oy cz ny
    have ux := (B.hi x z1 hx hz1).1
    have uy := (B.hi y z1 hy hz1).1
    have wl := (B.lo _ z uy hz).1
    -- the new low is z1
    have gz : b z1 (lo (hi y z1) z) = true := B.lo_in uy hz hz1 (B.hi_u hy hz1).2 bz
    have eu : hi y (lo (hi y z1) z) = hi y z1 := by
      have a := (B.hi y _ hy wl).1
      exact B.an _ _ a uy (B.hi_in hy wl uy (B.hi_u hy hz1).1 (B.lo_l uy hz).1) (B.hi_in hy hz1 a (B.hi_u hy wl).1 (B.tr _ _ _ hz1 wl a gz (B.hi_u hy wl).2))
    have em : lo y (lo (hi y z1) z) = lo x z := by
      have a := (B.lo y _ hy wl).1
      refine B.an _ _ a ho ?_ ?_
      · rw [el]
        exact B.lo_in hy hz a (B.lo_l hy wl).1 (B.tr _ _ _ a wl hz (B.lo_l hy wl).2 (B.lo_l uy hz).2)
      · exact B.lo_in hy wl ho oy (B.tr _ _ _ ho hz1 wl cz.1 gz)
    have cw : Cov n b (lo x z) (lo (hi y z1) z) := by
      have nw : b (lo (hi y z1) z) y = false := Bool.eq_false_iff.mpr fun h => by
        rw [B.tr _ _ _ hz1 wl hy gz h] at ny; cases ny
      have r := (semi T.d V _ (hi y z1) (lo (hi y z1) z) y uy wl hy (Nat.le_refl _) (B.lo_l uy hz).1 cy.turn nw).dual
      rw [lo_comm B wl hy, em] at r
      exact r
    have ez : lo (hi y z1) z = z1 := (cw.2.2 z1 hz1 cz.1 gz).elim (fun e => absurd e.symm cz.2.1) fun e => e.symm
    have ex : lo (hi x z1) z = z1 := by
      have a := (B.lo _ z ux hz).1
      refine B.an _ _ a hz1 ?_ (B.lo_in ux hz hz1 (B.hi_u hx hz1).2 bz)
      have g : b (lo (hi x z1) z) (lo (hi y z1) z) = true := B.lo_in uy hz a (B.tr _ _ _ a ux uy (B.lo_l ux hz).1 (B.hi_in hx hz1 uy (B.tr _ _ _ hx hy uy hxy (B.hi_u hy hz1).1) (B.hi_u hy hz1).2)) (B.lo_l ux hz).2
      rw [ez] at g
      exact g
    refine no_lad T U V k (hi x z1) (hi y z1) z (by rw [ex]; have := upN_lt B ho hz1 cz.1 cz.2.1; omega) ⟨ux, uy, hz, B.hi_in hx hz1 uy (B.tr _ _ _ hx hy uy hxy (B.hi_u hy hz1).1) (B.hi_u hy hz1).2, fun e => ?_, ex.trans ez.symm, ?_⟩
    · have h := cx.2.2 y hy hxy (by rw [e]; exact (B.hi_u hy hz1).1)
      rcases h with h | h
      · exact ne h.symm
      · rw [h, (B.hi_u hx hz1).2] at ny; cases ny
    · have k1 : ∀ w, w < n → hi (hi w z1) z = hi w z := fun w hw => by
        have u1 := (B.hi w z1 hw hz1).1
        have a := (B.hi _ z u1 hz).1
        have c := (B.hi w z hw hz).1
        exact B.an _ _ a c (B.hi_in u1 hz c (B.hi_in hw hz1 c (B.hi_u hw hz).1 (B.tr _ _ _ hz1 hz c bz (B.hi_u hw hz).2)) (B.hi_u hw hz).2) (B.hi_in hw hz a (B.tr _ _ _ hw u1 a (B.hi_u hw hz1).1 (B.hi_u u1 hz).1) (B.hi_u u1 hz).2)
      rw [k1 x hx, k1 y hy, eh]
/-- without ladders above covers there is no ladder at all -/
theorem none_lad (T : Two n b lo hi bt tp) (U : UpC n b hi) (V : UpC n (fun x y => b y x) lo) (x y z : Nat) : ¬ LadB n b lo hi x y z := no_lad T U V _ x y z (Nat.le_refl _)
/-- where an up is not right above, there is a ladder -/
theorem lad_of (T : Two n b lo hi bt tp) {o x z y : Nat} (ho : o < n) (hx : x < n) (hz : z < n) (hy : y < n) (cx : Cov n b o x) (cz : Cov n b o z) (ne : x ≠ z) (h1 : b x y = true) (h2 : b y (hi x z) = true) (n1 : y ≠ x) (n2 : y ≠ hi x z) :
    lo x z = o ∧ lo y z = o ∧ hi y z = hi x z ∧ [o, x, y, z, hi x z].Nodup := by
  have B := T.u
  have hu := (B.hi x z hx hz).1
  have e1 := cov_lo B ho hx hz cx cz ne
  have nzy : b z y = false := Bool.eq_false_iff.mpr fun h => n2 (B.an _ _ hy hu h2 (B.hi_in hx hz hy h1 h))
  have l2 := (B.lo y z hy hz).1
  have oy : b o y = true := B.tr _ _ _ ho hx hy cx.1 h1
  have e2 : lo y z = o := (cz.2.2 _ l2 (B.lo_in hy hz ho oy cz.1) (B.lo_l hy hz).2).elim id fun e => by
    have := (B.lo_l hy hz).1
    rw [e, nzy] at this; cases this
  have e3 : hi y z = hi x z := by
    have a := (B.hi y z hy hz).1
    exact B.an _ _ a hu (B.hi_in hy hz hu h2 (B.hi_u hx hz).2) (B.hi_in hx hz a (B.tr _ _ _ hx hy a h1 (B.hi_u hy hz).1) (B.hi_u hy hz).2)
  refine ⟨e1, e2, e3, ?_⟩
  have oi : o ≠ hi x z := fun e => cx.2.1 (B.an _ _ ho hx cx.1 (by rw [e]; exact (B.hi_u hx hz).1))
  have oy' : o ≠ y := fun e => by rw [← e] at h1; exact cx.2.1 (B.an _ _ ho hx cx.1 h1)
  have xi : x ≠ hi x z := fun e => by rw [← e] at h2; exact n1 (B.an _ _ hy hx h2 h1)
  have yz : y ≠ z := fun e => by rw [← e, B.rf y hy] at nzy; cases nzy
  have zi : z ≠ hi x z := fun e => by
    rcases cz.2.2 x hx cx.1 (by rw [e]; exact (B.hi_u hx hz).1) with h | h
    · exact cx.2.1 h.symm
    · exact ne h
  simp only [List.nodup_cons, List.mem_cons, List.not_mem_nil, or_false, not_or, List.nodup_nil, not_false_eq_true, and_true]
  exact ⟨⟨cx.2.1, oy', cz.2.1, oi⟩, ⟨Ne.symm n1, ne, xi⟩, ⟨yz, n2⟩, zi⟩
/-- three places right above one, a third below the up of two: a fan -/
theorem fan_of (T : Two n b lo hi bt tp) (U : UpC n b hi) {o x y z : Nat} (ho : o < n) (hx : x < n) (hy : y < n) (hz : z < n) (cx : Cov n b o x) (cy : Cov n b o y) (cz : Cov n b o z) (n1 : x ≠ y) (n2 : z ≠ x) (n3 : z ≠ y) (h : b z (hi x y) = true) :
    lo x y = o ∧ lo x z = o ∧ lo y z = o ∧ hi x z = hi x y ∧ hi y z = hi x y ∧ [o, x, y, z, hi x y].Nodup := by
  have B := T.u
  have hu := (B.hi x y hx hy).1
  have c1 := U o x y ho hx hy cx cy n1
  have c2 : Cov n b y (hi x y) := by rw [hi_comm B hx hy]; exact U o y x ho hy hx cy cx (Ne.symm n1)
  have up : ∀ w, w < n → Cov n b o w → Cov n b w (hi x y) → z ≠ w → hi w z = hi x y := fun w hw co cw ne => by
    have a := (B.hi w z hw hz).1
    rcases cw.2.2 _ a (B.hi_u hw hz).1 (B.hi_in hw hz hu cw.1 h) with e | e
    · have zw := (B.hi_u hw hz).2
      rw [e] at zw
      rcases co.2.2 z hz cz.1 zw with e2 | e2
      · exact absurd e2.symm cz.2.1
      · exact absurd e2 ne
    · exact e
  refine ⟨cov_lo B ho hx hy cx cy n1, cov_lo B ho hx hz cx cz (Ne.symm n2), cov_lo B ho hy hz cy cz (Ne.symm n3), up x hx cx c1 n2, up y hy cy c2 n3, ?_⟩
  have oi : o ≠ hi x y := fun e => cx.2.1 (B.an _ _ ho hx cx.1 (by rw [e]; exact (B.hi_u hx hy).1))
  have zi : z ≠ hi x y := fun e => by
    rcases cz.2.2 x hx cx.1 (by rw [e]; exact (B.hi_u hx hy).1) with h | h
    · exact cx.2.1 h.symm
    · exact n2 h.symm
  simp only [List.nodup_cons, List.mem_cons, List.not_mem_nil, or_false, not_or, List.nodup_nil, not_false_eq_true, and_true]
  exact ⟨⟨cx.2.1, cy.2.1, cz.2.1, oi⟩, ⟨n1, Ne.symm n2, c1.2.1⟩, ⟨Ne.symm n3, c2.2.1⟩, zi⟩
end
end FvO


namespace FvO
open PySem PySem.Spec PyProof.Rows L2
/-! ### int(t, 2) -/
section
open PySem.NumText PySem.Calls L2.Hx
def IsBin (c : Nat) : Prop := c = 48 ∨ c = 49
def binNum (l : List Nat) : Nat := l.foldl (fun a c => a * 2 + (c - 48)) 0
theorem digit_bin {c : Nat} (h : IsBin c) : digit? c = some (c - 48) := by
  unfold IsBin at h
  unfold digit?
  rw [if_pos (bb (show 48 ≤ c by omega) (show c ≤ 57 by omega))]
theorem step_bin {ds : Array Nat} {b : Bool} {c : Nat} (h : IsBin c) : PySem.NumText.step 2 (ds, b) c = some (ds.push (c - 48), true) := by
  have hr : c ≠ 95 := by unfold IsBin at h; omega
  unfold PySem.NumText.step
  rw [if_neg (by rw [beq_iff_eq]; exact hr), digit_bin h]
  exact if_pos (show c - 48 < 2 by unfold IsBin at h; omega)
theorem foldl_bin : ∀ (cs : List Nat) (ds : Array Nat), (∀ c ∈ cs, IsBin c) → cs.foldlM (PySem.NumText.step 2) (ds, true) = some (cs.foldl (fun acc c => acc.push (c - 48)) ds, true)
  | [], _, _ => rfl
  | c :: cs, ds, h => by
    rw [List.foldlM_cons, step_bin (h c (List.mem_cons_self ..))]
    show cs.foldlM (PySem.NumText.step 2) (ds.push (c - 48), true) = _
    exact foldl_bin cs (ds.push (c - 48)) fun d hd => h d (List.mem_cons_of_mem _ hd)
theorem digits_bin {cs : List Nat} (h : ∀ c ∈ cs, IsBin c) (hne : cs ≠ []) : digits? 2 cs = some (cs.foldl (fun acc c => acc.push (c - 48)) #[]) := by
  cases cs with
  | nil => exact absurd rfl hne
  | cons c cs =>
    unfold digits?
    rw [List.foldlM_cons, step_bin (h c (List.mem_cons_self ..))]
    show (cs.foldlM (PySem.NumText.step 2) ((#[] : Array Nat).push (c - 48), true)).bind _ = _
    rw [foldl_bin cs _ fun d hd => h d (List.mem_cons_of_mem _ hd)]
    rfl
theorem push_bin : ∀ (cs : List Nat) (ds : Array Nat), (cs.foldl (fun acc c => acc.push (c - 48)) ds).foldl (fun acc d => acc * 2 + d) 0 = cs.foldl (fun a c => a * 2 + (c - 48)) (ds.foldl (fun acc d => acc * 2 + d) 0)
  | [], _ => rfl
  | c :: cs, ds => by
    rw [List.foldl_cons, push_bin cs (ds.push (c - 48)), List.foldl_cons]
    congr 1
    simp
theorem bin_hex {c : Nat} (h : IsBin c) : IsHex c := .inl (by unfold IsBin at h; omega)
theorem prefB {cs : List Nat} (h : ∀ c ∈ cs, IsBin c) : PySem.NumText.prefix? cs = none := by
  match cs, h with
  | [], _ => rfl
  | [a], _ =>
    unfold PySem.NumText.prefix?
    split
    · rename_i e; cases e
    · rfl
  | a :: c :: r, h =>
    have hc := h c (List.mem_cons_of_mem _ (List.mem_cons_self ..))
    unfold IsBin at hc
    by_cases ha : a = 48
    · subst ha
      have e : PySem.NumText.prefix? (48 :: c :: r) = if (c == 120 || c == 88) = true then some 16 else if (c == 111 || c == 79) = true then some 8 else if (c == 98 || c == 66) = true then some 2 else none := rfl
      rw [e, if_neg (by rw [Bool.or_eq_true, beq_iff_eq, beq_iff_eq]; omega), if_neg (by rw [Bool.or_eq_true, beq_iff_eq, beq_iff_eq]; omega), if_neg (by rw [Bool.or_eq_true, beq_iff_eq, beq_iff_eq]; omega)]
    · unfold PySem.NumText.prefix?
      split
      · rename_i e
        exact absurd (List.cons.inj e).1 ha
      · rfl
theorem basedB {cs : List Nat} (h : ∀ c ∈ cs, IsBin c) : based 2 cs = (2, false, cs) := by
  unfold based
  rw [prefB h]
  rfl
theorem read_bin {cs : List Nat} (h : ∀ c ∈ cs, IsBin c) (hne : cs ≠ []) : (int_private% "readNumeral") 0 2 cs = (int_private% "Numeral.value") ((binNum cs : Nat) : Int) := by
  have hh : ∀ c ∈ cs, IsHex c := fun c hc => bin_hex (h c hc)
  have hr : ∀ c ∈ cs.reverse, IsHex c := fun c hc => hh c (List.mem_reverse.mp hc)
  refine (readNumeral_eq 0 2 cs).trans ?_
  rw [dropB hh, signH hh]
  show judge 0 false (based 2 cs).1 (based 2 cs).2.1 (digits? (based 2 cs).1 (((based 2 cs).2.2.reverse.dropWhile blank).reverse)) = _
  rw [basedB h]
  show judge 0 false 2 false (digits? 2 ((cs.reverse.dropWhile blank).reverse)) = _
  rw [dropB hr, List.reverse_reverse, digits_bin h hne]
  show (int_private% "Numeral.value") (((cs.foldl (fun acc c => acc.push (c - 48)) (#[] : Array Nat)).foldl (fun acc d => acc * 2 + d) 0 : Nat) : Int) = _
  have z : (#[] : Array Nat).foldl (fun acc d => acc * 2 + d) 0 = 0 := by first | rfl | simp
  rw [push_bin, z] <;> rfl
set_option maxHeartbeats 4000000 in
theorem gives_bin {x : PySem.Str} {u t : Tok} (hl : x.length ≤ 640) (h : ∀ c ∈ x.cps.toList, IsBin c) (hne : x.cps.toList ≠ []) :
    Gives (Builtin.«int.__new__» ⟨[.type "int", .str x u, .int 2 t], []⟩) (.int ((binNum x.cps.toList : Nat) : Int)) :=
  .of_wp fun M A E s Q hQ => by
    obtain ⟨hp, g, d, tk, os⟩ := s
    have f1 := F.conv_sub_int
    have f2 := F.madeHere_int
    have f6 : typeOf (.str x u) = pure (.type "str") := rfl
    obtain ⟨e1, e2⟩ := seen_hex (x := x) fun c hc => bin_hex (h c hc)
    have hs : (numSeenOf x).length ≤ 640 := by
      rw [e2, Array.length_toList]
      exact hl
    have hr : (int_private% "readNumeral") 0 2 (numSeenOf x) = (int_private% "Numeral.value") ((binNum x.cps.toList : Nat) : Int) := by
      rw [e2]
      exact read_bin h hne
    have ha : ((numSeenOf x).length == (numTextOf x).length) = true := by
      rw [e1, e2]
      exact beq_self_eq_true _
    have hk := Hid.mk (And.intro hs (And.intro hr ha))
    clear hs hr ha e1 e2 hl hne h
    repeat (any_goals (first
      | assumption
      | ((with_reducible show wpAny _ _ ((int_private% "intFromText") _ _ _) _ _ _); refine wp_textB hk.out.1 hk.out.2.1 hk.out.2.2 ?_)
      | wp_step))
    all_goals first | exact ⟨_, rfl, hQ⟩ | skip
theorem call_bin {prog : Program} {w : World} {A : Around} {E : Value → Shared → Prop} {s : Shared} {Q : Value → Shared → Prop} {x : PySem.Str} {u t : Tok} (hl : x.length ≤ 640) (h : ∀ c ∈ x.cps.toList, IsBin c) (hne : x.cps.toList ≠ [])
    (hQ : Q (.int ((binNum x.cps.toList : Nat) : Int) s.toks) { s with toks := s.toks + 1 }) : wpAny (model prog w) A (call (.type "int") [.str x u, .int 2 t]) Q E s :=
  callType_new F.called_int F.newNe_int (typeCall_int_2 _ _) (newCall_int_2 _ _) (fun obj => F.initArgs_range_2 obj _ _) F.entry_int_new (gives_bin hl h hne).meets (show (Made.int ((binNum x.cps.toList : Nat) : Int)).post _ s from ⟨rfl, hQ⟩)
end
def rIntBin : List V → Hp → VK → Prop := fun xs H Q => ∃ x : Str, xs = [.str x, .int 2] ∧ x.cps.toList ≠ [] ∧ x.length ≤ 640 ∧ (∀ c ∈ x.cps.toList, IsBin c) ∧ Q (.int ((binNum x.cps.toList : Nat) : Int)) H
theorem call_int_bin {X : Cx} : CallR X (.type "int") rIntBin := by
  intro pins s σ H xs us Q I r h
  obtain ⟨x, rfl, hne, hl, hx, q⟩ := h
  obtain ⟨u, w', rfl, r1, r2⟩ := vals2 r
  obtain ⟨t1, rfl⟩ := r1
  obtain ⟨t2, rfl⟩ := r2
  exact call_bin hl hx hne ⟨.int ((binNum x.cps.toList : Nat) : Int), H, I.tok _, ⟨_, rfl⟩, q⟩
/-! ### t[::-1] of a text -/
def revS (z : Str) : Str := ⟨z.cps.toList.reverse.toArray⟩
theorem idx_rev (n : Nat) : Builtin.Str.strSliceIndices none none (-1) n = (List.range n).reverse := by
  show sliceRange (if (-1 : Int) > 0 then 0 else (n : Int) - 1) (if (-1 : Int) > 0 then (n : Int) else -1) (-1) = _
  rw [if_neg (by decide), if_neg (by decide), PySem.W.krv_sliceRange, PySem.W.krv_range]
theorem pick_rev {α : Type} (xs : Array α) : (List.range xs.size).reverse.filterMap (xs[·]?) = xs.toList.reverse := by
  rw [List.filterMap_reverse, PySem.W.krv_all]
section
variable {X : Cx}
def tRevS (te : TE) : TE := fun σ H Q => te σ H fun x H1 => ∃ z : Str, x = .str z ∧ z.length ≤ sizeLine ∧ Q (.str (revS z)) H1
theorem pe_revS {e : Expr} {te : TE} {k : Nat} {p1 p2 p3 pos : Pos} (he : PE X e te) : PE X (.Subscript e (.Slice none none (some (.UnaryOp .USub (.Constant (.int 1) k p1) p2)) p3) pos) (tRevS te) := by
  refine ⟨fun pins s σ H Q I h => ?_⟩
  refine Subscript_ (thn (he.run pins s σ H _ I h) fun v s1 ⟨x, H1, I1, r1, q1⟩ => ?_)
  obtain ⟨z, ex, hz, q⟩ := q1
  subst ex
  obtain ⟨t, rfl⟩ := r1
  have hst : PO X (some (.UnaryOp .USub (.Constant (.int 1) k p1) p2)) (tPart (tUn (rU fun i => .int (-i)) (tC (.int 1)))) := po_some (pe_un un_neg pe_int)
  refine wpAny_Slice (thn (po_none.run pins s1 σ H1 (fun o H2 => o = none ∧ H2 = H1) I1 ⟨rfl, rfl⟩) fun vl s2 ⟨l, H2, I2, pl, el, e2⟩ => ?_)
  subst el e2
  refine thn (po_none.run pins s2 σ H2 (fun o H3 => o = none ∧ H3 = H2) I2 ⟨rfl, rfl⟩) fun vu s3 ⟨u, H3, I3, pu, eu, e3⟩ => ?_
  subst eu e3
  refine thn (hst.run pins s3 σ H3 (fun o H4 => o = some (-1) ∧ H4 = H3) I3 ⟨1, rfl, -1, rfl, rfl, rfl⟩) fun vs s4 ⟨o, H4, I4, ps, eo, e4⟩ => ?_
  subst eo e4
  have I5 : Inv X pins σ H4 { s4 with heap := s4.heap.push { cls := .type "slice", data := .fields #[vl, vu, vs] } } := I4.kept (t' := s4.toks) fun b ob q => Heap.get?_push_of_some _ q
  show wpAny (model X.prog X.w) X.A (subscriptTail e (.Slice none none (some (.UnaryOp .USub (.Constant (.int 1) k p1) p2)) p3) (.str z t) (.ref s4.heap.objs.size)) (EP X pins σ Q) X.xe { s4 with heap := s4.heap.push { cls := .type "slice", data := .fields #[vl, vu, vs] } }
  refine tail_any (ops := [.str z t, .ref s4.heap.objs.size]) (typeIs_str _ z t) (F.slot_str_getitem.lookup) ?_ (by with_unfolding_all rfl)
  obtain ⟨l, rfl, el⟩ := IsPart.raw pl
  obtain ⟨u, rfl, eu⟩ := IsPart.raw pu
  obtain ⟨st, rfl, es⟩ := IsPart.raw ps
  have hs5 : ((st.map (·.1)).getD 1) = -1 := by rw [es]; rfl
  refine wpAny_getItem_str_slice (l := l) (u := u) (st := st) ⟨_, Heap.get?_push_size _ rfl, rfl, rfl⟩ (by rw [hs5]; decide) ?_
  have hp : slicePicked z l u st = (List.range z.cps.size).reverse := by
    unfold slicePicked
    rw [hs5, el, eu]
    exact idx_rev z.length
  unfold sliceMade
  rw [hs5, hp, pick_rev, if_neg (by simp)]
  exact ⟨(by show z.cps.toList.reverse.toArray.size ≤ sizeLine; rw [List.size_toArray, List.length_reverse, Array.length_toList]; exact hz), .str _, H4, I5.tok _, ⟨_, rfl⟩, q⟩
end
/-! ### t.strip('01') -/
theorem mt_stripK {X : Cx} : MtR X "str.strip" (fun x xs H Q => ∃ a b, x = .str a ∧ xs = [.str b] ∧ a.length ≤ sizeLine ∧ Q (.str (Txt.stripChars a b)) H) := mt_stripChars
end FvO


namespace Fv
open PySem PySem.Spec PyProof.Rows L2 TL
/-! ### families of sets as boards -/
def subM (a b : Nat) : Bool := decide (a &&& b = a)
theorem subM_iff {a b : Nat} : subM a b = true ↔ a &&& b = a := decide_eq_true_iff
theorem subM_refl (a : Nat) : subM a a = true := subM_iff.mpr (Nat.and_self a)
theorem subM_trans {a b c : Nat} (h : subM a b = true) (g : subM b c = true) : subM a c = true := by
  rw [subM_iff] at h g ⊢
  rw [← h, Nat.and_assoc, g]
theorem subM_anti {a b : Nat} (h : subM a b = true) (g : subM b a = true) : a = b := by
  rw [subM_iff] at h g
  rw [← h, Nat.and_comm, g]
theorem subM_and {z a b : Nat} : subM z (a &&& b) = true ↔ subM z a = true ∧ subM z b = true := by
  constructor
  · intro h
    have h1 : subM (a &&& b) a = true := subM_iff.mpr (by rw [Nat.and_comm a b, Nat.and_assoc, Nat.and_self])
    have h2 : subM (a &&& b) b = true := subM_iff.mpr (by rw [Nat.and_assoc, Nat.and_self])
    exact ⟨subM_trans h h1, subM_trans h h2⟩
  · rintro ⟨h, g⟩
    rw [subM_iff] at h g ⊢
    rw [← Nat.and_assoc, h, g]
/-- at most 16 sets, with a greatest one and with all meets -/
structure Fam (ms : List Nat) : Prop where
  nd : ms.Nodup
  cl : ∀ a ∈ ms, ∀ b ∈ ms, a &&& b ∈ ms
  top : ∃ t ∈ ms, ∀ a ∈ ms, subM a t = true
  ln : ms.length ≤ 16
theorem Fam.perm {ms ns : List Nat} (h : Fam ms) (p : ns.Perm ms) : Fam ns :=
  ⟨p.nodup_iff.mpr h.nd, fun a ha b hb => p.mem_iff.mpr (h.cl a (p.mem_iff.mp ha) b (p.mem_iff.mp hb)), by
    obtain ⟨t, ht, h1⟩ := h.top
    exact ⟨t, p.mem_iff.mpr ht, fun a ha => h1 a (p.mem_iff.mp ha)⟩, by rw [p.length_eq]; exact h.ln⟩
def msAt (ms : List Nat) (x : Nat) : Nat := ms.getD x 0
theorem msAt_get {ms : List Nat} {x : Nat} (h : x < ms.length) : ms[x]? = some (msAt ms x) := by
  unfold msAt
  rw [List.getD_eq_getElem?_getD, List.getElem?_eq_getElem h]
  rfl
theorem msAt_mem {ms : List Nat} {x : Nat} (h : x < ms.length) : msAt ms x ∈ ms := List.mem_of_getElem? (msAt_get h)
theorem msAt_ex {ms : List Nat} {a : Nat} (h : a ∈ ms) : ∃ x, x < ms.length ∧ msAt ms x = a := by
  obtain ⟨x, hx, e⟩ := List.getElem_of_mem h
  refine ⟨x, hx, ?_⟩
  have := msAt_get hx
  rw [List.getElem?_eq_getElem hx, e] at this
  exact (Option.some.inj this).symm
theorem msAt_inj {ms : List Nat} (nd : ms.Nodup) {x y : Nat} (hx : x < ms.length) (hy : y < ms.length) (h : msAt ms x = msAt ms y) : x = y := by
  have e1 := msAt_get hx
  have e2 := msAt_get hy
  rw [List.getElem?_eq_getElem hx] at e1
  rw [List.getElem?_eq_getElem hy] at e2
  have e3 : ms[x] = ms[y] := by rw [Option.some.inj e1, Option.some.inj e2, h]
  exact (List.getElem_inj nd).mp e3
def leI (ms : List Nat) (x y : Nat) : Bool := subM (msAt ms x) (msAt ms y)
def lowL (ms : List Nat) (x y : Nat) : List Nat := (List.range ms.length).filter fun z => leI ms z x && leI ms z y
def upL (ms : List Nat) (x y : Nat) : List Nat := (List.range ms.length).filter fun z => leI ms x z && leI ms y z
def lowM (ms : List Nat) (x y : Nat) : List Nat := (lowL ms x y).filter fun z => (lowL ms x y).all fun w => leI ms w z
def upM (ms : List Nat) (x y : Nat) : List Nat := (upL ms x y).filter fun z => (upL ms x y).all fun w => leI ms z w
def lowI (ms : List Nat) (x y : Nat) : Nat := (lowM ms x y).headD 0
def upI (ms : List Nat) (x y : Nat) : Nat := (upM ms x y).headD 0
theorem mem_lowL {ms : List Nat} {x y z : Nat} : z ∈ lowL ms x y ↔ z < ms.length ∧ leI ms z x = true ∧ leI ms z y = true := by
  unfold lowL
  rw [List.mem_filter, List.mem_range, Bool.and_eq_true]
theorem mem_upL {ms : List Nat} {x y z : Nat} : z ∈ upL ms x y ↔ z < ms.length ∧ leI ms x z = true ∧ leI ms y z = true := by
  unfold upL
  rw [List.mem_filter, List.mem_range, Bool.and_eq_true]
theorem head_mem {l : List Nat} {z : Nat} (h : z ∈ l) : l.headD 0 ∈ l ∧ ∃ r, l = l.headD 0 :: r := by
  cases l with
  | nil => cases h
  | cons a r => exact ⟨List.mem_cons_self, r, rfl⟩
theorem low_ex {ms : List Nat} (F : Fam ms) {x y : Nat} (hx : x < ms.length) (hy : y < ms.length) : ∃ z, z ∈ lowM ms x y := by
  obtain ⟨z, hz, e⟩ := msAt_ex (F.cl _ (msAt_mem hx) _ (msAt_mem hy))
  have key : ∀ w, leI ms w z = true ↔ leI ms w x = true ∧ leI ms w y = true := fun w => by
    unfold leI
    rw [e]
    exact subM_and
  refine ⟨z, List.mem_filter.mpr ⟨mem_lowL.mpr ⟨hz, (key z).mp (subM_refl _)⟩, List.all_eq_true.mpr fun w hw => (key w).mpr (mem_lowL.mp hw).2⟩⟩
theorem inf_ex {ms : List Nat} (cl : ∀ a ∈ ms, ∀ b ∈ ms, a &&& b ∈ ms) : ∀ (l : List Nat) (t : Nat), t ∈ ms → (∀ a ∈ l, a ∈ ms) → ∃ j ∈ ms, subM j t = true ∧ (∀ a ∈ l, subM j a = true) ∧ ∀ z, subM z t = true → (∀ a ∈ l, subM z a = true) → subM z j = true
  | [], t, ht, _ => ⟨t, ht, subM_refl t, fun a ha => (nomatch ha), fun z h _ => h⟩
  | b :: l, t, ht, hl => by
    obtain ⟨j, hj, h1, h2, h3⟩ := inf_ex cl l t ht fun a ha => hl a (List.mem_cons_of_mem _ ha)
    have q := subM_and.mp (subM_refl (j &&& b))
    refine ⟨j &&& b, cl _ hj _ (hl b List.mem_cons_self), subM_trans q.1 h1, fun a ha => ?_, fun z hz hzl => subM_and.mpr ⟨h3 z hz fun a ha => hzl a (List.mem_cons_of_mem _ ha), hzl b List.mem_cons_self⟩⟩
    rcases List.mem_cons.mp ha with e | e
    · rw [e]; exact q.2
    · exact subM_trans q.1 (h2 a e)
theorem up_ex {ms : List Nat} (F : Fam ms) {x y : Nat} (hx : x < ms.length) (hy : y < ms.length) : ∃ z, z ∈ upM ms x y := by
  obtain ⟨t, ht, h1⟩ := F.top
  obtain ⟨j, hj, j1, j2, j3⟩ := inf_ex F.cl (ms.filter fun c => subM (msAt ms x) c && subM (msAt ms y) c) t ht fun a ha => (List.mem_filter.mp ha).1
  obtain ⟨z, hz, e⟩ := msAt_ex hj
  have ux : subM (msAt ms x) j = true := j3 _ (h1 _ (msAt_mem hx)) fun a ha => (Bool.and_eq_true_iff.mp (List.mem_filter.mp ha).2).1
  have uy : subM (msAt ms y) j = true := j3 _ (h1 _ (msAt_mem hy)) fun a ha => (Bool.and_eq_true_iff.mp (List.mem_filter.mp ha).2).2
  refine ⟨z, List.mem_filter.mpr ⟨mem_upL.mpr ⟨hz, ?_, ?_⟩, List.all_eq_true.mpr fun w hw => ?_⟩⟩
  · unfold leI; rw [e]; exact ux
  · unfold leI; rw [e]; exact uy
  · obtain ⟨w1, w2, w3⟩ := mem_upL.mp hw
    unfold leI at w2 w3 ⊢
    rw [e]
    exact j2 _ (List.mem_filter.mpr ⟨msAt_mem w1, by rw [w2, w3]; rfl⟩)
theorem low_cons {ms : List Nat} (F : Fam ms) {x y : Nat} (hx : x < ms.length) (hy : y < ms.length) : lowI ms x y ∈ lowM ms x y ∧ ∃ r, lowM ms x y = lowI ms x y :: r := by
  obtain ⟨z, hz⟩ := low_ex F hx hy
  exact head_mem hz
theorem up_cons {ms : List Nat} (F : Fam ms) {x y : Nat} (hx : x < ms.length) (hy : y < ms.length) : upI ms x y ∈ upM ms x y ∧ ∃ r, upM ms x y = upI ms x y :: r := by
  obtain ⟨z, hz⟩ := up_ex F hx hy
  exact head_mem hz
theorem low_spec {ms : List Nat} (F : Fam ms) {x y : Nat} (hx : x < ms.length) (hy : y < ms.length) : lowI ms x y < ms.length ∧ ∀ w, w < ms.length → (leI ms w (lowI ms x y) = true ↔ leI ms w x = true ∧ leI ms w y = true) := by
  obtain ⟨h1, h2⟩ := List.mem_filter.mp (low_cons F hx hy).1
  obtain ⟨a, b, c⟩ := mem_lowL.mp h1
  refine ⟨a, fun w hw => ⟨fun h => ⟨subM_trans h b, subM_trans h c⟩, fun h => ?_⟩⟩
  exact List.all_eq_true.mp h2 w (mem_lowL.mpr ⟨hw, h⟩)
theorem up_spec {ms : List Nat} (F : Fam ms) {x y : Nat} (hx : x < ms.length) (hy : y < ms.length) : upI ms x y < ms.length ∧ ∀ w, w < ms.length → (leI ms (upI ms x y) w = true ↔ leI ms x w = true ∧ leI ms y w = true) := by
  obtain ⟨h1, h2⟩ := List.mem_filter.mp (up_cons F hx hy).1
  obtain ⟨a, b, c⟩ := mem_upL.mp h1
  refine ⟨a, fun w hw => ⟨fun h => ⟨subM_trans b h, subM_trans c h⟩, fun h => ?_⟩⟩
  exact List.all_eq_true.mp h2 w (mem_upL.mpr ⟨hw, h⟩)
theorem leI_refl {ms : List Nat} (x : Nat) : leI ms x x = true := subM_refl _
theorem leI_trans {ms : List Nat} {x y z : Nat} (h : leI ms x y = true) (g : leI ms y z = true) : leI ms x z = true := subM_trans h g
theorem leI_anti {ms : List Nat} (F : Fam ms) {x y : Nat} (hx : x < ms.length) (hy : y < ms.length) (h : leI ms x y = true) (g : leI ms y x = true) : x = y := msAt_inj F.nd hx hy (subM_anti h g)
/-- all triples -/
def Spr (ms : List Nat) : Prop := ∀ x, x < ms.length → ∀ y, y < ms.length → ∀ z, z < ms.length → lowI ms x (upI ms y z) = upI ms (lowI ms x y) (lowI ms x z)
theorem low_ms {ms : List Nat} (F : Fam ms) {x y : Nat} (hx : x < ms.length) (hy : y < ms.length) : msAt ms (lowI ms x y) = msAt ms x &&& msAt ms y := by
  obtain ⟨h1, h2⟩ := low_spec F hx hy
  obtain ⟨z, hz, e⟩ := msAt_ex (F.cl _ (msAt_mem hx) _ (msAt_mem hy))
  have a := (h2 _ h1).mp (leI_refl _)
  refine subM_anti (subM_and.mpr a) ?_
  have q := subM_and.mp (subM_refl (msAt ms x &&& msAt ms y))
  have b := (h2 z hz).mpr (by unfold leI; rw [e]; exact q)
  unfold leI at b
  rw [e] at b
  exact b
/-- all subsets spread -/
theorem spr_range {ms : List Nat} {k : Nat} (F : Fam ms) (h : ∀ a, a ∈ ms ↔ a < 2 ^ k) : Spr ms := by
  have up_ms : ∀ {x y : Nat}, x < ms.length → y < ms.length → msAt ms (upI ms x y) = msAt ms x ||| msAt ms y := fun {x y} hx hy => by
    obtain ⟨h1, h2⟩ := up_spec F hx hy
    obtain ⟨z, hz, e⟩ := msAt_ex ((h _).mpr (Nat.or_lt_two_pow ((h _).mp (msAt_mem hx)) ((h _).mp (msAt_mem hy))))
    have a := (h2 _ h1).mp (leI_refl _)
    have b1 : subM (msAt ms x) (msAt ms x ||| msAt ms y) = true := subM_iff.mpr (by rw [Nat.and_or_distrib_left, Nat.and_self]; apply Nat.eq_of_testBit_eq; intro i; rw [Nat.testBit_or, Nat.testBit_and]; cases Nat.testBit (msAt ms x) i <;> simp)
    have b2 : subM (msAt ms y) (msAt ms x ||| msAt ms y) = true := subM_iff.mpr (by apply Nat.eq_of_testBit_eq; intro i; rw [Nat.testBit_and, Nat.testBit_or]; cases Nat.testBit (msAt ms y) i <;> simp)
    have b := (h2 z hz).mpr (by unfold leI; rw [e]; exact ⟨b1, b2⟩)
    unfold leI at a b
    rw [e] at b
    refine subM_anti b ?_
    rw [subM_iff]
    obtain ⟨a1, a2⟩ := a
    rw [subM_iff] at a1 a2
    rw [Nat.and_comm, Nat.and_or_distrib_left, Nat.and_comm _ (msAt ms x), a1, Nat.and_comm _ (msAt ms y), a2]
  intro x hx y hy z hz
  have u1 := (up_spec F hy hz).1
  have l1 := (low_spec F hx hy).1
  have l2 := (low_spec F hx hz).1
  refine msAt_inj F.nd (low_spec F hx u1).1 (up_spec F l1 l2).1 ?_
  rw [low_ms F hx u1, up_ms hy hz, up_ms l1 l2, low_ms F hx hy, low_ms F hx hz, Nat.and_or_distrib_left]
/-- a cut over a board that spreads -/
theorem spr_cut {ms : List Nat} (F : Fam ms) (S : Spr ms) {u v a : Nat} (hu : u < ms.length) (hv : v < ms.length) (ha : a < ms.length) (h1 : leI ms u (upI ms v a) = true) (h2 : leI ms (lowI ms u a) v = true) : leI ms u v = true := by
  have e := S u hu v hv a ha
  have uva := up_spec F hv ha
  have luv := low_spec F hu hv
  have lua := low_spec F hu ha
  have t1 : leI ms u (lowI ms u (upI ms v a)) = true := ((low_spec F hu uva.1).2 u hu).mpr ⟨leI_refl _, h1⟩
  rw [e] at t1
  refine leI_trans t1 ?_
  refine ((up_spec F luv.1 lua.1).2 v hv).mpr ⟨((luv.2 _ luv.1).mp (leI_refl _)).2, h2⟩
/-! ### rows as texts -/
def rowC (ms : List Nat) (a : Nat) : List Nat := ms.map fun b => if subM a b = true then 49 else 48
def rowsOf (ms : List Nat) : List Str := ms.map fun a => mk (rowC ms a)
theorem rowC_at {ms : List Nat} {a x : Nat} (h : x < ms.length) : (rowC ms a)[x]? = some (if subM a (msAt ms x) = true then 49 else 48) := by
  unfold rowC
  rw [List.getElem?_map, msAt_get h]
  rfl
theorem rows_at {ms : List Nat} {x : Nat} (h : x < ms.length) : ((rowsOf ms).map V.str)[x]? = some (.str (mk (rowC ms (msAt ms x)))) := by
  unfold rowsOf
  rw [List.getElem?_map, List.getElem?_map, msAt_get h]
  rfl
theorem one_dec (b : Bool) : decide (V.str (⟨#[if b = true then 49 else 48]⟩ : Str) = V.str "1") = b := by
  cases b <;> decide +kernel
end Fv


namespace FvO
open PySem PySem.Spec PyProof.Rows L2 Fv
/-! ### rows of digits, as functions -/
def chB (b : Bool) : Nat := if b = true then 49 else 48
def rowF (n : Nat) (f : Nat → Bool) : Str := mk ((List.range n).map fun y => chB (f y))
def rowsF (n : Nat) (b : Nat → Nat → Bool) : List Str := (List.range n).map fun x => rowF n (b x)
theorem rowF_cps (n : Nat) (f : Nat → Bool) : (rowF n f).cps.toList = (List.range n).map fun y => chB (f y) := by
  unfold rowF mk
  simp
theorem rowF_len (n : Nat) (f : Nat → Bool) : (rowF n f).length = n := by
  show (rowF n f).cps.size = n
  rw [← Array.length_toList, rowF_cps, List.length_map, List.length_range]
theorem chB_bin (b : Bool) : IsBin (chB b) := by cases b <;> simp [chB, IsBin]
theorem rowF_bin (n : Nat) (f : Nat → Bool) : ∀ c ∈ (rowF n f).cps.toList, IsBin c := fun c hc => by
  rw [rowF_cps] at hc
  obtain ⟨y, _, rfl⟩ := List.mem_map.mp hc
  exact chB_bin _
theorem rowF_congr {n : Nat} {f g : Nat → Bool} (h : ∀ y, y < n → f y = g y) : rowF n f = rowF n g := by
  unfold rowF
  congr 1
  exact List.map_congr_left fun y hy => by rw [h y (List.mem_range.mp hy)]
theorem rows_eq (ms : List Nat) : rowsOf ms = rowsF ms.length (leI ms) := by
  unfold rowsOf rowsF
  apply List.ext_getElem?
  intro x
  rw [List.getElem?_map, List.getElem?_map]
  rcases Nat.lt_or_ge x ms.length with h | h
  · rw [msAt_get h, List.getElem?_range h]
    show some (mk (rowC ms (msAt ms x))) = some (rowF ms.length (leI ms x))
    congr 1
    unfold rowF
    congr 1
    unfold rowC
    apply List.ext_getElem?
    intro y
    rw [List.getElem?_map, List.getElem?_map]
    rcases Nat.lt_or_ge y ms.length with g | g
    · rw [msAt_get g, List.getElem?_range g]; rfl
    · rw [List.getElem?_eq_none g, List.getElem?_eq_none (by rw [List.length_range]; exact g)]; rfl
  · rw [List.getElem?_eq_none h, List.getElem?_eq_none (by rw [List.length_range]; exact h)]; rfl
/-! ### strip -/
theorem takeW_all {α : Type} {p : α → Bool} : ∀ {l : List α}, (∀ c ∈ l, p c = true) → l.takeWhile p = l
  | [], _ => rfl
  | a :: l, h => by rw [List.takeWhile_cons, h a List.mem_cons_self, if_pos rfl, takeW_all fun c hc => h c (List.mem_cons_of_mem _ hc)]
theorem strip_bin {x : Str} (h : ∀ c ∈ x.cps.toList, IsBin c) : Txt.stripChars x "01" = "" := by
  have hg : ∀ c ∈ x.cps.toList, (Array.contains (Str.ofString "01").cps) c = true := fun c hc => by
    rcases h c hc with rfl | rfl <;> decide +kernel
  have lo : PySem.stripLo (Array.contains (Str.ofString "01").cps) true x = x.length := by
    unfold PySem.stripLo
    rw [if_pos rfl, takeW_all hg]
    exact Array.length_toList
  have hi : PySem.stripHi (Array.contains (Str.ofString "01").cps) true x x.length = x.length := by
    unfold PySem.stripHi
    rw [if_pos rfl, List.drop_eq_nil_of_le (by rw [Array.length_toList]; exact Nat.le_refl _)]
    rfl
  show (if PySem.stripSame (Array.contains (Str.ofString "01").cps) true true x = true then x else PySem.stripped (Array.contains (Str.ofString "01").cps) true true x) = _
  unfold PySem.stripSame PySem.stripped
  rw [lo, hi]
  by_cases z : x.length = 0
  · have e : x = "" := by
      obtain ⟨a⟩ := x
      have : a = #[] := Array.eq_empty_of_size_eq_zero z
      rw [this]; rfl
    rw [if_pos (by rw [z]; rfl), e]
  · rw [if_neg (by rw [beq_eq_false_iff_ne.mpr z]; simp)]
    unfold Builtin.Str.strSub
    obtain ⟨a⟩ := x
    have e : a.extract a.size a.size = #[] := by
      apply Array.eq_empty_of_size_eq_zero
      simp
    show (⟨a.extract a.size a.size⟩ : Str) = ⟨#[]⟩
    rw [e]
/-! ### masks -/
def maskF : Nat → (Nat → Bool) → Nat
  | 0, _ => 0
  | n + 1, f => maskF n f + (if f n = true then 2 ^ n else 0)
theorem maskF_lt : ∀ (n : Nat) (f : Nat → Bool), maskF n f < 2 ^ n
  | 0, _ => Nat.one_pos
  | n + 1, f => by
    have := maskF_lt n f
    unfold maskF
    rw [Nat.pow_succ]
    split <;> omega
theorem maskF_bit : ∀ (n : Nat) (f : Nat → Bool) (y : Nat), Nat.testBit (maskF n f) y = (decide (y < n) && f y)
  | 0, _, y => by simp [maskF]
  | n + 1, f, y => by
    have lt := maskF_lt n f
    have ih := maskF_bit n f y
    unfold maskF
    by_cases h : f n = true
    · rw [if_pos h]
      have e : maskF n f + 2 ^ n = 2 ^ n * 1 ||| maskF n f := by
        rw [← Nat.two_pow_add_eq_or_of_lt lt 1, Nat.mul_one, Nat.add_comm]
      rw [e, Nat.testBit_or, ih, Nat.mul_one, Nat.testBit_two_pow]
      by_cases c : n = y
      · subst c; simp [h]
      · rw [decide_eq_false c, Bool.false_or]
        congr 1
        exact decide_eq_decide.mpr (by omega)
    · rw [if_neg h, Nat.add_zero, ih]
      by_cases c : n = y
      · subst c
        rw [Bool.eq_false_iff.mpr h]
        simp
      · congr 1
        exact decide_eq_decide.mpr (by omega)
theorem bin_cons (c : Nat) (l : List Nat) : binNum (c :: l) = (c - 48) * 2 ^ l.length + binNum l := by
  have gen : ∀ (l : List Nat) (a : Nat), l.foldl (fun a c => a * 2 + (c - 48)) a = a * 2 ^ l.length + l.foldl (fun a c => a * 2 + (c - 48)) 0 := by
    intro l
    induction l with
    | nil => intro a; simp
    | cons d l ih =>
      intro a
      rw [List.foldl_cons, List.foldl_cons, ih (a * 2 + (d - 48)), ih (0 * 2 + (d - 48)), List.length_cons, Nat.pow_succ, Nat.add_mul, Nat.zero_mul, Nat.zero_add, Nat.mul_assoc, Nat.mul_comm 2, Nat.add_assoc]
  show l.foldl _ (0 * 2 + (c - 48)) = _
  rw [gen, Nat.zero_mul, Nat.zero_add]
  rfl
theorem bin_rev (n : Nat) (f : Nat → Bool) : binNum ((List.range n).map fun y => chB (f y)).reverse = maskF n f := by
  induction n with
  | zero => rfl
  | succ n ih =>
    rw [List.range_succ, List.map_append, List.reverse_append]
    show binNum (chB (f n) :: ((List.range n).map fun y => chB (f y)).reverse) = _
    rw [bin_cons, ih, List.length_reverse, List.length_map, List.length_range]
    show _ = maskF n f + (if f n = true then 2 ^ n else 0)
    unfold chB
    cases f n <;> simp [Nat.add_comm]
theorem mask_and {n : Nat} {f g : Nat → Bool} : maskF n f &&& maskF n g = maskF n fun y => f y && g y := by
  apply Nat.eq_of_testBit_eq
  intro y
  rw [Nat.testBit_and, maskF_bit, maskF_bit, maskF_bit]
  cases decide (y < n) <;> simp
theorem mask_congr {n : Nat} {f g : Nat → Bool} (h : ∀ y, y < n → f y = g y) : maskF n f = maskF n g := by
  apply Nat.eq_of_testBit_eq
  intro y
  rw [maskF_bit, maskF_bit]
  by_cases c : y < n
  · rw [h y c]
  · rw [decide_eq_false c]; rfl
theorem mask_inj {n : Nat} {f g : Nat → Bool} (h : maskF n f = maskF n g) : ∀ y, y < n → f y = g y := fun y hy => by
  have := congrArg (fun m => Nat.testBit m y) h
  simp only [maskF_bit, decide_eq_true hy, Bool.true_and] at this
  exact this
theorem mask_mono {f g : Nat → Bool} : ∀ {n : Nat}, (∀ y, y < n → f y = true → g y = true) → maskF n f ≤ maskF n g
  | 0, _ => Nat.le_refl _
  | n + 1, h => by
    have := mask_mono (n := n) fun y hy => h y (by omega)
    unfold maskF
    have e := h n (by omega)
    cases a : f n with
    | false => rw [if_neg (fun z => by cases z)]; omega
    | true => rw [e a]; omega
theorem mask_one {n a : Nat} (h : a < n) : maskF n (fun y => decide (y = a)) = 2 ^ a := by
  apply Nat.eq_of_testBit_eq
  intro y
  rw [maskF_bit, Nat.testBit_two_pow]
  by_cases c : y = a
  · subst c; simp [h]
  · rw [show decide (y = a) = false from decide_eq_false c, Bool.and_false, show decide (a = y) = false from decide_eq_false (fun z => c z.symm)]
end FvO


namespace Fv
open PySem PySem.Spec PyProof.Rows L2
/-! ### measures of data -/
def isL (s : Str) : Bool := decide (V.int (s.length : Nat) = V.int 1) && !(Builtin.Str.occurrences "abcdefgh" s 0 (Str.length "abcdefgh") 1).isEmpty
def isLd : PyData → Bool
  | .str s => isL s
  | _ => false
def isOp (o : PyData) : Bool := ([PyData.str "&", .str "|"] : List PyData).any fun z => PyData.eqv z o
def isCd : PyData → Bool
  | .tuple (o :: ds) => decide (2 ≤ ds.length) && isOp o
  | _ => false
def parts : PyData → List PyData
  | .tuple (_ :: ds) => ds
  | _ => []
def measL (f : PyData → Int → Option (Int × Int)) : List PyData → Int → Int → Int → Option (Int × Int)
  | [], _, dp, tot => some (dp + 1, tot)
  | d :: ds, ms, dp, tot => match f d (ms - tot) with
    | none => none
    | some (a, b) => measL f ds ms (if a > dp then a else dp) (tot + b)
def meas : Nat → PyData → Int → Option (Int × Int)
  | 0, _, _ => none
  | n + 1, d, ms => if ms < 1 then none else if isLd d = true then some (1, 1) else if isCd d = true then measL (meas n) (parts d) ms 0 0 else none
def lmeas : Nat → PyData → Int
  | 0, _ => 0
  | n + 1, d => if isLd d = true then 1 else if isCd d = true then (if (0 : Int) ∈ (parts d).map (lmeas n) then 0 else ((parts d).map (lmeas n)).sum) else 0
theorem sum_nonneg : ∀ {l : List Int}, (∀ x ∈ l, 0 ≤ x) → 0 ≤ l.sum
  | [], _ => by simp
  | x :: l, h => by
    rw [List.sum_cons]
    have := h x (List.mem_cons_self ..)
    have := sum_nonneg (l := l) fun y hy => h y (List.mem_cons_of_mem _ hy)
    omega
theorem lmeas_nonneg : ∀ (n : Nat) (d : PyData), 0 ≤ lmeas n d
  | 0, _ => by simp [lmeas]
  | n + 1, d => by
    unfold lmeas
    split
    · decide
    · split
      · split
        · decide
        · exact sum_nonneg fun x hx => by
            obtain ⟨d', _, rfl⟩ := List.mem_map.mp hx
            exact lmeas_nonneg n d'
      · decide
theorem measL_iff {f : PyData → Int → Option (Int × Int)} {g : PyData → Int} (hg : ∀ d, 0 ≤ g d)
    (hf : ∀ d ms, (f d ms = none ∧ ¬ (1 ≤ g d ∧ g d ≤ ms)) ∨ (∃ dp, f d ms = some (dp, g d) ∧ 1 ≤ g d ∧ g d ≤ ms)) :
    ∀ (ds : List PyData) (ms dp tot : Int), tot ≤ ms →
      (measL f ds ms dp tot = none ∧ ¬ ((∀ d ∈ ds, 1 ≤ g d) ∧ tot + (ds.map g).sum ≤ ms)) ∨ (∃ dp', measL f ds ms dp tot = some (dp', tot + (ds.map g).sum) ∧ (∀ d ∈ ds, 1 ≤ g d) ∧ tot + (ds.map g).sum ≤ ms)
  | [], ms, dp, tot, h => by
    refine .inr ⟨dp + 1, ?_, by simp, by simpa using h⟩
    simp [measL]
  | d :: ds, ms, dp, tot, h => by
    have hs : 0 ≤ (ds.map g).sum := sum_nonneg fun x hx => by
      obtain ⟨d', _, rfl⟩ := List.mem_map.mp hx
      exact hg d'
    rw [List.map_cons, List.sum_cons]
    rcases hf d (ms - tot) with ⟨e, ne⟩ | ⟨a, e, e1, e2⟩
    · refine .inl ⟨by simp only [measL, e], fun ⟨q1, q2⟩ => ne ⟨q1 d (List.mem_cons_self ..), by omega⟩⟩
    · have st : measL f (d :: ds) ms dp tot = measL f ds ms (if a > dp then a else dp) (tot + g d) := by simp only [measL, e]
      rw [st]
      rcases measL_iff hg hf ds ms (if a > dp then a else dp) (tot + g d) (by omega) with ⟨e', ne⟩ | ⟨dp', e', q1, q2⟩
      · refine .inl ⟨e', fun ⟨q1, q2⟩ => ne ⟨fun x hx => q1 x (List.mem_cons_of_mem _ hx), by omega⟩⟩
      · refine .inr ⟨dp', by rw [e', Int.add_assoc], fun x hx => ?_, by omega⟩
        rcases List.mem_cons.mp hx with e | hx
        · rw [e]; exact e1
        · exact q1 x hx
theorem meas_iff : ∀ (n : Nat) (d : PyData) (ms : Int), (meas n d ms = none ∧ ¬ (1 ≤ lmeas n d ∧ lmeas n d ≤ ms)) ∨ (∃ dp, meas n d ms = some (dp, lmeas n d) ∧ 1 ≤ lmeas n d ∧ lmeas n d ≤ ms)
  | 0, d, ms => .inl ⟨rfl, fun h => by simp only [lmeas] at h; omega⟩
  | n + 1, d, ms => by
    have hn := lmeas_nonneg (n + 1) d
    unfold meas
    by_cases h1 : ms < 1
    · rw [if_pos h1]
      exact .inl ⟨rfl, fun h => by omega⟩
    · rw [if_neg h1]
      unfold lmeas
      by_cases h2 : isLd d = true
      · rw [if_pos h2, if_pos h2]
        exact .inr ⟨1, rfl, by decide, by omega⟩
      · rw [if_neg h2, if_neg h2]
        by_cases h3 : isCd d = true
        · rw [if_pos h3, if_pos h3]
          have q := measL_iff (g := lmeas n) (lmeas_nonneg n) (meas_iff n) (parts d) ms 0 0 (by omega)
          rw [Int.zero_add] at q
          by_cases h4 : (0 : Int) ∈ (parts d).map (lmeas n)
          · rw [if_pos h4]
            rcases q with ⟨e, _⟩ | ⟨dp, e, q1, _⟩
            · exact .inl ⟨e, fun h => by omega⟩
            · obtain ⟨x, hx, e0⟩ := List.mem_map.mp h4
              have := q1 x hx
              omega
          · rw [if_neg h4]
            have all1 : ∀ x ∈ parts d, 1 ≤ lmeas n x := fun x hx => by
              have z := lmeas_nonneg n x
              rcases Int.lt_or_eq_of_le z with z | z
              · omega
              · exact absurd (List.mem_map.mpr ⟨x, hx, z.symm⟩) h4
            rcases q with ⟨e, ne⟩ | ⟨dp, e, q1, q2⟩
            · exact .inl ⟨e, fun h => ne ⟨all1, h.2⟩⟩
            · refine .inr ⟨dp, e, ?_, q2⟩
              have hp : parts d ≠ [] := by
                cases d with
                | tuple ds =>
                  cases ds with
                  | nil => cases h3
                  | cons o ds =>
                    intro e0
                    simp only [parts] at e0
                    rw [e0] at h3
                    simp [isCd] at h3
                | _ => cases h3
              cases hd : parts d with
              | nil => exact absurd hd hp
              | cons x r =>
                rw [hd] at all1
                rw [List.map_cons, List.sum_cons]
                have := all1 x (List.mem_cons_self ..)
                have := sum_nonneg (l := r.map (lmeas n)) fun y hy => by
                  obtain ⟨d', _, rfl⟩ := List.mem_map.mp hy
                  exact lmeas_nonneg n d'
                omega
        · rw [if_neg h3, if_neg h3]
          exact .inl ⟨rfl, fun h => by omega⟩
/-- the two measures agree -/
theorem meas_some (n : Nat) (d : PyData) (ms : Int) : (meas n d ms).isSome = (decide (1 ≤ lmeas n d) && decide (lmeas n d ≤ ms)) := by
  rcases meas_iff n d ms with ⟨e, ne⟩ | ⟨dp, e, h1, h2⟩
  · rw [e]
    by_cases a : 1 ≤ lmeas n d
    · have b : ¬ lmeas n d ≤ ms := fun z => ne ⟨a, z⟩
      simp [b]
    · simp [a]
  · rw [e]; simp [h1, h2]
/-! ### contracts -/
/-- plain data at v: nested at most 20 deep -/
def spIsLetter (K : PySem.W.Frag) : Sp := fun vs H Q _ => ∃ (v : V) (d : PyData), vs = [v] ∧ Dp K H v d ∧ gd 20 d = true ∧ Q (.bl (isLd d)) H
def spIsCompound (K : PySem.W.Frag) : Sp := fun vs H Q _ => ∃ (v : V) (d : PyData), vs = [v] ∧ Dp K H v d ∧ gd 20 d = true ∧ Q (.bl (isCd d)) H
def spMeas (K : PySem.W.Frag) (n : Nat) : Sp := fun vs H Q _ => ∃ (v : V) (d : PyData) (md ms : Int), vs = [v, .int md, .int ms] ∧ Dp K H v d ∧ gd 20 d = true ∧ 0 ≤ md ∧ md < n ∧
  (meas md.toNat d ms = none → ∀ H', Same H H' → Q .non H') ∧ (∀ dp sz, meas md.toNat d ms = some (dp, sz) → ∀ (H' : Hp) (p : Addr), Same H H' → H' p = some (.tup [.int dp, .int sz]) → Q (.ref p) H')
def spIsTerm (K : PySem.W.Frag) : Sp := fun vs H Q _ => ∃ (v : V) (d : PyData) (md ms : Int), vs = [v, .int md, .int ms] ∧ Dp K H v d ∧ gd 20 d = true ∧ 0 ≤ md ∧ md < 20 ∧
  ∀ H', Same H H' → Q (.bl (meas md.toNat d ms).isSome) H'
def spMeasure (K : PySem.W.Frag) (n : Nat) : Sp := fun vs H Q _ => ∃ (v : V) (d : PyData) (md : Int), vs = [v, .int md] ∧ Dp K H v d ∧ gd 20 d = true ∧ 0 ≤ md ∧ md < n ∧
  ∀ H', Same H H' → Q (.int (lmeas md.toNat d)) H'
def spFits (K : PySem.W.Frag) : Sp := fun vs H Q _ => ∃ (v : V) (d : PyData), vs = [v] ∧ Dp K H v d ∧ gd 20 d = true ∧
  ∀ H', Same H H' → Q (.bl (decide (1 ≤ lmeas 5 d) && decide (lmeas 5 d ≤ 24))) H'
theorem gd_parts {n : Nat} {o : PyData} {ds : List PyData} (h : gd (n + 1) (.tuple (o :: ds)) = true) : gd n o = true ∧ ∀ d ∈ ds, gd n d = true := by
  have q := (gd_tuple h).2
  exact ⟨q o (List.mem_cons_self ..), fun d hd => q d (List.mem_cons_of_mem _ hd)⟩
theorem drop_cons_get {α : Type} {l : List α} {i : Nat} {x : α} (h : l[i]? = some x) : l.drop i = x :: l.drop (i + 1) := by
  obtain ⟨hi, e⟩ := List.getElem?_eq_some_iff.mp h
  rw [List.drop_eq_getElem_cons hi, e]
theorem dropHead {vs : List V} {ds : List PyData} {K : PySem.W.Frag} {H : Hp} (h : DpAll K H vs ds) : DpAll K H (vs.drop 1) (ds.drop 1) := dpAll_drop 1 h
theorem isOp_str : isOp (.str "&") = true ∧ isOp (.str "|") = true := by decide +kernel
end Fv


namespace Fv
open PySem PySem.Spec PyProof.Rows L2
/-! ### own defs with defaults, called with and without keywords -/
structure OwnD (P : Program) (w : World) (K : PySem.W.Frag) (mg : Str → Option Value) (base : Heap) (k : Nat) (x : Str) (ps : List Str) (dvs : List V) (sp : Sp) : Prop where
  ex : ∃ (f : Addr) (fd : FuncData) (ds : List Value), mg x = some (.ref f) ∧ PySem.W.keepIn K (.ref f) = true ∧ Binds K fd ps ds ∧ Vals dvs ds ∧ FnOk P w K mg base CX0 k f fd ps sp
structure OwnK (P : Program) (w : World) (K : PySem.W.Frag) (mg : Str → Option Value) (base : Heap) (k : Nat) (x : Str) (ps : List Str) (n : Nat) (ks : List Str) (gV : List V → List V → List V) (sp : Sp) : Prop where
  ex : ∃ (f : Addr) (fd : FuncData) (g : List Value → List Value → List Value), mg x = some (.ref f) ∧ PySem.W.keepIn K (.ref f) = true ∧ KBn K fd ps n ks g gV ∧ FnOk P w K mg base CX0 k f fd ps sp
section
variable {X : Cx} {k n : Nat} {x : Str} {ps ks : List Str} {dvs : List V} {gV : List V → List V → List V} {sp : Sp} {e : Expr} {es : List Expr} {t tk : TA} {p pos : Pos} {kws : List Keyword}
theorem pe_ownD (C : OwnD X.prog X.w X.K X.mg X.base k x ps dvs sp) (hr : Room k X.A) (hg : Gl X x) (ha : PA X (e :: es) t) (hdb : (x == ("__debug__" : Str)) = false := by decide)
    (he : starEach (e :: es) X.env = (false, eval e X.env) :: starEach es X.env := by rfl) (hpl : (backTo pos (starEach es X.env)).any (·.1) = false := by rfl) : PE X (.Call (.Name x p) (e :: es) [] pos) (tCall sp dvs E0 t) := by
  obtain ⟨f, fd, ds, h1, h2, h3, h4, h5⟩ := C.ex
  exact pe_call h5 hr hg h1 h2 h3 h4 pass0 ha hdb he hpl
theorem pe_ownK (C : OwnK X.prog X.w X.K X.mg X.base k x ps n ks gV sp) (hr : Room k X.A) (hg : Gl X x) (ha : PA X (e :: es) t) (hkw : PK X kws tk)
    (hall : (backToKw pos (keywordEach kws X.env)).all (·.1.isSome) = true := by rfl) (hks : (backToKw pos (keywordEach kws X.env)).filterMap (·.1) = ks := by rfl)
    (hdb : (x == ("__debug__" : Str)) = false := by decide) (he : starEach (e :: es) X.env = (false, eval e X.env) :: starEach es X.env := by rfl)
    (hpl : ((backTo pos (starEach (e :: es) X.env)).any (·.1) || (backToKw pos (keywordEach kws X.env)).any (·.1.isNone)) = false := by rfl) :
    PE X (.Call (.Name x p) (e :: es) kws pos) (tCallN n ks.length sp gV E0 t tk) := by
  obtain ⟨f, fd, g, h1, h2, h3, h4⟩ := C.ex
  exact pe_callN h4 hr hg h1 h2 h3 pass0 ha hkw hall hks hdb he hpl
/-- no positional value -/
theorem pe_ownK0 (C : OwnK X.prog X.w X.K X.mg X.base k x ps 0 ks gV sp) (hr : Room k X.A) (hg : Gl X x) (hkw : PK X kws tk)
    (hall : (backToKw pos (keywordEach kws X.env)).all (·.1.isSome) = true := by rfl) (hks : (backToKw pos (keywordEach kws X.env)).filterMap (·.1) = ks := by rfl)
    (hdb : (x == ("__debug__" : Str)) = false := by decide)
    (hpl : ((backTo pos (starEach [] X.env)).any (·.1) || (backToKw pos (keywordEach kws X.env)).any (·.1.isNone)) = false := by rfl) :
    PE X (.Call (.Name x p) [] kws pos) (tCallN 0 ks.length sp gV E0 tNil tk) := by
  obtain ⟨f, fd, g, h1, h2, h3, h4⟩ := C.ex
  refine ⟨fun pins s σ H Q I h => ?_⟩
  refine wpAny_Call_Name_kw (ld_glob I hg h1 ?_ hdb)
  refine PySem.W.callWith_KW0 (h₀ := X.base) I.ok.mod.kin h2 hall ?_ hpl
  refine thn (hkw.run pos pins s σ H _ I h) fun ws s2 ⟨zs, H2, I2, rz, l1, l2, q2⟩ => ⟨I2.kIn, ?_⟩
  rw [hks]
  exact run_fnN h4 hr h3 pass0 I2 .nil rz l1 l2 q2
end
end Fv


namespace Fv
open PySem PySem.Spec PyProof.Rows L2
/-! ### what is tracked; values that are plain data apart from M -/
def Trk (M : List Addr) (H : Hp) : Prop := ∀ b ∈ M, ∃ o, H b = some o
theorem Trk.same {M : List Addr} {H H' : Hp} (h : Trk M H) (s : Same H H') : Trk M H' := fun b hb => by
  obtain ⟨o, e⟩ := h b hb
  exact ⟨o, s _ _ e⟩
theorem Trk.smx {M N : List Addr} {H H' : Hp} (h : Trk M H) (s : SmX N H H') (hN : Trk N H') : Trk M H' := fun b hb => by
  by_cases m : b ∈ N
  · exact hN b m
  · obtain ⟨o, e⟩ := h b hb
    exact ⟨o, s _ _ m e⟩
theorem Trk.ne {M : List Addr} {H : Hp} (h : Trk M H) {p : Addr} (np : H p = none) : p ∉ M := fun hp => by
  obtain ⟨o, e⟩ := h p hp
  rw [np] at e
  cases e
theorem hid_new {M : List Addr} {H : Hp} {p : Addr} {o : HO} (np : H p = none) : Same (hide M H) (hide M (upd H p o)) := (SmX.new np).hid
theorem hid_at {M : List Addr} {H : Hp} (h : Trk M H) {p : Addr} {o : HO} (np : H p = none) : hide M (upd H p o) p = some o := by
  rw [hide_ne (h.ne np), upd_same]
def GV (K : PySem.W.Frag) (n : Nat) (M : List Addr) (H : Hp) (v : V) : Prop := ∃ d, Dp K (hide M H) v d ∧ gd n d = true
theorem GV.same {K : PySem.W.Frag} {n : Nat} {M : List Addr} {H H' : Hp} {v : V} (g : GV K n M H v) (s : Same H H') : GV K n M H' v := by
  obtain ⟨d, h1, h2⟩ := g
  exact ⟨d, dp_same (SmX.of_same s).hid d v h1, h2⟩
theorem GV.up {K : PySem.W.Frag} {n m : Nat} {M : List Addr} {H : Hp} {v : V} (g : GV K n M H v) (h : n ≤ m) : GV K m M H v := by
  obtain ⟨d, h1, h2⟩ := g
  exact ⟨d, h1, gd_le h2 h⟩
theorem GV.str {K : PySem.W.Frag} {n : Nat} {M : List Addr} {H : Hp} {x : Str} (h : gd 0 (.str x) = true) : GV K n M H (.str x) := ⟨_, .str x, gd_le h (Nat.zero_le _)⟩
theorem GV.int {K : PySem.W.Frag} {n : Nat} {M : List Addr} {H : Hp} (i : Int) : GV K n M H (.int i) := ⟨_, .int i, gd_le (n := 0) rfl (Nat.zero_le _)⟩
theorem GV.bl {K : PySem.W.Frag} {n : Nat} {M : List Addr} {H : Hp} (b : Bool) : GV K n M H (.bl b) := ⟨_, .bl b, gd_le (n := 0) rfl (Nat.zero_le _)⟩
theorem GV.non {K : PySem.W.Frag} {n : Nat} {M : List Addr} {H : Hp} : GV K n M H .non := ⟨_, .non, gd_le (n := 0) rfl (Nat.zero_le _)⟩
theorem gv_all {K : PySem.W.Frag} {n : Nat} {M : List Addr} {H : Hp} : ∀ {xs : List V}, (∀ x ∈ xs, GV K n M H x) → ∃ ds, DpAll K (hide M H) xs ds ∧ ∀ d ∈ ds, gd n d = true
  | [], _ => ⟨[], .nil, fun d h => nomatch h⟩
  | x :: xs, h => by
    obtain ⟨d, h1, h2⟩ := h x (List.mem_cons_self ..)
    obtain ⟨ds, h3, h4⟩ := gv_all (xs := xs) fun y hy => h y (List.mem_cons_of_mem _ hy)
    refine ⟨d :: ds, .cons h1 h3, fun e he => ?_⟩
    rcases List.mem_cons.mp he with z | z
    · rw [z]; exact h2
    · exact h4 e z
theorem GV.tup {K : PySem.W.Frag} {n : Nat} {M : List Addr} {H : Hp} {p : Addr} {xs : List V} (hM : Trk M H) (np : H p = none) (h : ∀ x ∈ xs, GV K n M H x) (hl : xs.length ≤ 1000 := by decide) : GV K (n + 1) M (upd H p (.tup xs)) (.ref p) := by
  obtain ⟨ds, h1, h2⟩ := gv_all h
  exact ⟨.tuple ds, .tup (SqT.of (hid_at hM np)) (dpAll_same (hid_new np) _ _ h1), gd_tup h2 (by rw [← dpAll_len h1]; exact hl)⟩
theorem GV.lst {K : PySem.W.Frag} {n : Nat} {M : List Addr} {H : Hp} {p : Addr} {xs : List V} (hM : Trk M H) (np : H p = none) (h : ∀ x ∈ xs, GV K n M H x) (hl : xs.length ≤ 1000 := by decide) : GV K (n + 1) M (upd H p (.lst xs)) (.ref p) := by
  obtain ⟨ds, h1, h2⟩ := gv_all h
  exact ⟨.list ds, .lst (SqL.of (hid_at hM np)) (dpAll_same (hid_new np) _ _ h1), gd_lst h2 (by rw [← dpAll_len h1]; exact hl)⟩
theorem Src.trk {H : Hp} {a L : Addr} {ns : List Int} (h : Src H a L ns) : Trk [a] H := fun b hb => by
  obtain ⟨_, _, _, _, e, _⟩ := h
  rw [List.mem_singleton.mp hb]
  exact ⟨_, e⟩
theorem Src.ne {H : Hp} {a L p : Addr} {ns : List Int} (h : Src H a L ns) (np : H p = none) : a ≠ p := by
  obtain ⟨_, _, _, _, e, _⟩ := h
  exact ne_of_none e np
theorem Src.put {H : Hp} {a L p : Addr} {ns : List Int} {o : HO} (h : Src H a L ns) (pa : p ≠ a) (pL : p ≠ L) : Src (upd H p o) a L ns := by
  obtain ⟨i, q, st, c, h1, h2, h3⟩ := h
  exact ⟨i, q, st, c, by rw [upd_ne pa.symm]; exact h1, by rw [upd_ne pL.symm]; exact h2, h3⟩
theorem Src.new {H : Hp} {a L p : Addr} {ns : List Int} {o : HO} (h : Src H a L ns) (np : H p = none) : Src (upd H p o) a L ns := h.same (same_upd np)
/-- the term that is drawn: its data d, its depth at most n, its size by the room that was used -/
def spTerm (K : PySem.W.Frag) (n : Nat) : Sp := fun vs H Q _ => ∃ (a L sg r : Addr) (ns : List Int) (deep m : Int) (ys : List V) (M : List Addr), vs = [.ref a, .ref sg, .int deep, .ref r] ∧ Src H a L ns ∧
  H sg = some (.lst ys) ∧ 0 < ys.length ∧ ys.length ≤ 8 ∧ (∀ y ∈ ys, lett y) ∧ H r = some (.lst [.int m]) ∧ sg ≠ a ∧ sg ≠ r ∧ r ≠ a ∧ r ≠ L ∧ 0 ≤ m ∧ m ≤ 1000 ∧ 1 ≤ deep ∧ deep ≤ n ∧ a ∈ M ∧ r ∈ M ∧ Trk M H ∧
  ∀ (H' : Hp) (v : V) (d : PyData) (m' : Int), Dp K (hide M H') v d → lmeas deep.toNat d = m - m' + 1 → 0 ≤ m' → m' ≤ m → gd deep.toNat d = true → Src H' a L ns → H' r = some (.lst [.int m']) → SmX [a, r] H H' → Q v H'
def spAnyTerm (K : PySem.W.Frag) : Sp := fun vs H Q _ => ∃ (a L : Addr) (ns : List Int) (M : List Addr), vs = [.ref a] ∧ Src H a L ns ∧ a ∈ M ∧ Trk M H ∧
  ∀ (H' : Hp) (v : V) (d : PyData) (n : Nat), Dp K (hide M H') v d → 1 ≤ n → n ≤ 5 → 1 ≤ lmeas n d → lmeas n d ≤ 24 → gd n d = true → Src H' a L ns → SmX [a] H H' → Q v H'
def nestD : Nat → PyData
  | 0 => .str "a"
  | n + 1 => .tuple [.str (if n % 2 = 0 then "&" else "|"), nestD n, .str "b"]
def spNest (K : PySem.W.Frag) : Sp := fun vs H Q _ => ∃ (n : Nat) (M : List Addr), vs = [.int (n : Nat)] ∧ n ≤ 12 ∧ Trk M H ∧
  ∀ (H' : Hp) (v : V), Dp K (hide M H') v (nestD n) → Same H H' → Q v H'
def spOdd (K : PySem.W.Frag) : Sp := fun vs H Q _ => ∃ (a L : Addr) (ns : List Int) (v : V) (M : List Addr), vs = [.ref a, v] ∧ Src H a L ns ∧ GV K 5 M H v ∧ a ∈ M ∧ Trk M H ∧
  ∀ (H' : Hp) (v' : V), GV K 12 M H' v' → Src H' a L ns → SmX [a] H H' → Q v' H'
theorem isL_lett {x : Str} (h : x ∈ (["a", "b", "c", "d", "e", "f", "g", "h"] : List Str)) : isL x = true ∧ gd 0 (.str x) = true := by
  have q : ∀ x ∈ (["a", "b", "c", "d", "e", "f", "g", "h"] : List Str), isL x = true ∧ gd 0 (.str x) = true := by decide +kernel
  exact q x h
theorem nest_gd : ∀ n : Nat, gd n (nestD n) = true
  | 0 => by decide +kernel
  | n + 1 => gd_tup (fun d hd => by
      rcases List.mem_cons.mp hd with e | hd
      · rw [e]
        refine gd_le (n := 0) ?_ (Nat.zero_le _)
        split <;> decide +kernel
      · rcases List.mem_cons.mp hd with e | hd
        · rw [e]; exact nest_gd n
        · rw [List.mem_singleton.mp hd]
          exact gd_le (n := 0) (by decide +kernel) (Nat.zero_le _)) (by show 3 ≤ 1000; decide)
/-- a term made of parts -/
theorem lmeas_tup {n : Nat} {op : Str} {ds : List PyData} {t : Int} (ho : isOp (.str op) = true) (h2 : 2 ≤ ds.length) (h1 : ∀ d ∈ ds, 1 ≤ lmeas n d) (hs : (ds.map (lmeas n)).sum = t) : lmeas (n + 1) (.tuple (.str op :: ds)) = t := by
  have e : lmeas (n + 1) (.tuple (.str op :: ds)) = if (decide (2 ≤ ds.length) && isOp (.str op)) = true then (if (0 : Int) ∈ ds.map (lmeas n) then 0 else (ds.map (lmeas n)).sum) else 0 := by
    show (if false = true then _ else _) = _
    rw [if_neg (fun z => by cases z)]
    rfl
  rw [e, ho, decide_eq_true h2, Bool.and_self, if_pos rfl, if_neg, hs]
  intro z
  obtain ⟨d, hd, e⟩ := List.mem_map.mp z
  have := h1 d hd
  omega
end Fv


namespace FvW
open PySem PySem.Spec PyProof.Rows L2
/-! ### enumerate of a tuple -/
set_option maxHeartbeats 1000000 in
theorem new_enum {v : Value} {o : Obj} {B : Heap → Prop} (b : Begins v o B) : Meets (Builtin.«enumerate.__new__» ⟨[.type "enumerate", v], []⟩) (fun _ R s => B s.heap ∧ R (.ok (.ret (.ref (s.heap.push o).objs.size))) { s with heap := (s.heap.push o).push { cls := .type "enumerate", data := .fields #[.none, .bool false, .ref s.heap.objs.size, rawInt 0, .none, .none] } }) :=
  .of_wp fun prog w A R s z => by
    have hsub := sub_enumerate
    obtain ⟨hp, g, d, tk, os⟩ := s
    have it1 : ∀ {A' : Around} {E : Value → Shared → Prop} {Q : Value → Shared → Prop}, Q (.ref hp.objs.size) ⟨hp.push o, g, d, tk, os⟩ → wpAny (model prog w) A' (pyIter v) Q E ⟨hp, g, d, tk, os⟩ := fun q => b.iter prog w _ _ ⟨hp, g, d, tk, os⟩ _ z.1 q
    have fin := z.2
    wp_walk using it1
    refine wpAny_stack_any fun st => wpAny_pure ?_
    split
    next c _ _ _ _ _ =>
      cases (c == Value.type "enumerate") <;> (wp_walk using it1; exact ⟨_, rfl, fin⟩)
    next => wp_walk using it1; exact ⟨_, rfl, fin⟩
section
variable {P : Program} {w : World} {A : Around} {E : Value → Shared → Prop} {s : Shared}
theorem enum1 {v : Value} {o : Obj} {B : Heap → Prop} {Q : Value → Shared → Prop} (b : Begins v o B) (hb : B s.heap)
    (q : ∀ h1, IsEnum h1 (s.heap.objs.size + 1) s.heap.objs.size 0 .none → h1.get? s.heap.objs.size = some o → (∀ c x, s.heap.get? c = some x → h1.get? c = some x) → Q (.ref (s.heap.objs.size + 1)) { s with heap := h1 }) :
    wpAny (model P w) A (call (.type "enumerate") [v]) Q E s := by
  refine callType_new F.called_enumerate (by decide) (F.typeCall_enumerate_1 v) (F.newCall_enumerate_1 v) (fun obj => F.args_object_init_2 obj v) F.entry_enumerate_new (new_enum b) ⟨hb, ?_⟩
  have z1 : (s.heap.push o).objs.size = s.heap.objs.size + 1 := Heap.size_push ..
  have at1 := Heap.get?_push_size (s.heap.push o) (o := { cls := .type "enumerate", data := .fields #[.none, .bool false, .ref s.heap.objs.size, rawInt 0, .none, .none] }) rfl
  rw [z1] at at1
  show _ ∧ _
  rw [z1]
  exact ⟨⟨_, at1, rfl⟩, q _ at1 (Heap.get?_push_of_some _ (Heap.get?_push_size _ b.free)) fun c x e => Heap.get?_push_of_some _ (Heap.get?_push_of_some _ e)⟩
end
/-- behind the last item -/
theorem draws_end {P : Program} {w : World} {A : Around} (hh : A.handled = none) (it t : Addr) (items : Array Value) (i : Nat) (hi : items.size ≤ i) :
    Draws P w A it [it, t] i (fun _ _ => False) (fun j h => j = i ∧ h.IsTupleIter it t i ∧ h.IsTuple t items) where
  live := fun _ _ st => let ⟨o, ho, _⟩ := st.2.1; ⟨o, ho⟩
  frame := fun _ _ _ st hk => ⟨st.1, st.2.1.at fun o e => hk it (List.mem_cons_self ..) o e, st.2.2.at fun o e => hk t (List.mem_cons_of_mem _ (List.mem_singleton.mpr rfl)) o e⟩
  item := fun j s Q E hj st _ => by
    have := st.1
    omega
  done := fun s Q E st hE => wpAny_nextOf_tuple_end hh st.2.1 st.2.2 (Array.getElem?_eq_none hi) hE
/-- the tuple at a, each item in a new pair -/
def IteT (K : PySem.W.Frag) (a : Addr) : It where
  go := fun i H => ∃ (xs : List V) (x : V), SqT K H a xs ∧ xs[i]? = some x
  yld := fun i H v H' => ∃ T x, v = .ref T ∧ H T = none ∧ H' = upd H T (.tup [.int (i : Nat), x]) ∧ ∀ xs, SqT K H a xs → xs[i]? = some x
  stop := fun i H => ∃ xs : List V, SqT K H a xs ∧ xs.length ≤ i
theorem turn_enumT {P : Program} {w : World} {K : PySem.W.Frag} {elts : List Expr} {kk : Nat} {tpos : Pos} (a e it : Addr) (hai : a ≠ it) (hae : e ≠ a) :
    Turn P w K (.Tuple elts kk tpos) (IteT K a) [e, it] e (fun i h => (∃ old, IsEnum h e it ((i : Nat) : Int) old) ∧ h.IsTupleIter it a i ∧ e ≠ it) where
  mem := List.mem_cons_self ..
  obj := fun i h st b hb => by
    obtain ⟨⟨old, he⟩, ⟨o, ho, hc, hd⟩, _⟩ := st
    rcases List.mem_cons.mp hb with z | z
    · subst z
      exact ⟨_, he, fun v q => nomatch q⟩
    · exact ⟨o, (List.mem_singleton.mp z) ▸ ho, fun v q => by rw [hd] at q; cases q⟩
  keep := fun i h h' st k => ⟨st.1.imp fun old he => k e (List.mem_cons_self ..) _ he, st.2.1.at fun o q => k it (List.mem_cons_of_mem _ (List.mem_singleton.mpr rfl)) o q, st.2.2⟩
  item := by
    intro X hP hw hK hc i pins s σ H E I hf st hg
    subst hP
    subst hw
    subst hK
    obtain ⟨xs, x, hq, hx⟩ := hg
    obtain ⟨its, rv, p, hz⟩ := I.tuple hq
    obtain ⟨u, hu, ru⟩ := rv.get hx
    obtain ⟨⟨old, he⟩, hit, hne⟩ := st
    have le : e < s.heap.objs.size := Heap.lt_size he
    have li : it < s.heap.objs.size := let ⟨_, q, _⟩ := hit; Heap.lt_size q
    have hlt : i < its.toArray.size := by
      have := (List.getElem?_eq_some_iff.mp hu).1
      simpa using this
    have hin : e ∉ [it, a] := fun z => by
      rcases List.mem_cons.mp z with z | z
      · exact hne z
      · exact hae (List.mem_singleton.mp z)
    refine wpAny_pyNext_enum_itemD (Draws.tuple (A := X.A.in1) (I.ok.hd hc) it a hai its.toArray) he ⟨hit, (show s.heap.IsTuple a its.toArray from p)⟩ hlt hne hin fun y h1 tk hy ho st1 hT hsz hk => ?_
    have ey : y = u := by
      have e1 : its.toArray[i]? = some y := hy
      have e2 : its.toArray[i]? = some u := by simpa using hu
      exact Option.some.inj (e1.symm.trans e2)
    subst ey
    refine ⟨_, rfl, wpAny_letOwnedTupleGo_enum (s := { s with heap := h1, toks := tk + 1 }) ho fun h2 he2 sb => ?_⟩
    have hT2 := (sb.2 _ (Nat.ne_of_gt le)).trans hT
    have pair : ObjOk X.prog X.w (upd H s.heap.objs.size (.tup [.int (i : Nat), x])) h2 s.heap.objs.size (.tup [.int (i : Nat), x]) := ⟨by show 2 ≤ sizeLine; decide, [.int i tk, y], .cons ⟨_, rfl⟩ (.cons ru .nil), ⟨_, hT2, rfl, _, rfl⟩⟩
    have I1 : Inv X pins σ (upd H s.heap.objs.size (.tup [.int (i : Nat), x])) { s with heap := h2, toks := tk + 1 } := I.turnedNew (ch := [e, it]) (fun b ob hb q => by
      have b1 : b ≠ e := fun z => hb (z ▸ List.mem_cons_self ..)
      have b2 : b ≠ it := fun z => hb (z ▸ List.mem_cons_of_mem _ (List.mem_singleton.mpr rfl))
      exact (sb.2 b b1).trans (hk b ob b1 b2 q)) hf (Nat.le_refl _) pair
    refine ⟨.ref s.heap.objs.size, _, I1, rfl, ⟨_, x, rfl, I.hok.fresh (Nat.le_refl _), rfl, fun ys hys => by rw [I.tuple_inj hys hq]; exact hx⟩, ⟨⟨y, ?_⟩, st1.1.at fun o q => (sb.2 it (Ne.symm hne)).trans q, hne⟩, fun b hb => ?_⟩
    · rw [show ((i + 1 : Nat) : Int) = (i : Int) + 1 from by omega]
      exact he2
    · have lb : b < s.heap.objs.size := by
        rcases List.mem_cons.mp hb with z | z
        · exact z ▸ le
        · exact (List.mem_singleton.mp z) ▸ li
      rw [upd_ne (Nat.ne_of_lt lb)]
      exact (hf b hb).1
  done := by
    intro X hP hw hK hc i pins s σ H E I hf st hg
    subst hP
    subst hw
    subst hK
    obtain ⟨xs, hq, hx⟩ := hg
    obtain ⟨its, rv, p, hz⟩ := I.tuple hq
    obtain ⟨⟨old, he⟩, hit, hne⟩ := st
    have hl := rv.length
    obtain ⟨f0, f1, f2, f3, f4, f5⟩ := hf it (List.mem_cons_of_mem _ (List.mem_singleton.mpr rfl))
    have hsz : its.toArray.size ≤ i := by rw [List.size_toArray]; omega
    exact wpAny_pyNext_enum_endD (draws_end (A := X.A.in1) (I.ok.hd hc) it a its.toArray i hsz) he ⟨rfl, hit, (show s.heap.IsTuple a its.toArray from p)⟩ fun h1 eb => ⟨rfl, I.turned (t' := s.toks) (fun b o hb q => eb b o hb q) f0 f1 f3 f4 f5⟩
  self := fun _ _ _ _ _ st h => let ⟨⟨_, he⟩, _⟩ := st; wpAny_pyIter_enum he h
def iEnumT (K : PySem.W.Frag) (ta : TA) : TI := fun σ H R => ta σ H fun vs H1 => ∃ a xs, vs = [.ref a] ∧ SqT K H1 a xs ∧ R (IteT K a) H1
theorem pi_enumT {X : Cx} {e : Expr} {ta : TA} {p pos tpos : Pos} {elts : List Expr} {kk : Nat} (hg : Gl X "enumerate") (hm : X.mg "enumerate" = none) (ha : PA X [e] ta) (hs : starEach [e] X.env = [(false, eval e X.env)] := by rfl) : PI X (.Tuple elts kk tpos) (.Call (.Name "enumerate" p) [e] [] pos) (iEnumT X.K ta) := by
  refine ⟨fun pins s σ H R I h => ?_⟩
  refine Call_ (ld_blt I hg hm boot_enumerate (PyProof.Rows.callWith_type1 (thn (ha.run pos pins s σ H _ I h) fun us s1 ⟨vs, H1, I1, r1, a, xs, ex, hq, q⟩ => ?_) hs rfl))
  subst ex
  obtain ⟨u, rfl, rfl⟩ : ∃ u, us = [u] ∧ u = Value.ref a := by
    cases r1 with
    | cons r rr =>
      cases rr
      exact ⟨_, rfl, r⟩
  obtain ⟨its, rv, p1, hz⟩ := I1.tuple hq
  have la : a < s1.heap.objs.size := let ⟨_, e0, _⟩ := p1; Heap.lt_size e0
  refine enum1 (begins_tuple a its.toArray) p1 fun h1 he hit hk => wpAny_pyIter_enum he ?_
  have I2 : Inv X pins σ H1 { s1 with heap := h1 } := I1.kept (t' := s1.toks) hk
  refine ⟨s1.heap.objs.size + 1, [s1.heap.objs.size + 1, s1.heap.objs.size], _, _, H1, rfl, I2, turn_enumT a (s1.heap.objs.size + 1) s1.heap.objs.size (Nat.ne_of_lt la) (Nat.ne_of_gt (Nat.lt_succ_of_lt la)), ⟨⟨.none, he⟩, ⟨_, hit, rfl, rfl⟩, Nat.succ_ne_self _⟩, fun b hb => ?_, q⟩
  have lb : s1.heap.objs.size ≤ b := by
    rcases List.mem_cons.mp hb with z | z
    · rw [z]; exact Nat.le_succ _
    · rw [List.mem_singleton.mp z]; exact Nat.le_refl _
  exact I1.fpOk lb (I1.hok.fresh lb)
/-- one reading or the other -/
def iOr (w1 w2 : TI) : TI := fun σ H R => w1 σ H R ∨ w2 σ H R
theorem pi_or {X : Cx} {t e : Expr} {w1 w2 : TI} (h1 : PI X t e w1) (h2 : PI X t e w2) : PI X t e (iOr w1 w2) := ⟨fun pins s σ H R I h => h.elim (h1.run pins s σ H R I) (h2.run pins s σ H R I)⟩
end FvW


set_option maxHeartbeats 2000000
namespace FvX
open PySem PySem.W PySem.Calls PyProof.Rows
/-! ### an own error whose __init__ says super().__init__(text) and self.code = text -/
abbrev errScope : Scope := { kind := .function, names := [("self", .local), ("__class__", .free), ("super", .globalImplicit)], isGenerator := false, isCoroutine := false, more := [] }
abbrev errParams (pp : Pos) : Arguments := { posonlyargs := [], args := [{ arg := "self", annotation := none, pos := pp : Arg }], vararg := none, kwonlyargs := [], kw_defaults := [], kwarg := none, defaults := [] }
/-- the places of such a body's parts -/
structure ErrPos where
  (p0 p1 p2 p3 p4 p5 p6 p7 p8 p9 pp : Pos)
abbrev errBody (q : ErrPos) (msg cod : Str) (j1 j2 : Nat) : List Stmt :=
  [.Expr (.Call (.Attribute (.Call (.Name "super" q.p0) [] [] q.p1) "__init__" q.p2) [.Constant (.str msg) j1 q.p3] [] q.p4) q.p5, .Assign [.Attribute (.Name "self" q.p6) "code" q.p7] (.Constant (.str cod) j2 q.p8) q.p9]
/-- the call stands on one line -/
def LineOk (q : ErrPos) (msg : Str) (j1 : Nat) : Prop := ∀ env : Env, ∃ pl : Sem Bool, eval (.Call (.Attribute (.Call (.Name "super" q.p0) [] [] q.p1) "__init__" q.p2) [.Constant (.str msg) j1 q.p3] [] q.p4) env = (do
  let ov ← attributeBase (.Call (.Name "super" q.p0) [] [] q.p1) "__init__" env (eval (.Call (.Name "super" q.p0) [] [] q.p1) env)
  standAt q.p2.atName
  let (f, first) ← holding [ov] (getMethod ov "__init__" pl)
  callWith q.p4 f first (backTo q.p4 (starEach [.Constant (.str msg) j1 q.p3] env)) [])
abbrev veTail4 : List Value := [.type "ValueError", .type "Exception", .type "BaseException", .type "object"]
/-- what the written part says of the class at C and of its __init__ at f -/
structure ErrC (file0 : Str) (K : Frag) (C f : Addr) (qual : Str) (q : ErrPos) (msg cod : Str) (j1 j2 : Nat) : Prop where
  oex : L2.OexC K C
  fn : ∃ (oc : Value) (od an : Option Addr) (osl : Array (Option Value)) (kV doc pm ct : Value) (cda cc : Addr) (ccl cl : Value) (cdd cld : Option Addr) (vs : Array Value) (ccs csl : Array (Option Value)) (file : Str) (tf : Tok),
    K.lookup f = some ⟨oc, od, .func (ksFn "__init__" qual (errParams q.pp) (errBody q msg cod j1 j2) errScope .none kV doc pm an (.ref cda) ct cc), osl⟩ ∧ codeIn K (.ref cda) qual = true ∧ K.lookup cda = some ⟨ccl, cdd, .fields vs, ccs⟩ ∧ vs[2]? = some (.str file tf) ∧
      (file0 == file) = true ∧ K.lookup cc = some ⟨cl, cld, .cell (some (.ref C)), csl⟩
  sup : ks_superIn K C C "__init__" = some (some (.builtin "ValueError.__init__"))
  self : mroIn K C (.ref C) = some true
  isV : subIn K (.ref C) (.type "ValueError") = some true
  init : excInitIn K C veTail4 "ValueError.__new__" = true
  third : nsIn K cStatics "thirdparty.any" = some none
  code : findIn K (.ref C) "code" = some none
  find : findIn K (.ref C) "__init__" = some (some (.ref f))
  typ : typeIn K (.ref f) = some (.type "function")
section
variable {prog : Program} {w : World} {A : Around} {K : Frag} {h : Heap} {g : Array GenState} {d : Drawn} {t : Nat} {os : OsState} {R : Result → Shared → Prop} {mg mb : Str → Option Value}
  {C f a t0 : Addr} {qual msg cod : Str} {q : ErrPos} {j1 j2 : Nat}
theorem init_run (T : ErrC prog.main.file K C f qual q msg cod j1 j2) (hline : LineOk q msg j1) (htop : (prog.main.scope.names.lookup ("super" : Str)).isSome = false)
    (X : K.In h) (hg : h.Ns mainGlobals mg) (hms : mg "super" = none) (hb : h.Ns builtinsNs mb) (hmb : mb "super" = some (.type "super")) (hlim : h.NoLimit) (hroom : A.depth < recursionLimit) (ha : h.get? a = some (excObj C t0 none .none)) (haK : K.lookup a = none)
    (hq : ∀ h' t1 tk' dx tk, (∀ b o, b ≠ a → h.get? b = some o → h'.get? b = some o) → h.objs.size ≤ dx → dx ≠ a → h'.get? a = some { cls := .ref C, dict := some dx, data := .fields #[.ref t1, .none, .none, .none, .bool false, .none] } →
      h'.Ns1 dx (fun y => if y = ("code" : Str) then some (.str cod tk) else none) → R (.ok (.ret .none)) ⟨h', g, d, tk', os⟩) :
    codeAny (model prog w) A (.call (.ref f) ⟨[.ref a], []⟩) R ⟨h, g, d, t, os⟩ := by
  obtain ⟨oc, od, an, osl, kV, doc, pm, ct, cda, cc, ccl, cl, cdd, cld, vs, ccs, csl, file, tf, hf, hcd, hcode, hvs, hfile, hcell⟩ := T.fn
  refine ks_codeAny_call_defAt (binds := [("self", .ref a)]) hroom (X _ _ hf) rfl hlim (codeRec_of X hcd) rfl (.of_eq rfl) (show ∀ x ∈ errScope.names, x.2 ≠ .cell by decide) (fun y hy => ?_) (fun h1 hns hk1 => ?_)
  · rw [List.mem_singleton.mp hy]; rfl
  have X1 : K.In h1 := fun b o e => hk1 b o (X b o e)
  have ha1 : h1.get? a = some (excObj C t0 none .none) := hk1 _ _ ha
  have haL : a ≠ h.objs.size := Nat.ne_of_lt (Heap.lt_size ha)
  obtain ⟨cd, hc⟩ : ∃ cd, clsIn K C = some cd := by
    have z := T.sup
    unfold ks_superIn at z
    cases hc : clsIn K C with
    | none => rw [hc] at z; cases z
    | some cd => exact ⟨cd, rfl⟩
  obtain ⟨oD, hD0, hD2⟩ : ∃ oD, K.lookup C = some oD ∧ oD.data = .cls cd := by
    unfold clsIn at hc
    split at hc
    · rename_i c d' cd' sl ho
      cases hc
      exact ⟨_, ho, rfl⟩
    · cases hc
  have hD1 := X1 _ _ hD0
  have hsup : alongIn K "__init__" ((cd.mro.dropWhile (· != .ref C)).drop 1) = some (some (.builtin "ValueError.__init__")) := by
    have z := T.sup
    unfold ks_superIn at z
    rw [hc] at z
    exact z
  have hv : (fun x => ([("self", Value.ref a)] : List (Str × Value)).reverse.lookup x) ("self" : Str) = some (.ref a) := rfl
  -- super().__init__(text)
  obtain ⟨pl, hline⟩ := hline (callEnv (ksFn "__init__" qual (errParams q.pp) (errBody q msg cod j1 j2) errScope .none kV doc pm an (.ref cda) ct cc) h.objs.size f)
  refine ks_wpAt_execs_cons (ks_wpAt_Expr_any (ks_wpAt_MethodCall ?_ hline))
  refine ks_wpAt_super_base rfl rfl (by decide) rfl (X1 _ _ hf) rfl rfl rfl (X1 _ _ hcode) rfl hvs hfile htop ?_
  refine ks_loadName_global rfl rfl (loadGlobal_builtin (hg.keeps hk1) hms (hb.keeps hk1) hmb ⟨rfl, ?_⟩)
  refine wpAny_loadName_free rfl rfl rfl ⟨_, X1 _ _ hcell, rfl⟩ ?_
  refine wpAny_loadName_local rfl rfl hns hv ?_
  refine ks_wpAny_isType_cls hD1 hD2 ⟨rfl, ?_⟩
  refine ks_wpAny_call_super hD1 hD2 ha1 rfl (fun c e => by cases e) (looks_mroIn X1 T.self) (fun h2 hso hk2 => ?_)
  have X2 : K.In h2 := fun b o e => hk2 b o (X1 b o e)
  have ha2 := hk2 _ _ ha1
  have haC : a ≠ C := fun e => by rw [e, hD0] at haK; cases haK
  have I2 : InstAt h2 a (excObj C t0 none .none) C none := ⟨ha2, rfl, rfl, trivial⟩
  refine kxs_getMethod kxs_ValueError hso (looks_opaque X2 T.third) (l₀ := cd.mro) (fun A Q E s k z => wpAny_bind ((looks_clsIn X2 hc) A _ E s k (wpAny_pure z))) rfl X2 hsup (I2.type.andThen (looks_subIn X2 T.isV)) haC (by decide) ?_
  have nsK : ∀ {h h' : Heap} {L : Addr} {m : Str → Option Value}, h.Ns L m → (∀ b o, h.get? b = some o → h'.get? b = some o) → h'.Ns L m := fun {h h' L m} ⟨o, es, ep, e, r⟩ k => ⟨o, es, ep, k _ _ e, r⟩
  have hns2 := nsK hns hk2
  have hk3 : ∀ b o, h2.get? b = some o → (h2.push (kxs_mw "ValueError.__init__" a)).get? b = some o := fun b o e => Heap.get?_push_of_some _ e
  have hLt : h.objs.size < h2.objs.size := by
    obtain ⟨o, _, _, e, _⟩ := hns2
    exact Heap.lt_size e
  have FR : Fr (hideAll h [a]) h.objs.size (h2.push (kxs_mw "ValueError.__init__" a)) (fun x => ([("self", Value.ref a)] : List (Str × Value)).reverse.lookup x) :=
    ⟨nsK hns2 hk3, fun b o e => hk3 _ _ (hk2 _ _ (hk1 _ _ (of_hideAll _ e))), Nat.le_of_eq (hideAll_size _ _)⟩
  have NW : News (hideAll h [a]) h.objs.size (h2.push (kxs_mw "ValueError.__init__" a)) [(h2.objs.size, kxs_mw "ValueError.__init__" a), (a, excObj C t0 none .none)] := fun p hp => by
    rcases List.mem_cons.mp hp with e | hp
    · subst e
      refine ⟨Heap.get?_push_size _ rfl, Nat.ne_of_gt hLt, ?_⟩
      cases z : (hideAll h [a]).get? h2.objs.size with
      | none => rfl
      | some o => exact absurd (Heap.lt_size (of_hideAll _ z)) (Nat.lt_asymm hLt)
    · rw [List.mem_singleton.mp hp]
      exact ⟨hk3 _ _ ha2, haL, hideAll_none _ (List.mem_singleton.mpr rfl)⟩
  have X0 : K.In (hideAll h [a]) := fun b o e => hideAll_get _ (X b o e) (fun z => by
    rw [List.mem_singleton.mp z, haK] at e
    cases e)
  refine kxs_callWith1 NW (List.mem_cons_self ..) ?_
  refine Calls.spliced_cons (wpAny_Constant_str (k := j1) (pos := q.p3) (Calls.spliced_nil ⟨kxs_at NW (List.mem_cons_self ..), ?_⟩))
  refine kxs_call FR X0 NW PySem.F.excBase_ValueError T.init (List.mem_cons_self ..) (.tail (Nat.ne_of_gt (Heap.lt_size ha2)) (.head fun p hp => nomatch hp)) (by show 1 ≤ sizeLine; decide) (fun t' h4 F4 N4 _ => ?_)
  have ha4 : h4.get? a = some (excObj C t' none .none) := (N4 (a, excObj C t' none .none) (List.mem_cons_of_mem _ (List.mem_cons_of_mem _ (List.mem_cons_self ..)))).1
  have X4 : K.In h4 := fun b o e => F4.keep b o (X0 b o e)
  obtain ⟨nm, qn, N, bs, bm, sn, sub, ab, col, dd, k0, k1, k2, k3, k5, hC, hbm⟩ := T.oex.cls
  have hcl : clsIn K C = some { name := nm, bases := bs, mro := .ref C :: bm, ns := N, qualname := qn, hasDict := true, slotNames := sn, subclasses := sub, abstract := ab, collection := col, hasDel := false } := by
    unfold clsIn
    rw [hC] <;> rfl
  -- self.code = text
  refine wpAt_of_wpAny (wpAny_execs_cons (plainObj_wpAny_Assign_Attribute (wpAny_Constant_str (k := j2) (pos := q.p8) (wpAny_Name (wpAny_loadName_local rfl rfl F4.ns hv ?_) (by decide))) rfl))
  refine set_plain X4 (ox := excObj C t' none .none) (od := none) ⟨ha4, rfl, rfl, trivial⟩ T.oex.sa ?_
  refine PySem.HandSPX.exc_osa X4 ha4 hcl (show PySem.HandSPX.refsVE (.ref C :: bm) = true from hbm) rfl T.code (fun h5 tk' dx hk5 dn dne hx hn => ?_)
  have hL4 : h.objs.size ≤ h4.objs.size := by
    obtain ⟨o, _, _, e, _⟩ := F4.ns
    exact Nat.le_of_lt (Heap.lt_size e)
  refine wpAny_execs_nil (hq h5 t' tk' dx _ (fun b o hb e => hk5 b o hb (F4.keep b o (hideAll_get _ e fun z => hb (List.mem_singleton.mp z)))) (Nat.le_trans hL4 dn) dne hx hn)
end
end FvX


set_option maxHeartbeats 2000000
namespace FvX
open PySem PySem.Spec PyProof.Rows L2
section
variable {X : Cx} {C f : Addr} {qual msg cod x : Str} {q : ErrPos} {j1 j2 k : Nat} {p pos : Pos}
/-- x(): the new error, its dict at d -/
def tErr0 (C : Addr) (cod : Str) : L2.St → Hp → XK → Prop := fun _ H Q => ∀ d, H d = none → Q (.ref C) (some d) (upd H d (.xd [("code", .str cod)]))
theorem pmk_err0 (T : ErrC X.prog.main.file X.K C f qual q msg cod j1 j2) (hline : LineOk q msg j1) (htop : (X.prog.main.scope.names.lookup ("super" : Str)).isSome = false) (hms : X.mg "super" = none) (hr : Room (k + 1) X.A) (hg : Gl X x) (hm : X.mg x = some (.ref C))
    (hdb : (x == ("__debug__" : Str)) = false := by decide) : PMk X (.Call (.Name x p) [] [] pos) (tErr0 C cod) := by
  intro pins s σ H Q I h
  obtain ⟨nm, qn, N, bs, bm, sn, sub, ab, col, dd, k0, k1, k2, k3, k5, hC, hbm⟩ := T.oex.cls
  refine wpAny_Call_Name_kw (ld_glob I hg hm ?_ hdb)
  refine PySem.W.callWith_K0 I.kIn T.oex.kC ?_
  show wpAny _ _ (call (.ref C) []) _ _ _
  obtain ⟨hp, g, dr, tk, os⟩ := s
  have nK : X.K.lookup (hp.objs.size + 1) = none := by
    cases e : X.K.lookup (hp.objs.size + 1) with
    | none => rfl
    | some o => exact absurd (Nat.lt_of_succ_lt (Heap.lt_size (I.kIn _ _ e))) (Nat.lt_irrefl _)
  have fresh : H (hp.objs.size + 1) = none := I.hok.fresh (Nat.le_succ _)
  have kk : ∀ b o, hp.get? b = some o → ((hp.push (PySem.W.kdv_tup [])).push (PySem.HandSPX.excO C hp.objs.size)).get? b = some o := fun b o e => Heap.get?_push_of_some _ (Heap.get?_push_of_some _ e)
  have at1 : ((hp.push (PySem.W.kdv_tup [])).push (PySem.HandSPX.excO C hp.objs.size)).get? (hp.objs.size + 1) = some (PySem.HandSPX.excO C hp.objs.size) := by heap_get
  have I2 := I.laid (t' := tk) (a := hp.objs.size + 1) (o := exo (hp.objs.size + 1) C none) (h' := (hp.push (PySem.W.kdv_tup [])).push (PySem.HandSPX.excO C hp.objs.size)) kk (Nat.le_succ _) (exo_ok at1)
  obtain ⟨mb, hb, hbb⟩ := I.mod.blt
  refine wpAny_call (PySem.HandSPX.call_own PySem.F.excBase_ValueError (fun Y => PySem.HandSPX.refsVE_contains Y bm hbm) (I.kIn _ _ hC) (PySem.W.looks_findIn I.kIn T.find) (fun self => PySem.W.bind_fn I.kIn self T.typ) (Nat.zero_le _) ?_)
  refine init_run (mg := X.mg) (mb := mb) (t0 := hp.objs.size) T hline htop (fun b o e => kk b o (I.kIn b o e)) ((I.mod.glob.keeps I.bk).keeps kk) hms ((hb.keeps I.bk).keeps kk) ((hbb _ (by decide)).trans (by decide +kernel)) ?lim (hr.make C [] []).depth at1 nK (fun h' t1 tk' dx tk0 hk dn dne hx hn => ?_)
  case lim => exact (I.mod.nolimit.keeps I.bk).keeps kk
  have nd : H dx = none := I.hok.fresh (Nat.le_trans (by simp; omega) dn)
  have na : ∀ {b : Addr} {u : Option HO}, upd H (hp.objs.size + 1) (exo (hp.objs.size + 1) C none) b = none → b ≠ hp.objs.size + 1 := fun {b u} e z => by
    rw [z, upd_same] at e
    cases e
  have lt2 : ∀ {b : Addr} {o : Obj}, ((hp.push (PySem.W.kdv_tup [])).push (PySem.HandSPX.excO C hp.objs.size)).get? b = some o → b ≠ dx := fun {b o} e => Nat.ne_of_lt (Nat.lt_of_lt_of_le (Heap.lt_size e) dn)
  have same : ∀ {b : Addr} {o : HO}, upd H (hp.objs.size + 1) (exo (hp.objs.size + 1) C none) b = some o → o ≠ exo (hp.objs.size + 1) C none → upd (upd H dx (exd dx [("code", .str cod)])) (hp.objs.size + 1) (exo (hp.objs.size + 1) C (some dx)) b = some o := fun {b o} e ne => by
    have b1 : b ≠ hp.objs.size + 1 := fun z => by
      rw [z, upd_same] at e
      exact ne (Option.some.inj e).symm
    rw [upd_ne b1] at e
    rw [upd_ne b1, upd_ne (ne_of_none e nd)]
    exact e
  have un : Un (frs X.stack) [] (upd H (hp.objs.size + 1) (exo (hp.objs.size + 1) C none)) (upd (upd H dx (exd dx [("code", .str cod)])) (hp.objs.size + 1) (exo (hp.objs.size + 1) C (some dx))) ((hp.push (PySem.W.kdv_tup [])).push (PySem.HandSPX.excO C hp.objs.size)) h' := by
    refine ⟨fun b o e n _ _ => hk b o (na (u := none) n) e, fun b o e n _ _ => ⟨o.slots, hk b o (na (u := none) n) e⟩, fun b o e n _ => ?_, fun b o e _ => ?_, fun b xs e => same e fun z => exo_tup z.symm, fun b o u e => same e fun z => exo_frz z.symm, fun b ps e => ⟨#[], ?_⟩⟩
    · have b1 := na (u := none) n
      rw [upd_ne b1, upd_ne (lt2 e)]
      rw [upd_ne b1] at n
      exact n
    · by_cases b1 : b = hp.objs.size + 1
      · exact ⟨_, by rw [b1]; exact hx⟩
      · exact ⟨o, hk b o b1 e⟩
    · rw [Array.append_empty]
      exact same e fun z => exo_tbl z.symm
  have hok : HOk X.prog X.w (upd (upd H dx (exd dx [("code", .str cod)])) (hp.objs.size + 1) (exo (hp.objs.size + 1) C (some dx))) h' := fun b o e => by
    by_cases b1 : b = hp.objs.size + 1
    · rw [b1, upd_same] at e
      cases e
      rw [b1]
      exact exo_ok hx
    · rw [upd_ne b1] at e
      by_cases b2 : b = dx
      · rw [b2, upd_same] at e
        cases e
        rw [b2]
        exact exd_ok hn (relO_put (fs := []) ⟨_, rfl⟩ fun g => True.intro)
      · rw [upd_ne b2] at e
        have e2 : upd H (hp.objs.size + 1) (exo (hp.objs.size + 1) C none) b = some o := by rw [upd_ne b1]; exact e
        refine (I2.hok b o e2).stay (fun c v hc z => hk c v (fun c1 => ?_) z) (fun c hc => same hc fun z => exo_own z.symm) (fun c xs hc => same hc fun z => exo_tup z.symm)
        rcases hc with hc | hc
        · exact b1 (hc.symm.trans c1)
        · rw [c1, upd_same] at hc
          exact exo_own (Option.some.inj hc)
  refine ⟨rfl, mk_end (a := hp.objs.size + 1) (C := C) (d := dx) (fs := [("code", .str cod)]) (raises_own T.oex.exC T.oex.tyC) I (Nat.le_succ _) kk un hok rfl I.bare upd_same ?_ nd ?_⟩
  · rw [upd_ne dne, upd_same]
  · have e : upd (del (upd (upd H dx (exd dx [("code", .str cod)])) (hp.objs.size + 1) (exo (hp.objs.size + 1) C (some dx))) (hp.objs.size + 1)) dx (.xd [("code", .str cod)]) = upd H dx (.xd [("code", .str cod)]) := by
      funext b
      by_cases b2 : b = dx
      · rw [b2, upd_same, upd_same]
      · rw [upd_ne b2, upd_ne b2]
        by_cases b1 : b = hp.objs.size + 1
        · rw [b1, del_same, fresh]
        · rw [del_ne b1, upd_ne b1, upd_ne b2]
    rw [e]
    exact h dx nd
end
end FvX


set_option maxHeartbeats 4000000
namespace FvX
open PySem PySem.W PySem.Calls PyProof.Rows
/-! ### an own error with one field: super().__init__(f".."), self.code = text, self.f = f -/
def flds : List Str := ["index", "letter", "name", "count", "place", "limit", "line", "word"]
abbrev errScope1 (fl : Str) : Scope := { kind := .function, names := [("self", .local), (fl, .local), ("__class__", .free), ("super", .globalImplicit)], isGenerator := false, isCoroutine := false, more := [] }
abbrev errParams1 (fl : Str) (pp pp2 : Pos) : Arguments := { posonlyargs := [], args := [{ arg := "self", annotation := none, pos := pp : Arg }, { arg := fl, annotation := none, pos := pp2 : Arg }], vararg := none, kwonlyargs := [], kw_defaults := [], kwarg := none, defaults := [] }
structure ErrPos1 where
  (p0 p1 p2 p4 p5 p6 p7 p8 p9 p10 p11 p12 p13 pp pp2 : Pos)
abbrev errBody1 (q : ErrPos1) (me : Expr) (cod fl : Str) (j2 : Nat) : List Stmt :=
  [.Expr (.Call (.Attribute (.Call (.Name "super" q.p0) [] [] q.p1) "__init__" q.p2) [me] [] q.p4) q.p5, .Assign [.Attribute (.Name "self" q.p6) "code" q.p7] (.Constant (.str cod) j2 q.p8) q.p9, .Assign [.Attribute (.Name "self" q.p10) fl q.p11] (.Name fl q.p12) q.p13]
def LineOk1 (q : ErrPos1) (me : Expr) : Prop := ∀ env : Env, ∃ pl : Sem Bool, eval (.Call (.Attribute (.Call (.Name "super" q.p0) [] [] q.p1) "__init__" q.p2) [me] [] q.p4) env = (do
  let ov ← attributeBase (.Call (.Name "super" q.p0) [] [] q.p1) "__init__" env (eval (.Call (.Name "super" q.p0) [] [] q.p1) env)
  standAt q.p2.atName
  let (f, first) ← holding [ov] (getMethod ov "__init__" pl)
  callWith q.p4 f first (backTo q.p4 (starEach [me] env)) [])
/-- the message is some text; nothing else is changed -/
def MsgOk (me : Expr) (fl : Str) (u : Value) : Prop := ∀ {prog : Program} {w : World} {A : Around} {env : Env} {E : Value → Shared → Prop} {Q : Value → Shared → Prop} {h : Heap} {g : Array GenState} {d : Drawn} {t : Nat} {os : OsState},
  (∀ (p : Pos) (tk : Nat) (Q' : Value → Shared → Prop), Q' u ⟨h, g, d, tk, os⟩ → wpAny (model prog w) A (eval (.Name fl p) env) Q' E ⟨h, g, d, tk, os⟩) → (∀ y t' tk, Q (.str y t') ⟨h, g, d, tk, os⟩) → wpAny (model prog w) A (eval me env) Q E ⟨h, g, d, t, os⟩
/-- the shape of the message: one call's arguments are evaluated from the left -/
def ArgsOk (me : Expr) : Prop := ∀ env : Env, starEach [me] env = (false, eval me env) :: starEach [] env
theorem nocell (fl : Str) : ∀ x ∈ (errScope1 fl).names, x.2 ≠ .cell := by
  intro x hx
  simp only [List.mem_cons, List.not_mem_nil, or_false] at hx
  rcases hx with rfl | rfl | rfl | rfl <;> (intro z; cases z)
structure ErrC1 (file0 : Str) (K : Frag) (C f : Addr) (qual : Str) (q : ErrPos1) (me : Expr) (cod fl : Str) (j2 : Nat) : Prop where
  oex : L2.OexC K C
  fn : ∃ (oc : Value) (od an : Option Addr) (osl : Array (Option Value)) (kV doc pm ct : Value) (cda cc : Addr) (ccl cl : Value) (cdd cld : Option Addr) (vs : Array Value) (ccs csl : Array (Option Value)) (file : Str) (tf : Tok),
    K.lookup f = some ⟨oc, od, .func (ksFn "__init__" qual (errParams1 fl q.pp q.pp2) (errBody1 q me cod fl j2) (errScope1 fl) .none kV doc pm an (.ref cda) ct cc), osl⟩ ∧ codeIn K (.ref cda) qual = true ∧ K.lookup cda = some ⟨ccl, cdd, .fields vs, ccs⟩ ∧ vs[2]? = some (.str file tf) ∧
      (file0 == file) = true ∧ K.lookup cc = some ⟨cl, cld, .cell (some (.ref C)), csl⟩
  sup : ks_superIn K C C "__init__" = some (some (.builtin "ValueError.__init__"))
  self : mroIn K C (.ref C) = some true
  isV : subIn K (.ref C) (.type "ValueError") = some true
  init : excInitIn K C veTail4 "ValueError.__new__" = true
  third : nsIn K cStatics "thirdparty.any" = some none
  code : findIn K (.ref C) "code" = some none
  fld : findIn K (.ref C) fl = some none
  find : findIn K (.ref C) "__init__" = some (some (.ref f))
  typ : typeIn K (.ref f) = some (.type "function")
section
variable {prog : Program} {w : World} {A : Around} {K : Frag} {h : Heap} {g : Array GenState} {d : Drawn} {t : Nat} {os : OsState} {R : Result → Shared → Prop} {mg mb : Str → Option Value}
  {C f a t0 : Addr} {qual cod fl : Str} {q : ErrPos1} {me : Expr} {j2 : Nat} {u : Value}
theorem init_run1 (hfl : fl ∈ flds) (T : ErrC1 prog.main.file K C f qual q me cod fl j2) (hline : LineOk1 q me) (hargs : ArgsOk me) (hmsg : MsgOk me fl u) (htop : (prog.main.scope.names.lookup ("super" : Str)).isSome = false)
    (X : K.In h) (hg : h.Ns mainGlobals mg) (hms : mg "super" = none) (hb : h.Ns builtinsNs mb) (hmb : mb "super" = some (.type "super")) (hlim : h.NoLimit) (hroom : A.depth < recursionLimit) (ha : h.get? a = some (excObj C t0 none .none)) (haK : K.lookup a = none)
    (hq : ∀ h' t1 tk' dx tk, (∀ b o, b ≠ a → h.get? b = some o → h'.get? b = some o) → h.objs.size ≤ dx → dx ≠ a → h'.get? a = some { cls := .ref C, dict := some dx, data := .fields #[.ref t1, .none, .none, .none, .bool false, .none] } →
      h'.Ns1 dx (fun y => if y = fl then some u else if y = ("code" : Str) then some (.str cod tk) else none) → R (.ok (.ret .none)) ⟨h', g, d, tk', os⟩) :
    codeAny (model prog w) A (.call (.ref f) ⟨[.ref a, u], []⟩) R ⟨h, g, d, t, os⟩ := by
  simp only [flds, List.mem_cons, List.not_mem_nil, or_false] at hfl
  obtain ⟨oc, od, an, osl, kV, doc, pm, ct, cda, cc, ccl, cl, cdd, cld, vs, ccs, csl, file, tf, hf, hcd, hcode, hvs, hfile, hcell⟩ := T.fn
  rcases hfl with rfl | rfl | rfl | rfl | rfl | rfl | rfl | rfl
  all_goals
    refine ks_codeAny_call_defAt (binds := [("self", .ref a), (_, u)]) hroom (X _ _ hf) rfl hlim (codeRec_of X hcd) rfl (.of_eq rfl) (nocell _) (fun y hy => ?_) (fun h1 hns hk1 => ?_)
    · rcases List.mem_cons.mp hy with e | e
      · rw [e]; rfl
      · rw [List.mem_singleton.mp e]; rfl
    have X1 : K.In h1 := fun b o e => hk1 b o (X b o e)
    have ha1 : h1.get? a = some (excObj C t0 none .none) := hk1 _ _ ha
    have haL : a ≠ h.objs.size := Nat.ne_of_lt (Heap.lt_size ha)
    obtain ⟨cd, hc⟩ : ∃ cd, clsIn K C = some cd := by
      have z := T.sup
      unfold ks_superIn at z
      cases hc : clsIn K C with
      | none => rw [hc] at z; cases z
      | some cd => exact ⟨cd, rfl⟩
    obtain ⟨oD, hD0, hD2⟩ : ∃ oD, K.lookup C = some oD ∧ oD.data = .cls cd := by
      unfold clsIn at hc
      split at hc
      · rename_i c d' cd' sl ho
        cases hc
        exact ⟨_, ho, rfl⟩
      · cases hc
    have hD1 := X1 _ _ hD0
    have hsup : alongIn K "__init__" ((cd.mro.dropWhile (· != .ref C)).drop 1) = some (some (.builtin "ValueError.__init__")) := by
      have z := T.sup
      unfold ks_superIn at z
      rw [hc] at z
      exact z
    obtain ⟨pl, hline⟩ := hline (callEnv (ksFn "__init__" qual (errParams1 _ q.pp q.pp2) (errBody1 q me cod _ j2) (errScope1 _) .none kV doc pm an (.ref cda) ct cc) h.objs.size f)
    refine ks_wpAt_execs_cons (ks_wpAt_Expr_any (ks_wpAt_MethodCall ?_ hline))
    refine ks_wpAt_super_base rfl rfl (by decide) rfl (X1 _ _ hf) rfl rfl rfl (X1 _ _ hcode) rfl hvs hfile htop ?_
    refine ks_loadName_global rfl rfl (loadGlobal_builtin (hg.keeps hk1) hms (hb.keeps hk1) hmb ⟨rfl, ?_⟩)
    refine wpAny_loadName_free rfl rfl rfl ⟨_, X1 _ _ hcell, rfl⟩ ?_
    refine wpAny_loadName_local rfl rfl hns (show _ = some (Value.ref a) from rfl) ?_
    refine ks_wpAny_isType_cls hD1 hD2 ⟨rfl, ?_⟩
    refine ks_wpAny_call_super hD1 hD2 ha1 rfl (fun c e => by cases e) (looks_mroIn X1 T.self) (fun h2 hso hk2 => ?_)
    have X2 : K.In h2 := fun b o e => hk2 b o (X1 b o e)
    have ha2 := hk2 _ _ ha1
    have haC : a ≠ C := fun e => by rw [e, hD0] at haK; cases haK
    have I2 : InstAt h2 a (excObj C t0 none .none) C none := ⟨ha2, rfl, rfl, trivial⟩
    refine kxs_getMethod kxs_ValueError hso (looks_opaque X2 T.third) (l₀ := cd.mro) (fun A Q E s k z => wpAny_bind ((looks_clsIn X2 hc) A _ E s k (wpAny_pure z))) rfl X2 hsup (I2.type.andThen (looks_subIn X2 T.isV)) haC (by decide) ?_
    have nsK : ∀ {h h' : Heap} {L : Addr} {m : Str → Option Value}, h.Ns L m → (∀ b o, h.get? b = some o → h'.get? b = some o) → h'.Ns L m := fun {h h' L m} ⟨o, es, ep, e, r⟩ k => ⟨o, es, ep, k _ _ e, r⟩
    have hns2 := nsK hns hk2
    have hk3 : ∀ b o, h2.get? b = some o → (h2.push (kxs_mw "ValueError.__init__" a)).get? b = some o := fun b o e => Heap.get?_push_of_some _ e
    have hLt : h.objs.size < h2.objs.size := by
      obtain ⟨o, _, _, e, _⟩ := hns2
      exact Heap.lt_size e
    have FR := (⟨nsK hns2 hk3, fun b o e => hk3 _ _ (hk2 _ _ (hk1 _ _ (of_hideAll _ e))), Nat.le_of_eq (hideAll_size _ _)⟩ : Fr (hideAll h [a]) h.objs.size (h2.push (kxs_mw "ValueError.__init__" a)) _)
    have NW : News (hideAll h [a]) h.objs.size (h2.push (kxs_mw "ValueError.__init__" a)) [(h2.objs.size, kxs_mw "ValueError.__init__" a), (a, excObj C t0 none .none)] := fun p hp => by
      rcases List.mem_cons.mp hp with e | hp
      · subst e
        refine ⟨Heap.get?_push_size _ rfl, Nat.ne_of_gt hLt, ?_⟩
        cases z : (hideAll h [a]).get? h2.objs.size with
        | none => rfl
        | some o => exact absurd (Heap.lt_size (of_hideAll _ z)) (Nat.lt_asymm hLt)
      · rw [List.mem_singleton.mp hp]
        exact ⟨hk3 _ _ ha2, haL, hideAll_none _ (List.mem_singleton.mpr rfl)⟩
    have X0 : K.In (hideAll h [a]) := fun b o e => hideAll_get _ (X b o e) (fun z => by
      rw [List.mem_singleton.mp z, haK] at e
      cases e)
    refine kxs_callWith1 NW (List.mem_cons_self ..) ?_ (he := hargs _)
    rw [hargs]
    refine Calls.spliced_cons (hmsg ?_ ?_)
    · intro p tk Q' z
      exact wpAny_Name (wpAny_loadName_local rfl rfl FR.ns (show _ = some u from rfl) z) (by decide)
    intro y t' tk
    refine Calls.spliced_nil ⟨kxs_at NW (List.mem_cons_self ..), ?_⟩
    refine kxs_call FR X0 NW PySem.F.excBase_ValueError T.init (List.mem_cons_self ..) (.tail (Nat.ne_of_gt (Heap.lt_size ha2)) (.head fun p hp => nomatch hp)) (by show 1 ≤ sizeLine; decide) (fun t' h4 F4 N4 _ => ?_)
    have ha4 : h4.get? a = some (excObj C t' none .none) := (N4 (a, excObj C t' none .none) (List.mem_cons_of_mem _ (List.mem_cons_of_mem _ (List.mem_cons_self ..)))).1
    have X4 : K.In h4 := fun b o e => F4.keep b o (X0 b o e)
    obtain ⟨nm, qn, N, bs, bm, sn, sub, ab, col, dd, k0, k1, k2, k3, k5, hC, hbm⟩ := T.oex.cls
    have hcl : clsIn K C = some { name := nm, bases := bs, mro := .ref C :: bm, ns := N, qualname := qn, hasDict := true, slotNames := sn, subclasses := sub, abstract := ab, collection := col, hasDel := false } := by
      unfold clsIn
      rw [hC] <;> rfl
    -- self.code = text
    refine wpAt_of_wpAny (wpAny_execs_cons (plainObj_wpAny_Assign_Attribute (wpAny_Constant_str (k := j2) (pos := q.p8) (wpAny_Name (wpAny_loadName_local rfl rfl F4.ns (show _ = some (Value.ref a) from rfl) ?_) (by decide))) rfl))
    refine set_plain X4 (ox := excObj C t' none .none) (od := none) ⟨ha4, rfl, rfl, trivial⟩ T.oex.sa ?_
    refine PySem.HandSPX.exc_osa X4 ha4 hcl (show PySem.HandSPX.refsVE (.ref C :: bm) = true from hbm) rfl T.code (fun h5 tk' dx hk5 dn dne hx hn => ?_)
    have hL4 : h.objs.size ≤ h4.objs.size := by
      obtain ⟨o, _, _, e, _⟩ := F4.ns
      exact Nat.le_of_lt (Heap.lt_size e)
    -- self.f = f
    have nsB : ∀ {h h' : Heap} {L : Addr} {m : Str → Option Value}, h.Ns L m → (∀ b o, b ≠ a → h.get? b = some o → h'.get? b = some o) → L ≠ a → h'.Ns L m := fun {h h' L m} ⟨o, es, ep, e, r⟩ k n => ⟨o, es, ep, k _ _ n e, r⟩
    have ns5 := nsB F4.ns hk5 haL.symm
    have X5 : K.In h5 := fun b o e => hk5 b o (fun z => by rw [z, haK] at e; cases e) (X4 b o e)
    have hw : ∀ {v : Value}, Within (fun y => if y = ("code" : Str) then some v else none) [("code" : Str)] := fun {v} y hy => by
      by_cases e : y = "code"
      · rw [e]; exact List.mem_singleton.mpr rfl
      · exact absurd (if_neg e) hy
    obtain ⟨oX, _, _, hoX, _, _⟩ := hn.count hw
    refine wpAny_execs_cons (plainObj_wpAny_Assign_Attribute (wpAny_Name (wpAny_loadName_local rfl rfl ns5 (show _ = some u from rfl) (wpAny_Name (wpAny_loadName_local rfl rfl ns5 (show _ = some (Value.ref a) from rfl) ?_) (by decide))) (by decide)) rfl)
    refine set_plain X5 (ox := { cls := .ref C, dict := some dx, data := .fields #[.ref t', .none, .none, .none, .bool false, .none] }) (od := some oX) ⟨hx, rfl, rfl, hoX⟩ T.oex.sa ?_
    refine PySem.OEX.osa_old X5 hx hn hw (by decide) hcl (show PySem.HandSPX.refsVE (.ref C :: bm) = true from hbm) rfl T.fld (fun h6 tk6 hk6 hn6 => ?_)
    refine wpAny_execs_nil (hq h6 t' tk6 dx _ (fun b o hb e => ?_) (Nat.le_trans hL4 dn) dne ?_ hn6)
    · exact hk6 b o (fun z => by
        have := Heap.lt_size e
        have hh := Nat.le_trans hL4 dn
        rw [z] at this
        exact absurd (Nat.lt_of_lt_of_le this hh) (Nat.lt_irrefl _)) (hk5 b o hb (F4.keep b o (hideAll_get _ e fun z => hb (List.mem_singleton.mp z))))
    · exact hk6 a _ dne.symm hx
end
end FvX


set_option maxHeartbeats 2000000
namespace FvX
open PySem PySem.Spec PyProof.Rows L2
/-! ### the messages -/
def MsgV (u : Value) : Prop := (∃ y t, u = .str y t ∧ (reprText y).length ≤ 100000) ∨ ∃ i t, u = .int i t ∧ i.natAbs.log2 < 1920
def MsgW (v : V) : Prop := (∃ y, v = .str y ∧ (reprText y).length ≤ 100000) ∨ ∃ i, v = .int i ∧ i.natAbs.log2 < 1920
theorem MsgW.val {v : V} {u : Value} (h : MsgW v) (r : RelV v u) : MsgV u := by
  rcases h with ⟨y, rfl, hy⟩ | ⟨i, rfl, hi⟩
  · obtain ⟨t, rfl⟩ := r
    exact .inl ⟨y, t, rfl, hy⟩
  · obtain ⟨t, rfl⟩ := r
    exact .inr ⟨i, t, rfl, hi⟩
theorem emp_len (x : Str) : (Str.empty ++ x).length = x.length := by
  rw [TL.len_tl, TL.tl_append, List.length_append, ← TL.len_tl x]
  show 0 + _ = _
  omega
theorem app_len (x y : Str) : (x ++ y).length = x.length + y.length := by
  rw [TL.len_tl, TL.tl_append, List.length_append, ← TL.len_tl, ← TL.len_tl]
theorem fmt_msg {prog : Program} {w : World} {A : Around} {env : Env} {E : Value → Shared → Prop} {Q : Value → Shared → Prop} {fl : Str} {u : Value} {h : Heap} {g : Array GenState} {d : Drawn} {t : Nat} {os : OsState} {p p2 : Pos} (hu : MsgV u)
    (hn : ∀ (p : Pos) (tk : Nat) (Q' : Value → Shared → Prop), Q' u ⟨h, g, d, tk, os⟩ → wpAny (model prog w) A (eval (.Name fl p) env) Q' E ⟨h, g, d, tk, os⟩)
    (hq : ∀ y t' tk, y.length ≤ 100000 → Q (.str y t') ⟨h, g, d, tk, os⟩) : wpAny (model prog w) A (eval (.FormattedValue (.Name fl p) 114 none p2) env) Q E ⟨h, g, d, t, os⟩ := by
  refine wpAny_FormattedValue_repr (hn p t _ ?_)
  have big : ∀ n : Nat, n ≤ 100000 → n ≤ sizeLine := fun n h => Nat.le_trans h (by decide)
  rcases hu with ⟨y, t', rfl, hy⟩ | ⟨i, t', rfl, hi⟩
  · exact pyReprObj_str (wpAny_formatField_str (hq _ _ _ hy) (hq _ _ _ hy) (big _ hy)) (big _ hy)
  · have e := int_text_length_le (k := 1920) (by decide) hi
    have hy : (Str.ofString (toString i)).length ≤ 100000 := by rw [PySem.ofString_length]; omega
    exact pyReprObj_int hi (wpAny_formatField_str (hq _ _ _ hy) (hq _ _ _ hy) (big _ hy))
theorem msg2 {pre fl : Str} {u : Value} {k : Nat} {p1 p2 p3 p4 : Pos} (hp : pre.length ≤ 1000) (hu : MsgV u) : MsgOk (.JoinedStr [.Constant (.str pre) k p1, .FormattedValue (.Name fl p2) 114 none p3] p4) fl u := by
  intro prog w A env E Q h g d t os hn hq
  have big : ∀ n : Nat, n ≤ 102000 → n ≤ sizeLine := fun n h => Nat.le_trans h (by decide)
  refine wpAny_JoinedStr ?_
  show wpAny _ _ (eval (.Constant (.str pre) k p1) env) (fun v s₁ => ∃ y t, v = .str y t ∧ (Str.empty ++ y).length ≤ sizeLine ∧ wpAny _ _ (eval (.FormattedValue (.Name fl p2) 114 none p3) env) (fun v s₁ => ∃ y' t, v = .str y' t ∧ ((Str.empty ++ y) ++ y').length ≤ sizeLine ∧ _) _ s₁) _ _
  refine wpAny_Constant_str ⟨_, _, rfl, by rw [emp_len]; exact big _ (by omega), fmt_msg hu hn fun y t' tk hy => ⟨_, _, rfl, ?_, ?_, hq _ _ _⟩⟩
  · rw [app_len, emp_len]; exact big _ (by omega)
  · rw [app_len, emp_len]; exact big _ (by omega)
theorem msg3 {pre post fl : Str} {u : Value} {k k2 : Nat} {p1 p2 p3 p4 p5 : Pos} (hp : pre.length ≤ 1000) (hp2 : post.length ≤ 1000) (hu : MsgV u) : MsgOk (.JoinedStr [.Constant (.str pre) k p1, .FormattedValue (.Name fl p2) 114 none p3, .Constant (.str post) k2 p5] p4) fl u := by
  intro prog w A env E Q h g d t os hn hq
  have big : ∀ n : Nat, n ≤ 103000 → n ≤ sizeLine := fun n h => Nat.le_trans h (by decide)
  refine wpAny_JoinedStr ?_
  show wpAny _ _ (eval (.Constant (.str pre) k p1) env) (fun v s₁ => ∃ y t, v = .str y t ∧ (Str.empty ++ y).length ≤ sizeLine ∧ wpAny _ _ (eval (.FormattedValue (.Name fl p2) 114 none p3) env) (fun v s₁ => ∃ y' t, v = .str y' t ∧ ((Str.empty ++ y) ++ y').length ≤ sizeLine ∧ wpAny _ _ (eval (.Constant (.str post) k2 p5) env) (fun v s₁ => ∃ y'' t, v = .str y'' t ∧ (((Str.empty ++ y) ++ y') ++ y'').length ≤ sizeLine ∧ _) _ s₁) _ s₁) _ _
  refine wpAny_Constant_str ⟨_, _, rfl, by rw [emp_len]; exact big _ (by omega), fmt_msg hu hn fun y t' tk hy => ⟨_, _, rfl, ?_, wpAny_Constant_str ⟨_, _, rfl, ?_, ?_, hq _ _ _⟩⟩⟩
  · rw [app_len, emp_len]; exact big _ (by omega)
  · rw [app_len, app_len, emp_len]; exact big _ (by omega)
  · rw [app_len, app_len, emp_len]; exact big _ (by omega)
section
variable {X : Cx} {C f : Addr} {qual cod fl x : Str} {q : ErrPos1} {me : Expr} {j2 k : Nat} {p pos : Pos} {e : Expr} {ta : TA}
/-- x(e): the new error, its dict at d -/
def tErr1 (C : Addr) (cod fl : Str) (ta : TA) : L2.St → Hp → XK → Prop := fun σ H Q => ta σ H fun vs H1 => ∃ v, vs = [v] ∧ MsgW v ∧ ∀ d, H1 d = none → Q (.ref C) (some d) (upd H1 d (.xd [(fl, v), ("code", .str cod)]))
theorem pmk_err1 (hfl : fl ∈ flds) (T : ErrC1 X.prog.main.file X.K C f qual q me cod fl j2) (hline : LineOk1 q me) (hargs : ArgsOk me) (hme : ∀ u, MsgV u → MsgOk me fl u) (htop : (X.prog.main.scope.names.lookup ("super" : Str)).isSome = false) (hms : X.mg "super" = none) (hr : Room (k + 1) X.A) (hg : Gl X x) (hm : X.mg x = some (.ref C)) (ha : PA X [e] ta)
    (hdb : (x == ("__debug__" : Str)) = false := by decide) (he : starEach [e] X.env = (false, eval e X.env) :: starEach [] X.env := by rfl) (hpl : (backTo pos (starEach [] X.env)).any (·.1) = false := by rfl) : PMk X (.Call (.Name x p) [e] [] pos) (tErr1 C cod fl ta) := by
  intro pins s σ H Q I h
  obtain ⟨nm, qn, N, bs, bm, sn, sub, ab, col, dd, k0, k1, k2, k3, k5, hC, hbm⟩ := T.oex.cls
  refine wpAny_Call_Name_kw (ld_glob I hg hm (PySem.W.callWith_K (h₀ := X.base) I.ok.mod.kin T.oex.kC (thn (ha.run pos pins s σ H _ I h) fun us s1 z => ?_) he hpl) hdb)
  obtain ⟨vs, H1, I1, r, v, rfl, hv, h⟩ := z
  obtain ⟨u, rfl, ru⟩ := vals1 r
  clear I
  rename Inv X pins σ H1 s1 => I
  refine ⟨I.kIn, ?_⟩
  show wpAny _ _ (call (.ref C) [u]) _ _ _
  obtain ⟨hp, g, dr, tk, os⟩ := s1
  have nK : X.K.lookup (hp.objs.size + 1) = none := by
    cases e : X.K.lookup (hp.objs.size + 1) with
    | none => rfl
    | some o => exact absurd (Nat.lt_of_succ_lt (Heap.lt_size (I.kIn _ _ e))) (Nat.lt_irrefl _)
  have fresh : H1 (hp.objs.size + 1) = none := I.hok.fresh (Nat.le_succ _)
  have kk : ∀ b o, hp.get? b = some o → ((hp.push (PySem.W.kdv_tup [u])).push (PySem.HandSPX.excO C hp.objs.size)).get? b = some o := fun b o e => Heap.get?_push_of_some _ (Heap.get?_push_of_some _ e)
  have at1 : ((hp.push (PySem.W.kdv_tup [u])).push (PySem.HandSPX.excO C hp.objs.size)).get? (hp.objs.size + 1) = some (PySem.HandSPX.excO C hp.objs.size) := by heap_get
  have I2 := I.laid (t' := tk) (a := hp.objs.size + 1) (o := exo (hp.objs.size + 1) C none) (h' := (hp.push (PySem.W.kdv_tup [u])).push (PySem.HandSPX.excO C hp.objs.size)) kk (Nat.le_succ _) (exo_ok at1)
  obtain ⟨mb, hb, hbb⟩ := I.mod.blt
  refine wpAny_call (PySem.HandSPX.call_own PySem.F.excBase_ValueError (fun Y => PySem.HandSPX.refsVE_contains Y bm hbm) (I.kIn _ _ hC) (PySem.W.looks_findIn I.kIn T.find) (fun self => PySem.W.bind_fn I.kIn self T.typ) (by show 1 ≤ sizeLine; decide) ?_)
  refine init_run1 (mg := X.mg) (mb := mb) (t0 := hp.objs.size) hfl T hline hargs (hme u (hv.val ru)) htop (fun b o e => kk b o (I.kIn b o e)) ((I.mod.glob.keeps I.bk).keeps kk) hms ((hb.keeps I.bk).keeps kk) ((hbb _ (by decide)).trans (by decide +kernel)) ?lim (hr.make C [u] []).depth at1 nK (fun h' t1 tk' dx tk0 hk dn dne hx hn => ?_)
  case lim => exact (I.mod.nolimit.keeps I.bk).keeps kk
  have nd : H1 dx = none := I.hok.fresh (Nat.le_trans (by simp; omega) dn)
  have na : ∀ {b : Addr} {u : Option HO}, upd H1 (hp.objs.size + 1) (exo (hp.objs.size + 1) C none) b = none → b ≠ hp.objs.size + 1 := fun {b u} e z => by
    rw [z, upd_same] at e
    cases e
  have lt2 : ∀ {b : Addr} {o : Obj}, ((hp.push (PySem.W.kdv_tup [u])).push (PySem.HandSPX.excO C hp.objs.size)).get? b = some o → b ≠ dx := fun {b o} e => Nat.ne_of_lt (Nat.lt_of_lt_of_le (Heap.lt_size e) dn)
  have same : ∀ {b : Addr} {o : HO}, upd H1 (hp.objs.size + 1) (exo (hp.objs.size + 1) C none) b = some o → o ≠ exo (hp.objs.size + 1) C none → upd (upd H1 dx (exd dx [(fl, v), ("code", .str cod)])) (hp.objs.size + 1) (exo (hp.objs.size + 1) C (some dx)) b = some o := fun {b o} e ne => by
    have b1 : b ≠ hp.objs.size + 1 := fun z => by
      rw [z, upd_same] at e
      exact ne (Option.some.inj e).symm
    rw [upd_ne b1] at e
    rw [upd_ne b1, upd_ne (ne_of_none e nd)]
    exact e
  have un : Un (frs X.stack) [] (upd H1 (hp.objs.size + 1) (exo (hp.objs.size + 1) C none)) (upd (upd H1 dx (exd dx [(fl, v), ("code", .str cod)])) (hp.objs.size + 1) (exo (hp.objs.size + 1) C (some dx))) ((hp.push (PySem.W.kdv_tup [u])).push (PySem.HandSPX.excO C hp.objs.size)) h' := by
    refine ⟨fun b o e n _ _ => hk b o (na (u := none) n) e, fun b o e n _ _ => ⟨o.slots, hk b o (na (u := none) n) e⟩, fun b o e n _ => ?_, fun b o e _ => ?_, fun b xs e => same e fun z => exo_tup z.symm, fun b o u e => same e fun z => exo_frz z.symm, fun b ps e => ⟨#[], ?_⟩⟩
    · have b1 := na (u := none) n
      rw [upd_ne b1, upd_ne (lt2 e)]
      rw [upd_ne b1] at n
      exact n
    · by_cases b1 : b = hp.objs.size + 1
      · exact ⟨_, by rw [b1]; exact hx⟩
      · exact ⟨o, hk b o b1 e⟩
    · rw [Array.append_empty]
      exact same e fun z => exo_tbl z.symm
  have hok : HOk X.prog X.w (upd (upd H1 dx (exd dx [(fl, v), ("code", .str cod)])) (hp.objs.size + 1) (exo (hp.objs.size + 1) C (some dx))) h' := fun b o e => by
    by_cases b1 : b = hp.objs.size + 1
    · rw [b1, upd_same] at e
      cases e
      rw [b1]
      exact exo_ok hx
    · rw [upd_ne b1] at e
      by_cases b2 : b = dx
      · rw [b2, upd_same] at e
        cases e
        rw [b2]
        exact exd_ok hn (relO_put ru (relO_put (fs := []) ⟨_, rfl⟩ fun g => True.intro))
      · rw [upd_ne b2] at e
        have e2 : upd H1 (hp.objs.size + 1) (exo (hp.objs.size + 1) C none) b = some o := by rw [upd_ne b1]; exact e
        refine (I2.hok b o e2).stay (fun c v hc z => hk c v (fun c1 => ?_) z) (fun c hc => same hc fun z => exo_own z.symm) (fun c xs hc => same hc fun z => exo_tup z.symm)
        rcases hc with hc | hc
        · exact b1 (hc.symm.trans c1)
        · rw [c1, upd_same] at hc
          exact exo_own (Option.some.inj hc)
  refine ⟨rfl, mk_end (a := hp.objs.size + 1) (C := C) (d := dx) (fs := [(fl, v), ("code", .str cod)]) (raises_own T.oex.exC T.oex.tyC) I (Nat.le_succ _) kk un hok rfl I.bare upd_same ?_ nd ?_⟩
  · rw [upd_ne dne, upd_same]
  · have e : upd (del (upd (upd H1 dx (exd dx [(fl, v), ("code", .str cod)])) (hp.objs.size + 1) (exo (hp.objs.size + 1) C (some dx))) (hp.objs.size + 1)) dx (.xd [(fl, v), ("code", .str cod)]) = upd H1 dx (.xd [(fl, v), ("code", .str cod)]) := by
      funext b
      by_cases b2 : b = dx
      · rw [b2, upd_same, upd_same]
      · rw [upd_ne b2, upd_ne b2]
        by_cases b1 : b = hp.objs.size + 1
        · rw [b1, del_same, fresh]
        · rw [del_ne b1, upd_ne b1, upd_ne b2]
    rw [e]
    exact h dx nd
end
end FvX


namespace FvW
open PySem PySem.Spec PyProof.Rows L2 FvX Fv
/-! ### lists and tuples alike -/
def isSeq : PyData → Bool
  | .list _ => true
  | .tuple _ => true
  | _ => false
def rows : PyData → List PyData
  | .list ds => ds
  | .tuple ds => ds
  | _ => []
theorem isSeq_ty (d : PyData) : (isB (tyN d) "list" || isB (tyN d) "tuple") = isSeq d := by
  cases d <;> (simp only [tyN, isSeq]; decide +kernel)
/-- isinstance(x, (list, tuple)) of data -/
def rIsDL (K : PySem.W.Frag) : List V → Hp → VK → Prop := fun xs H Q => ∃ (x : V) (tp : Addr) (d : PyData), xs = [x, .ref tp] ∧ H tp = some (.tup [.ty "list", .ty "tuple"]) ∧ Dp K H x d ∧ Q (.bl (isSeq d)) H
theorem call_isDL {X : Cx} : CallR X (.builtin "isinstance") (rIsDL X.K) := by
  intro pins s σ H xs us Q I r h
  obtain ⟨x, tp, d, rfl, htp, hd, q⟩ := h
  refine call_isiT pins s σ H _ us Q I r ⟨x, tp, _, _, _, isSeq d, rfl, htp, .cons (.ty "list") (.cons (.ty "tuple") .nil), dp_ty hd, ?_, q⟩
  have e := isSeq_ty d
  refine kitAny_cons (b := isB (tyN d) "list") (kit_ty (kitB_all (by decide))) (fun e1 => ?_) (fun e1 => ?_)
  · rw [e1, Bool.false_or] at e
    refine kitAny_cons (b := isB (tyN d) "tuple") (kit_ty (kitB_all (by decide))) (fun e2 => ?_) (fun e2 => ?_)
    · rw [← e, e2]; exact kitAny_nil
    · rw [← e, e2]
  · rw [← e, e1, Bool.true_or]
theorem walk_enumT {K : PySem.W.Frag} {a : Addr} {xs : List V} : Walk (IteT K a) xs.length (fun H => SqT K H a xs) (YPair (fun i => some (.int (i : Nat))) (fun i => xs[i]?)) where
  goes := fun i _ hi q => ⟨xs, xs[i], q, List.getElem?_eq_getElem hi⟩
  stops := fun _ q => ⟨xs, q, Nat.le_refl _⟩
  yields := fun i H v H' _ q y => let ⟨T, x, h1, h2, h3, h4⟩ := y; ⟨T, .int (i : Nat), x, h1, h2, h3, rfl, h4 xs q⟩
theorem enum_or {K : PySem.W.Frag} {H0 H1 : Hp} {v : V} {d : PyData} {R : It → Hp → Prop} (hd : Dp K H0 v d) (hs : isSeq d = true) (s : Same H0 H1)
    (h : ∀ (J : It) (G : Hp → Prop) (xs : List V), DpAll K H0 xs (rows d) → Walk J xs.length G (YPair (fun i => some (.int (i : Nat))) (fun i => xs[i]?)) → (∀ H', Same H0 H' → G H') → R J H1) :
    (∃ a xs, [v] = [V.ref a] ∧ SqL K H1 a xs ∧ R (Ite K a) H1) ∨ ∃ a xs, [v] = [V.ref a] ∧ SqT K H1 a xs ∧ R (IteT K a) H1 := by
  cases hd with
  | non => cases hs
  | bl => cases hs
  | int => cases hs
  | str => cases hs
  | lst hq ha => exact .inl ⟨_, _, rfl, s.seq hq, h _ _ _ ha walk_enum fun H' s' => s'.seq hq⟩
  | tup hq ha => exact .inr ⟨_, _, rfl, same_seqT s hq, h _ _ _ ha walk_enumT fun H' s' => same_seqT s' hq⟩
theorem i_enum {K : PySem.W.Frag} {H0 H1 : Hp} {v : V} {d : PyData} {R : It → Hp → Prop} {σ : L2.St} {j : Nat} (hv : σ[j]? = some (some v)) (hd : Dp K H0 v d) (hs : isSeq d = true) (s : Same H0 H1)
    (h : ∀ (J : It) (G : Hp → Prop) (xs : List V), DpAll K H0 xs (rows d) → Walk J xs.length G (YPair (fun i => some (.int (i : Nat))) (fun i => xs[i]?)) → (∀ H', Same H0 H' → G H') → R J H1) :
    iOr (iEnum K (tCons (tVar j) tNil)) (iEnumT K (tCons (tVar j) tNil)) σ H1 R := Or.imp (fun z => ⟨v, hv, z⟩) (fun z => ⟨v, hv, z⟩) (enum_or hd hs s h)
/-- what a for over a list or a tuple wants -/
theorem seq_or {K : PySem.W.Frag} {H0 H1 : Hp} {v : V} {d : PyData} {R : It → Hp → Prop} (hd : Dp K H0 v d) (hs : isSeq d = true) (s : Same H0 H1)
    (h : ∀ (J : It) (G : Hp → Prop) (xs : List V), DpAll K H0 xs (rows d) → Walk J xs.length G (YAt xs) → (∀ H', Same H0 H' → G H') → R J H1) :
    (∃ a, v = V.ref a ∧ (∃ xs, SqL K H1 a xs) ∧ R (Itl K a) H1) ∨ ∃ a, v = V.ref a ∧ (∃ xs, SqT K H1 a xs) ∧ R (Itt K a) H1 := by
  cases hd with
  | non => cases hs
  | bl => cases hs
  | int => cases hs
  | str => cases hs
  | lst hq ha => exact .inl ⟨_, rfl, ⟨_, s.seq hq⟩, h _ _ _ ha walk_list fun H' s' => s'.seq hq⟩
  | tup hq ha => exact .inr ⟨_, rfl, ⟨_, same_seqT s hq⟩, h _ _ _ ha walk_tup fun H' s' => same_seqT s' hq⟩
/-- an error with one field -/
def errF (C : Addr) (cod fl : Str) (v : V) (H : Hp) (E : XK) : Prop := ∀ (H' : Hp) (dd : Addr), Same H H' → H' dd = some (.xd [(fl, v), ("code", .str cod)]) → E (.ref C) (some dd) H'
theorem errF.mono {C : Addr} {cod fl : Str} {v : V} {H H1 : Hp} {E : XK} (h : errF C cod fl v H E) (s : Same H H1) : errF C cod fl v H1 E := fun H' dd s' e => h H' dd (s.trans s') e
end FvW


namespace FvW
open PySem PySem.Spec PyProof.Rows L2 FvX Fv
theorem pi_tupK {X : Cx} {K : PySem.W.Frag} {tg l : Expr} {tl : TE} (hK : X.K = K) (hl : PE X l tl) : PI X tg l (iTup K tl) := by
  subst hK
  exact pi_tup hl
theorem sl_tupK {X : Cx} {K : PySem.W.Frag} (hK : X.K = K) : SlR X (rSlT K) := by
  subst hK
  exact sl_tup
/-! ### [e for x in xs for y in ys]: the two loops -/
theorem in_it {J : It} {n : Nat} {G : Hp → Prop} {Y : Nat → Hp → V → Hp → Prop} (w : Walk J n G Y) {g : TG} {tt : TT} {te : TE} {vs : List Nat} {σ : L2.St} {H0 : Hp} {D : Addr} {N : Hp → Prop} (P : Nat → Hp → Prop) (h0 : P 0 H0) (hG : ∀ j H, j ≤ n → P j H → G H)
    (hs : ∀ j x H H', j < n → P j H → Y j H x H' → g x (wipe σ vs) H' fun σ3 H5 => wipe σ3 vs = wipe σ vs ∧ tt σ3 H5 fun b H6 => if b = true then te σ3 H6 fun y H7 => ∃ acc, H7 D = some (.lst acc) ∧ acc.length < sizeLine ∧ P (j + 1) (upd H7 D (.lst (acc ++ [y]))) else P (j + 1) H6)
    (hd : ∀ H, P n H → N H) :
    ∃ W : Nat → Nat → Hp → Prop, (∃ m, W 0 m H0) ∧ ∀ j k H, W j k H → (J.stop j H ∧ N H) ∨ (J.go j H ∧ ∃ Nx : Hp → Prop, (∀ H', Nx H' → ∃ k', k' < k ∧ W (j + 1) k' H') ∧ ∀ x H', J.yld j H x H' → g x (wipe σ vs) H' fun σ3 H5 => wipe σ3 vs = wipe σ vs ∧ tt σ3 H5 fun b H6 => if b = true then te σ3 H6 fun y H7 => ∃ acc, H7 D = some (.lst acc) ∧ acc.length < sizeLine ∧ Nx (upd H7 D (.lst (acc ++ [y]))) else Nx H6) := by
  refine ⟨fun j k H => k = n - j ∧ j ≤ n ∧ P j H, ⟨n - 0, rfl, Nat.zero_le n, h0⟩, fun j k H z => ?_⟩
  obtain ⟨ek, hj, p⟩ := z
  have hg := hG j H hj p
  rcases Nat.lt_or_ge j n with lt | ge
  · exact .inr ⟨w.goes j H lt hg, P (j + 1), fun H' p' => ⟨n - (j + 1), by omega, rfl, lt, p'⟩, fun x H' y => hs j x H H' lt p (w.yields j H x H' lt hg y)⟩
  · have e : n = j := Nat.le_antisymm ge hj
    subst e
    exact .inl ⟨w.stops H hg, hd H p⟩
theorem lc2_it {J : It} {n : Nat} {G : Hp → Prop} {Y : Nat → Hp → V → Hp → Prop} (w : Walk J n G Y) {g g1 : TG} {tt tt1 : TT} {te : TE} {wi1 : TI} {vs vs1 : List Nat} {σ : L2.St} {H1 : Hp} {D : Addr} {Qd : Hp → Prop} (P : Nat → Hp → Prop) (h0 : P 0 (upd H1 D (.lst []))) (hG : ∀ i H, i ≤ n → P i H → G H)
    (hs : ∀ i x H H', i < n → P i H → Y i H x H' → g x (wipe σ vs) H' fun σ2 H2 => wipe σ2 vs = wipe σ vs ∧ tt σ2 H2 fun b H3 => if b = true then wi1 σ2 H3 (fun J1 H4 => ∃ W1 : Nat → Nat → Hp → Prop, (∃ m, W1 0 m H4) ∧ ∀ j k H, W1 j k H → (J1.stop j H ∧ P (i + 1) H) ∨ (J1.go j H ∧ ∃ Nx1 : Hp → Prop, (∀ H', Nx1 H' → ∃ k', k' < k ∧ W1 (j + 1) k' H') ∧ ∀ x H', J1.yld j H x H' → g1 x (wipe σ2 vs1) H' fun σ3 H5 => wipe σ3 vs1 = wipe σ2 vs1 ∧ tt1 σ3 H5 fun b H6 => if b = true then te σ3 H6 fun y H7 => ∃ acc, H7 D = some (.lst acc) ∧ acc.length < sizeLine ∧ Nx1 (upd H7 D (.lst (acc ++ [y]))) else Nx1 H6)) else P (i + 1) H3)
    (hd : ∀ H, P n H → Qd H) :
    ∃ W : Nat → Nat → Hp → Prop, (∃ m, W 0 m (upd H1 D (.lst []))) ∧ ∀ i m H, W i m H → (J.stop i H ∧ Qd H) ∨ (J.go i H ∧ ∃ Nx : Hp → Prop, (∀ H', Nx H' → ∃ m', m' < m ∧ W (i + 1) m' H') ∧ ∀ x H', J.yld i H x H' → g x (wipe σ vs) H' fun σ2 H2 => wipe σ2 vs = wipe σ vs ∧ tt σ2 H2 fun b H3 => if b = true then wi1 σ2 H3 (fun J1 H4 => ∃ W1 : Nat → Nat → Hp → Prop, (∃ m, W1 0 m H4) ∧ ∀ j k H, W1 j k H → (J1.stop j H ∧ Nx H) ∨ (J1.go j H ∧ ∃ Nx1 : Hp → Prop, (∀ H', Nx1 H' → ∃ k', k' < k ∧ W1 (j + 1) k' H') ∧ ∀ x H', J1.yld j H x H' → g1 x (wipe σ2 vs1) H' fun σ3 H5 => wipe σ3 vs1 = wipe σ2 vs1 ∧ tt1 σ3 H5 fun b H6 => if b = true then te σ3 H6 fun y H7 => ∃ acc, H7 D = some (.lst acc) ∧ acc.length < sizeLine ∧ Nx1 (upd H7 D (.lst (acc ++ [y]))) else Nx1 H6)) else Nx H3) := by
  refine ⟨fun i m H => m = n - i ∧ i ≤ n ∧ P i H, ⟨n - 0, rfl, Nat.zero_le n, h0⟩, fun i m H z => ?_⟩
  obtain ⟨em, hi, p⟩ := z
  have hg := hG i H hi p
  rcases Nat.lt_or_ge i n with lt | ge
  · exact .inr ⟨w.goes i H lt hg, P (i + 1), fun H' p' => ⟨n - (i + 1), by omega, rfl, lt, p'⟩, fun x H' y => hs i x H H' lt p (w.yields i H x H' lt hg y)⟩
  · have e : n = i := Nat.le_antisymm ge hi
    subst e
    exact .inl ⟨w.stops H hg, hd H p⟩
/-- no if stands there -/
theorem yes_it {σ : L2.St} {H : Hp} {A B : Hp → Prop} (h : A H) : tYes σ H fun b H' => if b = true then A H' else B H' := by
  show if true = true then A H else B H
  rw [if_pos rfl]
  exact h
theorem i_seq {K : PySem.W.Frag} {H0 H1 : Hp} {v : V} {d : PyData} {R : It → Hp → Prop} {σ : L2.St} {j : Nat} (hv : σ[j]? = some (some v)) (hd : Dp K H0 v d) (hs : isSeq d = true) (s : Same H0 H1)
    (h : ∀ (J : It) (G : Hp → Prop) (xs : List V), DpAll K H0 xs (rows d) → Walk J xs.length G (YAt xs) → (∀ H', Same H0 H' → G H') → R J H1) :
    iOr (iList K (tVar j)) (iTup K (tVar j)) σ H1 R := Or.imp (fun z => ⟨v, hv, z⟩) (fun z => ⟨v, hv, z⟩) (seq_or hd hs s h)
end FvW


namespace Fv
open PySem PySem.Spec PyProof.Rows L2 FvX FvW
theorem pi_listK {X : Cx} {K : PySem.W.Frag} {tg l : Expr} {tl : TE} (hK : X.K = K) (hl : PE X l tl) : PI X tg l (iList K tl) := by
  subst hK
  exact pi_list hl
theorem cr_allK {X : Cx} {K : PySem.W.Frag} (hK : X.K = K) (hc : X.calm = true) : CallR X (.builtin "all") (rAll K) := by
  subst hK
  exact cr_all hc
theorem pe_joinK {X : Cx} {K : PySem.W.Frag} {o e : Expr} {to te : TE} {apos pos : Pos} (hK : X.K = K) (ho : PE X o to) (he : PE X e te) (hs : starEach [e] X.env = [(false, eval e X.env)] := by rfl) (hbase : attributeBase o "join" X.env (eval o X.env) = eval o X.env := by rfl) (hline : (apos.endLine == pos.line) = true := by rfl) :
    PE X (.Call (.Attribute o "join" apos) [e] [] pos) (tM1 (fun x xs H Q => ∃ a p, ∃ ys : List Str, x = .str a ∧ xs = [.ref p] ∧ (SqL K H p (ys.map V.str) ∨ SqT K H p (ys.map V.str)) ∧
      (ys.map (·.length)).sum + ys.length * a.length ≤ 16777216 ∧ Q (.str (Txt.join a ys)) H) to te) := by
  subst hK
  exact pe_join ho he hs hbase hline
theorem smx_none' {a L : Addr} {ns : List Int} {H H' : Hp} {p : Addr} (s : SmX [a] H H') (hs : Src H' a L ns) (n : H' p = none) : H p = none := by
  cases e : H p with
  | none => rfl
  | some o =>
    by_cases c : p = a
    · obtain ⟨_, _, _, _, e', _⟩ := hs
      rw [c, e'] at n; cases n
    · rw [s _ _ (fun z => c (List.mem_singleton.mp z)) e] at n; cases n
theorem Src.neL' {H : Hp} {a L l : Addr} {ns : List Int} (h : Src H a L ns) (n : H l = none) : l ≠ L := fun z => by
  obtain ⟨_, _, _, _, _, e, _⟩ := h
  rw [← z, n] at e; cases e
def natsV (ms : List Nat) : List V := ms.map fun x => V.int (x : Nat)
theorem bitAnd_nat (a b : Nat) : Builtin.bitAnd ((a : Nat) : Int) ((b : Nat) : Int) = ((a &&& b : Nat) : Int) := by
  unfold Builtin.bitAnd
  rw [decide_eq_true (Int.natCast_nonneg a), decide_eq_true (Int.natCast_nonneg b)]
  show ((((a : Int).toNat &&& (b : Int).toNat : Nat)) : Int) = _
  rw [Int.toNat_natCast, Int.toNat_natCast]
theorem inV_nats (x : Nat) : ∀ ms : List Nat, inV (.int (x : Nat)) (natsV ms) = decide (x ∈ ms)
  | [] => rfl
  | a :: ms => by
    have ih := inV_nats x ms
    unfold inV natsV at ih ⊢
    rw [List.map_cons, List.any_cons, ih, Bool.eq_iff_iff, Bool.or_eq_true, decide_eq_true_eq, decide_eq_true_eq, List.mem_cons]
    refine or_congr ?_ Iff.rfl
    show decide ((a : Int) = (x : Int)) = true ↔ _
    rw [decide_eq_true_eq]
    omega
theorem flat_nats (ms : List Nat) : (natsV ms).all flatV = true := by
  unfold natsV
  rw [List.all_map]
  exact List.all_eq_true.mpr fun v _ => rfl
theorem nats_get {ms : List Nat} {j : Nat} {x : V} (h : (natsV ms)[j]? = some x) : ∃ a, ms[j]? = some a ∧ x = .int (a : Nat) := by
  unfold natsV at h
  rw [List.getElem?_map] at h
  cases e : ms[j]? with
  | none => rw [e] at h; cases h
  | some a => rw [e] at h; exact ⟨a, rfl, (Option.some.inj h).symm⟩
theorem nats_len (ms : List Nat) : (natsV ms).length = ms.length := by unfold natsV; rw [List.length_map]
theorem nodup_lt : ∀ (n : Nat) (ms : List Nat), ms.Nodup → (∀ a ∈ ms, a < n) → ms.length ≤ n
  | 0, [], _, _ => Nat.le_refl _
  | 0, a :: ms, _, h => absurd (h a List.mem_cons_self) (Nat.not_lt_zero _)
  | n + 1, ms, nd, h => by
    have ih := nodup_lt n (ms.erase n) (nd.erase n) fun a ha => by
      have h1 := h a (List.mem_of_mem_erase ha)
      have h2 : a ≠ n := fun z => by
        rw [z] at ha
        exact (List.Nodup.mem_erase_iff nd).mp ha |>.1 rfl
      omega
    have h3 := List.length_erase (a := n) (l := ms)
    by_cases c : n ∈ ms
    · rw [if_pos c] at h3; omega
    · rw [if_neg c] at h3; omega
def unI : V → Nat
  | .int i => i.toNat
  | _ => 0
theorem perm_nats {ys : List V} {ms : List Nat} (h : ys.Perm (natsV ms)) : ∃ ns, ns.Perm ms ∧ ys = natsV ns := by
  refine ⟨ys.map unI, ?_, ?_⟩
  · have z := h.map unI
    unfold natsV at z
    rw [List.map_map] at z
    have e : ms.map (unI ∘ fun x : Nat => V.int (x : Nat)) = ms := by
      refine Eq.trans (List.map_congr_left (g := id) fun x _ => ?_) (List.map_id ms)
      show ((x : Nat) : Int).toNat = x
      exact Int.toNat_natCast x
    rw [e] at z
    exact z
  · unfold natsV
    rw [List.map_map]
    refine Eq.trans (List.map_id ys).symm (List.map_congr_left fun y hy => ?_)
    obtain ⟨x, _, rfl⟩ := List.mem_map.mp (h.mem_iff.mp hy)
    show V.int (x : Nat) = V.int ((((x : Nat) : Int).toNat : Nat) : Int)
    rw [Int.toNat_natCast]
end Fv


namespace Fv
open PySem PySem.Spec PyProof.Rows L2
def topS (i : Nat) : Stmt := PySem.Challenge.pw_fivefault_k73_whole_large_boards_spread.main.body.getD i (.Pass ⟨0, 0, 0, 0⟩)
-- top 39  slots: 0:_law_source_here 1:_law_many 2:_law_cell 3:_law_digit 4:_law_mixed_here
abbrev s_law_take : Stmt := topS 39
abbrev N_law_take : List Str := ["_law_source_here", "_law_many", "_law_cell", "_law_digit", "_law_mixed_here"]
theorem sc_law_take : FnScope N_law_take ["_law_source_here", "_law_many"] (defScope s_law_take) := ⟨rfl, rfl, rfl, by decide +kernel, rfl, by decide +kernel, by decide +kernel⟩

theorem at_int {ns : List Int} {i : Int} (h0 : 0 ≤ i) (h : i < ((ns.map V.int).length : Nat)) : ∃ v : Int, atI (ns.map V.int) i = some (.int v) := by
  rw [List.length_map] at h
  have hk : i.toNat < ns.length := by omega
  have q : atI (ns.map V.int) ((i.toNat : Nat) : Int) = some (.int ns[i.toNat]) := atI_nat (by rw [List.getElem?_map, List.getElem?_eq_getElem hk] <;> rfl)
  rw [show ((i.toNat : Nat) : Int) = i by omega] at q
  exact ⟨_, q⟩
def zz (st c : Int) : Int := (((st * st) % 2147483629 + 40507 * (c + 1)) * 48271 + st + 17) % 2147483629
theorem pos1 : (0 : Int) < 2147483587 := by decide
theorem pos2 : (0 : Int) < 2147483629 := by decide
theorem pos3 : (0 : Int) < 8191 := by decide
section
variable {P : Program} {w : World} {K : PySem.W.Frag} {mg : Str → Option Value} {base : Heap}
theorem ok_take {f : Addr} {fd : FuncData} {k : Nat} (F : Fun K "_law_take" "_law_take" s_law_take f fd) (m_len : mg "len" = none) (m_int : mg "int" = none) :
    FnOk P w K mg base CX0 (k + 1) f fd ["_law_source_here", "_law_many"] spTake := by
  refine F.ok sc_law_take (fun vs H Q E h => ?_) (fun cdv A outer s H vs Q E hr h => ?_)
  · obtain ⟨a, L, ns, n, rfl, _⟩ := h
    rfl
  · obtain ⟨a, L, ns, n, rfl, ⟨i, p, st, c, hA, hL, h0, h1, h2⟩, n1, n2, q⟩ := h
    have aL : L ≠ a := fun e => by
      rw [e, hA] at hL
      cases ns with
      | nil => cases hL
      | cons x r => cases hL
    refine ⟨_, (C8.pss_cut (ps_if (PW.pt (pw_and (pt_cmpR op_eq (pe_ix ix_list (pv 0) pe_int (fun _ _ => rfl)) pe_int (nomark _)) (pw_and1 (pt_cmpR op_lt (pe_ix ix_list (pv 0) pe_int (fun _ _ => rfl)) (pe_callB call_len_seq (by rfl) m_len (by decide +kernel) (pa_cons (pe_ix ix_list (pv 0) pe_int (fun _ _ => rfl)) pa_nil)) (nomark _)))))
        (pss_cons (ps_set (i := 2) sc_law_take.nd rfl (by first | exact .inl rfl | exact .inr rfl) (pe_ix ix_list (pe_ix ix_list (pv 0) pe_int (fun _ _ => rfl)) (pe_ix ix_list (pv 0) pe_int (fun _ _ => rfl)) (fun _ _ => rfl)))
        (pss_cons (ps_asg (pe_op op_add (pe_ix ix_list (pv 0) pe_int (fun _ _ => rfl)) pe_int) (pg_sub (pv 0) pe_int set_list))
        (pss_one (ps_if (pt_cmpR op_ge (pv 2) (pe_op op_pow pe_int pe_int) (nomark _))
          (pss_one (ps_asg (pv 2) (pg_sub (pv 0) pe_int set_list)))
          (pss_one (ps_asg (pe_op op_mod (pe_callTy call_int1 (by rfl) m_int (by decide +kernel) (pa_cons (pe_op op_add (pe_op op_add (pe_op op_mul (pe_ix ix_list (pv 0) pe_int (fun _ _ => rfl)) pe_int) (pe_op op_mul (pe_op op_mod (pe_callTy call_int1 (by rfl) m_int (by decide +kernel) (pa_cons (pv 2) pa_nil)) pe_int) pe_int)) pe_int) pa_nil)) pe_int) (pg_sub (pv 0) pe_int set_list)))))))
        pss_nil)
      (pss_cons (ps_if (pt_cmpR op_gt (pe_ix ix_list (pv 0) pe_int (fun _ _ => rfl)) pe_int (nomark _))
        (pss_cons (ps_set (i := 3) sc_law_take.nd rfl (by first | exact .inl rfl | exact .inr rfl) (pe_op op_mod (pe_callTy call_int1 (by rfl) m_int (by decide +kernel) (pa_cons (pe_ix ix_list (pv 0) pe_int (fun _ _ => rfl)) pa_nil)) (pv 1)))
        (pss_cons (ps_asg (pe_op op_fdiv (pe_ix ix_list (pv 0) pe_int (fun _ _ => rfl)) (pv 1)) (pg_sub (pv 0) pe_int set_list))
        (pss_one (ps_ret (pv 3)))))
        pss_nil)
      (pss_cons (ps_asg (pe_op op_add (pe_ix ix_list (pv 0) pe_int (fun _ _ => rfl)) pe_int) (pg_sub (pv 0) pe_int set_list))
      (pss_cons (ps_set (i := 4) sc_law_take.nd rfl (by first | exact .inl rfl | exact .inr rfl) (pe_op op_add (pe_op op_mod (pe_callTy call_int1 (by rfl) m_int (by decide +kernel) (pa_cons (pe_op op_mul (pe_ix ix_list (pv 0) pe_int (fun _ _ => rfl)) (pe_ix ix_list (pv 0) pe_int (fun _ _ => rfl))) pa_nil)) pe_int) (pe_op op_mul pe_int (pe_ix ix_list (pv 0) pe_int (fun _ _ => rfl)))))
      (pss_cons (ps_asg (pe_op op_mod (pe_callTy call_int1 (by rfl) m_int (by decide +kernel) (pa_cons (pe_op op_add (pe_op op_add (pe_op op_mul (pv 4) pe_int) (pe_ix ix_list (pv 0) pe_int (fun _ _ => rfl))) pe_int) pa_nil)) pe_int) (pg_sub (pv 0) pe_int set_list))
      (pss_one (ps_ret (pe_op op_mod (pe_callTy call_int1 (by rfl) m_int (by decide +kernel) (pa_cons (pe_op op_add (pe_op op_fdiv (pe_ix ix_list (pv 0) pe_int (fun _ _ => rfl)) pe_int) (pe_op op_mul (pe_op op_mod (pe_callTy call_int1 (by rfl) m_int (by decide +kernel) (pa_cons (pe_ix ix_list (pv 0) pe_int (fun _ _ => rfl)) pa_nil)) pe_int) pe_int)) pa_nil)) (pv 1))))))))), ?_⟩
    refine ⟨fun σ' H' => ∃ (y2 : Option V) (i p st c : Int), σ' = [some (.ref a), some (.int n), y2, none, none] ∧ H' a = some (.lst [.ref L, .int i, .int p, .int st, .int c]) ∧ H' L = some (.lst (ns.map V.int)) ∧ 0 ≤ i ∧ 0 ≤ st ∧ st < 2147483629 ∧ (∀ b, b ≠ a → H' b = H b), ?_, ?_⟩
    · -- the first if
      refine ⟨_, rfl, a, _, _, _, rfl, rfl, SqL.of hA, rfl, rfl, _, rfl, ?_⟩
      refine ite2 (fun c0 => ?_) (fun c0 => ?_)
      · refine ⟨_, rfl, a, _, _, _, rfl, rfl, SqL.of hA, rfl, _, rfl, a, _, _, _, rfl, rfl, SqL.of hA, rfl, L, _, rfl, .inl (SqL.of hL), _, _, rfl, rfl, _, rfl, ?_⟩
        refine ite2 (fun c1 => ?_) (fun c1 => ?_)
        · obtain ⟨v, hv⟩ := at_int h0 (of_decide_eq_true c1)
          refine ⟨_, rfl, a, _, _, _, rfl, rfl, SqL.of hA, rfl, _, rfl, a, _, _, _, rfl, rfl, SqL.of hA, rfl, L, _, _, _, rfl, rfl, SqL.of hL, hv, ?_⟩
          refine ⟨_, rfl, a, _, _, _, rfl, rfl, SqL.of hA, rfl, _, _, rfl, rfl, _, rfl, a, _, _, _, rfl, rfl, hA, rfl, ?_⟩
          have hA2 : (upd H a (.lst [.ref L, .int (i + 1), .int p, .int st, .int c])) a = some (.lst [.ref L, .int (i + 1), .int p, .int st, .int c]) := upd_same
          refine ⟨_, rfl, _, _, rfl, rfl, ⟨by decide, by decide, by decide⟩, _, _, rfl, rfl, _, rfl, ?_⟩
          refine ite2 (fun c2 => ?_) (fun c2 => ?_)
          · refine ⟨_, rfl, _, rfl, a, _, _, _, rfl, rfl, hA2, rfl, ?_⟩
            refine ⟨some (.int v), i + 1, v, st, c, rfl, upd_same, ?_, by omega, h1, h2, fun b nb => ?_⟩
            · rw [upd_ne aL, upd_ne aL]; exact hL
            · rw [upd_ne nb, upd_ne nb]
          · refine ⟨_, rfl, a, _, _, _, rfl, rfl, SqL.of hA2, rfl, _, _, rfl, rfl, .inr ⟨by decide, by decide⟩, _, rfl, .inl ⟨_, rfl, _, _, rfl, rfl, pos1, _, _, rfl, rfl, .inr ⟨by decide, by decide⟩, _, _, rfl, rfl, _, _, rfl, rfl, .inl ⟨_, rfl, _, _, rfl, rfl, pos2, ?_⟩⟩⟩
            refine ⟨_, rfl, a, _, _, _, rfl, rfl, hA2, rfl, ?_⟩
            refine ⟨some (.int v), i + 1, p, _, c, rfl, upd_same, ?_, by omega, ?_, ?_, fun b nb => ?_⟩
            · rw [upd_ne aL, upd_ne aL]; exact hL
            · exact Int.emod_nonneg _ (by decide)
            · exact Int.emod_lt_of_pos _ (by decide)
            · rw [upd_ne nb, upd_ne nb]
        · exact ⟨none, i, p, st, c, rfl, hA, hL, h0, h1, h2, fun b nb => rfl⟩
      · exact iteF ⟨none, i, p, st, c, rfl, hA, hL, h0, h1, h2, fun b nb => rfl⟩
    · rintro σ' H' ⟨y2, i, p, st, c, rfl, hA, hL, h0, h1, h2, off⟩
      refine ⟨_, rfl, a, _, _, _, rfl, rfl, SqL.of hA, rfl, _, _, rfl, rfl, _, rfl, ?_⟩
      refine ite2 (fun c0 => ?_) (fun c0 => ?_)
      · have cp : p > 0 := of_decide_eq_true c0
        refine ⟨_, rfl, a, _, _, _, rfl, rfl, SqL.of hA, rfl, .inl ⟨_, rfl, _, rfl, _, _, rfl, rfl, by omega, ?_⟩⟩
        refine ⟨_, rfl, a, _, _, _, rfl, rfl, SqL.of hA, rfl, _, rfl, _, _, rfl, rfl, ⟨by omega, by omega⟩, _, rfl, a, _, _, _, rfl, rfl, hA, rfl, ?_⟩
        refine ⟨_, rfl, q _ _ (Int.emod_nonneg _ (by omega)) (Int.emod_lt_of_pos _ (by omega)) ⟨i, _, st, c, upd_same, ?_, h0, h1, h2⟩ fun b nb => ?_⟩
        · rw [upd_ne aL]; exact hL
        · rw [upd_ne nb]; exact off b nb
      · refine ⟨_, rfl, a, _, _, _, rfl, rfl, SqL.of hA, rfl, _, _, rfl, rfl, _, rfl, a, _, _, _, rfl, rfl, hA, rfl, ?_⟩
        have hA2 : (upd H' a (.lst [.ref L, .int i, .int p, .int st, .int (c + 1)])) a = some (.lst [.ref L, .int i, .int p, .int st, .int (c + 1)]) := upd_same
        refine ⟨_, rfl, a, _, _, _, rfl, rfl, SqL.of hA2, rfl, _, rfl, a, _, _, _, rfl, rfl, SqL.of hA2, rfl, _, _, rfl, rfl, .inl ⟨by omega, by omega⟩, .inl ⟨_, rfl, _, _, rfl, rfl, pos2, ?_⟩⟩
        refine ⟨_, rfl, a, _, _, _, rfl, rfl, SqL.of hA2, rfl, _, _, rfl, rfl, .inl ⟨by decide, by decide⟩, _, _, rfl, rfl, ?_⟩
        refine ⟨_, rfl, _, _, rfl, rfl, .inr ⟨by decide, by decide⟩, _, rfl, a, _, _, _, rfl, rfl, SqL.of hA2, rfl, _, _, rfl, rfl, _, _, rfl, rfl, .inl ⟨_, rfl, _, _, rfl, rfl, pos2, ?_⟩⟩
        refine ⟨_, rfl, a, _, _, _, rfl, rfl, hA2, rfl, ?_⟩
        have z0 : 0 ≤ zz st c := Int.emod_nonneg _ (by decide)
        have z1 : zz st c < 2147483629 := Int.emod_lt_of_pos _ (by decide)
        have hA3 : (upd (upd H' a (.lst [.ref L, .int i, .int p, .int st, .int (c + 1)])) a (.lst [.ref L, .int i, .int p, .int (zz st c), .int (c + 1)])) a = some (.lst [.ref L, .int i, .int p, .int (zz st c), .int (c + 1)]) := upd_same
        refine ⟨_, rfl, a, _, _, _, rfl, rfl, SqL.of hA3, rfl, _, _, rfl, rfl, ⟨by decide, by decide⟩, ?_⟩
        refine ⟨_, rfl, a, _, _, _, rfl, rfl, SqL.of hA3, rfl, .inl ⟨_, rfl, _, _, rfl, rfl, pos3, _, _, rfl, rfl, .inr ⟨by decide, by decide⟩, _, _, rfl, rfl, .inl ⟨_, rfl, _, rfl, _, _, rfl, rfl, by omega, ?_⟩⟩⟩
        refine q _ _ (Int.emod_nonneg _ (by omega)) (Int.emod_lt_of_pos _ (by omega)) ⟨i, p, zz st c, c + 1, upd_same, ?_, h0, z0, z1⟩ fun b nb => ?_
        · rw [upd_ne aL, upd_ne aL]; exact hL
        · rw [upd_ne nb, upd_ne nb]; exact off b nb
end
end Fv


namespace Fv
open PySem PySem.Spec PyProof.Rows L2 FvX FvW TL


-- top 43  slots: 0:_law_masks 1:_law_other 2:_law_one
abbrev s_law_rows : Stmt := topS 43
abbrev N_law_rows : List Str := ["_law_masks", "_law_other", "_law_one"]
theorem sc_law_rows : FnScope N_law_rows ["_law_masks"] (defScope s_law_rows) := ⟨rfl, rfl, rfl, by decide +kernel, rfl, by decide +kernel, by decide +kernel⟩


/-- a family under way -/
structure FI (w : Nat) (fs : List Nat) : Prop where
  nd : fs.Nodup
  cl : ∀ a ∈ fs, ∀ b ∈ fs, a &&& b ∈ fs
  full : 2 ^ w - 1 ∈ fs
  lt : ∀ a ∈ fs, a < 2 ^ w
theorem FI.fam {w : Nat} {fs : List Nat} (h : FI w fs) (hw : w ≤ 4) : Fam fs := by
  refine ⟨h.nd, h.cl, ⟨_, h.full, fun a ha => ?_⟩, ?_⟩
  · rw [subM_iff, Nat.and_two_pow_sub_one_eq_mod, Nat.mod_eq_of_lt (h.lt a ha)]
  · refine Nat.le_trans (nodup_lt _ _ h.nd h.lt) ?_
    exact Nat.pow_le_pow_right (show 0 < 2 by decide) hw
theorem FI.one (w : Nat) : FI w [2 ^ w - 1] := by
  have p : 0 < 2 ^ w := Nat.two_pow_pos w
  refine ⟨by simp, fun a ha b hb => ?_, List.mem_singleton.mpr rfl, fun a ha => ?_⟩
  · rw [List.mem_singleton.mp ha, List.mem_singleton.mp hb, Nat.and_self]; exact List.mem_singleton.mpr rfl
  · rw [List.mem_singleton.mp ha]; omega
/-- between two families: what is met with m -/
structure FJ (w m : Nat) (fs : List Nat) (j : Nat) (gs : List Nat) : Prop where
  nd : gs.Nodup
  old : ∀ a ∈ fs, a ∈ gs
  done : ∀ a ∈ fs.take j, m &&& a ∈ gs
  all : ∀ a ∈ gs, a ∈ fs ∨ ∃ b ∈ fs, a = m &&& b
theorem FJ.fi {w m : Nat} {fs gs : List Nat} (F : FI w fs) (h : FJ w m fs fs.length gs) (hm : m < 2 ^ w) : FI w gs := by
  have dn : ∀ a ∈ fs, m &&& a ∈ gs := fun a ha => h.done a (by rw [List.take_length]; exact ha)
  refine ⟨h.nd, fun a ha b hb => ?_, h.old _ F.full, fun a ha => ?_⟩
  · rcases h.all a ha with ha' | ⟨c, hc, rfl⟩ <;> rcases h.all b hb with hb' | ⟨e, he, rfl⟩
    · exact h.old _ (F.cl a ha' b hb')
    · have := dn _ (F.cl a ha' e he)
      rw [← Nat.and_assoc, Nat.and_comm m a, Nat.and_assoc] at this
      exact this
    · rw [Nat.and_assoc]; exact dn _ (F.cl c hc b hb')
    · have := dn _ (F.cl c hc e he)
      have z : (m &&& c) &&& (m &&& e) = m &&& (c &&& e) := by
        rw [Nat.and_assoc, ← Nat.and_assoc c m e, Nat.and_comm c m, Nat.and_assoc, ← Nat.and_assoc m m, Nat.and_self]
      rw [z]; exact this
  · rcases h.all a ha with z | ⟨c, hc, rfl⟩
    · exact F.lt a z
    · exact Nat.and_lt_two_pow _ (F.lt c hc)
theorem FJ.len {w m : Nat} {fs gs : List Nat} {j : Nat} (F : FI w fs) (h : FJ w m fs j gs) (hw : w ≤ 4) : gs.length ≤ 16 := by
  refine Nat.le_trans (nodup_lt _ _ h.nd fun a ha => ?_) (Nat.pow_le_pow_right (show 0 < 2 by decide) hw)
  rcases h.all a ha with z | ⟨c, hc, rfl⟩
  · exact F.lt a z
  · exact Nat.and_lt_two_pow _ (F.lt c hc)
def spCopied (K : PySem.W.Frag) : Sp := fun vs H Q _ => ∃ (r : Addr) (xs : List V), vs = [.ref r] ∧ SqL K H r xs ∧ xs.length ≤ 1000 ∧ ∀ (H' : Hp) (p : Addr), Same H H' → H p = none → H' p = some (.lst xs) → Q (.ref p) H'
def spFamily : Sp := fun vs H Q _ => ∃ (a L : Addr) (ns : List Int) (wd m : Nat), vs = [.ref a, .int (wd : Nat), .int (m : Nat)] ∧ Src H a L ns ∧ wd ≤ 4 ∧ m ≤ 100 ∧
  ∀ (H' : Hp) (p : Addr) (ms : List Nat), Fam ms → H p = none → H' p = some (.lst (natsV ms)) → Src H' a L ns → SmX [a] H H' → Q (.ref p) H'
def spRows (K : PySem.W.Frag) : Sp := fun vs H Q _ => ∃ (r : Addr) (ms : List Nat), vs = [.ref r] ∧ SqL K H r (natsV ms) ∧ ms.length ≤ 60 ∧ ∀ (H' : Hp) (p : Addr), Same H H' → H p = none → H' p = some (.lst ((rowsOf ms).map V.str)) → Q (.ref p) H'
def spSomeRows : Sp := fun vs H Q _ => ∃ (a L : Addr) (ns : List Int), vs = [.ref a] ∧ Src H a L ns ∧
  ∀ (H' : Hp) (p : Addr) (ms : List Nat), Fam ms → H p = none → H' p = some (.lst ((rowsOf ms).map V.str)) → Src H' a L ns → SmX [a] H H' → Q (.ref p) H'
theorem str01 (b : Bool) : ((toString (if b = true then (1 : Int) else 0) : String) : Str) = ⟨#[if b = true then 49 else 48]⟩ := by
  cases b <;> decide +kernel
theorem log01 (b : Bool) : (if b = true then (1 : Int) else 0).natAbs.log2 < 1920 := by
  cases b <;> decide +kernel
theorem subM_dec (a b : Nat) : decide (V.int ((a &&& b : Nat) : Int) = V.int ((a : Nat) : Int)) = subM a b := by
  unfold subM
  rw [Bool.eq_iff_iff, decide_eq_true_eq, decide_eq_true_eq]
  exact ⟨fun h => by have := V.int.inj h; omega, fun h => by rw [h]⟩
theorem shl_nat {wd : Nat} (h : wd ≤ 4) : (1 : Int) * 2 ^ ((wd : Nat) : Int).toNat = ((2 ^ wd : Nat) : Int) := by
  have all : ∀ wd ≤ 4, (1 : Int) * 2 ^ ((wd : Nat) : Int).toNat = ((2 ^ wd : Nat) : Int) := by decide
  exact all wd h
theorem fam_a : Fam [0, 1, 2, 4, 7] := ⟨by decide, by decide, ⟨7, by decide, by decide⟩, by decide⟩
theorem fam_b : Fam [0, 1, 3, 4, 7] := ⟨by decide, by decide, ⟨7, by decide, by decide⟩, by decide⟩
section
variable {P : Program} {w : World} {K : PySem.W.Frag} {mg : Str → Option Value} {base : Heap}
theorem ok_rows {f : Addr} {fd : FuncData} {k : Nat} (F : Fun K "_law_rows" "_law_rows" s_law_rows f fd) (m_str : mg "str" = none) (m_int : mg "int" = none) :
    FnOk P w K mg base CX0 (k + 1) f fd ["_law_masks"] (spRows K) := by
  refine F.ok sc_law_rows (fun vs H Q E h => ?_) (fun cdv A outer s H vs Q E hr h => ?_)
  · obtain ⟨r, ms, rfl, _⟩ := h
    rfl
  · obtain ⟨r, ms, rfl, hr0, hl, good⟩ := h
    refine ⟨_, (pss_one (ps_ret (pe_lc (own := [("_law_one", 2)]) (g := gName 2) (by rfl) sc_law_rows.nd (pi_listK (K := K) rfl (pv 0)) (blkOk_by (own := [("_law_one", 2)]) (N := N_law_rows) (sc := defScope s_law_rows) (by decide +kernel)) (fun _ _ _ _ _ => pg_name (i := 2) sc_law_rows.nd rfl (Or.inr rfl)) (fun _ _ _ _ _ => pts_nil) (fun _ _ _ _ _ => (pe_joinK (K := K) rfl pe_str (pe_lc (own := [("_law_other", 1)]) (g := gName 1) (by rfl) sc_law_rows.nd (pi_listK (K := K) rfl (pv 0)) (blkOk_by (own := [("_law_other", 1)]) (N := N_law_rows) (by exact rfl)) (fun _ _ _ _ _ => pg_name (i := 1) sc_law_rows.nd rfl (Or.inl rfl)) (fun _ _ _ _ _ => pts_nil) (fun _ _ _ _ _ => (pe_callTy call_str_int (by rfl) m_str (by decide +kernel) (pa_cons (pe_callTy call_int1 (by rfl) m_int (by decide +kernel) (pa_cons (pe_cmpR op_eq (pe_op L2.op_and (pv 2) (pv 1)) (pv 2) (nomark _)) pa_nil)) pa_nil))))))))), ?_⟩
    refine ⟨_, rfl, r, rfl, ⟨_, hr0⟩, fun D nD => lc_list (xs := natsV ms) (fun j H' => Same H H' ∧ H' D = some (.lst ((ms.take j).map fun a => V.str (mk (rowC ms a))))) ?_ ?_ ?_ ?_⟩
    · exact ⟨same_upd nD, upd_same⟩
    · rintro j H' _ ⟨sm, _⟩
      exact sm.seq hr0
    · rintro j x H' hx ⟨sm, hD⟩
      obtain ⟨a, ha, rfl⟩ := nats_get hx
      refine ⟨rfl, ?_⟩
      refine yes_it ⟨⟨_, rfl⟩, _, rfl, r, rfl, ⟨_, sm.seq hr0⟩, fun D2 nD2 => lc_list (xs := natsV ms) (fun i H2 => Same H' H2 ∧ H2 D2 = some (.lst ((ms.take i).map fun b => V.str ⟨#[if subM a b = true then 49 else 48]⟩))) ?_ ?_ ?_ ?_⟩
      · exact ⟨same_upd nD2, upd_same⟩
      · rintro i H2 _ ⟨sm2, _⟩
        exact (sm.trans sm2).seq hr0
      · rintro i y H2 hy ⟨sm2, hD2⟩
        obtain ⟨b, hb, rfl⟩ := nats_get hy
        refine ⟨rfl, ?_⟩
        refine yes_it ⟨_, rfl, _, rfl, _, _, rfl, rfl, ?_⟩
        dsimp only
        rw [bitAnd_nat]
        refine ⟨_, rfl, rfl, .inr ⟨_, rfl, _, rfl, log01 _, ?_⟩⟩
        rw [subM_dec, str01]
        refine ⟨_, hD2, small1000 (by rw [List.length_map, List.length_take]; omega), fun c o e => ?_, ?_⟩
        · rw [upd_ne (ne_of_none e nD2)]; exact sm2 _ _ e
        · rw [upd_same, List.take_add_one, hb, List.map_append]; rfl
      · rintro H2 ⟨sm2, hD2⟩
        rw [nats_len, List.take_length] at hD2
        have ej : (ms.map fun b => V.str (⟨#[if subM a b = true then 49 else 48]⟩ : Str)) = ((rowC ms a).map fun c => (⟨#[c]⟩ : Str)).map V.str := by
          unfold rowC
          rw [List.map_map, List.map_map]
          rfl
        rw [ej] at hD2
        refine ⟨"", D2, (rowC ms a).map fun c => (⟨#[c]⟩ : Str), rfl, rfl, .inl (SqL.of hD2), ?_, ?_⟩
        · rw [sum_ones, List.length_map]
          unfold rowC
          rw [List.length_map]
          show ms.length + ms.length * 0 ≤ _
          omega
        · rw [join_empty]
          refine ⟨_, sm2 _ _ hD, small1000 (by rw [List.length_map, List.length_take]; omega), fun c o e => ?_, ?_⟩
          · rw [upd_ne (ne_of_none e nD)]; exact sm2 _ _ (sm _ _ e)
          · rw [upd_same, List.take_add_one, ha, List.map_append]; rfl
    · rintro H' ⟨sm, hD⟩
      rw [nats_len, List.take_length] at hD
      refine good H' D sm nD ?_
      rw [hD]
      unfold rowsOf
      rw [List.map_map]
      rfl
end
end Fv


set_option maxHeartbeats 2000000
namespace FvX
open PySem PySem.Spec PyProof.Rows L2
/-! ### try: .. except x as n: .. except ..: ..; the first clause takes what comes -/
/-- what the first clause wishes -/
def wFst (K : PySem.W.Frag) (c : Value) (i : Nat) (ts : Addr → Value → Option Addr → TS) (D : Ends) : WX := fun cls dd σ H => PySem.W.exmOne K cls c = some true ∧
  ∀ a, H a = none → ts a cls dd { nx := fun σ' H' => D.nx (σ'.set i none) H', rt := D.rt, bk := fun σ' H' => D.bk (σ'.set i none) H', ct := fun σ' H' => D.ct (σ'.set i none) H' } (σ.set i (some (.ref a))) H
section
variable {X : Cx} {x n : Str} {c : Value} {i : Nat} {bd su : List Stmt} {b1 : Stmt} {np tp hp' : Pos} {more : List ExceptHandler} {tb : WX → TS} {ts : Addr → Value → Option Addr → TS}
theorem ps_try_first (hstk : X.stack = X.env :: X.outer) (hfrm : X.env.frame = some X.env.locals) (nd : X.N.Nodup) (hix : X.N[i]? = some n) (hlc : X.env.kindOf n = some .local) (hcl : Names X x c)
    (hbd : ∀ (W : WX) (pn : List (Addr × Obj)) (xe : Value → Shared → Prop), Takes (X.tr pn xe) W → PassesOwn (model X.prog X.w) X.A X.env xe → PSs (X.tr pn xe) bd (tb W))
    (hsu : ∀ (a : Addr) (oe : Obj) (cls : Value) (dd : Option Addr) (pn : List (Addr × Obj)), Zc cls dd oe → (∃ vs, oe.data = .fields vs) → PSs (X.suite a ((a, oe) :: pn)) (b1 :: su) (ts a cls dd)) :
    PS X (.Try bd (.ExceptHandler (some (.Name x np)) (some n) (b1 :: su) hp' :: more) [] [] tp) (fun D σ H => tb (wFst X.K c i ts D) D σ H) := by
  refine ⟨fun pins s σ H D I hW => wpAny_Try_except ?_⟩
  have fr : X.A.frames = some (X.env :: X.outer) := I.ok.frames.trans (congrArg some hstk)
  let land : Value → Shared → Prop := fun e s1 => wpAny (model X.prog X.w) X.A (noteFrame e X.env) (fun _ s2 => wpAny (model X.prog X.w) X.A (setFlight e none) (fun _ s3 => wpAny (model X.prog X.w) X.A (handleBy e X.env (.ExceptHandler (some (.Name x np)) (some n) (b1 :: su) hp' :: more)) (SP X pins D) X.xe s3) X.xe s2) X.xe s1
  have caught : Takes (X.tr (X.pn ++ pins) land) (wFst X.K c i ts D) := by
    rintro u s' ⟨a, B, sI, pins', σ', H', cls, dd, rfl, J', nb, up, sky, na, os, ag, hm, hyes⟩
    have J : Inv X pins σ' H' sI := J'.ofTry I.ok
    show wpAny (model X.prog X.w) X.A (noteFrame (.ref a) X.env) _ _ _
    refine Sky.land Zc.steady fr hfrm (show Sky B (X.env :: X.outer) a (Zc cls dd) X.env.locals s'.heap from hstk ▸ sky) fun h3 fl up3 => ?_
    have J3 : Inv X pins σ' H' { s' with heap := h3 } := J.landed nb fl.1 (up.trans up3) os ag
    obtain ⟨o3, v3, g3, z3, d3⟩ := fl.there
    have apart : a ∉ frs (X.env :: X.outer) := fun hin => by
      obtain ⟨_, o', g', no⟩ := fl.2.2.1.mem hin
      rw [g3] at g'
      cases g'
      exact no _ d3
    have aL : a ≠ X.env.locals := fun z => apart (List.mem_filterMap.mpr ⟨X.env, List.mem_cons_self, hfrm.trans (congrArg some z.symm)⟩)
    have aF : a ∉ X.fs := fun hin => by
      obtain ⟨e, he, z⟩ := List.mem_filterMap.mp hin
      exact apart (List.mem_filterMap.mpr ⟨e, List.mem_cons_of_mem _ he, z⟩)
    have S3 := J3.suite g3 d3 na aL aF
    have tyIs : PySem.W.Looks (model X.prog X.w) h3 (typeOf (.ref a)) cls := fun A Q E s k z => wpAny_typeOf_ref (k _ _ g3) (z3.1.symm ▸ z)
    have meets := PySem.W.exm_one (M := model X.prog X.w) J3.kIn tyIs hm
    refine wpAny_handleBy_cons (codeAny_handlers_test ?_) (fun z => by cases z)
    have ask : ∀ {Q : Value → Shared → Prop} {E : Value → Shared → Prop}, Q c { s' with heap := h3 } → wpAny (model X.prog X.w) (X.A.mark (some (.ref a))) (eval (.Name x np) X.env) Q E { s' with heap := h3 } := fun {Q E} z => by
      rcases hcl with ⟨gl, nd', m | ⟨m, bv, nn⟩⟩
      · exact ld_glob (X := X.suite a ((a, o3) :: (X.pn ++ pins))) S3 gl m z nd'
      · exact ld_blt (X := X.suite a ((a, o3) :: (X.pn ++ pins))) S3 gl m bv z nn nd'
    refine ask (meets.here (codeAny_handlers_suite_as (HandSPX.lands_againZ fl fun h4 fl4 up4 => ?_)))
    have J4 : Inv X pins σ' H' { s' with heap := h4 } := J.landed nb fl4.1 ((up.trans up3).trans up4) os ag
    obtain ⟨o4, v4, g4, z4, d4⟩ := fl4.there
    refine store_ok (X := X.suite a ((a, o4) :: (X.pn ++ pins))) (v := .ref a) (J4.suite g4 d4 na aL aF) nd hix (.inl hlc) rfl (fun s5 S5 => ?_) (.inr hlc)
    refine wpAny_mono ((hsu a o4 cls dd (X.pn ++ pins) z4 ⟨_, d4⟩).run [] s5 _ H' _ S5 (hyes a na)) (fun fl6 s6 q6 => ?_) (fun _ _ z => z.elim)
    have gone : ∀ {σ6 : L2.St} {H6 : Hp} {Q : Shared → Prop}, Inv (X.suite a ((a, o4) :: (X.pn ++ pins))) [] σ6 H6 s6 → (∀ s7, Inv X pins (σ6.set i none) H6 s7 → Q s7) →
        wpAny (model X.prog X.w) X.A (do bindName X.env n .none; unbindBehindTheSuite X.env n hp') (fun _ s7 => Q s7) X.xe s6 := fun {σ6 H6 Q} S6 z => gone_ok (S6.unsuite I.ok) nd hix hlc z
    cases fl6 with
    | ret u => obtain ⟨v6, σ6, H6, S6, r6, z6⟩ := q6; exact gone S6 fun s7 J7 => ⟨_, _, _, J7, r6, z6⟩
    | next => obtain ⟨σ6, H6, S6, z6⟩ := q6; exact gone S6 fun s7 J7 => ⟨_, _, J7, z6⟩
    | brk => obtain ⟨σ6, H6, S6, z6⟩ := q6; exact gone S6 fun s7 J7 => ⟨_, _, J7, z6⟩
    | cont => obtain ⟨σ6, H6, S6, z6⟩ := q6; exact gone S6 fun s7 J7 => ⟨_, _, J7, z6⟩
  refine wpAny_mono ((hbd (wFst X.K c i ts D) (X.pn ++ pins) land caught PassesOwn.looking).run [] s σ H D (I.toTry _) hW) (fun fl s1 z => ?_) (fun e s1 z => z)
  cases fl with
  | ret u => obtain ⟨v, σ', H', J', r, z⟩ := z; exact ⟨v, σ', H', J'.ofTry I.ok, r, z⟩
  | next => obtain ⟨σ', H', J', z⟩ := z; exact wpAny_execs_nil ⟨σ', H', J'.ofTry I.ok, z⟩
  | brk => obtain ⟨σ', H', J', z⟩ := z; exact ⟨σ', H', J'.ofTry I.ok, z⟩
  | cont => obtain ⟨σ', H', J', z⟩ := z; exact ⟨σ', H', J'.ofTry I.ok, z⟩
end
/-! ### e.f of the caught error -/
section
variable {X : Cx} {a : Addr} {oe : Obj} {cls : Value} {d : Option Addr} {pn : List (Addr × Obj)} {i : Nat} {n f : Str} {p pos : Pos}
theorem pe_errf (hz : Zc cls d oe) (hf : ∃ vs, oe.data = .fields vs) (hv : PE (X.suite a ((a, oe) :: pn)) (.Name n p) (tVar i)) (hb : attributeBase (.Name n p) f X.env (eval (.Name n p) X.env) = eval (.Name n p) X.env := by rfl) :
    PE (X.suite a ((a, oe) :: pn)) (.Attribute (.Name n p) f pos) (fun σ H Q => σ[i]? = some (some (.ref a)) ∧ ∃ (C dd : Addr) (fs : List (Str × V)) (v : V), cls = .ref C ∧ XfC X.K C ∧ PySem.W.findIn X.K (.ref C) f = some none ∧ d = some dd ∧ H dd = some (.xd fs) ∧ fs.lookup f = some v ∧ Q v H) := by
  refine ⟨fun pins s σ H Q I h => ?_⟩
  obtain ⟨h1, C, dd, fs, v, h2, T, h3, h4, h5, h6, q⟩ := h
  exact (pe_xf T h3 hz hf hv hb).run pins s σ H Q I ⟨_, h1, rfl, h2, dd, fs, v, h4, h5, h6, q⟩
end
end FvX


set_option maxHeartbeats 2000000
namespace FvX
open PySem PySem.Spec PyProof.Rows L2 LamX
/-! ### x(lambda: body), where x calls what it got within a try and goes on behind it -/
section
variable {X : Cx} {pins : List (Addr × Obj)} {σ : L2.St} {H : Hp} {s : Shared}
/-- the call of the lambda; what it raises is told of the very slots -/
theorem pe_actS {Eg : XK} {Ng : List Str} {qg : Str} {sg : Scope} {gf lf lc : Addr} {cdg pm ctv : Value} {pr : Arguments} {bd : Expr} {sc : Scope} {k i : Nat} {nm : Str} {pn : List (Addr × Obj)} {xe : Value → Shared → Prop} {W : WX} {E : XK} {tb : TE} {p1 p2 : Pos}
    (I : Inv X pins σ H s) (L : LamS X.env.scope sc) (hobj : s.heap.get? lf = some (PySem.W.kla_obj "<lambda>" (X.env.qual ++ "<lambda>") pr bd sc (cloFrom X.env.cells sc.names []) pm lc ctv)) (hn : H lf = none) (hnf : lf ∉ frs X.stack)
    (hbnd : bindArgs (PySem.W.kla_fn "<lambda>" (X.env.qual ++ "<lambda>") pr bd sc (cloFrom X.env.cells sc.names []) pm (.ref lc) ctv) ⟨[], []⟩ = pure [])
    (tk : Takes ((cxOf C8.CX0 X.prog X.w X.K X.mg X.base Ng qg sg gf cdg X.A X.stack s H Eg).tr pn xe) W) (hr : Room (k + 1) (X.A.deeper (envOfC qg sg s.heap.objs.size gf cdg)))
    (hbd : ∀ (A : Around) (outer : List Env) (s : Shared) (H : Hp), Room k (A.deeper (lamEnv X sc s.heap.objs.size lf lc)) → PE (lamCx X A outer s H E sc lf lc) bd tb)
    (hN : Ng[i]? = some nm) (hv : Vis sg nm) (hd : (nm == ("__debug__" : Str)) = false) (hcd : (nm == ("__classdict__" : Str)) = false) :
    PE ((cxOf C8.CX0 X.prog X.w X.K X.mg X.base Ng qg sg gf cdg X.A X.stack s H Eg).tr pn xe) (.Call (.Name nm p1) [] [] p2)
      (fun σZ HZ Q => σZ[i]? = some (some (.ref lf)) ∧ HZ lc = some (CodeO lc (X.env.qual ++ "<lambda>")) ∧ (∀ cls d H', E cls d H' → W cls d σZ H') ∧ tb σ HZ Q) := by
  refine ⟨fun pZ sZ σZ HZ Q IZ hh => ?_⟩
  obtain ⟨h1, h2, hW, h3⟩ := hh
  have var := (pe_var (X := (cxOf C8.CX0 X.prog X.w X.K X.mg X.base Ng qg sg gf cdg X.A X.stack s H Eg).tr pn xe) (pos := p1) (i := i) hN hv hd hcd).run pZ sZ σZ HZ (fun v H1 => v = .ref lf ∧ H1 = HZ) IZ ⟨.ref lf, h1, rfl, rfl⟩
  refine wpAny_Call_Name_kw (thn var fun u s1 z => ?_)
  obtain ⟨v, H1, I1, r1, e1, e2⟩ := z
  subst e1
  subst e2
  have eu : u = Value.ref lf := r1
  subst eu
  have here := I1.base.keep lf _ hobj hn hnf (fun z => nomatch (show lf ∈ ([] : List Addr) from z))
  have un : Un (frs X.stack) [] H H1 s.heap s1.heap := I1.base
  obtain ⟨⟨oc, vs, t, g1, g2, g3⟩, _, _⟩ := I1.hok lc _ h2
  have body : codeAny (model X.prog X.w) (X.A.deeper (envOfC qg sg s.heap.objs.size gf cdg)) (.call (.ref lf) ⟨[], []⟩) (CR (L2.CX X.prog X.w) (envOfC qg sg s.heap.objs.size gf cdg :: X.stack) X.prog X.w H1 s1 Q E) s1 := by
    refine PySem.W.kla_callFunE hr.depth here rfl L.co L.gen rfl ⟨lc, oc, vs, t, rfl, g1, g2, g3⟩ ?_
    rw [hbnd]
    refine wpAny_pure (wpAny_newFunctionEnv (fun y hy => (L.own y hy).2) (fun y hy => absurd hy List.not_mem_nil) (fun h₁ hns hsb => ⟨I1.nolimit.fresh _ hsb, ?_⟩) L.kind)
    show codeAny _ _ (.expr bd (lamEnv X sc s1.heap.objs.size lf lc)) _ _
    have kp : ∀ b o, s1.heap.get? b = some o → h₁.get? b = some o := fun b o e => hsb.extBut b o (Nat.ne_of_lt (Heap.lt_size e)) (Heap.get?_push_of_some _ e)
    have J := lam_start2 (A := X.A.deeper (envOfC qg sg s.heap.objs.size gf cdg)) (outer := envOfC qg sg s.heap.objs.size gf cdg :: X.stack) (E := E) (scope := sc) (f := lf) (c' := lc) (tk := s1.toks + ([] : List (Str × Value)).length) I L I1.env0 hr.hd un hns kp
    refine PySem.W.kla_codeExpr (wpAny_mono ((hbd _ _ s1 H1 (hr.deeper _)).run [] _ _ H1 Q J h3) (fun v s' z => ?_) fun e s' z => z)
    obtain ⟨v', H', J', rv, z⟩ := z
    exact ⟨v', H', J'.os, J'.bare, J'.base, J'.hok, rv, z⟩
  refine PySem.W.callWith_F0 ⟨_, _, _, _, here⟩ (wpAny_call (codeAny_mono body fun r s' z => ?_))
  cases r with
  | ok fl =>
    cases fl with
    | ret u => exact I1.after z
    | next => exact z.elim
    | brk => exact z.elim
    | cont => exact z.elim
  | error e => exact tk e s' (XE.of_call I1 (fun cls d H' hE => hW cls d H' hE) z)
end
/-- the def at gf, called with one value, makes of the lambda's reading what TT says -/
def GivesS (X : Cx) (Ng : List Str) (x : Str) (sg : Scope) (gf : Addr) (cdg : Value) (bg : List Stmt) (nm q : Str) (TT : (XK → Hp → VK → Prop) → Hp → VK → Prop) : Prop :=
  ∀ (lf lc : Addr) (s : Shared) (H : Hp) (Q : VK) (tl : XK → Hp → VK → Prop),
    (∀ (W : WX) (pn : List (Addr × Obj)) (xe : Value → Shared → Prop) (E : XK) (p1 p2 : Pos), Takes ((cxOf C8.CX0 X.prog X.w X.K X.mg X.base Ng x sg gf cdg X.A X.stack s H C8.E0).tr pn xe) W →
      PE ((cxOf C8.CX0 X.prog X.w X.K X.mg X.base Ng x sg gf cdg X.A X.stack s H C8.E0).tr pn xe) (.Call (.Name nm p1) [] [] p2)
        (fun σZ HZ Q => σZ[0]? = some (some (.ref lf)) ∧ HZ lc = some (CodeO lc q) ∧ (∀ cls d H', E cls d H' → W cls d σZ H') ∧ tl E HZ Q)) →
    H lc = some (CodeO lc q) → TT tl H Q →
    ∃ t, PSs (cxOf C8.CX0 X.prog X.w X.K X.mg X.base Ng x sg gf cdg X.A X.stack s H C8.E0).nox bg t ∧ t { nx := fun _ H' => Q .non H', rt := Q } (L2.start Ng [.ref lf]) H
section
variable {X : Cx}
theorem pe_lamS {T : List (Addr × Str)} {TT : (XK → Hp → VK → Prop) → Hp → VK → Prop} {x nm : Str} {gf c P : Addr} {k : Nat} {pg : Arguments} {bg : List Stmt} {sg : Scope} {dV kV doc pm cdv ct oc : Value} {an od : Option Addr} {osl : Array (Option Value)} {Ng : List Str}
    {pr : Arguments} {bd : Expr} {sc : Scope} {t : XK → TE} {p lpos pos : Pos} (hg : Gl X x) (hm : X.mg x = some (.ref gf)) (hk : PySem.W.keepIn X.K (.ref gf) = true)
    (lk : X.K.lookup gf = some ⟨oc, od, .func (PySem.W.fnOf x x pg bg sg dV kV doc pm an cdv ct), osl⟩) (hcg : PySem.W.codeIn X.K cdv x = true) (hb : L2.Binds X.K (PySem.W.fnOf x x pg bg sg dV kV doc pm an cdv ct) [nm] []) (Sg : FnScope Ng [nm] sg) (hNg : Ng[0]? = some nm) (hva : Vis sg nm)
    (hG : GivesS X Ng x sg gf cdv bg nm (X.env.qual ++ "<lambda>") TT)
    (TB : TabB X.base X.mg c P) (hcode : X.env.code = .ref c) (hmT : (P, X.env.qual ++ "<lambda>") ∈ T) (hu : ∀ p ∈ T, p.1 = P → p.2 = X.env.qual ++ "<lambda>") (hr : Room (k + 2) X.A) (L : LamS X.env.scope sc) (hdef : defaultsOf pr X.env = ([], []))
    (hbind : ∀ (q : Str) (cl : List (Str × Addr)) (pm cv ctv : Value), bindArgs (PySem.W.kla_fn "<lambda>" q pr bd sc cl pm cv ctv) ⟨[], []⟩ = pure [])
    (hbd : ∀ (A : Around) (outer : List Env) (s : Shared) (H : Hp) (E : XK) (lf lc : Addr), Room k (A.deeper (lamEnv X sc s.heap.objs.size lf lc)) → PE (lamCx X A outer s H E sc lf lc) bd (t E))
    (hdb : (x == ("__debug__" : Str)) = false := by decide) (hd : (nm == ("__debug__" : Str)) = false := by decide) (hcd : (nm == ("__classdict__" : Str)) = false := by decide) :
    PE X (.Call (.Name x p) [.Lambda pr bd sc lpos] [] pos) (tLam T TT t) := by
  refine ⟨fun pins s σ H Q I hh => wpAny_Call_Name_kw (ld_glob I hg hm (PySem.W.callWith_K (h₀ := X.base) I.ok.mod.kin hk ?_ (by rfl) (by rfl)) hdb)⟩
  show wpAny _ _ (spliced ((false, eval (.Lambda pr bd sc lpos) X.env) :: backTo pos (starEach [] X.env))) _ _ s
  refine Calls.spliced_cons (lam_make2 I TB hcode hmT hu hh.1 hdef (L.has I.ok) fun lf lc pm' ctv H1 s' I1 eN T1 g1 g2 g3 g4 => Calls.spliced_nil ⟨I1.kIn, ?_⟩)
  refine wpAny_call (codeAny_mono (R := CR C8.CX0 X.stack X.prog X.w H1 s' Q C8.E0) ?_ fun r s2 z => ?_)
  · refine run_ofS (N := Ng) (ps := [nm]) (us := [.ref lf]) (vs := [.ref lf]) lk hcg Sg hr I1.env0 (hb s' [.ref lf] I1.kIn rfl) (.cons rfl .nil) rfl fun hr' => ?_
    obtain ⟨t', q1, q2⟩ := hG lf lc s' H1 Q (fun E H' Q' => t E σ H' Q') (fun W pn xe E p1 p2 tk => pe_actS (i := 0) I1 L g1 g2 g3 (hbind _ _ _ _ _) tk hr' (fun A outer s H hr2 => hbd A outer s H E lf lc hr2) hNg hva hd hcd) g4 (hh.2 H1 eN T1)
    exact ⟨t', q1.nox, q2⟩
  · cases r with
    | error e => exact (show False from z).elim
    | ok fl =>
      cases fl with
      | ret u => exact I1.after z
      | next => exact z.elim
      | brk => exact z.elim
      | cont => exact z.elim
end
end FvX


namespace Fv
open PySem PySem.Spec PyProof.Rows L2 FvX
/-! ### own defs that may raise -/
structure OwnR (P : Program) (w : World) (K : PySem.W.Frag) (mg : Str → Option Value) (base : Heap) (k : Nat) (x : Str) (sp : Sp) : Prop where
  ex : ∃ f : Addr, mg x = some (.ref f) ∧ PySem.W.keepIn K (.ref f) = true ∧ FnR P w K mg base (L2.CX P w) k f sp
section
variable {X : Cx} {k : Nat} {x : Str} {sp : Sp} {E : XK} {e : Expr} {es : List Expr} {t : TA} {p pos : Pos}
theorem pe_ownR (C : OwnR X.prog X.w X.K X.mg X.base k x sp) (hr : Room k X.A) (hg : Gl X x) (hx : Passes (L2.CX X.prog X.w) X E) (ha : PA X (e :: es) t) (hdb : (x == ("__debug__" : Str)) = false := by decide)
    (he : starEach (e :: es) X.env = (false, eval e X.env) :: starEach es X.env := by rfl) (hpl : (backTo pos (starEach es X.env)).any (·.1) = false := by rfl) : PE X (.Call (.Name x p) (e :: es) [] pos) (fun σ H Q => t σ H fun vs H1 => sp vs H1 Q E) := by
  obtain ⟨f, h1, h2, h3⟩ := C.ex
  refine ⟨fun pins s σ H Q I h => wpAny_Call_Name_kw (ld_glob I hg h1 (PySem.W.callWith_K (h₀ := X.base) I.ok.mod.kin h2 (thn (ha.run pos pins s σ H _ I h) fun us s1 z => ?_) he hpl) hdb)⟩
  obtain ⟨vs, H1, I1, r, q⟩ := z
  exact ⟨I1.kIn, wpAny_call (run_fnR h3 hr hx I1 r q)⟩
theorem pe_ownR0 (C : OwnR X.prog X.w X.K X.mg X.base k x sp) (hr : Room k X.A) (hg : Gl X x) (hx : Passes (L2.CX X.prog X.w) X E) (hdb : (x == ("__debug__" : Str)) = false := by decide) : PE X (.Call (.Name x p) [] [] pos) (fun σ H Q => sp [] H Q E) := by
  obtain ⟨f, h1, h2, h3⟩ := C.ex
  exact ⟨fun pins s σ H Q I h => wpAny_Call_Name_kw (ld_glob I hg h1 (PySem.W.callWith_K0 I.kIn h2 (wpAny_call (run_fnR h3 hr hx I .nil h))) hdb)⟩
end
theorem passX {P : Program} {w : World} {K : PySem.W.Frag} {mg : Str → Option Value} {base : Heap} {N : List Str} {qual : Str} {scope : Scope} {f : Addr} {cd : Value} {A : Around} {outer : List Env} {s : Shared} {H : Hp} {E : XK} :
    Passes (L2.CX P w) (cxOf (L2.CX P w) P w K mg base N qual scope f cd A outer s H E) E := passes_call (takes_of rfl rfl rfl rfl) (fun _ _ _ _ h => h)
theorem passL {X : Cx} {A : Around} {outer : List Env} {s : Shared} {H : Hp} {E : XK} {sc : Scope} {lf lc : Addr} : Passes (L2.CX X.prog X.w) (LamX.lamCx X A outer s H E sc lf lc) E := passes_call (takes_of rfl rfl rfl rfl) (fun _ _ _ _ h => h)
/-- the error of the class at CT leaves, its code told -/
def errAt (CT : Addr) (cod : Str) (H : Hp) (E : XK) : Prop := ∀ (H' : Hp) (dd : Addr), Same H H' → H' dd = some (.xd [("code", .str cod)]) → E (.ref CT) (some dd) H'
theorem errAt.mono {CT : Addr} {cod : Str} {H H1 : Hp} {E : XK} (h : errAt CT cod H E) (s : Same H H1) : errAt CT cod H1 E := fun H' dd s' e => h H' dd (s.trans s') e
/-- a term by is_term's default bounds -/
def tmB (d : PyData) : Bool := (meas 5 d 24).isSome
def spChecked (K : PySem.W.Frag) (CT : Addr) : Sp := fun vs H Q E => ∃ (v : V) (d : PyData), vs = [v] ∧ Dp K H v d ∧ gd 20 d = true ∧ (tmB d = true → ∀ H', Same H H' → Q v H') ∧ (tmB d = false → errAt CT "InvalidTerm" H E)
/-- the term of an operator and its parts, or the only part -/
def madeD (op : Str) : List PyData → PyData
  | [d] => d
  | ds => .tuple (.str op :: ds)
def spJoined (K : PySem.W.Frag) (CT : Addr) : Sp := fun vs H Q E => ∃ (op : Str) (tp : Addr) (xs : List V) (ds : List PyData), vs = [.str op, .ref tp] ∧ SqT K H tp xs ∧ DpAll K H xs ds ∧ xs.length ≤ 100 ∧ gd 0 (.str op) = true ∧ (∀ d ∈ ds, gd 15 d = true) ∧
  (tmB (madeD op ds) = true → ∀ H' v, Same H H' → Dp K H' v (madeD op ds) → Q v H') ∧ (tmB (madeD op ds) = false → errAt CT "InvalidTerm" H E)
def spLower (K : PySem.W.Frag) (CT : Addr) (op : Str) : Sp := fun vs H Q E => ∃ (tp : Addr) (xs : List V) (ds : List PyData), vs = [.ref tp] ∧ SqT K H tp xs ∧ DpAll K H xs ds ∧ xs.length ≤ 100 ∧ (∀ d ∈ ds, gd 15 d = true) ∧
  (tmB (madeD op ds) = true → ∀ H' v, Same H H' → Dp K H' v (madeD op ds) → Q v H') ∧ (tmB (madeD op ds) = false → errAt CT "InvalidTerm" H E)
def spLowerR (K : PySem.W.Frag) (CT : Addr) (op : Str) : Sp := fun xs H Q E => ∃ ds : List PyData, DpAll K H xs ds ∧ xs.length ≤ 100 ∧ (∀ d ∈ ds, gd 15 d = true) ∧
  (tmB (madeD op ds) = true → ∀ H' v, Same H H' → Dp K H' v (madeD op ds) → Q v H') ∧ (tmB (madeD op ds) = false → errAt CT "InvalidTerm" H E)
theorem madeD_gd {op : Str} {ds : List PyData} (ho : gd 0 (.str op) = true) (h : ∀ d ∈ ds, gd 15 d = true) (hl : ds.length ≤ 100) : gd 20 (madeD op ds) = true := by
  have z : gd 16 (.tuple (.str op :: ds)) = true := gd_tup (fun d hd => by
    rcases List.mem_cons.mp hd with e | e
    · rw [e]; exact gd_le ho (by decide)
    · exact h d e) (by rw [List.length_cons]; omega)
  unfold madeD
  split
  · rename_i d
    exact gd_le (h d (List.mem_singleton.mpr rfl)) (by decide)
  · exact gd_le z (by decide)
theorem madeD_ne {op : Str} {ds : List PyData} (h : ds.length ≠ 1) : madeD op ds = .tuple (.str op :: ds) := by
  match ds, h with
  | [], _ => rfl
  | [d], h => exact absurd rfl h
  | a :: b :: r, _ => rfl
end Fv


namespace Fv
open PySem PySem.Spec PyProof.Rows L2 FvX
theorem lmeas_up : ∀ (n : Nat) (d : PyData), 1 ≤ lmeas n d → lmeas (n + 1) d = lmeas n d
  | 0, d, h => by simp only [lmeas] at h; omega
  | n + 1, d, h => by
    by_cases a : isLd d = true
    · unfold lmeas
      rw [if_pos a, if_pos a]
    · by_cases b : isCd d = true
      · have e : ∀ m, lmeas (m + 1) d = if (0 : Int) ∈ (parts d).map (lmeas m) then 0 else ((parts d).map (lmeas m)).sum := fun m => by
          show (if isLd d = true then (1 : Int) else if isCd d = true then _ else 0) = _
          rw [if_neg a, if_pos b]
        rw [e] at h
        by_cases c : (0 : Int) ∈ (parts d).map (lmeas n)
        · rw [if_pos c] at h; omega
        · have em : (parts d).map (lmeas (n + 1)) = (parts d).map (lmeas n) := List.map_congr_left fun x hx => lmeas_up n x (by
            have z := lmeas_nonneg n x
            rcases Int.lt_or_eq_of_le z with z | z
            · omega
            · exact absurd (List.mem_map.mpr ⟨x, hx, z.symm⟩) c)
          rw [e (n + 1), e n, em]
      · have e : ∀ m, lmeas (m + 1) d = 0 := fun m => by
          show (if isLd d = true then (1 : Int) else if isCd d = true then _ else 0) = _
          rw [if_neg a, if_neg b]
        rw [e] at h; omega
theorem mem_le_sum : ∀ {l : List Int} {x : Int}, (∀ y ∈ l, 0 ≤ y) → x ∈ l → x ≤ l.sum
  | y :: l, x, h, hx => by
    rw [List.sum_cons]
    have h0 := sum_nonneg (l := l) fun z hz => h z (List.mem_cons_of_mem _ hz)
    have h1 := h y (List.mem_cons_self ..)
    rcases List.mem_cons.mp hx with e | e
    · omega
    · have := mem_le_sum (l := l) (fun z hz => h z (List.mem_cons_of_mem _ hz)) e
      omega
theorem tmB_iff (d : PyData) : tmB d = true ↔ 1 ≤ lmeas 5 d ∧ lmeas 5 d ≤ 24 := by
  unfold tmB
  rw [meas_some, Bool.and_eq_true, decide_eq_true_eq, decide_eq_true_eq]
theorem tmB_fits (d : PyData) : (decide (1 ≤ lmeas 5 d) && decide (lmeas 5 d ≤ 24)) = tmB d := (meas_some 5 d 24).symm
/-- what makes a term is made of terms -/
theorem made_parts {op : Str} {ds : List PyData} (h : tmB (madeD op ds) = true) : ds ≠ [] ∧ ∀ d ∈ ds, tmB d = true := by
  match ds, h with
  | [], h => cases (show false = true from h)
  | [d], h => exact ⟨fun z => (by cases z), fun x hx => by rw [List.mem_singleton.mp hx]; exact h⟩
  | a :: b :: r, h =>
    refine ⟨fun z => (by cases z), fun x hx => ?_⟩
    obtain ⟨h1, h2⟩ := (tmB_iff _).mp h
    have e : lmeas 5 (madeD op (a :: b :: r)) = if isCd (.tuple (.str op :: a :: b :: r)) = true then (if (0 : Int) ∈ (a :: b :: r).map (lmeas 4) then 0 else ((a :: b :: r).map (lmeas 4)).sum) else 0 := rfl
    rw [e] at h1 h2
    by_cases c : isCd (.tuple (.str op :: a :: b :: r)) = true
    · rw [if_pos c] at h1 h2
      by_cases c0 : (0 : Int) ∈ (a :: b :: r).map (lmeas 4)
      · rw [if_pos c0] at h1; omega
      · rw [if_neg c0] at h1 h2
        have z := lmeas_nonneg 4 x
        have x1 : 1 ≤ lmeas 4 x := by
          rcases Int.lt_or_eq_of_le z with z | z
          · omega
          · exact absurd (List.mem_map.mpr ⟨x, hx, z.symm⟩) c0
        have xs : lmeas 4 x ≤ ((a :: b :: r).map (lmeas 4)).sum := mem_le_sum (fun y hy => by
          obtain ⟨d', _, rfl⟩ := List.mem_map.mp hy
          exact lmeas_nonneg 4 d') (List.mem_map.mpr ⟨x, hx, rfl⟩)
        exact (tmB_iff x).mpr (by rw [lmeas_up 4 x x1]; omega)
    · rw [if_neg c] at h1; omega
def badD : PyData := .tuple [.none, .str "InvalidTerm"]
def outD (op : Str) (ds : List PyData) : PyData := if tmB (madeD op ds) = true then .tuple [madeD op ds, .str ""] else badD
def opOf (low : Bool) : Str := if low = true then "&" else "|"
def spMade (K : PySem.W.Frag) (CT : Addr) : Sp := fun vs H Q E => ∃ (pl : Addr) (xs : List V) (ds : List PyData) (low : Bool), vs = [.ref pl, .bl low] ∧ H pl = some (.lst xs) ∧ DpAll K H xs ds ∧ xs.length ≤ 4 ∧ (∀ d ∈ ds, gd 13 d = true) ∧
  (tmB (madeD (opOf low) ds) = true → ∀ H' v, Same H H' → Dp K H' v (madeD (opOf low) ds) → Q v H') ∧ (tmB (madeD (opOf low) ds) = false → errAt CT "InvalidTerm" H E)
def spDue (K : PySem.W.Frag) : Sp := fun vs H Q _ => ∃ (pl : Addr) (xs : List V) (ds : List PyData) (low : Bool), vs = [.ref pl, .bl low] ∧ H pl = some (.lst xs) ∧ DpAll K H xs ds ∧ xs.length ≤ 4 ∧ (∀ d ∈ ds, gd 13 d = true) ∧
  ∀ H' v, Same H H' → Dp K H' v (outD (opOf low) ds) → Q v H'
theorem eqv_nil (ds : List PyData) : PyData.eqv (.list ds) (.list []) = decide (ds = []) := by
  cases ds with
  | nil => rfl
  | cons d ds => simp [PyData.eqv, PyData.eqvAll]
/-- what _law_call makes of the lambda's reading -/
def TCall (K : PySem.W.Frag) (CF : Addr) : (XK → Hp → VK → Prop) → Hp → VK → Prop := fun tl H Q => ∀ (R : VK) (E : XK),
  (∀ v H', (∀ p, H' p = none → Q (.ref p) (upd H' p (.tup [v, .str ""]))) → R v H') →
  (∀ (C dd : Addr) (H' : Hp) (fs : List (Str × V)) (v : V), PySem.W.exmOne K (.ref C) (.ref CF) = some true → XfC K C → PySem.W.findIn K (.ref C) "code" = some none → H' dd = some (.xd fs) → fs.lookup ("code" : Str) = some v →
      (∀ p, H' p = none → Q (.ref p) (upd H' p (.tup [.non, v]))) → E (.ref C) (some dd) H') → tl E H R
end Fv


namespace Fv
open PySem PySem.Spec PyProof.Rows L2 FvX
/-! ### what stays when a lambda is made -/
theorem sq_ext {K : PySem.W.Frag} {H H' : Hp} {a : Addr} {xs : List V} (e : LamX.ExtN H H') (h : SqL K H a xs) : SqL K H' a xs := by
  rcases h with (h | ⟨o, h⟩) | h
  · exact .inl (.inl (e _ _ h fun ps z => by cases z))
  · exact .inl (.inr ⟨o, e _ _ h fun ps z => by cases z⟩)
  · exact .inr h
theorem sqT_ext {K : PySem.W.Frag} {H H' : Hp} {a : Addr} {xs : List V} (e : LamX.ExtN H H') (h : SqT K H a xs) : SqT K H' a xs := by
  rcases h with (h | ⟨o, h⟩) | h
  · exact .inl (.inl (e _ _ h fun ps z => by cases z))
  · exact .inl (.inr ⟨o, e _ _ h fun ps z => by cases z⟩)
  · exact .inr h
mutual
theorem dp_ext {K : PySem.W.Frag} {H H' : Hp} (e : LamX.ExtN H H') : ∀ (d : PyData) (v : V), Dp K H v d → Dp K H' v d
  | .none, _, h => by cases h; exact .non
  | .bool b, _, h => by cases h; exact .bl b
  | .int i, _, h => by cases h; exact .int i
  | .str x, _, h => by cases h; exact .str x
  | .list ds, _, h => by cases h with | lst hs ha => exact .lst (sq_ext e hs) (dpAll_ext e ds _ ha)
  | .tuple ds, _, h => by cases h with | tup hs ha => exact .tup (sqT_ext e hs) (dpAll_ext e ds _ ha)
  | .dict kvs, _, h => by cases h
theorem dpAll_ext {K : PySem.W.Frag} {H H' : Hp} (e : LamX.ExtN H H') : ∀ (ds : List PyData) (vs : List V), DpAll K H vs ds → DpAll K H' vs ds
  | [], _, h => by cases h; exact .nil
  | d :: ds, _, h => by cases h with | cons h1 h2 => exact .cons (dp_ext e d _ h1) (dpAll_ext e ds _ h2)
end
theorem ext_hide {M : List Addr} {H H' : Hp} (e : LamX.ExtN H H') : LamX.ExtN (hide M H) (hide M H') := fun b o z n => by
  obtain ⟨m, z⟩ := hide_some z
  rw [hide_ne m]
  exact e b o z n
theorem Src.ext {H H' : Hp} {a L : Addr} {ns : List Int} (h : Src H a L ns) (e : LamX.ExtN H H') : Src H' a L ns := by
  obtain ⟨i, p, st, c, h1, h2, h3⟩ := h
  exact ⟨i, p, st, c, e _ _ h1 (fun ps z => by cases z), e _ _ h2 (fun ps z => by cases z), h3⟩
theorem GV.ext {K : PySem.W.Frag} {n : Nat} {M : List Addr} {H H' : Hp} {v : V} (g : GV K n M H v) (e : LamX.ExtN H H') : GV K n M H' v := by
  obtain ⟨d, h1, h2⟩ := g
  exact ⟨d, dp_ext (ext_hide e) d v h1, h2⟩
theorem GV.smx {K : PySem.W.Frag} {n : Nat} {M : List Addr} {H H' : Hp} {v : V} (g : GV K n M H v) (s : SmX M H H') : GV K n M H' v := by
  obtain ⟨d, h1, h2⟩ := g
  exact ⟨d, dp_same s.hid d v h1, h2⟩
/-- tables stay where lists alone are changed -/
theorem tabs_smx {T : List (Addr × Str)} {M : List Addr} {H H' : Hp} (t : LamX.Tabs T H) (s : SmX M H H') (hM : ∀ b ∈ M, ∃ xs, H b = some (.lst xs)) : LamX.Tabs T H' := fun p hp => by
  obtain ⟨ps, h1, h2, h3⟩ := t p hp
  have nm : ∀ {b : Addr} {o : HO}, H b = some o → (∀ xs, o ≠ .lst xs) → b ∉ M := fun {b o} e n hb => by
    obtain ⟨xs, e'⟩ := hM b hb
    rw [e] at e'
    exact n xs (Option.some.inj e')
  refine ⟨ps, s _ _ (nm h1 fun xs z => by cases z) h1, h2, fun pos cv hc => ?_⟩
  obtain ⟨c, e1, e2⟩ := h3 pos cv hc
  exact ⟨c, e1, s _ _ (nm e2 fun xs z => by unfold LamX.CodeO at z; cases z) e2⟩
theorem tabs_same {T : List (Addr × Str)} {H H' : Hp} (t : LamX.Tabs T H) (s : Same H H') : LamX.Tabs T H' := t.ext s
theorem Src.lst {H : Hp} {a L : Addr} {ns : List Int} (h : Src H a L ns) : ∀ b ∈ [a], ∃ xs, H b = some (.lst xs) := fun b hb => by
  obtain ⟨_, _, _, _, e, _⟩ := h
  rw [List.mem_singleton.mp hb]
  exact ⟨_, e⟩
/-- the table of the law's own code -/
def TT0 (Pt : Addr) : List (Addr × Str) := [(Pt, ("law" : Str) ++ ".<locals>." ++ "<lambda>")]
section
variable {P : Program} {w : World} {K : PySem.W.Frag} {mg : Str → Option Value} {base : Heap}
/-- a def whose code object is told -/
theorem okC {x qual : Str} {st : Stmt} {f c : Addr} {oc : Value} {od an : Option Addr} {osl : Array (Option Value)} {kV doc pm ct : Value} {N ps : List Str} {k : Nat} {sp : Sp} (lk : K.lookup f = some ⟨oc, od, .func (PySem.W.fnOf x qual (defArgs st) (defBody st) (defScope st) .none kV doc pm an (.ref c) ct), osl⟩)
    (hcd : PySem.W.codeIn K (.ref c) qual = true) (S : FnScope N ps (defScope st)) (len : ∀ vs H Q E, sp vs H Q E → vs.length = ps.length)
    (hbody : ∀ (A : Around) (outer : List Env) (s : Shared) (H : Hp) (vs : List V) (Q : VK) (E : XK), Room k (A.deeper (envOfC qual (defScope st) s.heap.objs.size f (.ref c))) → sp vs H Q E →
      ∃ t, PSs (cxOf CX0 P w K mg base N qual (defScope st) f (.ref c) A outer s H E).nox (defBody st) t ∧ t { nx := fun _ H' => Q .non H', rt := Q } (start N vs) H) :
    FnOk P w K mg base CX0 (k + 1) f (PySem.W.fnOf x qual (defArgs st) (defBody st) (defScope st) .none kV doc pm an (.ref c) ct) ps sp :=
  fn_of lk hcd S len fun A outer s H vs Q E hr h => by
    obtain ⟨t, h1, h2⟩ := hbody A outer s H vs Q E hr h
    exact ⟨t, h1.nox, h2⟩
end
def spLawT (K : PySem.W.Frag) (Pt : Addr) : Sp := fun vs H Q _ => ∃ (a : Addr) (ns : List Int), vs = [.ref a] ∧ SqL K H a (ns.map V.int) ∧ ns.length ≤ 63 ∧ H Pt = some (.tbl #[]) ∧ ∀ H', Q (.bl true) H'
theorem outD_gd {op : Str} {ds : List PyData} (h : gd 20 (madeD op ds) = true) : gd 21 (outD op ds) = true := by
  unfold outD
  split
  · refine gd_tup (fun d hd => ?_) (Nat.le_of_ble_eq_true rfl)
    rcases List.mem_cons.mp hd with e | e
    · rw [e]; exact h
    · rw [List.mem_singleton.mp e]; exact gd_le (n := 0) (by decide +kernel) (Nat.zero_le _)
  · exact gd_le (n := 1) (by decide +kernel) (by decide)
end Fv


namespace Fv
open PySem PySem.Spec PyProof.Rows L2 FvX
/-! ### calls that never raise; calls by keywords of defs that may raise -/
theorem passE0 {P : Program} {w : World} {X : Cx} : Passes (L2.CX P w) X E0 := fun _ _ _ _ _ _ _ h => by
  obtain ⟨_, _, _, _, _, _, _, _, _, _, _, _, z⟩ := h
  exact z.elim
structure OwnKR (P : Program) (w : World) (K : PySem.W.Frag) (mg : Str → Option Value) (base : Heap) (k : Nat) (x : Str) (ps ks : List Str) (gV : List V → List V → List V) (sp : Sp) : Prop where
  ex : ∃ (f : Addr) (fd : FuncData) (g : List Value → List Value → List Value), mg x = some (.ref f) ∧ PySem.W.keepIn K (.ref f) = true ∧ KBn K fd ps 0 ks g gV ∧ FnOk P w K mg base (L2.CX P w) k f fd ps sp
theorem pe_ownKR0 {X : Cx} {k : Nat} {x : Str} {ps ks : List Str} {gV : List V → List V → List V} {sp : Sp} {E : XK} {tk : TA} {p pos : Pos} {kws : List Keyword} (C : OwnKR X.prog X.w X.K X.mg X.base k x ps ks gV sp) (hr : Room k X.A) (hg : Gl X x) (hx : Passes (L2.CX X.prog X.w) X E) (hkw : PK X kws tk)
    (hall : (backToKw pos (keywordEach kws X.env)).all (·.1.isSome) = true := by rfl) (hks : (backToKw pos (keywordEach kws X.env)).filterMap (·.1) = ks := by rfl)
    (hdb : (x == ("__debug__" : Str)) = false := by decide)
    (hpl : ((backTo pos (starEach [] X.env)).any (·.1) || (backToKw pos (keywordEach kws X.env)).any (·.1.isNone)) = false := by rfl) :
    PE X (.Call (.Name x p) [] kws pos) (tCallN 0 ks.length sp gV E tNil tk) := by
  obtain ⟨f, fd, g, h1, h2, h3, h4⟩ := C.ex
  refine ⟨fun pins s σ H Q I h => ?_⟩
  refine wpAny_Call_Name_kw (ld_glob I hg h1 ?_ hdb)
  refine PySem.W.callWith_KW0 (h₀ := X.base) I.ok.mod.kin h2 hall ?_ hpl
  refine thn (hkw.run pos pins s σ H _ I h) fun ws s2 ⟨zs, H2, I2, rz, l1, l2, q2⟩ => ⟨I2.kIn, ?_⟩
  rw [hks]
  exact run_fnN h4 hr h3 hx I2 .nil rz l1 l2 q2
/-! ### rules in the element of a comprehension: the written part is told -/
theorem op_in_seqK {X : Cx} {K : PySem.W.Frag} (hK : X.K = K) : OpR X (compareOp .In) (rIn K false) := by
  subst hK
  exact op_in_seq
theorem ix_listK {X : Cx} {K : PySem.W.Frag} (hK : X.K = K) : IxR X (rIxL K) := by
  subst hK
  exact ix_list
end Fv


namespace Fv
open PySem PySem.Spec PyProof.Rows L2 FvX FvW TL
-- top 44  slots: 0:_law_rows_here 1:_law_x 2:_law_y 3:_law_some 4:_law_z 5:_law_w
abbrev s_law_low : Stmt := topS 44
abbrev N_law_low : List Str := ["_law_rows_here", "_law_x", "_law_y", "_law_some", "_law_z", "_law_w"]
theorem sc_law_low : FnScope N_law_low ["_law_rows_here", "_law_x", "_law_y"] (defScope s_law_low) := ⟨rfl, rfl, rfl, by decide +kernel, rfl, by decide +kernel, by decide +kernel⟩

-- top 45  slots: 0:_law_rows_here 1:_law_x 2:_law_y 3:_law_some 4:_law_z 5:_law_w
abbrev s_law_up : Stmt := topS 45
abbrev N_law_up : List Str := ["_law_rows_here", "_law_x", "_law_y", "_law_some", "_law_z", "_law_w"]
theorem sc_law_up : FnScope N_law_up ["_law_rows_here", "_law_x", "_law_y"] (defScope s_law_up) := ⟨rfl, rfl, rfl, by decide +kernel, rfl, by decide +kernel, by decide +kernel⟩


def spLow (K : PySem.W.Frag) (g : List Nat → Nat → Nat → Nat) : Sp := fun vs H Q _ => ∃ (r : Addr) (ms : List Nat) (x y : Nat), vs = [.ref r, .int (x : Nat), .int (y : Nat)] ∧ SqL K H r ((rowsOf ms).map V.str) ∧ Fam ms ∧ x < ms.length ∧ y < ms.length ∧ ∀ H', Same H H' → Q (.int (g ms x y : Nat)) H'
def rowD (n : Nat) (g : Nat → Nat) : PyData := .list ((List.range n).map fun y => .int (g y : Nat))
def tabD (n : Nat) (g : Nat → Nat → Nat) : PyData := .list ((List.range n).map fun x => rowD n (g x))
def tabsD (ms : List Nat) : PyData := .tuple [tabD ms.length (lowI ms), tabD ms.length (upI ms)]
/-- what is new -/
def nw (H H' : Hp) : Hp := fun b => if H b = none then H' b else none
theorem nw_at {H H' : Hp} {b : Addr} (h : H b = none) : nw H H' b = H' b := by unfold nw; rw [if_pos h]
theorem nw_some {H H' : Hp} {b : Addr} {o : HO} (h : nw H H' b = some o) : H b = none ∧ H' b = some o := by
  unfold nw at h
  by_cases c : H b = none
  · rw [if_pos c] at h; exact ⟨c, h⟩
  · rw [if_neg c] at h; cases h
theorem nw_hide {H H' : Hp} {a L : Addr} {ns : List Int} (hs : Src H a L ns) : Same (nw H H') (hide [a] H') := fun b o h => by
  obtain ⟨n, e⟩ := nw_some h
  rw [hide_ne (fun z => hs.ne n (List.mem_singleton.mp z).symm)]
  exact e
theorem nw_same {H H' : Hp} : Same (nw H H') H' := fun b o h => (nw_some h).2
theorem dpAll_of {K : PySem.W.Frag} {H : Hp} : ∀ {vs : List V} {ds : List PyData}, vs.length = ds.length → (∀ (i : Nat) (v : V) (d : PyData), vs[i]? = some v → ds[i]? = some d → Dp K H v d) → DpAll K H vs ds
  | [], [], _, _ => .nil
  | [], _ :: _, h, _ => by simp at h
  | _ :: _, [], h, _ => by simp at h
  | v :: vs, d :: ds, h, f => .cons (f 0 v d rfl rfl) (dpAll_of (by simpa using h) fun i v d h1 h2 => f (i + 1) v d (by simpa using h1) (by simpa using h2))
theorem dp_nats {K : PySem.W.Frag} {H : Hp} : ∀ l : List Nat, DpAll K H (natsV l) (l.map fun y => .int (y : Nat))
  | [] => .nil
  | y :: l => .cons (.int _) (dp_nats l)
structure Rws (H0 H : Hp) (D : Addr) (n : Nat) (g : Nat → Nat → Nat) (as : List Addr) : Prop where
  at_ : H D = some (.lst (as.map V.ref))
  rw_ : ∀ (i : Nat) (a : Addr), as[i]? = some a → a ≠ D ∧ H0 a = none ∧ H a = some (.lst (natsV ((List.range n).map (g i))))
theorem Rws.same {H0 H H' : Hp} {D : Addr} {n : Nat} {g : Nat → Nat → Nat} {as : List Addr} (h : Rws H0 H D n g as) (s : Same H H') : Rws H0 H' D n g as :=
  ⟨s _ _ h.at_, fun i a e => ⟨(h.rw_ i a e).1, (h.rw_ i a e).2.1, s _ _ (h.rw_ i a e).2.2⟩⟩
theorem Rws.put {H0 H : Hp} {D D2 : Addr} {n : Nat} {g : Nat → Nat → Nat} {as : List Addr} (h : Rws H0 H D n g as) (e : H D2 = some (.lst (natsV ((List.range n).map (g as.length))))) (ne : D2 ≠ D) (n0 : H0 D2 = none) : Rws H0 (upd H D (.lst (as.map V.ref ++ [.ref D2]))) D n g (as ++ [D2]) := by
  refine ⟨by rw [upd_same, List.map_append]; rfl, fun i a ha => ?_⟩
  rcases Nat.lt_or_ge i as.length with lt | ge
  · rw [List.getElem?_append_left lt] at ha
    obtain ⟨h1, h2, h3⟩ := h.rw_ i a ha
    exact ⟨h1, h2, by rw [upd_ne h1]; exact h3⟩
  · rw [List.getElem?_append_right ge] at ha
    have hi : i - as.length = 0 := by
      have := (List.getElem?_eq_some_iff.mp ha).1
      simp at this; omega
    rw [hi] at ha
    have ea : D2 = a := by simpa using ha
    subst ea
    refine ⟨ne, n0, ?_⟩
    rw [upd_ne ne, e, show i = as.length by omega]
theorem Rws.dp {K : PySem.W.Frag} {H0 H : Hp} {D : Addr} {n : Nat} {g : Nat → Nat → Nat} {as : List Addr} (h : Rws H0 H D n g as) (nD : H0 D = none) (la : as.length = n) : Dp K (nw H0 H) (.ref D) (tabD n g) := by
  refine .lst (SqL.of (by rw [nw_at nD]; exact h.at_)) (dpAll_of (by simp [la]) fun i v d hv hd => ?_)
  rw [List.getElem?_map] at hv hd
  cases ea : as[i]? with
  | none => rw [ea] at hv; cases hv
  | some a =>
    rw [ea] at hv
    have ev : V.ref a = v := by simpa using hv
    have li : i < n := by rw [← la]; exact (List.getElem?_eq_some_iff.mp ea).1
    rw [List.getElem?_range li] at hd
    have ed : rowD n (g i) = d := by simpa using hd
    rw [← ev, ← ed]
    obtain ⟨_, h2, h3⟩ := h.rw_ i a ea
    have z := dp_nats (K := K) (H := nw H0 H) ((List.range n).map (g i))
    rw [List.map_map] at z
    exact .lst (SqL.of (by rw [nw_at h2]; exact h3)) z
theorem rgV_nats (n : Nat) : rgV 0 ((n : Nat) : Int) = natsV (List.range n) := by
  unfold rgV natsV
  rw [show (((n : Nat) : Int) - 0).toNat = n by omega]
  refine List.map_congr_left fun x _ => ?_
  show V.int (0 + (x : Int)) = V.int (x : Int)
  rw [Int.zero_add]
def spTables (K : PySem.W.Frag) : Sp := fun vs H Q _ => ∃ (r : Addr) (ms : List Nat), vs = [.ref r] ∧ SqL K H r ((rowsOf ms).map V.str) ∧ Fam ms ∧ ∀ (H' : Hp) (p : Addr), Same H H' → H p = none → Dp K (nw H H') (.ref p) (tabsD ms) → Q (.ref p) H'
theorem rows_len (ms : List Nat) : ((rowsOf ms).map V.str).length = ms.length := by unfold rowsOf; rw [List.length_map, List.length_map]
/-- one sign of a row -/
theorem row_ix {ms : List Nat} {x y : Nat} (hx : x < ms.length) (hy : y < ms.length) (l : ms.length ≤ 16) : atI ((rowsOf ms).map V.str) ((x : Nat) : Int) = some (.str (mk (rowC ms (msAt ms x)))) ∧ (mk (rowC ms (msAt ms x))).length ≤ sizeLine ∧ atI (mk (rowC ms (msAt ms x))).cps.toList ((y : Nat) : Int) = some (if leI ms x y = true then 49 else 48) := by
  refine ⟨atI_nat (rows_at hx), ?_, ?_⟩
  · rw [mk_len]; unfold rowC; rw [List.length_map]; exact le1000 (by omega)
  · exact atI_nat (xs := rowC ms (msAt ms x)) (rowC_at hy)
theorem filt_add {p : Nat → Bool} {l : List Nat} {j z : Nat} (h : l[j]? = some z) : (l.take (j + 1)).filter p = (l.take j).filter p ++ (if p z = true then [z] else []) := by
  rw [List.take_add_one, h, List.filter_append]
  cases e : p z <;> simp [e]
section
variable {P : Program} {w : World} {K : PySem.W.Frag} {mg : Str → Option Value} {base : Heap}
theorem ok_low {f : Addr} {fd : FuncData} {k : Nat} (F : Fun K "_law_low" "_law_low" s_law_low f fd) (m_len : mg "len" = none) (m_range : mg "range" = none) (m_all : mg "all" = none) :
    FnOk P w K mg base CX0 (k + 1) f fd ["_law_rows_here", "_law_x", "_law_y"] (spLow K lowI) := by
  refine F.ok sc_law_low (fun vs H Q E h => ?_) (fun cdv A outer s H vs Q E hr h => ?_)
  · obtain ⟨r, ms, x, y, rfl, _⟩ := h
    rfl
  · obtain ⟨r, ms, x, y, rfl, hr0, Fm, hx, hy, good⟩ := h
    have l16 := Fm.ln
    have lr := rows_len ms
    refine ⟨_, (pss_cons (ps_set (i := 3) sc_law_low.nd rfl (by first | exact .inl rfl | exact .inr rfl) (pe_lc (own := [("_law_z", 4)]) (g := gName 4) (by rfl) sc_law_low.nd (pi_range1 (by rfl) m_range (pa_cons (pe_callB call_len_seq (by rfl) m_len (by decide +kernel) (pa_cons (pv 0) pa_nil)) pa_nil)) (blkOk_by (own := [("_law_z", 4)]) (N := N_law_low) (sc := defScope s_law_low) (by decide +kernel)) (fun _ _ _ _ _ => pg_name (i := 4) sc_law_low.nd rfl (Or.inl rfl)) (fun _ _ _ _ _ => pts_one (PW.pt (pw_and (pt_cmpR op_eq (pe_ix ix_str (pe_ix (ix_listK (K := K) rfl) (pv 0) (pv 4) (fun _ _ => rfl)) (pv 1) (fun _ _ => rfl)) pe_str (nomark _)) (pw_and1 (pt_cmpR op_eq (pe_ix ix_str (pe_ix (ix_listK (K := K) rfl) (pv 0) (pv 4) (fun _ _ => rfl)) (pv 2) (fun _ _ => rfl)) pe_str (nomark _)))))) (fun _ _ _ _ _ => (pv 4))))
      (pss_one (ps_ret (pe_ix ix_list (pe_lc (own := [("_law_z", 4)]) (g := gName 4) (by rfl) sc_law_low.nd (pi_listK (K := K) rfl (pv 3)) (blkOk_by (own := [("_law_z", 4)]) (N := N_law_low) (sc := defScope s_law_low) (by decide +kernel)) (fun _ _ _ _ _ => pg_name (i := 4) sc_law_low.nd rfl (Or.inr rfl)) (fun _ _ _ _ _ => pts_one (pt_val (pe_callB (cr_allK (K := K) rfl rfl) (by rfl) m_all (by decide +kernel) (pa_cons (pe_lc (own := [("_law_w", 5)]) (g := gName 5) (by rfl) sc_law_low.nd (pi_listK (K := K) rfl (pv 3)) (blkOk_by (own := [("_law_w", 5)]) (N := N_law_low) (by exact rfl)) (fun _ _ _ _ _ => pg_name (i := 5) sc_law_low.nd rfl (Or.inl rfl)) (fun _ _ _ _ _ => pts_nil) (fun _ _ _ _ _ => (pe_cmpR op_eq (pe_ix ix_str (pe_ix (ix_listK (K := K) rfl) (pv 0) (pv 5) (fun _ _ => rfl)) (pv 4) (fun _ _ => rfl)) pe_str (nomark _)))) pa_nil)))) (fun _ _ _ _ _ => (pv 4))) pe_int (fun _ _ => rfl))))), ?_⟩
    refine ⟨_, rfl, r, _, rfl, .inl hr0, _, rfl, (by rw [lr]; omega), (by rw [lr]; omega), fun D nD => lc_range (lo := 0) (n := (((rowsOf ms).map V.str).length : Int).toNat) (fun j H' => Same H H' ∧ H' D = some (.lst (natsV (((List.range ms.length).take j).filter fun z => leI ms z x && leI ms z y)))) ?_ ?_ ?_⟩
    · exact ⟨same_upd nD, upd_same⟩
    · rintro j H' hj ⟨sm, hD⟩
      rw [lr, Int.toNat_natCast] at hj
      have hz : (List.range ms.length)[j]? = some j := by rw [List.getElem?_range hj]
      obtain ⟨a1, a2, a3⟩ := row_ix hj hx l16
      obtain ⟨b1, b2, b3⟩ := row_ix hj hy l16
      have ej : (0 : Int) + (j : Nat) = ((j : Nat) : Int) := by omega
      rw [ej]
      refine ⟨rfl, _, rfl, _, rfl, r, _, _, _, rfl, rfl, sm.seq hr0, a1, _, rfl, _, _, _, rfl, rfl, a2, a3, rfl, _, rfl, ?_⟩
      rw [one_dec]
      have fa := filt_add (p := fun z => leI ms z x && leI ms z y) hz
      have lf : (natsV (((List.range ms.length).take j).filter fun z => leI ms z x && leI ms z y)).length ≤ 16 := by
        rw [nats_len]
        refine Nat.le_trans (List.length_filter_le _ _) ?_
        rw [List.length_take, List.length_range]
        omega
      cases e1 : leI ms j x with
      | false =>
        refine iteF (iteF ⟨sm, ?_⟩)
        rw [fa, hD, e1]
        simp
      | true =>
        refine iteT ⟨_, rfl, _, rfl, r, _, _, _, rfl, rfl, sm.seq hr0, b1, _, rfl, _, _, _, rfl, rfl, b2, b3, rfl, _, rfl, ?_⟩
        rw [one_dec]
        cases e2 : leI ms j y with
        | false =>
          refine iteF ⟨sm, ?_⟩
          rw [fa, hD, e1, e2]
          simp
        | true =>
          refine iteT ⟨_, rfl, _, hD, small1000 (by omega), fun c o e => ?_, ?_⟩
          · rw [upd_ne (ne_of_none e nD)]; exact sm _ _ e
          · rw [upd_same, fa, e1, e2]
            unfold natsV
            simp
    rintro H1 ⟨s1, hD1⟩
    rw [lr, Int.toNat_natCast, show (List.range ms.length).take ms.length = List.range ms.length from List.take_of_length_le (by rw [List.length_range]; exact Nat.le_refl _)] at hD1
    change H1 D = some (.lst (natsV (lowL ms x y))) at hD1
    have lL : (lowL ms x y).length ≤ 16 := by
      unfold lowL
      refine Nat.le_trans (List.length_filter_le _ _) ?_
      rw [List.length_range]; exact l16
    refine ⟨_, rfl, D, rfl, ⟨_, SqL.of hD1⟩, fun D2 nD2 => lc_list (xs := natsV (lowL ms x y)) (fun j H' => Same H1 H' ∧ H' D2 = some (.lst (natsV (((lowL ms x y).take j).filter fun z => (lowL ms x y).all fun w => leI ms w z)))) ?_ ?_ ?_ ?_⟩
    · exact ⟨same_upd nD2, upd_same⟩
    · rintro j H' _ ⟨sm, _⟩
      exact SqL.of (sm _ _ hD1)
    · rintro j v H' hv ⟨sm, hD2⟩
      obtain ⟨z, hz, rfl⟩ := nats_get hv
      have zn : z < ms.length := (mem_lowL.mp (List.mem_of_getElem? hz)).1
      have fa := filt_add (p := fun z => (lowL ms x y).all fun w => leI ms w z) hz
      refine ⟨rfl, _, rfl, D, rfl, ⟨_, SqL.of (sm _ _ hD1)⟩, fun D3 nD3 => lc_list (xs := natsV (lowL ms x y)) (fun i H3 => Same H' H3 ∧ H3 D3 = some (.lst (((lowL ms x y).take i).map fun w => V.bl (leI ms w z)))) ?_ ?_ ?_ ?_⟩
      · exact ⟨same_upd nD3, upd_same⟩
      · rintro i H3 _ ⟨sm3, _⟩
        exact SqL.of ((sm.trans sm3) _ _ hD1)
      · rintro i u H3 hu ⟨sm3, hD3⟩
        obtain ⟨w, hw, rfl⟩ := nats_get hu
        have wn : w < ms.length := (mem_lowL.mp (List.mem_of_getElem? hw)).1
        obtain ⟨a1, a2, a3⟩ := row_ix wn zn l16
        refine ⟨rfl, yes_it ⟨_, rfl, _, rfl, r, _, _, _, rfl, rfl, (s1.trans (sm.trans sm3)).seq hr0, a1, _, rfl, _, _, _, rfl, rfl, a2, a3, rfl, _, hD3, small1000 (by rw [List.length_map, List.length_take]; omega), fun c o e => ?_, ?_⟩⟩
        · rw [upd_ne (ne_of_none e nD3)]; exact sm3 _ _ e
        · rw [upd_same, List.take_add_one, hw, List.map_append, one_dec]; rfl
      · rintro H3 ⟨sm3, hD3⟩
        rw [nats_len, List.take_length] at hD3
        have eb : ((lowL ms x y).map fun w => V.bl (leI ms w z)) = ((lowL ms x y).map fun w => leI ms w z).map V.bl := by rw [List.map_map]; rfl
        rw [eb] at hD3
        refine ⟨D3, _, rfl, SqL.of hD3, _, rfl, ?_⟩
        have ea : ((lowL ms x y).map fun w => leI ms w z).all id = (lowL ms x y).all fun w => leI ms w z := by rw [List.all_map]; rfl
        rw [ea]
        have sm4 := sm.trans sm3
        have lf : (natsV (((lowL ms x y).take j).filter fun z => (lowL ms x y).all fun w => leI ms w z)).length ≤ 16 := by
          rw [nats_len]
          refine Nat.le_trans (List.length_filter_le _ _) ?_
          rw [List.length_take]
          omega
        cases e1 : (lowL ms x y).all fun w => leI ms w z with
        | false =>
          refine iteF ⟨sm4, ?_⟩
          rw [fa, sm3 _ _ hD2, e1]
          simp
        | true =>
          refine iteT ⟨_, rfl, _, sm3 _ _ hD2, small1000 (by omega), fun c o e => ?_, ?_⟩
          · rw [upd_ne (ne_of_none e nD2)]; exact sm4 _ _ e
          · rw [upd_same, fa, e1]
            unfold natsV
            simp
    · rintro H2 ⟨s2, hD2⟩
      rw [nats_len, List.take_length] at hD2
      change H2 D2 = some (.lst (natsV (lowM ms x y))) at hD2
      obtain ⟨_, rr, er⟩ := low_cons Fm hx hy
      rw [er] at hD2
      exact ⟨D2, _, _, _, rfl, rfl, SqL.of hD2, at0, good H2 (s1.trans s2)⟩
theorem ok_up {f : Addr} {fd : FuncData} {k : Nat} (F : Fun K "_law_up" "_law_up" s_law_up f fd) (m_len : mg "len" = none) (m_range : mg "range" = none) (m_all : mg "all" = none) :
    FnOk P w K mg base CX0 (k + 1) f fd ["_law_rows_here", "_law_x", "_law_y"] (spLow K upI) := by
  refine F.ok sc_law_up (fun vs H Q E h => ?_) (fun cdv A outer s H vs Q E hr h => ?_)
  · obtain ⟨r, ms, x, y, rfl, _⟩ := h
    rfl
  · obtain ⟨r, ms, x, y, rfl, hr0, Fm, hx, hy, good⟩ := h
    have l16 := Fm.ln
    have lr := rows_len ms
    refine ⟨_, (pss_cons (ps_set (i := 3) sc_law_up.nd rfl (by first | exact .inl rfl | exact .inr rfl) (pe_lc (own := [("_law_z", 4)]) (g := gName 4) (by rfl) sc_law_up.nd (pi_range1 (by rfl) m_range (pa_cons (pe_callB call_len_seq (by rfl) m_len (by decide +kernel) (pa_cons (pv 0) pa_nil)) pa_nil)) (blkOk_by (own := [("_law_z", 4)]) (N := N_law_up) (sc := defScope s_law_up) (by decide +kernel)) (fun _ _ _ _ _ => pg_name (i := 4) sc_law_up.nd rfl (Or.inl rfl)) (fun _ _ _ _ _ => pts_one (PW.pt (pw_and (pt_cmpR op_eq (pe_ix ix_str (pe_ix (ix_listK (K := K) rfl) (pv 0) (pv 1) (fun _ _ => rfl)) (pv 4) (fun _ _ => rfl)) pe_str (nomark _)) (pw_and1 (pt_cmpR op_eq (pe_ix ix_str (pe_ix (ix_listK (K := K) rfl) (pv 0) (pv 2) (fun _ _ => rfl)) (pv 4) (fun _ _ => rfl)) pe_str (nomark _)))))) (fun _ _ _ _ _ => (pv 4))))
      (pss_one (ps_ret (pe_ix ix_list (pe_lc (own := [("_law_z", 4)]) (g := gName 4) (by rfl) sc_law_up.nd (pi_listK (K := K) rfl (pv 3)) (blkOk_by (own := [("_law_z", 4)]) (N := N_law_up) (sc := defScope s_law_up) (by decide +kernel)) (fun _ _ _ _ _ => pg_name (i := 4) sc_law_up.nd rfl (Or.inr rfl)) (fun _ _ _ _ _ => pts_one (pt_val (pe_callB (cr_allK (K := K) rfl rfl) (by rfl) m_all (by decide +kernel) (pa_cons (pe_lc (own := [("_law_w", 5)]) (g := gName 5) (by rfl) sc_law_up.nd (pi_listK (K := K) rfl (pv 3)) (blkOk_by (own := [("_law_w", 5)]) (N := N_law_up) (by exact rfl)) (fun _ _ _ _ _ => pg_name (i := 5) sc_law_up.nd rfl (Or.inl rfl)) (fun _ _ _ _ _ => pts_nil) (fun _ _ _ _ _ => (pe_cmpR op_eq (pe_ix ix_str (pe_ix (ix_listK (K := K) rfl) (pv 0) (pv 4) (fun _ _ => rfl)) (pv 5) (fun _ _ => rfl)) pe_str (nomark _)))) pa_nil)))) (fun _ _ _ _ _ => (pv 4))) pe_int (fun _ _ => rfl))))), ?_⟩
    refine ⟨_, rfl, r, _, rfl, .inl hr0, _, rfl, (by rw [lr]; omega), (by rw [lr]; omega), fun D nD => lc_range (lo := 0) (n := (((rowsOf ms).map V.str).length : Int).toNat) (fun j H' => Same H H' ∧ H' D = some (.lst (natsV (((List.range ms.length).take j).filter fun z => leI ms x z && leI ms y z)))) ?_ ?_ ?_⟩
    · exact ⟨same_upd nD, upd_same⟩
    · rintro j H' hj ⟨sm, hD⟩
      rw [lr, Int.toNat_natCast] at hj
      have hz : (List.range ms.length)[j]? = some j := by rw [List.getElem?_range hj]
      obtain ⟨a1, a2, a3⟩ := row_ix hx hj l16
      obtain ⟨b1, b2, b3⟩ := row_ix hy hj l16
      have ej : (0 : Int) + (j : Nat) = ((j : Nat) : Int) := by omega
      rw [ej]
      refine ⟨rfl, _, rfl, _, rfl, r, _, _, _, rfl, rfl, sm.seq hr0, a1, _, rfl, _, _, _, rfl, rfl, a2, a3, rfl, _, rfl, ?_⟩
      rw [one_dec]
      have fa := filt_add (p := fun z => leI ms x z && leI ms y z) hz
      have lf : (natsV (((List.range ms.length).take j).filter fun z => leI ms x z && leI ms y z)).length ≤ 16 := by
        rw [nats_len]
        refine Nat.le_trans (List.length_filter_le _ _) ?_
        rw [List.length_take, List.length_range]
        omega
      cases e1 : leI ms x j with
      | false =>
        refine iteF (iteF ⟨sm, ?_⟩)
        rw [fa, hD, e1]
        simp
      | true =>
        refine iteT ⟨_, rfl, _, rfl, r, _, _, _, rfl, rfl, sm.seq hr0, b1, _, rfl, _, _, _, rfl, rfl, b2, b3, rfl, _, rfl, ?_⟩
        rw [one_dec]
        cases e2 : leI ms y j with
        | false =>
          refine iteF ⟨sm, ?_⟩
          rw [fa, hD, e1, e2]
          simp
        | true =>
          refine iteT ⟨_, rfl, _, hD, small1000 (by omega), fun c o e => ?_, ?_⟩
          · rw [upd_ne (ne_of_none e nD)]; exact sm _ _ e
          · rw [upd_same, fa, e1, e2]
            unfold natsV
            simp
    rintro H1 ⟨s1, hD1⟩
    rw [lr, Int.toNat_natCast, show (List.range ms.length).take ms.length = List.range ms.length from List.take_of_length_le (by rw [List.length_range]; exact Nat.le_refl _)] at hD1
    change H1 D = some (.lst (natsV (upL ms x y))) at hD1
    have lL : (upL ms x y).length ≤ 16 := by
      unfold upL
      refine Nat.le_trans (List.length_filter_le _ _) ?_
      rw [List.length_range]; exact l16
    refine ⟨_, rfl, D, rfl, ⟨_, SqL.of hD1⟩, fun D2 nD2 => lc_list (xs := natsV (upL ms x y)) (fun j H' => Same H1 H' ∧ H' D2 = some (.lst (natsV (((upL ms x y).take j).filter fun z => (upL ms x y).all fun w => leI ms z w)))) ?_ ?_ ?_ ?_⟩
    · exact ⟨same_upd nD2, upd_same⟩
    · rintro j H' _ ⟨sm, _⟩
      exact SqL.of (sm _ _ hD1)
    · rintro j v H' hv ⟨sm, hD2⟩
      obtain ⟨z, hz, rfl⟩ := nats_get hv
      have zn : z < ms.length := (mem_upL.mp (List.mem_of_getElem? hz)).1
      have fa := filt_add (p := fun z => (upL ms x y).all fun w => leI ms z w) hz
      refine ⟨rfl, _, rfl, D, rfl, ⟨_, SqL.of (sm _ _ hD1)⟩, fun D3 nD3 => lc_list (xs := natsV (upL ms x y)) (fun i H3 => Same H' H3 ∧ H3 D3 = some (.lst (((upL ms x y).take i).map fun w => V.bl (leI ms z w)))) ?_ ?_ ?_ ?_⟩
      · exact ⟨same_upd nD3, upd_same⟩
      · rintro i H3 _ ⟨sm3, _⟩
        exact SqL.of ((sm.trans sm3) _ _ hD1)
      · rintro i u H3 hu ⟨sm3, hD3⟩
        obtain ⟨w, hw, rfl⟩ := nats_get hu
        have wn : w < ms.length := (mem_upL.mp (List.mem_of_getElem? hw)).1
        obtain ⟨a1, a2, a3⟩ := row_ix zn wn l16
        refine ⟨rfl, yes_it ⟨_, rfl, _, rfl, r, _, _, _, rfl, rfl, (s1.trans (sm.trans sm3)).seq hr0, a1, _, rfl, _, _, _, rfl, rfl, a2, a3, rfl, _, hD3, small1000 (by rw [List.length_map, List.length_take]; omega), fun c o e => ?_, ?_⟩⟩
        · rw [upd_ne (ne_of_none e nD3)]; exact sm3 _ _ e
        · rw [upd_same, List.take_add_one, hw, List.map_append, one_dec]; rfl
      · rintro H3 ⟨sm3, hD3⟩
        rw [nats_len, List.take_length] at hD3
        have eb : ((upL ms x y).map fun w => V.bl (leI ms z w)) = ((upL ms x y).map fun w => leI ms z w).map V.bl := by rw [List.map_map]; rfl
        rw [eb] at hD3
        refine ⟨D3, _, rfl, SqL.of hD3, _, rfl, ?_⟩
        have ea : ((upL ms x y).map fun w => leI ms z w).all id = (upL ms x y).all fun w => leI ms z w := by rw [List.all_map]; rfl
        rw [ea]
        have sm4 := sm.trans sm3
        have lf : (natsV (((upL ms x y).take j).filter fun z => (upL ms x y).all fun w => leI ms z w)).length ≤ 16 := by
          rw [nats_len]
          refine Nat.le_trans (List.length_filter_le _ _) ?_
          rw [List.length_take]
          omega
        cases e1 : (upL ms x y).all fun w => leI ms z w with
        | false =>
          refine iteF ⟨sm4, ?_⟩
          rw [fa, sm3 _ _ hD2, e1]
          simp
        | true =>
          refine iteT ⟨_, rfl, _, sm3 _ _ hD2, small1000 (by omega), fun c o e => ?_, ?_⟩
          · rw [upd_ne (ne_of_none e nD2)]; exact sm4 _ _ e
          · rw [upd_same, fa, e1]
            unfold natsV
            simp
    · rintro H2 ⟨s2, hD2⟩
      rw [nats_len, List.take_length] at hD2
      change H2 D2 = some (.lst (natsV (upM ms x y))) at hD2
      obtain ⟨_, rr, er⟩ := up_cons Fm hx hy
      rw [er] at hD2
      exact ⟨D2, _, _, _, rfl, rfl, SqL.of hD2, at0, good H2 (s1.trans s2)⟩
end
end Fv


namespace Fv
open PySem PySem.Spec PyProof.Rows L2 FvX
/-! ### rules in the element of a comprehension -/
theorem pe_isDc {X : Cx} {K : PySem.W.Frag} {e : Expr} {te : TE} {T : String} {y : Str} {p p2 pos : Pos} (hK : X.K = K) (hg : Gl X "isinstance") (hm : X.mg "isinstance" = none) (hg2 : Gl X y) (hm2 : X.mg y = none) (ha : PE X e te)
    (hv : bootBuiltins y = some (.type T) := by decide +kernel) (hn : y ≠ "__name__" := by decide) (hd2 : (y == ("__debug__" : Str)) = false := by decide)
    (he : starEach (e :: [.Name y p2]) X.env = (false, eval e X.env) :: starEach [.Name y p2] X.env := by rfl) (hpl : (backTo pos (starEach [.Name y p2] X.env)).any (·.1) = false := by rfl) :
    PE X (.Call (.Name "isinstance" p) [e, .Name y p2] [] pos) (tCB (rIsD K) (tCons te (tCons (tC (.ty T)) tNil))) := by
  subst hK
  exact pe_isD hg hm hg2 hm2 ha hv hn hd2 he hpl
theorem call_len_seqK {X : Cx} {K : PySem.W.Frag} (hK : X.K = K) : CallR X (.builtin "len") (fun xs H Q => ∃ p ys, xs = [.ref p] ∧ (SqL K H p ys ∨ SqT K H p ys) ∧ Q (.int ys.length) H) := by
  subst hK
  exact call_len_seq
theorem call_lenTK {X : Cx} {K : PySem.W.Frag} (hK : X.K = K) : CallR X (.builtin "len") (fun xs H Q => ∃ x n, xs = [x] ∧ LenV K x H n ∧ Q (.int (n : Nat)) H) := by
  subst hK
  exact call_len
end Fv


namespace Fv
open PySem PySem.Spec PyProof.Rows L2
/-- x in a list of data -/
def rInL (K : PySem.W.Frag) : R2 := fun x y H Q => ∃ d ds, Dp K H x d ∧ Dp K H y (.list ds) ∧ SeqAt.shaped d = true ∧ SeqAt.shaped (.list ds) = true ∧ Q (.bl (ds.any fun z => PyData.eqv z d)) H
theorem op_inL {X : Cx} (hu : X.A.units + 65 < cLine) : OpR X (compareOp .In) (rInL X.K) := by
  intro pins s σ H x y v u Q I rx ry h
  obtain ⟨d, ds, hd, he, sd, se, q⟩ := h
  obtain ⟨as, r1⟩ := Dp.reads I d x v hd rx
  obtain ⟨bs, r2⟩ := Dp.reads I (.list ds) y u he ry
  exact SeqAt.in_list_reads r2 r1 (SeqAt.canLay_of_shaped se) (SeqAt.canLay_of_shaped sd) (room_shaped sd hu) ⟨.bl _, H, I, rfl, q⟩
end Fv


namespace Fv
open PySem PySem.Spec PyProof.Rows L2 FvX FvW
/-! ### comprehensions that make truth values, or leave some out -/
theorem lc_bools {K : PySem.W.Frag} {a : Addr} {xs : List V} {bs : List Bool} {g : TG} {te : TE} {vs : List Nat} {σ : L2.St} {H1 : Hp} {D : Addr} {Qd : Hp → Prop} (hl : SqL K H1 a xs) (hn : H1 D = none) (lx : xs.length = bs.length) (lb : bs.length ≤ 900)
    (hs : ∀ (i : Nat) (x : V) (b : Bool) (H' : Hp), xs[i]? = some x → bs[i]? = some b → Same H1 H' → ∀ (N : V → Hp → Prop) (M : Hp → Prop), (∀ H'', Same H' H'' → N (.bl b) H'') → g x (wipe σ vs) H' fun σ2 H2 => wipe σ2 vs = wipe σ vs ∧ tYes σ2 H2 fun b H3 => if b = true then te σ2 H3 N else M H3)
    (hd : ∀ H', Same H1 H' → H' D = some (.lst (bs.map V.bl)) → Qd H') :
    ∃ W : Nat → Nat → Hp → Prop, (∃ m, W 0 m (upd H1 D (.lst []))) ∧ ∀ i m H, W i m H →
      ((Itl K a).stop i H ∧ Qd H) ∨ ((Itl K a).go i H ∧ ∃ Nx : Hp → Prop, (∀ H', Nx H' → ∃ m', m' < m ∧ W (i + 1) m' H') ∧ ∀ x H', (Itl K a).yld i H x H' → g x (wipe σ vs) H' fun σ2 H2 => wipe σ2 vs = wipe σ vs ∧ tYes σ2 H2 fun b H3 =>
        if b = true then te σ2 H3 fun y H4 => ∃ acc, H4 D = some (.lst acc) ∧ acc.length < sizeLine ∧ Nx (upd H4 D (.lst (acc ++ [y]))) else Nx H3) := by
  refine lc_list (xs := xs) (fun i H' => Same H1 H' ∧ H' D = some (.lst ((bs.take i).map V.bl))) ⟨same_upd hn, upd_same⟩ (fun i H' _ p => p.1.seq hl) (fun i x H' hx p => ?_) (fun H' p => ?_)
  · obtain ⟨sm, e⟩ := p
    have il := (List.getElem?_eq_some_iff.mp hx).1
    obtain ⟨b, hb⟩ : ∃ b, bs[i]? = some b := ⟨_, List.getElem?_eq_getElem (by omega)⟩
    refine hs i x b H' hx hb sm _ _ fun H4 s4 => ⟨_, s4 _ _ e, small1000 (by rw [List.length_map, List.length_take]; omega), fun c o ec => ?_, ?_⟩
    · rw [upd_ne (ne_of_none ec hn)]
      exact s4 _ _ (sm _ _ ec)
    · rw [upd_same, List.take_add_one, hb, List.map_append]
      rfl
  · obtain ⟨sm, e⟩ := p
    rw [lx, List.take_length] at e
    exact hd H' sm e
/-- with a test, all that are made are true -/
theorem lc_trues {K : PySem.W.Frag} {a : Addr} {xs : List V} {g : TG} {tt : TT} {te : TE} {vs : List Nat} {σ : L2.St} {H1 : Hp} {D : Addr} {Qd : Hp → Prop} (hl : SqL K H1 a xs) (hn : H1 D = none) (lb : xs.length ≤ 900)
    (hs : ∀ (i : Nat) (x : V) (H' : Hp), xs[i]? = some x → Same H1 H' → ∀ (N : V → Hp → Prop) (M : Hp → Prop), (∀ H'', Same H' H'' → N (.bl true) H'') → (∀ H'', Same H' H'' → M H'') → g x (wipe σ vs) H' fun σ2 H2 => wipe σ2 vs = wipe σ vs ∧ tt σ2 H2 fun b H3 => if b = true then te σ2 H3 N else M H3)
    (hd : ∀ H' n, Same H1 H' → H' D = some (.lst ((List.replicate n true).map V.bl)) → Qd H') :
    ∃ W : Nat → Nat → Hp → Prop, (∃ m, W 0 m (upd H1 D (.lst []))) ∧ ∀ i m H, W i m H →
      ((Itl K a).stop i H ∧ Qd H) ∨ ((Itl K a).go i H ∧ ∃ Nx : Hp → Prop, (∀ H', Nx H' → ∃ m', m' < m ∧ W (i + 1) m' H') ∧ ∀ x H', (Itl K a).yld i H x H' → g x (wipe σ vs) H' fun σ2 H2 => wipe σ2 vs = wipe σ vs ∧ tt σ2 H2 fun b H3 =>
        if b = true then te σ2 H3 fun y H4 => ∃ acc, H4 D = some (.lst acc) ∧ acc.length < sizeLine ∧ Nx (upd H4 D (.lst (acc ++ [y]))) else Nx H3) := by
  refine lc_list (xs := xs) (fun i H' => Same H1 H' ∧ ∃ n, n ≤ i ∧ H' D = some (.lst ((List.replicate n true).map V.bl))) ⟨same_upd hn, 0, Nat.le_refl _, upd_same⟩ (fun i H' _ p => p.1.seq hl) (fun i x H' hx p => ?_) (fun H' p => ?_)
  · obtain ⟨sm, n, ni, e⟩ := p
    have il := (List.getElem?_eq_some_iff.mp hx).1
    refine hs i x H' hx sm _ _ (fun H4 s4 => ⟨_, s4 _ _ e, small1000 (by rw [List.length_map, List.length_replicate]; omega), fun c o ec => ?_, n + 1, by omega, ?_⟩) fun H4 s4 => ⟨sm.trans s4, n, by omega, s4 _ _ e⟩
    · rw [upd_ne (ne_of_none ec hn)]
      exact s4 _ _ (sm _ _ ec)
    · rw [upd_same, List.replicate_succ', List.map_append]
      rfl
  · obtain ⟨sm, n, ni, e⟩ := p
    exact hd H' n sm e
/-- some of a list's data -/
theorem lc_filt {K : PySem.W.Frag} {a : Addr} {xs : List V} {ds : List PyData} {f : PyData → Bool} {g : TG} {tt : TT} {te : TE} {vs : List Nat} {σ : L2.St} {H1 : Hp} {D : Addr} {Qd : Hp → Prop} (hl : SqL K H1 a xs) (hn : H1 D = none) (hD : DpAll K H1 xs ds) (lb : ds.length ≤ 900)
    (hs : ∀ (i : Nat) (x : V) (d : PyData) (H' : Hp), xs[i]? = some x → ds[i]? = some d → Same H1 H' → ∀ (N : V → Hp → Prop) (M : Hp → Prop), (f d = true → ∀ H'', Same H' H'' → N x H'') → (f d = false → ∀ H'', Same H' H'' → M H'') → g x (wipe σ vs) H' fun σ2 H2 => wipe σ2 vs = wipe σ vs ∧ tt σ2 H2 fun b H3 => if b = true then te σ2 H3 N else M H3)
    (hd : ∀ H' ys, Same H1 H' → H' D = some (.lst ys) → DpAll K H1 ys (ds.filter f) → Qd H') :
    ∃ W : Nat → Nat → Hp → Prop, (∃ m, W 0 m (upd H1 D (.lst []))) ∧ ∀ i m H, W i m H →
      ((Itl K a).stop i H ∧ Qd H) ∨ ((Itl K a).go i H ∧ ∃ Nx : Hp → Prop, (∀ H', Nx H' → ∃ m', m' < m ∧ W (i + 1) m' H') ∧ ∀ x H', (Itl K a).yld i H x H' → g x (wipe σ vs) H' fun σ2 H2 => wipe σ2 vs = wipe σ vs ∧ tt σ2 H2 fun b H3 =>
        if b = true then te σ2 H3 fun y H4 => ∃ acc, H4 D = some (.lst acc) ∧ acc.length < sizeLine ∧ Nx (upd H4 D (.lst (acc ++ [y]))) else Nx H3) := by
  have lx := dpAll_len hD
  refine lc_list (xs := xs) (fun i H' => Same H1 H' ∧ ∃ ys, H' D = some (.lst ys) ∧ DpAll K H1 ys ((ds.take i).filter f)) ⟨same_upd hn, [], upd_same, .nil⟩ (fun i H' _ p => p.1.seq hl) (fun i x H' hx p => ?_) (fun H' p => ?_)
  · obtain ⟨sm, ys, e, hy⟩ := p
    obtain ⟨d, hd', hDx⟩ := dpAll_get hD hx
    have ly := dpAll_len hy
    have lf := List.length_filter_le f (ds.take i)
    rw [List.length_take] at lf
    refine hs i x d H' hx hd' sm _ _ (fun ft H4 s4 => ⟨_, s4 _ _ e, small1000 (by omega), fun c o ec => ?_, ys ++ [x], upd_same, ?_⟩) fun ff H4 s4 => ⟨sm.trans s4, ys, s4 _ _ e, ?_⟩
    · rw [upd_ne (ne_of_none ec hn)]
      exact s4 _ _ (sm _ _ ec)
    · rw [List.take_add_one, hd', List.filter_append]
      refine dpAll_app hy ?_
      rw [show (some d).toList = [d] from rfl, List.filter_cons, if_pos ft]
      exact .cons hDx .nil
    · rw [List.take_add_one, hd', List.filter_append, show (some d).toList = [d] from rfl, List.filter_cons, ff]
      simpa using hy
  · obtain ⟨sm, ys, e, hy⟩ := p
    rw [lx, List.take_length] at hy
    exact hd H' ys sm e hy
theorem all_map_true {α : Type} {l : List α} {f : α → Bool} (h : ∀ x ∈ l, f x = true) : ((l.map f).all id) = true := by
  rw [List.all_map]
  exact List.all_eq_true.mpr h
theorem rep_all (n : Nat) : ((List.replicate n true).all id) = true := List.all_eq_true.mpr fun x hx => List.eq_of_mem_replicate hx
theorem op_inLK {X : Cx} {K : PySem.W.Frag} (hK : X.K = K) (hu : X.A.units + 65 < cLine) : OpR X (compareOp .In) (rInL K) := by
  subst hK
  exact op_inL hu
end Fv


namespace FvK
open PySem PySem.Spec PyProof.Rows L2 Fv FvX FvW
/-! ### dicts made over a range -/
theorem dc_rangeK {lo : Int} {n : Nat} {g : TG} {tt : TT} {tk tv : TE} {vs : List Nat} {σ : L2.St} {H1 : Hp} {D : Addr} {Qd : Hp → Prop} (Pv : Nat → Hp → Prop) (h0 : Pv 0 (upd H1 D (.dK [])))
    (hs : ∀ i H, i < n → Pv i H → g (.int (lo + (i : Nat))) (wipe σ vs) H fun σ2 H2 => wipe σ2 vs = wipe σ vs ∧ tt σ2 H2 fun b H3 => if b = true then tk σ2 H3 (fun y H4 => tv σ2 H4 fun z H5 => ∃ kvs k, y = kV k ∧ H5 D = some (.dK kvs) ∧ kvs.length < sizeLine ∧ Pv (i + 1) (upd H5 D (.dK (putK kvs k z)))) else Pv (i + 1) H3) (hd : ∀ H, Pv n H → Qd H) :
    ∃ W : Nat → Nat → Hp → Prop, (∃ m, W 0 m (upd H1 D (.dK []))) ∧ ∀ i m H, W i m H → ((Itr lo n).stop i H ∧ Qd H) ∨ ((Itr lo n).go i H ∧ ∃ N : Hp → Prop, (∀ H', N H' → ∃ m', m' < m ∧ W (i + 1) m' H') ∧
      ∀ x H', (Itr lo n).yld i H x H' → g x (wipe σ vs) H' fun σ2 H2 => wipe σ2 vs = wipe σ vs ∧ tt σ2 H2 fun b H3 => if b = true then tk σ2 H3 (fun y H4 => tv σ2 H4 fun z H5 => ∃ kvs k, y = kV k ∧ H5 D = some (.dK kvs) ∧ kvs.length < sizeLine ∧ N (upd H5 D (.dK (putK kvs k z)))) else N H3) := by
  refine ⟨fun i m H => m = n - i ∧ i ≤ n ∧ Pv i H, ⟨n - 0, rfl, Nat.zero_le _, h0⟩, fun i m H z => ?_⟩
  obtain ⟨em, hi, p⟩ := z
  rcases Nat.lt_or_ge i n with lt | ge
  · refine .inr ⟨lt, Pv (i + 1), fun H' p' => ⟨n - (i + 1), by omega, rfl, lt, p'⟩, fun x H' y => ?_⟩
    obtain ⟨rfl, rfl⟩ := y
    exact hs i _ lt p
  · have e : n = i := Nat.le_antisymm ge hi
    subst e
    exact .inl ⟨Nat.le_refl _, hd H p⟩
theorem putK_lenK (c : List (Key × V)) (k : Key) (x : V) : (putK c k x).length ≤ c.length + 1 := by
  unfold putK
  split
  · rw [List.length_map]; omega
  · rw [List.length_append]; exact Nat.le_refl _
theorem pe_fldK {X : Cx} {K : PySem.W.Frag} {e : Expr} {ta : TE} {f : Str} {pos : Pos} (hK : X.K = K) (he : PE X e ta) (hb : attributeBase e f X.env (eval e X.env) = eval e X.env) : PE X (.Attribute e f pos) (tFld K ta f) := by
  subst hK
  exact pe_fld he hb
end FvK



namespace FvO
open PySem PySem.Spec PyProof.Rows L2 Fv FvW
-- top 32  slots: 0:rows 1:most 2:row
abbrev s_are_square : Stmt := topS 32
abbrev N_are_square : List Str := ["rows", "most", "row"]
theorem sc_are_square : FnScope N_are_square ["rows", "most"] (defScope s_are_square) := ⟨rfl, rfl, rfl, by decide +kernel, rfl, by decide +kernel, by decide +kernel⟩

-- top 33  slots: 0:rows 1:row 2:at
abbrev s_columns_of : Stmt := topS 33
abbrev N_columns_of : List Str := ["rows", "row", "at"]
theorem sc_columns_of : FnScope N_columns_of ["rows"] (defScope s_columns_of) := ⟨rfl, rfl, rfl, by decide +kernel, rfl, by decide +kernel, by decide +kernel⟩

-- top 34  slots: 0:rows 1:row
abbrev s_masks_of : Stmt := topS 34
abbrev N_masks_of : List Str := ["rows", "row"]
theorem sc_masks_of : FnScope N_masks_of ["rows"] (defScope s_masks_of) := ⟨rfl, rfl, rfl, by decide +kernel, rfl, by decide +kernel, by decide +kernel⟩

-- top 35  slots: 0:masks 1:places 2:at 3:other 4:one
abbrev s_bound_table : Stmt := topS 35
abbrev N_bound_table : List Str := ["masks", "places", "at", "other", "one"]
theorem sc_bound_table : FnScope N_bound_table ["masks"] (defScope s_bound_table) := ⟨rfl, rfl, rfl, by decide +kernel, rfl, by decide +kernel, by decide +kernel⟩

theorem hu_of {A : Around} {k : Nat} (hr : Room k A) : A.units + 1 < cLine := by have := hu65 hr; omega
/-! ### what a board's rows become -/
def spSqR (K : PySem.W.Frag) : Sp := fun vs H Q _ => ∃ (r : Addr) (n : Nat) (b : Nat → Nat → Bool), vs = [.ref r, .int 60] ∧ SqL K H r ((rowsF n b).map V.str) ∧ 1 ≤ n ∧ n ≤ 60 ∧ ∀ H', Same H H' → Q (.bl true) H'
def spCol (K : PySem.W.Frag) : Sp := fun vs H Q _ => ∃ (r : Addr) (n : Nat) (b : Nat → Nat → Bool), vs = [.ref r] ∧ SqL K H r ((rowsF n b).map V.str) ∧ n ≤ 60 ∧ ∀ (H' : Hp) (p : Addr), Same H H' → H p = none → H' p = some (.lst ((rowsF n fun x y => b y x).map V.str)) → Q (.ref p) H'
def spMsk (K : PySem.W.Frag) : Sp := fun vs H Q _ => ∃ (r : Addr) (n : Nat) (b : Nat → Nat → Bool), vs = [.ref r] ∧ SqL K H r ((rowsF n b).map V.str) ∧ 1 ≤ n ∧ n ≤ 60 ∧ ∀ (H' : Hp) (p : Addr), Same H H' → H p = none → H' p = some (.lst (natsV ((List.range n).map fun x => maskF n (b x)))) → Q (.ref p) H'
def spBT (K : PySem.W.Frag) : Sp := fun vs H Q _ => ∃ (r : Addr) (n : Nat) (m : Nat → Nat) (g : Nat → Nat → Nat), vs = [.ref r] ∧ SqL K H r (natsV ((List.range n).map m)) ∧ n ≤ 60 ∧ (∀ x y, x < n → y < n → m x = m y → x = y) ∧ (∀ x y, x < n → y < n → g x y < n ∧ m x &&& m y = m (g x y)) ∧
  ∀ (H' : Hp) (p : Addr), Same H H' → H p = none → Dp K (nw H H') (.ref p) (tabD n g) → Q (.ref p) H'
theorem rows_get {n : Nat} {b : Nat → Nat → Bool} {i : Nat} {x : V} (h : ((rowsF n b).map V.str)[i]? = some x) : i < n ∧ x = .str (rowF n (b i)) := by
  rw [List.getElem?_map] at h
  obtain ⟨s, hs, rfl⟩ := Option.map_eq_some_iff.mp h
  unfold rowsF at hs
  rw [List.getElem?_map] at hs
  obtain ⟨j, hj, rfl⟩ := Option.map_eq_some_iff.mp hs
  have l := (List.getElem?_eq_some_iff.mp hj).1
  rw [List.length_range] at l
  rw [List.getElem?_range l] at hj
  cases hj
  exact ⟨l, rfl⟩
theorem rows_lenF (n : Nat) (b : Nat → Nat → Bool) : ((rowsF n b).map V.str).length = n := by unfold rowsF; rw [List.length_map, List.length_map, List.length_range]
theorem rowF_size {n : Nat} (f : Nat → Bool) (h : n ≤ 60) : (rowF n f).length ≤ sizeLine := by rw [rowF_len, sizeLine_eq]; omega
section
variable {P : Program} {w : World} {K : PySem.W.Frag} {mg : Str → Option Value} {base : Heap}
theorem ok_square {f : Addr} {fd : FuncData} {k : Nat} (F : Fun K "are_square" "are_square" s_are_square f fd) (m_len : mg "len" = none) (m_all : mg "all" = none) (m_isinstance : mg "isinstance" = none) (m_str : mg "str" = none) :
    FnOk P w K mg base CX0 (k + 1) f fd ["rows", "most"] (spSqR K) := by
  refine F.ok sc_are_square (fun vs H Q E h => ?_) (fun cdv A outer s H vs Q E hr h => ?_)
  · obtain ⟨r, n, b, rfl, _⟩ := h
    rfl
  · obtain ⟨r, n, b, rfl, hr0, n1, n60, good⟩ := h
    refine ⟨_, (pss_cons (ps_if (PW.pt (pw_or (pt_cmpR op_lt (pe_callB call_len_seq (by rfl) m_len (by decide +kernel) (pa_cons (pv 0) pa_nil)) pe_int (nomark _)) (pw_or1 (pt_cmpR op_gt (pe_callB call_len_seq (by rfl) m_len (by decide +kernel) (pa_cons (pv 0) pa_nil)) (pv 1) (nomark _)))))
        (pss_one (ps_ret pe_bl))
        pss_nil)
      (pss_one (ps_ret (pe_callB (cr_allK (K := K) rfl rfl) (by rfl) m_all (by decide +kernel) (pa_cons (pe_lc (own := [("row", 2)]) (g := gName 2) (by rfl) sc_are_square.nd (pi_list (pv 0)) (blkOk_by (own := [("row", 2)]) (N := N_are_square) (sc := defScope s_are_square) (by decide +kernel)) (fun _ _ _ _ _ => pg_name (i := 2) sc_are_square.nd rfl (Or.inl rfl)) (fun _ _ _ _ _ => pts_nil) (fun _ _ _ _ _ => (pe_and (pe_isDc (K := K) (T := "str") rfl (by rfl) m_isinstance (by rfl) m_str (pv 2)) (pe_and (pe_cmpR op_eq (pe_callB (call_lenTK (K := K) rfl) (by rfl) m_len (by decide +kernel) (pa_cons (pv 2) pa_nil)) (pe_callB (call_len_seqK (K := K) rfl) (by rfl) m_len (by decide +kernel) (pa_cons (pv 0) pa_nil)) (nomark _)) (pe_one (pe_cmpR op_eq (pe_m1 PySem.F.slot_str_strip PySem.F.type_str_strip mt_stripChars (pv 2) pe_str) pe_str (nomark _))))))) pa_nil))))), ?_⟩
    have lr := rows_lenF n b
    refine ⟨_, rfl, r, _, rfl, .inl hr0, _, _, rfl, rfl, _, rfl, ?_⟩
    rw [lr, show decide (((n : Nat) : Int) < 1) = false from decide_eq_false (by omega)]
    refine iteF ⟨_, rfl, r, _, rfl, .inl hr0, _, rfl, _, _, rfl, rfl, _, rfl, ?_⟩
    rw [lr, show decide (((n : Nat) : Int) > 60) = false from decide_eq_false (by omega)]
    refine iteF ⟨_, rfl, r, rfl, ⟨_, hr0⟩, fun D nD => lc_bools (xs := (rowsF n b).map V.str) (bs := (List.range n).map fun _ => true) hr0 nD (by rw [lr, List.length_map, List.length_range]) (by rw [List.length_map, List.length_range]; omega) (fun i x c H' hx hc sm N M qN => ?_) (fun H' sm hD => ?_)⟩
    · obtain ⟨il, rfl⟩ := rows_get hx
      rw [List.getElem?_map, List.getElem?_range il] at hc
      cases hc
      refine ⟨rfl, yes_it ⟨_, rfl, _, _, .str (rowF n (b i)), rfl, by decide, .str _, _, rfl, iteT ⟨_, rfl, _, _, rfl, ⟨rowF_size _ n60, rfl⟩, _, rfl, r, _, rfl, .inl (sm.seq hr0), rfl, _, rfl, ?_⟩⟩⟩
      rw [show decide (V.int (((rowF n (b i)).length : Nat) : Int) = V.int ((((rowsF n b).map V.str).length : Nat) : Int)) = true from decide_eq_true (by rw [rowF_len, lr])]
      refine iteT ⟨_, rfl, ⟨_, rfl⟩, _, _, rfl, rfl, rowF_size _ n60, rfl, ?_⟩
      rw [strip_bin (rowF_bin n (b i))]
      exact qN _ (Same.refl _)
    · refine ⟨D, _, rfl, SqL.of hD, ?_⟩
      rw [all_map_true fun x _ => rfl]
      exact good _ sm
theorem ok_columns {f : Addr} {fd : FuncData} {k : Nat} (F : Fun K "columns_of" "columns_of" s_columns_of f fd) (m_len : mg "len" = none) (m_range : mg "range" = none) :
    FnOk P w K mg base CX0 (k + 1) f fd ["rows"] (spCol K) := by
  refine F.ok sc_columns_of (fun vs H Q E h => ?_) (fun cdv A outer s H vs Q E hr h => ?_)
  · obtain ⟨r, n, b, rfl, _⟩ := h
    rfl
  · obtain ⟨r, n, b, rfl, hr0, n60, good⟩ := h
    refine ⟨_, (pss_one (ps_ret (pe_lc (own := [("at", 2)]) (g := gName 2) (by rfl) sc_columns_of.nd (pi_range1 (by rfl) m_range (pa_cons (pe_callB call_len_seq (by rfl) m_len (by decide +kernel) (pa_cons (pv 0) pa_nil)) pa_nil)) (blkOk_by (own := [("at", 2)]) (N := N_columns_of) (sc := defScope s_columns_of) (by decide +kernel)) (fun _ _ _ _ _ => pg_name (i := 2) sc_columns_of.nd rfl (Or.inr rfl)) (fun _ _ _ _ _ => pts_nil) (fun _ _ _ _ _ => (pe_joinK (K := K) rfl pe_str (pe_lc (own := [("row", 1)]) (g := gName 1) (by rfl) sc_columns_of.nd (pi_listK (K := K) rfl (pv 0)) (blkOk_by (own := [("row", 1)]) (N := N_columns_of) (by exact rfl)) (fun _ _ _ _ _ => pg_name (i := 1) sc_columns_of.nd rfl (Or.inl rfl)) (fun _ _ _ _ _ => pts_nil) (fun _ _ _ _ _ => (pe_ix ix_str (pv 1) (pv 2) (fun _ _ => rfl))))))))), ?_⟩
    have lr := rows_lenF n b
    refine ⟨_, rfl, r, _, rfl, .inl hr0, _, rfl, by omega, by omega, fun D nD => lc_range (lo := 0) (n := ((((rowsF n b).map V.str).length : Nat) : Int).toNat) (fun j H' => Same H H' ∧ H' D = some (.lst ((List.range j).map fun y => V.str (rowF n fun x => b x y)))) ?_ ?_ ?_⟩
    · exact ⟨same_upd nD, upd_same⟩
    · rintro j H' hj ⟨sm, hD⟩
      have ej : (0 : Int) + (j : Nat) = ((j : Nat) : Int) := by omega
      rw [ej]
      rw [Int.toNat_natCast, lr] at hj
      refine ⟨rfl, yes_it ⟨⟨_, rfl⟩, _, rfl, r, rfl, ⟨_, sm.seq hr0⟩, fun D2 nD2 => lc_list (xs := (rowsF n b).map V.str) (fun i H2 => Same H' H2 ∧ H2 D2 = some (.lst ((((List.range i).map fun x => chB (b x j)).map fun c => (⟨#[c]⟩ : Str)).map V.str))) ?_ ?_ ?_ ?_⟩⟩
      · exact ⟨same_upd nD2, upd_same⟩
      · rintro i H2 _ ⟨s2, _⟩
        exact s2.seq (sm.seq hr0)
      · rintro i x H2 hx ⟨s2, hD2⟩
        obtain ⟨il, rfl⟩ := rows_get hx
        refine ⟨rfl, yes_it ⟨_, rfl, _, rfl, _, _, chB (b i j), rfl, rfl, rowF_size _ n60, ?_, _, hD2, small1000 (by rw [List.length_map, List.length_map, List.length_map, List.length_range]; omega), fun c o e => ?_, ?_⟩⟩
        · rw [rowF_cps]
          exact atI_nat (by rw [List.getElem?_map, List.getElem?_range hj]; rfl)
        · rw [upd_ne (ne_of_none e nD2)]; exact s2 _ _ e
        · rw [upd_same, List.range_succ]
          simp
      · rintro H2 ⟨s2, hD2⟩
        rw [lr] at hD2
        refine ⟨_, D2, _, rfl, rfl, .inl (SqL.of hD2), ?_, _, s2 _ _ hD, small1000 (by rw [List.length_map, List.length_range]; omega), fun c o e => ?_, ?_⟩
        · rw [sum_ones, List.length_map, List.length_map, List.length_range, List.length_map, List.length_range]
          show n + n * 0 ≤ 16777216
          omega
        · rw [upd_ne (ne_of_none e nD)]; exact s2 _ _ (sm _ _ e)
        · rw [upd_same, List.range_succ, List.map_append, join_empty]
          rfl
    · rintro H' ⟨sm, hD⟩
      rw [Int.toNat_natCast, lr] at hD
      refine good H' D sm nD ?_
      rw [hD]
      unfold rowsF
      rw [List.map_map]
      rfl
theorem ok_masksB {f : Addr} {fd : FuncData} {k : Nat} (F : Fun K "masks_of" "masks_of" s_masks_of f fd) (m_int : mg "int" = none) :
    FnOk P w K mg base CX0 (k + 1) f fd ["rows"] (spMsk K) := by
  refine F.ok sc_masks_of (fun vs H Q E h => ?_) (fun cdv A outer s H vs Q E hr h => ?_)
  · obtain ⟨r, n, b, rfl, _⟩ := h
    rfl
  · obtain ⟨r, n, b, rfl, hr0, n1, n60, good⟩ := h
    refine ⟨_, (pss_one (ps_ret (pe_lc (own := [("row", 1)]) (g := gName 1) (by rfl) sc_masks_of.nd (pi_list (pv 0)) (blkOk_by (own := [("row", 1)]) (N := N_masks_of) (sc := defScope s_masks_of) (by decide +kernel)) (fun _ _ _ _ _ => pg_name (i := 1) sc_masks_of.nd rfl (Or.inl rfl)) (fun _ _ _ _ _ => pts_nil) (fun _ _ _ _ _ => (pe_callTy call_int_bin (by rfl) m_int (by decide +kernel) (pa_cons (pe_revS (pv 1)) (pa_cons pe_int pa_nil))))))), ?_⟩
    have lr := rows_lenF n b
    refine ⟨_, rfl, r, rfl, ⟨_, hr0⟩, fun D nD => lc_list (xs := (rowsF n b).map V.str) (fun i H2 => Same H H2 ∧ H2 D = some (.lst (natsV ((List.range i).map fun x => maskF n (b x))))) ?_ ?_ ?_ ?_⟩
    · exact ⟨same_upd nD, upd_same⟩
    · rintro i H2 _ ⟨s2, _⟩
      exact s2.seq hr0
    · rintro i x H2 hx ⟨s2, hD⟩
      obtain ⟨il, rfl⟩ := rows_get hx
      have er : (revS (rowF n (b i))).cps.toList = ((List.range n).map fun y => chB (b i y)).reverse := by
        unfold revS
        rw [rowF_cps]
      refine ⟨rfl, yes_it ⟨_, rfl, _, rfl, rowF_size _ n60, _, rfl, ?_, ?_, ?_, _, hD, small1000 (by rw [nats_len, List.length_map, List.length_range]; omega), fun c o e => ?_, ?_⟩⟩
      · rw [er]
        intro z
        have := congrArg List.length z
        rw [List.length_reverse, List.length_map, List.length_range] at this
        simp at this
        omega
      · show (revS (rowF n (b i))).cps.size ≤ 640
        rw [← Array.length_toList, er, List.length_reverse, List.length_map, List.length_range]
        omega
      · rw [er]
        intro c hc
        obtain ⟨y, _, rfl⟩ := List.mem_map.mp (List.mem_reverse.mp hc)
        exact chB_bin _
      · rw [upd_ne (ne_of_none e nD)]; exact s2 _ _ e
      · rw [upd_same, er, bin_rev, List.range_succ, List.map_append]
        unfold natsV
        rw [List.map_append]
        rfl
    · rintro H2 ⟨s2, hD⟩
      rw [lr] at hD
      exact good H2 D s2 nD hD
theorem ok_bound {f : Addr} {fd : FuncData} {k : Nat} (F : Fun K "bound_table" "bound_table" s_bound_table f fd) (m_len : mg "len" = none) (m_range : mg "range" = none) :
    FnOk P w K mg base CX0 (k + 1) f fd ["masks"] (spBT K) := by
  refine F.ok sc_bound_table (fun vs H Q E h => ?_) (fun cdv A outer s H vs Q E hr h => ?_)
  · obtain ⟨r, n, m, g, rfl, _⟩ := h
    rfl
  · obtain ⟨r, n, m, g, rfl, hr0, n60, inj, hg, good⟩ := h
    refine ⟨_, (pss_cons (ps_set (i := 1) sc_bound_table.nd rfl (by first | exact .inl rfl | exact .inr rfl) (pe_dc (own := [("at", 2)]) (g := gName 2) (by rfl) sc_bound_table.nd (pi_range1 (by rfl) m_range (pa_cons (pe_callB call_len_seq (by rfl) m_len (by decide +kernel) (pa_cons (pv 0) pa_nil)) pa_nil)) (blkOk_by (own := [("at", 2)]) (N := N_bound_table) (sc := defScope s_bound_table) (by decide +kernel)) (fun _ _ _ _ _ => pg_name (i := 2) sc_bound_table.nd rfl (Or.inl rfl)) (fun _ _ _ _ _ => pts_nil) (fun _ _ _ _ _ => (pe_ix (ix_listK (K := K) rfl) (pv 0) (pv 2) (fun _ _ => rfl))) (fun _ _ _ _ _ => (pv 2))))
      (pss_one (ps_ret (pe_lc (own := [("one", 4)]) (g := gName 4) (by rfl) sc_bound_table.nd (pi_listK (K := K) rfl (pv 0)) (blkOk_by (own := [("one", 4)]) (N := N_bound_table) (sc := defScope s_bound_table) (by decide +kernel)) (fun _ _ _ _ _ => pg_name (i := 4) sc_bound_table.nd rfl (Or.inr rfl)) (fun _ _ _ _ _ => pts_nil) (fun _ _ _ _ _ => (pe_lc (own := [("other", 3)]) (g := gName 3) (by rfl) sc_bound_table.nd (pi_listK (K := K) rfl (pv 0)) (blkOk_by (own := [("other", 3)]) (N := N_bound_table) (by exact rfl)) (fun _ _ _ _ _ => pg_name (i := 3) sc_bound_table.nd rfl (Or.inl rfl)) (fun _ _ _ _ _ => pts_nil) (fun _ _ _ _ _ => (pe_dget1 (hu_of hr) (pv 1) (pe_op L2.op_and (pv 4) (pv 3)) ⟨rfl, rfl, rfl, rfl⟩)))))))), ?_⟩
    have lr : (natsV ((List.range n).map m)).length = n := by rw [nats_len, List.length_map, List.length_range]
    have get : ∀ x, x < n → (natsV ((List.range n).map m))[x]? = some (.int (m x : Nat)) := fun x hx => by
      unfold natsV
      rw [List.getElem?_map, List.getElem?_map, List.getElem?_range hx]
      rfl
    refine ⟨_, rfl, r, _, rfl, .inl hr0, _, rfl, by omega, by omega, fun pv npv => FvK.dc_rangeK (lo := 0) (n := (((natsV ((List.range n).map m)).length : Nat) : Int).toNat) (fun j H' => Same H H' ∧ ∃ kvs, H' pv = some (.dK kvs) ∧ kvs.length ≤ j ∧ ∀ x, x < j → valV kvs (Sum.inl ((m x : Nat) : Int)) = some (.int (x : Nat))) ?_ ?_ ?_⟩
    · exact ⟨same_upd npv, [], upd_same, Nat.le_refl _, fun x hx => absurd hx (Nat.not_lt_zero _)⟩
    · rintro j H' hj ⟨sm, kvs, hpv, lk, hva⟩
      rw [Int.toNat_natCast, lr] at hj
      have ej : (0 : Int) + (j : Nat) = ((j : Nat) : Int) := by omega
      rw [ej]
      refine ⟨rfl, yes_it ⟨_, rfl, _, rfl, r, _, _, _, rfl, rfl, sm.seq hr0, atI_nat (get j hj), _, rfl, kvs, Sum.inl ((m j : Nat) : Int), rfl, hpv, small1000 (by omega), fun c o e => ?_, _, upd_same, Nat.le_trans (FvK.putK_lenK _ _ _) (by omega), fun x hx => ?_⟩⟩
      · rw [upd_ne (ne_of_none e npv)]; exact sm _ _ e
      · rw [valV_put]
        by_cases e : x = j
        · rw [e, if_pos rfl]
        · rw [if_neg (fun z => e (inj x j (by omega) hj (by simp only [Sum.inl.injEq] at z; omega)))]
          exact hva x (by omega)
    · rintro H1 ⟨s1, kvs, hpv, lk, hva⟩
      rw [Int.toNat_natCast, lr] at hva
      have hr1 := s1.seq hr0
      refine ⟨_, rfl, r, rfl, ⟨_, hr1⟩, fun D1 nD1 => lc_list (xs := natsV ((List.range n).map m)) (fun j H' => Same H1 H' ∧ ∃ as : List Addr, as.length = j ∧ Rws H H' D1 n g as) ?_ ?_ ?_ ?_⟩
      · exact ⟨same_upd nD1, [], rfl, ⟨upd_same, fun i a e => (by cases e)⟩⟩
      · rintro j H' _ ⟨sm, _⟩
        exact sm.seq hr1
      · rintro j v H' hv ⟨sm, as, la, hR⟩
        have jn : j < n := by have := (List.getElem?_eq_some_iff.mp hv).1; omega
        rw [get j jn] at hv
        cases hv
        refine ⟨rfl, yes_it ⟨_, rfl, r, rfl, ⟨_, sm.seq hr1⟩, fun D2 nD2 => lc_list (xs := natsV ((List.range n).map m)) (fun i H3 => Same H' H3 ∧ H3 D2 = some (.lst (natsV ((List.range i).map (g j))))) ?_ ?_ ?_ ?_⟩⟩
        · exact ⟨same_upd nD2, upd_same⟩
        · rintro i H3 _ ⟨sm3, _⟩
          exact (sm.trans sm3).seq hr1
        · rintro i u H3 hu ⟨sm3, hD3⟩
          have iN : i < n := by have := (List.getElem?_eq_some_iff.mp hu).1; omega
          rw [get i iN] at hu
          cases hu
          have s13 := sm.trans sm3
          have hp3 := s13 _ _ hpv
          obtain ⟨gl, ge⟩ := hg j i jn iN
          have dg := DGet.k (k := Sum.inl ((m (g j i) : Nat) : Int)) hp3
          rw [hva _ gl] at dg
          refine ⟨rfl, yes_it ⟨_, rfl, pv, rfl, .inl ⟨_, .inl hp3⟩, _, rfl, _, rfl, _, _, rfl, rfl, some (.int (g j i : Nat)), ?_, ?_⟩⟩
          · have e : Builtin.bitAnd ((m j : Nat) : Int) ((m i : Nat) : Int) = ((m (g j i) : Nat) : Int) := by rw [bitAnd_nat, ge]
            dsimp only
            rw [e]
            exact dg
          · refine ⟨_, hD3, small1000 (by rw [nats_len, List.length_map, List.length_range]; omega), fun c o e => ?_, ?_⟩
            · rw [upd_ne (ne_of_none e nD2)]; exact sm3 _ _ e
            · rw [upd_same, List.range_succ, List.map_append]
              unfold natsV
              rw [List.map_append]
              rfl
        · rintro H3 ⟨sm3, hD3⟩
          rw [lr] at hD3
          have hR3 := hR.same sm3
          have ne2 : D2 ≠ D1 := fun z => by rw [z, hR.at_] at nD2; cases nD2
          refine ⟨_, hR3.at_, small1000 (by rw [List.length_map]; omega), fun c o e => ?_, as ++ [D2], by rw [List.length_append, List.length_singleton, la], hR3.put (by rw [la]; exact hD3) ne2 (Same.free (s1.trans sm) nD2)⟩
          rw [upd_ne (ne_of_none e nD1)]
          exact sm3 _ _ (sm _ _ e)
      · rintro H2 ⟨s2, as, la, hR⟩
        rw [lr] at la
        exact good H2 D1 (s1.trans s2) (Same.free s1 nD1) (hR.dp (Same.free s1 nD1) la)
end
end FvO


namespace FvO
open PySem PySem.Spec PyProof.Rows L2 Fv FvW
open FvK (pe_fldK)
open ClX (CRead CVal pe_cval)
-- top 36  slots: 0:self 1:rows 2:at 3:row
abbrev s_init__of__Board : Stmt := inClass (topS 36) 1
abbrev N_init__of__Board : List Str := ["self", "rows", "at", "row"]
theorem sc_init__of__Board : FnScope N_init__of__Board ["self", "rows"] (defScope s_init__of__Board) := ⟨rfl, rfl, rfl, by decide +kernel, rfl, by decide +kernel, by decide +kernel⟩

/-! ### boards -/
structure Brd (n : Nat) (b : Nat → Nat → Bool) (lo hi : Nat → Nat → Nat) (bt tp : Nat) : Prop where
  n1 : 1 ≤ n
  n60 : n ≤ 60
  rf : ∀ x, x < n → b x x = true
  an : ∀ x y, x < n → y < n → b x y = true → b y x = true → x = y
  tr : ∀ x y z, x < n → y < n → z < n → b x y = true → b y z = true → b x z = true
  lo : ∀ x y, x < n → y < n → lo x y < n ∧ ∀ z, z < n → b z (lo x y) = (b z x && b z y)
  hi : ∀ x y, x < n → y < n → hi x y < n ∧ ∀ z, z < n → b (hi x y) z = (b x z && b y z)
  bt : bt < n ∧ ∀ z, z < n → b bt z = true
  tp : tp < n ∧ ∀ z, z < n → b z tp = true
structure BL where
  ln : Addr
  ab : Addr
  be : Addr
  lo : Addr
  hi : Addr
  bt : Nat
  tp : Nat
def flB (L : BL) : List (Str × V) := [("lines", .ref L.ln), ("above", .ref L.ab), ("below", .ref L.be), ("lows", .ref L.lo), ("highs", .ref L.hi), ("least", .int (L.bt : Nat)), ("greatest", .int (L.tp : Nat))]
def fb1 (ln : Addr) : List (Str × V) := [("lines", .ref ln)]
def fb2 (ln ab : Addr) : List (Str × V) := [("lines", .ref ln), ("above", .ref ab)]
def fb3 (ln ab be : Addr) : List (Str × V) := [("lines", .ref ln), ("above", .ref ab), ("below", .ref be)]
def fb4 (ln ab be lo : Addr) : List (Str × V) := [("lines", .ref ln), ("above", .ref ab), ("below", .ref be), ("lows", .ref lo)]
def fb5 (ln ab be lo hi : Addr) : List (Str × V) := [("lines", .ref ln), ("above", .ref ab), ("below", .ref be), ("lows", .ref lo), ("highs", .ref hi)]
def fb6 (ln ab be lo hi : Addr) (bt : Nat) : List (Str × V) := [("lines", .ref ln), ("above", .ref ab), ("below", .ref be), ("lows", .ref lo), ("highs", .ref hi), ("least", .int (bt : Nat))]
theorem tab_inv {K : PySem.W.Frag} {H : Hp} {p : Addr} {n : Nat} {g : Nat → Nat → Nat} (h : Dp K H (.ref p) (tabD n g)) : ∃ xs, SqL K H p xs ∧ DpAll K H xs ((List.range n).map fun x => rowD n (g x)) := by
  cases h with
  | lst hs ha => exact ⟨_, hs, ha⟩
theorem row_gd {n : Nat} (f : Nat → Nat) (h : n ≤ 60) : gd 2 (rowD n f) = true := gd_lst (n := 1) (fun d hd => by
  obtain ⟨y, _, rfl⟩ := List.mem_map.mp hd
  rfl) (by rw [List.length_map, List.length_range]; omega)
theorem row_none {n : Nat} (f : Nat → Nat) : (((List.range n).map fun y => PyData.int (f y : Nat)).any fun z => PyData.eqv z .none) = false := by
  rw [List.any_eq_false]
  intro z hz
  obtain ⟨y, _, rfl⟩ := List.mem_map.mp hz
  exact Bool.false_ne_true
theorem hide_upd {x : Addr} {M : List Addr} {H : Hp} {o : HO} : hide (x :: M) (upd H x o) = hide (x :: M) H := by
  funext b
  by_cases e : b = x
  · subst e
    unfold hide
    rw [if_pos List.mem_cons_self, if_pos List.mem_cons_self]
  · by_cases m : b ∈ M
    · unfold hide
      rw [if_pos (List.mem_cons_of_mem _ m), if_pos (List.mem_cons_of_mem _ m)]
    · rw [hide_ne (fun z => (List.mem_cons.mp z).elim e m), hide_ne (fun z => (List.mem_cons.mp z).elim e m), upd_ne e]
theorem hid_new {x p : Addr} {M : List Addr} {H0 H H' : Hp} {o u : HO} (tM : Trk M H0) (xM : x ∉ M) (sm : SmX [x] H0 H) (hx : H x = some u) (n : H p = none) (h : H' p = some o) : hide (x :: M) H' p = some o := by
  rw [hide_ne]
  · exact h
  · intro z
    rcases List.mem_cons.mp z with z | z
    · rw [z, hx] at n
      cases n
    · obtain ⟨o2, e⟩ := tM p z
      have := sm p o2 (fun y => xM (List.mem_singleton.mp y ▸ z)) e
      rw [n] at this; cases this
structure TxB (K : PySem.W.Frag) (C : Addr) : Prop where
  cl : Cls K C
  n1 : NoAttr K C "lines"
  n2 : NoAttr K C "above"
  n3 : NoAttr K C "below"
  n4 : NoAttr K C "lows"
  n5 : NoAttr K C "highs"
  n6 : NoAttr K C "least"
  n7 : NoAttr K C "greatest"
/-- the class's constant -/
structure TxM (K : PySem.W.Frag) (C : Addr) : Prop where
  ex : ∃ mc u, CRead K C mc ∧ CVal K C mc "MAX_PLACES" (.int 60) u
structure BAt (K : PySem.W.Frag) (C : Addr) (H : Hp) (c : Addr) (L : BL) (n : Nat) (b : Nat → Nat → Bool) (lo hi : Nat → Nat → Nat) : Prop where
  ob : ∃ dx, H c = some (.ins C dx (flB L))
  ln : H L.ln = some (.lst ((rowsF n b).map V.str))
  ab : H L.ab = some (.lst (natsV ((List.range n).map fun x => maskF n (b x))))
  be : H L.be = some (.lst (natsV ((List.range n).map fun x => maskF n fun y => b y x)))
  lo : Dp K H (.ref L.lo) (tabD n lo)
  hi : Dp K H (.ref L.hi) (tabD n hi)
theorem BAt.same {K : PySem.W.Frag} {C : Addr} {H H' : Hp} {c : Addr} {L : BL} {n : Nat} {b : Nat → Nat → Bool} {lo hi : Nat → Nat → Nat} (h : BAt K C H c L n b lo hi) (s : Same H H') : BAt K C H' c L n b lo hi :=
  ⟨h.ob.imp fun dx e => s _ _ e, s _ _ h.ln, s _ _ h.ab, s _ _ h.be, dp_same s _ _ h.lo, dp_same s _ _ h.hi⟩
def spBIn (K : PySem.W.Frag) (C : Addr) : Sp := fun vs H Q _ => ∃ (M : List Addr) (x rl dx : Addr) (n : Nat) (b : Nat → Nat → Bool) (lo hi : Nat → Nat → Nat) (bt tp : Nat), vs = [.ref x, .ref rl] ∧ Trk M H ∧ x ∉ M ∧ H x = some (.ins C dx []) ∧ SqL K (hide (x :: M) H) rl ((rowsF n b).map V.str) ∧ Brd n b lo hi bt tp ∧
  ∀ (H' : Hp) (L : BL), SmX [x] H H' → BAt K C (hide M H') x L n b lo hi → L.bt = bt → L.tp = tp → Q .non H'
section
variable {P : Program} {w : World} {K : PySem.W.Frag} {mg : Str → Option Value} {base : Heap} {C : Addr}
set_option maxHeartbeats 1000000 in
theorem ok_binit {f : Addr} {fd : FuncData} {k : Nat} (F : Fun K "__init__" "Board.__init__" s_init__of__Board f fd) (T : TxB K C) (TM : TxM K C) (g_Board : mg "Board" = some (.ref C)) (m_len : mg "len" = none) (m_range : mg "range" = none) (m_list : mg "list" = none) (m_all : mg "all" = none) (m_any : mg "any" = none) (m_max : mg "max" = none) (hk : 2 ≤ k)
    (C_are_square : Own P w K mg base 2 "are_square" ["rows", "most"] (spSqR K)) (C_columns_of : Own P w K mg base 2 "columns_of" ["rows"] (spCol K)) (C_masks_of : Own P w K mg base 2 "masks_of" ["rows"] (spMsk K)) (C_bound_table : Own P w K mg base 2 "bound_table" ["masks"] (spBT K)) :
    FnOk P w K mg base CX0 (k + 1) f fd ["self", "rows"] (spBIn K C) := by
  refine F.ok sc_init__of__Board (fun vs H Q E h => ?_) (fun cdv A outer s H vs Q E hr h => ?_)
  · obtain ⟨M, x, rl, dx, n, b, lo, hi, bt, tp, rfl, _⟩ := h
    rfl
  · obtain ⟨M, x, rl, dx, n, b, lo, hi, bt, tp, rfl, tM, xM, hx, hrl, B, good⟩ := h
    refine ⟨_, (pss_cons (ps_if (pt_not (pt_val (pe_own C_are_square (hr.mono (by omega)) (by rfl) (pa_cons (pv 1) (pa_cons (pe_cval (pe_glob (v := .ref C) (by rfl) g_Board rfl)) pa_nil)))))
        pss_never
        pss_nil)
      (pss_cons (ps_fld (pv 0) (pe_callTy call_list_of (by rfl) m_list (by decide +kernel) (pa_cons (pv 1) pa_nil)) rfl)
      (pss_cons (ps_fld (pv 0) (pe_own C_masks_of (hr.mono (by omega)) (by rfl) (pa_cons (pe_fldK (K := K) rfl (pv 0) rfl) pa_nil)) rfl)
      (pss_cons (ps_fld (pv 0) (pe_own C_masks_of (hr.mono (by omega)) (by rfl) (pa_cons (pe_own C_columns_of (hr.mono (by omega)) (by rfl) (pa_cons (pe_fldK (K := K) rfl (pv 0) rfl) pa_nil)) pa_nil)) rfl)
      (pss_cons (ps_if (pt_not (pt_val (pe_callB (cr_allK (K := K) rfl rfl) (by rfl) m_all (by decide +kernel) (pa_cons (pe_lc (own := [("at", 2)]) (g := gName 2) (by rfl) sc_init__of__Board.nd (pi_range1 (by rfl) m_range (pa_cons (pe_callB call_len_seq (by rfl) m_len (by decide +kernel) (pa_cons (pe_fldK (K := K) rfl (pv 0) rfl) pa_nil)) pa_nil)) (blkOk_by (own := [("at", 2)]) (N := N_init__of__Board) (sc := defScope s_init__of__Board) (by decide +kernel)) (fun _ _ _ _ _ => pg_name (i := 2) sc_init__of__Board.nd rfl (Or.inl rfl)) (fun _ _ _ _ _ => pts_nil) (fun _ _ _ _ _ => (pe_cmpR op_eq (pe_op L2.op_and (pe_ix (ix_listK (K := K) rfl) (pe_fldK (K := K) rfl (pv 0) rfl) (pv 2) (fun _ _ => rfl)) (pe_ix (ix_listK (K := K) rfl) (pe_fldK (K := K) rfl (pv 0) rfl) (pv 2) (fun _ _ => rfl))) (pe_op op_shl pe_int (pv 2)) (nomark _)))) pa_nil))))
        pss_never
        pss_nil)
      (pss_cons (ps_fld (pv 0) (pe_own C_bound_table (hr.mono (by omega)) (by rfl) (pa_cons (pe_fldK (K := K) rfl (pv 0) rfl) pa_nil)) rfl)
      (pss_cons (ps_fld (pv 0) (pe_own C_bound_table (hr.mono (by omega)) (by rfl) (pa_cons (pe_fldK (K := K) rfl (pv 0) rfl) pa_nil)) rfl)
      (pss_cons (ps_if (pt_val (pe_callB (cr_any rfl) (by rfl) m_any (by decide +kernel) (pa_cons (pe_lc (own := [("row", 3)]) (g := gName 3) (by rfl) sc_init__of__Board.nd (pi_list (pe_lst (StX.pa_star (pe_fldK (K := K) rfl (pv 0) rfl) (StX.pa_star (pe_fldK (K := K) rfl (pv 0) rfl) pa_nil)))) (blkOk_by (own := [("row", 3)]) (N := N_init__of__Board) (sc := defScope s_init__of__Board) (by decide +kernel)) (fun _ _ _ _ _ => pg_name (i := 3) sc_init__of__Board.nd rfl (Or.inl rfl)) (fun _ _ _ _ _ => pts_nil) (fun _ _ _ _ _ => (pe_cmpR (op_inLK (K := K) rfl (hu65 hr)) pe_non (pv 3) (by rfl)))) pa_nil)))
        pss_never
        pss_nil)
      (pss_cons (ps_fld (pv 0) (pe_bm PySem.F.plainAttrs_list PySem.F.slot_list_index PySem.F.type_list_index mt_index (pe_fldK (K := K) rfl (pv 0) rfl) (pa_cons (pe_callB (cr_max rfl) (by rfl) m_max (by decide +kernel) (pa_cons (pe_fldK (K := K) rfl (pv 0) rfl) pa_nil)) pa_nil)) rfl)
      (pss_one (ps_fld (pv 0) (pe_bm PySem.F.plainAttrs_list PySem.F.slot_list_index PySem.F.type_list_index mt_index (pe_fldK (K := K) rfl (pv 0) rfl) (pa_cons (pe_callB (cr_max rfl) (by rfl) m_max (by decide +kernel) (pa_cons (pe_fldK (K := K) rfl (pv 0) rfl) pa_nil)) pa_nil)) rfl))))))))))), ?_⟩
    obtain ⟨mc, u, cr, cv⟩ := TM.ex
    have n1 := B.n1
    have n60 := B.n60
    have hrl0 : SqL K H rl ((rowsF n b).map V.str) := hide_same.seq hrl
    refine ⟨_, rfl, C, mc, .int 60, u, rfl, cr, cv, rl, n, b, rfl, hrl0, n1, n60, fun H1 s1 => ⟨_, rfl, iteF ?_⟩⟩
    have mx : x ∈ [x] := List.mem_singleton.mpr rfl
    have hx1 := s1 _ _ hx
    have sm1 : SmX [x] H H1 := SmX.of_same s1
    have hrl1 := (SmX.of_same (M := x :: M) s1).hid.seq hrl
    -- the lines
    refine ⟨_, rfl, rl, _, rfl, .inl (hide_same.seq hrl1), fun ln nln => ⟨_, rfl, x, C, dx, _, rfl, same_upd nln _ _ hx1, T.cl, T.n1, (by show 0 < 1000; decide), ?_⟩⟩
    rw [show putF "lines" (.ref ln) ([] : List (Str × V)) = fb1 ln from rfl]
    have sa1 := same_upd (o := .lst ((rowsF n b).map V.str)) nln
    have hln1 : upd H1 ln (.lst ((rowsF n b).map V.str)) ln = some (.lst ((rowsF n b).map V.str)) := upd_same
    have gln := hid_new tM xM sm1 hx1 nln hln1
    have sm1 := sm1.trans (SmX.of_same sa1)
    generalize upd H1 ln (.lst ((rowsF n b).map V.str)) = G1 at sm1 gln
    have sm2 : SmX [x] H (upd G1 x (.ins C dx (fb1 ln))) := sm1.put mx
    have hx2 : upd G1 x (.ins C dx (fb1 ln)) x = some (.ins C dx (fb1 ln)) := upd_same
    rw [← hide_upd (x := x) (M := M) (H := G1) (o := .ins C dx (fb1 ln))] at gln
    generalize upd G1 x (.ins C dx (fb1 ln)) = H2 at sm2 hx2 gln
    -- the masks above
    refine ⟨_, rfl, x, C, dx, _, _, rfl, hx2, T.cl, T.n1, rfl, ln, n, b, rfl, SqL.of (hide_same _ _ gln), n1, n60, fun G2 ab s2 nab hab => ⟨_, rfl, x, C, dx, _, rfl, s2 _ _ hx2, T.cl, T.n2, (by show 1 < 1000; decide), ?_⟩⟩
    rw [show putF "above" (.ref ab) (fb1 ln) = fb2 ln ab from rfl]
    have gab := hid_new tM xM sm2 hx2 nab hab
    have gln := (SmX.of_same (M := x :: M) s2).hid _ _ gln
    have sm3 : SmX [x] H (upd G2 x (.ins C dx (fb2 ln ab))) := (sm2.trans (SmX.of_same s2)).put mx
    have hx3 : upd G2 x (.ins C dx (fb2 ln ab)) x = some (.ins C dx (fb2 ln ab)) := upd_same
    rw [← hide_upd (x := x) (M := M) (H := G2) (o := .ins C dx (fb2 ln ab))] at gln gab
    generalize upd G2 x (.ins C dx (fb2 ln ab)) = H3 at sm3 hx3 gln gab
    -- the masks below
    refine ⟨_, rfl, x, C, dx, _, _, rfl, hx3, T.cl, T.n1, rfl, ln, n, b, rfl, SqL.of (hide_same _ _ gln), n60, fun G3 cl s3 ncl hcl => ⟨cl, n, fun u v => b v u, rfl, SqL.of hcl, n1, n60, fun G4 be s4 nbe hbe => ⟨_, rfl, x, C, dx, _, rfl, (s3.trans s4) _ _ hx3, T.cl, T.n3, (by show 2 < 1000; decide), ?_⟩⟩⟩
    rw [show putF "below" (.ref be) (fb2 ln ab) = fb3 ln ab be from rfl]
    have s34 := s3.trans s4
    have gbe := hid_new tM xM (sm3.trans (SmX.of_same s3)) (s3 _ _ hx3) nbe hbe
    have gln := (SmX.of_same (M := x :: M) s34).hid _ _ gln
    have gab := (SmX.of_same (M := x :: M) s34).hid _ _ gab
    have sm4 : SmX [x] H (upd G4 x (.ins C dx (fb3 ln ab be))) := (sm3.trans (SmX.of_same s34)).put mx
    have hx4 : upd G4 x (.ins C dx (fb3 ln ab be)) x = some (.ins C dx (fb3 ln ab be)) := upd_same
    rw [← hide_upd (x := x) (M := M) (H := G4) (o := .ins C dx (fb3 ln ab be))] at gln gab gbe
    generalize upd G4 x (.ins C dx (fb3 ln ab be)) = H4 at sm4 hx4 gln gab gbe
    have lr := rows_lenF n b
    have getA : ∀ i, i < n → (natsV ((List.range n).map fun x => maskF n (b x)))[i]? = some (.int (maskF n (b i) : Nat)) := fun i hi => by
      unfold natsV
      rw [List.getElem?_map, List.getElem?_map, List.getElem?_range hi]; rfl
    have getB : ∀ i, i < n → (natsV ((List.range n).map fun x => maskF n fun y => b y x))[i]? = some (.int (maskF n (fun y => b y i) : Nat)) := fun i hi => by
      unfold natsV
      rw [List.getElem?_map, List.getElem?_map, List.getElem?_range hi]; rfl
    refine ⟨_, rfl, x, C, dx, _, _, rfl, hx4, T.cl, T.n1, rfl, ln, _, rfl, .inl (SqL.of (hide_same _ _ gln)), _, rfl, by omega, by omega, fun D nD => lc_range (lo := 0) (n := ((((rowsF n b).map V.str).length : Nat) : Int).toNat) (fun j H' => Same H4 H' ∧ H' D = some (.lst ((List.replicate j true).map V.bl))) ?_ ?_ ?_⟩
    · exact ⟨same_upd nD, upd_same⟩
    · rintro j H' hj ⟨sm, hD⟩
      have ej : (0 : Int) + (j : Nat) = ((j : Nat) : Int) := by omega
      rw [ej]
      rw [Int.toNat_natCast, lr] at hj
      refine ⟨rfl, yes_it ⟨_, rfl, x, C, dx, _, _, rfl, sm _ _ hx4, T.cl, T.n2, rfl, _, rfl, ab, _, _, _, rfl, rfl, SqL.of (sm _ _ (hide_same _ _ gab)), atI_nat (getA j hj), _, rfl, x, C, dx, _, _, rfl, sm _ _ hx4, T.cl, T.n3, rfl, _, rfl, be, _, _, _, rfl, rfl, SqL.of (sm _ _ (hide_same _ _ gbe)), atI_nat (getB j hj), _, _, rfl, rfl, _, rfl, _, _, rfl, rfl, ⟨by omega, by omega, by decide⟩, rfl, ?_⟩⟩
      dsimp only
      have ev : decide (V.int (Builtin.bitAnd ((maskF n (b j) : Nat) : Int) ((maskF n (fun y => b y j) : Nat) : Int)) = V.int ((1 : Int) * 2 ^ ((j : Nat) : Int).toNat)) = true := by
        refine decide_eq_true ?_
        rw [bitAnd_nat, mask_and, Int.toNat_natCast, Int.one_mul]
        have e : maskF n (fun y => b j y && b y j) = 2 ^ j := by
          rw [← mask_one hj]
          refine mask_congr fun y hy => ?_
          by_cases c : y = j
          · subst c; rw [B.rf _ hj]; simp
          · rw [decide_eq_false c, Bool.and_eq_false_iff]
            cases h1 : b j y with
            | false => exact .inl rfl
            | true =>
              right
              cases h2 : b y j with
              | false => rfl
              | true => exact absurd (B.an y j hy hj h2 h1) c
        rw [e, Int.natCast_pow]
        rfl
      rw [ev]
      refine ⟨_, hD, small1000 (by rw [List.length_map, List.length_replicate]; omega), fun c o e => ?_, ?_⟩
      · rw [upd_ne (ne_of_none e nD)]; exact sm _ _ e
      · rw [upd_same, List.replicate_succ', List.map_append]; rfl
    · rintro H5 ⟨s5, hD⟩
      refine ⟨D, _, rfl, SqL.of hD, _, rfl, ?_⟩
      rw [rep_all]
      refine iteF ?_
      have gln := (SmX.of_same (M := x :: M) s5).hid _ _ gln
      have gab := (SmX.of_same (M := x :: M) s5).hid _ _ gab
      have gbe := (SmX.of_same (M := x :: M) s5).hid _ _ gbe
      have sm5 := sm4.trans (SmX.of_same s5)
      have hx5 := s5 _ _ hx4
      have below : ∀ u v, u < n → v < n → (maskF n (fun y => b y u) &&& maskF n fun y => b y v) = maskF n fun y => b y (lo u v) := fun u v hu hv => by
        rw [mask_and]
        exact mask_congr fun y hy => ((B.lo u v hu hv).2 y hy).symm
      have above : ∀ u v, u < n → v < n → (maskF n (b u) &&& maskF n (b v)) = maskF n (b (hi u v)) := fun u v hu hv => by
        rw [mask_and]
        exact mask_congr fun y hy => ((B.hi u v hu hv).2 y hy).symm
      have injB : ∀ u v, u < n → v < n → (maskF n fun y => b y u) = (maskF n fun y => b y v) → u = v := fun u v hu hv e => by
        have z := mask_inj e
        exact B.an u v hu hv (by rw [← z u hu]; exact B.rf u hu) (by rw [z v hv]; exact B.rf v hv)
      have injA : ∀ u v, u < n → v < n → maskF n (b u) = maskF n (b v) → u = v := fun u v hu hv e => by
        have z := mask_inj e
        exact B.an u v hu hv (by rw [z v hv]; exact B.rf v hv) (by rw [← z u hu]; exact B.rf u hu)
      -- the lows
      refine ⟨_, rfl, x, C, dx, _, _, rfl, hx5, T.cl, T.n3, rfl, be, n, _, lo, rfl, SqL.of (hide_same _ _ gbe), n60, injB, fun u v hu hv => ⟨(B.lo u v hu hv).1, below u v hu hv⟩, fun G5 pl s6 npl hlo => ⟨_, rfl, x, C, dx, _, rfl, s6 _ _ hx5, T.cl, T.n4, (by show 3 < 1000; decide), ?_⟩⟩
      rw [show putF "lows" (.ref pl) (fb3 ln ab be) = fb4 ln ab be pl from rfl]
      have glo : Dp K (hide (x :: M) G5) (.ref pl) (tabD n lo) := dp_same (fun c o e => by
        obtain ⟨e1, e2⟩ := nw_some e
        exact hid_new tM xM sm5 hx5 e1 e2) _ _ hlo
      have gln := (SmX.of_same (M := x :: M) s6).hid _ _ gln
      have gab := (SmX.of_same (M := x :: M) s6).hid _ _ gab
      have gbe := (SmX.of_same (M := x :: M) s6).hid _ _ gbe
      have sm6 : SmX [x] H (upd G5 x (.ins C dx (fb4 ln ab be pl))) := (sm5.trans (SmX.of_same s6)).put mx
      have hx6 : upd G5 x (.ins C dx (fb4 ln ab be pl)) x = some (.ins C dx (fb4 ln ab be pl)) := upd_same
      rw [← hide_upd (x := x) (M := M) (H := G5) (o := .ins C dx (fb4 ln ab be pl))] at gln gab gbe glo
      generalize upd G5 x (.ins C dx (fb4 ln ab be pl)) = H6 at sm6 hx6 gln gab gbe glo
      -- the highs
      refine ⟨_, rfl, x, C, dx, _, _, rfl, hx6, T.cl, T.n2, rfl, ab, n, _, hi, rfl, SqL.of (hide_same _ _ gab), n60, injA, fun u v hu hv => ⟨(B.hi u v hu hv).1, above u v hu hv⟩, fun G6 ph s7 nph hhi => ⟨_, rfl, x, C, dx, _, rfl, s7 _ _ hx6, T.cl, T.n5, (by show 4 < 1000; decide), ?_⟩⟩
      rw [show putF "highs" (.ref ph) (fb4 ln ab be pl) = fb5 ln ab be pl ph from rfl]
      have ghi : Dp K (hide (x :: M) G6) (.ref ph) (tabD n hi) := dp_same (fun c o e => by
        obtain ⟨e1, e2⟩ := nw_some e
        exact hid_new tM xM sm6 hx6 e1 e2) _ _ hhi
      have h7 := (SmX.of_same (M := x :: M) s7).hid
      have gln := h7 _ _ gln
      have gab := h7 _ _ gab
      have gbe := h7 _ _ gbe
      have glo := dp_same h7 _ _ glo
      have sm7 : SmX [x] H (upd G6 x (.ins C dx (fb5 ln ab be pl ph))) := (sm6.trans (SmX.of_same s7)).put mx
      have hx7 : upd G6 x (.ins C dx (fb5 ln ab be pl ph)) x = some (.ins C dx (fb5 ln ab be pl ph)) := upd_same
      rw [← hide_upd (x := x) (M := M) (H := G6) (o := .ins C dx (fb5 ln ab be pl ph))] at gln gab gbe glo ghi
      generalize upd G6 x (.ins C dx (fb5 ln ab be pl ph)) = H7 at sm7 hx7 gln gab gbe glo ghi
      -- no None among them
      obtain ⟨xs, hxs, dxs⟩ := tab_inv (dp_same hide_same _ _ glo)
      obtain ⟨ys, hys, dys⟩ := tab_inv (dp_same hide_same _ _ ghi)
      have lx := dpAll_len dxs
      have ly := dpAll_len dys
      rw [List.length_map, List.length_range] at lx ly
      have dal := dpAll_app dxs dys
      refine ⟨_, rfl, x, C, dx, _, _, rfl, hx7, T.cl, T.n4, rfl, pl, xs, rfl, .inr hxs, _, rfl, x, C, dx, _, _, rfl, hx7, T.cl, T.n5, rfl, ph, ys, rfl, .inr hys, (by rw [List.append_nil, List.length_append, sizeLine_eq]; omega), fun q nq => ?_⟩
      rw [List.append_nil]
      have sq := same_upd (o := .lst (xs ++ ys)) nq
      have hq : upd H7 q (.lst (xs ++ ys)) q = some (.lst (xs ++ ys)) := upd_same
      have dal := dpAll_same sq _ _ dal
      generalize upd H7 q (.lst (xs ++ ys)) = H8 at sq hq dal
      refine ⟨q, rfl, ⟨_, SqL.of hq⟩, fun D2 nD2 => lc_bools (xs := xs ++ ys) (bs := List.replicate (n + n) false) (SqL.of hq) nD2 (by rw [List.length_append, List.length_replicate]; omega) (by rw [List.length_replicate]; omega) (fun i v c H' hv hc sm N M qN => ?_) (fun H9 s9 hD2 => ?_)⟩
      · obtain ⟨d, hd, hDv⟩ := dpAll_get dal hv
        rw [List.getElem?_replicate] at hc
        split at hc
        · cases hc
          have md := List.mem_of_getElem? hd
          obtain ⟨f, rfl⟩ : ∃ f : Nat → Nat, d = rowD n f := by
            rcases List.mem_append.mp md with z | z
            · obtain ⟨u, _, rfl⟩ := List.mem_map.mp z; exact ⟨_, rfl⟩
            · obtain ⟨u, _, rfl⟩ := List.mem_map.mp z; exact ⟨_, rfl⟩
          refine ⟨rfl, yes_it ⟨_, rfl, .none, _, .non, dp_same sm _ _ hDv, by decide, gd_shaped (row_gd f n60) (by decide), ?_⟩⟩
          rw [row_none f]
          exact qN _ (Same.refl _)
        · cases hc
      · refine ⟨D2, _, rfl, SqL.of hD2, _, rfl, ?_⟩
        rw [show (List.replicate (n + n) false).any id = false by rw [List.any_eq_false]; intro z hz; rw [List.eq_of_mem_replicate hz]; exact Bool.false_ne_true]
        refine iteF ?_
        -- bottom and top
        have s79 := sq.trans s9
        have h9 := (SmX.of_same (M := x :: M) s79).hid
        have gln := h9 _ _ gln
        have gab := h9 _ _ gab
        have gbe := h9 _ _ gbe
        have glo := dp_same h9 _ _ glo
        have ghi := dp_same h9 _ _ ghi
        have sm9 := sm7.trans (SmX.of_same s79)
        have hx9 := s79 _ _ hx7
        have inA : ∀ f : Nat → Nat, natsV ((List.range n).map f) = ((List.range n).map fun x => ((f x : Nat) : Int)).map V.int := fun f => by
          unfold natsV
          rw [List.map_map, List.map_map]; rfl
        have fl : ∀ f : Nat → Nat, (natsV ((List.range n).map f)).all flatV = true := fun f => List.all_eq_true.mpr fun v hv => by
          unfold natsV at hv
          obtain ⟨y, _, rfl⟩ := List.mem_map.mp hv
          rfl
        -- the greatest mask stands at t
        have big : ∀ (f : Nat → Nat) (t : Nat) (m : Int), t < n → (∀ y, y < n → f y ≤ f t) → (m ∈ (List.range n).map fun x => ((f x : Nat) : Int)) → (∀ y, (y ∈ (List.range n).map fun x => ((f x : Nat) : Int)) → y ≤ m) → m = ((f t : Nat) : Int) := fun f t m ht hf hm hmax => by
          obtain ⟨y, hy, rfl⟩ := List.mem_map.mp hm
          have a := hmax _ (List.mem_map.mpr ⟨t, List.mem_range.mpr ht, rfl⟩)
          have c := hf y (List.mem_range.mp hy)
          show ((f y : Nat) : Int) = _
          have a : ((f t : Nat) : Int) ≤ ((f y : Nat) : Int) := a
          omega
        have lnr : ∀ f : Nat → Nat, 0 < ((List.range n).map fun x => ((f x : Nat) : Int)).length := fun f => by rw [List.length_map, List.length_range]; omega
        have hab9 := hide_same _ _ gab
        have first : ∀ (f : Nat → Nat) (t : Nat), t < n → (∀ u v, u < n → v < n → f u = f v → u = v) → ∀ (m : Nat) (z' : V), m < t → (natsV ((List.range n).map f))[m]? = some z' → eqV z' (.int ((f t : Nat) : Int)) = false := fun f t ht inj m z' hm hz => by
          unfold natsV at hz
          rw [List.getElem?_map, List.getElem?_map, List.getElem?_range (by omega)] at hz
          have e : V.int ((f m : Nat) : Int) = z' := Option.some.inj hz
          rw [← e]
          show (((f m : Nat) : Int) == ((f t : Nat) : Int)) = false
          rw [beq_eq_false_iff_ne]
          intro z
          have := inj m t (by omega) ht (by omega)
          omega
        refine ⟨_, rfl, x, C, dx, _, _, rfl, hx9, T.cl, T.n2, rfl, .inl ⟨rfl, _, SqL.of hab9⟩, _, rfl, x, C, dx, _, _, rfl, hx9, T.cl, T.n2, rfl, ab, (List.range n).map fun y => ((maskF n (b y) : Nat) : Int), rfl, by rw [← inA]; exact SqL.of hab9, lnr _, fun m hm hmax => ?_⟩
        have em := big (fun y => maskF n (b y)) bt m B.bt.1 (fun y hy => mask_mono fun z hz _ => B.bt.2 z hz) hm hmax
        subst em
        refine ⟨ab, _, _, bt, _, rfl, rfl, SqL.of hab9, rfl, fl _, getA bt B.bt.1, (by show (((maskF n (b bt) : Nat) : Int) == _) = true; exact beq_self_eq_true _), first (fun y => maskF n (b y)) bt B.bt.1 injA, _, rfl, x, C, dx, _, rfl, hx9, T.cl, T.n6, (by show 5 < 1000; decide), ?_⟩
        rw [show putF "least" (.int ((bt : Nat) : Int)) (fb5 ln ab be pl ph) = fb6 ln ab be pl ph bt from rfl]
        have smA : SmX [x] H (upd H9 x (.ins C dx (fb6 ln ab be pl ph bt))) := sm9.put mx
        have hxA : upd H9 x (.ins C dx (fb6 ln ab be pl ph bt)) x = some (.ins C dx (fb6 ln ab be pl ph bt)) := upd_same
        rw [← hide_upd (x := x) (M := M) (H := H9) (o := .ins C dx (fb6 ln ab be pl ph bt))] at gln gab gbe glo ghi
        generalize upd H9 x (.ins C dx (fb6 ln ab be pl ph bt)) = HA at smA hxA gln gab gbe glo ghi
        have hbeA := hide_same _ _ gbe
        refine ⟨_, rfl, x, C, dx, _, _, rfl, hxA, T.cl, T.n3, rfl, .inl ⟨rfl, _, SqL.of hbeA⟩, _, rfl, x, C, dx, _, _, rfl, hxA, T.cl, T.n3, rfl, be, (List.range n).map fun y => ((maskF n (fun z => b z y) : Nat) : Int), rfl, by rw [← inA fun y => maskF n fun z => b z y]; exact SqL.of hbeA, lnr _, fun m hm hmax => ?_⟩
        have em := big (fun y => maskF n fun z => b z y) tp m B.tp.1 (fun y hy => mask_mono fun z hz _ => B.tp.2 z hz) hm hmax
        subst em
        refine ⟨be, _, _, tp, _, rfl, rfl, SqL.of hbeA, rfl, fl _, getB tp B.tp.1, (by show (((maskF n (fun z => b z tp) : Nat) : Int) == _) = true; exact beq_self_eq_true _), first (fun y => maskF n fun z => b z y) tp B.tp.1 injB, _, rfl, x, C, dx, _, rfl, hxA, T.cl, T.n7, (by show 6 < 1000; decide), ?_⟩
        rw [show putF "greatest" (.int ((tp : Nat) : Int)) (fb6 ln ab be pl ph bt) = flB ⟨ln, ab, be, pl, ph, bt, tp⟩ from rfl]
        have smB : SmX [x] H (upd HA x (.ins C dx (flB ⟨ln, ab, be, pl, ph, bt, tp⟩))) := smA.put mx
        have hxB : upd HA x (.ins C dx (flB ⟨ln, ab, be, pl, ph, bt, tp⟩)) x = some (.ins C dx (flB ⟨ln, ab, be, pl, ph, bt, tp⟩)) := upd_same
        rw [← hide_upd (x := x) (M := M) (H := HA) (o := .ins C dx (flB ⟨ln, ab, be, pl, ph, bt, tp⟩))] at gln gab gbe glo ghi
        generalize upd HA x (.ins C dx (flB ⟨ln, ab, be, pl, ph, bt, tp⟩)) = HB at smB hxB gln gab gbe glo ghi
        have sub : Same (hide (x :: M) HB) (hide M HB) := hide_sub fun b hb => List.mem_cons_of_mem _ hb
        exact good HB ⟨ln, ab, be, pl, ph, bt, tp⟩ smB ⟨⟨dx, by rw [hide_ne xM]; exact hxB⟩, sub _ _ gln, sub _ _ gab, sub _ _ gbe, dp_same sub _ _ glo, dp_same sub _ _ ghi⟩ rfl rfl
end
end FvO


/-! name = {k: v for ..} on one line, the name a local -/
namespace Fv
open PySem PySem.Spec PyProof.Rows L2
theorem ps_setDc {X : Cx} {i : Nat} {y : Str} {py : Pos} {kx vx tg iter : Expr} {ifs : List Expr} {scope : Scope} {own : List (Str × Nat)} {pos spos : Pos} {wi : TI} {g : TG} {tt : TT} {tk tv : TE} (hc : X.calm = true) (hN : X.N.Nodup) (hy : X.N[i]? = some y) (hyl : X.env.scope.names.lookup y = some .local)
    (hsw : swapsWith (.DictComp kx vx [⟨tg, iter, ifs, 0⟩] scope pos) (some (.Name y py)) spos.line X.env = pure true) (hi : PI X tg iter wi) (ok : BlkOk X.N X.env.scope scope own)
    (hg : ∀ (s : Shared) (H : Hp) (C : Addr) (cl : List (Str × Addr)) (fp : List Addr), PG (X.blk s H scope (compEnvC scope cl C X.env) fp) tg g) (ht : ∀ (s : Shared) (H : Hp) (C : Addr) (cl : List (Str × Addr)) (fp : List Addr), PTs (X.blk s H scope (compEnvC scope cl C X.env) fp) ifs tt)
    (hk : ∀ (s : Shared) (H : Hp) (C : Addr) (cl : List (Str × Addr)) (fp : List Addr), PE (X.blk s H scope (compEnvC scope cl C X.env) fp) kx tk)
    (he : ∀ (s : Shared) (H : Hp) (C : Addr) (cl : List (Str × Addr)) (fp : List Addr), PE (X.blk s H scope (compEnvC scope cl C X.env) fp) vx tv) (hs : ∀ x, foldedSetIterable iter X.env x = pure x := by intro _; rfl) :
    PS X (.Assign [.Name y py] (.DictComp kx vx [⟨tg, iter, ifs, 0⟩] scope pos) spos) (tAsg (tDc wi g tt tk tv (own.map (·.2))) (gName i)) := by
  refine ⟨fun pins s σ H D I h => ?_⟩
  rw [exec_Assign_Name_used _ _ _ _ hsw]
  refine wpAny_bind (wpAny_standAt (wpAny_bind ?_))
  show wpAny _ X.A (do let _ ← comprehension (.DictComp kx vx [⟨tg, iter, ifs, 0⟩] scope pos) scope X.env (firstIterPos [⟨tg, iter, ifs, 0⟩] pos) newDict false (eval iter X.env) (some (assign (.Name y py) X.env))) _ _ s
  have h : tDc wi g tt tk tv (own.map (·.2)) σ H (fun x H1 => gName i x σ H1 D.nx) := h
  refine wpAny_bind (thn (dc_core (Qf := fun _ s' => SP X pins D .next s') hc hN I hi ok hg ht hk he hs h fun L C s' m H' I' q hn f => ?_) fun _ s' hq => wpAny_pure (wpAny_pure hq))
  show wpAny _ _ (assign (.Name y py) X.env (.ref L)) _ _ _
  refine wpAny_assign_Name (store_ok2 (v := V.ref L) I' hN hy (.inl hyl) rfl (fun s2 I2 ⟨a, sb, ha⟩ => ?_) (.inr hyl))
  obtain ⟨f0, f1, f2, f3, f4, f5⟩ := f
  have haC : C ≠ a := by
    rcases ha with z | z
    · rw [z]; exact f1
    · exact fun e => f4 y a z e.symm
  refine ⟨m, hn.sameBut sb haC, fun h3 sb3 => ?_⟩
  exact ⟨_, H', I2.turned (t' := s2.toks) (fun b o hb e => (sb3.2 b hb).trans e) f0 f1 f3 f4 f5, q⟩
theorem sw_trueD {kx vx : Expr} {gs : List Comprehension} {scope : Scope} {pos py : Pos} {y : Str} {l : Nat} {env : Env} (hk : env.scope.kind = .function) (hy : env.scope.names.lookup y = some .local) (hl : (py.line == pos.line) = true)
    (ha : (scope.names.any fun (n, k) => n == y && (k == .local || k == .cell)) = false) : swapsWith (.DictComp kx vx gs scope pos) (some (.Name y py)) l env = pure true := by
  have ky : env.kindOf y = some .local := hy
  have hb : env.blockKind = .function := by unfold Env.blockKind; rw [hk]; rfl
  unfold swapsWith
  simp only [hb, ky, ha, Expr.pos, hl]
  rfl
end Fv


/-! Board.spreads -/
namespace FvO
open PySem PySem.Spec PyProof.Rows L2 Fv FvW FvX TL
open FvK (pe_fldK)
-- top 36  slots: 0:self 1:masks 2:mask 3:whole 4:at
abbrev s_spreads__of__Board : Stmt := inClass (topS 36) 17
abbrev N_spreads__of__Board : List Str := ["self", "masks", "mask", "whole", "at"]
theorem sc_spreads__of__Board : FnScope N_spreads__of__Board ["self"] (defScope s_spreads__of__Board) := ⟨rfl, rfl, rfl, by decide +kernel, rfl, by decide +kernel, by decide +kernel⟩

theorem dc_list {K : PySem.W.Frag} {a : Addr} {xs : List V} {g : TG} {tt : TT} {tk tv : TE} {vs : List Nat} {σ : L2.St} {H1 : Hp} {D : Addr} {Qd : Hp → Prop} (Pv : Nat → Hp → Prop) (h0 : Pv 0 (upd H1 D (.dK []))) (hl : ∀ i H, i ≤ xs.length → Pv i H → SqL K H a xs)
    (hs : ∀ i x H, xs[i]? = some x → Pv i H → g x (wipe σ vs) H fun σ2 H2 => wipe σ2 vs = wipe σ vs ∧ tt σ2 H2 fun b H3 =>
      if b = true then tk σ2 H3 fun y H4 => tv σ2 H4 fun z H5 => ∃ kvs k, y = kV k ∧ H5 D = some (.dK kvs) ∧ kvs.length < sizeLine ∧ Pv (i + 1) (upd H5 D (.dK (putK kvs k z))) else Pv (i + 1) H3) (hd : ∀ H, Pv xs.length H → Qd H) :
    ∃ W : Nat → Nat → Hp → Prop, (∃ m, W 0 m (upd H1 D (.dK []))) ∧ ∀ i m H, W i m H →
      ((Itl K a).stop i H ∧ Qd H) ∨ ((Itl K a).go i H ∧ ∃ Nx : Hp → Prop, (∀ H', Nx H' → ∃ m', m' < m ∧ W (i + 1) m' H') ∧ ∀ x H', (Itl K a).yld i H x H' → g x (wipe σ vs) H' fun σ2 H2 => wipe σ2 vs = wipe σ vs ∧ tt σ2 H2 fun b H3 =>
        if b = true then tk σ2 H3 fun y H4 => tv σ2 H4 fun z H5 => ∃ kvs k, y = kV k ∧ H5 D = some (.dK kvs) ∧ kvs.length < sizeLine ∧ Nx (upd H5 D (.dK (putK kvs k z))) else Nx H3) := by
  refine ⟨fun i m H => m = xs.length - i ∧ i ≤ xs.length ∧ Pv i H, ⟨xs.length, by simp, Nat.zero_le _, h0⟩, ?_⟩
  rintro i m H ⟨rfl, hi, p⟩
  have q := hl i H hi p
  by_cases hlt : i < xs.length
  · refine .inr ⟨⟨xs, xs[i], q, by simp [hlt]⟩, Pv (i + 1), fun H' p' => ⟨xs.length - (i + 1), by omega, rfl, hlt, p'⟩, fun x H' y => ?_⟩
    obtain ⟨e, y⟩ := y
    subst e
    exact hs i x _ (y xs q) p
  · have e : i = xs.length := by omega
    subst e
    exact .inl ⟨⟨xs, q, Nat.le_refl _⟩, hd H p⟩
theorem mask_split {f g : Nat → Bool} : ∀ {n : Nat}, (∀ y, y < n → g y = true → f y = true) → maskF n f = maskF n g + maskF n fun y => f y && !g y
  | 0, _ => rfl
  | n + 1, h => by
    have ih := mask_split (n := n) fun y hy => h y (by omega)
    have e := h n (by omega)
    unfold maskF
    rw [ih]
    generalize 2 ^ n = N
    cases a : g n with
    | true =>
      simp only [e a, a, Bool.not_true, Bool.and_false, if_true, Bool.false_eq_true, if_false]
      omega
    | false =>
      cases c : f n with
      | true => simp only [a, c, Bool.not_false, Bool.and_true, if_true, Bool.false_eq_true, if_false]; omega
      | false => simp only [a, c, Bool.not_false, Bool.and_true, Bool.false_eq_true, if_false]; omega
theorem bitOr_nat (a b : Nat) : Builtin.bitOr ((a : Nat) : Int) ((b : Nat) : Int) = ((a ||| b : Nat) : Int) := by
  have n1 : ∀ x : Nat, Builtin.bitNot (Builtin.bitNot ((x : Nat) : Int)) = ((x : Nat) : Int) := fun x => by unfold Builtin.bitNot; omega
  have n2 : ∀ x : Nat, ¬ (0 : Int) ≤ Builtin.bitNot ((x : Nat) : Int) := fun x => by unfold Builtin.bitNot; omega
  unfold Builtin.bitOr
  rw [show Builtin.bitAnd (Builtin.bitNot ((a : Nat) : Int)) (Builtin.bitNot ((b : Nat) : Int)) = Builtin.bitNot (((a ||| b : Nat) : Int)) from by
    unfold Builtin.bitAnd
    rw [decide_eq_false (n2 a), decide_eq_false (n2 b)]
    show Builtin.bitNot _ = _
    rw [n1, n1, Int.toNat_natCast, Int.toNat_natCast]]
  exact n1 _
theorem bitXor_sub {n : Nat} {f g : Nat → Bool} (h : ∀ y, y < n → g y = true → f y = true) : Builtin.bitXor ((maskF n f : Nat) : Int) ((maskF n g : Nat) : Int) = ((maskF n fun y => f y && !g y : Nat) : Int) := by
  have e1 : maskF n f &&& maskF n g = maskF n g := by
    rw [mask_and]
    refine mask_congr fun y hy => ?_
    cases c : g y with
    | true => rw [h y hy c]; rfl
    | false => rw [Bool.and_false]
  have e2 : maskF n f ||| maskF n g = maskF n f := by
    apply Nat.eq_of_testBit_eq
    intro y
    rw [Nat.testBit_or, maskF_bit, maskF_bit]
    by_cases c : y < n
    · rw [decide_eq_true c, Bool.true_and, Bool.true_and]
      cases d : g y with
      | true => rw [h y c d]; rfl
      | false => rw [Bool.or_false]
    · rw [decide_eq_false c]; rfl
  unfold Builtin.bitXor
  rw [bitAnd_nat, e1]
  rw [bitOr_nat, e2]
  have := mask_split h
  omega
theorem Brd.lat {n : Nat} {b : Nat → Nat → Bool} {lo hi : Nat → Nat → Nat} {bt tp : Nat} (B : Brd n b lo hi bt tp) : Lat n b lo hi bt := ⟨B.rf, B.an, B.tr, B.lo, B.hi, B.bt⟩
def spSprB (K : PySem.W.Frag) (C : Addr) : Sp := fun vs H Q _ => ∃ (c : Addr) (L : BL) (n : Nat) (b : Nat → Nat → Bool) (lo hi : Nat → Nat → Nat) (bt tp : Nat), vs = [.ref c] ∧ BAt K C H c L n b lo hi ∧ Brd n b lo hi bt tp ∧ L.tp = tp ∧ ∀ (H' : Hp) (r : Bool), Same H H' → (r = true ↔ SprB n lo hi) → Q (.bl r) H'
section
variable {P : Program} {w : World} {K : PySem.W.Frag} {mg : Str → Option Value} {base : Heap} {C : Addr}
theorem ok_spreadsB {f : Addr} {fd : FuncData} {k : Nat} (F : Fun K "spreads" "Board.spreads" s_spreads__of__Board f fd) (T : TxB K C) (m_len : mg "len" = none) (m_range : mg "range" = none) :
    FnOk P w K mg base CX0 (k + 1) f fd ["self"] (spSprB K C) := by
  refine F.ok sc_spreads__of__Board (fun vs H Q E h => ?_) (fun cdv A outer s H vs Q E hr h => ?_)
  · obtain ⟨c, L, n, b, lo, hi, bt, tp, rfl, _⟩ := h
    rfl
  · obtain ⟨c, L, n, b, lo, hi, bt, tp, rfl, hB, B, etp, good⟩ := h
    refine ⟨_, (pss_cons (ps_setDc (i := 1) (own := [("mask", 2)]) (g := gName 2) (by rfl) sc_spreads__of__Board.nd rfl rfl (sw_trueD rfl rfl rfl (by decide +kernel)) (pi_list (pe_fldK (K := K) rfl (pv 0) rfl)) (blkOk_by (own := [("mask", 2)]) (N := N_spreads__of__Board) (sc := defScope s_spreads__of__Board) (by decide +kernel)) (fun _ _ _ _ _ => pg_name (i := 2) sc_spreads__of__Board.nd rfl (Or.inl rfl)) (fun _ _ _ _ _ => pts_nil) (fun _ _ _ _ _ => (pv 2)) (fun _ _ _ _ _ => pe_bl))
      (pss_cons (ps_set (i := 3) sc_spreads__of__Board.nd rfl (by first | exact .inl rfl | exact .inr rfl) (pe_ix ix_list (pe_fldK (K := K) rfl (pv 0) rfl) (pe_fldK (K := K) rfl (pv 0) rfl) (fun _ _ => rfl)))
      (pss_cons (ps_for PassesOwn.never rfl (pi_range1 (by rfl) m_range (pa_cons (pe_callB call_len_seq (by rfl) m_len (by decide +kernel) (pa_cons (pe_fldK (K := K) rfl (pv 0) rfl) pa_nil)) pa_nil)) (pg_name (i := 4) sc_spreads__of__Board.nd rfl (by first | exact .inl rfl | exact .inr rfl))
        (pss_one (ps_if (PW.pt (pw_and (pt_cmp (pc_din (hu_of hr) (pe_op op_xor (pe_ix ix_list (pe_fldK (K := K) rfl (pv 0) rfl) (pv 4) (fun _ _ => rfl)) (pe_op op_shl pe_int (pv 4))) (pv 1))) (pw_and1 (pt_cmp (pc_dnotin (hu_of hr) (pe_op op_xor (pv 3) (pe_ix ix_list (pe_fldK (K := K) rfl (pv 0) rfl) (pv 4) (fun _ _ => rfl))) (pv 1))))))
          (pss_one (ps_ret pe_bl))
          pss_nil)))
      (pss_one (ps_ret pe_bl))))), ?_⟩
    obtain ⟨dx, ob⟩ := hB.ob
    have n60 := B.n60
    have lbe : (natsV ((List.range n).map fun x => maskF n fun y => b y x)).length = n := by rw [nats_len, List.length_map, List.length_range]
    have getB : ∀ x, x < n → (natsV ((List.range n).map fun x => maskF n fun y => b y x))[x]? = some (.int (maskF n (fun y => b y x) : Nat)) := fun x hx => by
      unfold natsV
      rw [List.getElem?_map, List.getElem?_map, List.getElem?_range hx]
      rfl
    have getA : ∀ x, x < n → (natsV ((List.range n).map fun x => maskF n (b x)))[x]? = some (.int (maskF n (b x) : Nat)) := fun x hx => by
      unfold natsV
      rw [List.getElem?_map, List.getElem?_map, List.getElem?_range hx]
      rfl
    -- the masks of all places
    refine ⟨_, rfl, c, C, dx, _, _, rfl, ob, T.cl, T.n3, rfl, L.be, rfl, ⟨_, SqL.of hB.be⟩, fun D nD => dc_list (xs := natsV ((List.range n).map fun x => maskF n fun y => b y x)) (fun m H' => Same H H' ∧ ∃ kvs, H' D = some (.dK kvs) ∧ kvs.length ≤ m ∧ ∀ i : Int, (valV kvs (Sum.inl i)).isSome = true ↔ ∃ x, x < m ∧ i = (maskF n (fun y => b y x) : Nat)) ?_ ?_ ?_ ?_⟩
    · exact ⟨same_upd nD, [], upd_same, Nat.le_refl _, fun i => Iff.intro (fun h => absurd h Bool.false_ne_true) (fun h => by
        obtain ⟨x, h, _⟩ := h
        exact absurd h (Nat.not_lt_zero _))⟩
    · rintro m H' _ ⟨sm, _⟩
      exact SqL.of (sm _ _ hB.be)
    · rintro m x H' hx ⟨sm, kvs, hD, lk, hv⟩
      have mn : m < n := by have := (List.getElem?_eq_some_iff.mp hx).1; omega
      rw [getB m mn] at hx
      cases hx
      refine ⟨rfl, yes_it ⟨_, rfl, kvs, Sum.inl ((maskF n (fun y => b y m) : Nat) : Int), rfl, hD, small1000 (by omega), fun c o e => ?_, _, upd_same, Nat.le_trans (FvK.putK_lenK _ _ _) (by omega), fun i => ?_⟩⟩
      · rw [upd_ne (ne_of_none e nD)]; exact sm _ _ e
      · rw [valV_put]
        by_cases e : i = (maskF n (fun y => b y m) : Nat)
        · subst e
          rw [if_pos rfl]
          exact ⟨fun _ => ⟨m, Nat.lt_succ_self m, rfl⟩, fun _ => rfl⟩
        · rw [if_neg (fun z => e (Sum.inl.inj z)), hv]
          constructor
          · rintro ⟨x, h, e'⟩
            exact ⟨x, Nat.lt_succ_of_lt h, e'⟩
          · rintro ⟨x, h, e'⟩
            rcases Nat.lt_or_ge x m with z | z
            · exact ⟨x, z, e'⟩
            · exact absurd (by rw [e', show x = m by omega]) e
    rintro H1 ⟨s1, kvs, hD, _, hv⟩
    rw [lbe] at hv
    have ob1 := s1 _ _ ob
    have be1 := s1 _ _ hB.be
    have ab1 := s1 _ _ hB.ab
    have tpn := B.tp.1
    subst etp
    -- the mask of all
    refine ⟨_, rfl, c, C, dx, _, _, rfl, ob1, T.cl, T.n3, rfl, _, rfl, c, C, dx, _, _, rfl, ob1, T.cl, T.n7, rfl, L.be, _, _, _, rfl, rfl, SqL.of be1, atI_nat (getB L.tp tpn), ?_⟩
    refine ⟨_, rfl, c, C, dx, _, _, rfl, ob1, T.cl, T.n3, rfl, L.be, _, rfl, .inl (SqL.of be1), _, rfl, by omega, by omega, for_range (lo := 0) (n := (((natsV ((List.range n).map fun x => maskF n fun y => b y x)).length : Nat) : Int).toNat) (fun m σ H' => ∃ y4 : Option V, σ = [some (.ref c), some (.ref D), none, some (.int (maskF n (fun y => b y L.tp) : Nat)), y4] ∧ Same H1 H' ∧ ∀ p, p < m → (∃ s, SimB n b p s) → ∃ t, PriB n b p t) ?_ ?_ ?_⟩
    · exact ⟨none, rfl, Same.refl _, fun p hp => absurd hp (Nat.not_lt_zero _)⟩
    · rintro m σ H' hm ⟨y4, rfl, sm, hi⟩
      rw [Int.toNat_natCast, lbe] at hm
      have ej : (0 : Int) + (m : Nat) = ((m : Nat) : Int) := by omega
      rw [ej]
      have hDm := sm _ _ hD
      have obm := sm _ _ ob1
      have k1 : Builtin.bitXor ((maskF n (fun y => b y m) : Nat) : Int) ((1 : Int) * 2 ^ ((m : Nat) : Int).toNat) = ((maskF n (fun y => b y m && !decide (y = m)) : Nat) : Int) := by
        rw [show (1 : Int) * 2 ^ ((m : Nat) : Int).toNat = ((maskF n (fun y => decide (y = m)) : Nat) : Int) from by rw [mask_one hm, Int.toNat_natCast, Int.one_mul, Int.natCast_pow]; rfl]
        exact bitXor_sub fun y _ e => by rw [of_decide_eq_true e]; exact B.rf m hm
      have k2 : Builtin.bitXor ((maskF n (fun y => b y L.tp) : Nat) : Int) ((maskF n (b m) : Nat) : Int) = ((maskF n (fun y => b y L.tp && !b m y) : Nat) : Int) := bitXor_sub fun y hy _ => B.tp.2 y hy
      have m1 : (valV kvs (Sum.inl ((maskF n (fun y => b y m && !decide (y = m)) : Nat) : Int))).isSome = true ↔ ∃ s, SimB n b m s := by
        rw [hv]
        constructor
        · rintro ⟨x, hx, e⟩
          have e' := mask_inj (Int.ofNat.inj e)
          exact ⟨x, hx, fun y hy => by rw [← e' y hy]; by_cases c : y = m <;> simp [c]⟩
        · rintro ⟨s, hs, e⟩
          refine ⟨s, hs, congrArg _ (mask_congr fun y hy => ?_)⟩
          rw [e y hy]
          by_cases c : y = m <;> simp [c]
      have m2 : (valV kvs (Sum.inl ((maskF n (fun y => b y L.tp && !b m y) : Nat) : Int))).isSome = true ↔ ∃ t, PriB n b m t := by
        rw [hv]
        constructor
        · rintro ⟨x, hx, e⟩
          have e' := mask_inj (Int.ofNat.inj e)
          exact ⟨x, hx, fun y hy => by rw [← e' y hy, B.tp.2 y hy, Bool.true_and]⟩
        · rintro ⟨s, hs, e⟩
          refine ⟨s, hs, congrArg _ (mask_congr fun y hy => ?_)⟩
          rw [e y hy, B.tp.2 y hy, Bool.true_and]
      have ext : ((∃ s, SimB n b m s) → ∃ t, PriB n b m t) → ∀ p, p < m + 1 → (∃ s, SimB n b p s) → ∃ t, PriB n b p t := fun h p hp => by
        rcases Nat.lt_or_ge p m with z | z
        · exact hi p z
        · rw [show p = m by omega]; exact h
      refine ⟨_, rfl, c, C, dx, _, _, rfl, obm, T.cl, T.n3, rfl, _, rfl, L.be, _, _, _, rfl, rfl, SqL.of (sm _ _ be1), atI_nat (getB m hm), _, rfl, _, _, rfl, rfl, ⟨by omega, by omega, by decide⟩, _, _, rfl, rfl, ?_⟩
      dsimp only
      rw [k1]
      refine ⟨_, rfl, D, _, rfl, DGet.k (k := Sum.inl _) hDm, _, rfl, ?_⟩
      cases c1 : (valV kvs (Sum.inl ((maskF n (fun y => b y m && !decide (y = m)) : Nat) : Int))).isSome with
      | false => exact iteF (iteF ⟨_, rfl, sm, ext fun h => by rw [m1.mpr h] at c1; cases c1⟩)
      | true =>
        refine iteT ⟨_, rfl, _, rfl, c, C, dx, _, _, rfl, obm, T.cl, T.n2, rfl, _, rfl, L.ab, _, _, _, rfl, rfl, SqL.of (sm _ _ ab1), atI_nat (getA m hm), _, _, rfl, rfl, ?_⟩
        dsimp only
        rw [k2]
        refine ⟨_, rfl, D, _, rfl, DGet.k (k := Sum.inl _) hDm, _, rfl, ?_⟩
        cases c2 : (valV kvs (Sum.inl ((maskF n (fun y => b y L.tp && !b m y) : Nat) : Int))).isSome with
        | true => exact iteF ⟨_, rfl, sm, ext fun _ => m2.mp c2⟩
        | false =>
          refine iteT (good _ _ (s1.trans sm) (Iff.intro (fun z => absurd z Bool.false_ne_true) fun z => ?_))
          have := m2.mpr ((spr_iff B.lat).mp z m hm (m1.mp c1))
          rw [c2] at this
          cases this
    · rintro σ H' ⟨y4, rfl, sm, hi⟩
      rw [Int.toNat_natCast, lbe] at hi
      exact good _ _ (s1.trans sm) ⟨fun _ => (spr_iff B.lat).mpr hi, fun _ => rfl⟩
end
end FvO


/-! faults: masks, indexes_in, first_in, covers_of -/
namespace FvO
open PySem PySem.Spec PyProof.Rows L2 Fv FvW FvX TL
-- top 2  slots: 0:mask 1:at
abbrev s_indexes_in : Stmt := topS 2
abbrev N_indexes_in : List Str := ["mask", "at"]
theorem sc_indexes_in : FnScope N_indexes_in ["mask"] (defScope s_indexes_in) := ⟨rfl, rfl, rfl, by decide +kernel, rfl, by decide +kernel, by decide +kernel⟩

-- top 3  slots: 0:mask
abbrev s_first_in : Stmt := topS 3
abbrev N_first_in : List Str := ["mask"]
theorem sc_first_in : FnScope N_first_in ["mask"] (defScope s_first_in) := ⟨rfl, rfl, rfl, by decide +kernel, rfl, by decide +kernel, by decide +kernel⟩

-- top 6  slots: 0:above 1:below 2:bits 3:at 4:covers 5:mask 6:higher 7:bit 8:under
abbrev s_covers_of : Stmt := topS 6
abbrev N_covers_of : List Str := ["above", "below", "bits", "at", "covers", "mask", "higher", "bit", "under"]
theorem sc_covers_of : FnScope N_covers_of ["above", "below"] (defScope s_covers_of) := ⟨rfl, rfl, rfl, by decide +kernel, rfl, by decide +kernel, by decide +kernel⟩

/-! ### masks -/
theorem bit1 (n : Nat) : Builtin.bitAnd ((n : Nat) : Int) 1 = ((n % 2 : Nat) : Int) := by
  have := bitAnd_nat n 1
  rw [Nat.and_one_is_mod] at this
  exact this
theorem bit_test (m j : Nat) : (Builtin.bitAnd (((m : Nat) : Int) / 2 ^ ((j : Nat) : Int).toNat) 1 != 0) = Nat.testBit m j := by
  rw [Int.toNat_natCast, show ((m : Nat) : Int) / 2 ^ j = ((m / 2 ^ j : Nat) : Int) by rw [Int.natCast_ediv, Int.natCast_pow]; rfl, bit1, Nat.testBit_eq_decide_div_mod_eq]
  have h2 : m / 2 ^ j % 2 < 2 := Nat.mod_lt _ (by decide)
  generalize m / 2 ^ j % 2 = x at h2
  match x, h2 with
  | 0, _ => rfl
  | 1, _ => rfl
theorem shl1 (j : Nat) : (1 : Int) * 2 ^ ((j : Nat) : Int).toNat = ((2 ^ j : Nat) : Int) := by
  rw [Int.toNat_natCast, Int.one_mul, Int.natCast_pow]; rfl
def tTruF (K : PySem.W.Frag) (ta : TE) : TT := fun σ H Q => ta σ H fun x H' => ∃ k, TruV K x H' k ∧ Q k H'
theorem pt_truthF {X : Cx} {K : PySem.W.Frag} {a : Expr} {ta : TE} (hK : X.K = K) (ha : PE X a ta) (he : ∀ whole, isTrue a X.env whole = (do let v ← whole; standAt a.pos; holding [v] (truthy v))) : PT X a (tTruF K ta) := by
  subst hK
  exact pt_truth ha he
theorem bits_lt {m i : Nat} (h : Nat.testBit m i = true) : i < Builtin.Int.intBits ((m : Nat) : Int) := by
  have g := Nat.ge_two_pow_of_testBit h
  have p := Nat.two_pow_pos i
  have ne : m ≠ 0 := by omega
  unfold Builtin.Int.intBits
  rw [if_neg (by simpa using ne), Int.natAbs_natCast]
  have l := @Nat.lt_log2_self m
  have : 2 ^ i < 2 ^ (m.log2 + 1) := by omega
  exact (Nat.pow_lt_pow_iff_right (by decide)).mp this
theorem bits_le {m n : Nat} (h : m < 2 ^ n) : Builtin.Int.intBits ((m : Nat) : Int) ≤ n := by
  unfold Builtin.Int.intBits
  split
  · exact Nat.zero_le _
  · rename_i ne
    have ne' : m ≠ 0 := by simpa using ne
    rw [Int.natAbs_natCast]
    exact (Nat.log2_lt ne').mpr h
theorem mask_or {n : Nat} {f g : Nat → Bool} : maskF n f ||| maskF n g = maskF n fun y => f y || g y := by
  apply Nat.eq_of_testBit_eq
  intro y
  rw [Nat.testBit_or, maskF_bit, maskF_bit, maskF_bit]
  cases decide (y < n) <;> simp
/-- two places as a mask -/
theorem mask_two {n x z : Nat} (hx : x < n) (hz : z < n) : Builtin.bitOr ((1 : Int) * 2 ^ ((x : Nat) : Int).toNat) ((1 : Int) * 2 ^ ((z : Nat) : Int).toNat) = ((maskF n fun y => decide (y = x) || decide (y = z) : Nat) : Int) := by
  rw [shl1, shl1, bitOr_nat, ← mask_or, mask_one hx, mask_one hz]
theorem mask_none {n : Nat} {f : Nat → Bool} : maskF n f = 0 ↔ ∀ y, y < n → f y = false := by
  constructor
  · intro h y hy
    have := congrArg (fun m => Nat.testBit m y) h
    simp only [maskF_bit, decide_eq_true hy, Bool.true_and, Nat.zero_testBit] at this
    exact this
  · intro h
    have e : maskF n f = maskF n fun _ => false := mask_congr h
    rw [e]
    clear e h
    induction n with
    | zero => rfl
    | succ n ih => unfold maskF; rw [ih]; rfl
theorem sum_filt (t : Nat → Bool) : ∀ n : Nat, (((List.range n).filter t).map (2 ^ ·)).sum = maskF n t
  | 0 => rfl
  | n + 1 => by
    rw [List.range_succ, List.filter_append, List.map_append, List.sum_append_nat, sum_filt t n]
    show _ = maskF n t + (if t n = true then 2 ^ n else 0)
    cases e : t n <;> simp [e]
/-! ### the least bit -/
theorem low_ex : ∀ m : Nat, 0 < m → ∃ k a : Nat, m = 2 ^ k * (2 * a + 1) := fun m => by
  induction m using Nat.strongRecOn with
  | ind m ih =>
    intro h
    rcases Nat.mod_two_eq_zero_or_one m with e | e
    · obtain ⟨k, a, e2⟩ := ih (m / 2) (by omega) (by omega)
      refine ⟨k + 1, a, ?_⟩
      rw [Nat.pow_succ, Nat.mul_comm (2 ^ k) 2, Nat.mul_assoc, ← e2]
      omega
    · exact ⟨0, m / 2, by rw [Nat.pow_zero, Nat.one_mul]; omega⟩
theorem low_and (k a : Nat) : (2 ^ k * (2 * a + 1)) &&& (2 ^ k * (2 * a) + (2 ^ k - 1)) = 2 ^ k * (2 * a) := by
  have p := Nat.two_pow_pos k
  apply Nat.eq_of_testBit_eq
  intro j
  have e1 : 2 ^ k * (2 * a + 1) = 2 ^ k * (2 * a + 1) + 0 := rfl
  have e2 : 2 ^ k * (2 * a) = 2 ^ k * (2 * a) + 0 := rfl
  rw [Nat.testBit_and, e1, Nat.testBit_two_pow_mul_add _ (by omega), Nat.testBit_two_pow_mul_add _ (by omega), show Nat.testBit (2 ^ k * (2 * a)) j = Nat.testBit (2 ^ k * (2 * a) + 0) j from rfl, Nat.testBit_two_pow_mul_add _ (by omega)]
  by_cases c : j < k
  · rw [if_pos c, if_pos c, if_pos c, Nat.zero_testBit, Bool.false_and]
  · rw [if_neg c, if_neg c, if_neg c]
    generalize j - k = i
    cases i with
    | zero =>
      rw [Nat.testBit_zero, Nat.testBit_zero]
      have h1 : (2 * a + 1) % 2 = 1 := by omega
      have h2 : (2 * a) % 2 = 0 := by omega
      rw [h1, h2]; rfl
    | succ i =>
      rw [Nat.testBit_succ, Nat.testBit_succ]
      have h1 : (2 * a + 1) / 2 = a := by omega
      have h2 : 2 * a / 2 = a := by omega
      rw [h1, h2, Bool.and_self]
theorem low_bit (m : Nat) (h : 0 < m) : ∃ k, Nat.testBit m k = true ∧ (∀ i, Nat.testBit m i = true → k ≤ i) ∧ Builtin.bitAnd ((m : Nat) : Int) (-((m : Nat) : Int)) = ((2 ^ k : Nat) : Int) := by
  obtain ⟨k, a, e⟩ := low_ex m h
  have p := Nat.two_pow_pos k
  refine ⟨k, ?_, fun i hi => ?_, ?_⟩
  rotate_left
  · rw [e, show 2 ^ k * (2 * a + 1) = 2 ^ k * (2 * a + 1) + 0 from rfl, Nat.testBit_two_pow_mul_add _ (by omega)] at hi
    by_cases c : i < k
    · rw [if_pos c, Nat.zero_testBit] at hi; cases hi
    · omega
  rotate_left
  · rw [e, show 2 ^ k * (2 * a + 1) = 2 ^ k * (2 * a + 1) + 0 from rfl, Nat.testBit_two_pow_mul_add _ (by omega), if_neg (Nat.lt_irrefl k), Nat.sub_self, Nat.testBit_zero]
    have h1 : (2 * a + 1) % 2 = 1 := by omega
    rw [h1]; rfl
  · have n1 : ¬ (0 : Int) ≤ -((m : Nat) : Int) := by omega
    unfold Builtin.bitAnd
    rw [decide_eq_true (Int.natCast_nonneg m), decide_eq_false n1]
    show ((m : Nat) : Int) - (((((m : Nat) : Int).toNat &&& (Builtin.bitNot (-((m : Nat) : Int))).toNat : Nat)) : Int) = _
    have en : (Builtin.bitNot (-((m : Nat) : Int))).toNat = m - 1 := by unfold Builtin.bitNot; omega
    rw [en, Int.toNat_natCast]
    have e1 : 2 ^ k * (2 * a + 1) = 2 ^ k * (2 * a) + 2 ^ k := by rw [Nat.mul_add, Nat.mul_one]
    have em : m - 1 = 2 ^ k * (2 * a) + (2 ^ k - 1) := by omega
    have ea : m &&& (m - 1) = 2 ^ k * (2 * a) := by rw [em]; rw [e]; exact low_and k a
    rw [ea]
    omega
theorem bits_pow (k : Nat) : Builtin.Int.intBits (((2 ^ k : Nat) : Nat) : Int) = k + 1 := by
  have p := Nat.two_pow_pos k
  unfold Builtin.Int.intBits
  rw [if_neg (by simp only [beq_iff_eq]; omega), Int.natAbs_natCast, Nat.log2_two_pow]
/-! ### covers -/
def cvB (n : Nat) (b : Nat → Nat → Bool) (x y : Nat) : Bool := (List.range n).all fun z => (b x z && !decide (z = x) && b z y) == decide (z = y)
theorem cvB_iff {n : Nat} {b : Nat → Nat → Bool} (rf : ∀ x, x < n → b x x = true) {x y : Nat} (hx : x < n) (hy : y < n) : cvB n b x y = true ↔ Cov n b x y := by
  unfold cvB
  rw [List.all_eq_true]
  constructor
  · intro h
    have h1 := beq_iff_eq.mp (h y (List.mem_range.mpr hy))
    rw [decide_eq_true rfl, rf y hy, Bool.and_true, Bool.and_eq_true_iff] at h1
    have ne : x ≠ y := fun e => by rw [e] at h1; simp at h1
    refine ⟨h1.1, ne, fun z hz a c => ?_⟩
    have h2 := beq_iff_eq.mp (h z (List.mem_range.mpr hz))
    by_cases e : z = x
    · exact .inl e
    · rw [a, c, decide_eq_false e] at h2
      exact .inr (of_decide_eq_true h2.symm)
  · rintro ⟨a, ne, f⟩ z hz
    have hz := List.mem_range.mp hz
    rw [beq_iff_eq]
    by_cases e : z = y
    · rw [e, a, rf y hy, decide_eq_false (Ne.symm ne), decide_eq_true rfl]; rfl
    · rw [decide_eq_false e]
      refine Bool.eq_false_iff.mpr fun h => ?_
      rw [Bool.and_eq_true_iff, Bool.and_eq_true_iff] at h
      rcases f z hz h.1.1 h.2 with e2 | e2
      · rw [e2] at h; simp at h
      · exact e e2
/-- the program's test -/
theorem cv_test {n : Nat} {b : Nat → Nat → Bool} {x y : Nat} (hy : y < n) : decide (V.int ((maskF n (fun z => b x z && !decide (z = x)) &&& maskF n (fun z => b z y) : Nat) : Int) = V.int ((2 ^ y : Nat) : Int)) = cvB n b x y := by
  rw [mask_and, ← mask_one hy, Bool.eq_iff_iff, decide_eq_true_iff]
  unfold cvB
  rw [List.all_eq_true]
  constructor
  · intro h z hz
    exact beq_iff_eq.mpr (mask_inj (Int.ofNat.inj (V.int.inj h)) z (List.mem_range.mp hz))
  · intro h
    exact congrArg (fun m : Nat => V.int (m : Int)) (mask_congr fun z hz => beq_iff_eq.mp (h z (List.mem_range.mpr hz)))
def covL (n : Nat) (b : Nat → Nat → Bool) : List Nat := (List.range n).map fun x => maskF n (cvB n b x)
def abvL (n : Nat) (b : Nat → Nat → Bool) : List Nat := (List.range n).map fun x => maskF n (b x)
def blwL (n : Nat) (b : Nat → Nat → Bool) : List Nat := (List.range n).map fun x => maskF n fun y => b y x
theorem natsL_get {n : Nat} {g : Nat → Nat} {x : Nat} (h : x < n) : (natsV ((List.range n).map g))[x]? = some (.int (g x : Nat)) := by
  unfold natsV
  rw [List.getElem?_map, List.getElem?_map, List.getElem?_range h]
  rfl
theorem natsL_len (n : Nat) (g : Nat → Nat) : (natsV ((List.range n).map g)).length = n := by rw [nats_len, List.length_map, List.length_range]
theorem same_hide_new {H : Hp} {p : Addr} {o : HO} (np : H p = none) : Same H (hide [p] (upd H p o)) := fun c q e => by
  rw [hide_ne (fun z => ne_of_none e np (List.mem_singleton.mp z)), upd_ne (ne_of_none e np)]; exact e
theorem none_backF {H H1 : Hp} {p : Addr} (s : Same H H1) (h : H1 p = none) : H p = none := by
  cases e : H p with
  | none => rfl
  | some o => rw [s _ _ e] at h; cases h
def spIdxF : Sp := fun vs H Q _ => ∃ m : Nat, vs = [.int (m : Nat)] ∧ m < 2 ^ 60 ∧ ∀ (H' : Hp) (p : Addr) (l : List Nat), Same H H' → H p = none → H' p = some (.lst (natsV l)) → (∀ i, i ∈ l ↔ Nat.testBit m i = true) → l.length ≤ 60 → l.Pairwise (· < ·) → Q (.ref p) H'
def spFst : Sp := fun vs H Q _ => ∃ m : Nat, vs = [.int (m : Nat)] ∧ 0 < m ∧ m < 2 ^ 60 ∧ ∀ k : Nat, Nat.testBit m k = true → (∀ i, Nat.testBit m i = true → k ≤ i) → Q (.int (k : Nat)) H
def spCvs (K : PySem.W.Frag) : Sp := fun vs H Q _ => ∃ (p1 p2 : Addr) (n : Nat) (b : Nat → Nat → Bool), vs = [.ref p1, .ref p2] ∧ SqL K H p1 (natsV (abvL n b)) ∧ SqL K H p2 (natsV (blwL n b)) ∧ n ≤ 60 ∧ (∀ x, x < n → b x x = true) ∧
  ∀ (H' : Hp) (p : Addr), Same H H' → H p = none → H' p = some (.lst (natsV (covL n b))) → Q (.ref p) H'
section
variable {P : Program} {w : World} {K : PySem.W.Frag} {mg : Str → Option Value} {base : Heap}
theorem ok_idxF {f : Addr} {fd : FuncData} {k : Nat} (F : Fun K "indexes_in" "indexes_in" s_indexes_in f fd) (m_range : mg "range" = none) :
    FnOk P w K mg base CX0 (k + 1) f fd ["mask"] spIdxF := by
  refine F.ok sc_indexes_in (fun vs H Q E h => ?_) (fun cdv A outer s H vs Q E hr h => ?_)
  · obtain ⟨m, rfl, _⟩ := h
    rfl
  · obtain ⟨m, rfl, hm, good⟩ := h
    refine ⟨_, (pss_one (ps_ret (pe_lc (own := [("at", 1)]) (g := gName 1) (by rfl) sc_indexes_in.nd (pi_range1 (by rfl) m_range (pa_cons (pe_bits (pv 0)) pa_nil)) (blkOk_by (own := [("at", 1)]) (N := N_indexes_in) (sc := defScope s_indexes_in) (by decide +kernel)) (fun _ _ _ _ _ => pg_name (i := 1) sc_indexes_in.nd rfl (Or.inl rfl)) (fun _ _ _ _ _ => pts_one (pt_truthF (K := K) rfl (pe_op L2.op_and (pe_op op_shr (pv 0) (pv 1)) pe_int) (by intro _; rfl))) (fun _ _ _ _ _ => (pv 1))))), ?_⟩
    have bl := bits_le hm
    refine ⟨_, rfl, _, rfl, _, rfl, by omega, by omega, fun D nD => lc_range (lo := 0) (n := ((Builtin.Int.intBits ((m : Nat) : Int) : Nat) : Int).toNat) (fun j H' => Same H H' ∧ H' D = some (.lst (natsV ((List.range j).filter fun i => Nat.testBit m i)))) ?_ ?_ ?_⟩
    · exact ⟨same_upd nD, upd_same⟩
    · rintro j H' hj ⟨sm, hD⟩
      have ej : (0 : Int) + (j : Nat) = ((j : Nat) : Int) := by omega
      rw [ej]
      rw [Int.toNat_natCast] at hj
      refine ⟨rfl, _, rfl, _, rfl, _, _, rfl, rfl, by omega, _, _, rfl, rfl, _, rfl, ?_⟩
      dsimp only
      rw [bit_test]
      have fl : (natsV ((List.range j).filter fun i => Nat.testBit m i)).length ≤ 60 := by
        rw [nats_len]
        refine Nat.le_trans (List.length_filter_le _ _) ?_
        rw [List.length_range]; omega
      have fa : (List.range (j + 1)).filter (fun i => Nat.testBit m i) = (List.range j).filter (fun i => Nat.testBit m i) ++ (if Nat.testBit m j = true then [j] else []) := by
        rw [List.range_succ, List.filter_append]
        cases e : Nat.testBit m j <;> simp [e]
      cases e1 : Nat.testBit m j with
      | false =>
        refine iteF ⟨sm, ?_⟩
        rw [fa, hD, e1]
        simp
      | true =>
        refine iteT ⟨_, rfl, _, hD, small1000 (by omega), fun c o e => ?_, ?_⟩
        · rw [upd_ne (ne_of_none e nD)]; exact sm _ _ e
        · rw [upd_same, fa, e1]
          unfold natsV
          simp
    · rintro H' ⟨sm, hD⟩
      rw [Int.toNat_natCast] at hD
      refine good H' D _ sm nD hD (fun i => ?_) ?_ ?_
      · rw [List.mem_filter, List.mem_range]
        exact ⟨fun h => h.2, fun h => ⟨bits_lt h, h⟩⟩
      · refine Nat.le_trans (List.length_filter_le _ _) ?_
        rw [List.length_range]; exact bl
      · exact List.Pairwise.filter _ List.pairwise_lt_range
theorem ok_first {f : Addr} {fd : FuncData} {k : Nat} (F : Fun K "first_in" "first_in" s_first_in f fd) :
    FnOk P w K mg base CX0 (k + 1) f fd ["mask"] spFst := by
  refine F.ok sc_first_in (fun vs H Q E h => ?_) (fun cdv A outer s H vs Q E hr h => ?_)
  · obtain ⟨m, rfl, _⟩ := h
    rfl
  · obtain ⟨m, rfl, h0, hm, good⟩ := h
    refine ⟨_, (pss_one (ps_ret (pe_op op_sub (pe_bits (pe_op L2.op_and (pv 0) (pe_un un_neg (pv 0)))) pe_int))), ?_⟩
    obtain ⟨k, hk, hm', e⟩ := low_bit m h0
    refine ⟨_, rfl, _, rfl, _, rfl, _, _, rfl, rfl, _, rfl, _, _, rfl, rfl, ?_⟩
    dsimp only
    rw [e, bits_pow, show (((k + 1 : Nat) : Int) - 1) = ((k : Nat) : Int) from by omega]
    exact good k hk hm'
theorem ok_covers {f : Addr} {fd : FuncData} {k : Nat} (F : Fun K "covers_of" "covers_of" s_covers_of f fd) (m_range : mg "range" = none) (m_len : mg "len" = none) (m_enumerate : mg "enumerate" = none) (m_sum : mg "sum" = none) (m_zip : mg "zip" = none) :
    FnOk P w K mg base CX0 (k + 1) f fd ["above", "below"] (spCvs K) := by
  refine F.ok sc_covers_of (fun vs H Q E h => ?_) (fun cdv A outer s H vs Q E hr h => ?_)
  · obtain ⟨p1, p2, n, b, rfl, _⟩ := h
    rfl
  · obtain ⟨p1, p2, n, b, rfl, h1, h2, n60, rf, good⟩ := h
    refine ⟨_, (pss_cons (ps_setLc (i := 2) (own := [("at", 3)]) (g := gName 3) (by rfl) sc_covers_of.nd rfl rfl (sw_true rfl rfl rfl (by decide +kernel)) (pi_range1 (by rfl) m_range (pa_cons (pe_callB call_len_seq (by rfl) m_len (by decide +kernel) (pa_cons (pv 0) pa_nil)) pa_nil)) (blkOk_by (own := [("at", 3)]) (N := N_covers_of) (sc := defScope s_covers_of) (by decide +kernel)) (fun _ _ _ _ _ => pg_name (i := 3) sc_covers_of.nd rfl (Or.inl rfl)) (fun _ _ _ _ _ => pts_nil) (fun _ _ _ _ _ => (pe_op op_shl pe_int (pv 3))))
      (pss_cons (ps_set (i := 4) sc_covers_of.nd rfl (by first | exact .inl rfl | exact .inr rfl) (pe_lst pa_nil))
      (pss_cons (ps_for PassesOwn.never rfl (pi_enum (by rfl) m_enumerate (pa_cons (pv 0) pa_nil)) (pg_tup rfl (pgs_cons (pg_name (i := 3) sc_covers_of.nd rfl (by first | exact .inl rfl | exact .inr rfl)) (pgs_cons (pg_name (i := 5) sc_covers_of.nd rfl (by first | exact .inl rfl | exact .inr rfl)) pgs_nil)))
        (pss_cons (ps_set (i := 6) sc_covers_of.nd rfl (by first | exact .inl rfl | exact .inr rfl) (pe_op op_xor (pv 5) (pe_ix ix_list (pv 2) (pv 3) (fun _ _ => rfl))))
        (pss_one (ps_expr (pe_bm PySem.F.plainAttrs_list PySem.F.slot_list_append PySem.F.type_list_append mt_append (pv 4) (pa_cons (pe_callB (cr_sum rfl) (by rfl) m_sum (by decide +kernel) (pa_cons (pe_lc (own := [("bit", 7), ("under", 8)]) (g := gTup K 2 (gCons (gName 7) (gCons (gName 8) gNil))) (by rfl) sc_covers_of.nd (RZ.pi_zipA (by rfl) m_zip (pa_cons (pv 2) (pa_cons (pv 1) pa_nil))) (blkOk_by (own := [("bit", 7), ("under", 8)]) (N := N_covers_of) (sc := defScope s_covers_of) (by decide +kernel)) (fun _ _ _ _ _ => (pg_tup rfl (pgs_cons (pg_name (i := 7) sc_covers_of.nd rfl (Or.inl rfl) (hf := Or.inr rfl)) (pgs_cons (pg_name (i := 8) sc_covers_of.nd rfl (Or.inl rfl) (hf := Or.inr rfl)) pgs_nil)))) (fun _ _ _ _ _ => pts_one (pt_cmpR op_eq (pe_op L2.op_and (pv 6) (pv 8)) (pv 7) (nomark _))) (fun _ _ _ _ _ => (pv 7))) pa_nil)) pa_nil))))))
      (pss_one (ps_ret (pv 4)))))), ?_⟩
    have la := natsL_len n fun x => maskF n (b x)
    have lab : (natsV (abvL n b)).length = n := la
    refine ⟨_, rfl, p1, _, rfl, .inl h1, _, rfl, by rw [lab]; omega, by rw [lab]; omega, fun D nD => lc_range (lo := 0) (n := (((natsV (abvL n b)).length : Nat) : Int).toNat) (fun j H' => Same H H' ∧ H' D = some (.lst (natsV ((List.range j).map (2 ^ ·))))) ?_ ?_ ?_⟩
    · exact ⟨same_upd nD, upd_same⟩
    · rintro j H' hj ⟨sm, hD⟩
      rw [Int.toNat_natCast] at hj
      rw [lab] at hj
      have ej : (0 : Int) + (j : Nat) = ((j : Nat) : Int) := by omega
      rw [ej]
      refine ⟨rfl, yes_it ⟨_, rfl, _, _, rfl, rfl, ⟨by omega, by omega, by decide⟩, _, hD, small1000 (by rw [nats_len, List.length_map, List.length_range]; omega), fun c o e => ?_, ?_⟩⟩
      · rw [upd_ne (ne_of_none e nD)]; exact sm _ _ e
      · rw [upd_same, List.range_succ, List.map_append]
        show some (HO.lst (natsV ((List.range j).map (2 ^ ·)) ++ [V.int ((1 : Int) * 2 ^ ((j : Nat) : Int).toNat)])) = _
        rw [shl1]
        unfold natsV
        rw [List.map_append]
        rfl
    rintro H1 ⟨s1, hD⟩
    rw [Int.toNat_natCast] at hD
    rw [lab] at hD
    refine ⟨(by show 0 ≤ sizeLine; decide), fun CV nCV => ?_⟩
    have hCV : upd H1 CV (.lst []) CV = some (.lst []) := upd_same
    have sh : Same H1 (hide [CV] (upd H1 CV (.lst []))) := same_hide_new nCV
    have g1 := sh.seq (s1.seq h1)
    have g2 := sh.seq (s1.seq h2)
    have gD := sh _ _ hD
    have s2 := same_upd (o := .lst []) nCV
    generalize upd H1 CV (.lst []) = H2 at hCV g1 g2 gD s2
    have m1 : CV ∈ [CV] := List.mem_singleton.mpr rfl
    refine ⟨_, rfl, p1, _, rfl, hide_same.seq g1, for_it (walk_enum (xs := natsV (abvL n b))) (fun i σ H' => ∃ y3 y5 y6 : Option V, σ = [some (.ref p1), some (.ref p2), some (.ref D), y3, some (.ref CV), y5, y6, none, none] ∧ SmX [CV] H2 H' ∧ H' CV = some (.lst (natsV ((List.range i).map fun x => maskF n (cvB n b x))))) ?_ ?_ ?_ ?_⟩
    · exact ⟨_, _, _, rfl, SmX.of_same (Same.refl _), hCV⟩
    · rintro i σ H' _ ⟨y3, y5, y6, rfl, sm, _⟩
      exact hide_same.seq (sm.hid.seq g1)
    · rintro i x σ H' H'' hi ⟨y3, y5, y6, rfl, sm, hC⟩ ⟨T, x1, y1, rfl, nT, rfl, e1, e2⟩
      cases e1
      rw [lab] at hi
      have e2 : (natsV (abvL n b))[i]? = some y1 := e2
      rw [show (natsV (abvL n b))[i]? = some (.int (maskF n (b i) : Nat)) from natsL_get hi] at e2
      cases e2
      have sT := same_upd (o := .tup [V.int ((i : Nat) : Int), V.int ((maskF n (b i) : Nat) : Int)]) nT
      have hC := sT _ _ hC
      have smT := sm.trans (SmX.of_same sT)
      have hT : upd H' T (.tup [V.int ((i : Nat) : Int), V.int ((maskF n (b i) : Nat) : Int)]) T = some (.tup [V.int ((i : Nat) : Int), V.int ((maskF n (b i) : Nat) : Int)]) := upd_same
      generalize upd H' T (.tup [V.int ((i : Nat) : Int), V.int ((maskF n (b i) : Nat) : Int)]) = H3 at hC smT hT
      have gD3 : H3 D = some (.lst (natsV ((List.range n).map (2 ^ ·)))) := hide_same _ _ (smT.hid _ _ gD)
      have g23 : SqL K H3 p2 (natsV (blwL n b)) := hide_same.seq (smT.hid.seq g2)
      refine ⟨T, [_, _], rfl, .inl (.inl hT), rfl, _, [_], rfl, _, [], rfl, rfl, ?_⟩
      refine ⟨_, rfl, _, rfl, _, rfl, D, _, _, _, rfl, rfl, SqL.of gD3, atI_nat (natsL_get hi), _, _, rfl, rfl, ?_⟩
      dsimp only
      have k1 : Builtin.bitXor ((maskF n (b i) : Nat) : Int) (((2 ^ i : Nat) : Nat) : Int) = ((maskF n (fun y => b i y && !decide (y = i)) : Nat) : Int) := by
        rw [← mask_one hi]
        exact bitXor_sub fun y _ e => by rw [of_decide_eq_true e]; exact rf i hi
      rw [k1]
      refine ⟨_, rfl, .inl ⟨rfl, _, SqL.of hC⟩, _, rfl, _, rfl, D, p2, natsV ((List.range n).map (2 ^ ·)), natsV (blwL n b), rfl, .inl ⟨SqL.of gD3, g23, fun D3 nD3 => ?_⟩⟩
      have lb : (natsV (blwL n b)).length = n := natsL_len n _
      have ld : (natsV ((List.range n).map (2 ^ ·))).length = n := natsL_len n _
      refine lc_it (walk_zip (xs := natsV ((List.range n).map (2 ^ ·))) (ys := natsV (blwL n b)) (n := n) (by rw [lb, ld]; omega)) (fun j H4 => Same H3 H4 ∧ H4 D3 = some (.lst (natsV (((List.range j).filter (cvB n b i)).map (2 ^ ·))))) ⟨same_upd nD3, upd_same⟩ (fun j H4 _ p => ⟨SqL.of (p.1 _ _ gD3), p.1.seq g23⟩) ?_ ?_
      · rintro j v H4 H5 hj ⟨sm4, e⟩ ⟨T2, x2, y2, rfl, nT2, rfl, e3, e4⟩
        have e3 : (natsV ((List.range n).map (2 ^ ·)))[j]? = some x2 := e3
        rw [natsL_get hj] at e3
        cases e3
        have e4 : (natsV (blwL n b))[j]? = some y2 := e4
        rw [show (natsV (blwL n b))[j]? = some (.int (maskF n (fun y => b y j) : Nat)) from natsL_get hj] at e4
        cases e4
        have sT2 := same_upd (o := .tup [V.int (((2 ^ j : Nat) : Nat) : Int), V.int ((maskF n (fun y => b y j) : Nat) : Int)]) nT2
        refine ⟨T2, [_, _], rfl, .inl (.inl upd_same), rfl, _, [_], rfl, _, [], rfl, rfl, rfl, ?_⟩
        refine ⟨_, rfl, _, rfl, _, _, rfl, rfl, _, rfl, rfl, _, rfl, ?_⟩
        dsimp only
        have et : decide (V.int (Builtin.bitAnd ((maskF n (fun y => b i y && !decide (y = i)) : Nat) : Int) ((maskF n (fun y => b y j) : Nat) : Int)) = V.int ((2 ^ j : Nat) : Int)) = cvB n b i j := by
          rw [bitAnd_nat]; exact cv_test hj
        rw [et]
        have fa : (List.range (j + 1)).filter (cvB n b i) = (List.range j).filter (cvB n b i) ++ (if cvB n b i j = true then [j] else []) := by
          rw [List.range_succ, List.filter_append]
          cases e : cvB n b i j <;> simp [e]
        cases ec : cvB n b i j with
        | false =>
          refine iteF ⟨sm4.trans sT2, ?_⟩
          rw [fa, ec]
          show _ = some (HO.lst (natsV (((List.range j).filter (cvB n b i) ++ []).map (2 ^ ·))))
          rw [List.append_nil]
          exact sT2 _ _ e
        | true =>
          refine iteT ⟨_, rfl, _, sT2 _ _ e, small1000 ?_, fun c o ec => ?_, ?_⟩
          · rw [nats_len, List.length_map]
            refine Nat.le_trans (List.length_filter_le _ _) ?_
            rw [List.length_range]; omega
          · rw [upd_ne (ne_of_none ec nD3)]
            exact sT2 _ _ (sm4 _ _ ec)
          · rw [upd_same, fa, ec]
            show some (HO.lst (_ ++ [_])) = some (HO.lst (natsV (((List.range j).filter (cvB n b i) ++ [j]).map (2 ^ ·))))
            unfold natsV
            rw [List.map_append, List.map_append]
            rfl
      · rintro H4 ⟨sm4, e⟩
        have ei : ∀ l : List Nat, natsV l = (l.map fun x : Nat => (x : Int)).map V.int := fun l => by unfold natsV; rw [List.map_map]; rfl
        have es : ∀ l : List Nat, (l.map fun x : Nat => (x : Int)).sum = ((l.sum : Nat) : Int) := fun l => by
          induction l with
          | nil => rfl
          | cons a z ih => rw [List.map_cons, List.sum_cons, List.sum_cons, ih]; omega
        rw [ei] at e
        refine ⟨D3, _, rfl, SqL.of e, ?_⟩
        rw [es, sum_filt]
        refine ⟨CV, _, _, rfl, rfl, sm4 _ _ hC, small1000 (by rw [nats_len, List.length_map, List.length_range]; omega), ?_⟩
        refine ⟨_, _, _, rfl, (smT.trans (SmX.of_same sm4)).put m1, ?_⟩
        rw [upd_same, List.range_succ, List.map_append]
        unfold natsV
        rw [List.map_append]
        rfl
    · rintro σ H' ⟨y3, y5, y6, rfl, sm, hC⟩
      rw [lab] at hC
      refine ⟨_, rfl, good H' CV (fun c o e => ?_) (none_backF s1 nCV) hC⟩
      exact sm _ _ (fun z => ne_of_none (s1 _ _ e) nCV (List.mem_singleton.mp z)) (s2 _ _ (s1 _ _ e))
end
end FvO


namespace FvX
open PySem PySem.Spec PyProof.Rows L2 Fv
/-! ### methods that may raise; by keywords; properties -/
structure MetR (P : Program) (w : World) (K : PySem.W.Frag) (mg : Str → Option Value) (base : Heap) (k : Nat) (C : Addr) (m : Str) (sp : Sp) : Prop where
  ex : ∃ f : Addr, Cls K C ∧ Meth K C m f ∧ FnR P w K mg base (L2.CX P w) k f sp
structure MetKR (P : Program) (w : World) (K : PySem.W.Frag) (mg : Str → Option Value) (base : Heap) (k : Nat) (C : Addr) (m : Str) (ps ks : List Str) (gV : List V → List V → List V) (sp : Sp) : Prop where
  ex : ∃ (f : Addr) (fd : FuncData) (g : List Value → List Value → List Value), Cls K C ∧ Meth K C m f ∧ KBn K fd ps 1 ks g gV ∧ FnOk P w K mg base (L2.CX P w) k f fd ps sp
structure PropK (P : Program) (w : World) (K : PySem.W.Frag) (mg : Str → Option Value) (base : Heap) (k : Nat) (C : Addr) (f : Str) (sp : Sp) : Prop where
  ex : ∃ (p g : Addr) (fd : FuncData), Cls K C ∧ PropOf K C f p g ∧ FnOk P w K mg base CX0 k g fd ["self"] sp ∧ Binds K fd ["self"] []
section
variable {X : Cx} {k : Nat} {C : Addr} {m : Str} {sp : Sp} {E : XK} {o e : Expr} {es : List Expr} {ta : TE} {t tk : TA} {apos pos : Pos} {pl : Sem Bool} {ps ks : List Str} {gV : List V → List V → List V} {kws : List Keyword}
theorem pe_mtR (M : MetR X.prog X.w X.K X.mg X.base k C m sp) (hr : Room k X.A) (hx : Passes (L2.CX X.prog X.w) X E) (he : PE X o ta) (ha : PA X (e :: es) t)
    (hst : starEach (e :: es) X.env = (false, eval e X.env) :: starEach es X.env := by rfl) (hpl : (backTo pos (starEach es X.env)).any (·.1) = false := by rfl)
    (ht : eval (.Call (.Attribute o m apos) (e :: es) [] pos) X.env = (do
      let ov ← eval o X.env
      standAt apos.atName
      let (f, first) ← holding [ov] (getMethod ov m pl)
      callWith pos f first (backTo pos (starEach (e :: es) X.env)) (backToKw pos (keywordEach [] X.env))) := by rfl) :
    PE X (.Call (.Attribute o m apos) (e :: es) [] pos) (tMethR C m sp E ta t) := by
  obtain ⟨f, h1, h2, h3⟩ := M.ex
  exact pe_methR (pl := pl) he h1 h2 h3 hr hx ha hst hpl ht
theorem pe_mtR0 (M : MetR X.prog X.w X.K X.mg X.base k C m sp) (hr : Room k X.A) (hx : Passes (L2.CX X.prog X.w) X E) (he : PE X o ta)
    (ht : eval (.Call (.Attribute o m apos) [] [] pos) X.env = (do
      let ov ← eval o X.env
      standAt apos.atName
      let (f, first) ← holding [ov] (getMethod ov m pl)
      callWith pos f first (backTo pos (starEach [] X.env)) (backToKw pos (keywordEach [] X.env))) := by rfl) :
    PE X (.Call (.Attribute o m apos) [] [] pos) (tMethR C m sp E ta tNil) := by
  obtain ⟨f, c, hm, F⟩ := M.ex
  refine ⟨fun pins s σ H Q I h => ?_⟩
  refine PySem.W.methodCall_KW (pl := pl) (thn (he.run pins s σ H _ I h) fun u s1 ⟨x, H1, I1, rx, a, dx, fs, ex, ea, l, q⟩ => ?_) ht
  subst ex
  obtain rfl : u = Value.ref a := rx
  refine getmeth_ok I1 ea c hm l ?_
  exact PySem.W.callWith_K0 (first := [.ref a]) I1.kIn hm.kp (wpAny_call (run_fnR (us := .ref a :: []) (vs := .ref a :: []) F hr hx I1 (.cons rfl .nil) q))
def tMethK (C : Addr) (m : Str) (n : Nat) (gV : List V → List V → List V) (sp : Sp) (E : XK) (ta : TE) (tk : TA) : TE := fun σ H Q => ta σ H fun x H1 => ∃ a dx fs, x = .ref a ∧ H1 a = some (.ins C dx fs) ∧ fs.lookup m = none ∧ tk σ H1 fun zs H2 => zs.length = n ∧ sp (gV [x] zs) H2 Q E
theorem pe_mtK (M : MetKR X.prog X.w X.K X.mg X.base k C m ps ks gV sp) (hr : Room k X.A) (hx : Passes (L2.CX X.prog X.w) X E) (he : PE X o ta) (hkw : PK X kws tk)
    (hall : (backToKw pos (keywordEach kws X.env)).all (·.1.isSome) = true := by rfl) (hks : (backToKw pos (keywordEach kws X.env)).filterMap (·.1) = ks := by rfl)
    (hpl : ((backTo pos (starEach [] X.env)).any (·.1) || (backToKw pos (keywordEach kws X.env)).any (·.1.isNone)) = false := by rfl)
    (ht : eval (.Call (.Attribute o m apos) [] kws pos) X.env = (do
      let ov ← eval o X.env
      standAt apos.atName
      let (f, first) ← holding [ov] (getMethod ov m pl)
      callWith pos f first (backTo pos (starEach [] X.env)) (backToKw pos (keywordEach kws X.env))) := by rfl) :
    PE X (.Call (.Attribute o m apos) [] kws pos) (tMethK C m ks.length gV sp E ta tk) := by
  obtain ⟨f, fd, g, c, hm, hb, F⟩ := M.ex
  refine ⟨fun pins s σ H Q I h => ?_⟩
  refine PySem.W.methodCall_KW (pl := pl) (thn (he.run pins s σ H _ I h) fun u s1 ⟨x, H1, I1, rx, a, dx, fs, ex, ea, l, q⟩ => ?_) ht
  subst ex
  obtain rfl : u = Value.ref a := rx
  refine getmeth_ok I1 ea c hm l ?_
  refine PySem.W.callWith_KW0 (first := [.ref a]) (h₀ := X.base) I1.ok.mod.kin hm.kp hall ?_ hpl
  refine thn (hkw.run pos pins s1 σ H1 _ I1 q) fun ws s2 ⟨zs, H2, I2, rz, l2, q2⟩ => ⟨I2.kIn, ?_⟩
  rw [hks]
  exact run_fnN (us := [.ref a]) (vs := [.ref a]) F hr hb hx I2 (.cons rfl .nil) rz rfl l2 q2
theorem pe_propK (M : PropK X.prog X.w X.K X.mg X.base k C m sp) (hr : Room (k + 1) X.A) (he : PE X e ta) (hab : attributeBase e m X.env (eval e X.env) = eval e X.env := by rfl) : PE X (.Attribute e m pos) (tProp C sp [] E0 ta) := by
  obtain ⟨p, g, fd, c, hp, F, hb⟩ := M.ex
  exact pe_prop he c hp F hr hb .nil pass0 hab
end
end FvX


namespace FvO
open PySem PySem.Spec PyProof.Rows L2 Fv FvW FvX
open FvK (pe_fldK)
-- top 36  slots: 0:self 1:value
abbrev s_has_place__of__Board : Stmt := inClass (topS 36) 8
abbrev N_has_place__of__Board : List Str := ["self", "value"]
theorem sc_has_place__of__Board : FnScope N_has_place__of__Board ["self", "value"] (defScope s_has_place__of__Board) := ⟨rfl, rfl, rfl, by decide +kernel, rfl, by decide +kernel, by decide +kernel⟩

-- top 36  slots: 0:self 1:places 2:place
abbrev s_check_places__of__Board : Stmt := inClass (topS 36) 9
abbrev N_check_places__of__Board : List Str := ["self", "places", "place"]
theorem sc_check_places__of__Board : FnScope N_check_places__of__Board ["self", "places"] (defScope s_check_places__of__Board) := ⟨rfl, rfl, rfl, by decide +kernel, rfl, by decide +kernel, by decide +kernel⟩

-- top 36  slots: 0:self 1:one 2:other
abbrev s_is_below__of__Board : Stmt := inClass (topS 36) 10
abbrev N_is_below__of__Board : List Str := ["self", "one", "other"]
theorem sc_is_below__of__Board : FnScope N_is_below__of__Board ["self", "one", "other"] (defScope s_is_below__of__Board) := ⟨rfl, rfl, rfl, by decide +kernel, rfl, by decide +kernel, by decide +kernel⟩

-- top 36  slots: 0:self 1:places 2:found 3:place
abbrev s_low__of__Board : Stmt := inClass (topS 36) 11
abbrev N_low__of__Board : List Str := ["self", "places", "found", "place"]
theorem sc_low__of__Board : FnScope N_low__of__Board ["self", "places"] (defScope s_low__of__Board) := ⟨rfl, rfl, rfl, by decide +kernel, rfl, by decide +kernel, by decide +kernel⟩

-- top 36  slots: 0:self 1:places 2:found 3:place
abbrev s_up__of__Board : Stmt := inClass (topS 36) 12
abbrev N_up__of__Board : List Str := ["self", "places", "found", "place"]
theorem sc_up__of__Board : FnScope N_up__of__Board ["self", "places"] (defScope s_up__of__Board) := ⟨rfl, rfl, rfl, by decide +kernel, rfl, by decide +kernel, by decide +kernel⟩

-- top 36  slots: 0:self
abbrev s_bottom__of__Board : Stmt := inClass (topS 36) 6
abbrev N_bottom__of__Board : List Str := ["self"]
theorem sc_bottom__of__Board : FnScope N_bottom__of__Board ["self"] (defScope s_bottom__of__Board) := ⟨rfl, rfl, rfl, by decide +kernel, rfl, by decide +kernel, by decide +kernel⟩

-- top 36  slots: 0:self
abbrev s_top__of__Board : Stmt := inClass (topS 36) 7
abbrev N_top__of__Board : List Str := ["self"]
theorem sc_top__of__Board : FnScope N_top__of__Board ["self"] (defScope s_top__of__Board) := ⟨rfl, rfl, rfl, by decide +kernel, rfl, by decide +kernel, by decide +kernel⟩

/-! ### places -/
def plOk (n : Nat) (i : Int) : Bool := decide (0 ≤ i) && decide (i < (n : Nat))
def plB (n : Nat) : PyData → Bool
  | .int i => plOk n i
  | _ => false
def bad1 (n : Nat) (is : List Int) : Option Int := is.find? fun i => !plOk n i
def intsD (is : List Int) : List PyData := is.map PyData.int
def spHas (K : PySem.W.Frag) (C : Addr) : Sp := fun vs H Q _ => ∃ (c : Addr) (v : V) (d : PyData) (L : BL) (n : Nat) (b : Nat → Nat → Bool) (lo hi : Nat → Nat → Nat), vs = [.ref c, v] ∧ BAt K C H c L n b lo hi ∧ n ≤ 60 ∧ Dp K H v d ∧ Q (.bl (plB n d)) H
def spChk (K : PySem.W.Frag) (C CP : Addr) : Sp := fun vs H Q E => ∃ (c : Addr) (v : V) (d : PyData) (is : List Int) (L : BL) (n : Nat) (b : Nat → Nat → Bool) (lo hi : Nat → Nat → Nat), vs = [.ref c, v] ∧ BAt K C H c L n b lo hi ∧ n ≤ 60 ∧ Dp K H v d ∧ isSeq d = true ∧ rows d = intsD is ∧ (∀ i ∈ is, i.natAbs < 2 ^ 200) ∧
  (bad1 n is = none → ∀ H', Same H H' → Q .non H') ∧ ∀ i, bad1 n is = some i → errF CP "InvalidPlace" "place" (.int i) H E
def spBel (K : PySem.W.Frag) (C CP : Addr) : Sp := fun vs H Q E => ∃ (c : Addr) (i j : Int) (L : BL) (n : Nat) (b : Nat → Nat → Bool) (lo hi : Nat → Nat → Nat), vs = [.ref c, .int i, .int j] ∧ BAt K C H c L n b lo hi ∧ n ≤ 60 ∧ i.natAbs < 2 ^ 200 ∧ j.natAbs < 2 ^ 200 ∧
  (∀ x y : Nat, i = (x : Nat) → j = (y : Nat) → x < n → y < n → ∀ H', Same H H' → Q (.bl (b x y)) H') ∧ ∀ e, bad1 n [i, j] = some e → errF CP "InvalidPlace" "place" (.int e) H E
/-- a fold of bounds, from the greatest or the least place -/
def spFold (K : PySem.W.Frag) (C CP : Addr) (up : Bool) : Sp := fun vs H Q E => ∃ (c : Addr) (is : List Int) (L : BL) (n : Nat) (b : Nat → Nat → Bool) (lo hi : Nat → Nat → Nat) (bt tp : Nat), vs = .ref c :: is.map V.int ∧ BAt K C H c L n b lo hi ∧ Brd n b lo hi bt tp ∧ L.bt = bt ∧ L.tp = tp ∧ is.length ≤ 100 ∧ (∀ i ∈ is, i.natAbs < 2 ^ 200) ∧
  (∀ xs : List Nat, is = xs.map (fun x => ((x : Nat) : Int)) → (∀ x ∈ xs, x < n) → ∀ H', Same H H' → Q (.int ((xs.foldl (if up then hi else lo) (if up then bt else tp) : Nat) : Int)) H') ∧ ∀ e, bad1 n is = some e → errF CP "InvalidPlace" "place" (.int e) H E
def spFoldT (K : PySem.W.Frag) (C CP : Addr) (up : Bool) : Sp := fun vs H Q E => ∃ (c T : Addr) (is : List Int) (L : BL) (n : Nat) (b : Nat → Nat → Bool) (lo hi : Nat → Nat → Nat) (bt tp : Nat), vs = [.ref c, .ref T] ∧ SqT K H T (is.map V.int) ∧ BAt K C H c L n b lo hi ∧ Brd n b lo hi bt tp ∧ L.bt = bt ∧ L.tp = tp ∧ is.length ≤ 100 ∧ (∀ i ∈ is, i.natAbs < 2 ^ 200) ∧
  (∀ xs : List Nat, is = xs.map (fun x => ((x : Nat) : Int)) → (∀ x ∈ xs, x < n) → ∀ H', Same H H' → Q (.int ((xs.foldl (if up then hi else lo) (if up then bt else tp) : Nat) : Int)) H') ∧ ∀ e, bad1 n is = some e → errF CP "InvalidPlace" "place" (.int e) H E
theorem plOk_nat {n : Nat} {i : Int} (h : plOk n i = true) : ∃ x : Nat, i = (x : Nat) ∧ x < n := by
  unfold plOk at h
  rw [Bool.and_eq_true, decide_eq_true_iff, decide_eq_true_iff] at h
  exact ⟨i.toNat, by omega, by omega⟩
theorem bad_nats {n : Nat} {is : List Int} (h : bad1 n is = none) : ∃ xs : List Nat, is = xs.map (fun x => ((x : Nat) : Int)) ∧ ∀ x ∈ xs, x < n := by
  unfold bad1 at h
  rw [List.find?_eq_none] at h
  refine ⟨is.map Int.toNat, ?_, fun x hx => ?_⟩
  · rw [List.map_map]
    refine ((List.map_congr_left fun i hi => ?_).trans (List.map_id is)).symm
    obtain ⟨x, e, _⟩ := plOk_nat (n := n) (i := i) (by have := h i hi; simpa using this)
    show ((i.toNat : Nat) : Int) = id i
    rw [e]; rfl
  · obtain ⟨i, hi, rfl⟩ := List.mem_map.mp hx
    obtain ⟨x, e, l⟩ := plOk_nat (n := n) (i := i) (by have := h i hi; simpa using this)
    rw [e, Int.toNat_natCast]; exact l
section
variable {P : Program} {w : World} {K : PySem.W.Frag} {mg : Str → Option Value} {base : Heap} {C CP fP : Addr}
theorem ok_has {f : Addr} {fd : FuncData} {k : Nat} (F : Fun K "has_place" "Board.has_place" s_has_place__of__Board f fd) (T : TxB K C) (m_isinstance : mg "isinstance" = none) (m_int : mg "int" = none) (m_bool : mg "bool" = none) (m_len : mg "len" = none) :
    FnOk P w K mg base CX0 (k + 1) f fd ["self", "value"] (spHas K C) := by
  refine F.ok sc_has_place__of__Board (fun vs H Q E h => ?_) (fun cdv A outer s H vs Q E hr h => ?_)
  · obtain ⟨c, v, d, L, n, b, lo, hi, rfl, _⟩ := h
    rfl
  · obtain ⟨c, v, d, L, n, b, lo, hi, rfl, hB, n60, hd, q⟩ := h
    refine ⟨_, (pss_one (ps_ret (pe_and (pe_isD (T := "int") (by rfl) m_isinstance (by rfl) m_int (pv 1)) (pe_and (pe_not (pe_isD (T := "bool") (by rfl) m_isinstance (by rfl) m_bool (pv 1))) (pe_and (pe_cmpR op_ge (pv 1) pe_int (nomark _)) (pe_one (pe_cmpR op_lt (pv 1) (pe_callB call_len_seq (by rfl) m_len (by decide +kernel) (pa_cons (pe_fldK (K := K) rfl (pv 0) rfl) pa_nil)) (nomark _)))))))), ?_⟩
    refine ⟨_, rfl, _, _, d, rfl, by decide, hd, _, rfl, ?_⟩
    cases d with
    | int i =>
      cases hd
      refine iteT ⟨_, rfl, _, _, .int i, rfl, by decide, .int i, _, rfl, ?_⟩
      refine ⟨_, rfl, iteT ⟨_, rfl, _, _, rfl, rfl, _, rfl, ?_⟩⟩
      have q : Q (.bl (decide (0 ≤ i) && decide (i < (n : Nat)))) H := q
      obtain ⟨dx, ob⟩ := hB.ob
      refine ite2 (fun c => ?_) (fun c => ?_)
      · have c' : decide (0 ≤ i) = true := by rw [decide_eq_true_iff] at c ⊢; omega
        rw [c', Bool.true_and] at q
        refine ⟨_, rfl, _, rfl, _, C, dx, _, _, rfl, ob, T.cl, T.n1, rfl, L.ln, _, rfl, .inl (SqL.of hB.ln), _, _, rfl, rfl, ?_⟩
        rw [rows_lenF]
        exact q
      · have c' : decide (0 ≤ i) = false := by rw [Bool.eq_false_iff, Ne, decide_eq_true_iff] at *; omega
        rw [c', Bool.false_and] at q
        exact q
    | bool b' =>
      cases hd
      exact iteT ⟨_, rfl, _, _, .bool b', rfl, by decide, .bl b', _, rfl, _, rfl, iteF q⟩
    | _ => exact iteF q
theorem ok_chk {f : Addr} {fd : FuncData} {k : Nat} {qual : Str} {q : ErrPos1} {me : Expr} {j2 : Nat} (F : Fun K "check_places" "Board.check_places" s_check_places__of__Board f fd) (hk : 1 ≤ k)
    (T_IP : ErrC1 P.main.file K CP fP qual q me "InvalidPlace" "place" j2) (hline : LineOk1 q me) (hargs : ArgsOk me) (hme : ∀ u, MsgV u → MsgOk me "place" u) (htop : (P.main.scope.names.lookup ("super" : Str)).isSome = false) (m_super : mg "super" = none) (g_IP : mg "InvalidPlace" = some (.ref CP))
    (M_has_place : C8.Met P w K mg base 1 C "has_place" (spHas K C) []) :
    FnOk P w K mg base (L2.CX P w) (k + 1) f fd ["self", "places"] (spChk K C CP) := by
  refine F.okX sc_check_places__of__Board (fun vs H Q E h => ?_) (fun cdv A outer s H vs Q E hr h => ?_)
  · obtain ⟨c, v, d, is, L, n, b, lo, hi, rfl, _⟩ := h
    rfl
  · obtain ⟨c, v, d, is, L, n, b, lo, hi, rfl, hB, n60, hd, hsq, hrw, big, good, bad⟩ := h
    refine ⟨_, (pss_one (ps_for (passes_of rfl) rfl (FvW.pi_or (pi_list (pv 1)) (pi_tup (pv 1))) (pg_name (i := 2) sc_check_places__of__Board.nd rfl (by first | exact .inl rfl | exact .inr rfl))
        (pss_one (ps_if (pt_not (pt_val (C8.pe_mt M_has_place hr (by omega) (pv 0) (pa_cons (pv 2) pa_nil))))
          (pss_one (ps_raise rfl (takes_of rfl rfl rfl rfl) (pmk_err1 (k := 0) (by decide +kernel) T_IP hline hargs hme htop m_super (hr.mono (by omega)) (by rfl) g_IP (pa_cons (pv 2) pa_nil))))
          pss_nil)))), ?_⟩
    obtain ⟨dx, ob⟩ := hB.ob
    refine i_seq rfl hd hsq (Same.refl _) fun J Gd ys hys hW hG => for_it hW (fun i σ H2 => ∃ y2 : Option V, σ = [some (.ref c), some v, y2] ∧ Same H H2 ∧ bad1 n (is.take i) = none) ?_ ?_ ?_ ?_
    · exact ⟨_, rfl, Same.refl _, rfl⟩
    · rintro i σ H2 _ ⟨y2, rfl, sm, _⟩
      exact hG H2 sm
    · rintro i x σ H2 H2' hil ⟨y2, rfl, sm, nb⟩ ⟨rfl, hx⟩
      obtain ⟨e, he, hDe⟩ := dpAll_get hys hx
      rw [hrw] at he
      unfold intsD at he
      rw [List.getElem?_map] at he
      obtain ⟨i0, hi0, rfl⟩ := Option.map_eq_some_iff.mp he
      have hDe := dp_same sm _ _ hDe
      refine ⟨_, rfl, c, dx, _, rfl, sm _ _ ob, rfl, _, rfl, c, x, .int i0, L, n, b, lo, hi, rfl, hB.same sm, n60, hDe, _, rfl, ?_⟩
      show if (!plOk n i0) = true then _ else _
      have tk : is.take (i + 1) = is.take i ++ [i0] := by rw [List.take_add_one, hi0]; rfl
      cases hp : plOk n i0 with
      | true =>
        refine iteF ⟨_, rfl, sm, ?_⟩
        unfold bad1 at nb ⊢
        rw [tk, List.find?_append, nb]
        simp [hp]
      | false =>
        cases hDe
        have eb : bad1 n is = some i0 := by
          have h1 : bad1 n (is.take (i + 1)) = some i0 := by
            unfold bad1 at nb ⊢
            rw [tk, List.find?_append, nb]
            simp [hp]
          have h2 := List.take_append_drop (i + 1) is
          unfold bad1 at h1 ⊢
          rw [← h2, List.find?_append, h1]
          rfl
        have bg := big i0 (List.mem_of_getElem? hi0)
        refine iteT ⟨_, rfl, _, rfl, .inr ⟨i0, rfl, ?_⟩, fun dd nd => ?_⟩
        · by_cases z : i0.natAbs = 0
          · rw [z]; decide
          · exact Nat.lt_of_lt_of_le ((Nat.log2_lt z).mpr bg) (by decide)
        · exact bad i0 eb _ dd (sm.trans (same_upd nd)) upd_same
    · rintro σ H2 ⟨y2, rfl, sm, nb⟩
      have ly := dpAll_len hys
      rw [hrw] at ly
      have l2 : is.length = ys.length := by rw [ly]; unfold intsD; rw [List.length_map]
      rw [← l2, List.take_length] at nb
      exact good nb H2 sm
theorem tab_ix' {H : Hp} {p : Addr} {n x : Nat} {g : Nat → Nat → Nat} (h : Dp K H (.ref p) (tabD n g)) (hx : x < n) : ∃ xs b, SqL K H p xs ∧ xs.length = n ∧ atI xs ((x : Nat) : Int) = some (.ref b) ∧ Dp K H (.ref b) (rowD n (g x)) := by
  obtain ⟨xs, hs, ha⟩ := tab_inv h
  have lx := dpAll_len ha
  rw [List.length_map, List.length_range] at lx
  obtain ⟨v, hv⟩ : ∃ v, xs[x]? = some v := ⟨_, List.getElem?_eq_getElem (by omega)⟩
  obtain ⟨d, hd, hDv⟩ := dpAll_get ha hv
  rw [List.getElem?_map, List.getElem?_range hx] at hd
  have e : rowD n (g x) = d := Option.some.inj hd
  subst e
  obtain ⟨b, rfl⟩ : ∃ b, v = .ref b := by cases hDv; exact ⟨_, rfl⟩
  exact ⟨xs, b, hs, lx, atI_nat hv, hDv⟩
theorem row_ixO {H : Hp} {b : Addr} {n y : Nat} {g : Nat → Nat} (h : Dp K H (.ref b) (rowD n g)) (hy : y < n) : ∃ ys, SqL K H b ys ∧ atI ys ((y : Nat) : Int) = some (.int (g y : Nat)) := by
  cases h with
  | @lst _ ys _ hs ha =>
    have ly := dpAll_len ha
    rw [List.length_map, List.length_range] at ly
    obtain ⟨v, hv⟩ : ∃ v, ys[y]? = some v := ⟨_, List.getElem?_eq_getElem (by omega)⟩
    obtain ⟨d, hd, hDv⟩ := dpAll_get ha hv
    rw [List.getElem?_map, List.getElem?_range hy] at hd
    have e : PyData.int (g y : Nat) = d := Option.some.inj hd
    subst e
    cases hDv
    exact ⟨ys, hs, atI_nat hv⟩
theorem ok_low {f : Addr} {k : Nat} {oc : Value} {od an : Option Addr} {osl : Array (Option Value)} {kV doc pm cdv ct : Value} (lk : K.lookup f = some ⟨oc, od, .func (PySem.W.fnOf "low" "Board.low" (defArgs s_low__of__Board) (defBody s_low__of__Board) (defScope s_low__of__Board) .none kV doc pm an cdv ct), osl⟩) (hcd : PySem.W.codeIn K cdv "Board.low" = true) (T : TxB K C) (hk : 2 ≤ k)
    (M_check_places : MetR P w K mg base 2 C "check_places" (spChk K C CP)) :
    FnR P w K mg base (L2.CX P w) (k + 1) f (spFold K C CP false) := by
  have z := StX.fn_star (ps := ["self"]) (pv := "places") (N := N_low__of__Board) (k := k) (P := P) (w := w) (mg := mg) (base := base) (CX := L2.CX P w) (sp := spFoldT K C CP false) lk hcd sc_low__of__Board StX.cxUp
    (fun us rest hl => match us, rest, hl with | [_], [], _ => rfl | [_], _ :: _, _ => rfl) (fun A outer s H vs Q E hr h => ?_)
  · refine z.imp fun vs H Q E h => ?_
    obtain ⟨c, is, L, n, b, lo, hi, bt, tp, rfl, hB, B, e1, e2, l100, big, good, bad⟩ := h
    refine ⟨[.ref c], is.map V.int, rfl, rfl, by rw [List.length_map, sizeLine_eq]; omega, fun p np => ?_⟩
    have sp := same_upd (o := .tup (is.map V.int)) np
    exact ⟨c, p, is, L, n, b, lo, hi, bt, tp, rfl, SqT.of upd_same, hB.same sp, B, e1, e2, l100, big, fun xs e lt H' s' => good xs e lt H' (sp.trans s'), fun e he => (bad e he).mono sp⟩
  · obtain ⟨c, T1, is, L, n, b, lo, hi, bt, tp, rfl, hT, hB, B, e1, e2, l100, big, good, bad⟩ := h
    refine ⟨_, (pss_cons (ps_expr (pe_mtR M_check_places (hr.mono (by omega)) passX (pv 0) (pa_cons (pv 1) pa_nil)))
      (pss_cons (ps_set (i := 2) sc_low__of__Board.nd rfl (by first | exact .inl rfl | exact .inr rfl) (pe_fldK (K := K) rfl (pv 0) rfl))
      (pss_cons (ps_for (passes_of rfl) rfl (pi_tup (pv 1)) (pg_name (i := 3) sc_low__of__Board.nd rfl (by first | exact .inl rfl | exact .inr rfl))
        (pss_one (ps_set (i := 2) sc_low__of__Board.nd rfl (by first | exact .inl rfl | exact .inr rfl) (pe_ix ix_list (pe_ix ix_list (pe_fldK (K := K) rfl (pv 0) rfl) (pv 2) (fun _ _ => rfl)) (pv 3) (fun _ _ => rfl)))))
      (pss_one (ps_ret (pv 2)))))), ?_⟩
    obtain ⟨dx, ob⟩ := hB.ob
    have dps : ∀ l : List Int, DpAll K H (l.map V.int) (intsD l) := fun l => by
      induction l with
      | nil => exact .nil
      | cons i l ih => exact .cons (.int i) ih
    refine ⟨_, rfl, c, dx, _, rfl, ob, rfl, _, rfl, c, .ref T1, .tuple (intsD is), is, L, n, b, lo, hi, rfl, hB, B.n60, .tup hT (dps is), rfl, rfl, big, fun eb H1 s1 => ?_, bad⟩
    obtain ⟨xs, rfl, lt⟩ := bad_nats eb
    refine ⟨_, rfl, c, C, dx, _, _, rfl, s1 _ _ ob, T.cl, T.n7, rfl, _, rfl, T1, rfl, ⟨_, same_seqT s1 hT⟩, for_tup (xs := (xs.map fun x => ((x : Nat) : Int)).map V.int) (fun j σ H2 => ∃ y3 : Option V, σ = [some (.ref c), some (.ref T1), some (.int (((xs.take j).foldl lo L.tp : Nat) : Int)), y3] ∧ Same H H2 ∧ (xs.take j).foldl lo L.tp < n) ?_ ?_ ?_ ?_⟩
    · exact ⟨_, rfl, s1, by rw [e2]; exact B.tp.1⟩
    · rintro j σ H2 _ ⟨y3, rfl, s2, _⟩
      exact same_seqT s2 hT
    · rintro j v σ H2 hv ⟨y3, rfl, s2, lf⟩
      rw [List.getElem?_map, List.getElem?_map] at hv
      obtain ⟨x, hx, rfl⟩ : ∃ x, xs[j]? = some x ∧ V.int ((x : Nat) : Int) = v := by
        cases e : xs[j]? with
        | none => rw [e] at hv; cases hv
        | some x => rw [e] at hv; exact ⟨x, rfl, Option.some.inj hv⟩
      have lx := lt x (List.mem_of_getElem? hx)
      obtain ⟨rs, bb, h1, _, h3, h4⟩ := tab_ix' (dp_same s2 _ _ hB.lo) lf
      obtain ⟨ys, h5, h6⟩ := row_ixO h4 lx
      have st : (xs.take (j + 1)).foldl lo L.tp = lo ((xs.take j).foldl lo L.tp) x := by
        rw [List.take_add_one, hx, List.foldl_append]; rfl
      refine ⟨_, rfl, c, C, dx, _, _, rfl, s2 _ _ ob, T.cl, T.n4, rfl, _, rfl, L.lo, _, _, _, rfl, rfl, h1, h3, _, rfl, bb, _, _, _, rfl, rfl, h5, h6, ?_⟩
      exact ⟨_, by rw [st]; rfl, s2, by rw [st]; exact (B.lo _ _ lf lx).1⟩
    · rintro σ H2 ⟨y3, rfl, s2, _⟩
      rw [List.length_map, List.length_map, List.take_length]
      refine ⟨_, rfl, ?_⟩
      have z := good xs rfl lt H2 s2
      rw [e2]
      exact z
theorem ok_up {f : Addr} {k : Nat} {oc : Value} {od an : Option Addr} {osl : Array (Option Value)} {kV doc pm cdv ct : Value} (lk : K.lookup f = some ⟨oc, od, .func (PySem.W.fnOf "up" "Board.up" (defArgs s_up__of__Board) (defBody s_up__of__Board) (defScope s_up__of__Board) .none kV doc pm an cdv ct), osl⟩) (hcd : PySem.W.codeIn K cdv "Board.up" = true) (T : TxB K C) (hk : 2 ≤ k)
    (M_check_places : MetR P w K mg base 2 C "check_places" (spChk K C CP)) :
    FnR P w K mg base (L2.CX P w) (k + 1) f (spFold K C CP true) := by
  have z := StX.fn_star (ps := ["self"]) (pv := "places") (N := N_up__of__Board) (k := k) (P := P) (w := w) (mg := mg) (base := base) (CX := L2.CX P w) (sp := spFoldT K C CP true) lk hcd sc_up__of__Board StX.cxUp
    (fun us rest hl => match us, rest, hl with | [_], [], _ => rfl | [_], _ :: _, _ => rfl) (fun A outer s H vs Q E hr h => ?_)
  · refine z.imp fun vs H Q E h => ?_
    obtain ⟨c, is, L, n, b, lo, hi, bt, tp, rfl, hB, B, e1, e2, l100, big, good, bad⟩ := h
    refine ⟨[.ref c], is.map V.int, rfl, rfl, by rw [List.length_map, sizeLine_eq]; omega, fun p np => ?_⟩
    have sp := same_upd (o := .tup (is.map V.int)) np
    exact ⟨c, p, is, L, n, b, lo, hi, bt, tp, rfl, SqT.of upd_same, hB.same sp, B, e1, e2, l100, big, fun xs e lt H' s' => good xs e lt H' (sp.trans s'), fun e he => (bad e he).mono sp⟩
  · obtain ⟨c, T1, is, L, n, b, lo, hi, bt, tp, rfl, hT, hB, B, e1, e2, l100, big, good, bad⟩ := h
    refine ⟨_, (pss_cons (ps_expr (pe_mtR M_check_places (hr.mono (by omega)) passX (pv 0) (pa_cons (pv 1) pa_nil)))
      (pss_cons (ps_set (i := 2) sc_up__of__Board.nd rfl (by first | exact .inl rfl | exact .inr rfl) (pe_fldK (K := K) rfl (pv 0) rfl))
      (pss_cons (ps_for (passes_of rfl) rfl (pi_tup (pv 1)) (pg_name (i := 3) sc_up__of__Board.nd rfl (by first | exact .inl rfl | exact .inr rfl))
        (pss_one (ps_set (i := 2) sc_up__of__Board.nd rfl (by first | exact .inl rfl | exact .inr rfl) (pe_ix ix_list (pe_ix ix_list (pe_fldK (K := K) rfl (pv 0) rfl) (pv 2) (fun _ _ => rfl)) (pv 3) (fun _ _ => rfl)))))
      (pss_one (ps_ret (pv 2)))))), ?_⟩
    obtain ⟨dx, ob⟩ := hB.ob
    have dps : ∀ l : List Int, DpAll K H (l.map V.int) (intsD l) := fun l => by
      induction l with
      | nil => exact .nil
      | cons i l ih => exact .cons (.int i) ih
    refine ⟨_, rfl, c, dx, _, rfl, ob, rfl, _, rfl, c, .ref T1, .tuple (intsD is), is, L, n, b, lo, hi, rfl, hB, B.n60, .tup hT (dps is), rfl, rfl, big, fun eb H1 s1 => ?_, bad⟩
    obtain ⟨xs, rfl, lt⟩ := bad_nats eb
    refine ⟨_, rfl, c, C, dx, _, _, rfl, s1 _ _ ob, T.cl, T.n6, rfl, _, rfl, T1, rfl, ⟨_, same_seqT s1 hT⟩, for_tup (xs := (xs.map fun x => ((x : Nat) : Int)).map V.int) (fun j σ H2 => ∃ y3 : Option V, σ = [some (.ref c), some (.ref T1), some (.int (((xs.take j).foldl hi L.bt : Nat) : Int)), y3] ∧ Same H H2 ∧ (xs.take j).foldl hi L.bt < n) ?_ ?_ ?_ ?_⟩
    · exact ⟨_, rfl, s1, by rw [e1]; exact B.bt.1⟩
    · rintro j σ H2 _ ⟨y3, rfl, s2, _⟩
      exact same_seqT s2 hT
    · rintro j v σ H2 hv ⟨y3, rfl, s2, lf⟩
      rw [List.getElem?_map, List.getElem?_map] at hv
      obtain ⟨x, hx, rfl⟩ : ∃ x, xs[j]? = some x ∧ V.int ((x : Nat) : Int) = v := by
        cases e : xs[j]? with
        | none => rw [e] at hv; cases hv
        | some x => rw [e] at hv; exact ⟨x, rfl, Option.some.inj hv⟩
      have lx := lt x (List.mem_of_getElem? hx)
      obtain ⟨rs, bb, h1, _, h3, h4⟩ := tab_ix' (dp_same s2 _ _ hB.hi) lf
      obtain ⟨ys, h5, h6⟩ := row_ixO h4 lx
      have st : (xs.take (j + 1)).foldl hi L.bt = hi ((xs.take j).foldl hi L.bt) x := by
        rw [List.take_add_one, hx, List.foldl_append]; rfl
      refine ⟨_, rfl, c, C, dx, _, _, rfl, s2 _ _ ob, T.cl, T.n5, rfl, _, rfl, L.hi, _, _, _, rfl, rfl, h1, h3, _, rfl, bb, _, _, _, rfl, rfl, h5, h6, ?_⟩
      exact ⟨_, by rw [st]; rfl, s2, by rw [st]; exact (B.hi _ _ lf lx).1⟩
    · rintro σ H2 ⟨y3, rfl, s2, _⟩
      rw [List.length_map, List.length_map, List.take_length]
      refine ⟨_, rfl, ?_⟩
      have z := good xs rfl lt H2 s2
      rw [e1]
      exact z
theorem rows_at {n : Nat} {b : Nat → Nat → Bool} {x : Nat} (h : x < n) : ((rowsF n b).map V.str)[x]? = some (.str (rowF n (b x))) := by
  unfold rowsF
  rw [List.getElem?_map, List.getElem?_map, List.getElem?_range h]; rfl
theorem one_chB (b : Bool) : decide (V.str (⟨#[chB b]⟩ : Str) = V.str "1") = b := by cases b <;> decide
theorem ok_below {f : Addr} {fd : FuncData} {k : Nat} (F : Fun K "is_below" "Board.is_below" s_is_below__of__Board f fd) (T : TxB K C) (hk : 2 ≤ k)
    (M_check_places : MetR P w K mg base 2 C "check_places" (spChk K C CP)) :
    FnOk P w K mg base (L2.CX P w) (k + 1) f fd ["self", "one", "other"] (spBel K C CP) := by
  refine F.okX sc_is_below__of__Board (fun vs H Q E h => ?_) (fun cdv A outer s H vs Q E hr h => ?_)
  · obtain ⟨c, i, j, L, n, b, lo, hi, rfl, _⟩ := h
    rfl
  · obtain ⟨c, i, j, L, n, b, lo, hi, rfl, hB, n60, bi, bj, good, bad⟩ := h
    refine ⟨_, (pss_cons (ps_expr (pe_mtR M_check_places (hr.mono (by omega)) passX (pv 0) (pa_cons (pe_lst (pa_cons (pv 1) (pa_cons (pv 2) pa_nil))) pa_nil)))
      (pss_one (ps_ret (pe_cmpR op_eq (pe_ix ix_str (pe_ix ix_list (pe_fldK (K := K) rfl (pv 0) rfl) (pv 1) (fun _ _ => rfl)) (pv 2) (fun _ _ => rfl)) pe_str (nomark _))))), ?_⟩
    obtain ⟨dx, ob⟩ := hB.ob
    refine ⟨_, rfl, c, dx, _, rfl, ob, rfl, _, rfl, _, rfl, (by show 2 ≤ sizeLine; decide), fun t nt => ?_⟩
    have st := same_upd (o := .lst [.int i, .int j]) nt
    refine ⟨c, .ref t, .list (intsD [i, j]), [i, j], L, n, b, lo, hi, rfl, hB.same st, n60, .lst (SqL.of upd_same) (.cons (.int i) (.cons (.int j) .nil)), rfl, rfl, fun e he => ?_, fun eb H1 s1 => ?_, fun e he => (bad e he).mono st⟩
    · simp only [List.mem_cons, List.not_mem_nil, or_false] at he
      rcases he with rfl | rfl
      · exact bi
      · exact bj
    · obtain ⟨xs, exs, lt⟩ := bad_nats eb
      have s01 := st.trans s1
      match xs, exs, lt with
      | [x, y], exs, lt =>
        have e1 : i = ((x : Nat) : Int) := by simp only [List.map_cons, List.map_nil, List.cons.injEq, and_true] at exs; exact exs.1
        have e2 : j = ((y : Nat) : Int) := by simp only [List.map_cons, List.map_nil, List.cons.injEq, and_true] at exs; exact exs.2
        subst e1 e2
        have lx := lt x (by simp)
        have ly := lt y (by simp)
        refine ⟨_, rfl, c, C, dx, _, _, rfl, s01 _ _ ob, T.cl, T.n1, rfl, _, rfl, L.ln, _, _, _, rfl, rfl, SqL.of (s01 _ _ hB.ln), atI_nat (rows_at lx), _, rfl, _, _, chB (b x y), rfl, rfl, rowF_size _ n60, ?_, rfl, ?_⟩
        · rw [rowF_cps]
          exact atI_nat (by rw [List.getElem?_map, List.getElem?_range ly]; rfl)
        · rw [one_chB]
          exact good x y rfl rfl lx ly H1 s01
      | [], exs, _ => cases exs
      | [_], exs, _ => cases exs
      | _ :: _ :: _ :: _, exs, _ => cases exs
def spBot (K : PySem.W.Frag) (C : Addr) (up : Bool) : Sp := fun vs H Q _ => ∃ (c : Addr) (L : BL) (dx : Addr), vs = [.ref c] ∧ H c = some (.ins C dx (flB L)) ∧ Q (.int ((if up then L.bt else L.tp : Nat) : Int)) H
theorem ok_bottom {f : Addr} {fd : FuncData} {k : Nat} (F : Fun K "bottom" "Board.bottom" s_bottom__of__Board f fd) (T : TxB K C) :
    FnOk P w K mg base CX0 (k + 1) f fd ["self"] (spBot K C true) := by
  refine F.ok sc_bottom__of__Board (fun vs H Q E h => ?_) (fun cdv A outer s H vs Q E hr h => ?_)
  · obtain ⟨c, L, dx, rfl, _⟩ := h
    rfl
  · obtain ⟨c, L, dx, rfl, ob, q⟩ := h
    refine ⟨_, (pss_one (ps_ret (pe_fldK (K := K) rfl (pv 0) rfl))), ?_⟩
    exact ⟨_, rfl, c, C, dx, _, _, rfl, ob, T.cl, T.n6, rfl, q⟩
theorem ok_top {f : Addr} {fd : FuncData} {k : Nat} (F : Fun K "top" "Board.top" s_top__of__Board f fd) (T : TxB K C) :
    FnOk P w K mg base CX0 (k + 1) f fd ["self"] (spBot K C false) := by
  refine F.ok sc_top__of__Board (fun vs H Q E h => ?_) (fun cdv A outer s H vs Q E hr h => ?_)
  · obtain ⟨c, L, dx, rfl, _⟩ := h
    rfl
  · obtain ⟨c, L, dx, rfl, ob, q⟩ := h
    refine ⟨_, (pss_one (ps_ret (pe_fldK (K := K) rfl (pv 0) rfl))), ?_⟩
    exact ⟨_, rfl, c, C, dx, _, _, rfl, ob, T.cl, T.n7, rfl, q⟩
/-- the law's boards are boards -/
theorem fam_brd {ms : List Nat} (Fm : Fam ms) : ∃ bt tp, Brd ms.length (leI ms) (lowI ms) (upI ms) bt tp := by
  have n1 : 1 ≤ ms.length := by
    obtain ⟨t, ht, _⟩ := Fm.top
    exact List.length_pos_of_mem ht
  have fold : ∀ (g : Nat → Nat → Nat) (r : Nat → Nat → Bool), (∀ x y, x < ms.length → y < ms.length → g x y < ms.length ∧ r (g x y) x = true ∧ r (g x y) y = true) → (∀ x y z, r x y = true → r y z = true → r x z = true) → (∀ x, r x x = true) → ∀ l : List Nat, (∀ z ∈ l, z < ms.length) → ∀ x, x < ms.length → ∃ y, y < ms.length ∧ r y x = true ∧ ∀ z ∈ l, r y z = true := fun g r hg tr rf l => by
    induction l with
    | nil => exact fun _ x hx => ⟨x, hx, rf x, fun z hz => (nomatch hz)⟩
    | cons a l ih =>
      intro hl x hx
      have ha := hl a List.mem_cons_self
      obtain ⟨h1, h2, h3⟩ := hg x a hx ha
      obtain ⟨y, y1, y2, y3⟩ := ih (fun z hz => hl z (List.mem_cons_of_mem _ hz)) _ h1
      refine ⟨y, y1, tr _ _ _ y2 h2, fun z hz => ?_⟩
      rcases List.mem_cons.mp hz with e | e
      · rw [e]; exact tr _ _ _ y2 h3
      · exact y3 z e
  have lo := fun x y hx hy => low_spec Fm (x := x) (y := y) hx hy
  have up := fun x y hx hy => up_spec Fm (x := x) (y := y) hx hy
  obtain ⟨bt, b1, _, b3⟩ := fold (lowI ms) (leI ms) (fun x y hx hy => ⟨(lo x y hx hy).1, ((lo x y hx hy).2 _ (lo x y hx hy).1).mp (leI_refl _)⟩) (fun x y z => leI_trans) leI_refl (List.range ms.length) (fun z hz => List.mem_range.mp hz) 0 n1
  obtain ⟨tp, t1, _, t3⟩ := fold (upI ms) (fun x y => leI ms y x) (fun x y hx hy => ⟨(up x y hx hy).1, ((up x y hx hy).2 _ (up x y hx hy).1).mp (leI_refl _)⟩) (fun x y z h g => leI_trans g h) (fun x => leI_refl x) (List.range ms.length) (fun z hz => List.mem_range.mp hz) 0 n1
  refine ⟨bt, tp, n1, Nat.le_trans Fm.ln (by decide), fun x _ => leI_refl x, fun x y hx hy => leI_anti Fm hx hy, fun x y z _ _ _ => leI_trans, fun x y hx hy => ⟨(lo x y hx hy).1, fun z hz => ?_⟩, fun x y hx hy => ⟨(up x y hx hy).1, fun z hz => ?_⟩, ⟨b1, fun z hz => b3 z (List.mem_range.mpr hz)⟩, ⟨t1, fun z hz => t3 z (List.mem_range.mpr hz)⟩⟩
  · rw [Bool.eq_iff_iff, Bool.and_eq_true]; exact (lo x y hx hy).2 z hz
  · rw [Bool.eq_iff_iff, Bool.and_eq_true]; exact (up x y hx hy).2 z hz
end
end FvO


namespace Fv
open PySem PySem.Spec PyProof.Rows L2 TL
/-! ### text * int -/
def mulS (x : Str) (n : Nat) : Str := ⟨(List.replicate n x.cps).foldl (· ++ ·) #[]⟩
def rMulS : R2 := fun x y H Q => ∃ (z : Str) (n : Nat), x = .str z ∧ y = .int (n : Nat) ∧ 2 ≤ n ∧ n ≤ 1000 ∧ 1 ≤ z.length ∧ z.length ≤ 10 ∧ Q (.str (mulS z n)) H
theorem op_mulS {X : Cx} : OpR X (binaryOp .Mult) rMulS := by
  intro pins s σ H x y v u Q I rx ry h
  obtain ⟨z, n, rfl, rfl, n2, n3, z1, z2, q⟩ := h
  obtain ⟨t, rfl⟩ := rx
  obtain ⟨t', rfl⟩ := ry
  have ok := mulOk_of (x := z) (n := (n : Nat)) 10 1000 z2 (by omega) (by omega) (by decide) (by decide)
  have c : ((((n : Nat) : Int) == 1) || z.length == 0) = false := by
    rw [Bool.or_eq_false_iff]
    exact ⟨beq_eq_false_iff_ne.mpr (by omega), beq_eq_false_iff_ne.mpr (by omega)⟩
  refine P.mul_str ok.1 ok.2.1 ok.2.2 ?_
  rw [if_neg (by omega), if_neg (by rw [c]; decide)]
  refine ⟨?_, ?_⟩
  · show ((List.replicate n z.cps).foldl (· ++ ·) #[]).size ≤ _
    rw [len_reps]
    have : n * z.cps.size ≤ 1000 * 10 := Nat.mul_le_mul n3 z2
    refine Nat.le_trans (?_ : _ ≤ 10000) (by decide)
    simp
    omega
  · exact ⟨.str (mulS z n), H, I.tok _, ⟨_, rfl⟩, q⟩
def rMulN : R2 := fun x y H Q => ∃ (z : Str) (n : Nat), x = .str z ∧ y = .int (n : Nat) ∧ 1 ≤ n ∧ n ≤ 1000 ∧ 1 ≤ z.length ∧ z.length ≤ 10 ∧ Q (.str (mulS z n)) H
theorem op_mulN {X : Cx} : OpR X (binaryOp .Mult) rMulN := by
  intro pins s σ H x y v u Q I rx ry h
  obtain ⟨z, n, rfl, rfl, n2, n3, z1, z2, q⟩ := h
  by_cases h2 : 2 ≤ n
  · exact op_mulS pins s σ H _ _ v u Q I rx ry ⟨z, n, rfl, rfl, h2, n3, z1, z2, q⟩
  have e1 : n = 1 := by omega
  subst e1
  obtain ⟨t, rfl⟩ := rx
  obtain ⟨t', rfl⟩ := ry
  have ok := mulOk_of (x := z) (n := ((1 : Nat) : Int)) 10 1000 z2 (by omega) (by omega) (by decide) (by decide)
  refine P.mul_str ok.1 ok.2.1 ok.2.2 ?_
  rw [if_neg (by decide), if_pos (by rfl)]
  have e : mulS z 1 = z := by
    unfold mulS
    obtain ⟨a⟩ := z
    simp
  rw [e] at q
  exact ⟨.str z, H, I, ⟨t, rfl⟩, q⟩
end Fv


namespace FvO
open PySem PySem.Spec PyProof.Rows L2 Fv FvW FvX TL
open FvK (pe_fldK)
open ClX (CRead CVal pe_cval)
-- top 36  slots: 0:self
abbrev s_rows__of__Board : Stmt := inClass (topS 36) 5
abbrev N_rows__of__Board : List Str := ["self"]
theorem sc_rows__of__Board : FnScope N_rows__of__Board ["self"] (defScope s_rows__of__Board) := ⟨rfl, rfl, rfl, by decide +kernel, rfl, by decide +kernel, by decide +kernel⟩

-- top 36  slots: 0:self
abbrev s_turned__of__Board : Stmt := inClass (topS 36) 18
abbrev N_turned__of__Board : List Str := ["self"]
theorem sc_turned__of__Board : FnScope N_turned__of__Board ["self"] (defScope s_turned__of__Board) := ⟨rfl, rfl, rfl, by decide +kernel, rfl, by decide +kernel, by decide +kernel⟩

-- top 36  slots: 0:cls 1:size 2:at
abbrev s_chain__of__Board : Stmt := inClass (topS 36) 2
abbrev N_chain__of__Board : List Str := ["cls", "size", "at"]
theorem sc_chain__of__Board : FnScope N_chain__of__Board ["cls", "size"] (defScope s_chain__of__Board) := ⟨rfl, rfl, rfl, by decide +kernel, rfl, by decide +kernel, by decide +kernel⟩


-- top 36  slots: 0:size 1:middle 2:at
abbrev s_fan__of__Board : Stmt := inClass (topS 36) 4
abbrev N_fan__of__Board : List Str := ["size", "middle", "at"]
theorem sc_fan__of__Board : FnScope N_fan__of__Board ["size"] (defScope s_fan__of__Board) := ⟨rfl, rfl, rfl, by decide +kernel, rfl, by decide +kernel, by decide +kernel⟩

theorem none_backO {H H1 : Hp} {p : Addr} (s : Same H H1) (h : H1 p = none) : H p = none := by
  cases e : H p with
  | none => rfl
  | some o => rw [s p o e] at h; cases h
/-! ### a class in a local name, called -/
structure MakR (P : Program) (w : World) (K : PySem.W.Frag) (mg : Str → Option Value) (base : Heap) (k : Nat) (C : Addr) (sp : Sp) : Prop where
  ex : ∃ f : Addr, Mk K C f ∧ FnR P w K mg base (L2.CX P w) k f sp
def tMakeV (i : Nat) (C : Addr) (sp : Sp) (E : XK) (t : TA) : TE := fun σ H Q => σ[i]? = some (some (.ref C)) ∧ StX.tMakeR C sp E t σ H Q
theorem pe_makeV {X : Cx} {i k : Nat} {C : Addr} {x : Str} {sp : Sp} {E : XK} {e : Expr} {es : List Expr} {t : TA} {p pos : Pos} (M : MakR X.prog X.w X.K X.mg X.base k C sp) (hr : Room (k + 1) X.A) (hN : X.N[i]? = some x) (hv : Vis X.env.scope x) (hx : Passes (L2.CX X.prog X.w) X E) (ha : PA X (e :: es) t)
    (hd : (x == ("__debug__" : Str)) = false := by decide) (hcd : (x == ("__classdict__" : Str)) = false := by decide)
    (he : starEach (e :: es) X.env = (false, eval e X.env) :: starEach es X.env := by rfl) (hpl : (backTo pos (starEach es X.env)).any (·.1) = false := by rfl) :
    PE X (.Call (.Name x p) (e :: es) [] pos) (tMakeV i C sp E t) := by
  obtain ⟨f, M, F⟩ := M.ex
  refine ⟨fun pins s σ H Q I h => ?_⟩
  obtain ⟨hs, h⟩ := h
  refine wpAny_Call_Name_kw (thn ((pe_var (pos := p) hN hv hd hcd).run pins s σ H (fun v H1 => v = .ref C ∧ H1 = H) I ⟨.ref C, hs, rfl, rfl⟩) fun u s1 ⟨v, H1, I1, r1, q1⟩ => ?_)
  obtain ⟨rfl, rfl⟩ := q1
  cases r1
  refine PySem.W.callWith_K (h₀ := X.base) I.ok.mod.kin M.kp (thn (ha.run pos pins s1 σ _ _ I1 h) fun us s2 ⟨vs, H2, I2, r, q⟩ => ⟨I2.kIn, ?_⟩) he hpl
  exact StX.run_makeR M F hr hx I2 r q
def rMulG : R2 := fun x y H Q => ∃ (z : Str) (n : Nat), x = .str z ∧ y = .int (n : Nat) ∧ n ≤ 1000 ∧ 1 ≤ z.length ∧ z.length ≤ 10 ∧ Q (.str (mulS z n)) H
def rCatS : R2 := fun x y H Q => ∃ i j, x = .str i ∧ y = .str j ∧ i.length + j.length ≤ sizeLine ∧ Q (.str (i ++ j)) H
theorem op_catS {X : Cx} : OpR X (binaryOp .Add) rCatS := op_add_str
theorem op_mulG {X : Cx} : OpR X (binaryOp .Mult) rMulG := by
  intro pins s σ H x y v u Q I rx ry h
  obtain ⟨z, n, rfl, rfl, n3, z1, z2, q⟩ := h
  by_cases h2 : 1 ≤ n
  · exact op_mulN pins s σ H _ _ v u Q I rx ry ⟨z, n, rfl, rfl, h2, n3, z1, z2, q⟩
  have e1 : n = 0 := by omega
  subst e1
  obtain ⟨t, rfl⟩ := rx
  obtain ⟨t', rfl⟩ := ry
  have ok := mulOk_of (x := z) (n := ((0 : Nat) : Int)) 10 1000 z2 (by omega) (by omega) (by decide) (by decide)
  refine P.mul_str ok.1 ok.2.1 ok.2.2 ?_
  rw [if_pos (by omega)]
  exact ⟨by decide, .str (mulS z 0), H, I.tok _, ⟨_, rfl⟩, q⟩
/-! ### the board turned over -/
theorem Brd.dual {n : Nat} {b : Nat → Nat → Bool} {lo hi : Nat → Nat → Nat} {bt tp : Nat} (B : Brd n b lo hi bt tp) : Brd n (fun x y => b y x) hi lo tp bt :=
  ⟨B.n1, B.n60, B.rf, fun x y hx hy h1 h2 => B.an x y hx hy h2 h1, fun x y z hx hy hz h1 h2 => B.tr z y x hz hy hx h2 h1,
   fun x y hx hy => ⟨(B.hi x y hx hy).1, fun z hz => (B.hi x y hx hy).2 z hz⟩, fun x y hx hy => ⟨(B.lo x y hx hy).1, fun z hz => (B.lo x y hx hy).2 z hz⟩, B.tp, B.bt⟩
theorem chain_brd {n : Nat} (h1 : 1 ≤ n) (h2 : n ≤ 60) : Brd n (fun x y => decide (x ≤ y)) min max 0 (n - 1) where
  n1 := h1
  n60 := h2
  rf := fun x _ => by simp
  an := fun x y _ _ a b => by simp at a b; omega
  tr := fun x y z _ _ _ a b => by simp at a b ⊢; omega
  lo := fun x y hx hy => ⟨by omega, fun z _ => by rw [Bool.eq_iff_iff]; simp; omega⟩
  hi := fun x y hx hy => ⟨by omega, fun z _ => by rw [Bool.eq_iff_iff]; simp; omega⟩
  bt := ⟨by omega, fun z _ => by simp⟩
  tp := ⟨by omega, fun z hz => by simp; omega⟩
def newB (K : PySem.W.Frag) (C : Addr) (M : List Addr) (n : Nat) (b : Nat → Nat → Bool) (lo hi : Nat → Nat → Nat) (bt tp : Nat) (H : Hp) (Q : VK) : Prop :=
  ∀ (H' : Hp) (x : Addr) (L : BL), Same H H' → H x = none → BAt K C (hide M H') x L n b lo hi → L.bt = bt → L.tp = tp → Q (.ref x) H'
def spRowsB (K : PySem.W.Frag) (C : Addr) : Sp := fun vs H Q _ => ∃ (c : Addr) (L : BL) (n : Nat) (b : Nat → Nat → Bool) (lo hi : Nat → Nat → Nat), vs = [.ref c] ∧ BAt K C H c L n b lo hi ∧ ∀ (H' : Hp) (p : Addr), Same H H' → H p = none → H' p = some (.lst ((rowsF n b).map V.str)) → Q (.ref p) H'
def spTurn (K : PySem.W.Frag) (C : Addr) : Sp := fun vs H Q _ => ∃ (M : List Addr) (c : Addr) (L : BL) (n : Nat) (b : Nat → Nat → Bool) (lo hi : Nat → Nat → Nat) (bt tp : Nat), vs = [.ref c] ∧ Trk M H ∧ BAt K C H c L n b lo hi ∧ Brd n b lo hi bt tp ∧ newB K C M n (fun x y => b y x) hi lo tp bt H Q
/-- a board of a family by its size: made, or refused -/
def spMade (K : PySem.W.Frag) (C CB : Addr) (ok : Int → Option Nat) (nn : Nat → Nat) (b : Nat → Nat → Nat → Bool) (lo hi : Nat → Nat → Nat → Nat) (bt tp : Nat → Nat) : Sp := fun vs H Q E => ∃ (M : List Addr) (i : Int), vs = [.ref C, .int i] ∧ Trk M H ∧
  (∀ n, ok i = some n → newB K C M (nn n) (b n) (lo n) (hi n) (bt n) (tp n) H Q) ∧ (ok i = none → errAt CB "InvalidBoard" H E)
def okI (a z : Int) (i : Int) : Option Nat := if a ≤ i ∧ i ≤ z then some i.toNat else none
def spChain (K : PySem.W.Frag) (C CB : Addr) : Sp := spMade K C CB (okI 1 60) (fun n => n) (fun _ x y => decide (x ≤ y)) (fun _ => min) (fun _ => max) (fun _ => 0) (fun n => n - 1)
def spCube (K : PySem.W.Frag) (C CB : Addr) : Sp := spMade K C CB (okI 0 5) (fun k => 2 ^ k) (fun _ x y => decide (x &&& y = x)) (fun _ => (· &&& ·)) (fun _ => (· ||| ·)) (fun _ => 0) (fun k => 2 ^ k - 1)
def fanB (n x y : Nat) : Bool := decide (x = y) || decide (x = 0) || decide (y = n - 1)
def fanL (n x y : Nat) : Nat := if x = y then x else if x = n - 1 then y else if y = n - 1 then x else 0
def fanH (n x y : Nat) : Nat := if x = y then x else if x = 0 then y else if y = 0 then x else n - 1
def spFan (K : PySem.W.Frag) (C CB : Addr) : Sp := fun vs H Q E => ∃ (M : List Addr) (i : Int), vs = [.int i] ∧ Trk M H ∧
  (∀ n, okI 1 58 i = some n → newB K C M (n + 2) (fanB (n + 2)) (fanL (n + 2)) (fanH (n + 2)) 0 (n + 1) H Q) ∧ (okI 1 58 i = none → errAt CB "InvalidBoard" H E)
theorem fan_brd {n : Nat} (h1 : 3 ≤ n) (h2 : n ≤ 60) : Brd n (fanB n) (fanL n) (fanH n) 0 (n - 1) where
  n1 := by omega
  n60 := h2
  rf := fun x _ => by unfold fanB; simp
  an := fun x y _ _ a b => by unfold fanB at a b; simp at a b; omega
  tr := fun x y z _ _ _ a b => by unfold fanB at a b ⊢; simp at a b ⊢; omega
  lo := fun x y hx hy => ⟨by unfold fanL; (repeat' split) <;> omega, fun z hz => by
    rw [Bool.eq_iff_iff, Bool.and_eq_true]
    unfold fanB fanL
    simp only [Bool.or_eq_true, decide_eq_true_eq]
    (repeat' split) <;> omega⟩
  hi := fun x y hx hy => ⟨by unfold fanH; (repeat' split) <;> omega, fun z hz => by
    rw [Bool.eq_iff_iff, Bool.and_eq_true]
    unfold fanB fanH
    simp only [Bool.or_eq_true, decide_eq_true_eq]
    (repeat' split) <;> omega⟩
  bt := ⟨by omega, fun z _ => by unfold fanB; simp⟩
  tp := ⟨by omega, fun z _ => by unfold fanB; simp⟩
section
variable {P : Program} {w : World} {K : PySem.W.Frag} {mg : Str → Option Value} {base : Heap} {C : Addr}
theorem ok_rowsB {f : Addr} {fd : FuncData} {k : Nat} (F : Fun K "rows" "Board.rows" s_rows__of__Board f fd) (T : TxB K C) (m_list : mg "list" = none) :
    FnOk P w K mg base CX0 (k + 1) f fd ["self"] (spRowsB K C) := by
  refine F.ok sc_rows__of__Board (fun vs H Q E h => ?_) (fun cdv A outer s H vs Q E hr h => ?_)
  · obtain ⟨c, L, n, b, lo, hi, rfl, _⟩ := h
    rfl
  · obtain ⟨c, L, n, b, lo, hi, rfl, hB, good⟩ := h
    refine ⟨_, (pss_one (ps_ret (pe_callTy call_list_of (by rfl) m_list (by decide +kernel) (pa_cons (pe_fldK (K := K) rfl (pv 0) rfl) pa_nil)))), ?_⟩
    obtain ⟨dx, ob⟩ := hB.ob
    refine ⟨_, rfl, c, C, dx, _, _, rfl, ob, T.cl, T.n1, rfl, L.ln, _, rfl, .inl (SqL.of hB.ln), fun p np => ?_⟩
    exact good _ p (same_upd np) np upd_same
theorem ok_turned {f : Addr} {fd : FuncData} {k : Nat} (F : Fun K "turned" "Board.turned" s_turned__of__Board f fd) (T : TxB K C) (hk : 5 ≤ k)
    (C_columns_of : Own P w K mg base 2 "columns_of" ["rows"] (spCol K)) (Mk_Board : C8.Mak P w K mg base 4 "Board" C (spBIn K C) []) :
    FnOk P w K mg base CX0 (k + 1) f fd ["self"] (spTurn K C) := by
  refine F.ok sc_turned__of__Board (fun vs H Q E h => ?_) (fun cdv A outer s H vs Q E hr h => ?_)
  · obtain ⟨M, c, L, n, b, lo, hi, bt, tp, rfl, _⟩ := h
    rfl
  · obtain ⟨M, c, L, n, b, lo, hi, bt, tp, rfl, tM, hB, B, good⟩ := h
    refine ⟨_, (pss_one (ps_ret (C8.pe_mk Mk_Board hr (by omega) (by rfl) (pa_cons (pe_own C_columns_of (hr.mono (by omega)) (by rfl) (pa_cons (pe_fldK (K := K) rfl (pv 0) rfl) pa_nil)) pa_nil)))), ?_⟩
    obtain ⟨dx, ob⟩ := hB.ob
    refine ⟨_, rfl, c, C, dx, _, _, rfl, ob, T.cl, T.n1, rfl, L.ln, n, b, rfl, SqL.of hB.ln, B.n60, fun H1 p s1 np hp x d2 nx nd nxd => ?_⟩
    have pM : p ∉ M := tM.ne np
    have tM1 := tM.same s1
    have xM : x ∉ M := tM1.ne nx
    have px : p ≠ x := ne_of_none hp nx
    have sA := same_upd (o := .own x) nd
    have nx' : upd H1 d2 (.own x) x = none := by rw [upd_ne (Ne.symm nxd)]; exact nx
    have sB := sA.trans (same_upd (o := .ins C d2 []) nx')
    have hpB := sB _ _ hp
    have hxB : upd (upd H1 d2 (.own x)) x (.ins C d2 []) x = some (.ins C d2 []) := upd_same
    generalize upd (upd H1 d2 (.own x)) x (.ins C d2 []) = HB at sB hpB hxB
    refine ⟨M, x, p, d2, n, _, hi, lo, tp, bt, rfl, tM1.same sB, xM, hxB, SqL.of (by rw [hide_ne (fun z => (List.mem_cons.mp z).elim px pM)]; exact hpB), B.dual, fun H2 L2 smx hB2 e1 e2 => ?_⟩
    exact ⟨rfl, good H2 x L2 (s1.trans fun b o e => smx b o (fun z => ne_of_none e nx (List.mem_singleton.mp z)) (sB b o e)) (none_backO s1 nx) hB2 e1 e2⟩
theorem rep_mk (c : Nat) (x : Str) (hx : x = ⟨#[c]⟩) (n : Nat) : mulS x n = mk (List.replicate n c) := by
  have h : ∀ (n : Nat) (acc : Array Nat), ((List.replicate n (#[c] : Array Nat)).foldl (· ++ ·) acc) = acc ++ (List.replicate n c).toArray := by
    intro n
    induction n with
    | zero => intro acc; simp
    | succ n ih =>
      intro acc
      rw [List.replicate_succ, List.foldl_cons, ih, List.replicate_succ]
      refine Array.ext' ?_
      simp
  subst hx
  show (⟨(List.replicate n (#[c] : Array Nat)).foldl (· ++ ·) #[]⟩ : Str) = ⟨_⟩
  rw [h]
  simp
theorem chain_row {n j : Nat} (h : j ≤ n) : mulS "0" j ++ mulS "1" (n - j) = rowF n fun y => decide (j ≤ y) := by
  rw [rep_mk 48 "0" rfl, rep_mk 49 "1" rfl]
  have e : List.replicate j 48 ++ List.replicate (n - j) 49 = (List.range n).map fun y => chB (decide (j ≤ y)) := by
    refine List.ext_getElem (by simp; omega) fun i h1 h2 => ?_
    rw [List.getElem_map, List.getElem_range, List.getElem_append]
    by_cases c : i < j
    · rw [dif_pos (by simpa using c), List.getElem_replicate, decide_eq_false (by omega)]; rfl
    · rw [dif_neg (by simpa using c), List.getElem_replicate, decide_eq_true (by omega)]; rfl
  unfold rowF
  rw [← e]
  show (⟨_ ++ _⟩ : Str) = ⟨_⟩
  simp [mk]
theorem mul_len (c : Nat) (x : Str) (hx : x = ⟨#[c]⟩) (n : Nat) : (mulS x n).length = n := by
  rw [rep_mk c x hx, mk_len, List.length_replicate]
theorem ok_chain {CB fI : Addr} {qual msg : Str} {q : ErrPos} {j1 j2 : Nat} {f : Addr} {fd : FuncData} {k : Nat} (F : Fun K "chain" "Board.chain" s_chain__of__Board f fd) (TM : TxM K C) (hk : 6 ≤ k) (m_range : mg "range" = none)
    (T_IB : ErrC P.main.file K CB fI qual q msg "InvalidBoard" j1 j2) (hline : LineOk q msg j1) (htop : (P.main.scope.names.lookup ("super" : Str)).isSome = false) (m_super : mg "super" = none) (g_IB : mg "InvalidBoard" = some (.ref CB))
    (M_Board : MakR P w K mg base 4 C (spBIn K C)) :
    FnOk P w K mg base (L2.CX P w) (k + 1) f fd ["cls", "size"] (spChain K C CB) := by
  refine F.okX sc_chain__of__Board (fun vs H Q E h => ?_) (fun cdv A outer s H vs Q E hr h => ?_)
  · obtain ⟨M, i, rfl, _⟩ := h
    rfl
  · obtain ⟨M, i, rfl, tM, good, bad⟩ := h
    refine ⟨_, (pss_cons (ps_if (PW.pt (pw_or (pt_cmpR op_lt (pv 1) pe_int (nomark _)) (pw_or1 (pt_cmpR op_gt (pv 1) (pe_cval (pv 0)) (nomark _)))))
        (pss_one (ps_raise rfl (takes_of rfl rfl rfl rfl) (pmk_err0 (k := 0) T_IB hline htop m_super (hr.mono (by omega)) (by rfl) g_IB)))
        pss_nil)
      (pss_one (ps_ret (pe_makeV (i := 0) M_Board (hr.mono (by omega)) rfl (.inl rfl) passE0 (pa_cons (pe_lc (own := [("at", 2)]) (g := gName 2) (by rfl) sc_chain__of__Board.nd (pi_range1 (by rfl) m_range (pa_cons (pv 1) pa_nil)) (blkOk_by (own := [("at", 2)]) (N := N_chain__of__Board) (sc := defScope s_chain__of__Board) (by decide +kernel)) (fun _ _ _ _ _ => pg_name (i := 2) sc_chain__of__Board.nd rfl (Or.inl rfl)) (fun _ _ _ _ _ => pts_nil) (fun _ _ _ _ _ => (pe_op op_catS (pe_op op_mulG pe_str (pv 2)) (pe_op op_mulG pe_str (pe_op op_sub (pv 1) (pv 2)))))) pa_nil))))), ?_⟩
    obtain ⟨mc, u, cr, cv⟩ := TM.ex
    have bad1 : ¬ (1 ≤ i ∧ i ≤ 60) → ∀ dd, H dd = none → E (.ref CB) (some dd) (upd H dd (.xd [("code", .str "InvalidBoard")])) := fun h dd nd => bad (if_neg h) _ dd (same_upd nd) upd_same
    refine ⟨_, rfl, _, _, rfl, rfl, _, rfl, ?_⟩
    by_cases c1 : i < 1
    · rw [decide_eq_true c1]
      exact iteT (iteT fun dd nd => bad1 (by omega) dd nd)
    rw [decide_eq_false c1]
    refine iteF ⟨_, rfl, _, rfl, C, mc, .int 60, u, rfl, cr, cv, _, _, rfl, rfl, _, rfl, ?_⟩
    by_cases c2 : (60 : Int) < i
    · rw [decide_eq_true c2]
      exact iteT fun dd nd => bad1 (by omega) dd nd
    rw [decide_eq_false c2]
    refine iteF ⟨rfl, ?_⟩
    obtain ⟨n, rfl⟩ : ∃ n : Nat, i = (n : Nat) := ⟨i.toNat, by omega⟩
    have n1 : 1 ≤ n := by omega
    have n60 : n ≤ 60 := by omega
    have good : newB K C M n (fun x y => decide (x ≤ y)) min max 0 (n - 1) H Q := good n (by unfold okI; rw [if_pos (by omega), Int.toNat_natCast])
    refine ⟨_, rfl, _, rfl, by omega, by omega, fun D nD => lc_range (lo := 0) (n := ((n : Nat) : Int).toNat) (fun j H' => Same H H' ∧ H' D = some (.lst (((List.range j).map fun x => V.str (rowF n fun y => decide (x ≤ y)))))) ?_ ?_ ?_⟩
    · exact ⟨same_upd nD, upd_same⟩
    · rintro j H' hj ⟨sm, hD⟩
      rw [Int.toNat_natCast] at hj
      have ej : (0 : Int) + (j : Nat) = ((j : Nat) : Int) := by omega
      rw [ej]
      have en : ((n : Nat) : Int) - ((j : Nat) : Int) = ((n - j : Nat) : Int) := by omega
      refine ⟨rfl, yes_it ⟨_, rfl, _, j, rfl, rfl, by omega, by decide, by decide, _, rfl, _, rfl, _, _, rfl, rfl, _, n - j, rfl, congrArg V.int en, by omega, by decide, by decide, _, _, rfl, rfl, ?_, ?_⟩⟩
      · rw [mul_len 48 "0" rfl, mul_len 49 "1" rfl, sizeLine_eq]; omega
      · rw [chain_row (by omega)]
        refine ⟨_, hD, small1000 (by rw [List.length_map, List.length_range]; omega), fun c o e => ?_, ?_⟩
        · rw [upd_ne (ne_of_none e nD)]; exact sm _ _ e
        · rw [upd_same, List.range_succ, List.map_append]; rfl
    · rintro H1 ⟨s1, hD⟩
      rw [Int.toNat_natCast] at hD
      refine fun x d2 nx nd nxd => ?_
      have DM : D ∉ M := tM.ne nD
      have tM1 := tM.same s1
      have xM : x ∉ M := tM1.ne nx
      have px : D ≠ x := ne_of_none hD nx
      have sA := same_upd (o := .own x) nd
      have nx' : upd H1 d2 (.own x) x = none := by rw [upd_ne (Ne.symm nxd)]; exact nx
      have sB := sA.trans (same_upd (o := .ins C d2 []) nx')
      have hpB := sB _ _ hD
      have hxB : upd (upd H1 d2 (.own x)) x (.ins C d2 []) x = some (.ins C d2 []) := upd_same
      generalize upd (upd H1 d2 (.own x)) x (.ins C d2 []) = HB at sB hpB hxB
      refine ⟨M, x, D, d2, n, _, min, max, 0, n - 1, rfl, tM1.same sB, xM, hxB, SqL.of ?_, chain_brd n1 n60, fun H2 L2 smx hB2 e1 e2 => ?_⟩
      · rw [hide_ne (fun z => (List.mem_cons.mp z).elim px DM), hpB]
        unfold rowsF
        rw [List.map_map]
        rfl
      · exact ⟨rfl, good H2 x L2 (s1.trans fun b o e => smx b o (fun z => ne_of_none e nx (List.mem_singleton.mp z)) (sB b o e)) (none_backO s1 nx) hB2 e1 e2⟩
theorem sub_iff {z w : Nat} : z &&& w = z ↔ ∀ i, z.testBit i = true → w.testBit i = true := by
  constructor
  · intro h i hi
    rw [← h, Nat.testBit_and, Bool.and_eq_true] at hi
    exact hi.2
  · intro h
    refine Nat.eq_of_testBit_eq fun i => ?_
    rw [Nat.testBit_and]
    cases c : z.testBit i with
    | false => rfl
    | true => rw [h i c]; rfl
theorem cube_brd {k : Nat} (hk : k ≤ 5) : Brd (2 ^ k) (fun x y => decide (x &&& y = x)) (· &&& ·) (· ||| ·) 0 (2 ^ k - 1) where
  n1 := Nat.one_le_two_pow
  n60 := Nat.le_trans (Nat.pow_le_pow_right (by decide) hk) (by decide)
  rf := fun x _ => decide_eq_true (Nat.and_self x)
  an := fun x y _ _ a b => by
    have a := of_decide_eq_true a
    have b := of_decide_eq_true b
    rw [Nat.and_comm] at b
    rw [← a, b]
  tr := fun x y z _ _ _ a b => decide_eq_true (sub_iff.mpr fun i h => sub_iff.mp (of_decide_eq_true b) i (sub_iff.mp (of_decide_eq_true a) i h))
  lo := fun x y hx _ => ⟨Nat.lt_of_le_of_lt Nat.and_le_left hx, fun z _ => by
    rw [Bool.eq_iff_iff, Bool.and_eq_true, decide_eq_true_iff, decide_eq_true_iff, decide_eq_true_iff, sub_iff, sub_iff, sub_iff]
    constructor
    · intro h
      refine ⟨fun i hi => ?_, fun i hi => ?_⟩
      · have := h i hi; rw [Nat.testBit_and, Bool.and_eq_true] at this; exact this.1
      · have := h i hi; rw [Nat.testBit_and, Bool.and_eq_true] at this; exact this.2
    · rintro ⟨h1, h2⟩ i hi
      rw [Nat.testBit_and, h1 i hi, h2 i hi]; rfl⟩
  hi := fun x y hx hy => ⟨Nat.or_lt_two_pow hx hy, fun z _ => by
    rw [Bool.eq_iff_iff, Bool.and_eq_true, decide_eq_true_iff, decide_eq_true_iff, decide_eq_true_iff, sub_iff, sub_iff, sub_iff]
    constructor
    · intro h
      refine ⟨fun i hi => h i ?_, fun i hi => h i ?_⟩
      · rw [Nat.testBit_or, hi]; rfl
      · rw [Nat.testBit_or, hi, Bool.or_true]
    · rintro ⟨h1, h2⟩ i hi
      rw [Nat.testBit_or, Bool.or_eq_true] at hi
      rcases hi with hi | hi
      · exact h1 i hi
      · exact h2 i hi⟩
  bt := ⟨Nat.two_pow_pos k, fun z _ => by simp⟩
  tp := ⟨Nat.sub_lt (Nat.two_pow_pos k) (by decide), fun z hz => decide_eq_true (by rw [Nat.and_two_pow_sub_one_eq_mod, Nat.mod_eq_of_lt hz])⟩
theorem mk_app (a b : List Nat) : mk a ++ mk b = mk (a ++ b) := by
  show (⟨_ ++ _⟩ : Str) = ⟨_⟩
  simp [mk]
theorem app_len (a b : Str) : (a ++ b).length = a.length + b.length := by
  show (a.cps ++ b.cps).size = a.cps.size + b.cps.size
  exact Array.size_append
theorem one_mk : ("1" : Str) = mk [49] := rfl
theorem fan_mid {n j : Nat} (h1 : 1 ≤ j) (h2 : j ≤ n) : mulS "0" j ++ "1" ++ mulS "0" (n - j) ++ "1" = rowF (n + 2) (fanB (n + 2) j) := by
  rw [rep_mk 48 "0" rfl, rep_mk 48 "0" rfl, one_mk, mk_app, mk_app, mk_app]
  unfold rowF
  congr 1
  refine List.ext_getElem (by simp; omega) fun i a b => ?_
  rw [List.getElem_map, List.getElem_range]
  simp only [List.getElem_append, List.length_append, List.length_replicate, List.length_cons, List.length_nil, List.getElem_replicate, List.getElem_singleton]
  simp only [List.length_map, List.length_range] at b
  have key : fanB (n + 2) j i = true ↔ (i = j ∨ i = n + 1) := by
    unfold fanB
    simp only [Bool.or_eq_true, decide_eq_true_eq]
    omega
  by_cases c : i = j ∨ i = n + 1
  · rw [key.mpr c]
    show _ = 49
    (repeat' split) <;> first | rfl | omega
  · rw [Bool.eq_false_iff.mpr (fun z => c (key.mp z))]
    show _ = 48
    (repeat' split) <;> first | rfl | omega
theorem fan_first (n : Nat) : mulS "1" (n + 2) = rowF (n + 2) (fanB (n + 2) 0) := by
  rw [rep_mk 49 "1" rfl]
  unfold rowF
  congr 1
  refine List.ext_getElem (by simp) fun i a b => ?_
  rw [List.getElem_map, List.getElem_range, List.getElem_replicate]
  have : fanB (n + 2) 0 i = true := by unfold fanB; simp
  rw [this]
  rfl
theorem fan_last (n : Nat) : mulS "0" (n + 1) ++ "1" = rowF (n + 2) (fanB (n + 2) (n + 1)) := by
  rw [rep_mk 48 "0" rfl, one_mk, mk_app]
  unfold rowF
  congr 1
  refine List.ext_getElem (by simp) fun i a b => ?_
  rw [List.getElem_map, List.getElem_range]
  simp only [List.getElem_append, List.length_replicate, List.getElem_replicate, List.getElem_singleton]
  simp only [List.length_map, List.length_range] at b
  have key : fanB (n + 2) (n + 1) i = true ↔ i = n + 1 := by
    unfold fanB
    simp only [Bool.or_eq_true, decide_eq_true_eq]
    omega
  by_cases c : i = n + 1
  · rw [key.mpr c]
    show _ = 49
    (repeat' split) <;> first | rfl | omega
  · rw [Bool.eq_false_iff.mpr (fun z => c (key.mp z))]
    show _ = 48
    (repeat' split) <;> first | rfl | omega
theorem ok_fan {CB fI : Addr} {qual msg : Str} {q : ErrPos} {j1 j2 : Nat} {f : Addr} {fd : FuncData} {k : Nat} (F : Fun K "fan" "Board.fan" s_fan__of__Board f fd) (TM : TxM K C) (g_Board : mg "Board" = some (.ref C)) (hk : 6 ≤ k) (m_range : mg "range" = none)
    (T_IB : ErrC P.main.file K CB fI qual q msg "InvalidBoard" j1 j2) (hline : LineOk q msg j1) (htop : (P.main.scope.names.lookup ("super" : Str)).isSome = false) (m_super : mg "super" = none) (g_IB : mg "InvalidBoard" = some (.ref CB))
    (Mk_Board : C8.Mak P w K mg base 4 "Board" C (spBIn K C) []) :
    FnOk P w K mg base (L2.CX P w) (k + 1) f fd ["size"] (spFan K C CB) := by
  refine F.okX sc_fan__of__Board (fun vs H Q E h => ?_) (fun cdv A outer s H vs Q E hr h => ?_)
  · obtain ⟨M, i, rfl, _⟩ := h
    rfl
  · obtain ⟨M, i, rfl, tM, good, bad⟩ := h
    refine ⟨_, (pss_cons (ps_if (PW.pt (pw_or (pt_cmpR op_lt (pv 0) pe_int (nomark _)) (pw_or1 (pt_cmpR op_gt (pv 0) (pe_op op_sub (pe_cval (pe_glob (v := .ref C) (by rfl) g_Board rfl)) pe_int) (nomark _)))))
        (pss_one (ps_raise rfl (takes_of rfl rfl rfl rfl) (pmk_err0 (k := 0) T_IB hline htop m_super (hr.mono (by omega)) (by rfl) g_IB)))
        pss_nil)
      (pss_cons (ps_setLc (i := 1) (own := [("at", 2)]) (g := gName 2) (by rfl) sc_fan__of__Board.nd rfl rfl (sw_true rfl rfl rfl (by decide +kernel)) (pi_range2 (by rfl) m_range (pa_cons pe_int (pa_cons (pe_op op_add (pv 0) pe_int) pa_nil))) (blkOk_by (own := [("at", 2)]) (N := N_fan__of__Board) (sc := defScope s_fan__of__Board) (by decide +kernel)) (fun _ _ _ _ _ => pg_name (i := 2) sc_fan__of__Board.nd rfl (Or.inl rfl)) (fun _ _ _ _ _ => pts_nil) (fun _ _ _ _ _ => (pe_op op_catS (pe_op op_catS (pe_op op_catS (pe_op op_mulG pe_str (pv 2)) pe_str) (pe_op op_mulG pe_str (pe_op op_sub (pv 0) (pv 2)))) pe_str)))
      (pss_one (ps_ret (C8.pe_mk Mk_Board hr (by omega) (by rfl) (pa_cons (pe_lst (pa_cons (pe_op op_mulG pe_str (pe_op op_add (pv 0) pe_int)) (StX.pa_star (pv 1) (pa_cons (pe_op op_catS (pe_op op_mulG pe_str (pe_op op_add (pv 0) pe_int)) pe_str) pa_nil)))) pa_nil)))))), ?_⟩
    obtain ⟨mc, u, cr, cv⟩ := TM.ex
    have bad1 : ¬ (1 ≤ i ∧ i ≤ 58) → ∀ dd, H dd = none → E (.ref CB) (some dd) (upd H dd (.xd [("code", .str "InvalidBoard")])) := fun h dd nd => bad (if_neg h) _ dd (same_upd nd) upd_same
    refine ⟨_, rfl, _, _, rfl, rfl, _, rfl, ?_⟩
    by_cases c1 : i < 1
    · rw [decide_eq_true c1]
      exact iteT (iteT fun dd nd => bad1 (by omega) dd nd)
    rw [decide_eq_false c1]
    refine iteF ⟨_, rfl, C, mc, .int 60, u, rfl, cr, cv, _, _, rfl, rfl, _, _, rfl, rfl, _, rfl, ?_⟩
    by_cases c2 : ((60 : Int) - 2) < i
    · rw [decide_eq_true c2]
      exact iteT fun dd nd => bad1 (by omega) dd nd
    rw [decide_eq_false c2]
    refine iteF ?_
    obtain ⟨n, rfl⟩ : ∃ n : Nat, i = (n : Nat) := ⟨i.toNat, by omega⟩
    have n1 : 1 ≤ n := by omega
    have n58 : n ≤ 58 := by omega
    have B := fan_brd (n := n + 2) (by omega) (by omega)
    have good := good n (by unfold okI; rw [if_pos (by omega), Int.toNat_natCast])
    refine ⟨_, rfl, _, _, rfl, rfl, _, _, rfl, ⟨by omega, by omega, by omega, by omega⟩, fun D nD => lc_range (lo := 1) (n := (((n : Nat) : Int) + 1 - 1).toNat) (fun j H' => Same H H' ∧ H' D = some (.lst ((List.range j).map fun x => V.str (rowF (n + 2) (fanB (n + 2) (x + 1)))))) ?_ ?_ ?_⟩
    · exact ⟨same_upd nD, upd_same⟩
    · rintro j H' hj ⟨sm, hD⟩
      rw [show ((n : Nat) : Int) + 1 - 1 = ((n : Nat) : Int) by omega, Int.toNat_natCast] at hj
      have ej : (1 : Int) + (j : Nat) = ((j + 1 : Nat) : Int) := by omega
      rw [ej]
      have en : ((n : Nat) : Int) - ((j + 1 : Nat) : Int) = ((n - (j + 1) : Nat) : Int) := by omega
      refine ⟨rfl, yes_it ⟨_, rfl, _, j + 1, rfl, rfl, by omega, by decide, by decide, _, _, rfl, rfl, ?_, _, rfl, _, rfl, _, _, rfl, rfl, _, n - (j + 1), rfl, congrArg V.int en, by omega, by decide, by decide, _, _, rfl, rfl, ?_, _, _, rfl, rfl, ?_, ?_⟩⟩
      · rw [mul_len 48 "0" rfl, sizeLine_eq]; show _ + 1 ≤ _; omega
      · rw [app_len, mul_len 48 "0" rfl, mul_len 48 "0" rfl, sizeLine_eq]; show _ + 1 + _ ≤ _; omega
      · rw [app_len, app_len, mul_len 48 "0" rfl, mul_len 48 "0" rfl, sizeLine_eq]; show _ + 1 + _ + 1 ≤ _; omega
      · rw [fan_mid (by omega) (by omega)]
        refine ⟨_, hD, small1000 (by rw [List.length_map, List.length_range]; omega), fun c o e => ?_, ?_⟩
        · rw [upd_ne (ne_of_none e nD)]; exact sm _ _ e
        · rw [upd_same, List.range_succ, List.map_append]; rfl
    · rintro H1 ⟨s1, hD⟩
      rw [show ((n : Nat) : Int) + 1 - 1 = ((n : Nat) : Int) by omega, Int.toNat_natCast] at hD
      have l60 : ∀ m : Nat, ((List.range n).map fun x => V.str (rowF (n + 2) (fanB (n + 2) (x + 1)))).length = n := fun _ => by rw [List.length_map, List.length_range]
      refine ⟨_, rfl, _, _, rfl, rfl, _, n + 2, rfl, congrArg V.int (show ((n : Nat) : Int) + 2 = ((n + 2 : Nat) : Int) by omega), by omega, by decide, by decide, _, rfl, D, _, rfl, .inr (SqL.of hD), _, rfl, _, _, rfl, rfl, _, n + 1, rfl, congrArg V.int (show ((n : Nat) : Int) + 1 = ((n + 1 : Nat) : Int) by omega), by omega, by decide, by decide, _, _, rfl, rfl, ?_, ?_, fun p np x d2 nx nd nxd => ?_⟩
      · rw [mul_len 48 "0" rfl, sizeLine_eq]; show _ + 1 ≤ _; omega
      · rw [List.length_cons, List.length_append, l60 n, sizeLine_eq]
        show n + 1 + 1 ≤ _
        omega
      · have el : V.str (mulS "1" (n + 2)) :: (((List.range n).map fun x => V.str (rowF (n + 2) (fanB (n + 2) (x + 1)))) ++ [V.str (mulS "0" (n + 1) ++ "1")]) = (rowsF (n + 2) (fanB (n + 2))).map V.str := by
          unfold rowsF
          rw [fan_first, fan_last, List.map_map, List.range_succ_eq_map, List.map_cons, List.range_succ, List.map_map, List.map_append]
          rfl
        rw [el] at nx nd ⊢
        have sp := same_upd (o := .lst ((rowsF (n + 2) (fanB (n + 2))).map V.str)) np
        have hp : upd H1 p (.lst ((rowsF (n + 2) (fanB (n + 2))).map V.str)) p = some (.lst ((rowsF (n + 2) (fanB (n + 2))).map V.str)) := upd_same
        have pM : p ∉ M := (tM.same s1).ne np
        have s2 := s1.trans sp
        generalize upd H1 p (.lst ((rowsF (n + 2) (fanB (n + 2))).map V.str)) = H2 at nx nd hp s2 ⊢
        have tM2 := tM.same s2
        have xM : x ∉ M := tM2.ne nx
        have px : p ≠ x := ne_of_none hp nx
        have sA := same_upd (o := .own x) nd
        have nx' : upd H2 d2 (.own x) x = none := by rw [upd_ne (Ne.symm nxd)]; exact nx
        have sB := sA.trans (same_upd (o := .ins C d2 []) nx')
        have hpB := sB _ _ hp
        have hxB : upd (upd H2 d2 (.own x)) x (.ins C d2 []) x = some (.ins C d2 []) := upd_same
        generalize upd (upd H2 d2 (.own x)) x (.ins C d2 []) = HB at sB hpB hxB
        refine ⟨M, x, p, d2, n + 2, _, _, _, 0, n + 1, rfl, tM2.same sB, xM, hxB, SqL.of (by rw [hide_ne (fun z => (List.mem_cons.mp z).elim px pM)]; exact hpB), B, fun H3 L3 smx hB2 e1 e2 => ?_⟩
        exact ⟨rfl, good H3 x L3 (s2.trans fun b o e => smx b o (fun z => ne_of_none e nx (List.mem_singleton.mp z)) (sB b o e)) (none_backO s2 nx) hB2 e1 e2⟩
end
end FvO


namespace FvO
open PySem PySem.Spec PyProof.Rows L2 Fv FvX ClX
/-- C.m is a static method: its record at p, its def at g -/
structure SMet (K : PySem.W.Frag) (C : Addr) (mc : Value) (m : Str) (p g : Addr) : Prop where
  at_ : PySem.W.findCls K (.ref C) mc m = some (.get (.builtin "staticmethod.__get__") (.ref p) .none (.ref C))
  rc : ∃ rest, PySem.W.recIn K p "staticmethod" = some (.ref g :: rest)
  kp : PySem.W.keepIn K (.ref g) = true
section
variable {X : Cx} {pins : List (Addr × Obj)} {σ : L2.St} {H : Hp} {s : Shared} {C p g : Addr} {mc : Value} {m : Str} {A : Around} {E : Value → Shared → Prop}
theorem getsmet_ok {b : Bool} {Q : Value → Shared → Prop} (I : Inv X pins σ H s) (r : CRead X.K C mc) (k : SMet X.K C mc m p g) (h : ∀ s', Inv X pins σ H s' → Q (.ref g) s') : wpAny (model X.prog X.w) A (getAttr (.ref C) m b) Q E s := by
  obtain ⟨rest, hp⟩ := k.rc
  refine PySem.W.cls_bind I.kIn r.rd k.at_ ?_
  refine wpAny_call (PySem.W.sm_get (s := { s with toks := s.toks + 1 }) I.kIn hp (PySem.W.handed_on rfl ?_))
  exact h _ (I.tok _)
theorem getmethsm_ok {pl : Sem Bool} {Q : Value × List Value → Shared → Prop} (I : Inv X pins σ H s) (r : CRead X.K C mc) (k : SMet X.K C mc m p g) (h : ∀ s', Inv X pins σ H s' → Q (.ref g, []) s') : wpAny (model X.prog X.w) A (getMethod (.ref C) m pl) Q E s :=
  PySem.W.method_cls I.kIn r.ga (getsmet_ok I r k h)
end
def tSMeth (C : Addr) (sp : Sp) (E : XK) (ta : TE) (t : TA) : TE := fun σ H Q => ta σ H fun x H1 => x = .ref C ∧ t σ H1 fun vs H2 => sp vs H2 Q E
structure MetSt (P : Program) (w : World) (K : PySem.W.Frag) (mg : Str → Option Value) (base : Heap) (k : Nat) (C : Addr) (m : Str) (sp : Sp) : Prop where
  ex : ∃ (mc : Value) (p g : Addr), CRead K C mc ∧ SMet K C mc m p g ∧ FnR P w K mg base (L2.CX P w) k g sp
theorem pe_smeth {X : Cx} {k : Nat} {C : Addr} {m : Str} {sp : Sp} {E : XK} {o e : Expr} {es : List Expr} {ta : TE} {t : TA} {apos pos : Pos} {pl : Sem Bool} (M : MetSt X.prog X.w X.K X.mg X.base k C m sp) (hr : Room k X.A) (hx : Passes (L2.CX X.prog X.w) X E) (he : PE X o ta) (ha : PA X (e :: es) t)
    (hst : starEach (e :: es) X.env = (false, eval e X.env) :: starEach es X.env := by rfl) (hpl : (backTo pos (starEach es X.env)).any (·.1) = false := by rfl)
    (ht : eval (.Call (.Attribute o m apos) (e :: es) [] pos) X.env = (do
      let ov ← eval o X.env
      standAt apos.atName
      let (f, first) ← holding [ov] (getMethod ov m pl)
      callWith pos f first (backTo pos (starEach (e :: es) X.env)) (backToKw pos (keywordEach [] X.env))) := by rfl) :
    PE X (.Call (.Attribute o m apos) (e :: es) [] pos) (tSMeth C sp E ta t) := by
  obtain ⟨mc, p, g, r, c, F⟩ := M.ex
  refine ⟨fun pins s σ H Q I h => ?_⟩
  refine PySem.W.methodCall_KW (pl := pl) (thn (he.run pins s σ H _ I h) fun u s1 ⟨x, H1, I1, rx, ex, q⟩ => ?_) ht
  subst ex
  obtain rfl : u = Value.ref C := rx
  refine getmethsm_ok I1 r c fun s2 I2 => ?_
  refine PySem.W.callWith_K (h₀ := X.base) I2.ok.mod.kin c.kp (thn (ha.run pos pins s2 σ H1 _ I2 q) fun us s3 ⟨vs, H2, I3, rv, q2⟩ => ⟨I3.kIn, ?_⟩) hst hpl
  exact wpAny_call (run_fnR (us := us) (vs := vs) F hr hx I3 rv q2)
end FvO


/-! class methods called on their class (also by keywords); len, repr, == of an own class -/
namespace FvO
open PySem PySem.Spec PyProof.Rows L2 Fv FvX ClX
structure MetC (P : Program) (w : World) (K : PySem.W.Frag) (mg : Str → Option Value) (base : Heap) (k : Nat) (C : Addr) (m : Str) (sp : Sp) : Prop where
  ex : ∃ (mc : Value) (p g : Addr), CRead K C mc ∧ CMet K C mc m p g ∧ FnR P w K mg base (L2.CX P w) k g sp
structure MetCK (P : Program) (w : World) (K : PySem.W.Frag) (mg : Str → Option Value) (base : Heap) (k : Nat) (C : Addr) (m : Str) (ps ks : List Str) (gV : List V → List V → List V) (sp : Sp) : Prop where
  ex : ∃ (mc : Value) (p g : Addr) (fd : FuncData) (gg : List Value → List Value → List Value), CRead K C mc ∧ CMet K C mc m p g ∧ KBn K fd ps 1 ks gg gV ∧ FnOk P w K mg base (L2.CX P w) k g fd ps sp
def tCMethK (C : Addr) (n : Nat) (gV : List V → List V → List V) (sp : Sp) (E : XK) (ta : TE) (tk : TA) : TE := fun σ H Q => ta σ H fun x H1 => x = .ref C ∧ tk σ H1 fun zs H2 => zs.length = n ∧ sp (gV [.ref C] zs) H2 Q E
/-- what never raises may stand where something may raise -/
theorem fnR_up {P : Program} {w : World} {K : PySem.W.Frag} {mg : Str → Option Value} {base : Heap} {k : Nat} {f : Addr} {sp : Sp} (F : FnR P w K mg base CX0 k f sp) : FnR P w K mg base (L2.CX P w) k f sp :=
  fun A outer s H us vs Q E hr e0 r h => codeAny_mono (F A outer s H us vs Q E hr e0 r h) fun r s' hq => by
    cases r with
    | error e => exact False.elim hq
    | ok fl => cases fl <;> exact hq
section
variable {X : Cx} {k : Nat} {C : Addr} {m : Str} {sp : Sp} {E : XK} {o e : Expr} {es : List Expr} {ta : TE} {t tk : TA} {apos pos : Pos} {pl : Sem Bool} {ps ks : List Str} {gV : List V → List V → List V} {kws : List Keyword}
theorem pe_cm (M : MetC X.prog X.w X.K X.mg X.base k C m sp) (hr : Room k X.A) (hx : Passes (L2.CX X.prog X.w) X E) (he : PE X o ta) (ha : PA X (e :: es) t)
    (hst : starEach (e :: es) X.env = (false, eval e X.env) :: starEach es X.env := by rfl) (hpl : (backTo pos (starEach es X.env)).any (·.1) = false := by rfl)
    (ht : eval (.Call (.Attribute o m apos) (e :: es) [] pos) X.env = (do
      let ov ← eval o X.env
      standAt apos.atName
      let (f, first) ← holding [ov] (getMethod ov m pl)
      callWith pos f first (backTo pos (starEach (e :: es) X.env)) (backToKw pos (keywordEach [] X.env))) := by rfl) :
    PE X (.Call (.Attribute o m apos) (e :: es) [] pos) (tCMeth C sp E ta t) := by
  obtain ⟨mc, p, g, r, c, F⟩ := M.ex
  exact pe_cmeth (pl := pl) he r c F hr hx ha hst hpl ht
theorem pe_cmK (M : MetCK X.prog X.w X.K X.mg X.base k C m ps ks gV sp) (hr : Room k X.A) (hx : Passes (L2.CX X.prog X.w) X E) (he : PE X o ta) (hkw : PK X kws tk)
    (hall : (backToKw pos (keywordEach kws X.env)).all (·.1.isSome) = true := by rfl) (hks : (backToKw pos (keywordEach kws X.env)).filterMap (·.1) = ks := by rfl)
    (hpl : ((backTo pos (starEach [] X.env)).any (·.1) || (backToKw pos (keywordEach kws X.env)).any (·.1.isNone)) = false := by rfl)
    (ht : eval (.Call (.Attribute o m apos) [] kws pos) X.env = (do
      let ov ← eval o X.env
      standAt apos.atName
      let (f, first) ← holding [ov] (getMethod ov m pl)
      callWith pos f first (backTo pos (starEach [] X.env)) (backToKw pos (keywordEach kws X.env))) := by rfl) :
    PE X (.Call (.Attribute o m apos) [] kws pos) (tCMethK C ks.length gV sp E ta tk) := by
  obtain ⟨mc, p, g, fd, gg, r, c, hb, F⟩ := M.ex
  refine ⟨fun pins s σ H Q I h => ?_⟩
  refine PySem.W.methodCall_KW (pl := pl) (thn (he.run pins s σ H _ I h) fun u s1 ⟨x, H1, I1, rx, ex, q⟩ => ?_) ht
  subst ex
  obtain rfl : u = Value.ref C := rx
  refine getmethcm_ok I1 r c fun s2 I2 => ?_
  refine PySem.W.callWith_of (P := PySem.W.MethP X.K s1.heap.objs.size g (.ref C)) hpl (PySem.W.keeps_M c.fi) (PyProof.Rows.evalArgs_kw2_nil hall (thn (hkw.run pos _ s2 σ H1 _ I2 q) fun ws s3 ⟨zs, H2, I3, rz, l2, q2⟩ => ⟨⟨pin_at I3, I3.kIn⟩, ?_⟩))
  rw [hks]
  have r2 := hb.rel (us := [.ref C]) (vs := [.ref C]) (.cons rfl .nil) rz
  have z : wpAny (model X.prog X.w) X.A (call (.ref s1.heap.objs.size) ([] ++ []) (ks.zip ws)) (EP X ((s1.heap.objs.size, PySem.W.methodObj (.ref g) (.ref C)) :: pins) σ Q) X.xe s3 := by
    refine wpAny_call (PySem.W.method_call (pin_at I3) (codeAny_mono (F.run X.A X.stack s3 H2 ⟨[.ref C], ks.zip ws⟩ (gg [.ref C] ws) (gV [.ref C] zs) Q E hr I3.env0 (hb.to s3 [.ref C] ws I3.kIn rfl (rz.length.symm.trans l2)) r2 q2) fun r s' hq => ?_))
    cases r with
    | error e => exact hx _ σ H2 s3 e s' I3 hq
    | ok fl =>
      cases fl with
      | ret u => exact I3.after hq
      | next => exact False.elim hq
      | brk => exact False.elim hq
      | cont => exact False.elim hq
  exact thn z fun _ _ y => unpinE y
/-- the callee runs at a place below -/
theorem run_fnA {pins : List (Addr × Obj)} {σ : L2.St} {H : Hp} {s : Shared} {A1 : Around} {f : Addr} {Q : VK} {us : List Value} {vs : List V} (sb : Sub X k A1) (F : FnR X.prog X.w X.K X.mg X.base (L2.CX X.prog X.w) k f sp) (hx : Passes (L2.CX X.prog X.w) X E) (I : Inv X pins σ H s) (r : Vals vs us) (h : sp vs H Q E) :
    codeAny (model X.prog X.w) A1 (.call (.ref f) ⟨us, []⟩) (fun r s' => match r with | .ok (.ret v) => EP X pins σ Q v s' | .ok _ => False | .error e => X.xe e s') s := by
  have e0 : Env0 X.prog X.w X.K X.mg X.base A1 X.stack s H := by
    have e := I.env0
    exact ⟨by rw [sb.fr]; exact e.frames, e.mod, e.bs, e.bsz, e.funs, e.frf, e.hok, e.bare⟩
  refine codeAny_mono (F A1 X.stack s H us vs Q E sb.room e0 r h) fun r s' hq => ?_
  cases r with
  | error e => exact hx pins σ H s e s' I hq
  | ok fl =>
    cases fl with
    | ret u => exact I.after hq
    | next => exact False.elim hq
    | brk => exact False.elim hq
    | cont => exact False.elim hq
def rLenOwn (C : Addr) (sp : Sp) (E : XK) : List V → Hp → VK → Prop := fun xs H Q => ∃ a dx fs, xs = [.ref a] ∧ H a = some (.ins C dx fs) ∧ sp [.ref a] H (fun v H' => ∃ n : Nat, v = .int (n : Nat) ∧ n < 2 ^ 63 ∧ Q (.int (n : Nat)) H') E
theorem call_lenOwn (M : MetR X.prog X.w X.K X.mg X.base k C "__len__" sp) (hr : Room (k + 1) X.A) (hx : Passes (L2.CX X.prog X.w) X E) : CallR X (.builtin "len") (rLenOwn C sp E) := by
  obtain ⟨f, c, hm, F⟩ := M.ex
  intro pins s σ H xs us Q I r h
  obtain ⟨a, dx, fs, rfl, ha, q⟩ := h
  obtain ⟨u, rfl, rx⟩ := vals1 r
  obtain rfl : u = Value.ref a := rx
  obtain ⟨mA, J, _⟩ := ins_get I.hok ha
  obtain ⟨od, J, _⟩ := J.look
  obtain ⟨m, hF⟩ := I.fr
  refine PySem.W.len_K hF I.ok.mod.kin J hm.at_ hm.fn (wpAny_call (codeAny_mono (run_fnA (k := k) ⟨hr.in1, rfl⟩ F hx I (us := [.ref a]) (vs := [.ref a]) (.cons rfl .nil) q) fun r s' hq => ?_))
  cases r with
  | error e => exact hq
  | ok fl =>
    cases fl with
    | next => exact False.elim hq
    | brk => exact False.elim hq
    | cont => exact False.elim hq
    | ret u =>
      obtain ⟨v, H', I', rv, n, ev, hn, q'⟩ := hq
      subst ev
      obtain ⟨t, rfl⟩ := rv
      exact ⟨⟨by omega, by omega⟩, .int (n : Nat), H', I'.tok _, ⟨_, rfl⟩, q'⟩
def rReprOwn (C : Addr) (sp : Sp) (E : XK) : List V → Hp → VK → Prop := fun xs H Q => ∃ a dx fs, xs = [.ref a] ∧ H a = some (.ins C dx fs) ∧ sp [.ref a] H (fun v H' => (∃ t, v = .str t) ∧ Q v H') E
theorem call_reprOwn (M : MetR X.prog X.w X.K X.mg X.base k C "__repr__" sp) (hr : Room (k + 1) X.A) (hx : Passes (L2.CX X.prog X.w) X E) : CallR X (.builtin "repr") (rReprOwn C sp E) := by
  obtain ⟨f, c, hm, F⟩ := M.ex
  intro pins s σ H xs us Q I r h
  obtain ⟨a, dx, fs, rfl, ha, q⟩ := h
  obtain ⟨u, rfl, rx⟩ := vals1 r
  obtain rfl : u = Value.ref a := rx
  obtain ⟨mA, J, _⟩ := ins_get I.hok ha
  obtain ⟨od, J, _⟩ := J.look
  obtain ⟨m, hF⟩ := I.fr
  refine PySem.W.repr_K hr.in1.units0 hF I.ok.mod.kin J hm.at_ hm.fn (wpAny_call (codeAny_mono (run_fnA (k := k) ⟨hr.in1, rfl⟩ F hx I (us := [.ref a]) (vs := [.ref a]) (.cons rfl .nil) q) fun r s' hq => ?_))
  cases r with
  | error e => exact hq
  | ok fl =>
    cases fl with
    | next => exact False.elim hq
    | brk => exact False.elim hq
    | cont => exact False.elim hq
    | ret u =>
      obtain ⟨v, H', I', rv, ⟨t, ev⟩, q'⟩ := hq
      subst ev
      obtain ⟨t2, rfl⟩ := rv
      exact ⟨.str t, H', I', ⟨_, rfl⟩, q'⟩
theorem type_list {M : Model} {h : Heap} {y : Addr} {o : Obj} (ho : h.get? y = some o) (hc : o.cls = .type "list") : PySem.W.Looks M h (typeOf (.ref y)) (.type "list") :=
  (PySem.W.Looks.ld ho).andThen (by rw [hc]; exact .now)
/-- what stands to the right of an own == -/
def RightOf (C : Addr) (H : Hp) (y : V) : Prop := ∃ b, y = .ref b ∧ ((∃ dy gs, H b = some (.ins C dy gs)) ∨ ∃ ys, H b = some (.lst ys))
def rEqOwn (C : Addr) (sp : Sp) (E : XK) : R2 := fun x y H Q => ∃ a dx fs, x = .ref a ∧ H a = some (.ins C dx fs) ∧ RightOf C H y ∧ sp [x, y] H (fun v H' => (∃ b, v = .bl b) ∧ Q v H') E
theorem op_eqOwn (M : MetR X.prog X.w X.K X.mg X.base k C "__eq__" sp) (hn : PySem.W.notFirst X.K C (.type "list") = true) (hr : Room k X.A) (hx : Passes (L2.CX X.prog X.w) X E) : OpR X (compareOp .Eq) (rEqOwn C sp E) := by
  obtain ⟨f, c, hm, F⟩ := M.ex
  intro pins s σ H x y u v Q I rx ry h
  obtain ⟨a, dx, fs, rfl, ha, ⟨b, rfl, hb⟩, q⟩ := h
  obtain rfl : u = Value.ref a := rx
  obtain rfl : v = Value.ref b := ry
  obtain ⟨mA, J, _⟩ := ins_get I.hok ha
  obtain ⟨od, J, _⟩ := J.look
  obtain ⟨m, hF⟩ := I.fr
  show wpAny (model X.prog X.w) X.A (richCompare .Eq (.ref a) (.ref b)) (EP X pins σ Q) X.xe s
  have body : wpAny (model X.prog X.w) X.A (call (.ref f) [.ref a, .ref b]) (PySem.W.CmpBack (EP X pins σ Q)) X.xe s := by
    refine wpAny_call (codeAny_mono (run_fnA (k := k) ⟨hr, rfl⟩ F hx I (us := [.ref a, .ref b]) (vs := [.ref a, .ref b]) (.cons rfl (.cons rfl .nil)) q) fun r s' hq => ?_)
    cases r with
    | error e => exact hq
    | ok fl =>
      cases fl with
      | next => exact False.elim hq
      | brk => exact False.elim hq
      | cont => exact False.elim hq
      | ret u =>
        obtain ⟨v, H', I', rv, ⟨t, ev⟩, q'⟩ := hq
        subst ev
        cases rv
        exact ⟨.bl t, H', I', rfl, q'⟩
  rcases hb with ⟨dy, gs, hb⟩ | ⟨ys, hb⟩
  · obtain ⟨mB, J', _⟩ := ins_get I.hok hb
    obtain ⟨od', J', _⟩ := J'.look
    exact PySem.W.cmp_K (op := .Eq) (tb := .ref C) hr.units0 hF I.ok.mod.kin J J'.type (by simp [PySem.W.notFirst]) hm.at_ hm.fn body
  · obtain ⟨z, its, n, r, e⟩ := I.hok b _ hb
    exact PySem.W.cmp_K (op := .Eq) (tb := .type "list") hr.units0 hF I.ok.mod.kin J (type_list e rfl) hn hm.at_ hm.fn body
end
end FvO


/-! Board: len, repr, == -/
namespace FvO
open PySem PySem.Spec PyProof.Rows L2 Fv FvW FvX TL
open FvK (pe_fldK)
-- top 36  slots: 0:self 1:other
abbrev s_eq__of__Board : Stmt := inClass (topS 36) 21
abbrev N_eq__of__Board : List Str := ["self", "other"]
theorem sc_eq__of__Board : FnScope N_eq__of__Board ["self", "other"] (defScope s_eq__of__Board) := ⟨rfl, rfl, rfl, by decide +kernel, rfl, by decide +kernel, by decide +kernel⟩

-- top 36  slots: 0:self
abbrev s_len__of__Board : Stmt := inClass (topS 36) 22
abbrev N_len__of__Board : List Str := ["self"]
theorem sc_len__of__Board : FnScope N_len__of__Board ["self"] (defScope s_len__of__Board) := ⟨rfl, rfl, rfl, by decide +kernel, rfl, by decide +kernel, by decide +kernel⟩

-- top 36  slots: 0:self
abbrev s_repr__of__Board : Stmt := inClass (topS 36) 23
abbrev N_repr__of__Board : List Str := ["self"]
theorem sc_repr__of__Board : FnScope N_repr__of__Board ["self"] (defScope s_repr__of__Board) := ⟨rfl, rfl, rfl, by decide +kernel, rfl, by decide +kernel, by decide +kernel⟩

theorem op_eqDq {X : Cx} {K : PySem.W.Frag} (hK : X.K = K) (hu : X.A.units + 64 < cLine) : OpR X (compareOp .Eq) (rEqD K) := by
  subst hK
  exact op_eqD hu
theorem op_neDq {X : Cx} {K : PySem.W.Frag} (hK : X.K = K) (hu : X.A.units + 64 < cLine) : OpR X (compareOp .NotEq) (rNeD K) := by
  subst hK
  exact op_neD hu
def textsD (l : List Str) : PyData := .list (l.map PyData.str)
theorem texts_dpAll {K : PySem.W.Frag} {H : Hp} : ∀ (l : List Str), DpAll K H (l.map V.str) (l.map PyData.str)
  | [] => .nil
  | _ :: r => .cons (.str _) (texts_dpAll r)
theorem rowF_ok (n : Nat) (b : Nat → Bool) : PyData.strOk (rowF n b) = true := by
  show (rowF n b).cps.all _ = true
  rw [← Array.all_toList, rowF_cps, List.all_map, List.all_eq_true]
  intro y _
  show decide (chB (b y) < 0x110000) = true
  unfold chB
  cases b y <;> decide
theorem rows_gd {n : Nat} (b : Nat → Nat → Bool) (h : n ≤ 60) : gd 1 (textsD (rowsF n b)) = true := gd_lst (n := 0) (fun d hd => by
  obtain ⟨x, hx, rfl⟩ := List.mem_map.mp hd
  obtain ⟨i, _, rfl⟩ := List.mem_map.mp hx
  show (PyData.strOk _ && decide (_ ≤ 100000)) = true
  rw [rowF_ok, rowF_len, decide_eq_true (by omega)]
  rfl) (by unfold rowsF; rw [List.length_map, List.length_map, List.length_range]; omega)
theorem eqv_self {n : Nat} {d : PyData} (h : gd n d = true) (hn : n ≤ 64) : PyData.eqv d d = true := SeqAt.eqv_refl d (SeqAt.canLay_of_shaped (gd_shaped h hn))
theorem lines_dp {K : PySem.W.Frag} {H : Hp} {p : Addr} {l : List Str} (h : H p = some (.lst (l.map V.str))) : Dp K H (.ref p) (textsD l) := .lst (SqL.of h) (texts_dpAll l)
/-- isinstance(x, C) of an instance of C or of a list -/
def rIsB (K : PySem.W.Frag) (C : Addr) : List V → Hp → VK → Prop := fun xs H Q => ∃ y, xs = [.ref y, .ref C] ∧ ((∃ dx gs, H y = some (.ins C dx gs) ∧ Q (.bl true) H) ∨ ∃ ys, H y = some (.lst ys) ∧ Q (.bl false) H)
theorem call_isB {X : Cx} {K : PySem.W.Frag} {C : Addr} (hK : X.K = K) (c : C8.InsC K C) (i2 : PySem.W.kitOne K (.type "list") (.ref C) = some false) : CallR X (.builtin "isinstance") (rIsB K C) := by
  subst hK
  intro pins s σ H xs us Q I r h
  obtain ⟨y, rfl, ⟨dx, gs, e, q⟩ | ⟨ys, e, q⟩⟩ := h
  · exact C8.call_isC c pins s σ H _ us Q I r ⟨y, dx, gs, rfl, e, q⟩
  · exact call_isi pins s σ H _ us Q I r ⟨.ref y, .ref C, .type "list", .ref C, false, rfl, .own C, .base (.lst e), i2, q⟩
def spLenB (K : PySem.W.Frag) (C : Addr) : Sp := fun vs H Q _ => ∃ (c : Addr) (L : BL) (n : Nat) (b : Nat → Nat → Bool) (lo hi : Nat → Nat → Nat), vs = [.ref c] ∧ BAt K C H c L n b lo hi ∧ Q (.int (n : Nat)) H
def reprB (n : Nat) : Str := ("Board(" : Str) ++ toString ((n : Nat) : Int) ++ (" places)" : Str)
def spReprB (K : PySem.W.Frag) (C : Addr) : Sp := fun vs H Q _ => ∃ (c : Addr) (L : BL) (n : Nat) (b : Nat → Nat → Bool) (lo hi : Nat → Nat → Nat), vs = [.ref c] ∧ BAt K C H c L n b lo hi ∧ n ≤ 60 ∧ Q (.str (reprB n)) H
def spEqB (K : PySem.W.Frag) (C : Addr) : Sp := fun vs H Q _ => ∃ (c : Addr) (L : BL) (n : Nat) (b : Nat → Nat → Bool) (lo hi : Nat → Nat → Nat) (y : Addr), vs = [.ref c, .ref y] ∧ BAt K C H c L n b lo hi ∧
  ((∃ (L2 : BL) (n2 : Nat) (b2 : Nat → Nat → Bool) (lo2 hi2 : Nat → Nat → Nat), BAt K C H y L2 n2 b2 lo2 hi2 ∧ rowsF n2 b2 = rowsF n b ∧ (n ≤ 60 ∧ n2 ≤ 60) ∧ Q (.bl true) H) ∨ (∃ xs, H y = some (.lst xs) ∧ Q (.bl false) H))
section
variable {P : Program} {w : World} {K : PySem.W.Frag} {mg : Str → Option Value} {base : Heap} {C : Addr}
theorem ok_lenB {f : Addr} {fd : FuncData} {k : Nat} (F : Fun K "__len__" "Board.__len__" s_len__of__Board f fd) (T : TxB K C) (m_len : mg "len" = none) :
    FnOk P w K mg base CX0 (k + 1) f fd ["self"] (spLenB K C) := by
  refine F.ok sc_len__of__Board (fun vs H Q E h => ?_) (fun cdv A outer s H vs Q E hr h => ?_)
  · obtain ⟨c, L, n, b, lo, hi, rfl, _⟩ := h
    rfl
  · obtain ⟨c, L, n, b, lo, hi, rfl, hB, good⟩ := h
    refine ⟨_, (pss_one (ps_ret (pe_callB call_len_seq (by rfl) m_len (by decide +kernel) (pa_cons (pe_fldK (K := K) rfl (pv 0) rfl) pa_nil)))), ?_⟩
    obtain ⟨dx, ob⟩ := hB.ob
    refine ⟨_, rfl, c, C, dx, _, _, rfl, ob, T.cl, T.n1, rfl, L.ln, _, rfl, .inl (SqL.of hB.ln), ?_⟩
    rw [rows_lenF]
    exact good
theorem ok_reprB {f : Addr} {fd : FuncData} {k : Nat} (F : Fun K "__repr__" "Board.__repr__" s_repr__of__Board f fd) (T : TxB K C) (m_len : mg "len" = none) :
    FnOk P w K mg base CX0 (k + 1) f fd ["self"] (spReprB K C) := by
  refine F.ok sc_repr__of__Board (fun vs H Q E h => ?_) (fun cdv A outer s H vs Q E hr h => ?_)
  · obtain ⟨c, L, n, b, lo, hi, rfl, _⟩ := h
    rfl
  · obtain ⟨c, L, n, b, lo, hi, rfl, hB, n60, good⟩ := h
    refine ⟨_, (pss_one (ps_ret (pe_joined (.cons pe_str (.cons (pe_fmt (pe_callB call_len_seq (by rfl) m_len (by decide +kernel) (pa_cons (pe_fldK (K := K) rfl (pv 0) rfl) pa_nil))) (.cons pe_str .nil)))))), ?_⟩
    obtain ⟨dx, ob⟩ := hB.ob
    have key : ∀ n : Nat, n ≤ 60 → (Str.empty ++ ("Board(" : Str)).length ≤ sizeLine ∧ ((((n : Nat) : Int)).natAbs.log2 < 1920) ∧ (Str.empty ++ ("Board(" : Str) ++ toString ((n : Nat) : Int)).length ≤ sizeLine ∧ (Str.empty ++ ("Board(" : Str) ++ toString ((n : Nat) : Int) ++ (" places)" : Str)).length ≤ sizeLine ∧ Str.empty ++ ("Board(" : Str) ++ toString ((n : Nat) : Int) ++ (" places)" : Str) = reprB n := by decide +kernel
    obtain ⟨k1, k2, k3, k4, k5⟩ := key n n60
    refine ⟨_, rfl, k1, _, rfl, c, C, dx, _, _, rfl, ob, T.cl, T.n1, rfl, L.ln, _, rfl, .inl (SqL.of hB.ln), ?_⟩
    rw [rows_lenF]
    refine .inr ⟨_, rfl, k2, _, rfl, k3, _, rfl, k4, ?_⟩
    show Q (.str (_ ++ _)) H
    rw [k5]
    exact good
theorem ok_eqB {f : Addr} {fd : FuncData} {k : Nat} (F : Fun K "__eq__" "Board.__eq__" s_eq__of__Board f fd) (T : TxB K C) (g_Board : mg "Board" = some (.ref C)) (m_isinstance : mg "isinstance" = none)
    (ic : C8.InsC K C) (i2 : PySem.W.kitOne K (.type "list") (.ref C) = some false) :
    FnOk P w K mg base CX0 (k + 1) f fd ["self", "other"] (spEqB K C) := by
  refine F.ok sc_eq__of__Board (fun vs H Q E h => ?_) (fun cdv A outer s H vs Q E hr h => ?_)
  · obtain ⟨c, L, n, b, lo, hi, y, rfl, _⟩ := h
    rfl
  · obtain ⟨c, L, n, b, lo, hi, y, rfl, hB, alt⟩ := h
    refine ⟨_, (pss_one (ps_ret (pe_and (pe_callB (call_isB (K := K) rfl ic i2) (by rfl) m_isinstance (by decide +kernel) (pa_cons (pv 1) (pa_cons (pe_glob (v := .ref C) (by rfl) g_Board rfl) pa_nil))) (pe_one (pe_cmpR (op_eqDq (K := K) rfl hr.units) (pe_fldK (K := K) rfl (pv 0) rfl) (pe_fldK (K := K) rfl (pv 1) rfl) (nomark _)))))), ?_⟩
    obtain ⟨dx, ob⟩ := hB.ob
    rcases alt with ⟨L2, n2, b2, lo2, hi2, hB2, e, n60, good⟩ | ⟨xs, hy, good⟩
    · obtain ⟨dx2, ob2⟩ := hB2.ob
      refine ⟨_, rfl, y, rfl, .inl ⟨_, _, ob2, true, rfl, iteT ?_⟩⟩
      refine ⟨_, rfl, c, C, dx, _, _, rfl, ob, T.cl, T.n1, rfl, _, rfl, y, C, dx2, _, _, rfl, ob2, T.cl, T.n1, rfl, textsD (rowsF n b), textsD (rowsF n2 b2), lines_dp hB.ln, lines_dp hB2.ln, ?_, ?_, ?_⟩
      · exact gd_shaped (rows_gd b n60.1) (by decide)
      · exact gd_shaped (rows_gd b2 n60.2) (by decide)
      · rw [e, eqv_self (rows_gd b n60.1) (by decide)]
        exact good
    · exact ⟨_, rfl, y, rfl, .inr ⟨xs, hy, false, rfl, iteF good⟩⟩
end
end FvO


namespace Fv
open PySem PySem.Spec PyProof.Rows L2 FvX TL
/-! ### the text of a term -/
def opS : PyData → Str
  | .str s => s
  | _ => ""
mutual
def txt : PyData → Str
  | .str s => s
  | .tuple (o :: ds) => Txt.join (" " ++ opS o ++ " ") (ptxAll ds)
  | _ => ""
def ptxAll : List PyData → List Str
  | [] => []
  | d :: ds => (if isLd d = true then txt d else "(" ++ txt d ++ ")") :: ptxAll ds
end
def ptx (d : PyData) : Str := if isLd d = true then txt d else "(" ++ txt d ++ ")"
theorem ptxAll_map : ∀ ds : List PyData, ptxAll ds = ds.map ptx
  | [] => by simp [ptxAll]
  | d :: ds => by rw [List.map_cons, ← ptxAll_map ds]; simp only [ptxAll, ptx]
theorem txt_str (s : Str) : txt (.str s) = s := by simp only [txt]
theorem txt_tup (o : Str) (ds : List PyData) : txt (.tuple (.str o :: ds)) = Txt.join (" " ++ o ++ " ") (ds.map ptx) := by
  simp only [txt, ptxAll_map, opS]
theorem isOp_inv {o : PyData} (h : isOp o = true) : o = .str "&" ∨ o = .str "|" := by
  unfold isOp at h
  simp only [List.any_cons, List.any_nil, Bool.or_false, Bool.or_eq_true] at h
  cases o with
  | str x =>
    rcases h with h | h <;> simp [PyData.eqv] at h
    · exact .inl (by rw [h])
    · exact .inr (by rw [h])
  | _ => rcases h with h | h <;> simp [PyData.eqv] at h
theorem lmeas_inv {n : Nat} {d : PyData} (h : 1 ≤ lmeas (n + 1) d) : (∃ x, d = .str x ∧ isL x = true) ∨
    (∃ o ds, d = .tuple (.str o :: ds) ∧ isLd d = false ∧ (o = "&" ∨ o = "|") ∧ 2 ≤ ds.length ∧ (∀ x ∈ ds, 1 ≤ lmeas n x) ∧ lmeas (n + 1) d = (ds.map (lmeas n)).sum) := by
  by_cases a : isLd d = true
  · left
    cases d with
    | str x => exact ⟨x, rfl, a⟩
    | _ => cases a
  · right
    have e : lmeas (n + 1) d = if isCd d = true then (if (0 : Int) ∈ (parts d).map (lmeas n) then 0 else ((parts d).map (lmeas n)).sum) else 0 := by
      show (if isLd d = true then (1 : Int) else _) = _
      rw [if_neg a]
    rw [e] at h
    by_cases b : isCd d = true
    · rw [if_pos b] at h
      by_cases c : (0 : Int) ∈ (parts d).map (lmeas n)
      · rw [if_pos c] at h; omega
      · cases d with
        | tuple ds =>
          cases ds with
          | nil => cases b
          | cons o ds =>
            have b' : (decide (2 ≤ ds.length) && isOp o) = true := b
            rw [Bool.and_eq_true, decide_eq_true_eq] at b'
            have all1 : ∀ x ∈ ds, 1 ≤ lmeas n x := fun x hx => by
              have z := lmeas_nonneg n x
              rcases Int.lt_or_eq_of_le z with z | z
              · omega
              · exact absurd (List.mem_map.mpr ⟨x, hx, z.symm⟩) c
            have e' : lmeas (n + 1) (.tuple (o :: ds)) = (ds.map (lmeas n)).sum := by
              rw [e, if_pos b, if_neg c]; rfl
            rcases isOp_inv b'.2 with ho | ho <;> subst ho
            · exact ⟨_, ds, rfl, rfl, .inl rfl, b'.1, all1, e'⟩
            · exact ⟨_, ds, rfl, rfl, .inr rfl, b'.1, all1, e'⟩
        | _ => cases b
    · rw [if_neg b] at h; omega
theorem isL_len {x : Str} (h : isL x = true) : x.length = 1 := by
  unfold isL at h
  rw [Bool.and_eq_true, decide_eq_true_eq] at h
  have := h.1
  injection this with e
  omega
theorem len_app (x y : Str) : (x ++ y).length = x.length + y.length := by
  rw [len_tl, tl_append, List.length_append, ← len_tl, ← len_tl]
theorem joinL_len (S : List Nat) : ∀ (p : List Nat) (ps : List (List Nat)), (joinL S (p :: ps)).length = p.length + (ps.map (·.length)).sum + S.length * ps.length
  | p, [] => by simp [joinL]
  | p, q :: ps => by
    have e : joinL S (p :: q :: ps) = p ++ (S ++ joinL S (q :: ps)) := rfl
    rw [e, List.length_append, List.length_append, joinL_len S q ps, List.map_cons, List.sum_cons, List.length_cons, Nat.mul_add]
    omega
theorem sum_le {α : Type} {f g : α → Int} : ∀ {l : List α}, (∀ x ∈ l, f x ≤ g x) → (l.map f).sum ≤ (l.map g).sum
  | [], _ => by simp
  | x :: l, h => by
    rw [List.map_cons, List.map_cons, List.sum_cons, List.sum_cons]
    have := h x (List.mem_cons_self ..)
    have := sum_le (l := l) fun y hy => h y (List.mem_cons_of_mem _ hy)
    omega
theorem sum_lin {α : Type} {f : α → Int} : ∀ {l : List α}, (l.map fun x => 8 * f x - 5).sum = 8 * (l.map f).sum - 5 * l.length
  | [] => by simp
  | x :: l => by
    rw [List.map_cons, List.map_cons, List.sum_cons, List.sum_cons, sum_lin (l := l), List.length_cons]
    omega
theorem sum_cast {α : Type} {f : α → Nat} : ∀ {l : List α}, (((l.map f).sum : Nat) : Int) = (l.map fun x => ((f x : Nat) : Int)).sum
  | [] => by simp
  | x :: l => by
    rw [List.map_cons, List.map_cons, List.sum_cons, List.sum_cons, ← sum_cast (l := l)]
    omega
theorem sep_len {o : Str} (h : o = "&" ∨ o = "|") : ((" " : Str) ++ o ++ " ").length = 3 := by
  rcases h with h | h <;> subst h <;> decide +kernel
theorem par_len (x : Str) : (("(" : Str) ++ x ++ ")").length = x.length + 2 := by
  rw [len_app, len_app]
  have e1 : ("(" : Str).length = 1 := by decide +kernel
  have e2 : (")" : Str).length = 1 := by decide +kernel
  omega
theorem txt_len : ∀ (n : Nat) (d : PyData), 1 ≤ lmeas n d → ((txt d).length : Int) + 7 ≤ 8 * lmeas n d
  | 0, d, h => by simp only [lmeas] at h; omega
  | n + 1, d, h => by
    rcases lmeas_inv h with ⟨x, rfl, hx⟩ | ⟨o, ds, rfl, _, ho, h2, all1, e⟩
    · rw [txt_str, isL_len hx]
      omega
    · rw [txt_tup, join_eq, len_tl, tl_join, e]
      have hp : (((((ds.map ptx).map tl).map (·.length)).sum : Nat) : Int) ≤ 8 * (ds.map (lmeas n)).sum - 5 * ds.length := by
        rw [← sum_lin, List.map_map, List.map_map, sum_cast]
        refine sum_le fun x hx => ?_
        have := txt_len n x (all1 x hx)
        show (((tl (ptx x)).length : Nat) : Int) ≤ _
        rw [← len_tl]
        unfold ptx
        split
        · omega
        · rw [par_len]; omega
      cases ds with
      | nil => simp at h2
      | cons x r =>
        rw [List.map_cons, List.map_cons] at hp ⊢
        rw [joinL_len, ← len_tl (" " ++ o ++ " "), sep_len ho, List.length_map, List.length_map]
        rw [List.map_cons, List.sum_cons] at hp
        rw [List.length_cons] at h2 hp
        omega
theorem ptx_len {n : Nat} {d : PyData} (h : 1 ≤ lmeas n d) : ((ptx d).length : Int) + 5 ≤ 8 * lmeas n d := by
  have := txt_len n d h
  unfold ptx
  split
  · omega
  · rw [par_len]; omega
def spText (K : PySem.W.Frag) (n : Nat) : Sp := fun vs H Q _ => ∃ (v : V) (d : PyData) (m : Nat), vs = [v] ∧ Dp K H v d ∧ gd 20 d = true ∧ m < n ∧ 1 ≤ lmeas m d ∧ lmeas m d ≤ 1000 ∧ ∀ H', Same H H' → Q (.str (txt d)) H'
def spPart (K : PySem.W.Frag) (n : Nat) : Sp := fun vs H Q _ => ∃ (v : V) (d : PyData) (m : Nat), vs = [v] ∧ Dp K H v d ∧ gd 20 d = true ∧ m < n ∧ 1 ≤ lmeas m d ∧ lmeas m d ≤ 1000 ∧ ∀ H', Same H H' → Q (.str (ptx d)) H'
end Fv


namespace Fv
open PySem PySem.Spec PyProof.Rows L2 FvX
/-! ### dicts from texts to truth values -/
def kvB (ps : List (Str × Bool)) : List (Key × V) := ps.map fun p => (Sum.inr p.1, V.bl p.2)
def csB (ps : List (Str × Bool)) (x : Str) : Option Bool := (ps.find? fun p => decide (p.1 = x)).map (·.2)
theorem putK_new {kvs : List (Key × V)} {k : Key} {v : V} (h : ∀ kv ∈ kvs, kv.1 ≠ k) : putK kvs k v = kvs ++ [(k, v)] := by
  unfold putK
  rw [if_neg]
  intro z
  rw [List.any_eq_true] at z
  obtain ⟨kv, hk, e⟩ := z
  exact h kv hk (of_decide_eq_true e)
theorem merge_app : ∀ (more kvs : List (Key × V)), ((kvs ++ more).map (·.1)).Nodup → mergeK kvs more = kvs ++ more
  | [], kvs, _ => by rw [List.append_nil]; rfl
  | kv :: more, kvs, h => by
    have e : mergeK kvs (kv :: more) = mergeK (putK kvs kv.1 kv.2) more := rfl
    have h' : (((kvs ++ [kv]) ++ more).map (·.1)).Nodup := by rw [List.append_assoc]; exact h
    rw [e, putK_new, merge_app more (kvs ++ [kv]) h', List.append_assoc]
    · rfl
    · intro p hp z
      rw [List.map_append, List.map_cons] at h
      have := (List.nodup_append.mp h).2.2 p.1 (List.mem_map.mpr ⟨p, hp, rfl⟩) kv.1 (List.mem_cons_self ..)
      exact this z
theorem kvB_nodup {ps : List (Str × Bool)} (h : (ps.map (·.1)).Nodup) : ((kvB ps).map (·.1)).Nodup := by
  unfold kvB
  rw [List.map_map]
  have e : ps.map ((fun x : Key × V => x.1) ∘ fun p : Str × Bool => (Sum.inr p.1, V.bl p.2)) = (ps.map (·.1)).map (fun x => (Sum.inr x : Key)) := by
    rw [List.map_map]; rfl
  rw [e]
  exact List.Pairwise.map _ (fun a b hab z => hab (Sum.inr.inj z)) h
theorem merge_kvB {ps : List (Str × Bool)} (h : (ps.map (·.1)).Nodup) : mergeK [] (kvB ps) = kvB ps := by
  rw [merge_app _ _ (by rw [List.nil_append]; exact kvB_nodup h), List.nil_append]
theorem val_kvB : ∀ (ps : List (Str × Bool)) (x : Str), valV (kvB ps) (Sum.inr x) = (csB ps x).map V.bl
  | [], x => rfl
  | p :: ps, x => by
    have ih := val_kvB ps x
    unfold valV csB kvB at ih ⊢
    rw [List.map_cons, List.find?_cons, List.find?_cons]
    by_cases e : p.1 = x
    · rw [show decide ((Sum.inr p.1 : Key) = Sum.inr x) = true from decide_eq_true (congrArg _ e), decide_eq_true e]
      rfl
    · rw [show decide ((Sum.inr p.1 : Key) = Sum.inr x) = false from decide_eq_false (fun z => e (Sum.inr.inj z)), decide_eq_false e]
      exact ih
theorem cs_mem : ∀ {ps : List (Str × Bool)}, (ps.map (·.1)).Nodup → ∀ p ∈ ps, csB ps p.1 = some p.2
  | q :: ps, h, p, hp => by
    rw [List.map_cons, List.nodup_cons] at h
    unfold csB
    rw [List.find?_cons]
    rcases List.mem_cons.mp hp with e | e
    · subst e
      rw [decide_eq_true rfl]
      rfl
    · rw [decide_eq_false (fun z : q.1 = p.1 => h.1 (by rw [z]; exact List.mem_map.mpr ⟨p, e, rfl⟩))]
      exact cs_mem h.2 p e
theorem kvB_all {ps : List (Str × Bool)} (h : (ps.map (·.1)).Nodup) : ∀ p ∈ kvB ps, valV (kvB ps) p.1 = some p.2 ∧ flatB p.2 = true := fun p hp => by
  obtain ⟨q, hq, rfl⟩ := List.mem_map.mp hp
  exact ⟨by rw [val_kvB, cs_mem h q hq]; rfl, rfl⟩
/-! ### pairs that stay -/
theorem paired_smx {M : List Addr} {H H' : Hp} (s : SmX M H H') (hM : ∀ b ∈ M, ∃ xs, H b = some (.lst xs)) : ∀ {ps : List Addr} {kvs : List (Key × V)}, Paired (fun p kv => H p = some (.tup [kV kv.1, kv.2])) ps kvs → Paired (fun p kv => H' p = some (.tup [kV kv.1, kv.2])) ps kvs
  | _, _, .nil => .nil
  | _, _, .cons h t => .cons (s _ _ (fun hb => by
      obtain ⟨xs, e⟩ := hM _ hb
      rw [h] at e
      cases e) h) (paired_smx s hM t)
theorem paired_sqT {K : PySem.W.Frag} {H : Hp} : ∀ {ps : List Addr} {kvs : List (Key × V)}, Paired (fun p kv => H p = some (.tup [kV kv.1, kv.2])) ps kvs → Paired (fun p kv => SqT K H p [kV kv.1, kv.2]) ps kvs
  | _, _, .nil => .nil
  | _, _, .cons h t => .cons (SqT.of h) (paired_sqT t)
theorem paired_len {α β : Type} {F : α → β → Prop} : ∀ {ps : List α} {kvs : List β}, Paired F ps kvs → ps.length = kvs.length
  | _, _, .nil => rfl
  | _, _, .cons _ t => by rw [List.length_cons, List.length_cons, paired_len t]
/-! ### rows of texts -/
theorem lett_strs0 : ∀ {ys : List V}, (∀ y ∈ ys, lett y) → ∃ ss : List Str, ys = ss.map V.str ∧ ∀ x ∈ ss, x ∈ (["a", "b", "c", "d", "e", "f", "g", "h"] : List Str)
  | [], _ => ⟨[], rfl, fun x hx => nomatch hx⟩
  | y :: ys, h => by
    obtain ⟨x, rfl, hx⟩ := lett_data (h y (List.mem_cons_self ..))
    obtain ⟨ss, e, hs⟩ := lett_strs0 fun z hz => h z (List.mem_cons_of_mem _ hz)
    refine ⟨x :: ss, by rw [e]; rfl, fun z hz => ?_⟩
    rcases List.mem_cons.mp hz with q | q
    · rw [q]; exact hx
    · exact hs z q
theorem lett_strs {ys : List V} (h : ∀ y ∈ ys, lett y) (nd : ys.Nodup) : ∃ ss : List Str, ys = ss.map V.str ∧ ss.Nodup ∧ ∀ x ∈ ss, x ∈ (["a", "b", "c", "d", "e", "f", "g", "h"] : List Str) := by
  obtain ⟨ss, e, hs⟩ := lett_strs0 h
  refine ⟨ss, e, ?_, hs⟩
  rw [e] at nd
  exact List.Pairwise.of_map V.str (fun a b hab z => hab (congrArg V.str z)) nd
theorem inV_strs (x : Str) : ∀ ss : List Str, inV (.str x) (ss.map V.str) = decide (x ∈ ss)
  | [] => rfl
  | s :: ss => by
    have ih := inV_strs x ss
    unfold inV at ih ⊢
    rw [List.map_cons, List.any_cons, ih]
    show ((s == x) || decide (x ∈ ss)) = decide (x ∈ s :: ss)
    by_cases e : s = x
    · subst e; simp
    · have e1 : (s == x) = false := beq_eq_false_iff_ne.mpr e
      rw [e1, Bool.false_or]
      simp [List.mem_cons, show ¬ x = s from fun z => e z.symm]
theorem flat_strs (ss : List Str) : (ss.map V.str).all flatV = true := by
  rw [List.all_map]
  exact List.all_eq_true.mpr fun _ _ => rfl
end Fv


namespace Fv
open PySem PySem.Spec PyProof.Rows L2 FvX FvW TL




theorem call_lenK {X : Cx} {K : PySem.W.Frag} (hK : X.K = K) : CallR X (.builtin "len") (fun xs H Q => ∃ p ys, xs = [.ref p] ∧ (SqL K H p ys ∨ SqT K H p ys) ∧ Q (.int (ys.length : Nat)) H) := by
  subst hK
  exact call_len_seq
/-! ### values -/
def isBr : PyData → Bool
  | .str s => decide (s = "|")
  | _ => false
def opI' (ms : List Nat) (b : Bool) : Nat → Nat → Nat := if b = true then upI ms else lowI ms
def vl (ms : List Nat) (pl : Str → Nat) : Nat → PyData → Nat
  | 0, _ => 0
  | _ + 1, .str x => pl x
  | n + 1, .tuple (o :: d :: ds) => (ds.map (vl ms pl n)).foldl (opI' ms (isBr o)) (vl ms pl n d)
  | _ + 1, _ => 0
/-- a letter of a term -/
def ltIn : Nat → PyData → Str → Prop
  | 0, _, _ => False
  | _ + 1, .str y, x => x = y
  | n + 1, .tuple (_ :: ds), x => ∃ d ∈ ds, ltIn n d x
  | _ + 1, _, _ => False
def plOf (kvs : List (Key × V)) (pl : Str → Nat) (N m : Nat) (d : PyData) : Prop := ∀ x, ltIn m d x → valV kvs (Sum.inr x) = some (.int (pl x : Nat)) ∧ pl x < N
theorem opI_lt {ms : List Nat} (F : Fam ms) (b : Bool) {x y : Nat} (hx : x < ms.length) (hy : y < ms.length) : opI' ms b x y < ms.length := by
  unfold opI'
  cases b
  · exact (low_spec F hx hy).1
  · exact (up_spec F hx hy).1
theorem fold_lt {ms : List Nat} (F : Fam ms) (b : Bool) : ∀ (l : List Nat) (x : Nat), x < ms.length → (∀ y ∈ l, y < ms.length) → l.foldl (opI' ms b) x < ms.length
  | [], x, hx, _ => hx
  | y :: l, x, hx, h => fold_lt F b l _ (opI_lt F b hx (h y List.mem_cons_self)) fun z hz => h z (List.mem_cons_of_mem _ hz)
theorem vl_lt {ms : List Nat} (F : Fam ms) {pl : Str → Nat} : ∀ (m : Nat) (d : PyData), 1 ≤ lmeas m d → (∀ x, ltIn m d x → pl x < ms.length) → vl ms pl m d < ms.length
  | 0, d, h, _ => by simp only [lmeas] at h; omega
  | m + 1, d, h, hp => by
    rcases lmeas_inv h with ⟨x, rfl, hx⟩ | ⟨o, ds, rfl, nl, ho, h2, all1, e⟩
    · exact hp x rfl
    · match ds, h2, all1, hp with
      | d0 :: ds, h2, all1, hp =>
        refine fold_lt F _ _ _ (vl_lt F m d0 (all1 d0 List.mem_cons_self) fun x hx => hp x ⟨d0, List.mem_cons_self, hx⟩) fun y hy => ?_
        obtain ⟨d', hd', rfl⟩ := List.mem_map.mp hy
        exact vl_lt F m d' (all1 d' (List.mem_cons_of_mem _ hd')) fun x hx => hp x ⟨d', List.mem_cons_of_mem _ hd', hx⟩
theorem br_dec (o : Str) : decide (V.str o = V.str "|") = isBr (.str o) := by
  show _ = decide (o = "|")
  rw [Bool.eq_iff_iff, decide_eq_true_eq, decide_eq_true_eq]
  exact ⟨V.str.inj, congrArg V.str⟩
theorem dpAll_getD {K : PySem.W.Frag} {H : Hp} : ∀ {vs : List V} {ds : List PyData} {i : Nat} {d : PyData}, DpAll K H vs ds → ds[i]? = some d → ∃ v, vs[i]? = some v ∧ Dp K H v d
  | _, _, _, _, .nil, e => by simp at e
  | _, _, 0, _, .cons h _, e => by simp at e; subst e; exact ⟨_, rfl, h⟩
  | _ :: vs, _ :: ds, i + 1, _, .cons _ h, e => by
    have e' : ds[i]? = some _ := e
    obtain ⟨v, hv, hD⟩ := dpAll_getD (vs := vs) (ds := ds) h e'
    exact ⟨v, hv, hD⟩
/-- the tables of a board -/
theorem tabs_inv {K : PySem.W.Frag} {H : Hp} {v : V} {ms : List Nat} (h : Dp K H v (tabsD ms)) : ∃ T lo up, v = .ref T ∧ SqT K H T [.ref lo, .ref up] ∧ Dp K H (.ref lo) (tabD ms.length (lowI ms)) ∧ Dp K H (.ref up) (tabD ms.length (upI ms)) := by
  cases h with
  | tup hs ha => cases ha with
    | cons h1 ha => cases ha with
      | cons h2 ha =>
        cases ha
        cases h1 with
        | lst a b => cases h2 with
          | lst c d => exact ⟨_, _, _, rfl, hs, .lst a b, .lst c d⟩
theorem tab_ix {K : PySem.W.Frag} {H : Hp} {ta : Addr} {n x : Nat} {g : Nat → Nat → Nat} (h : Dp K H (.ref ta) (tabD n g)) (hx : x < n) : ∃ xs b, SqL K H ta xs ∧ xs.length = n ∧ atI xs ((x : Nat) : Int) = some (.ref b) ∧ Dp K H (.ref b) (rowD n (g x)) := by
  cases h with
  | lst hs ha =>
    have hd : ((List.range n).map fun x => rowD n (g x))[x]? = some (rowD n (g x)) := by rw [List.getElem?_map, List.getElem?_range hx]; rfl
    obtain ⟨v, hv, hD⟩ := dpAll_getD ha hd
    have hl := dpAll_len ha
    rw [List.length_map, List.length_range] at hl
    have hD' := hD
    cases hD with
    | lst a b => exact ⟨_, _, hs, hl, atI_nat hv, hD'⟩
theorem row_ix' {K : PySem.W.Frag} {H : Hp} {b : Addr} {n y : Nat} {g : Nat → Nat} (h : Dp K H (.ref b) (rowD n g)) (hy : y < n) : ∃ ys, SqL K H b ys ∧ atI ys ((y : Nat) : Int) = some (.int (g y : Nat)) := by
  cases h with
  | lst hs ha =>
    have hd : ((List.range n).map fun y => PyData.int (g y : Nat))[y]? = some (.int (g y : Nat)) := by rw [List.getElem?_map, List.getElem?_range hy]; rfl
    obtain ⟨v, hv, hD⟩ := dpAll_getD ha hd
    cases hD
    exact ⟨_, hs, atI_nat hv⟩
theorem Src.lst0 {H : Hp} {a L : Addr} {ns : List Int} (h : Src H a L ns) : ∀ b ∈ [a], ∃ xs, H b = some (.lst xs) := fun b hb => by
  obtain ⟨_, _, _, _, e, _⟩ := h
  rw [List.mem_singleton.mp hb]
  exact ⟨_, e⟩
theorem cut_drop2 (xs : List V) : cutV xs (some 2) none = xs.drop 2 := by
  unfold cutV
  rw [show HT.sIx xs.length 0 (some 2) = min 2 xs.length from HT.sIx_nat xs.length 0 2, HT.sIx_none]
  match xs with
  | [] => rfl
  | [a] => rfl
  | a :: b :: r =>
    rw [show min 2 (a :: b :: r).length = 2 by simp only [List.length_cons]; omega]
    exact List.take_of_length_le (by simp)
def kvI (ps : List (Str × Nat)) : List (Key × V) := ps.map fun p => (Sum.inr p.1, V.int (p.2 : Nat))
def spVal (K : PySem.W.Frag) (n : Nat) : Sp := fun vs H Q _ => ∃ (vt v : V) (c : Addr) (d : PyData) (m : Nat) (kvs : List (Key × V)) (pl : Str → Nat) (ms : List Nat), vs = [vt, v, .ref c] ∧ Dp K H vt (tabsD ms) ∧ Fam ms ∧ Dp K H v d ∧ m < n ∧ 1 ≤ lmeas m d ∧ H c = some (.dK kvs) ∧ plOf kvs pl ms.length m d ∧
  ∀ H', Same H H' → Q (.int (vl ms pl m d : Nat)) H'
def spSpr (K : PySem.W.Frag) : Sp := fun vs H Q _ => ∃ (vt : V) (ms : List Nat), vs = [vt] ∧ Dp K H vt (tabsD ms) ∧ Fam ms ∧ ∀ (H' : Hp) (b : Bool), Same H H' → (b = true ↔ Spr ms) → Q (.bl b) H'
def spKeeps (K : PySem.W.Frag) : Sp := fun vs H Q _ => ∃ (r c : Addr) (vt v1 v2 : V) (d1 d2 : PyData) (kvs : List (Key × V)) (pl : Str → Nat) (ms : List Nat), vs = [.ref r, vt, v1, v2, .ref c] ∧ SqL K H r ((rowsOf ms).map V.str) ∧ Dp K H vt (tabsD ms) ∧ Fam ms ∧ Dp K H v1 d1 ∧ Dp K H v2 d2 ∧ 1 ≤ lmeas 5 d1 ∧ 1 ≤ lmeas 5 d2 ∧ H c = some (.dK kvs) ∧ plOf kvs pl ms.length 5 d1 ∧ plOf kvs pl ms.length 5 d2 ∧
  ∀ H', Same H H' → Q (.bl (leI ms (vl ms pl 5 d1) (vl ms pl 5 d2))) H'
def spPlaced (K : PySem.W.Frag) : Sp := fun vs H Q _ => ∃ (a L sg r : Addr) (ns : List Int) (ss : List Str) (xs : List V), vs = [.ref a, .ref sg, .ref r] ∧ Src H a L ns ∧ H sg = some (.lst (ss.map V.str)) ∧ sg ≠ a ∧ ss.Nodup ∧ ss.length ≤ 8 ∧ H r = some (.lst xs) ∧ r ≠ a ∧ 1 ≤ xs.length ∧ xs.length ≤ 60 ∧
  ∀ (H' : Hp) (c : Addr) (ps : List (Str × Nat)), ps.map (·.1) = ss → (∀ p ∈ ps, p.2 < xs.length) → H c = none → H' c = some (.dK (kvI ps)) → Src H' a L ns → SmX [a] H H' → Q (.ref c) H'
theorem kvI_nodup {ps : List (Str × Nat)} (h : (ps.map (·.1)).Nodup) : ((kvI ps).map (·.1)).Nodup := by
  unfold kvI
  rw [List.map_map]
  have e : ps.map ((fun x : Key × V => x.1) ∘ fun p : Str × Nat => (Sum.inr p.1, V.int (p.2 : Nat))) = (ps.map (·.1)).map (fun x => (Sum.inr x : Key)) := by
    rw [List.map_map]; rfl
  rw [e]
  exact List.Pairwise.map _ (fun a b hab z => hab (Sum.inr.inj z)) h
theorem merge_kvI {ps : List (Str × Nat)} (h : (ps.map (·.1)).Nodup) : mergeK [] (kvI ps) = kvI ps := by
  rw [merge_app _ _ (by rw [List.nil_append]; exact kvI_nodup h), List.nil_append]
def plI (ps : List (Str × Nat)) (x : Str) : Nat := ((ps.find? fun p => decide (p.1 = x)).map (·.2)).getD 0
theorem val_kvI : ∀ (ps : List (Str × Nat)) (x : Str), x ∈ ps.map (·.1) → valV (kvI ps) (Sum.inr x) = some (.int (plI ps x : Nat)) ∧ ∃ p ∈ ps, plI ps x = p.2
  | [], x, h => by cases h
  | p :: ps, x, h => by
    by_cases e : p.1 = x
    · refine ⟨?_, p, List.mem_cons_self, ?_⟩
      · unfold valV kvI plI
        rw [List.map_cons, List.find?_cons, List.find?_cons, show decide ((Sum.inr p.1 : Key) = Sum.inr x) = true from decide_eq_true (congrArg _ e), decide_eq_true e]
        rfl
      · unfold plI
        rw [List.find?_cons, decide_eq_true e]
        rfl
    · have h' : x ∈ ps.map (·.1) := by
        rcases List.mem_cons.mp h with z | z
        · exact absurd z.symm e
        · exact z
      obtain ⟨a, q, hq, b⟩ := val_kvI ps x h'
      have e2 : plI (p :: ps) x = plI ps x := by
        unfold plI
        rw [List.find?_cons, decide_eq_false e]
      refine ⟨?_, q, List.mem_cons_of_mem _ hq, by rw [e2]; exact b⟩
      rw [e2, ← a]
      unfold valV kvI
      rw [List.map_cons, List.find?_cons, show decide ((Sum.inr p.1 : Key) = Sum.inr x) = false from decide_eq_false (fun z => e (Sum.inr.inj z))]
theorem bl_int {lo up : Addr} (b : Bool) : atI ([.ref lo, .ref up] : List V) (if b = true then (1 : Int) else 0) = some (.ref (if b = true then up else lo)) := by
  cases b
  · exact at0
  · exact atI_nat (j := 1) rfl
section
variable {P : Program} {w : World} {K : PySem.W.Frag} {mg : Str → Option Value} {base : Heap}
theorem val_zero {f : Addr} {fd : FuncData} {k : Nat} {ps : List Str} : FnOk P w K mg base CX0 k f fd ps (spVal K 0) := by
  have no : ∀ vs H Q E, ¬ spVal K 0 vs H Q E := fun vs H Q E h => by
    obtain ⟨_, _, _, _, _, _, _, _, _, _, _, _, h, _⟩ := h
    omega
  exact ⟨fun vs H Q E h => absurd h (no vs H Q E), fun A outer s H args us vs Q E _ _ _ _ h => absurd h (no vs H Q E)⟩
end
end Fv


/-! faults: find_ladder, find_fan, find_fault -/
namespace FvO
open PySem PySem.Spec PyProof.Rows L2 Fv FvW FvX TL
open FvK (pe_fldK)
-- top 7  slots: 0:covers 1:above 2:below 3:highs 4:o 5:mask 6:sides 7:x 8:z 9:i
abbrev s_find_ladder : Stmt := topS 7
abbrev N_find_ladder : List Str := ["covers", "above", "below", "highs", "o", "mask", "sides", "x", "z", "i"]
theorem sc_find_ladder : FnScope N_find_ladder ["covers", "above", "below", "highs"] (defScope s_find_ladder) := ⟨rfl, rfl, rfl, by decide +kernel, rfl, by decide +kernel, by decide +kernel⟩

-- top 8  slots: 0:covers 1:below 2:highs 3:o 4:mask 5:sides 6:x 7:y 8:i 9:rest
abbrev s_find_fan : Stmt := topS 8
abbrev N_find_fan : List Str := ["covers", "below", "highs", "o", "mask", "sides", "x", "y", "i", "rest"]
theorem sc_find_fan : FnScope N_find_fan ["covers", "below", "highs"] (defScope s_find_fan) := ⟨rfl, rfl, rfl, by decide +kernel, rfl, by decide +kernel, by decide +kernel⟩

-- top 5  slots: 0:board 1:uppers 2:found 3:i 4:y 5:x 6:z 7:o
abbrev s_find_fault : Stmt := topS 5
abbrev N_find_fault : List Str := ["board", "uppers", "found", "i", "y", "x", "z", "o"]
theorem sc_find_fault : FnScope N_find_fault ["board"] (defScope s_find_fault) := ⟨rfl, rfl, rfl, by decide +kernel, rfl, by decide +kernel, by decide +kernel⟩

theorem tab_ixF {K : PySem.W.Frag} {H : Hp} {p : Addr} {n x : Nat} {g : Nat → Nat → Nat} (h : Dp K H (.ref p) (tabD n g)) (hx : x < n) : ∃ xs b, SqL K H p xs ∧ atI xs ((x : Nat) : Int) = some (.ref b) ∧ Dp K H (.ref b) (rowD n (g x)) := by
  cases h with
  | lst hs ha =>
    have hd : ((List.range n).map fun x => rowD n (g x))[x]? = some (rowD n (g x)) := by rw [List.getElem?_map, List.getElem?_range hx]; rfl
    obtain ⟨v, hv, hD⟩ := dpAll_getD ha hd
    obtain ⟨b, rfl⟩ : ∃ b, v = .ref b := by cases hD; exact ⟨_, rfl⟩
    exact ⟨_, b, hs, atI_nat hv, hD⟩
theorem row_ixF {K : PySem.W.Frag} {H : Hp} {b : Addr} {n y : Nat} {g : Nat → Nat} (h : Dp K H (.ref b) (rowD n g)) (hy : y < n) : ∃ ys, SqL K H b ys ∧ atI ys ((y : Nat) : Int) = some (.int (g y : Nat)) := by
  cases h with
  | lst hs ha =>
    have hd : ((List.range n).map fun y => PyData.int (g y : Nat))[y]? = some (.int (g y : Nat)) := by rw [List.getElem?_map, List.getElem?_range hy]; rfl
    obtain ⟨v, hv, hD⟩ := dpAll_getD ha hd
    cases hD
    exact ⟨_, hs, atI_nat hv⟩
def five (o x y z i : Nat) : List V := [.int (o : Nat), .int (x : Nat), .int (y : Nat), .int (z : Nat), .int (i : Nat)]
def CandL (n : Nat) (b : Nat → Nat → Bool) (hi : Nat → Nat → Nat) (o x z : Nat) : Prop := o < n ∧ x < n ∧ z < n ∧ Cov n b o x ∧ Cov n b o z ∧ x ≠ z ∧ ¬ Cov n b x (hi x z)
def CandF (n : Nat) (b : Nat → Nat → Bool) (hi : Nat → Nat → Nat) (o x y : Nat) : Prop := o < n ∧ x < n ∧ y < n ∧ Cov n b o x ∧ Cov n b o y ∧ x ≠ y ∧ ∃ z, z < n ∧ Cov n b o z ∧ z ≠ x ∧ z ≠ y ∧ b z (hi x y) = true
def lexB (o x z o' x' z' : Nat) : Prop := o < o' ∨ (o = o' ∧ (x < x' ∨ (x = x' ∧ z ≤ z')))
theorem lex_anti {o x z o' x' z' : Nat} (h : lexB o x z o' x' z') (g : lexB o' x' z' o x z) : o = o' ∧ x = x' ∧ z = z' := by
  unfold lexB at h g
  omega
/-- what find_ladder finds -/
structure LadF (n : Nat) (b : Nat → Nat → Bool) (hi : Nat → Nat → Nat) (o x y z : Nat) : Prop where
  ho : o < n
  hx : x < n
  hy : y < n
  hz : z < n
  cx : Cov n b o x
  cz : Cov n b o z
  ne : x ≠ z
  xy : b x y = true
  yi : b y (hi x z) = true
  n1 : y ≠ x
  n2 : y ≠ hi x z
  ym : ∀ y', y' < n → b x y' = true → b y' (hi x z) = true → y' ≠ x → y' ≠ hi x z → y ≤ y'
  nc : ¬ Cov n b x (hi x z)
  fst : ∀ o' x' z', CandL n b hi o' x' z' → lexB o x z o' x' z'
structure FanF (n : Nat) (b : Nat → Nat → Bool) (hi : Nat → Nat → Nat) (o x y z : Nat) : Prop where
  ho : o < n
  hx : x < n
  hy : y < n
  hz : z < n
  cx : Cov n b o x
  cy : Cov n b o y
  cz : Cov n b o z
  n1 : x ≠ y
  n2 : z ≠ x
  n3 : z ≠ y
  zi : b z (hi x y) = true
  zm : ∀ z', z' < n → Cov n b o z' → b z' (hi x y) = true → z' ≠ x → z' ≠ y → z ≤ z'
  fst : ∀ o' x' y', CandF n b hi o' x' y' → lexB o x y o' x' y'
theorem LadF.uniq {n : Nat} {b : Nat → Nat → Bool} {hi : Nat → Nat → Nat} {o x y z o' x' y' z' : Nat} (h : LadF n b hi o x y z) (g : LadF n b hi o' x' y' z') : o = o' ∧ x = x' ∧ y = y' ∧ z = z' := by
  have c : CandL n b hi o x z := ⟨h.ho, h.hx, h.hz, h.cx, h.cz, h.ne, h.nc⟩
  have d : CandL n b hi o' x' z' := ⟨g.ho, g.hx, g.hz, g.cx, g.cz, g.ne, g.nc⟩
  obtain ⟨rfl, rfl, rfl⟩ := lex_anti (h.fst _ _ _ d) (g.fst _ _ _ c)
  have := h.ym _ g.hy g.xy g.yi g.n1 g.n2
  have := g.ym _ h.hy h.xy h.yi h.n1 h.n2
  exact ⟨rfl, rfl, by omega, rfl⟩
theorem FanF.uniq {n : Nat} {b : Nat → Nat → Bool} {hi : Nat → Nat → Nat} {o x y z o' x' y' z' : Nat} (h : FanF n b hi o x y z) (g : FanF n b hi o' x' y' z') : o = o' ∧ x = x' ∧ y = y' ∧ z = z' := by
  have c : CandF n b hi o x y := ⟨h.ho, h.hx, h.hy, h.cx, h.cy, h.n1, z, h.hz, h.cz, h.n2, h.n3, h.zi⟩
  have d : CandF n b hi o' x' y' := ⟨g.ho, g.hx, g.hy, g.cx, g.cy, g.n1, z', g.hz, g.cz, g.n2, g.n3, g.zi⟩
  obtain ⟨rfl, rfl, rfl⟩ := lex_anti (h.fst _ _ _ d) (g.fst _ _ _ c)
  have := h.zm _ g.hz g.cz g.zi g.n2 g.n3
  have := g.zm _ h.hz h.cz h.zi h.n2 h.n3
  exact ⟨rfl, rfl, rfl, by omega⟩
theorem LadF.noU {n : Nat} {b : Nat → Nat → Bool} {hi : Nat → Nat → Nat} {o x y z : Nat} (h : LadF n b hi o x y z) (U : UpC n b hi) : False := h.nc (U o x z h.ho h.hx h.hz h.cx h.cz h.ne)
theorem asc_take {l : List Nat} (asc : l.Pairwise (· < ·)) {j x w : Nat} (hx : l[j]? = some x) (hw : w ∈ l) (lt : w < x) : w ∈ l.take j := by
  obtain ⟨i, hi, rfl⟩ := List.getElem_of_mem hw
  obtain ⟨hj, e⟩ := List.getElem?_eq_some_iff.mp hx
  rcases Nat.lt_or_ge i j with c | c
  · exact List.mem_take_iff_getElem.mpr ⟨i, by omega, rfl⟩
  · rcases Nat.lt_or_ge j i with d | d
    · have := List.pairwise_iff_getElem.mp asc j i hj hi d
      omega
    · have : i = j := by omega
      subst this
      omega
/-- a ladder, a fan -/
structure LadR (n : Nat) (b : Nat → Nat → Bool) (lo hi : Nat → Nat → Nat) (o x y z i : Nat) : Prop where
  lt : o < n ∧ x < n ∧ y < n ∧ z < n ∧ i < n
  nd : [o, x, y, z, i].Nodup
  xy : b x y = true
  l1 : lo x z = o
  l2 : lo y z = o
  h1 : hi x z = i
  h2 : hi y z = i
structure FanR (n : Nat) (lo hi : Nat → Nat → Nat) (o x y z i : Nat) : Prop where
  lt : o < n ∧ x < n ∧ y < n ∧ z < n ∧ i < n
  nd : [o, x, y, z, i].Nodup
  l1 : lo x y = o
  l2 : lo x z = o
  l3 : lo y z = o
  h1 : hi x y = i
  h2 : hi x z = i
  h3 : hi y z = i
/-- the fault that is found: one alone -/
def FltIs (n : Nat) (b : Nat → Nat → Bool) (lo hi : Nat → Nat → Nat) (lad : Bool) (o x y z i : Nat) : Prop :=
  (lad = true ∧ LadF n b hi o x y z ∧ i = hi x z) ∨ (lad = true ∧ UpC n b hi ∧ LadF n (fun x y => b y x) lo i y x z ∧ o = lo y z) ∨ (lad = false ∧ UpC n b hi ∧ UpC n (fun x y => b y x) lo ∧ FanF n b hi o x y z ∧ i = hi x y)
theorem FltIs.uniq {n : Nat} {b : Nat → Nat → Bool} {lo hi : Nat → Nat → Nat} {lad lad' : Bool} {o x y z i o' x' y' z' i' : Nat} (h : FltIs n b lo hi lad o x y z i) (g : FltIs n b lo hi lad' o' x' y' z' i') : lad = lad' ∧ o = o' ∧ x = x' ∧ y = y' ∧ z = z' ∧ i = i' := by
  rcases h with ⟨rfl, h, rfl⟩ | ⟨rfl, U, h, rfl⟩ | ⟨rfl, U, V, h, rfl⟩
  · rcases g with ⟨rfl, g, rfl⟩ | ⟨rfl, U', g, rfl⟩ | ⟨rfl, U', V', g, rfl⟩
    · obtain ⟨rfl, rfl, rfl, rfl⟩ := h.uniq g; exact ⟨rfl, rfl, rfl, rfl, rfl, rfl⟩
    · exact (h.noU U').elim
    · exact (h.noU U').elim
  · rcases g with ⟨rfl, g, rfl⟩ | ⟨rfl, U', g, rfl⟩ | ⟨rfl, U', V', g, rfl⟩
    · exact (g.noU U).elim
    · obtain ⟨rfl, rfl, rfl, rfl⟩ := h.uniq g; exact ⟨rfl, rfl, rfl, rfl, rfl, rfl⟩
    · exact (h.noU V').elim
  · rcases g with ⟨rfl, g, rfl⟩ | ⟨rfl, U', g, rfl⟩ | ⟨rfl, U', V', g, rfl⟩
    · exact (g.noU U).elim
    · exact (g.noU V).elim
    · obtain ⟨rfl, rfl, rfl, rfl⟩ := h.uniq g; exact ⟨rfl, rfl, rfl, rfl, rfl, rfl⟩
/-- a fault that is handed out -/
def faultV (H : Hp) (v : V) (k : Str) (o x y z i : Nat) : Prop := ∃ t t2 : Addr, v = .ref t ∧ H t = some (.tup [.str k, .ref t2]) ∧ H t2 = some (.tup (five o x y z i))
def spFault (K : PySem.W.Frag) (C : Addr) : Sp := fun vs H Q _ => ∃ (c : Addr) (L : BL) (n : Nat) (b : Nat → Nat → Bool) (lo hi : Nat → Nat → Nat) (bt tp : Nat), vs = [.ref c] ∧ BAt K C H c L n b lo hi ∧ Brd n b lo hi bt tp ∧ L.tp = tp ∧
  (SprB n lo hi → ∀ H', Same H H' → Q .non H') ∧
  (∀ o x y z i, ¬ SprB n lo hi → LadR n b lo hi o x y z i → FltIs n b lo hi true o x y z i → ∀ (H' : Hp) (v : V), Same H H' → faultV H' v "ladder" o x y z i → Q v H') ∧
  (∀ o x y z i, ¬ SprB n lo hi → FanR n lo hi o x y z i → (∀ x y z, ¬ LadB n b lo hi x y z) → FltIs n b lo hi false o x y z i → ∀ (H' : Hp) (v : V), Same H H' → faultV H' v "fan" o x y z i → Q v H')
def spLad (K : PySem.W.Frag) : Sp := fun vs H Q _ => ∃ (cv ab be hs : Addr) (n : Nat) (b : Nat → Nat → Bool) (lo hi : Nat → Nat → Nat) (bt tp : Nat), vs = [.ref cv, .ref ab, .ref be, .ref hs] ∧ SqL K H cv (natsV (covL n b)) ∧ SqL K H ab (natsV (abvL n b)) ∧ SqL K H be (natsV (blwL n b)) ∧ Dp K H (.ref hs) (tabD n hi) ∧ n ≤ 60 ∧ Two n b lo hi bt tp ∧
  (UpC n b hi → ∀ H', Same H H' → Q .non H') ∧ (∀ o x y z, LadF n b hi o x y z → ∀ (H' : Hp) (t : Addr), Same H H' → H' t = some (.tup (five o x y z (hi x z))) → Q (.ref t) H')
def spFanF (K : PySem.W.Frag) : Sp := fun vs H Q _ => ∃ (cv be hs : Addr) (n : Nat) (b : Nat → Nat → Bool) (lo hi : Nat → Nat → Nat) (bt tp : Nat), vs = [.ref cv, .ref be, .ref hs] ∧ SqL K H cv (natsV (covL n b)) ∧ SqL K H be (natsV (blwL n b)) ∧ Dp K H (.ref hs) (tabD n hi) ∧ n ≤ 60 ∧ Two n b lo hi bt tp ∧
  (NoFan n b hi → ∀ H', Same H H' → Q .non H') ∧ (∀ o x y z, FanF n b hi o x y z → ∀ (H' : Hp) (t : Addr), Same H H' → H' t = some (.tup (five o x y z (hi x y))) → Q (.ref t) H')
theorem maskF_60 {n : Nat} {f : Nat → Bool} (h : n ≤ 60) : maskF n f < 2 ^ 60 := Nat.lt_of_lt_of_le (maskF_lt n f) (Nat.pow_le_pow_right (by decide) h)
theorem bit_mask {n i : Nat} {f : Nat → Bool} (h : i < n) : Nat.testBit (maskF n f) i = f i := by rw [maskF_bit, decide_eq_true h, Bool.true_and]
section
variable {n : Nat} {b : Nat → Nat → Bool} {lo hi : Nat → Nat → Nat} {bt tp : Nat}
/-- the mask of what stands between -/
theorem mid_mask (T : Two n b lo hi bt tp) {x i : Nat} (hx : x < n) (h : i < n) (xi : b x i = true) :
    Builtin.bitXor (Builtin.bitAnd ((maskF n (b x) : Nat) : Int) ((maskF n (fun y => b y i) : Nat) : Int)) (Builtin.bitOr ((1 : Int) * 2 ^ ((x : Nat) : Int).toNat) ((1 : Int) * 2 ^ ((i : Nat) : Int).toNat)) = ((maskF n fun y => (b x y && b y i) && !(decide (y = x) || decide (y = i)) : Nat) : Int) := by
  rw [bitAnd_nat, mask_and, mask_two hx h]
  refine bitXor_sub fun y _ e => ?_
  rw [Bool.or_eq_true_iff, decide_eq_true_iff, decide_eq_true_iff] at e
  rcases e with e | e
  · rw [e, T.u.rf x hx, xi]; rfl
  · rw [e, T.u.rf i h, xi]; rfl
theorem mid_ex (T : Two n b lo hi bt tp) {o x z : Nat} (ho : o < n) (hx : x < n) (hz : z < n) (cx : Cov n b o x) (cz : Cov n b o z) (ne : x ≠ z) (nc : cvB n b x (hi x z) = false) : 0 < maskF n fun y => (b x y && b y (hi x z)) && !(decide (y = x) || decide (y = hi x z)) := by
  have B := T.u
  have hu := (B.hi x z hx hz).1
  refine Nat.pos_of_ne_zero fun e => ?_
  have e := mask_none.mp e
  have xi : x ≠ hi x z := fun e' => by
    rcases cx.2.2 z hz cz.1 (by have := (B.hi_u hx hz).2; rw [← e'] at this; exact this) with h | h
    · exact cz.2.1 h.symm
    · exact ne h.symm
  have c : cvB n b x (hi x z) = true := (cvB_iff B.rf hx hu).mpr ⟨(B.hi_u hx hz).1, xi, fun y hy h1 h2 => by
    have := e y hy
    rw [h1, h2] at this
    by_cases a : y = x
    · exact .inl a
    · by_cases c : y = hi x z
      · exact .inr c
      · simp [a, c] at this⟩
  rw [nc] at c; cases c
theorem mid_of {x i y : Nat} (h : Nat.testBit (maskF n fun y => (b x y && b y i) && !(decide (y = x) || decide (y = i))) y = true) : y < n ∧ b x y = true ∧ b y i = true ∧ y ≠ x ∧ y ≠ i := by
  rw [maskF_bit] at h
  simp only [Bool.and_eq_true, decide_eq_true_iff, Bool.not_eq_true', Bool.or_eq_false_iff, decide_eq_false_iff_not] at h
  exact ⟨h.1, h.2.1.1, h.2.1.2, h.2.2.1, h.2.2.2⟩
/-- the mask of what else stands right above, below the up of two -/
theorem fan_mask (T : Two n b lo hi bt tp) {o x y : Nat} (ho : o < n) (hx : x < n) (hy : y < n) (cx : Cov n b o x) (cy : Cov n b o y) :
    Builtin.bitXor (Builtin.bitAnd ((maskF n (cvB n b o) : Nat) : Int) ((maskF n (fun z => b z (hi x y)) : Nat) : Int)) (Builtin.bitOr ((1 : Int) * 2 ^ ((x : Nat) : Int).toNat) ((1 : Int) * 2 ^ ((y : Nat) : Int).toNat)) = ((maskF n fun z => (cvB n b o z && b z (hi x y)) && !(decide (z = x) || decide (z = y)) : Nat) : Int) := by
  rw [bitAnd_nat, mask_and, mask_two hx hy]
  refine bitXor_sub fun z _ e => ?_
  rw [Bool.or_eq_true_iff, decide_eq_true_iff, decide_eq_true_iff] at e
  rcases e with e | e
  · rw [e, (cvB_iff T.u.rf ho hx).mpr cx, (T.u.hi_u hx hy).1]; rfl
  · rw [e, (cvB_iff T.u.rf ho hy).mpr cy, (T.u.hi_u hx hy).2]; rfl
theorem fan_bit {o i x y z : Nat} : Nat.testBit (maskF n fun z => (cvB n b o z && b z i) && !(decide (z = x) || decide (z = y))) z = true ↔ z < n ∧ cvB n b o z = true ∧ b z i = true ∧ z ≠ x ∧ z ≠ y := by
  rw [maskF_bit]
  simp only [Bool.and_eq_true, decide_eq_true_iff, Bool.not_eq_true', Bool.or_eq_false_iff, decide_eq_false_iff_not]
  exact ⟨fun h => ⟨h.1, h.2.1.1, h.2.1.2, h.2.2.1, h.2.2.2⟩, fun h => ⟨h.1, ⟨h.2.1, h.2.2.1⟩, h.2.2.2⟩⟩
end
theorem mem_take_succ {l : List Nat} {j z : Nat} (h : l[j]? = some z) {w : Nat} (hw : w ∈ l.take (j + 1)) : w ∈ l.take j ∨ w = z := by
  rw [List.take_add_one, h, List.mem_append] at hw
  exact hw.imp id fun e => List.mem_singleton.mp e
section
variable {P : Program} {w : World} {K : PySem.W.Frag} {mg : Str → Option Value} {base : Heap} {C : Addr}
theorem ok_lad {f : Addr} {fd : FuncData} {k : Nat} (F : Fun K "find_ladder" "find_ladder" s_find_ladder f fd) (hk : 1 ≤ k) (m_enumerate : mg "enumerate" = none)
    (C_indexes_in : Own P w K mg base 1 "indexes_in" ["mask"] spIdxF) (C_first_in : Own P w K mg base 1 "first_in" ["mask"] spFst) :
    FnOk P w K mg base CX0 (k + 1) f fd ["covers", "above", "below", "highs"] (spLad K) := by
  refine F.ok sc_find_ladder (fun vs H Q E h => ?_) (fun cdv A outer s H vs Q E hr h => ?_)
  · obtain ⟨cv, ab, be, hs, n, b, lo, hi, bt, tp, rfl, _⟩ := h
    rfl
  · obtain ⟨cv, ab, be, hs, n, b, lo, hi, bt, tp, rfl, hcv, hab, hbe, hhs, n60, T, none, found⟩ := h
    refine ⟨_, (pss_cons (ps_for PassesOwn.never rfl (pi_enum (by rfl) m_enumerate (pa_cons (pv 0) pa_nil)) (pg_tup rfl (pgs_cons (pg_name (i := 4) sc_find_ladder.nd rfl (by first | exact .inl rfl | exact .inr rfl)) (pgs_cons (pg_name (i := 5) sc_find_ladder.nd rfl (by first | exact .inl rfl | exact .inr rfl)) pgs_nil)))
        (pss_cons (ps_set (i := 6) sc_find_ladder.nd rfl (by first | exact .inl rfl | exact .inr rfl) (pe_own C_indexes_in (hr.mono (by omega)) (by rfl) (pa_cons (pv 5) pa_nil)))
        (pss_one (ps_for PassesOwn.never rfl (pi_list (pv 6)) (pg_name (i := 7) sc_find_ladder.nd rfl (by first | exact .inl rfl | exact .inr rfl))
          (pss_one (ps_for PassesOwn.never rfl (pi_list (pv 6)) (pg_name (i := 8) sc_find_ladder.nd rfl (by first | exact .inl rfl | exact .inr rfl))
            (pss_cons (ps_set (i := 9) sc_find_ladder.nd rfl (by first | exact .inl rfl | exact .inr rfl) (pe_ix ix_list (pe_ix ix_list (pv 3) (pv 7) (fun _ _ => rfl)) (pv 8) (fun _ _ => rfl)))
            (pss_one (ps_if (PW.pt (pw_and (pt_not (pt_truthF (K := K) rfl (pe_op L2.op_and (pe_op op_shr (pe_ix ix_list (pv 0) (pv 7) (fun _ _ => rfl)) (pv 9)) pe_int) (by intro _; rfl))) (pw_and1 (pt_cmpR op_ne (pv 7) (pv 8) (nomark _)))))
              (pss_one (ps_ret (pe_tup (pa_cons (pv 4) (pa_cons (pv 7) (pa_cons (pe_own C_first_in (hr.mono (by omega)) (by rfl) (pa_cons (pe_op op_xor (pe_op L2.op_and (pe_ix ix_list (pv 1) (pv 7) (fun _ _ => rfl)) (pe_ix ix_list (pv 2) (pv 9) (fun _ _ => rfl))) (pe_op L2.op_or (pe_op op_shl pe_int (pv 7)) (pe_op op_shl pe_int (pv 9)))) pa_nil)) (pa_cons (pv 8) (pa_cons (pv 9) pa_nil))))))))
              pss_nil)))))))))
      (pss_one (ps_ret pe_non))), ?_⟩
    have B := T.u
    have lcv : (natsV (covL n b)).length = n := natsL_len n _
    refine ⟨_, rfl, cv, _, rfl, hcv, for_it (walk_enum (xs := natsV (covL n b))) (fun i σ H' => ∃ y4 y5 y6 y7 y8 y9 : Option V, σ = [some (.ref cv), some (.ref ab), some (.ref be), some (.ref hs), y4, y5, y6, y7, y8, y9] ∧ Same H H' ∧ ∀ o, o < i → ∀ x z, x < n → z < n → Cov n b o x → Cov n b o z → x ≠ z → Cov n b x (hi x z)) ?_ ?_ ?_ ?_⟩
    · exact ⟨_, _, _, _, _, _, rfl, Same.refl _, fun o h => absurd h (Nat.not_lt_zero _)⟩
    · rintro i σ H' _ ⟨_, _, _, _, _, _, _, sm, _⟩
      exact sm.seq hcv
    · rintro o v σ H' H'' hio ⟨y4, y5, y6, y7, y8, y9, rfl, sm, inv⟩ ⟨T1, x1, y1, rfl, nT, rfl, e1, e2⟩
      cases e1
      rw [lcv] at hio
      have e2 : (natsV (covL n b))[o]? = some y1 := e2
      rw [show (natsV (covL n b))[o]? = some (.int (maskF n (cvB n b o) : Nat)) from natsL_get hio] at e2
      cases e2
      have sT := same_upd (o := .tup [V.int ((o : Nat) : Int), V.int ((maskF n (cvB n b o) : Nat) : Int)]) nT
      refine ⟨T1, [_, _], rfl, .inl (.inl upd_same), rfl, _, [_], rfl, _, [], rfl, rfl, ?_⟩
      refine ⟨_, rfl, _, rfl, maskF_60 n60, fun H2 p l s2 np hp hl l60 asc => ?_⟩
      have s02 := sm.trans (sT.trans s2)
      clear sT
      have lmem : ∀ x, x ∈ l ↔ x < n ∧ Cov n b o x := fun x => by
        rw [hl, maskF_bit, Bool.and_eq_true, decide_eq_true_iff]
        exact ⟨fun h => ⟨h.1, (cvB_iff B.rf hio h.1).mp h.2⟩, fun h => ⟨h.1, (cvB_iff B.rf hio h.1).mpr h.2⟩⟩
      refine ⟨_, rfl, p, rfl, ⟨_, SqL.of hp⟩, for_list (xs := natsV l) (fun j σ H' => ∃ y7 y8 y9 : Option V, σ = [some (.ref cv), some (.ref ab), some (.ref be), some (.ref hs), some (.int (o : Nat)), some (.int (maskF n (cvB n b o) : Nat)), some (.ref p), y7, y8, y9] ∧ Same H2 H' ∧ ∀ x, x ∈ l.take j → ∀ z, z ∈ l → x ≠ z → Cov n b x (hi x z)) ?_ ?_ ?_ ?_⟩
      · exact ⟨_, _, _, rfl, Same.refl _, fun x h => by cases h⟩
      · rintro j σ H3 _ ⟨_, _, _, _, s3, _⟩
        exact SqL.of (s3 _ _ hp)
      · rintro j v σ H3 hx ⟨y7, y8, y9, rfl, s3, inv2⟩
        obtain ⟨x, hxl, rfl⟩ := nats_get hx
        obtain ⟨hxn, cx⟩ := (lmem x).mp (List.mem_of_getElem? hxl)
        refine ⟨_, rfl, p, rfl, ⟨_, SqL.of (s3 _ _ hp)⟩, for_list (xs := natsV l) (fun j2 σ H' => ∃ y8 y9 : Option V, σ = [some (.ref cv), some (.ref ab), some (.ref be), some (.ref hs), some (.int (o : Nat)), some (.int (maskF n (cvB n b o) : Nat)), some (.ref p), some (.int (x : Nat)), y8, y9] ∧ Same H3 H' ∧ ∀ z, z ∈ l.take j2 → x ≠ z → Cov n b x (hi x z)) ?_ ?_ ?_ ?_⟩
        · exact ⟨_, _, rfl, Same.refl _, fun z h => by cases h⟩
        · rintro j2 σ H4 _ ⟨_, _, _, s4, _⟩
          exact SqL.of (s4 _ _ (s3 _ _ hp))
        · rintro j2 v σ H4 hz ⟨y8, y9, rfl, s4, inv3⟩
          obtain ⟨z, hzl, rfl⟩ := nats_get hz
          obtain ⟨hzn, cz⟩ := (lmem z).mp (List.mem_of_getElem? hzl)
          have s04 := s02.trans (s3.trans s4)
          obtain ⟨xs1, b1, t1, t2, t3⟩ := tab_ixF (dp_same s04 _ _ hhs) hxn
          obtain ⟨ys1, u1, u2⟩ := row_ixF t3 hzn
          have hu := (B.hi x z hxn hzn).1
          refine ⟨_, rfl, _, rfl, hs, xs1, _, _, rfl, rfl, t1, t2, _, rfl, b1, ys1, _, _, rfl, rfl, u1, u2, ?_⟩
          have gA : (natsV (abvL n b))[x]? = some (.int (maskF n (b x) : Nat)) := natsL_get hxn
          have gB : (natsV (blwL n b))[hi x z]? = some (.int (maskF n (fun y => b y (hi x z)) : Nat)) := natsL_get hu
          have gC : (natsV (covL n b))[x]? = some (.int (maskF n (cvB n b x) : Nat)) := natsL_get hxn
          have nx : ∀ {Hn : Hp}, (x ≠ z → Cov n b x (hi x z)) → Same H4 Hn → ∃ y8 y9 : Option V, [some (.ref cv), some (.ref ab), some (.ref be), some (.ref hs), some (.int (o : Nat)), some (.int (maskF n (cvB n b o) : Nat)), some (.ref p), some (.int (x : Nat)), some (V.int (z : Nat)), some (V.int (hi x z : Nat))] = [some (.ref cv), some (.ref ab), some (.ref be), some (.ref hs), some (.int (o : Nat)), some (.int (maskF n (cvB n b o) : Nat)), some (.ref p), some (.int (x : Nat)), y8, y9] ∧ Same H3 Hn ∧ ∀ z, z ∈ l.take (j2 + 1) → x ≠ z → Cov n b x (hi x z) := fun h s5 => ⟨_, _, rfl, s4.trans s5, fun z' hz' ne => by
            rcases mem_take_succ hzl hz' with e | e
            · exact inv3 z' e ne
            · subst e; exact h ne⟩
          refine ⟨_, rfl, _, rfl, cv, _, _, _, rfl, rfl, s04.seq hcv, atI_nat gC, _, rfl, _, _, rfl, rfl, by omega, _, _, rfl, rfl, _, rfl, ?_⟩
          dsimp only
          rw [bit_test, bit_mask hu]
          cases ec : cvB n b x (hi x z) with
          | true => exact iteF (iteF (nx (fun _ => (cvB_iff B.rf hxn hu).mp ec) (Same.refl _)))
          | false =>
            refine iteT ⟨_, rfl, _, rfl, rfl, _, rfl, ?_⟩
            by_cases ne : x = z
            · subst ne
              rw [show (!decide (V.int ((x : Nat) : Int) = V.int ((x : Nat) : Int))) = false from by rw [decide_eq_true rfl]; rfl]
              exact iteF (nx (fun h => absurd rfl h) (Same.refl _))
            rw [show (!decide (V.int ((x : Nat) : Int) = V.int ((z : Nat) : Int))) = true from by rw [decide_eq_false (show ¬ (V.int ((x : Nat) : Int) = V.int ((z : Nat) : Int)) from fun e => ne (by have := V.int.inj e; omega))]; rfl]
            refine iteT ⟨_, rfl, _, rfl, _, rfl, _, rfl, ab, _, _, _, rfl, rfl, s04.seq hab, atI_nat gA, _, rfl, _, rfl, be, _, _, _, rfl, rfl, s04.seq hbe, atI_nat gB, _, _, rfl, rfl, _, rfl, _, _, rfl, rfl, ⟨by omega, by omega, by decide⟩, _, rfl, _, _, rfl, rfl, ⟨by omega, by omega, by decide⟩, _, _, rfl, rfl, _, _, rfl, rfl, ?_⟩
            dsimp only
            rw [mid_mask T hxn hu (B.hi_u hxn hzn).1]
            refine ⟨_, rfl, mid_ex T hio hxn hzn cx cz ne ec, maskF_60 n60, fun y hy hmin => ⟨_, rfl, _, rfl, (by show 5 ≤ sizeLine; decide), fun t nt => ?_⟩⟩
            obtain ⟨m1, m2, m3, m4, m5⟩ := mid_of hy
            have nc : ¬ Cov n b x (hi x z) := fun h => by rw [(cvB_iff B.rf hxn hu).mpr h] at ec; cases ec
            refine found o x y z ⟨hio, hxn, m1, hzn, cx, cz, ne, m2, m3, m4, m5, fun y' hy' k1 k2 k3 k4 => hmin y' ?_, nc, fun o' x' z' h => ?_⟩ _ t (s04.trans (same_upd nt)) upd_same
            · rw [bit_mask hy', k1, k2, decide_eq_false k3, decide_eq_false k4]; rfl
            · obtain ⟨a1, a2, a3, a4, a5, a6, a7⟩ := h
              rcases Nat.lt_or_ge o' o with q | q
              · exact absurd (inv o' q x' z' a2 a3 a4 a5 a6) a7
              · rcases Nat.lt_or_ge o o' with q2 | q2
                · exact .inl q2
                · have e : o' = o := by omega
                  subst e
                  refine .inr ⟨rfl, ?_⟩
                  have mx := (lmem x').mpr ⟨a2, a4⟩
                  have mz := (lmem z').mpr ⟨a3, a5⟩
                  rcases Nat.lt_or_ge x' x with r1 | r1
                  · exact absurd (inv2 x' (asc_take asc hxl mx r1) z' mz a6) a7
                  · rcases Nat.lt_or_ge x x' with r2 | r2
                    · exact .inl r2
                    · have e : x' = x := by omega
                      subst e
                      refine .inr ⟨rfl, ?_⟩
                      rcases Nat.lt_or_ge z' z with r3 | r3
                      · exact absurd (inv3 z' (asc_take asc hzl mz r3) a6) a7
                      · exact r3
        · rintro σ H4 ⟨y8, y9, rfl, s4, inv3⟩
          refine ⟨_, _, _, rfl, s3.trans s4, fun x' hx' z hz ne => ?_⟩
          rw [nats_len, List.take_length] at inv3
          rcases mem_take_succ hxl hx' with h | h
          · exact inv2 x' h z hz ne
          · subst h; exact inv3 z hz ne
      · rintro σ H3 ⟨y7, y8, y9, rfl, s3, inv2⟩
        rw [nats_len, List.take_length] at inv2
        refine ⟨_, _, _, _, _, _, rfl, s02.trans s3, fun o' ho' x z hx hz c1 c2 ne => ?_⟩
        rcases Nat.lt_or_ge o' o with h | h
        · exact inv o' h x z hx hz c1 c2 ne
        · have e : o' = o := by omega
          subst e
          exact inv2 x ((lmem x).mpr ⟨hx, c1⟩) z ((lmem z).mpr ⟨hz, c2⟩) ne
    · rintro σ H' ⟨y4, y5, y6, y7, y8, y9, rfl, sm, inv⟩
      rw [lcv] at inv
      exact none (fun o x z ho hx hz c1 c2 ne => inv o ho x z hx hz c1 c2 ne) H' sm
theorem ok_fan3 {f : Addr} {fd : FuncData} {k : Nat} (F : Fun K "find_fan" "find_fan" s_find_fan f fd) (hk : 1 ≤ k) (m_enumerate : mg "enumerate" = none)
    (C_indexes_in : Own P w K mg base 1 "indexes_in" ["mask"] spIdxF) (C_first_in : Own P w K mg base 1 "first_in" ["mask"] spFst) :
    FnOk P w K mg base CX0 (k + 1) f fd ["covers", "below", "highs"] (spFanF K) := by
  refine F.ok sc_find_fan (fun vs H Q E h => ?_) (fun cdv A outer s H vs Q E hr h => ?_)
  · obtain ⟨cv, be, hs, n, b, lo, hi, bt, tp, rfl, _⟩ := h
    rfl
  · obtain ⟨cv, be, hs, n, b, lo, hi, bt, tp, rfl, hcv, hbe, hhs, n60, T, none, found⟩ := h
    refine ⟨_, (pss_cons (ps_for PassesOwn.never rfl (pi_enum (by rfl) m_enumerate (pa_cons (pv 0) pa_nil)) (pg_tup rfl (pgs_cons (pg_name (i := 3) sc_find_fan.nd rfl (by first | exact .inl rfl | exact .inr rfl)) (pgs_cons (pg_name (i := 4) sc_find_fan.nd rfl (by first | exact .inl rfl | exact .inr rfl)) pgs_nil)))
        (pss_cons (ps_set (i := 5) sc_find_fan.nd rfl (by first | exact .inl rfl | exact .inr rfl) (pe_own C_indexes_in (hr.mono (by omega)) (by rfl) (pa_cons (pv 4) pa_nil)))
        (pss_one (ps_for PassesOwn.never rfl (pi_list (pv 5)) (pg_name (i := 6) sc_find_fan.nd rfl (by first | exact .inl rfl | exact .inr rfl))
          (pss_one (ps_for PassesOwn.never rfl (pi_list (pv 5)) (pg_name (i := 7) sc_find_fan.nd rfl (by first | exact .inl rfl | exact .inr rfl))
            (pss_cons (ps_set (i := 8) sc_find_fan.nd rfl (by first | exact .inl rfl | exact .inr rfl) (pe_ix ix_list (pe_ix ix_list (pv 2) (pv 6) (fun _ _ => rfl)) (pv 7) (fun _ _ => rfl)))
            (pss_cons (ps_set (i := 9) sc_find_fan.nd rfl (by first | exact .inl rfl | exact .inr rfl) (pe_op op_xor (pe_op L2.op_and (pv 4) (pe_ix ix_list (pv 1) (pv 8) (fun _ _ => rfl))) (pe_op L2.op_or (pe_op op_shl pe_int (pv 6)) (pe_op op_shl pe_int (pv 7)))))
            (pss_one (ps_if (PW.pt (pw_and (pt_cmpR op_gt (pv 9) pe_int (nomark _)) (pw_and1 (pt_cmpR op_ne (pv 6) (pv 7) (nomark _)))))
              (pss_one (ps_ret (pe_tup (pa_cons (pv 3) (pa_cons (pv 6) (pa_cons (pv 7) (pa_cons (pe_own C_first_in (hr.mono (by omega)) (by rfl) (pa_cons (pv 9) pa_nil)) (pa_cons (pv 8) pa_nil))))))))
              pss_nil))))))))))
      (pss_one (ps_ret pe_non))), ?_⟩
    have B := T.u
    have lcv : (natsV (covL n b)).length = n := natsL_len n _
    let OK : Nat → Nat → Nat → Prop := fun o x y => x ≠ y → ∀ z, z < n → Cov n b o z → z ≠ x → z ≠ y → b z (hi x y) = false
    refine ⟨_, rfl, cv, _, rfl, hcv, for_it (walk_enum (xs := natsV (covL n b))) (fun i σ H' => ∃ y3 y4 y5 y6 y7 y8 y9 : Option V, σ = [some (.ref cv), some (.ref be), some (.ref hs), y3, y4, y5, y6, y7, y8, y9] ∧ Same H H' ∧ ∀ o, o < i → ∀ x y, x < n → y < n → Cov n b o x → Cov n b o y → OK o x y) ?_ ?_ ?_ ?_⟩
    · exact ⟨_, _, _, _, _, _, _, rfl, Same.refl _, fun o h => absurd h (Nat.not_lt_zero _)⟩
    · rintro i σ H' _ ⟨_, _, _, _, _, _, _, _, sm, _⟩
      exact sm.seq hcv
    · rintro o v σ H' H'' hio ⟨y3, y4, y5, y6, y7, y8, y9, rfl, sm, inv⟩ ⟨T1, x1, y1, rfl, nT, rfl, e1, e2⟩
      cases e1
      rw [lcv] at hio
      have e2 : (natsV (covL n b))[o]? = some y1 := e2
      rw [show (natsV (covL n b))[o]? = some (.int (maskF n (cvB n b o) : Nat)) from natsL_get hio] at e2
      cases e2
      have sT := same_upd (o := .tup [V.int ((o : Nat) : Int), V.int ((maskF n (cvB n b o) : Nat) : Int)]) nT
      refine ⟨T1, [_, _], rfl, .inl (.inl upd_same), rfl, _, [_], rfl, _, [], rfl, rfl, ?_⟩
      refine ⟨_, rfl, _, rfl, maskF_60 n60, fun H2 p l s2 np hp hl l60 asc => ?_⟩
      have s02 := sm.trans (sT.trans s2)
      clear sT
      have lmem : ∀ x, x ∈ l ↔ x < n ∧ Cov n b o x := fun x => by
        rw [hl, maskF_bit, Bool.and_eq_true, decide_eq_true_iff]
        exact ⟨fun h => ⟨h.1, (cvB_iff B.rf hio h.1).mp h.2⟩, fun h => ⟨h.1, (cvB_iff B.rf hio h.1).mpr h.2⟩⟩
      refine ⟨_, rfl, p, rfl, ⟨_, SqL.of hp⟩, for_list (xs := natsV l) (fun j σ H' => ∃ y6 y7 y8 y9 : Option V, σ = [some (.ref cv), some (.ref be), some (.ref hs), some (.int (o : Nat)), some (.int (maskF n (cvB n b o) : Nat)), some (.ref p), y6, y7, y8, y9] ∧ Same H2 H' ∧ ∀ x, x ∈ l.take j → ∀ y, y ∈ l → OK o x y) ?_ ?_ ?_ ?_⟩
      · exact ⟨_, _, _, _, rfl, Same.refl _, fun x h => by cases h⟩
      · rintro j σ H3 _ ⟨_, _, _, _, _, s3, _⟩
        exact SqL.of (s3 _ _ hp)
      · rintro j v σ H3 hx ⟨y6, y7, y8, y9, rfl, s3, inv2⟩
        obtain ⟨x, hxl, rfl⟩ := nats_get hx
        obtain ⟨hxn, cx⟩ := (lmem x).mp (List.mem_of_getElem? hxl)
        refine ⟨_, rfl, p, rfl, ⟨_, SqL.of (s3 _ _ hp)⟩, for_list (xs := natsV l) (fun j2 σ H' => ∃ y7 y8 y9 : Option V, σ = [some (.ref cv), some (.ref be), some (.ref hs), some (.int (o : Nat)), some (.int (maskF n (cvB n b o) : Nat)), some (.ref p), some (.int (x : Nat)), y7, y8, y9] ∧ Same H3 H' ∧ ∀ y, y ∈ l.take j2 → OK o x y) ?_ ?_ ?_ ?_⟩
        · exact ⟨_, _, _, rfl, Same.refl _, fun y h => by cases h⟩
        · rintro j2 σ H4 _ ⟨_, _, _, _, s4, _⟩
          exact SqL.of (s4 _ _ (s3 _ _ hp))
        · rintro j2 v σ H4 hz ⟨y7, y8, y9, rfl, s4, inv3⟩
          obtain ⟨y, hyl, rfl⟩ := nats_get hz
          obtain ⟨hyn, cy⟩ := (lmem y).mp (List.mem_of_getElem? hyl)
          have s04 := s02.trans (s3.trans s4)
          obtain ⟨xs1, b1, t1, t2, t3⟩ := tab_ixF (dp_same s04 _ _ hhs) hxn
          obtain ⟨ys1, u1, u2⟩ := row_ixF t3 hyn
          have hu := (B.hi x y hxn hyn).1
          have gB : (natsV (blwL n b))[hi x y]? = some (.int (maskF n (fun z => b z (hi x y)) : Nat)) := natsL_get hu
          refine ⟨_, rfl, _, rfl, hs, xs1, _, _, rfl, rfl, t1, t2, _, rfl, b1, ys1, _, _, rfl, rfl, u1, u2, ?_⟩
          refine ⟨_, rfl, _, rfl, _, rfl, be, _, _, _, rfl, rfl, s04.seq hbe, atI_nat gB, _, _, rfl, rfl, _, rfl, _, _, rfl, rfl, ⟨by omega, by omega, by decide⟩, _, rfl, _, _, rfl, rfl, ⟨by omega, by omega, by decide⟩, _, _, rfl, rfl, _, _, rfl, rfl, ?_⟩
          dsimp only
          rw [fan_mask T hio hxn hyn cx cy]
          have nx : ∀ {v9 : Option V}, OK o x y → ∃ y7 y8 y9 : Option V, [some (.ref cv), some (.ref be), some (.ref hs), some (.int (o : Nat)), some (.int (maskF n (cvB n b o) : Nat)), some (.ref p), some (.int (x : Nat)), some (V.int (y : Nat)), some (V.int (hi x y : Nat)), v9] = [some (.ref cv), some (.ref be), some (.ref hs), some (.int (o : Nat)), some (.int (maskF n (cvB n b o) : Nat)), some (.ref p), some (.int (x : Nat)), y7, y8, y9] ∧ Same H3 H4 ∧ ∀ y, y ∈ l.take (j2 + 1) → OK o x y := fun h => ⟨_, _, _, rfl, s4, fun y' hy' => by
            rcases mem_take_succ hyl hy' with e | e
            · exact inv3 y' e
            · subst e; exact h⟩
          have m60 := maskF_60 (f := fun z => (cvB n b o z && b z (hi x y)) && !(decide (z = x) || decide (z = y))) n60
          refine ⟨_, rfl, _, _, rfl, rfl, _, rfl, ?_⟩
          by_cases e0 : maskF n (fun z => (cvB n b o z && b z (hi x y)) && !(decide (z = x) || decide (z = y))) = 0
          · rw [decide_eq_false (by rw [e0]; decide)]
            refine iteF (iteF (nx fun _ z hz cz n2 n3 => ?_))
            have := mask_none.mp e0 z hz
            rw [(cvB_iff B.rf hio hz).mpr cz, decide_eq_false n2, decide_eq_false n3] at this
            simpa using this
          · rw [decide_eq_true (by omega)]
            refine iteT ⟨_, rfl, _, rfl, rfl, _, rfl, ?_⟩
            by_cases ne : x = y
            · subst ne
              rw [show (!decide (V.int ((x : Nat) : Int) = V.int ((x : Nat) : Int))) = false from by rw [decide_eq_true rfl]; rfl]
              exact iteF (nx fun h => absurd rfl h)
            rw [show (!decide (V.int ((x : Nat) : Int) = V.int ((y : Nat) : Int))) = true from by rw [decide_eq_false (show ¬ (V.int ((x : Nat) : Int) = V.int ((y : Nat) : Int)) from fun e => ne (by have := V.int.inj e; omega))]; rfl]
            refine iteT ⟨_, rfl, _, rfl, _, rfl, _, rfl, _, rfl, by omega, m60, fun z hz hmin => ⟨_, rfl, (by show 5 ≤ sizeLine; decide), fun t nt => ?_⟩⟩
            obtain ⟨m1, m2, m3, m4, m5⟩ := fan_bit.mp hz
            refine found o x y z ⟨hio, hxn, hyn, m1, cx, cy, (cvB_iff B.rf hio m1).mp m2, ne, m4, m5, m3, fun z' hz' k1 k2 k3 k4 => hmin z' (fan_bit.mpr ⟨hz', (cvB_iff B.rf hio hz').mpr k1, k2, k3, k4⟩), fun o' x' y' h => ?_⟩ _ t (s04.trans (same_upd nt)) upd_same
            obtain ⟨a1, a2, a3, a4, a5, a6, z', b1', b2', b3', b4', b5'⟩ := h
            have no : ¬ OK o' x' y' := fun h => by rw [h a6 z' b1' b2' b3' b4'] at b5'; cases b5'
            rcases Nat.lt_or_ge o' o with q | q
            · exact absurd (inv o' q x' y' a2 a3 a4 a5) no
            · rcases Nat.lt_or_ge o o' with q2 | q2
              · exact .inl q2
              · have e : o' = o := by omega
                subst e
                refine .inr ⟨rfl, ?_⟩
                have mx := (lmem x').mpr ⟨a2, a4⟩
                have my := (lmem y').mpr ⟨a3, a5⟩
                rcases Nat.lt_or_ge x' x with r1 | r1
                · exact absurd (inv2 x' (asc_take asc hxl mx r1) y' my) no
                · rcases Nat.lt_or_ge x x' with r2 | r2
                  · exact .inl r2
                  · have e : x' = x := by omega
                    subst e
                    refine .inr ⟨rfl, ?_⟩
                    rcases Nat.lt_or_ge y' y with r3 | r3
                    · exact absurd (inv3 y' (asc_take asc hyl my r3)) no
                    · exact r3
        · rintro σ H4 ⟨y7, y8, y9, rfl, s4, inv3⟩
          refine ⟨_, _, _, _, rfl, s3.trans s4, fun x' hx' y hy => ?_⟩
          rw [nats_len, List.take_length] at inv3
          rcases mem_take_succ hxl hx' with h | h
          · exact inv2 x' h y hy
          · subst h; exact inv3 y hy
      · rintro σ H3 ⟨y6, y7, y8, y9, rfl, s3, inv2⟩
        rw [nats_len, List.take_length] at inv2
        refine ⟨_, _, _, _, _, _, _, rfl, s02.trans s3, fun o' ho' x y hx hy c1 c2 => ?_⟩
        rcases Nat.lt_or_ge o' o with h | h
        · exact inv o' h x y hx hy c1 c2
        · have e : o' = o := by omega
          subst e
          exact inv2 x ((lmem x).mpr ⟨hx, c1⟩) y ((lmem y).mpr ⟨hy, c2⟩)
    · rintro σ H' ⟨y3, y4, y5, y6, y7, y8, y9, rfl, sm, inv⟩
      rw [lcv] at inv
      exact none (fun o x y z ho hx hy hz cx cy cz n1 n2 n3 => inv o ho x y hx hy cx cy n1 z hz cz n2 n3) H' sm
theorem Brd.two {n : Nat} {b : Nat → Nat → Bool} {lo hi : Nat → Nat → Nat} {bt tp : Nat} (B : Brd n b lo hi bt tp) : Two n b lo hi bt tp := ⟨B.lat, B.dual.lat⟩
theorem Two.turn {n : Nat} {b : Nat → Nat → Bool} {lo hi : Nat → Nat → Nat} {bt tp : Nat} (T : Two n b lo hi bt tp) : Two n (fun x y => b y x) hi lo tp bt := ⟨T.d, T.u⟩
theorem lad_right {n : Nat} {b : Nat → Nat → Bool} {lo hi : Nat → Nat → Nat} {bt tp o x y z : Nat} (T : Two n b lo hi bt tp) (h : LadF n b hi o x y z) : LadR n b lo hi o x y z (hi x z) := by
  obtain ⟨a1, a2, a3, a4⟩ := lad_of T h.ho h.hx h.hz h.hy h.cx h.cz h.ne h.xy h.yi h.n1 h.n2
  exact ⟨⟨h.ho, h.hx, h.hy, h.hz, (T.u.hi x z h.hx h.hz).1⟩, a4, h.xy, a1, a2, rfl, a3⟩
theorem lad_turn {n : Nat} {b : Nat → Nat → Bool} {lo hi : Nat → Nat → Nat} {o x y z i : Nat} (h : LadR n (fun x y => b y x) hi lo o x y z i) : LadR n b lo hi i y x z o := by
  obtain ⟨⟨k1, k2, k3, k4, k5⟩, nd, xy, l1, l2, h1, h2⟩ := h
  refine ⟨⟨k5, k3, k2, k4, k1⟩, ?_, xy, h2, h1, l2, l1⟩
  simp only [List.nodup_cons, List.mem_cons, List.not_mem_nil, or_false, not_or, List.nodup_nil, not_false_eq_true, and_true] at nd ⊢
  omega
theorem fan_right {n : Nat} {b : Nat → Nat → Bool} {lo hi : Nat → Nat → Nat} {bt tp o x y z : Nat} (T : Two n b lo hi bt tp) (U : UpC n b hi) (h : FanF n b hi o x y z) : FanR n lo hi o x y z (hi x y) := by
  obtain ⟨a1, a2, a3, a4, a5, a6⟩ := fan_of T U h.ho h.hx h.hy h.hz h.cx h.cy h.cz h.n1 h.n2 h.n3 h.zi
  exact ⟨⟨h.ho, h.hx, h.hy, h.hz, (T.u.hi x y h.hx h.hy).1⟩, a6, a1, a2, a3, rfl, a4, a5⟩
theorem ok_fault {f : Addr} {fd : FuncData} {k : Nat} (F : Fun K "find_fault" "find_fault" s_find_fault f fd) (hk : 2 ≤ k) (T : TxB K C)
    (C_covers_of : Own P w K mg base 1 "covers_of" ["above", "below"] (spCvs K)) (C_find_ladder : Own P w K mg base 2 "find_ladder" ["covers", "above", "below", "highs"] (spLad K)) (C_find_fan : Own P w K mg base 2 "find_fan" ["covers", "below", "highs"] (spFanF K))
    (M_spreads : C8.Met P w K mg base 1 C "spreads" (spSprB K C) []) :
    FnOk P w K mg base CX0 (k + 1) f fd ["board"] (spFault K C) := by
  refine F.ok sc_find_fault (fun vs H Q E h => ?_) (fun cdv A outer s H vs Q E hr h => ?_)
  · obtain ⟨c, L, n, b, lo, hi, bt, tp, rfl, _⟩ := h
    rfl
  · obtain ⟨c, L, n, b, lo, hi, bt, tp, rfl, hB, B, etp, good, lad, fan⟩ := h
    refine ⟨_, (pss_cons (ps_if (pt_val (C8.pe_mt0 M_spreads hr (by omega) (pv 0)))
        (pss_one (ps_ret pe_non))
        pss_nil)
      (pss_cons (ps_set (i := 1) sc_find_fault.nd rfl (by first | exact .inl rfl | exact .inr rfl) (pe_own C_covers_of (hr.mono (by omega)) (by rfl) (pa_cons (pe_fldK (K := K) rfl (pv 0) rfl) (pa_cons (pe_fldK (K := K) rfl (pv 0) rfl) pa_nil))))
      (pss_cons (ps_set (i := 2) sc_find_fault.nd rfl (by first | exact .inl rfl | exact .inr rfl) (pe_own C_find_ladder (hr.mono (by omega)) (by rfl) (pa_cons (pv 1) (pa_cons (pe_fldK (K := K) rfl (pv 0) rfl) (pa_cons (pe_fldK (K := K) rfl (pv 0) rfl) (pa_cons (pe_fldK (K := K) rfl (pv 0) rfl) pa_nil))))))
      (pss_cons (ps_if (pt_cmpR op_notN (pv 2) pe_non (nomark _))
        (pss_one (ps_ret (pe_tup (pa_cons pe_str (pa_cons (pv 2) pa_nil)))))
        pss_nil)
      (pss_cons (ps_set (i := 2) sc_find_fault.nd rfl (by first | exact .inl rfl | exact .inr rfl) (pe_own C_find_ladder (hr.mono (by omega)) (by rfl) (pa_cons (pe_own C_covers_of (hr.mono (by omega)) (by rfl) (pa_cons (pe_fldK (K := K) rfl (pv 0) rfl) (pa_cons (pe_fldK (K := K) rfl (pv 0) rfl) pa_nil))) (pa_cons (pe_fldK (K := K) rfl (pv 0) rfl) (pa_cons (pe_fldK (K := K) rfl (pv 0) rfl) (pa_cons (pe_fldK (K := K) rfl (pv 0) rfl) pa_nil))))))
      (pss_cons (ps_if (pt_cmpR op_notN (pv 2) pe_non (nomark _))
        (pss_cons (ps_asg (pv 2) (pg_tup rfl (pgs_cons (pg_name (i := 3) sc_find_fault.nd rfl (by first | exact .inl rfl | exact .inr rfl)) (pgs_cons (pg_name (i := 4) sc_find_fault.nd rfl (by first | exact .inl rfl | exact .inr rfl)) (pgs_cons (pg_name (i := 5) sc_find_fault.nd rfl (by first | exact .inl rfl | exact .inr rfl)) (pgs_cons (pg_name (i := 6) sc_find_fault.nd rfl (by first | exact .inl rfl | exact .inr rfl)) (pgs_cons (pg_name (i := 7) sc_find_fault.nd rfl (by first | exact .inl rfl | exact .inr rfl)) pgs_nil)))))))
        (pss_one (ps_ret (pe_tup (pa_cons pe_str (pa_cons (pe_tup (pa_cons (pv 7) (pa_cons (pv 5) (pa_cons (pv 4) (pa_cons (pv 6) (pa_cons (pv 3) pa_nil)))))) pa_nil))))))
        pss_nil)
      (pss_one (ps_ret (pe_tup (pa_cons pe_str (pa_cons (pe_own C_find_fan (hr.mono (by omega)) (by rfl) (pa_cons (pv 1) (pa_cons (pe_fldK (K := K) rfl (pv 0) rfl) (pa_cons (pe_fldK (K := K) rfl (pv 0) rfl) pa_nil)))) pa_nil))))))))))), ?_⟩
    have n60 := B.n60
    have TT := B.two
    obtain ⟨dx, ob⟩ := hB.ob
    refine ⟨_, rfl, c, dx, _, rfl, ob, rfl, c, L, n, b, lo, hi, bt, tp, rfl, hB, B, etp, fun H1 r s1 hrr => ⟨_, rfl, ?_⟩⟩
    cases r with
    | true => exact iteT (good (hrr.mp rfl) H1 s1)
    | false =>
      have ns : ¬ SprB n lo hi := fun h => by have := hrr.mpr h; cases this
      refine iteF ?_
      have ob1 := s1 _ _ ob
      have hB1 := hB.same s1
      refine ⟨_, rfl, c, C, dx, _, _, rfl, ob1, T.cl, T.n2, rfl, _, rfl, c, C, dx, _, _, rfl, ob1, T.cl, T.n3, rfl, L.ab, L.be, n, b, rfl, SqL.of hB1.ab, SqL.of hB1.be, n60, B.rf, fun H2 p s2 np hp => ?_⟩
      have ob2 := s2 _ _ ob1
      have hB2 := hB1.same s2
      have s02 := s1.trans s2
      refine ⟨_, rfl, _, rfl, c, C, dx, _, _, rfl, ob2, T.cl, T.n2, rfl, _, rfl, c, C, dx, _, _, rfl, ob2, T.cl, T.n3, rfl, _, rfl, c, C, dx, _, _, rfl, ob2, T.cl, T.n5, rfl, p, L.ab, L.be, L.hi, n, b, lo, hi, bt, tp, rfl, SqL.of hp, SqL.of hB2.ab, SqL.of hB2.be, hB2.hi, n60, TT, fun U H3 s3 => ?_, fun o x y z hl H3 t s3 ht => ?_⟩
      · refine ⟨_, rfl, rfl, _, rfl, iteF ?_⟩
        have ob3 := s3 _ _ ob2
        have hB3 := hB2.same s3
        have hp3 := s3 _ _ hp
        have s03 := s02.trans s3
        refine ⟨_, rfl, c, C, dx, _, _, rfl, ob3, T.cl, T.n3, rfl, _, rfl, c, C, dx, _, _, rfl, ob3, T.cl, T.n2, rfl, L.be, L.ab, n, fun x y => b y x, rfl, SqL.of hB3.be, SqL.of hB3.ab, n60, B.rf, fun H4 p4 s4 np4 hp4 => ?_⟩
        have ob4 := s4 _ _ ob3
        have hB4 := hB3.same s4
        have s04 := s03.trans s4
        refine ⟨_, rfl, c, C, dx, _, _, rfl, ob4, T.cl, T.n3, rfl, _, rfl, c, C, dx, _, _, rfl, ob4, T.cl, T.n2, rfl, _, rfl, c, C, dx, _, _, rfl, ob4, T.cl, T.n4, rfl, p4, L.be, L.ab, L.lo, n, fun x y => b y x, hi, lo, tp, bt, rfl, SqL.of hp4, SqL.of hB4.be, SqL.of hB4.ab, hB4.lo, n60, TT.turn, fun V H5 s5 => ?_, fun o x y z hl H5 t s5 ht => ?_⟩
        · refine ⟨_, rfl, rfl, _, rfl, iteF ?_⟩
          have ob5 := s5 _ _ ob4
          have hB5 := hB4.same s5
          have hp5 := s5 _ _ (s4 _ _ hp3)
          have s05 := s04.trans s5
          refine ⟨_, rfl, _, rfl, c, C, dx, _, _, rfl, ob5, T.cl, T.n3, rfl, _, rfl, c, C, dx, _, _, rfl, ob5, T.cl, T.n5, rfl, p, L.be, L.hi, n, b, lo, hi, bt, tp, rfl, SqL.of hp5, SqL.of hB5.be, hB5.hi, n60, TT, fun N => absurd (spr_of_none TT U V N) ns, fun o x y z hl H6 t s6 ht => ⟨(by show 2 ≤ sizeLine; decide), fun t2 nt2 => ?_⟩⟩
          exact fan o x y z _ ns (fan_right TT U hl) (none_lad TT U V) (.inr (.inr ⟨rfl, U, V, hl, rfl⟩)) _ _ ((s05.trans s6).trans (same_upd nt2)) ⟨t2, t, rfl, upd_same, same_upd nt2 _ _ ht⟩
        · refine ⟨_, rfl, rfl, _, rfl, iteT ?_⟩
          refine ⟨_, rfl, t, _, rfl, .inl (.inl ht), rfl, _, _, rfl, _, _, rfl, _, _, rfl, _, _, rfl, _, [], rfl, rfl, ?_⟩
          refine ⟨_, rfl, _, rfl, _, rfl, _, rfl, _, rfl, (by show 5 ≤ sizeLine; decide), fun t1 nt1 => ⟨(by show 2 ≤ sizeLine; decide), fun t2 nt2 => ?_⟩⟩
          have hr := lad_turn (lad_right TT.turn hl)
          exact lad _ _ _ _ _ ns hr (.inr (.inl ⟨rfl, U, hl, rfl⟩)) _ _ ((s04.trans s5).trans ((same_upd nt1).trans (same_upd nt2))) ⟨t2, t1, rfl, upd_same, same_upd nt2 _ _ upd_same⟩
      · refine ⟨_, rfl, rfl, _, rfl, iteT ⟨_, rfl, (by show 2 ≤ sizeLine; decide), fun t2 nt2 => ?_⟩⟩
        exact lad o x y z _ ns (lad_right TT hl) (.inl ⟨rfl, hl, rfl⟩) _ _ ((s02.trans s3).trans (same_upd nt2)) ⟨t2, t, rfl, upd_same, same_upd nt2 _ _ ht⟩
end
end FvO


/-! the law's lows, ups, tables, spreading over any board -/
namespace FvO
open PySem PySem.Spec PyProof.Rows L2 Fv FvX FvW TL
def lowLB (n : Nat) (b : Nat → Nat → Bool) (x y : Nat) : List Nat := (List.range n).filter fun z => b z x && b z y
def upLB (n : Nat) (b : Nat → Nat → Bool) (x y : Nat) : List Nat := (List.range n).filter fun z => b x z && b y z
def lowMB (n : Nat) (b : Nat → Nat → Bool) (x y : Nat) : List Nat := (lowLB n b x y).filter fun z => (lowLB n b x y).all fun w => b w z
def upMB (n : Nat) (b : Nat → Nat → Bool) (x y : Nat) : List Nat := (upLB n b x y).filter fun z => (upLB n b x y).all fun w => b z w
theorem mem_lowLB {n : Nat} {b : Nat → Nat → Bool} {x y z : Nat} : z ∈ lowLB n b x y ↔ z < n ∧ b z x = true ∧ b z y = true := by
  unfold lowLB
  rw [List.mem_filter, List.mem_range, Bool.and_eq_true]
theorem mem_upLB {n : Nat} {b : Nat → Nat → Bool} {x y z : Nat} : z ∈ upLB n b x y ↔ z < n ∧ b x z = true ∧ b y z = true := by
  unfold upLB
  rw [List.mem_filter, List.mem_range, Bool.and_eq_true]
theorem lowMB_cons {n : Nat} {b : Nat → Nat → Bool} {lo hi : Nat → Nat → Nat} {bt tp : Nat} (B : Brd n b lo hi bt tp) {x y : Nat} (hx : x < n) (hy : y < n) : lo x y ∈ lowMB n b x y ∧ ∃ r, lowMB n b x y = lo x y :: r := by
  obtain ⟨l, e⟩ := B.lo x y hx hy
  have z := e _ l
  rw [B.rf _ l] at z
  have z := Bool.and_eq_true_iff.mp z.symm
  have ml : lo x y ∈ lowLB n b x y := mem_lowLB.mpr ⟨l, z.1, z.2⟩
  have m : lo x y ∈ lowMB n b x y := by
    unfold lowMB
    rw [List.mem_filter, List.all_eq_true]
    exact ⟨ml, fun w hw => by
      obtain ⟨a, c, d⟩ := mem_lowLB.mp hw
      rw [e w a, c, d]; rfl⟩
  have uq : ∀ w ∈ lowMB n b x y, w = lo x y := fun w hw => by
    unfold lowMB at hw
    rw [List.mem_filter, List.all_eq_true] at hw
    obtain ⟨a, c, d⟩ := mem_lowLB.mp hw.1
    exact B.an _ _ a l (by rw [e w a, c, d]; rfl) (hw.2 _ ml)
  refine ⟨m, ?_⟩
  generalize lowMB n b x y = L at m uq
  match L, m, uq with
  | a :: r, _, uq => exact ⟨r, by rw [uq a List.mem_cons_self]⟩
theorem upMB_cons {n : Nat} {b : Nat → Nat → Bool} {lo hi : Nat → Nat → Nat} {bt tp : Nat} (B : Brd n b lo hi bt tp) {x y : Nat} (hx : x < n) (hy : y < n) : hi x y ∈ upMB n b x y ∧ ∃ r, upMB n b x y = hi x y :: r := lowMB_cons B.dual hx hy
theorem row_ixB {n : Nat} {b : Nat → Nat → Bool} {x y : Nat} (hx : x < n) (hy : y < n) (l : n ≤ 60) : atI ((rowsF n b).map V.str) ((x : Nat) : Int) = some (.str (rowF n (b x))) ∧ (rowF n (b x)).length ≤ sizeLine ∧ atI (rowF n (b x)).cps.toList ((y : Nat) : Int) = some (if b x y = true then 49 else 48) := by
  refine ⟨atI_nat ?_, ?_, ?_⟩
  · unfold rowsF
    rw [List.getElem?_map, List.getElem?_map, List.getElem?_range hx]; rfl
  · rw [rowF_len]; exact le1000 (by omega)
  · rw [rowF_cps]
    exact atI_nat (by rw [List.getElem?_map, List.getElem?_range hy]; rfl)
def spLowB (K : PySem.W.Frag) (up : Bool) : Sp := fun vs H Q _ => ∃ (r : Addr) (n : Nat) (b : Nat → Nat → Bool) (lo hi : Nat → Nat → Nat) (bt tp : Nat) (x y : Nat), vs = [.ref r, .int (x : Nat), .int (y : Nat)] ∧ SqL K H r ((rowsF n b).map V.str) ∧ Brd n b lo hi bt tp ∧ x < n ∧ y < n ∧ ∀ H', Same H H' → Q (.int ((if up = true then hi x y else lo x y : Nat) : Nat)) H'
def tabsB (n : Nat) (lo hi : Nat → Nat → Nat) : PyData := .tuple [tabD n lo, tabD n hi]
theorem tabs_invB {K : PySem.W.Frag} {H : Hp} {v : V} {n : Nat} {fl fh : Nat → Nat → Nat} (h : Dp K H v (tabsB n fl fh)) : ∃ T lo up, v = .ref T ∧ SqT K H T [.ref lo, .ref up] ∧ Dp K H (.ref lo) (tabD n fl) ∧ Dp K H (.ref up) (tabD n fh) := by
  cases h with
  | tup hs ha => cases ha with
    | cons h1 ha => cases ha with
      | cons h2 ha =>
        cases ha
        cases h1 with
        | lst a b => cases h2 with
          | lst c d => exact ⟨_, _, _, rfl, hs, .lst a b, .lst c d⟩
def spTablesB (K : PySem.W.Frag) : Sp := fun vs H Q _ => ∃ (r : Addr) (n : Nat) (b : Nat → Nat → Bool) (lo hi : Nat → Nat → Nat) (bt tp : Nat), vs = [.ref r] ∧ SqL K H r ((rowsF n b).map V.str) ∧ Brd n b lo hi bt tp ∧ ∀ (H' : Hp) (p : Addr), Same H H' → H p = none → Dp K (nw H H') (.ref p) (tabsB n lo hi) → Q (.ref p) H'
def spSprL (K : PySem.W.Frag) : Sp := fun vs H Q _ => ∃ (vt : V) (n : Nat) (b : Nat → Nat → Bool) (lo hi : Nat → Nat → Nat) (bt tp : Nat), vs = [vt] ∧ Dp K H vt (tabsB n lo hi) ∧ Brd n b lo hi bt tp ∧ ∀ (H' : Hp) (r : Bool), Same H H' → (r = true ↔ ∀ x, x < n → ∀ y, y < n → ∀ z, z < n → lo x (hi y z) = hi (lo x y) (lo x z)) → Q (.bl r) H'
section
variable {P : Program} {w : World} {K : PySem.W.Frag} {mg : Str → Option Value} {base : Heap}
theorem ok_lowQ {f : Addr} {fd : FuncData} {k : Nat} (F : Fun K "_law_low" "_law_low" s_law_low f fd) (m_len : mg "len" = none) (m_range : mg "range" = none) (m_all : mg "all" = none) :
    FnOk P w K mg base CX0 (k + 1) f fd ["_law_rows_here", "_law_x", "_law_y"] (spLowB K false) := by
  refine F.ok sc_law_low (fun vs H Q E h => ?_) (fun cdv A outer s H vs Q E hr h => ?_)
  · obtain ⟨r, n, b, fl, fh, bt, tp, x, y, rfl, _⟩ := h
    rfl
  · obtain ⟨r, n, b, fl, fh, bt, tp, x, y, rfl, hr0, Bd, hx, hy, good⟩ := h
    have n60 := Bd.n60
    have lr := rows_lenF n b
    refine ⟨_, (pss_cons (ps_set (i := 3) sc_law_low.nd rfl (by first | exact .inl rfl | exact .inr rfl) (pe_lc (own := [("_law_z", 4)]) (g := gName 4) (by rfl) sc_law_low.nd (pi_range1 (by rfl) m_range (pa_cons (pe_callB call_len_seq (by rfl) m_len (by decide +kernel) (pa_cons (pv 0) pa_nil)) pa_nil)) (blkOk_by (own := [("_law_z", 4)]) (N := N_law_low) (sc := defScope s_law_low) (by decide +kernel)) (fun _ _ _ _ _ => pg_name (i := 4) sc_law_low.nd rfl (Or.inl rfl)) (fun _ _ _ _ _ => pts_one (PW.pt (pw_and (pt_cmpR op_eq (pe_ix ix_str (pe_ix (ix_listK (K := K) rfl) (pv 0) (pv 4) (fun _ _ => rfl)) (pv 1) (fun _ _ => rfl)) pe_str (nomark _)) (pw_and1 (pt_cmpR op_eq (pe_ix ix_str (pe_ix (ix_listK (K := K) rfl) (pv 0) (pv 4) (fun _ _ => rfl)) (pv 2) (fun _ _ => rfl)) pe_str (nomark _)))))) (fun _ _ _ _ _ => (pv 4))))
      (pss_one (ps_ret (pe_ix ix_list (pe_lc (own := [("_law_z", 4)]) (g := gName 4) (by rfl) sc_law_low.nd (pi_listK (K := K) rfl (pv 3)) (blkOk_by (own := [("_law_z", 4)]) (N := N_law_low) (sc := defScope s_law_low) (by decide +kernel)) (fun _ _ _ _ _ => pg_name (i := 4) sc_law_low.nd rfl (Or.inr rfl)) (fun _ _ _ _ _ => pts_one (pt_val (pe_callB (cr_allK (K := K) rfl rfl) (by rfl) m_all (by decide +kernel) (pa_cons (pe_lc (own := [("_law_w", 5)]) (g := gName 5) (by rfl) sc_law_low.nd (pi_listK (K := K) rfl (pv 3)) (blkOk_by (own := [("_law_w", 5)]) (N := N_law_low) (by exact rfl)) (fun _ _ _ _ _ => pg_name (i := 5) sc_law_low.nd rfl (Or.inl rfl)) (fun _ _ _ _ _ => pts_nil) (fun _ _ _ _ _ => (pe_cmpR op_eq (pe_ix ix_str (pe_ix (ix_listK (K := K) rfl) (pv 0) (pv 5) (fun _ _ => rfl)) (pv 4) (fun _ _ => rfl)) pe_str (nomark _)))) pa_nil)))) (fun _ _ _ _ _ => (pv 4))) pe_int (fun _ _ => rfl))))), ?_⟩
    refine ⟨_, rfl, r, _, rfl, .inl hr0, _, rfl, (by rw [lr]; omega), (by rw [lr]; omega), fun D nD => lc_range (lo := 0) (n := (((rowsF n b).map V.str).length : Int).toNat) (fun j H' => Same H H' ∧ H' D = some (.lst (natsV (((List.range n).take j).filter fun z => b z x && b z y)))) ?_ ?_ ?_⟩
    · exact ⟨same_upd nD, upd_same⟩
    · rintro j H' hj ⟨sm, hD⟩
      rw [lr, Int.toNat_natCast] at hj
      have hz : (List.range n)[j]? = some j := by rw [List.getElem?_range hj]
      obtain ⟨a1, a2, a3⟩ := row_ixB hj hx n60
      obtain ⟨b1, b2, b3⟩ := row_ixB hj hy n60
      have ej : (0 : Int) + (j : Nat) = ((j : Nat) : Int) := by omega
      rw [ej]
      refine ⟨rfl, _, rfl, _, rfl, r, _, _, _, rfl, rfl, sm.seq hr0, a1, _, rfl, _, _, _, rfl, rfl, a2, a3, rfl, _, rfl, ?_⟩
      rw [one_dec]
      have fa := filt_add (p := fun z => b z x && b z y) hz
      have lf : (natsV (((List.range n).take j).filter fun z => b z x && b z y)).length ≤ 60 := by
        rw [nats_len]
        refine Nat.le_trans (List.length_filter_le _ _) ?_
        rw [List.length_take, List.length_range]
        omega
      cases e1 : b j x with
      | false =>
        refine iteF (iteF ⟨sm, ?_⟩)
        rw [fa, hD, e1]
        simp
      | true =>
        refine iteT ⟨_, rfl, _, rfl, r, _, _, _, rfl, rfl, sm.seq hr0, b1, _, rfl, _, _, _, rfl, rfl, b2, b3, rfl, _, rfl, ?_⟩
        rw [one_dec]
        cases e2 : b j y with
        | false =>
          refine iteF ⟨sm, ?_⟩
          rw [fa, hD, e1, e2]
          simp
        | true =>
          refine iteT ⟨_, rfl, _, hD, small1000 (by omega), fun c o e => ?_, ?_⟩
          · rw [upd_ne (ne_of_none e nD)]; exact sm _ _ e
          · rw [upd_same, fa, e1, e2]
            unfold natsV
            simp
    rintro H1 ⟨s1, hD1⟩
    rw [lr, Int.toNat_natCast, show (List.range n).take n = List.range n from List.take_of_length_le (by rw [List.length_range]; exact Nat.le_refl _)] at hD1
    change H1 D = some (.lst (natsV (lowLB n b x y))) at hD1
    have lL : (lowLB n b x y).length ≤ 60 := by
      unfold lowLB
      refine Nat.le_trans (List.length_filter_le _ _) ?_
      rw [List.length_range]; exact n60
    refine ⟨_, rfl, D, rfl, ⟨_, SqL.of hD1⟩, fun D2 nD2 => lc_list (xs := natsV (lowLB n b x y)) (fun j H' => Same H1 H' ∧ H' D2 = some (.lst (natsV (((lowLB n b x y).take j).filter fun z => (lowLB n b x y).all fun w => b w z)))) ?_ ?_ ?_ ?_⟩
    · exact ⟨same_upd nD2, upd_same⟩
    · rintro j H' _ ⟨sm, _⟩
      exact SqL.of (sm _ _ hD1)
    · rintro j v H' hv ⟨sm, hD2⟩
      obtain ⟨z, hz, rfl⟩ := nats_get hv
      have zn : z < n := (mem_lowLB.mp (List.mem_of_getElem? hz)).1
      have fa := filt_add (p := fun z => (lowLB n b x y).all fun w => b w z) hz
      refine ⟨rfl, _, rfl, D, rfl, ⟨_, SqL.of (sm _ _ hD1)⟩, fun D3 nD3 => lc_list (xs := natsV (lowLB n b x y)) (fun i H3 => Same H' H3 ∧ H3 D3 = some (.lst (((lowLB n b x y).take i).map fun w => V.bl (b w z)))) ?_ ?_ ?_ ?_⟩
      · exact ⟨same_upd nD3, upd_same⟩
      · rintro i H3 _ ⟨sm3, _⟩
        exact SqL.of ((sm.trans sm3) _ _ hD1)
      · rintro i u H3 hu ⟨sm3, hD3⟩
        obtain ⟨w, hw, rfl⟩ := nats_get hu
        have wn : w < n := (mem_lowLB.mp (List.mem_of_getElem? hw)).1
        obtain ⟨a1, a2, a3⟩ := row_ixB wn zn n60
        refine ⟨rfl, yes_it ⟨_, rfl, _, rfl, r, _, _, _, rfl, rfl, (s1.trans (sm.trans sm3)).seq hr0, a1, _, rfl, _, _, _, rfl, rfl, a2, a3, rfl, _, hD3, small1000 (by rw [List.length_map, List.length_take]; omega), fun c o e => ?_, ?_⟩⟩
        · rw [upd_ne (ne_of_none e nD3)]; exact sm3 _ _ e
        · rw [upd_same, List.take_add_one, hw, List.map_append, one_dec]; rfl
      · rintro H3 ⟨sm3, hD3⟩
        rw [nats_len, List.take_length] at hD3
        have eb : ((lowLB n b x y).map fun w => V.bl (b w z)) = ((lowLB n b x y).map fun w => b w z).map V.bl := by rw [List.map_map]; rfl
        rw [eb] at hD3
        refine ⟨D3, _, rfl, SqL.of hD3, _, rfl, ?_⟩
        have ea : ((lowLB n b x y).map fun w => b w z).all id = (lowLB n b x y).all fun w => b w z := by rw [List.all_map]; rfl
        rw [ea]
        have sm4 := sm.trans sm3
        have lf : (natsV (((lowLB n b x y).take j).filter fun z => (lowLB n b x y).all fun w => b w z)).length ≤ 60 := by
          rw [nats_len]
          refine Nat.le_trans (List.length_filter_le _ _) ?_
          rw [List.length_take]
          omega
        cases e1 : (lowLB n b x y).all fun w => b w z with
        | false =>
          refine iteF ⟨sm4, ?_⟩
          rw [fa, sm3 _ _ hD2, e1]
          simp
        | true =>
          refine iteT ⟨_, rfl, _, sm3 _ _ hD2, small1000 (by omega), fun c o e => ?_, ?_⟩
          · rw [upd_ne (ne_of_none e nD2)]; exact sm4 _ _ e
          · rw [upd_same, fa, e1]
            unfold natsV
            simp
    · rintro H2 ⟨s2, hD2⟩
      rw [nats_len, List.take_length] at hD2
      change H2 D2 = some (.lst (natsV (lowMB n b x y))) at hD2
      obtain ⟨_, rr, er⟩ := lowMB_cons Bd hx hy
      rw [er] at hD2
      exact ⟨D2, _, _, _, rfl, rfl, SqL.of hD2, at0, good H2 (s1.trans s2)⟩
theorem ok_upQ {f : Addr} {fd : FuncData} {k : Nat} (F : Fun K "_law_up" "_law_up" s_law_up f fd) (m_len : mg "len" = none) (m_range : mg "range" = none) (m_all : mg "all" = none) :
    FnOk P w K mg base CX0 (k + 1) f fd ["_law_rows_here", "_law_x", "_law_y"] (spLowB K true) := by
  refine F.ok sc_law_up (fun vs H Q E h => ?_) (fun cdv A outer s H vs Q E hr h => ?_)
  · obtain ⟨r, n, b, fl, fh, bt, tp, x, y, rfl, _⟩ := h
    rfl
  · obtain ⟨r, n, b, fl, fh, bt, tp, x, y, rfl, hr0, Bd, hx, hy, good⟩ := h
    have n60 := Bd.n60
    have lr := rows_lenF n b
    refine ⟨_, (pss_cons (ps_set (i := 3) sc_law_up.nd rfl (by first | exact .inl rfl | exact .inr rfl) (pe_lc (own := [("_law_z", 4)]) (g := gName 4) (by rfl) sc_law_up.nd (pi_range1 (by rfl) m_range (pa_cons (pe_callB call_len_seq (by rfl) m_len (by decide +kernel) (pa_cons (pv 0) pa_nil)) pa_nil)) (blkOk_by (own := [("_law_z", 4)]) (N := N_law_up) (sc := defScope s_law_up) (by decide +kernel)) (fun _ _ _ _ _ => pg_name (i := 4) sc_law_up.nd rfl (Or.inl rfl)) (fun _ _ _ _ _ => pts_one (PW.pt (pw_and (pt_cmpR op_eq (pe_ix ix_str (pe_ix (ix_listK (K := K) rfl) (pv 0) (pv 1) (fun _ _ => rfl)) (pv 4) (fun _ _ => rfl)) pe_str (nomark _)) (pw_and1 (pt_cmpR op_eq (pe_ix ix_str (pe_ix (ix_listK (K := K) rfl) (pv 0) (pv 2) (fun _ _ => rfl)) (pv 4) (fun _ _ => rfl)) pe_str (nomark _)))))) (fun _ _ _ _ _ => (pv 4))))
      (pss_one (ps_ret (pe_ix ix_list (pe_lc (own := [("_law_z", 4)]) (g := gName 4) (by rfl) sc_law_up.nd (pi_listK (K := K) rfl (pv 3)) (blkOk_by (own := [("_law_z", 4)]) (N := N_law_up) (sc := defScope s_law_up) (by decide +kernel)) (fun _ _ _ _ _ => pg_name (i := 4) sc_law_up.nd rfl (Or.inr rfl)) (fun _ _ _ _ _ => pts_one (pt_val (pe_callB (cr_allK (K := K) rfl rfl) (by rfl) m_all (by decide +kernel) (pa_cons (pe_lc (own := [("_law_w", 5)]) (g := gName 5) (by rfl) sc_law_up.nd (pi_listK (K := K) rfl (pv 3)) (blkOk_by (own := [("_law_w", 5)]) (N := N_law_up) (by exact rfl)) (fun _ _ _ _ _ => pg_name (i := 5) sc_law_up.nd rfl (Or.inl rfl)) (fun _ _ _ _ _ => pts_nil) (fun _ _ _ _ _ => (pe_cmpR op_eq (pe_ix ix_str (pe_ix (ix_listK (K := K) rfl) (pv 0) (pv 4) (fun _ _ => rfl)) (pv 5) (fun _ _ => rfl)) pe_str (nomark _)))) pa_nil)))) (fun _ _ _ _ _ => (pv 4))) pe_int (fun _ _ => rfl))))), ?_⟩
    refine ⟨_, rfl, r, _, rfl, .inl hr0, _, rfl, (by rw [lr]; omega), (by rw [lr]; omega), fun D nD => lc_range (lo := 0) (n := (((rowsF n b).map V.str).length : Int).toNat) (fun j H' => Same H H' ∧ H' D = some (.lst (natsV (((List.range n).take j).filter fun z => b x z && b y z)))) ?_ ?_ ?_⟩
    · exact ⟨same_upd nD, upd_same⟩
    · rintro j H' hj ⟨sm, hD⟩
      rw [lr, Int.toNat_natCast] at hj
      have hz : (List.range n)[j]? = some j := by rw [List.getElem?_range hj]
      obtain ⟨a1, a2, a3⟩ := row_ixB hx hj n60
      obtain ⟨b1, b2, b3⟩ := row_ixB hy hj n60
      have ej : (0 : Int) + (j : Nat) = ((j : Nat) : Int) := by omega
      rw [ej]
      refine ⟨rfl, _, rfl, _, rfl, r, _, _, _, rfl, rfl, sm.seq hr0, a1, _, rfl, _, _, _, rfl, rfl, a2, a3, rfl, _, rfl, ?_⟩
      rw [one_dec]
      have fa := filt_add (p := fun z => b x z && b y z) hz
      have lf : (natsV (((List.range n).take j).filter fun z => b x z && b y z)).length ≤ 60 := by
        rw [nats_len]
        refine Nat.le_trans (List.length_filter_le _ _) ?_
        rw [List.length_take, List.length_range]
        omega
      cases e1 : b x j with
      | false =>
        refine iteF (iteF ⟨sm, ?_⟩)
        rw [fa, hD, e1]
        simp
      | true =>
        refine iteT ⟨_, rfl, _, rfl, r, _, _, _, rfl, rfl, sm.seq hr0, b1, _, rfl, _, _, _, rfl, rfl, b2, b3, rfl, _, rfl, ?_⟩
        rw [one_dec]
        cases e2 : b y j with
        | false =>
          refine iteF ⟨sm, ?_⟩
          rw [fa, hD, e1, e2]
          simp
        | true =>
          refine iteT ⟨_, rfl, _, hD, small1000 (by omega), fun c o e => ?_, ?_⟩
          · rw [upd_ne (ne_of_none e nD)]; exact sm _ _ e
          · rw [upd_same, fa, e1, e2]
            unfold natsV
            simp
    rintro H1 ⟨s1, hD1⟩
    rw [lr, Int.toNat_natCast, show (List.range n).take n = List.range n from List.take_of_length_le (by rw [List.length_range]; exact Nat.le_refl _)] at hD1
    change H1 D = some (.lst (natsV (upLB n b x y))) at hD1
    have lL : (upLB n b x y).length ≤ 60 := by
      unfold upLB
      refine Nat.le_trans (List.length_filter_le _ _) ?_
      rw [List.length_range]; exact n60
    refine ⟨_, rfl, D, rfl, ⟨_, SqL.of hD1⟩, fun D2 nD2 => lc_list (xs := natsV (upLB n b x y)) (fun j H' => Same H1 H' ∧ H' D2 = some (.lst (natsV (((upLB n b x y).take j).filter fun z => (upLB n b x y).all fun w => b z w)))) ?_ ?_ ?_ ?_⟩
    · exact ⟨same_upd nD2, upd_same⟩
    · rintro j H' _ ⟨sm, _⟩
      exact SqL.of (sm _ _ hD1)
    · rintro j v H' hv ⟨sm, hD2⟩
      obtain ⟨z, hz, rfl⟩ := nats_get hv
      have zn : z < n := (mem_upLB.mp (List.mem_of_getElem? hz)).1
      have fa := filt_add (p := fun z => (upLB n b x y).all fun w => b z w) hz
      refine ⟨rfl, _, rfl, D, rfl, ⟨_, SqL.of (sm _ _ hD1)⟩, fun D3 nD3 => lc_list (xs := natsV (upLB n b x y)) (fun i H3 => Same H' H3 ∧ H3 D3 = some (.lst (((upLB n b x y).take i).map fun w => V.bl (b z w)))) ?_ ?_ ?_ ?_⟩
      · exact ⟨same_upd nD3, upd_same⟩
      · rintro i H3 _ ⟨sm3, _⟩
        exact SqL.of ((sm.trans sm3) _ _ hD1)
      · rintro i u H3 hu ⟨sm3, hD3⟩
        obtain ⟨w, hw, rfl⟩ := nats_get hu
        have wn : w < n := (mem_upLB.mp (List.mem_of_getElem? hw)).1
        obtain ⟨a1, a2, a3⟩ := row_ixB zn wn n60
        refine ⟨rfl, yes_it ⟨_, rfl, _, rfl, r, _, _, _, rfl, rfl, (s1.trans (sm.trans sm3)).seq hr0, a1, _, rfl, _, _, _, rfl, rfl, a2, a3, rfl, _, hD3, small1000 (by rw [List.length_map, List.length_take]; omega), fun c o e => ?_, ?_⟩⟩
        · rw [upd_ne (ne_of_none e nD3)]; exact sm3 _ _ e
        · rw [upd_same, List.take_add_one, hw, List.map_append, one_dec]; rfl
      · rintro H3 ⟨sm3, hD3⟩
        rw [nats_len, List.take_length] at hD3
        have eb : ((upLB n b x y).map fun w => V.bl (b z w)) = ((upLB n b x y).map fun w => b z w).map V.bl := by rw [List.map_map]; rfl
        rw [eb] at hD3
        refine ⟨D3, _, rfl, SqL.of hD3, _, rfl, ?_⟩
        have ea : ((upLB n b x y).map fun w => b z w).all id = (upLB n b x y).all fun w => b z w := by rw [List.all_map]; rfl
        rw [ea]
        have sm4 := sm.trans sm3
        have lf : (natsV (((upLB n b x y).take j).filter fun z => (upLB n b x y).all fun w => b z w)).length ≤ 60 := by
          rw [nats_len]
          refine Nat.le_trans (List.length_filter_le _ _) ?_
          rw [List.length_take]
          omega
        cases e1 : (upLB n b x y).all fun w => b z w with
        | false =>
          refine iteF ⟨sm4, ?_⟩
          rw [fa, sm3 _ _ hD2, e1]
          simp
        | true =>
          refine iteT ⟨_, rfl, _, sm3 _ _ hD2, small1000 (by omega), fun c o e => ?_, ?_⟩
          · rw [upd_ne (ne_of_none e nD2)]; exact sm4 _ _ e
          · rw [upd_same, fa, e1]
            unfold natsV
            simp
    · rintro H2 ⟨s2, hD2⟩
      rw [nats_len, List.take_length] at hD2
      change H2 D2 = some (.lst (natsV (upMB n b x y))) at hD2
      obtain ⟨_, rr, er⟩ := upMB_cons Bd hx hy
      rw [er] at hD2
      exact ⟨D2, _, _, _, rfl, rfl, SqL.of hD2, at0, good H2 (s1.trans s2)⟩
end
end FvO


/-! len(set(t)) of a tuple of ints -/
namespace FvB
open PySem PySem.Spec PyProof.Rows L2
theorem nodup_len : ∀ (ks ns : List Int), ks.Nodup → (∀ j, j ∈ ks ↔ j ∈ ns) → ks.length ≤ ns.length ∧ (ks.length = ns.length ↔ ns.Nodup)
  | [], ns, _, h => by
    have e : ns = [] := List.eq_nil_iff_forall_not_mem.mpr fun j hj => nomatch (h j).mpr hj
    subst e
    exact ⟨Nat.le_refl _, fun _ => List.nodup_nil, fun _ => rfl⟩
  | k :: ks, ns, nd, h => by
    rw [List.nodup_cons] at nd
    have hk : k ∈ ns := (h k).mp List.mem_cons_self
    have hm : ∀ j, j ∈ ks ↔ j ∈ ns.filter fun x => !decide (x = k) := fun j => by
      rw [List.mem_filter, Bool.not_eq_true', decide_eq_false_iff_not, ← h j, List.mem_cons]
      constructor
      · intro hj
        exact ⟨.inr hj, fun e => nd.1 (e ▸ hj)⟩
      · rintro ⟨e | e, n⟩
        · exact absurd e n
        · exact e
    obtain ⟨l1, l2⟩ := nodup_len ks (ns.filter fun x => !decide (x = k)) nd.2 hm
    have hc : ns.length = (ns.filter fun x => !decide (x = k)).length + ns.count k := by
      clear l1 l2 hm h hk nd
      induction ns with
      | nil => rfl
      | cons a l ih =>
        rw [List.count_cons, List.filter_cons, List.length_cons, ih]
        by_cases e : a = k
        · subst e; simp; omega
        · simp [e]; omega
    have c1 : 1 ≤ ns.count k := List.count_pos_iff.mpr hk
    rw [List.length_cons]
    refine ⟨by omega, fun e => ?_, fun nn => ?_⟩
    · have e1 : ks.length = (ns.filter fun x => !decide (x = k)).length := by omega
      have c2 : ns.count k = 1 := by omega
      have n2 := l2.mp e1
      rw [List.nodup_iff_count] at n2 ⊢
      intro a
      by_cases ea : a = k
      · rw [ea]; omega
      · have := n2 a
        rw [List.count_filter (by simp [ea])] at this
        exact this
    · have n2 : (ns.filter fun x => !decide (x = k)).Nodup := nn.filter _
      have := l2.mpr n2
      have c2 := List.nodup_iff_count.mp nn k
      omega
def tLenSetT (K : PySem.W.Frag) (ta : TE) : TE := fun σ H Q => ta σ H fun x H1 => ∃ (l : Addr) (ns : List Int), x = V.ref l ∧ SqT K H1 l (ns.map V.int) ∧ ns.length ≤ 60 ∧ ∀ c : Nat, c ≤ ns.length → (c = ns.length ↔ ns.Nodup) → Q (.int (c : Nat)) H1
theorem pe_lenSetT {X : Cx} {a : Expr} {ta : TE} {p p2 q pos : Pos} (hc : X.calm = true) (hg : Gl X "len") (hm : X.mg "len" = none) (hg2 : Gl X "set") (hm2 : X.mg "set" = none) (ha : PE X a ta)
    (na : starEach [a] X.env = (false, eval a X.env) :: starEach [] X.env := by rfl) : PE X (.Call (.Name "len" p) [.Call (.Name "set" p2) [a] [] q] [] pos) (tLenSetT X.K ta) := by
  refine ⟨fun pins s σ H Q I h => ?_⟩
  refine Call_ (ld_blt I hg hm PySem.boot_len ?_)
  refine PyProof.Rows.callWith_builtin1 (PyProof.Rows.args_cons ?_ rfl) rfl rfl
  refine Call_ (ld_blt I hg2 hm2 PyProof.Rows.boot_set ?_)
  refine PyProof.Rows.callWith_type1 (PyProof.Rows.args_cons (thn (ha.run pins s σ H _ I h) fun v s1 ⟨x, H1, I1, r1, q1⟩ => PyProof.Rows.args_nil ?_) na) na rfl
  obtain ⟨l, ns, rfl, hq, h1, q1⟩ := q1
  cases r1
  obtain ⟨its, rv, pt, hz⟩ := I1.tuple hq
  have hi : IntsAre its.toArray.toList ns := ints_of_vals rv
  refine call_set_tupI ns (I1.ok.hd hc) (show s1.heap.IsTuple l its.toArray from pt) hi (by unfold scanBound; omega) fun h' tk c R1 hcn hk => ?_
  refine PyProof.Rows.args_nil ?_
  obtain ⟨o, es, ep, t, ho, hex, hd, g, nd, hm2, hb, hf, hn, hr, hl2⟩ := R1
  have I2 : Inv X pins σ H1 { s1 with heap := h', toks := tk } := I1.kept fun b o e => hk b o e
  have key := nodup_len _ ns nd fun j => by rw [← hm2 j, decide_eq_true_eq]
  refine call_len_set ho hex hd hf (by rw [hn] <;> omega) ⟨.int (c : Nat), H1, I2.tok _, ⟨_, by rw [hn]⟩, q1 c hcn ?_⟩
  have e : (es.toList.map keyOf).length = c := by rw [List.length_map, Array.length_toList]; exact hn
  rw [e] at key
  exact key.2
end FvB


/-! faults: the law's _law_index, _law_fault_right, _law_has_ladder -/
namespace FvO
open PySem PySem.Spec PyProof.Rows L2 Fv FvW FvX TL FvB
-- top 42  slots: 0:_law_one 1:_law_at
abbrev s_law_index : Stmt := topS 42
abbrev N_law_index : List Str := ["_law_one", "_law_at"]
theorem sc_law_index : FnScope N_law_index ["_law_one", "_law_at"] (defScope s_law_index) := ⟨rfl, rfl, rfl, by decide +kernel, rfl, by decide +kernel, by decide +kernel⟩


theorem ix_tupF {X : Cx} {K : PySem.W.Frag} (hK : X.K = K) : IxR X (rIxT K) := by
  subst hK
  exact ix_tup
def ixB (at_ : Int) : PyData → Bool
  | .int i => decide (0 ≤ i) && decide (i < at_)
  | _ => false
def spIxF (K : PySem.W.Frag) : Sp := fun vs H Q _ => ∃ (v : V) (d : PyData) (n : Int), vs = [v, .int n] ∧ Dp K H v d ∧ ∀ H', Same H H' → Q (.bl (ixB n d)) H'
/-- a ladder or a fan, by the tables -/
def rgt (n : Nat) (b : Nat → Nat → Bool) (lo hi : Nat → Nat → Nat) (lad : Bool) (o x y z i : Nat) : Bool :=
  decide ([o, x, y, z, i].Nodup) && ((!lad || b x y) && ([(x, z), (y, z)] ++ if lad = true then [] else [(x, y)]).all fun p => decide (lo p.1 p.2 = o) && decide (hi p.1 p.2 = i))
def kndB : PyData → Bool
  | .str s => decide (s = "ladder") || decide (s = "fan")
  | _ => false
def ladD : PyData → Bool
  | .str s => decide (s = "ladder")
  | _ => false
def natD : PyData → Nat
  | .int i => i.toNat
  | _ => 0
def rgtL (n : Nat) (b : Nat → Nat → Bool) (lo hi : Nat → Nat → Nat) (lad : Bool) : List Nat → Bool
  | [o, x, y, z, i] => rgt n b lo hi lad o x y z i
  | _ => false
def fvB (n : Nat) (b : Nat → Nat → Bool) (lo hi : Nat → Nat → Nat) (lad : Bool) : PyData → Bool
  | .tuple ds => decide (ds.length = 5) && (ds.all (ixB n) && rgtL n b lo hi lad (ds.map natD))
  | _ => false
def frB (n : Nat) (b : Nat → Nat → Bool) (lo hi : Nat → Nat → Nat) : PyData → Bool
  | .tuple [k, e] => kndB k && fvB n b lo hi (ladD k) e
  | _ => false
theorem knd_any (k : PyData) : ([PyData.str "ladder", PyData.str "fan"].any fun z => PyData.eqv z k) = kndB k := by
  cases k with
  | str s =>
    show ((("ladder" : Str) == s) || ((("fan" : Str) == s) || false)) = (decide (s = "ladder") || decide (s = "fan"))
    rw [Bool.or_false, Bool.eq_iff_iff, Bool.or_eq_true_iff, Bool.or_eq_true_iff, beq_iff_eq, beq_iff_eq, decide_eq_true_iff, decide_eq_true_iff]
    exact or_congr eq_comm eq_comm
  | _ => rfl
def kS (lad : Bool) : Str := if lad = true then "ladder" else "fan"
theorem knd_inv {k : PyData} (h : kndB k = true) : k = .str (kS (ladD k)) := by
  cases k with
  | str s =>
    have h : (decide (s = "ladder") || decide (s = "fan")) = true := h
    rw [Bool.or_eq_true_iff, decide_eq_true_iff, decide_eq_true_iff] at h
    rcases h with e | e
    · subst e; rfl
    · subst e; rfl
  | _ => cases h
theorem ix_inv {n : Nat} {d : PyData} (h : ixB n d = true) : ∃ x : Nat, d = .int (x : Nat) ∧ x < n := by
  cases d with
  | int i =>
    have h : (decide (0 ≤ i) && decide (i < (n : Nat))) = true := h
    rw [Bool.and_eq_true_iff, decide_eq_true_iff, decide_eq_true_iff] at h
    exact ⟨i.toNat, by congr 1; omega, by omega⟩
  | _ => cases h
theorem five_inv {n : Nat} {ds : List PyData} (l : ds.length = 5) (h : ds.all (ixB n) = true) : ∃ o x y z i : Nat, ds = [.int (o : Nat), .int (x : Nat), .int (y : Nat), .int (z : Nat), .int (i : Nat)] ∧ o < n ∧ x < n ∧ y < n ∧ z < n ∧ i < n := by
  match ds, l with
  | [d1, d2, d3, d4, d5], _ =>
    simp only [List.all_cons, List.all_nil, Bool.and_true, Bool.and_eq_true_iff] at h
    obtain ⟨h1, h2, h3, h4, h5⟩ := h
    obtain ⟨o, rfl, ho⟩ := ix_inv h1
    obtain ⟨x, rfl, hx⟩ := ix_inv h2
    obtain ⟨y, rfl, hy⟩ := ix_inv h3
    obtain ⟨z, rfl, hz⟩ := ix_inv h4
    obtain ⟨i, rfl, hi⟩ := ix_inv h5
    exact ⟨o, x, y, z, i, rfl, ho, hx, hy, hz, hi⟩
/-- what a fault may be: one that is a pair has a shaped kind -/
def FltOk (d : PyData) : Prop := ∀ k e, d = .tuple [k, e] → SeqAt.shaped k = true
def spFR (K : PySem.W.Frag) : Sp := fun vs H Q _ => ∃ (r : Addr) (vt v : V) (d : PyData) (n : Nat) (b : Nat → Nat → Bool) (lo hi : Nat → Nat → Nat) (bt tp : Nat), vs = [.ref r, vt, v] ∧ SqL K H r ((rowsF n b).map V.str) ∧ Dp K H vt (tabsB n lo hi) ∧ Brd n b lo hi bt tp ∧ Dp K H v d ∧ FltOk d ∧ ∀ H', Same H H' → Q (.bl (frB n b lo hi d)) H'
section
variable {P : Program} {w : World} {K : PySem.W.Frag} {mg : Str → Option Value} {base : Heap}
theorem ok_lindexF {f : Addr} {fd : FuncData} {k : Nat} (F : Fun K "_law_index" "_law_index" s_law_index f fd) (m_isinstance : mg "isinstance" = none) (m_int : mg "int" = none) (m_bool : mg "bool" = none) :
    FnOk P w K mg base CX0 (k + 1) f fd ["_law_one", "_law_at"] (spIxF K) := by
  refine F.ok sc_law_index (fun vs H Q E h => ?_) (fun cdv A outer s H vs Q E hr h => ?_)
  · obtain ⟨v, d, n, rfl, _⟩ := h
    rfl
  · obtain ⟨v, d, n, rfl, hd, q⟩ := h
    refine ⟨_, (pss_one (ps_ret (pe_and (pe_isD (T := "int") (by rfl) m_isinstance (by rfl) m_int (pv 0)) (pe_and (pe_not (pe_isD (T := "bool") (by rfl) m_isinstance (by rfl) m_bool (pv 0))) (pe_one (pe_chain op_le op_lt pe_int (pv 0) (pv 1))))))), ?_⟩
    refine ⟨_, rfl, _, _, d, rfl, by decide, hd, _, rfl, ?_⟩
    have q := q H (Same.refl H)
    cases d with
    | int i =>
      cases hd
      refine iteT ⟨_, rfl, _, _, .int i, rfl, by decide, .int i, _, rfl, ?_⟩
      refine ⟨_, rfl, iteT ⟨_, rfl, _, _, rfl, rfl, _, rfl, ?_⟩⟩
      have q : Q (.bl (decide (0 ≤ i) && decide (i < n))) H := q
      refine ite2 (fun c => ?_) (fun c => ?_)
      · rw [c, Bool.true_and] at q
        exact ⟨_, rfl, _, _, rfl, rfl, q⟩
      · rw [Bool.eq_false_iff.mpr c, Bool.false_and] at q
        exact q
    | bool b =>
      cases hd
      exact iteT ⟨_, rfl, _, _, .bool b, rfl, by decide, .bl b, _, rfl, _, rfl, iteF q⟩
    | _ => exact iteF q
end
end FvO


/-! faults: what find_fault gives, told once -/
namespace FvO
open PySem PySem.Spec PyProof.Rows L2 Fv FvW FvX TL
/-- a fault as data -/
def fltD (k : Str) (o x y z i : Nat) : PyData := .tuple [.str k, .tuple [.int (o : Nat), .int (x : Nat), .int (y : Nat), .int (z : Nat), .int (i : Nat)]]
theorem flt_dp {K : PySem.W.Frag} {H : Hp} {v : V} {k : Str} {o x y z i : Nat} (h : faultV H v k o x y z i) : Dp K H v (fltD k o x y z i) := by
  obtain ⟨t, t2, rfl, h1, h2⟩ := h
  exact .tup (SqT.of h1) (.cons (.str _) (.cons (.tup (SqT.of h2) (.cons (.int _) (.cons (.int _) (.cons (.int _) (.cons (.int _) (.cons (.int _) .nil)))))) .nil))
theorem flt_gd {k : Str} {o x y z i : Nat} (hk : k = "ladder" ∨ k = "fan") : gd 2 (fltD k o x y z i) = true := by
  refine gd_tup (n := 1) (fun d hd => ?_) (by show 2 ≤ 1000; decide)
  simp only [List.mem_cons, List.not_mem_nil, or_false] at hd
  rcases hd with e | e
  · rw [e]
    rcases hk with e | e <;> subst e <;> exact gd_le (n := 0) (by decide +kernel) (Nat.zero_le _)
  · rw [e]
    refine gd_tup (n := 0) (fun d hd => ?_) (by show 5 ≤ 1000; decide)
    simp only [List.mem_cons, List.not_mem_nil, or_false] at hd
    rcases hd with e | e | e | e | e <;> rw [e] <;> rfl
theorem flt_ok {k : Str} {o x y z i : Nat} (hk : k = "ladder" ∨ k = "fan") : FltOk (fltD k o x y z i) := fun k' e h => by
  unfold fltD at h
  simp only [PyData.tuple.injEq, List.cons.injEq] at h
  rw [← h.1]
  rcases hk with e | e <;> subst e <;> decide +kernel
theorem ix_nat {n x : Nat} (h : x < n) : ixB (n : Nat) (.int (x : Nat)) = true := by
  show (decide ((0 : Int) ≤ (x : Nat)) && decide (((x : Nat) : Int) < (n : Nat))) = true
  rw [decide_eq_true (by omega), decide_eq_true (by omega)]; rfl
theorem fr_of {n : Nat} {b : Nat → Nat → Bool} {lo hi : Nat → Nat → Nat} {k : Str} {o x y z i : Nat} (hk : k = "ladder" ∨ k = "fan") (lt : o < n ∧ x < n ∧ y < n ∧ z < n ∧ i < n) (h : rgt n b lo hi (decide (k = "ladder")) o x y z i = true) : frB n b lo hi (fltD k o x y z i) = true := by
  have e1 : kndB (.str k) = true := by
    show (decide (k = "ladder") || decide (k = "fan")) = true
    rcases hk with e | e <;> subst e <;> decide +kernel
  show (kndB (.str k) && (decide (5 = 5) && ([PyData.int (o : Nat), .int (x : Nat), .int (y : Nat), .int (z : Nat), .int (i : Nat)].all (ixB n) && rgt n b lo hi (decide (k = "ladder")) (((o : Nat) : Int).toNat) (((x : Nat) : Int).toNat) (((y : Nat) : Int).toNat) (((z : Nat) : Int).toNat) (((i : Nat) : Int).toNat)))) = true
  rw [e1, Int.toNat_natCast, Int.toNat_natCast, Int.toNat_natCast, Int.toNat_natCast, Int.toNat_natCast, h]
  simp only [List.all_cons, List.all_nil, ix_nat lt.1, ix_nat lt.2.1, ix_nat lt.2.2.1, ix_nat lt.2.2.2.1, ix_nat lt.2.2.2.2]
  rfl
theorem lad_rgt {n : Nat} {b : Nat → Nat → Bool} {lo hi : Nat → Nat → Nat} {o x y z i : Nat} (h : LadR n b lo hi o x y z i) : rgt n b lo hi true o x y z i = true := by
  unfold rgt
  rw [decide_eq_true h.nd, h.xy]
  simp [h.l1, h.l2, h.h1, h.h2]
theorem fan_rgt {n : Nat} {b : Nat → Nat → Bool} {lo hi : Nat → Nat → Nat} {o x y z i : Nat} (h : FanR n lo hi o x y z i) : rgt n b lo hi false o x y z i = true := by
  unfold rgt
  rw [decide_eq_true h.nd]
  simp [h.l1, h.l2, h.l3, h.h1, h.h2, h.h3]
theorem lad_lad {n : Nat} {b : Nat → Nat → Bool} {lo hi : Nat → Nat → Nat} {o x y z i : Nat} (h : LadR n b lo hi o x y z i) : LadB n b lo hi x y z := by
  have nd := h.nd
  simp only [List.nodup_cons, List.mem_cons, List.not_mem_nil, or_false, not_or, List.nodup_nil, not_false_eq_true, and_true] at nd
  exact ⟨h.lt.2.1, h.lt.2.2.1, h.lt.2.2.2.1, h.xy, nd.2.1.1, h.l1.trans h.l2.symm, h.h1.trans h.h2.symm⟩
theorem faultV.same {H H' : Hp} {v : V} {k : Str} {o x y z i : Nat} (h : faultV H v k o x y z i) (s : Same H H') : faultV H' v k o x y z i := by
  obtain ⟨t, t2, e, h1, h2⟩ := h
  exact ⟨t, t2, e, s _ _ h1, s _ _ h2⟩
/-- what find_fault gives -/
def FRes (n : Nat) (b : Nat → Nat → Bool) (lo hi : Nat → Nat → Nat) (H : Hp) (v : V) : Prop :=
  (SprB n lo hi ∧ v = .non) ∨ (¬ SprB n lo hi ∧ ∃ lad o x y z i, FltIs n b lo hi lad o x y z i ∧ faultV H v (kS lad) o x y z i ∧ rgt n b lo hi lad o x y z i = true ∧ (o < n ∧ x < n ∧ y < n ∧ z < n ∧ i < n) ∧ (lad = true ↔ ∃ x y z, LadB n b lo hi x y z))
theorem FRes.same {n : Nat} {b : Nat → Nat → Bool} {lo hi : Nat → Nat → Nat} {H H' : Hp} {v : V} (h : FRes n b lo hi H v) (s : Same H H') : FRes n b lo hi H' v := by
  rcases h with h | ⟨ns, lad, o, x, y, z, i, h1, h2, h3⟩
  · exact .inl h
  · exact .inr ⟨ns, lad, o, x, y, z, i, h1, h2.same s, h3⟩
theorem kS_or : ∀ lad : Bool, kS lad = "ladder" ∨ kS lad = "fan"
  | true => .inl rfl
  | false => .inr rfl
theorem kS_lad (lad : Bool) : decide (kS lad = "ladder") = lad := by cases lad <;> decide +kernel
/-- two of them are the same data -/
theorem FRes.two {K : PySem.W.Frag} {n : Nat} {b : Nat → Nat → Bool} {lo hi : Nat → Nat → Nat} {H : Hp} {v w : V} (h : FRes n b lo hi H v) (g : FRes n b lo hi H w) : ∃ d, Dp K H v d ∧ Dp K H w d ∧ gd 2 d = true := by
  rcases h with ⟨s, rfl⟩ | ⟨ns, lad, o, x, y, z, i, h1, h2, _⟩
  · rcases g with ⟨_, rfl⟩ | ⟨ns, _⟩
    · exact ⟨.none, .non, .non, rfl⟩
    · exact absurd s ns
  · rcases g with ⟨s, _⟩ | ⟨_, lad', o', x', y', z', i', g1, g2, _⟩
    · exact absurd s ns
    · obtain ⟨rfl, rfl, rfl, rfl, rfl, rfl⟩ := h1.uniq g1
      exact ⟨_, flt_dp h2, flt_dp g2, flt_gd (kS_or lad)⟩
@[irreducible] def spFaultI (K : PySem.W.Frag) (C : Addr) : Sp := spFault K C
theorem spFaultI_eq {K : PySem.W.Frag} {C : Addr} : spFaultI K C = spFault K C := by unfold spFaultI; rfl
theorem spF_use {K : PySem.W.Frag} {C c : Addr} {L : BL} {n : Nat} {b : Nat → Nat → Bool} {lo hi : Nat → Nat → Nat} {bt tp : Nat} {H : Hp} {Q : VK} {E : XK} {vs : List V} (ev : vs = [.ref c]) (hB : BAt K C H c L n b lo hi) (B : Brd n b lo hi bt tp) (et : L.tp = tp) (q : ∀ H' v, Same H H' → FRes n b lo hi H' v → Q v H') : spFaultI K C vs H Q E := by
  rw [spFaultI_eq]
  refine ⟨c, L, n, b, lo, hi, bt, tp, ev, hB, B, et, fun S H' s' => q _ _ s' (.inl ⟨S, rfl⟩), fun o x y z i ns h fi H' v s' hv => q _ _ s' (.inr ⟨ns, true, o, x, y, z, i, fi, hv, lad_rgt h, h.lt, ⟨fun _ => ⟨x, y, z, lad_lad h⟩, fun _ => rfl⟩⟩), fun o x y z i ns h nl fi H' v s' hv => q _ _ s' (.inr ⟨ns, false, o, x, y, z, i, fi, hv, fan_rgt h, h.lt, ⟨(fun e => by cases e), fun ⟨x, y, z, e⟩ => absurd e (nl x y z)⟩⟩)⟩
theorem FRes.spr {n : Nat} {b : Nat → Nat → Bool} {lo hi : Nat → Nat → Nat} {H : Hp} {v : V} (h : FRes n b lo hi H v) : decide (v = .non) = true ↔ SprB n lo hi := by
  rcases h with ⟨s, rfl⟩ | ⟨ns, lad, o, x, y, z, i, h1, ⟨t, t2, rfl, _⟩, _⟩
  · exact ⟨fun _ => s, fun _ => rfl⟩
  · exact ⟨(fun e => by cases e), fun s => absurd s ns⟩
end FvO


/-! boards turned over spread likewise; chains, cubes, fans -/
namespace FvO
open PySem PySem.Spec PyProof.Rows L2 Fv FvW FvX TL
section
variable {n : Nat} {b : Nat → Nat → Bool} {lo hi : Nat → Nat → Nat} {bt tp : Nat}
theorem Brd.latB (B : Brd n b lo hi bt tp) : Lat n b lo hi bt := ⟨B.rf, B.an, B.tr, B.lo, B.hi, B.bt⟩
theorem spr_dual (B : Brd n b lo hi bt tp) (S : SprB n lo hi) : SprB n hi lo := fun x hx y hy z hz => by
  have L := B.latB
  have D := B.dual.latB
  have h1 := (B.hi x y hx hy).1
  have h2 := (B.hi x z hx hz).1
  have l1 := (B.lo y z hy hz).1
  have l2 := (B.lo x z hx hz).1
  -- x below both
  have e1 : lo (hi x y) (hi x z) = hi (lo (hi x y) x) (lo (hi x y) z) := S _ h1 _ hx _ hz
  have e2 : lo (hi x y) x = x := L.an _ _ (B.lo _ _ h1 hx).1 hx (L.lo_l h1 hx).2 (L.lo_in h1 hx hx (L.hi_u hx hy).1 (L.rf x hx))
  have e3 : lo (hi x y) z = hi (lo z x) (lo z y) := by
    have c : lo (hi x y) z = lo z (hi x y) := L.an _ _ (B.lo _ _ h1 hz).1 (B.lo _ _ hz h1).1 (L.lo_in hz h1 (B.lo _ _ h1 hz).1 (L.lo_l h1 hz).2 (L.lo_l h1 hz).1) (L.lo_in h1 hz (B.lo _ _ hz h1).1 (L.lo_l hz h1).2 (L.lo_l hz h1).1)
    rw [c]; exact S _ hz _ hx _ hy
  rw [e1, e2, e3]
  have m1 := (B.lo z x hz hx).1
  have m2 := (B.lo z y hz hy).1
  have m3 := (B.hi _ _ m1 m2).1
  refine L.an _ _ (B.hi _ _ hx l1).1 (B.hi _ _ hx m3).1 (L.hi_in hx l1 (B.hi _ _ hx m3).1 (L.hi_u hx m3).1 ?_) (L.hi_in hx m3 (B.hi _ _ hx l1).1 (L.hi_u hx l1).1 (L.hi_in m1 m2 (B.hi _ _ hx l1).1 ?_ ?_))
  · have k1 : b (lo y z) (lo z y) = true := L.lo_in hz hy l1 (L.lo_l hy hz).2 (L.lo_l hy hz).1
    exact L.tr _ _ _ l1 m2 (B.hi _ _ hx m3).1 k1 (L.tr _ _ _ m2 m3 (B.hi _ _ hx m3).1 (L.hi_u m1 m2).2 (L.hi_u hx m3).2)
  · exact L.tr _ _ _ m1 hx (B.hi _ _ hx l1).1 (L.lo_l hz hx).2 (L.hi_u hx l1).1
  · have k1 : b (lo z y) (lo y z) = true := L.lo_in hy hz m2 (L.lo_l hz hy).2 (L.lo_l hz hy).1
    exact L.tr _ _ _ m2 l1 (B.hi _ _ hx l1).1 k1 (L.hi_u hx l1).2
theorem spr_dual_iff (B : Brd n b lo hi bt tp) : SprB n hi lo ↔ SprB n lo hi := ⟨fun S => spr_dual B.dual S, fun S => spr_dual B S⟩
end
theorem chain_spr (n : Nat) : SprB n min max := fun x _ y _ z _ => by omega
theorem cube_spr (n : Nat) : SprB n (· &&& ·) (· ||| ·) := fun x _ y _ z _ => Nat.and_or_distrib_left x y z
theorem fan_spr : ∀ m, m < 7 → 1 ≤ m → (decide (m + 2 < 5) = true ↔ SprB (m + 2) (fanL (m + 2)) (fanH (m + 2))) := by
  unfold SprB
  decide +kernel
end FvO


namespace FvO
open PySem PySem.Spec PyProof.Rows L2 Fv FvW FvX TL
/-! The product of two boards: its order, its greatest below, its least above, when it spreads, what a term stands for. -/
def prB (m : Nat) (b1 b2 : Nat → Nat → Bool) : Nat → Nat → Bool := fun u v => b1 (u / m) (v / m) && b2 (u % m) (v % m)
def prL (m : Nat) (l1 l2 : Nat → Nat → Nat) : Nat → Nat → Nat := fun u v => l1 (u / m) (v / m) * m + l2 (u % m) (v % m)
theorem pr_div {m a c : Nat} (h : c < m) : (a * m + c) / m = a := by
  rw [Nat.add_comm, Nat.add_mul_div_right _ _ (Nat.lt_of_le_of_lt (Nat.zero_le _) h), Nat.div_eq_of_lt h, Nat.zero_add]
theorem pr_mod {m a c : Nat} (h : c < m) : (a * m + c) % m = c := by
  rw [Nat.add_comm, Nat.add_mul_mod_self_right, Nat.mod_eq_of_lt h]
theorem pr_lt {n m a c : Nat} (ha : a < n) (hc : c < m) : a * m + c < n * m := by
  have h1 : (a + 1) * m ≤ n * m := Nat.mul_le_mul_right m ha
  rw [Nat.add_mul, Nat.one_mul] at h1
  omega
theorem pr_q {n m u : Nat} (h : u < n * m) : u / m < n := Nat.div_lt_of_lt_mul (by rw [Nat.mul_comm]; exact h)
theorem pr_eq {m u v : Nat} (h1 : u / m = v / m) (h2 : u % m = v % m) : u = v := by
  rw [← Nat.div_add_mod u m, ← Nat.div_add_mod v m, h1, h2]
theorem pr_split {m u : Nat} : u / m * m + u % m = u := by rw [Nat.mul_comm]; exact Nat.div_add_mod u m
section
variable {n m bt1 tp1 bt2 tp2 : Nat} {b1 b2 : Nat → Nat → Bool} {l1 h1 l2 h2 : Nat → Nat → Nat}
theorem pr_brd (A : Brd n b1 l1 h1 bt1 tp1) (B : Brd m b2 l2 h2 bt2 tp2) (le : n * m ≤ 60) : Brd (n * m) (prB m b1 b2) (prL m l1 l2) (prL m h1 h2) (bt1 * m + bt2) (tp1 * m + tp2) := by
  have m0 : 0 < m := B.n1
  have r : ∀ u : Nat, u % m < m := fun u => Nat.mod_lt u m0
  have q : ∀ {u : Nat}, u < n * m → u / m < n := fun h => pr_q h
  refine ⟨Nat.mul_pos A.n1 m0, le, fun x hx => ?_, fun x y hx hy h h' => ?_, fun x y z hx hy hz h h' => ?_, fun x y hx hy => ?_, fun x y hx hy => ?_, ?_, ?_⟩
  · unfold prB; rw [A.rf _ (q hx), B.rf _ (r x)]; rfl
  · have a := Bool.and_eq_true_iff.mp h
    have a' := Bool.and_eq_true_iff.mp h'
    exact pr_eq (A.an _ _ (q hx) (q hy) a.1 a'.1) (B.an _ _ (r x) (r y) a.2 a'.2)
  · have a := Bool.and_eq_true_iff.mp h
    have a' := Bool.and_eq_true_iff.mp h'
    exact Bool.and_eq_true_iff.mpr ⟨A.tr _ _ _ (q hx) (q hy) (q hz) a.1 a'.1, B.tr _ _ _ (r x) (r y) (r z) a.2 a'.2⟩
  · obtain ⟨p1, p2⟩ := A.lo _ _ (q hx) (q hy)
    obtain ⟨s1, s2⟩ := B.lo _ _ (r x) (r y)
    refine ⟨pr_lt p1 s1, fun z hz => ?_⟩
    unfold prB prL
    rw [pr_div s1, pr_mod s1, p2 _ (q hz), s2 _ (r z)]
    cases b1 (z / m) (x / m) <;> cases b1 (z / m) (y / m) <;> cases b2 (z % m) (x % m) <;> cases b2 (z % m) (y % m) <;> rfl
  · obtain ⟨p1, p2⟩ := A.hi _ _ (q hx) (q hy)
    obtain ⟨s1, s2⟩ := B.hi _ _ (r x) (r y)
    refine ⟨pr_lt p1 s1, fun z hz => ?_⟩
    unfold prB prL
    rw [pr_div s1, pr_mod s1, p2 _ (q hz), s2 _ (r z)]
    cases b1 (x / m) (z / m) <;> cases b1 (y / m) (z / m) <;> cases b2 (x % m) (z % m) <;> cases b2 (y % m) (z % m) <;> rfl
  · refine ⟨pr_lt A.bt.1 B.bt.1, fun z hz => ?_⟩
    unfold prB
    rw [pr_div B.bt.1, pr_mod B.bt.1, A.bt.2 _ (q hz), B.bt.2 _ (r z)]
    rfl
  · refine ⟨pr_lt A.tp.1 B.tp.1, fun z hz => ?_⟩
    unfold prB
    rw [pr_div B.tp.1, pr_mod B.tp.1, A.tp.2 _ (q hz), B.tp.2 _ (r z)]
    rfl
/-- a product spreads when both its parts do -/
theorem pr_spr (A : Brd n b1 l1 h1 bt1 tp1) (B : Brd m b2 l2 h2 bt2 tp2) : SprB (n * m) (prL m l1 l2) (prL m h1 h2) ↔ SprB n l1 h1 ∧ SprB m l2 h2 := by
  have m0 : 0 < m := B.n1
  have r : ∀ u : Nat, u % m < m := fun u => Nat.mod_lt u m0
  have q : ∀ {u : Nat}, u < n * m → u / m < n := fun h => pr_q h
  have L : ∀ {x y : Nat}, x < n * m → y < n * m → prL m l1 l2 x y / m = l1 (x / m) (y / m) ∧ prL m l1 l2 x y % m = l2 (x % m) (y % m) := fun {x y} hx hy => by
    have s : l2 (x % m) (y % m) < m := (B.lo _ _ (r x) (r y)).1
    exact ⟨pr_div s, pr_mod s⟩
  have Hh : ∀ {x y : Nat}, x < n * m → y < n * m → prL m h1 h2 x y / m = h1 (x / m) (y / m) ∧ prL m h1 h2 x y % m = h2 (x % m) (y % m) := fun {x y} hx hy => by
    have s : h2 (x % m) (y % m) < m := (B.hi _ _ (r x) (r y)).1
    exact ⟨pr_div s, pr_mod s⟩
  have lL : ∀ {x y : Nat}, x < n * m → y < n * m → prL m l1 l2 x y < n * m := fun {x y} hx hy => pr_lt (A.lo _ _ (q hx) (q hy)).1 (B.lo _ _ (r x) (r y)).1
  have lH : ∀ {x y : Nat}, x < n * m → y < n * m → prL m h1 h2 x y < n * m := fun {x y} hx hy => pr_lt (A.hi _ _ (q hx) (q hy)).1 (B.hi _ _ (r x) (r y)).1
  constructor
  · intro S
    refine ⟨fun x hx y hy z hz => ?_, fun x hx y hy z hz => ?_⟩
    · have k : ∀ {a : Nat}, a < n → a * m + bt2 < n * m := fun h => pr_lt h B.bt.1
      have e := congrArg (· / m) (S _ (k hx) _ (k hy) _ (k hz))
      rw [(L (k hx) (lH (k hy) (k hz))).1, (Hh (k hy) (k hz)).1, (Hh (lL (k hx) (k hy)) (lL (k hx) (k hz))).1, (L (k hx) (k hy)).1, (L (k hx) (k hz)).1, pr_div B.bt.1, pr_div B.bt.1, pr_div B.bt.1] at e
      exact e
    · have k : ∀ {a : Nat}, a < m → bt1 * m + a < n * m := fun h => pr_lt A.bt.1 h
      have e := congrArg (· % m) (S _ (k hx) _ (k hy) _ (k hz))
      rw [(L (k hx) (lH (k hy) (k hz))).2, (Hh (k hy) (k hz)).2, (Hh (lL (k hx) (k hy)) (lL (k hx) (k hz))).2, (L (k hx) (k hy)).2, (L (k hx) (k hz)).2, pr_mod hx, pr_mod hy, pr_mod hz] at e
      exact e
  · rintro ⟨S1, S2⟩ x hx y hy z hz
    refine pr_eq (m := m) ?_ ?_
    · rw [(L hx (lH hy hz)).1, (Hh hy hz).1, (Hh (lL hx hy) (lL hx hz)).1, (L hx hy).1, (L hx hz).1]
      exact S1 _ (q hx) _ (q hy) _ (q hz)
    · rw [(L hx (lH hy hz)).2, (Hh hy hz).2, (Hh (lL hx hy) (lL hx hz)).2, (L hx hy).2, (L hx hz).2]
      exact S2 _ (r x) _ (r y) _ (r z)
theorem pr_fold (A : Brd n b1 l1 h1 bt1 tp1) (B : Brd m b2 l2 h2 bt2 tp2) (u : Bool) : ∀ (xs : List Nat) (a c : Nat), a < n → c < m → (∀ x ∈ xs, x < n * m) →
    xs.foldl (if u = true then prL m h1 h2 else prL m l1 l2) (a * m + c) = (xs.map (· / m)).foldl (if u = true then h1 else l1) a * m + (xs.map (· % m)).foldl (if u = true then h2 else l2) c
  | [], a, c, _, _, _ => rfl
  | x :: xs, a, c, ha, hc, hx => by
    have m0 : 0 < m := B.n1
    have qx : x / m < n := pr_q (hx x List.mem_cons_self)
    have rx : x % m < m := Nat.mod_lt x m0
    have hx' : ∀ y ∈ xs, y < n * m := fun y hy => hx y (List.mem_cons_of_mem _ hy)
    cases u
    · have e : (if false = true then prL m h1 h2 else prL m l1 l2) (a * m + c) x = l1 a (x / m) * m + l2 c (x % m) := by
        show prL m l1 l2 (a * m + c) x = _
        unfold prL
        rw [pr_div hc, pr_mod hc]
      rw [List.foldl_cons, e, pr_fold A B false xs _ _ (A.lo _ _ ha qx).1 (B.lo _ _ hc rx).1 hx']
      rfl
    · have e : (if true = true then prL m h1 h2 else prL m l1 l2) (a * m + c) x = h1 a (x / m) * m + h2 c (x % m) := by
        show prL m h1 h2 (a * m + c) x = _
        unfold prL
        rw [pr_div hc, pr_mod hc]
      rw [List.foldl_cons, e, pr_fold A B true xs _ _ (A.hi _ _ ha qx).1 (B.hi _ _ hc rx).1 hx']
      rfl
end
end FvO


/-! boards between chains (mathematics): a chain below, a chain above; what they keep -/
namespace FvO
/-- no ladder -/
def ModB (n : Nat) (b : Nat → Nat → Bool) (lo hi : Nat → Nat → Nat) : Prop := ∀ x, x < n → ∀ y, y < n → ∀ z, z < n → b x y = true → lo x z = lo y z → hi x z = hi y z → x = y
theorem ModB.no {n : Nat} {b : Nat → Nat → Bool} {lo hi : Nat → Nat → Nat} (M : ModB n b lo hi) (x y z : Nat) : ¬ LadB n b lo hi x y z := fun ⟨hx, hy, hz, h, ne, e1, e2⟩ => ne (M x hx y hy z hz h e1 e2)
section
/-- L places in a chain below -/
def dnB (L : Nat) (b : Nat → Nat → Bool) (x y : Nat) : Bool := if x < L then decide (x ≤ y) else if y < L then false else b (x - L) (y - L)
def dnL (L : Nat) (lo : Nat → Nat → Nat) (x y : Nat) : Nat := if x < L then (if y < L then min x y else x) else if y < L then y else L + lo (x - L) (y - L)
def dnH (L : Nat) (hi : Nat → Nat → Nat) (x y : Nat) : Nat := if x < L then (if y < L then max x y else y) else if y < L then x else L + hi (x - L) (y - L)
/-- places in a chain above the first m -/
def upB (m : Nat) (b : Nat → Nat → Bool) (x y : Nat) : Bool := if x < m then (if y < m then b x y else true) else decide (x ≤ y)
def upL (m : Nat) (lo : Nat → Nat → Nat) (x y : Nat) : Nat := if x < m then (if y < m then lo x y else x) else if y < m then y else min x y
def upH (m : Nat) (hi : Nat → Nat → Nat) (x y : Nat) : Nat := if x < m then (if y < m then hi x y else y) else if y < m then x else max x y
variable {n : Nat} {b : Nat → Nat → Bool} {lo hi : Nat → Nat → Nat} {bt tp : Nat}
theorem dn_part (L : Nat) {n x : Nat} (h : x < L + n) : x < L ∨ ∃ a, a < n ∧ x = L + a := by
  by_cases c : x < L
  · exact .inl c
  · exact .inr ⟨x - L, by omega, by omega⟩
theorem dnB_1 {L x y : Nat} (h : x < L) : dnB L b x y = decide (x ≤ y) := if_pos h
theorem dnB_2 {L a y : Nat} (h : y < L) : dnB L b (L + a) y = false := by unfold dnB; rw [if_neg (by omega), if_pos h]
theorem dnB_3 {L a c : Nat} : dnB L b (L + a) (L + c) = b a c := by unfold dnB; rw [if_neg (by omega), if_neg (by omega), Nat.add_sub_cancel_left, Nat.add_sub_cancel_left]
theorem dnL_1 {L x y : Nat} (h : x < L) : dnL L lo x y = min x y := by unfold dnL; rw [if_pos h]; split <;> omega
theorem dnL_2 {L x y : Nat} (h : y < L) : dnL L lo x y = min x y := by unfold dnL; rw [if_pos h, if_pos h]; split <;> omega
theorem dnL_3 {L a c : Nat} : dnL L lo (L + a) (L + c) = L + lo a c := by unfold dnL; rw [if_neg (by omega), if_neg (by omega), Nat.add_sub_cancel_left, Nat.add_sub_cancel_left]
theorem dnH_1 {L x y : Nat} (h : x < L) : dnH L hi x y = max x y := by unfold dnH; rw [if_pos h]; split <;> omega
theorem dnH_2 {L x y : Nat} (h : y < L) : dnH L hi x y = max x y := by unfold dnH; rw [if_pos h, if_pos h]; split <;> omega
theorem dnH_3 {L a c : Nat} : dnH L hi (L + a) (L + c) = L + hi a c := by unfold dnH; rw [if_neg (by omega), if_neg (by omega), Nat.add_sub_cancel_left, Nat.add_sub_cancel_left]
theorem upB_1 {m x y : Nat} (h : ¬ x < m) : upB m b x y = decide (x ≤ y) := if_neg h
theorem upB_2 {m x y : Nat} (h : x < m) (g : ¬ y < m) : upB m b x y = true := by unfold upB; rw [if_pos h, if_neg g]
theorem upB_3 {m x y : Nat} (h : x < m) (g : y < m) : upB m b x y = b x y := by unfold upB; rw [if_pos h, if_pos g]
theorem upL_1 {m x y : Nat} (h : ¬ x < m) : upL m lo x y = min x y := by unfold upL; rw [if_neg h]; split <;> omega
theorem upL_2 {m x y : Nat} (h : ¬ y < m) : upL m lo x y = min x y := by unfold upL; rw [if_neg h, if_neg h]; split <;> omega
theorem upL_3 {m x y : Nat} (h : x < m) (g : y < m) : upL m lo x y = lo x y := by unfold upL; rw [if_pos h, if_pos g]
theorem upH_1 {m x y : Nat} (h : ¬ x < m) : upH m hi x y = max x y := by unfold upH; rw [if_neg h]; split <;> omega
theorem upH_2 {m x y : Nat} (h : ¬ y < m) : upH m hi x y = max x y := by unfold upH; rw [if_neg h, if_neg h]; split <;> omega
theorem upH_3 {m x y : Nat} (h : x < m) (g : y < m) : upH m hi x y = hi x y := by unfold upH; rw [if_pos h, if_pos g]
theorem dn_brd {L : Nat} (B : Brd n b lo hi bt tp) (le : L + n ≤ 60) : Brd (L + n) (dnB L b) (dnL L lo) (dnH L hi) (if L = 0 then bt else 0) (L + tp) where
  n1 := by have := B.n1; omega
  n60 := le
  rf := fun x hx => by
    rcases dn_part L hx with h | ⟨a, ha, rfl⟩
    · rw [dnB_1 h]; exact decide_eq_true (Nat.le_refl _)
    · rw [dnB_3]; exact B.rf a ha
  an := fun x y hx hy h1 h2 => by
    rcases dn_part L hx with h | ⟨a, ha, rfl⟩ <;> rcases dn_part L hy with g | ⟨c, hc, rfl⟩
    · rw [dnB_1 h] at h1; rw [dnB_1 g] at h2; have := of_decide_eq_true h1; have := of_decide_eq_true h2; omega
    · rw [dnB_2 h] at h2; cases h2
    · rw [dnB_2 g] at h1; cases h1
    · rw [dnB_3] at h1 h2; rw [B.an a c ha hc h1 h2]
  tr := fun x y z hx hy hz h1 h2 => by
    rcases dn_part L hx with h | ⟨a, ha, rfl⟩ <;> rcases dn_part L hy with g | ⟨c, hc, rfl⟩ <;> rcases dn_part L hz with f | ⟨d, hd, rfl⟩
    · rw [dnB_1 h] at h1 ⊢; rw [dnB_1 g] at h2; have := of_decide_eq_true h1; have := of_decide_eq_true h2; exact decide_eq_true (by omega)
    · rw [dnB_1 h]; exact decide_eq_true (by omega)
    · rw [dnB_2 f] at h2; cases h2
    · rw [dnB_1 h]; exact decide_eq_true (by omega)
    · rw [dnB_2 g] at h1; cases h1
    · rw [dnB_2 g] at h1; cases h1
    · rw [dnB_2 f] at h2; cases h2
    · rw [dnB_3] at h1 h2 ⊢; exact B.tr a c d ha hc hd h1 h2
  lo := fun x y hx hy => by
    rcases dn_part L hx with h | ⟨a, ha, rfl⟩ <;> rcases dn_part L hy with g | ⟨c, hc, rfl⟩
    · rw [dnL_1 h]
      refine ⟨by omega, fun z hz => ?_⟩
      rcases dn_part L hz with f | ⟨d, hd, rfl⟩
      · rw [dnB_1 f, dnB_1 f, dnB_1 f, Bool.eq_iff_iff, Bool.and_eq_true]; simp only [decide_eq_true_eq]; omega
      · rw [dnB_2 (by omega), dnB_2 h]; rfl
    · rw [dnL_1 h]
      refine ⟨by omega, fun z hz => ?_⟩
      rcases dn_part L hz with f | ⟨d, hd, rfl⟩
      · rw [dnB_1 f, dnB_1 f, dnB_1 f, Bool.eq_iff_iff, Bool.and_eq_true]; simp only [decide_eq_true_eq]; omega
      · rw [dnB_2 (by omega), dnB_2 h]; rfl
    · rw [dnL_2 g]
      refine ⟨by omega, fun z hz => ?_⟩
      rcases dn_part L hz with f | ⟨d, hd, rfl⟩
      · rw [dnB_1 f, dnB_1 f, dnB_1 f, Bool.eq_iff_iff, Bool.and_eq_true]; simp only [decide_eq_true_eq]; omega
      · rw [dnB_2 (by omega), dnB_2 g, Bool.and_false]
    · rw [dnL_3]
      have l := B.lo a c ha hc
      refine ⟨by omega, fun z hz => ?_⟩
      rcases dn_part L hz with f | ⟨d, hd, rfl⟩
      · rw [dnB_1 f, dnB_1 f, dnB_1 f, Bool.eq_iff_iff, Bool.and_eq_true]; simp only [decide_eq_true_eq]; omega
      · rw [dnB_3, dnB_3, dnB_3]; exact l.2 d hd
  hi := fun x y hx hy => by
    rcases dn_part L hx with h | ⟨a, ha, rfl⟩ <;> rcases dn_part L hy with g | ⟨c, hc, rfl⟩
    · rw [dnH_1 h]
      refine ⟨by omega, fun z hz => ?_⟩
      rcases Nat.lt_or_ge (max x y) L with m | m
      · rw [dnB_1 m, dnB_1 h, dnB_1 g, Bool.eq_iff_iff, Bool.and_eq_true]; simp only [decide_eq_true_eq]; omega
      · omega
    · rw [dnH_1 h]
      refine ⟨by omega, fun z hz => ?_⟩
      have e : max x (L + c) = L + c := by omega
      rw [e]
      rcases dn_part L hz with f | ⟨d, hd, rfl⟩
      · rw [dnB_2 f, Bool.and_false]
      · rw [dnB_3, dnB_1 h, decide_eq_true (show x ≤ L + d by omega), Bool.true_and]
    · rw [dnH_2 g]
      refine ⟨by omega, fun z hz => ?_⟩
      have e : max (L + a) y = L + a := by omega
      rw [e]
      rcases dn_part L hz with f | ⟨d, hd, rfl⟩
      · rw [dnB_2 f]; rfl
      · rw [dnB_3, dnB_1 g, decide_eq_true (show y ≤ L + d by omega), Bool.and_true]
    · rw [dnH_3]
      have l := B.hi a c ha hc
      refine ⟨by omega, fun z hz => ?_⟩
      rcases dn_part L hz with f | ⟨d, hd, rfl⟩
      · rw [dnB_2 f, dnB_2 f]; rfl
      · rw [dnB_3, dnB_3, dnB_3]; exact l.2 d hd
  bt := by
    by_cases c : L = 0
    · subst c
      rw [if_pos rfl]
      refine ⟨by have := B.bt.1; omega, fun z hz => ?_⟩
      have e := @dnB_3 b 0 bt z
      rw [Nat.zero_add, Nat.zero_add] at e
      rw [e]
      exact B.bt.2 z (by omega)
    · rw [if_neg c]
      exact ⟨by omega, fun z _ => by rw [dnB_1 (by omega)]; exact decide_eq_true (Nat.zero_le _)⟩
  tp := ⟨by have := B.tp.1; omega, fun z hz => by
    rcases dn_part L hz with f | ⟨d, hd, rfl⟩
    · rw [dnB_1 f]; exact decide_eq_true (by omega)
    · rw [dnB_3]; exact B.tp.2 d hd⟩
theorem dn_mod {L : Nat} (B : Brd n b lo hi bt tp) (M : ModB n b lo hi) : ModB (L + n) (dnB L b) (dnL L lo) (dnH L hi) := fun x hx y hy z hz h1 e1 e2 => by
  rcases dn_part L hz with f | ⟨d, hd, rfl⟩
  · rw [dnL_2 f, dnL_2 f] at e1
    rw [dnH_2 f, dnH_2 f] at e2
    omega
  · rcases dn_part L hx with h | ⟨a, ha, rfl⟩ <;> rcases dn_part L hy with g | ⟨c, hc, rfl⟩
    · rw [dnL_1 h, dnL_1 g] at e1; omega
    · rw [dnL_1 h, dnL_3] at e1; omega
    · rw [dnB_2 g] at h1; cases h1
    · rw [dnL_3, dnL_3] at e1
      rw [dnH_3, dnH_3] at e2
      rw [dnB_3] at h1
      rw [M a ha c hc d hd h1 (by omega) (by omega)]
theorem dn_lad {L x y z : Nat} (h : LadB n b lo hi x y z) : LadB (L + n) (dnB L b) (dnL L lo) (dnH L hi) (L + x) (L + y) (L + z) :=
  ⟨by have := h.1; omega, by have := h.2.1; omega, by have := h.2.2.1; omega, by rw [dnB_3]; exact h.2.2.2.1, by have := h.2.2.2.2.1; omega, by rw [dnL_3, dnL_3, h.2.2.2.2.2.1], by rw [dnH_3, dnH_3, h.2.2.2.2.2.2]⟩
theorem dn_spr {L : Nat} (B : Brd n b lo hi bt tp) : SprB (L + n) (dnL L lo) (dnH L hi) ↔ SprB n lo hi := by
  refine ⟨fun S a ha c hc d hd => ?_, fun S x hx y hy z hz => ?_⟩
  · have e := S (L + a) (by omega) (L + c) (by omega) (L + d) (by omega)
    rw [dnH_3, dnL_3, dnL_3, dnL_3, dnH_3] at e
    omega
  · rcases dn_part L hx with h | ⟨a, ha, rfl⟩
    · rw [dnL_1 h, dnL_1 h, dnL_1 h, dnH_1 (show min x y < L by omega)]
      rcases dn_part L hy with g | ⟨c, hc, rfl⟩
      · rw [dnH_1 g]; omega
      · rcases dn_part L hz with f | ⟨d, hd, rfl⟩
        · rw [dnH_2 f]; omega
        · rw [dnH_3]; omega
    · rcases dn_part L hy with g | ⟨c, hc, rfl⟩
      · rw [dnL_2 g, dnH_1 g, dnH_1 (by omega)]
        rcases dn_part L hz with f | ⟨d, hd, rfl⟩
        · rw [dnL_2 f, dnL_2 (by omega)]; omega
        · rw [show max y (L + d) = L + d by omega, dnL_3]; omega
      · rcases dn_part L hz with f | ⟨d, hd, rfl⟩
        · rw [dnL_2 f, dnH_2 f, dnH_2 (by omega), show max (L + c) z = L + c by omega, dnL_3]; omega
        · rw [dnH_3, dnL_3, dnL_3, dnL_3, dnH_3, S a ha c hc d hd]
theorem up_brd {m : Nat} (B : Brd n b lo hi bt tp) (le : n + m ≤ 60) : Brd (n + m) (upB n b) (upL n lo) (upH n hi) bt (if m = 0 then tp else n + m - 1) where
  n1 := by have := B.n1; omega
  n60 := le
  rf := fun x hx => by
    by_cases h : x < n
    · rw [upB_3 h h]; exact B.rf x h
    · rw [upB_1 h]; exact decide_eq_true (Nat.le_refl _)
  an := fun x y hx hy h1 h2 => by
    by_cases h : x < n <;> by_cases g : y < n
    · rw [upB_3 h g] at h1; rw [upB_3 g h] at h2; exact B.an x y h g h1 h2
    · rw [upB_1 g] at h2; have := of_decide_eq_true h2; omega
    · rw [upB_1 h] at h1; have := of_decide_eq_true h1; omega
    · rw [upB_1 h] at h1; rw [upB_1 g] at h2; have := of_decide_eq_true h1; have := of_decide_eq_true h2; omega
  tr := fun x y z hx hy hz h1 h2 => by
    by_cases h : x < n <;> by_cases g : y < n <;> by_cases f : z < n
    · rw [upB_3 h g] at h1; rw [upB_3 g f] at h2; rw [upB_3 h f]; exact B.tr x y z h g f h1 h2
    · rw [upB_2 h f]
    · rw [upB_1 g] at h2; have := of_decide_eq_true h2; omega
    · rw [upB_2 h f]
    · rw [upB_1 h] at h1; have := of_decide_eq_true h1; omega
    · rw [upB_1 h] at h1; have := of_decide_eq_true h1; omega
    · rw [upB_1 g] at h2; have := of_decide_eq_true h2; omega
    · rw [upB_1 h] at h1 ⊢; rw [upB_1 g] at h2; have := of_decide_eq_true h1; have := of_decide_eq_true h2; exact decide_eq_true (by omega)
  lo := fun x y hx hy => by
    by_cases h : x < n <;> by_cases g : y < n
    · rw [upL_3 h g]
      have l := B.lo x y h g
      refine ⟨by omega, fun z hz => ?_⟩
      by_cases f : z < n
      · rw [upB_3 f l.1, upB_3 f h, upB_3 f g]; exact l.2 z f
      · rw [upB_1 f, upB_1 f, upB_1 f, decide_eq_false (show ¬ z ≤ lo x y by omega), decide_eq_false (show ¬ z ≤ x by omega)]; rfl
    · rw [upL_2 g, show min x y = x by omega]
      refine ⟨by omega, fun z hz => ?_⟩
      by_cases f : z < n
      · rw [upB_2 f g, Bool.and_true]
      · rw [upB_1 f, upB_1 f, decide_eq_false (show ¬ z ≤ x by omega)]; rfl
    · rw [upL_1 h, show min x y = y by omega]
      refine ⟨by omega, fun z hz => ?_⟩
      by_cases f : z < n
      · rw [upB_2 f h, Bool.true_and]
      · rw [upB_1 f, upB_1 f, decide_eq_false (show ¬ z ≤ y by omega), Bool.and_false]
    · rw [upL_1 h]
      refine ⟨by omega, fun z hz => ?_⟩
      by_cases f : z < n
      · rw [upB_2 f (by omega), upB_2 f h, upB_2 f g]; rfl
      · rw [upB_1 f, upB_1 f, upB_1 f, Bool.eq_iff_iff, Bool.and_eq_true]; simp only [decide_eq_true_eq]; omega
  hi := fun x y hx hy => by
    by_cases h : x < n <;> by_cases g : y < n
    · rw [upH_3 h g]
      have l := B.hi x y h g
      refine ⟨by omega, fun z hz => ?_⟩
      by_cases f : z < n
      · rw [upB_3 l.1 f, upB_3 h f, upB_3 g f]; exact l.2 z f
      · rw [upB_2 l.1 f, upB_2 h f, upB_2 g f]; rfl
    · rw [upH_2 g, show max x y = y by omega]
      refine ⟨by omega, fun z hz => ?_⟩
      by_cases f : z < n
      · rw [upB_1 g, decide_eq_false (show ¬ y ≤ z by omega), Bool.and_false]
      · rw [upB_2 h f, Bool.true_and]
    · rw [upH_1 h, show max x y = x by omega]
      refine ⟨by omega, fun z hz => ?_⟩
      by_cases f : z < n
      · rw [upB_1 h, decide_eq_false (show ¬ x ≤ z by omega)]; rfl
      · rw [upB_2 g f, Bool.and_true]
    · rw [upH_1 h]
      refine ⟨by omega, fun z hz => ?_⟩
      rw [upB_1 (by omega), upB_1 h, upB_1 g, Bool.eq_iff_iff, Bool.and_eq_true]; simp only [decide_eq_true_eq]; omega
  bt := ⟨by have := B.bt.1; omega, fun z hz => by
    have := B.bt.1
    by_cases f : z < n
    · rw [upB_3 this f]; exact B.bt.2 z f
    · rw [upB_2 this f]⟩
  tp := by
    have tn := B.tp.1
    by_cases c : m = 0
    · rw [if_pos c]
      exact ⟨by omega, fun z hz => by rw [upB_3 (by omega) tn]; exact B.tp.2 z (by omega)⟩
    · rw [if_neg c]
      refine ⟨by omega, fun z hz => ?_⟩
      by_cases f : z < n
      · rw [upB_2 f (by omega)]
      · rw [upB_1 f]; exact decide_eq_true (by omega)
theorem up_mod {m : Nat} (B : Brd n b lo hi bt tp) (M : ModB n b lo hi) : ModB (n + m) (upB n b) (upL n lo) (upH n hi) := fun x hx y hy z hz h1 e1 e2 => by
  by_cases f : z < n
  · by_cases h : x < n <;> by_cases g : y < n
    · rw [upL_3 h f, upL_3 g f] at e1
      rw [upH_3 h f, upH_3 g f] at e2
      rw [upB_3 h g] at h1
      exact M x h y g z f h1 e1 e2
    · rw [upH_3 h f, upH_1 g] at e2
      have := (B.hi x z h f).1
      omega
    · rw [upB_1 h] at h1; have := of_decide_eq_true h1; omega
    · rw [upH_1 h, upH_1 g] at e2; omega
  · rw [upL_2 f, upL_2 f] at e1
    rw [upH_2 f, upH_2 f] at e2
    omega
theorem up_lad {m x y z : Nat} (h : LadB n b lo hi x y z) : LadB (n + m) (upB n b) (upL n lo) (upH n hi) x y z :=
  ⟨by have := h.1; omega, by have := h.2.1; omega, by have := h.2.2.1; omega, by rw [upB_3 h.1 h.2.1]; exact h.2.2.2.1, h.2.2.2.2.1, by rw [upL_3 h.1 h.2.2.1, upL_3 h.2.1 h.2.2.1, h.2.2.2.2.2.1], by rw [upH_3 h.1 h.2.2.1, upH_3 h.2.1 h.2.2.1, h.2.2.2.2.2.2]⟩
theorem up_spr {m : Nat} (B : Brd n b lo hi bt tp) : SprB (n + m) (upL n lo) (upH n hi) ↔ SprB n lo hi := by
  refine ⟨fun S a ha c hc d hd => ?_, fun S x hx y hy z hz => ?_⟩
  · have e := S a (by omega) c (by omega) d (by omega)
    have l1 := (B.lo a c ha hc).1
    have l2 := (B.lo a d ha hd).1
    have l3 := (B.hi c d hc hd).1
    rw [upH_3 hc hd, upL_3 ha hc, upL_3 ha hd, upL_3 ha l3, upH_3 l1 l2] at e
    exact e
  · by_cases h : x < n
    · by_cases g : y < n
      · have l1 := (B.lo x y h g).1
        by_cases f : z < n
        · have l2 := (B.lo x z h f).1
          have l3 := (B.hi y z g f).1
          rw [upH_3 g f, upL_3 h g, upL_3 h f, upL_3 h l3, upH_3 l1 l2]
          exact S x h y g z f
        · rw [upH_2 f, show max y z = z by omega, upL_2 f, show min x z = x by omega, upL_3 h g, upH_3 l1 h]
          have a1 := (B.hi _ _ l1 h).1
          refine B.an _ _ h a1 (B.latB.hi_u l1 h).2 (B.latB.hi_in l1 h h (B.latB.lo_l h g).1 (B.rf x h))
      · rw [upH_1 g, upL_2 g, show min x y = x by omega, upL_2 (by omega), show min x (max y z) = x by omega]
        by_cases f : z < n
        · have l2 := (B.lo x z h f).1
          rw [upL_3 h f, upH_3 h l2]
          have a1 := (B.hi _ _ h l2).1
          refine B.an _ _ h a1 (B.latB.hi_u h l2).1 (B.latB.hi_in h l2 h (B.rf x h) (B.latB.lo_l h f).1)
        · rw [upL_2 f, show min x z = x by omega, upH_3 h h]
          have a1 := (B.hi _ _ h h).1
          exact B.an _ _ h a1 (B.latB.hi_u h h).1 (B.latB.hi_in h h h (B.rf x h) (B.rf x h))
    · rw [upL_1 h, upL_1 h, upL_1 h]
      by_cases g : y < n
      · by_cases f : z < n
        · have l3 := (B.hi y z g f).1
          rw [upH_3 g f, show min x y = y by omega, show min x z = z by omega, upH_3 g f]; omega
        · rw [upH_2 f, upH_2 (by omega)]; omega
      · rw [upH_1 g, upH_1 (by omega)]; omega
end
/-- products -/
theorem prod_mod {n m : Nat} {b1 b2 : Nat → Nat → Bool} {l1 h1 l2 h2 : Nat → Nat → Nat} {bt1 tp1 bt2 tp2 : Nat} (A : Brd n b1 l1 h1 bt1 tp1) (B : Brd m b2 l2 h2 bt2 tp2) (M1 : ModB n b1 l1 h1) (M2 : ModB m b2 l2 h2) : ModB (n * m) (prB m b1 b2) (prL m l1 l2) (prL m h1 h2) := fun x hx y hy z hz h e1 e2 => by
  have mp : 0 < m := B.n1
  have xr := Nat.mod_lt x mp
  have yr := Nat.mod_lt y mp
  have zr := Nat.mod_lt z mp
  have a := Bool.and_eq_true_iff.mp h
  have q : ∀ {l1 l2 : Nat → Nat → Nat}, (∀ u v, u < m → v < m → l2 u v < m) → prL m l1 l2 x z = prL m l1 l2 y z → l1 (x / m) (z / m) = l1 (y / m) (z / m) ∧ l2 (x % m) (z % m) = l2 (y % m) (z % m) := fun {l1 l2} f e => by
    unfold prL at e
    have d := congrArg (· / m) e
    have r := congrArg (· % m) e
    rw [FvO.pr_div (f _ _ xr zr), FvO.pr_div (f _ _ yr zr)] at d
    rw [FvO.pr_mod (f _ _ xr zr), FvO.pr_mod (f _ _ yr zr)] at r
    exact ⟨d, r⟩
  have c1 := q (fun u v hu hv => (B.lo u v hu hv).1) e1
  have c2 := q (fun u v hu hv => (B.hi u v hu hv).1) e2
  exact pr_eq (M1 _ (pr_q hx) _ (pr_q hy) _ (pr_q hz) a.1 c1.1 c2.1) (M2 _ xr _ yr _ zr a.2 c1.2 c2.2)
theorem chain_mod (n : Nat) : ModB n (fun x y => decide (x ≤ y)) min max := fun x _ y _ z _ h e1 e2 => by omega
theorem fan_mod (n : Nat) : ModB n (fanB n) (fanL n) (fanH n) := fun x hx y hy z hz h e1 e2 => by
  unfold fanB at h
  simp only [Bool.or_eq_true, decide_eq_true_eq] at h
  unfold fanL at e1
  unfold fanH at e2
  revert e1 e2
  (repeat' split) <;> omega
/-- a fan with three places right above does not spread -/
theorem fan_not {n : Nat} (h : 5 ≤ n) : ¬ SprB n (fanL n) (fanH n) := fun S => by
  have e := S 1 (by omega) 2 (by omega) 3 (by omega)
  unfold fanL fanH at e
  revert e
  (repeat' split) <;> omega
theorem ModB.eq {n : Nat} {b b' : Nat → Nat → Bool} {lo hi : Nat → Nat → Nat} (M : ModB n b lo hi) (e : ∀ x y, x < n → y < n → b' x y = b x y) : ModB n b' lo hi := fun x hx y hy z hz h => M x hx y hy z hz (by rw [← e x y hx hy]; exact h)
end FvO


namespace FvO
open PySem PySem.Spec PyProof.Rows L2 Fv FvW FvX TL
/-! The rows of a product, as its program makes them. -/
theorem join_flat : ∀ ls : List (List Nat), Txt.join "" (ls.map mk) = mk ls.flatten := fun ls => by
  refine ext_tl ?_
  rw [join_eq, tl_join, List.map_map]
  have e : ∀ ls : List (List Nat), joinL (tl "") (ls.map (tl ∘ mk)) = ls.flatten := fun ls => by
    induction ls with
    | nil => rfl
    | cons c l ih =>
      cases l with
      | nil => exact (List.append_nil c).symm
      | cons c2 l =>
        show c ++ (tl "" ++ joinL (tl "") ((c2 :: l).map (tl ∘ mk))) = _
        rw [ih]
        rfl
  exact e ls
theorem flat_pr {α : Type} (n m : Nat) (g : Nat → Nat → α) (hm : 0 < m) : ((List.range n).map fun x => (List.range m).map fun y => g x y).flatten = (List.range (n * m)).map fun v => g (v / m) (v % m) := by
  induction n with
  | zero => rw [Nat.zero_mul]; rfl
  | succ n ih =>
    rw [List.range_succ, List.map_append, List.flatten_append, ih, Nat.succ_mul, List.range_add, List.map_append, List.map_map]
    congr 1
    show ((List.range m).map fun y => g n y) ++ [] = _
    rw [List.append_nil]
    refine List.map_congr_left fun y hy => ?_
    have hy := List.mem_range.mp hy
    show g n y = g ((n * m + y) / m) ((n * m + y) % m)
    rw [pr_div hy, pr_mod hy]
theorem blank_row (m : Nat) : mulS "0" m = rowF m fun _ => false := by
  rw [rep_mk 48 "0" rfl]
  unfold rowF
  congr 1
  refine List.ext_getElem (by simp) fun i h1 h2 => ?_
  rw [List.getElem_map, List.getElem_replicate]
  rfl
/-- one row of a product: its part for each digit, put together -/
theorem row_pr (n m : Nat) (f g : Nat → Bool) (hm : 0 < m) : Txt.join "" ((List.range n).map fun x => if f x = true then rowF m g else mulS "0" m) = rowF (n * m) fun v => f (v / m) && g (v % m) := by
  have e : ((List.range n).map fun x => if f x = true then rowF m g else mulS "0" m) = ((List.range n).map fun x => (List.range m).map fun y => chB (f x && g y)).map mk := by
    rw [List.map_map]
    refine List.map_congr_left fun x _ => ?_
    show _ = rowF m fun y => f x && g y
    cases f x with
    | true => rfl
    | false => exact blank_row m
  rw [e, join_flat, flat_pr n m _ hm]
  rfl
theorem pr_range (n m : Nat) (hm : 0 < m) (f : Nat → Nat → Str) : ((List.range n).map fun i => (List.range m).map fun j => f i j).flatten = (List.range (n * m)).map fun u => f (u / m) (u % m) := flat_pr n m f hm
end FvO


/-! boards between chains: what stands between, and the rows (mathematics) -/
namespace FvO
open PySem PySem.Spec PyProof.Rows L2 Fv
def upOk (M : List Nat) (a c u : Nat) : Bool := M.contains u && (subM a u && (subM c u && M.all fun m => !(subM a m && subM c m) || subM u m))
theorem upOk_perm {M N : List Nat} (p : N.Perm M) (a c u : Nat) : upOk N a c u = upOk M a c u := by
  have h1 : N.contains u = M.contains u := by
    rw [Bool.eq_iff_iff, List.contains_iff_mem, List.contains_iff_mem]
    exact p.mem_iff
  have h2 : (N.all fun m => !(subM a m && subM c m) || subM u m) = M.all fun m => !(subM a m && subM c m) || subM u m := by
    rw [Bool.eq_iff_iff, List.all_eq_true, List.all_eq_true]
    exact ⟨fun h m hm => h m (p.mem_iff.mpr hm), fun h m hm => h m (p.mem_iff.mp hm)⟩
  unfold upOk
  rw [h1, h2]
theorem up_is {ms : List Nat} (F : Fam ms) {x y : Nat} (hx : x < ms.length) (hy : y < ms.length) : upOk ms (msAt ms x) (msAt ms y) (msAt ms (upI ms x y)) = true := by
  obtain ⟨l, e⟩ := up_spec F hx hy
  have z := (e _ l).mp (leI_refl _)
  have c := List.contains_iff_mem.mpr (msAt_mem l)
  have z1 : subM (msAt ms x) (msAt ms (upI ms x y)) = true := z.1
  have z2 : subM (msAt ms y) (msAt ms (upI ms x y)) = true := z.2
  unfold upOk
  rw [c, z1, z2, Bool.true_and, Bool.true_and, Bool.true_and, List.all_eq_true]
  intro m hm
  obtain ⟨w, hw, rfl⟩ := msAt_ex hm
  have g := (e w hw).mpr
  unfold leI at g
  cases c : (subM (msAt ms x) (msAt ms w) && subM (msAt ms y) (msAt ms w)) with
  | false => rfl
  | true =>
    rw [Bool.and_eq_true] at c
    rw [g c]
    rfl
section
variable {n : Nat} {b : Nat → Nat → Bool} {lo hi : Nat → Nat → Nat} {bt tp : Nat}
theorem Brd.idem (B : Brd n b lo hi bt tp) {x : Nat} (h : x < n) : hi x x = x := by
  have a1 := (B.hi _ _ h h).1
  exact (B.an _ _ h a1 (B.latB.hi_u h h).1 (B.latB.hi_in h h h (B.rf x h) (B.rf x h))).symm
/-- a board that spreads has no ladder -/
theorem spr_nolad (B : Brd n b lo hi bt tp) (S : SprB n lo hi) {x y z : Nat} (h : LadB n b lo hi x y z) : False := by
  obtain ⟨hx, hy, hz, le, ne, e1, e2⟩ := h
  have A := B.latB
  have u := (B.hi y z hy hz).1
  have ly : lo y (hi y z) = y := B.an _ _ (B.lo _ _ hy u).1 hy (A.lo_l hy u).1 (A.lo_in hy u hy (B.rf y hy) (A.hi_u hy hz).1)
  have e := S y hy x hx z hz
  rw [e2, ly, ← e1] at e
  have l1 := (B.lo y x hy hx).1
  have l2 := (B.lo x z hx hz).1
  have le2 : b y x = true := by
    rw [e]
    exact A.hi_in l1 l2 hx (A.lo_l hy hx).2 (A.lo_l hx hz).1
  exact ne (B.an _ _ hx hy le le2)
end
theorem fanM : ∀ a ∈ [0, 1, 2, 4, 7], ∀ b ∈ [0, 1, 2, 4, 7], ∀ c ∈ [0, 1, 2, 4, 7], ∀ u ∈ [0, 1, 2, 4, 7], subM a b = true → a &&& c = b &&& c → upOk [0, 1, 2, 4, 7] a c u = true → upOk [0, 1, 2, 4, 7] b c u = true → a = b := by decide +kernel
theorem fan7 : ∀ u ∈ [0, 1, 2, 4, 7], upOk [0, 1, 2, 4, 7] 2 4 u = true → u = 7 := by decide +kernel
theorem fan0 : ∀ u ∈ [0, 1, 2, 4, 7], upOk [0, 1, 2, 4, 7] 0 0 u = true → u = 0 := by decide +kernel
theorem lad7 : ∀ u ∈ [0, 1, 3, 4, 7], (upOk [0, 1, 3, 4, 7] 1 4 u = true ∨ upOk [0, 1, 3, 4, 7] 3 4 u = true) → u = 7 := by decide +kernel
theorem four_or : ∀ a ∈ [0, 1, 2, 3], ∀ c ∈ [0, 1, 2, 3], ∀ u ∈ [0, 1, 2, 3], upOk [0, 1, 2, 3] a c u = true → u = a ||| c := by decide +kernel
theorem inner_fan {ms : List Nat} (F : Fam ms) (p : ms.Perm [0, 1, 2, 4, 7]) : ModB ms.length (leI ms) (lowI ms) (upI ms) ∧ ¬ SprB ms.length (lowI ms) (upI ms) := by
  have mem : ∀ {x}, x < ms.length → msAt ms x ∈ [0, 1, 2, 4, 7] := fun h => p.mem_iff.mp (msAt_mem h)
  have up : ∀ {x y}, x < ms.length → y < ms.length → upOk [0, 1, 2, 4, 7] (msAt ms x) (msAt ms y) (msAt ms (upI ms x y)) = true := fun h g => by
    rw [← upOk_perm p]; exact up_is F h g
  refine ⟨fun x hx y hy z hz h e1 e2 => ?_, fun S => ?_⟩
  · have a1 := low_ms F hx hz
    rw [e1, low_ms F hy hz] at a1
    have u1 := up hx hz
    rw [e2] at u1
    exact msAt_inj F.nd hx hy (fanM _ (mem hx) _ (mem hy) _ (mem hz) _ (mem (up_spec F hy hz).1) h a1.symm u1 (up hy hz))
  · obtain ⟨x, hx, ex⟩ := msAt_ex (p.mem_iff.mpr (show 1 ∈ [0, 1, 2, 4, 7] by decide))
    obtain ⟨y, hy, ey⟩ := msAt_ex (p.mem_iff.mpr (show 2 ∈ [0, 1, 2, 4, 7] by decide))
    obtain ⟨z, hz, ez⟩ := msAt_ex (p.mem_iff.mpr (show 4 ∈ [0, 1, 2, 4, 7] by decide))
    have e := congrArg (msAt ms) (S x hx y hy z hz)
    have u := (up_spec F hy hz).1
    have e7 : msAt ms (upI ms y z) = 7 := by
      have := up hy hz
      rw [ey, ez] at this
      exact fan7 _ (mem u) this
    have l1 := (low_spec F hx hy).1
    have l2 := (low_spec F hx hz).1
    have e0 := up l1 l2
    rw [← S x hx y hy z hz, low_ms F hx hy, low_ms F hx hz, low_ms F hx u, e7, ex, ey, ez] at e0
    exact absurd (fan0 _ (by decide) e0) (by decide)
theorem inner_lad {ms : List Nat} (F : Fam ms) (p : ms.Perm [0, 1, 3, 4, 7]) : ∃ x y z, LadB ms.length (leI ms) (lowI ms) (upI ms) x y z := by
  have mem : ∀ {x}, x < ms.length → msAt ms x ∈ [0, 1, 3, 4, 7] := fun h => p.mem_iff.mp (msAt_mem h)
  have up : ∀ {x y}, x < ms.length → y < ms.length → upOk [0, 1, 3, 4, 7] (msAt ms x) (msAt ms y) (msAt ms (upI ms x y)) = true := fun h g => by
    rw [← upOk_perm p]; exact up_is F h g
  obtain ⟨x, hx, ex⟩ := msAt_ex (p.mem_iff.mpr (show 1 ∈ [0, 1, 3, 4, 7] by decide))
  obtain ⟨y, hy, ey⟩ := msAt_ex (p.mem_iff.mpr (show 3 ∈ [0, 1, 3, 4, 7] by decide))
  obtain ⟨z, hz, ez⟩ := msAt_ex (p.mem_iff.mpr (show 4 ∈ [0, 1, 3, 4, 7] by decide))
  refine ⟨x, y, z, hx, hy, hz, ?_, fun e => ?_, ?_, ?_⟩
  · unfold leI; rw [ex, ey]; decide
  · rw [e, ey] at ex; cases ex
  · refine msAt_inj F.nd (low_spec F hx hz).1 (low_spec F hy hz).1 ?_
    rw [low_ms F hx hz, low_ms F hy hz, ex, ey, ez]; decide
  · refine msAt_inj F.nd (up_spec F hx hz).1 (up_spec F hy hz).1 ?_
    have u1 := up hx hz
    have u2 := up hy hz
    rw [ex, ez] at u1
    rw [ey, ez] at u2
    rw [lad7 _ (mem (up_spec F hx hz).1) (.inl u1), lad7 _ (mem (up_spec F hy hz).1) (.inr u2)]
theorem inner_four {ms : List Nat} (F : Fam ms) (p : ms.Perm [0, 1, 2, 3]) : SprB ms.length (lowI ms) (upI ms) := by
  have mem : ∀ {x}, x < ms.length → msAt ms x ∈ [0, 1, 2, 3] := fun h => p.mem_iff.mp (msAt_mem h)
  have up : ∀ {x y}, x < ms.length → y < ms.length → msAt ms (upI ms x y) = msAt ms x ||| msAt ms y := fun h g => by
    have := up_is F h g
    rw [upOk_perm p] at this
    exact four_or _ (mem h) _ (mem g) _ (mem (up_spec F h g).1) this
  intro x hx y hy z hz
  have u := (up_spec F hy hz).1
  have l1 := (low_spec F hx hy).1
  have l2 := (low_spec F hx hz).1
  refine msAt_inj F.nd (low_spec F hx u).1 (up_spec F l1 l2).1 ?_
  rw [low_ms F hx u, up hy hz, up l1 l2, low_ms F hx hy, low_ms F hx hz, Nat.and_or_distrib_left]
/-! ### the sum -/
def suB (L n : Nat) (b : Nat → Nat → Bool) : Nat → Nat → Bool := dnB L (upB n b)
def suL (L n : Nat) (lo : Nat → Nat → Nat) : Nat → Nat → Nat := dnL L (upL n lo)
def suH (L n : Nat) (hi : Nat → Nat → Nat) : Nat → Nat → Nat := dnH L (upH n hi)
section
variable {n : Nat} {b : Nat → Nat → Bool} {lo hi : Nat → Nat → Nat} {bt tp : Nat}
theorem su_brd {L h : Nat} (B : Brd n b lo hi bt tp) (le : L + (n + h) ≤ 60) : ∃ bt' tp', Brd (L + (n + h)) (suB L n b) (suL L n lo) (suH L n hi) bt' tp' :=
  ⟨_, _, dn_brd (up_brd (m := h) B (by omega)) le⟩
theorem su_mod {L h : Nat} (B : Brd n b lo hi bt tp) (le : L + (n + h) ≤ 60) (M : ModB n b lo hi) : ModB (L + (n + h)) (suB L n b) (suL L n lo) (suH L n hi) := dn_mod (up_brd (m := h) B (by omega)) (up_mod B M)
theorem su_lad {L h : Nat} (g : ∃ x y z, LadB n b lo hi x y z) : ∃ x y z, LadB (L + (n + h)) (suB L n b) (suL L n lo) (suH L n hi) x y z := by
  obtain ⟨x, y, z, g⟩ := g
  exact ⟨_, _, _, dn_lad (up_lad g)⟩
theorem su_spr {L h : Nat} (B : Brd n b lo hi bt tp) (le : L + (n + h) ≤ 60) : SprB (L + (n + h)) (suL L n lo) (suH L n hi) ↔ SprB n lo hi := (dn_spr (up_brd (m := h) B (by omega))).trans (up_spr B)
end
theorem ones_row (m : Nat) : mulS "1" m = rowF m fun _ => true := by
  rw [rep_mk 49 "1" rfl]
  unfold rowF
  congr 1
  refine List.ext_getElem (by simp) fun i h1 h2 => ?_
  rw [List.getElem_map, List.getElem_replicate]
  rfl
theorem row_cat (a c : Nat) (f g : Nat → Bool) : rowF a f ++ rowF c g = rowF (a + c) fun y => if y < a then f y else g (y - a) := by
  unfold rowF
  rw [mk_app, List.range_add, List.map_append, List.map_map]
  congr 1
  congr 1
  · exact List.map_congr_left fun y hy => by show chB (f y) = chB (if y < a then f y else g (y - a)); rw [if_pos (List.mem_range.mp hy)]
  · refine List.map_congr_left fun y _ => ?_
    show chB (g y) = chB (if a + y < a then f (a + y) else g (a + y - a))
    rw [if_neg (by omega), Nat.add_sub_cancel_left]
theorem su_lo {L n h k : Nat} {b : Nat → Nat → Bool} (hk : k < L) : mulS "0" k ++ mulS "1" (L + (n + h) - k) = rowF (L + (n + h)) (suB L n b k) := by
  rw [chain_row (by omega)]
  refine rowF_congr fun y _ => ?_
  unfold suB
  rw [dnB_1 hk]
theorem su_in {L n h x : Nat} {b : Nat → Nat → Bool} (hx : x < n) : mulS "0" L ++ rowF n (b x) ++ mulS "1" h = rowF (L + (n + h)) (suB L n b (L + x)) := by
  rw [blank_row, ones_row, row_cat, row_cat, Nat.add_assoc]
  refine rowF_congr fun y hy => ?_
  unfold suB
  rcases dn_part L hy with c | ⟨a, ha, rfl⟩
  · rw [dnB_2 c, if_pos (by omega), if_pos c]
  · rw [dnB_3]
    by_cases g : a < n
    · rw [upB_3 hx g, if_pos (by omega), if_neg (by omega), Nat.add_sub_cancel_left]
    · rw [upB_2 hx g, if_neg (by omega)]
theorem su_hi {L n h k : Nat} {b : Nat → Nat → Bool} (hk : k < h) : mulS "0" (L + (n + k)) ++ mulS "1" (h - k) = rowF (L + (n + h)) (suB L n b (L + (n + k))) := by
  have e := chain_row (n := L + (n + h)) (j := L + (n + k)) (by omega)
  rw [show L + (n + h) - (L + (n + k)) = h - k by omega] at e
  rw [e]
  refine rowF_congr fun y hy => ?_
  unfold suB
  rcases dn_part L hy with c | ⟨a, ha, rfl⟩
  · rw [dnB_2 c, decide_eq_false (by omega)]
  · rw [dnB_3, upB_1 (by omega), decide_eq_decide]
    omega
theorem su_rows (L n h : Nat) (b : Nat → Nat → Bool) : rowsF (L + (n + h)) (suB L n b) = ((List.range L).map fun k => rowF (L + (n + h)) (suB L n b k)) ++ ((List.range n).map fun x => rowF (L + (n + h)) (suB L n b (L + x))) ++ (List.range h).map fun k => rowF (L + (n + h)) (suB L n b (L + (n + k))) := by
  unfold rowsF
  rw [List.range_add, List.range_add, List.map_append, List.map_append, List.map_append, List.map_map, List.map_map, List.map_map, List.append_assoc]
  rfl
end FvO


/-! o.m(*e) of a tuple or a list -/
namespace FvO
open PySem PySem.Spec PyProof.Rows L2 Fv FvW FvX
structure MetS (P : Program) (w : World) (K : PySem.W.Frag) (mg : Str → Option Value) (base : Heap) (k : Nat) (C : Addr) (m : Str) (sp : Sp) : Prop where
  ex : ∃ g : Addr, Cls K C ∧ BMeth K C m g ∧ FnR P w K mg base (L2.CX P w) k g sp
def tMethSL (K : PySem.W.Frag) (C : Addr) (m : Str) (sp : Sp) (E : XK) (ta te : TE) : TE := fun σ H Q => ta σ H fun x H1 => ∃ a dx fs, x = .ref a ∧ H1 a = some (.ins C dx fs) ∧ fs.lookup m = none ∧
  ∀ g q, H1 q = none → te σ (upd H1 q (.met g a)) fun y H2 => ∃ b vs, y = .ref b ∧ (SqT K H2 b vs ∨ SqL K H2 b vs) ∧ H2 q = some (.met g a) ∧ sp (.ref a :: vs) H2 Q E
theorem pe_methSL {X : Cx} {k : Nat} {C : Addr} {m : Str} {sp : Sp} {E : XK} {o e : Expr} {ta te : TE} {p apos pos : Pos} (M : MetS X.prog X.w X.K X.mg X.base k C m sp) (hr : Room k X.A) (hx : Passes (L2.CX X.prog X.w) X E) (he : PE X o ta) (ha : PE X e te) (hbase : attributeBase o m X.env (eval o X.env) = eval o X.env := by rfl) : PE X (.Call (.Attribute o m apos) [.Starred e p] [] pos) (tMethSL X.K C m sp E ta te) := by
  obtain ⟨g, c, b, F⟩ := M.ex
  refine ⟨fun pins s σ H Q I h => ?_⟩
  refine starcall_of hbase (thn (he.run pins s σ H _ I h) fun u s1 ⟨x, H1, I1, rx, a, dx, fs, ex, ea, l, q⟩ => ?_)
  subst ex
  obtain rfl : u = Value.ref a := rx
  refine getbound_ok I1 ea c b l fun q1 s2 hq1 I2 => ?_
  refine PySem.W.ks_call (P := PySem.W.MethP X.K q1 g (.ref a)) rfl (PySem.W.keeps_M b.fi) (PySem.W.ks_lone ?_)
  refine thn (ha.run pins s2 σ _ _ I2 (q g q1 hq1)) fun v s3 ⟨y, H2, I3, ry, t, vs, ey, ht, hm, hsp⟩ => ?_
  subst ey
  obtain rfl : v = Value.ref t := ry
  refine StX.star_any I3 ht fun us s4 I4 rv => ⟨met_P I4 hm, ?_⟩
  exact wpAny_call (PySem.W.method_call (met_P I4 hm).1 (run_fnR (us := Value.ref a :: us) (vs := V.ref a :: vs) F hr hx I4 (.cons rfl rv) hsp))
theorem pe_methSLK {X : Cx} {K : PySem.W.Frag} {k : Nat} {C : Addr} {m : Str} {sp : Sp} {E : XK} {o e : Expr} {ta te : TE} {p apos pos : Pos} (hK : X.K = K) (M : MetS X.prog X.w X.K X.mg X.base k C m sp) (hr : Room k X.A) (hx : Passes (L2.CX X.prog X.w) X E) (he : PE X o ta) (ha : PE X e te) (hbase : attributeBase o m X.env (eval o X.env) = eval o X.env := by rfl) : PE X (.Call (.Attribute o m apos) [.Starred e p] [] pos) (tMethSL K C m sp E ta te) := by
  subst hK
  exact pe_methSL M hr hx he ha hbase
end FvO


namespace Fv
open PySem PySem.Spec PyProof.Rows L2
-- top 24  slots: 0:value
abbrev s_is_letter : Stmt := topS 24
abbrev N_is_letter : List Str := ["value"]
theorem sc_is_letter : FnScope N_is_letter ["value"] (defScope s_is_letter) := ⟨rfl, rfl, rfl, by decide +kernel, rfl, by decide +kernel, by decide +kernel⟩

-- top 25  slots: 0:value
abbrev s_is_compound : Stmt := topS 25
abbrev N_is_compound : List Str := ["value"]
theorem sc_is_compound : FnScope N_is_compound ["value"] (defScope s_is_compound) := ⟨rfl, rfl, rfl, by decide +kernel, rfl, by decide +kernel, by decide +kernel⟩

-- top 26  slots: 0:value 1:max_depth 2:max_size 3:deepest 4:total 5:part 6:found
abbrev s_measured : Stmt := topS 26
abbrev N_measured : List Str := ["value", "max_depth", "max_size", "deepest", "total", "part", "found"]
theorem sc_measured : FnScope N_measured ["value", "max_depth", "max_size"] (defScope s_measured) := ⟨rfl, rfl, rfl, by decide +kernel, rfl, by decide +kernel, by decide +kernel⟩


section
variable {P : Program} {w : World} {K : PySem.W.Frag} {mg : Str → Option Value} {base : Heap}
theorem len_ok {n : Nat} {s : Str} (h : gd n (.str s) = true) : s.length ≤ sizeLine := by
  have q : s.length ≤ 100000 := by
    cases n <;> (simp only [gd, Bool.and_eq_true, decide_eq_true_eq] at h; exact h.2)
  exact Nat.le_trans q (by decide)
theorem ok_is_letter {f : Addr} {fd : FuncData} {k : Nat} (F : Fun K "is_letter" "is_letter" s_is_letter f fd) (m_isinstance : mg "isinstance" = none) (m_str : mg "str" = none) (m_len : mg "len" = none)
    {t : Tok} (g_LETTERS : mg "LETTERS" = some (.str "abcdefgh" t)) :
    FnOk P w K mg base CX0 (k + 1) f fd ["value"] (spIsLetter K) := by
  refine F.ok sc_is_letter (fun vs H Q E h => ?_) (fun cdv A outer s H vs Q E hr h => ?_)
  · obtain ⟨v, d, rfl, _⟩ := h
    rfl
  · obtain ⟨v, d, rfl, hd, hg, q⟩ := h
    refine ⟨_, (pss_one (ps_ret (pe_and (pe_isD (T := "str") (by rfl) m_isinstance (by rfl) m_str (pv 0)) (pe_and (pe_cmpR op_eq (pe_callB call_len_str (by rfl) m_len (by decide +kernel) (pa_cons (pv 0) pa_nil)) pe_int (nomark _)) (pe_one (pe_cmpR op_in_str (pv 0) (pe_glob (v := .str "abcdefgh") (by rfl) g_LETTERS (⟨_, rfl⟩)) (by rfl))))))), ?_⟩
    refine ⟨_, rfl, _, _, d, rfl, by decide, hd, _, rfl, ?_⟩
    cases d with
    | str z =>
      cases hd
      refine iteT ⟨_, rfl, z, rfl, len_ok hg, rfl, _, rfl, ?_⟩
      have e : isLd (.str z) = isL z := rfl
      rw [e] at q
      unfold isL at q
      refine ite2 (fun c => ?_) (fun c => ?_)
      · refine ⟨_, rfl, z, _, rfl, rfl, ?_⟩
        rw [c, Bool.true_and] at q
        exact q
      · rw [Bool.eq_false_iff.mpr c, Bool.false_and] at q
        exact q
    | _ => exact iteF q
theorem ok_is_compound {f : Addr} {fd : FuncData} {k : Nat} (F : Fun K "is_compound" "is_compound" s_is_compound f fd) (m_isinstance : mg "isinstance" = none) (m_tuple : mg "tuple" = none) (m_len : mg "len" = none)
    {oA : Addr} (g_OPERATORS : mg "OPERATORS" = some (.ref oA)) (hO : ∀ H, SqT K H oA [.str "&", .str "|"]) :
    FnOk P w K mg base CX0 (k + 1) f fd ["value"] (spIsCompound K) := by
  refine F.ok sc_is_compound (fun vs H Q E h => ?_) (fun cdv A outer s H vs Q E hr h => ?_)
  · obtain ⟨v, d, rfl, _⟩ := h
    rfl
  · obtain ⟨v, d, rfl, hd, hg, q⟩ := h
    refine ⟨_, (pss_one (ps_ret (pe_and (pe_isD (T := "tuple") (by rfl) m_isinstance (by rfl) m_tuple (pv 0)) (pe_and (pe_cmpR op_ge (pe_callB call_len_seq (by rfl) m_len (by decide +kernel) (pa_cons (pv 0) pa_nil)) pe_int (nomark _)) (pe_one (pe_cmpR (op_inT (hu65 hr)) (pe_ix ix_tup (pv 0) pe_int (fun _ _ => rfl)) (pe_glob (v := .ref oA) (by rfl) g_OPERATORS (rfl)) (by rfl))))))), ?_⟩
    refine ⟨_, rfl, _, _, d, rfl, by decide, hd, _, rfl, ?_⟩
    cases d with
    | tuple ds =>
      cases hd with
      | @tup a xs _ hs ha =>
        refine iteT ⟨_, rfl, a, xs, rfl, .inr hs, _, _, rfl, rfl, _, rfl, ?_⟩
        have hl := dpAll_len ha
        cases ds with
        | nil =>
          rw [hl]
          exact iteF q
        | cons o ds =>
          cases ha with
          | @cons x0 xr _ _ h1 h2 =>
            have hl' := dpAll_len h2
            have e : isCd (.tuple (o :: ds)) = (decide (2 ≤ ds.length) && isOp o) := rfl
            rw [e] at q
            refine ite2 (fun c => ?_) (fun c => ?_)
            · have c' : (3 : Int) ≤ (((x0 :: xr).length : Nat) : Int) := of_decide_eq_true c
              rw [List.length_cons] at c'
              refine ⟨_, rfl, a, _, _, x0, rfl, rfl, hs, at0, o, [.str "&", .str "|"], h1, .tup (hO _) (.cons (.str _) (.cons (.str _) .nil)), gd_shaped (gd_parts hg).1 (by decide), by decide +kernel, ?_⟩
              rw [decide_eq_true (by omega), Bool.true_and] at q
              exact q
            · have c' : ¬ (3 : Int) ≤ (((x0 :: xr).length : Nat) : Int) := of_decide_eq_false (Bool.eq_false_iff.mpr c)
              rw [List.length_cons] at c'
              rw [decide_eq_false (by omega), Bool.false_and] at q
              exact q
    | _ => exact iteF q
theorem ok_measured {f : Addr} {fd : FuncData} {k n : Nat} (F : Fun K "measured" "measured" s_measured f fd) (m_max : mg "max" = none) (hk : 1 ≤ k)
    (C_is_letter : Own P w K mg base 1 "is_letter" ["value"] (spIsLetter K)) (C_is_compound : Own P w K mg base 1 "is_compound" ["value"] (spIsCompound K))
    (C_measured : Own P w K mg base k "measured" ["value", "max_depth", "max_size"] (spMeas K n)) :
    FnOk P w K mg base CX0 (k + 1) f fd ["value", "max_depth", "max_size"] (spMeas K (n + 1)) := by
  refine F.ok sc_measured (fun vs H Q E h => ?_) (fun cdv A outer s H vs Q E hr h => ?_)
  · obtain ⟨v, d, md, ms, rfl, _⟩ := h
    rfl
  · obtain ⟨v, d, md, ms, rfl, hd, hg, m0, m1, q1, q2⟩ := h
    refine ⟨_, (pss_cons (ps_if (PW.pt (pw_or (pt_cmpR op_lt (pv 1) pe_int (nomark _)) (pw_or1 (pt_cmpR op_lt (pv 2) pe_int (nomark _)))))
        (pss_one (ps_ret pe_non))
        pss_nil)
      (pss_cons (ps_if (pt_val (pe_own C_is_letter (hr.mono (by omega)) (by rfl) (pa_cons (pv 0) pa_nil)))
        (pss_one (ps_ret (pe_tup (pa_cons pe_int (pa_cons pe_int pa_nil)))))
        pss_nil)
      (pss_cons (ps_if (pt_not (pt_val (pe_own C_is_compound (hr.mono (by omega)) (by rfl) (pa_cons (pv 0) pa_nil))))
        (pss_one (ps_ret pe_non))
        pss_nil)
      (pss_cons (ps_set (i := 3) sc_measured.nd rfl (by first | exact .inl rfl | exact .inr rfl) pe_int)
      (pss_cons (ps_set (i := 4) sc_measured.nd rfl (by first | exact .inl rfl | exact .inr rfl) pe_int)
      (pss_cons (ps_for PassesOwn.never rfl (pi_tup (pe_slice sl_tup (pv 0) (po_some pe_int) po_none)) (pg_name (i := 5) sc_measured.nd rfl (by first | exact .inl rfl | exact .inr rfl))
        (pss_cons (ps_set (i := 6) sc_measured.nd rfl (by first | exact .inl rfl | exact .inr rfl) (pe_own C_measured (hr.mono (by omega)) (by rfl) (pa_cons (pv 5) (pa_cons (pe_op op_sub (pv 1) pe_int) (pa_cons (pe_op op_sub (pv 2) (pv 4)) pa_nil)))))
        (pss_cons (ps_if (pt_cmpR op_isN (pv 6) pe_non (nomark _))
          (pss_one (ps_ret pe_non))
          pss_nil)
        (pss_cons (ps_set (i := 3) sc_measured.nd rfl (by first | exact .inl rfl | exact .inr rfl) (pe_callB (call_max2 rfl) (by rfl) m_max (by decide +kernel) (pa_cons (pv 3) (pa_cons (pe_ix ix_tup (pv 6) pe_int (fun _ _ => rfl)) pa_nil))))
        (pss_one (ps_set (i := 4) sc_measured.nd rfl (by first | exact .inl rfl | exact .inr rfl) (pe_op op_add (pv 4) (pe_ix ix_tup (pv 6) pe_int (fun _ _ => rfl)))))))))
      (pss_one (ps_ret (pe_tup (pa_cons (pe_op op_add (pv 3) pe_int) (pa_cons (pv 4) pa_nil))))))))))), ?_⟩
    refine ⟨_, rfl, _, _, rfl, rfl, _, rfl, ?_⟩
    have fin0 : ¬ 1 ≤ md ∨ ms < 1 → Q .non H := fun c => by
      refine q1 ?_ H (Same.refl H)
      rcases c with c | c
      · rw [show md.toNat = 0 by omega]; rfl
      · cases md.toNat with
        | zero => rfl
        | succ m => unfold meas; rw [if_pos c]
    refine ite2 (fun c => iteT (fin0 (.inl (by have := of_decide_eq_true c; omega)))) (fun c => ?_)
    have c1 : ¬ md < 1 := of_decide_eq_false (Bool.eq_false_iff.mpr c)
    refine ⟨_, rfl, _, _, rfl, rfl, _, rfl, ?_⟩
    refine ite2 (fun c => fin0 (.inr (of_decide_eq_true c))) (fun c => ?_)
    have c2 : ¬ ms < 1 := of_decide_eq_false (Bool.eq_false_iff.mpr c)
    obtain ⟨m, em⟩ : ∃ m, md.toNat = m + 1 := ⟨md.toNat - 1, by omega⟩
    have em' : (md - 1).toNat = m := by omega
    rw [em] at q1 q2
    unfold meas at q1 q2
    rw [if_neg c2] at q1 q2
    refine ⟨_, rfl, v, d, rfl, hd, hg, _, rfl, ?_⟩
    refine ite2 (fun c => ?_) (fun c => ?_)
    · refine ⟨(by show 2 ≤ sizeLine; decide), fun p np => ?_⟩
      rw [if_pos c] at q2
      exact q2 1 1 rfl _ p (same_upd np) upd_same
    · rw [if_neg c] at q1 q2
      refine ⟨_, rfl, v, d, rfl, hd, hg, _, rfl, ?_⟩
      cases hc : isCd d with
      | false =>
        rw [if_neg (by rw [hc]; decide)] at q1
        exact iteT (q1 rfl H (Same.refl H))
      | true =>
        rw [if_pos hc] at q1 q2
        refine iteF ?_
        cases d with
        | tuple ds =>
          cases ds with
          | nil => cases hc
          | cons o ds =>
            cases hd with
            | @tup a xs _ hs ha =>
              cases ha with
              | @cons x0 xr _ _ h1 h2 =>
                have hl := dpAll_len h2
                have h2l : 2 ≤ ds.length := by
                  have e : isCd (.tuple (o :: ds)) = (decide (2 ≤ ds.length) && isOp o) := rfl
                  rw [e, Bool.and_eq_true] at hc
                  exact of_decide_eq_true hc.1
                have ep : parts (.tuple (o :: ds)) = ds := rfl
                rw [ep] at q1 q2
                have gp := (gd_parts hg).2
                refine ⟨_, rfl, 1, rfl, a, x0 :: xr, rfl, hs, ?_, fun p np => ?_⟩
                · rw [show HT.sIx (x0 :: xr).length 0 (some 1) = min 1 (x0 :: xr).length from HT.sIx_nat _ 0 1, List.length_cons]
                  omega
                have ec : cutV (x0 :: xr) (some 1) none = xr := by rw [cut_drop1]; rfl
                rw [ec]
                have s0 : Same H (upd H p (.tup xr)) := same_upd np
                refine ⟨p, rfl, ⟨_, SqT.of upd_same⟩, for_tup (xs := xr) (fun i σ H1 => ∃ (dp tot : Int) (y5 y6 : Option V), σ = [some (.ref a), some (.int md), some (.int ms), some (.int dp), some (.int tot), y5, y6] ∧
                  Same (upd H p (.tup xr)) H1 ∧ measL (meas m) (ds.drop i) ms dp tot = measL (meas m) ds ms 0 0) ?_ ?_ ?_ ?_⟩
                · exact ⟨0, 0, none, none, rfl, Same.refl _, rfl⟩
                · rintro i σ H1 hi ⟨dp, tot, y5, y6, rfl, sm, e⟩
                  exact SqT.of (sm _ _ upd_same)
                · rintro i x σ H1 hx ⟨dp, tot, y5, y6, rfl, sm, e⟩
                  obtain ⟨d', hd', hD'⟩ := dpAll_get h2 hx
                  have hDs : Dp K H1 x d' := dp_same (s0.trans sm) d' x hD'
                  rw [drop_cons_get hd'] at e
                  refine ⟨_, rfl, _, rfl, _, _, rfl, rfl, _, rfl, _, rfl, _, _, rfl, rfl, x, d', md - 1, ms - tot, rfl, hDs, gd_le (gp d' (List.mem_of_getElem? hd')) (by decide), by omega, by omega, fun en H2 s2 => ?_, fun dp' sz es H2 p2 s2 hp2 => ?_⟩
                  · refine ⟨_, rfl, rfl, _, rfl, iteT ?_⟩
                    refine q1 ?_ H2 (s0.trans (sm.trans s2))
                    rw [em'] at en
                    rw [← e]
                    simp only [measL, en]
                  · refine ⟨_, rfl, rfl, _, rfl, iteF ?_⟩
                    refine ⟨_, rfl, _, rfl, p2, _, _, _, rfl, rfl, SqT.of hp2, rfl, _, _, rfl, ?_⟩
                    refine ⟨_, rfl, _, rfl, p2, _, _, _, rfl, rfl, SqT.of hp2, rfl, _, _, rfl, rfl, ?_⟩
                    refine ⟨_, _, _, _, rfl, sm.trans s2, ?_⟩
                    rw [← e, em'] at *
                    simp only [measL, es]
                · rintro σ H1 ⟨dp, tot, y5, y6, rfl, sm, e⟩
                  refine ⟨_, rfl, _, _, rfl, rfl, _, rfl, (by show 2 ≤ sizeLine; decide), fun p3 np3 => ?_⟩
                  refine q2 (dp + 1) tot ?_ _ p3 (s0.trans (sm.trans (same_upd np3))) upd_same
                  rw [← e, List.drop_eq_nil_of_le (by omega)]
                  rfl
        | _ => cases hc
theorem meas_zero {f : Addr} {fd : FuncData} {k : Nat} : FnOk P w K mg base CX0 k f fd ["value", "max_depth", "max_size"] (spMeas K 0) := by
  have no : ∀ vs H Q E, ¬ spMeas K 0 vs H Q E := fun vs H Q E h => by
    obtain ⟨v, d, md, ms, _, _, _, m0, m1, _⟩ := h
    omega
  exact ⟨fun vs H Q E h => absurd h (no vs H Q E), fun A outer s H args us vs Q E _ _ _ _ h => absurd h (no vs H Q E)⟩
end
end Fv


namespace Fv
open PySem PySem.Spec PyProof.Rows L2



theorem walk_zipT {K : PySem.W.Frag} {a b : Addr} {xs ys : List V} {n : Nat} (hn : n = min xs.length ys.length) : Walk (RZ.ItzT K a b) n (fun H => SqT K H a xs ∧ SqT K H b ys) (YPair (fun i => xs[i]?) (fun i => ys[i]?)) := by
  subst hn
  refine ⟨fun i _ hi q => ?_, fun _ q => ⟨xs, ys, q.1, q.2, by omega⟩, fun i H v H' _ q y => ?_⟩
  · have h1 : i < xs.length := by omega
    have h2 : i < ys.length := by omega
    exact ⟨xs, ys, xs[i], ys[i], q.1, q.2, by simp [h1], by simp [h2]⟩
  · obtain ⟨T, x, z, h1, h2, h3, h4, h5⟩ := y
    exact ⟨T, x, z, h1, h2, h3, h4 xs q.1, h5 ys q.2⟩
def spSame (K : PySem.W.Frag) (n : Nat) : Sp := fun vs H Q _ => ∃ (v v' : V) (d : PyData) (m : Nat), vs = [v, v'] ∧ Dp K H v d ∧ Dp K H v' d ∧ m < n ∧ gd m d = true ∧ ∀ H', Same H H' → Q (.bl true) H'
theorem in_ints (ns : List Int) : inV (.int 0) (ns.map V.int) = decide ((0 : Int) ∈ ns) := by
  unfold inV
  induction ns with
  | nil => rfl
  | cons n ns ih =>
    rw [List.map_cons, List.any_cons, ih]
    show ((n == 0) || decide ((0 : Int) ∈ ns)) = decide ((0 : Int) ∈ n :: ns)
    by_cases e : n = 0
    · subst e; simp
    · have e1 : (n == 0) = false := beq_eq_false_iff_ne.mpr e
      rw [e1, Bool.false_or]
      simp [List.mem_cons, show ¬ (0 : Int) = n from fun z => e z.symm]
theorem flat_ints (ns : List Int) : (ns.map V.int).all flatV = true := by
  rw [List.all_map]
  exact List.all_eq_true.mpr fun _ _ => rfl
section
variable {P : Program} {w : World} {K : PySem.W.Frag} {mg : Str → Option Value} {base : Heap}
end
end Fv


namespace FvO
open PySem PySem.Spec PyProof.Rows L2 Fv FvW FvX
theorem BAt.ext {K : PySem.W.Frag} {C : Addr} {H H' : Hp} {c : Addr} {L : BL} {n : Nat} {b : Nat → Nat → Bool} {lo hi : Nat → Nat → Nat} (h : BAt K C H c L n b lo hi) (e : LamX.ExtN H H') : BAt K C H' c L n b lo hi :=
  ⟨h.ob.imp fun dx e1 => e _ _ e1 (fun ps z => by cases z), e _ _ h.ln (fun ps z => by cases z), e _ _ h.ab (fun ps z => by cases z), e _ _ h.be (fun ps z => by cases z), dp_ext e _ _ h.lo, dp_ext e _ _ h.hi⟩
/-- what stays through the law -/
structure Wk (K : PySem.W.Frag) (C : Addr) (a Ls : Addr) (ns : List Int) (r c lo up : Addr) (L : BL) (ms : List Nat) (Pt : Addr) (H : Hp) : Prop where
  src : Src H a Ls ns
  rw_ : hide [a] H r = some (.lst ((rowsOf ms).map V.str))
  bd : BAt K C (hide [a] H) c L ms.length (leI ms) (lowI ms) (upI ms)
  lo : Dp K (hide [a] H) (.ref lo) (tabD ms.length (lowI ms))
  up : Dp K (hide [a] H) (.ref up) (tabD ms.length (upI ms))
  tb : LamX.Tabs (TT0 Pt) H
section
variable {K : PySem.W.Frag} {C a Ls r c lo up Pt : Addr} {ns : List Int} {L : BL} {ms : List Nat} {H H' : Hp}
theorem Wk.smx (h : Wk K C a Ls ns r c lo up L ms Pt H) (s : SmX [a] H H') (hs : Src H' a Ls ns) : Wk K C a Ls ns r c lo up L ms Pt H' :=
  ⟨hs, s.hid _ _ h.rw_, h.bd.same s.hid, dp_same s.hid _ _ h.lo, dp_same s.hid _ _ h.up, tabs_smx h.tb s h.src.lst⟩
theorem Wk.same (h : Wk K C a Ls ns r c lo up L ms Pt H) (s : Same H H') : Wk K C a Ls ns r c lo up L ms Pt H' := h.smx (SmX.of_same s) (h.src.same s)
theorem Wk.ext (h : Wk K C a Ls ns r c lo up L ms Pt H) (e : LamX.ExtN H H') (t : LamX.Tabs (TT0 Pt) H') : Wk K C a Ls ns r c lo up L ms Pt H' :=
  ⟨h.src.ext e, ext_hide e _ _ h.rw_ (fun ps z => by cases z), h.bd.ext (ext_hide e), dp_ext (ext_hide e) _ _ h.lo, dp_ext (ext_hide e) _ _ h.up, t⟩
theorem Wk.b (h : Wk K C a Ls ns r c lo up L ms Pt H) : BAt K C H c L ms.length (leI ms) (lowI ms) (upI ms) := h.bd.same hide_same
theorem Wk.ix (h : Wk K C a Ls ns r c lo up L ms Pt H) {x y : Nat} (hx : x < ms.length) (hy : y < ms.length) : ∃ xs ys b, SqL K H lo xs ∧ atI xs ((x : Nat) : Int) = some (.ref b) ∧ SqL K H b ys ∧ atI ys ((y : Nat) : Int) = some (.int (lowI ms x y : Nat)) := by
  obtain ⟨xs, b, h1, _, h2, h3⟩ := tab_ix' (dp_same hide_same _ _ h.lo) hx
  obtain ⟨ys, h4, h5⟩ := row_ixO h3 hy
  exact ⟨xs, ys, b, h1, h2, h4, h5⟩
theorem Wk.iu (h : Wk K C a Ls ns r c lo up L ms Pt H) {x y : Nat} (hx : x < ms.length) (hy : y < ms.length) : ∃ xs ys b, SqL K H up xs ∧ atI xs ((x : Nat) : Int) = some (.ref b) ∧ SqL K H b ys ∧ atI ys ((y : Nat) : Int) = some (.int (upI ms x y : Nat)) := by
  obtain ⟨xs, b, h1, _, h2, h3⟩ := tab_ix' (dp_same hide_same _ _ h.up) hx
  obtain ⟨ys, h4, h5⟩ := row_ixO h3 hy
  exact ⟨xs, ys, b, h1, h2, h4, h5⟩
end

theorem Brd.lo_uniq {n : Nat} {b : Nat → Nat → Bool} {lo hi : Nat → Nat → Nat} {bt tp : Nat} (B : Brd n b lo hi bt tp) {u v : Nat} (hu : u < n) (hv : v < n) (e : ∀ z, z < n → b z u = b z v) : u = v :=
  B.an u v hu hv (by rw [← e u hu]; exact B.rf u hu) (by rw [e v hv]; exact B.rf v hv)
theorem Brd.hi_uniq {n : Nat} {b : Nat → Nat → Bool} {lo hi : Nat → Nat → Nat} {bt tp : Nat} (B : Brd n b lo hi bt tp) {u v : Nat} (hu : u < n) (hv : v < n) (e : ∀ z, z < n → b u z = b v z) : u = v :=
  B.an u v hu hv (by rw [e v hv]; exact B.rf v hv) (by rw [← e u hu]; exact B.rf u hu)
theorem Brd.lo_top {n : Nat} {b : Nat → Nat → Bool} {lo hi : Nat → Nat → Nat} {bt tp : Nat} (B : Brd n b lo hi bt tp) {x : Nat} (hx : x < n) : lo tp x = x := by
  have h := B.lo tp x B.tp.1 hx
  exact B.lo_uniq h.1 hx fun z hz => by rw [h.2 z hz, B.tp.2 z hz, Bool.true_and]
theorem Brd.hi_bot {n : Nat} {b : Nat → Nat → Bool} {lo hi : Nat → Nat → Nat} {bt tp : Nat} (B : Brd n b lo hi bt tp) {x : Nat} (hx : x < n) : hi bt x = x := by
  have h := B.hi bt x B.bt.1 hx
  exact B.hi_uniq h.1 hx fun z hz => by rw [h.2 z hz, B.bt.2 z hz, Bool.true_and]
theorem bad1_nats {n : Nat} {xs : List Nat} (h : ∀ x ∈ xs, x < n) : bad1 n (xs.map fun x => ((x : Nat) : Int)) = none := by
  unfold bad1
  rw [List.find?_eq_none]
  intro i hi
  obtain ⟨x, hx, rfl⟩ := List.mem_map.mp hi
  have := h x hx
  unfold plOk
  simp; omega
theorem nat_big {x : Nat} (h : x < 60) : ((x : Nat) : Int).natAbs < 2 ^ 200 := by
  rw [Int.natAbs_natCast]
  exact Nat.lt_of_lt_of_le h (by decide)
theorem plOk_of {n x : Nat} (h : x < n) : plOk n ((x : Nat) : Int) = true := by
  unfold plOk
  rw [Bool.and_eq_true, decide_eq_true_iff, decide_eq_true_iff]
  omega
theorem bad1_head {n : Nat} {i : Int} {r : List Int} (h : plOk n i = false) : bad1 n (i :: r) = some i := by
  unfold bad1
  rw [List.find?_cons, h]
  rfl
theorem bad1_next {n : Nat} {x : Nat} {r : List Int} (h : x < n) : bad1 n (((x : Nat) : Int) :: r) = bad1 n r := by
  unfold bad1
  rw [List.find?_cons, plOk_of h]
  rfl
theorem cast_inj {xs ys : List Nat} (h : (xs.map fun x => ((x : Nat) : Int)) = ys.map fun x => ((x : Nat) : Int)) : xs = ys := by
  induction xs generalizing ys with
  | nil => cases ys with
    | nil => rfl
    | cons => cases h
  | cons x xs ih => cases ys with
    | nil => cases h
    | cons y ys =>
      rw [List.map_cons, List.map_cons] at h
      injection h with h1 h2
      rw [ih h2, Int.ofNat.inj h1]
/-- these promises as they stand, not unfolded -/
@[irreducible] def spFoldI (K : PySem.W.Frag) (C CP : Addr) (up : Bool) : Sp := spFold K C CP up
theorem spFoldI_eq {K : PySem.W.Frag} {C CP : Addr} {up : Bool} : spFoldI K C CP up = spFold K C CP up := by unfold spFoldI; rfl
@[irreducible] def spBelI (K : PySem.W.Frag) (C CP : Addr) : Sp := spBel K C CP
theorem spBelI_eq {K : PySem.W.Frag} {C CP : Addr} : spBelI K C CP = spBel K C CP := by unfold spBelI; rfl
@[irreducible] def spSameI (K : PySem.W.Frag) (n : Nat) : Sp := spSame K n
theorem spSameI_eq {K : PySem.W.Frag} {n : Nat} : spSameI K n = spSame K n := by unfold spSameI; rfl
theorem same_l {K : PySem.W.Frag} {H : Hp} {p q : Addr} {vs vs' : List V} {ds : List PyData} {Q : VK} {E : XK} (h1 : H p = some (.lst vs)) (h2 : H q = some (.lst vs')) (d1 : DpAll K H vs ds) (d2 : DpAll K H vs' ds) (g : ∀ d ∈ ds, gd 2 d = true) (l : ds.length ≤ 1000) (k : ∀ H', Same H H' → Q (.bl true) H') : spSameI K 25 [.ref p, .ref q] H Q E := by
  rw [spSameI_eq]
  exact ⟨.ref p, .ref q, .list ds, 3, rfl, .lst (SqL.of h1) d1, .lst (SqL.of h2) d2, by decide, gd_lst (n := 2) g l, k⟩
section
variable {K : PySem.W.Frag} {C CP a Ls r c lo up Pt : Addr} {ns : List Int} {L : BL} {ms : List Nat} {H : Hp} {bt tp : Nat} {Q : VK} {E : XK}
theorem Wk.fold {u : Bool} {vs : List V} {xs : List Nat} {val : Nat} (W : Wk K C a Ls ns r c lo up L ms Pt H) (B : Brd ms.length (leI ms) (lowI ms) (upI ms) bt tp) (e1 : L.bt = bt) (e2 : L.tp = tp) (hv : vs = .ref c :: xs.map fun x => V.int ((x : Nat) : Int)) (hl : xs.length ≤ 100) (hx : ∀ x ∈ xs, x < ms.length)
    (hval : xs.foldl (if u then upI ms else lowI ms) (if u then bt else tp) = val) (q : ∀ H', Same H H' → Q (.int (val : Nat)) H') : spFoldI K C CP u vs H Q E := by
  rw [spFoldI_eq]
  have n60 := B.n60
  refine ⟨c, xs.map fun x => ((x : Nat) : Int), L, ms.length, leI ms, lowI ms, upI ms, bt, tp, by rw [hv, List.map_map]; rfl, W.b, B, e1, e2, by rw [List.length_map]; exact hl, fun i hi => ?_, fun ys hy _ => ?_, fun e he => ?_⟩
  · obtain ⟨x, h, rfl⟩ := List.mem_map.mp hi
    exact nat_big (Nat.lt_of_lt_of_le (hx x h) n60)
  · rw [← cast_inj hy, hval]
    exact q
  · rw [bad1_nats hx] at he; cases he
theorem Wk.low {vs : List V} {xs : List Nat} {val : Nat} (W : Wk K C a Ls ns r c lo up L ms Pt H) (B : Brd ms.length (leI ms) (lowI ms) (upI ms) bt tp) (e1 : L.bt = bt) (e2 : L.tp = tp) (hv : vs = .ref c :: xs.map fun x => V.int ((x : Nat) : Int)) (hl : xs.length ≤ 100) (hx : ∀ x ∈ xs, x < ms.length)
    (hval : xs.foldl (lowI ms) tp = val) (q : ∀ H', Same H H' → Q (.int (val : Nat)) H') : spFoldI K C CP false vs H Q E := W.fold B e1 e2 hv hl hx hval q
theorem Wk.upp {vs : List V} {xs : List Nat} {val : Nat} (W : Wk K C a Ls ns r c lo up L ms Pt H) (B : Brd ms.length (leI ms) (lowI ms) (upI ms) bt tp) (e1 : L.bt = bt) (e2 : L.tp = tp) (hv : vs = .ref c :: xs.map fun x => V.int ((x : Nat) : Int)) (hl : xs.length ≤ 100) (hx : ∀ x ∈ xs, x < ms.length)
    (hval : xs.foldl (upI ms) bt = val) (q : ∀ H', Same H H' → Q (.int (val : Nat)) H') : spFoldI K C CP true vs H Q E := W.fold B e1 e2 hv hl hx hval q
/-- a place that is none -/
theorem Wk.foldBad {u : Bool} {vs : List V} {is : List Int} {e : Int} (W : Wk K C a Ls ns r c lo up L ms Pt H) (B : Brd ms.length (leI ms) (lowI ms) (upI ms) bt tp) (e1 : L.bt = bt) (e2 : L.tp = tp) (hv : vs = .ref c :: is.map V.int) (hl : is.length ≤ 100) (hb : ∀ i ∈ is, i.natAbs < 2 ^ 200)
    (he : bad1 ms.length is = some e) (q : errF CP "InvalidPlace" "place" (.int e) H E) : spFoldI K C CP u vs H Q E := by
  rw [spFoldI_eq]
  refine ⟨c, is, L, ms.length, leI ms, lowI ms, upI ms, bt, tp, hv, W.b, B, e1, e2, hl, hb, fun ys hy hl => ?_, fun e' h => ?_⟩
  · rw [hy, bad1_nats hl] at he; cases he
  · rw [he] at h; cases h; exact q
theorem Wk.bel {vs : List V} {x y : Nat} (W : Wk K C a Ls ns r c lo up L ms Pt H) (n60 : ms.length ≤ 60) (hv : vs = [.ref c, .int (x : Nat), .int (y : Nat)]) (hx : x < ms.length) (hy : y < ms.length) (q : ∀ H', Same H H' → Q (.bl (leI ms x y)) H') : spBelI K C CP vs H Q E := by
  rw [spBelI_eq]
  refine ⟨c, x, y, L, ms.length, leI ms, lowI ms, upI ms, hv, W.b, n60, nat_big (by omega), nat_big (by omega), fun x' y' h1 h2 _ _ => ?_, fun e he => ?_⟩
  · have h1 : x = x' := Int.ofNat.inj h1
    have h2 : y = y' := Int.ofNat.inj h2
    subst h1 h2
    exact q
  · have := bad1_nats (n := ms.length) (xs := [x, y]) (by simp [hx, hy])
    rw [show ([(x : Int), (y : Int)] : List Int) = [x, y].map fun x => ((x : Nat) : Int) from rfl, this] at he
    cases he
theorem Wk.belBad {vs : List V} {i j e : Int} (W : Wk K C a Ls ns r c lo up L ms Pt H) (n60 : ms.length ≤ 60) (hv : vs = [.ref c, .int i, .int j]) (hi : i.natAbs < 2 ^ 200) (hj : j.natAbs < 2 ^ 200) (he : bad1 ms.length [i, j] = some e) (q : errF CP "InvalidPlace" "place" (.int e) H E) : spBelI K C CP vs H Q E := by
  rw [spBelI_eq]
  refine ⟨c, i, j, L, ms.length, leI ms, lowI ms, upI ms, hv, W.b, n60, hi, hj, fun x y h1 h2 hx hy => ?_, fun e' h => ?_⟩
  · subst h1 h2
    have := bad1_nats (n := ms.length) (xs := [x, y]) (by simp [hx, hy])
    rw [show ([(x : Int), (y : Int)] : List Int) = [x, y].map fun x => ((x : Nat) : Int) from rfl, this] at he
    cases he
  · rw [he] at h; cases h; exact q
end
theorem below_k {K : PySem.W.Frag} {f : Addr} {fd : FuncData} (F : Fun K "is_below" "Board.is_below" s_is_below__of__Board f fd) : ∃ g, KBn K fd ["self", "one", "other"] 1 ["one", "other"] g (fun xs zs => xs ++ zs) := by
  obtain ⟨oc, od, kV, doc, pm, an, cdv, ct, osl, rfl, lk, hcd⟩ := F.ex
  refine ⟨fun us ws => us ++ ws, ⟨fun s us ws X h1 h2 => BindsTo.of_eq ?_, fun r1 r2 => ?_⟩⟩
  · match us, ws, h1, h2 with
    | [a], [b, c], _, _ => rfl
  · induction r1 with
    | nil => exact r2
    | cons a r ih => exact .cons a ih
end FvO


/-! low, up, is_below used -/
namespace FvO
open PySem PySem.Spec PyProof.Rows L2 Fv FvW FvX TL
section
variable {K : PySem.W.Frag} {C CP c : Addr} {L : BL} {n : Nat} {b : Nat → Nat → Bool} {lo hi : Nat → Nat → Nat} {bt tp : Nat} {H : Hp} {Q : VK} {E : XK}
theorem fold_use {u : Bool} {vs : List V} {xs : List Nat} {val : Nat} (hB : BAt K C H c L n b lo hi) (B : Brd n b lo hi bt tp) (e1 : L.bt = bt) (e2 : L.tp = tp) (hv : vs = .ref c :: xs.map fun x => V.int ((x : Nat) : Int)) (hl : xs.length ≤ 100) (hx : ∀ x ∈ xs, x < n)
    (hval : xs.foldl (if u then hi else lo) (if u then bt else tp) = val) (q : ∀ H', Same H H' → Q (.int (val : Nat)) H') : spFoldI K C CP u vs H Q E := by
  rw [spFoldI_eq]
  have n60 := B.n60
  refine ⟨c, xs.map fun x => ((x : Nat) : Int), L, n, b, lo, hi, bt, tp, by rw [hv, List.map_map]; rfl, hB, B, e1, e2, by rw [List.length_map]; exact hl, fun i hi => ?_, fun ys hy _ => ?_, fun e he => ?_⟩
  · obtain ⟨x, h, rfl⟩ := List.mem_map.mp hi
    exact nat_big (Nat.lt_of_lt_of_le (hx x h) n60)
  · rw [← cast_inj hy, hval]
    exact q
  · rw [bad1_nats hx] at he; cases he
theorem bel_use {vs : List V} {x y : Nat} (hB : BAt K C H c L n b lo hi) (n60 : n ≤ 60) (hv : vs = [.ref c, .int (x : Nat), .int (y : Nat)]) (hx : x < n) (hy : y < n) (q : ∀ H', Same H H' → Q (.bl (b x y)) H') : spBelI K C CP vs H Q E := by
  rw [spBelI_eq]
  refine ⟨c, x, y, L, n, b, lo, hi, hv, hB, n60, nat_big (by omega), nat_big (by omega), fun x' y' h1 h2 _ _ => ?_, fun e he => ?_⟩
  · have h1 : x = x' := Int.ofNat.inj h1
    have h2 : y = y' := Int.ofNat.inj h2
    subst h1 h2
    exact q
  · have := bad1_nats (n := n) (xs := [x, y]) (by simp [hx, hy])
    rw [show ([(x : Int), (y : Int)] : List Int) = [x, y].map fun x => ((x : Nat) : Int) from rfl, this] at he
    cases he
end
end FvO


/-! faults: is_fault -/
namespace FvO
open PySem PySem.Spec PyProof.Rows L2 Fv FvW FvX TL FvB
-- top 10  slots: 0:board 1:value 2:place
abbrev s_are_five_places : Stmt := topS 10
abbrev N_are_five_places : List Str := ["board", "value", "place"]
theorem sc_are_five_places : FnScope N_are_five_places ["board", "value"] (defScope s_are_five_places) := ⟨rfl, rfl, rfl, by decide +kernel, rfl, by decide +kernel, by decide +kernel⟩

-- top 11  slots: 0:board 1:pairs 2:low 3:up 4:pair
abbrev s_are_bound : Stmt := topS 11
abbrev N_are_bound : List Str := ["board", "pairs", "low", "up", "pair"]
theorem sc_are_bound : FnScope N_are_bound ["board", "pairs", "low", "up"] (defScope s_are_bound) := ⟨rfl, rfl, rfl, by decide +kernel, rfl, by decide +kernel, by decide +kernel⟩

-- top 9  slots: 0:board 1:fault 2:kind 3:places 4:o 5:x 6:y 7:z 8:i
abbrev s_is_fault : Stmt := topS 9
abbrev N_is_fault : List Str := ["board", "fault", "kind", "places", "o", "x", "y", "z", "i"]
theorem sc_is_fault : FnScope N_is_fault ["board", "fault"] (defScope s_is_fault) := ⟨rfl, rfl, rfl, by decide +kernel, rfl, by decide +kernel, by decide +kernel⟩

def f5B (n : Nat) : PyData → Bool
  | .tuple ds => decide (ds.length = 5) && (ds.all (ixB n) && decide (ds.map natD).Nodup)
  | _ => false
def spF5 (K : PySem.W.Frag) (C : Addr) : Sp := fun vs H Q _ => ∃ (c : Addr) (v : V) (d : PyData) (L : BL) (n : Nat) (b : Nat → Nat → Bool) (lo hi : Nat → Nat → Nat), vs = [.ref c, v] ∧ BAt K C H c L n b lo hi ∧ n ≤ 60 ∧ Dp K H v d ∧ ∀ H', Same H H' → Q (.bl (f5B n d)) H'
def spAB (K : PySem.W.Frag) (C : Addr) : Sp := fun vs H Q _ => ∃ (c p : Addr) (o i : Nat) (as : List Addr) (pl : List (Nat × Nat)) (L : BL) (n : Nat) (b : Nat → Nat → Bool) (lo hi : Nat → Nat → Nat) (bt tp : Nat), vs = [.ref c, .ref p, .int (o : Nat), .int (i : Nat)] ∧ BAt K C H c L n b lo hi ∧ Brd n b lo hi bt tp ∧ L.bt = bt ∧ L.tp = tp ∧ H p = some (.lst (as.map V.ref)) ∧ as.length = pl.length ∧ as.length ≤ 3 ∧
  (∀ (j : Nat) (a : Addr), as[j]? = some a → ∃ pq : Nat × Nat, pl[j]? = some pq ∧ pq.1 < n ∧ pq.2 < n ∧ H a = some (.tup [V.int (pq.1 : Nat), V.int (pq.2 : Nat)])) ∧
  ∀ H', Same H H' → Q (.bl (pl.all fun p => decide (lo p.1 p.2 = o) && decide (hi p.1 p.2 = i))) H'
def spIF (K : PySem.W.Frag) (C : Addr) : Sp := fun vs H Q _ => ∃ (c : Addr) (v : V) (d : PyData) (L : BL) (n : Nat) (b : Nat → Nat → Bool) (lo hi : Nat → Nat → Nat) (bt tp : Nat), vs = [.ref c, v] ∧ BAt K C H c L n b lo hi ∧ Brd n b lo hi bt tp ∧ L.bt = bt ∧ L.tp = tp ∧ Dp K H v d ∧ FltOk d ∧ ∀ H', Same H H' → Q (.bl (frB n b lo hi d)) H'
theorem two_eqv (a c e f : Nat) : PyData.eqv (.tuple [.int (a : Nat), .int (c : Nat)]) (.tuple [.int (e : Nat), .int (f : Nat)]) = (decide (a = e) && decide (c = f)) := by
  show ((((a : Nat) : Int) == ((e : Nat) : Int)) && ((((c : Nat) : Int) == ((f : Nat) : Int)) && true)) = _
  rw [Bool.and_true, Bool.eq_iff_iff, Bool.and_eq_true, Bool.and_eq_true, beq_iff_eq, beq_iff_eq, decide_eq_true_iff, decide_eq_true_iff]
  omega
theorem lad_eqv (k : PyData) : PyData.eqv k (.str "ladder") = ladD k := by
  cases k with
  | str s =>
    show (s == ("ladder" : Str)) = decide (s = "ladder")
    rw [Bool.eq_iff_iff, beq_iff_eq, decide_eq_true_iff]
  | _ => rfl
def fanD : PyData → Bool
  | .str s => decide (s = "fan")
  | _ => false
theorem fan_eqv (k : PyData) : PyData.eqv k (.str "fan") = fanD k := by
  cases k with
  | str s =>
    show (s == ("fan" : Str)) = decide (s = "fan")
    rw [Bool.eq_iff_iff, beq_iff_eq, decide_eq_true_iff]
  | _ => rfl
theorem knd_or (k : PyData) : kndB k = (ladD k || fanD k) := by
  cases k <;> rfl
theorem lad_fan {k : PyData} (h : ladD k = true) : fanD k = false := by
  cases k with
  | str s =>
    have h : decide (s = "ladder") = true := h
    rw [of_decide_eq_true h]
    decide +kernel
  | _ => rfl
section
variable {P : Program} {w : World} {K : PySem.W.Frag} {mg : Str → Option Value} {base : Heap} {C CP : Addr}
theorem ok_five {f : Addr} {fd : FuncData} {k : Nat} (F : Fun K "are_five_places" "are_five_places" s_are_five_places f fd) (hk : 1 ≤ k) (m_isinstance : mg "isinstance" = none) (m_tuple : mg "tuple" = none) (m_len : mg "len" = none) (m_all : mg "all" = none) (m_set : mg "set" = none)
    (M_has_place : C8.Met P w K mg base 1 C "has_place" (spHas K C) []) :
    FnOk P w K mg base CX0 (k + 1) f fd ["board", "value"] (spF5 K C) := by
  refine F.ok sc_are_five_places (fun vs H Q E h => ?_) (fun cdv A outer s H vs Q E hr h => ?_)
  · obtain ⟨c, v, d, L, n, b, lo, hi, rfl, _⟩ := h
    rfl
  · obtain ⟨c, v, d, L, n, b, lo, hi, rfl, hB, n60, hd, good⟩ := h
    refine ⟨_, (pss_cons (ps_if (PW.pt (pw_or (pt_not (pt_val (pe_isD (T := "tuple") (by rfl) m_isinstance (by rfl) m_tuple (pv 1)))) (pw_or1 (pt_cmpR op_ne (pe_callB call_len_seq (by rfl) m_len (by decide +kernel) (pa_cons (pv 1) pa_nil)) pe_int (nomark _)))))
        (pss_one (ps_ret pe_bl))
        pss_nil)
      (pss_one (ps_ret (pe_and (pe_callB (cr_all rfl) (by rfl) m_all (by decide +kernel) (pa_cons (pe_lc (own := [("place", 2)]) (g := gName 2) (by rfl) sc_are_five_places.nd (pi_tup (pv 1)) (blkOk_by (own := [("place", 2)]) (N := N_are_five_places) (sc := defScope s_are_five_places) (by decide +kernel)) (fun _ _ _ _ _ => pg_name (i := 2) sc_are_five_places.nd rfl (Or.inl rfl)) (fun _ _ _ _ _ => pts_nil) (fun _ _ _ _ _ => (C8.pe_mt M_has_place hr (by omega) (pv 0) (pa_cons (pv 2) pa_nil)))) pa_nil)) (pe_one (pe_cmpR op_eq (pe_lenSetT rfl (by rfl) m_len (by rfl) m_set (pv 1)) pe_int (nomark _))))))), ?_⟩
    refine ⟨_, rfl, _, _, d, rfl, by decide, hd, _, rfl, ?_⟩
    cases d with
    | tuple ds =>
      cases hd with
      | @tup p vs _ hs ha =>
      have lv := dpAll_len ha
      refine iteF ⟨_, rfl, p, vs, rfl, .inr hs, rfl, _, rfl, ?_⟩
      have good : ∀ H', Same H H' → Q (.bl (decide (ds.length = 5) && (ds.all (ixB n) && decide (ds.map natD).Nodup))) H' := good
      by_cases l5 : ds.length = 5
      · rw [show (!decide (V.int ((vs.length : Nat) : Int) = V.int 5)) = false from by rw [lv, l5]; decide]
        rw [decide_eq_true l5, Bool.true_and] at good
        obtain ⟨dx, ob⟩ := hB.ob
        refine iteF ⟨_, rfl, p, rfl, ⟨_, hs⟩, fun D nD => lc_tup (xs := vs) (fun i H' => Same H H' ∧ H' D = some (.lst (((ds.take i).map (ixB n)).map V.bl))) ?_ ?_ ?_ ?_⟩
        · exact ⟨same_upd nD, upd_same⟩
        · rintro i H' _ ⟨sm, _⟩
          exact same_seqT sm hs
        · rintro i x H' hx ⟨sm, hD⟩
          obtain ⟨d', hd', hDx⟩ := dpAll_get ha hx
          have ep : plB n d' = ixB n d' := by cases d' <;> rfl
          refine ⟨rfl, yes_it ⟨_, rfl, c, dx, _, rfl, sm _ _ ob, rfl, _, rfl, c, x, d', L, n, b, lo, hi, rfl, hB.same sm, n60, dp_same sm _ _ hDx, ?_⟩⟩
          rw [ep]
          refine ⟨_, hD, small1000 (by rw [List.length_map, List.length_map, List.length_take]; omega), fun c o e => ?_, ?_⟩
          · rw [upd_ne (ne_of_none e nD)]; exact sm _ _ e
          · rw [upd_same, List.take_add_one, hd', List.map_append, List.map_append]; rfl
        rintro H3 ⟨s3, hD⟩
        rw [lv, List.take_length] at hD
        refine ⟨D, _, rfl, SqL.of hD, _, rfl, ?_⟩
        have ea : ((ds.map (ixB n)).all id) = ds.all (ixB n) := by rw [List.all_map]; rfl
        rw [ea]
        cases ex : ds.all (ixB n) with
        | false =>
          rw [ex] at good
          exact iteF (good _ s3)
        | true =>
          rw [ex, Bool.true_and] at good
          obtain ⟨o, x, y, z, i, rfl, _⟩ := five_inv l5 ex
          obtain rfl : vs = five o x y z i := by
            cases ha with
            | cons a1 ha => cases ha with
              | cons a2 ha => cases ha with
                | cons a3 ha => cases ha with
                  | cons a4 ha => cases ha with
                    | cons a5 ha =>
                      cases ha; cases a1; cases a2; cases a3; cases a4; cases a5
                      rfl
          refine iteT ⟨_, rfl, p, [(o : Int), (x : Int), (y : Int), (z : Int), (i : Int)], rfl, same_seqT s3 hs, by show 5 ≤ 60; decide, fun cc cl ce => ⟨rfl, ?_⟩⟩
          have nn : [(o : Int), (x : Int), (y : Int), (z : Int), (i : Int)].Nodup ↔ [o, x, y, z, i].Nodup := by
            simp only [List.nodup_cons, List.mem_cons, List.not_mem_nil, or_false, not_or, List.nodup_nil, not_false_eq_true, and_true]
            omega
          have g := good _ s3
          have e1 : [PyData.int (o : Nat), .int (x : Nat), .int (y : Nat), .int (z : Nat), .int (i : Nat)].map natD = [o, x, y, z, i] := rfl
          rw [e1] at g
          have e2 : decide (V.int ((cc : Nat) : Int) = V.int 5) = decide [o, x, y, z, i].Nodup := by
            rw [decide_eq_decide]
            refine Iff.trans ?_ (ce.trans nn)
            exact ⟨fun e => by have := V.int.inj e; show cc = 5; omega, fun e => by have e : cc = 5 := e; rw [e]; rfl⟩
          rw [e2]
          exact g
      · rw [show (!decide (V.int ((vs.length : Nat) : Int) = V.int 5)) = true from by rw [decide_eq_false (show ¬ (V.int ((vs.length : Nat) : Int) = V.int 5) from fun e => l5 (by have := V.int.inj e; omega))]; rfl]
        have g := good _ (Same.refl H)
        rw [decide_eq_false l5, Bool.false_and] at g
        exact iteT g
    | _ => exact iteT (iteT (good _ (Same.refl H)))
theorem ok_abound {f : Addr} {fd : FuncData} {k : Nat} (F : Fun K "are_bound" "are_bound" s_are_bound f fd) (hk : 5 ≤ k) (m_all : mg "all" = none)
    (S_low : MetS P w K mg base 5 C "low" (spFold K C CP false)) (S_up : MetS P w K mg base 5 C "up" (spFold K C CP true)) :
    FnOk P w K mg base CX0 (k + 1) f fd ["board", "pairs", "low", "up"] (spAB K C) := by
  refine F.ok sc_are_bound (fun vs H Q E h => ?_) (fun cdv A outer s H vs Q E hr h => ?_)
  · obtain ⟨c, p, o, i, as, pl, L, n, b, lo, hi, bt, tp, rfl, _⟩ := h
    rfl
  · obtain ⟨c, p, o, i, as, pl, L, n, b, lo, hi, bt, tp, rfl, hB, B, eb, et, hp, lap, l3, hpr, good⟩ := h
    rw [← spFoldI_eq] at S_low S_up
    refine ⟨_, (pss_one (ps_ret (pe_callB (cr_all rfl) (by rfl) m_all (by decide +kernel) (pa_cons (pe_lc (own := [("pair", 4)]) (g := gName 4) (by rfl) sc_are_bound.nd (pi_list (pv 1)) (blkOk_by (own := [("pair", 4)]) (N := N_are_bound) (sc := defScope s_are_bound) (by decide +kernel)) (fun _ _ _ _ _ => pg_name (i := 4) sc_are_bound.nd rfl (Or.inl rfl)) (fun _ _ _ _ _ => pts_nil) (fun _ _ _ _ _ => (pe_cmpR (op_eqDq (K := K) rfl hr.units) (pe_tup (pa_cons (pe_methSLK (K := K) rfl S_low (hr.mono (by omega)) passE0 (pv 0) (pv 4)) (pa_cons (pe_methSLK (K := K) rfl S_up (hr.mono (by omega)) passE0 (pv 0) (pv 4)) pa_nil))) (pe_tup (pa_cons (pv 2) (pa_cons (pv 3) pa_nil))) (nomark _)))) pa_nil)))), ?_⟩
    obtain ⟨dx, ob⟩ := hB.ob
    refine ⟨_, rfl, p, rfl, ⟨_, SqL.of hp⟩, fun D nD => lc_list (xs := as.map V.ref) (fun j H' => Same H H' ∧ H' D = some (.lst (((pl.take j).map fun p => decide (lo p.1 p.2 = o) && decide (hi p.1 p.2 = i)).map V.bl))) ?_ ?_ ?_ ?_⟩
    · exact ⟨same_upd nD, upd_same⟩
    · rintro j H' _ ⟨sm, _⟩
      exact SqL.of (sm _ _ hp)
    · rintro j v H' hv ⟨sm, hD⟩
      obtain ⟨a, ha, rfl⟩ : ∃ a, as[j]? = some a ∧ V.ref a = v := by
        rw [List.getElem?_map] at hv
        cases e : as[j]? with
        | none => rw [e] at hv; cases hv
        | some a => rw [e] at hv; exact ⟨a, rfl, Option.some.inj hv⟩
      obtain ⟨pq, hpq, p1, q1, hat⟩ := hpr j a ha
      have n60 := B.n60
      have lt2 : ∀ w ∈ [pq.1, pq.2], w < n := fun w hw => by
        simp only [List.mem_cons, List.not_mem_nil, or_false] at hw
        rcases hw with e | e <;> rw [e] <;> assumption
      have f1 : [pq.1, pq.2].foldl lo tp = lo pq.1 pq.2 := by show lo (lo tp pq.1) pq.2 = _; rw [B.lo_top p1]
      have f2 : [pq.1, pq.2].foldl hi bt = hi pq.1 pq.2 := by show hi (hi bt pq.1) pq.2 = _; rw [B.hi_bot p1]
      refine ⟨rfl, yes_it ⟨_, rfl, c, dx, _, rfl, sm _ _ ob, rfl, fun g q nq => ⟨_, rfl, a, _, rfl, .inl (SqT.of (same_upd nq _ _ (sm _ _ hat))), upd_same, ?_⟩⟩⟩
      refine fold_use (u := false) (xs := [pq.1, pq.2]) (hB.same (sm.trans (same_upd nq))) B eb et rfl (by show 2 ≤ 100; decide) lt2 f1 fun G1 g1 => ?_
      have s1 := (same_upd (o := .met g c) nq).trans g1
      have sm1 := sm.trans s1
      refine ⟨_, rfl, c, dx, _, rfl, sm1 _ _ ob, rfl, fun g' q' nq' => ⟨_, rfl, a, _, rfl, .inl (SqT.of (same_upd nq' _ _ (sm1 _ _ hat))), upd_same, ?_⟩⟩
      refine fold_use (u := true) (xs := [pq.1, pq.2]) (hB.same (sm1.trans (same_upd nq'))) B eb et rfl (by show 2 ≤ 100; decide) lt2 f2 fun G2 g2 => ⟨(by show 2 ≤ sizeLine; decide), fun t1 nt1 => ?_⟩
      have s2 := (same_upd (o := .met g' c) nq').trans g2
      refine ⟨_, rfl, _, rfl, (by show 2 ≤ sizeLine; decide), fun t2 nt2 => ?_⟩
      have st1 := same_upd (o := .tup [V.int (lo pq.1 pq.2 : Nat), V.int (hi pq.1 pq.2 : Nat)]) nt1
      have st2 := same_upd (o := .tup [V.int (o : Nat), V.int (i : Nat)]) nt2
      refine ⟨_, _, .tup (SqT.of (st2 _ _ upd_same)) (.cons (.int _) (.cons (.int _) .nil)), .tup (SqT.of upd_same) (.cons (.int _) (.cons (.int _) .nil)), ?_, ?_, ?_⟩
      · exact gd_shaped (n := 1) (gd_tup (n := 0) (fun d hd => by
          simp only [List.mem_cons, List.not_mem_nil, or_false] at hd
          rcases hd with e | e <;> rw [e] <;> rfl) (by show 2 ≤ 1000; decide)) (by decide)
      · exact gd_shaped (n := 1) (gd_tup (n := 0) (fun d hd => by
          simp only [List.mem_cons, List.not_mem_nil, or_false] at hd
          rcases hd with e | e <;> rw [e] <;> rfl) (by show 2 ≤ 1000; decide)) (by decide)
      rw [two_eqv]
      have sA := s1.trans (s2.trans (st1.trans st2))
      refine ⟨_, sA _ _ hD, small1000 (by rw [List.length_map, List.length_map, List.length_take]; omega), fun c' o' e => ?_, ?_⟩
      · rw [upd_ne (ne_of_none e nD)]; exact sA _ _ (sm _ _ e)
      · rw [upd_same, List.take_add_one, hpq, List.map_append, List.map_append]; rfl
    · rintro H7 ⟨s7, hD⟩
      rw [List.length_map, lap, List.take_length] at hD
      refine ⟨D, _, rfl, SqL.of hD, ?_⟩
      have g := good _ s7
      rw [List.all_map]
      exact g
theorem ok_isflt {f : Addr} {fd : FuncData} {k : Nat} (F : Fun K "is_fault" "is_fault" s_is_fault f fd) (hk : 6 ≤ k) (m_isinstance : mg "isinstance" = none) (m_tuple : mg "tuple" = none) (m_len : mg "len" = none)
    (C_are_five_places : Own P w K mg base 2 "are_five_places" ["board", "value"] (spF5 K C)) (C_are_bound : Own P w K mg base 6 "are_bound" ["board", "pairs", "low", "up"] (spAB K C)) (M_is_below : MetR P w K mg base 5 C "is_below" (spBel K C CP)) :
    FnOk P w K mg base CX0 (k + 1) f fd ["board", "fault"] (spIF K C) := by
  refine F.ok sc_is_fault (fun vs H Q E h => ?_) (fun cdv A outer s H vs Q E hr h => ?_)
  · obtain ⟨c, v, d, L, n, b, lo, hi, bt, tp, rfl, _⟩ := h
    rfl
  · obtain ⟨c, v, d, L, n, b, lo, hi, bt, tp, rfl, hB, B, eb, et, hd, fo, good⟩ := h
    rw [← spBelI_eq] at M_is_below
    refine ⟨_, (pss_cons (ps_if (PW.pt (pw_or (pt_not (pt_val (pe_isD (T := "tuple") (by rfl) m_isinstance (by rfl) m_tuple (pv 1)))) (pw_or1 (pt_cmpR op_ne (pe_callB call_len_seq (by rfl) m_len (by decide +kernel) (pa_cons (pv 1) pa_nil)) pe_int (nomark _)))))
        (pss_one (ps_ret pe_bl))
        pss_nil)
      (pss_cons (ps_asg (pv 1) (pg_tup rfl (pgs_cons (pg_name (i := 2) sc_is_fault.nd rfl (by first | exact .inl rfl | exact .inr rfl)) (pgs_cons (pg_name (i := 3) sc_is_fault.nd rfl (by first | exact .inl rfl | exact .inr rfl)) pgs_nil))))
      (pss_cons (ps_if (pt_not (pt_val (pe_own C_are_five_places (hr.mono (by omega)) (by rfl) (pa_cons (pv 0) (pa_cons (pv 3) pa_nil)))))
        (pss_one (ps_ret pe_bl))
        pss_nil)
      (pss_cons (ps_asg (pv 3) (pg_tup rfl (pgs_cons (pg_name (i := 4) sc_is_fault.nd rfl (by first | exact .inl rfl | exact .inr rfl)) (pgs_cons (pg_name (i := 5) sc_is_fault.nd rfl (by first | exact .inl rfl | exact .inr rfl)) (pgs_cons (pg_name (i := 6) sc_is_fault.nd rfl (by first | exact .inl rfl | exact .inr rfl)) (pgs_cons (pg_name (i := 7) sc_is_fault.nd rfl (by first | exact .inl rfl | exact .inr rfl)) (pgs_cons (pg_name (i := 8) sc_is_fault.nd rfl (by first | exact .inl rfl | exact .inr rfl)) pgs_nil)))))))
      (pss_cons (ps_if (pt_cmpR (op_eqDq (K := K) rfl hr.units) (pv 2) pe_str (nomark _))
        (pss_one (ps_ret (pe_and (pe_mtR M_is_below (hr.mono (by omega)) passE0 (pv 0) (pa_cons (pv 5) (pa_cons (pv 6) pa_nil))) (pe_one (pe_own C_are_bound (hr.mono (by omega)) (by rfl) (pa_cons (pv 0) (pa_cons (pe_lst (pa_cons (pe_tup (pa_cons (pv 5) (pa_cons (pv 7) pa_nil))) (pa_cons (pe_tup (pa_cons (pv 6) (pa_cons (pv 7) pa_nil))) pa_nil))) (pa_cons (pv 4) (pa_cons (pv 8) pa_nil)))))))))
        pss_nil)
      (pss_one (ps_ret (pe_and (pe_cmpR (op_eqDq (K := K) rfl hr.units) (pv 2) pe_str (nomark _)) (pe_one (pe_own C_are_bound (hr.mono (by omega)) (by rfl) (pa_cons (pv 0) (pa_cons (pe_lst (pa_cons (pe_tup (pa_cons (pv 5) (pa_cons (pv 6) pa_nil))) (pa_cons (pe_tup (pa_cons (pv 5) (pa_cons (pv 7) pa_nil))) (pa_cons (pe_tup (pa_cons (pv 6) (pa_cons (pv 7) pa_nil))) pa_nil)))) (pa_cons (pv 4) (pa_cons (pv 8) pa_nil)))))))))))))), ?_⟩
    refine ⟨_, rfl, _, _, d, rfl, by decide, hd, _, rfl, ?_⟩
    cases d with
    | tuple ds =>
      cases hd with
      | @tup p vs _ hs ha =>
      have lv := dpAll_len ha
      refine iteF ⟨_, rfl, p, vs, rfl, .inr hs, rfl, _, rfl, ?_⟩
      by_cases l2 : ds.length = 2
      · rw [show (!decide (V.int ((vs.length : Nat) : Int) = V.int 2)) = false from by rw [lv, l2]; decide]
        match ds, l2, ha, fo, good, lv with
        | [k, e], _, ha, fo, good, lv =>
          cases ha with
          | @cons vk _ _ _ hkk ha => cases ha with
            | @cons ve _ _ _ he ha =>
              cases ha
              have sk := fo k e rfl
              have gd1 : ∀ H', Same H H' → Q (.bl (kndB k && fvB n b lo hi (ladD k) e)) H' := good
              clear good
              refine iteF ⟨_, rfl, p, _, rfl, hs, rfl, _, _, rfl, _, [], rfl, rfl, ?_⟩
              refine ⟨_, rfl, _, rfl, c, ve, e, L, n, b, lo, hi, rfl, hB, B.n60, he, fun H1 s1 => ⟨_, rfl, ?_⟩⟩
              have fvE : fvB n b lo hi (ladD k) e = true → f5B n e = true := fun h => by
                cases e with
                | tuple ds =>
                  have h : (decide (ds.length = 5) && (ds.all (ixB n) && rgtL n b lo hi (ladD k) (ds.map natD))) = true := h
                  rw [Bool.and_eq_true, Bool.and_eq_true, decide_eq_true_iff] at h
                  obtain ⟨l5, ex, rg⟩ := h
                  obtain ⟨o, x, y, z, i, rfl, _⟩ := five_inv l5 ex
                  have rg : rgt n b lo hi (ladD k) o x y z i = true := rg
                  unfold rgt at rg
                  rw [Bool.and_eq_true, decide_eq_true_iff] at rg
                  show (decide (5 = 5) && (_ && decide ([o, x, y, z, i].Nodup))) = true
                  rw [ex, decide_eq_true rg.1]; rfl
                | _ => cases h
              cases e5 : f5B n e with
              | false =>
                have g := gd1 _ s1
                rw [show fvB n b lo hi (ladD k) e = false from Bool.eq_false_iff.mpr fun h => (by rw [fvE h] at e5; cases e5), Bool.and_false] at g
                exact iteT g
              | true =>
              refine iteF ?_
              obtain ⟨o, x, y, z, i, rfl, nd, ho, hx, hy, hz, hii⟩ : ∃ o x y z i : Nat, e = .tuple [.int (o : Nat), .int (x : Nat), .int (y : Nat), .int (z : Nat), .int (i : Nat)] ∧ [o, x, y, z, i].Nodup ∧ o < n ∧ x < n ∧ y < n ∧ z < n ∧ i < n := by
                cases e with
                | tuple ds =>
                  have h : (decide (ds.length = 5) && (ds.all (ixB n) && decide (ds.map natD).Nodup)) = true := e5
                  rw [Bool.and_eq_true, Bool.and_eq_true, decide_eq_true_iff, decide_eq_true_iff] at h
                  obtain ⟨l5, ex, nd⟩ := h
                  obtain ⟨o, x, y, z, i, rfl, r⟩ := five_inv l5 ex
                  exact ⟨o, x, y, z, i, rfl, nd, r⟩
                | _ => cases e5
              have gd2 : ∀ H', Same H H' → Q (.bl (kndB k && rgt n b lo hi (ladD k) o x y z i)) H' := fun H' s' => by
                have g := gd1 H' s'
                have ev : fvB n b lo hi (ladD k) (.tuple [.int (o : Nat), .int (x : Nat), .int (y : Nat), .int (z : Nat), .int (i : Nat)]) = rgt n b lo hi (ladD k) o x y z i := by
                  have ei : ∀ {j : Nat}, j < n → ixB (n : Nat) (.int (j : Nat)) = true := fun {j} h => by
                    show (decide ((0 : Int) ≤ (j : Nat)) && decide (((j : Nat) : Int) < (n : Nat))) = true
                    rw [decide_eq_true (by omega), decide_eq_true (by omega)]; rfl
                  show (decide (5 = 5) && ([PyData.int (o : Nat), .int (x : Nat), .int (y : Nat), .int (z : Nat), .int (i : Nat)].all (ixB n) && rgt n b lo hi (ladD k) o x y z i)) = _
                  simp only [List.all_cons, List.all_nil, ei ho, ei hx, ei hy, ei hz, ei hii]
                  rfl
                rw [ev] at g
                exact g
              clear gd1 fvE e5
              obtain ⟨p2, vs2, rfl, hs2, rfl⟩ : ∃ p2 vs2, ve = .ref p2 ∧ SqT K H p2 vs2 ∧ vs2 = five o x y z i := by
                cases he with
                | tup hs2 ha2 =>
                  cases ha2 with
                  | cons a1 ha2 => cases ha2 with
                    | cons a2 ha2 => cases ha2 with
                      | cons a3 ha2 => cases ha2 with
                        | cons a4 ha2 => cases ha2 with
                          | cons a5 ha2 =>
                            cases ha2; cases a1; cases a2; cases a3; cases a4; cases a5
                            exact ⟨_, _, rfl, hs2, rfl⟩
              have hs3 := same_seqT s1 hs2
              have hk1 := dp_same s1 _ _ hkk
              refine ⟨_, rfl, p2, _, rfl, hs3, rfl, _, _, rfl, _, _, rfl, _, _, rfl, _, _, rfl, _, [], rfl, rfl, ?_⟩
              have sl : SeqAt.shaped (.str "ladder") = true := by decide +kernel
              have sf : SeqAt.shaped (.str "fan") = true := by decide +kernel
              refine ⟨_, rfl, k, .str "ladder", hk1, .str _, sk, sl, _, rfl, ?_⟩
              rw [lad_eqv]
              obtain ⟨dx, ob⟩ := hB.ob
              -- all pairs
              cases el : ladD k with
              | true =>
                rw [el, knd_or, el, Bool.true_or, Bool.true_and] at gd2
                refine iteT ⟨_, rfl, c, dx, _, rfl, s1 _ _ ob, rfl, _, rfl, _, rfl, bel_use (hB.same s1) B.n60 rfl hx hy fun H2 s2 => ⟨_, rfl, ?_⟩⟩
                have s02 := s1.trans s2
                cases eb' : b x y with
                | false =>
                  have g := gd2 _ s02
                  rw [show rgt n b lo hi true o x y z i = false from by unfold rgt; rw [eb']; simp] at g
                  exact iteF g
                | true =>
                  have e1 : rgt n b lo hi true o x y z i = ([(x, z), (y, z)].all fun p => decide (lo p.1 p.2 = o) && decide (hi p.1 p.2 = i)) := by
                    unfold rgt
                    rw [decide_eq_true nd, eb']
                    simp
                  rw [e1] at gd2
                  refine iteT ⟨_, rfl, _, rfl, _, rfl, (by show 2 ≤ sizeLine; decide), fun t1 nt1 => ⟨_, rfl, _, rfl, (by show 2 ≤ sizeLine; decide), fun t2 nt2 => ⟨(by show 2 ≤ sizeLine; decide), fun L1 nL1 => ?_⟩⟩⟩
                  have q1 := same_upd (o := .tup [V.int (x : Nat), V.int (z : Nat)]) nt1
                  have q2 := same_upd (o := .tup [V.int (y : Nat), V.int (z : Nat)]) nt2
                  have q3 := same_upd (o := .lst [V.ref t1, V.ref t2]) nL1
                  refine ⟨_, rfl, _, rfl, c, L1, o, i, [t1, t2], [(x, z), (y, z)], L, n, b, lo, hi, bt, tp, rfl, hB.same (s02.trans (q1.trans (q2.trans q3))), B, eb, et, upd_same, rfl, (by show 2 ≤ 3; decide), fun j a ha => ?_, fun H' s' => gd2 _ ((s02.trans (q1.trans (q2.trans q3))).trans s')⟩
                  match j, ha with
                  | 0, ha => cases ha; exact ⟨(x, z), rfl, hx, hz, (q2.trans q3) _ _ upd_same⟩
                  | 1, ha => cases ha; exact ⟨(y, z), rfl, hy, hz, q3 _ _ upd_same⟩
                  | j + 2, ha => cases ha
              | false =>
                rw [el, knd_or, el, Bool.false_or] at gd2
                refine iteF ⟨_, rfl, k, .str "fan", hk1, .str _, sk, sf, _, rfl, ?_⟩
                rw [fan_eqv]
                cases ef : fanD k with
                | false =>
                  rw [ef] at gd2
                  exact iteF (gd2 _ s1)
                | true =>
                  rw [ef, Bool.true_and] at gd2
                  have e1 : rgt n b lo hi false o x y z i = ([(x, y), (x, z), (y, z)].all fun p => decide (lo p.1 p.2 = o) && decide (hi p.1 p.2 = i)) := by
                    unfold rgt
                    rw [decide_eq_true nd]
                    show (true && ((!false || b x y) && ([(x, z), (y, z), (x, y)].all fun p => decide (lo p.1 p.2 = o) && decide (hi p.1 p.2 = i)))) = _
                    simp only [List.all_cons, List.all_nil, Bool.not_false, Bool.true_or, Bool.true_and, Bool.and_true]
                    generalize (decide (lo x z = o) && decide (hi x z = i)) = u1
                    generalize (decide (lo y z = o) && decide (hi y z = i)) = u2
                    generalize (decide (lo x y = o) && decide (hi x y = i)) = u3
                    cases u1 <;> cases u2 <;> cases u3 <;> rfl
                  rw [e1] at gd2
                  refine iteT ⟨_, rfl, _, rfl, _, rfl, (by show 2 ≤ sizeLine; decide), fun t1 nt1 => ⟨_, rfl, _, rfl, (by show 2 ≤ sizeLine; decide), fun t2 nt2 => ⟨_, rfl, _, rfl, (by show 2 ≤ sizeLine; decide), fun t3 nt3 => ⟨(by show 3 ≤ sizeLine; decide), fun L1 nL1 => ?_⟩⟩⟩⟩
                  have q1 := same_upd (o := .tup [V.int (x : Nat), V.int (y : Nat)]) nt1
                  have q2 := same_upd (o := .tup [V.int (x : Nat), V.int (z : Nat)]) nt2
                  have q3 := same_upd (o := .tup [V.int (y : Nat), V.int (z : Nat)]) nt3
                  have q4 := same_upd (o := .lst [V.ref t1, V.ref t2, V.ref t3]) nL1
                  have qq := s1.trans (q1.trans (q2.trans (q3.trans q4)))
                  refine ⟨_, rfl, _, rfl, c, L1, o, i, [t1, t2, t3], [(x, y), (x, z), (y, z)], L, n, b, lo, hi, bt, tp, rfl, hB.same qq, B, eb, et, upd_same, rfl, (by show 3 ≤ 3; decide), fun j a ha => ?_, fun H' s' => gd2 _ (qq.trans s')⟩
                  match j, ha with
                  | 0, ha => cases ha; exact ⟨(x, y), rfl, hx, hy, (q2.trans (q3.trans q4)) _ _ upd_same⟩
                  | 1, ha => cases ha; exact ⟨(x, z), rfl, hx, hz, (q3.trans q4) _ _ upd_same⟩
                  | 2, ha => cases ha; exact ⟨(y, z), rfl, hy, hz, q4 _ _ upd_same⟩
                  | j + 3, ha => cases ha
      · rw [show (!decide (V.int ((vs.length : Nat) : Int) = V.int 2)) = true from by rw [decide_eq_false (show ¬ (V.int ((vs.length : Nat) : Int) = V.int 2) from fun e => l2 (by have := V.int.inj e; omega))]; rfl]
        have e : frB n b lo hi (.tuple ds) = false := by
          match ds, l2 with
          | [], _ => rfl
          | [_], _ => rfl
          | _ :: _ :: _ :: _, _ => rfl
          | [_, _], h => exact absurd rfl h
        rw [e] at good
        exact iteT (good H (Same.refl H))
    | _ => exact iteT (iteT (good H (Same.refl H)))
end
end FvO


namespace FvO
open PySem PySem.Spec PyProof.Rows L2 Fv FvW FvX TL
open FvK (pe_fldK)
open ClX (CRead CVal pe_cval)
-- top 36  slots: 0:self 1:other 2:blank 3:rows 4:line 5:inner 6:digit
abbrev s_product__of__Board : Stmt := inClass (topS 36) 19
abbrev N_product__of__Board : List Str := ["self", "other", "blank", "rows", "line", "inner", "digit"]
theorem sc_product__of__Board : FnScope N_product__of__Board ["self", "other"] (defScope s_product__of__Board) := ⟨rfl, rfl, rfl, by decide +kernel, rfl, by decide +kernel, by decide +kernel⟩

def spProd (K : PySem.W.Frag) (C CT : Addr) : Sp := fun vs H Q E => ∃ (M : List Addr) (c c2 : Addr) (La Lb : BL) (n m : Nat) (b1 b2 : Nat → Nat → Bool) (l1 h1 l2 h2 : Nat → Nat → Nat) (bt1 tp1 bt2 tp2 : Nat), vs = [.ref c, .ref c2] ∧ Trk M H ∧
  BAt K C H c La n b1 l1 h1 ∧ Brd n b1 l1 h1 bt1 tp1 ∧ BAt K C H c2 Lb m b2 l2 h2 ∧ Brd m b2 l2 h2 bt2 tp2 ∧
  (n * m ≤ 60 → newB K C M (n * m) (prB m b1 b2) (prL m l1 l2) (prL m h1 h2) (bt1 * m + bt2) (tp1 * m + tp2) H Q) ∧ (60 < n * m → errF CT "TooManyPlaces" "limit" (.int 60) H E)
theorem sum_rep (m : Nat) : ∀ k : Nat, (List.replicate k m).sum = k * m
  | 0 => by rw [Nat.zero_mul]; rfl
  | k + 1 => by rw [List.replicate_succ, List.sum_cons, sum_rep m k, Nat.succ_mul, Nat.add_comm]
section
variable {P : Program} {w : World} {K : PySem.W.Frag} {mg : Str → Option Value} {base : Heap} {C : Addr}
theorem ok_prod {CT fT : Addr} {qual : Str} {q : ErrPos1} {me : Expr} {j2 : Nat} {f : Addr} {fd : FuncData} {k : Nat} (F : Fun K "product" "Board.product" s_product__of__Board f fd) (T : TxB K C) (TM : TxM K C) (g_Board : mg "Board" = some (.ref C)) (m_len : mg "len" = none) (hk : 5 ≤ k)
    (T_TP : ErrC1 P.main.file K CT fT qual q me "TooManyPlaces" "limit" j2) (hline : LineOk1 q me) (hargs : ArgsOk me) (hme : ∀ u, MsgV u → MsgOk me "limit" u) (htop : (P.main.scope.names.lookup ("super" : Str)).isSome = false) (m_super : mg "super" = none) (g_TP : mg "TooManyPlaces" = some (.ref CT))
    (Mk_Board : C8.Mak P w K mg base 4 "Board" C (spBIn K C) []) :
    FnOk P w K mg base (L2.CX P w) (k + 1) f fd ["self", "other"] (spProd K C CT) := by
  refine F.okX sc_product__of__Board (fun vs H Q E h => ?_) (fun cdv A outer s H vs Q E hr h => ?_)
  · obtain ⟨M, c, c2, La, Lb, n, m, b1, b2, l1, h1, l2, h2, bt1, tp1, bt2, tp2, rfl, _⟩ := h
    rfl
  · obtain ⟨M, c, c2, La, Lb, n, m, b1, b2, l1, h1, l2, h2, bt1, tp1, bt2, tp2, rfl, tM, hA, BA, hB, BB, good, bad⟩ := h
    refine ⟨_, (pss_cons (ps_if (pt_cmpR op_gt (pe_op op_mul (pe_callB call_len_seq (by rfl) m_len (by decide +kernel) (pa_cons (pe_fldK (K := K) rfl (pv 0) rfl) pa_nil)) (pe_callB call_len_seq (by rfl) m_len (by decide +kernel) (pa_cons (pe_fldK (K := K) rfl (pv 1) rfl) pa_nil))) (pe_cval (pe_glob (v := .ref C) (by rfl) g_Board rfl)) (nomark _))
        (pss_one (ps_raise rfl (takes_of rfl rfl rfl rfl) (pmk_err1 (k := 0) (by decide +kernel) T_TP hline hargs hme htop m_super (hr.mono (by omega)) (by rfl) g_TP (pa_cons (pe_cval (pe_glob (v := .ref C) (by rfl) g_Board rfl)) pa_nil))))
        pss_nil)
      (pss_cons (ps_set (i := 2) sc_product__of__Board.nd rfl (by first | exact .inl rfl | exact .inr rfl) (pe_op op_mulG pe_str (pe_callB call_len_seq (by rfl) m_len (by decide +kernel) (pa_cons (pe_fldK (K := K) rfl (pv 1) rfl) pa_nil))))
      (pss_cons (ps_set (i := 3) sc_product__of__Board.nd rfl (by first | exact .inl rfl | exact .inr rfl) (pe_lst pa_nil))
      (pss_cons (ps_for (passes_of rfl) rfl (pi_list (pe_fldK (K := K) rfl (pv 0) rfl)) (pg_name (i := 4) sc_product__of__Board.nd rfl (by first | exact .inl rfl | exact .inr rfl))
        (pss_one (ps_for (passes_of rfl) rfl (pi_list (pe_fldK (K := K) rfl (pv 1) rfl)) (pg_name (i := 5) sc_product__of__Board.nd rfl (by first | exact .inl rfl | exact .inr rfl))
          (pss_one (ps_expr (pe_bm PySem.F.plainAttrs_list PySem.F.slot_list_append PySem.F.type_list_append mt_append (pv 3) (pa_cons (pe_joinK (K := K) rfl pe_str (pe_lc (own := [("digit", 6)]) (g := gName 6) (by rfl) sc_product__of__Board.nd (pi_str (pv 4)) (blkOk_by (own := [("digit", 6)]) (N := N_product__of__Board) (sc := defScope s_product__of__Board) (by decide +kernel)) (fun _ _ _ _ _ => pg_name (i := 6) sc_product__of__Board.nd rfl (Or.inl rfl)) (fun _ _ _ _ _ => pts_nil) (fun _ _ _ _ _ => (pe_ifExp (pt_cmpR op_eq (pv 6) pe_str (nomark _)) (pv 5) (pv 2))))) pa_nil)))))))
      (pss_one (ps_ret (C8.pe_mk Mk_Board hr (by omega) (by rfl) (pa_cons (pv 3) pa_nil)))))))), ?_⟩
    obtain ⟨mc, u, cr, cv⟩ := TM.ex
    obtain ⟨d1, o1⟩ := hA.ob
    obtain ⟨d2, o2⟩ := hB.ob
    refine ⟨_, rfl, _, C, d1, _, _, rfl, o1, T.cl, T.n1, rfl, La.ln, _, rfl, .inl (SqL.of hA.ln), ?_⟩
    refine ⟨_, rfl, _, C, d2, _, _, rfl, o2, T.cl, T.n1, rfl, Lb.ln, _, rfl, .inl (SqL.of hB.ln), _, _, rfl, rfl, ?_, ?_⟩
    · have := BA.n60
      rw [rows_lenF, rows_lenF]
      exact .inl ⟨by omega, by omega⟩
    dsimp only
    rw [rows_lenF, rows_lenF]
    refine ⟨C, mc, .int 60, u, rfl, cr, cv, _, _, rfl, rfl, _, rfl, ?_⟩
    by_cases big : 60 < n * m
    · rw [decide_eq_true (by omega)]
      exact iteT ⟨C, mc, .int 60, u, rfl, cr, cv, _, rfl, .inr ⟨60, rfl, by decide⟩, fun dd nd => bad big _ dd (same_upd nd) upd_same⟩
    rw [decide_eq_false (by omega)]
    have good := good (by omega)
    have m60 := BB.n60
    refine iteF ⟨_, rfl, _, C, d2, _, _, rfl, o2, T.cl, T.n1, rfl, Lb.ln, _, rfl, .inl (SqL.of hB.ln), "0", m, rfl, congrArg (fun z : Nat => V.int (z : Nat)) (rows_lenF _ _), by omega, by decide, by decide, ?_⟩
    refine ⟨(by show 0 ≤ sizeLine; decide), fun p np => ?_⟩
    have sp := same_upd (o := .lst []) np
    have hp : upd H p (.lst []) p = some (.lst []) := upd_same
    have pM : p ∉ M := tM.ne np
    generalize upd H p (.lst []) = H1 at sp hp
    have lA := sp _ _ hA.ln
    have lB := sp _ _ hB.ln
    have o2H := o2
    have o1 := sp _ _ o1
    have o2 := sp _ _ o2
    have lnp : La.ln ≠ p := ne_of_none hA.ln np
    have lbp : Lb.ln ≠ p := ne_of_none hB.ln np
    let rw1 : Nat → Nat → Str := fun a e => rowF (n * m) (prB m b1 b2 (a * m + e))
    refine ⟨_, rfl, _, C, d1, _, _, rfl, o1, T.cl, T.n1, rfl, La.ln, rfl, ⟨_, SqL.of lA⟩, for_list (xs := (rowsF n b1).map V.str) (fun i σ H' => ∃ y4 y5 : Option V, σ = [some (.ref c), some (.ref c2), some (.str (mulS "0" m)), some (.ref p), y4, y5, none] ∧ SmX [p] H1 H' ∧ H' p = some (.lst ((((List.range i).map fun a => (List.range m).map fun e => rw1 a e).flatten).map V.str))) ?_ ?_ ?_ ?_⟩
    · exact ⟨_, _, rfl, SmX.of_same (Same.refl _), hp⟩
    · rintro i σ H' _ ⟨y4, y5, rfl, sm, hp'⟩
      exact SqL.of (sm _ _ (fun z => lnp (List.mem_singleton.mp z)) lA)
    · rintro i x σ H' hx ⟨y4, y5, rfl, sm, hp'⟩
      obtain ⟨il, rfl⟩ := rows_get hx
      have o2' := sm _ _ (fun z => ne_of_none (o2H) np (List.mem_singleton.mp z)) o2
      have lB' := sm _ _ (fun z => lbp (List.mem_singleton.mp z)) lB
      refine ⟨_, rfl, _, C, d2, _, _, rfl, o2', T.cl, T.n1, rfl, Lb.ln, rfl, ⟨_, SqL.of lB'⟩, for_list (xs := (rowsF m b2).map V.str) (fun e σ H2 => ∃ y5 : Option V, σ = [some (.ref c), some (.ref c2), some (.str (mulS "0" m)), some (.ref p), some (.str (rowF n (b1 i))), y5, none] ∧ SmX [p] H1 H2 ∧ H2 p = some (.lst (((((List.range i).map fun a => (List.range m).map fun e => rw1 a e).flatten) ++ (List.range e).map fun e => rw1 i e).map V.str))) ?_ ?_ ?_ ?_⟩
      · exact ⟨_, rfl, sm, by rw [hp']; simp⟩
      · rintro e σ H2 _ ⟨y5, rfl, sm2, hp2⟩
        exact SqL.of (sm2 _ _ (fun z => lbp (List.mem_singleton.mp z)) lB)
      · rintro e x2 σ H2 hx2 ⟨y5, rfl, sm2, hp2⟩
        obtain ⟨el, rfl⟩ := rows_get hx2
        refine ⟨_, rfl, .inl ⟨rfl, _, SqL.of hp2⟩, ⟨_, rfl⟩, _, rfl, _, rfl, fun D nD => lc_it (walk_str (z := rowF n (b1 i))) (fun x H3 => Same H2 H3 ∧ H3 D = some (.lst (((List.range x).map fun x => if b1 i x = true then rowF m (b2 e) else mulS "0" m).map V.str))) ?_ ?_ ?_ ?_⟩
        · exact ⟨same_upd nD, upd_same⟩
        · exact fun _ _ _ _ => trivial
        · rintro x y H4 H3 hi ⟨sm3, hD⟩ ⟨rfl, c0, hc, rfl⟩
          obtain ⟨xl, rfl⟩ : x < n ∧ c0 = chB (b1 i x) := by
            rw [← Array.getElem?_toList, rowF_cps, List.getElem?_map] at hc
            obtain ⟨z, hz, rfl⟩ := Option.map_eq_some_iff.mp hc
            rw [List.getElem?_eq_some_iff] at hz
            obtain ⟨hz, e⟩ := hz
            rw [List.length_range] at hz
            rw [List.getElem_range] at e
            exact ⟨hz, by rw [e]⟩
          have fin : ∀ (y : Str), y = (if b1 i x = true then rowF m (b2 e) else mulS "0" m) → ∃ acc, H3 D = some (.lst acc) ∧ acc.length < sizeLine ∧ (Same H2 (upd H3 D (.lst (acc ++ [V.str y]))) ∧ upd H3 D (.lst (acc ++ [V.str y])) D = some (.lst (((List.range (x + 1)).map fun x => if b1 i x = true then rowF m (b2 e) else mulS "0" m).map V.str))) := fun y hy => by
            refine ⟨_, hD, small1000 (by rw [List.length_map, List.length_map, List.length_range]; have := BA.n60; omega), fun c o e => ?_, ?_⟩
            · rw [upd_ne (ne_of_none e nD)]; exact sm3 _ _ e
            · rw [upd_same, List.range_succ, List.map_append, List.map_append, hy]; rfl
          have ed : decide (V.str (⟨#[chB (b1 i x)]⟩ : Str) = V.str "1") = b1 i x := one_dec _
          refine ⟨rfl, yes_it ⟨_, rfl, rfl, _, rfl, ?_⟩⟩
          dsimp only
          rw [ed]
          cases hb : b1 i x with
          | true => exact iteT ⟨_, rfl, fin _ (by rw [if_pos hb])⟩
          | false => exact iteF ⟨_, rfl, fin _ (by rw [hb]; rfl)⟩
        · rintro H3 ⟨sm3, hD⟩
          have hsz : (rowF n (b1 i)).cps.size = n := rowF_len n _
          rw [hsz] at hD
          have ll : ((List.range n).map fun x => if b1 i x = true then rowF m (b2 e) else mulS "0" m).map (·.length) = List.replicate n m := by
            rw [List.map_map]
            refine List.ext_getElem (by simp) fun x z1 z2 => ?_
            rw [List.getElem_map, List.getElem_replicate]
            show (if b1 i _ = true then rowF m (b2 e) else mulS "0" m).length = m
            split
            · exact rowF_len _ _
            · rw [blank_row]; exact rowF_len _ _
          have lt := pr_lt il el
          refine ⟨"", D, _, rfl, rfl, .inl (SqL.of hD), ?_, p, _, _, rfl, rfl, sm3 _ _ hp2, small1000 ?_, _, rfl, fun b o nb z => ?_, ?_⟩
          · rw [ll, sum_rep]
            show n * m + _ * 0 ≤ 16777216
            omega
          · rw [List.length_map, List.length_append, flat_pr i m _ BB.n1, List.length_map, List.length_range, List.length_map, List.length_range]
            omega
          · rw [upd_ne (fun y => nb (List.mem_singleton.mpr y))]
            exact sm3 _ _ (sm2 _ _ nb z)
          · rw [upd_same, row_pr n m (b1 i) (b2 e) BB.n1, List.range_succ, List.map_append (f := fun e => rw1 i e), ← List.append_assoc, List.map_append (f := V.str)]
            have er : (rowF (n * m) fun v => b1 i (v / m) && b2 e (v % m)) = rw1 i e := by
              show _ = rowF (n * m) fun v => b1 ((i * m + e) / m) (v / m) && b2 ((i * m + e) % m) (v % m)
              rw [pr_div el, pr_mod el]
            rw [er]
            simp only [List.map_append]
            rfl
      · rintro σ H2 ⟨y5, rfl, sm2, hp2⟩
        refine ⟨_, _, rfl, sm2, ?_⟩
        have e1 : ((List.range (i + 1)).map fun a => (List.range m).map fun e => rw1 a e).flatten = ((List.range i).map fun a => (List.range m).map fun e => rw1 a e).flatten ++ (List.range m).map fun e => rw1 i e := by
          rw [List.range_succ, List.map_append, List.flatten_append]
          simp
        rw [hp2, rows_lenF, e1]
    · rintro σ H' ⟨y4, y5, rfl, sm, hp'⟩
      rw [rows_lenF, pr_range n m BB.n1] at hp'
      have er : ((List.range (n * m)).map fun u => rw1 (u / m) (u % m)) = rowsF (n * m) (prB m b1 b2) := by
        unfold rowsF
        refine List.map_congr_left fun u _ => ?_
        show rowF (n * m) (prB m b1 b2 (u / m * m + u % m)) = _
        rw [pr_split]
      rw [er] at hp'
      refine ⟨_, rfl, fun x d3 nx nd nxd => ?_⟩
      have s0 : Same H H' := fun b o e => sm b o (fun z => ne_of_none e np (List.mem_singleton.mp z)) (sp b o e)
      have tM1 := tM.same s0
      have xM : x ∉ M := tM1.ne nx
      have px : p ≠ x := ne_of_none hp' nx
      have sA := same_upd (o := .own x) nd
      have nx' : upd H' d3 (.own x) x = none := by rw [upd_ne (Ne.symm nxd)]; exact nx
      have sB := sA.trans (same_upd (o := .ins C d3 []) nx')
      have hpB := sB _ _ hp'
      have hxB : upd (upd H' d3 (.own x)) x (.ins C d3 []) x = some (.ins C d3 []) := upd_same
      generalize upd (upd H' d3 (.own x)) x (.ins C d3 []) = HB at sB hpB hxB
      refine ⟨M, x, p, d3, n * m, _, _, _, _, _, rfl, tM1.same sB, xM, hxB, SqL.of (by rw [hide_ne (fun z => (List.mem_cons.mp z).elim px pM)]; exact hpB), pr_brd BA BB (by omega), fun H2 Lc smx hB2 e1 e2 => ?_⟩
      exact ⟨rfl, good H2 x Lc (s0.trans fun b o e => smx b o (fun z => ne_of_none e nx (List.mem_singleton.mp z)) (sB b o e)) (none_backO s0 nx) hB2 e1 e2⟩
end
end FvO


namespace Fv
open PySem PySem.Spec PyProof.Rows L2
-- top 38  slots: 0:_law_script
abbrev s_law_source : Stmt := topS 38
abbrev N_law_source : List Str := ["_law_script"]
theorem sc_law_source : FnScope N_law_source ["_law_script"] (defScope s_law_source) := ⟨rfl, rfl, rfl, by decide +kernel, rfl, by decide +kernel, by decide +kernel⟩

-- top 40  slots: 0:_law_source_here 1:_law_row
abbrev s_law_pick : Stmt := topS 40
abbrev N_law_pick : List Str := ["_law_source_here", "_law_row"]
theorem sc_law_pick : FnScope N_law_pick ["_law_source_here", "_law_row"] (defScope s_law_pick) := ⟨rfl, rfl, rfl, by decide +kernel, rfl, by decide +kernel, by decide +kernel⟩

-- top 41  slots: 0:_law_source_here 1:_law_row 2:_law_found 3:_law_one
abbrev s_law_mixed : Stmt := topS 41
abbrev N_law_mixed : List Str := ["_law_source_here", "_law_row", "_law_found", "_law_one"]
theorem sc_law_mixed : FnScope N_law_mixed ["_law_source_here", "_law_row"] (defScope s_law_mixed) := ⟨rfl, rfl, rfl, by decide +kernel, rfl, by decide +kernel, by decide +kernel⟩


section
variable {P : Program} {w : World} {K : PySem.W.Frag} {mg : Str → Option Value} {base : Heap}
theorem ok_source {f : Addr} {fd : FuncData} {k : Nat} (F : Fun K "_law_source" "_law_source" s_law_source f fd) (m_list : mg "list" = none) :
    FnOk P w K mg base CX0 (k + 1) f fd ["_law_script"] (spSource K) := by
  refine F.ok sc_law_source (fun vs H Q E h => ?_) (fun cdv A outer s H vs Q E hr h => ?_)
  · obtain ⟨a, ns, rfl, _⟩ := h
    rfl
  · obtain ⟨a, ns, rfl, hS, hl, q⟩ := h
    refine ⟨_, (pss_one (ps_ret (pe_lst (pa_cons (pe_callTy call_list_of (by rfl) m_list (by decide +kernel) (pa_cons (pe_slice sl_list (pv 0) po_none (po_some pe_int)) pa_nil)) (pa_cons pe_int (pa_cons pe_int (pa_cons pe_int (pa_cons pe_int pa_nil)))))))), ?_⟩
    refine ⟨_, rfl, _, rfl, a, _, rfl, hS, fun c nc => ?_⟩
    have e1 : cutV (ns.map V.int) none (some 63) = ns.map V.int := by
      rw [cut_take _ (by decide)]
      exact List.take_of_length_le (by rw [List.length_map]; exact hl)
    refine ⟨c, _, rfl, .inl (SqL.of upd_same), fun L nL => ?_⟩
    refine ⟨(by show 5 ≤ sizeLine; decide), fun p np => ?_⟩
    have s1 := same_upd (o := .lst (cutV (ns.map V.int) none (some 63))) nc
    have s2 := same_upd (o := .lst (cutV (ns.map V.int) none (some 63))) nL
    have s3 := same_upd (o := .lst [.ref L, .int 0, .int 0, .int 3818, .int 0]) np
    refine q _ p L (s1.trans (s2.trans s3)) (s1.free (s2.free np)) (s1.free nL) ⟨0, 0, 3818, 0, upd_same, ?_, by decide, by decide, by decide⟩
    refine s3 _ _ ?_
    rw [upd_same, e1]
theorem ok_pick {f : Addr} {fd : FuncData} {k : Nat} (F : Fun K "_law_pick" "_law_pick" s_law_pick f fd) (m_len : mg "len" = none)
    (C_law_take : Own P w K mg base k "_law_take" ["_law_source_here", "_law_many"] spTake) :
    FnOk P w K mg base CX0 (k + 1) f fd ["_law_source_here", "_law_row"] spPick := by
  refine F.ok sc_law_pick (fun vs H Q E h => ?_) (fun cdv A outer s H vs Q E hr h => ?_)
  · obtain ⟨a, L, r, ns, xs, rfl, _⟩ := h
    rfl
  · obtain ⟨a, L, r, ns, xs, rfl, hs, ra, hr', hp, hl, q⟩ := h
    refine ⟨_, (pss_one (ps_ret (pe_ix ix_list (pv 1) (pe_own C_law_take (hr.mono (by omega)) (by rfl) (pa_cons (pv 0) (pa_cons (pe_callB call_len_seq (by rfl) m_len (by decide +kernel) (pa_cons (pv 1) pa_nil)) pa_nil))) (fun _ _ => rfl)))), ?_⟩
    refine ⟨_, rfl, _, rfl, _, rfl, r, _, rfl, .inl (SqL.of hr'), a, L, ns, _, rfl, hs, by omega, by omega, fun H' d d0 d1 hs' off => ?_⟩
    obtain ⟨v, hv, mv⟩ := atI_mem d0 d1
    exact ⟨r, _, _, _, rfl, rfl, SqL.of ((off r ra).trans hr'), hv, q H' v mv hs' off⟩
theorem ok_mixed {f : Addr} {fd : FuncData} {k : Nat} (F : Fun K "_law_mixed" "_law_mixed" s_law_mixed f fd) (m_len : mg "len" = none)
    (C_law_take : Own P w K mg base k "_law_take" ["_law_source_here", "_law_many"] spTake) :
    FnOk P w K mg base CX0 (k + 1) f fd ["_law_source_here", "_law_row"] spMixed := by
  refine F.ok sc_law_mixed (fun vs H Q E h => ?_) (fun cdv A outer s H vs Q E hr h => ?_)
  · obtain ⟨a, L, r, ns, xs, rfl, _⟩ := h
    rfl
  · obtain ⟨a, L, r, ns, xs, rfl, hs, ra, hR, hl, q⟩ := h
    refine ⟨_, (pss_cons (ps_set (i := 2) sc_law_mixed.nd rfl (by first | exact .inl rfl | exact .inr rfl) (pe_lst pa_nil))
      (pss_cons (ps_for PassesOwn.never rfl (pi_list (pv 1)) (pg_name (i := 3) sc_law_mixed.nd rfl (by first | exact .inl rfl | exact .inr rfl))
        (pss_one (ps_expr (pe_bm PySem.F.plainAttrs_list PySem.F.slot_list_insert PySem.F.type_list_insert mt_insert (pv 2) (pa_cons (pe_own C_law_take (hr.mono (by omega)) (by rfl) (pa_cons (pv 0) (pa_cons (pe_op op_add (pe_callB call_len_seq (by rfl) m_len (by decide +kernel) (pa_cons (pv 2) pa_nil)) pe_int) pa_nil))) (pa_cons (pv 3) pa_nil))))))
      (pss_one (ps_ret (pv 2))))), ?_⟩
    refine ⟨Nat.zero_le _, fun p np => ?_⟩
    have ap : a ≠ p := by
      obtain ⟨_, _, _, _, e, _⟩ := hs
      exact ne_of_none e np
    have rp : r ≠ p := ne_of_none hR np
    refine ⟨_, rfl, r, rfl, ⟨_, SqL.of (by rw [upd_ne rp]; exact hR)⟩, for_list (xs := xs) (fun i σ H1 => ∃ (y : Option V) (ys : List V), σ = [some (.ref a), some (.ref r), some (.ref p), y] ∧ ys.Perm (xs.take i) ∧ H1 p = some (.lst ys) ∧ Src H1 a L ns ∧ (∀ b, b ≠ a → b ≠ p → H1 b = H b)) ?_ ?_ ?_ ?_⟩
    · exact ⟨none, [], rfl, .nil, upd_same, hs.off np fun c hc => upd_ne hc, fun b _ hb => upd_ne hb⟩
    · rintro i σ H1 hi ⟨y, ys, rfl, pm, hp, hs1, off⟩
      exact SqL.of ((off r ra rp).trans hR)
    · rintro i x σ H1 hx ⟨y, ys, rfl, pm, hp, hs1, off⟩
      obtain ⟨hi, hxi⟩ := List.getElem?_eq_some_iff.mp hx
      have ly : ys.length = i := by
        rw [pm.length_eq, List.length_take]
        omega
      refine ⟨_, rfl, .inl ⟨rfl, _, SqL.of hp⟩, _, rfl, _, rfl, p, _, rfl, .inl (SqL.of hp), _, _, rfl, rfl, a, L, ns, _, rfl, hs1, by omega, by omega, fun H' d d0 d1 hs' off' => ?_⟩
      have hp' : H' p = some (.lst ys) := (off' p ap.symm).trans hp
      refine ⟨_, rfl, p, _, _, _, rfl, rfl, hp', small1000 (by omega), d0, by omega, ?_⟩
      refine ⟨_, _, rfl, ?_, upd_same, ?_, fun b ba bp => ?_⟩
      · rw [List.take_add_one, hx]
        refine List.Perm.trans ?_ (List.Perm.append_right _ pm)
        show (ys.take d.toNat ++ [x] ++ ys.drop d.toNat).Perm (ys ++ [x])
        refine List.Perm.trans (?_ : List.Perm _ (ys.take d.toNat ++ (ys.drop d.toNat ++ [x]))) ?_
        · rw [List.append_assoc]
          exact List.Perm.append_left _ List.perm_append_comm
        · rw [← List.append_assoc, List.take_append_drop]
      · obtain ⟨i', p', st, c, h1, h2, h3⟩ := hs'
        have Lp : L ≠ p := fun e => by
          obtain ⟨_, _, _, _, _, e2, _⟩ := hs
          rw [e, np] at e2
          cases e2
        exact ⟨i', p', st, c, by rw [upd_ne ap]; exact h1, by rw [upd_ne Lp]; exact h2, h3⟩
      · rw [upd_ne bp, off' b ba]
        exact off b ba bp
    · rintro σ H1 ⟨y, ys, rfl, pm, hp, hs1, off⟩
      rw [List.take_length] at pm
      exact ⟨_, rfl, q H1 p ys pm np hp hs1 off⟩
end
end Fv


/-! the law's sums of boards, its walk over a fault -/
namespace FvO
open PySem PySem.Spec PyProof.Rows L2 Fv FvW FvX TL FvB
-- top 46  slots: 0:_law_low_here 1:_law_rows_here 2:_law_high 3:_law_many 4:_law_found 5:_law_k 6:_law_row
abbrev s_law_summed : Stmt := topS 46
abbrev N_law_summed : List Str := ["_law_low_here", "_law_rows_here", "_law_high", "_law_many", "_law_found", "_law_k", "_law_row"]
theorem sc_law_summed : FnScope N_law_summed ["_law_low_here", "_law_rows_here", "_law_high"] (defScope s_law_summed) := ⟨rfl, rfl, rfl, by decide +kernel, rfl, by decide +kernel, by decide +kernel⟩

-- top 47  slots: 0:_law_rows_here 1:_law_fault 2:_law_kind 3:_law_five 4:_law_x 5:_law_least 6:_law_y 7:_law_z 8:_law_greatest 9:_law_pairs 10:_law_p 11:_law_q
abbrev s_law_fault_walked : Stmt := topS 47
abbrev N_law_fault_walked : List Str := ["_law_rows_here", "_law_fault", "_law_kind", "_law_five", "_law_x", "_law_least", "_law_y", "_law_z", "_law_greatest", "_law_pairs", "_law_p", "_law_q"]
theorem sc_law_fault_walked : FnScope N_law_fault_walked ["_law_rows_here", "_law_fault", "_law_kind"] (defScope s_law_fault_walked) := ⟨rfl, rfl, rfl, by decide +kernel, rfl, by decide +kernel, by decide +kernel⟩

def spSummed (K : PySem.W.Frag) : Sp := fun vs H Q _ => ∃ (L n h : Nat) (b : Nat → Nat → Bool) (r : Addr), vs = [.int (L : Nat), .ref r, .int (h : Nat)] ∧ SqL K H r ((rowsF n b).map V.str) ∧ L + (n + h) ≤ 60 ∧ ∀ (H' : Hp) (p : Addr), Same H H' → H p = none → H' p = some (.lst ((rowsF (L + (n + h)) (suB L n b)).map V.str)) → Q (.ref p) H'
def spFW (K : PySem.W.Frag) : Sp := fun vs H Q _ => ∃ (r : Addr) (v : V) (n : Nat) (b : Nat → Nat → Bool) (lo hi : Nat → Nat → Nat) (bt tp : Nat) (lad : Bool) (o x y z i : Nat), vs = [.ref r, v, .str (kS lad)] ∧ SqL K H r ((rowsF n b).map V.str) ∧ Brd n b lo hi bt tp ∧ faultV H v (kS lad) o x y z i ∧ (o < n ∧ x < n ∧ y < n ∧ z < n ∧ i < n) ∧ rgt n b lo hi lad o x y z i = true ∧ ∀ H', Same H H' → Q (.bl true) H'
section
variable {P : Program} {w : World} {K : PySem.W.Frag} {mg : Str → Option Value} {base : Heap} {C : Addr}
theorem ok_summed {f : Addr} {fd : FuncData} {k : Nat} (F : Fun K "_law_summed" "_law_summed" s_law_summed f fd) (m_len : mg "len" = none) (m_range : mg "range" = none) :
    FnOk P w K mg base CX0 (k + 1) f fd ["_law_low_here", "_law_rows_here", "_law_high"] (spSummed K) := by
  refine F.ok sc_law_summed (fun vs H Q E h => ?_) (fun cdv A outer s H vs Q E hr h => ?_)
  · obtain ⟨L, n, h, b, r, rfl, _⟩ := h
    rfl
  · obtain ⟨L, n, h, b, r, rfl, hr0, le, good⟩ := h
    refine ⟨_, (pss_cons (ps_set (i := 3) sc_law_summed.nd rfl (by first | exact .inl rfl | exact .inr rfl) (pe_op op_add (pe_op op_add (pv 0) (pe_callB call_len_seq (by rfl) m_len (by decide +kernel) (pa_cons (pv 1) pa_nil))) (pv 2)))
      (pss_cons (ps_setLc (i := 4) (own := [("_law_k", 5)]) (g := gName 5) (by rfl) sc_law_summed.nd rfl rfl (sw_true rfl rfl rfl (by decide +kernel)) (pi_range1 (by rfl) m_range (pa_cons (pv 0) pa_nil)) (blkOk_by (own := [("_law_k", 5)]) (N := N_law_summed) (sc := defScope s_law_summed) (by decide +kernel)) (fun _ _ _ _ _ => pg_name (i := 5) sc_law_summed.nd rfl (Or.inl rfl)) (fun _ _ _ _ _ => pts_nil) (fun _ _ _ _ _ => (pe_op op_catS (pe_op op_mulG pe_str (pv 5)) (pe_op op_mulG pe_str (pe_op op_sub (pv 3) (pv 5))))))
      (pss_cons (ps_set (i := 4) sc_law_summed.nd rfl (by first | exact .inl rfl | exact .inr rfl) (pe_op op_cat (pv 4) (pe_lc (own := [("_law_row", 6)]) (g := gName 6) (by rfl) sc_law_summed.nd (pi_list (pv 1)) (blkOk_by (own := [("_law_row", 6)]) (N := N_law_summed) (sc := defScope s_law_summed) (by decide +kernel)) (fun _ _ _ _ _ => pg_name (i := 6) sc_law_summed.nd rfl (Or.inl rfl)) (fun _ _ _ _ _ => pts_nil) (fun _ _ _ _ _ => (pe_op op_catS (pe_op op_catS (pe_op op_mulG pe_str (pv 0)) (pv 6)) (pe_op op_mulG pe_str (pv 2)))))))
      (pss_one (ps_ret (pe_op op_cat (pv 4) (pe_lc (own := [("_law_k", 5)]) (g := gName 5) (by rfl) sc_law_summed.nd (pi_range1 (by rfl) m_range (pa_cons (pv 2) pa_nil)) (blkOk_by (own := [("_law_k", 5)]) (N := N_law_summed) (sc := defScope s_law_summed) (by decide +kernel)) (fun _ _ _ _ _ => pg_name (i := 5) sc_law_summed.nd rfl (Or.inl rfl)) (fun _ _ _ _ _ => pts_nil) (fun _ _ _ _ _ => (pe_op op_catS (pe_op op_mulG pe_str (pe_op op_add (pe_op op_sub (pv 3) (pv 2)) (pv 5))) (pe_op op_mulG pe_str (pe_op op_sub (pv 2) (pv 5)))))))))))), ?_⟩
    have l1 : ∀ (k : Nat) (G : Nat → V), k ≤ 60 → ((List.range k).map G).length < sizeLine := fun k G hk => small1000 (by rw [List.length_map, List.length_range]; omega)
    refine ⟨_, rfl, _, rfl, r, _, rfl, .inl hr0, _, _, rfl, rfl, _, rfl, _, _, rfl, rfl, ?_⟩
    rw [rows_lenF]
    have em : ((L : Nat) : Int) + ((n : Nat) : Int) + ((h : Nat) : Int) = ((L + (n + h) : Nat) : Int) := by omega
    show gName 3 (V.int _) _ _ _
    rw [em]
    refine ⟨_, rfl, _, rfl, by omega, by omega, fun D nD => lc_range (lo := 0) (n := ((L : Nat) : Int).toNat) (fun j H' => Same H H' ∧ H' D = some (.lst ((List.range j).map fun k => V.str (rowF (L + (n + h)) (suB L n b k))))) ?_ ?_ ?_⟩
    · exact ⟨same_upd nD, upd_same⟩
    · rintro j H' hj ⟨sm, hD⟩
      rw [Int.toNat_natCast] at hj
      have ej : (0 : Int) + (j : Nat) = ((j : Nat) : Int) := by omega
      rw [ej]
      have en : ((L + (n + h) : Nat) : Int) - ((j : Nat) : Int) = ((L + (n + h) - j : Nat) : Int) := by omega
      refine ⟨rfl, yes_it ⟨_, rfl, _, j, rfl, rfl, by omega, by decide, by decide, _, rfl, _, rfl, _, _, rfl, rfl, _, L + (n + h) - j, rfl, congrArg V.int en, by omega, by decide, by decide, _, _, rfl, rfl, ?_, ?_⟩⟩
      · rw [mul_len 48 "0" rfl, mul_len 49 "1" rfl, sizeLine_eq]; omega
      · rw [su_lo (by omega)]
        refine ⟨_, hD, l1 _ _ (by omega), fun c o e => ?_, ?_⟩
        · rw [upd_ne (ne_of_none e nD)]; exact sm _ _ e
        · rw [upd_same, List.range_succ, List.map_append]; rfl
    rintro H1 ⟨s1, hD⟩
    rw [Int.toNat_natCast] at hD
    -- the board between
    refine ⟨_, rfl, _, rfl, r, rfl, ⟨_, s1.seq hr0⟩, fun D2 nD2 => lc_list (xs := (rowsF n b).map V.str) (fun j H' => Same H1 H' ∧ H' D2 = some (.lst ((List.range j).map fun x => V.str (rowF (L + (n + h)) (suB L n b (L + x)))))) ?_ ?_ ?_ ?_⟩
    · exact ⟨same_upd nD2, upd_same⟩
    · rintro j H' _ ⟨sm, _⟩
      exact (s1.trans sm).seq hr0
    · rintro j x H' hx ⟨sm, hD2⟩
      obtain ⟨jn, rfl⟩ : j < n ∧ x = V.str (rowF n (b j)) := by
        unfold rowsF at hx
        rw [List.map_map, List.getElem?_map] at hx
        rcases Nat.lt_or_ge j n with c | c
        · rw [List.getElem?_range c] at hx
          exact ⟨c, (Option.some.inj hx).symm⟩
        · rw [List.getElem?_eq_none (by rw [List.length_range]; exact c)] at hx
          cases hx
      refine ⟨rfl, yes_it ⟨_, rfl, _, L, rfl, rfl, by omega, by decide, by decide, _, rfl, _, _, rfl, rfl, ?_, _, rfl, _, h, rfl, rfl, by omega, by decide, by decide, _, _, rfl, rfl, ?_, ?_⟩⟩
      · rw [mul_len 48 "0" rfl, rowF_len, sizeLine_eq]; omega
      · rw [app_len, mul_len 48 "0" rfl, mul_len 49 "1" rfl, rowF_len, sizeLine_eq]; omega
      · rw [su_in jn]
        refine ⟨_, hD2, l1 _ _ (by omega), fun c o e => ?_, ?_⟩
        · rw [upd_ne (ne_of_none e nD2)]; exact sm _ _ e
        · rw [upd_same, List.range_succ, List.map_append]; rfl
    rintro H2 ⟨s2, hD2⟩
    rw [rows_lenF] at hD2
    refine ⟨D, D2, _, _, rfl, rfl, s2 _ _ hD, hD2, (by rw [List.length_map, List.length_map, List.length_range, List.length_range, sizeLine_eq]; omega), fun D3 nD3 => ?_⟩
    have s3 := same_upd (o := .lst (((List.range L).map fun k => V.str (rowF (L + (n + h)) (suB L n b k))) ++ (List.range n).map fun x => V.str (rowF (L + (n + h)) (suB L n b (L + x))))) nD3
    have hD3 : upd H2 D3 (.lst (((List.range L).map fun k => V.str (rowF (L + (n + h)) (suB L n b k))) ++ (List.range n).map fun x => V.str (rowF (L + (n + h)) (suB L n b (L + x))))) D3 = _ := upd_same
    generalize upd H2 D3 (.lst (((List.range L).map fun k => V.str (rowF (L + (n + h)) (suB L n b k))) ++ (List.range n).map fun x => V.str (rowF (L + (n + h)) (suB L n b (L + x))))) = H3 at s3 hD3
    have s13 := s1.trans (s2.trans s3)
    -- the chain above
    refine ⟨_, rfl, _, rfl, _, rfl, by omega, by omega, fun D4 nD4 => lc_range (lo := 0) (n := ((h : Nat) : Int).toNat) (fun j H' => Same H3 H' ∧ H' D4 = some (.lst ((List.range j).map fun k => V.str (rowF (L + (n + h)) (suB L n b (L + (n + k))))))) ?_ ?_ ?_⟩
    · exact ⟨same_upd nD4, upd_same⟩
    · rintro j H' hj ⟨sm, hD4⟩
      rw [Int.toNat_natCast] at hj
      have ej : (0 : Int) + (j : Nat) = ((j : Nat) : Int) := by omega
      rw [ej]
      have e1 : ((L + (n + h) : Nat) : Int) - ((h : Nat) : Int) + ((j : Nat) : Int) = ((L + (n + j) : Nat) : Int) := by omega
      have e2 : ((h : Nat) : Int) - ((j : Nat) : Int) = ((h - j : Nat) : Int) := by omega
      refine ⟨rfl, yes_it ⟨_, rfl, _, rfl, _, _, rfl, rfl, _, rfl, _, _, rfl, rfl, _, L + (n + j), rfl, congrArg V.int e1, by omega, by decide, by decide, _, rfl, _, rfl, _, _, rfl, rfl, _, h - j, rfl, congrArg V.int e2, by omega, by decide, by decide, _, _, rfl, rfl, ?_, ?_⟩⟩
      · rw [mul_len 48 "0" rfl, mul_len 49 "1" rfl, sizeLine_eq]; omega
      · rw [su_hi hj]
        refine ⟨_, hD4, l1 _ _ (by omega), fun c o e => ?_, ?_⟩
        · rw [upd_ne (ne_of_none e nD4)]; exact sm _ _ e
        · rw [upd_same, List.range_succ, List.map_append]; rfl
    rintro H4 ⟨s4, hD4⟩
    rw [Int.toNat_natCast] at hD4
    refine ⟨D3, D4, _, _, rfl, rfl, s4 _ _ hD3, hD4, (by rw [List.length_append, List.length_map, List.length_map, List.length_map, List.length_range, List.length_range, List.length_range, sizeLine_eq]; omega), fun D5 nD5 => ?_⟩
    have ss := s13.trans s4
    refine good _ D5 (ss.trans (same_upd nD5)) (none_backO ss nD5) ?_
    rw [upd_same, su_rows, List.map_append, List.map_append, List.map_map, List.map_map, List.map_map]
    rfl
theorem ok_walked {f : Addr} {fd : FuncData} {k : Nat} (F : Fun K "_law_fault_walked" "_law_fault_walked" s_law_fault_walked f fd) (hk : 1 ≤ k) (m_isinstance : mg "isinstance" = none) (m_tuple : mg "tuple" = none) (m_len : mg "len" = none) (m_all : mg "all" = none) (m_int : mg "int" = none) (m_set : mg "set" = none)
    (C_law_index : Own P w K mg base 1 "_law_index" ["_law_one", "_law_at"] (spIxF K)) (C_law_low : Own P w K mg base 1 "_law_low" ["_law_rows_here", "_law_x", "_law_y"] (spLowB K false)) (C_law_up : Own P w K mg base 1 "_law_up" ["_law_rows_here", "_law_x", "_law_y"] (spLowB K true)) :
    FnOk P w K mg base CX0 (k + 1) f fd ["_law_rows_here", "_law_fault", "_law_kind"] (spFW K) := by
  refine F.ok sc_law_fault_walked (fun vs H Q E h => ?_) (fun cdv A outer s H vs Q E hr h => ?_)
  · obtain ⟨r, v, n, b, lo, hi, bt, tp, lad, o, x, y, z, i, rfl, _⟩ := h
    rfl
  · obtain ⟨r, v, n, b, lo, hi, bt, tp, lad, o, x, y, z, i, rfl, hr0, B, hv, lt, rg, good⟩ := h
    refine ⟨_, (pss_cons (ps_if (PW.pt (pw_or (pt_not (pt_val (pe_isD (T := "tuple") (by rfl) m_isinstance (by rfl) m_tuple (pv 1)))) (pw_or (pt_cmpR op_ne (pe_callB call_len_seq (by rfl) m_len (by decide +kernel) (pa_cons (pv 1) pa_nil)) pe_int (nomark _)) (pw_or (pt_cmpR op_ne (pe_ix ix_tup (pv 1) pe_int (fun _ _ => rfl)) (pv 2) (nomark _)) (pw_or1 (pt_not (pt_val (pe_isD (T := "tuple") (by rfl) m_isinstance (by rfl) m_tuple (pe_ix ix_tup (pv 1) pe_int (fun _ _ => rfl))))))))))
        (pss_one (ps_ret pe_bl))
        pss_nil)
      (pss_cons (ps_set (i := 3) sc_law_fault_walked.nd rfl (by first | exact .inl rfl | exact .inr rfl) (pe_ix ix_tup (pv 1) pe_int (fun _ _ => rfl)))
      (pss_cons (ps_if (PW.pt (pw_or (pt_cmpR op_ne (pe_callB call_len_seq (by rfl) m_len (by decide +kernel) (pa_cons (pv 3) pa_nil)) pe_int (nomark _)) (pw_or (pt_not (pt_val (pe_callB (cr_all rfl) (by rfl) m_all (by decide +kernel) (pa_cons (pe_lc (own := [("_law_x", 4)]) (g := gName 4) (by rfl) sc_law_fault_walked.nd (pi_tup (pv 3)) (blkOk_by (own := [("_law_x", 4)]) (N := N_law_fault_walked) (sc := defScope s_law_fault_walked) (by decide +kernel)) (fun _ _ _ _ _ => pg_name (i := 4) sc_law_fault_walked.nd rfl (Or.inl rfl)) (fun _ _ _ _ _ => pts_nil) (fun _ _ _ _ _ => (pe_own C_law_index (hr.mono (by omega)) (by rfl) (pa_cons (pv 4) (pa_cons (pe_callB (call_len_seqK (K := K) rfl) (by rfl) m_len (by decide +kernel) (pa_cons (pv 0) pa_nil)) pa_nil))))) pa_nil)))) (pw_or1 (pt_cmpR op_lt (pe_lenSetT rfl (by rfl) m_len (by rfl) m_set (pv 3)) pe_int (nomark _))))))
        (pss_one (ps_ret pe_bl))
        pss_nil)
      (pss_cons (ps_asg (pv 3) (pg_tup rfl (pgs_cons (pg_name (i := 5) sc_law_fault_walked.nd rfl (by first | exact .inl rfl | exact .inr rfl)) (pgs_cons (pg_name (i := 4) sc_law_fault_walked.nd rfl (by first | exact .inl rfl | exact .inr rfl)) (pgs_cons (pg_name (i := 6) sc_law_fault_walked.nd rfl (by first | exact .inl rfl | exact .inr rfl)) (pgs_cons (pg_name (i := 7) sc_law_fault_walked.nd rfl (by first | exact .inl rfl | exact .inr rfl)) (pgs_cons (pg_name (i := 8) sc_law_fault_walked.nd rfl (by first | exact .inl rfl | exact .inr rfl)) pgs_nil)))))))
      (pss_cons (ps_set (i := 9) sc_law_fault_walked.nd rfl (by first | exact .inl rfl | exact .inr rfl) (pe_op op_cat (pe_lst (pa_cons (pe_tup (pa_cons (pv 4) (pa_cons (pv 7) pa_nil))) (pa_cons (pe_tup (pa_cons (pv 6) (pa_cons (pv 7) pa_nil))) pa_nil))) (pe_op op_rep (pe_lst (pa_cons (pe_tup (pa_cons (pv 4) (pa_cons (pv 6) pa_nil))) pa_nil)) (pe_callTy call_int1 (by rfl) m_int (by decide +kernel) (pa_cons (pe_cmpR op_eq (pv 2) pe_str (nomark _)) pa_nil)))))
      (C8.pss_cut (ps_if (PW.pt (pw_and (pt_cmpR op_eq (pv 2) pe_str (nomark _)) (pw_and1 (pt_cmpR op_ne (pe_ix ix_str (pe_ix (ix_listK (K := K) rfl) (pv 0) (pv 4) (fun _ _ => rfl)) (pv 6) (fun _ _ => rfl)) pe_str (nomark _)))))
        (pss_one (ps_ret pe_bl))
        pss_nil)
      (pss_one (ps_ret (pe_callB (cr_all rfl) (by rfl) m_all (by decide +kernel) (pa_cons (pe_lc (own := [("_law_p", 10), ("_law_q", 11)]) (g := gTup K 2 (gCons (gName 10) (gCons (gName 11) gNil))) (by rfl) sc_law_fault_walked.nd (pi_list (pv 9)) (blkOk_by (own := [("_law_p", 10), ("_law_q", 11)]) (N := N_law_fault_walked) (sc := defScope s_law_fault_walked) (by decide +kernel)) (fun _ _ _ _ _ => (pg_tup rfl (pgs_cons (pg_name (i := 10) sc_law_fault_walked.nd rfl (Or.inl rfl) (hf := Or.inr rfl)) (pgs_cons (pg_name (i := 11) sc_law_fault_walked.nd rfl (Or.inl rfl) (hf := Or.inr rfl)) pgs_nil)))) (fun _ _ _ _ _ => pts_nil) (fun _ _ _ _ _ => (pe_and (pe_cmpR op_eq (pe_own C_law_low (hr.mono (by omega)) (by rfl) (pa_cons (pv 0) (pa_cons (pv 10) (pa_cons (pv 11) pa_nil)))) (pv 5) (nomark _)) (pe_one (pe_cmpR op_eq (pe_own C_law_up (hr.mono (by omega)) (by rfl) (pa_cons (pv 0) (pa_cons (pv 10) (pa_cons (pv 11) pa_nil)))) (pv 8) (nomark _)))))) pa_nil)))))))))), ?_⟩
    have dv := flt_dp (K := K) hv
    obtain ⟨p, p2, rfl, hp, hp2⟩ := hv
    obtain ⟨ho, hx, hy, hz, hii⟩ := lt
    have nd : [o, x, y, z, i].Nodup := by
      unfold rgt at rg
      rw [Bool.and_eq_true] at rg
      exact of_decide_eq_true rg.1
    have hb : (!lad || b x y) = true := by
      unfold rgt at rg
      rw [Bool.and_eq_true, Bool.and_eq_true] at rg
      exact rg.2.1
    have hall : ([(x, z), (y, z)] ++ if lad = true then [] else [(x, y)]).all (fun p => decide (lo p.1 p.2 = o) && decide (hi p.1 p.2 = i)) = true := by
      unfold rgt at rg
      rw [Bool.and_eq_true, Bool.and_eq_true] at rg
      exact rg.2.2
    have ef : decide (V.str (kS lad) = V.str "fan") = !lad := by cases lad <;> decide +kernel
    have el : decide (V.str (kS lad) = V.str "ladder") = lad := by cases lad <;> decide +kernel
    have ee : (!decide (V.str (kS lad) = V.str (kS lad))) = false := by rw [decide_eq_true rfl]; rfl
    have sp := SqT.of (K := K) hp
    have sp2 := SqT.of (K := K) hp2
    have d2 : Dp K H (.ref p2) (.tuple [.int (o : Nat), .int (x : Nat), .int (y : Nat), .int (z : Nat), .int (i : Nat)]) := .tup sp2 (.cons (.int _) (.cons (.int _) (.cons (.int _) (.cons (.int _) (.cons (.int _) .nil)))))
    refine ⟨_, rfl, _, _, _, rfl, by decide, dv, _, rfl, iteF ?_⟩
    refine ⟨_, rfl, p, _, rfl, .inr sp, rfl, _, rfl, iteF ?_⟩
    refine ⟨_, rfl, p, _, _, _, rfl, rfl, sp, at0, _, rfl, rfl, _, rfl, ?_⟩
    rw [ee]
    refine iteF ⟨_, rfl, p, _, _, _, rfl, rfl, sp, atI_nat (j := 1) rfl, _, _, _, rfl, by decide, d2, _, rfl, iteF ?_⟩
    refine ⟨_, rfl, p, _, _, _, rfl, rfl, sp, atI_nat (j := 1) rfl, ?_⟩
    refine ⟨_, rfl, p2, _, rfl, .inr sp2, rfl, _, rfl, iteF ?_⟩
    refine ⟨_, rfl, p2, rfl, ⟨_, sp2⟩, fun D nD => lc_tup (xs := five o x y z i) (fun j H' => Same H H' ∧ H' D = some (.lst (List.replicate j (V.bl true)))) ?_ ?_ ?_ ?_⟩
    · exact ⟨same_upd nD, upd_same⟩
    · rintro j H' _ ⟨sm, _⟩
      exact same_seqT sm sp2
    · rintro j v H' hv ⟨sm, hD⟩
      have j5 : j < 5 := (List.getElem?_eq_some_iff.mp hv).1
      obtain ⟨u, un, rfl⟩ : ∃ u : Nat, u < n ∧ v = .int (u : Nat) := by
        match j, hv with
        | 0, hv => cases hv; exact ⟨o, ho, rfl⟩
        | 1, hv => cases hv; exact ⟨x, hx, rfl⟩
        | 2, hv => cases hv; exact ⟨y, hy, rfl⟩
        | 3, hv => cases hv; exact ⟨z, hz, rfl⟩
        | 4, hv => cases hv; exact ⟨i, hii, rfl⟩
      refine ⟨rfl, yes_it ⟨_, rfl, _, rfl, r, _, rfl, .inl (sm.seq hr0), _, _, _, rfl, .int _, fun H3 s3 => ?_⟩⟩
      rw [rows_lenF, ix_nat un]
      refine ⟨_, s3 _ _ hD, small1000 (by rw [List.length_replicate]; omega), fun c o e => ?_, ?_⟩
      · rw [upd_ne (ne_of_none e nD)]; exact s3 _ _ (sm _ _ e)
      · rw [upd_same, List.replicate_succ']
    rintro H3 ⟨s3, hD⟩
    have hD : H3 D = some (.lst ([true, true, true, true, true].map V.bl)) := hD
    refine ⟨D, _, rfl, SqL.of hD, _, rfl, iteF ?_⟩
    refine ⟨_, rfl, p2, [(o : Int), (x : Int), (y : Int), (z : Int), (i : Int)], rfl, same_seqT s3 sp2, by show 5 ≤ 60; decide, fun c cl ce => ⟨_, _, rfl, rfl, _, rfl, ?_⟩⟩
    have nn : [(o : Int), (x : Int), (y : Int), (z : Int), (i : Int)].Nodup ↔ [o, x, y, z, i].Nodup := by
      simp only [List.nodup_cons, List.mem_cons, List.not_mem_nil, or_false, not_or, List.nodup_nil, not_false_eq_true, and_true]
      omega
    have c5 : c = 5 := ce.mpr (nn.mpr nd)
    rw [decide_eq_false (by omega)]
    refine iteF ?_
    refine ⟨_, rfl, p2, _, rfl, same_seqT s3 sp2, rfl, _, _, rfl, _, _, rfl, _, _, rfl, _, _, rfl, _, [], rfl, rfl, ?_⟩
    have hs3 := same_seqT s3 sp2
    refine ⟨_, rfl, _, rfl, (by show 2 ≤ sizeLine; decide), fun t1 nt1 => ?_⟩
    have s1 := same_upd (o := .tup [V.int (x : Nat), V.int (z : Nat)]) nt1
    have h1 : upd H3 t1 (.tup [V.int (x : Nat), V.int (z : Nat)]) t1 = _ := upd_same
    generalize upd H3 t1 (.tup [V.int (x : Nat), V.int (z : Nat)]) = G1 at s1 h1
    refine ⟨_, rfl, _, rfl, (by show 2 ≤ sizeLine; decide), fun t2 nt2 => ?_⟩
    have s2 := same_upd (o := .tup [V.int (y : Nat), V.int (z : Nat)]) nt2
    have h2 : upd G1 t2 (.tup [V.int (y : Nat), V.int (z : Nat)]) t2 = _ := upd_same
    generalize upd G1 t2 (.tup [V.int (y : Nat), V.int (z : Nat)]) = G2 at s2 h2
    refine ⟨(by show 2 ≤ sizeLine; decide), fun L1 nL1 => ?_⟩
    have s3' := same_upd (o := .lst [V.ref t1, V.ref t2]) nL1
    have hL1 : upd G2 L1 (.lst [V.ref t1, V.ref t2]) L1 = _ := upd_same
    generalize upd G2 L1 (.lst [V.ref t1, V.ref t2]) = G3 at s3' hL1
    refine ⟨_, rfl, _, rfl, (by show 2 ≤ sizeLine; decide), fun t3 nt3 => ?_⟩
    have s4 := same_upd (o := .tup [V.int (x : Nat), V.int (y : Nat)]) nt3
    have h3 : upd G3 t3 (.tup [V.int (x : Nat), V.int (y : Nat)]) t3 = _ := upd_same
    generalize upd G3 t3 (.tup [V.int (x : Nat), V.int (y : Nat)]) = G4 at s4 h3
    refine ⟨(by show 1 ≤ sizeLine; decide), fun L2 nL2 => ?_⟩
    have s5 := same_upd (o := .lst [V.ref t3]) nL2
    have hL2 : upd G4 L2 (.lst [V.ref t3]) L2 = _ := upd_same
    generalize upd G4 L2 (.lst [V.ref t3]) = G5 at s5 hL2
    have s35 := s1.trans (s2.trans (s3'.trans (s4.trans s5)))
    refine ⟨_, rfl, rfl, .inr ⟨_, rfl, ?_⟩⟩
    rw [ef]
    refine ⟨L2, _, _, rfl, rfl, hL2, by cases lad <;> decide, by cases lad <;> decide, (by
      cases lad
      · show 1 ≤ sizeLine; decide
      · show 0 ≤ sizeLine; decide), fun L3 nL3 => ?_⟩
    have s6 := same_upd (o := .lst (List.replicate (if (!lad) = true then (1 : Int) else 0).toNat [V.ref t3]).flatten) nL3
    have hL3 : upd G5 L3 (.lst (List.replicate (if (!lad) = true then (1 : Int) else 0).toNat [V.ref t3]).flatten) L3 = _ := upd_same
    generalize upd G5 L3 (.lst (List.replicate (if (!lad) = true then (1 : Int) else 0).toNat [V.ref t3]).flatten) = G6 at s6 hL3
    refine ⟨L1, L3, _, _, rfl, rfl, s6 _ _ (s5 _ _ (s4 _ _ hL1)), hL3, (by
      cases lad
      · show 3 ≤ sizeLine; decide
      · show 2 ≤ sizeLine; decide), fun L4 nL4 => ?_⟩
    have s7 := same_upd (o := .lst ([V.ref t1, V.ref t2] ++ (List.replicate (if (!lad) = true then (1 : Int) else 0).toNat [V.ref t3]).flatten)) nL4
    have h4 : upd G6 L4 (.lst ([V.ref t1, V.ref t2] ++ (List.replicate (if (!lad) = true then (1 : Int) else 0).toNat [V.ref t3]).flatten)) L4 = _ := upd_same
    generalize upd G6 L4 (.lst ([V.ref t1, V.ref t2] ++ (List.replicate (if (!lad) = true then (1 : Int) else 0).toNat [V.ref t3]).flatten)) = H5 at s7 h4
    have h1 := (s2.trans (s3'.trans (s4.trans (s5.trans (s6.trans s7))))) _ _ h1
    have h2 := (s3'.trans (s4.trans (s5.trans (s6.trans s7)))) _ _ h2
    have h3 := (s5.trans (s6.trans s7)) _ _ h3
    have e4 : [V.ref t1, V.ref t2] ++ (List.replicate (if (!lad) = true then (1 : Int) else 0).toNat [V.ref t3]).flatten = ([t1, t2] ++ if lad = true then [] else [t3]).map V.ref := by cases lad <;> rfl
    rw [e4] at h4
    have s37 := s35.trans (s6.trans s7)
    have hpr : ∀ (j : Nat) (a : Addr), ([t1, t2] ++ if lad = true then [] else [t3])[j]? = some a → ∃ pq : Nat × Nat, ([(x, z), (y, z)] ++ if lad = true then [] else [(x, y)])[j]? = some pq ∧ pq.1 < n ∧ pq.2 < n ∧ H5 a = some (.tup [V.int (pq.1 : Nat), V.int (pq.2 : Nat)]) := fun j a hj => by
      match j, hj with
      | 0, hj => cases hj; exact ⟨(x, z), rfl, hx, hz, h1⟩
      | 1, hj => cases hj; exact ⟨(y, z), rfl, hy, hz, h2⟩
      | 2, hj =>
        cases lad with
        | true => cases hj
        | false => cases hj; exact ⟨(x, y), rfl, hx, hy, h3⟩
      | j + 3, hj => cases lad <;> cases hj
    have s05 := s3.trans s37
    clear s1 s2 s3' s4 s5 s6 s7 s35 h1 h2 h3 nt1 nt2 nt3 nL1 nL2 nL3 nL4 dv d2 hD
    refine ⟨fun σ' H' => ∃ y10 y11 : Option V, σ' = [some (.ref r), some (.ref p), some (.str (kS lad)), some (.ref p2), some (.int (x : Nat)), some (.int (o : Nat)), some (.int (y : Nat)), some (.int (z : Nat)), some (.int (i : Nat)), some (.ref L4), y10, y11] ∧ H' = H5, ?_, ?_⟩
    · refine ⟨_, rfl, rfl, _, rfl, ?_⟩
      rw [el]
      cases lad with
      | false => exact iteF (iteF ⟨_, _, rfl, rfl⟩)
      | true =>
        obtain ⟨a1, a2, a3⟩ := row_ixB (b := b) hx hy B.n60
        refine iteT ⟨_, rfl, _, rfl, r, _, _, _, rfl, rfl, s05.seq hr0, a1, _, rfl, _, _, _, rfl, rfl, a2, a3, rfl, _, rfl, ?_⟩
        rw [one_dec]
        have hb : b x y = true := hb
        rw [hb]
        exact iteF ⟨_, _, rfl, rfl⟩
    rintro _ H6 ⟨y10, y11, rfl, eH⟩
    rw [eH]
    clear eH
    generalize lpe : ([(x, z), (y, z)] ++ if lad = true then [] else [(x, y)]) = pl at hall hpr
    have h4' := h4
    have lpl : ([t1, t2] ++ if lad = true then [] else [t3]).length ≤ 3 := by cases lad <;> simp
    have lpp : ([t1, t2] ++ if lad = true then [] else [t3]).length = pl.length := by rw [← lpe]; cases lad <;> rfl
    clear h4
    generalize ([t1, t2] ++ if lad = true then [] else [t3]) = as at h4' hpr lpl lpp
    refine ⟨_, rfl, L4, rfl, ⟨_, SqL.of h4'⟩, fun D nD => lc_list (xs := as.map V.ref) (fun j H' => Same H5 H' ∧ H' D = some (.lst (List.replicate j (V.bl true)))) ?_ ?_ ?_ ?_⟩
    · exact ⟨same_upd nD, upd_same⟩
    · rintro j H' _ ⟨sm, _⟩
      exact SqL.of (sm _ _ h4')
    · rintro j v H' hv ⟨sm, hD⟩
      obtain ⟨a, ha, rfl⟩ : ∃ a, as[j]? = some a ∧ V.ref a = v := by
        rw [List.getElem?_map] at hv
        cases e : as[j]? with
        | none => rw [e] at hv; cases hv
        | some a => rw [e] at hv; exact ⟨a, rfl, Option.some.inj hv⟩
      have j3 : j < 3 := Nat.lt_of_lt_of_le (List.getElem?_eq_some_iff.mp ha).1 lpl
      obtain ⟨pq, hpq, p1, q1, hat⟩ := hpr j a ha
      have both := List.all_eq_true.mp hall pq (List.mem_of_getElem? hpq)
      rw [Bool.and_eq_true] at both
      have b1 := of_decide_eq_true both.1
      have b2 := of_decide_eq_true both.2
      refine ⟨a, [_, _], rfl, .inl (.inl (sm _ _ hat)), rfl, _, [_], rfl, _, [], rfl, rfl, rfl, yes_it ?_⟩
      refine ⟨_, rfl, _, rfl, _, rfl, r, n, b, lo, hi, bt, tp, pq.1, pq.2, rfl, (s05.trans sm).seq hr0, B, p1, q1, fun H7 s7 => ?_⟩
      refine ⟨_, rfl, rfl, _, rfl, ?_⟩
      rw [if_neg (show ¬ (false = true) by decide), b1, decide_eq_true rfl]
      refine iteT ⟨_, rfl, _, rfl, _, rfl, r, n, b, lo, hi, bt, tp, pq.1, pq.2, rfl, (s05.trans (sm.trans s7)).seq hr0, B, p1, q1, fun H8 s8 => ?_⟩
      refine ⟨_, rfl, rfl, ?_⟩
      rw [if_pos (show true = true from rfl), b2, decide_eq_true rfl]
      refine ⟨_, s8 _ _ (s7 _ _ hD), small1000 (by rw [List.length_replicate]; omega), fun c o e => ?_, ?_⟩
      · rw [upd_ne (ne_of_none e nD)]; exact s8 _ _ (s7 _ _ (sm _ _ e))
      · rw [upd_same, List.replicate_succ']
    rintro H7 ⟨s7, hD⟩
    refine ⟨D, List.replicate as.length true, rfl, SqL.of ?_, ?_⟩
    · rw [hD, List.length_map, List.map_replicate]
    rw [show (List.replicate as.length true).all id = true from by rw [List.all_eq_true]; exact fun u hu => by rw [List.eq_of_mem_replicate hu]; rfl]
    exact good _ (s05.trans s7)
end
end FvO


namespace FvO
open PySem PySem.Spec PyProof.Rows L2 Fv FvW FvX TL
open ClX (CRead CVal pe_cval)
-- top 48  slots: 0:_law_script 1:_law_source_here 2:_law_way 3:_law_inner 4:_law_many 5:_law_low_here 6:_law_rows_here 7:_law_found 8:_law_fault 9:_law_late 10:_law_row 11:_law_x 12:_law_wide
abbrev s_law : Stmt := topS 48
abbrev N_law : List Str := ["_law_script", "_law_source_here", "_law_way", "_law_inner", "_law_many", "_law_low_here", "_law_rows_here", "_law_found", "_law_fault", "_law_late", "_law_row", "_law_x", "_law_wide"]
theorem sc_law : FnScope N_law ["_law_script"] (defScope s_law) := ⟨rfl, rfl, rfl, by decide +kernel, rfl, by decide +kernel, by decide +kernel⟩

def spLaw (K : PySem.W.Frag) : Sp := fun vs H Q _ => ∃ (a : Addr) (ns : List Int), vs = [.ref a] ∧ SqL K H a (ns.map V.int) ∧ ns.length ≤ 63 ∧ ∀ H', Q (.bl true) H'
theorem okI_pos {a z i : Int} (h : a ≤ i ∧ i ≤ z) : okI a z i = some i.toNat := if_pos h
@[irreducible] def spIFI (K : PySem.W.Frag) (C : Addr) : Sp := spIF K C
theorem spIFI_eq {K : PySem.W.Frag} {C : Addr} : spIFI K C = spIF K C := by unfold spIFI; rfl
theorem if_use {K : PySem.W.Frag} {C c : Addr} {v : V} {d : PyData} {L : BL} {n : Nat} {b : Nat → Nat → Bool} {lo hi : Nat → Nat → Nat} {bt tp : Nat} {H : Hp} {Q : VK} {E : XK} {vs : List V} (ev : vs = [.ref c, v]) (hB : BAt K C H c L n b lo hi) (B : Brd n b lo hi bt tp) (eb : L.bt = bt) (et : L.tp = tp) (hd : Dp K H v d) (fo : FltOk d) (q : ∀ H', Same H H' → Q (.bl (frB n b lo hi d)) H') : spIFI K C vs H Q E := by
  rw [spIFI_eq]
  exact ⟨c, v, d, L, n, b, lo, hi, bt, tp, ev, hB, B, eb, et, hd, fo, q⟩
def inn (t : Int) : List Nat := if t = 0 then [0, 1, 2, 4, 7] else if t = 1 then [0, 1, 3, 4, 7] else [0, 1, 2, 3]
theorem fam_c : Fam [0, 1, 2, 3] := ⟨by decide, by decide, ⟨3, by decide, by decide⟩, by decide⟩
theorem inn_fam (t : Int) : Fam (inn t) := by
  unfold inn
  split
  · exact fam_a
  · split
    · exact fam_b
    · exact fam_c
theorem inn_len (t : Int) : 4 ≤ (inn t).length ∧ (inn t).length ≤ 5 := by
  unfold inn
  split
  · decide
  · split <;> decide
/-- x is not True, x a truth value -/
theorem op_isntB {X : Cx} : OpR X (compareOp .IsNot) (fun x y H Q => ∃ a b : Bool, x = .bl a ∧ y = .bl b ∧ Q (.bl (!(decide (a = b)))) H) := by
  intro pins s σ H x y v u Q I rx ry h
  obtain ⟨a, b, rfl, rfl, q⟩ := h
  cases (show u = Value.bool b from ry)
  cases (show v = Value.bool a from rx)
  by_cases e : a = b
  · subst e
    exact wpAny_isNot_self rfl ⟨.bl false, H, I, rfl, by simpa using q⟩
  · exact wpAny_isNot_other rfl (fun z => e (Value.bool.inj z)) ⟨.bl true, H, I, rfl, by simpa [e] using q⟩
/-- what the way drawn says of a board -/
def WayB (t : Int) (n : Nat) (b : Nat → Nat → Bool) (lo hi : Nat → Nat → Nat) : Prop :=
  (t = 0 ∧ ModB n b lo hi ∧ ¬ SprB n lo hi) ∨ (t = 1 ∧ ∃ x y z, LadB n b lo hi x y z) ∨ (t = 2 ∧ SprB n lo hi)
theorem inn_way {t : Int} {ms : List Nat} (t0 : 0 ≤ t) (t3 : t < 3) (p : ms.Perm (inn t)) : WayB t ms.length (leI ms) (lowI ms) (upI ms) := by
  have F := (inn_fam t).perm p
  by_cases c0 : t = 0
  · subst c0; exact .inl ⟨rfl, inner_fan F p⟩
  by_cases c1 : t = 1
  · subst c1; exact .inr (.inl ⟨rfl, inner_lad F p⟩)
  obtain rfl : t = 2 := by omega
  exact .inr (.inr ⟨rfl, inner_four F p⟩)
theorem su_way {t : Int} {L n h : Nat} {b : Nat → Nat → Bool} {lo hi : Nat → Nat → Nat} {bt tp : Nat} (B : Brd n b lo hi bt tp) (le : L + (n + h) ≤ 60) (w : WayB t n b lo hi) : WayB t (L + (n + h)) (suB L n b) (suL L n lo) (suH L n hi) := by
  rcases w with ⟨e, M, S⟩ | ⟨e, g⟩ | ⟨e, S⟩
  · exact .inl ⟨e, su_mod B le M, fun z => S ((su_spr B le).mp z)⟩
  · exact .inr (.inl ⟨e, su_lad g⟩)
  · exact .inr (.inr ⟨e, (su_spr B le).mpr S⟩)
theorem WayB.spr {t : Int} {n : Nat} {b : Nat → Nat → Bool} {lo hi : Nat → Nat → Nat} {bt tp : Nat} (B : Brd n b lo hi bt tp) (w : WayB t n b lo hi) : SprB n lo hi ↔ t = 2 := by
  rcases w with ⟨e, M, S⟩ | ⟨e, x, y, z, g⟩ | ⟨e, S⟩
  · exact ⟨fun z => absurd z S, fun z => by omega⟩
  · exact ⟨fun S => (spr_nolad B S g).elim, fun z => by omega⟩
  · exact ⟨fun _ => e, fun _ => S⟩
/-- what a law holds -/
structure W73 (K : PySem.W.Frag) (C : Addr) (a Ls : Addr) (ns : List Int) (r c : Addr) (L : BL) (n : Nat) (b : Nat → Nat → Bool) (lo hi : Nat → Nat → Nat) (H : Hp) : Prop where
  src : Src H a Ls ns
  rw_ : hide [a] H r = some (.lst ((rowsF n b).map V.str))
  bd : BAt K C (hide [a] H) c L n b lo hi
section
variable {P : Program} {w : World} {K : PySem.W.Frag} {mg : Str → Option Value} {base : Heap} {C CB CT : Addr}
theorem W73.smx {a Ls r c : Addr} {ns : List Int} {L : BL} {n : Nat} {b : Nat → Nat → Bool} {lo hi : Nat → Nat → Nat} {H H' : Hp} (h : W73 K C a Ls ns r c L n b lo hi H) (s : SmX [a] H H') (hs : Src H' a Ls ns) : W73 K C a Ls ns r c L n b lo hi H' := ⟨hs, s.hid _ _ h.rw_, h.bd.same s.hid⟩
theorem W73.same {a Ls r c : Addr} {ns : List Int} {L : BL} {n : Nat} {b : Nat → Nat → Bool} {lo hi : Nat → Nat → Nat} {H H' : Hp} (h : W73 K C a Ls ns r c L n b lo hi H) (s : Same H H') : W73 K C a Ls ns r c L n b lo hi H' := h.smx (SmX.of_same s) (h.src.same s)
set_option maxHeartbeats 3200000 in
theorem ok_law {f : Addr} {fd : FuncData} {k : Nat} (F : Fun K "law" "law" s_law f fd) (hk : 10 ≤ k)
    (m_range : mg "range" = none) (m_len : mg "len" = none) (g_Board : mg "Board" = some (.ref C))
    (C_law_source : Own P w K mg base 1 "_law_source" ["_law_script"] (spSource K)) (C_law_take : Own P w K mg base 1 "_law_take" ["_law_source_here", "_law_many"] spTake) (C_law_pick : Own P w K mg base 2 "_law_pick" ["_law_source_here", "_law_row"] spPick)
    (C_law_mixed : Own P w K mg base 2 "_law_mixed" ["_law_source_here", "_law_row"] spMixed) (C_law_rows : Own P w K mg base 1 "_law_rows" ["_law_masks"] (spRows K))
    (C_law_summed : Own P w K mg base 1 "_law_summed" ["_law_low_here", "_law_rows_here", "_law_high"] (spSummed K)) (C_law_fault_walked : Own P w K mg base 2 "_law_fault_walked" ["_law_rows_here", "_law_fault", "_law_kind"] (spFW K))
    (C_find_fault : Own P w K mg base 3 "find_fault" ["board"] (spFault K C)) (C_is_fault : Own P w K mg base 7 "is_fault" ["board", "fault"] (spIF K C))
    (Mk_Board : C8.Mak P w K mg base 4 "Board" C (spBIn K C) []) (M_spreads : C8.Met P w K mg base 1 C "spreads" (spSprB K C) []) (M_rows : C8.Met P w K mg base 1 C "rows" (spRowsB K C) []) (M_turned : C8.Met P w K mg base 6 C "turned" (spTurn K C) [])
    (M_product : MetR P w K mg base 6 C "product" (spProd K C CT)) (M_chain : MetC P w K mg base 7 C "chain" (spChain K C CB)) (M_fan : MetSt P w K mg base 7 C "fan" (spFan K C CB)) (M_len : MetR P w K mg base 1 C "__len__" (spLenB K C)) :
    FnOk P w K mg base CX0 (k + 1) f fd ["_law_script"] (spLaw K) := by
  refine F.ok sc_law (fun vs H Q E h => ?_) (fun cdv A outer s H vs Q E hr h => ?_)
  · obtain ⟨a, ns, rfl, _⟩ := h
    rfl
  · obtain ⟨sc, ns, rfl, hS, h63, q⟩ := h
    rw [← spFaultI_eq] at C_find_fault
    rw [← spIFI_eq] at C_is_fault
    refine ⟨_, (pss_cons (ps_set (i := 1) sc_law.nd rfl (by first | exact .inl rfl | exact .inr rfl) (pe_own C_law_source (hr.mono (by omega)) (by rfl) (pa_cons (pv 0) pa_nil)))
      (pss_cons (ps_set (i := 2) sc_law.nd rfl (by first | exact .inl rfl | exact .inr rfl) (pe_own C_law_take (hr.mono (by omega)) (by rfl) (pa_cons (pv 1) (pa_cons pe_int pa_nil))))
      (pss_cons (ps_set (i := 3) sc_law.nd rfl (by first | exact .inl rfl | exact .inr rfl) (pe_own C_law_rows (hr.mono (by omega)) (by rfl) (pa_cons (pe_own C_law_mixed (hr.mono (by omega)) (by rfl) (pa_cons (pv 1) (pa_cons (pe_ix (ix_listK (K := K) rfl) (pe_lst (pa_cons (pe_lst (pa_cons pe_int (pa_cons pe_int (pa_cons pe_int (pa_cons pe_int (pa_cons pe_int pa_nil)))))) (pa_cons (pe_lst (pa_cons pe_int (pa_cons pe_int (pa_cons pe_int (pa_cons pe_int (pa_cons pe_int pa_nil)))))) (pa_cons (pe_lst (pa_cons pe_int (pa_cons pe_int (pa_cons pe_int (pa_cons pe_int pa_nil))))) pa_nil)))) (pv 2) (fun _ _ => rfl)) pa_nil))) pa_nil)))
      (pss_cons (ps_set (i := 4) sc_law.nd rfl (by first | exact .inl rfl | exact .inr rfl) (pe_op op_sub (pe_own C_law_pick (hr.mono (by omega)) (by rfl) (pa_cons (pv 1) (pa_cons (pe_lst (pa_cons pe_int (pa_cons pe_int (pa_cons pe_int pa_nil)))) pa_nil))) (pe_callB call_len_seq (by rfl) m_len (by decide +kernel) (pa_cons (pv 3) pa_nil))))
      (pss_cons (ps_set (i := 5) sc_law.nd rfl (by first | exact .inl rfl | exact .inr rfl) (pe_own C_law_pick (hr.mono (by omega)) (by rfl) (pa_cons (pv 1) (pa_cons (pe_lst (pa_cons pe_int (pa_cons (pv 4) (pa_cons (pe_own C_law_take (hr.mono (by omega)) (by rfl) (pa_cons (pv 1) (pa_cons (pe_op op_add (pv 4) pe_int) pa_nil))) pa_nil)))) pa_nil))))
      (pss_cons (ps_set (i := 6) sc_law.nd rfl (by first | exact .inl rfl | exact .inr rfl) (pe_own C_law_summed (hr.mono (by omega)) (by rfl) (pa_cons (pv 5) (pa_cons (pv 3) (pa_cons (pe_op op_sub (pv 4) (pv 5)) pa_nil)))))
      (pss_cons (ps_set (i := 7) sc_law.nd rfl (by first | exact .inl rfl | exact .inr rfl) (C8.pe_mk Mk_Board hr (by omega) (by rfl) (pa_cons (pv 6) pa_nil)))
      (pss_cons (ps_if (PW.pt (pw_or (pt_cmpR op_ne (C8.pe_mt0 M_spreads hr (by omega) (pv 7)) (pe_cmpR op_eq (pv 2) pe_int (nomark _)) (nomark _)) (pw_or1 (pt_cmpR op_ne (pe_callB (call_lenOwn M_len (hr.mono (by omega)) passE0) (by rfl) m_len (by decide +kernel) (pa_cons (pv 7) pa_nil)) (pe_callB call_len_seq (by rfl) m_len (by decide +kernel) (pa_cons (pv 6) pa_nil)) (nomark _)))))
        (pss_one (ps_ret pe_bl))
        pss_nil)
      (pss_cons (ps_set (i := 8) sc_law.nd rfl (by first | exact .inl rfl | exact .inr rfl) (pe_own C_find_fault (hr.mono (by omega)) (by rfl) (pa_cons (pv 7) pa_nil)))
      (C8.pss_cut (ps_if (PW.pt (pw_or (PW.pt (pw_and (pt_cmpR op_eq (pv 2) pe_int (nomark _)) (pw_and1 (pt_cmpR op_notN (pv 8) pe_non (nomark _))))) (pw_or1 (PW.pt (pw_and (pt_cmpR op_lt (pv 2) pe_int (nomark _)) (pw_and1 (pt_not (pt_val (pe_own C_law_fault_walked (hr.mono (by omega)) (by rfl) (pa_cons (pv 6) (pa_cons (pv 8) (pa_cons (pe_ix (ix_listK (K := K) rfl) (pe_lst (pa_cons pe_str (pa_cons pe_str pa_nil))) (pv 2) (fun _ _ => rfl)) pa_nil))))))))))))
        (pss_one (ps_ret pe_bl))
        pss_nil)
      (pss_cons (ps_set (i := 9) sc_law.nd rfl (by first | exact .inl rfl | exact .inr rfl) (C8.pe_mt0 M_turned hr (by omega) (pv 7)))
      (pss_cons (ps_if (pt_cmpR (op_neDq (K := K) rfl hr.units) (C8.pe_mt0 M_rows hr (by omega) (pv 9)) (pe_lc (own := [("_law_x", 11)]) (g := gName 11) (by rfl) sc_law.nd (pi_range1 (by rfl) m_range (pa_cons (pe_callB call_len_seq (by rfl) m_len (by decide +kernel) (pa_cons (pv 6) pa_nil)) pa_nil)) (blkOk_by (own := [("_law_x", 11)]) (N := N_law) (sc := defScope s_law) (by decide +kernel)) (fun _ _ _ _ _ => pg_name (i := 11) sc_law.nd rfl (Or.inr rfl)) (fun _ _ _ _ _ => pts_nil) (fun _ _ _ _ _ => (pe_joinK (K := K) rfl pe_str (pe_lc (own := [("_law_row", 10)]) (g := gName 10) (by rfl) sc_law.nd (pi_listK (K := K) rfl (pv 6)) (blkOk_by (own := [("_law_row", 10)]) (N := N_law) (by exact rfl)) (fun _ _ _ _ _ => pg_name (i := 10) sc_law.nd rfl (Or.inl rfl)) (fun _ _ _ _ _ => pts_nil) (fun _ _ _ _ _ => (pe_ix ix_str (pv 10) (pv 11) (fun _ _ => rfl))))))) (nomark _))
        (pss_one (ps_ret pe_bl))
        pss_nil)
      (C8.pss_cut (ps_if (PW.pt (pw_and (pt_cmpR op_lt (pv 2) pe_int (nomark _)) (pw_and1 (pt_cmpR op_isntB (pe_own C_is_fault (hr.mono (by omega)) (by rfl) (pa_cons (pv 7) (pa_cons (pv 8) pa_nil))) pe_bl (nomark _)))))
        (pss_one (ps_ret pe_bl))
        pss_nil)
      (pss_cons (ps_set (i := 12) sc_law.nd rfl (by first | exact .inl rfl | exact .inr rfl) (pe_own C_law_pick (hr.mono (by omega)) (by rfl) (pa_cons (pv 1) (pa_cons (pe_lst (pa_cons (pe_smeth M_fan (hr.mono (by omega)) passE0 (pe_glob (v := .ref C) (by rfl) g_Board rfl) (pa_cons pe_int pa_nil)) (pa_cons (pe_mtR M_product (hr.mono (by omega)) passE0 (pe_cm M_chain (hr.mono (by omega)) passE0 (pe_glob (v := .ref C) (by rfl) g_Board rfl) (pa_cons pe_int pa_nil)) (pa_cons (pe_smeth M_fan (hr.mono (by omega)) passE0 (pe_glob (v := .ref C) (by rfl) g_Board rfl) (pa_cons pe_int pa_nil)) pa_nil)) (pa_cons (pe_mtR M_product (hr.mono (by omega)) passE0 (pe_smeth M_fan (hr.mono (by omega)) passE0 (pe_glob (v := .ref C) (by rfl) g_Board rfl) (pa_cons pe_int pa_nil)) (pa_cons (pe_cm M_chain (hr.mono (by omega)) passE0 (pe_glob (v := .ref C) (by rfl) g_Board rfl) (pa_cons pe_int pa_nil)) pa_nil)) pa_nil)))) pa_nil))))
      (pss_one (ps_ret (pe_and (pe_cmpR op_eq (pe_callB (call_lenOwn M_len (hr.mono (by omega)) passE0) (by rfl) m_len (by decide +kernel) (pa_cons (pv 12) pa_nil)) pe_int (nomark _)) (pe_one (pe_own C_law_fault_walked (hr.mono (by omega)) (by rfl) (pa_cons (C8.pe_mt0 M_rows hr (by omega) (pv 12)) (pa_cons (pe_own C_find_fault (hr.mono (by omega)) (by rfl) (pa_cons (pv 12) pa_nil)) (pa_cons pe_str pa_nil)))))))))))))))))))))), ?_⟩
    have ma : ∀ {b : Addr}, b ∈ [b] := List.mem_singleton.mpr rfl
    have neF : ∀ x : V, (!decide (x = x)) = false := fun x => by rw [decide_eq_true rfl]; rfl
    refine ⟨_, rfl, sc, ns, rfl, hS, h63, fun H0 a Ls s0 na nL hs0 => ?_⟩
    refine ⟨_, rfl, a, Ls, ns, 3, rfl, hs0, by decide, by decide, fun H1 t t0 t3 hs1 off1 => ?_⟩
    -- the board between
    refine ⟨_, rfl, (by show 5 ≤ sizeLine; decide), fun p1 n1 => ⟨(by show 5 ≤ sizeLine; decide), fun p2 n2 => ⟨(by show 4 ≤ sizeLine; decide), fun p3 n3 => ⟨(by show 3 ≤ sizeLine; decide), fun p4 n4 => ?_⟩⟩⟩⟩
    have q1 := same_upd (o := .lst [V.int 0, V.int 1, V.int 2, V.int 4, V.int 7]) n1
    have e1 : upd H1 p1 (.lst [V.int 0, V.int 1, V.int 2, V.int 4, V.int 7]) p1 = _ := upd_same
    generalize upd H1 p1 (.lst [V.int 0, V.int 1, V.int 2, V.int 4, V.int 7]) = G1 at *
    have q2 := same_upd (o := .lst [V.int 0, V.int 1, V.int 3, V.int 4, V.int 7]) n2
    have e2 : upd G1 p2 (.lst [V.int 0, V.int 1, V.int 3, V.int 4, V.int 7]) p2 = _ := upd_same
    generalize upd G1 p2 (.lst [V.int 0, V.int 1, V.int 3, V.int 4, V.int 7]) = G2 at *
    have q3 := same_upd (o := .lst [V.int 0, V.int 1, V.int 2, V.int 3]) n3
    have e3 : upd G2 p3 (.lst [V.int 0, V.int 1, V.int 2, V.int 3]) p3 = _ := upd_same
    generalize upd G2 p3 (.lst [V.int 0, V.int 1, V.int 2, V.int 3]) = G3 at *
    have q4 := same_upd (o := .lst [V.ref p1, V.ref p2, V.ref p3]) n4
    have e4 : upd G3 p4 (.lst [V.ref p1, V.ref p2, V.ref p3]) p4 = _ := upd_same
    generalize upd G3 p4 (.lst [V.ref p1, V.ref p2, V.ref p3]) = G4 at *
    have e1 := q4 _ _ (q3 _ _ (q2 _ _ e1))
    have e2 := q4 _ _ (q3 _ _ e2)
    have e3 := q4 _ _ e3
    have q14 := q1.trans (q2.trans (q3.trans q4))
    have ne1 := hs1.ne n1
    have ne2 := (hs1.same q1).ne n2
    have ne3 := (hs1.same (q1.trans q2)).ne n3
    have hsG := hs1.same q14
    obtain ⟨pI, hat, hpI, neI⟩ : ∃ pI, atI [V.ref p1, V.ref p2, V.ref p3] t = some (.ref pI) ∧ G4 pI = some (.lst (natsV (inn t))) ∧ pI ≠ a := by
      by_cases c0 : t = 0
      · subst c0; exact ⟨p1, at0, e1, ne1.symm⟩
      by_cases c1 : t = 1
      · subst c1; exact ⟨p2, atI_nat (j := 1) rfl, e2, ne2.symm⟩
      obtain rfl : t = 2 := by omega
      exact ⟨p3, atI_nat (j := 2) rfl, e3, ne3.symm⟩
    have li := inn_len t
    refine ⟨_, rfl, p4, _, _, _, rfl, rfl, SqL.of e4, hat, ?_⟩
    refine ⟨a, Ls, pI, ns, _, rfl, hsG, neI, hpI, by rw [nats_len]; omega, fun H2 q2' ys pm nq2 hq2 hs2 off2 => ?_⟩
    obtain ⟨gs, pg, rfl⟩ := perm_nats pm
    have fg := (inn_fam t).perm pg
    have lg : 4 ≤ gs.length ∧ gs.length ≤ 5 := by rw [pg.length_eq]; exact li
    refine ⟨q2', gs, rfl, SqL.of hq2, by omega, fun H3 r s3 nr hr3 => ?_⟩
    have hs3 := hs2.same s3
    have way := inn_way t0 t3 pg
    obtain ⟨bt, tp, br⟩ := fam_brd fg
    rw [rows_eq] at hr3
    have ra : r ≠ a := (hs2.ne nr).symm
    clear q1 q2 q3 q4 q14 e1 e2 e3 e4 hat hpI n1 n2 n3 n4 hq2 pm nq2
    generalize leI gs = b at *
    generalize lowI gs = lo at *
    generalize upI gs = hi' at *
    generalize gs.length = n at *
    -- how many
    refine ⟨_, rfl, (by show 3 ≤ sizeLine; decide), fun p5 n5 => ?_⟩
    have q5 := same_upd (o := .lst [V.int 31, V.int 47, V.int 60]) n5
    have e5 : upd H3 p5 (.lst [V.int 31, V.int 47, V.int 60]) p5 = _ := upd_same
    have ne5 := hs3.ne n5
    generalize upd H3 p5 (.lst [V.int 31, V.int 47, V.int 60]) = G5 at *
    refine ⟨a, Ls, p5, ns, _, rfl, hs3.same q5, ne5.symm, e5, (by show 0 < 3; decide), (by show 3 ≤ 1000; decide), fun H4 v vm hs4 off4 => ?_⟩
    obtain ⟨N, rfl, N1, N2⟩ : ∃ N : Nat, v = .int (N : Nat) ∧ 31 ≤ N ∧ N ≤ 60 := by
      simp only [List.mem_cons, List.not_mem_nil, or_false] at vm
      rcases vm with e | e | e
      · exact ⟨31, e, by decide, by decide⟩
      · exact ⟨47, e, by decide, by decide⟩
      · exact ⟨60, e, by decide, by decide⟩
    have sm4 := SmX.at (M := [a]) off4 ma
    have hr4 := sm4 _ _ (fun z => ra (List.mem_singleton.mp z)) (q5 _ _ hr3)
    refine ⟨_, rfl, r, _, rfl, .inl (SqL.of hr4), _, _, rfl, rfl, ?_⟩
    rw [rows_lenF]
    show gName 4 (V.int _) _ _ _
    rw [show (N : Int) - (n : Int) = ((N - n : Nat) : Int) by omega]
    -- how low
    refine ⟨_, rfl, _, rfl, _, rfl, _, rfl, _, _, rfl, rfl, a, Ls, ns, _, rfl, hs4, by omega, by omega, fun H5 u u0 u1 hs5 off5 => ?_⟩
    have sm5 := SmX.at (M := [a]) off5 ma
    have hr5 := sm5 _ _ (fun z => ra (List.mem_singleton.mp z)) hr4
    refine ⟨(by show 3 ≤ sizeLine; decide), fun p6 n6 => ?_⟩
    have q6 := same_upd (o := .lst [V.int 0, V.int ((N - n : Nat) : Int), V.int u]) n6
    have e6 : upd H5 p6 (.lst [V.int 0, V.int ((N - n : Nat) : Int), V.int u]) p6 = _ := upd_same
    have ne6 := hs5.ne n6
    generalize upd H5 p6 (.lst [V.int 0, V.int ((N - n : Nat) : Int), V.int u]) = G6 at *
    refine ⟨a, Ls, p6, ns, _, rfl, hs5.same q6, ne6.symm, e6, (by show 0 < 3; decide), (by show 3 ≤ 1000; decide), fun H6 w' wm hs6 off6 => ?_⟩
    obtain ⟨L0, rfl, L1⟩ : ∃ L0 : Nat, w' = .int (L0 : Nat) ∧ L0 ≤ N - n := by
      simp only [List.mem_cons, List.not_mem_nil, or_false] at wm
      rcases wm with e | e | e
      · exact ⟨0, e, by omega⟩
      · exact ⟨N - n, e, by omega⟩
      · exact ⟨u.toNat, by rw [e, Int.toNat_of_nonneg u0], by omega⟩
    have sm6 := SmX.at (M := [a]) off6 ma
    have hr6 := sm6 _ _ (fun z => ra (List.mem_singleton.mp z)) (q6 _ _ hr5)
    -- the sum
    refine ⟨_, rfl, _, rfl, _, rfl, _, rfl, _, _, rfl, rfl, L0, n, N - n - L0, b, r, ?_, SqL.of hr6, by omega, fun H7 p s7 np hp => ?_⟩
    · show [V.int (L0 : Nat), V.ref r, V.int _] = _
      rw [show ((N - n : Nat) : Int) - (L0 : Int) = ((N - n - L0 : Nat) : Int) by omega]
    have hs7 := hs6.same s7
    have le60 : L0 + (n + (N - n - L0)) ≤ 60 := by omega
    have way := su_way br le60 way
    obtain ⟨bt', tp', B⟩ := su_brd br le60
    clear br hr3 hr4 hr5 hr6 hs4 hs5 sm4 sm5 sm6 off4 off5 off6 vm wm e5 e6 q5 q6 n5 n6 ne5 ne6 hs3 hs2 off2 nr s3 ra
    have pa : p ≠ a := (hs6.ne np).symm
    have pa' : p ∉ [a] := fun z => pa (List.mem_singleton.mp z)
    generalize L0 + (n + (N - n - L0)) = M at *
    generalize suB L0 n b = b at *
    generalize suL L0 n lo = lo at *
    generalize suH L0 n hi' = hi' at *
    have n60 := B.n60
    have n1 := B.n1
    -- the board
    refine ⟨_, rfl, fun x dx nx ndx nxd => ?_⟩
    have xa : x ≠ a := (hs7.ne nx).symm
    have sA := same_upd (o := .own x) ndx
    have nx' : upd H7 dx (.own x) x = none := by rw [upd_ne (Ne.symm nxd)]; exact nx
    have sB := sA.trans (same_upd (o := .ins C dx []) nx')
    have px : p ≠ x := ne_of_none hp nx
    have hrB := sB _ _ hp
    have hsB := hs7.same sB
    have hxB : upd (upd H7 dx (.own x)) x (.ins C dx []) x = some (.ins C dx []) := upd_same
    generalize upd (upd H7 dx (.own x)) x (.ins C dx []) = HB at hrB hsB hxB sB
    refine ⟨[a], x, p, dx, M, b, lo, hi', bt', tp', rfl, hsB.trk, (fun z => xa (List.mem_singleton.mp z)), hxB, ?_, B, fun H8 L smx hB ebt etp => ?_⟩
    · refine SqL.of ?_
      rw [hide_ne (by simp [px, pa])]
      exact hrB
    have s78 : Same H7 H8 := fun b o e => smx b o (fun z => ne_of_none e nx (List.mem_singleton.mp z)) (sB b o e)
    have W8 : W73 K C a Ls ns p x L M b lo hi' H8 := ⟨hs7.same s78, by rw [hide_ne pa']; exact s78 _ _ hp, hB⟩
    clear sA sB hrB hsB hxB smx nx' hB s78 hs7 hp s7 hs6
    have spr := way.spr B
    -- it spreads in the third way
    obtain ⟨dx8, ob8⟩ := (W8.bd.same hide_same).ob
    refine ⟨rfl, _, rfl, x, dx8, _, rfl, ob8, rfl, x, L, M, b, lo, hi', bt', tp', rfl, W8.bd.same hide_same, B, etp, fun H9 r2 s9 h2 => ?_⟩
    have W9 := W8.same s9
    have e2 : r2 = decide (V.int t = V.int 2) := by
      rw [Bool.eq_iff_iff, h2.trans spr, decide_eq_true_eq]
      exact ⟨fun e => by rw [e], fun e => V.int.inj e⟩
    refine ⟨_, rfl, rfl, rfl, _, rfl, ?_⟩
    rw [e2, neF]
    refine iteF ?_
    obtain ⟨dx9, ob9⟩ := (W9.bd.same hide_same).ob
    have hr9 := hide_same _ _ W9.rw_
    refine ⟨_, rfl, x, dx9, _, rfl, ob9, x, L, M, b, lo, hi', rfl, W9.bd.same hide_same, M, rfl, by omega, _, rfl, p, _, rfl, .inl (SqL.of hr9), rfl, _, rfl, ?_⟩
    rw [rows_lenF, neF]
    refine iteF ?_
    -- the fault
    refine ⟨_, rfl, spF_use rfl (W9.bd.same hide_same) B etp fun H10 v s10 fr => ?_⟩
    have W10 := W9.same s10
    clear W8 W9 ob8 ob9 hr9 h2 e2 s9 s10
    have hr10 := hide_same _ _ W10.rw_
    refine ⟨fun σ' H' => σ' = [some (.ref sc), some (.ref a), some (.int t), some (.ref r), some (.int ((N - n : Nat) : Int)), some (.int (L0 : Nat)), some (.ref p), some (.ref x), some v, none, none, none, none] ∧ Same H10 H', ?_, ?_⟩
    · rcases way with ⟨rfl, md, ns'⟩ | ⟨rfl, la⟩ | ⟨rfl, S⟩
      · rcases fr with ⟨S, _⟩ | ⟨_, lad, o, u, v', z, i, fi, hv, rg, lt, il⟩
        · exact absurd S ns'
        obtain rfl : lad = false := by
          cases lad with
          | false => rfl
          | true =>
            obtain ⟨x1, y1, z1, l1⟩ := il.mp rfl
            exact absurd l1 (md.no x1 y1 z1)
        refine ⟨_, rfl, rfl, _, rfl, iteF ⟨_, rfl, _, _, rfl, rfl, _, rfl, iteT ⟨_, rfl, _, rfl, (by show 2 ≤ sizeLine; decide), fun p8 n8 => ?_⟩⟩⟩
        have q8 := same_upd (o := .lst [V.str "fan", V.str "ladder"]) n8
        refine ⟨_, rfl, p8, _, _, _, rfl, rfl, SqL.of upd_same, at0, p, v, M, b, lo, hi', bt', tp', false, o, u, v', z, i, rfl, SqL.of (q8 _ _ hr10), B, hv.same q8, lt, rg, fun H12 s12 => ⟨_, rfl, iteF ⟨rfl, q8.trans s12⟩⟩⟩
      · rcases fr with ⟨S, _⟩ | ⟨_, lad, o, u, v', z, i, fi, hv, rg, lt, il⟩
        · obtain ⟨x1, y1, z1, l1⟩ := la
          exact (spr_nolad B S l1).elim
        obtain rfl : lad = true := il.mpr la
        refine ⟨_, rfl, rfl, _, rfl, iteF ⟨_, rfl, _, _, rfl, rfl, _, rfl, iteT ⟨_, rfl, _, rfl, (by show 2 ≤ sizeLine; decide), fun p8 n8 => ?_⟩⟩⟩
        have q8 := same_upd (o := .lst [V.str "fan", V.str "ladder"]) n8
        refine ⟨_, rfl, p8, _, _, _, rfl, rfl, SqL.of upd_same, atI_nat (j := 1) rfl, p, v, M, b, lo, hi', bt', tp', true, o, u, v', z, i, rfl, SqL.of (q8 _ _ hr10), B, hv.same q8, lt, rg, fun H12 s12 => ⟨_, rfl, iteF ⟨rfl, q8.trans s12⟩⟩⟩
      · rcases fr with ⟨_, rfl⟩ | ⟨ns', _⟩
        · exact ⟨_, rfl, rfl, _, rfl, iteT ⟨_, rfl, rfl, _, rfl, iteF ⟨_, rfl, _, _, rfl, rfl, _, rfl, iteF ⟨rfl, Same.refl _⟩⟩⟩⟩
        · exact absurd S ns'
    rintro _ H11 ⟨rfl, s11⟩
    have W11 := W10.same s11
    have fr := fr.same s11
    clear W10 hr10
    -- turned over
    obtain ⟨dx11, ob11⟩ := (W11.bd.same hide_same).ob
    refine ⟨_, rfl, x, dx11, _, rfl, ob11, rfl, [a], x, L, M, b, lo, hi', bt', tp', rfl, W11.src.trk, W11.bd.same hide_same, B, fun H12 y Ly s12 ny hBy eby ety => ?_⟩
    have W12 := W11.same s12
    have fr := fr.same s12
    clear W11 ob11
    have hy12 := hBy.same hide_same
    obtain ⟨dy12, oy12⟩ := hy12.ob
    refine ⟨_, rfl, y, dy12, _, rfl, oy12, rfl, y, Ly, M, _, _, _, rfl, hy12, fun H13 p13 s13 np13 hp13 => ?_⟩
    have W13 := W12.same s13
    have fr := fr.same s13
    clear W12 hBy hy12 oy12
    have hr13 := hide_same _ _ W13.rw_
    refine ⟨_, rfl, p, _, rfl, .inl (SqL.of hr13), _, rfl, ?_⟩
    rw [rows_lenF]
    refine ⟨by omega, by omega, fun D nD => lc_range (lo := 0) (n := ((M : Nat) : Int).toNat) (fun j H' => Same H13 H' ∧ H' D = some (.lst ((List.range j).map fun u => V.str (rowF M fun v => b v u)))) ?_ ?_ ?_⟩
    · exact ⟨same_upd nD, upd_same⟩
    · rintro j H' hj ⟨sm, hD⟩
      have ej : (0 : Int) + (j : Nat) = ((j : Nat) : Int) := by omega
      rw [ej]
      rw [Int.toNat_natCast] at hj
      have hrj := sm _ _ hr13
      have lr := rows_lenF M b
      refine ⟨rfl, yes_it ⟨⟨_, rfl⟩, _, rfl, p, rfl, ⟨_, SqL.of hrj⟩, fun D2 nD2 => lc_list (xs := (rowsF M b).map V.str) (fun i H2 => Same H' H2 ∧ H2 D2 = some (.lst ((((List.range i).map fun x => chB (b x j)).map fun c => (⟨#[c]⟩ : Str)).map V.str))) ?_ ?_ ?_ ?_⟩⟩
      · exact ⟨same_upd nD2, upd_same⟩
      · rintro i H2 _ ⟨s2, _⟩
        exact SqL.of (s2 _ _ hrj)
      · rintro i x H2 hx ⟨s2, hD2⟩
        obtain ⟨il, rfl⟩ := rows_get hx
        refine ⟨rfl, yes_it ⟨_, rfl, _, rfl, _, _, chB (b i j), rfl, rfl, rowF_size _ n60, ?_, _, hD2, small1000 (by rw [List.length_map, List.length_map, List.length_map, List.length_range]; omega), fun c o e => ?_, ?_⟩⟩
        · rw [rowF_cps]
          exact atI_nat (by rw [List.getElem?_map, List.getElem?_range hj]; rfl)
        · rw [upd_ne (ne_of_none e nD2)]; exact s2 _ _ e
        · rw [upd_same, List.range_succ]
          simp
      · rintro H2 ⟨s2, hD2⟩
        rw [lr] at hD2
        refine ⟨_, D2, _, rfl, rfl, .inl (SqL.of hD2), ?_, _, s2 _ _ hD, small1000 (by rw [List.length_map, List.length_range]; omega), fun c o e => ?_, ?_⟩
        · rw [sum_ones, List.length_map, List.length_map, List.length_range, List.length_map, List.length_range]
          show M + M * 0 ≤ 16777216
          omega
        · rw [upd_ne (ne_of_none e nD)]; exact s2 _ _ (sm _ _ e)
        · rw [upd_same, List.range_succ, List.map_append, join_empty]
          rfl
    rintro H14 ⟨s14, hD⟩
    rw [Int.toNat_natCast] at hD
    have hD : H14 D = some (.lst ((rowsF M fun u v => b v u).map V.str)) := by
      rw [hD]; unfold rowsF; rw [List.map_map]; rfl
    have gr := rows_gd (fun u v => b v u) n60
    refine ⟨_, _, lines_dp (s14 _ _ hp13), lines_dp hD, gd_shaped gr (by decide), gd_shaped gr (by decide), _, rfl, ?_⟩
    rw [eqv_self gr (by decide)]
    refine iteF ?_
    have W14 := W13.same s14
    have fr := fr.same s14
    clear W13 hr13 hD hp13
    -- the fault is one
    refine ⟨fun σ' H' => ∃ z10 z11 : Option V, σ' = [some (.ref sc), some (.ref a), some (.int t), some (.ref r), some (.int ((N - n : Nat) : Int)), some (.int (L0 : Nat)), some (.ref p), some (.ref x), some v, some (.ref y), z10, z11, none] ∧ Same H14 H', ?_, ?_⟩
    · have bad : t < 2 → ∃ lad o u v' z i, faultV H14 v (kS lad) o u v' z i ∧ rgt M b lo hi' lad o u v' z i = true ∧ (o < M ∧ u < M ∧ v' < M ∧ z < M ∧ i < M) := fun t2 => by
        rcases fr with ⟨S, _⟩ | ⟨_, lad, o, u, v', z, i, fi, hv, rg, lt, il⟩
        · have := spr.mp S
          omega
        · exact ⟨lad, o, u, v', z, i, hv, rg, lt⟩
      by_cases t2 : t < 2
      · obtain ⟨lad, o, u, v', z, i, hv, rg, lt⟩ := bad t2
        refine ⟨_, rfl, _, _, rfl, rfl, _, rfl, ?_⟩
        rw [decide_eq_true t2]
        refine iteT ⟨_, rfl, _, rfl, if_use rfl (W14.bd.same hide_same) B ebt etp (flt_dp hv) (flt_ok (kS_or lad)) fun H15 s15 => ?_⟩
        rw [fr_of (kS_or lad) lt (by rw [kS_lad]; exact rg)]
        exact ⟨_, _, rfl, rfl, _, rfl, iteF ⟨_, _, rfl, s15⟩⟩
      · refine ⟨_, rfl, _, _, rfl, rfl, _, rfl, ?_⟩
        rw [decide_eq_false t2]
        exact iteF ⟨_, _, rfl, Same.refl _⟩
    rintro _ H15 ⟨z10, z11, rfl, s15⟩
    have hs15 := W14.src.same s15
    clear W14 fr way spr
    -- a wide board: a fan
    refine ⟨_, rfl, rfl, [a], _, rfl, hs15.trk, fun m' hm => ?_, fun e => (by rw [okI_pos ⟨by decide, by decide⟩] at e; cases e)⟩
    rw [okI_pos ⟨by decide, by decide⟩] at hm
    cases hm
    intro H16 c1 K1 s16 nc1 hB1 e11 e12
    have hs16 := hs15.same s16
    -- a chain and a fan
    refine ⟨rfl, [a], _, rfl, hs16.trk, fun m' hm => ?_, fun e => (by rw [okI_pos ⟨by decide, by decide⟩] at e; cases e)⟩
    rw [okI_pos ⟨by decide, by decide⟩] at hm
    cases hm
    intro H17 c2 K2 s17 nc2 hB2 e21 e22
    have hs17 := hs16.same s17
    have hB1 := hB1.same (SmX.of_same (M := [a]) s17).hid
    obtain ⟨d2, o2⟩ := (hB2.same hide_same).ob
    refine ⟨c2, d2, _, rfl, o2, rfl, ?_⟩
    refine ⟨rfl, [a], _, rfl, hs17.trk, fun m' hm => ?_, fun e => (by rw [okI_pos ⟨by decide, by decide⟩] at e; cases e)⟩
    rw [okI_pos ⟨by decide, by decide⟩] at hm
    cases hm
    intro H18 c3 K3 s18 nc3 hB3 e31 e32
    have hs18 := hs17.same s18
    have hB1 := hB1.same (SmX.of_same (M := [a]) s18).hid
    have hB2 := hB2.same (SmX.of_same (M := [a]) s18).hid
    have Bc : Brd 12 (fun x y => decide (x ≤ y)) min max 0 11 := chain_brd (n := 12) (by decide) (by decide)
    have Bf : Brd 5 (fanB 5) (fanL 5) (fanH 5) 0 4 := fan_brd (n := 5) (by decide) (by decide)
    refine ⟨[a], c2, c3, K2, K3, 12, 5, _, _, _, _, _, _, _, _, _, _, rfl, hs18.trk, hB2.same hide_same, Bc, hB3.same hide_same, Bf, fun _ H19 c4 K4 s19 nc4 hB4 e41 e42 => ?_, fun h => absurd h (by decide)⟩
    have hs19 := hs18.same s19
    have hB1 := hB1.same (SmX.of_same (M := [a]) s19).hid
    -- a fan and a chain
    refine ⟨rfl, [a], _, rfl, hs19.trk, fun m' hm => ?_, fun e => (by rw [okI_pos ⟨by decide, by decide⟩] at e; cases e)⟩
    rw [okI_pos ⟨by decide, by decide⟩] at hm
    cases hm
    intro H20 c5 K5 s20 nc5 hB5 e51 e52
    have hs20 := hs19.same s20
    have hB1 := hB1.same (SmX.of_same (M := [a]) s20).hid
    have hB4 := hB4.same (SmX.of_same (M := [a]) s20).hid
    obtain ⟨d5, o5⟩ := (hB5.same hide_same).ob
    refine ⟨c5, d5, _, rfl, o5, rfl, rfl, [a], _, rfl, hs20.trk, fun m' hm => ?_, fun e => (by rw [okI_pos ⟨by decide, by decide⟩] at e; cases e)⟩
    rw [okI_pos ⟨by decide, by decide⟩] at hm
    cases hm
    intro H21 c6 K6 s21 nc6 hB6 e61 e62
    have hs21 := hs20.same s21
    have hB1 := hB1.same (SmX.of_same (M := [a]) s21).hid
    have hB4 := hB4.same (SmX.of_same (M := [a]) s21).hid
    have hB5 := hB5.same (SmX.of_same (M := [a]) s21).hid
    refine ⟨[a], c5, c6, K5, K6, 5, 12, _, _, _, _, _, _, _, _, _, _, rfl, hs21.trk, hB5.same hide_same, Bf, hB6.same hide_same, Bc, fun _ H22 c7 K7 s22 nc7 hB7 e71 e72 => ?_, fun h => absurd h (by decide)⟩
    have hs22 := hs21.same s22
    have hB1 := hB1.same (SmX.of_same (M := [a]) s22).hid
    have hB4 := hB4.same (SmX.of_same (M := [a]) s22).hid
    -- one of them
    refine ⟨(by show 3 ≤ sizeLine; decide), fun p23 n23 => ?_⟩
    have q23 := same_upd (o := .lst [V.ref c1, V.ref c4, V.ref c7]) n23
    have e23 : upd H22 p23 (.lst [V.ref c1, V.ref c4, V.ref c7]) p23 = _ := upd_same
    have ne23 := hs22.ne n23
    generalize upd H22 p23 (.lst [V.ref c1, V.ref c4, V.ref c7]) = H23 at *
    have hB1 := hB1.same (SmX.of_same (M := [a]) q23).hid
    have hB4 := hB4.same (SmX.of_same (M := [a]) q23).hid
    have hB7 := hB7.same (SmX.of_same (M := [a]) q23).hid
    refine ⟨a, Ls, p23, ns, _, rfl, hs22.same q23, ne23.symm, e23, (by show 0 < 3; decide), (by show 3 ≤ 1000; decide), fun H24 u um hs24 off24 => ?_⟩
    have sm24 := SmX.at (M := [a]) off24 ma
    obtain ⟨c0, K0, b0, lo0, hi0, bt0, tp0, rfl, hB0, B0, e0, md0, ns0⟩ : ∃ (c0 : Addr) (K0 : BL) (b0 : Nat → Nat → Bool) (lo0 hi0 : Nat → Nat → Nat) (bt0 tp0 : Nat), u = V.ref c0 ∧ BAt K C (hide [a] H24) c0 K0 60 b0 lo0 hi0 ∧ Brd 60 b0 lo0 hi0 bt0 tp0 ∧ K0.tp = tp0 ∧ ModB 60 b0 lo0 hi0 ∧ ¬ SprB 60 lo0 hi0 := by
      simp only [List.mem_cons, List.not_mem_nil, or_false] at um
      rcases um with e | e | e
      · exact ⟨c1, K1, _, _, _, _, _, e, hB1.same sm24.hid, fan_brd (n := 60) (by decide) (by decide), e12, fan_mod 60, fan_not (by decide)⟩
      · exact ⟨c4, K4, _, _, _, _, _, e, hB4.same sm24.hid, pr_brd Bc Bf (by decide), e42, prod_mod Bc Bf (chain_mod 12) (fan_mod 5), fun S => fan_not (by decide) ((pr_spr Bc Bf).mp S).2⟩
      · exact ⟨c7, K7, _, _, _, _, _, e, hB7.same sm24.hid, pr_brd Bf Bc (by decide), e72, prod_mod Bf Bc (fan_mod 5) (chain_mod 12), fun S => fan_not (by decide) ((pr_spr Bf Bc).mp S).1⟩
    obtain ⟨d0, o0⟩ := (hB0.same hide_same).ob
    refine ⟨_, rfl, c0, d0, _, rfl, o0, c0, K0, 60, _, _, _, rfl, hB0.same hide_same, 60, rfl, by decide, rfl, _, rfl, iteT ?_⟩
    refine ⟨_, rfl, c0, d0, _, rfl, o0, rfl, c0, K0, 60, _, _, _, rfl, hB0.same hide_same, fun H25 p25 s25 np25 hp25 => ?_⟩
    refine ⟨_, rfl, spF_use rfl ((hB0.same hide_same).same s25) B0 e0 fun H26 v s26 fr => ?_⟩
    rcases fr with ⟨S, _⟩ | ⟨_, lad, o, u, v', z, i, fi, hv, rg, lt, il⟩
    · exact absurd S ns0
    obtain rfl : lad = false := by
      cases lad with
      | false => rfl
      | true =>
        obtain ⟨x1, y1, z1, l1⟩ := il.mp rfl
        exact absurd l1 (md0.no x1 y1 z1)
    exact ⟨p25, v, 60, b0, lo0, hi0, bt0, tp0, false, o, u, v', z, i, rfl, SqL.of (s26 _ _ hp25), B0, hv, lt, rg, fun H27 s27 => q _⟩
end
end FvO


namespace Fv
open PySem PySem.Spec PyProof.Rows L2 FvX
open FvO (s_law spLaw s_are_square s_columns_of s_masks_of s_bound_table s_indexes_in s_first_in s_covers_of s_find_ladder s_find_fan s_find_fault s_law_index s_are_five_places s_are_bound s_is_fault s_law_summed s_law_fault_walked)
abbrev s_InvalidTerm : Stmt := inClass (topS 14) 0
def q_InvalidTerm : ErrPos := { p0 := ⟨70, 8, 70, 13⟩, p1 := ⟨70, 8, 70, 15⟩, p2 := ⟨70, 8, 70, 24⟩, p3 := ⟨70, 25, 70, 45⟩, p4 := ⟨70, 8, 70, 46⟩, p5 := ⟨70, 8, 70, 46⟩, p6 := ⟨71, 8, 71, 12⟩, p7 := ⟨71, 8, 71, 17⟩, p8 := ⟨71, 20, 71, 33⟩, p9 := ⟨71, 8, 71, 33⟩, pp := ⟨69, 17, 69, 21⟩ }
abbrev s_InvalidBoard : Stmt := inClass (topS 15) 0
def q_InvalidBoard : ErrPos := { p0 := ⟨75, 8, 75, 13⟩, p1 := ⟨75, 8, 75, 15⟩, p2 := ⟨75, 8, 75, 24⟩, p3 := ⟨75, 25, 75, 46⟩, p4 := ⟨75, 8, 75, 47⟩, p5 := ⟨75, 8, 75, 47⟩, p6 := ⟨76, 8, 76, 12⟩, p7 := ⟨76, 8, 76, 17⟩, p8 := ⟨76, 20, 76, 34⟩, p9 := ⟨76, 8, 76, 34⟩, pp := ⟨74, 17, 74, 21⟩ }
abbrev s_InvalidPlace : Stmt := inClass (topS 16) 0
def me_InvalidPlace : Expr := match defBody s_InvalidPlace with
  | .Expr (.Call _ [e] _ _) _ :: _ => e
  | _ => .Constant .none 0 ⟨0, 0, 0, 0⟩
def q_InvalidPlace : ErrPos1 := { p0 := ⟨80, 8, 80, 13⟩, p1 := ⟨80, 8, 80, 15⟩, p2 := ⟨80, 8, 80, 24⟩, p4 := ⟨80, 8, 80, 72⟩, p5 := ⟨80, 8, 80, 72⟩, p6 := ⟨81, 8, 81, 12⟩, p7 := ⟨81, 8, 81, 17⟩, p8 := ⟨81, 20, 81, 34⟩, p9 := ⟨81, 8, 81, 34⟩, p10 := ⟨82, 8, 82, 12⟩, p11 := ⟨82, 8, 82, 18⟩, p12 := ⟨82, 21, 82, 26⟩, p13 := ⟨82, 8, 82, 26⟩, pp := ⟨79, 17, 79, 21⟩, pp2 := ⟨79, 23, 79, 28⟩ }
theorem hme_InvalidPlace : ∀ u, MsgV u → MsgOk me_InvalidPlace "place" u := fun u hu => (msg2 (pre := "this is not a place of the board: ") (by decide +kernel) hu : MsgOk me_InvalidPlace "place" u)
abbrev s_InvalidReading : Stmt := inClass (topS 17) 0
def me_InvalidReading : Expr := match defBody s_InvalidReading with
  | .Expr (.Call _ [e] _ _) _ :: _ => e
  | _ => .Constant .none 0 ⟨0, 0, 0, 0⟩
def q_InvalidReading : ErrPos1 := { p0 := ⟨86, 8, 86, 13⟩, p1 := ⟨86, 8, 86, 15⟩, p2 := ⟨86, 8, 86, 24⟩, p4 := ⟨86, 8, 86, 79⟩, p5 := ⟨86, 8, 86, 79⟩, p6 := ⟨87, 8, 87, 12⟩, p7 := ⟨87, 8, 87, 17⟩, p8 := ⟨87, 20, 87, 36⟩, p9 := ⟨87, 8, 87, 36⟩, p10 := ⟨88, 8, 88, 12⟩, p11 := ⟨88, 8, 88, 19⟩, p12 := ⟨88, 22, 88, 28⟩, p13 := ⟨88, 8, 88, 28⟩, pp := ⟨85, 17, 85, 21⟩, pp2 := ⟨85, 23, 85, 29⟩ }
theorem hme_InvalidReading : ∀ u, MsgV u → MsgOk me_InvalidReading "letter" u := fun u hu => (msg2 (pre := "the reading has no place for the letter ") (by decide +kernel) hu : MsgOk me_InvalidReading "letter" u)
abbrev s_TooManyPlaces : Stmt := inClass (topS 18) 0
def me_TooManyPlaces : Expr := match defBody s_TooManyPlaces with
  | .Expr (.Call _ [e] _ _) _ :: _ => e
  | _ => .Constant .none 0 ⟨0, 0, 0, 0⟩
def q_TooManyPlaces : ErrPos1 := { p0 := ⟨92, 8, 92, 13⟩, p1 := ⟨92, 8, 92, 15⟩, p2 := ⟨92, 8, 92, 24⟩, p4 := ⟨92, 8, 92, 76⟩, p5 := ⟨92, 8, 92, 76⟩, p6 := ⟨93, 8, 93, 12⟩, p7 := ⟨93, 8, 93, 17⟩, p8 := ⟨93, 20, 93, 35⟩, p9 := ⟨93, 8, 93, 35⟩, p10 := ⟨94, 8, 94, 12⟩, p11 := ⟨94, 8, 94, 18⟩, p12 := ⟨94, 21, 94, 26⟩, p13 := ⟨94, 8, 94, 26⟩, pp := ⟨91, 17, 91, 21⟩, pp2 := ⟨91, 23, 91, 28⟩ }
theorem hme_TooManyPlaces : ∀ u, MsgV u → MsgOk me_TooManyPlaces "limit" u := fun u hu => (msg3 (pre := "the board would have more than ") (post := " places") (by decide +kernel) (by decide +kernel) hu : MsgOk me_TooManyPlaces "limit" u)
theorem kw_all {K : PySem.W.Frag} {D : Addr} {kws : List (Str × V)} (h : ∀ q ∈ kws, ∃ u, PySem.W.nsIn K D q.1 = some (some u) ∧ RelV q.2 u) : ∀ q ∈ kws, ∃ u, PySem.W.nsIn K D q.1 = some (some u) ∧ RelV q.2 u := h
set_option maxHeartbeats 8000000 in
theorem all_mk {l : PySem.W.OpenLaw} {w : World} {K : PySem.W.Frag} {h : Heap} {mg : Str → Option Value} {fa : Addr} (X : K.In h) (G : h.Ns mainGlobals mg) (hfa : mg "law" = some (.ref fa))
    {f1 : Addr} {od1 an1 : Option Addr} {sl1 : Array (Option Value)} {oc1 dc1 pm1 cd1 ct1 : Value}
    {kV1 : Value}
    {f2 : Addr} {od2 an2 : Option Addr} {sl2 : Array (Option Value)} {oc2 dc2 pm2 cd2 ct2 : Value}
    {kV2 : Value}
    {f3 : Addr} {od3 an3 : Option Addr} {sl3 : Array (Option Value)} {oc3 dc3 pm3 cd3 ct3 : Value}
    {kV3 : Value}
    {f4 : Addr} {od4 an4 : Option Addr} {sl4 : Array (Option Value)} {oc4 dc4 pm4 cd4 ct4 : Value}
    {kV4 : Value}
    {f5 : Addr} {od5 an5 : Option Addr} {sl5 : Array (Option Value)} {oc5 dc5 pm5 cd5 ct5 : Value}
    {kV5 : Value}
    {f6 : Addr} {od6 an6 : Option Addr} {sl6 : Array (Option Value)} {oc6 dc6 pm6 cd6 ct6 : Value}
    {kV6 : Value}
    {f7 : Addr} {od7 an7 : Option Addr} {sl7 : Array (Option Value)} {oc7 dc7 pm7 cd7 ct7 : Value}
    {kV7 : Value}
    {f8 : Addr} {od8 an8 : Option Addr} {sl8 : Array (Option Value)} {oc8 dc8 pm8 cd8 ct8 : Value}
    {kV8 : Value}
    {f9 : Addr} {od9 an9 : Option Addr} {sl9 : Array (Option Value)} {oc9 dc9 pm9 cd9 ct9 : Value}
    {kV9 : Value}
    {f10 : Addr} {od10 an10 : Option Addr} {sl10 : Array (Option Value)} {oc10 dc10 pm10 cd10 ct10 : Value}
    {kV10 : Value}
    {f11 : Addr} {od11 an11 : Option Addr} {sl11 : Array (Option Value)} {oc11 dc11 pm11 cd11 ct11 : Value}
    {kV11 : Value}
    {f12 : Addr} {od12 an12 : Option Addr} {sl12 : Array (Option Value)} {oc12 dc12 pm12 cd12 ct12 : Value}
    {kV12 : Value}
    {f13 : Addr} {od13 an13 : Option Addr} {sl13 : Array (Option Value)} {oc13 dc13 pm13 cd13 ct13 : Value}
    {kV13 : Value}
    {f14 : Addr} {od14 an14 : Option Addr} {sl14 : Array (Option Value)} {oc14 dc14 pm14 cd14 ct14 : Value}
    {kV14 : Value}
    {f15 : Addr} {od15 an15 : Option Addr} {sl15 : Array (Option Value)} {oc15 dc15 pm15 cd15 ct15 : Value}
    {kV15 : Value}
    {f16 : Addr} {od16 an16 : Option Addr} {sl16 : Array (Option Value)} {oc16 dc16 pm16 cd16 ct16 : Value}
    {kV16 : Value}
    {f17 : Addr} {od17 an17 : Option Addr} {sl17 : Array (Option Value)} {oc17 dc17 pm17 cd17 ct17 : Value}
    {kV17 : Value}
    {f18 : Addr} {od18 an18 : Option Addr} {sl18 : Array (Option Value)} {oc18 dc18 pm18 cd18 ct18 : Value}
    {kV18 : Value}
    {f19 : Addr} {od19 an19 : Option Addr} {sl19 : Array (Option Value)} {oc19 dc19 pm19 cd19 ct19 : Value}
    {kV19 : Value}
    {f20 : Addr} {od20 an20 : Option Addr} {sl20 : Array (Option Value)} {oc20 dc20 pm20 cd20 ct20 : Value}
    {kV20 : Value}
    {f21 : Addr} {od21 an21 : Option Addr} {sl21 : Array (Option Value)} {oc21 dc21 pm21 cd21 ct21 : Value}
    {kV21 : Value}
    {f22 : Addr} {od22 an22 : Option Addr} {sl22 : Array (Option Value)} {oc22 dc22 pm22 cd22 ct22 : Value}
    {kV22 : Value}
    {f23 : Addr} {od23 an23 : Option Addr} {sl23 : Array (Option Value)} {oc23 dc23 pm23 cd23 ct23 : Value}
    {kV23 : Value}
    {f24 : Addr} {od24 an24 : Option Addr} {sl24 : Array (Option Value)} {oc24 dc24 pm24 cd24 ct24 : Value}
    {kV24 : Value}
    {ctLETTERS : Tok}
    {oA1 : Addr} {ob1 : Option Addr} {on1 : Nat} {os1 : Array (Option Value)} {ot1_0 : Tok} {ot1_1 : Tok}
    {ctLONG_DEPTH : Tok}
    {ctLONG_SIZE : Tok}
    {CF : Addr}
    {C_InvalidTerm f_InvalidTerm : Addr} {eoc_InvalidTerm : Value} {eod_InvalidTerm ean_InvalidTerm : Option Addr} {eosl_InvalidTerm : Array (Option Value)} {ekV_InvalidTerm edoc_InvalidTerm epm_InvalidTerm ect_InvalidTerm : Value} {cda_InvalidTerm ecc_InvalidTerm : Addr} {eccl_InvalidTerm ecl_InvalidTerm : Value} {ecdd_InvalidTerm ecld_InvalidTerm : Option Addr} {evs_InvalidTerm : Array Value} {eccs_InvalidTerm ecsl_InvalidTerm : Array (Option Value)} {efile_InvalidTerm : Str} {etf_InvalidTerm : Tok}
    {nm_InvalidTerm eq_InvalidTerm : Str} {eN_InvalidTerm : Addr} {ebs_InvalidTerm ebm_InvalidTerm : List Value} {esn_InvalidTerm : List Str} {esub_InvalidTerm : List Value} {eab_InvalidTerm : Bool} {ecol_InvalidTerm : Option Bool} {edd_InvalidTerm : Option Addr} {ek0_InvalidTerm ek1_InvalidTerm ek2_InvalidTerm ek3_InvalidTerm ek5_InvalidTerm : Option Value}
    {C_InvalidBoard f_InvalidBoard : Addr} {eoc_InvalidBoard : Value} {eod_InvalidBoard ean_InvalidBoard : Option Addr} {eosl_InvalidBoard : Array (Option Value)} {ekV_InvalidBoard edoc_InvalidBoard epm_InvalidBoard ect_InvalidBoard : Value} {cda_InvalidBoard ecc_InvalidBoard : Addr} {eccl_InvalidBoard ecl_InvalidBoard : Value} {ecdd_InvalidBoard ecld_InvalidBoard : Option Addr} {evs_InvalidBoard : Array Value} {eccs_InvalidBoard ecsl_InvalidBoard : Array (Option Value)} {efile_InvalidBoard : Str} {etf_InvalidBoard : Tok}
    {nm_InvalidBoard eq_InvalidBoard : Str} {eN_InvalidBoard : Addr} {ebs_InvalidBoard ebm_InvalidBoard : List Value} {esn_InvalidBoard : List Str} {esub_InvalidBoard : List Value} {eab_InvalidBoard : Bool} {ecol_InvalidBoard : Option Bool} {edd_InvalidBoard : Option Addr} {ek0_InvalidBoard ek1_InvalidBoard ek2_InvalidBoard ek3_InvalidBoard ek5_InvalidBoard : Option Value}
    {C_InvalidPlace f_InvalidPlace : Addr} {eoc_InvalidPlace : Value} {eod_InvalidPlace ean_InvalidPlace : Option Addr} {eosl_InvalidPlace : Array (Option Value)} {ekV_InvalidPlace edoc_InvalidPlace epm_InvalidPlace ect_InvalidPlace : Value} {cda_InvalidPlace ecc_InvalidPlace : Addr} {eccl_InvalidPlace ecl_InvalidPlace : Value} {ecdd_InvalidPlace ecld_InvalidPlace : Option Addr} {evs_InvalidPlace : Array Value} {eccs_InvalidPlace ecsl_InvalidPlace : Array (Option Value)} {efile_InvalidPlace : Str} {etf_InvalidPlace : Tok}
    {nm_InvalidPlace eq_InvalidPlace : Str} {eN_InvalidPlace : Addr} {ebs_InvalidPlace ebm_InvalidPlace : List Value} {esn_InvalidPlace : List Str} {esub_InvalidPlace : List Value} {eab_InvalidPlace : Bool} {ecol_InvalidPlace : Option Bool} {edd_InvalidPlace : Option Addr} {ek0_InvalidPlace ek1_InvalidPlace ek2_InvalidPlace ek3_InvalidPlace ek5_InvalidPlace : Option Value}
    {C_InvalidReading f_InvalidReading : Addr} {eoc_InvalidReading : Value} {eod_InvalidReading ean_InvalidReading : Option Addr} {eosl_InvalidReading : Array (Option Value)} {ekV_InvalidReading edoc_InvalidReading epm_InvalidReading ect_InvalidReading : Value} {cda_InvalidReading ecc_InvalidReading : Addr} {eccl_InvalidReading ecl_InvalidReading : Value} {ecdd_InvalidReading ecld_InvalidReading : Option Addr} {evs_InvalidReading : Array Value} {eccs_InvalidReading ecsl_InvalidReading : Array (Option Value)} {efile_InvalidReading : Str} {etf_InvalidReading : Tok}
    {nm_InvalidReading eq_InvalidReading : Str} {eN_InvalidReading : Addr} {ebs_InvalidReading ebm_InvalidReading : List Value} {esn_InvalidReading : List Str} {esub_InvalidReading : List Value} {eab_InvalidReading : Bool} {ecol_InvalidReading : Option Bool} {edd_InvalidReading : Option Addr} {ek0_InvalidReading ek1_InvalidReading ek2_InvalidReading ek3_InvalidReading ek5_InvalidReading : Option Value}
    {C_TooManyPlaces f_TooManyPlaces : Addr} {eoc_TooManyPlaces : Value} {eod_TooManyPlaces ean_TooManyPlaces : Option Addr} {eosl_TooManyPlaces : Array (Option Value)} {ekV_TooManyPlaces edoc_TooManyPlaces epm_TooManyPlaces ect_TooManyPlaces : Value} {cda_TooManyPlaces ecc_TooManyPlaces : Addr} {eccl_TooManyPlaces ecl_TooManyPlaces : Value} {ecdd_TooManyPlaces ecld_TooManyPlaces : Option Addr} {evs_TooManyPlaces : Array Value} {eccs_TooManyPlaces ecsl_TooManyPlaces : Array (Option Value)} {efile_TooManyPlaces : Str} {etf_TooManyPlaces : Tok}
    {nm_TooManyPlaces eq_TooManyPlaces : Str} {eN_TooManyPlaces : Addr} {ebs_TooManyPlaces ebm_TooManyPlaces : List Value} {esn_TooManyPlaces : List Str} {esub_TooManyPlaces : List Value} {eab_TooManyPlaces : Bool} {ecol_TooManyPlaces : Option Bool} {edd_TooManyPlaces : Option Addr} {ek0_TooManyPlaces ek1_TooManyPlaces ek2_TooManyPlaces ek3_TooManyPlaces ek5_TooManyPlaces : Option Value}
    {C_Board : Addr}
    {f_Board_init : Addr} {od_Board_init an_Board_init : Option Addr} {sl_Board_init : Array (Option Value)} {oc_Board_init kV_Board_init dc_Board_init pm_Board_init cd_Board_init ct_Board_init : Value}
    {f_Board_chain : Addr} {od_Board_chain an_Board_chain : Option Addr} {sl_Board_chain : Array (Option Value)} {oc_Board_chain kV_Board_chain dc_Board_chain pm_Board_chain cd_Board_chain ct_Board_chain : Value}
    {mc_Board : Value}
    {pr_Board_chain : Addr} {re_Board_chain : List Value}
    {f_Board_fan : Addr} {od_Board_fan an_Board_fan : Option Addr} {sl_Board_fan : Array (Option Value)} {oc_Board_fan kV_Board_fan dc_Board_fan pm_Board_fan cd_Board_fan ct_Board_fan : Value}
    {pr_Board_fan : Addr} {re_Board_fan : List Value}
    {f_Board_rows : Addr} {od_Board_rows an_Board_rows : Option Addr} {sl_Board_rows : Array (Option Value)} {oc_Board_rows kV_Board_rows dc_Board_rows pm_Board_rows cd_Board_rows ct_Board_rows : Value}
    {f_Board_has_place : Addr} {od_Board_has_place an_Board_has_place : Option Addr} {sl_Board_has_place : Array (Option Value)} {oc_Board_has_place kV_Board_has_place dc_Board_has_place pm_Board_has_place cd_Board_has_place ct_Board_has_place : Value}
    {f_Board_check_places : Addr} {od_Board_check_places an_Board_check_places : Option Addr} {sl_Board_check_places : Array (Option Value)} {oc_Board_check_places kV_Board_check_places dc_Board_check_places pm_Board_check_places cd_Board_check_places ct_Board_check_places : Value}
    {f_Board_is_below : Addr} {od_Board_is_below an_Board_is_below : Option Addr} {sl_Board_is_below : Array (Option Value)} {oc_Board_is_below kV_Board_is_below dc_Board_is_below pm_Board_is_below cd_Board_is_below ct_Board_is_below : Value}
    {f_Board_low : Addr} {od_Board_low an_Board_low : Option Addr} {sl_Board_low : Array (Option Value)} {oc_Board_low kV_Board_low dc_Board_low pm_Board_low cd_Board_low ct_Board_low : Value}
    {f_Board_up : Addr} {od_Board_up an_Board_up : Option Addr} {sl_Board_up : Array (Option Value)} {oc_Board_up kV_Board_up dc_Board_up pm_Board_up cd_Board_up ct_Board_up : Value}
    {f_Board_spreads : Addr} {od_Board_spreads an_Board_spreads : Option Addr} {sl_Board_spreads : Array (Option Value)} {oc_Board_spreads kV_Board_spreads dc_Board_spreads pm_Board_spreads cd_Board_spreads ct_Board_spreads : Value}
    {f_Board_turned : Addr} {od_Board_turned an_Board_turned : Option Addr} {sl_Board_turned : Array (Option Value)} {oc_Board_turned kV_Board_turned dc_Board_turned pm_Board_turned cd_Board_turned ct_Board_turned : Value}
    {f_Board_product : Addr} {od_Board_product an_Board_product : Option Addr} {sl_Board_product : Array (Option Value)} {oc_Board_product kV_Board_product dc_Board_product pm_Board_product cd_Board_product ct_Board_product : Value}
    {f_Board_len : Addr} {od_Board_len an_Board_len : Option Addr} {sl_Board_len : Array (Option Value)} {oc_Board_len kV_Board_len dc_Board_len pm_Board_len cd_Board_len ct_Board_len : Value}
    {tk_Board : Tok}
    (a1 : PySem.W.nsIn K mainGlobals "indexes_in" = some (some (.ref f1))) (l1 : K.lookup f1 = some ⟨oc1, od1, .func (PySem.W.fnOf "indexes_in" "indexes_in" (defArgs s_indexes_in) (defBody s_indexes_in) (defScope s_indexes_in) .none kV1 dc1 pm1 an1 cd1 ct1), sl1⟩) (c1 : PySem.W.codeIn K cd1 "indexes_in" = true) (k1 : PySem.W.keepIn K (.ref f1) = true)
    (a2 : PySem.W.nsIn K mainGlobals "first_in" = some (some (.ref f2))) (l2 : K.lookup f2 = some ⟨oc2, od2, .func (PySem.W.fnOf "first_in" "first_in" (defArgs s_first_in) (defBody s_first_in) (defScope s_first_in) .none kV2 dc2 pm2 an2 cd2 ct2), sl2⟩) (c2 : PySem.W.codeIn K cd2 "first_in" = true) (k2 : PySem.W.keepIn K (.ref f2) = true)
    (a3 : PySem.W.nsIn K mainGlobals "find_fault" = some (some (.ref f3))) (l3 : K.lookup f3 = some ⟨oc3, od3, .func (PySem.W.fnOf "find_fault" "find_fault" (defArgs s_find_fault) (defBody s_find_fault) (defScope s_find_fault) .none kV3 dc3 pm3 an3 cd3 ct3), sl3⟩) (c3 : PySem.W.codeIn K cd3 "find_fault" = true) (k3 : PySem.W.keepIn K (.ref f3) = true)
    (a4 : PySem.W.nsIn K mainGlobals "covers_of" = some (some (.ref f4))) (l4 : K.lookup f4 = some ⟨oc4, od4, .func (PySem.W.fnOf "covers_of" "covers_of" (defArgs s_covers_of) (defBody s_covers_of) (defScope s_covers_of) .none kV4 dc4 pm4 an4 cd4 ct4), sl4⟩) (c4 : PySem.W.codeIn K cd4 "covers_of" = true) (k4 : PySem.W.keepIn K (.ref f4) = true)
    (a5 : PySem.W.nsIn K mainGlobals "find_ladder" = some (some (.ref f5))) (l5 : K.lookup f5 = some ⟨oc5, od5, .func (PySem.W.fnOf "find_ladder" "find_ladder" (defArgs s_find_ladder) (defBody s_find_ladder) (defScope s_find_ladder) .none kV5 dc5 pm5 an5 cd5 ct5), sl5⟩) (c5 : PySem.W.codeIn K cd5 "find_ladder" = true) (k5 : PySem.W.keepIn K (.ref f5) = true)
    (a6 : PySem.W.nsIn K mainGlobals "find_fan" = some (some (.ref f6))) (l6 : K.lookup f6 = some ⟨oc6, od6, .func (PySem.W.fnOf "find_fan" "find_fan" (defArgs s_find_fan) (defBody s_find_fan) (defScope s_find_fan) .none kV6 dc6 pm6 an6 cd6 ct6), sl6⟩) (c6 : PySem.W.codeIn K cd6 "find_fan" = true) (k6 : PySem.W.keepIn K (.ref f6) = true)
    (a7 : PySem.W.nsIn K mainGlobals "is_fault" = some (some (.ref f7))) (l7 : K.lookup f7 = some ⟨oc7, od7, .func (PySem.W.fnOf "is_fault" "is_fault" (defArgs s_is_fault) (defBody s_is_fault) (defScope s_is_fault) .none kV7 dc7 pm7 an7 cd7 ct7), sl7⟩) (c7 : PySem.W.codeIn K cd7 "is_fault" = true) (k7 : PySem.W.keepIn K (.ref f7) = true)
    (a8 : PySem.W.nsIn K mainGlobals "are_five_places" = some (some (.ref f8))) (l8 : K.lookup f8 = some ⟨oc8, od8, .func (PySem.W.fnOf "are_five_places" "are_five_places" (defArgs s_are_five_places) (defBody s_are_five_places) (defScope s_are_five_places) .none kV8 dc8 pm8 an8 cd8 ct8), sl8⟩) (c8 : PySem.W.codeIn K cd8 "are_five_places" = true) (k8 : PySem.W.keepIn K (.ref f8) = true)
    (a9 : PySem.W.nsIn K mainGlobals "are_bound" = some (some (.ref f9))) (l9 : K.lookup f9 = some ⟨oc9, od9, .func (PySem.W.fnOf "are_bound" "are_bound" (defArgs s_are_bound) (defBody s_are_bound) (defScope s_are_bound) .none kV9 dc9 pm9 an9 cd9 ct9), sl9⟩) (c9 : PySem.W.codeIn K cd9 "are_bound" = true) (k9 : PySem.W.keepIn K (.ref f9) = true)
    (a10 : PySem.W.nsIn K mainGlobals "are_square" = some (some (.ref f10))) (l10 : K.lookup f10 = some ⟨oc10, od10, .func (PySem.W.fnOf "are_square" "are_square" (defArgs s_are_square) (defBody s_are_square) (defScope s_are_square) .none kV10 dc10 pm10 an10 cd10 ct10), sl10⟩) (c10 : PySem.W.codeIn K cd10 "are_square" = true) (k10 : PySem.W.keepIn K (.ref f10) = true)
    (a11 : PySem.W.nsIn K mainGlobals "columns_of" = some (some (.ref f11))) (l11 : K.lookup f11 = some ⟨oc11, od11, .func (PySem.W.fnOf "columns_of" "columns_of" (defArgs s_columns_of) (defBody s_columns_of) (defScope s_columns_of) .none kV11 dc11 pm11 an11 cd11 ct11), sl11⟩) (c11 : PySem.W.codeIn K cd11 "columns_of" = true) (k11 : PySem.W.keepIn K (.ref f11) = true)
    (a12 : PySem.W.nsIn K mainGlobals "masks_of" = some (some (.ref f12))) (l12 : K.lookup f12 = some ⟨oc12, od12, .func (PySem.W.fnOf "masks_of" "masks_of" (defArgs s_masks_of) (defBody s_masks_of) (defScope s_masks_of) .none kV12 dc12 pm12 an12 cd12 ct12), sl12⟩) (c12 : PySem.W.codeIn K cd12 "masks_of" = true) (k12 : PySem.W.keepIn K (.ref f12) = true)
    (a13 : PySem.W.nsIn K mainGlobals "bound_table" = some (some (.ref f13))) (l13 : K.lookup f13 = some ⟨oc13, od13, .func (PySem.W.fnOf "bound_table" "bound_table" (defArgs s_bound_table) (defBody s_bound_table) (defScope s_bound_table) .none kV13 dc13 pm13 an13 cd13 ct13), sl13⟩) (c13 : PySem.W.codeIn K cd13 "bound_table" = true) (k13 : PySem.W.keepIn K (.ref f13) = true)
    (a14 : PySem.W.nsIn K mainGlobals "_law_source" = some (some (.ref f14))) (l14 : K.lookup f14 = some ⟨oc14, od14, .func (PySem.W.fnOf "_law_source" "_law_source" (defArgs s_law_source) (defBody s_law_source) (defScope s_law_source) .none kV14 dc14 pm14 an14 cd14 ct14), sl14⟩) (c14 : PySem.W.codeIn K cd14 "_law_source" = true) (k14 : PySem.W.keepIn K (.ref f14) = true)
    (a15 : PySem.W.nsIn K mainGlobals "_law_take" = some (some (.ref f15))) (l15 : K.lookup f15 = some ⟨oc15, od15, .func (PySem.W.fnOf "_law_take" "_law_take" (defArgs s_law_take) (defBody s_law_take) (defScope s_law_take) .none kV15 dc15 pm15 an15 cd15 ct15), sl15⟩) (c15 : PySem.W.codeIn K cd15 "_law_take" = true) (k15 : PySem.W.keepIn K (.ref f15) = true)
    (a16 : PySem.W.nsIn K mainGlobals "_law_pick" = some (some (.ref f16))) (l16 : K.lookup f16 = some ⟨oc16, od16, .func (PySem.W.fnOf "_law_pick" "_law_pick" (defArgs s_law_pick) (defBody s_law_pick) (defScope s_law_pick) .none kV16 dc16 pm16 an16 cd16 ct16), sl16⟩) (c16 : PySem.W.codeIn K cd16 "_law_pick" = true) (k16 : PySem.W.keepIn K (.ref f16) = true)
    (a17 : PySem.W.nsIn K mainGlobals "_law_mixed" = some (some (.ref f17))) (l17 : K.lookup f17 = some ⟨oc17, od17, .func (PySem.W.fnOf "_law_mixed" "_law_mixed" (defArgs s_law_mixed) (defBody s_law_mixed) (defScope s_law_mixed) .none kV17 dc17 pm17 an17 cd17 ct17), sl17⟩) (c17 : PySem.W.codeIn K cd17 "_law_mixed" = true) (k17 : PySem.W.keepIn K (.ref f17) = true)
    (a18 : PySem.W.nsIn K mainGlobals "_law_index" = some (some (.ref f18))) (l18 : K.lookup f18 = some ⟨oc18, od18, .func (PySem.W.fnOf "_law_index" "_law_index" (defArgs s_law_index) (defBody s_law_index) (defScope s_law_index) .none kV18 dc18 pm18 an18 cd18 ct18), sl18⟩) (c18 : PySem.W.codeIn K cd18 "_law_index" = true) (k18 : PySem.W.keepIn K (.ref f18) = true)
    (a19 : PySem.W.nsIn K mainGlobals "_law_rows" = some (some (.ref f19))) (l19 : K.lookup f19 = some ⟨oc19, od19, .func (PySem.W.fnOf "_law_rows" "_law_rows" (defArgs s_law_rows) (defBody s_law_rows) (defScope s_law_rows) .none kV19 dc19 pm19 an19 cd19 ct19), sl19⟩) (c19 : PySem.W.codeIn K cd19 "_law_rows" = true) (k19 : PySem.W.keepIn K (.ref f19) = true)
    (a20 : PySem.W.nsIn K mainGlobals "_law_low" = some (some (.ref f20))) (l20 : K.lookup f20 = some ⟨oc20, od20, .func (PySem.W.fnOf "_law_low" "_law_low" (defArgs s_law_low) (defBody s_law_low) (defScope s_law_low) .none kV20 dc20 pm20 an20 cd20 ct20), sl20⟩) (c20 : PySem.W.codeIn K cd20 "_law_low" = true) (k20 : PySem.W.keepIn K (.ref f20) = true)
    (a21 : PySem.W.nsIn K mainGlobals "_law_up" = some (some (.ref f21))) (l21 : K.lookup f21 = some ⟨oc21, od21, .func (PySem.W.fnOf "_law_up" "_law_up" (defArgs s_law_up) (defBody s_law_up) (defScope s_law_up) .none kV21 dc21 pm21 an21 cd21 ct21), sl21⟩) (c21 : PySem.W.codeIn K cd21 "_law_up" = true) (k21 : PySem.W.keepIn K (.ref f21) = true)
    (a22 : PySem.W.nsIn K mainGlobals "_law_summed" = some (some (.ref f22))) (l22 : K.lookup f22 = some ⟨oc22, od22, .func (PySem.W.fnOf "_law_summed" "_law_summed" (defArgs s_law_summed) (defBody s_law_summed) (defScope s_law_summed) .none kV22 dc22 pm22 an22 cd22 ct22), sl22⟩) (c22 : PySem.W.codeIn K cd22 "_law_summed" = true) (k22 : PySem.W.keepIn K (.ref f22) = true)
    (a23 : PySem.W.nsIn K mainGlobals "_law_fault_walked" = some (some (.ref f23))) (l23 : K.lookup f23 = some ⟨oc23, od23, .func (PySem.W.fnOf "_law_fault_walked" "_law_fault_walked" (defArgs s_law_fault_walked) (defBody s_law_fault_walked) (defScope s_law_fault_walked) .none kV23 dc23 pm23 an23 cd23 ct23), sl23⟩) (c23 : PySem.W.codeIn K cd23 "_law_fault_walked" = true) (k23 : PySem.W.keepIn K (.ref f23) = true)
    (a24 : PySem.W.nsIn K mainGlobals "law" = some (some (.ref f24))) (l24 : K.lookup f24 = some ⟨oc24, od24, .func (PySem.W.fnOf "law" "law" (defArgs s_law) (defBody s_law) (defScope s_law) .none kV24 dc24 pm24 an24 cd24 ct24), sl24⟩) (c24 : PySem.W.codeIn K cd24 "law" = true) (k24 : PySem.W.keepIn K (.ref f24) = true)
    (y0 : PySem.W.nsIn K mainGlobals "LETTERS" = some (some (.str "abcdefgh" ctLETTERS)))
    (y1 : PySem.W.nsIn K mainGlobals "OPERATORS" = some (some (.ref oA1))) (yl1 : K.lookup oA1 = some ⟨.type "tuple", ob1, .seq #[.str "&" ot1_0, .str "|" ot1_1] on1, os1⟩)
    (y2 : PySem.W.nsIn K mainGlobals "LONG_DEPTH" = some (some (.int 9 ctLONG_DEPTH)))
    (y3 : PySem.W.nsIn K mainGlobals "LONG_SIZE" = some (some (.int 600 ctLONG_SIZE)))
    (z_len : PySem.W.nsIn K mainGlobals "len" = some none)
    (z_int : PySem.W.nsIn K mainGlobals "int" = some none)
    (z_list : PySem.W.nsIn K mainGlobals "list" = some none)
    (z_str : PySem.W.nsIn K mainGlobals "str" = some none)
    (z_tuple : PySem.W.nsIn K mainGlobals "tuple" = some none)
    (z_isinstance : PySem.W.nsIn K mainGlobals "isinstance" = some none)
    (z_bool : PySem.W.nsIn K mainGlobals "bool" = some none)
    (z_all : PySem.W.nsIn K mainGlobals "all" = some none)
    (z_any : PySem.W.nsIn K mainGlobals "any" = some none)
    (z_zip : PySem.W.nsIn K mainGlobals "zip" = some none)
    (z_sum : PySem.W.nsIn K mainGlobals "sum" = some none)
    (z_max : PySem.W.nsIn K mainGlobals "max" = some none)
    (z_range : PySem.W.nsIn K mainGlobals "range" = some none)
    (z_super : PySem.W.nsIn K mainGlobals "super" = some none)
    (z_set : PySem.W.nsIn K mainGlobals "set" = some none)
    (z_enumerate : PySem.W.nsIn K mainGlobals "enumerate" = some none)
    (e1 : PySem.W.nsIn K mainGlobals "FaultError" = some (some (.ref CF)))
    (e23a : PySem.W.subIn K (.ref CF) (.type "BaseException") = some true)
    (e23b : PySem.W.isClsIn K CF = true)
    (e23c : PySem.W.typeIn K (.ref CF) = some (.type "type"))
    (e20 : PySem.W.nsIn K cStatics "thirdparty.any" = some none)
    (e27 : (l.prog.main.scope.names.lookup ("super" : Str)).isSome = false)
    (e2_InvalidTerm : PySem.W.nsIn K mainGlobals "InvalidTerm" = some (some (.ref C_InvalidTerm)))
    (e3_InvalidTerm : K.lookup C_InvalidTerm = some (excClassObj nm_InvalidTerm eq_InvalidTerm C_InvalidTerm eN_InvalidTerm ebs_InvalidTerm ebm_InvalidTerm true esn_InvalidTerm esub_InvalidTerm eab_InvalidTerm ecol_InvalidTerm edd_InvalidTerm ek0_InvalidTerm ek1_InvalidTerm ek2_InvalidTerm ek3_InvalidTerm ek5_InvalidTerm "ValueError.__new__"))
    (e4_InvalidTerm : PySem.HandSPX.refsVE ebm_InvalidTerm = true)
    (e5_InvalidTerm : PySem.W.findIn K (.ref C_InvalidTerm) "__setattr__" = some (some (.builtin "object.__setattr__")))
    (e6_InvalidTerm : PySem.W.subIn K (.ref C_InvalidTerm) (.type "BaseException") = some true)
    (e7_InvalidTerm : PySem.W.typeIn K (.ref C_InvalidTerm) = some (.type "type"))
    (e8_InvalidTerm : PySem.W.keepIn K (.ref C_InvalidTerm) = true)
    (e13_InvalidTerm : PySem.W.findIn K (.ref C_InvalidTerm) "__init__" = some (some (.ref f_InvalidTerm)))
    (e9_InvalidTerm : K.lookup f_InvalidTerm = some ⟨eoc_InvalidTerm, eod_InvalidTerm, .func (PySem.W.ksFn "__init__" "InvalidTerm.__init__" (defArgs s_InvalidTerm) (defBody s_InvalidTerm) (defScope s_InvalidTerm) .none ekV_InvalidTerm edoc_InvalidTerm epm_InvalidTerm ean_InvalidTerm (.ref cda_InvalidTerm) ect_InvalidTerm ecc_InvalidTerm), eosl_InvalidTerm⟩)
    (e10_InvalidTerm : PySem.W.codeIn K (.ref cda_InvalidTerm) "InvalidTerm.__init__" = true)
    (e11_InvalidTerm : K.lookup cda_InvalidTerm = some ⟨eccl_InvalidTerm, ecdd_InvalidTerm, .fields evs_InvalidTerm, eccs_InvalidTerm⟩)
    (e12_InvalidTerm : evs_InvalidTerm[2]? = some (.str efile_InvalidTerm etf_InvalidTerm))
    (e14_InvalidTerm : (l.prog.main.file == efile_InvalidTerm) = true)
    (e15_InvalidTerm : K.lookup ecc_InvalidTerm = some ⟨ecl_InvalidTerm, ecld_InvalidTerm, .cell (some (.ref C_InvalidTerm)), ecsl_InvalidTerm⟩)
    (e16_InvalidTerm : PySem.W.ks_superIn K C_InvalidTerm C_InvalidTerm "__init__" = some (some (.builtin "ValueError.__init__")))
    (e17_InvalidTerm : PySem.W.mroIn K C_InvalidTerm (.ref C_InvalidTerm) = some true)
    (e18_InvalidTerm : PySem.W.subIn K (.ref C_InvalidTerm) (.type "ValueError") = some true)
    (e19t_InvalidTerm : PySem.W.excTail FvX.veTail4 ebm_InvalidTerm = true)
    (e21_InvalidTerm : PySem.W.findIn K (.ref C_InvalidTerm) "code" = some none)
    (e22_InvalidTerm : PySem.W.typeIn K (.ref f_InvalidTerm) = some (.type "function"))
    (e23d_InvalidTerm : PySem.W.subIn K (.ref C_InvalidTerm) (.ref CF) = some true)
    (e24_InvalidTerm : PySem.W.findIn K (.ref C_InvalidTerm) "__getattribute__" = some (some (.builtin "BaseException.__getattribute__")))
    (e25_InvalidTerm : PySem.W.findIn K (.ref C_InvalidTerm) "__getattr__" = some none)
    (e26_InvalidTerm : PySem.W.hasDictIn K C_InvalidTerm = true)
    (e31_InvalidTerm : PySem.W.subIn K (.ref C_InvalidTerm) (.type "StopIteration") = some false)
    (e2_InvalidBoard : PySem.W.nsIn K mainGlobals "InvalidBoard" = some (some (.ref C_InvalidBoard)))
    (e3_InvalidBoard : K.lookup C_InvalidBoard = some (excClassObj nm_InvalidBoard eq_InvalidBoard C_InvalidBoard eN_InvalidBoard ebs_InvalidBoard ebm_InvalidBoard true esn_InvalidBoard esub_InvalidBoard eab_InvalidBoard ecol_InvalidBoard edd_InvalidBoard ek0_InvalidBoard ek1_InvalidBoard ek2_InvalidBoard ek3_InvalidBoard ek5_InvalidBoard "ValueError.__new__"))
    (e4_InvalidBoard : PySem.HandSPX.refsVE ebm_InvalidBoard = true)
    (e5_InvalidBoard : PySem.W.findIn K (.ref C_InvalidBoard) "__setattr__" = some (some (.builtin "object.__setattr__")))
    (e6_InvalidBoard : PySem.W.subIn K (.ref C_InvalidBoard) (.type "BaseException") = some true)
    (e7_InvalidBoard : PySem.W.typeIn K (.ref C_InvalidBoard) = some (.type "type"))
    (e8_InvalidBoard : PySem.W.keepIn K (.ref C_InvalidBoard) = true)
    (e13_InvalidBoard : PySem.W.findIn K (.ref C_InvalidBoard) "__init__" = some (some (.ref f_InvalidBoard)))
    (e9_InvalidBoard : K.lookup f_InvalidBoard = some ⟨eoc_InvalidBoard, eod_InvalidBoard, .func (PySem.W.ksFn "__init__" "InvalidBoard.__init__" (defArgs s_InvalidBoard) (defBody s_InvalidBoard) (defScope s_InvalidBoard) .none ekV_InvalidBoard edoc_InvalidBoard epm_InvalidBoard ean_InvalidBoard (.ref cda_InvalidBoard) ect_InvalidBoard ecc_InvalidBoard), eosl_InvalidBoard⟩)
    (e10_InvalidBoard : PySem.W.codeIn K (.ref cda_InvalidBoard) "InvalidBoard.__init__" = true)
    (e11_InvalidBoard : K.lookup cda_InvalidBoard = some ⟨eccl_InvalidBoard, ecdd_InvalidBoard, .fields evs_InvalidBoard, eccs_InvalidBoard⟩)
    (e12_InvalidBoard : evs_InvalidBoard[2]? = some (.str efile_InvalidBoard etf_InvalidBoard))
    (e14_InvalidBoard : (l.prog.main.file == efile_InvalidBoard) = true)
    (e15_InvalidBoard : K.lookup ecc_InvalidBoard = some ⟨ecl_InvalidBoard, ecld_InvalidBoard, .cell (some (.ref C_InvalidBoard)), ecsl_InvalidBoard⟩)
    (e16_InvalidBoard : PySem.W.ks_superIn K C_InvalidBoard C_InvalidBoard "__init__" = some (some (.builtin "ValueError.__init__")))
    (e17_InvalidBoard : PySem.W.mroIn K C_InvalidBoard (.ref C_InvalidBoard) = some true)
    (e18_InvalidBoard : PySem.W.subIn K (.ref C_InvalidBoard) (.type "ValueError") = some true)
    (e19t_InvalidBoard : PySem.W.excTail FvX.veTail4 ebm_InvalidBoard = true)
    (e21_InvalidBoard : PySem.W.findIn K (.ref C_InvalidBoard) "code" = some none)
    (e22_InvalidBoard : PySem.W.typeIn K (.ref f_InvalidBoard) = some (.type "function"))
    (e23d_InvalidBoard : PySem.W.subIn K (.ref C_InvalidBoard) (.ref CF) = some true)
    (e24_InvalidBoard : PySem.W.findIn K (.ref C_InvalidBoard) "__getattribute__" = some (some (.builtin "BaseException.__getattribute__")))
    (e25_InvalidBoard : PySem.W.findIn K (.ref C_InvalidBoard) "__getattr__" = some none)
    (e26_InvalidBoard : PySem.W.hasDictIn K C_InvalidBoard = true)
    (e31_InvalidBoard : PySem.W.subIn K (.ref C_InvalidBoard) (.type "StopIteration") = some false)
    (e2_InvalidPlace : PySem.W.nsIn K mainGlobals "InvalidPlace" = some (some (.ref C_InvalidPlace)))
    (e3_InvalidPlace : K.lookup C_InvalidPlace = some (excClassObj nm_InvalidPlace eq_InvalidPlace C_InvalidPlace eN_InvalidPlace ebs_InvalidPlace ebm_InvalidPlace true esn_InvalidPlace esub_InvalidPlace eab_InvalidPlace ecol_InvalidPlace edd_InvalidPlace ek0_InvalidPlace ek1_InvalidPlace ek2_InvalidPlace ek3_InvalidPlace ek5_InvalidPlace "ValueError.__new__"))
    (e4_InvalidPlace : PySem.HandSPX.refsVE ebm_InvalidPlace = true)
    (e5_InvalidPlace : PySem.W.findIn K (.ref C_InvalidPlace) "__setattr__" = some (some (.builtin "object.__setattr__")))
    (e6_InvalidPlace : PySem.W.subIn K (.ref C_InvalidPlace) (.type "BaseException") = some true)
    (e7_InvalidPlace : PySem.W.typeIn K (.ref C_InvalidPlace) = some (.type "type"))
    (e8_InvalidPlace : PySem.W.keepIn K (.ref C_InvalidPlace) = true)
    (e13_InvalidPlace : PySem.W.findIn K (.ref C_InvalidPlace) "__init__" = some (some (.ref f_InvalidPlace)))
    (e9_InvalidPlace : K.lookup f_InvalidPlace = some ⟨eoc_InvalidPlace, eod_InvalidPlace, .func (PySem.W.ksFn "__init__" "InvalidPlace.__init__" (defArgs s_InvalidPlace) (defBody s_InvalidPlace) (defScope s_InvalidPlace) .none ekV_InvalidPlace edoc_InvalidPlace epm_InvalidPlace ean_InvalidPlace (.ref cda_InvalidPlace) ect_InvalidPlace ecc_InvalidPlace), eosl_InvalidPlace⟩)
    (e10_InvalidPlace : PySem.W.codeIn K (.ref cda_InvalidPlace) "InvalidPlace.__init__" = true)
    (e11_InvalidPlace : K.lookup cda_InvalidPlace = some ⟨eccl_InvalidPlace, ecdd_InvalidPlace, .fields evs_InvalidPlace, eccs_InvalidPlace⟩)
    (e12_InvalidPlace : evs_InvalidPlace[2]? = some (.str efile_InvalidPlace etf_InvalidPlace))
    (e14_InvalidPlace : (l.prog.main.file == efile_InvalidPlace) = true)
    (e15_InvalidPlace : K.lookup ecc_InvalidPlace = some ⟨ecl_InvalidPlace, ecld_InvalidPlace, .cell (some (.ref C_InvalidPlace)), ecsl_InvalidPlace⟩)
    (e16_InvalidPlace : PySem.W.ks_superIn K C_InvalidPlace C_InvalidPlace "__init__" = some (some (.builtin "ValueError.__init__")))
    (e17_InvalidPlace : PySem.W.mroIn K C_InvalidPlace (.ref C_InvalidPlace) = some true)
    (e18_InvalidPlace : PySem.W.subIn K (.ref C_InvalidPlace) (.type "ValueError") = some true)
    (e19t_InvalidPlace : PySem.W.excTail FvX.veTail4 ebm_InvalidPlace = true)
    (e21_InvalidPlace : PySem.W.findIn K (.ref C_InvalidPlace) "code" = some none)
    (e28_InvalidPlace : PySem.W.findIn K (.ref C_InvalidPlace) "place" = some none)
    (e29_InvalidPlace : PySem.W.isClsIn K C_InvalidPlace = true)
    (e30_InvalidPlace : PySem.W.subIn K (.ref C_InvalidPlace) (.ref C_InvalidPlace) = some true)
    (e22_InvalidPlace : PySem.W.typeIn K (.ref f_InvalidPlace) = some (.type "function"))
    (e23d_InvalidPlace : PySem.W.subIn K (.ref C_InvalidPlace) (.ref CF) = some true)
    (e24_InvalidPlace : PySem.W.findIn K (.ref C_InvalidPlace) "__getattribute__" = some (some (.builtin "BaseException.__getattribute__")))
    (e25_InvalidPlace : PySem.W.findIn K (.ref C_InvalidPlace) "__getattr__" = some none)
    (e26_InvalidPlace : PySem.W.hasDictIn K C_InvalidPlace = true)
    (e31_InvalidPlace : PySem.W.subIn K (.ref C_InvalidPlace) (.type "StopIteration") = some false)
    (e2_InvalidReading : PySem.W.nsIn K mainGlobals "InvalidReading" = some (some (.ref C_InvalidReading)))
    (e3_InvalidReading : K.lookup C_InvalidReading = some (excClassObj nm_InvalidReading eq_InvalidReading C_InvalidReading eN_InvalidReading ebs_InvalidReading ebm_InvalidReading true esn_InvalidReading esub_InvalidReading eab_InvalidReading ecol_InvalidReading edd_InvalidReading ek0_InvalidReading ek1_InvalidReading ek2_InvalidReading ek3_InvalidReading ek5_InvalidReading "ValueError.__new__"))
    (e4_InvalidReading : PySem.HandSPX.refsVE ebm_InvalidReading = true)
    (e5_InvalidReading : PySem.W.findIn K (.ref C_InvalidReading) "__setattr__" = some (some (.builtin "object.__setattr__")))
    (e6_InvalidReading : PySem.W.subIn K (.ref C_InvalidReading) (.type "BaseException") = some true)
    (e7_InvalidReading : PySem.W.typeIn K (.ref C_InvalidReading) = some (.type "type"))
    (e8_InvalidReading : PySem.W.keepIn K (.ref C_InvalidReading) = true)
    (e13_InvalidReading : PySem.W.findIn K (.ref C_InvalidReading) "__init__" = some (some (.ref f_InvalidReading)))
    (e9_InvalidReading : K.lookup f_InvalidReading = some ⟨eoc_InvalidReading, eod_InvalidReading, .func (PySem.W.ksFn "__init__" "InvalidReading.__init__" (defArgs s_InvalidReading) (defBody s_InvalidReading) (defScope s_InvalidReading) .none ekV_InvalidReading edoc_InvalidReading epm_InvalidReading ean_InvalidReading (.ref cda_InvalidReading) ect_InvalidReading ecc_InvalidReading), eosl_InvalidReading⟩)
    (e10_InvalidReading : PySem.W.codeIn K (.ref cda_InvalidReading) "InvalidReading.__init__" = true)
    (e11_InvalidReading : K.lookup cda_InvalidReading = some ⟨eccl_InvalidReading, ecdd_InvalidReading, .fields evs_InvalidReading, eccs_InvalidReading⟩)
    (e12_InvalidReading : evs_InvalidReading[2]? = some (.str efile_InvalidReading etf_InvalidReading))
    (e14_InvalidReading : (l.prog.main.file == efile_InvalidReading) = true)
    (e15_InvalidReading : K.lookup ecc_InvalidReading = some ⟨ecl_InvalidReading, ecld_InvalidReading, .cell (some (.ref C_InvalidReading)), ecsl_InvalidReading⟩)
    (e16_InvalidReading : PySem.W.ks_superIn K C_InvalidReading C_InvalidReading "__init__" = some (some (.builtin "ValueError.__init__")))
    (e17_InvalidReading : PySem.W.mroIn K C_InvalidReading (.ref C_InvalidReading) = some true)
    (e18_InvalidReading : PySem.W.subIn K (.ref C_InvalidReading) (.type "ValueError") = some true)
    (e19t_InvalidReading : PySem.W.excTail FvX.veTail4 ebm_InvalidReading = true)
    (e21_InvalidReading : PySem.W.findIn K (.ref C_InvalidReading) "code" = some none)
    (e28_InvalidReading : PySem.W.findIn K (.ref C_InvalidReading) "letter" = some none)
    (e29_InvalidReading : PySem.W.isClsIn K C_InvalidReading = true)
    (e30_InvalidReading : PySem.W.subIn K (.ref C_InvalidReading) (.ref C_InvalidReading) = some true)
    (e22_InvalidReading : PySem.W.typeIn K (.ref f_InvalidReading) = some (.type "function"))
    (e23d_InvalidReading : PySem.W.subIn K (.ref C_InvalidReading) (.ref CF) = some true)
    (e24_InvalidReading : PySem.W.findIn K (.ref C_InvalidReading) "__getattribute__" = some (some (.builtin "BaseException.__getattribute__")))
    (e25_InvalidReading : PySem.W.findIn K (.ref C_InvalidReading) "__getattr__" = some none)
    (e26_InvalidReading : PySem.W.hasDictIn K C_InvalidReading = true)
    (e31_InvalidReading : PySem.W.subIn K (.ref C_InvalidReading) (.type "StopIteration") = some false)
    (e2_TooManyPlaces : PySem.W.nsIn K mainGlobals "TooManyPlaces" = some (some (.ref C_TooManyPlaces)))
    (e3_TooManyPlaces : K.lookup C_TooManyPlaces = some (excClassObj nm_TooManyPlaces eq_TooManyPlaces C_TooManyPlaces eN_TooManyPlaces ebs_TooManyPlaces ebm_TooManyPlaces true esn_TooManyPlaces esub_TooManyPlaces eab_TooManyPlaces ecol_TooManyPlaces edd_TooManyPlaces ek0_TooManyPlaces ek1_TooManyPlaces ek2_TooManyPlaces ek3_TooManyPlaces ek5_TooManyPlaces "ValueError.__new__"))
    (e4_TooManyPlaces : PySem.HandSPX.refsVE ebm_TooManyPlaces = true)
    (e5_TooManyPlaces : PySem.W.findIn K (.ref C_TooManyPlaces) "__setattr__" = some (some (.builtin "object.__setattr__")))
    (e6_TooManyPlaces : PySem.W.subIn K (.ref C_TooManyPlaces) (.type "BaseException") = some true)
    (e7_TooManyPlaces : PySem.W.typeIn K (.ref C_TooManyPlaces) = some (.type "type"))
    (e8_TooManyPlaces : PySem.W.keepIn K (.ref C_TooManyPlaces) = true)
    (e13_TooManyPlaces : PySem.W.findIn K (.ref C_TooManyPlaces) "__init__" = some (some (.ref f_TooManyPlaces)))
    (e9_TooManyPlaces : K.lookup f_TooManyPlaces = some ⟨eoc_TooManyPlaces, eod_TooManyPlaces, .func (PySem.W.ksFn "__init__" "TooManyPlaces.__init__" (defArgs s_TooManyPlaces) (defBody s_TooManyPlaces) (defScope s_TooManyPlaces) .none ekV_TooManyPlaces edoc_TooManyPlaces epm_TooManyPlaces ean_TooManyPlaces (.ref cda_TooManyPlaces) ect_TooManyPlaces ecc_TooManyPlaces), eosl_TooManyPlaces⟩)
    (e10_TooManyPlaces : PySem.W.codeIn K (.ref cda_TooManyPlaces) "TooManyPlaces.__init__" = true)
    (e11_TooManyPlaces : K.lookup cda_TooManyPlaces = some ⟨eccl_TooManyPlaces, ecdd_TooManyPlaces, .fields evs_TooManyPlaces, eccs_TooManyPlaces⟩)
    (e12_TooManyPlaces : evs_TooManyPlaces[2]? = some (.str efile_TooManyPlaces etf_TooManyPlaces))
    (e14_TooManyPlaces : (l.prog.main.file == efile_TooManyPlaces) = true)
    (e15_TooManyPlaces : K.lookup ecc_TooManyPlaces = some ⟨ecl_TooManyPlaces, ecld_TooManyPlaces, .cell (some (.ref C_TooManyPlaces)), ecsl_TooManyPlaces⟩)
    (e16_TooManyPlaces : PySem.W.ks_superIn K C_TooManyPlaces C_TooManyPlaces "__init__" = some (some (.builtin "ValueError.__init__")))
    (e17_TooManyPlaces : PySem.W.mroIn K C_TooManyPlaces (.ref C_TooManyPlaces) = some true)
    (e18_TooManyPlaces : PySem.W.subIn K (.ref C_TooManyPlaces) (.type "ValueError") = some true)
    (e19t_TooManyPlaces : PySem.W.excTail FvX.veTail4 ebm_TooManyPlaces = true)
    (e21_TooManyPlaces : PySem.W.findIn K (.ref C_TooManyPlaces) "code" = some none)
    (e28_TooManyPlaces : PySem.W.findIn K (.ref C_TooManyPlaces) "limit" = some none)
    (e29_TooManyPlaces : PySem.W.isClsIn K C_TooManyPlaces = true)
    (e30_TooManyPlaces : PySem.W.subIn K (.ref C_TooManyPlaces) (.ref C_TooManyPlaces) = some true)
    (e22_TooManyPlaces : PySem.W.typeIn K (.ref f_TooManyPlaces) = some (.type "function"))
    (e23d_TooManyPlaces : PySem.W.subIn K (.ref C_TooManyPlaces) (.ref CF) = some true)
    (e24_TooManyPlaces : PySem.W.findIn K (.ref C_TooManyPlaces) "__getattribute__" = some (some (.builtin "BaseException.__getattribute__")))
    (e25_TooManyPlaces : PySem.W.findIn K (.ref C_TooManyPlaces) "__getattr__" = some none)
    (e26_TooManyPlaces : PySem.W.hasDictIn K C_TooManyPlaces = true)
    (e31_TooManyPlaces : PySem.W.subIn K (.ref C_TooManyPlaces) (.type "StopIteration") = some false)
    (aC_Board : PySem.W.nsIn K mainGlobals "Board" = some (some (.ref C_Board)))
    (pg_Board : PySem.W.plainGet K C_Board Str.empty = true)
    (hd_Board : PySem.W.hasDictIn K C_Board = true)
    (po_Board : PySem.W.plainOver K C_Board = true)
    (sa_Board : PySem.W.findIn K (.ref C_Board) "__setattr__" = some (some (.builtin "object.__setattr__")))
    (mk_Board : PySem.W.makesIn K C_Board = true)
    (kc_Board : PySem.W.keepIn K (.ref C_Board) = true)
    (na_Board_lines : PySem.W.findIn K (.ref C_Board) "lines" = some none)
    (na_Board_above : PySem.W.findIn K (.ref C_Board) "above" = some none)
    (na_Board_below : PySem.W.findIn K (.ref C_Board) "below" = some none)
    (na_Board_lows : PySem.W.findIn K (.ref C_Board) "lows" = some none)
    (na_Board_highs : PySem.W.findIn K (.ref C_Board) "highs" = some none)
    (na_Board_least : PySem.W.findIn K (.ref C_Board) "least" = some none)
    (na_Board_greatest : PySem.W.findIn K (.ref C_Board) "greatest" = some none)
    (a_Board_init : PySem.W.findIn K (.ref C_Board) "__init__" = some (some (.ref f_Board_init)))
    (i_Board_init : PySem.W.isFn K (.ref f_Board_init) = true)
    (l_Board_init : K.lookup f_Board_init = some ⟨oc_Board_init, od_Board_init, .func (PySem.W.fnOf "__init__" "Board.__init__" (defArgs FvO.s_init__of__Board) (defBody FvO.s_init__of__Board) (defScope FvO.s_init__of__Board) .none kV_Board_init dc_Board_init pm_Board_init an_Board_init cd_Board_init ct_Board_init), sl_Board_init⟩)
    (c_Board_init : PySem.W.codeIn K cd_Board_init "Board.__init__" = true)
    (k_Board_init : PySem.W.keepIn K (.ref f_Board_init) = true)
    (cty_Board : PySem.W.typeIn K (.ref C_Board) = some mc_Board)
    (crd_Board : PySem.W.readsIn K C_Board mc_Board = true)
    (cga_Board : PySem.W.specialIn K (.ref C_Board) "__getattribute__" = some (some (.builtin "type.__getattribute__")))
    (g_Board_chain : PySem.W.findCls K (.ref C_Board) mc_Board "chain" = some (.get (.builtin "classmethod.__get__") (.ref pr_Board_chain) .none (.ref C_Board)))
    (r_Board_chain : PySem.W.recIn K pr_Board_chain "classmethod" = some (.ref f_Board_chain :: re_Board_chain))
    (i_Board_chain : PySem.W.fnIn K f_Board_chain = true)
    (l_Board_chain : K.lookup f_Board_chain = some ⟨oc_Board_chain, od_Board_chain, .func (PySem.W.fnOf "chain" "Board.chain" (defArgs FvO.s_chain__of__Board) (defBody FvO.s_chain__of__Board) (defScope FvO.s_chain__of__Board) .none kV_Board_chain dc_Board_chain pm_Board_chain an_Board_chain cd_Board_chain ct_Board_chain), sl_Board_chain⟩)
    (c_Board_chain : PySem.W.codeIn K cd_Board_chain "Board.chain" = true)
    (k_Board_chain : PySem.W.keepIn K (.ref f_Board_chain) = true)
    (g_Board_fan : PySem.W.findCls K (.ref C_Board) mc_Board "fan" = some (.get (.builtin "staticmethod.__get__") (.ref pr_Board_fan) .none (.ref C_Board)))
    (r_Board_fan : PySem.W.recIn K pr_Board_fan "staticmethod" = some (.ref f_Board_fan :: re_Board_fan))
    (l_Board_fan : K.lookup f_Board_fan = some ⟨oc_Board_fan, od_Board_fan, .func (PySem.W.fnOf "fan" "Board.fan" (defArgs FvO.s_fan__of__Board) (defBody FvO.s_fan__of__Board) (defScope FvO.s_fan__of__Board) .none kV_Board_fan dc_Board_fan pm_Board_fan an_Board_fan cd_Board_fan ct_Board_fan), sl_Board_fan⟩)
    (c_Board_fan : PySem.W.codeIn K cd_Board_fan "Board.fan" = true)
    (k_Board_fan : PySem.W.keepIn K (.ref f_Board_fan) = true)
    (a_Board_rows : PySem.W.findIn K (.ref C_Board) "rows" = some (some (.ref f_Board_rows)))
    (i_Board_rows : PySem.W.isFn K (.ref f_Board_rows) = true)
    (l_Board_rows : K.lookup f_Board_rows = some ⟨oc_Board_rows, od_Board_rows, .func (PySem.W.fnOf "rows" "Board.rows" (defArgs FvO.s_rows__of__Board) (defBody FvO.s_rows__of__Board) (defScope FvO.s_rows__of__Board) .none kV_Board_rows dc_Board_rows pm_Board_rows an_Board_rows cd_Board_rows ct_Board_rows), sl_Board_rows⟩)
    (c_Board_rows : PySem.W.codeIn K cd_Board_rows "Board.rows" = true)
    (k_Board_rows : PySem.W.keepIn K (.ref f_Board_rows) = true)
    (a_Board_has_place : PySem.W.findIn K (.ref C_Board) "has_place" = some (some (.ref f_Board_has_place)))
    (i_Board_has_place : PySem.W.isFn K (.ref f_Board_has_place) = true)
    (l_Board_has_place : K.lookup f_Board_has_place = some ⟨oc_Board_has_place, od_Board_has_place, .func (PySem.W.fnOf "has_place" "Board.has_place" (defArgs FvO.s_has_place__of__Board) (defBody FvO.s_has_place__of__Board) (defScope FvO.s_has_place__of__Board) .none kV_Board_has_place dc_Board_has_place pm_Board_has_place an_Board_has_place cd_Board_has_place ct_Board_has_place), sl_Board_has_place⟩)
    (c_Board_has_place : PySem.W.codeIn K cd_Board_has_place "Board.has_place" = true)
    (k_Board_has_place : PySem.W.keepIn K (.ref f_Board_has_place) = true)
    (a_Board_check_places : PySem.W.findIn K (.ref C_Board) "check_places" = some (some (.ref f_Board_check_places)))
    (i_Board_check_places : PySem.W.isFn K (.ref f_Board_check_places) = true)
    (l_Board_check_places : K.lookup f_Board_check_places = some ⟨oc_Board_check_places, od_Board_check_places, .func (PySem.W.fnOf "check_places" "Board.check_places" (defArgs FvO.s_check_places__of__Board) (defBody FvO.s_check_places__of__Board) (defScope FvO.s_check_places__of__Board) .none kV_Board_check_places dc_Board_check_places pm_Board_check_places an_Board_check_places cd_Board_check_places ct_Board_check_places), sl_Board_check_places⟩)
    (c_Board_check_places : PySem.W.codeIn K cd_Board_check_places "Board.check_places" = true)
    (k_Board_check_places : PySem.W.keepIn K (.ref f_Board_check_places) = true)
    (a_Board_is_below : PySem.W.findIn K (.ref C_Board) "is_below" = some (some (.ref f_Board_is_below)))
    (i_Board_is_below : PySem.W.isFn K (.ref f_Board_is_below) = true)
    (l_Board_is_below : K.lookup f_Board_is_below = some ⟨oc_Board_is_below, od_Board_is_below, .func (PySem.W.fnOf "is_below" "Board.is_below" (defArgs FvO.s_is_below__of__Board) (defBody FvO.s_is_below__of__Board) (defScope FvO.s_is_below__of__Board) .none kV_Board_is_below dc_Board_is_below pm_Board_is_below an_Board_is_below cd_Board_is_below ct_Board_is_below), sl_Board_is_below⟩)
    (c_Board_is_below : PySem.W.codeIn K cd_Board_is_below "Board.is_below" = true)
    (k_Board_is_below : PySem.W.keepIn K (.ref f_Board_is_below) = true)
    (a_Board_low : PySem.W.findIn K (.ref C_Board) "low" = some (some (.ref f_Board_low)))
    (i_Board_low : PySem.W.isFn K (.ref f_Board_low) = true)
    (l_Board_low : K.lookup f_Board_low = some ⟨oc_Board_low, od_Board_low, .func (PySem.W.fnOf "low" "Board.low" (defArgs FvO.s_low__of__Board) (defBody FvO.s_low__of__Board) (defScope FvO.s_low__of__Board) .none kV_Board_low dc_Board_low pm_Board_low an_Board_low cd_Board_low ct_Board_low), sl_Board_low⟩)
    (c_Board_low : PySem.W.codeIn K cd_Board_low "Board.low" = true)
    (k_Board_low : PySem.W.keepIn K (.ref f_Board_low) = true)
    (a_Board_up : PySem.W.findIn K (.ref C_Board) "up" = some (some (.ref f_Board_up)))
    (i_Board_up : PySem.W.isFn K (.ref f_Board_up) = true)
    (l_Board_up : K.lookup f_Board_up = some ⟨oc_Board_up, od_Board_up, .func (PySem.W.fnOf "up" "Board.up" (defArgs FvO.s_up__of__Board) (defBody FvO.s_up__of__Board) (defScope FvO.s_up__of__Board) .none kV_Board_up dc_Board_up pm_Board_up an_Board_up cd_Board_up ct_Board_up), sl_Board_up⟩)
    (c_Board_up : PySem.W.codeIn K cd_Board_up "Board.up" = true)
    (k_Board_up : PySem.W.keepIn K (.ref f_Board_up) = true)
    (a_Board_spreads : PySem.W.findIn K (.ref C_Board) "spreads" = some (some (.ref f_Board_spreads)))
    (i_Board_spreads : PySem.W.isFn K (.ref f_Board_spreads) = true)
    (l_Board_spreads : K.lookup f_Board_spreads = some ⟨oc_Board_spreads, od_Board_spreads, .func (PySem.W.fnOf "spreads" "Board.spreads" (defArgs FvO.s_spreads__of__Board) (defBody FvO.s_spreads__of__Board) (defScope FvO.s_spreads__of__Board) .none kV_Board_spreads dc_Board_spreads pm_Board_spreads an_Board_spreads cd_Board_spreads ct_Board_spreads), sl_Board_spreads⟩)
    (c_Board_spreads : PySem.W.codeIn K cd_Board_spreads "Board.spreads" = true)
    (k_Board_spreads : PySem.W.keepIn K (.ref f_Board_spreads) = true)
    (a_Board_turned : PySem.W.findIn K (.ref C_Board) "turned" = some (some (.ref f_Board_turned)))
    (i_Board_turned : PySem.W.isFn K (.ref f_Board_turned) = true)
    (l_Board_turned : K.lookup f_Board_turned = some ⟨oc_Board_turned, od_Board_turned, .func (PySem.W.fnOf "turned" "Board.turned" (defArgs FvO.s_turned__of__Board) (defBody FvO.s_turned__of__Board) (defScope FvO.s_turned__of__Board) .none kV_Board_turned dc_Board_turned pm_Board_turned an_Board_turned cd_Board_turned ct_Board_turned), sl_Board_turned⟩)
    (c_Board_turned : PySem.W.codeIn K cd_Board_turned "Board.turned" = true)
    (k_Board_turned : PySem.W.keepIn K (.ref f_Board_turned) = true)
    (a_Board_product : PySem.W.findIn K (.ref C_Board) "product" = some (some (.ref f_Board_product)))
    (i_Board_product : PySem.W.isFn K (.ref f_Board_product) = true)
    (l_Board_product : K.lookup f_Board_product = some ⟨oc_Board_product, od_Board_product, .func (PySem.W.fnOf "product" "Board.product" (defArgs FvO.s_product__of__Board) (defBody FvO.s_product__of__Board) (defScope FvO.s_product__of__Board) .none kV_Board_product dc_Board_product pm_Board_product an_Board_product cd_Board_product ct_Board_product), sl_Board_product⟩)
    (c_Board_product : PySem.W.codeIn K cd_Board_product "Board.product" = true)
    (k_Board_product : PySem.W.keepIn K (.ref f_Board_product) = true)
    (a_Board_len : PySem.W.findIn K (.ref C_Board) "__len__" = some (some (.ref f_Board_len)))
    (i_Board_len : PySem.W.isFn K (.ref f_Board_len) = true)
    (l_Board_len : K.lookup f_Board_len = some ⟨oc_Board_len, od_Board_len, .func (PySem.W.fnOf "__len__" "Board.__len__" (defArgs FvO.s_len__of__Board) (defBody FvO.s_len__of__Board) (defScope FvO.s_len__of__Board) .none kV_Board_len dc_Board_len pm_Board_len an_Board_len cd_Board_len ct_Board_len), sl_Board_len⟩)
    (c_Board_len : PySem.W.codeIn K cd_Board_len "Board.__len__" = true)
    (k_Board_len : PySem.W.keepIn K (.ref f_Board_len) = true)
    (cva : PySem.W.findCls K (.ref C_Board) mc_Board "MAX_PLACES" = some (.val (.int 60 tk_Board)))
    (bg_low : PySem.W.specialIn K (.ref f_Board_low) "__get__" = some (some (.builtin "function.__get__")))
    (bt_low : PySem.W.takesIn K (.ref f_Board_low) = some false)
    (bf_low : PySem.W.fnIn K f_Board_low = true)
    (bg_up : PySem.W.specialIn K (.ref f_Board_up) "__get__" = some (some (.builtin "function.__get__")))
    (bt_up : PySem.W.takesIn K (.ref f_Board_up) = some false)
    (bf_up : PySem.W.fnIn K f_Board_up = true)
    : ∃ fd : FuncData, (∀ (s : Shared) (v : Value), BindsTo s fd ⟨[v], []⟩ [("_law_script", v)]) ∧ ∀ base : Heap, K.In base → base.Ns mainGlobals mg → FnOk l.prog w K mg base CX0 11 fa fd ["_law_script"] (spLaw K) := by
  have e := hfa.symm.trans (PySem.W.mg_of X G a24)
  cases e
  have F1 := fun_mk (st := s_indexes_in) l1 c1 k1
  have g1 := PySem.W.mg_of X G a1
  have b1 := F1.binds (ps := ["mask"]) fun _ _ _ _ _ _ us hl => match us, hl with | [_], _ => rfl
  have F2 := fun_mk (st := s_first_in) l2 c2 k2
  have g2 := PySem.W.mg_of X G a2
  have b2 := F2.binds (ps := ["mask"]) fun _ _ _ _ _ _ us hl => match us, hl with | [_], _ => rfl
  have F3 := fun_mk (st := s_find_fault) l3 c3 k3
  have g3 := PySem.W.mg_of X G a3
  have b3 := F3.binds (ps := ["board"]) fun _ _ _ _ _ _ us hl => match us, hl with | [_], _ => rfl
  have F4 := fun_mk (st := s_covers_of) l4 c4 k4
  have g4 := PySem.W.mg_of X G a4
  have b4 := F4.binds (ps := ["above", "below"]) fun _ _ _ _ _ _ us hl => match us, hl with | [_, _], _ => rfl
  have F5 := fun_mk (st := s_find_ladder) l5 c5 k5
  have g5 := PySem.W.mg_of X G a5
  have b5 := F5.binds (ps := ["covers", "above", "below", "highs"]) fun _ _ _ _ _ _ us hl => match us, hl with | [_, _, _, _], _ => rfl
  have F6 := fun_mk (st := s_find_fan) l6 c6 k6
  have g6 := PySem.W.mg_of X G a6
  have b6 := F6.binds (ps := ["covers", "below", "highs"]) fun _ _ _ _ _ _ us hl => match us, hl with | [_, _, _], _ => rfl
  have F7 := fun_mk (st := s_is_fault) l7 c7 k7
  have g7 := PySem.W.mg_of X G a7
  have b7 := F7.binds (ps := ["board", "fault"]) fun _ _ _ _ _ _ us hl => match us, hl with | [_, _], _ => rfl
  have F8 := fun_mk (st := s_are_five_places) l8 c8 k8
  have g8 := PySem.W.mg_of X G a8
  have b8 := F8.binds (ps := ["board", "value"]) fun _ _ _ _ _ _ us hl => match us, hl with | [_, _], _ => rfl
  have F9 := fun_mk (st := s_are_bound) l9 c9 k9
  have g9 := PySem.W.mg_of X G a9
  have b9 := F9.binds (ps := ["board", "pairs", "low", "up"]) fun _ _ _ _ _ _ us hl => match us, hl with | [_, _, _, _], _ => rfl
  have F10 := fun_mk (st := s_are_square) l10 c10 k10
  have g10 := PySem.W.mg_of X G a10
  have b10 := F10.binds (ps := ["rows", "most"]) fun _ _ _ _ _ _ us hl => match us, hl with | [_, _], _ => rfl
  have F11 := fun_mk (st := s_columns_of) l11 c11 k11
  have g11 := PySem.W.mg_of X G a11
  have b11 := F11.binds (ps := ["rows"]) fun _ _ _ _ _ _ us hl => match us, hl with | [_], _ => rfl
  have F12 := fun_mk (st := s_masks_of) l12 c12 k12
  have g12 := PySem.W.mg_of X G a12
  have b12 := F12.binds (ps := ["rows"]) fun _ _ _ _ _ _ us hl => match us, hl with | [_], _ => rfl
  have F13 := fun_mk (st := s_bound_table) l13 c13 k13
  have g13 := PySem.W.mg_of X G a13
  have b13 := F13.binds (ps := ["masks"]) fun _ _ _ _ _ _ us hl => match us, hl with | [_], _ => rfl
  have F14 := fun_mk (st := s_law_source) l14 c14 k14
  have g14 := PySem.W.mg_of X G a14
  have b14 := F14.binds (ps := ["_law_script"]) fun _ _ _ _ _ _ us hl => match us, hl with | [_], _ => rfl
  have F15 := fun_mk (st := s_law_take) l15 c15 k15
  have g15 := PySem.W.mg_of X G a15
  have b15 := F15.binds (ps := ["_law_source_here", "_law_many"]) fun _ _ _ _ _ _ us hl => match us, hl with | [_, _], _ => rfl
  have F16 := fun_mk (st := s_law_pick) l16 c16 k16
  have g16 := PySem.W.mg_of X G a16
  have b16 := F16.binds (ps := ["_law_source_here", "_law_row"]) fun _ _ _ _ _ _ us hl => match us, hl with | [_, _], _ => rfl
  have F17 := fun_mk (st := s_law_mixed) l17 c17 k17
  have g17 := PySem.W.mg_of X G a17
  have b17 := F17.binds (ps := ["_law_source_here", "_law_row"]) fun _ _ _ _ _ _ us hl => match us, hl with | [_, _], _ => rfl
  have F18 := fun_mk (st := s_law_index) l18 c18 k18
  have g18 := PySem.W.mg_of X G a18
  have b18 := F18.binds (ps := ["_law_one", "_law_at"]) fun _ _ _ _ _ _ us hl => match us, hl with | [_, _], _ => rfl
  have F19 := fun_mk (st := s_law_rows) l19 c19 k19
  have g19 := PySem.W.mg_of X G a19
  have b19 := F19.binds (ps := ["_law_masks"]) fun _ _ _ _ _ _ us hl => match us, hl with | [_], _ => rfl
  have F20 := fun_mk (st := s_law_low) l20 c20 k20
  have g20 := PySem.W.mg_of X G a20
  have b20 := F20.binds (ps := ["_law_rows_here", "_law_x", "_law_y"]) fun _ _ _ _ _ _ us hl => match us, hl with | [_, _, _], _ => rfl
  have F21 := fun_mk (st := s_law_up) l21 c21 k21
  have g21 := PySem.W.mg_of X G a21
  have b21 := F21.binds (ps := ["_law_rows_here", "_law_x", "_law_y"]) fun _ _ _ _ _ _ us hl => match us, hl with | [_, _, _], _ => rfl
  have F22 := fun_mk (st := s_law_summed) l22 c22 k22
  have g22 := PySem.W.mg_of X G a22
  have b22 := F22.binds (ps := ["_law_low_here", "_law_rows_here", "_law_high"]) fun _ _ _ _ _ _ us hl => match us, hl with | [_, _, _], _ => rfl
  have F23 := fun_mk (st := s_law_fault_walked) l23 c23 k23
  have g23 := PySem.W.mg_of X G a23
  have b23 := F23.binds (ps := ["_law_rows_here", "_law_fault", "_law_kind"]) fun _ _ _ _ _ _ us hl => match us, hl with | [_, _, _], _ => rfl
  have F24 := fun_mk (st := s_law) l24 c24 k24
  have g24 := PySem.W.mg_of X G a24
  have g_LETTERS := PySem.W.mg_of X G y0
  have h_OPERATORS : ∀ H, SqT K H oA1 [.str "&", .str "|"] := fun H => .inr ⟨_, _, _, yl1, rfl, rfl, (Nat.le_of_ble_eq_true rfl), (.cons ⟨_, rfl⟩ (.cons ⟨_, rfl⟩ .nil))⟩
  have g_OPERATORS := PySem.W.mg_of X G y1
  have g_LONG_DEPTH := PySem.W.mg_of X G y2
  have g_LONG_SIZE := PySem.W.mg_of X G y3
  have m_len := PySem.W.mg_none_of X G z_len
  have m_int := PySem.W.mg_none_of X G z_int
  have m_list := PySem.W.mg_none_of X G z_list
  have m_str := PySem.W.mg_none_of X G z_str
  have m_tuple := PySem.W.mg_none_of X G z_tuple
  have m_isinstance := PySem.W.mg_none_of X G z_isinstance
  have m_bool := PySem.W.mg_none_of X G z_bool
  have m_all := PySem.W.mg_none_of X G z_all
  have m_any := PySem.W.mg_none_of X G z_any
  have m_zip := PySem.W.mg_none_of X G z_zip
  have m_sum := PySem.W.mg_none_of X G z_sum
  have m_max := PySem.W.mg_none_of X G z_max
  have m_range := PySem.W.mg_none_of X G z_range
  have m_super := PySem.W.mg_none_of X G z_super
  have m_set := PySem.W.mg_none_of X G z_set
  have m_enumerate := PySem.W.mg_none_of X G z_enumerate
  have g_FE := PySem.W.mg_of X G e1
  have e19_InvalidTerm : PySem.W.excInitIn K C_InvalidTerm FvX.veTail4 "ValueError.__new__" = true := by
    unfold PySem.W.excInitIn
    rw [e3_InvalidTerm]
    simp [excClassObj, e19t_InvalidTerm]
  have ex23_InvalidTerm : PySem.W.exmOne K (.ref C_InvalidTerm) (.ref CF) = some true := by
    unfold PySem.W.exmOne PySem.W.kitCls
    simp [e23a, show (PySem.W.clsIn K CF).isSome = true from e23b, e23c, e23d_InvalidTerm]
  have g_E_InvalidTerm := PySem.W.mg_of X G e2_InvalidTerm
  have OX_InvalidTerm : L2.OexC K C_InvalidTerm := ⟨⟨_, _, _, _, _, _, _, _, _, _, _, _, _, _, _, e3_InvalidTerm, e4_InvalidTerm⟩, e5_InvalidTerm, e6_InvalidTerm, e7_InvalidTerm, e8_InvalidTerm⟩
  have TI_InvalidTerm : FvX.ErrC l.prog.main.file K C_InvalidTerm f_InvalidTerm "InvalidTerm.__init__" q_InvalidTerm "this is not a term" "InvalidTerm" 0 0 := ⟨OX_InvalidTerm, ⟨_, _, _, _, _, _, _, _, _, _, _, _, _, _, _, _, _, _, _, e9_InvalidTerm, e10_InvalidTerm, e11_InvalidTerm, e12_InvalidTerm, e14_InvalidTerm, e15_InvalidTerm⟩, e16_InvalidTerm, e17_InvalidTerm, e18_InvalidTerm, e19_InvalidTerm, e20, e21_InvalidTerm, e13_InvalidTerm, e22_InvalidTerm⟩
  have LI_InvalidTerm : FvX.LineOk q_InvalidTerm "this is not a term" 0 := fun env => ⟨_, rfl⟩
  have XF_InvalidTerm : XfC K C_InvalidTerm := ⟨e24_InvalidTerm, e25_InvalidTerm, e6_InvalidTerm, e26_InvalidTerm⟩
  have e19_InvalidBoard : PySem.W.excInitIn K C_InvalidBoard FvX.veTail4 "ValueError.__new__" = true := by
    unfold PySem.W.excInitIn
    rw [e3_InvalidBoard]
    simp [excClassObj, e19t_InvalidBoard]
  have ex23_InvalidBoard : PySem.W.exmOne K (.ref C_InvalidBoard) (.ref CF) = some true := by
    unfold PySem.W.exmOne PySem.W.kitCls
    simp [e23a, show (PySem.W.clsIn K CF).isSome = true from e23b, e23c, e23d_InvalidBoard]
  have g_E_InvalidBoard := PySem.W.mg_of X G e2_InvalidBoard
  have OX_InvalidBoard : L2.OexC K C_InvalidBoard := ⟨⟨_, _, _, _, _, _, _, _, _, _, _, _, _, _, _, e3_InvalidBoard, e4_InvalidBoard⟩, e5_InvalidBoard, e6_InvalidBoard, e7_InvalidBoard, e8_InvalidBoard⟩
  have TI_InvalidBoard : FvX.ErrC l.prog.main.file K C_InvalidBoard f_InvalidBoard "InvalidBoard.__init__" q_InvalidBoard "this is not a board" "InvalidBoard" 0 0 := ⟨OX_InvalidBoard, ⟨_, _, _, _, _, _, _, _, _, _, _, _, _, _, _, _, _, _, _, e9_InvalidBoard, e10_InvalidBoard, e11_InvalidBoard, e12_InvalidBoard, e14_InvalidBoard, e15_InvalidBoard⟩, e16_InvalidBoard, e17_InvalidBoard, e18_InvalidBoard, e19_InvalidBoard, e20, e21_InvalidBoard, e13_InvalidBoard, e22_InvalidBoard⟩
  have LI_InvalidBoard : FvX.LineOk q_InvalidBoard "this is not a board" 0 := fun env => ⟨_, rfl⟩
  have XF_InvalidBoard : XfC K C_InvalidBoard := ⟨e24_InvalidBoard, e25_InvalidBoard, e6_InvalidBoard, e26_InvalidBoard⟩
  have e19_InvalidPlace : PySem.W.excInitIn K C_InvalidPlace FvX.veTail4 "ValueError.__new__" = true := by
    unfold PySem.W.excInitIn
    rw [e3_InvalidPlace]
    simp [excClassObj, e19t_InvalidPlace]
  have ex23_InvalidPlace : PySem.W.exmOne K (.ref C_InvalidPlace) (.ref CF) = some true := by
    unfold PySem.W.exmOne PySem.W.kitCls
    simp [e23a, show (PySem.W.clsIn K CF).isSome = true from e23b, e23c, e23d_InvalidPlace]
  have ex30_InvalidPlace : PySem.W.exmOne K (.ref C_InvalidPlace) (.ref C_InvalidPlace) = some true := by
    unfold PySem.W.exmOne PySem.W.kitCls
    simp [e6_InvalidPlace, show (PySem.W.clsIn K C_InvalidPlace).isSome = true from e29_InvalidPlace, e7_InvalidPlace, e30_InvalidPlace]
  have g_E_InvalidPlace := PySem.W.mg_of X G e2_InvalidPlace
  have OX_InvalidPlace : L2.OexC K C_InvalidPlace := ⟨⟨_, _, _, _, _, _, _, _, _, _, _, _, _, _, _, e3_InvalidPlace, e4_InvalidPlace⟩, e5_InvalidPlace, e6_InvalidPlace, e7_InvalidPlace, e8_InvalidPlace⟩
  have TI_InvalidPlace : FvX.ErrC1 l.prog.main.file K C_InvalidPlace f_InvalidPlace "InvalidPlace.__init__" q_InvalidPlace me_InvalidPlace "InvalidPlace" "place" 0 := ⟨OX_InvalidPlace, ⟨_, _, _, _, _, _, _, _, _, _, _, _, _, _, _, _, _, _, _, e9_InvalidPlace, e10_InvalidPlace, e11_InvalidPlace, e12_InvalidPlace, e14_InvalidPlace, e15_InvalidPlace⟩, e16_InvalidPlace, e17_InvalidPlace, e18_InvalidPlace, e19_InvalidPlace, e20, e21_InvalidPlace, e28_InvalidPlace, e13_InvalidPlace, e22_InvalidPlace⟩
  have LI_InvalidPlace : FvX.LineOk1 q_InvalidPlace me_InvalidPlace := fun env => ⟨_, rfl⟩
  have AI_InvalidPlace : FvX.ArgsOk me_InvalidPlace := fun env => rfl
  have XF_InvalidPlace : XfC K C_InvalidPlace := ⟨e24_InvalidPlace, e25_InvalidPlace, e6_InvalidPlace, e26_InvalidPlace⟩
  have e19_InvalidReading : PySem.W.excInitIn K C_InvalidReading FvX.veTail4 "ValueError.__new__" = true := by
    unfold PySem.W.excInitIn
    rw [e3_InvalidReading]
    simp [excClassObj, e19t_InvalidReading]
  have ex23_InvalidReading : PySem.W.exmOne K (.ref C_InvalidReading) (.ref CF) = some true := by
    unfold PySem.W.exmOne PySem.W.kitCls
    simp [e23a, show (PySem.W.clsIn K CF).isSome = true from e23b, e23c, e23d_InvalidReading]
  have ex30_InvalidReading : PySem.W.exmOne K (.ref C_InvalidReading) (.ref C_InvalidReading) = some true := by
    unfold PySem.W.exmOne PySem.W.kitCls
    simp [e6_InvalidReading, show (PySem.W.clsIn K C_InvalidReading).isSome = true from e29_InvalidReading, e7_InvalidReading, e30_InvalidReading]
  have g_E_InvalidReading := PySem.W.mg_of X G e2_InvalidReading
  have OX_InvalidReading : L2.OexC K C_InvalidReading := ⟨⟨_, _, _, _, _, _, _, _, _, _, _, _, _, _, _, e3_InvalidReading, e4_InvalidReading⟩, e5_InvalidReading, e6_InvalidReading, e7_InvalidReading, e8_InvalidReading⟩
  have TI_InvalidReading : FvX.ErrC1 l.prog.main.file K C_InvalidReading f_InvalidReading "InvalidReading.__init__" q_InvalidReading me_InvalidReading "InvalidReading" "letter" 0 := ⟨OX_InvalidReading, ⟨_, _, _, _, _, _, _, _, _, _, _, _, _, _, _, _, _, _, _, e9_InvalidReading, e10_InvalidReading, e11_InvalidReading, e12_InvalidReading, e14_InvalidReading, e15_InvalidReading⟩, e16_InvalidReading, e17_InvalidReading, e18_InvalidReading, e19_InvalidReading, e20, e21_InvalidReading, e28_InvalidReading, e13_InvalidReading, e22_InvalidReading⟩
  have LI_InvalidReading : FvX.LineOk1 q_InvalidReading me_InvalidReading := fun env => ⟨_, rfl⟩
  have AI_InvalidReading : FvX.ArgsOk me_InvalidReading := fun env => rfl
  have XF_InvalidReading : XfC K C_InvalidReading := ⟨e24_InvalidReading, e25_InvalidReading, e6_InvalidReading, e26_InvalidReading⟩
  have e19_TooManyPlaces : PySem.W.excInitIn K C_TooManyPlaces FvX.veTail4 "ValueError.__new__" = true := by
    unfold PySem.W.excInitIn
    rw [e3_TooManyPlaces]
    simp [excClassObj, e19t_TooManyPlaces]
  have ex23_TooManyPlaces : PySem.W.exmOne K (.ref C_TooManyPlaces) (.ref CF) = some true := by
    unfold PySem.W.exmOne PySem.W.kitCls
    simp [e23a, show (PySem.W.clsIn K CF).isSome = true from e23b, e23c, e23d_TooManyPlaces]
  have ex30_TooManyPlaces : PySem.W.exmOne K (.ref C_TooManyPlaces) (.ref C_TooManyPlaces) = some true := by
    unfold PySem.W.exmOne PySem.W.kitCls
    simp [e6_TooManyPlaces, show (PySem.W.clsIn K C_TooManyPlaces).isSome = true from e29_TooManyPlaces, e7_TooManyPlaces, e30_TooManyPlaces]
  have g_E_TooManyPlaces := PySem.W.mg_of X G e2_TooManyPlaces
  have OX_TooManyPlaces : L2.OexC K C_TooManyPlaces := ⟨⟨_, _, _, _, _, _, _, _, _, _, _, _, _, _, _, e3_TooManyPlaces, e4_TooManyPlaces⟩, e5_TooManyPlaces, e6_TooManyPlaces, e7_TooManyPlaces, e8_TooManyPlaces⟩
  have TI_TooManyPlaces : FvX.ErrC1 l.prog.main.file K C_TooManyPlaces f_TooManyPlaces "TooManyPlaces.__init__" q_TooManyPlaces me_TooManyPlaces "TooManyPlaces" "limit" 0 := ⟨OX_TooManyPlaces, ⟨_, _, _, _, _, _, _, _, _, _, _, _, _, _, _, _, _, _, _, e9_TooManyPlaces, e10_TooManyPlaces, e11_TooManyPlaces, e12_TooManyPlaces, e14_TooManyPlaces, e15_TooManyPlaces⟩, e16_TooManyPlaces, e17_TooManyPlaces, e18_TooManyPlaces, e19_TooManyPlaces, e20, e21_TooManyPlaces, e28_TooManyPlaces, e13_TooManyPlaces, e22_TooManyPlaces⟩
  have LI_TooManyPlaces : FvX.LineOk1 q_TooManyPlaces me_TooManyPlaces := fun env => ⟨_, rfl⟩
  have AI_TooManyPlaces : FvX.ArgsOk me_TooManyPlaces := fun env => rfl
  have XF_TooManyPlaces : XfC K C_TooManyPlaces := ⟨e24_TooManyPlaces, e25_TooManyPlaces, e6_TooManyPlaces, e26_TooManyPlaces⟩
  have gC_Board := PySem.W.mg_of X G aC_Board
  have T_Board : FvO.TxB K C_Board := ⟨⟨pg_Board, hd_Board, po_Board, sa_Board⟩, na_Board_lines, na_Board_above, na_Board_below, na_Board_lows, na_Board_highs, na_Board_least, na_Board_greatest⟩
  have me_Board_init : Meth K C_Board "__init__" f_Board_init := ⟨a_Board_init, i_Board_init, k_Board_init⟩
  have F_Board_init := fun_mk (st := FvO.s_init__of__Board) l_Board_init c_Board_init k_Board_init
  have b_Board_init := F_Board_init.binds (ps := ["self", "rows"]) fun _ _ _ _ _ _ us hl => match us, hl with | [_, _], _ => rfl
  have cr_Board : ClX.CRead K C_Board mc_Board := ⟨crd_Board, cga_Board⟩
  have me_Board_chain : ClX.CMet K C_Board mc_Board "chain" pr_Board_chain f_Board_chain := ⟨g_Board_chain, ⟨_, r_Board_chain⟩, i_Board_chain⟩
  have F_Board_chain := fun_mk (st := FvO.s_chain__of__Board) l_Board_chain c_Board_chain k_Board_chain
  have b_Board_chain := F_Board_chain.binds (ps := ["cls", "size"]) fun _ _ _ _ _ _ us hl => match us, hl with | [_, _], _ => rfl
  have me_Board_fan : FvO.SMet K C_Board mc_Board "fan" pr_Board_fan f_Board_fan := ⟨g_Board_fan, ⟨_, r_Board_fan⟩, k_Board_fan⟩
  have F_Board_fan := fun_mk (st := FvO.s_fan__of__Board) l_Board_fan c_Board_fan k_Board_fan
  have b_Board_fan := F_Board_fan.binds (ps := ["size"]) fun _ _ _ _ _ _ us hl => match us, hl with | [_], _ => rfl
  have me_Board_rows : Meth K C_Board "rows" f_Board_rows := ⟨a_Board_rows, i_Board_rows, k_Board_rows⟩
  have F_Board_rows := fun_mk (st := FvO.s_rows__of__Board) l_Board_rows c_Board_rows k_Board_rows
  have b_Board_rows := F_Board_rows.binds (ps := ["self"]) fun _ _ _ _ _ _ us hl => match us, hl with | [_], _ => rfl
  have me_Board_has_place : Meth K C_Board "has_place" f_Board_has_place := ⟨a_Board_has_place, i_Board_has_place, k_Board_has_place⟩
  have F_Board_has_place := fun_mk (st := FvO.s_has_place__of__Board) l_Board_has_place c_Board_has_place k_Board_has_place
  have b_Board_has_place := F_Board_has_place.binds (ps := ["self", "value"]) fun _ _ _ _ _ _ us hl => match us, hl with | [_, _], _ => rfl
  have me_Board_check_places : Meth K C_Board "check_places" f_Board_check_places := ⟨a_Board_check_places, i_Board_check_places, k_Board_check_places⟩
  have F_Board_check_places := fun_mk (st := FvO.s_check_places__of__Board) l_Board_check_places c_Board_check_places k_Board_check_places
  have b_Board_check_places := F_Board_check_places.binds (ps := ["self", "places"]) fun _ _ _ _ _ _ us hl => match us, hl with | [_, _], _ => rfl
  have me_Board_is_below : Meth K C_Board "is_below" f_Board_is_below := ⟨a_Board_is_below, i_Board_is_below, k_Board_is_below⟩
  have F_Board_is_below := fun_mk (st := FvO.s_is_below__of__Board) l_Board_is_below c_Board_is_below k_Board_is_below
  have b_Board_is_below := F_Board_is_below.binds (ps := ["self", "one", "other"]) fun _ _ _ _ _ _ us hl => match us, hl with | [_, _, _], _ => rfl
  have me_Board_low : Meth K C_Board "low" f_Board_low := ⟨a_Board_low, i_Board_low, k_Board_low⟩
  have me_Board_up : Meth K C_Board "up" f_Board_up := ⟨a_Board_up, i_Board_up, k_Board_up⟩
  have me_Board_spreads : Meth K C_Board "spreads" f_Board_spreads := ⟨a_Board_spreads, i_Board_spreads, k_Board_spreads⟩
  have F_Board_spreads := fun_mk (st := FvO.s_spreads__of__Board) l_Board_spreads c_Board_spreads k_Board_spreads
  have b_Board_spreads := F_Board_spreads.binds (ps := ["self"]) fun _ _ _ _ _ _ us hl => match us, hl with | [_], _ => rfl
  have me_Board_turned : Meth K C_Board "turned" f_Board_turned := ⟨a_Board_turned, i_Board_turned, k_Board_turned⟩
  have F_Board_turned := fun_mk (st := FvO.s_turned__of__Board) l_Board_turned c_Board_turned k_Board_turned
  have b_Board_turned := F_Board_turned.binds (ps := ["self"]) fun _ _ _ _ _ _ us hl => match us, hl with | [_], _ => rfl
  have me_Board_product : Meth K C_Board "product" f_Board_product := ⟨a_Board_product, i_Board_product, k_Board_product⟩
  have F_Board_product := fun_mk (st := FvO.s_product__of__Board) l_Board_product c_Board_product k_Board_product
  have b_Board_product := F_Board_product.binds (ps := ["self", "other"]) fun _ _ _ _ _ _ us hl => match us, hl with | [_, _], _ => rfl
  have me_Board_len : Meth K C_Board "__len__" f_Board_len := ⟨a_Board_len, i_Board_len, k_Board_len⟩
  have F_Board_len := fun_mk (st := FvO.s_len__of__Board) l_Board_len c_Board_len k_Board_len
  have b_Board_len := F_Board_len.binds (ps := ["self"]) fun _ _ _ _ _ _ us hl => match us, hl with | [_], _ => rfl
  refine ⟨PySem.W.fnOf "law" "law" (defArgs s_law) (defBody s_law) (defScope s_law) .none kV24 dc24 pm24 an24 cd24 ct24, fun s v => .of_eq rfl, fun base _ _ => ?_⟩
  have own : ∀ {k : Nat} {x : Str} {f : Addr} {fd : FuncData} {ps : List Str} {sp : Sp}, mg x = some (.ref f) → PySem.W.keepIn K (.ref f) = true → Binds K fd ps [] → FnOk l.prog w K mg base CX0 k f fd ps sp → Own l.prog w K mg base k x ps sp := fun a b c d => ⟨_, _, a, b, c, d⟩
  have ownR : ∀ {k : Nat} {x : Str} {f : Addr} {sp : Sp}, mg x = some (.ref f) → PySem.W.keepIn K (.ref f) = true → FnR l.prog w K mg base (L2.CX l.prog w) k f sp → OwnR l.prog w K mg base k x sp := fun a b c => ⟨_, a, b, c⟩
  have raw : ∀ {k : Nat} {f : Addr} {fd : FuncData} {ps : List Str} {sp : Sp}, FnOk l.prog w K mg base (L2.CX l.prog w) k f fd ps sp → Binds K fd ps [] → FnR l.prog w K mg base (L2.CX l.prog w) k f sp := fun F b => (FnOk.raw F b .nil).imp fun vs H Q E h => by rw [List.append_nil]; exact h
  have Csource := own g14 k14 b14 (ok_source (k := 0) F14 m_list)
  have Ctake := own g15 k15 b15 (ok_take (k := 0) F15 m_len m_int)
  have Cpick := own g16 k16 b16 (ok_pick (k := 1) F16 m_len Ctake)
  have Cmixed := own g17 k17 b17 (ok_mixed (k := 1) F17 m_len Ctake)
  have Ctake2 : Own l.prog w K mg base 2 _ _ spTake := own g15 k15 b15 (ok_take (k := 1) F15 m_len m_int)
  have Cro := own g19 k19 b19 (ok_rows (k := 0) F19 m_str m_int)
  have Clo := own g20 k20 b20 (FvO.ok_lowQ (k := 0) F20 m_len m_range m_all)
  have Cup := own g21 k21 b21 (FvO.ok_upQ (k := 0) F21 m_len m_range m_all)
  have Cli := own g18 k18 b18 (FvO.ok_lindexF (k := 0) F18 m_isinstance m_int m_bool)
  have Cix := own g1 k1 b1 (FvO.ok_idxF (k := 0) F1 m_range)
  have Cfi := own g2 k2 b2 (FvO.ok_first (k := 0) F2)
  have Ccv := own g4 k4 b4 (FvO.ok_covers (k := 0) F4 m_range m_len m_enumerate m_sum m_zip)
  have Cfl := own g5 k5 b5 (FvO.ok_lad (k := 1) F5 (by decide) m_enumerate Cix Cfi)
  have Cff := own g6 k6 b6 (FvO.ok_fan3 (k := 1) F6 (by decide) m_enumerate Cix Cfi)
  have Csq := own g10 k10 b10 ((FvO.ok_square (k := 0) F10 m_len m_all m_isinstance m_str).mono (k := 2) (by decide))
  have Cco := own g11 k11 b11 ((FvO.ok_columns (k := 0) F11 m_len m_range).mono (k := 2) (by decide))
  have Cma := own g12 k12 b12 ((FvO.ok_masksB (k := 0) F12 m_int).mono (k := 2) (by decide))
  have Cbt := own g13 k13 b13 ((FvO.ok_bound (k := 0) F13 m_len m_range).mono (k := 2) (by decide))
  have Csu := own g22 k22 b22 (FvO.ok_summed (k := 0) F22 m_len m_range)
  have Cwa := own g23 k23 b23 (FvO.ok_walked (k := 1) F23 (by decide) m_isinstance m_tuple m_len m_all m_int m_set Cli Clo Cup)
  have TM : FvO.TxM K C_Board := ⟨_, _, cr_Board, ⟨cva, ⟨_, rfl⟩⟩⟩
  have Fin := FvO.ok_binit (k := 3) F_Board_init T_Board TM gC_Board m_len m_range m_list m_all m_any m_max (by decide) Csq Cco Cma Cbt
  have Mk1 : Mk K C_Board f_Board_init := ⟨mk_Board, a_Board_init, i_Board_init, kc_Board⟩
  have Mkb : C8.Mak l.prog w K mg base 4 "Board" C_Board (FvO.spBIn K C_Board) [] := ⟨_, _, _, _, Mk1, Fin, gC_Board, b_Board_init, .nil⟩
  have rawU : ∀ {k : Nat} {f : Addr} {fd : FuncData} {ps : List Str} {sp : Sp}, FnOk l.prog w K mg base CX0 k f fd ps sp → Binds K fd ps [] → FnR l.prog w K mg base (L2.CX l.prog w) k f sp := fun F b => FvO.fnR_up ((FnOk.raw F b .nil).imp fun vs H Q E h => by rw [List.append_nil]; exact h)
  have MkR : FvO.MakR l.prog w K mg base 4 C_Board (FvO.spBIn K C_Board) := ⟨_, Mk1, rawU Fin b_Board_init⟩
  have metR : ∀ {k : Nat} {m : Str} {f : Addr} {sp : Sp}, Meth K C_Board m f → FnR l.prog w K mg base (L2.CX l.prog w) k f sp → FvX.MetR l.prog w K mg base k C_Board m sp := fun a c => ⟨_, T_Board.cl, a, c⟩
  have Mro : C8.Met l.prog w K mg base 1 C_Board "rows" (FvO.spRowsB K C_Board) [] := ⟨_, _, _, _, T_Board.cl, me_Board_rows, FvO.ok_rowsB (k := 0) F_Board_rows T_Board m_list, b_Board_rows, .nil⟩
  have Msp : C8.Met l.prog w K mg base 1 C_Board "spreads" (FvO.spSprB K C_Board) [] := ⟨_, _, _, _, T_Board.cl, me_Board_spreads, FvO.ok_spreadsB (k := 0) F_Board_spreads T_Board m_len m_range, b_Board_spreads, .nil⟩
  have Fch := FvO.ok_chain (k := 6) F_Board_chain TM (by decide) m_range TI_InvalidBoard LI_InvalidBoard e27 m_super g_E_InvalidBoard MkR
  have Ffa := FvO.ok_fan (k := 6) F_Board_fan TM gC_Board (by decide) m_range TI_InvalidBoard LI_InvalidBoard e27 m_super g_E_InvalidBoard Mkb
  have Fpr := FvO.ok_prod (k := 5) F_Board_product T_Board TM gC_Board m_len (by decide) TI_TooManyPlaces LI_TooManyPlaces AI_TooManyPlaces hme_TooManyPlaces e27 m_super g_E_TooManyPlaces Mkb
  have Fft := FvO.ok_fault (k := 2) F3 (by decide) T_Board Ccv Cfl Cff Msp
  have Mhp : C8.Met l.prog w K mg base 1 C_Board "has_place" (FvO.spHas K C_Board) [] := ⟨_, _, _, _, T_Board.cl, me_Board_has_place, FvO.ok_has (k := 0) F_Board_has_place T_Board m_isinstance m_int m_bool m_len, b_Board_has_place, .nil⟩
  have Mcp := metR me_Board_check_places (raw (FvO.ok_chk (k := 1) F_Board_check_places (by decide) TI_InvalidPlace LI_InvalidPlace AI_InvalidPlace hme_InvalidPlace e27 m_super g_E_InvalidPlace Mhp) b_Board_check_places)
  have Mbe := metR me_Board_is_below (raw (FvO.ok_below (k := 4) F_Board_is_below T_Board (by decide) Mcp) b_Board_is_below)
  have Slo : FvO.MetS l.prog w K mg base 5 C_Board "low" (FvO.spFold K C_Board C_InvalidPlace false) := ⟨_, T_Board.cl, ⟨me_Board_low, bg_low, bt_low, by decide, bf_low⟩, FvO.ok_low (k := 4) l_Board_low c_Board_low T_Board (by decide) Mcp⟩
  have Sup : FvO.MetS l.prog w K mg base 5 C_Board "up" (FvO.spFold K C_Board C_InvalidPlace true) := ⟨_, T_Board.cl, ⟨me_Board_up, bg_up, bt_up, by decide, bf_up⟩, FvO.ok_up (k := 4) l_Board_up c_Board_up T_Board (by decide) Mcp⟩
  have C5 := own g8 k8 b8 (FvO.ok_five (k := 1) F8 (by decide) m_isinstance m_tuple m_len m_all m_set Mhp)
  have Cab := own g9 k9 b9 (FvO.ok_abound (k := 5) F9 (by decide) m_all Slo Sup)
  have Fif := FvO.ok_isflt (k := 6) F7 (by decide) m_isinstance m_tuple m_len C5 Cab Mbe
  have Mtu : C8.Met l.prog w K mg base 6 C_Board "turned" (FvO.spTurn K C_Board) [] := ⟨_, _, _, _, T_Board.cl, me_Board_turned, FvO.ok_turned (k := 5) F_Board_turned T_Board (by decide) Cco Mkb, b_Board_turned, .nil⟩
  exact FvO.ok_law (k := 10) F24 (by decide) m_range m_len gC_Board Csource Ctake Cpick Cmixed Cro Csu Cwa (own g3 k3 b3 Fft) (own g7 k7 b7 Fif)
    Mkb Msp Mro Mtu (metR me_Board_product (raw Fpr b_Board_product)) ⟨_, _, _, cr_Board, me_Board_chain, raw Fch b_Board_chain⟩ ⟨_, _, _, cr_Board, me_Board_fan, raw Ffa b_Board_fan⟩ (metR me_Board_len (rawU (FvO.ok_lenB (k := 0) F_Board_len T_Board m_len) b_Board_len))
theorem walk {l : PySem.W.OpenLaw} {q : Program} {loose : List Str} {XP : (Str → Option Value) → Heap → Prop} {YP : World → Heap → Prop} {d : DefRec} {K : Params → PySem.W.Frag} (hn : l.most = some 63) (hdf : d.params.defaults = [])
    (hY : ∀ (w : World) (h : Heap), YP w h → (K w.params).In h)
    (F : ∀ (w : World) (mg : Str → Option Value) (fa : Addr) (h : Heap), (K w.params).In h → h.Ns mainGlobals mg → mg d.name = some (.ref fa) →
      ∃ fd : FuncData, (∀ (s : Shared) (u : Value), BindsTo s fd ⟨[u], []⟩ [("_law_script", u)]) ∧ ∀ base : Heap, (K w.params).In base → base.Ns mainGlobals mg → FnOk l.prog w (K w.params) mg base CX0 11 fa fd ["_law_script"] (spLaw (K w.params))) :
    PySem.W.WalkO q loose XP YP l.row.toRowW d [] (fun f vs => PySem.call f vs) :=
  L2.walk_of (n := 63) (k := 11) (x := "_law_script") (CX := fun _ => CX0) (sp := fun w => spLaw (K w.params)) hn (by decide) hdf ⟨rfl, by decide, by decide⟩ hY F (fun _ _ a ns hl _ hS => ⟨a, ns, rfl, hS, hl, fun _ => rfl⟩) fun _ _ _ _ _ z => z
end Fv
open PySem PySem.W PyProof.Rows
set_option maxRecDepth 100000 in
set_option maxHeartbeats 0 in
theorem PySem.Challenge.cw_fivefault_k73_whole_large_boards_spread_holds : PySem.Challenge.rw_fivefault_k73_whole_large_boards_spread.Holds := by
  w_on; o_law; k_headL; (case hw => w_witness2)
  k_fill
  refine Fv.walk (l := PySem.Challenge.rw_fivefault_k73_whole_large_boards_spread) rfl rfl (fun w h Y => PySem.W.kIn_of Y) ?F
  case F =>
    intro w mg fa h KX G hmg
    refine' Fv.all_mk KX G hmg ?a1 ?l1 ?c1 ?k1 ?a2 ?l2 ?c2 ?k2 ?a3 ?l3 ?c3 ?k3 ?a4 ?l4 ?c4 ?k4 ?a5 ?l5 ?c5 ?k5 ?a6 ?l6 ?c6 ?k6 ?a7 ?l7 ?c7 ?k7 ?a8 ?l8 ?c8 ?k8 ?a9 ?l9 ?c9 ?k9 ?a10 ?l10 ?c10 ?k10 ?a11 ?l11 ?c11 ?k11 ?a12 ?l12 ?c12 ?k12 ?a13 ?l13 ?c13 ?k13 ?a14 ?l14 ?c14 ?k14 ?a15 ?l15 ?c15 ?k15 ?a16 ?l16 ?c16 ?k16 ?a17 ?l17 ?c17 ?k17 ?a18 ?l18 ?c18 ?k18 ?a19 ?l19 ?c19 ?k19 ?a20 ?l20 ?c20 ?k20 ?a21 ?l21 ?c21 ?k21 ?a22 ?l22 ?c22 ?k22 ?a23 ?l23 ?c23 ?k23 ?a24 ?l24 ?c24 ?k24 ?y0 ?y1 ?yl1 ?y2 ?y3 ?z_len ?z_int ?z_list ?z_str ?z_tuple ?z_isinstance ?z_bool ?z_all ?z_any ?z_zip ?z_sum ?z_max ?z_range ?z_super ?z_set ?z_enumerate ?e1 ?e23a ?e23b ?e23c ?e20 ?e27 ?e2_InvalidTerm ?e3_InvalidTerm ?e4_InvalidTerm ?e5_InvalidTerm ?e6_InvalidTerm ?e7_InvalidTerm ?e8_InvalidTerm ?e13_InvalidTerm ?e9_InvalidTerm ?e10_InvalidTerm ?e11_InvalidTerm ?e12_InvalidTerm ?e14_InvalidTerm ?e15_InvalidTerm ?e16_InvalidTerm ?e17_InvalidTerm ?e18_InvalidTerm ?e19t_InvalidTerm ?e21_InvalidTerm ?e22_InvalidTerm ?e23d_InvalidTerm ?e24_InvalidTerm ?e25_InvalidTerm ?e26_InvalidTerm ?e31_InvalidTerm ?e2_InvalidBoard ?e3_InvalidBoard ?e4_InvalidBoard ?e5_InvalidBoard ?e6_InvalidBoard ?e7_InvalidBoard ?e8_InvalidBoard ?e13_InvalidBoard ?e9_InvalidBoard ?e10_InvalidBoard ?e11_InvalidBoard ?e12_InvalidBoard ?e14_InvalidBoard ?e15_InvalidBoard ?e16_InvalidBoard ?e17_InvalidBoard ?e18_InvalidBoard ?e19t_InvalidBoard ?e21_InvalidBoard ?e22_InvalidBoard ?e23d_InvalidBoard ?e24_InvalidBoard ?e25_InvalidBoard ?e26_InvalidBoard ?e31_InvalidBoard ?e2_InvalidPlace ?e3_InvalidPlace ?e4_InvalidPlace ?e5_InvalidPlace ?e6_InvalidPlace ?e7_InvalidPlace ?e8_InvalidPlace ?e13_InvalidPlace ?e9_InvalidPlace ?e10_InvalidPlace ?e11_InvalidPlace ?e12_InvalidPlace ?e14_InvalidPlace ?e15_InvalidPlace ?e16_InvalidPlace ?e17_InvalidPlace ?e18_InvalidPlace ?e19t_InvalidPlace ?e21_InvalidPlace ?e28_InvalidPlace ?e29_InvalidPlace ?e30_InvalidPlace ?e22_InvalidPlace ?e23d_InvalidPlace ?e24_InvalidPlace ?e25_InvalidPlace ?e26_InvalidPlace ?e31_InvalidPlace ?e2_InvalidReading ?e3_InvalidReading ?e4_InvalidReading ?e5_InvalidReading ?e6_InvalidReading ?e7_InvalidReading ?e8_InvalidReading ?e13_InvalidReading ?e9_InvalidReading ?e10_InvalidReading ?e11_InvalidReading ?e12_InvalidReading ?e14_InvalidReading ?e15_InvalidReading ?e16_InvalidReading ?e17_InvalidReading ?e18_InvalidReading ?e19t_InvalidReading ?e21_InvalidReading ?e28_InvalidReading ?e29_InvalidReading ?e30_InvalidReading ?e22_InvalidReading ?e23d_InvalidReading ?e24_InvalidReading ?e25_InvalidReading ?e26_InvalidReading ?e31_InvalidReading ?e2_TooManyPlaces ?e3_TooManyPlaces ?e4_TooManyPlaces ?e5_TooManyPlaces ?e6_TooManyPlaces ?e7_TooManyPlaces ?e8_TooManyPlaces ?e13_TooManyPlaces ?e9_TooManyPlaces ?e10_TooManyPlaces ?e11_TooManyPlaces ?e12_TooManyPlaces ?e14_TooManyPlaces ?e15_TooManyPlaces ?e16_TooManyPlaces ?e17_TooManyPlaces ?e18_TooManyPlaces ?e19t_TooManyPlaces ?e21_TooManyPlaces ?e28_TooManyPlaces ?e29_TooManyPlaces ?e30_TooManyPlaces ?e22_TooManyPlaces ?e23d_TooManyPlaces ?e24_TooManyPlaces ?e25_TooManyPlaces ?e26_TooManyPlaces ?e31_TooManyPlaces ?aC_Board ?pg_Board ?hd_Board ?po_Board ?sa_Board ?mk_Board ?kc_Board ?na_Board_lines ?na_Board_above ?na_Board_below ?na_Board_lows ?na_Board_highs ?na_Board_least ?na_Board_greatest ?a_Board_init ?i_Board_init ?l_Board_init ?c_Board_init ?k_Board_init ?cty_Board ?crd_Board ?cga_Board ?g_Board_chain ?r_Board_chain ?i_Board_chain ?l_Board_chain ?c_Board_chain ?k_Board_chain ?g_Board_fan ?r_Board_fan ?l_Board_fan ?c_Board_fan ?k_Board_fan ?a_Board_rows ?i_Board_rows ?l_Board_rows ?c_Board_rows ?k_Board_rows ?a_Board_has_place ?i_Board_has_place ?l_Board_has_place ?c_Board_has_place ?k_Board_has_place ?a_Board_check_places ?i_Board_check_places ?l_Board_check_places ?c_Board_check_places ?k_Board_check_places ?a_Board_is_below ?i_Board_is_below ?l_Board_is_below ?c_Board_is_below ?k_Board_is_below ?a_Board_low ?i_Board_low ?l_Board_low ?c_Board_low ?k_Board_low ?a_Board_up ?i_Board_up ?l_Board_up ?c_Board_up ?k_Board_up ?a_Board_spreads ?i_Board_spreads ?l_Board_spreads ?c_Board_spreads ?k_Board_spreads ?a_Board_turned ?i_Board_turned ?l_Board_turned ?c_Board_turned ?k_Board_turned ?a_Board_product ?i_Board_product ?l_Board_product ?c_Board_product ?k_Board_product ?a_Board_len ?i_Board_len ?l_Board_len ?c_Board_len ?k_Board_len ?cva ?bg_low ?bt_low ?bf_low ?bg_up ?bt_up ?bf_up
    (case a1 => k_is)
    (case l1 => k_is)
    (case c1 => k_is)
    (case k1 => k_is)
    (case a2 => k_is)
    (case l2 => k_is)
    (case c2 => k_is)
    (case k2 => k_is)
    (case a3 => k_is)
    (case l3 => k_is)
    (case c3 => k_is)
    (case k3 => k_is)
    (case a4 => k_is)
    (case l4 => k_is)
    (case c4 => k_is)
    (case k4 => k_is)
    (case a5 => k_is)
    (case l5 => k_is)
    (case c5 => k_is)
    (case k5 => k_is)
    (case a6 => k_is)
    (case l6 => k_is)
    (case c6 => k_is)
    (case k6 => k_is)
    (case a7 => k_is)
    (case l7 => k_is)
    (case c7 => k_is)
    (case k7 => k_is)
    (case a8 => k_is)
    (case l8 => k_is)
    (case c8 => k_is)
    (case k8 => k_is)
    (case a9 => k_is)
    (case l9 => k_is)
    (case c9 => k_is)
    (case k9 => k_is)
    (case a10 => k_is)
    (case l10 => k_is)
    (case c10 => k_is)
    (case k10 => k_is)
    (case a11 => k_is)
    (case l11 => k_is)
    (case c11 => k_is)
    (case k11 => k_is)
    (case a12 => k_is)
    (case l12 => k_is)
    (case c12 => k_is)
    (case k12 => k_is)
    (case a13 => k_is)
    (case l13 => k_is)
    (case c13 => k_is)
    (case k13 => k_is)
    (case a14 => k_is)
    (case l14 => k_is)
    (case c14 => k_is)
    (case k14 => k_is)
    (case a15 => k_is)
    (case l15 => k_is)
    (case c15 => k_is)
    (case k15 => k_is)
    (case a16 => k_is)
    (case l16 => k_is)
    (case c16 => k_is)
    (case k16 => k_is)
    (case a17 => k_is)
    (case l17 => k_is)
    (case c17 => k_is)
    (case k17 => k_is)
    (case a18 => k_is)
    (case l18 => k_is)
    (case c18 => k_is)
    (case k18 => k_is)
    (case a19 => k_is)
    (case l19 => k_is)
    (case c19 => k_is)
    (case k19 => k_is)
    (case a20 => k_is)
    (case l20 => k_is)
    (case c20 => k_is)
    (case k20 => k_is)
    (case a21 => k_is)
    (case l21 => k_is)
    (case c21 => k_is)
    (case k21 => k_is)
    (case a22 => k_is)
    (case l22 => k_is)
    (case c22 => k_is)
    (case k22 => k_is)
    (case a23 => k_is)
    (case l23 => k_is)
    (case c23 => k_is)
    (case k23 => k_is)
    (case a24 => k_is)
    (case l24 => k_is)
    (case c24 => k_is)
    (case k24 => k_is)
    (case y0 => k_is)
    (case y1 => k_is)
    (case yl1 => k_is)
    (case y2 => k_is)
    (case y3 => k_is)
    (case z_len => k_is)
    (case z_int => k_is)
    (case z_list => k_is)
    (case z_str => k_is)
    (case z_tuple => k_is)
    (case z_isinstance => k_is)
    (case z_bool => k_is)
    (case z_all => k_is)
    (case z_any => k_is)
    (case z_zip => k_is)
    (case z_sum => k_is)
    (case z_max => k_is)
    (case z_range => k_is)
    (case z_super => k_is)
    (case z_set => k_is)
    (case z_enumerate => k_is)
    (case e1 => k_is)
    (case e23a => k_is)
    (case e23b => k_is)
    (case e23c => k_is)
    (case e20 => k_is)
    (case e27 => decide +kernel)
    (case e2_InvalidTerm => k_is)
    (case e3_InvalidTerm => k_is)
    (case e4_InvalidTerm => decide +kernel)
    (case e5_InvalidTerm => k_is)
    (case e6_InvalidTerm => k_is)
    (case e7_InvalidTerm => k_is)
    (case e8_InvalidTerm => k_is)
    (case e13_InvalidTerm => k_is)
    (case e9_InvalidTerm => k_is)
    (case e10_InvalidTerm => k_is)
    (case e11_InvalidTerm => k_is)
    (case e12_InvalidTerm => exact rfl)
    (case e14_InvalidTerm => decide +kernel)
    (case e15_InvalidTerm => k_is)
    (case e16_InvalidTerm => ks_is)
    (case e17_InvalidTerm => k_is)
    (case e18_InvalidTerm => k_is)
    (case e19t_InvalidTerm => decide +kernel)
    (case e21_InvalidTerm => k_is)
    (case e22_InvalidTerm => k_is)
    (case e23d_InvalidTerm => k_is)
    (case e24_InvalidTerm => k_is)
    (case e25_InvalidTerm => k_is)
    (case e26_InvalidTerm => k_is)
    (case e31_InvalidTerm => k_is)
    (case e2_InvalidBoard => k_is)
    (case e3_InvalidBoard => k_is)
    (case e4_InvalidBoard => decide +kernel)
    (case e5_InvalidBoard => k_is)
    (case e6_InvalidBoard => k_is)
    (case e7_InvalidBoard => k_is)
    (case e8_InvalidBoard => k_is)
    (case e13_InvalidBoard => k_is)
    (case e9_InvalidBoard => k_is)
    (case e10_InvalidBoard => k_is)
    (case e11_InvalidBoard => k_is)
    (case e12_InvalidBoard => exact rfl)
    (case e14_InvalidBoard => decide +kernel)
    (case e15_InvalidBoard => k_is)
    (case e16_InvalidBoard => ks_is)
    (case e17_InvalidBoard => k_is)
    (case e18_InvalidBoard => k_is)
    (case e19t_InvalidBoard => decide +kernel)
    (case e21_InvalidBoard => k_is)
    (case e22_InvalidBoard => k_is)
    (case e23d_InvalidBoard => k_is)
    (case e24_InvalidBoard => k_is)
    (case e25_InvalidBoard => k_is)
    (case e26_InvalidBoard => k_is)
    (case e31_InvalidBoard => k_is)
    (case e2_InvalidPlace => k_is)
    (case e3_InvalidPlace => k_is)
    (case e4_InvalidPlace => decide +kernel)
    (case e5_InvalidPlace => k_is)
    (case e6_InvalidPlace => k_is)
    (case e7_InvalidPlace => k_is)
    (case e8_InvalidPlace => k_is)
    (case e13_InvalidPlace => k_is)
    (case e9_InvalidPlace => k_is)
    (case e10_InvalidPlace => k_is)
    (case e11_InvalidPlace => k_is)
    (case e12_InvalidPlace => exact rfl)
    (case e14_InvalidPlace => decide +kernel)
    (case e15_InvalidPlace => k_is)
    (case e16_InvalidPlace => ks_is)
    (case e17_InvalidPlace => k_is)
    (case e18_InvalidPlace => k_is)
    (case e19t_InvalidPlace => decide +kernel)
    (case e21_InvalidPlace => k_is)
    (case e28_InvalidPlace => k_is)
    (case e29_InvalidPlace => k_is)
    (case e30_InvalidPlace => k_is)
    (case e22_InvalidPlace => k_is)
    (case e23d_InvalidPlace => k_is)
    (case e24_InvalidPlace => k_is)
    (case e25_InvalidPlace => k_is)
    (case e26_InvalidPlace => k_is)
    (case e31_InvalidPlace => k_is)
    (case e2_InvalidReading => k_is)
    (case e3_InvalidReading => k_is)
    (case e4_InvalidReading => decide +kernel)
    (case e5_InvalidReading => k_is)
    (case e6_InvalidReading => k_is)
    (case e7_InvalidReading => k_is)
    (case e8_InvalidReading => k_is)
    (case e13_InvalidReading => k_is)
    (case e9_InvalidReading => k_is)
    (case e10_InvalidReading => k_is)
    (case e11_InvalidReading => k_is)
    (case e12_InvalidReading => exact rfl)
    (case e14_InvalidReading => decide +kernel)
    (case e15_InvalidReading => k_is)
    (case e16_InvalidReading => ks_is)
    (case e17_InvalidReading => k_is)
    (case e18_InvalidReading => k_is)
    (case e19t_InvalidReading => decide +kernel)
    (case e21_InvalidReading => k_is)
    (case e28_InvalidReading => k_is)
    (case e29_InvalidReading => k_is)
    (case e30_InvalidReading => k_is)
    (case e22_InvalidReading => k_is)
    (case e23d_InvalidReading => k_is)
    (case e24_InvalidReading => k_is)
    (case e25_InvalidReading => k_is)
    (case e26_InvalidReading => k_is)
    (case e31_InvalidReading => k_is)
    (case e2_TooManyPlaces => k_is)
    (case e3_TooManyPlaces => k_is)
    (case e4_TooManyPlaces => decide +kernel)
    (case e5_TooManyPlaces => k_is)
    (case e6_TooManyPlaces => k_is)
    (case e7_TooManyPlaces => k_is)
    (case e8_TooManyPlaces => k_is)
    (case e13_TooManyPlaces => k_is)
    (case e9_TooManyPlaces => k_is)
    (case e10_TooManyPlaces => k_is)
    (case e11_TooManyPlaces => k_is)
    (case e12_TooManyPlaces => exact rfl)
    (case e14_TooManyPlaces => decide +kernel)
    (case e15_TooManyPlaces => k_is)
    (case e16_TooManyPlaces => ks_is)
    (case e17_TooManyPlaces => k_is)
    (case e18_TooManyPlaces => k_is)
    (case e19t_TooManyPlaces => decide +kernel)
    (case e21_TooManyPlaces => k_is)
    (case e28_TooManyPlaces => k_is)
    (case e29_TooManyPlaces => k_is)
    (case e30_TooManyPlaces => k_is)
    (case e22_TooManyPlaces => k_is)
    (case e23d_TooManyPlaces => k_is)
    (case e24_TooManyPlaces => k_is)
    (case e25_TooManyPlaces => k_is)
    (case e26_TooManyPlaces => k_is)
    (case e31_TooManyPlaces => k_is)
    (case aC_Board => k_is)
    (case pg_Board => k_is)
    (case hd_Board => k_is)
    (case po_Board => k_is)
    (case sa_Board => k_is)
    (case mk_Board => k_is)
    (case kc_Board => k_is)
    (case na_Board_lines => k_is)
    (case na_Board_above => k_is)
    (case na_Board_below => k_is)
    (case na_Board_lows => k_is)
    (case na_Board_highs => k_is)
    (case na_Board_least => k_is)
    (case na_Board_greatest => k_is)
    (case a_Board_init => k_is)
    (case i_Board_init => k_is)
    (case l_Board_init => k_is)
    (case c_Board_init => k_is)
    (case k_Board_init => k_is)
    (case cty_Board => k_is)
    (case crd_Board => k_is)
    (case cga_Board => k_is)
    (case g_Board_chain => k_is)
    (case r_Board_chain => k_is)
    (case i_Board_chain => k_is)
    (case l_Board_chain => k_is)
    (case c_Board_chain => k_is)
    (case k_Board_chain => k_is)
    (case g_Board_fan => k_is)
    (case r_Board_fan => k_is)
    (case l_Board_fan => k_is)
    (case c_Board_fan => k_is)
    (case k_Board_fan => k_is)
    (case a_Board_rows => k_is)
    (case i_Board_rows => k_is)
    (case l_Board_rows => k_is)
    (case c_Board_rows => k_is)
    (case k_Board_rows => k_is)
    (case a_Board_has_place => k_is)
    (case i_Board_has_place => k_is)
    (case l_Board_has_place => k_is)
    (case c_Board_has_place => k_is)
    (case k_Board_has_place => k_is)
    (case a_Board_check_places => k_is)
    (case i_Board_check_places => k_is)
    (case l_Board_check_places => k_is)
    (case c_Board_check_places => k_is)
    (case k_Board_check_places => k_is)
    (case a_Board_is_below => k_is)
    (case i_Board_is_below => k_is)
    (case l_Board_is_below => k_is)
    (case c_Board_is_below => k_is)
    (case k_Board_is_below => k_is)
    (case a_Board_low => k_is)
    (case i_Board_low => k_is)
    (case l_Board_low => k_is)
    (case c_Board_low => k_is)
    (case k_Board_low => k_is)
    (case a_Board_up => k_is)
    (case i_Board_up => k_is)
    (case l_Board_up => k_is)
    (case c_Board_up => k_is)
    (case k_Board_up => k_is)
    (case a_Board_spreads => k_is)
    (case i_Board_spreads => k_is)
    (case l_Board_spreads => k_is)
    (case c_Board_spreads => k_is)
    (case k_Board_spreads => k_is)
    (case a_Board_turned => k_is)
    (case i_Board_turned => k_is)
    (case l_Board_turned => k_is)
    (case c_Board_turned => k_is)
    (case k_Board_turned => k_is)
    (case a_Board_product => k_is)
    (case i_Board_product => k_is)
    (case l_Board_product => k_is)
    (case c_Board_product => k_is)
    (case k_Board_product => k_is)
    (case a_Board_len => k_is)
    (case i_Board_len => k_is)
    (case l_Board_len => k_is)
    (case c_Board_len => k_is)
    (case k_Board_len => k_is)
    (case cva => k_is)
    (case bg_low => k_is)
    (case bt_low => k_is)
    (case bf_low => k_is)
    (case bg_up => k_is)
    (case bt_up => k_is)
    (case bf_up => k_is)
