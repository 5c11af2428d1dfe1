import PyProof.Rows.All
import Wide.All
import OpenK.AllK
import Wide.FinOn
import HandS.Base
import HandS.Call
import HandS.List
import HandS.Comp
import HandS.Ends
import HandS.Iter
import HandS.Text
import HandS.Words
import HandS.WordsList
import HandS.More
import HandS.Codes
import HandS.IsInst
import HandS.Zip
import HandS.Walk
import HandS.Style
import HandS.Defaults
import HandS.MakeKwOnly
import KE.KExcSuper
import HandS.Exc
import HandS.ExcInit
import HandS.ExcField
import HandS.Lambda
import HandS.Star
import HandS.WordsExc
import HandS.FStr
import HandS.ForDict
import HandS.WordsDict
import HandS.DictComp
import HandS.EndTab
import PySem.Challenge.RW_fivefault_k30_truth_under_a_case
set_option Elab.async false
set_option linter.all false
set_option maxRecDepth 100000

namespace Fv
open PySem PySem.Spec PyProof.Rows L2
/-! ### heaps -/
theorem same_upd {H : Hp} {p : Addr} {o : HO} (h : H p = none) : Same H (upd H p o) := fun b x e => by
  rw [upd_ne (ne_of_none e h)]
  exact e
/-- all but what stands at M is as it was -/
def SmX (M : List Addr) (H H' : Hp) : Prop := ∀ b o, b ∉ M → H b = some o → H' b = some o
theorem SmX.refl (M : List Addr) (H : Hp) : SmX M H H := fun _ _ _ h => h
theorem SmX.trans {M : List Addr} {H H1 H2 : Hp} (a : SmX M H H1) (b : SmX M H1 H2) : SmX M H H2 := fun c o m h => b c o m (a c o m h)
theorem SmX.of_same {M : List Addr} {H H1 : Hp} (a : Same H H1) : SmX M H H1 := fun c o _ h => a c o h
theorem SmX.new {M : List Addr} {H : Hp} {p : Addr} {o : HO} (h : H p = none) : SmX M H (upd H p o) := .of_same (same_upd h)
theorem SmX.sub {M M' : List Addr} {H H1 : Hp} (a : SmX M H H1) (h : ∀ b, b ∈ M → b ∈ M' ∨ H b = none) : SmX M' H H1 := fun c o m e => by
  refine a c o (fun hc => ?_) e
  rcases h c hc with q | q
  · exact m q
  · rw [q] at e; cases e
theorem SmX.at {M : List Addr} {H H1 : Hp} {a : Addr} (h : ∀ b, b ≠ a → H1 b = H b) (m : a ∈ M) : SmX M H H1 := fun c o n e => by
  rw [h c (fun z => n (z ▸ m))]; exact e
theorem SmX.put {M : List Addr} {H H1 : Hp} {p : Addr} {o : HO} (a : SmX M H H1) (m : p ∈ M) : SmX M H (L2.upd H1 p o) := fun c x n e => by
  have ne : c ≠ p := fun z => n (z ▸ m)
  rw [upd_ne ne]; exact a c x n e
/-- what does not stand at M -/
def hide (M : List Addr) (H : Hp) : Hp := fun b => if b ∈ M then none else H b
theorem hide_ne {M : List Addr} {H : Hp} {b : Addr} (h : b ∉ M) : hide M H b = H b := by unfold hide; rw [if_neg h]
theorem hide_some {M : List Addr} {H : Hp} {b : Addr} {o : HO} (h : hide M H b = some o) : b ∉ M ∧ H b = some o := by
  unfold hide at h
  by_cases m : b ∈ M
  · rw [if_pos m] at h; cases h
  · rw [if_neg m] at h; exact ⟨m, h⟩
theorem hide_same {M : List Addr} {H : Hp} : Same (hide M H) H := fun b o h => (hide_some h).2
theorem SmX.hid {M : List Addr} {H H' : Hp} (h : SmX M H H') : Same (hide M H) (hide M H') := fun b o e => by
  obtain ⟨m, e⟩ := hide_some e
  rw [hide_ne m]
  exact h b o m e
theorem hide_sub {M M' : List Addr} {H : Hp} (h : ∀ b, b ∈ M' → b ∈ M) : Same (hide M H) (hide M' H) := fun b o e => by
  obtain ⟨m, e⟩ := hide_some e
  rw [hide_ne (fun z => m (h b z))]
  exact e
theorem same_seqT {K : PySem.W.Frag} {H H' : Hp} {a : Addr} {xs : List V} (e : Same H H') (h : SqT K H a xs) : SqT K H' a xs := by
  rcases h with (h | ⟨o, h⟩) | h
  · exact .inl (.inl (e _ _ h))
  · exact .inl (.inr ⟨o, e _ _ h⟩)
  · exact .inr h
mutual
theorem dp_same {K : PySem.W.Frag} {H H' : Hp} (e : Same H H') : ∀ (d : PyData) (v : V), Dp K H v d → Dp K H' v d
  | .none, _, h => by cases h; exact .non
  | .bool b, _, h => by cases h; exact .bl b
  | .int i, _, h => by cases h; exact .int i
  | .str x, _, h => by cases h; exact .str x
  | .list ds, _, h => by cases h with | lst hs ha => exact .lst (e.seq hs) (dpAll_same e ds _ ha)
  | .tuple ds, _, h => by cases h with | tup hs ha => exact .tup (same_seqT e hs) (dpAll_same e ds _ ha)
  | .dict kvs, _, h => by cases h
theorem dpAll_same {K : PySem.W.Frag} {H H' : Hp} (e : Same H H') : ∀ (ds : List PyData) (vs : List V), DpAll K H vs ds → DpAll K H' vs ds
  | [], _, h => by cases h; exact .nil
  | d :: ds, _, h => by cases h with | cons h1 h2 => exact .cons (dp_same e d _ h1) (dpAll_same e ds _ h2)
end
theorem dpAll_len {K : PySem.W.Frag} {H : Hp} : ∀ {vs : List V} {ds : List PyData}, DpAll K H vs ds → vs.length = ds.length
  | _, _, .nil => rfl
  | _, _, .cons _ h => by rw [List.length_cons, List.length_cons, dpAll_len h]
theorem dpAll_get {K : PySem.W.Frag} {H : Hp} : ∀ {vs : List V} {ds : List PyData} {i : Nat} {v : V}, DpAll K H vs ds → vs[i]? = some v → ∃ d, ds[i]? = some d ∧ Dp K H v d
  | _, _, _, _, .nil, e => by simp at e
  | _, _, 0, _, .cons h _, e => by simp at e; subst e; exact ⟨_, rfl, h⟩
  | _ :: vs, _ :: ds, i + 1, _, .cons _ h, e => by
    have e' : vs[i]? = some _ := e
    exact dpAll_get (ds := ds) h e'
theorem dpAll_app {K : PySem.W.Frag} {H : Hp} : ∀ {vs ws : List V} {ds es : List PyData}, DpAll K H vs ds → DpAll K H ws es → DpAll K H (vs ++ ws) (ds ++ es)
  | _, _, _, _, .nil, h => h
  | _, _, _, _, .cons h1 h2, h => .cons h1 (dpAll_app h2 h)
theorem dpAll_drop {K : PySem.W.Frag} {H : Hp} : ∀ (n : Nat) {vs : List V} {ds : List PyData}, DpAll K H vs ds → DpAll K H (vs.drop n) (ds.drop n)
  | 0, _, _, h => h
  | n + 1, _, _, .nil => .nil
  | n + 1, _, _, .cons _ h => dpAll_drop n h
/-! ### data -/
mutual
/-- plain data, nested at most n deep -/
def gd : Nat → PyData → Bool
  | _, .none => true
  | _, .bool _ => true
  | _, .int _ => true
  | _, .str x => PyData.strOk x && decide (x.length ≤ 100000)
  | 0, _ => false
  | n + 1, .list ds => gdAll n ds && decide (ds.length ≤ 1000)
  | n + 1, .tuple ds => gdAll n ds && decide (ds.length ≤ 1000)
  | _, .dict _ => false
def gdAll : Nat → List PyData → Bool
  | _, [] => true
  | n, d :: ds => gd n d && gdAll n ds
end
theorem gdAll_iff {n : Nat} : ∀ {ds : List PyData}, gdAll n ds = true ↔ ∀ d ∈ ds, gd n d = true
  | [] => by simp [gdAll]
  | d :: ds => by simp [gdAll, gdAll_iff (n := n) (ds := ds)]
mutual
theorem gd_up : ∀ (n : Nat) (d : PyData), gd n d = true → gd (n + 1) d = true
  | _, .none, _ => rfl
  | _, .bool _, _ => rfl
  | _, .int _, _ => rfl
  | 0, .str x, h => h
  | n + 1, .str x, h => h
  | 0, .list _, h => by cases h
  | 0, .tuple _, h => by cases h
  | 0, .dict _, h => by cases h
  | n + 1, .list ds, h => by
    simp only [gd, Bool.and_eq_true] at h ⊢
    exact ⟨gdAll_up n ds h.1, h.2⟩
  | n + 1, .tuple ds, h => by
    simp only [gd, Bool.and_eq_true] at h ⊢
    exact ⟨gdAll_up n ds h.1, h.2⟩
  | n + 1, .dict _, h => by cases h
theorem gdAll_up : ∀ (n : Nat) (ds : List PyData), gdAll n ds = true → gdAll (n + 1) ds = true
  | _, [], _ => rfl
  | n, d :: ds, h => by
    simp only [gdAll, Bool.and_eq_true] at h ⊢
    exact ⟨gd_up n d h.1, gdAll_up n ds h.2⟩
end
theorem gd_le {n m : Nat} {d : PyData} (h : gd n d = true) (hm : n ≤ m) : gd m d = true := by
  induction hm with
  | refl => exact h
  | step _ ih => exact gd_up _ _ ih
mutual
theorem gd_lay : ∀ (n : Nat) (d : PyData), gd n d = true → d.canLay0 = true ∧ d.depth ≤ n
  | _, .none, _ => ⟨rfl, by simp [PyData.depth]⟩
  | _, .bool _, _ => ⟨rfl, by simp [PyData.depth]⟩
  | _, .int _, _ => ⟨rfl, by simp [PyData.depth]⟩
  | 0, .str x, h => ⟨by simp only [gd, Bool.and_eq_true] at h; simpa [PyData.canLay0] using h.1, by simp [PyData.depth]⟩
  | n + 1, .str x, h => ⟨by simp only [gd, Bool.and_eq_true] at h; simpa [PyData.canLay0] using h.1, by simp [PyData.depth]⟩
  | 0, .list _, h => by cases h
  | 0, .tuple _, h => by cases h
  | 0, .dict _, h => by cases h
  | n + 1, .list ds, h => by
    have q := gdAll_lay n ds (by simp only [gd, Bool.and_eq_true] at h; exact h.1)
    exact ⟨by simpa [PyData.canLay0] using q.1, by simp only [PyData.depth]; omega⟩
  | n + 1, .tuple ds, h => by
    have q := gdAll_lay n ds (by simp only [gd, Bool.and_eq_true] at h; exact h.1)
    exact ⟨by simpa [PyData.canLay0] using q.1, by simp only [PyData.depth]; omega⟩
  | n + 1, .dict _, h => by cases h
theorem gdAll_lay : ∀ (n : Nat) (ds : List PyData), gdAll n ds = true → PyData.canLayAll0 ds = true ∧ PyData.depthAll ds ≤ n
  | _, [], _ => ⟨rfl, by simp [PyData.depthAll]⟩
  | n, d :: ds, h => by
    simp only [gdAll, Bool.and_eq_true] at h
    have a := gd_lay n d h.1
    have b := gdAll_lay n ds h.2
    exact ⟨by simp [PyData.canLayAll0, a.1, b.1], by simp only [PyData.depthAll]; omega⟩
end
theorem gd_list {n : Nat} {ds : List PyData} (h : gd (n + 1) (.list ds) = true) : ds.length ≤ 1000 ∧ ∀ d ∈ ds, gd n d = true := by
  simp only [gd, Bool.and_eq_true, decide_eq_true_eq] at h
  exact ⟨h.2, gdAll_iff.mp h.1⟩
theorem gd_tuple {n : Nat} {ds : List PyData} (h : gd (n + 1) (.tuple ds) = true) : ds.length ≤ 1000 ∧ ∀ d ∈ ds, gd n d = true := by
  simp only [gd, Bool.and_eq_true, decide_eq_true_eq] at h
  exact ⟨h.2, gdAll_iff.mp h.1⟩
theorem gd_tup {n : Nat} {ds : List PyData} (h : ∀ d ∈ ds, gd n d = true) (hl : ds.length ≤ 1000) : gd (n + 1) (.tuple ds) = true := by
  simp only [gd, Bool.and_eq_true, decide_eq_true_eq]
  exact ⟨gdAll_iff.mpr h, hl⟩
theorem gd_lst {n : Nat} {ds : List PyData} (h : ∀ d ∈ ds, gd n d = true) (hl : ds.length ≤ 1000) : gd (n + 1) (.list ds) = true := by
  simp only [gd, Bool.and_eq_true, decide_eq_true_eq]
  exact ⟨gdAll_iff.mpr h, hl⟩
theorem gd_shaped {n : Nat} {d : PyData} (h : gd n d = true) (hn : n ≤ 64) : SeqAt.shaped d = true := by
  have q := gd_lay n d h
  show (d.canLay0 && decide (d.depth ≤ 64)) = true
  rw [q.1, decide_eq_true (Nat.le_trans q.2 hn)]
  rfl
end Fv


namespace Fv
open PySem PySem.Spec PyProof.Rows L2
/-! ### an own def as its callers see it -/
structure Own (P : Program) (w : World) (K : PySem.W.Frag) (mg : Str → Option Value) (base : Heap) (k : Nat) (x : Str) (ps : List Str) (sp : Sp) : Prop where
  ex : ∃ (f : Addr) (fd : FuncData), mg x = some (.ref f) ∧ PySem.W.keepIn K (.ref f) = true ∧ Binds K fd ps [] ∧ FnOk P w K mg base CX0 k f fd ps sp
section
variable {X : Cx} {k : Nat} {x : Str} {ps : List Str} {sp : Sp} {e : Expr} {es : List Expr} {t : TA} {p pos : Pos}
theorem pe_own (C : Own X.prog X.w X.K X.mg X.base k x ps sp) (hr : Room k X.A) (hg : Gl X x) (ha : PA X (e :: es) t) (hdb : (x == ("__debug__" : Str)) = false := by decide)
    (he : starEach (e :: es) X.env = (false, eval e X.env) :: starEach es X.env := by rfl) (hpl : (backTo pos (starEach es X.env)).any (·.1) = false := by rfl) : PE X (.Call (.Name x p) (e :: es) [] pos) (tCall sp [] E0 t) := by
  obtain ⟨f, fd, h1, h2, h3, h4⟩ := C.ex
  exact pe_call h4 hr hg h1 h2 h3 .nil pass0 ha hdb he hpl
end
/-! ### isinstance of data -/
def tyN : PyData → String
  | .none => "NoneType"
  | .bool _ => "bool"
  | .int _ => "int"
  | .str _ => "str"
  | .list _ => "list"
  | .tuple _ => "tuple"
  | .dict _ => "dict"
/-- isinstance of data, by the names of the types -/
def isB : String → String → Bool
  | a, b => a == b || (a == "bool" && b == "int")
def tyOk (T : String) : Bool := T == "str" || T == "int" || T == "bool" || T == "list" || T == "tuple" || T == "dict"
theorem kitB_all {d : PyData} {T : String} (h : tyOk T = true) : kitB (tyN d) T = some (isB (tyN d) T) := by
  simp only [tyOk, Bool.or_eq_true, beq_iff_eq] at h
  rcases h with ((((h | h) | h) | h) | h) | h <;> subst h <;> cases d <;> (simp only [tyN]; decide +kernel)
theorem dp_ty {K : PySem.W.Frag} {H : Hp} {v : V} {d : PyData} (h : Dp K H v d) : TyX K H v (.type (tyN d)) := by
  cases h with
  | non => exact .base .non
  | bl b => exact .base (.bl b)
  | int i => exact .base (.int i)
  | str x => exact .base (.str x)
  | lst hs ha =>
    rcases hs with (h | ⟨o, h⟩) | ⟨o, its, n, h1, h2, _⟩
    · exact .base (.lst h)
    · exact .base (.frz h)
    · exact .kList h1 h2
  | tup hs ha =>
    rcases hs with (h | ⟨o, h⟩) | ⟨o, its, n, h1, h2, _⟩
    · exact .base (.tup h)
    · exact .fTuple h
    · exact .kTuple h1 h2
def rIsD (K : PySem.W.Frag) : List V → Hp → VK → Prop := fun xs H Q => ∃ (x : V) (T : String) (d : PyData), xs = [x, .ty T] ∧ tyOk T = true ∧ Dp K H x d ∧ Q (.bl (isB (tyN d) T)) H
theorem call_isD {X : Cx} : CallR X (.builtin "isinstance") (rIsD X.K) := by
  intro pins s σ H xs us Q I r h
  obtain ⟨x, T, d, rfl, hT, hd, q⟩ := h
  exact call_isi pins s σ H _ us Q I r ⟨x, .ty T, _, _, _, rfl, .ty T, dp_ty hd, kit_ty (kitB_all hT), q⟩
section
variable {X : Cx} {e : Expr} {te : TE} {T : String} {y : Str} {p p2 pos : Pos}
theorem pe_isD (hg : Gl X "isinstance") (hm : X.mg "isinstance" = none) (hg2 : Gl X y) (hm2 : X.mg y = none) (ha : PE X e te)
    (hv : bootBuiltins y = some (.type T) := by decide +kernel) (hn : y ≠ "__name__" := by decide) (hd2 : (y == ("__debug__" : Str)) = false := by decide)
    (he : starEach (e :: [.Name y p2]) X.env = (false, eval e X.env) :: starEach [.Name y p2] X.env := by rfl) (hpl : (backTo pos (starEach [.Name y p2] X.env)).any (·.1) = false := by rfl) :
    PE X (.Call (.Name "isinstance" p) [e, .Name y p2] [] pos) (tCB (rIsD X.K) (tCons te (tCons (tC (.ty T)) tNil))) :=
  pe_callB (x := "isinstance") call_isD hg hm (by decide +kernel) (pa_cons ha (pa_cons (pe_bltn (v := .ty T) (pos := p2) hg2 hm2 hv rfl hn hd2) pa_nil) (hs := he)) (by decide) (by decide) he hpl
/-! ### in, not in: a tuple of data -/
def rInT (K : PySem.W.Frag) : R2 := fun x y H Q => ∃ d ds, Dp K H x d ∧ Dp K H y (.tuple ds) ∧ SeqAt.shaped d = true ∧ SeqAt.shaped (.tuple ds) = true ∧ Q (.bl (ds.any fun z => PyData.eqv z d)) H
def rNotInT (K : PySem.W.Frag) : R2 := fun x y H Q => ∃ d ds, Dp K H x d ∧ Dp K H y (.tuple ds) ∧ SeqAt.shaped d = true ∧ SeqAt.shaped (.tuple ds) = true ∧ Q (.bl (!ds.any fun z => PyData.eqv z d)) H
theorem room_shaped {n : Nat} {ds : List PyData} {d : PyData} (h : SeqAt.shaped d = true) (hu : n + 65 < cLine) : n + 1 + min (PyData.depthAll ds) d.depth < cLine := by
  have := SeqAt.depth_of_shaped h
  have := Nat.min_le_right (PyData.depthAll ds) d.depth
  omega
theorem op_inT (hu : X.A.units + 65 < cLine) : OpR X (compareOp .In) (rInT X.K) := by
  intro pins s σ H x y v u Q I rx ry h
  obtain ⟨d, ds, hd, he, sd, se, q⟩ := h
  obtain ⟨as, r1⟩ := Dp.reads I d x v hd rx
  obtain ⟨bs, r2⟩ := Dp.reads I (.tuple ds) y u he ry
  exact SeqAt.in_tuple_reads r2 r1 (SeqAt.canLay_of_shaped se) (SeqAt.canLay_of_shaped sd) (room_shaped sd hu) ⟨.bl _, H, I, rfl, q⟩
theorem op_notInT (hu : X.A.units + 65 < cLine) : OpR X (compareOp .NotIn) (rNotInT X.K) := by
  intro pins s σ H x y v u Q I rx ry h
  obtain ⟨d, ds, hd, he, sd, se, q⟩ := h
  obtain ⟨as, r1⟩ := Dp.reads I d x v hd rx
  obtain ⟨bs, r2⟩ := Dp.reads I (.tuple ds) y u he ry
  exact SeqAt.notIn_tuple_reads r2 r1 (SeqAt.canLay_of_shaped se) (SeqAt.canLay_of_shaped sd) (room_shaped sd hu) ⟨.bl _, H, I, rfl, q⟩
end
theorem hu65 {A : Around} {k : Nat} (hr : Room k A) : A.units + 65 < cLine := by have := hr.un; omega
/-! ### the source of draws -/
/-- the source at a: its script at L, ns -/
def Src (H : Hp) (a L : Addr) (ns : List Int) : Prop := ∃ i p st c : Int, H a = some (.lst [.ref L, .int i, .int p, .int st, .int c]) ∧ H L = some (.lst (ns.map V.int)) ∧ 0 ≤ i ∧ 0 ≤ st ∧ st < 2147483629
theorem Src.off {H H' : Hp} {a L b : Addr} {ns : List Int} (h : Src H a L ns) (hb : H b = none) (e : ∀ c, c ≠ b → H' c = H c) : Src H' a L ns := by
  obtain ⟨i, p, st, c, h1, h2, h3⟩ := h
  exact ⟨i, p, st, c, by rw [e a (ne_of_none h1 hb)]; exact h1, by rw [e L (ne_of_none h2 hb)]; exact h2, h3⟩
theorem Src.same {H H' : Hp} {a L : Addr} {ns : List Int} (h : Src H a L ns) (e : Same H H') : Src H' a L ns := by
  obtain ⟨i, p, st, c, h1, h2, h3⟩ := h
  exact ⟨i, p, st, c, e _ _ h1, e _ _ h2, h3⟩
def spSource (K : PySem.W.Frag) : Sp := fun vs H Q _ => ∃ (a : Addr) (ns : List Int), vs = [.ref a] ∧ SqL K H a (ns.map V.int) ∧ ns.length ≤ 63 ∧
  ∀ (H' : Hp) (p L : Addr), Same H H' → H p = none → H L = none → Src H' p L ns → Q (.ref p) H'
def spTake : Sp := fun vs H Q _ => ∃ (a L : Addr) (ns : List Int) (n : Int), vs = [.ref a, .int n] ∧ Src H a L ns ∧ 1 ≤ n ∧ n ≤ 1000000 ∧
  ∀ (H' : Hp) (d : Int), 0 ≤ d → d < n → Src H' a L ns → (∀ b, b ≠ a → H' b = H b) → Q (.int d) H'
def spPick : Sp := fun vs H Q _ => ∃ (a L r : Addr) (ns : List Int) (xs : List V), vs = [.ref a, .ref r] ∧ Src H a L ns ∧ r ≠ a ∧ H r = some (.lst xs) ∧ 0 < xs.length ∧ xs.length ≤ 1000 ∧
  ∀ (H' : Hp) (v : V), v ∈ xs → Src H' a L ns → (∀ b, b ≠ a → H' b = H b) → Q v H'
def spMixed : Sp := fun vs H Q _ => ∃ (a L r : Addr) (ns : List Int) (xs : List V), vs = [.ref a, .ref r] ∧ Src H a L ns ∧ r ≠ a ∧ H r = some (.lst xs) ∧ xs.length ≤ 1000 ∧
  ∀ (H' : Hp) (p : Addr) (ys : List V), ys.Perm xs → H p = none → H' p = some (.lst ys) → Src H' a L ns → (∀ b, b ≠ a → b ≠ p → H' b = H b) → Q (.ref p) H'
end Fv


namespace Fv
open PySem PySem.Spec PyProof.Rows L2
/-! ### list(text) -/
def signs (x : Str) : List V := x.cps.toList.map fun c => V.str ⟨#[c]⟩
theorem vals_signs {x : Str} {acc : Array Value} (h : ItemsOf (SignAt x) acc x.cps.size) : Vals (signs x) acc.toList := by
  have hs : acc.toList.length = x.cps.toList.length := by simpa using h.1
  have hi : ∀ (j : Nat) (v : Value), acc.toList[j]? = some v → ∃ c u, x.cps.toList[j]? = some c ∧ v = .str ⟨#[c]⟩ u := fun j v e => by
    obtain ⟨c, u, e1, e2⟩ := h.2 j v (by simpa using e)
    exact ⟨c, u, by simpa using e1, e2⟩
  unfold signs
  generalize acc.toList = us at hs hi
  generalize x.cps.toList = cs at hs hi
  induction cs generalizing us with
  | nil =>
    cases us with
    | nil => exact .nil
    | cons u us => simp at hs
  | cons c cs ih =>
    cases us with
    | nil => simp at hs
    | cons u us =>
      obtain ⟨c', t, e1, e2⟩ := hi 0 u rfl
      simp at e1
      subst e1
      refine .cons ⟨t, e2⟩ (ih us (by simpa using hs) fun j v e => ?_)
      obtain ⟨c', t, e1, e2⟩ := hi (j + 1) v (by simpa using e)
      exact ⟨c', t, by simpa using e1, e2⟩
section
variable {X : Cx}
theorem call_listStr (hh : X.A.handled = none) : CallR X (.type "list") (fun xs H Q => ∃ x : Str, xs = [.str x] ∧ x.cps.size ≤ sizeLine ∧ ∀ l, H l = none → Q (.ref l) (upd H l (.lst (signs x)))) := by
  intro pins s σ H xs us Q I r h
  obtain ⟨x, rfl, hz, q⟩ := h
  obtain ⟨u, rfl, rx⟩ := vals1 r
  obtain ⟨t, rfl⟩ := rx
  refine call_list_str hh x t (fun h' tk acc' c' kp e it => ?_) hz
  have rv := vals_signs it
  refine ⟨.ref s.heap.objs.size, _, I.laid (t' := tk) kp (Nat.le_refl _) (show ObjOk X.prog X.w _ h' _ (.lst (signs x)) from ⟨?_, acc'.toList, c', rv, ?_⟩), rfl, q _ (I.hok.fresh (Nat.le_refl _))⟩
  · unfold signs; rw [List.length_map, Array.length_toList]; exact hz
  · simpa using e
end
theorem atI_mem {xs : List V} {i : Int} (h0 : 0 ≤ i) (h : i < (xs.length : Nat)) : ∃ v, atI xs i = some v ∧ v ∈ xs := by
  have hk : i.toNat < xs.length := by omega
  have q : atI xs ((i.toNat : Nat) : Int) = some xs[i.toNat] := atI_nat (List.getElem?_eq_getElem hk)
  rw [show ((i.toNat : Nat) : Int) = i by omega] at q
  exact ⟨_, q, List.getElem_mem hk⟩
theorem le1000 {n : Nat} (h : n ≤ 1000) : n ≤ sizeLine := Nat.le_of_lt (small1000 h)
/-- the letters of a list of signs are texts of one sign of a to h -/
def lett (v : V) : Prop := v ∈ signs "abcdefgh"
theorem lett_data {v : V} (h : lett v) : ∃ x : Str, v = .str x ∧ x ∈ (["a", "b", "c", "d", "e", "f", "g", "h"] : List Str) := by
  have e : signs "abcdefgh" = (["a", "b", "c", "d", "e", "f", "g", "h"] : List Str).map V.str := by decide +kernel
  unfold lett at h
  rw [e] at h
  obtain ⟨x, hx, rfl⟩ := List.mem_map.mp h
  exact ⟨x, rfl, hx⟩
def spSigns : Sp := fun vs H Q _ => ∃ (a L : Addr) (ns : List Int) (n : Int), vs = [.ref a, .int n] ∧ Src H a L ns ∧ 1 ≤ n ∧ n ≤ 8 ∧
  ∀ (H' : Hp) (p : Addr) (ys : List V), 0 < ys.length → ys.length ≤ n → (∀ y ∈ ys, lett y) → ys.Nodup → H p = none → H' p = some (.lst ys) → Src H' a L ns → SmX [a] H H' → Q (.ref p) H'
theorem cut_take (xs : List V) {n : Int} (h : 0 ≤ n) : cutV xs none (some n) = xs.take n.toNat := by
  unfold cutV
  rw [HT.sIx_none, show HT.sIx xs.length xs.length (some n) = min n.toNat xs.length by
    have := HT.sIx_nat xs.length xs.length n.toNat
    rw [show ((n.toNat : Nat) : Int) = n by omega] at this
    exact this]
  rw [List.drop_zero, Nat.sub_zero]
  rcases Nat.le_total n.toNat xs.length with q | q
  · rw [Nat.min_eq_left q]
  · rw [Nat.min_eq_right q, List.take_of_length_le (Nat.le_refl _), List.take_of_length_le q]
theorem cut_drop1 (xs : List V) : cutV xs (some 1) none = xs.drop 1 := by
  unfold cutV
  rw [show HT.sIx xs.length 0 (some 1) = min 1 xs.length from HT.sIx_nat xs.length 0 1, HT.sIx_none]
  cases xs with
  | nil => rfl
  | cons x r =>
    rw [show min 1 (x :: r).length = 1 by
      rw [List.length_cons]
      omega]
    show (List.take ((x :: r).length - 1) r) = r
    rw [List.length_cons, Nat.add_sub_cancel]
    exact List.take_length
end Fv


namespace Fv
open PySem PySem.Spec PyProof.Rows L2
/-! ### measures of data -/
def isL (s : Str) : Bool := decide (V.int (s.length : Nat) = V.int 1) && !(Builtin.Str.occurrences "abcdefgh" s 0 (Str.length "abcdefgh") 1).isEmpty
def isLd : PyData → Bool
  | .str s => isL s
  | _ => false
def isOp (o : PyData) : Bool := ([PyData.str "&", .str "|"] : List PyData).any fun z => PyData.eqv z o
def isCd : PyData → Bool
  | .tuple (o :: ds) => decide (2 ≤ ds.length) && isOp o
  | _ => false
def parts : PyData → List PyData
  | .tuple (_ :: ds) => ds
  | _ => []
def measL (f : PyData → Int → Option (Int × Int)) : List PyData → Int → Int → Int → Option (Int × Int)
  | [], _, dp, tot => some (dp + 1, tot)
  | d :: ds, ms, dp, tot => match f d (ms - tot) with
    | none => none
    | some (a, b) => measL f ds ms (if a > dp then a else dp) (tot + b)
def meas : Nat → PyData → Int → Option (Int × Int)
  | 0, _, _ => none
  | n + 1, d, ms => if ms < 1 then none else if isLd d = true then some (1, 1) else if isCd d = true then measL (meas n) (parts d) ms 0 0 else none
def lmeas : Nat → PyData → Int
  | 0, _ => 0
  | n + 1, d => if isLd d = true then 1 else if isCd d = true then (if (0 : Int) ∈ (parts d).map (lmeas n) then 0 else ((parts d).map (lmeas n)).sum) else 0
theorem sum_nonneg : ∀ {l : List Int}, (∀ x ∈ l, 0 ≤ x) → 0 ≤ l.sum
  | [], _ => by simp
  | x :: l, h => by
    rw [List.sum_cons]
    have := h x (List.mem_cons_self ..)
    have := sum_nonneg (l := l) fun y hy => h y (List.mem_cons_of_mem _ hy)
    omega
theorem lmeas_nonneg : ∀ (n : Nat) (d : PyData), 0 ≤ lmeas n d
  | 0, _ => by simp [lmeas]
  | n + 1, d => by
    unfold lmeas
    split
    · decide
    · split
      · split
        · decide
        · exact sum_nonneg fun x hx => by
            obtain ⟨d', _, rfl⟩ := List.mem_map.mp hx
            exact lmeas_nonneg n d'
      · decide
theorem measL_iff {f : PyData → Int → Option (Int × Int)} {g : PyData → Int} (hg : ∀ d, 0 ≤ g d)
    (hf : ∀ d ms, (f d ms = none ∧ ¬ (1 ≤ g d ∧ g d ≤ ms)) ∨ (∃ dp, f d ms = some (dp, g d) ∧ 1 ≤ g d ∧ g d ≤ ms)) :
    ∀ (ds : List PyData) (ms dp tot : Int), tot ≤ ms →
      (measL f ds ms dp tot = none ∧ ¬ ((∀ d ∈ ds, 1 ≤ g d) ∧ tot + (ds.map g).sum ≤ ms)) ∨ (∃ dp', measL f ds ms dp tot = some (dp', tot + (ds.map g).sum) ∧ (∀ d ∈ ds, 1 ≤ g d) ∧ tot + (ds.map g).sum ≤ ms)
  | [], ms, dp, tot, h => by
    refine .inr ⟨dp + 1, ?_, by simp, by simpa using h⟩
    simp [measL]
  | d :: ds, ms, dp, tot, h => by
    have hs : 0 ≤ (ds.map g).sum := sum_nonneg fun x hx => by
      obtain ⟨d', _, rfl⟩ := List.mem_map.mp hx
      exact hg d'
    rw [List.map_cons, List.sum_cons]
    rcases hf d (ms - tot) with ⟨e, ne⟩ | ⟨a, e, e1, e2⟩
    · refine .inl ⟨by simp only [measL, e], fun ⟨q1, q2⟩ => ne ⟨q1 d (List.mem_cons_self ..), by omega⟩⟩
    · have st : measL f (d :: ds) ms dp tot = measL f ds ms (if a > dp then a else dp) (tot + g d) := by simp only [measL, e]
      rw [st]
      rcases measL_iff hg hf ds ms (if a > dp then a else dp) (tot + g d) (by omega) with ⟨e', ne⟩ | ⟨dp', e', q1, q2⟩
      · refine .inl ⟨e', fun ⟨q1, q2⟩ => ne ⟨fun x hx => q1 x (List.mem_cons_of_mem _ hx), by omega⟩⟩
      · refine .inr ⟨dp', by rw [e', Int.add_assoc], fun x hx => ?_, by omega⟩
        rcases List.mem_cons.mp hx with e | hx
        · rw [e]; exact e1
        · exact q1 x hx
theorem meas_iff : ∀ (n : Nat) (d : PyData) (ms : Int), (meas n d ms = none ∧ ¬ (1 ≤ lmeas n d ∧ lmeas n d ≤ ms)) ∨ (∃ dp, meas n d ms = some (dp, lmeas n d) ∧ 1 ≤ lmeas n d ∧ lmeas n d ≤ ms)
  | 0, d, ms => .inl ⟨rfl, fun h => by simp only [lmeas] at h; omega⟩
  | n + 1, d, ms => by
    have hn := lmeas_nonneg (n + 1) d
    unfold meas
    by_cases h1 : ms < 1
    · rw [if_pos h1]
      exact .inl ⟨rfl, fun h => by omega⟩
    · rw [if_neg h1]
      unfold lmeas
      by_cases h2 : isLd d = true
      · rw [if_pos h2, if_pos h2]
        exact .inr ⟨1, rfl, by decide, by omega⟩
      · rw [if_neg h2, if_neg h2]
        by_cases h3 : isCd d = true
        · rw [if_pos h3, if_pos h3]
          have q := measL_iff (g := lmeas n) (lmeas_nonneg n) (meas_iff n) (parts d) ms 0 0 (by omega)
          rw [Int.zero_add] at q
          by_cases h4 : (0 : Int) ∈ (parts d).map (lmeas n)
          · rw [if_pos h4]
            rcases q with ⟨e, _⟩ | ⟨dp, e, q1, _⟩
            · exact .inl ⟨e, fun h => by omega⟩
            · obtain ⟨x, hx, e0⟩ := List.mem_map.mp h4
              have := q1 x hx
              omega
          · rw [if_neg h4]
            have all1 : ∀ x ∈ parts d, 1 ≤ lmeas n x := fun x hx => by
              have z := lmeas_nonneg n x
              rcases Int.lt_or_eq_of_le z with z | z
              · omega
              · exact absurd (List.mem_map.mpr ⟨x, hx, z.symm⟩) h4
            rcases q with ⟨e, ne⟩ | ⟨dp, e, q1, q2⟩
            · exact .inl ⟨e, fun h => ne ⟨all1, h.2⟩⟩
            · refine .inr ⟨dp, e, ?_, q2⟩
              have hp : parts d ≠ [] := by
                cases d with
                | tuple ds =>
                  cases ds with
                  | nil => cases h3
                  | cons o ds =>
                    intro e0
                    simp only [parts] at e0
                    rw [e0] at h3
                    simp [isCd] at h3
                | _ => cases h3
              cases hd : parts d with
              | nil => exact absurd hd hp
              | cons x r =>
                rw [hd] at all1
                rw [List.map_cons, List.sum_cons]
                have := all1 x (List.mem_cons_self ..)
                have := sum_nonneg (l := r.map (lmeas n)) fun y hy => by
                  obtain ⟨d', _, rfl⟩ := List.mem_map.mp hy
                  exact lmeas_nonneg n d'
                omega
        · rw [if_neg h3, if_neg h3]
          exact .inl ⟨rfl, fun h => by omega⟩
/-- the two measures agree -/
theorem meas_some (n : Nat) (d : PyData) (ms : Int) : (meas n d ms).isSome = (decide (1 ≤ lmeas n d) && decide (lmeas n d ≤ ms)) := by
  rcases meas_iff n d ms with ⟨e, ne⟩ | ⟨dp, e, h1, h2⟩
  · rw [e]
    by_cases a : 1 ≤ lmeas n d
    · have b : ¬ lmeas n d ≤ ms := fun z => ne ⟨a, z⟩
      simp [b]
    · simp [a]
  · rw [e]; simp [h1, h2]
/-! ### contracts -/
/-- plain data at v: nested at most 20 deep -/
def spIsLetter (K : PySem.W.Frag) : Sp := fun vs H Q _ => ∃ (v : V) (d : PyData), vs = [v] ∧ Dp K H v d ∧ gd 20 d = true ∧ Q (.bl (isLd d)) H
def spIsCompound (K : PySem.W.Frag) : Sp := fun vs H Q _ => ∃ (v : V) (d : PyData), vs = [v] ∧ Dp K H v d ∧ gd 20 d = true ∧ Q (.bl (isCd d)) H
def spMeas (K : PySem.W.Frag) (n : Nat) : Sp := fun vs H Q _ => ∃ (v : V) (d : PyData) (md ms : Int), vs = [v, .int md, .int ms] ∧ Dp K H v d ∧ gd 20 d = true ∧ 0 ≤ md ∧ md < n ∧
  (meas md.toNat d ms = none → ∀ H', Same H H' → Q .non H') ∧ (∀ dp sz, meas md.toNat d ms = some (dp, sz) → ∀ (H' : Hp) (p : Addr), Same H H' → H' p = some (.tup [.int dp, .int sz]) → Q (.ref p) H')
def spIsTerm (K : PySem.W.Frag) : Sp := fun vs H Q _ => ∃ (v : V) (d : PyData) (md ms : Int), vs = [v, .int md, .int ms] ∧ Dp K H v d ∧ gd 20 d = true ∧ 0 ≤ md ∧ md < 20 ∧
  ∀ H', Same H H' → Q (.bl (meas md.toNat d ms).isSome) H'
def spMeasure (K : PySem.W.Frag) (n : Nat) : Sp := fun vs H Q _ => ∃ (v : V) (d : PyData) (md : Int), vs = [v, .int md] ∧ Dp K H v d ∧ gd 20 d = true ∧ 0 ≤ md ∧ md < n ∧
  ∀ H', Same H H' → Q (.int (lmeas md.toNat d)) H'
def spFits (K : PySem.W.Frag) : Sp := fun vs H Q _ => ∃ (v : V) (d : PyData), vs = [v] ∧ Dp K H v d ∧ gd 20 d = true ∧
  ∀ H', Same H H' → Q (.bl (decide (1 ≤ lmeas 5 d) && decide (lmeas 5 d ≤ 24))) H'
theorem gd_parts {n : Nat} {o : PyData} {ds : List PyData} (h : gd (n + 1) (.tuple (o :: ds)) = true) : gd n o = true ∧ ∀ d ∈ ds, gd n d = true := by
  have q := (gd_tuple h).2
  exact ⟨q o (List.mem_cons_self ..), fun d hd => q d (List.mem_cons_of_mem _ hd)⟩
theorem drop_cons_get {α : Type} {l : List α} {i : Nat} {x : α} (h : l[i]? = some x) : l.drop i = x :: l.drop (i + 1) := by
  obtain ⟨hi, e⟩ := List.getElem?_eq_some_iff.mp h
  rw [List.drop_eq_getElem_cons hi, e]
theorem dropHead {vs : List V} {ds : List PyData} {K : PySem.W.Frag} {H : Hp} (h : DpAll K H vs ds) : DpAll K H (vs.drop 1) (ds.drop 1) := dpAll_drop 1 h
theorem isOp_str : isOp (.str "&") = true ∧ isOp (.str "|") = true := by decide +kernel
end Fv


namespace Fv
open PySem PySem.Spec PyProof.Rows L2
/-! ### own defs with defaults, called with and without keywords -/
structure OwnD (P : Program) (w : World) (K : PySem.W.Frag) (mg : Str → Option Value) (base : Heap) (k : Nat) (x : Str) (ps : List Str) (dvs : List V) (sp : Sp) : Prop where
  ex : ∃ (f : Addr) (fd : FuncData) (ds : List Value), mg x = some (.ref f) ∧ PySem.W.keepIn K (.ref f) = true ∧ Binds K fd ps ds ∧ Vals dvs ds ∧ FnOk P w K mg base CX0 k f fd ps sp
structure OwnK (P : Program) (w : World) (K : PySem.W.Frag) (mg : Str → Option Value) (base : Heap) (k : Nat) (x : Str) (ps : List Str) (n : Nat) (ks : List Str) (gV : List V → List V → List V) (sp : Sp) : Prop where
  ex : ∃ (f : Addr) (fd : FuncData) (g : List Value → List Value → List Value), mg x = some (.ref f) ∧ PySem.W.keepIn K (.ref f) = true ∧ KBn K fd ps n ks g gV ∧ FnOk P w K mg base CX0 k f fd ps sp
section
variable {X : Cx} {k n : Nat} {x : Str} {ps ks : List Str} {dvs : List V} {gV : List V → List V → List V} {sp : Sp} {e : Expr} {es : List Expr} {t tk : TA} {p pos : Pos} {kws : List Keyword}
theorem pe_ownD (C : OwnD X.prog X.w X.K X.mg X.base k x ps dvs sp) (hr : Room k X.A) (hg : Gl X x) (ha : PA X (e :: es) t) (hdb : (x == ("__debug__" : Str)) = false := by decide)
    (he : starEach (e :: es) X.env = (false, eval e X.env) :: starEach es X.env := by rfl) (hpl : (backTo pos (starEach es X.env)).any (·.1) = false := by rfl) : PE X (.Call (.Name x p) (e :: es) [] pos) (tCall sp dvs E0 t) := by
  obtain ⟨f, fd, ds, h1, h2, h3, h4, h5⟩ := C.ex
  exact pe_call h5 hr hg h1 h2 h3 h4 pass0 ha hdb he hpl
theorem pe_ownK (C : OwnK X.prog X.w X.K X.mg X.base k x ps n ks gV sp) (hr : Room k X.A) (hg : Gl X x) (ha : PA X (e :: es) t) (hkw : PK X kws tk)
    (hall : (backToKw pos (keywordEach kws X.env)).all (·.1.isSome) = true := by rfl) (hks : (backToKw pos (keywordEach kws X.env)).filterMap (·.1) = ks := by rfl)
    (hdb : (x == ("__debug__" : Str)) = false := by decide) (he : starEach (e :: es) X.env = (false, eval e X.env) :: starEach es X.env := by rfl)
    (hpl : ((backTo pos (starEach (e :: es) X.env)).any (·.1) || (backToKw pos (keywordEach kws X.env)).any (·.1.isNone)) = false := by rfl) :
    PE X (.Call (.Name x p) (e :: es) kws pos) (tCallN n ks.length sp gV E0 t tk) := by
  obtain ⟨f, fd, g, h1, h2, h3, h4⟩ := C.ex
  exact pe_callN h4 hr hg h1 h2 h3 pass0 ha hkw hall hks hdb he hpl
/-- no positional value -/
theorem pe_ownK0 (C : OwnK X.prog X.w X.K X.mg X.base k x ps 0 ks gV sp) (hr : Room k X.A) (hg : Gl X x) (hkw : PK X kws tk)
    (hall : (backToKw pos (keywordEach kws X.env)).all (·.1.isSome) = true := by rfl) (hks : (backToKw pos (keywordEach kws X.env)).filterMap (·.1) = ks := by rfl)
    (hdb : (x == ("__debug__" : Str)) = false := by decide)
    (hpl : ((backTo pos (starEach [] X.env)).any (·.1) || (backToKw pos (keywordEach kws X.env)).any (·.1.isNone)) = false := by rfl) :
    PE X (.Call (.Name x p) [] kws pos) (tCallN 0 ks.length sp gV E0 tNil tk) := by
  obtain ⟨f, fd, g, h1, h2, h3, h4⟩ := C.ex
  refine ⟨fun pins s σ H Q I h => ?_⟩
  refine wpAny_Call_Name_kw (ld_glob I hg h1 ?_ hdb)
  refine PySem.W.callWith_KW0 (h₀ := X.base) I.ok.mod.kin h2 hall ?_ hpl
  refine thn (hkw.run pos pins s σ H _ I h) fun ws s2 ⟨zs, H2, I2, rz, l1, l2, q2⟩ => ⟨I2.kIn, ?_⟩
  rw [hks]
  exact run_fnN h4 hr h3 pass0 I2 .nil rz l1 l2 q2
end
end Fv


namespace Fv
open PySem PySem.Spec PyProof.Rows L2
/-! ### what is tracked; values that are plain data apart from M -/
def Trk (M : List Addr) (H : Hp) : Prop := ∀ b ∈ M, ∃ o, H b = some o
theorem Trk.same {M : List Addr} {H H' : Hp} (h : Trk M H) (s : Same H H') : Trk M H' := fun b hb => by
  obtain ⟨o, e⟩ := h b hb
  exact ⟨o, s _ _ e⟩
theorem Trk.smx {M N : List Addr} {H H' : Hp} (h : Trk M H) (s : SmX N H H') (hN : Trk N H') : Trk M H' := fun b hb => by
  by_cases m : b ∈ N
  · exact hN b m
  · obtain ⟨o, e⟩ := h b hb
    exact ⟨o, s _ _ m e⟩
theorem Trk.ne {M : List Addr} {H : Hp} (h : Trk M H) {p : Addr} (np : H p = none) : p ∉ M := fun hp => by
  obtain ⟨o, e⟩ := h p hp
  rw [np] at e
  cases e
theorem hid_new {M : List Addr} {H : Hp} {p : Addr} {o : HO} (np : H p = none) : Same (hide M H) (hide M (upd H p o)) := (SmX.new np).hid
theorem hid_at {M : List Addr} {H : Hp} (h : Trk M H) {p : Addr} {o : HO} (np : H p = none) : hide M (upd H p o) p = some o := by
  rw [hide_ne (h.ne np), upd_same]
def GV (K : PySem.W.Frag) (n : Nat) (M : List Addr) (H : Hp) (v : V) : Prop := ∃ d, Dp K (hide M H) v d ∧ gd n d = true
theorem GV.same {K : PySem.W.Frag} {n : Nat} {M : List Addr} {H H' : Hp} {v : V} (g : GV K n M H v) (s : Same H H') : GV K n M H' v := by
  obtain ⟨d, h1, h2⟩ := g
  exact ⟨d, dp_same (SmX.of_same s).hid d v h1, h2⟩
theorem GV.up {K : PySem.W.Frag} {n m : Nat} {M : List Addr} {H : Hp} {v : V} (g : GV K n M H v) (h : n ≤ m) : GV K m M H v := by
  obtain ⟨d, h1, h2⟩ := g
  exact ⟨d, h1, gd_le h2 h⟩
theorem GV.str {K : PySem.W.Frag} {n : Nat} {M : List Addr} {H : Hp} {x : Str} (h : gd 0 (.str x) = true) : GV K n M H (.str x) := ⟨_, .str x, gd_le h (Nat.zero_le _)⟩
theorem GV.int {K : PySem.W.Frag} {n : Nat} {M : List Addr} {H : Hp} (i : Int) : GV K n M H (.int i) := ⟨_, .int i, gd_le (n := 0) rfl (Nat.zero_le _)⟩
theorem GV.bl {K : PySem.W.Frag} {n : Nat} {M : List Addr} {H : Hp} (b : Bool) : GV K n M H (.bl b) := ⟨_, .bl b, gd_le (n := 0) rfl (Nat.zero_le _)⟩
theorem GV.non {K : PySem.W.Frag} {n : Nat} {M : List Addr} {H : Hp} : GV K n M H .non := ⟨_, .non, gd_le (n := 0) rfl (Nat.zero_le _)⟩
theorem gv_all {K : PySem.W.Frag} {n : Nat} {M : List Addr} {H : Hp} : ∀ {xs : List V}, (∀ x ∈ xs, GV K n M H x) → ∃ ds, DpAll K (hide M H) xs ds ∧ ∀ d ∈ ds, gd n d = true
  | [], _ => ⟨[], .nil, fun d h => nomatch h⟩
  | x :: xs, h => by
    obtain ⟨d, h1, h2⟩ := h x (List.mem_cons_self ..)
    obtain ⟨ds, h3, h4⟩ := gv_all (xs := xs) fun y hy => h y (List.mem_cons_of_mem _ hy)
    refine ⟨d :: ds, .cons h1 h3, fun e he => ?_⟩
    rcases List.mem_cons.mp he with z | z
    · rw [z]; exact h2
    · exact h4 e z
theorem GV.tup {K : PySem.W.Frag} {n : Nat} {M : List Addr} {H : Hp} {p : Addr} {xs : List V} (hM : Trk M H) (np : H p = none) (h : ∀ x ∈ xs, GV K n M H x) (hl : xs.length ≤ 1000 := by decide) : GV K (n + 1) M (upd H p (.tup xs)) (.ref p) := by
  obtain ⟨ds, h1, h2⟩ := gv_all h
  exact ⟨.tuple ds, .tup (SqT.of (hid_at hM np)) (dpAll_same (hid_new np) _ _ h1), gd_tup h2 (by rw [← dpAll_len h1]; exact hl)⟩
theorem GV.lst {K : PySem.W.Frag} {n : Nat} {M : List Addr} {H : Hp} {p : Addr} {xs : List V} (hM : Trk M H) (np : H p = none) (h : ∀ x ∈ xs, GV K n M H x) (hl : xs.length ≤ 1000 := by decide) : GV K (n + 1) M (upd H p (.lst xs)) (.ref p) := by
  obtain ⟨ds, h1, h2⟩ := gv_all h
  exact ⟨.list ds, .lst (SqL.of (hid_at hM np)) (dpAll_same (hid_new np) _ _ h1), gd_lst h2 (by rw [← dpAll_len h1]; exact hl)⟩
theorem Src.trk {H : Hp} {a L : Addr} {ns : List Int} (h : Src H a L ns) : Trk [a] H := fun b hb => by
  obtain ⟨_, _, _, _, e, _⟩ := h
  rw [List.mem_singleton.mp hb]
  exact ⟨_, e⟩
theorem Src.ne {H : Hp} {a L p : Addr} {ns : List Int} (h : Src H a L ns) (np : H p = none) : a ≠ p := by
  obtain ⟨_, _, _, _, e, _⟩ := h
  exact ne_of_none e np
theorem Src.put {H : Hp} {a L p : Addr} {ns : List Int} {o : HO} (h : Src H a L ns) (pa : p ≠ a) (pL : p ≠ L) : Src (upd H p o) a L ns := by
  obtain ⟨i, q, st, c, h1, h2, h3⟩ := h
  exact ⟨i, q, st, c, by rw [upd_ne pa.symm]; exact h1, by rw [upd_ne pL.symm]; exact h2, h3⟩
theorem Src.new {H : Hp} {a L p : Addr} {ns : List Int} {o : HO} (h : Src H a L ns) (np : H p = none) : Src (upd H p o) a L ns := h.same (same_upd np)
/-- the term that is drawn: its data d, its depth at most n, its size by the room that was used -/
def spTerm (K : PySem.W.Frag) (n : Nat) : Sp := fun vs H Q _ => ∃ (a L sg r : Addr) (ns : List Int) (deep m : Int) (ys : List V) (M : List Addr), vs = [.ref a, .ref sg, .int deep, .ref r] ∧ Src H a L ns ∧
  H sg = some (.lst ys) ∧ 0 < ys.length ∧ ys.length ≤ 8 ∧ (∀ y ∈ ys, lett y) ∧ H r = some (.lst [.int m]) ∧ sg ≠ a ∧ sg ≠ r ∧ r ≠ a ∧ r ≠ L ∧ 0 ≤ m ∧ m ≤ 1000 ∧ 1 ≤ deep ∧ deep ≤ n ∧ a ∈ M ∧ r ∈ M ∧ Trk M H ∧
  ∀ (H' : Hp) (v : V) (d : PyData) (m' : Int), Dp K (hide M H') v d → lmeas deep.toNat d = m - m' + 1 → 0 ≤ m' → m' ≤ m → gd deep.toNat d = true → Src H' a L ns → H' r = some (.lst [.int m']) → SmX [a, r] H H' → Q v H'
def spAnyTerm (K : PySem.W.Frag) : Sp := fun vs H Q _ => ∃ (a L : Addr) (ns : List Int) (M : List Addr), vs = [.ref a] ∧ Src H a L ns ∧ a ∈ M ∧ Trk M H ∧
  ∀ (H' : Hp) (v : V) (d : PyData) (n : Nat), Dp K (hide M H') v d → 1 ≤ n → n ≤ 5 → 1 ≤ lmeas n d → lmeas n d ≤ 24 → gd n d = true → Src H' a L ns → SmX [a] H H' → Q v H'
def nestD : Nat → PyData
  | 0 => .str "a"
  | n + 1 => .tuple [.str (if n % 2 = 0 then "&" else "|"), nestD n, .str "b"]
def spNest (K : PySem.W.Frag) : Sp := fun vs H Q _ => ∃ (n : Nat) (M : List Addr), vs = [.int (n : Nat)] ∧ n ≤ 12 ∧ Trk M H ∧
  ∀ (H' : Hp) (v : V), Dp K (hide M H') v (nestD n) → Same H H' → Q v H'
def spOdd (K : PySem.W.Frag) : Sp := fun vs H Q _ => ∃ (a L : Addr) (ns : List Int) (v : V) (M : List Addr), vs = [.ref a, v] ∧ Src H a L ns ∧ GV K 5 M H v ∧ a ∈ M ∧ Trk M H ∧
  ∀ (H' : Hp) (v' : V), GV K 12 M H' v' → Src H' a L ns → SmX [a] H H' → Q v' H'
theorem isL_lett {x : Str} (h : x ∈ (["a", "b", "c", "d", "e", "f", "g", "h"] : List Str)) : isL x = true ∧ gd 0 (.str x) = true := by
  have q : ∀ x ∈ (["a", "b", "c", "d", "e", "f", "g", "h"] : List Str), isL x = true ∧ gd 0 (.str x) = true := by decide +kernel
  exact q x h
theorem nest_gd : ∀ n : Nat, gd n (nestD n) = true
  | 0 => by decide +kernel
  | n + 1 => gd_tup (fun d hd => by
      rcases List.mem_cons.mp hd with e | hd
      · rw [e]
        refine gd_le (n := 0) ?_ (Nat.zero_le _)
        split <;> decide +kernel
      · rcases List.mem_cons.mp hd with e | hd
        · rw [e]; exact nest_gd n
        · rw [List.mem_singleton.mp hd]
          exact gd_le (n := 0) (by decide +kernel) (Nat.zero_le _)) (by show 3 ≤ 1000; decide)
/-- a term made of parts -/
theorem lmeas_tup {n : Nat} {op : Str} {ds : List PyData} {t : Int} (ho : isOp (.str op) = true) (h2 : 2 ≤ ds.length) (h1 : ∀ d ∈ ds, 1 ≤ lmeas n d) (hs : (ds.map (lmeas n)).sum = t) : lmeas (n + 1) (.tuple (.str op :: ds)) = t := by
  have e : lmeas (n + 1) (.tuple (.str op :: ds)) = if (decide (2 ≤ ds.length) && isOp (.str op)) = true then (if (0 : Int) ∈ ds.map (lmeas n) then 0 else (ds.map (lmeas n)).sum) else 0 := by
    show (if false = true then _ else _) = _
    rw [if_neg (fun z => by cases z)]
    rfl
  rw [e, ho, decide_eq_true h2, Bool.and_self, if_pos rfl, if_neg, hs]
  intro z
  obtain ⟨d, hd, e⟩ := List.mem_map.mp z
  have := h1 d hd
  omega
end Fv


set_option maxHeartbeats 2000000
namespace FvX
open PySem PySem.W PySem.Calls PyProof.Rows
/-! ### an own error whose __init__ says super().__init__(text) and self.code = text -/
abbrev errScope : Scope := { kind := .function, names := [("self", .local), ("__class__", .free), ("super", .globalImplicit)], isGenerator := false, isCoroutine := false, more := [] }
abbrev errParams (pp : Pos) : Arguments := { posonlyargs := [], args := [{ arg := "self", annotation := none, pos := pp : Arg }], vararg := none, kwonlyargs := [], kw_defaults := [], kwarg := none, defaults := [] }
/-- the places of such a body's parts -/
structure ErrPos where
  (p0 p1 p2 p3 p4 p5 p6 p7 p8 p9 pp : Pos)
abbrev errBody (q : ErrPos) (msg cod : Str) (j1 j2 : Nat) : List Stmt :=
  [.Expr (.Call (.Attribute (.Call (.Name "super" q.p0) [] [] q.p1) "__init__" q.p2) [.Constant (.str msg) j1 q.p3] [] q.p4) q.p5, .Assign [.Attribute (.Name "self" q.p6) "code" q.p7] (.Constant (.str cod) j2 q.p8) q.p9]
/-- the call stands on one line -/
def LineOk (q : ErrPos) (msg : Str) (j1 : Nat) : Prop := ∀ env : Env, ∃ pl : Sem Bool, eval (.Call (.Attribute (.Call (.Name "super" q.p0) [] [] q.p1) "__init__" q.p2) [.Constant (.str msg) j1 q.p3] [] q.p4) env = (do
  let ov ← attributeBase (.Call (.Name "super" q.p0) [] [] q.p1) "__init__" env (eval (.Call (.Name "super" q.p0) [] [] q.p1) env)
  standAt q.p2.atName
  let (f, first) ← holding [ov] (getMethod ov "__init__" pl)
  callWith q.p4 f first (backTo q.p4 (starEach [.Constant (.str msg) j1 q.p3] env)) [])
abbrev veTail4 : List Value := [.type "ValueError", .type "Exception", .type "BaseException", .type "object"]
/-- what the written part says of the class at C and of its __init__ at f -/
structure ErrC (file0 : Str) (K : Frag) (C f : Addr) (qual : Str) (q : ErrPos) (msg cod : Str) (j1 j2 : Nat) : Prop where
  oex : L2.OexC K C
  fn : ∃ (oc : Value) (od an : Option Addr) (osl : Array (Option Value)) (kV doc pm ct : Value) (cda cc : Addr) (ccl cl : Value) (cdd cld : Option Addr) (vs : Array Value) (ccs csl : Array (Option Value)) (file : Str) (tf : Tok),
    K.lookup f = some ⟨oc, od, .func (ksFn "__init__" qual (errParams q.pp) (errBody q msg cod j1 j2) errScope .none kV doc pm an (.ref cda) ct cc), osl⟩ ∧ codeIn K (.ref cda) qual = true ∧ K.lookup cda = some ⟨ccl, cdd, .fields vs, ccs⟩ ∧ vs[2]? = some (.str file tf) ∧
      (file0 == file) = true ∧ K.lookup cc = some ⟨cl, cld, .cell (some (.ref C)), csl⟩
  sup : ks_superIn K C C "__init__" = some (some (.builtin "ValueError.__init__"))
  self : mroIn K C (.ref C) = some true
  isV : subIn K (.ref C) (.type "ValueError") = some true
  init : excInitIn K C veTail4 "ValueError.__new__" = true
  third : nsIn K cStatics "thirdparty.any" = some none
  code : findIn K (.ref C) "code" = some none
  find : findIn K (.ref C) "__init__" = some (some (.ref f))
  typ : typeIn K (.ref f) = some (.type "function")
section
variable {prog : Program} {w : World} {A : Around} {K : Frag} {h : Heap} {g : Array GenState} {d : Drawn} {t : Nat} {os : OsState} {R : Result → Shared → Prop} {mg mb : Str → Option Value}
  {C f a t0 : Addr} {qual msg cod : Str} {q : ErrPos} {j1 j2 : Nat}
theorem init_run (T : ErrC prog.main.file K C f qual q msg cod j1 j2) (hline : LineOk q msg j1) (htop : (prog.main.scope.names.lookup ("super" : Str)).isSome = false)
    (X : K.In h) (hg : h.Ns mainGlobals mg) (hms : mg "super" = none) (hb : h.Ns builtinsNs mb) (hmb : mb "super" = some (.type "super")) (hlim : h.NoLimit) (hroom : A.depth < recursionLimit) (ha : h.get? a = some (excObj C t0 none .none)) (haK : K.lookup a = none)
    (hq : ∀ h' t1 tk' dx tk, (∀ b o, b ≠ a → h.get? b = some o → h'.get? b = some o) → h.objs.size ≤ dx → dx ≠ a → h'.get? a = some { cls := .ref C, dict := some dx, data := .fields #[.ref t1, .none, .none, .none, .bool false, .none] } →
      h'.Ns1 dx (fun y => if y = ("code" : Str) then some (.str cod tk) else none) → R (.ok (.ret .none)) ⟨h', g, d, tk', os⟩) :
    codeAny (model prog w) A (.call (.ref f) ⟨[.ref a], []⟩) R ⟨h, g, d, t, os⟩ := by
  obtain ⟨oc, od, an, osl, kV, doc, pm, ct, cda, cc, ccl, cl, cdd, cld, vs, ccs, csl, file, tf, hf, hcd, hcode, hvs, hfile, hcell⟩ := T.fn
  refine ks_codeAny_call_defAt (binds := [("self", .ref a)]) hroom (X _ _ hf) rfl hlim (codeRec_of X hcd) rfl (.of_eq rfl) (show ∀ x ∈ errScope.names, x.2 ≠ .cell by decide) (fun y hy => ?_) (fun h1 hns hk1 => ?_)
  · rw [List.mem_singleton.mp hy]; rfl
  have X1 : K.In h1 := fun b o e => hk1 b o (X b o e)
  have ha1 : h1.get? a = some (excObj C t0 none .none) := hk1 _ _ ha
  have haL : a ≠ h.objs.size := Nat.ne_of_lt (Heap.lt_size ha)
  obtain ⟨cd, hc⟩ : ∃ cd, clsIn K C = some cd := by
    have z := T.sup
    unfold ks_superIn at z
    cases hc : clsIn K C with
    | none => rw [hc] at z; cases z
    | some cd => exact ⟨cd, rfl⟩
  obtain ⟨oD, hD0, hD2⟩ : ∃ oD, K.lookup C = some oD ∧ oD.data = .cls cd := by
    unfold clsIn at hc
    split at hc
    · rename_i c d' cd' sl ho
      cases hc
      exact ⟨_, ho, rfl⟩
    · cases hc
  have hD1 := X1 _ _ hD0
  have hsup : alongIn K "__init__" ((cd.mro.dropWhile (· != .ref C)).drop 1) = some (some (.builtin "ValueError.__init__")) := by
    have z := T.sup
    unfold ks_superIn at z
    rw [hc] at z
    exact z
  have hv : (fun x => ([("self", Value.ref a)] : List (Str × Value)).reverse.lookup x) ("self" : Str) = some (.ref a) := rfl
  -- super().__init__(text)
  obtain ⟨pl, hline⟩ := hline (callEnv (ksFn "__init__" qual (errParams q.pp) (errBody q msg cod j1 j2) errScope .none kV doc pm an (.ref cda) ct cc) h.objs.size f)
  refine ks_wpAt_execs_cons (ks_wpAt_Expr_any (ks_wpAt_MethodCall ?_ hline))
  refine ks_wpAt_super_base rfl rfl (by decide) rfl (X1 _ _ hf) rfl rfl rfl (X1 _ _ hcode) rfl hvs hfile htop ?_
  refine ks_loadName_global rfl rfl (loadGlobal_builtin (hg.keeps hk1) hms (hb.keeps hk1) hmb ⟨rfl, ?_⟩)
  refine wpAny_loadName_free rfl rfl rfl ⟨_, X1 _ _ hcell, rfl⟩ ?_
  refine wpAny_loadName_local rfl rfl hns hv ?_
  refine ks_wpAny_isType_cls hD1 hD2 ⟨rfl, ?_⟩
  refine ks_wpAny_call_super hD1 hD2 ha1 rfl (fun c e => by cases e) (looks_mroIn X1 T.self) (fun h2 hso hk2 => ?_)
  have X2 : K.In h2 := fun b o e => hk2 b o (X1 b o e)
  have ha2 := hk2 _ _ ha1
  have haC : a ≠ C := fun e => by rw [e, hD0] at haK; cases haK
  have I2 : InstAt h2 a (excObj C t0 none .none) C none := ⟨ha2, rfl, rfl, trivial⟩
  refine kxs_getMethod kxs_ValueError hso (looks_opaque X2 T.third) (l₀ := cd.mro) (fun A Q E s k z => wpAny_bind ((looks_clsIn X2 hc) A _ E s k (wpAny_pure z))) rfl X2 hsup (I2.type.andThen (looks_subIn X2 T.isV)) haC (by decide) ?_
  have nsK : ∀ {h h' : Heap} {L : Addr} {m : Str → Option Value}, h.Ns L m → (∀ b o, h.get? b = some o → h'.get? b = some o) → h'.Ns L m := fun {h h' L m} ⟨o, es, ep, e, r⟩ k => ⟨o, es, ep, k _ _ e, r⟩
  have hns2 := nsK hns hk2
  have hk3 : ∀ b o, h2.get? b = some o → (h2.push (kxs_mw "ValueError.__init__" a)).get? b = some o := fun b o e => Heap.get?_push_of_some _ e
  have hLt : h.objs.size < h2.objs.size := by
    obtain ⟨o, _, _, e, _⟩ := hns2
    exact Heap.lt_size e
  have FR : Fr (hideAll h [a]) h.objs.size (h2.push (kxs_mw "ValueError.__init__" a)) (fun x => ([("self", Value.ref a)] : List (Str × Value)).reverse.lookup x) :=
    ⟨nsK hns2 hk3, fun b o e => hk3 _ _ (hk2 _ _ (hk1 _ _ (of_hideAll _ e))), Nat.le_of_eq (hideAll_size _ _)⟩
  have NW : News (hideAll h [a]) h.objs.size (h2.push (kxs_mw "ValueError.__init__" a)) [(h2.objs.size, kxs_mw "ValueError.__init__" a), (a, excObj C t0 none .none)] := fun p hp => by
    rcases List.mem_cons.mp hp with e | hp
    · subst e
      refine ⟨Heap.get?_push_size _ rfl, Nat.ne_of_gt hLt, ?_⟩
      cases z : (hideAll h [a]).get? h2.objs.size with
      | none => rfl
      | some o => exact absurd (Heap.lt_size (of_hideAll _ z)) (Nat.lt_asymm hLt)
    · rw [List.mem_singleton.mp hp]
      exact ⟨hk3 _ _ ha2, haL, hideAll_none _ (List.mem_singleton.mpr rfl)⟩
  have X0 : K.In (hideAll h [a]) := fun b o e => hideAll_get _ (X b o e) (fun z => by
    rw [List.mem_singleton.mp z, haK] at e
    cases e)
  refine kxs_callWith1 NW (List.mem_cons_self ..) ?_
  refine Calls.spliced_cons (wpAny_Constant_str (k := j1) (pos := q.p3) (Calls.spliced_nil ⟨kxs_at NW (List.mem_cons_self ..), ?_⟩))
  refine kxs_call FR X0 NW PySem.F.excBase_ValueError T.init (List.mem_cons_self ..) (.tail (Nat.ne_of_gt (Heap.lt_size ha2)) (.head fun p hp => nomatch hp)) (by show 1 ≤ sizeLine; decide) (fun t' h4 F4 N4 _ => ?_)
  have ha4 : h4.get? a = some (excObj C t' none .none) := (N4 (a, excObj C t' none .none) (List.mem_cons_of_mem _ (List.mem_cons_of_mem _ (List.mem_cons_self ..)))).1
  have X4 : K.In h4 := fun b o e => F4.keep b o (X0 b o e)
  obtain ⟨nm, qn, N, bs, bm, sn, sub, ab, col, dd, k0, k1, k2, k3, k5, hC, hbm⟩ := T.oex.cls
  have hcl : clsIn K C = some { name := nm, bases := bs, mro := .ref C :: bm, ns := N, qualname := qn, hasDict := true, slotNames := sn, subclasses := sub, abstract := ab, collection := col, hasDel := false } := by
    unfold clsIn
    rw [hC] <;> rfl
  -- self.code = text
  refine wpAt_of_wpAny (wpAny_execs_cons (plainObj_wpAny_Assign_Attribute (wpAny_Constant_str (k := j2) (pos := q.p8) (wpAny_Name (wpAny_loadName_local rfl rfl F4.ns hv ?_) (by decide))) rfl))
  refine set_plain X4 (ox := excObj C t' none .none) (od := none) ⟨ha4, rfl, rfl, trivial⟩ T.oex.sa ?_
  refine PySem.HandSPX.exc_osa X4 ha4 hcl (show PySem.HandSPX.refsVE (.ref C :: bm) = true from hbm) rfl T.code (fun h5 tk' dx hk5 dn dne hx hn => ?_)
  have hL4 : h.objs.size ≤ h4.objs.size := by
    obtain ⟨o, _, _, e, _⟩ := F4.ns
    exact Nat.le_of_lt (Heap.lt_size e)
  refine wpAny_execs_nil (hq h5 t' tk' dx _ (fun b o hb e => hk5 b o hb (F4.keep b o (hideAll_get _ e fun z => hb (List.mem_singleton.mp z)))) (Nat.le_trans hL4 dn) dne hx hn)
end
end FvX


set_option maxHeartbeats 2000000
namespace FvX
open PySem PySem.Spec PyProof.Rows L2
section
variable {X : Cx} {C f : Addr} {qual msg cod x : Str} {q : ErrPos} {j1 j2 k : Nat} {p pos : Pos}
/-- x(): the new error, its dict at d -/
def tErr0 (C : Addr) (cod : Str) : L2.St → Hp → XK → Prop := fun _ H Q => ∀ d, H d = none → Q (.ref C) (some d) (upd H d (.xd [("code", .str cod)]))
theorem pmk_err0 (T : ErrC X.prog.main.file X.K C f qual q msg cod j1 j2) (hline : LineOk q msg j1) (htop : (X.prog.main.scope.names.lookup ("super" : Str)).isSome = false) (hms : X.mg "super" = none) (hr : Room (k + 1) X.A) (hg : Gl X x) (hm : X.mg x = some (.ref C))
    (hdb : (x == ("__debug__" : Str)) = false := by decide) : PMk X (.Call (.Name x p) [] [] pos) (tErr0 C cod) := by
  intro pins s σ H Q I h
  obtain ⟨nm, qn, N, bs, bm, sn, sub, ab, col, dd, k0, k1, k2, k3, k5, hC, hbm⟩ := T.oex.cls
  refine wpAny_Call_Name_kw (ld_glob I hg hm ?_ hdb)
  refine PySem.W.callWith_K0 I.kIn T.oex.kC ?_
  show wpAny _ _ (call (.ref C) []) _ _ _
  obtain ⟨hp, g, dr, tk, os⟩ := s
  have nK : X.K.lookup (hp.objs.size + 1) = none := by
    cases e : X.K.lookup (hp.objs.size + 1) with
    | none => rfl
    | some o => exact absurd (Nat.lt_of_succ_lt (Heap.lt_size (I.kIn _ _ e))) (Nat.lt_irrefl _)
  have fresh : H (hp.objs.size + 1) = none := I.hok.fresh (Nat.le_succ _)
  have kk : ∀ b o, hp.get? b = some o → ((hp.push (PySem.W.kdv_tup [])).push (PySem.HandSPX.excO C hp.objs.size)).get? b = some o := fun b o e => Heap.get?_push_of_some _ (Heap.get?_push_of_some _ e)
  have at1 : ((hp.push (PySem.W.kdv_tup [])).push (PySem.HandSPX.excO C hp.objs.size)).get? (hp.objs.size + 1) = some (PySem.HandSPX.excO C hp.objs.size) := by heap_get
  have I2 := I.laid (t' := tk) (a := hp.objs.size + 1) (o := exo (hp.objs.size + 1) C none) (h' := (hp.push (PySem.W.kdv_tup [])).push (PySem.HandSPX.excO C hp.objs.size)) kk (Nat.le_succ _) (exo_ok at1)
  obtain ⟨mb, hb, hbb⟩ := I.mod.blt
  refine wpAny_call (PySem.HandSPX.call_own PySem.F.excBase_ValueError (fun Y => PySem.HandSPX.refsVE_contains Y bm hbm) (I.kIn _ _ hC) (PySem.W.looks_findIn I.kIn T.find) (fun self => PySem.W.bind_fn I.kIn self T.typ) (Nat.zero_le _) ?_)
  refine init_run (mg := X.mg) (mb := mb) (t0 := hp.objs.size) T hline htop (fun b o e => kk b o (I.kIn b o e)) ((I.mod.glob.keeps I.bk).keeps kk) hms ((hb.keeps I.bk).keeps kk) ((hbb _ (by decide)).trans (by decide +kernel)) ?lim (hr.make C [] []).depth at1 nK (fun h' t1 tk' dx tk0 hk dn dne hx hn => ?_)
  case lim => exact (I.mod.nolimit.keeps I.bk).keeps kk
  have nd : H dx = none := I.hok.fresh (Nat.le_trans (by simp; omega) dn)
  have na : ∀ {b : Addr} {u : Option HO}, upd H (hp.objs.size + 1) (exo (hp.objs.size + 1) C none) b = none → b ≠ hp.objs.size + 1 := fun {b u} e z => by
    rw [z, upd_same] at e
    cases e
  have lt2 : ∀ {b : Addr} {o : Obj}, ((hp.push (PySem.W.kdv_tup [])).push (PySem.HandSPX.excO C hp.objs.size)).get? b = some o → b ≠ dx := fun {b o} e => Nat.ne_of_lt (Nat.lt_of_lt_of_le (Heap.lt_size e) dn)
  have same : ∀ {b : Addr} {o : HO}, upd H (hp.objs.size + 1) (exo (hp.objs.size + 1) C none) b = some o → o ≠ exo (hp.objs.size + 1) C none → upd (upd H dx (exd dx [("code", .str cod)])) (hp.objs.size + 1) (exo (hp.objs.size + 1) C (some dx)) b = some o := fun {b o} e ne => by
    have b1 : b ≠ hp.objs.size + 1 := fun z => by
      rw [z, upd_same] at e
      exact ne (Option.some.inj e).symm
    rw [upd_ne b1] at e
    rw [upd_ne b1, upd_ne (ne_of_none e nd)]
    exact e
  have un : Un (frs X.stack) [] (upd H (hp.objs.size + 1) (exo (hp.objs.size + 1) C none)) (upd (upd H dx (exd dx [("code", .str cod)])) (hp.objs.size + 1) (exo (hp.objs.size + 1) C (some dx))) ((hp.push (PySem.W.kdv_tup [])).push (PySem.HandSPX.excO C hp.objs.size)) h' := by
    refine ⟨fun b o e n _ _ => hk b o (na (u := none) n) e, fun b o e n _ _ => ⟨o.slots, hk b o (na (u := none) n) e⟩, fun b o e n _ => ?_, fun b o e _ => ?_, fun b xs e => same e fun z => exo_tup z.symm, fun b o u e => same e fun z => exo_frz z.symm, fun b ps e => ⟨#[], ?_⟩⟩
    · have b1 := na (u := none) n
      rw [upd_ne b1, upd_ne (lt2 e)]
      rw [upd_ne b1] at n
      exact n
    · by_cases b1 : b = hp.objs.size + 1
      · exact ⟨_, by rw [b1]; exact hx⟩
      · exact ⟨o, hk b o b1 e⟩
    · rw [Array.append_empty]
      exact same e fun z => exo_tbl z.symm
  have hok : HOk X.prog X.w (upd (upd H dx (exd dx [("code", .str cod)])) (hp.objs.size + 1) (exo (hp.objs.size + 1) C (some dx))) h' := fun b o e => by
    by_cases b1 : b = hp.objs.size + 1
    · rw [b1, upd_same] at e
      cases e
      rw [b1]
      exact exo_ok hx
    · rw [upd_ne b1] at e
      by_cases b2 : b = dx
      · rw [b2, upd_same] at e
        cases e
        rw [b2]
        exact exd_ok hn (relO_put (fs := []) ⟨_, rfl⟩ fun g => True.intro)
      · rw [upd_ne b2] at e
        have e2 : upd H (hp.objs.size + 1) (exo (hp.objs.size + 1) C none) b = some o := by rw [upd_ne b1]; exact e
        refine (I2.hok b o e2).stay (fun c v hc z => hk c v (fun c1 => ?_) z) (fun c hc => same hc fun z => exo_own z.symm) (fun c xs hc => same hc fun z => exo_tup z.symm)
        rcases hc with hc | hc
        · exact b1 (hc.symm.trans c1)
        · rw [c1, upd_same] at hc
          exact exo_own (Option.some.inj hc)
  refine ⟨rfl, mk_end (a := hp.objs.size + 1) (C := C) (d := dx) (fs := [("code", .str cod)]) (raises_own T.oex.exC T.oex.tyC) I (Nat.le_succ _) kk un hok rfl I.bare upd_same ?_ nd ?_⟩
  · rw [upd_ne dne, upd_same]
  · have e : upd (del (upd (upd H dx (exd dx [("code", .str cod)])) (hp.objs.size + 1) (exo (hp.objs.size + 1) C (some dx))) (hp.objs.size + 1)) dx (.xd [("code", .str cod)]) = upd H dx (.xd [("code", .str cod)]) := by
      funext b
      by_cases b2 : b = dx
      · rw [b2, upd_same, upd_same]
      · rw [upd_ne b2, upd_ne b2]
        by_cases b1 : b = hp.objs.size + 1
        · rw [b1, del_same, fresh]
        · rw [del_ne b1, upd_ne b1, upd_ne b2]
    rw [e]
    exact h dx nd
end
end FvX


set_option maxHeartbeats 2000000
namespace FvX
open PySem PySem.Spec PyProof.Rows L2
/-! ### try: .. except x as n: .. except ..: ..; the first clause takes what comes -/
/-- what the first clause wishes -/
def wFst (K : PySem.W.Frag) (c : Value) (i : Nat) (ts : Addr → Value → Option Addr → TS) (D : Ends) : WX := fun cls dd σ H => PySem.W.exmOne K cls c = some true ∧
  ∀ a, H a = none → ts a cls dd { nx := fun σ' H' => D.nx (σ'.set i none) H', rt := D.rt, bk := fun σ' H' => D.bk (σ'.set i none) H', ct := fun σ' H' => D.ct (σ'.set i none) H' } (σ.set i (some (.ref a))) H
section
variable {X : Cx} {x n : Str} {c : Value} {i : Nat} {bd su : List Stmt} {b1 : Stmt} {np tp hp' : Pos} {more : List ExceptHandler} {tb : WX → TS} {ts : Addr → Value → Option Addr → TS}
theorem ps_try_first (hstk : X.stack = X.env :: X.outer) (hfrm : X.env.frame = some X.env.locals) (nd : X.N.Nodup) (hix : X.N[i]? = some n) (hlc : X.env.kindOf n = some .local) (hcl : Names X x c)
    (hbd : ∀ (W : WX) (pn : List (Addr × Obj)) (xe : Value → Shared → Prop), Takes (X.tr pn xe) W → PassesOwn (model X.prog X.w) X.A X.env xe → PSs (X.tr pn xe) bd (tb W))
    (hsu : ∀ (a : Addr) (oe : Obj) (cls : Value) (dd : Option Addr) (pn : List (Addr × Obj)), Zc cls dd oe → (∃ vs, oe.data = .fields vs) → PSs (X.suite a ((a, oe) :: pn)) (b1 :: su) (ts a cls dd)) :
    PS X (.Try bd (.ExceptHandler (some (.Name x np)) (some n) (b1 :: su) hp' :: more) [] [] tp) (fun D σ H => tb (wFst X.K c i ts D) D σ H) := by
  refine ⟨fun pins s σ H D I hW => wpAny_Try_except ?_⟩
  have fr : X.A.frames = some (X.env :: X.outer) := I.ok.frames.trans (congrArg some hstk)
  let land : Value → Shared → Prop := fun e s1 => wpAny (model X.prog X.w) X.A (noteFrame e X.env) (fun _ s2 => wpAny (model X.prog X.w) X.A (setFlight e none) (fun _ s3 => wpAny (model X.prog X.w) X.A (handleBy e X.env (.ExceptHandler (some (.Name x np)) (some n) (b1 :: su) hp' :: more)) (SP X pins D) X.xe s3) X.xe s2) X.xe s1
  have caught : Takes (X.tr (X.pn ++ pins) land) (wFst X.K c i ts D) := by
    rintro u s' ⟨a, B, sI, pins', σ', H', cls, dd, rfl, J', nb, up, sky, na, os, ag, hm, hyes⟩
    have J : Inv X pins σ' H' sI := J'.ofTry I.ok
    show wpAny (model X.prog X.w) X.A (noteFrame (.ref a) X.env) _ _ _
    refine Sky.land Zc.steady fr hfrm (show Sky B (X.env :: X.outer) a (Zc cls dd) X.env.locals s'.heap from hstk ▸ sky) fun h3 fl up3 => ?_
    have J3 : Inv X pins σ' H' { s' with heap := h3 } := J.landed nb fl.1 (up.trans up3) os ag
    obtain ⟨o3, v3, g3, z3, d3⟩ := fl.there
    have apart : a ∉ frs (X.env :: X.outer) := fun hin => by
      obtain ⟨_, o', g', no⟩ := fl.2.2.1.mem hin
      rw [g3] at g'
      cases g'
      exact no _ d3
    have aL : a ≠ X.env.locals := fun z => apart (List.mem_filterMap.mpr ⟨X.env, List.mem_cons_self, hfrm.trans (congrArg some z.symm)⟩)
    have aF : a ∉ X.fs := fun hin => by
      obtain ⟨e, he, z⟩ := List.mem_filterMap.mp hin
      exact apart (List.mem_filterMap.mpr ⟨e, List.mem_cons_of_mem _ he, z⟩)
    have S3 := J3.suite g3 d3 na aL aF
    have tyIs : PySem.W.Looks (model X.prog X.w) h3 (typeOf (.ref a)) cls := fun A Q E s k z => wpAny_typeOf_ref (k _ _ g3) (z3.1.symm ▸ z)
    have meets := PySem.W.exm_one (M := model X.prog X.w) J3.kIn tyIs hm
    refine wpAny_handleBy_cons (codeAny_handlers_test ?_) (fun z => by cases z)
    have ask : ∀ {Q : Value → Shared → Prop} {E : Value → Shared → Prop}, Q c { s' with heap := h3 } → wpAny (model X.prog X.w) (X.A.mark (some (.ref a))) (eval (.Name x np) X.env) Q E { s' with heap := h3 } := fun {Q E} z => by
      rcases hcl with ⟨gl, nd', m | ⟨m, bv, nn⟩⟩
      · exact ld_glob (X := X.suite a ((a, o3) :: (X.pn ++ pins))) S3 gl m z nd'
      · exact ld_blt (X := X.suite a ((a, o3) :: (X.pn ++ pins))) S3 gl m bv z nn nd'
    refine ask (meets.here (codeAny_handlers_suite_as (HandSPX.lands_againZ fl fun h4 fl4 up4 => ?_)))
    have J4 : Inv X pins σ' H' { s' with heap := h4 } := J.landed nb fl4.1 ((up.trans up3).trans up4) os ag
    obtain ⟨o4, v4, g4, z4, d4⟩ := fl4.there
    refine store_ok (X := X.suite a ((a, o4) :: (X.pn ++ pins))) (v := .ref a) (J4.suite g4 d4 na aL aF) nd hix (.inl hlc) rfl (fun s5 S5 => ?_) (.inr hlc)
    refine wpAny_mono ((hsu a o4 cls dd (X.pn ++ pins) z4 ⟨_, d4⟩).run [] s5 _ H' _ S5 (hyes a na)) (fun fl6 s6 q6 => ?_) (fun _ _ z => z.elim)
    have gone : ∀ {σ6 : L2.St} {H6 : Hp} {Q : Shared → Prop}, Inv (X.suite a ((a, o4) :: (X.pn ++ pins))) [] σ6 H6 s6 → (∀ s7, Inv X pins (σ6.set i none) H6 s7 → Q s7) →
        wpAny (model X.prog X.w) X.A (do bindName X.env n .none; unbindBehindTheSuite X.env n hp') (fun _ s7 => Q s7) X.xe s6 := fun {σ6 H6 Q} S6 z => gone_ok (S6.unsuite I.ok) nd hix hlc z
    cases fl6 with
    | ret u => obtain ⟨v6, σ6, H6, S6, r6, z6⟩ := q6; exact gone S6 fun s7 J7 => ⟨_, _, _, J7, r6, z6⟩
    | next => obtain ⟨σ6, H6, S6, z6⟩ := q6; exact gone S6 fun s7 J7 => ⟨_, _, J7, z6⟩
    | brk => obtain ⟨σ6, H6, S6, z6⟩ := q6; exact gone S6 fun s7 J7 => ⟨_, _, J7, z6⟩
    | cont => obtain ⟨σ6, H6, S6, z6⟩ := q6; exact gone S6 fun s7 J7 => ⟨_, _, J7, z6⟩
  refine wpAny_mono ((hbd (wFst X.K c i ts D) (X.pn ++ pins) land caught PassesOwn.looking).run [] s σ H D (I.toTry _) hW) (fun fl s1 z => ?_) (fun e s1 z => z)
  cases fl with
  | ret u => obtain ⟨v, σ', H', J', r, z⟩ := z; exact ⟨v, σ', H', J'.ofTry I.ok, r, z⟩
  | next => obtain ⟨σ', H', J', z⟩ := z; exact wpAny_execs_nil ⟨σ', H', J'.ofTry I.ok, z⟩
  | brk => obtain ⟨σ', H', J', z⟩ := z; exact ⟨σ', H', J'.ofTry I.ok, z⟩
  | cont => obtain ⟨σ', H', J', z⟩ := z; exact ⟨σ', H', J'.ofTry I.ok, z⟩
end
/-! ### e.f of the caught error -/
section
variable {X : Cx} {a : Addr} {oe : Obj} {cls : Value} {d : Option Addr} {pn : List (Addr × Obj)} {i : Nat} {n f : Str} {p pos : Pos}
theorem pe_errf (hz : Zc cls d oe) (hf : ∃ vs, oe.data = .fields vs) (hv : PE (X.suite a ((a, oe) :: pn)) (.Name n p) (tVar i)) (hb : attributeBase (.Name n p) f X.env (eval (.Name n p) X.env) = eval (.Name n p) X.env := by rfl) :
    PE (X.suite a ((a, oe) :: pn)) (.Attribute (.Name n p) f pos) (fun σ H Q => σ[i]? = some (some (.ref a)) ∧ ∃ (C dd : Addr) (fs : List (Str × V)) (v : V), cls = .ref C ∧ XfC X.K C ∧ PySem.W.findIn X.K (.ref C) f = some none ∧ d = some dd ∧ H dd = some (.xd fs) ∧ fs.lookup f = some v ∧ Q v H) := by
  refine ⟨fun pins s σ H Q I h => ?_⟩
  obtain ⟨h1, C, dd, fs, v, h2, T, h3, h4, h5, h6, q⟩ := h
  exact (pe_xf T h3 hz hf hv hb).run pins s σ H Q I ⟨_, h1, rfl, h2, dd, fs, v, h4, h5, h6, q⟩
end
end FvX


set_option maxHeartbeats 2000000
namespace FvX
open PySem PySem.Spec PyProof.Rows L2 LamX
/-! ### x(lambda: body), where x calls what it got within a try and goes on behind it -/
section
variable {X : Cx} {pins : List (Addr × Obj)} {σ : L2.St} {H : Hp} {s : Shared}
/-- the call of the lambda; what it raises is told of the very slots -/
theorem pe_actS {Eg : XK} {Ng : List Str} {qg : Str} {sg : Scope} {gf lf lc : Addr} {cdg pm ctv : Value} {pr : Arguments} {bd : Expr} {sc : Scope} {k i : Nat} {nm : Str} {pn : List (Addr × Obj)} {xe : Value → Shared → Prop} {W : WX} {E : XK} {tb : TE} {p1 p2 : Pos}
    (I : Inv X pins σ H s) (L : LamS X.env.scope sc) (hobj : s.heap.get? lf = some (PySem.W.kla_obj "<lambda>" (X.env.qual ++ "<lambda>") pr bd sc (cloFrom X.env.cells sc.names []) pm lc ctv)) (hn : H lf = none) (hnf : lf ∉ frs X.stack)
    (hbnd : bindArgs (PySem.W.kla_fn "<lambda>" (X.env.qual ++ "<lambda>") pr bd sc (cloFrom X.env.cells sc.names []) pm (.ref lc) ctv) ⟨[], []⟩ = pure [])
    (tk : Takes ((cxOf C8.CX0 X.prog X.w X.K X.mg X.base Ng qg sg gf cdg X.A X.stack s H Eg).tr pn xe) W) (hr : Room (k + 1) (X.A.deeper (envOfC qg sg s.heap.objs.size gf cdg)))
    (hbd : ∀ (A : Around) (outer : List Env) (s : Shared) (H : Hp), Room k (A.deeper (lamEnv X sc s.heap.objs.size lf lc)) → PE (lamCx X A outer s H E sc lf lc) bd tb)
    (hN : Ng[i]? = some nm) (hv : Vis sg nm) (hd : (nm == ("__debug__" : Str)) = false) (hcd : (nm == ("__classdict__" : Str)) = false) :
    PE ((cxOf C8.CX0 X.prog X.w X.K X.mg X.base Ng qg sg gf cdg X.A X.stack s H Eg).tr pn xe) (.Call (.Name nm p1) [] [] p2)
      (fun σZ HZ Q => σZ[i]? = some (some (.ref lf)) ∧ HZ lc = some (CodeO lc (X.env.qual ++ "<lambda>")) ∧ (∀ cls d H', E cls d H' → W cls d σZ H') ∧ tb σ HZ Q) := by
  refine ⟨fun pZ sZ σZ HZ Q IZ hh => ?_⟩
  obtain ⟨h1, h2, hW, h3⟩ := hh
  have var := (pe_var (X := (cxOf C8.CX0 X.prog X.w X.K X.mg X.base Ng qg sg gf cdg X.A X.stack s H Eg).tr pn xe) (pos := p1) (i := i) hN hv hd hcd).run pZ sZ σZ HZ (fun v H1 => v = .ref lf ∧ H1 = HZ) IZ ⟨.ref lf, h1, rfl, rfl⟩
  refine wpAny_Call_Name_kw (thn var fun u s1 z => ?_)
  obtain ⟨v, H1, I1, r1, e1, e2⟩ := z
  subst e1
  subst e2
  have eu : u = Value.ref lf := r1
  subst eu
  have here := I1.base.keep lf _ hobj hn hnf (fun z => nomatch (show lf ∈ ([] : List Addr) from z))
  have un : Un (frs X.stack) [] H H1 s.heap s1.heap := I1.base
  obtain ⟨⟨oc, vs, t, g1, g2, g3⟩, _, _⟩ := I1.hok lc _ h2
  have body : codeAny (model X.prog X.w) (X.A.deeper (envOfC qg sg s.heap.objs.size gf cdg)) (.call (.ref lf) ⟨[], []⟩) (CR (L2.CX X.prog X.w) (envOfC qg sg s.heap.objs.size gf cdg :: X.stack) X.prog X.w H1 s1 Q E) s1 := by
    refine PySem.W.kla_callFunE hr.depth here rfl L.co L.gen rfl ⟨lc, oc, vs, t, rfl, g1, g2, g3⟩ ?_
    rw [hbnd]
    refine wpAny_pure (wpAny_newFunctionEnv (fun y hy => (L.own y hy).2) (fun y hy => absurd hy List.not_mem_nil) (fun h₁ hns hsb => ⟨I1.nolimit.fresh _ hsb, ?_⟩) L.kind)
    show codeAny _ _ (.expr bd (lamEnv X sc s1.heap.objs.size lf lc)) _ _
    have kp : ∀ b o, s1.heap.get? b = some o → h₁.get? b = some o := fun b o e => hsb.extBut b o (Nat.ne_of_lt (Heap.lt_size e)) (Heap.get?_push_of_some _ e)
    have J := lam_start2 (A := X.A.deeper (envOfC qg sg s.heap.objs.size gf cdg)) (outer := envOfC qg sg s.heap.objs.size gf cdg :: X.stack) (E := E) (scope := sc) (f := lf) (c' := lc) (tk := s1.toks + ([] : List (Str × Value)).length) I L I1.env0 hr.hd un hns kp
    refine PySem.W.kla_codeExpr (wpAny_mono ((hbd _ _ s1 H1 (hr.deeper _)).run [] _ _ H1 Q J h3) (fun v s' z => ?_) fun e s' z => z)
    obtain ⟨v', H', J', rv, z⟩ := z
    exact ⟨v', H', J'.os, J'.bare, J'.base, J'.hok, rv, z⟩
  refine PySem.W.callWith_F0 ⟨_, _, _, _, here⟩ (wpAny_call (codeAny_mono body fun r s' z => ?_))
  cases r with
  | ok fl =>
    cases fl with
    | ret u => exact I1.after z
    | next => exact z.elim
    | brk => exact z.elim
    | cont => exact z.elim
  | error e => exact tk e s' (XE.of_call I1 (fun cls d H' hE => hW cls d H' hE) z)
end
/-- the def at gf, called with one value, makes of the lambda's reading what TT says -/
def GivesS (X : Cx) (Ng : List Str) (x : Str) (sg : Scope) (gf : Addr) (cdg : Value) (bg : List Stmt) (nm q : Str) (TT : (XK → Hp → VK → Prop) → Hp → VK → Prop) : Prop :=
  ∀ (lf lc : Addr) (s : Shared) (H : Hp) (Q : VK) (tl : XK → Hp → VK → Prop),
    (∀ (W : WX) (pn : List (Addr × Obj)) (xe : Value → Shared → Prop) (E : XK) (p1 p2 : Pos), Takes ((cxOf C8.CX0 X.prog X.w X.K X.mg X.base Ng x sg gf cdg X.A X.stack s H C8.E0).tr pn xe) W →
      PE ((cxOf C8.CX0 X.prog X.w X.K X.mg X.base Ng x sg gf cdg X.A X.stack s H C8.E0).tr pn xe) (.Call (.Name nm p1) [] [] p2)
        (fun σZ HZ Q => σZ[0]? = some (some (.ref lf)) ∧ HZ lc = some (CodeO lc q) ∧ (∀ cls d H', E cls d H' → W cls d σZ H') ∧ tl E HZ Q)) →
    H lc = some (CodeO lc q) → TT tl H Q →
    ∃ t, PSs (cxOf C8.CX0 X.prog X.w X.K X.mg X.base Ng x sg gf cdg X.A X.stack s H C8.E0).nox bg t ∧ t { nx := fun _ H' => Q .non H', rt := Q } (L2.start Ng [.ref lf]) H
section
variable {X : Cx}
theorem pe_lamS {T : List (Addr × Str)} {TT : (XK → Hp → VK → Prop) → Hp → VK → Prop} {x nm : Str} {gf c P : Addr} {k : Nat} {pg : Arguments} {bg : List Stmt} {sg : Scope} {dV kV doc pm cdv ct oc : Value} {an od : Option Addr} {osl : Array (Option Value)} {Ng : List Str}
    {pr : Arguments} {bd : Expr} {sc : Scope} {t : XK → TE} {p lpos pos : Pos} (hg : Gl X x) (hm : X.mg x = some (.ref gf)) (hk : PySem.W.keepIn X.K (.ref gf) = true)
    (lk : X.K.lookup gf = some ⟨oc, od, .func (PySem.W.fnOf x x pg bg sg dV kV doc pm an cdv ct), osl⟩) (hcg : PySem.W.codeIn X.K cdv x = true) (hb : L2.Binds X.K (PySem.W.fnOf x x pg bg sg dV kV doc pm an cdv ct) [nm] []) (Sg : FnScope Ng [nm] sg) (hNg : Ng[0]? = some nm) (hva : Vis sg nm)
    (hG : GivesS X Ng x sg gf cdv bg nm (X.env.qual ++ "<lambda>") TT)
    (TB : TabB X.base X.mg c P) (hcode : X.env.code = .ref c) (hmT : (P, X.env.qual ++ "<lambda>") ∈ T) (hu : ∀ p ∈ T, p.1 = P → p.2 = X.env.qual ++ "<lambda>") (hr : Room (k + 2) X.A) (L : LamS X.env.scope sc) (hdef : defaultsOf pr X.env = ([], []))
    (hbind : ∀ (q : Str) (cl : List (Str × Addr)) (pm cv ctv : Value), bindArgs (PySem.W.kla_fn "<lambda>" q pr bd sc cl pm cv ctv) ⟨[], []⟩ = pure [])
    (hbd : ∀ (A : Around) (outer : List Env) (s : Shared) (H : Hp) (E : XK) (lf lc : Addr), Room k (A.deeper (lamEnv X sc s.heap.objs.size lf lc)) → PE (lamCx X A outer s H E sc lf lc) bd (t E))
    (hdb : (x == ("__debug__" : Str)) = false := by decide) (hd : (nm == ("__debug__" : Str)) = false := by decide) (hcd : (nm == ("__classdict__" : Str)) = false := by decide) :
    PE X (.Call (.Name x p) [.Lambda pr bd sc lpos] [] pos) (tLam T TT t) := by
  refine ⟨fun pins s σ H Q I hh => wpAny_Call_Name_kw (ld_glob I hg hm (PySem.W.callWith_K (h₀ := X.base) I.ok.mod.kin hk ?_ (by rfl) (by rfl)) hdb)⟩
  show wpAny _ _ (spliced ((false, eval (.Lambda pr bd sc lpos) X.env) :: backTo pos (starEach [] X.env))) _ _ s
  refine Calls.spliced_cons (lam_make2 I TB hcode hmT hu hh.1 hdef (L.has I.ok) fun lf lc pm' ctv H1 s' I1 eN T1 g1 g2 g3 g4 => Calls.spliced_nil ⟨I1.kIn, ?_⟩)
  refine wpAny_call (codeAny_mono (R := CR C8.CX0 X.stack X.prog X.w H1 s' Q C8.E0) ?_ fun r s2 z => ?_)
  · refine run_ofS (N := Ng) (ps := [nm]) (us := [.ref lf]) (vs := [.ref lf]) lk hcg Sg hr I1.env0 (hb s' [.ref lf] I1.kIn rfl) (.cons rfl .nil) rfl fun hr' => ?_
    obtain ⟨t', q1, q2⟩ := hG lf lc s' H1 Q (fun E H' Q' => t E σ H' Q') (fun W pn xe E p1 p2 tk => pe_actS (i := 0) I1 L g1 g2 g3 (hbind _ _ _ _ _) tk hr' (fun A outer s H hr2 => hbd A outer s H E lf lc hr2) hNg hva hd hcd) g4 (hh.2 H1 eN T1)
    exact ⟨t', q1.nox, q2⟩
  · cases r with
    | error e => exact (show False from z).elim
    | ok fl =>
      cases fl with
      | ret u => exact I1.after z
      | next => exact z.elim
      | brk => exact z.elim
      | cont => exact z.elim
end
end FvX


namespace Fv
open PySem PySem.Spec PyProof.Rows L2 FvX
/-! ### own defs that may raise -/
structure OwnR (P : Program) (w : World) (K : PySem.W.Frag) (mg : Str → Option Value) (base : Heap) (k : Nat) (x : Str) (sp : Sp) : Prop where
  ex : ∃ f : Addr, mg x = some (.ref f) ∧ PySem.W.keepIn K (.ref f) = true ∧ FnR P w K mg base (L2.CX P w) k f sp
section
variable {X : Cx} {k : Nat} {x : Str} {sp : Sp} {E : XK} {e : Expr} {es : List Expr} {t : TA} {p pos : Pos}
theorem pe_ownR (C : OwnR X.prog X.w X.K X.mg X.base k x sp) (hr : Room k X.A) (hg : Gl X x) (hx : Passes (L2.CX X.prog X.w) X E) (ha : PA X (e :: es) t) (hdb : (x == ("__debug__" : Str)) = false := by decide)
    (he : starEach (e :: es) X.env = (false, eval e X.env) :: starEach es X.env := by rfl) (hpl : (backTo pos (starEach es X.env)).any (·.1) = false := by rfl) : PE X (.Call (.Name x p) (e :: es) [] pos) (fun σ H Q => t σ H fun vs H1 => sp vs H1 Q E) := by
  obtain ⟨f, h1, h2, h3⟩ := C.ex
  refine ⟨fun pins s σ H Q I h => wpAny_Call_Name_kw (ld_glob I hg h1 (PySem.W.callWith_K (h₀ := X.base) I.ok.mod.kin h2 (thn (ha.run pos pins s σ H _ I h) fun us s1 z => ?_) he hpl) hdb)⟩
  obtain ⟨vs, H1, I1, r, q⟩ := z
  exact ⟨I1.kIn, wpAny_call (run_fnR h3 hr hx I1 r q)⟩
theorem pe_ownR0 (C : OwnR X.prog X.w X.K X.mg X.base k x sp) (hr : Room k X.A) (hg : Gl X x) (hx : Passes (L2.CX X.prog X.w) X E) (hdb : (x == ("__debug__" : Str)) = false := by decide) : PE X (.Call (.Name x p) [] [] pos) (fun σ H Q => sp [] H Q E) := by
  obtain ⟨f, h1, h2, h3⟩ := C.ex
  exact ⟨fun pins s σ H Q I h => wpAny_Call_Name_kw (ld_glob I hg h1 (PySem.W.callWith_K0 I.kIn h2 (wpAny_call (run_fnR h3 hr hx I .nil h))) hdb)⟩
end
theorem passX {P : Program} {w : World} {K : PySem.W.Frag} {mg : Str → Option Value} {base : Heap} {N : List Str} {qual : Str} {scope : Scope} {f : Addr} {cd : Value} {A : Around} {outer : List Env} {s : Shared} {H : Hp} {E : XK} :
    Passes (L2.CX P w) (cxOf (L2.CX P w) P w K mg base N qual scope f cd A outer s H E) E := passes_call (takes_of rfl rfl rfl rfl) (fun _ _ _ _ h => h)
theorem passL {X : Cx} {A : Around} {outer : List Env} {s : Shared} {H : Hp} {E : XK} {sc : Scope} {lf lc : Addr} : Passes (L2.CX X.prog X.w) (LamX.lamCx X A outer s H E sc lf lc) E := passes_call (takes_of rfl rfl rfl rfl) (fun _ _ _ _ h => h)
/-- the error of the class at CT leaves, its code told -/
def errAt (CT : Addr) (cod : Str) (H : Hp) (E : XK) : Prop := ∀ (H' : Hp) (dd : Addr), Same H H' → H' dd = some (.xd [("code", .str cod)]) → E (.ref CT) (some dd) H'
theorem errAt.mono {CT : Addr} {cod : Str} {H H1 : Hp} {E : XK} (h : errAt CT cod H E) (s : Same H H1) : errAt CT cod H1 E := fun H' dd s' e => h H' dd (s.trans s') e
/-- a term by is_term's default bounds -/
def tmB (d : PyData) : Bool := (meas 5 d 24).isSome
def spChecked (K : PySem.W.Frag) (CT : Addr) : Sp := fun vs H Q E => ∃ (v : V) (d : PyData), vs = [v] ∧ Dp K H v d ∧ gd 20 d = true ∧ (tmB d = true → ∀ H', Same H H' → Q v H') ∧ (tmB d = false → errAt CT "InvalidTerm" H E)
/-- the term of an operator and its parts, or the only part -/
def madeD (op : Str) : List PyData → PyData
  | [d] => d
  | ds => .tuple (.str op :: ds)
def spJoined (K : PySem.W.Frag) (CT : Addr) : Sp := fun vs H Q E => ∃ (op : Str) (tp : Addr) (xs : List V) (ds : List PyData), vs = [.str op, .ref tp] ∧ SqT K H tp xs ∧ DpAll K H xs ds ∧ xs.length ≤ 100 ∧ gd 0 (.str op) = true ∧ (∀ d ∈ ds, gd 15 d = true) ∧
  (tmB (madeD op ds) = true → ∀ H' v, Same H H' → Dp K H' v (madeD op ds) → Q v H') ∧ (tmB (madeD op ds) = false → errAt CT "InvalidTerm" H E)
def spLower (K : PySem.W.Frag) (CT : Addr) (op : Str) : Sp := fun vs H Q E => ∃ (tp : Addr) (xs : List V) (ds : List PyData), vs = [.ref tp] ∧ SqT K H tp xs ∧ DpAll K H xs ds ∧ xs.length ≤ 100 ∧ (∀ d ∈ ds, gd 15 d = true) ∧
  (tmB (madeD op ds) = true → ∀ H' v, Same H H' → Dp K H' v (madeD op ds) → Q v H') ∧ (tmB (madeD op ds) = false → errAt CT "InvalidTerm" H E)
def spLowerR (K : PySem.W.Frag) (CT : Addr) (op : Str) : Sp := fun xs H Q E => ∃ ds : List PyData, DpAll K H xs ds ∧ xs.length ≤ 100 ∧ (∀ d ∈ ds, gd 15 d = true) ∧
  (tmB (madeD op ds) = true → ∀ H' v, Same H H' → Dp K H' v (madeD op ds) → Q v H') ∧ (tmB (madeD op ds) = false → errAt CT "InvalidTerm" H E)
theorem madeD_gd {op : Str} {ds : List PyData} (ho : gd 0 (.str op) = true) (h : ∀ d ∈ ds, gd 15 d = true) (hl : ds.length ≤ 100) : gd 20 (madeD op ds) = true := by
  have z : gd 16 (.tuple (.str op :: ds)) = true := gd_tup (fun d hd => by
    rcases List.mem_cons.mp hd with e | e
    · rw [e]; exact gd_le ho (by decide)
    · exact h d e) (by rw [List.length_cons]; omega)
  unfold madeD
  split
  · rename_i d
    exact gd_le (h d (List.mem_singleton.mpr rfl)) (by decide)
  · exact gd_le z (by decide)
theorem madeD_ne {op : Str} {ds : List PyData} (h : ds.length ≠ 1) : madeD op ds = .tuple (.str op :: ds) := by
  match ds, h with
  | [], _ => rfl
  | [d], h => exact absurd rfl h
  | a :: b :: r, _ => rfl
end Fv


namespace Fv
open PySem PySem.Spec PyProof.Rows L2 FvX
theorem lmeas_up : ∀ (n : Nat) (d : PyData), 1 ≤ lmeas n d → lmeas (n + 1) d = lmeas n d
  | 0, d, h => by simp only [lmeas] at h; omega
  | n + 1, d, h => by
    by_cases a : isLd d = true
    · unfold lmeas
      rw [if_pos a, if_pos a]
    · by_cases b : isCd d = true
      · have e : ∀ m, lmeas (m + 1) d = if (0 : Int) ∈ (parts d).map (lmeas m) then 0 else ((parts d).map (lmeas m)).sum := fun m => by
          show (if isLd d = true then (1 : Int) else if isCd d = true then _ else 0) = _
          rw [if_neg a, if_pos b]
        rw [e] at h
        by_cases c : (0 : Int) ∈ (parts d).map (lmeas n)
        · rw [if_pos c] at h; omega
        · have em : (parts d).map (lmeas (n + 1)) = (parts d).map (lmeas n) := List.map_congr_left fun x hx => lmeas_up n x (by
            have z := lmeas_nonneg n x
            rcases Int.lt_or_eq_of_le z with z | z
            · omega
            · exact absurd (List.mem_map.mpr ⟨x, hx, z.symm⟩) c)
          rw [e (n + 1), e n, em]
      · have e : ∀ m, lmeas (m + 1) d = 0 := fun m => by
          show (if isLd d = true then (1 : Int) else if isCd d = true then _ else 0) = _
          rw [if_neg a, if_neg b]
        rw [e] at h; omega
theorem mem_le_sum : ∀ {l : List Int} {x : Int}, (∀ y ∈ l, 0 ≤ y) → x ∈ l → x ≤ l.sum
  | y :: l, x, h, hx => by
    rw [List.sum_cons]
    have h0 := sum_nonneg (l := l) fun z hz => h z (List.mem_cons_of_mem _ hz)
    have h1 := h y (List.mem_cons_self ..)
    rcases List.mem_cons.mp hx with e | e
    · omega
    · have := mem_le_sum (l := l) (fun z hz => h z (List.mem_cons_of_mem _ hz)) e
      omega
theorem tmB_iff (d : PyData) : tmB d = true ↔ 1 ≤ lmeas 5 d ∧ lmeas 5 d ≤ 24 := by
  unfold tmB
  rw [meas_some, Bool.and_eq_true, decide_eq_true_eq, decide_eq_true_eq]
theorem tmB_fits (d : PyData) : (decide (1 ≤ lmeas 5 d) && decide (lmeas 5 d ≤ 24)) = tmB d := (meas_some 5 d 24).symm
/-- what makes a term is made of terms -/
theorem made_parts {op : Str} {ds : List PyData} (h : tmB (madeD op ds) = true) : ds ≠ [] ∧ ∀ d ∈ ds, tmB d = true := by
  match ds, h with
  | [], h => cases (show false = true from h)
  | [d], h => exact ⟨fun z => (by cases z), fun x hx => by rw [List.mem_singleton.mp hx]; exact h⟩
  | a :: b :: r, h =>
    refine ⟨fun z => (by cases z), fun x hx => ?_⟩
    obtain ⟨h1, h2⟩ := (tmB_iff _).mp h
    have e : lmeas 5 (madeD op (a :: b :: r)) = if isCd (.tuple (.str op :: a :: b :: r)) = true then (if (0 : Int) ∈ (a :: b :: r).map (lmeas 4) then 0 else ((a :: b :: r).map (lmeas 4)).sum) else 0 := rfl
    rw [e] at h1 h2
    by_cases c : isCd (.tuple (.str op :: a :: b :: r)) = true
    · rw [if_pos c] at h1 h2
      by_cases c0 : (0 : Int) ∈ (a :: b :: r).map (lmeas 4)
      · rw [if_pos c0] at h1; omega
      · rw [if_neg c0] at h1 h2
        have z := lmeas_nonneg 4 x
        have x1 : 1 ≤ lmeas 4 x := by
          rcases Int.lt_or_eq_of_le z with z | z
          · omega
          · exact absurd (List.mem_map.mpr ⟨x, hx, z.symm⟩) c0
        have xs : lmeas 4 x ≤ ((a :: b :: r).map (lmeas 4)).sum := mem_le_sum (fun y hy => by
          obtain ⟨d', _, rfl⟩ := List.mem_map.mp hy
          exact lmeas_nonneg 4 d') (List.mem_map.mpr ⟨x, hx, rfl⟩)
        exact (tmB_iff x).mpr (by rw [lmeas_up 4 x x1]; omega)
    · rw [if_neg c] at h1; omega
def badD : PyData := .tuple [.none, .str "InvalidTerm"]
def outD (op : Str) (ds : List PyData) : PyData := if tmB (madeD op ds) = true then .tuple [madeD op ds, .str ""] else badD
def opOf (low : Bool) : Str := if low = true then "&" else "|"
def spMade (K : PySem.W.Frag) (CT : Addr) : Sp := fun vs H Q E => ∃ (pl : Addr) (xs : List V) (ds : List PyData) (low : Bool), vs = [.ref pl, .bl low] ∧ H pl = some (.lst xs) ∧ DpAll K H xs ds ∧ xs.length ≤ 4 ∧ (∀ d ∈ ds, gd 13 d = true) ∧
  (tmB (madeD (opOf low) ds) = true → ∀ H' v, Same H H' → Dp K H' v (madeD (opOf low) ds) → Q v H') ∧ (tmB (madeD (opOf low) ds) = false → errAt CT "InvalidTerm" H E)
def spDue (K : PySem.W.Frag) : Sp := fun vs H Q _ => ∃ (pl : Addr) (xs : List V) (ds : List PyData) (low : Bool), vs = [.ref pl, .bl low] ∧ H pl = some (.lst xs) ∧ DpAll K H xs ds ∧ xs.length ≤ 4 ∧ (∀ d ∈ ds, gd 13 d = true) ∧
  ∀ H' v, Same H H' → Dp K H' v (outD (opOf low) ds) → Q v H'
theorem eqv_nil (ds : List PyData) : PyData.eqv (.list ds) (.list []) = decide (ds = []) := by
  cases ds with
  | nil => rfl
  | cons d ds => simp [PyData.eqv, PyData.eqvAll]
/-- what _law_call makes of the lambda's reading -/
def TCall (K : PySem.W.Frag) (CF : Addr) : (XK → Hp → VK → Prop) → Hp → VK → Prop := fun tl H Q => ∀ (R : VK) (E : XK),
  (∀ v H', (∀ p, H' p = none → Q (.ref p) (upd H' p (.tup [v, .str ""]))) → R v H') →
  (∀ (C dd : Addr) (H' : Hp) (fs : List (Str × V)) (v : V), PySem.W.exmOne K (.ref C) (.ref CF) = some true → XfC K C → PySem.W.findIn K (.ref C) "code" = some none → H' dd = some (.xd fs) → fs.lookup ("code" : Str) = some v →
      (∀ p, H' p = none → Q (.ref p) (upd H' p (.tup [.non, v]))) → E (.ref C) (some dd) H') → tl E H R
end Fv


namespace Fv
open PySem PySem.Spec PyProof.Rows L2 FvX
/-! ### what stays when a lambda is made -/
theorem sq_ext {K : PySem.W.Frag} {H H' : Hp} {a : Addr} {xs : List V} (e : LamX.ExtN H H') (h : SqL K H a xs) : SqL K H' a xs := by
  rcases h with (h | ⟨o, h⟩) | h
  · exact .inl (.inl (e _ _ h fun ps z => by cases z))
  · exact .inl (.inr ⟨o, e _ _ h fun ps z => by cases z⟩)
  · exact .inr h
theorem sqT_ext {K : PySem.W.Frag} {H H' : Hp} {a : Addr} {xs : List V} (e : LamX.ExtN H H') (h : SqT K H a xs) : SqT K H' a xs := by
  rcases h with (h | ⟨o, h⟩) | h
  · exact .inl (.inl (e _ _ h fun ps z => by cases z))
  · exact .inl (.inr ⟨o, e _ _ h fun ps z => by cases z⟩)
  · exact .inr h
mutual
theorem dp_ext {K : PySem.W.Frag} {H H' : Hp} (e : LamX.ExtN H H') : ∀ (d : PyData) (v : V), Dp K H v d → Dp K H' v d
  | .none, _, h => by cases h; exact .non
  | .bool b, _, h => by cases h; exact .bl b
  | .int i, _, h => by cases h; exact .int i
  | .str x, _, h => by cases h; exact .str x
  | .list ds, _, h => by cases h with | lst hs ha => exact .lst (sq_ext e hs) (dpAll_ext e ds _ ha)
  | .tuple ds, _, h => by cases h with | tup hs ha => exact .tup (sqT_ext e hs) (dpAll_ext e ds _ ha)
  | .dict kvs, _, h => by cases h
theorem dpAll_ext {K : PySem.W.Frag} {H H' : Hp} (e : LamX.ExtN H H') : ∀ (ds : List PyData) (vs : List V), DpAll K H vs ds → DpAll K H' vs ds
  | [], _, h => by cases h; exact .nil
  | d :: ds, _, h => by cases h with | cons h1 h2 => exact .cons (dp_ext e d _ h1) (dpAll_ext e ds _ h2)
end
theorem ext_hide {M : List Addr} {H H' : Hp} (e : LamX.ExtN H H') : LamX.ExtN (hide M H) (hide M H') := fun b o z n => by
  obtain ⟨m, z⟩ := hide_some z
  rw [hide_ne m]
  exact e b o z n
theorem Src.ext {H H' : Hp} {a L : Addr} {ns : List Int} (h : Src H a L ns) (e : LamX.ExtN H H') : Src H' a L ns := by
  obtain ⟨i, p, st, c, h1, h2, h3⟩ := h
  exact ⟨i, p, st, c, e _ _ h1 (fun ps z => by cases z), e _ _ h2 (fun ps z => by cases z), h3⟩
theorem GV.ext {K : PySem.W.Frag} {n : Nat} {M : List Addr} {H H' : Hp} {v : V} (g : GV K n M H v) (e : LamX.ExtN H H') : GV K n M H' v := by
  obtain ⟨d, h1, h2⟩ := g
  exact ⟨d, dp_ext (ext_hide e) d v h1, h2⟩
theorem GV.smx {K : PySem.W.Frag} {n : Nat} {M : List Addr} {H H' : Hp} {v : V} (g : GV K n M H v) (s : SmX M H H') : GV K n M H' v := by
  obtain ⟨d, h1, h2⟩ := g
  exact ⟨d, dp_same s.hid d v h1, h2⟩
/-- tables stay where lists alone are changed -/
theorem tabs_smx {T : List (Addr × Str)} {M : List Addr} {H H' : Hp} (t : LamX.Tabs T H) (s : SmX M H H') (hM : ∀ b ∈ M, ∃ xs, H b = some (.lst xs)) : LamX.Tabs T H' := fun p hp => by
  obtain ⟨ps, h1, h2, h3⟩ := t p hp
  have nm : ∀ {b : Addr} {o : HO}, H b = some o → (∀ xs, o ≠ .lst xs) → b ∉ M := fun {b o} e n hb => by
    obtain ⟨xs, e'⟩ := hM b hb
    rw [e] at e'
    exact n xs (Option.some.inj e')
  refine ⟨ps, s _ _ (nm h1 fun xs z => by cases z) h1, h2, fun pos cv hc => ?_⟩
  obtain ⟨c, e1, e2⟩ := h3 pos cv hc
  exact ⟨c, e1, s _ _ (nm e2 fun xs z => by unfold LamX.CodeO at z; cases z) e2⟩
theorem tabs_same {T : List (Addr × Str)} {H H' : Hp} (t : LamX.Tabs T H) (s : Same H H') : LamX.Tabs T H' := t.ext s
theorem Src.lst {H : Hp} {a L : Addr} {ns : List Int} (h : Src H a L ns) : ∀ b ∈ [a], ∃ xs, H b = some (.lst xs) := fun b hb => by
  obtain ⟨_, _, _, _, e, _⟩ := h
  rw [List.mem_singleton.mp hb]
  exact ⟨_, e⟩
/-- the table of the law's own code -/
def TT0 (Pt : Addr) : List (Addr × Str) := [(Pt, ("law" : Str) ++ ".<locals>." ++ "<lambda>")]
section
variable {P : Program} {w : World} {K : PySem.W.Frag} {mg : Str → Option Value} {base : Heap}
/-- a def whose code object is told -/
theorem okC {x qual : Str} {st : Stmt} {f c : Addr} {oc : Value} {od an : Option Addr} {osl : Array (Option Value)} {kV doc pm ct : Value} {N ps : List Str} {k : Nat} {sp : Sp} (lk : K.lookup f = some ⟨oc, od, .func (PySem.W.fnOf x qual (defArgs st) (defBody st) (defScope st) .none kV doc pm an (.ref c) ct), osl⟩)
    (hcd : PySem.W.codeIn K (.ref c) qual = true) (S : FnScope N ps (defScope st)) (len : ∀ vs H Q E, sp vs H Q E → vs.length = ps.length)
    (hbody : ∀ (A : Around) (outer : List Env) (s : Shared) (H : Hp) (vs : List V) (Q : VK) (E : XK), Room k (A.deeper (envOfC qual (defScope st) s.heap.objs.size f (.ref c))) → sp vs H Q E →
      ∃ t, PSs (cxOf CX0 P w K mg base N qual (defScope st) f (.ref c) A outer s H E).nox (defBody st) t ∧ t { nx := fun _ H' => Q .non H', rt := Q } (start N vs) H) :
    FnOk P w K mg base CX0 (k + 1) f (PySem.W.fnOf x qual (defArgs st) (defBody st) (defScope st) .none kV doc pm an (.ref c) ct) ps sp :=
  fn_of lk hcd S len fun A outer s H vs Q E hr h => by
    obtain ⟨t, h1, h2⟩ := hbody A outer s H vs Q E hr h
    exact ⟨t, h1.nox, h2⟩
end
def spLawT (K : PySem.W.Frag) (Pt : Addr) : Sp := fun vs H Q _ => ∃ (a : Addr) (ns : List Int), vs = [.ref a] ∧ SqL K H a (ns.map V.int) ∧ ns.length ≤ 63 ∧ H Pt = some (.tbl #[]) ∧ ∀ H', Q (.bl true) H'
theorem outD_gd {op : Str} {ds : List PyData} (h : gd 20 (madeD op ds) = true) : gd 21 (outD op ds) = true := by
  unfold outD
  split
  · refine gd_tup (fun d hd => ?_) (Nat.le_of_ble_eq_true rfl)
    rcases List.mem_cons.mp hd with e | e
    · rw [e]; exact h
    · rw [List.mem_singleton.mp e]; exact gd_le (n := 0) (by decide +kernel) (Nat.zero_le _)
  · exact gd_le (n := 1) (by decide +kernel) (by decide)
end Fv


namespace Fv
open PySem PySem.Spec PyProof.Rows L2
def topS (i : Nat) : Stmt := PySem.Challenge.pw_fivefault_k30_truth_under_a_case.main.body.getD i (.Pass ⟨0, 0, 0, 0⟩)
-- top 19  slots: 0:_law_source_here 1:_law_many 2:_law_cell 3:_law_digit 4:_law_mixed_here
abbrev s_law_take : Stmt := topS 19
abbrev N_law_take : List Str := ["_law_source_here", "_law_many", "_law_cell", "_law_digit", "_law_mixed_here"]
theorem sc_law_take : FnScope N_law_take ["_law_source_here", "_law_many"] (defScope s_law_take) := ⟨rfl, rfl, rfl, by decide +kernel, rfl, by decide +kernel, by decide +kernel⟩

theorem at_int {ns : List Int} {i : Int} (h0 : 0 ≤ i) (h : i < ((ns.map V.int).length : Nat)) : ∃ v : Int, atI (ns.map V.int) i = some (.int v) := by
  rw [List.length_map] at h
  have hk : i.toNat < ns.length := by omega
  have q : atI (ns.map V.int) ((i.toNat : Nat) : Int) = some (.int ns[i.toNat]) := atI_nat (by rw [List.getElem?_map, List.getElem?_eq_getElem hk] <;> rfl)
  rw [show ((i.toNat : Nat) : Int) = i by omega] at q
  exact ⟨_, q⟩
def zz (st c : Int) : Int := (((st * st) % 2147483629 + 40507 * (c + 1)) * 48271 + st + 17) % 2147483629
theorem pos1 : (0 : Int) < 2147483587 := by decide
theorem pos2 : (0 : Int) < 2147483629 := by decide
theorem pos3 : (0 : Int) < 8191 := by decide
section
variable {P : Program} {w : World} {K : PySem.W.Frag} {mg : Str → Option Value} {base : Heap}
theorem ok_take {f : Addr} {fd : FuncData} {k : Nat} (F : Fun K "_law_take" "_law_take" s_law_take f fd) (m_len : mg "len" = none) (m_int : mg "int" = none) :
    FnOk P w K mg base CX0 (k + 1) f fd ["_law_source_here", "_law_many"] spTake := by
  refine F.ok sc_law_take (fun vs H Q E h => ?_) (fun cdv A outer s H vs Q E hr h => ?_)
  · obtain ⟨a, L, ns, n, rfl, _⟩ := h
    rfl
  · obtain ⟨a, L, ns, n, rfl, ⟨i, p, st, c, hA, hL, h0, h1, h2⟩, n1, n2, q⟩ := h
    have aL : L ≠ a := fun e => by
      rw [e, hA] at hL
      cases ns with
      | nil => cases hL
      | cons x r => cases hL
    refine ⟨_, (C8.pss_cut (ps_if (PW.pt (pw_and (pt_cmpR op_eq (pe_ix ix_list (pv 0) pe_int (fun _ _ => rfl)) pe_int (nomark _)) (pw_and1 (pt_cmpR op_lt (pe_ix ix_list (pv 0) pe_int (fun _ _ => rfl)) (pe_callB call_len_seq (by rfl) m_len (by decide +kernel) (pa_cons (pe_ix ix_list (pv 0) pe_int (fun _ _ => rfl)) pa_nil)) (nomark _)))))
        (pss_cons (ps_set (i := 2) sc_law_take.nd rfl (by first | exact .inl rfl | exact .inr rfl) (pe_ix ix_list (pe_ix ix_list (pv 0) pe_int (fun _ _ => rfl)) (pe_ix ix_list (pv 0) pe_int (fun _ _ => rfl)) (fun _ _ => rfl)))
        (pss_cons (ps_asg (pe_op op_add (pe_ix ix_list (pv 0) pe_int (fun _ _ => rfl)) pe_int) (pg_sub (pv 0) pe_int set_list))
        (pss_one (ps_if (pt_cmpR op_ge (pv 2) (pe_op op_pow pe_int pe_int) (nomark _))
          (pss_one (ps_asg (pv 2) (pg_sub (pv 0) pe_int set_list)))
          (pss_one (ps_asg (pe_op op_mod (pe_callTy call_int1 (by rfl) m_int (by decide +kernel) (pa_cons (pe_op op_add (pe_op op_add (pe_op op_mul (pe_ix ix_list (pv 0) pe_int (fun _ _ => rfl)) pe_int) (pe_op op_mul (pe_op op_mod (pe_callTy call_int1 (by rfl) m_int (by decide +kernel) (pa_cons (pv 2) pa_nil)) pe_int) pe_int)) pe_int) pa_nil)) pe_int) (pg_sub (pv 0) pe_int set_list)))))))
        pss_nil)
      (pss_cons (ps_if (pt_cmpR op_gt (pe_ix ix_list (pv 0) pe_int (fun _ _ => rfl)) pe_int (nomark _))
        (pss_cons (ps_set (i := 3) sc_law_take.nd rfl (by first | exact .inl rfl | exact .inr rfl) (pe_op op_mod (pe_callTy call_int1 (by rfl) m_int (by decide +kernel) (pa_cons (pe_ix ix_list (pv 0) pe_int (fun _ _ => rfl)) pa_nil)) (pv 1)))
        (pss_cons (ps_asg (pe_op op_fdiv (pe_ix ix_list (pv 0) pe_int (fun _ _ => rfl)) (pv 1)) (pg_sub (pv 0) pe_int set_list))
        (pss_one (ps_ret (pv 3)))))
        pss_nil)
      (pss_cons (ps_asg (pe_op op_add (pe_ix ix_list (pv 0) pe_int (fun _ _ => rfl)) pe_int) (pg_sub (pv 0) pe_int set_list))
      (pss_cons (ps_set (i := 4) sc_law_take.nd rfl (by first | exact .inl rfl | exact .inr rfl) (pe_op op_add (pe_op op_mod (pe_callTy call_int1 (by rfl) m_int (by decide +kernel) (pa_cons (pe_op op_mul (pe_ix ix_list (pv 0) pe_int (fun _ _ => rfl)) (pe_ix ix_list (pv 0) pe_int (fun _ _ => rfl))) pa_nil)) pe_int) (pe_op op_mul pe_int (pe_ix ix_list (pv 0) pe_int (fun _ _ => rfl)))))
      (pss_cons (ps_asg (pe_op op_mod (pe_callTy call_int1 (by rfl) m_int (by decide +kernel) (pa_cons (pe_op op_add (pe_op op_add (pe_op op_mul (pv 4) pe_int) (pe_ix ix_list (pv 0) pe_int (fun _ _ => rfl))) pe_int) pa_nil)) pe_int) (pg_sub (pv 0) pe_int set_list))
      (pss_one (ps_ret (pe_op op_mod (pe_callTy call_int1 (by rfl) m_int (by decide +kernel) (pa_cons (pe_op op_add (pe_op op_fdiv (pe_ix ix_list (pv 0) pe_int (fun _ _ => rfl)) pe_int) (pe_op op_mul (pe_op op_mod (pe_callTy call_int1 (by rfl) m_int (by decide +kernel) (pa_cons (pe_ix ix_list (pv 0) pe_int (fun _ _ => rfl)) pa_nil)) pe_int) pe_int)) pa_nil)) (pv 1))))))))), ?_⟩
    refine ⟨fun σ' H' => ∃ (y2 : Option V) (i p st c : Int), σ' = [some (.ref a), some (.int n), y2, none, none] ∧ H' a = some (.lst [.ref L, .int i, .int p, .int st, .int c]) ∧ H' L = some (.lst (ns.map V.int)) ∧ 0 ≤ i ∧ 0 ≤ st ∧ st < 2147483629 ∧ (∀ b, b ≠ a → H' b = H b), ?_, ?_⟩
    · -- the first if
      refine ⟨_, rfl, a, _, _, _, rfl, rfl, SqL.of hA, rfl, rfl, _, rfl, ?_⟩
      refine ite2 (fun c0 => ?_) (fun c0 => ?_)
      · refine ⟨_, rfl, a, _, _, _, rfl, rfl, SqL.of hA, rfl, _, rfl, a, _, _, _, rfl, rfl, SqL.of hA, rfl, L, _, rfl, .inl (SqL.of hL), _, _, rfl, rfl, _, rfl, ?_⟩
        refine ite2 (fun c1 => ?_) (fun c1 => ?_)
        · obtain ⟨v, hv⟩ := at_int h0 (of_decide_eq_true c1)
          refine ⟨_, rfl, a, _, _, _, rfl, rfl, SqL.of hA, rfl, _, rfl, a, _, _, _, rfl, rfl, SqL.of hA, rfl, L, _, _, _, rfl, rfl, SqL.of hL, hv, ?_⟩
          refine ⟨_, rfl, a, _, _, _, rfl, rfl, SqL.of hA, rfl, _, _, rfl, rfl, _, rfl, a, _, _, _, rfl, rfl, hA, rfl, ?_⟩
          have hA2 : (upd H a (.lst [.ref L, .int (i + 1), .int p, .int st, .int c])) a = some (.lst [.ref L, .int (i + 1), .int p, .int st, .int c]) := upd_same
          refine ⟨_, rfl, _, _, rfl, rfl, ⟨by decide, by decide, by decide⟩, _, _, rfl, rfl, _, rfl, ?_⟩
          refine ite2 (fun c2 => ?_) (fun c2 => ?_)
          · refine ⟨_, rfl, _, rfl, a, _, _, _, rfl, rfl, hA2, rfl, ?_⟩
            refine ⟨some (.int v), i + 1, v, st, c, rfl, upd_same, ?_, by omega, h1, h2, fun b nb => ?_⟩
            · rw [upd_ne aL, upd_ne aL]; exact hL
            · rw [upd_ne nb, upd_ne nb]
          · refine ⟨_, rfl, a, _, _, _, rfl, rfl, SqL.of hA2, rfl, _, _, rfl, rfl, .inr ⟨by decide, by decide⟩, _, rfl, .inl ⟨_, rfl, _, _, rfl, rfl, pos1, _, _, rfl, rfl, .inr ⟨by decide, by decide⟩, _, _, rfl, rfl, _, _, rfl, rfl, .inl ⟨_, rfl, _, _, rfl, rfl, pos2, ?_⟩⟩⟩
            refine ⟨_, rfl, a, _, _, _, rfl, rfl, hA2, rfl, ?_⟩
            refine ⟨some (.int v), i + 1, p, _, c, rfl, upd_same, ?_, by omega, ?_, ?_, fun b nb => ?_⟩
            · rw [upd_ne aL, upd_ne aL]; exact hL
            · exact Int.emod_nonneg _ (by decide)
            · exact Int.emod_lt_of_pos _ (by decide)
            · rw [upd_ne nb, upd_ne nb]
        · exact ⟨none, i, p, st, c, rfl, hA, hL, h0, h1, h2, fun b nb => rfl⟩
      · exact iteF ⟨none, i, p, st, c, rfl, hA, hL, h0, h1, h2, fun b nb => rfl⟩
    · rintro σ' H' ⟨y2, i, p, st, c, rfl, hA, hL, h0, h1, h2, off⟩
      refine ⟨_, rfl, a, _, _, _, rfl, rfl, SqL.of hA, rfl, _, _, rfl, rfl, _, rfl, ?_⟩
      refine ite2 (fun c0 => ?_) (fun c0 => ?_)
      · have cp : p > 0 := of_decide_eq_true c0
        refine ⟨_, rfl, a, _, _, _, rfl, rfl, SqL.of hA, rfl, .inl ⟨_, rfl, _, rfl, _, _, rfl, rfl, by omega, ?_⟩⟩
        refine ⟨_, rfl, a, _, _, _, rfl, rfl, SqL.of hA, rfl, _, rfl, _, _, rfl, rfl, ⟨by omega, by omega⟩, _, rfl, a, _, _, _, rfl, rfl, hA, rfl, ?_⟩
        refine ⟨_, rfl, q _ _ (Int.emod_nonneg _ (by omega)) (Int.emod_lt_of_pos _ (by omega)) ⟨i, _, st, c, upd_same, ?_, h0, h1, h2⟩ fun b nb => ?_⟩
        · rw [upd_ne aL]; exact hL
        · rw [upd_ne nb]; exact off b nb
      · refine ⟨_, rfl, a, _, _, _, rfl, rfl, SqL.of hA, rfl, _, _, rfl, rfl, _, rfl, a, _, _, _, rfl, rfl, hA, rfl, ?_⟩
        have hA2 : (upd H' a (.lst [.ref L, .int i, .int p, .int st, .int (c + 1)])) a = some (.lst [.ref L, .int i, .int p, .int st, .int (c + 1)]) := upd_same
        refine ⟨_, rfl, a, _, _, _, rfl, rfl, SqL.of hA2, rfl, _, rfl, a, _, _, _, rfl, rfl, SqL.of hA2, rfl, _, _, rfl, rfl, .inl ⟨by omega, by omega⟩, .inl ⟨_, rfl, _, _, rfl, rfl, pos2, ?_⟩⟩
        refine ⟨_, rfl, a, _, _, _, rfl, rfl, SqL.of hA2, rfl, _, _, rfl, rfl, .inl ⟨by decide, by decide⟩, _, _, rfl, rfl, ?_⟩
        refine ⟨_, rfl, _, _, rfl, rfl, .inr ⟨by decide, by decide⟩, _, rfl, a, _, _, _, rfl, rfl, SqL.of hA2, rfl, _, _, rfl, rfl, _, _, rfl, rfl, .inl ⟨_, rfl, _, _, rfl, rfl, pos2, ?_⟩⟩
        refine ⟨_, rfl, a, _, _, _, rfl, rfl, hA2, rfl, ?_⟩
        have z0 : 0 ≤ zz st c := Int.emod_nonneg _ (by decide)
        have z1 : zz st c < 2147483629 := Int.emod_lt_of_pos _ (by decide)
        have hA3 : (upd (upd H' a (.lst [.ref L, .int i, .int p, .int st, .int (c + 1)])) a (.lst [.ref L, .int i, .int p, .int (zz st c), .int (c + 1)])) a = some (.lst [.ref L, .int i, .int p, .int (zz st c), .int (c + 1)]) := upd_same
        refine ⟨_, rfl, a, _, _, _, rfl, rfl, SqL.of hA3, rfl, _, _, rfl, rfl, ⟨by decide, by decide⟩, ?_⟩
        refine ⟨_, rfl, a, _, _, _, rfl, rfl, SqL.of hA3, rfl, .inl ⟨_, rfl, _, _, rfl, rfl, pos3, _, _, rfl, rfl, .inr ⟨by decide, by decide⟩, _, _, rfl, rfl, .inl ⟨_, rfl, _, rfl, _, _, rfl, rfl, by omega, ?_⟩⟩⟩
        refine q _ _ (Int.emod_nonneg _ (by omega)) (Int.emod_lt_of_pos _ (by omega)) ⟨i, p, zz st c, c + 1, upd_same, ?_, h0, z0, z1⟩ fun b nb => ?_
        · rw [upd_ne aL, upd_ne aL]; exact hL
        · rw [upd_ne nb, upd_ne nb]; exact off b nb
end
end Fv


namespace Fv
open PySem PySem.Spec PyProof.Rows L2
-- top 18  slots: 0:_law_script
abbrev s_law_source : Stmt := topS 18
abbrev N_law_source : List Str := ["_law_script"]
theorem sc_law_source : FnScope N_law_source ["_law_script"] (defScope s_law_source) := ⟨rfl, rfl, rfl, by decide +kernel, rfl, by decide +kernel, by decide +kernel⟩

-- top 20  slots: 0:_law_source_here 1:_law_row
abbrev s_law_pick : Stmt := topS 20
abbrev N_law_pick : List Str := ["_law_source_here", "_law_row"]
theorem sc_law_pick : FnScope N_law_pick ["_law_source_here", "_law_row"] (defScope s_law_pick) := ⟨rfl, rfl, rfl, by decide +kernel, rfl, by decide +kernel, by decide +kernel⟩

-- top 21  slots: 0:_law_source_here 1:_law_row 2:_law_found 3:_law_one
abbrev s_law_mixed : Stmt := topS 21
abbrev N_law_mixed : List Str := ["_law_source_here", "_law_row", "_law_found", "_law_one"]
theorem sc_law_mixed : FnScope N_law_mixed ["_law_source_here", "_law_row"] (defScope s_law_mixed) := ⟨rfl, rfl, rfl, by decide +kernel, rfl, by decide +kernel, by decide +kernel⟩

-- top 26  slots: 0:_law_source_here 1:_law_most 2:_law_every
abbrev s_law_signs : Stmt := topS 26
abbrev N_law_signs : List Str := ["_law_source_here", "_law_most", "_law_every"]
theorem sc_law_signs : FnScope N_law_signs ["_law_source_here", "_law_most"] (defScope s_law_signs) := ⟨rfl, rfl, rfl, by decide +kernel, rfl, by decide +kernel, by decide +kernel⟩

section
variable {P : Program} {w : World} {K : PySem.W.Frag} {mg : Str → Option Value} {base : Heap}
theorem ok_source {f : Addr} {fd : FuncData} {k : Nat} (F : Fun K "_law_source" "_law_source" s_law_source f fd) (m_list : mg "list" = none) :
    FnOk P w K mg base CX0 (k + 1) f fd ["_law_script"] (spSource K) := by
  refine F.ok sc_law_source (fun vs H Q E h => ?_) (fun cdv A outer s H vs Q E hr h => ?_)
  · obtain ⟨a, ns, rfl, _⟩ := h
    rfl
  · obtain ⟨a, ns, rfl, hS, hl, q⟩ := h
    refine ⟨_, (pss_one (ps_ret (pe_lst (pa_cons (pe_callTy call_list_of (by rfl) m_list (by decide +kernel) (pa_cons (pe_slice sl_list (pv 0) po_none (po_some pe_int)) pa_nil)) (pa_cons pe_int (pa_cons pe_int (pa_cons pe_int (pa_cons pe_int pa_nil)))))))), ?_⟩
    refine ⟨_, rfl, _, rfl, a, _, rfl, hS, fun c nc => ?_⟩
    have e1 : cutV (ns.map V.int) none (some 63) = ns.map V.int := by
      rw [cut_take _ (by decide)]
      exact List.take_of_length_le (by rw [List.length_map]; exact hl)
    refine ⟨c, _, rfl, .inl (SqL.of upd_same), fun L nL => ?_⟩
    refine ⟨(by show 5 ≤ sizeLine; decide), fun p np => ?_⟩
    have s1 := same_upd (o := .lst (cutV (ns.map V.int) none (some 63))) nc
    have s2 := same_upd (o := .lst (cutV (ns.map V.int) none (some 63))) nL
    have s3 := same_upd (o := .lst [.ref L, .int 0, .int 0, .int 3818, .int 0]) np
    refine q _ p L (s1.trans (s2.trans s3)) (s1.free (s2.free np)) (s1.free nL) ⟨0, 0, 3818, 0, upd_same, ?_, by decide, by decide, by decide⟩
    refine s3 _ _ ?_
    rw [upd_same, e1]
theorem ok_pick {f : Addr} {fd : FuncData} {k : Nat} (F : Fun K "_law_pick" "_law_pick" s_law_pick f fd) (m_len : mg "len" = none)
    (C_law_take : Own P w K mg base k "_law_take" ["_law_source_here", "_law_many"] spTake) :
    FnOk P w K mg base CX0 (k + 1) f fd ["_law_source_here", "_law_row"] spPick := by
  refine F.ok sc_law_pick (fun vs H Q E h => ?_) (fun cdv A outer s H vs Q E hr h => ?_)
  · obtain ⟨a, L, r, ns, xs, rfl, _⟩ := h
    rfl
  · obtain ⟨a, L, r, ns, xs, rfl, hs, ra, hr', hp, hl, q⟩ := h
    refine ⟨_, (pss_one (ps_ret (pe_ix ix_list (pv 1) (pe_own C_law_take (hr.mono (by omega)) (by rfl) (pa_cons (pv 0) (pa_cons (pe_callB call_len_seq (by rfl) m_len (by decide +kernel) (pa_cons (pv 1) pa_nil)) pa_nil))) (fun _ _ => rfl)))), ?_⟩
    refine ⟨_, rfl, _, rfl, _, rfl, r, _, rfl, .inl (SqL.of hr'), a, L, ns, _, rfl, hs, by omega, by omega, fun H' d d0 d1 hs' off => ?_⟩
    obtain ⟨v, hv, mv⟩ := atI_mem d0 d1
    exact ⟨r, _, _, _, rfl, rfl, SqL.of ((off r ra).trans hr'), hv, q H' v mv hs' off⟩
theorem ok_mixed {f : Addr} {fd : FuncData} {k : Nat} (F : Fun K "_law_mixed" "_law_mixed" s_law_mixed f fd) (m_len : mg "len" = none)
    (C_law_take : Own P w K mg base k "_law_take" ["_law_source_here", "_law_many"] spTake) :
    FnOk P w K mg base CX0 (k + 1) f fd ["_law_source_here", "_law_row"] spMixed := by
  refine F.ok sc_law_mixed (fun vs H Q E h => ?_) (fun cdv A outer s H vs Q E hr h => ?_)
  · obtain ⟨a, L, r, ns, xs, rfl, _⟩ := h
    rfl
  · obtain ⟨a, L, r, ns, xs, rfl, hs, ra, hR, hl, q⟩ := h
    refine ⟨_, (pss_cons (ps_set (i := 2) sc_law_mixed.nd rfl (by first | exact .inl rfl | exact .inr rfl) (pe_lst pa_nil))
      (pss_cons (ps_for PassesOwn.never rfl (pi_list (pv 1)) (pg_name (i := 3) sc_law_mixed.nd rfl (by first | exact .inl rfl | exact .inr rfl))
        (pss_one (ps_expr (pe_bm PySem.F.plainAttrs_list PySem.F.slot_list_insert PySem.F.type_list_insert mt_insert (pv 2) (pa_cons (pe_own C_law_take (hr.mono (by omega)) (by rfl) (pa_cons (pv 0) (pa_cons (pe_op op_add (pe_callB call_len_seq (by rfl) m_len (by decide +kernel) (pa_cons (pv 2) pa_nil)) pe_int) pa_nil))) (pa_cons (pv 3) pa_nil))))))
      (pss_one (ps_ret (pv 2))))), ?_⟩
    refine ⟨Nat.zero_le _, fun p np => ?_⟩
    have ap : a ≠ p := by
      obtain ⟨_, _, _, _, e, _⟩ := hs
      exact ne_of_none e np
    have rp : r ≠ p := ne_of_none hR np
    refine ⟨_, rfl, r, rfl, ⟨_, SqL.of (by rw [upd_ne rp]; exact hR)⟩, for_list (xs := xs) (fun i σ H1 => ∃ (y : Option V) (ys : List V), σ = [some (.ref a), some (.ref r), some (.ref p), y] ∧ ys.Perm (xs.take i) ∧ H1 p = some (.lst ys) ∧ Src H1 a L ns ∧ (∀ b, b ≠ a → b ≠ p → H1 b = H b)) ?_ ?_ ?_ ?_⟩
    · exact ⟨none, [], rfl, .nil, upd_same, hs.off np fun c hc => upd_ne hc, fun b _ hb => upd_ne hb⟩
    · rintro i σ H1 hi ⟨y, ys, rfl, pm, hp, hs1, off⟩
      exact SqL.of ((off r ra rp).trans hR)
    · rintro i x σ H1 hx ⟨y, ys, rfl, pm, hp, hs1, off⟩
      obtain ⟨hi, hxi⟩ := List.getElem?_eq_some_iff.mp hx
      have ly : ys.length = i := by
        rw [pm.length_eq, List.length_take]
        omega
      refine ⟨_, rfl, .inl ⟨rfl, _, SqL.of hp⟩, _, rfl, _, rfl, p, _, rfl, .inl (SqL.of hp), _, _, rfl, rfl, a, L, ns, _, rfl, hs1, by omega, by omega, fun H' d d0 d1 hs' off' => ?_⟩
      have hp' : H' p = some (.lst ys) := (off' p ap.symm).trans hp
      refine ⟨_, rfl, p, _, _, _, rfl, rfl, hp', small1000 (by omega), d0, by omega, ?_⟩
      refine ⟨_, _, rfl, ?_, upd_same, ?_, fun b ba bp => ?_⟩
      · rw [List.take_add_one, hx]
        refine List.Perm.trans ?_ (List.Perm.append_right _ pm)
        show (ys.take d.toNat ++ [x] ++ ys.drop d.toNat).Perm (ys ++ [x])
        refine List.Perm.trans (?_ : List.Perm _ (ys.take d.toNat ++ (ys.drop d.toNat ++ [x]))) ?_
        · rw [List.append_assoc]
          exact List.Perm.append_left _ List.perm_append_comm
        · rw [← List.append_assoc, List.take_append_drop]
      · obtain ⟨i', p', st, c, h1, h2, h3⟩ := hs'
        have Lp : L ≠ p := fun e => by
          obtain ⟨_, _, _, _, _, e2, _⟩ := hs
          rw [e, np] at e2
          cases e2
        exact ⟨i', p', st, c, by rw [upd_ne ap]; exact h1, by rw [upd_ne Lp]; exact h2, h3⟩
      · rw [upd_ne bp, off' b ba]
        exact off b ba bp
    · rintro σ H1 ⟨y, ys, rfl, pm, hp, hs1, off⟩
      rw [List.take_length] at pm
      exact ⟨_, rfl, q H1 p ys pm np hp hs1 off⟩
theorem ok_signs {f : Addr} {fd : FuncData} {k : Nat} (F : Fun K "_law_signs" "_law_signs" s_law_signs f fd) (m_list : mg "list" = none)
    (C_law_take : Own P w K mg base k "_law_take" ["_law_source_here", "_law_many"] spTake)
    (C_law_mixed : Own P w K mg base k "_law_mixed" ["_law_source_here", "_law_row"] spMixed) :
    FnOk P w K mg base CX0 (k + 1) f fd ["_law_source_here", "_law_most"] spSigns := by
  refine F.ok sc_law_signs (fun vs H Q E h => ?_) (fun cdv A outer s H vs Q E hr h => ?_)
  · obtain ⟨a, L, ns, n, rfl, _⟩ := h
    rfl
  · obtain ⟨a, L, ns, n, rfl, hs, n1, n8, q⟩ := h
    refine ⟨_, (pss_cons (ps_set (i := 2) sc_law_signs.nd rfl (by first | exact .inl rfl | exact .inr rfl) (pe_own C_law_mixed (hr.mono (by omega)) (by rfl) (pa_cons (pv 0) (pa_cons (pe_callTy (call_listStr hr.hd) (by rfl) m_list (by decide +kernel) (pa_cons pe_str pa_nil)) pa_nil))))
      (pss_one (ps_ret (pe_slice sl_list (pv 2) po_none (po_some (pe_op op_add pe_int (pe_own C_law_take (hr.mono (by omega)) (by rfl) (pa_cons (pv 0) (pa_cons (pv 1) pa_nil))))))))), ?_⟩
    refine ⟨_, rfl, _, rfl, by decide +kernel, fun r nr => ?_⟩
    have ar : a ≠ r := by
      obtain ⟨_, _, _, _, e, _⟩ := hs
      exact ne_of_none e nr
    refine ⟨a, L, r, ns, _, rfl, hs.off nr fun c hc => upd_ne hc, ar.symm, upd_same, by decide +kernel, fun H1 p ys pm np hp hs1 off1 => ?_⟩
    have s1 := same_upd (o := .lst (signs "abcdefgh")) nr
    have ap : a ≠ p := by
      obtain ⟨_, _, _, _, e, _⟩ := hs
      exact ne_of_none e (s1.free np)
    refine ⟨_, rfl, _, rfl, _, rfl, a, L, ns, n, rfl, hs1, n1, by omega, fun H2 d d0 d1 hs2 off2 => ?_⟩
    have hp2 : H2 p = some (.lst ys) := (off2 p ap.symm).trans hp
    refine ⟨_, _, rfl, rfl, _, rfl, p, ys, rfl, SqL.of hp2, fun z nz => ?_⟩
    have ly : ys.length = 8 := by
      rw [pm.length_eq]
      decide +kernel
    have ez : cutV ys none (some (1 + d)) = ys.take (1 + d).toNat := cut_take ys (by omega)
    have zn : H z = none := by
      have ap1 : H1 z = none := by
        by_cases e : z = a
        · rw [e] at nz
          obtain ⟨_, _, _, _, e', _⟩ := hs2
          rw [e'] at nz
          cases nz
        · rw [← off2 z e]; exact nz
      have ap2 : (upd H r (.lst (signs "abcdefgh"))) z = none := by
        by_cases e : z = a
        · rw [e] at ap1
          obtain ⟨_, _, _, _, e', _⟩ := hs1
          rw [e'] at ap1
          cases ap1
        · by_cases e2 : z = p
          · rw [e2] at ap1
            rw [hp] at ap1
            cases ap1
          · rw [← off1 z e e2]; exact ap1
      exact s1.free ap2
    refine q _ z _ ?_ ?_ ?_ ?_ zn upd_same (hs2.off nz fun c hc => upd_ne hc) ?_
    · rw [ez, List.length_take]; omega
    · rw [ez, List.length_take]; omega
    · intro y hy
      rw [ez] at hy
      exact pm.mem_iff.mp (List.mem_of_mem_take hy)
    · rw [ez]
      refine List.Sublist.nodup (List.take_sublist _ _) ?_
      exact pm.nodup_iff.mpr (by decide +kernel)
    · intro b o hb e
      have ba : b ≠ a := fun z => hb (by rw [z]; exact List.mem_singleton.mpr rfl)
      have bz : b ≠ z := ne_of_none e zn
      rw [upd_ne bz, off2 b ba, off1 b ba (ne_of_none e (s1.free np))]
      exact s1 b o e
end
end Fv


namespace Fv
open PySem PySem.Spec PyProof.Rows L2
-- top 10  slots: 0:value
abbrev s_is_letter : Stmt := topS 10
abbrev N_is_letter : List Str := ["value"]
theorem sc_is_letter : FnScope N_is_letter ["value"] (defScope s_is_letter) := ⟨rfl, rfl, rfl, by decide +kernel, rfl, by decide +kernel, by decide +kernel⟩

-- top 11  slots: 0:value
abbrev s_is_compound : Stmt := topS 11
abbrev N_is_compound : List Str := ["value"]
theorem sc_is_compound : FnScope N_is_compound ["value"] (defScope s_is_compound) := ⟨rfl, rfl, rfl, by decide +kernel, rfl, by decide +kernel, by decide +kernel⟩

-- top 12  slots: 0:value 1:max_depth 2:max_size 3:deepest 4:total 5:part 6:found
abbrev s_measured : Stmt := topS 12
abbrev N_measured : List Str := ["value", "max_depth", "max_size", "deepest", "total", "part", "found"]
theorem sc_measured : FnScope N_measured ["value", "max_depth", "max_size"] (defScope s_measured) := ⟨rfl, rfl, rfl, by decide +kernel, rfl, by decide +kernel, by decide +kernel⟩


section
variable {P : Program} {w : World} {K : PySem.W.Frag} {mg : Str → Option Value} {base : Heap}
theorem at0 {x : V} {xs : List V} : atI (x :: xs) 0 = some x := atI_nat (xs := x :: xs) (rfl : (x :: xs)[0]? = some x)
theorem len_ok {n : Nat} {s : Str} (h : gd n (.str s) = true) : s.length ≤ sizeLine := by
  have q : s.length ≤ 100000 := by
    cases n <;> (simp only [gd, Bool.and_eq_true, decide_eq_true_eq] at h; exact h.2)
  exact Nat.le_trans q (by decide)
theorem ok_is_letter {f : Addr} {fd : FuncData} {k : Nat} (F : Fun K "is_letter" "is_letter" s_is_letter f fd) (m_isinstance : mg "isinstance" = none) (m_str : mg "str" = none) (m_len : mg "len" = none)
    {t : Tok} (g_LETTERS : mg "LETTERS" = some (.str "abcdefgh" t)) :
    FnOk P w K mg base CX0 (k + 1) f fd ["value"] (spIsLetter K) := by
  refine F.ok sc_is_letter (fun vs H Q E h => ?_) (fun cdv A outer s H vs Q E hr h => ?_)
  · obtain ⟨v, d, rfl, _⟩ := h
    rfl
  · obtain ⟨v, d, rfl, hd, hg, q⟩ := h
    refine ⟨_, (pss_one (ps_ret (pe_and (pe_isD (T := "str") (by rfl) m_isinstance (by rfl) m_str (pv 0)) (pe_and (pe_cmpR op_eq (pe_callB call_len_str (by rfl) m_len (by decide +kernel) (pa_cons (pv 0) pa_nil)) pe_int (nomark _)) (pe_one (pe_cmpR op_in_str (pv 0) (pe_glob (v := .str "abcdefgh") (by rfl) g_LETTERS (⟨_, rfl⟩)) (by rfl))))))), ?_⟩
    refine ⟨_, rfl, _, _, d, rfl, by decide, hd, _, rfl, ?_⟩
    cases d with
    | str z =>
      cases hd
      refine iteT ⟨_, rfl, z, rfl, len_ok hg, rfl, _, rfl, ?_⟩
      have e : isLd (.str z) = isL z := rfl
      rw [e] at q
      unfold isL at q
      refine ite2 (fun c => ?_) (fun c => ?_)
      · refine ⟨_, rfl, z, _, rfl, rfl, ?_⟩
        rw [c, Bool.true_and] at q
        exact q
      · rw [Bool.eq_false_iff.mpr c, Bool.false_and] at q
        exact q
    | _ => exact iteF q
theorem ok_is_compound {f : Addr} {fd : FuncData} {k : Nat} (F : Fun K "is_compound" "is_compound" s_is_compound f fd) (m_isinstance : mg "isinstance" = none) (m_tuple : mg "tuple" = none) (m_len : mg "len" = none)
    {oA : Addr} (g_OPERATORS : mg "OPERATORS" = some (.ref oA)) (hO : ∀ H, SqT K H oA [.str "&", .str "|"]) :
    FnOk P w K mg base CX0 (k + 1) f fd ["value"] (spIsCompound K) := by
  refine F.ok sc_is_compound (fun vs H Q E h => ?_) (fun cdv A outer s H vs Q E hr h => ?_)
  · obtain ⟨v, d, rfl, _⟩ := h
    rfl
  · obtain ⟨v, d, rfl, hd, hg, q⟩ := h
    refine ⟨_, (pss_one (ps_ret (pe_and (pe_isD (T := "tuple") (by rfl) m_isinstance (by rfl) m_tuple (pv 0)) (pe_and (pe_cmpR op_ge (pe_callB call_len_seq (by rfl) m_len (by decide +kernel) (pa_cons (pv 0) pa_nil)) pe_int (nomark _)) (pe_one (pe_cmpR (op_inT (hu65 hr)) (pe_ix ix_tup (pv 0) pe_int (fun _ _ => rfl)) (pe_glob (v := .ref oA) (by rfl) g_OPERATORS (rfl)) (by rfl))))))), ?_⟩
    refine ⟨_, rfl, _, _, d, rfl, by decide, hd, _, rfl, ?_⟩
    cases d with
    | tuple ds =>
      cases hd with
      | @tup a xs _ hs ha =>
        refine iteT ⟨_, rfl, a, xs, rfl, .inr hs, _, _, rfl, rfl, _, rfl, ?_⟩
        have hl := dpAll_len ha
        cases ds with
        | nil =>
          rw [hl]
          exact iteF q
        | cons o ds =>
          cases ha with
          | @cons x0 xr _ _ h1 h2 =>
            have hl' := dpAll_len h2
            have e : isCd (.tuple (o :: ds)) = (decide (2 ≤ ds.length) && isOp o) := rfl
            rw [e] at q
            refine ite2 (fun c => ?_) (fun c => ?_)
            · have c' : (3 : Int) ≤ (((x0 :: xr).length : Nat) : Int) := of_decide_eq_true c
              rw [List.length_cons] at c'
              refine ⟨_, rfl, a, _, _, x0, rfl, rfl, hs, at0, o, [.str "&", .str "|"], h1, .tup (hO _) (.cons (.str _) (.cons (.str _) .nil)), gd_shaped (gd_parts hg).1 (by decide), by decide +kernel, ?_⟩
              rw [decide_eq_true (by omega), Bool.true_and] at q
              exact q
            · have c' : ¬ (3 : Int) ≤ (((x0 :: xr).length : Nat) : Int) := of_decide_eq_false (Bool.eq_false_iff.mpr c)
              rw [List.length_cons] at c'
              rw [decide_eq_false (by omega), Bool.false_and] at q
              exact q
    | _ => exact iteF q
theorem ok_measured {f : Addr} {fd : FuncData} {k n : Nat} (F : Fun K "measured" "measured" s_measured f fd) (m_max : mg "max" = none) (hk : 1 ≤ k)
    (C_is_letter : Own P w K mg base 1 "is_letter" ["value"] (spIsLetter K)) (C_is_compound : Own P w K mg base 1 "is_compound" ["value"] (spIsCompound K))
    (C_measured : Own P w K mg base k "measured" ["value", "max_depth", "max_size"] (spMeas K n)) :
    FnOk P w K mg base CX0 (k + 1) f fd ["value", "max_depth", "max_size"] (spMeas K (n + 1)) := by
  refine F.ok sc_measured (fun vs H Q E h => ?_) (fun cdv A outer s H vs Q E hr h => ?_)
  · obtain ⟨v, d, md, ms, rfl, _⟩ := h
    rfl
  · obtain ⟨v, d, md, ms, rfl, hd, hg, m0, m1, q1, q2⟩ := h
    refine ⟨_, (pss_cons (ps_if (PW.pt (pw_or (pt_cmpR op_lt (pv 1) pe_int (nomark _)) (pw_or1 (pt_cmpR op_lt (pv 2) pe_int (nomark _)))))
        (pss_one (ps_ret pe_non))
        pss_nil)
      (pss_cons (ps_if (pt_val (pe_own C_is_letter (hr.mono (by omega)) (by rfl) (pa_cons (pv 0) pa_nil)))
        (pss_one (ps_ret (pe_tup (pa_cons pe_int (pa_cons pe_int pa_nil)))))
        pss_nil)
      (pss_cons (ps_if (pt_not (pt_val (pe_own C_is_compound (hr.mono (by omega)) (by rfl) (pa_cons (pv 0) pa_nil))))
        (pss_one (ps_ret pe_non))
        pss_nil)
      (pss_cons (ps_set (i := 3) sc_measured.nd rfl (by first | exact .inl rfl | exact .inr rfl) pe_int)
      (pss_cons (ps_set (i := 4) sc_measured.nd rfl (by first | exact .inl rfl | exact .inr rfl) pe_int)
      (pss_cons (ps_for PassesOwn.never rfl (pi_tup (pe_slice sl_tup (pv 0) (po_some pe_int) po_none)) (pg_name (i := 5) sc_measured.nd rfl (by first | exact .inl rfl | exact .inr rfl))
        (pss_cons (ps_set (i := 6) sc_measured.nd rfl (by first | exact .inl rfl | exact .inr rfl) (pe_own C_measured (hr.mono (by omega)) (by rfl) (pa_cons (pv 5) (pa_cons (pe_op op_sub (pv 1) pe_int) (pa_cons (pe_op op_sub (pv 2) (pv 4)) pa_nil)))))
        (pss_cons (ps_if (pt_cmpR op_isN (pv 6) pe_non (nomark _))
          (pss_one (ps_ret pe_non))
          pss_nil)
        (pss_cons (ps_set (i := 3) sc_measured.nd rfl (by first | exact .inl rfl | exact .inr rfl) (pe_callB (call_max2 rfl) (by rfl) m_max (by decide +kernel) (pa_cons (pv 3) (pa_cons (pe_ix ix_tup (pv 6) pe_int (fun _ _ => rfl)) pa_nil))))
        (pss_one (ps_set (i := 4) sc_measured.nd rfl (by first | exact .inl rfl | exact .inr rfl) (pe_op op_add (pv 4) (pe_ix ix_tup (pv 6) pe_int (fun _ _ => rfl)))))))))
      (pss_one (ps_ret (pe_tup (pa_cons (pe_op op_add (pv 3) pe_int) (pa_cons (pv 4) pa_nil))))))))))), ?_⟩
    refine ⟨_, rfl, _, _, rfl, rfl, _, rfl, ?_⟩
    have fin0 : ¬ 1 ≤ md ∨ ms < 1 → Q .non H := fun c => by
      refine q1 ?_ H (Same.refl H)
      rcases c with c | c
      · rw [show md.toNat = 0 by omega]; rfl
      · cases md.toNat with
        | zero => rfl
        | succ m => unfold meas; rw [if_pos c]
    refine ite2 (fun c => iteT (fin0 (.inl (by have := of_decide_eq_true c; omega)))) (fun c => ?_)
    have c1 : ¬ md < 1 := of_decide_eq_false (Bool.eq_false_iff.mpr c)
    refine ⟨_, rfl, _, _, rfl, rfl, _, rfl, ?_⟩
    refine ite2 (fun c => fin0 (.inr (of_decide_eq_true c))) (fun c => ?_)
    have c2 : ¬ ms < 1 := of_decide_eq_false (Bool.eq_false_iff.mpr c)
    obtain ⟨m, em⟩ : ∃ m, md.toNat = m + 1 := ⟨md.toNat - 1, by omega⟩
    have em' : (md - 1).toNat = m := by omega
    rw [em] at q1 q2
    unfold meas at q1 q2
    rw [if_neg c2] at q1 q2
    refine ⟨_, rfl, v, d, rfl, hd, hg, _, rfl, ?_⟩
    refine ite2 (fun c => ?_) (fun c => ?_)
    · refine ⟨(by show 2 ≤ sizeLine; decide), fun p np => ?_⟩
      rw [if_pos c] at q2
      exact q2 1 1 rfl _ p (same_upd np) upd_same
    · rw [if_neg c] at q1 q2
      refine ⟨_, rfl, v, d, rfl, hd, hg, _, rfl, ?_⟩
      cases hc : isCd d with
      | false =>
        rw [if_neg (by rw [hc]; decide)] at q1
        exact iteT (q1 rfl H (Same.refl H))
      | true =>
        rw [if_pos hc] at q1 q2
        refine iteF ?_
        cases d with
        | tuple ds =>
          cases ds with
          | nil => cases hc
          | cons o ds =>
            cases hd with
            | @tup a xs _ hs ha =>
              cases ha with
              | @cons x0 xr _ _ h1 h2 =>
                have hl := dpAll_len h2
                have h2l : 2 ≤ ds.length := by
                  have e : isCd (.tuple (o :: ds)) = (decide (2 ≤ ds.length) && isOp o) := rfl
                  rw [e, Bool.and_eq_true] at hc
                  exact of_decide_eq_true hc.1
                have ep : parts (.tuple (o :: ds)) = ds := rfl
                rw [ep] at q1 q2
                have gp := (gd_parts hg).2
                refine ⟨_, rfl, 1, rfl, a, x0 :: xr, rfl, hs, ?_, fun p np => ?_⟩
                · rw [show HT.sIx (x0 :: xr).length 0 (some 1) = min 1 (x0 :: xr).length from HT.sIx_nat _ 0 1, List.length_cons]
                  omega
                have ec : cutV (x0 :: xr) (some 1) none = xr := by rw [cut_drop1]; rfl
                rw [ec]
                have s0 : Same H (upd H p (.tup xr)) := same_upd np
                refine ⟨p, rfl, ⟨_, SqT.of upd_same⟩, for_tup (xs := xr) (fun i σ H1 => ∃ (dp tot : Int) (y5 y6 : Option V), σ = [some (.ref a), some (.int md), some (.int ms), some (.int dp), some (.int tot), y5, y6] ∧
                  Same (upd H p (.tup xr)) H1 ∧ measL (meas m) (ds.drop i) ms dp tot = measL (meas m) ds ms 0 0) ?_ ?_ ?_ ?_⟩
                · exact ⟨0, 0, none, none, rfl, Same.refl _, rfl⟩
                · rintro i σ H1 hi ⟨dp, tot, y5, y6, rfl, sm, e⟩
                  exact SqT.of (sm _ _ upd_same)
                · rintro i x σ H1 hx ⟨dp, tot, y5, y6, rfl, sm, e⟩
                  obtain ⟨d', hd', hD'⟩ := dpAll_get h2 hx
                  have hDs : Dp K H1 x d' := dp_same (s0.trans sm) d' x hD'
                  rw [drop_cons_get hd'] at e
                  refine ⟨_, rfl, _, rfl, _, _, rfl, rfl, _, rfl, _, rfl, _, _, rfl, rfl, x, d', md - 1, ms - tot, rfl, hDs, gd_le (gp d' (List.mem_of_getElem? hd')) (by decide), by omega, by omega, fun en H2 s2 => ?_, fun dp' sz es H2 p2 s2 hp2 => ?_⟩
                  · refine ⟨_, rfl, rfl, _, rfl, iteT ?_⟩
                    refine q1 ?_ H2 (s0.trans (sm.trans s2))
                    rw [em'] at en
                    rw [← e]
                    simp only [measL, en]
                  · refine ⟨_, rfl, rfl, _, rfl, iteF ?_⟩
                    refine ⟨_, rfl, _, rfl, p2, _, _, _, rfl, rfl, SqT.of hp2, rfl, _, _, rfl, ?_⟩
                    refine ⟨_, rfl, _, rfl, p2, _, _, _, rfl, rfl, SqT.of hp2, rfl, _, _, rfl, rfl, ?_⟩
                    refine ⟨_, _, _, _, rfl, sm.trans s2, ?_⟩
                    rw [← e, em'] at *
                    simp only [measL, es]
                · rintro σ H1 ⟨dp, tot, y5, y6, rfl, sm, e⟩
                  refine ⟨_, rfl, _, _, rfl, rfl, _, rfl, (by show 2 ≤ sizeLine; decide), fun p3 np3 => ?_⟩
                  refine q2 (dp + 1) tot ?_ _ p3 (s0.trans (sm.trans (same_upd np3))) upd_same
                  rw [← e, List.drop_eq_nil_of_le (by omega)]
                  rfl
        | _ => cases hc
theorem meas_zero {f : Addr} {fd : FuncData} {k : Nat} : FnOk P w K mg base CX0 k f fd ["value", "max_depth", "max_size"] (spMeas K 0) := by
  have no : ∀ vs H Q E, ¬ spMeas K 0 vs H Q E := fun vs H Q E h => by
    obtain ⟨v, d, md, ms, _, _, _, m0, m1, _⟩ := h
    omega
  exact ⟨fun vs H Q E h => absurd h (no vs H Q E), fun A outer s H args us vs Q E _ _ _ _ h => absurd h (no vs H Q E)⟩
end
end Fv


namespace Fv
open PySem PySem.Spec PyProof.Rows L2
end Fv


namespace Fv
open PySem PySem.Spec PyProof.Rows L2
-- top 22  slots: 0:_law_found 1:_law_due 2:_law_key 3:_law_one 4:_law_other
abbrev s_law_same : Stmt := topS 22
abbrev N_law_same : List Str := ["_law_found", "_law_due", "_law_key", "_law_one", "_law_other"]
theorem sc_law_same : FnScope N_law_same ["_law_found", "_law_due"] (defScope s_law_same) := ⟨rfl, rfl, rfl, by decide +kernel, rfl, by decide +kernel, by decide +kernel⟩



theorem walk_zipT {K : PySem.W.Frag} {a b : Addr} {xs ys : List V} {n : Nat} (hn : n = min xs.length ys.length) : Walk (RZ.ItzT K a b) n (fun H => SqT K H a xs ∧ SqT K H b ys) (YPair (fun i => xs[i]?) (fun i => ys[i]?)) := by
  subst hn
  refine ⟨fun i _ hi q => ?_, fun _ q => ⟨xs, ys, q.1, q.2, by omega⟩, fun i H v H' _ q y => ?_⟩
  · have h1 : i < xs.length := by omega
    have h2 : i < ys.length := by omega
    exact ⟨xs, ys, xs[i], ys[i], q.1, q.2, by simp [h1], by simp [h2]⟩
  · obtain ⟨T, x, z, h1, h2, h3, h4, h5⟩ := y
    exact ⟨T, x, z, h1, h2, h3, h4 xs q.1, h5 ys q.2⟩
def spSame (K : PySem.W.Frag) (n : Nat) : Sp := fun vs H Q _ => ∃ (v v' : V) (d : PyData) (m : Nat), vs = [v, v'] ∧ Dp K H v d ∧ Dp K H v' d ∧ m < n ∧ gd m d = true ∧ ∀ H', Same H H' → Q (.bl true) H'
theorem in_ints (ns : List Int) : inV (.int 0) (ns.map V.int) = decide ((0 : Int) ∈ ns) := by
  unfold inV
  induction ns with
  | nil => rfl
  | cons n ns ih =>
    rw [List.map_cons, List.any_cons, ih]
    show ((n == 0) || decide ((0 : Int) ∈ ns)) = decide ((0 : Int) ∈ n :: ns)
    by_cases e : n = 0
    · subst e; simp
    · have e1 : (n == 0) = false := beq_eq_false_iff_ne.mpr e
      rw [e1, Bool.false_or]
      simp [List.mem_cons, show ¬ (0 : Int) = n from fun z => e z.symm]
theorem flat_ints (ns : List Int) : (ns.map V.int).all flatV = true := by
  rw [List.all_map]
  exact List.all_eq_true.mpr fun _ _ => rfl
section
variable {P : Program} {w : World} {K : PySem.W.Frag} {mg : Str → Option Value} {base : Heap}
end
end Fv


namespace Fv
open PySem PySem.Spec PyProof.Rows L2
section
variable {P : Program} {w : World} {K : PySem.W.Frag} {mg : Str → Option Value} {base : Heap}
theorem measure_zero {f : Addr} {fd : FuncData} {k : Nat} : FnOk P w K mg base CX0 k f fd ["_law_word", "_law_deep"] (spMeasure K 0) := by
  have no : ∀ vs H Q E, ¬ spMeasure K 0 vs H Q E := fun vs H Q E h => by
    obtain ⟨v, d, md, _, _, _, m0, m1, _⟩ := h
    omega
  exact ⟨fun vs H Q E h => absurd h (no vs H Q E), fun A outer s H args us vs Q E _ _ _ _ h => absurd h (no vs H Q E)⟩
theorem same_zero {f : Addr} {fd : FuncData} {k : Nat} : FnOk P w K mg base CX0 k f fd ["_law_found", "_law_due"] (spSame K 0) := by
  have no : ∀ vs H Q E, ¬ spSame K 0 vs H Q E := fun vs H Q E h => by
    obtain ⟨v, v', d, m, _, _, _, m1, _⟩ := h
    omega
  exact ⟨fun vs H Q E h => absurd h (no vs H Q E), fun A outer s H args us vs Q E _ _ _ _ h => absurd h (no vs H Q E)⟩
theorem ok_same {f : Addr} {fd : FuncData} {k n : Nat} (F : Fun K "_law_same" "_law_same" s_law_same f fd) (m_isinstance : mg "isinstance" = none) (m_bool : mg "bool" = none) (m_int : mg "int" = none) (m_str : mg "str" = none) (m_dict : mg "dict" = none)
    (m_list : mg "list" = none) (m_tuple : mg "tuple" = none) (m_len : mg "len" = none) (m_all : mg "all" = none) (m_zip : mg "zip" = none)
    (C_law_same : Own P w K mg base k "_law_same" ["_law_found", "_law_due"] (spSame K n)) :
    FnOk P w K mg base CX0 (k + 1) f fd ["_law_found", "_law_due"] (spSame K (n + 1)) := by
  refine F.ok sc_law_same (fun vs H Q E h => ?_) (fun cdv A outer s H vs Q E hr h => ?_)
  · obtain ⟨v, v', d, m, rfl, _⟩ := h
    rfl
  · obtain ⟨v, v', d, m, rfl, hd, hd', hm, hg, q⟩ := h
    refine ⟨_, (pss_cons (ps_if (PW.pt (pw_or (pt_cmpR op_isN (pv 1) pe_non (nomark _)) (pw_or1 (pt_cmpR op_isN (pv 0) pe_non (nomark _)))))
        (pss_one (ps_ret (pe_and (pe_cmpR op_isN (pv 1) pe_non (nomark _)) (pe_one (pe_cmpR op_isN (pv 0) pe_non (nomark _))))))
        pss_nil)
      (pss_cons (ps_if (PW.pt (pw_or (pt_val (pe_isD (T := "bool") (by rfl) m_isinstance (by rfl) m_bool (pv 1))) (pw_or1 (pt_val (pe_isD (T := "bool") (by rfl) m_isinstance (by rfl) m_bool (pv 0))))))
        (pss_one (ps_ret (pe_and (pe_isD (T := "bool") (by rfl) m_isinstance (by rfl) m_bool (pv 1)) (pe_and (pe_isD (T := "bool") (by rfl) m_isinstance (by rfl) m_bool (pv 0)) (pe_one (pe_cmpR op_eq (pv 0) (pv 1) (nomark _)))))))
        pss_nil)
      (pss_cons (ps_if (PW.pt (pw_or (pt_val (pe_isD (T := "int") (by rfl) m_isinstance (by rfl) m_int (pv 1))) (pw_or1 (pt_val (pe_isD (T := "str") (by rfl) m_isinstance (by rfl) m_str (pv 1))))))
        (pss_one (ps_ret (pe_and (pe_cmpR op_eq (pe_isD (T := "int") (by rfl) m_isinstance (by rfl) m_int (pv 0)) (pe_isD (T := "int") (by rfl) m_isinstance (by rfl) m_int (pv 1)) (nomark _)) (pe_one (pe_cmpR op_eq (pv 0) (pv 1) (nomark _))))))
        pss_nil)
      (pss_cons (ps_if (pt_val (pe_isD (T := "dict") (by rfl) m_isinstance (by rfl) m_dict (pv 1)))
        pss_never
        pss_nil)
      (pss_cons (ps_if (PW.pt (pw_or (pt_cmpR op_ne (pe_isD (T := "list") (by rfl) m_isinstance (by rfl) m_list (pv 0)) (pe_isD (T := "list") (by rfl) m_isinstance (by rfl) m_list (pv 1)) (nomark _)) (pw_or1 (pt_cmpR op_ne (pe_isD (T := "tuple") (by rfl) m_isinstance (by rfl) m_tuple (pv 0)) (pe_isD (T := "tuple") (by rfl) m_isinstance (by rfl) m_tuple (pv 1)) (nomark _)))))
        (pss_one (ps_ret pe_bl))
        pss_nil)
      (pss_one (ps_ret (pe_and (pe_cmpR op_eq (pe_callB call_len_seq (by rfl) m_len (by decide +kernel) (pa_cons (pv 0) pa_nil)) (pe_callB call_len_seq (by rfl) m_len (by decide +kernel) (pa_cons (pv 1) pa_nil)) (nomark _)) (pe_one (pe_callB (cr_all rfl) (by rfl) m_all (by decide +kernel) (pa_cons (pe_lc (own := [("_law_one", 3), ("_law_other", 4)]) (g := gTup K 2 (gCons (gName 3) (gCons (gName 4) gNil))) (by rfl) sc_law_same.nd (RZ.pi_zipA (by rfl) m_zip (pa_cons (pv 0) (pa_cons (pv 1) pa_nil))) (blkOk_by (own := [("_law_one", 3), ("_law_other", 4)]) (N := N_law_same) (sc := defScope s_law_same) (by decide +kernel)) (fun _ _ _ _ _ => (pg_tup rfl (pgs_cons (pg_name (i := 3) sc_law_same.nd rfl (Or.inl rfl) (hf := Or.inr rfl)) (pgs_cons (pg_name (i := 4) sc_law_same.nd rfl (Or.inl rfl) (hf := Or.inr rfl)) pgs_nil)))) (fun _ _ _ _ _ => pts_nil) (fun _ _ _ _ _ => (pe_own C_law_same (hr.mono (by omega)) (by rfl) (pa_cons (pv 3) (pa_cons (pv 4) pa_nil))))) pa_nil))))))))))), ?_⟩
    have q0 := q H (Same.refl H)
    cases d with
    | none =>
      cases hd
      cases hd'
      exact ⟨_, rfl, rfl, _, rfl, iteT (iteT ⟨_, rfl, rfl, _, rfl, iteT ⟨_, rfl, rfl, q0⟩⟩)⟩
    | bool b =>
      refine ⟨_, rfl, rfl, _, rfl, ?_⟩
      cases hd
      cases hd'
      refine iteF ⟨_, rfl, rfl, _, rfl, iteF ?_⟩
      refine ⟨_, rfl, _, _, _, rfl, by decide, .bl b, _, rfl, iteT (iteT ⟨_, rfl, _, _, _, rfl, by decide, .bl b, _, rfl, iteT ⟨_, rfl, _, _, _, rfl, by decide, .bl b, _, rfl, iteT ⟨_, rfl, _, rfl, rfl, ?_⟩⟩⟩)⟩
      rw [decide_eq_true rfl]
      exact q0
    | int i =>
      refine ⟨_, rfl, rfl, _, rfl, ?_⟩
      cases hd
      cases hd'
      refine iteF ⟨_, rfl, rfl, _, rfl, iteF ?_⟩
      refine ⟨_, rfl, _, _, _, rfl, by decide, .int i, _, rfl, iteF ⟨_, rfl, _, _, _, rfl, by decide, .int i, _, rfl, iteF ?_⟩⟩
      refine ⟨_, rfl, _, _, _, rfl, by decide, .int i, _, rfl, iteT (iteT ⟨_, rfl, _, _, _, rfl, by decide, .int i, _, rfl, _, _, _, rfl, by decide, .int i, rfl, _, rfl, iteT ⟨_, rfl, _, rfl, rfl, ?_⟩⟩)⟩
      rw [decide_eq_true rfl]
      exact q0
    | str x =>
      refine ⟨_, rfl, rfl, _, rfl, ?_⟩
      cases hd
      cases hd'
      refine iteF ⟨_, rfl, rfl, _, rfl, iteF ?_⟩
      refine ⟨_, rfl, _, _, _, rfl, by decide, .str x, _, rfl, iteF ⟨_, rfl, _, _, _, rfl, by decide, .str x, _, rfl, iteF ?_⟩⟩
      refine ⟨_, rfl, _, _, _, rfl, by decide, .str x, _, rfl, iteF ⟨_, rfl, _, _, _, rfl, by decide, .str x, _, rfl, iteT ⟨_, rfl, _, _, _, rfl, by decide, .str x, _, rfl, _, _, _, rfl, by decide, .str x, rfl, _, rfl, iteT ⟨_, rfl, _, rfl, rfl, ?_⟩⟩⟩⟩
      rw [decide_eq_true rfl]
      exact q0
    | dict kvs => cases hd
    | list ds =>
      obtain ⟨a, xs, hs, ha, rfl⟩ : ∃ a xs, SqL K H a xs ∧ DpAll K H xs ds ∧ v = .ref a := by
        cases hd with | lst hs ha => exact ⟨_, _, hs, ha, rfl⟩
      obtain ⟨b, ys, hs', ha', rfl⟩ : ∃ b ys, SqL K H b ys ∧ DpAll K H ys ds ∧ v' = .ref b := by
        cases hd' with | lst hs ha => exact ⟨_, _, hs, ha, rfl⟩
      have D1 : Dp K H (.ref a) (.list ds) := .lst hs ha
      have D2 : Dp K H (.ref b) (.list ds) := .lst hs' ha'
      cases m with
      | zero => cases hg
      | succ m =>
      obtain ⟨lds, gds⟩ := gd_list hg
      have lx := dpAll_len ha
      have ly := dpAll_len ha'
      refine ⟨_, rfl, rfl, _, rfl, iteF ⟨_, rfl, rfl, _, rfl, iteF ?_⟩⟩
      refine ⟨_, rfl, _, _, _, rfl, by decide, D2, _, rfl, iteF ⟨_, rfl, _, _, _, rfl, by decide, D1, _, rfl, iteF ?_⟩⟩
      refine ⟨_, rfl, _, _, _, rfl, by decide, D2, _, rfl, iteF ⟨_, rfl, _, _, _, rfl, by decide, D2, _, rfl, iteF ?_⟩⟩
      refine ⟨_, rfl, _, _, _, rfl, by decide, D2, _, rfl, iteF ?_⟩
      refine ⟨_, rfl, _, _, _, rfl, by decide, D1, _, rfl, _, _, _, rfl, by decide, D2, rfl, _, rfl, iteF ⟨_, rfl, _, _, _, rfl, by decide, D1, _, rfl, _, _, _, rfl, by decide, D2, rfl, _, rfl, iteF ?_⟩⟩
      refine ⟨_, rfl, a, xs, rfl, .inl hs, _, rfl, b, ys, rfl, .inl hs', rfl, _, rfl, ?_⟩
      rw [lx, ly, decide_eq_true rfl]
      refine iteT ⟨_, rfl, _, rfl, a, b, xs, ys, rfl, .inl ⟨hs, hs', fun D nD => ?_⟩⟩
      refine lc_it (walk_zip (xs := xs) (ys := ys) (n := ds.length) (by omega)) (fun i H1 => Same H H1 ∧ H1 D = some (.lst ((List.replicate i true).map V.bl))) ⟨same_upd nD, upd_same⟩ (fun i H1 _ p => ⟨p.1.seq hs, p.1.seq hs'⟩) ?_ ?_
      · rintro i x H1 H2 hi ⟨sm, e⟩ ⟨T, x1, y1, rfl, nT, rfl, e1, e2⟩
        have sT : Same H1 (upd H1 T (.tup [x1, y1])) := same_upd nT
        obtain ⟨d1, g1, h1⟩ := dpAll_get ha e1
        obtain ⟨d2, g2, h2⟩ := dpAll_get ha' e2
        have ed : d2 = d1 := Option.some.inj (g2.symm.trans g1)
        subst ed
        refine ⟨T, [x1, y1], rfl, .inl (.inl upd_same), rfl, x1, [y1], rfl, y1, [], rfl, rfl, rfl, ?_⟩
        dsimp only [tYes]
        rw [if_pos rfl]
        refine ⟨_, rfl, _, rfl, x1, y1, d2, m, rfl, dp_same (sm.trans sT) _ _ h1, dp_same (sm.trans sT) _ _ h2, by omega, gds _ (List.mem_of_getElem? g1), fun H3 s3 => ?_⟩
        have e3 : H3 D = some (.lst ((List.replicate i true).map V.bl)) := s3 _ _ (sT _ _ e)
        refine ⟨_, e3, ?_, fun b' o' eb => ?_, ?_⟩
        · rw [List.length_map, List.length_replicate]
          exact small1000 (by omega)
        · rw [upd_ne (ne_of_none eb nD)]
          exact s3 _ _ (sT _ _ (sm _ _ eb))
        · rw [upd_same, List.replicate_succ']
          simp
      · rintro H1 ⟨sm, e⟩
        refine ⟨D, _, rfl, SqL.of e, ?_⟩
        rw [show (List.replicate ds.length true).all id = true by simp]
        exact q H1 sm
    | tuple ds =>
      obtain ⟨a, xs, hs, ha, rfl⟩ : ∃ a xs, SqT K H a xs ∧ DpAll K H xs ds ∧ v = .ref a := by
        cases hd with | tup hs ha => exact ⟨_, _, hs, ha, rfl⟩
      obtain ⟨b, ys, hs', ha', rfl⟩ : ∃ b ys, SqT K H b ys ∧ DpAll K H ys ds ∧ v' = .ref b := by
        cases hd' with | tup hs ha => exact ⟨_, _, hs, ha, rfl⟩
      have D1 : Dp K H (.ref a) (.tuple ds) := .tup hs ha
      have D2 : Dp K H (.ref b) (.tuple ds) := .tup hs' ha'
      cases m with
      | zero => cases hg
      | succ m =>
      obtain ⟨lds, gds⟩ := gd_tuple hg
      have lx := dpAll_len ha
      have ly := dpAll_len ha'
      refine ⟨_, rfl, rfl, _, rfl, iteF ⟨_, rfl, rfl, _, rfl, iteF ?_⟩⟩
      refine ⟨_, rfl, _, _, _, rfl, by decide, D2, _, rfl, iteF ⟨_, rfl, _, _, _, rfl, by decide, D1, _, rfl, iteF ?_⟩⟩
      refine ⟨_, rfl, _, _, _, rfl, by decide, D2, _, rfl, iteF ⟨_, rfl, _, _, _, rfl, by decide, D2, _, rfl, iteF ?_⟩⟩
      refine ⟨_, rfl, _, _, _, rfl, by decide, D2, _, rfl, iteF ?_⟩
      refine ⟨_, rfl, _, _, _, rfl, by decide, D1, _, rfl, _, _, _, rfl, by decide, D2, rfl, _, rfl, iteF ⟨_, rfl, _, _, _, rfl, by decide, D1, _, rfl, _, _, _, rfl, by decide, D2, rfl, _, rfl, iteF ?_⟩⟩
      refine ⟨_, rfl, a, xs, rfl, .inr hs, _, rfl, b, ys, rfl, .inr hs', rfl, _, rfl, ?_⟩
      rw [lx, ly, decide_eq_true rfl]
      refine iteT ⟨_, rfl, _, rfl, a, b, xs, ys, rfl, .inr ⟨hs, hs', fun D nD => ?_⟩⟩
      refine lc_it (walk_zipT (xs := xs) (ys := ys) (n := ds.length) (by omega)) (fun i H1 => Same H H1 ∧ H1 D = some (.lst ((List.replicate i true).map V.bl))) ⟨same_upd nD, upd_same⟩ (fun i H1 _ p => ⟨same_seqT p.1 hs, same_seqT p.1 hs'⟩) ?_ ?_
      · rintro i x H1 H2 hi ⟨sm, e⟩ ⟨T, x1, y1, rfl, nT, rfl, e1, e2⟩
        have sT : Same H1 (upd H1 T (.tup [x1, y1])) := same_upd nT
        obtain ⟨d1, g1, h1⟩ := dpAll_get ha e1
        obtain ⟨d2, g2, h2⟩ := dpAll_get ha' e2
        have ed : d2 = d1 := Option.some.inj (g2.symm.trans g1)
        subst ed
        refine ⟨T, [x1, y1], rfl, .inl (.inl upd_same), rfl, x1, [y1], rfl, y1, [], rfl, rfl, rfl, ?_⟩
        dsimp only [tYes]
        rw [if_pos rfl]
        refine ⟨_, rfl, _, rfl, x1, y1, d2, m, rfl, dp_same (sm.trans sT) _ _ h1, dp_same (sm.trans sT) _ _ h2, by omega, gds _ (List.mem_of_getElem? g1), fun H3 s3 => ?_⟩
        have e3 : H3 D = some (.lst ((List.replicate i true).map V.bl)) := s3 _ _ (sT _ _ e)
        refine ⟨_, e3, ?_, fun b' o' eb => ?_, ?_⟩
        · rw [List.length_map, List.length_replicate]
          exact small1000 (by omega)
        · rw [upd_ne (ne_of_none eb nD)]
          exact s3 _ _ (sT _ _ (sm _ _ eb))
        · rw [upd_same, List.replicate_succ']
          simp
      · rintro H1 ⟨sm, e⟩
        refine ⟨D, _, rfl, SqL.of e, ?_⟩
        rw [show (List.replicate ds.length true).all id = true by simp]
        exact q H1 sm
end
end Fv


namespace Fv
open PySem PySem.Spec PyProof.Rows L2
-- top 24  slots: 0:_law_source_here 1:_law_signs_here 2:_law_deep 3:_law_room 4:_law_many 5:_law_operator 6:_law_k
abbrev s_law_term : Stmt := topS 24
abbrev N_law_term : List Str := ["_law_source_here", "_law_signs_here", "_law_deep", "_law_room", "_law_many", "_law_operator", "_law_k"]
theorem sc_law_term : FnScope N_law_term ["_law_source_here", "_law_signs_here", "_law_deep", "_law_room"] (defScope s_law_term) := ⟨rfl, rfl, rfl, by decide +kernel, rfl, by decide +kernel, by decide +kernel⟩

-- top 25  slots: 0:_law_source_here 1:_law_signs_here
abbrev s_law_any_term : Stmt := topS 25
abbrev N_law_any_term : List Str := ["_law_source_here", "_law_signs_here"]
theorem sc_law_any_term : FnScope N_law_any_term ["_law_source_here"] (defScope s_law_any_term) := ⟨rfl, rfl, rfl, by decide +kernel, rfl, by decide +kernel, by decide +kernel⟩

section
variable {P : Program} {w : World} {K : PySem.W.Frag} {mg : Str → Option Value} {base : Heap}
theorem term_zero {f : Addr} {fd : FuncData} {k : Nat} : FnOk P w K mg base CX0 k f fd ["_law_source_here", "_law_signs_here", "_law_deep", "_law_room"] (spTerm K 0) := by
  have no : ∀ vs H Q E, ¬ spTerm K 0 vs H Q E := fun vs H Q E h => by
    obtain ⟨a, L, sg, r, ns, deep, m, ys, M, _, _, _, _, _, _, _, _, _, _, _, _, _, d1, d2, _⟩ := h
    omega
  exact ⟨fun vs H Q E h => absurd h (no vs H Q E), fun A outer s H args us vs Q E _ _ _ _ h => absurd h (no vs H Q E)⟩
theorem ok_term {f : Addr} {fd : FuncData} {k n : Nat} (F : Fun K "_law_term" "_law_term" s_law_term f fd) (m_tuple : mg "tuple" = none) (m_range : mg "range" = none) (hk : 2 ≤ k)
    (C_law_take : Own P w K mg base 1 "_law_take" ["_law_source_here", "_law_many"] spTake)
    (C_law_pick : Own P w K mg base 2 "_law_pick" ["_law_source_here", "_law_row"] spPick)
    (C_law_term : Own P w K mg base k "_law_term" ["_law_source_here", "_law_signs_here", "_law_deep", "_law_room"] (spTerm K n)) :
    FnOk P w K mg base CX0 (k + 1) f fd ["_law_source_here", "_law_signs_here", "_law_deep", "_law_room"] (spTerm K (n + 1)) := by
  refine F.ok sc_law_term (fun vs H Q E h => ?_) (fun cdv A outer s H vs Q E hr h => ?_)
  · obtain ⟨a, L, sg, r, ns, deep, m, ys, M, rfl, _⟩ := h
    rfl
  · obtain ⟨a, L, sg, r, ns, deep, m, ys, M, rfl, hs, hsg, y0, y8, hy, hR, sga, sgr, ra, rL, m0, m1, d1, d2, aM, rM, tM, q⟩ := h
    refine ⟨_, (pss_cons (ps_set (i := 4) sc_law_term.nd rfl (by first | exact .inl rfl | exact .inr rfl) (pe_op op_add pe_int (pe_op op_fdiv (pe_own C_law_take (hr.mono (by omega)) (by rfl) (pa_cons (pv 0) (pa_cons pe_int pa_nil))) pe_int)))
      (pss_cons (ps_if (PW.pt (pw_or (pt_cmpR op_lt (pv 2) pe_int (nomark _)) (pw_or (pt_cmpR op_lt (pe_ix ix_list (pv 3) pe_int (fun _ _ => rfl)) (pe_op op_sub (pv 4) pe_int) (nomark _)) (pw_or1 (pt_cmpR op_eq (pe_own C_law_take (hr.mono (by omega)) (by rfl) (pa_cons (pv 0) (pa_cons pe_int pa_nil))) pe_int (nomark _))))))
        (pss_one (ps_ret (pe_own C_law_pick (hr.mono (by omega)) (by rfl) (pa_cons (pv 0) (pa_cons (pv 1) pa_nil)))))
        pss_nil)
      (pss_cons (ps_asg (pe_op op_add (pe_op op_sub (pe_ix ix_list (pv 3) pe_int (fun _ _ => rfl)) (pv 4)) pe_int) (pg_sub (pv 3) pe_int set_list))
      (pss_cons (ps_set (i := 5) sc_law_term.nd rfl (by first | exact .inl rfl | exact .inr rfl) (pe_own C_law_pick (hr.mono (by omega)) (by rfl) (pa_cons (pv 0) (pa_cons (pe_lst (pa_cons pe_str (pa_cons pe_str pa_nil))) pa_nil))))
      (pss_one (ps_ret (pe_callTy call_tuple_of (by rfl) m_tuple (by decide +kernel) (pa_cons (pe_op op_cat (pe_lst (pa_cons (pv 5) pa_nil)) (pe_lc (own := [("_law_k", 6)]) (g := gName 6) (by rfl) sc_law_term.nd (pi_range1 (by rfl) m_range (pa_cons (pv 4) pa_nil)) (blkOk_by (own := [("_law_k", 6)]) (N := N_law_term) (sc := defScope s_law_term) (by decide +kernel)) (fun _ _ _ _ _ => pg_name (i := 6) sc_law_term.nd rfl (Or.inl rfl)) (fun _ _ _ _ _ => pts_nil) (fun _ _ _ _ _ => (pe_own C_law_term (hr.mono (by omega)) (by rfl) (pa_cons (pv 0) (pa_cons (pv 1) (pa_cons (pe_op op_sub (pv 2) pe_int) (pa_cons (pv 3) pa_nil)))))))) pa_nil)))))))), ?_⟩
    have fin : ∀ Hx, Src Hx a L ns → (∀ b, b ≠ a → Hx b = H b) → spPick [.ref a, .ref sg] Hx Q E0 := fun Hx hsx offx => by
      refine ⟨a, L, sg, ns, ys, rfl, hsx, sga, (offx sg sga).trans hsg, y0, by omega, fun H' v mv hs' off' => ?_⟩
      obtain ⟨x, rfl, hx⟩ := lett_data (hy v mv)
      obtain ⟨l1, l2⟩ := isL_lett hx
      refine q H' _ (.str x) m (.str x) ?_ m0 (Int.le_refl _) (gd_le l2 (Nat.zero_le _)) hs' (((off' r ra).trans (offx r ra)).trans hR) fun b o hb e => ?_
      · obtain ⟨j, ej⟩ : ∃ j, deep.toNat = j + 1 := ⟨deep.toNat - 1, by omega⟩
        rw [ej]
        show (if isL x = true then (1 : Int) else _) = _
        rw [if_pos l1]
        omega
      · have ba : b ≠ a := fun z => hb (by rw [z]; exact List.mem_cons_self ..)
        rw [off' b ba, offx b ba]
        exact e
    refine ⟨_, rfl, a, L, ns, 5, rfl, hs, by decide, by decide, fun H1 t t0 t1 hs1 off1 => ⟨_, _, rfl, rfl, ⟨by decide, by decide⟩, _, _, rfl, rfl, ?_⟩⟩
    have hR1 : H1 r = some (.lst [.int m]) := (off1 r ra).trans hR
    refine ⟨_, rfl, _, _, rfl, rfl, _, rfl, ?_⟩
    refine ite2 (fun c => iteT ⟨_, rfl, _, rfl, fin H1 hs1 off1⟩) (fun c => ?_)
    have cd : ¬ deep < 2 := of_decide_eq_false (Bool.eq_false_iff.mpr c)
    refine ⟨_, rfl, r, _, _, _, rfl, rfl, SqL.of hR1, rfl, _, rfl, _, _, rfl, rfl, _, _, rfl, rfl, _, rfl, ?_⟩
    refine ite2 (fun c => iteT ⟨_, rfl, _, rfl, fin H1 hs1 off1⟩) (fun c => ?_)
    have cm : ¬ m < 2 + t / 2 - 1 := of_decide_eq_false (Bool.eq_false_iff.mpr c)
    refine ⟨_, rfl, a, L, ns, 4, rfl, hs1, by decide, by decide, fun H2 t2 _ _ hs2 off2 => ⟨rfl, _, rfl, ?_⟩⟩
    have off12 : ∀ b, b ≠ a → H2 b = H b := fun b hb => (off2 b hb).trans (off1 b hb)
    refine ite2 (fun c => ⟨_, rfl, _, rfl, fin H2 hs2 off12⟩) (fun _ => ?_)
    have hR2 : H2 r = some (.lst [.int m]) := (off12 r ra).trans hR
    -- room[0] = room[0] - many + 1
    refine ⟨_, rfl, r, _, _, _, rfl, rfl, SqL.of hR2, rfl, _, rfl, _, _, rfl, rfl, _, _, rfl, rfl, _, rfl, r, _, _, _, rfl, rfl, hR2, rfl, ?_⟩
    have hs3 : Src (upd H2 r (.lst [.int (m - (2 + t / 2) + 1)])) a L ns := hs2.put ra rL
    have tM2 : Trk M (upd H2 r (.lst [.int (m - (2 + t / 2) + 1)])) := fun b hb => by
      by_cases br : b = r
      · rw [br]; exact ⟨_, upd_same⟩
      · rw [upd_ne br]
        by_cases ba : b = a
        · rw [ba]
          obtain ⟨_, _, _, _, e, _⟩ := hs2
          exact ⟨_, e⟩
        · rw [off12 b ba]; exact tM b hb
    -- operator
    refine ⟨_, rfl, (by show 2 ≤ sizeLine; decide), fun l nl => ?_⟩
    have sl := same_upd (o := .lst [.str "&", .str "|"]) nl
    have la : l ≠ a := (hs3.ne nl).symm
    refine ⟨a, L, l, ns, _, rfl, hs3.same sl, la, upd_same, by decide, by decide, fun H4 op mop hs4 off4 => ?_⟩
    obtain ⟨os, rfl, ho, go⟩ : ∃ os : Str, op = .str os ∧ isOp (.str os) = true ∧ gd 0 (.str os) = true := by
      rcases List.mem_cons.mp mop with e | e
      · exact ⟨_, e, isOp_str.1, by decide +kernel⟩
      · exact ⟨_, List.mem_singleton.mp e, isOp_str.2, by decide +kernel⟩
    -- what stands at H4
    have rl : r ≠ l := ne_of_none (H := upd H2 r (.lst [.int (m - (2 + t / 2) + 1)])) upd_same nl
    have hR4 : H4 r = some (.lst [.int (m - (2 + t / 2) + 1)]) := (off4 r ra).trans ((upd_ne rl).trans upd_same)
    have sm4 : SmX [a, r] H H4 := fun b o hb e => by
      have ba : b ≠ a := fun z => hb (by rw [z]; exact List.mem_cons_self ..)
      have br : b ≠ r := fun z => hb (by rw [z]; exact List.mem_cons_of_mem _ (List.mem_singleton.mpr rfl))
      rw [off4 b ba]
      exact sl b o ((upd_ne br).trans ((off12 b ba).trans e))
    have tM4 : Trk M H4 := fun b hb => by
      by_cases ba : b = a
      · rw [ba]
        obtain ⟨_, _, _, _, e, _⟩ := hs4
        exact ⟨_, e⟩
      · rw [off4 b ba]; exact (tM2.same sl) b hb
    have hsg4 : H4 sg = some (.lst ys) := sm4 _ _ (fun z => by
      rcases List.mem_cons.mp z with z | z
      · exact sga z
      · exact sgr (List.mem_singleton.mp z)) hsg
    -- [operator] + [..]
    refine ⟨_, rfl, (by show 1 ≤ sizeLine; decide), fun o1 no1 => ?_⟩
    have so := same_upd (o := .lst [.str os]) no1
    refine ⟨_, rfl, (2 + t / 2), rfl, by omega, by omega, fun D nD => ?_⟩
    have tMo : Trk M (upd H4 o1 (.lst [.str os])) := tM4.same so
    have DM : D ∉ M := tMo.ne nD
    have Da : D ≠ a := fun e => DM (e ▸ aM)
    have Dr : D ≠ r := fun e => DM (e ▸ rM)
    have sD := same_upd (o := .lst []) nD
    refine lc_range (lo := 0) (n := (2 + t / 2).toNat) (fun i Hi => ∃ (mi : Int) (acc : List V) (ds : List PyData), Src Hi a L ns ∧ Hi r = some (.lst [.int mi]) ∧ Hi D = some (.lst acc) ∧ acc.length = i ∧ DpAll K (hide (D :: M) Hi) acc ds ∧
      (∀ d ∈ ds, 1 ≤ lmeas (deep.toNat - 1) d ∧ gd (deep.toNat - 1) d = true) ∧ (ds.map (lmeas (deep.toNat - 1))).sum = (m - (2 + t / 2) + 1) - mi + i ∧ 0 ≤ mi ∧ mi ≤ m - (2 + t / 2) + 1 ∧ SmX [a, r] (upd H4 o1 (.lst [.str os])) Hi) ?_ ?_ ?_
    · refine ⟨_, [], [], (hs4.same so).same sD, sD _ _ (so _ _ hR4), upd_same, rfl, .nil, (fun d h => nomatch h), ?_, by omega, Int.le_refl _, .of_same sD⟩
      simp
    · rintro i Hi hi ⟨mi, acc, ds, hsi, hri, hDi, li, hda, hds, hsum, mi0, mi1, smi⟩
      refine ⟨rfl, ?_⟩
      dsimp only [tYes]
      rw [if_pos rfl]
      have tMi : Trk M Hi := tMo.smx smi fun b hb => by
        rcases List.mem_cons.mp hb with z | z
        · rw [z]
          obtain ⟨_, _, _, _, e, _⟩ := hsi
          exact ⟨_, e⟩
        · rw [List.mem_singleton.mp z]; exact ⟨_, hri⟩
      have hsgi : Hi sg = some (.lst ys) := smi _ _ (fun z => by
        rcases List.mem_cons.mp z with z | z
        · exact sga z
        · exact sgr (List.mem_singleton.mp z)) (so _ _ hsg4)
      refine ⟨_, rfl, _, rfl, _, rfl, _, _, rfl, rfl, _, rfl, a, L, sg, r, ns, deep - 1, mi, ys, D :: M, rfl, hsi, hsgi, y0, y8, hy, hri, sga, sgr, ra, rL, mi0, by omega, by omega, by omega, List.mem_cons_of_mem _ aM, List.mem_cons_of_mem _ rM, fun b hb => ?_, fun H5 v d m5 hd5 hl5 m50 m51 hg5 hs5 hr5 sm5 => ?_⟩
      · rcases List.mem_cons.mp hb with z | z
        · rw [z]; exact ⟨_, hDi⟩
        · exact tMi b z
      · have hD5 : H5 D = some (.lst acc) := sm5 _ _ (fun z => by
          rcases List.mem_cons.mp z with z | z
          · exact Da z
          · exact Dr (List.mem_singleton.mp z)) hDi
        have ed : (deep - 1).toNat = deep.toNat - 1 := by omega
        rw [ed] at hl5 hg5
        have hid : Same (hide (D :: M) Hi) (hide (D :: M) (upd H5 D (.lst (acc ++ [v])))) := (SmX.put (sm5.sub (M' := D :: M) fun b hb => by
          rcases List.mem_cons.mp hb with z | z
          · rw [z]; exact .inl (List.mem_cons_of_mem _ aM)
          · rw [List.mem_singleton.mp z]; exact .inl (List.mem_cons_of_mem _ rM)) (List.mem_cons_self ..)).hid
        have hid5 : Same (hide (D :: M) H5) (hide (D :: M) (upd H5 D (.lst (acc ++ [v])))) := (SmX.put (SmX.refl _ _) (List.mem_cons_self ..)).hid
        have Lr : r ≠ L := rL
        refine ⟨acc, hD5, ?_, m5, acc ++ [v], ds ++ [d], ?_, ?_, upd_same, ?_, ?_, ?_, ?_, m50, by omega, ?_⟩
        · exact small1000 (by omega)
        · refine hs5.put Da fun e => ?_
          obtain ⟨_, _, _, _, _, e2, _⟩ := hs
          have eL : (upd H4 o1 (.lst [.str os])) L = none := e ▸ nD
          obtain ⟨_, _, _, _, _, e3, _⟩ := hs4.same so
          rw [eL] at e3
          cases e3
        · rw [upd_ne Dr.symm]; exact hr5
        · rw [List.length_append, li]; rfl
        · exact dpAll_app (dpAll_same hid _ _ hda) (.cons (dp_same hid5 _ _ hd5) .nil)
        · intro d' hd'
          rcases List.mem_append.mp hd' with z | z
          · exact hds d' z
          · rw [List.mem_singleton.mp z]
            exact ⟨by omega, hg5⟩
        · rw [List.map_append, List.sum_append, hsum]
          simp only [List.map_cons, List.map_nil, List.sum_cons, List.sum_nil]
          omega
        · intro b o hb e
          rw [upd_ne (ne_of_none e nD)]
          exact sm5 b o hb (smi b o hb e)
    · rintro Hi ⟨mi, acc, ds, hsi, hri, hDi, li, hda, hds, hsum, mi0, mi1, smi⟩
      have o1a : o1 ≠ a := fun e => by
        obtain ⟨_, _, _, _, e', _⟩ := hs4
        rw [e, e'] at no1
        cases no1
      have o1r : o1 ≠ r := fun e => by
        rw [e, hR4] at no1
        cases no1
      have ho1 : Hi o1 = some (.lst [.str os]) := smi _ _ (fun z => by
        rcases List.mem_cons.mp z with z | z
        · exact o1a z
        · exact o1r (List.mem_singleton.mp z)) upd_same
      have tMi : Trk M Hi := tMo.smx smi fun b hb => by
        rcases List.mem_cons.mp hb with z | z
        · rw [z]
          obtain ⟨_, _, _, _, e, _⟩ := hsi
          exact ⟨_, e⟩
        · rw [List.mem_singleton.mp z]; exact ⟨_, hri⟩
      refine ⟨o1, D, _, _, rfl, rfl, ho1, hDi, ?_, fun cc ncc => ?_⟩
      · rw [li]
        exact le1000 (by show 1 + _ ≤ 1000; omega)
      have sc := same_upd (o := .lst ([.str os] ++ acc)) ncc
      refine ⟨cc, _, rfl, .inl ⟨SqL.of upd_same, fun p np => ?_⟩⟩
      have sp := same_upd (o := .tup ([.str os] ++ acc)) np
      have tMc : Trk M (upd Hi cc (.lst ([.str os] ++ acc))) := tMi.same sc
      have lds := dpAll_len hda
      obtain ⟨j, ej⟩ : ∃ j, deep.toNat = j + 1 := ⟨deep.toNat - 1, by omega⟩
      have ej1 : deep.toNat - 1 = j := by omega
      rw [ej1] at hds hsum
      have hidA : Same (hide (D :: M) Hi) (hide M (upd (upd Hi cc (.lst ([.str os] ++ acc))) p (.tup ([.str os] ++ acc)))) :=
        (hide_sub fun b hb => List.mem_cons_of_mem _ hb).trans (SmX.of_same (sc.trans sp)).hid
      refine q _ (.ref p) (.tuple (.str os :: ds)) mi (.tup (SqT.of (hid_at tMc np)) (.cons (.str os) (dpAll_same hidA _ _ hda))) ?_ mi0 (by omega) ?_ ((hsi.same sc).same sp) (sp _ _ (sc _ _ hri)) (sm4.trans ((SmX.of_same so).trans (smi.trans (.of_same (sc.trans sp)))))
      · rw [ej]
        refine lmeas_tup ho (by omega) (fun d hd => (hds d hd).1) ?_
        rw [hsum]
        omega
      · rw [ej]
        refine gd_tup (fun d hd => ?_) (by rw [List.length_cons]; omega)
        rcases List.mem_cons.mp hd with z | z
        · rw [z]; exact gd_le go (Nat.zero_le _)
        · exact (hds d z).2
end
end Fv


namespace Fv
open PySem PySem.Spec PyProof.Rows L2
-- top 29  slots: 0:_law_many 1:_law_word 2:_law_k
abbrev s_law_nest : Stmt := topS 29
abbrev N_law_nest : List Str := ["_law_many", "_law_word", "_law_k"]
theorem sc_law_nest : FnScope N_law_nest ["_law_many"] (defScope s_law_nest) := ⟨rfl, rfl, rfl, by decide +kernel, rfl, by decide +kernel, by decide +kernel⟩

-- top 28  slots: 0:_law_source_here 1:_law_word 2:_law_some
abbrev s_law_odd : Stmt := topS 28
abbrev N_law_odd : List Str := ["_law_source_here", "_law_word", "_law_some"]
theorem sc_law_odd : FnScope N_law_odd ["_law_source_here", "_law_word"] (defScope s_law_odd) := ⟨rfl, rfl, rfl, by decide +kernel, rfl, by decide +kernel, by decide +kernel⟩

theorem pos22 : (0 : Int) < 2 := by decide
section
variable {P : Program} {w : World} {K : PySem.W.Frag} {mg : Str → Option Value} {base : Heap}
theorem ok_any_term {f : Addr} {fd : FuncData} {k : Nat} (F : Fun K "_law_any_term" "_law_any_term" s_law_any_term f fd) (hk : 3 ≤ k)
    (C_law_take : Own P w K mg base 1 "_law_take" ["_law_source_here", "_law_many"] spTake)
    (C_law_pick : Own P w K mg base 2 "_law_pick" ["_law_source_here", "_law_row"] spPick)
    (C_law_signs : Own P w K mg base 3 "_law_signs" ["_law_source_here", "_law_most"] spSigns)
    (C_law_term : Own P w K mg base k "_law_term" ["_law_source_here", "_law_signs_here", "_law_deep", "_law_room"] (spTerm K 5)) :
    FnOk P w K mg base CX0 (k + 1) f fd ["_law_source_here"] (spAnyTerm K) := by
  refine F.ok sc_law_any_term (fun vs H Q E h => ?_) (fun cdv A outer s H vs Q E hr h => ?_)
  · obtain ⟨a, L, ns, M, rfl, _⟩ := h
    rfl
  · obtain ⟨a, L, ns, M, rfl, hs, aM, tM, q⟩ := h
    refine ⟨_, (pss_cons (ps_set (i := 1) sc_law_any_term.nd rfl (by first | exact .inl rfl | exact .inr rfl) (pe_own C_law_signs (hr.mono (by omega)) (by rfl) (pa_cons (pv 0) (pa_cons pe_int pa_nil))))
      (pss_one (ps_ret (pe_own C_law_term (hr.mono (by omega)) (by rfl) (pa_cons (pv 0) (pa_cons (pv 1) (pa_cons (pe_op op_add pe_int (pe_own C_law_take (hr.mono (by omega)) (by rfl) (pa_cons (pv 0) (pa_cons pe_int pa_nil)))) (pa_cons (pe_lst (pa_cons (pe_own C_law_pick (hr.mono (by omega)) (by rfl) (pa_cons (pv 0) (pa_cons (pe_lst (pa_cons pe_int (pa_cons pe_int (pa_cons pe_int pa_nil)))) pa_nil))) pa_nil)) pa_nil)))))))), ?_⟩
    refine ⟨_, rfl, a, L, ns, 8, rfl, hs, by decide, by decide, fun H1 sg ys y0 y8 hy _ nsg hsg hs1 sm1 => ?_⟩
    have sga : sg ≠ a := (hs.ne nsg).symm
    refine ⟨_, rfl, _, rfl, _, rfl, a, L, ns, 5, rfl, hs1, by decide, by decide, fun H2 t t0 t1 hs2 off2 => ⟨_, _, rfl, rfl, ?_⟩⟩
    refine ⟨_, rfl, (by show 3 ≤ sizeLine; decide), fun l nl => ?_⟩
    have sl := same_upd (o := .lst [.int 2, .int 7, .int 23]) nl
    refine ⟨a, L, l, ns, _, rfl, hs2.same sl, (hs2.ne nl).symm, upd_same, by decide, by decide, fun H3 v mv hs3 off3 => ?_⟩
    obtain ⟨m, rfl, m0, m23⟩ : ∃ m : Int, v = .int m ∧ 0 ≤ m ∧ m ≤ 23 := by
      simp only [List.mem_cons, List.not_mem_nil, or_false] at mv
      rcases mv with e | e | e
      · exact ⟨2, e, by decide, by decide⟩
      · exact ⟨7, e, by decide, by decide⟩
      · exact ⟨23, e, by decide, by decide⟩
    refine ⟨(by show 1 ≤ sizeLine; decide), fun r nr => ?_⟩
    have sr := same_upd (o := .lst [.int m]) nr
    have smA : SmX [a] H H3 := sm1.trans ((SmX.at off2 (List.mem_singleton.mpr rfl)).trans ((SmX.of_same sl).trans (SmX.at off3 (List.mem_singleton.mpr rfl))))
    have tM3 : Trk M H3 := tM.smx smA hs3.trk
    have hsg3 : H3 sg = some (.lst ys) := (off3 sg sga).trans (sl _ _ ((off2 sg sga).trans hsg))
    have rL : r ≠ L := fun e => by
      obtain ⟨_, _, _, _, _, e2, _⟩ := hs3
      rw [← e, nr] at e2
      cases e2
    have rn : H r = none := by
      by_cases e : r = a
      · exact absurd e (hs3.ne nr).symm
      · cases eh : H r with
        | none => rfl
        | some o =>
          have := smA r o (fun z => e (List.mem_singleton.mp z)) eh
          rw [nr] at this
          cases this
    refine ⟨a, L, sg, r, ns, 1 + t, m, ys, r :: M, rfl, hs3.same sr, sr _ _ hsg3, y0, by omega, hy, upd_same, sga, ne_of_none hsg3 nr, (hs3.ne nr).symm, rL, m0, by omega, by omega, by omega, List.mem_cons_of_mem _ aM, List.mem_cons_self .., fun b hb => ?_, fun H5 v5 d m5 hd hl m50 m51 hg hs5 hr5 sm5 => ?_⟩
    · rcases List.mem_cons.mp hb with z | z
      · rw [z]; exact ⟨_, upd_same⟩
      · exact (tM3.same sr) b z
    · refine q H5 v5 d (1 + t).toNat (dp_same (hide_sub fun b hb => List.mem_cons_of_mem _ hb) d v5 hd) (by omega) (by omega) (by omega) (by omega) hg hs5 ?_
      intro b o hb e
      have br : b ≠ r := ne_of_none e rn
      refine sm5 b o (fun z => ?_) (sr _ _ (smA b o hb e))
      rcases List.mem_cons.mp z with z | z
      · exact hb (by rw [z]; exact List.mem_singleton.mpr rfl)
      · exact br (List.mem_singleton.mp z)
theorem ok_nest {f : Addr} {fd : FuncData} {k : Nat} (F : Fun K "_law_nest" "_law_nest" s_law_nest f fd) (m_range : mg "range" = none) (m_int : mg "int" = none) :
    FnOk P w K mg base CX0 (k + 1) f fd ["_law_many"] (spNest K) := by
  refine F.ok sc_law_nest (fun vs H Q E h => ?_) (fun cdv A outer s H vs Q E hr h => ?_)
  · obtain ⟨n, M, rfl, _⟩ := h
    rfl
  · obtain ⟨n, M, rfl, hn, tM, q⟩ := h
    refine ⟨_, (pss_cons (ps_set (i := 1) sc_law_nest.nd rfl (by first | exact .inl rfl | exact .inr rfl) pe_str)
      (pss_cons (ps_for PassesOwn.never rfl (pi_range1 (by rfl) m_range (pa_cons (pv 0) pa_nil)) (pg_name (i := 2) sc_law_nest.nd rfl (by first | exact .inl rfl | exact .inr rfl))
        (pss_one (ps_set (i := 1) sc_law_nest.nd rfl (by first | exact .inl rfl | exact .inr rfl) (pe_tup (pa_cons (pe_ix ix_list (pe_lst (pa_cons pe_str (pa_cons pe_str pa_nil))) (pe_op op_mod (pe_callTy call_int1 (by rfl) m_int (by decide +kernel) (pa_cons (pv 2) pa_nil)) pe_int) (fun _ _ => rfl)) (pa_cons (pv 1) (pa_cons pe_str pa_nil)))))))
      (pss_one (ps_ret (pv 1))))), ?_⟩
    refine ⟨_, rfl, (n : Int), rfl, by omega, by omega, for_range (lo := 0) (n := (n : Int).toNat) (fun i σ Hi => ∃ (v : V) (y : Option V), σ = [some (.int (n : Nat)), some v, y] ∧ Dp K (hide M Hi) v (nestD i) ∧ Same H Hi) ?_ ?_ ?_⟩
    · exact ⟨_, none, rfl, .str _, Same.refl _⟩
    · rintro i σ Hi hi ⟨v, y, rfl, hd, sm⟩
      refine ⟨(by show 2 ≤ sizeLine; decide), fun l nl => ?_⟩
      have sl := same_upd (o := .lst [.str "&", .str "|"]) nl
      refine ⟨_, rfl, .inl ⟨_, rfl, _, _, rfl, rfl, pos22, ?_⟩⟩
      have hx : atI [V.str "&", V.str "|"] ((0 + (i : Int)) % 2) = some (.str (if i % 2 = 0 then "&" else "|")) := by
        rcases Nat.mod_two_eq_zero_or_one i with e | e
        · rw [show (0 + (i : Int)) % 2 = 0 by omega, if_pos e]; rfl
        · rw [show (0 + (i : Int)) % 2 = 1 by omega, if_neg (by omega)]; rfl
      refine ⟨l, _, _, _, rfl, rfl, SqL.of upd_same, hx, _, rfl, (by show 3 ≤ sizeLine; decide), fun p np => ?_⟩
      have sp := same_upd (o := .tup [.str (if i % 2 = 0 then "&" else "|"), v, .str "b"]) np
      refine ⟨_, _, rfl, ?_, sm.trans (sl.trans sp)⟩
      have tMi : Trk M (upd Hi l (.lst [.str "&", .str "|"])) := (tM.same sm).same sl
      exact .tup (SqT.of (hid_at tMi np)) (.cons (.str _) (.cons (dp_same (SmX.of_same (sl.trans sp)).hid _ _ hd) (.cons (.str _) .nil)))
    · rintro σ Hi ⟨v, y, rfl, hd, sm⟩
      rw [Int.toNat_natCast] at hd
      exact ⟨_, rfl, q Hi v hd sm⟩
end
end Fv


namespace Fv
open PySem PySem.Spec PyProof.Rows L2
theorem all_nil {P : V → Prop} : ∀ y ∈ ([] : List V), P y := fun y h => nomatch h
theorem all_cons {P : V → Prop} {x : V} {xs : List V} (h : P x) (t : ∀ y ∈ xs, P y) : ∀ y ∈ x :: xs, P y := fun y hy => by
  rcases List.mem_cons.mp hy with e | e
  · rw [e]; exact h
  · exact t y e
theorem all_app {P : V → Prop} {xs ys : List V} (h : ∀ y ∈ xs, P y) (t : ∀ y ∈ ys, P y) : ∀ y ∈ xs ++ ys, P y := fun y hy => by
  rcases List.mem_append.mp hy with e | e
  · exact h y e
  · exact t y e
section
variable {P : Program} {w : World} {K : PySem.W.Frag} {mg : Str → Option Value} {base : Heap}
theorem ok_odd {f : Addr} {fd : FuncData} {k : Nat} (F : Fun K "_law_odd" "_law_odd" s_law_odd f fd) (hk : 2 ≤ k)
    (C_law_pick : Own P w K mg base 2 "_law_pick" ["_law_source_here", "_law_row"] spPick)
    (C_law_nest : Own P w K mg base 1 "_law_nest" ["_law_many"] (spNest K)) :
    FnOk P w K mg base CX0 (k + 1) f fd ["_law_source_here", "_law_word"] (spOdd K) := by
  refine F.ok sc_law_odd (fun vs H Q E h => ?_) (fun cdv A outer s H vs Q E hr h => ?_)
  · obtain ⟨a, L, ns, v, M, rfl, _⟩ := h
    rfl
  · obtain ⟨a, L, ns, v, M, rfl, hs, gw, aM, t0, q⟩ := h
    have a0 : Same H H := Same.refl H
    refine ⟨_, (pss_cons (ps_set (i := 2) sc_law_odd.nd rfl (by first | exact .inl rfl | exact .inr rfl) (pe_lst (pa_cons pe_non (pa_cons pe_int (pa_cons pe_str (pa_cons pe_str (pa_cons pe_str (pa_cons pe_str (pa_cons (pe_tup pa_nil) (pa_cons (pe_tup (pa_cons pe_str pa_nil)) (pa_cons (pe_tup (pa_cons pe_str (pa_cons pe_str pa_nil))) (pa_cons (pe_tup (pa_cons pe_str (pa_cons pe_str (pa_cons pe_str pa_nil)))) (pa_cons (pe_tup (pa_cons pe_str (pa_cons pe_str (pa_cons pe_str pa_nil)))) (pa_cons (pe_lst (pa_cons pe_str (pa_cons pe_str (pa_cons pe_str pa_nil)))) pa_nil))))))))))))))
      (pss_cons (ps_set (i := 2) sc_law_odd.nd rfl (by first | exact .inl rfl | exact .inr rfl) (pe_op op_cat (pv 2) (pe_lst (pa_cons (pe_tup (pa_cons pe_str (pa_cons pe_str (pa_cons pe_non pa_nil)))) (pa_cons (pe_tup (pa_cons pe_str (pa_cons (pv 1) (pa_cons (pe_tup (pa_cons pe_str (pa_cons pe_str pa_nil))) pa_nil)))) (pa_cons (pe_tup (pa_cons (pv 1) pa_nil)) (pa_cons (pe_tup (pa_cons pe_str (pa_cons (pe_tup (pa_cons pe_str (pa_cons pe_str pa_nil))) (pa_cons (pv 1) pa_nil)))) (pa_cons (pe_tup (pa_cons pe_bl (pa_cons pe_str (pa_cons pe_str pa_nil)))) pa_nil))))))))
      (pss_cons (ps_set (i := 2) sc_law_odd.nd rfl (by first | exact .inl rfl | exact .inr rfl) (pe_op op_cat (pv 2) (pe_lst (pa_cons (pe_tup (pa_cons pe_str (pa_cons (pe_lst (pa_cons pe_str pa_nil)) (pa_cons (pv 1) pa_nil)))) (pa_cons (pe_tup (pa_cons pe_str (pa_cons (pv 1) (pa_cons pe_str pa_nil)))) (pa_cons (pe_tup (pa_cons pe_str (pa_cons (pv 1) (pa_cons (pv 1) pa_nil)))) (pa_cons (pe_tup (pa_cons (pe_tup (pa_cons pe_str (pa_cons pe_str (pa_cons pe_str pa_nil)))) (pa_cons pe_str (pa_cons pe_str pa_nil)))) (pa_cons (pe_own C_law_nest (hr.mono (by omega)) (by rfl) (pa_cons pe_int pa_nil)) pa_nil))))))))
      (pss_one (ps_ret (pe_own C_law_pick (hr.mono (by omega)) (by rfl) (pa_cons (pv 0) (pa_cons (pv 2) pa_nil)))))))), ?_⟩
    refine ⟨(by show 0 ≤ sizeLine; decide), fun p1 n1 => ?_⟩
    have s1 := same_upd (o := .tup []) n1
    have g1 : GV K 1 M _ (.ref p1) := GV.tup (n := 0) (xs := []) t0 n1 all_nil (Nat.le_of_ble_eq_true rfl)
    have a1 := a0.trans s1
    have t1 := t0.same s1
    refine ⟨(by show 1 ≤ sizeLine; decide), fun p2 n2 => ?_⟩
    have s2 := same_upd (o := .tup [.str "&"]) n2
    have g2 : GV K 1 M _ (.ref p2) := GV.tup (n := 0) (xs := [.str "&"]) t1 n2 (all_cons (GV.str (x := "&") (by decide +kernel)) all_nil) (Nat.le_of_ble_eq_true rfl)
    have a2 := a1.trans s2
    have t2 := t1.same s2
    refine ⟨(by show 2 ≤ sizeLine; decide), fun p3 n3 => ?_⟩
    have s3 := same_upd (o := .tup [.str "&", .str "a"]) n3
    have g3 : GV K 1 M _ (.ref p3) := GV.tup (n := 0) (xs := [.str "&", .str "a"]) t2 n3 (all_cons (GV.str (x := "&") (by decide +kernel)) (all_cons (GV.str (x := "a") (by decide +kernel)) all_nil)) (Nat.le_of_ble_eq_true rfl)
    have a3 := a2.trans s3
    have t3 := t2.same s3
    refine ⟨(by show 3 ≤ sizeLine; decide), fun p4 n4 => ?_⟩
    have s4 := same_upd (o := .tup [.str "|", .str "a", .str "z"]) n4
    have g4 : GV K 1 M _ (.ref p4) := GV.tup (n := 0) (xs := [.str "|", .str "a", .str "z"]) t3 n4 (all_cons (GV.str (x := "|") (by decide +kernel)) (all_cons (GV.str (x := "a") (by decide +kernel)) (all_cons (GV.str (x := "z") (by decide +kernel)) all_nil))) (Nat.le_of_ble_eq_true rfl)
    have a4 := a3.trans s4
    have t4 := t3.same s4
    refine ⟨(by show 3 ≤ sizeLine; decide), fun p5 n5 => ?_⟩
    have s5 := same_upd (o := .tup [.str "and", .str "a", .str "b"]) n5
    have g5 : GV K 1 M _ (.ref p5) := GV.tup (n := 0) (xs := [.str "and", .str "a", .str "b"]) t4 n5 (all_cons (GV.str (x := "and") (by decide +kernel)) (all_cons (GV.str (x := "a") (by decide +kernel)) (all_cons (GV.str (x := "b") (by decide +kernel)) all_nil))) (Nat.le_of_ble_eq_true rfl)
    have a5 := a4.trans s5
    have t5 := t4.same s5
    refine ⟨(by show 3 ≤ sizeLine; decide), fun p6 n6 => ?_⟩
    have s6 := same_upd (o := .lst [.str "&", .str "a", .str "b"]) n6
    have g6 : GV K 1 M _ (.ref p6) := GV.lst (n := 0) (xs := [.str "&", .str "a", .str "b"]) t5 n6 (all_cons (GV.str (x := "&") (by decide +kernel)) (all_cons (GV.str (x := "a") (by decide +kernel)) (all_cons (GV.str (x := "b") (by decide +kernel)) all_nil))) (Nat.le_of_ble_eq_true rfl)
    have a6 := a5.trans s6
    have t6 := t5.same s6
    refine ⟨(by show 12 ≤ sizeLine; decide), fun l1 nl1 => ?_⟩
    have s7 := same_upd (o := .lst [.non, .int 3, .str "", .str "i", .str "A", .str "ab", .ref p1, .ref p2, .ref p3, .ref p4, .ref p5, .ref p6]) nl1
    have a7 := a6.trans s7
    have t7 := t6.same s7
    refine ⟨_, rfl, ?_⟩
    refine ⟨(by show 3 ≤ sizeLine; decide), fun p8 n8 => ?_⟩
    have s8 := same_upd (o := .tup [.str "&", .str "a", .non]) n8
    have g8 : GV K 1 M _ (.ref p8) := GV.tup (n := 0) (xs := [.str "&", .str "a", .non]) t7 n8 (all_cons (GV.str (x := "&") (by decide +kernel)) (all_cons (GV.str (x := "a") (by decide +kernel)) (all_cons GV.non all_nil))) (Nat.le_of_ble_eq_true rfl)
    have a8 := a7.trans s8
    have t8 := t7.same s8
    refine ⟨_, rfl, ?_⟩
    refine ⟨(by show 2 ≤ sizeLine; decide), fun p9 n9 => ?_⟩
    have s9 := same_upd (o := .tup [.str "a", .str "b"]) n9
    have g9 : GV K 1 M _ (.ref p9) := GV.tup (n := 0) (xs := [.str "a", .str "b"]) t8 n9 (all_cons (GV.str (x := "a") (by decide +kernel)) (all_cons (GV.str (x := "b") (by decide +kernel)) all_nil)) (Nat.le_of_ble_eq_true rfl)
    have a9 := a8.trans s9
    have t9 := t8.same s9
    refine ⟨(by show 3 ≤ sizeLine; decide), fun p10 n10 => ?_⟩
    have s10 := same_upd (o := .tup [.str "&", v, .ref p9]) n10
    have g10 : GV K 6 M _ (.ref p10) := GV.tup (n := 5) (xs := [.str "&", v, .ref p9]) t9 n10 (all_cons (GV.str (x := "&") (by decide +kernel)) (all_cons (gw.same a9) (all_cons (g9.up (by decide)) all_nil))) (Nat.le_of_ble_eq_true rfl)
    have a10 := a9.trans s10
    have t10 := t9.same s10
    refine ⟨_, rfl, ?_⟩
    refine ⟨(by show 1 ≤ sizeLine; decide), fun p11 n11 => ?_⟩
    have s11 := same_upd (o := .tup [v]) n11
    have g11 : GV K 6 M _ (.ref p11) := GV.tup (n := 5) (xs := [v]) t10 n11 (all_cons (gw.same a10) all_nil) (Nat.le_of_ble_eq_true rfl)
    have a11 := a10.trans s11
    have t11 := t10.same s11
    refine ⟨(by show 2 ≤ sizeLine; decide), fun p12 n12 => ?_⟩
    have s12 := same_upd (o := .tup [.str "|", .str "b"]) n12
    have g12 : GV K 1 M _ (.ref p12) := GV.tup (n := 0) (xs := [.str "|", .str "b"]) t11 n12 (all_cons (GV.str (x := "|") (by decide +kernel)) (all_cons (GV.str (x := "b") (by decide +kernel)) all_nil)) (Nat.le_of_ble_eq_true rfl)
    have a12 := a11.trans s12
    have t12 := t11.same s12
    refine ⟨_, rfl, ?_⟩
    refine ⟨(by show 3 ≤ sizeLine; decide), fun p13 n13 => ?_⟩
    have s13 := same_upd (o := .tup [.str "&", .ref p12, v]) n13
    have g13 : GV K 6 M _ (.ref p13) := GV.tup (n := 5) (xs := [.str "&", .ref p12, v]) t12 n13 (all_cons (GV.str (x := "&") (by decide +kernel)) (all_cons (g12.up (by decide)) (all_cons (gw.same a12) all_nil))) (Nat.le_of_ble_eq_true rfl)
    have a13 := a12.trans s13
    have t13 := t12.same s13
    refine ⟨(by show 3 ≤ sizeLine; decide), fun p14 n14 => ?_⟩
    have s14 := same_upd (o := .tup [.bl true, .str "a", .str "b"]) n14
    have g14 : GV K 1 M _ (.ref p14) := GV.tup (n := 0) (xs := [.bl true, .str "a", .str "b"]) t13 n14 (all_cons (GV.bl _) (all_cons (GV.str (x := "a") (by decide +kernel)) (all_cons (GV.str (x := "b") (by decide +kernel)) all_nil))) (Nat.le_of_ble_eq_true rfl)
    have a14 := a13.trans s14
    have t14 := t13.same s14
    refine ⟨(by show 5 ≤ sizeLine; decide), fun m0 nm0 => ?_⟩
    have s15 := same_upd (o := .lst [.ref p8, .ref p10, .ref p11, .ref p13, .ref p14]) nm0
    have a15 := a14.trans s15
    have t15 := t14.same s15
    have hp0 : _ := (s8.trans (s9.trans (s10.trans (s11.trans (s12.trans (s13.trans (s14.trans s15))))))) _ _ (upd_same (o := .lst ([.non, .int 3, .str "", .str "i", .str "A", .str "ab", .ref p1, .ref p2, .ref p3, .ref p4, .ref p5, .ref p6])))
    refine ⟨l1, m0, _, _, rfl, rfl, hp0, upd_same, le1000 (Nat.le_of_ble_eq_true rfl), fun c0 nc0 => ?_⟩
    have s16 := same_upd (o := .lst ([.non, .int 3, .str "", .str "i", .str "A", .str "ab", .ref p1, .ref p2, .ref p3, .ref p4, .ref p5, .ref p6] ++ [.ref p8, .ref p10, .ref p11, .ref p13, .ref p14])) nc0
    have a16 := a15.trans s16
    have t16 := t15.same s16
    refine ⟨_, rfl, ?_⟩
    refine ⟨(by show 1 ≤ sizeLine; decide), fun p17 n17 => ?_⟩
    have s17 := same_upd (o := .lst [.str "a"]) n17
    have g17 : GV K 1 M _ (.ref p17) := GV.lst (n := 0) (xs := [.str "a"]) t16 n17 (all_cons (GV.str (x := "a") (by decide +kernel)) all_nil) (Nat.le_of_ble_eq_true rfl)
    have a17 := a16.trans s17
    have t17 := t16.same s17
    refine ⟨_, rfl, ?_⟩
    refine ⟨(by show 3 ≤ sizeLine; decide), fun p18 n18 => ?_⟩
    have s18 := same_upd (o := .tup [.str "|", .ref p17, v]) n18
    have g18 : GV K 6 M _ (.ref p18) := GV.tup (n := 5) (xs := [.str "|", .ref p17, v]) t17 n18 (all_cons (GV.str (x := "|") (by decide +kernel)) (all_cons (g17.up (by decide)) (all_cons (gw.same a17) all_nil))) (Nat.le_of_ble_eq_true rfl)
    have a18 := a17.trans s18
    have t18 := t17.same s18
    refine ⟨_, rfl, ?_⟩
    refine ⟨(by show 3 ≤ sizeLine; decide), fun p19 n19 => ?_⟩
    have s19 := same_upd (o := .tup [.str "&", v, .str ""]) n19
    have g19 : GV K 6 M _ (.ref p19) := GV.tup (n := 5) (xs := [.str "&", v, .str ""]) t18 n19 (all_cons (GV.str (x := "&") (by decide +kernel)) (all_cons (gw.same a18) (all_cons (GV.str (x := "") (by decide +kernel)) all_nil))) (Nat.le_of_ble_eq_true rfl)
    have a19 := a18.trans s19
    have t19 := t18.same s19
    refine ⟨_, rfl, ?_⟩
    refine ⟨_, rfl, ?_⟩
    refine ⟨(by show 3 ≤ sizeLine; decide), fun p20 n20 => ?_⟩
    have s20 := same_upd (o := .tup [.str "", v, v]) n20
    have g20 : GV K 6 M _ (.ref p20) := GV.tup (n := 5) (xs := [.str "", v, v]) t19 n20 (all_cons (GV.str (x := "") (by decide +kernel)) (all_cons (gw.same a19) (all_cons (gw.same a19) all_nil))) (Nat.le_of_ble_eq_true rfl)
    have a20 := a19.trans s20
    have t20 := t19.same s20
    refine ⟨(by show 3 ≤ sizeLine; decide), fun p21 n21 => ?_⟩
    have s21 := same_upd (o := .tup [.str "&", .str "a", .str "b"]) n21
    have g21 : GV K 1 M _ (.ref p21) := GV.tup (n := 0) (xs := [.str "&", .str "a", .str "b"]) t20 n21 (all_cons (GV.str (x := "&") (by decide +kernel)) (all_cons (GV.str (x := "a") (by decide +kernel)) (all_cons (GV.str (x := "b") (by decide +kernel)) all_nil))) (Nat.le_of_ble_eq_true rfl)
    have a21 := a20.trans s21
    have t21 := t20.same s21
    refine ⟨(by show 3 ≤ sizeLine; decide), fun p22 n22 => ?_⟩
    have s22 := same_upd (o := .tup [.ref p21, .str "a", .str "b"]) n22
    have g22 : GV K 2 M _ (.ref p22) := GV.tup (n := 1) (xs := [.ref p21, .str "a", .str "b"]) t21 n22 (all_cons g21 (all_cons (GV.str (x := "a") (by decide +kernel)) (all_cons (GV.str (x := "b") (by decide +kernel)) all_nil))) (Nat.le_of_ble_eq_true rfl)
    have a22 := a21.trans s22
    have t22 := t21.same s22
    refine ⟨10, M, rfl, by decide, t22, fun H23 p23 hd23 s23 => ?_⟩
    have a23 := a22.trans s23
    have t23 := t22.same s23
    have g23 : GV K 10 M H23 p23 := ⟨_, hd23, nest_gd 10⟩
    refine ⟨(by show 5 ≤ sizeLine; decide), fun m1 nm1 => ?_⟩
    have s24 := same_upd (o := .lst [.ref p18, .ref p19, .ref p20, .ref p22, p23]) nm1
    have a24 := a23.trans s24
    have t24 := t23.same s24
    have hp1 : _ := (s17.trans (s18.trans (s19.trans (s20.trans (s21.trans (s22.trans (s23.trans s24))))))) _ _ (upd_same (o := .lst ([.non, .int 3, .str "", .str "i", .str "A", .str "ab", .ref p1, .ref p2, .ref p3, .ref p4, .ref p5, .ref p6] ++ [.ref p8, .ref p10, .ref p11, .ref p13, .ref p14])))
    refine ⟨c0, m1, _, _, rfl, rfl, hp1, upd_same, le1000 (Nat.le_of_ble_eq_true rfl), fun c1 nc1 => ?_⟩
    have s25 := same_upd (o := .lst (([.non, .int 3, .str "", .str "i", .str "A", .str "ab", .ref p1, .ref p2, .ref p3, .ref p4, .ref p5, .ref p6] ++ [.ref p8, .ref p10, .ref p11, .ref p13, .ref p14]) ++ [.ref p18, .ref p19, .ref p20, .ref p22, p23])) nc1
    have a25 := a24.trans s25
    have t25 := t24.same s25
    have z24 := s25
    have z23 := s24.trans z24
    have z22 := s23.trans z23
    have z21 := s22.trans z22
    have z20 := s21.trans z21
    have z19 := s20.trans z20
    have z18 := s19.trans z19
    have z17 := s18.trans z18
    have z16 := s17.trans z17
    have z15 := s16.trans z16
    have z14 := s15.trans z15
    have z13 := s14.trans z14
    have z12 := s13.trans z13
    have z11 := s12.trans z12
    have z10 := s11.trans z11
    have z9 := s10.trans z10
    have z8 := s9.trans z9
    have z7 := s8.trans z8
    have z6 := s7.trans z7
    have z5 := s6.trans z6
    have z4 := s5.trans z5
    have z3 := s4.trans z4
    have z2 := s3.trans z3
    have z1 := s2.trans z2
    have ga1 : ∀ y ∈ ([.non, .int 3, .str "", .str "i", .str "A", .str "ab", .ref p1, .ref p2, .ref p3, .ref p4, .ref p5, .ref p6] : List V), GV K 12 M _ y := (all_cons GV.non (all_cons (GV.int _) (all_cons (GV.str (x := "") (by decide +kernel)) (all_cons (GV.str (x := "i") (by decide +kernel)) (all_cons (GV.str (x := "A") (by decide +kernel)) (all_cons (GV.str (x := "ab") (by decide +kernel)) (all_cons ((g1.same z1).up (by decide)) (all_cons ((g2.same z2).up (by decide)) (all_cons ((g3.same z3).up (by decide)) (all_cons ((g4.same z4).up (by decide)) (all_cons ((g5.same z5).up (by decide)) (all_cons ((g6.same z6).up (by decide)) all_nil))))))))))))
    have ga2 : ∀ y ∈ ([.ref p8, .ref p10, .ref p11, .ref p13, .ref p14] : List V), GV K 12 M _ y := (all_cons ((g8.same z8).up (by decide)) (all_cons ((g10.same z10).up (by decide)) (all_cons ((g11.same z11).up (by decide)) (all_cons ((g13.same z13).up (by decide)) (all_cons ((g14.same z14).up (by decide)) all_nil)))))
    have ga3 : ∀ y ∈ ([.ref p18, .ref p19, .ref p20, .ref p22, p23] : List V), GV K 12 M _ y := (all_cons ((g18.same z18).up (by decide)) (all_cons ((g19.same z19).up (by decide)) (all_cons ((g20.same z20).up (by decide)) (all_cons ((g22.same z22).up (by decide)) (all_cons ((g23.same z23).up (by decide)) all_nil)))))
    refine ⟨_, rfl, _, rfl, a, L, c1, ns, _, rfl, hs.same a25, (hs.ne (a24.free nc1)).symm, upd_same, Nat.le_of_ble_eq_true rfl, Nat.le_of_ble_eq_true rfl, fun H' y my hs' off' => ?_⟩
    have gy := all_app (all_app ga1 ga2) ga3 y my
    obtain ⟨d, h1, h2⟩ := gy
    refine q H' y ⟨d, dp_same (SmX.at off' aM).hid d y h1, h2⟩ hs' ((SmX.of_same a25).trans (SmX.at off' (List.mem_singleton.mpr rfl)))
end
end Fv


namespace Fv
open PySem PySem.Spec PyProof.Rows L2 FvX TL
/-! ### the text of a term -/
def opS : PyData → Str
  | .str s => s
  | _ => ""
mutual
def txt : PyData → Str
  | .str s => s
  | .tuple (o :: ds) => Txt.join (" " ++ opS o ++ " ") (ptxAll ds)
  | _ => ""
def ptxAll : List PyData → List Str
  | [] => []
  | d :: ds => (if isLd d = true then txt d else "(" ++ txt d ++ ")") :: ptxAll ds
end
def ptx (d : PyData) : Str := if isLd d = true then txt d else "(" ++ txt d ++ ")"
theorem ptxAll_map : ∀ ds : List PyData, ptxAll ds = ds.map ptx
  | [] => by simp [ptxAll]
  | d :: ds => by rw [List.map_cons, ← ptxAll_map ds]; simp only [ptxAll, ptx]
theorem txt_str (s : Str) : txt (.str s) = s := by simp only [txt]
theorem txt_tup (o : Str) (ds : List PyData) : txt (.tuple (.str o :: ds)) = Txt.join (" " ++ o ++ " ") (ds.map ptx) := by
  simp only [txt, ptxAll_map, opS]
theorem isOp_inv {o : PyData} (h : isOp o = true) : o = .str "&" ∨ o = .str "|" := by
  unfold isOp at h
  simp only [List.any_cons, List.any_nil, Bool.or_false, Bool.or_eq_true] at h
  cases o with
  | str x =>
    rcases h with h | h <;> simp [PyData.eqv] at h
    · exact .inl (by rw [h])
    · exact .inr (by rw [h])
  | _ => rcases h with h | h <;> simp [PyData.eqv] at h
theorem lmeas_inv {n : Nat} {d : PyData} (h : 1 ≤ lmeas (n + 1) d) : (∃ x, d = .str x ∧ isL x = true) ∨
    (∃ o ds, d = .tuple (.str o :: ds) ∧ isLd d = false ∧ (o = "&" ∨ o = "|") ∧ 2 ≤ ds.length ∧ (∀ x ∈ ds, 1 ≤ lmeas n x) ∧ lmeas (n + 1) d = (ds.map (lmeas n)).sum) := by
  by_cases a : isLd d = true
  · left
    cases d with
    | str x => exact ⟨x, rfl, a⟩
    | _ => cases a
  · right
    have e : lmeas (n + 1) d = if isCd d = true then (if (0 : Int) ∈ (parts d).map (lmeas n) then 0 else ((parts d).map (lmeas n)).sum) else 0 := by
      show (if isLd d = true then (1 : Int) else _) = _
      rw [if_neg a]
    rw [e] at h
    by_cases b : isCd d = true
    · rw [if_pos b] at h
      by_cases c : (0 : Int) ∈ (parts d).map (lmeas n)
      · rw [if_pos c] at h; omega
      · cases d with
        | tuple ds =>
          cases ds with
          | nil => cases b
          | cons o ds =>
            have b' : (decide (2 ≤ ds.length) && isOp o) = true := b
            rw [Bool.and_eq_true, decide_eq_true_eq] at b'
            have all1 : ∀ x ∈ ds, 1 ≤ lmeas n x := fun x hx => by
              have z := lmeas_nonneg n x
              rcases Int.lt_or_eq_of_le z with z | z
              · omega
              · exact absurd (List.mem_map.mpr ⟨x, hx, z.symm⟩) c
            have e' : lmeas (n + 1) (.tuple (o :: ds)) = (ds.map (lmeas n)).sum := by
              rw [e, if_pos b, if_neg c]; rfl
            rcases isOp_inv b'.2 with ho | ho <;> subst ho
            · exact ⟨_, ds, rfl, rfl, .inl rfl, b'.1, all1, e'⟩
            · exact ⟨_, ds, rfl, rfl, .inr rfl, b'.1, all1, e'⟩
        | _ => cases b
    · rw [if_neg b] at h; omega
theorem isL_len {x : Str} (h : isL x = true) : x.length = 1 := by
  unfold isL at h
  rw [Bool.and_eq_true, decide_eq_true_eq] at h
  have := h.1
  injection this with e
  omega
theorem len_app (x y : Str) : (x ++ y).length = x.length + y.length := by
  rw [len_tl, tl_append, List.length_append, ← len_tl, ← len_tl]
theorem joinL_len (S : List Nat) : ∀ (p : List Nat) (ps : List (List Nat)), (joinL S (p :: ps)).length = p.length + (ps.map (·.length)).sum + S.length * ps.length
  | p, [] => by simp [joinL]
  | p, q :: ps => by
    have e : joinL S (p :: q :: ps) = p ++ (S ++ joinL S (q :: ps)) := rfl
    rw [e, List.length_append, List.length_append, joinL_len S q ps, List.map_cons, List.sum_cons, List.length_cons, Nat.mul_add]
    omega
theorem sum_le {α : Type} {f g : α → Int} : ∀ {l : List α}, (∀ x ∈ l, f x ≤ g x) → (l.map f).sum ≤ (l.map g).sum
  | [], _ => by simp
  | x :: l, h => by
    rw [List.map_cons, List.map_cons, List.sum_cons, List.sum_cons]
    have := h x (List.mem_cons_self ..)
    have := sum_le (l := l) fun y hy => h y (List.mem_cons_of_mem _ hy)
    omega
theorem sum_lin {α : Type} {f : α → Int} : ∀ {l : List α}, (l.map fun x => 8 * f x - 5).sum = 8 * (l.map f).sum - 5 * l.length
  | [] => by simp
  | x :: l => by
    rw [List.map_cons, List.map_cons, List.sum_cons, List.sum_cons, sum_lin (l := l), List.length_cons]
    omega
theorem sum_cast {α : Type} {f : α → Nat} : ∀ {l : List α}, (((l.map f).sum : Nat) : Int) = (l.map fun x => ((f x : Nat) : Int)).sum
  | [] => by simp
  | x :: l => by
    rw [List.map_cons, List.map_cons, List.sum_cons, List.sum_cons, ← sum_cast (l := l)]
    omega
theorem sep_len {o : Str} (h : o = "&" ∨ o = "|") : ((" " : Str) ++ o ++ " ").length = 3 := by
  rcases h with h | h <;> subst h <;> decide +kernel
theorem par_len (x : Str) : (("(" : Str) ++ x ++ ")").length = x.length + 2 := by
  rw [len_app, len_app]
  have e1 : ("(" : Str).length = 1 := by decide +kernel
  have e2 : (")" : Str).length = 1 := by decide +kernel
  omega
theorem txt_len : ∀ (n : Nat) (d : PyData), 1 ≤ lmeas n d → ((txt d).length : Int) + 7 ≤ 8 * lmeas n d
  | 0, d, h => by simp only [lmeas] at h; omega
  | n + 1, d, h => by
    rcases lmeas_inv h with ⟨x, rfl, hx⟩ | ⟨o, ds, rfl, _, ho, h2, all1, e⟩
    · rw [txt_str, isL_len hx]
      omega
    · rw [txt_tup, join_eq, len_tl, tl_join, e]
      have hp : (((((ds.map ptx).map tl).map (·.length)).sum : Nat) : Int) ≤ 8 * (ds.map (lmeas n)).sum - 5 * ds.length := by
        rw [← sum_lin, List.map_map, List.map_map, sum_cast]
        refine sum_le fun x hx => ?_
        have := txt_len n x (all1 x hx)
        show (((tl (ptx x)).length : Nat) : Int) ≤ _
        rw [← len_tl]
        unfold ptx
        split
        · omega
        · rw [par_len]; omega
      cases ds with
      | nil => simp at h2
      | cons x r =>
        rw [List.map_cons, List.map_cons] at hp ⊢
        rw [joinL_len, ← len_tl (" " ++ o ++ " "), sep_len ho, List.length_map, List.length_map]
        rw [List.map_cons, List.sum_cons] at hp
        rw [List.length_cons] at h2 hp
        omega
theorem ptx_len {n : Nat} {d : PyData} (h : 1 ≤ lmeas n d) : ((ptx d).length : Int) + 5 ≤ 8 * lmeas n d := by
  have := txt_len n d h
  unfold ptx
  split
  · omega
  · rw [par_len]; omega
def spText (K : PySem.W.Frag) (n : Nat) : Sp := fun vs H Q _ => ∃ (v : V) (d : PyData) (m : Nat), vs = [v] ∧ Dp K H v d ∧ gd 20 d = true ∧ m < n ∧ 1 ≤ lmeas m d ∧ lmeas m d ≤ 1000 ∧ ∀ H', Same H H' → Q (.str (txt d)) H'
def spPart (K : PySem.W.Frag) (n : Nat) : Sp := fun vs H Q _ => ∃ (v : V) (d : PyData) (m : Nat), vs = [v] ∧ Dp K H v d ∧ gd 20 d = true ∧ m < n ∧ 1 ≤ lmeas m d ∧ lmeas m d ≤ 1000 ∧ ∀ H', Same H H' → Q (.str (ptx d)) H'
end Fv


namespace Fv
open PySem PySem.Spec PyProof.Rows L2 FvX TL



theorem pe_isDc {X : Cx} {K : PySem.W.Frag} {e : Expr} {te : TE} {T : String} {y : Str} {p p2 pos : Pos} (hK : X.K = K) (hg : Gl X "isinstance") (hm : X.mg "isinstance" = none) (hg2 : Gl X y) (hm2 : X.mg y = none) (ha : PE X e te)
    (hv : bootBuiltins y = some (.type T) := by decide +kernel) (hn : y ≠ "__name__" := by decide) (hd2 : (y == ("__debug__" : Str)) = false := by decide)
    (he : starEach (e :: [.Name y p2]) X.env = (false, eval e X.env) :: starEach [.Name y p2] X.env := by rfl) (hpl : (backTo pos (starEach [.Name y p2] X.env)).any (·.1) = false := by rfl) :
    PE X (.Call (.Name "isinstance" p) [e, .Name y p2] [] pos) (tCB (rIsD K) (tCons te (tCons (tC (.ty T)) tNil))) := by
  subst hK
  exact pe_isD hg hm hg2 hm2 ha hv hn hd2 he hpl
theorem one_len : (" " : Str).length = 1 := by decide +kernel
theorem op_len {o : Str} (h : o = "&" ∨ o = "|") : o.length = 1 := by rcases h with h | h <;> subst h <;> decide +kernel
theorem small_len {x : Str} {n : Nat} (h : x.length ≤ n) (hn : n ≤ 100000) : x.length ≤ sizeLine := Nat.le_trans h (Nat.le_trans hn (by decide))
theorem emp_app (x : Str) : Str.empty ++ x = x := ext_tl (by rw [tl_append]; rfl)
theorem sum_ptx {m : Nat} {ds : List PyData} (all1 : ∀ x ∈ ds, 1 ≤ lmeas m x) (h : (ds.map (lmeas m)).sum ≤ 1000) : ((ds.map ptx).map (·.length)).sum ≤ 8000 := by
  have hp : ((((ds.map ptx).map (·.length)).sum : Nat) : Int) ≤ 8 * (ds.map (lmeas m)).sum - 5 * ds.length := by
    rw [← sum_lin, List.map_map, sum_cast]
    refine sum_le fun x hx => ?_
    have := ptx_len (all1 x hx)
    show (((ptx x).length : Nat) : Int) ≤ _
    omega
  omega
theorem part_le {m : Nat} {ds : List PyData} {x : PyData} (hx : x ∈ ds) (h : (ds.map (lmeas m)).sum ≤ 1000) : lmeas m x ≤ 1000 := by
  have := mem_le_sum (l := ds.map (lmeas m)) (x := lmeas m x) (fun y hy => by
    obtain ⟨d', _, rfl⟩ := List.mem_map.mp hy
    exact lmeas_nonneg m d') (List.mem_map.mpr ⟨x, hx, rfl⟩)
  omega
section
variable {P : Program} {w : World} {K : PySem.W.Frag} {mg : Str → Option Value} {base : Heap}
theorem text_zero {f : Addr} {fd : FuncData} {k : Nat} {ps : List Str} : FnOk P w K mg base CX0 k f fd ps (spText K 0) := by
  have no : ∀ vs H Q E, ¬ spText K 0 vs H Q E := fun vs H Q E h => by
    obtain ⟨v, d, m, _, _, _, m1, _⟩ := h
    omega
  exact ⟨fun vs H Q E h => absurd h (no vs H Q E), fun A outer s H args us vs Q E _ _ _ _ h => absurd h (no vs H Q E)⟩
theorem part_zero {f : Addr} {fd : FuncData} {k : Nat} {ps : List Str} : FnOk P w K mg base CX0 k f fd ps (spPart K 0) := by
  have no : ∀ vs H Q E, ¬ spPart K 0 vs H Q E := fun vs H Q E h => by
    obtain ⟨v, d, m, _, _, _, m1, _⟩ := h
    omega
  exact ⟨fun vs H Q E h => absurd h (no vs H Q E), fun A outer s H args us vs Q E _ _ _ _ h => absurd h (no vs H Q E)⟩
theorem isLd_str {m : Nat} {x : Str} (h : 1 ≤ lmeas m (.str x)) : isL x = true := by
  cases m with
  | zero => simp only [lmeas] at h; omega
  | succ m =>
    rcases lmeas_inv h with ⟨y, e, hy⟩ | ⟨o, ds, e, _⟩
    · cases e; exact hy
    · cases e
end
end Fv


namespace Fv
open PySem PySem.Spec PyProof.Rows L2 FvX TL
/-! ### reading, as the program reads: a mirror over code points -/
/-- k signs from at on -/
def sub (T : List Nat) (at' k : Nat) : Str := ⟨((T.drop at').take k).toArray⟩
theorem tl_sub (T : List Nat) (a k : Nat) : tl (sub T a k) = (T.drop a).take k := rfl
theorem cut_sub (z : Str) (a k : Nat) : cutS z (some (a : Int)) (some ((a : Int) + (k : Nat))) = sub (tl z) a k := by
  refine ext_tl ?_
  have e : ((a : Int) + (k : Nat)) = ((a + k : Nat) : Int) := by omega
  rw [tl_sub, e]
  show ((z.cps.toList.drop (HT.sIx z.length 0 (some (a : Int)))).take (HT.sIx z.length z.length (some ((a + k : Nat) : Int)) - HT.sIx z.length 0 (some (a : Int)))) = _
  rw [HT.sIx_nat, HT.sIx_nat]
  have hl : z.length = (tl z).length := len_tl z
  have hl2 : z.length = z.cps.toList.length := len_tl z
  by_cases h : a ≤ z.length
  · rw [Nat.min_eq_left h]
    by_cases h2 : a + k ≤ z.length
    · rw [Nat.min_eq_left h2, Nat.add_sub_cancel_left]
    · rw [Nat.min_eq_right (by omega), List.take_of_length_le (by rw [List.length_drop]; omega), List.take_of_length_le (by rw [List.length_drop]; omega)]
  · rw [Nat.min_eq_right (by omega : z.length ≤ a), List.drop_of_length_le (by omega), List.drop_of_length_le (by omega), List.take_nil, List.take_nil]
theorem sub_len (T : List Nat) (a k : Nat) : (sub T a k).length ≤ k := by
  rw [len_tl, tl_sub, List.length_take]; omega
theorem sub_in {T : List Nat} {a k n : Nat} (h : (sub T a k).length = n) (hn : 0 < n) : a + n ≤ T.length := by
  rw [len_tl, tl_sub, List.length_take, List.length_drop] at h
  omega
def rdL (P : Nat → Option (PyData × Nat)) (T : List Nat) (sg : Str) : Nat → Nat → List PyData → Option (List PyData × Nat)
  | 0, _, _ => none
  | f + 1, a, acc => if sub T a 3 = sg then (match P (a + 3) with
    | none => none
    | some (d, e) => rdL P T sg f e (acc ++ [d])) else some (acc, a)
def sgn (s : Str) : Str := if s = " & " then "&" else "|"
def isSg (s : Str) : Prop := s = " & " ∨ s = " | "
instance (s : Str) : Decidable (isSg s) := inferInstanceAs (Decidable (_ ∨ _))
def rdT (P : Nat → Option (PyData × Nat)) (T : List Nat) (a : Nat) : Option (PyData × Nat) := match P a with
  | none => none
  | some (d, e) => if isSg (sub T e 3) then (match rdL P T (sub T e 3) (T.length + 1 - e) e [d] with
      | none => none
      | some (ds, e') => some (.tuple (.str (sgn (sub T e 3)) :: ds), e')) else if isLd d = true then some (d, e) else none
def rdP (T : List Nat) : Nat → Nat → Option (PyData × Nat)
  | 0 => fun a => if isL (sub T a 1) = true then some (.str (sub T a 1), a + 1) else none
  | n + 1 => fun a => if isL (sub T a 1) = true then some (.str (sub T a 1), a + 1) else if sub T a 1 = "(" then (match rdT (rdP T n) T (a + 1) with
      | none => none
      | some (d, e) => if isLd d = true ∨ sub T e 1 ≠ ")" then none else some (d, e + 1)) else none
theorem isL_one {x : Str} (h : isL x = true) : x ∈ (["a", "b", "c", "d", "e", "f", "g", "h"] : List Str) := by
  have hl := isL_len h
  rw [len_tl] at hl
  obtain ⟨c, ec⟩ : ∃ c, tl x = [c] := by
    match tl x, hl with
    | [c], _ => exact ⟨c, rfl⟩
  have ex : x = ⟨#[c]⟩ := ext_tl (by rw [ec])
  subst ex
  unfold isL at h
  rw [Bool.and_eq_true] at h
  have h2 := h.2
  rw [PySem.StrLaws.found_one, decide_eq_true_eq] at h2
  have e : ("abcdefgh" : Str).cps.toList = [97, 98, 99, 100, 101, 102, 103, 104] := by decide +kernel
  rw [e] at h2
  have all : ∀ c ∈ ([97, 98, 99, 100, 101, 102, 103, 104] : List Nat), (⟨#[c]⟩ : Str) ∈ (["a", "b", "c", "d", "e", "f", "g", "h"] : List Str) := by decide +kernel
  exact all c h2
theorem isL_gd {x : Str} (h : isL x = true) (n : Nat) : gd n (.str x) = true := gd_le (isL_lett (isL_one h)).2 (Nat.zero_le _)
theorem sg_len {s : Str} (h : isSg s) : s.length = 3 := by rcases h with h | h <;> rw [h] <;> decide +kernel
/-- what a reading of parts promises -/
def PFine (T : List Nat) (n : Nat) (P : Nat → Option (PyData × Nat)) : Prop := ∀ a d e, P a = some (d, e) → a < e ∧ e ≤ T.length ∧ gd n d = true
theorem rdL_fine {T : List Nat} {n : Nat} {P : Nat → Option (PyData × Nat)} (hP : PFine T n P) {sg : Str} (hs : sg.length = 3) : ∀ (f a : Nat) (acc ds : List PyData) (e : Nat), rdL P T sg f a acc = some (ds, e) →
    (∀ d ∈ acc, gd n d = true) → 4 * acc.length ≤ a + 3 → a ≤ T.length → (∀ d ∈ ds, gd n d = true) ∧ 4 * ds.length ≤ e + 3 ∧ a ≤ e ∧ e ≤ T.length
  | 0, a, acc, ds, e, h, _, _, _ => by cases h
  | f + 1, a, acc, ds, e, h, hg, hl, ha => by
    unfold rdL at h
    by_cases c : sub T a 3 = sg
    · rw [if_pos c] at h
      cases hp : P (a + 3) with
      | none => rw [hp] at h; cases h
      | some r =>
        obtain ⟨d, e1⟩ := r
        rw [hp] at h
        obtain ⟨h1, h2, h3⟩ := hP _ _ _ hp
        have z := rdL_fine hP hs f e1 (acc ++ [d]) ds e h (fun x hx => by
          rcases List.mem_append.mp hx with q | q
          · exact hg x q
          · rw [List.mem_singleton.mp q]; exact h3) (by rw [List.length_append, List.length_singleton]; omega) h2
        exact ⟨z.1, z.2.1, by omega, z.2.2.2⟩
    · rw [if_neg c] at h
      cases h
      exact ⟨hg, hl, Nat.le_refl _, ha⟩
theorem rdT_fine {T : List Nat} {n : Nat} {P : Nat → Option (PyData × Nat)} (hT : T.length ≤ 2900) (hP : PFine T n P) : PFine T (n + 1) (rdT P T) := by
  intro a d e h
  unfold rdT at h
  cases hp : P a with
  | none => rw [hp] at h; cases h
  | some r =>
    obtain ⟨d1, e1⟩ := r
    rw [hp] at h
    obtain ⟨h1, h2, h3⟩ := hP _ _ _ hp
    dsimp only at h
    by_cases c : isSg (sub T e1 3)
    · rw [if_pos c] at h
      cases hr : rdL P T (sub T e1 3) (T.length + 1 - e1) e1 [d1] with
      | none => rw [hr] at h; cases h
      | some r =>
        obtain ⟨ds, e2⟩ := r
        rw [hr] at h
        cases h
        obtain ⟨z1, z2, z3, z4⟩ := rdL_fine hP (sg_len c) _ _ _ _ _ hr (fun x hx => by rw [List.mem_singleton.mp hx]; exact h3) (by rw [List.length_singleton]; omega) h2
        refine ⟨by omega, z4, gd_tup (fun x hx => ?_) (by rw [List.length_cons]; omega)⟩
        rcases List.mem_cons.mp hx with q | q
        · rw [q]
          refine gd_le (n := 0) ?_ (Nat.zero_le _)
          unfold sgn
          split <;> decide +kernel
        · exact z1 x q
    · rw [if_neg c] at h
      by_cases c2 : isLd d1 = true
      · rw [if_pos c2] at h
        cases h
        exact ⟨h1, h2, gd_up _ _ h3⟩
      · rw [if_neg c2] at h; cases h
theorem rdP_fine {T : List Nat} (hT : T.length ≤ 2900) : ∀ n : Nat, PFine T n (rdP T n)
  | 0 => fun a d e h => by
    unfold rdP at h
    by_cases c : isL (sub T a 1) = true
    · rw [if_pos c] at h
      cases h
      exact ⟨by omega, sub_in (isL_len c) (by decide), isL_gd c _⟩
    · rw [if_neg c] at h; cases h
  | n + 1 => fun a d e h => by
    unfold rdP at h
    by_cases c : isL (sub T a 1) = true
    · rw [if_pos c] at h
      cases h
      exact ⟨by omega, sub_in (isL_len c) (by decide), isL_gd c _⟩
    · rw [if_neg c] at h
      by_cases c2 : sub T a 1 = "("
      · rw [if_pos c2] at h
        cases hr : rdT (rdP T n) T (a + 1) with
        | none => rw [hr] at h; cases h
        | some r =>
          obtain ⟨d1, e1⟩ := r
          rw [hr] at h
          dsimp only at h
          obtain ⟨h1, h2, h3⟩ := rdT_fine hT (rdP_fine hT n) _ _ _ hr
          by_cases c3 : isLd d1 = true ∨ sub T e1 1 ≠ ")"
          · rw [if_pos c3] at h; cases h
          · rw [if_neg c3] at h
            cases h
            have c4 : sub T e1 1 = ")" := Classical.not_not.mp fun z => c3 (.inr z)
            exact ⟨by omega, sub_in (by rw [c4]; decide +kernel) (by decide), h3⟩
      · rw [if_neg c2] at h; cases h
theorem sub_ok {x : Str} (h : PyData.strOk x = true) (a k : Nat) : PyData.strOk (sub (tl x) a k) = true := by
  unfold PyData.strOk at h ⊢
  rw [← Array.all_toList, List.all_eq_true] at h ⊢
  intro c hc
  exact h c (List.mem_of_mem_drop (List.mem_of_mem_take hc))
theorem sub_gd {x : Str} (h : PyData.strOk x = true) (a k : Nat) (hk : k ≤ 3) (n : Nat) : gd n (.str (sub (tl x) a k)) = true := by
  refine gd_le (n := 0) ?_ (Nat.zero_le _)
  have := sub_len (tl x) a k
  show (PyData.strOk (sub (tl x) a k) && decide ((sub (tl x) a k).length ≤ 100000)) = true
  rw [sub_ok h, decide_eq_true (by omega)]
  rfl
theorem cut1 (z : Str) (a : Nat) : cutS z (some (a : Int)) (some ((a : Int) + 1)) = sub (tl z) a 1 := cut_sub z a 1
theorem cut3 (z : Str) (a : Nat) : cutS z (some (a : Int)) (some ((a : Int) + 3)) = sub (tl z) a 3 := cut_sub z a 3
theorem sub_one {T : List Nat} {a : Nat} (h : (sub T a 1).length = 1) : ∃ c, T[a]? = some c ∧ sub T a 1 = ⟨#[c]⟩ := by
  have hl := sub_in h (by decide)
  refine ⟨T[a], List.getElem?_eq_getElem (by omega), ext_tl ?_⟩
  rw [tl_sub, List.drop_eq_getElem_cons (by omega)]
  rfl
def outR (K : PySem.W.Frag) (CT : Addr) (M : List Addr) (r : Option (PyData × Nat)) (H : Hp) (Q : VK) (E : XK) : Prop :=
  (∀ d e, r = some (d, e) → ∀ (H' : Hp) (p : Addr) (v : V), Same H H' → H' p = some (.tup [v, .int (e : Nat)]) → Dp K (hide M H') v d → Q (.ref p) H') ∧ (r = none → errAt CT "InvalidText" H E)
def spRdP (K : PySem.W.Frag) (CT : Addr) (n : Nat) : Sp := fun vs H Q E => ∃ (x : Str) (a m : Nat) (M : List Addr), vs = [.str x, .int (a : Nat), .int (m : Nat)] ∧ x.length ≤ 2900 ∧ PyData.strOk x = true ∧ m < n ∧ Trk M H ∧ outR K CT M (rdP (tl x) m a) H Q E
def spRdT (K : PySem.W.Frag) (CT : Addr) (n : Nat) : Sp := fun vs H Q E => ∃ (x : Str) (a m : Nat) (M : List Addr), vs = [.str x, .int (a : Nat), .int (m : Nat)] ∧ x.length ≤ 2900 ∧ PyData.strOk x = true ∧ m < n ∧ Trk M H ∧ outR K CT M (rdT (rdP (tl x) m) (tl x) a) H Q E
theorem vs3 {x : Str} {i j : Int} {a m : Nat} (h : i = (a : Nat)) (g : j = (m : Nat)) : [V.str x, V.int i, V.int j] = [.str x, .int (a : Nat), .int (m : Nat)] := by rw [h, g]
end Fv


namespace Fv
open PySem PySem.Spec PyProof.Rows L2 FvX TL

section
variable {P : Program} {w : World} {K : PySem.W.Frag} {mg : Str → Option Value} {base : Heap} {CT fI oS : Addr} {qual msg : Str} {q : ErrPos} {j1 j2 : Nat}
theorem fit900 {x : Str} (h : x.length ≤ 2900) : x.length ≤ sizeLine := Nat.le_trans h (by decide)
theorem rdT_zero {f : Addr} {fd : FuncData} {k : Nat} {ps : List Str} : FnOk P w K mg base (L2.CX P w) k f fd ps (spRdT K CT 0) := by
  have no : ∀ vs H Q E, ¬ spRdT K CT 0 vs H Q E := fun vs H Q E h => by
    obtain ⟨x, a, m, M, _, _, _, h, _⟩ := h
    omega
  exact ⟨fun vs H Q E h => absurd h (no vs H Q E), fun A outer s H args us vs Q E _ _ _ _ h => absurd h (no vs H Q E)⟩
end
end Fv


namespace Fv
open PySem PySem.Spec PyProof.Rows L2 FvX TL

def WR (K : PySem.W.Frag) (x : Str) (m : Nat) (v : V) (sg : Str) (L : Addr) (M : List Addr) (H : Hp) (R : Option (List PyData × Nat)) : Nat → L2.St → Hp → Prop := fun f σ H1 => ∃ (a : Nat) (acc : List PyData) (vs : List V) (y6 : Option V),
  σ = [some (.str x), some (.int (a : Nat)), some (.int (m : Nat)), some v, some (.str sg), some (.ref L), y6] ∧ H1 L = some (.lst vs) ∧ DpAll K (hide (L :: M) H1) vs acc ∧ 4 * acc.length ≤ a + 3 ∧ a ≤ x.length ∧ x.length + 1 - a ≤ f ∧
  rdL (rdP (tl x) m) (tl x) sg f a acc = R ∧ Same H H1
theorem in_sg (s : Str) : (!([PyData.str " & ", .str " | "] : List PyData).any fun z => PyData.eqv z (.str s)) = !decide (isSg s) := by
  congr 1
  simp only [List.any_cons, List.any_nil, Bool.or_false, PyData.eqv]
  rw [Bool.eq_iff_iff, decide_eq_true_eq, Bool.or_eq_true, beq_iff_eq, beq_iff_eq]
  exact ⟨fun h => h.imp Eq.symm Eq.symm, fun h => h.imp Eq.symm Eq.symm⟩
theorem sg_at {s : Str} (h : isSg s) : ∃ c, (tl s)[1]? = some c ∧ (⟨#[c]⟩ : Str) = sgn s := by
  rcases h with h | h <;> subst h
  · exact ⟨38, by decide +kernel, by decide +kernel⟩
  · exact ⟨124, by decide +kernel, by decide +kernel⟩
section
variable {P : Program} {w : World} {K : PySem.W.Frag} {mg : Str → Option Value} {base : Heap} {CT fI oS : Addr} {qual msg : Str} {q : ErrPos} {j1 j2 : Nat}
end
end Fv


namespace Fv
open PySem PySem.Spec PyProof.Rows L2 FvX TL

-- top 13  slots: 0:value 1:found
abbrev s_measured_long : Stmt := topS 13
abbrev N_measured_long : List Str := ["value", "found"]
theorem sc_measured_long : FnScope N_measured_long ["value"] (defScope s_measured_long) := ⟨rfl, rfl, rfl, by decide +kernel, rfl, by decide +kernel, by decide +kernel⟩


/-- what parse_term makes of a text -/
def prs (x : Str) : Option PyData := match rdT (rdP (tl x) 5) (tl x) 0 with
  | none => none
  | some (d, e) => if e < x.length ∨ tmB d = false then none else some d
def spParse (K : PySem.W.Frag) (CT : Addr) : Sp := fun vs H Q E => ∃ (x : Str) (M : List Addr), vs = [.str x] ∧ x.length ≤ 2900 ∧ PyData.strOk x = true ∧ Trk M H ∧
  (∀ d, prs x = some d → ∀ (H' : Hp) (v : V), Same H H' → Dp K (hide M H') v d → Q v H') ∧ (prs x = none → errAt CT "InvalidText" H E)
def spLong (K : PySem.W.Frag) (CT : Addr) : Sp := fun vs H Q E => ∃ (v : V) (d : PyData), vs = [v] ∧ Dp K H v d ∧ gd 20 d = true ∧
  (∀ dp sz, meas 9 d 600 = some (dp, sz) → ∀ (H' : Hp) (p : Addr), Same H H' → H' p = some (.tup [.int dp, .int sz]) → Q (.ref p) H') ∧ (meas 9 d 600 = none → errAt CT "InvalidTerm" H E)
def spFormat (K : PySem.W.Frag) (CT : Addr) : Sp := fun vs H Q E => ∃ (v : V) (d : PyData), vs = [v] ∧ Dp K H v d ∧ gd 20 d = true ∧
  ((meas 9 d 600).isSome = true → ∀ H', Same H H' → Q (.str (txt d)) H') ∧ (meas 9 d 600 = none → errAt CT "InvalidTerm" H E)
section
variable {P : Program} {w : World} {K : PySem.W.Frag} {mg : Str → Option Value} {base : Heap} {CT fI oS : Addr} {qual msg : Str} {q : ErrPos} {j1 j2 : Nat}
theorem ok_measured_long {f : Addr} {fd : FuncData} {k : Nat} (F : Fun K "measured_long" "measured_long" s_measured_long f fd) {t9 t6 : Tok} (g_LONG_DEPTH : mg "LONG_DEPTH" = some (.int 9 t9)) (g_LONG_SIZE : mg "LONG_SIZE" = some (.int 600 t6)) (hk : 1 ≤ k) (T_IT : ErrC P.main.file K CT fI qual q msg "InvalidTerm" j1 j2) (hline : LineOk q msg j1) (htop : (P.main.scope.names.lookup ("super" : Str)).isSome = false) (m_super : mg "super" = none) (g_IT : mg "InvalidTerm" = some (.ref CT))
    (C_measured : Own P w K mg base k "measured" ["value", "max_depth", "max_size"] (spMeas K 20)) :
    FnOk P w K mg base (L2.CX P w) (k + 1) f fd ["value"] (spLong K CT) := by
  refine F.okX sc_measured_long (fun vs H Q E h => ?_) (fun cdv A outer s H vs Q E hr h => ?_)
  · obtain ⟨v, d, rfl, _⟩ := h
    rfl
  · obtain ⟨v, d, rfl, hd, hg, o1, o2⟩ := h
    refine ⟨_, (pss_cons (ps_set (i := 1) sc_measured_long.nd rfl (by first | exact .inl rfl | exact .inr rfl) (pe_own C_measured (hr.mono (by omega)) (by rfl) (pa_cons (pv 0) (pa_cons (pe_glob (v := .int 9) (by rfl) g_LONG_DEPTH (⟨_, rfl⟩)) (pa_cons (pe_glob (v := .int 600) (by rfl) g_LONG_SIZE (⟨_, rfl⟩)) pa_nil)))))
      (pss_cons (ps_if (pt_cmpR op_isN (pv 1) pe_non (nomark _))
        (pss_one (ps_raise rfl (takes_of rfl rfl rfl rfl) (pmk_err0 (k := 0) T_IT hline htop m_super (hr.mono (by omega)) (by rfl) g_IT)))
        pss_nil)
      (pss_one (ps_ret (pv 1))))), ?_⟩
    refine ⟨_, rfl, v, d, 9, 600, rfl, hd, hg, by decide, by decide, fun e H' s' => ?_, fun dp sz e H' p s' hp => ?_⟩
    · refine ⟨_, rfl, rfl, _, rfl, iteT fun dd nd => ?_⟩
      exact o2 e _ dd (s'.trans (same_upd nd)) upd_same
    · exact ⟨_, rfl, rfl, _, rfl, iteF ⟨_, rfl, o1 dp sz e H' p s' hp⟩⟩
end
end Fv


namespace Fv
open PySem PySem.Spec PyProof.Rows L2 FvX TL
/-! ### values with their data; odd values -/
def GE (K : PySem.W.Frag) (n : Nat) (M : List Addr) (H : Hp) (v : V) (d : PyData) : Prop := Dp K (hide M H) v d ∧ gd n d = true
def GVN (K : PySem.W.Frag) (M : List Addr) (H : Hp) (v : V) : Prop := ∃ d, Dp K (hide M H) v d ∧ gd 12 d = true ∧ lmeas 9 d = 0
inductive GEs (K : PySem.W.Frag) (n : Nat) (M : List Addr) (H : Hp) : List V → List PyData → Prop where
  | nil : GEs K n M H [] []
  | cons {v d vs ds} (h : GE K n M H v d) (t : GEs K n M H vs ds) : GEs K n M H (v :: vs) (d :: ds)
section
variable {K : PySem.W.Frag} {n m : Nat} {M : List Addr} {H H' : Hp} {v : V} {d : PyData}
theorem GE.same (g : GE K n M H v d) (s : Same H H') : GE K n M H' v d := ⟨dp_same (SmX.of_same s).hid d v g.1, g.2⟩
theorem GE.up (g : GE K n M H v d) (h : n ≤ m) : GE K m M H v d := ⟨g.1, gd_le g.2 h⟩
theorem GE.str {x : Str} (h : gd 0 (.str x) = true) : GE K n M H (.str x) (.str x) := ⟨.str x, gd_le h (Nat.zero_le _)⟩
theorem GE.int (i : Int) : GE K n M H (.int i) (.int i) := ⟨.int i, gd_le (n := 0) rfl (Nat.zero_le _)⟩
theorem GE.bl (b : Bool) : GE K n M H (.bl b) (.bool b) := ⟨.bl b, gd_le (n := 0) rfl (Nat.zero_le _)⟩
theorem GE.non : GE K n M H .non .none := ⟨.non, gd_le (n := 0) rfl (Nat.zero_le _)⟩
theorem ges_all : ∀ {xs : List V} {ds : List PyData}, GEs K n M H xs ds → DpAll K (hide M H) xs ds ∧ ∀ d ∈ ds, gd n d = true
  | _, _, .nil => ⟨.nil, fun d h => nomatch h⟩
  | _, _, .cons h t => by
    obtain ⟨h1, h2⟩ := ges_all t
    refine ⟨.cons h.1 h1, fun e he => ?_⟩
    rcases List.mem_cons.mp he with z | z
    · rw [z]; exact h.2
    · exact h2 e z
theorem GE.tup {p : Addr} {xs : List V} {ds : List PyData} (hM : Trk M H) (np : H p = none) (h : GEs K n M H xs ds) (hl : xs.length ≤ 1000) : GE K (n + 1) M (upd H p (.tup xs)) (.ref p) (.tuple ds) := by
  obtain ⟨h1, h2⟩ := ges_all h
  exact ⟨.tup (SqT.of (hid_at hM np)) (dpAll_same (hid_new np) _ _ h1), gd_tup h2 (by rw [← dpAll_len h1]; exact hl)⟩
theorem GE.lst {p : Addr} {xs : List V} {ds : List PyData} (hM : Trk M H) (np : H p = none) (h : GEs K n M H xs ds) (hl : xs.length ≤ 1000) : GE K (n + 1) M (upd H p (.lst xs)) (.ref p) (.list ds) := by
  obtain ⟨h1, h2⟩ := ges_all h
  exact ⟨.lst (SqL.of (hid_at hM np)) (dpAll_same (hid_new np) _ _ h1), gd_lst h2 (by rw [← dpAll_len h1]; exact hl)⟩
theorem GVN.of (g : GE K n M H v d) (h : n ≤ 12) (z : lmeas 9 d = 0) : GVN K M H v := ⟨d, g.1, gd_le g.2 h, z⟩
end
theorem zp {o x : PyData} {ds : List PyData} (hx : x ∈ ds) (h : lmeas 8 x = 0) : lmeas 9 (.tuple (o :: ds)) = 0 := by
  have e : lmeas 9 (.tuple (o :: ds)) = if isCd (.tuple (o :: ds)) = true then (if (0 : Int) ∈ ds.map (lmeas 8) then 0 else (ds.map (lmeas 8)).sum) else 0 := by
    show (if isLd (.tuple (o :: ds)) = true then (1 : Int) else _) = _
    rw [if_neg (fun z => by cases z)]
    rfl
  rw [e, if_pos (List.mem_map.mpr ⟨x, hx, h⟩)]
  split <;> rfl
theorem zo {o : PyData} {ds : List PyData} (h : isOp o = false) : lmeas 9 (.tuple (o :: ds)) = 0 := by
  have e : lmeas 9 (.tuple (o :: ds)) = if isCd (.tuple (o :: ds)) = true then (if (0 : Int) ∈ ds.map (lmeas 8) then 0 else (ds.map (lmeas 8)).sum) else 0 := by
    show (if isLd (.tuple (o :: ds)) = true then (1 : Int) else _) = _
    rw [if_neg (fun z => by cases z)]
    rfl
  have e2 : isCd (.tuple (o :: ds)) = (decide (2 ≤ ds.length) && isOp o) := rfl
  rw [e, e2, h, Bool.and_false, if_neg (fun z => by cases z)]
def spOddN (K : PySem.W.Frag) : Sp := fun vs H Q _ => ∃ (a L : Addr) (ns : List Int) (v : V) (M : List Addr), vs = [.ref a, v] ∧ Src H a L ns ∧ GV K 9 M H v ∧ a ∈ M ∧ Trk M H ∧
  ∀ (H' : Hp) (v' : V), GVN K M H' v' → Src H' a L ns → SmX [a] H H' → Q v' H'
end Fv


namespace Fv
open PySem PySem.Spec PyProof.Rows L2 FvX TL
section
variable {P : Program} {w : World} {K : PySem.W.Frag} {mg : Str → Option Value} {base : Heap}
theorem ok_oddN {f : Addr} {fd : FuncData} {k : Nat} (F : Fun K "_law_odd" "_law_odd" s_law_odd f fd) (hk : 2 ≤ k)
    (C_law_pick : Own P w K mg base 2 "_law_pick" ["_law_source_here", "_law_row"] spPick)
    (C_law_nest : Own P w K mg base 1 "_law_nest" ["_law_many"] (spNest K)) :
    FnOk P w K mg base CX0 (k + 1) f fd ["_law_source_here", "_law_word"] (spOddN K) := by
  refine F.ok sc_law_odd (fun vs H Q E h => ?_) (fun cdv A outer s H vs Q E hr h => ?_)
  · obtain ⟨a, L, ns, v, M, rfl, _⟩ := h
    rfl
  · obtain ⟨a, L, ns, v, M, rfl, hs, gw, aM, t0, q⟩ := h
    obtain ⟨dw, hw1, hw2⟩ := gw
    have gw : GE K 9 M H v dw := ⟨hw1, hw2⟩
    have a0 : Same H H := Same.refl H
    refine ⟨_, (pss_cons (ps_set (i := 2) sc_law_odd.nd rfl (by first | exact .inl rfl | exact .inr rfl) (pe_lst (pa_cons pe_non (pa_cons pe_int (pa_cons pe_str (pa_cons pe_str (pa_cons pe_str (pa_cons pe_str (pa_cons (pe_tup pa_nil) (pa_cons (pe_tup (pa_cons pe_str pa_nil)) (pa_cons (pe_tup (pa_cons pe_str (pa_cons pe_str pa_nil))) (pa_cons (pe_tup (pa_cons pe_str (pa_cons pe_str (pa_cons pe_str pa_nil)))) (pa_cons (pe_tup (pa_cons pe_str (pa_cons pe_str (pa_cons pe_str pa_nil)))) (pa_cons (pe_lst (pa_cons pe_str (pa_cons pe_str (pa_cons pe_str pa_nil)))) pa_nil))))))))))))))
      (pss_cons (ps_set (i := 2) sc_law_odd.nd rfl (by first | exact .inl rfl | exact .inr rfl) (pe_op op_cat (pv 2) (pe_lst (pa_cons (pe_tup (pa_cons pe_str (pa_cons pe_str (pa_cons pe_non pa_nil)))) (pa_cons (pe_tup (pa_cons pe_str (pa_cons (pv 1) (pa_cons (pe_tup (pa_cons pe_str (pa_cons pe_str pa_nil))) pa_nil)))) (pa_cons (pe_tup (pa_cons (pv 1) pa_nil)) (pa_cons (pe_tup (pa_cons pe_str (pa_cons (pe_tup (pa_cons pe_str (pa_cons pe_str pa_nil))) (pa_cons (pv 1) pa_nil)))) (pa_cons (pe_tup (pa_cons pe_bl (pa_cons pe_str (pa_cons pe_str pa_nil)))) pa_nil))))))))
      (pss_cons (ps_set (i := 2) sc_law_odd.nd rfl (by first | exact .inl rfl | exact .inr rfl) (pe_op op_cat (pv 2) (pe_lst (pa_cons (pe_tup (pa_cons pe_str (pa_cons (pe_lst (pa_cons pe_str pa_nil)) (pa_cons (pv 1) pa_nil)))) (pa_cons (pe_tup (pa_cons pe_str (pa_cons (pv 1) (pa_cons pe_str pa_nil)))) (pa_cons (pe_tup (pa_cons pe_str (pa_cons (pv 1) (pa_cons (pv 1) pa_nil)))) (pa_cons (pe_tup (pa_cons (pe_tup (pa_cons pe_str (pa_cons pe_str (pa_cons pe_str pa_nil)))) (pa_cons pe_str (pa_cons pe_str pa_nil)))) (pa_cons (pe_own C_law_nest (hr.mono (by omega)) (by rfl) (pa_cons pe_int pa_nil)) pa_nil))))))))
      (pss_one (ps_ret (pe_own C_law_pick (hr.mono (by omega)) (by rfl) (pa_cons (pv 0) (pa_cons (pv 2) pa_nil)))))))), ?_⟩
    refine ⟨(by show 0 ≤ sizeLine; decide), fun p1 n1 => ?_⟩
    have s1 := same_upd (o := .tup []) n1
    have g1 : GE K 1 M _ (.ref p1) _ := GE.tup (n := 0) (xs := []) t0 n1 GEs.nil (Nat.le_of_ble_eq_true rfl)
    have a1 := a0.trans s1
    have t1 := t0.same s1
    refine ⟨(by show 1 ≤ sizeLine; decide), fun p2 n2 => ?_⟩
    have s2 := same_upd (o := .tup [.str "&"]) n2
    have g2 : GE K 1 M _ (.ref p2) _ := GE.tup (n := 0) (xs := [.str "&"]) t1 n2 (GEs.cons (GE.str (x := "&") (by decide +kernel)) GEs.nil) (Nat.le_of_ble_eq_true rfl)
    have a2 := a1.trans s2
    have t2 := t1.same s2
    refine ⟨(by show 2 ≤ sizeLine; decide), fun p3 n3 => ?_⟩
    have s3 := same_upd (o := .tup [.str "&", .str "a"]) n3
    have g3 : GE K 1 M _ (.ref p3) _ := GE.tup (n := 0) (xs := [.str "&", .str "a"]) t2 n3 (GEs.cons (GE.str (x := "&") (by decide +kernel)) (GEs.cons (GE.str (x := "a") (by decide +kernel)) GEs.nil)) (Nat.le_of_ble_eq_true rfl)
    have a3 := a2.trans s3
    have t3 := t2.same s3
    refine ⟨(by show 3 ≤ sizeLine; decide), fun p4 n4 => ?_⟩
    have s4 := same_upd (o := .tup [.str "|", .str "a", .str "z"]) n4
    have g4 : GE K 1 M _ (.ref p4) _ := GE.tup (n := 0) (xs := [.str "|", .str "a", .str "z"]) t3 n4 (GEs.cons (GE.str (x := "|") (by decide +kernel)) (GEs.cons (GE.str (x := "a") (by decide +kernel)) (GEs.cons (GE.str (x := "z") (by decide +kernel)) GEs.nil))) (Nat.le_of_ble_eq_true rfl)
    have a4 := a3.trans s4
    have t4 := t3.same s4
    refine ⟨(by show 3 ≤ sizeLine; decide), fun p5 n5 => ?_⟩
    have s5 := same_upd (o := .tup [.str "and", .str "a", .str "b"]) n5
    have g5 : GE K 1 M _ (.ref p5) _ := GE.tup (n := 0) (xs := [.str "and", .str "a", .str "b"]) t4 n5 (GEs.cons (GE.str (x := "and") (by decide +kernel)) (GEs.cons (GE.str (x := "a") (by decide +kernel)) (GEs.cons (GE.str (x := "b") (by decide +kernel)) GEs.nil))) (Nat.le_of_ble_eq_true rfl)
    have a5 := a4.trans s5
    have t5 := t4.same s5
    refine ⟨(by show 3 ≤ sizeLine; decide), fun p6 n6 => ?_⟩
    have s6 := same_upd (o := .lst [.str "&", .str "a", .str "b"]) n6
    have g6 : GE K 1 M _ (.ref p6) _ := GE.lst (n := 0) (xs := [.str "&", .str "a", .str "b"]) t5 n6 (GEs.cons (GE.str (x := "&") (by decide +kernel)) (GEs.cons (GE.str (x := "a") (by decide +kernel)) (GEs.cons (GE.str (x := "b") (by decide +kernel)) GEs.nil))) (Nat.le_of_ble_eq_true rfl)
    have a6 := a5.trans s6
    have t6 := t5.same s6
    refine ⟨(by show 12 ≤ sizeLine; decide), fun l1 nl1 => ?_⟩
    have s7 := same_upd (o := .lst [.non, .int 3, .str "", .str "i", .str "A", .str "ab", .ref p1, .ref p2, .ref p3, .ref p4, .ref p5, .ref p6]) nl1
    have a7 := a6.trans s7
    have t7 := t6.same s7
    refine ⟨_, rfl, ?_⟩
    refine ⟨(by show 3 ≤ sizeLine; decide), fun p8 n8 => ?_⟩
    have s8 := same_upd (o := .tup [.str "&", .str "a", .non]) n8
    have g8 : GE K 1 M _ (.ref p8) _ := GE.tup (n := 0) (xs := [.str "&", .str "a", .non]) t7 n8 (GEs.cons (GE.str (x := "&") (by decide +kernel)) (GEs.cons (GE.str (x := "a") (by decide +kernel)) (GEs.cons GE.non GEs.nil))) (Nat.le_of_ble_eq_true rfl)
    have a8 := a7.trans s8
    have t8 := t7.same s8
    refine ⟨_, rfl, ?_⟩
    refine ⟨(by show 2 ≤ sizeLine; decide), fun p9 n9 => ?_⟩
    have s9 := same_upd (o := .tup [.str "a", .str "b"]) n9
    have g9 : GE K 1 M _ (.ref p9) _ := GE.tup (n := 0) (xs := [.str "a", .str "b"]) t8 n9 (GEs.cons (GE.str (x := "a") (by decide +kernel)) (GEs.cons (GE.str (x := "b") (by decide +kernel)) GEs.nil)) (Nat.le_of_ble_eq_true rfl)
    have a9 := a8.trans s9
    have t9 := t8.same s9
    refine ⟨(by show 3 ≤ sizeLine; decide), fun p10 n10 => ?_⟩
    have s10 := same_upd (o := .tup [.str "&", v, .ref p9]) n10
    have g10 : GE K 10 M _ (.ref p10) _ := GE.tup (n := 9) (xs := [.str "&", v, .ref p9]) t9 n10 (GEs.cons (GE.str (x := "&") (by decide +kernel)) (GEs.cons (gw.same a9) (GEs.cons (g9.up (by decide)) GEs.nil))) (Nat.le_of_ble_eq_true rfl)
    have a10 := a9.trans s10
    have t10 := t9.same s10
    refine ⟨_, rfl, ?_⟩
    refine ⟨(by show 1 ≤ sizeLine; decide), fun p11 n11 => ?_⟩
    have s11 := same_upd (o := .tup [v]) n11
    have g11 : GE K 10 M _ (.ref p11) _ := GE.tup (n := 9) (xs := [v]) t10 n11 (GEs.cons (gw.same a10) GEs.nil) (Nat.le_of_ble_eq_true rfl)
    have a11 := a10.trans s11
    have t11 := t10.same s11
    refine ⟨(by show 2 ≤ sizeLine; decide), fun p12 n12 => ?_⟩
    have s12 := same_upd (o := .tup [.str "|", .str "b"]) n12
    have g12 : GE K 1 M _ (.ref p12) _ := GE.tup (n := 0) (xs := [.str "|", .str "b"]) t11 n12 (GEs.cons (GE.str (x := "|") (by decide +kernel)) (GEs.cons (GE.str (x := "b") (by decide +kernel)) GEs.nil)) (Nat.le_of_ble_eq_true rfl)
    have a12 := a11.trans s12
    have t12 := t11.same s12
    refine ⟨_, rfl, ?_⟩
    refine ⟨(by show 3 ≤ sizeLine; decide), fun p13 n13 => ?_⟩
    have s13 := same_upd (o := .tup [.str "&", .ref p12, v]) n13
    have g13 : GE K 10 M _ (.ref p13) _ := GE.tup (n := 9) (xs := [.str "&", .ref p12, v]) t12 n13 (GEs.cons (GE.str (x := "&") (by decide +kernel)) (GEs.cons (g12.up (by decide)) (GEs.cons (gw.same a12) GEs.nil))) (Nat.le_of_ble_eq_true rfl)
    have a13 := a12.trans s13
    have t13 := t12.same s13
    refine ⟨(by show 3 ≤ sizeLine; decide), fun p14 n14 => ?_⟩
    have s14 := same_upd (o := .tup [.bl true, .str "a", .str "b"]) n14
    have g14 : GE K 1 M _ (.ref p14) _ := GE.tup (n := 0) (xs := [.bl true, .str "a", .str "b"]) t13 n14 (GEs.cons (GE.bl _) (GEs.cons (GE.str (x := "a") (by decide +kernel)) (GEs.cons (GE.str (x := "b") (by decide +kernel)) GEs.nil))) (Nat.le_of_ble_eq_true rfl)
    have a14 := a13.trans s14
    have t14 := t13.same s14
    refine ⟨(by show 5 ≤ sizeLine; decide), fun m0 nm0 => ?_⟩
    have s15 := same_upd (o := .lst [.ref p8, .ref p10, .ref p11, .ref p13, .ref p14]) nm0
    have a15 := a14.trans s15
    have t15 := t14.same s15
    have hp0 : _ := (s8.trans (s9.trans (s10.trans (s11.trans (s12.trans (s13.trans (s14.trans s15))))))) _ _ (upd_same (o := .lst ([.non, .int 3, .str "", .str "i", .str "A", .str "ab", .ref p1, .ref p2, .ref p3, .ref p4, .ref p5, .ref p6])))
    refine ⟨l1, m0, _, _, rfl, rfl, hp0, upd_same, le1000 (Nat.le_of_ble_eq_true rfl), fun c0 nc0 => ?_⟩
    have s16 := same_upd (o := .lst ([.non, .int 3, .str "", .str "i", .str "A", .str "ab", .ref p1, .ref p2, .ref p3, .ref p4, .ref p5, .ref p6] ++ [.ref p8, .ref p10, .ref p11, .ref p13, .ref p14])) nc0
    have a16 := a15.trans s16
    have t16 := t15.same s16
    refine ⟨_, rfl, ?_⟩
    refine ⟨(by show 1 ≤ sizeLine; decide), fun p17 n17 => ?_⟩
    have s17 := same_upd (o := .lst [.str "a"]) n17
    have g17 : GE K 1 M _ (.ref p17) _ := GE.lst (n := 0) (xs := [.str "a"]) t16 n17 (GEs.cons (GE.str (x := "a") (by decide +kernel)) GEs.nil) (Nat.le_of_ble_eq_true rfl)
    have a17 := a16.trans s17
    have t17 := t16.same s17
    refine ⟨_, rfl, ?_⟩
    refine ⟨(by show 3 ≤ sizeLine; decide), fun p18 n18 => ?_⟩
    have s18 := same_upd (o := .tup [.str "|", .ref p17, v]) n18
    have g18 : GE K 10 M _ (.ref p18) _ := GE.tup (n := 9) (xs := [.str "|", .ref p17, v]) t17 n18 (GEs.cons (GE.str (x := "|") (by decide +kernel)) (GEs.cons (g17.up (by decide)) (GEs.cons (gw.same a17) GEs.nil))) (Nat.le_of_ble_eq_true rfl)
    have a18 := a17.trans s18
    have t18 := t17.same s18
    refine ⟨_, rfl, ?_⟩
    refine ⟨(by show 3 ≤ sizeLine; decide), fun p19 n19 => ?_⟩
    have s19 := same_upd (o := .tup [.str "&", v, .str ""]) n19
    have g19 : GE K 10 M _ (.ref p19) _ := GE.tup (n := 9) (xs := [.str "&", v, .str ""]) t18 n19 (GEs.cons (GE.str (x := "&") (by decide +kernel)) (GEs.cons (gw.same a18) (GEs.cons (GE.str (x := "") (by decide +kernel)) GEs.nil))) (Nat.le_of_ble_eq_true rfl)
    have a19 := a18.trans s19
    have t19 := t18.same s19
    refine ⟨_, rfl, ?_⟩
    refine ⟨_, rfl, ?_⟩
    refine ⟨(by show 3 ≤ sizeLine; decide), fun p20 n20 => ?_⟩
    have s20 := same_upd (o := .tup [.str "", v, v]) n20
    have g20 : GE K 10 M _ (.ref p20) _ := GE.tup (n := 9) (xs := [.str "", v, v]) t19 n20 (GEs.cons (GE.str (x := "") (by decide +kernel)) (GEs.cons (gw.same a19) (GEs.cons (gw.same a19) GEs.nil))) (Nat.le_of_ble_eq_true rfl)
    have a20 := a19.trans s20
    have t20 := t19.same s20
    refine ⟨(by show 3 ≤ sizeLine; decide), fun p21 n21 => ?_⟩
    have s21 := same_upd (o := .tup [.str "&", .str "a", .str "b"]) n21
    have g21 : GE K 1 M _ (.ref p21) _ := GE.tup (n := 0) (xs := [.str "&", .str "a", .str "b"]) t20 n21 (GEs.cons (GE.str (x := "&") (by decide +kernel)) (GEs.cons (GE.str (x := "a") (by decide +kernel)) (GEs.cons (GE.str (x := "b") (by decide +kernel)) GEs.nil))) (Nat.le_of_ble_eq_true rfl)
    have a21 := a20.trans s21
    have t21 := t20.same s21
    refine ⟨(by show 3 ≤ sizeLine; decide), fun p22 n22 => ?_⟩
    have s22 := same_upd (o := .tup [.ref p21, .str "a", .str "b"]) n22
    have g22 : GE K 2 M _ (.ref p22) _ := GE.tup (n := 1) (xs := [.ref p21, .str "a", .str "b"]) t21 n22 (GEs.cons g21 (GEs.cons (GE.str (x := "a") (by decide +kernel)) (GEs.cons (GE.str (x := "b") (by decide +kernel)) GEs.nil))) (Nat.le_of_ble_eq_true rfl)
    have a22 := a21.trans s22
    have t22 := t21.same s22
    refine ⟨10, M, rfl, by decide, t22, fun H23 p23 hd23 s23 => ?_⟩
    have a23 := a22.trans s23
    have t23 := t22.same s23
    have g23 : GE K 10 M H23 p23 (nestD 10) := ⟨hd23, nest_gd 10⟩
    refine ⟨(by show 5 ≤ sizeLine; decide), fun m1 nm1 => ?_⟩
    have s24 := same_upd (o := .lst [.ref p18, .ref p19, .ref p20, .ref p22, p23]) nm1
    have a24 := a23.trans s24
    have t24 := t23.same s24
    have hp1 : _ := (s17.trans (s18.trans (s19.trans (s20.trans (s21.trans (s22.trans (s23.trans s24))))))) _ _ (upd_same (o := .lst ([.non, .int 3, .str "", .str "i", .str "A", .str "ab", .ref p1, .ref p2, .ref p3, .ref p4, .ref p5, .ref p6] ++ [.ref p8, .ref p10, .ref p11, .ref p13, .ref p14])))
    refine ⟨c0, m1, _, _, rfl, rfl, hp1, upd_same, le1000 (Nat.le_of_ble_eq_true rfl), fun c1 nc1 => ?_⟩
    have s25 := same_upd (o := .lst (([.non, .int 3, .str "", .str "i", .str "A", .str "ab", .ref p1, .ref p2, .ref p3, .ref p4, .ref p5, .ref p6] ++ [.ref p8, .ref p10, .ref p11, .ref p13, .ref p14]) ++ [.ref p18, .ref p19, .ref p20, .ref p22, p23])) nc1
    have a25 := a24.trans s25
    have t25 := t24.same s25
    have z24 := s25
    have z23 := s24.trans z24
    have z22 := s23.trans z23
    have z21 := s22.trans z22
    have z20 := s21.trans z21
    have z19 := s20.trans z20
    have z18 := s19.trans z19
    have z17 := s18.trans z18
    have z16 := s17.trans z17
    have z15 := s16.trans z16
    have z14 := s15.trans z15
    have z13 := s14.trans z14
    have z12 := s13.trans z13
    have z11 := s12.trans z12
    have z10 := s11.trans z11
    have z9 := s10.trans z10
    have z8 := s9.trans z9
    have z7 := s8.trans z8
    have z6 := s7.trans z7
    have z5 := s6.trans z6
    have z4 := s5.trans z5
    have z3 := s4.trans z4
    have z2 := s3.trans z3
    have z1 := s2.trans z2
    have ga1 : ∀ y ∈ ([.non, .int 3, .str "", .str "i", .str "A", .str "ab", .ref p1, .ref p2, .ref p3, .ref p4, .ref p5, .ref p6] : List V), GVN K M _ y := (all_cons (GVN.of (n := 0) (GE.non) (by decide) (by decide +kernel)) (all_cons (GVN.of (n := 0) (GE.int _) (by decide) (by decide +kernel)) (all_cons (GVN.of (n := 0) (GE.str (x := "") (by decide +kernel)) (by decide) (by decide +kernel)) (all_cons (GVN.of (n := 0) (GE.str (x := "i") (by decide +kernel)) (by decide) (by decide +kernel)) (all_cons (GVN.of (n := 0) (GE.str (x := "A") (by decide +kernel)) (by decide) (by decide +kernel)) (all_cons (GVN.of (n := 0) (GE.str (x := "ab") (by decide +kernel)) (by decide) (by decide +kernel)) (all_cons (GVN.of (g1.same z1) (by decide) (by decide +kernel)) (all_cons (GVN.of (g2.same z2) (by decide) (by decide +kernel)) (all_cons (GVN.of (g3.same z3) (by decide) (by decide +kernel)) (all_cons (GVN.of (g4.same z4) (by decide) (by decide +kernel)) (all_cons (GVN.of (g5.same z5) (by decide) (by decide +kernel)) (all_cons (GVN.of (g6.same z6) (by decide) (by decide +kernel)) all_nil))))))))))))
    have ga2 : ∀ y ∈ ([.ref p8, .ref p10, .ref p11, .ref p13, .ref p14] : List V), GVN K M _ y := (all_cons (GVN.of (g8.same z8) (by decide) (by decide +kernel)) (all_cons (GVN.of (g10.same z10) (by decide) (zp (x := .tuple [.str "a", .str "b"]) (by simp) (by decide +kernel))) (all_cons (GVN.of (g11.same z11) (by decide) rfl) (all_cons (GVN.of (g13.same z13) (by decide) (zp (x := .tuple [.str "|", .str "b"]) (by simp) (by decide +kernel))) (all_cons (GVN.of (g14.same z14) (by decide) (by decide +kernel)) all_nil)))))
    have ga3 : ∀ y ∈ ([.ref p18, .ref p19, .ref p20, .ref p22, p23] : List V), GVN K M _ y := (all_cons (GVN.of (g18.same z18) (by decide) (zp (x := .list [.str "a"]) (by simp) (by decide +kernel))) (all_cons (GVN.of (g19.same z19) (by decide) (zp (x := .str "") (by simp) (by decide +kernel))) (all_cons (GVN.of (g20.same z20) (by decide) (zo (by decide +kernel))) (all_cons (GVN.of (g22.same z22) (by decide) (by decide +kernel)) (all_cons (GVN.of (g23.same z23) (by decide) (by decide +kernel)) all_nil)))))
    refine ⟨_, rfl, _, rfl, a, L, c1, ns, _, rfl, hs.same a25, (hs.ne (a24.free nc1)).symm, upd_same, Nat.le_of_ble_eq_true rfl, Nat.le_of_ble_eq_true rfl, fun H' y my hs' off' => ?_⟩
    have gy := all_app (all_app ga1 ga2) ga3 y my
    obtain ⟨d, h1, h2, h3⟩ := gy
    refine q H' y ⟨d, dp_same (SmX.at off' aM).hid d y h1, h2, h3⟩ hs' ((SmX.of_same a25).trans (SmX.at off' (List.mem_singleton.mpr rfl)))
end
end Fv


namespace Fv
open PySem PySem.Spec PyProof.Rows L2 FvX
-- top 23  slots: 0:_law_ask 1:_law_told 2:_law_word 3:e
abbrev s_law_call : Stmt := topS 23
abbrev N_law_call : List Str := ["_law_ask", "_law_told", "_law_word", "e"]
theorem sc_law_call : FnScope N_law_call ["_law_ask"] (defScope s_law_call) := ⟨rfl, rfl, rfl, by decide +kernel, rfl, by decide +kernel, by decide +kernel⟩

section
variable {X : Cx} {gf CF : Addr} {cdg : Value} {q : Str}
/-- _law_call: what the lambda gives, or the error's code -/
theorem call_gives (hF : X.mg "FaultError" = some (.ref CF)) : GivesS X N_law_call "_law_call" (defScope s_law_call) gf cdg (defBody s_law_call) "_law_ask" q (TCall X.K CF) := by
  intro lf lc s H Q tl act hc h
  refine ⟨_, pss_cons (ps_set (i := 1) sc_law_call.nd rfl (.inl rfl) pe_non) (pss_cons (ps_set (i := 2) sc_law_call.nd rfl (.inl rfl) pe_str)
    (pss_cons (ps_try_first (X := (cxOf C8.CX0 X.prog X.w X.K X.mg X.base N_law_call "_law_call" (defScope s_law_call) gf cdg X.A X.stack s H C8.E0).nox) (i := 3) (c := .ref CF)
      (tb := fun W D σ H => ∃ E : XK, (∀ cls d H', E cls d H' → W cls d σ H') ∧ σ[0]? = some (some (.ref lf)) ∧ H lc = some (LamX.CodeO lc q) ∧ tl E H (fun v H' => D.nx (σ.set 1 (some v)) H'))
      rfl rfl sc_law_call.nd rfl rfl ⟨rfl, by decide, .inl hF⟩ (fun W pn xe tk _ => ?_)
      (fun a oe cls d pn hz hf => pss_one (ps_set (i := 2) sc_law_call.nd rfl (.inl rfl) (pe_errf (i := 3) hz hf (pv 3)))))
    (pss_one (ps_ret (pe_tup (pa_cons (pv 1) (pa_cons (pv 2) pa_nil))))))), ?_⟩
  · refine ⟨fun pins s' σ H' D I hh => ?_⟩
    obtain ⟨E, hW, h1, h2, h3⟩ := hh
    exact (pss_one (ps_set (i := 1) sc_law_call.nd rfl (.inl rfl) (act W pn xe E _ _ tk))).run pins s' σ H' D I ⟨h1, h2, hW, h3⟩
  · refine ⟨fun cls d H' => ∃ (C dd : Addr) (fs : List (Str × V)) (v : V), cls = .ref C ∧ PySem.W.exmOne X.K cls (.ref CF) = some true ∧ XfC X.K C ∧ PySem.W.findIn X.K (.ref C) "code" = some none ∧ d = some dd ∧ H' dd = some (.xd fs) ∧ fs.lookup ("code" : Str) = some v ∧
      ∀ p, H' p = none → Q (.ref p) (upd H' p (.tup [.non, v])), fun cls d H' z => ?_, rfl, hc, h _ _ (fun v H' z => ?_) (fun C dd H' fs v h2 h3 h4 h6 h7 h8 => ⟨C, dd, fs, v, rfl, h2, h3, h4, rfl, h6, h7, h8⟩)⟩
    · obtain ⟨C, dd, fs, v, h1, h2, h3, h4, h5, h6, h7, h8⟩ := z
      refine ⟨h2, fun a na => ⟨rfl, C, dd, fs, v, h1, h3, h4, h5, h6, h7, ?_⟩⟩
      exact ⟨_, rfl, _, rfl, (by show 2 ≤ sizeLine; decide), h8⟩
    · exact ⟨_, rfl, _, rfl, (by show 2 ≤ sizeLine; decide), z⟩
end
end Fv


namespace Fv
open PySem PySem.Spec PyProof.Rows L2 FvX
/-! ### calls that never raise; calls by keywords of defs that may raise -/
theorem passE0 {P : Program} {w : World} {X : Cx} : Passes (L2.CX P w) X E0 := fun _ _ _ _ _ _ _ h => by
  obtain ⟨_, _, _, _, _, _, _, _, _, _, _, _, z⟩ := h
  exact z.elim
structure OwnKR (P : Program) (w : World) (K : PySem.W.Frag) (mg : Str → Option Value) (base : Heap) (k : Nat) (x : Str) (ps ks : List Str) (gV : List V → List V → List V) (sp : Sp) : Prop where
  ex : ∃ (f : Addr) (fd : FuncData) (g : List Value → List Value → List Value), mg x = some (.ref f) ∧ PySem.W.keepIn K (.ref f) = true ∧ KBn K fd ps 0 ks g gV ∧ FnOk P w K mg base (L2.CX P w) k f fd ps sp
theorem pe_ownKR0 {X : Cx} {k : Nat} {x : Str} {ps ks : List Str} {gV : List V → List V → List V} {sp : Sp} {E : XK} {tk : TA} {p pos : Pos} {kws : List Keyword} (C : OwnKR X.prog X.w X.K X.mg X.base k x ps ks gV sp) (hr : Room k X.A) (hg : Gl X x) (hx : Passes (L2.CX X.prog X.w) X E) (hkw : PK X kws tk)
    (hall : (backToKw pos (keywordEach kws X.env)).all (·.1.isSome) = true := by rfl) (hks : (backToKw pos (keywordEach kws X.env)).filterMap (·.1) = ks := by rfl)
    (hdb : (x == ("__debug__" : Str)) = false := by decide)
    (hpl : ((backTo pos (starEach [] X.env)).any (·.1) || (backToKw pos (keywordEach kws X.env)).any (·.1.isNone)) = false := by rfl) :
    PE X (.Call (.Name x p) [] kws pos) (tCallN 0 ks.length sp gV E tNil tk) := by
  obtain ⟨f, fd, g, h1, h2, h3, h4⟩ := C.ex
  refine ⟨fun pins s σ H Q I h => ?_⟩
  refine wpAny_Call_Name_kw (ld_glob I hg h1 ?_ hdb)
  refine PySem.W.callWith_KW0 (h₀ := X.base) I.ok.mod.kin h2 hall ?_ hpl
  refine thn (hkw.run pos pins s σ H _ I h) fun ws s2 ⟨zs, H2, I2, rz, l1, l2, q2⟩ => ⟨I2.kIn, ?_⟩
  rw [hks]
  exact run_fnN h4 hr h3 hx I2 .nil rz l1 l2 q2
/-! ### rules in the element of a comprehension: the written part is told -/
theorem op_in_seqK {X : Cx} {K : PySem.W.Frag} (hK : X.K = K) : OpR X (compareOp .In) (rIn K false) := by
  subst hK
  exact op_in_seq
end Fv


namespace Fv
open PySem PySem.Spec PyProof.Rows L2 FvX TL
/-! ### truth under a case -/
def tOr (dec : Bool) (vs : List (Option Bool)) : Option Bool := if some dec ∈ vs then some dec else if none ∈ vs then none else some (!dec)
def isBar : PyData → Bool
  | .str s => decide (s = "|")
  | _ => false
def tru (cs : Str → Option Bool) : Nat → PyData → Option Bool
  | 0, _ => none
  | _ + 1, .str x => cs x
  | n + 1, .tuple (o :: ds) => tOr (isBar o) (ds.map (tru cs n))
  | _ + 1, _ => none
def oV : Option Bool → V
  | none => .non
  | some b => .bl b
theorem inV_bl (b : Bool) : ∀ vs : List (Option Bool), inV (.bl b) (vs.map oV) = decide (some b ∈ vs)
  | [] => rfl
  | v :: vs => by
    have ih := inV_bl b vs
    unfold inV at ih ⊢
    rw [List.map_cons, List.any_cons, ih]
    cases v with
    | none => simp [oV, eqV]
    | some c => cases b <;> cases c <;> simp [oV, eqV]
theorem inV_non : ∀ vs : List (Option Bool), inV .non (vs.map oV) = decide (none ∈ vs)
  | [] => rfl
  | v :: vs => by
    have ih := inV_non vs
    unfold inV at ih ⊢
    rw [List.map_cons, List.any_cons, ih]
    cases v with
    | none => simp [oV, eqV]
    | some c => simp [oV, eqV]
theorem flat_oV (vs : List (Option Bool)) : (vs.map oV).all flatV = true := by
  rw [List.all_map]
  exact List.all_eq_true.mpr fun v _ => by cases v <;> rfl
theorem flat_o (v : Option Bool) : flatV (oV v) = true := by cases v <;> rfl
-- top 16  slots: 0:term 1:case 2:found 3:part 4:decisive
abbrev s_truth_under : Stmt := topS 16
abbrev N_truth_under : List Str := ["term", "case", "found", "part", "decisive"]
theorem sc_truth_under : FnScope N_truth_under ["term", "case"] (defScope s_truth_under) := ⟨rfl, rfl, rfl, by decide +kernel, rfl, by decide +kernel, by decide +kernel⟩

-- top 15  slots: 0:term 1:case
abbrev s_truth : Stmt := topS 15
abbrev N_truth : List Str := ["term", "case"]
theorem sc_truth : FnScope N_truth ["term", "case"] (defScope s_truth) := ⟨rfl, rfl, rfl, by decide +kernel, rfl, by decide +kernel, by decide +kernel⟩

-- top 27  slots: 0:_law_word 1:_law_case_now 2:_law_values 3:_law_one 4:_law_strong 5:_law_value
abbrev s_law_truth : Stmt := topS 27
abbrev N_law_truth : List Str := ["_law_word", "_law_case_now", "_law_values", "_law_one", "_law_strong", "_law_value"]
theorem sc_law_truth : FnScope N_law_truth ["_law_word", "_law_case_now"] (defScope s_law_truth) := ⟨rfl, rfl, rfl, by decide +kernel, rfl, by decide +kernel, by decide +kernel⟩

def caseOf (kvs : List (Key × V)) (cs : Str → Option Bool) : Prop := ∀ x, valV kvs (Sum.inr x) = (cs x).map V.bl
def spTru (K : PySem.W.Frag) (n : Nat) : Sp := fun vs H Q _ => ∃ (v : V) (c : Addr) (d : PyData) (m : Nat) (kvs : List (Key × V)) (cs : Str → Option Bool), vs = [v, .ref c] ∧ Dp K H v d ∧ gd 20 d = true ∧ m < n ∧ 1 ≤ lmeas m d ∧ H c = some (.dK kvs) ∧ caseOf kvs cs ∧
  ∀ H', Same H H' → Q (oV (tru cs m d)) H'
def spTruth (K : PySem.W.Frag) (CT : Addr) : Sp := fun vs H Q E => ∃ (v : V) (c : Addr) (d : PyData) (kvs : List (Key × V)) (cs : Str → Option Bool), vs = [v, .ref c] ∧ Dp K H v d ∧ gd 20 d = true ∧ H c = some (.dK kvs) ∧ caseOf kvs cs ∧
  ((meas 9 d 600).isSome = true → ∀ H', Same H H' → Q (oV (tru cs 9 d)) H') ∧ (meas 9 d 600 = none → errAt CT "InvalidTerm" H E)
theorem getD_case {kvs : List (Key × V)} {cs : Str → Option Bool} (h : caseOf kvs cs) (x : Str) : (valV kvs (Sum.inr x)).getD .non = oV (cs x) := by
  rw [h x]
  cases cs x <;> rfl
theorem bar_dec (o : Str) : decide (V.str o = V.str "|") = isBar (.str o) := by
  show _ = decide (o = "|")
  rw [Bool.eq_iff_iff, decide_eq_true_eq, decide_eq_true_eq]
  exact ⟨V.str.inj, congrArg V.str⟩
/-- the last two statements of a truth -/
theorem tOr_eq (dec : Bool) (vs : List (Option Bool)) : tOr dec vs = if some dec ∈ vs then some dec else if none ∈ vs then none else some (!dec) := rfl
theorem any_dec (dec : Bool) (vs : List (Option Bool)) : (vs.map fun v => !decide (oV v = V.non) && decide (oV v = V.bl dec)).any id = decide (some dec ∈ vs) := by
  induction vs with
  | nil => rfl
  | cons v vs ih =>
    rw [List.map_cons, List.any_cons, ih]
    cases v with
    | none => simp [oV]
    | some c => cases dec <;> cases c <;> simp [oV]
theorem any_isN (vs : List (Option Bool)) : (vs.map fun v => decide (oV v = V.non)).any id = decide (none ∈ vs) := by
  induction vs with
  | nil => rfl
  | cons v vs ih =>
    rw [List.map_cons, List.any_cons, ih]
    cases v <;> simp [oV]
section
variable {P : Program} {w : World} {K : PySem.W.Frag} {mg : Str → Option Value} {base : Heap} {CT : Addr}
theorem tru_zero {f : Addr} {fd : FuncData} {k : Nat} {ps : List Str} : FnOk P w K mg base CX0 k f fd ps (spTru K 0) := by
  have no : ∀ vs H Q E, ¬ spTru K 0 vs H Q E := fun vs H Q E h => by
    obtain ⟨v, c, d, m, kvs, cs, _, _, _, h, _⟩ := h
    omega
  exact ⟨fun vs H Q E h => absurd h (no vs H Q E), fun A outer s H args us vs Q E _ _ _ _ h => absurd h (no vs H Q E)⟩
theorem ok_truth_under {f : Addr} {fd : FuncData} {k n : Nat} (F : Fun K "truth_under" "truth_under" s_truth_under f fd) (hk : 1 ≤ k)
    (C_is_letter : Own P w K mg base 1 "is_letter" ["value"] (spIsLetter K))
    (C_truth_under : Own P w K mg base k "truth_under" ["term", "case"] (spTru K n)) :
    FnOk P w K mg base CX0 (k + 1) f fd ["term", "case"] (spTru K (n + 1)) := by
  refine F.ok sc_truth_under (fun vs H Q E h => ?_) (fun cdv A outer s H vs Q E hr h => ?_)
  · obtain ⟨v, c, d, m, kvs, cs, rfl, _⟩ := h
    rfl
  · obtain ⟨v, c, d, m, kvs, cs, rfl, hd, hg, hm, l1, hc, hcs, q⟩ := h
    refine ⟨_, (pss_cons (ps_if (pt_val (pe_own C_is_letter (hr.mono (by omega)) (by rfl) (pa_cons (pv 0) pa_nil)))
        (pss_one (ps_ret (pe_dget1 (hu_of hr) (pv 1) (pv 0) ⟨rfl, rfl, rfl, rfl⟩)))
        pss_nil)
      (pss_cons (ps_setLc (i := 2) (own := [("part", 3)]) (g := gName 3) (by rfl) sc_truth_under.nd rfl rfl (sw_true rfl rfl rfl (by decide +kernel)) (pi_tup (pe_slice sl_tup (pv 0) (po_some pe_int) po_none)) (blkOk_by (own := [("part", 3)]) (N := N_truth_under) (sc := defScope s_truth_under) (by decide +kernel)) (fun _ _ _ _ _ => pg_name (i := 3) sc_truth_under.nd rfl (Or.inl rfl)) (fun _ _ _ _ _ => pts_nil) (fun _ _ _ _ _ => (pe_own C_truth_under (hr.mono (by omega)) (by rfl) (pa_cons (pv 3) (pa_cons (pv 1) pa_nil)))))
      (pss_cons (ps_set (i := 4) sc_truth_under.nd rfl (by first | exact .inl rfl | exact .inr rfl) (pe_cmpR op_eq (pe_ix ix_tup (pv 0) pe_int (fun _ _ => rfl)) pe_str (nomark _)))
      (pss_cons (ps_if (pt_cmpR op_in_seq (pv 4) (pv 2) (by rfl))
        (pss_one (ps_ret (pv 4)))
        pss_nil)
      (pss_one (ps_ret (pe_ifExp (pt_cmpR op_in_seq pe_non (pv 2) (by rfl)) pe_non (pe_not (pv 4))))))))), ?_⟩
    cases m with
    | zero => simp only [lmeas] at l1; omega
    | succ m =>
    rcases lmeas_inv l1 with ⟨x, rfl, hx⟩ | ⟨o, ds, rfl, nl, ho, h2, all1, e⟩
    · cases hd
      refine ⟨_, rfl, _, _, rfl, .str x, hg, _, rfl, ?_⟩
      show if isL x = true then _ else _
      rw [if_pos hx]
      refine ⟨_, rfl, c, rfl, .inl ⟨kvs, .inl hc⟩, _, rfl, _, DGet.k (k := Sum.inr x) hc, ?_⟩
      rw [getD_case hcs]
      exact q H (Same.refl H)
    · cases hd with
      | @tup a xs _ hs ha =>
        cases ha with
        | @cons x0 xr _ _ h1 hA =>
        cases h1
        have hl := dpAll_len hA
        refine ⟨_, rfl, _, _, rfl, .tup hs (.cons (.str o) hA), hg, _, rfl, iteF ?_⟩
        refine ⟨_, rfl, 1, rfl, a, _, rfl, hs, ?_, fun p np => ?_⟩
        · rw [show HT.sIx (V.str o :: xr).length 0 (some 1) = min 1 (V.str o :: xr).length from HT.sIx_nat _ 0 1, List.length_cons]
          omega
        have ex : cutV (V.str o :: xr) (some 1) none = xr := by rw [cut_drop1]; rfl
        rw [ex]
        have sp := same_upd (o := .tup xr) np
        have gp := (gd_parts hg).2
        refine ⟨p, rfl, ⟨_, SqT.of upd_same⟩, fun D nD => lc_tup (xs := xr) (fun i H1 => Same (upd H p (.tup xr)) H1 ∧ H1 D = some (.lst (((ds.take i).map (tru cs m)).map oV))) ?_ ?_ ?_ ?_⟩
        · exact ⟨same_upd nD, by rw [upd_same]; rfl⟩
        · rintro i H1 hi ⟨sm, e1⟩
          exact SqT.of (sm _ _ upd_same)
        · rintro i x H1 hx ⟨sm, e1⟩
          obtain ⟨d', hd', hD'⟩ := dpAll_get hA hx
          have hDs : Dp K H1 x d' := dp_same (sp.trans sm) d' x hD'
          have md : d' ∈ ds := List.mem_of_getElem? hd'
          refine ⟨rfl, ?_⟩
          dsimp only [tYes]
          rw [if_pos rfl]
          refine ⟨_, rfl, _, rfl, x, c, d', m, kvs, cs, rfl, hDs, gd_le (gp d' md) (by decide), by omega, all1 d' md, (sp.trans sm) _ _ hc, hcs, fun H2 s2 => ?_⟩
          refine ⟨_, s2 _ _ e1, ?_, ?_, ?_⟩
          · rw [List.length_map, List.length_map, List.length_take]
            have lds := (gd_tuple hg).1
            rw [List.length_cons] at lds
            exact small1000 (by omega)
          · intro b o' eb
            have bD : b ≠ D := ne_of_none eb nD
            rw [upd_ne bD]
            exact s2 _ _ (sm _ _ eb)
          · rw [upd_same, List.take_add_one, hd']
            simp
        · rintro H1 ⟨sm, e1⟩
          have et : ds.take xr.length = ds := List.take_of_length_le (by omega)
          rw [et] at e1
          have q' := q H1 (sp.trans sm)
          have eq : tru cs (m + 1) (.tuple (.str o :: ds)) = tOr (isBar (.str o)) (ds.map (tru cs m)) := by simp only [tru]
          rw [eq, tOr_eq] at q'
          generalize ds.map (tru cs m) = vs at *
          refine ⟨_, rfl, a, _, _, _, rfl, rfl, same_seqT (sp.trans sm) hs, at0, rfl, ?_⟩
          rw [bar_dec]
          refine ⟨_, rfl, _, rfl, D, _, rfl, .inl (SqL.of e1), rfl, flat_oV _, _, rfl, ?_⟩
          show if inV (.bl (isBar (.str o))) (vs.map oV) = true then _ else _
          rw [inV_bl]
          refine ite2 (fun c => ?_) (fun c => ?_)
          · rw [if_pos (of_decide_eq_true c)] at q'
            exact ⟨_, rfl, q'⟩
          · rw [if_neg (of_decide_eq_false (Bool.eq_false_iff.mpr c))] at q'
            refine ⟨_, rfl, D, _, rfl, .inl (SqL.of e1), rfl, flat_oV _, _, rfl, ?_⟩
            show if inV .non (vs.map oV) = true then _ else _
            rw [inV_non]
            refine ite2 (fun c => ?_) (fun c => ?_)
            · rw [if_pos (of_decide_eq_true c)] at q'
              exact q'
            · rw [if_neg (of_decide_eq_false (Bool.eq_false_iff.mpr c))] at q'
              exact ⟨_, rfl, _, rfl, q'⟩
theorem ok_truth {f : Addr} {fd : FuncData} {k : Nat} (F : Fun K "truth" "truth" s_truth f fd)
    (C_measured_long : OwnR P w K mg base k "measured_long" (spLong K CT)) (C_truth_under : Own P w K mg base k "truth_under" ["term", "case"] (spTru K 10)) :
    FnOk P w K mg base (L2.CX P w) (k + 1) f fd ["term", "case"] (spTruth K CT) := by
  refine F.okX sc_truth (fun vs H Q E h => ?_) (fun cdv A outer s H vs Q E hr h => ?_)
  · obtain ⟨v, c, d, kvs, cs, rfl, _⟩ := h
    rfl
  · obtain ⟨v, c, d, kvs, cs, rfl, hd, hg, hc, hcs, o1, o2⟩ := h
    refine ⟨_, (pss_cons (ps_expr (pe_ownR C_measured_long (hr.mono (by omega)) (by rfl) passX (pa_cons (pv 0) pa_nil)))
      (pss_one (ps_ret (pe_own C_truth_under (hr.mono (by omega)) (by rfl) (pa_cons (pv 0) (pa_cons (pv 1) pa_nil)))))), ?_⟩
    refine ⟨_, rfl, v, d, rfl, hd, hg, fun dp sz e H' p s' hp => ?_, o2⟩
    have hm := meas_some 9 d 600
    rw [e] at hm
    have hm' := Bool.and_eq_true_iff.mp hm.symm
    have l1 := of_decide_eq_true hm'.1
    exact ⟨_, rfl, _, rfl, v, c, d, 9, kvs, cs, rfl, dp_same s' d v hd, hg, by decide, l1, s' _ _ hc, hcs, fun H2 s2 => o1 (by rw [e]; rfl) H2 (s'.trans s2)⟩
theorem ok_law_truth {f : Addr} {fd : FuncData} {k n : Nat} (F : Fun K "_law_truth" "_law_truth" s_law_truth f fd) (m_isinstance : mg "isinstance" = none) (m_str : mg "str" = none) (m_any : mg "any" = none)
    (C_law_truth : Own P w K mg base k "_law_truth" ["_law_word", "_law_case_now"] (spTru K n)) :
    FnOk P w K mg base CX0 (k + 1) f fd ["_law_word", "_law_case_now"] (spTru K (n + 1)) := by
  refine F.ok sc_law_truth (fun vs H Q E h => ?_) (fun cdv A outer s H vs Q E hr h => ?_)
  · obtain ⟨v, c, d, m, kvs, cs, rfl, _⟩ := h
    rfl
  · obtain ⟨v, c, d, m, kvs, cs, rfl, hd, hg, hm, l1, hc, hcs, q⟩ := h
    refine ⟨_, (pss_cons (ps_if (pt_val (pe_isD (T := "str") (by rfl) m_isinstance (by rfl) m_str (pv 0)))
        (pss_one (ps_ret (pe_ifExp (pt_cmp (pc_din (hu_of hr) (pv 0) (pv 1))) (pe_dget (hu_of hr) (pv 1) (pv 0) (fun _ _ => rfl)) pe_non)))
        pss_nil)
      (pss_cons (ps_setLc (i := 2) (own := [("_law_one", 3)]) (g := gName 3) (by rfl) sc_law_truth.nd rfl rfl (sw_true rfl rfl rfl (by decide +kernel)) (pi_tup (pe_slice sl_tup (pv 0) (po_some pe_int) po_none)) (blkOk_by (own := [("_law_one", 3)]) (N := N_law_truth) (sc := defScope s_law_truth) (by decide +kernel)) (fun _ _ _ _ _ => pg_name (i := 3) sc_law_truth.nd rfl (Or.inl rfl)) (fun _ _ _ _ _ => pts_nil) (fun _ _ _ _ _ => (pe_own C_law_truth (hr.mono (by omega)) (by rfl) (pa_cons (pv 3) (pa_cons (pv 1) pa_nil)))))
      (pss_cons (ps_set (i := 4) sc_law_truth.nd rfl (by first | exact .inl rfl | exact .inr rfl) (pe_cmpR op_eq (pe_ix ix_tup (pv 0) pe_int (fun _ _ => rfl)) pe_str (nomark _)))
      (pss_cons (ps_if (pt_val (pe_callB (cr_any rfl) (by rfl) m_any (by decide +kernel) (pa_cons (pe_lc (own := [("_law_value", 5)]) (g := gName 5) (by rfl) sc_law_truth.nd (pi_list (pv 2)) (blkOk_by (own := [("_law_value", 5)]) (N := N_law_truth) (sc := defScope s_law_truth) (by decide +kernel)) (fun _ _ _ _ _ => pg_name (i := 5) sc_law_truth.nd rfl (Or.inl rfl)) (fun _ _ _ _ _ => pts_nil) (fun _ _ _ _ _ => (pe_and (pe_cmpR op_notN (pv 5) pe_non (nomark _)) (pe_one (pe_cmpR op_eq (pv 5) (pv 4) (nomark _)))))) pa_nil)))
        (pss_one (ps_ret (pv 4)))
        pss_nil)
      (pss_one (ps_ret (pe_ifExp (pt_val (pe_callB (cr_any rfl) (by rfl) m_any (by decide +kernel) (pa_cons (pe_lc (own := [("_law_value", 5)]) (g := gName 5) (by rfl) sc_law_truth.nd (pi_list (pv 2)) (blkOk_by (own := [("_law_value", 5)]) (N := N_law_truth) (sc := defScope s_law_truth) (by decide +kernel)) (fun _ _ _ _ _ => pg_name (i := 5) sc_law_truth.nd rfl (Or.inl rfl)) (fun _ _ _ _ _ => pts_nil) (fun _ _ _ _ _ => (pe_cmpR op_isN (pv 5) pe_non (nomark _)))) pa_nil))) pe_non (pe_not (pv 4))))))))), ?_⟩
    cases m with
    | zero => simp only [lmeas] at l1; omega
    | succ m =>
    rcases lmeas_inv l1 with ⟨x, rfl, hx⟩ | ⟨o, ds, rfl, nl, ho, h2, all1, e⟩
    · cases hd
      have q' := q H (Same.refl H)
      have eq : tru cs (m + 1) (.str x) = cs x := by simp only [tru]
      rw [eq] at q'
      refine ⟨_, rfl, _, _, _, rfl, by decide, .str x, _, rfl, iteT ?_⟩
      refine ⟨_, rfl, _, rfl, c, _, rfl, DGet.k (k := Sum.inr x) hc, _, rfl, ?_⟩
      have hv := hcs x
      rw [hv]
      cases hx : cs x with
      | none =>
        rw [hx] at q'
        exact iteF q'
      | some b =>
        rw [hx] at q' hv
        refine iteT ⟨_, rfl, _, rfl, c, _, rfl, ?_, q'⟩
        have z := DGet.k (k := Sum.inr x) hc
        rw [hv] at z
        exact z
    · cases hd with
      | @tup a xs _ hs ha =>
        cases ha with
        | @cons x0 xr _ _ h1 hA =>
        cases h1
        have hl := dpAll_len hA
        refine ⟨_, rfl, _, _, .tuple (.str o :: ds), rfl, by decide, .tup hs (.cons (.str o) hA), _, rfl, iteF ?_⟩
        refine ⟨_, rfl, 1, rfl, a, _, rfl, hs, ?_, fun p np => ?_⟩
        · rw [show HT.sIx (V.str o :: xr).length 0 (some 1) = min 1 (V.str o :: xr).length from HT.sIx_nat _ 0 1, List.length_cons]
          omega
        have ex : cutV (V.str o :: xr) (some 1) none = xr := by rw [cut_drop1]; rfl
        rw [ex]
        have sp := same_upd (o := .tup xr) np
        have gp := (gd_parts hg).2
        have lds := (gd_tuple hg).1
        rw [List.length_cons] at lds
        refine ⟨p, rfl, ⟨_, SqT.of upd_same⟩, fun D nD => lc_tup (xs := xr) (fun i H1 => Same (upd H p (.tup xr)) H1 ∧ H1 D = some (.lst (((ds.take i).map (tru cs m)).map oV))) ?_ ?_ ?_ ?_⟩
        · exact ⟨same_upd nD, by rw [upd_same]; rfl⟩
        · rintro i H1 hi ⟨sm, e1⟩
          exact SqT.of (sm _ _ upd_same)
        · rintro i x H1 hx ⟨sm, e1⟩
          obtain ⟨d', hd', hD'⟩ := dpAll_get hA hx
          have hDs : Dp K H1 x d' := dp_same (sp.trans sm) d' x hD'
          have md : d' ∈ ds := List.mem_of_getElem? hd'
          refine ⟨rfl, ?_⟩
          dsimp only [tYes]
          rw [if_pos rfl]
          refine ⟨_, rfl, _, rfl, x, c, d', m, kvs, cs, rfl, hDs, gd_le (gp d' md) (by decide), by omega, all1 d' md, (sp.trans sm) _ _ hc, hcs, fun H2 s2 => ?_⟩
          refine ⟨_, s2 _ _ e1, ?_, ?_, ?_⟩
          · rw [List.length_map, List.length_map, List.length_take]
            exact small1000 (by omega)
          · intro b o' eb
            have bD : b ≠ D := ne_of_none eb nD
            rw [upd_ne bD]
            exact s2 _ _ (sm _ _ eb)
          · rw [upd_same, List.take_add_one, hd']
            simp
        · rintro H1 ⟨sm, e1⟩
          have et : ds.take xr.length = ds := List.take_of_length_le (by omega)
          rw [et] at e1
          have q1 := fun H2 (s2 : Same H1 H2) => q H2 ((sp.trans sm).trans s2)
          have eq : tru cs (m + 1) (.tuple (.str o :: ds)) = tOr (isBar (.str o)) (ds.map (tru cs m)) := by simp only [tru]
          rw [eq, tOr_eq] at q1
          have lvs : (ds.map (tru cs m)).length ≤ 1000 := by rw [List.length_map]; omega
          generalize ds.map (tru cs m) = vs at *
          refine ⟨_, rfl, a, _, _, _, rfl, rfl, same_seqT (sp.trans sm) hs, at0, rfl, ?_⟩
          rw [bar_dec]
          generalize isBar (.str o) = dec at *
          refine ⟨_, rfl, D, rfl, ⟨_, SqL.of e1⟩, fun D2 nD2 => lc_list (xs := vs.map oV) (fun i H2 => Same H1 H2 ∧ H2 D2 = some (.lst (((vs.take i).map fun v => !decide (oV v = V.non) && decide (oV v = V.bl dec)).map V.bl))) ?_ ?_ ?_ ?_⟩
          · exact ⟨same_upd nD2, by rw [upd_same]; rfl⟩
          · rintro i H2 hi ⟨s2, e2⟩
            exact SqL.of (s2 _ _ e1)
          · rintro i y H2 hy ⟨s2, e2⟩
            obtain ⟨v, hv, rfl⟩ : ∃ v, vs[i]? = some v ∧ oV v = y := by
              rw [List.getElem?_map] at hy
              cases hv : vs[i]? with
              | none => rw [hv] at hy; cases hy
              | some v => rw [hv] at hy; exact ⟨v, rfl, Option.some.inj hy⟩
            have fin : ∃ acc, H2 D2 = some (.lst acc) ∧ acc.length < sizeLine ∧ (Same H1 (upd H2 D2 (.lst (acc ++ [V.bl (!decide (oV v = V.non) && decide (oV v = V.bl dec))]))) ∧ upd H2 D2 (.lst (acc ++ [V.bl (!decide (oV v = V.non) && decide (oV v = V.bl dec))])) D2 = some (.lst (((vs.take (i + 1)).map fun v => !decide (oV v = V.non) && decide (oV v = V.bl dec)).map V.bl))) := by
              refine ⟨_, e2, ?_, fun b o' eb => ?_, ?_⟩
              · rw [List.length_map, List.length_map, List.length_take]; exact small1000 (by omega)
              · rw [upd_ne (ne_of_none eb nD2)]; exact s2 _ _ eb
              · rw [upd_same, List.take_add_one, hv]; simp
            refine ⟨rfl, ?_⟩
            dsimp only [tYes]
            rw [if_pos rfl]
            refine ⟨_, rfl, rfl, _, rfl, ?_⟩
            cases hn : decide (oV v = V.non) with
            | true =>
              rw [hn] at fin
              exact iteF fin
            | false =>
              rw [hn] at fin
              cases v with
              | none => cases hn
              | some c => exact iteT ⟨_, rfl, _, rfl, rfl, fin⟩
          · rintro H2 ⟨s2, e2⟩
            rw [List.length_map, List.take_length] at e2
            refine ⟨D2, _, rfl, SqL.of e2, _, rfl, ?_⟩
            rw [any_dec]
            have q2 := q1 H2 s2
            refine ite2 (fun c => ?_) (fun c => ?_)
            · rw [if_pos (of_decide_eq_true c)] at q2
              exact ⟨_, rfl, q2⟩
            · clear q2
              rw [if_neg (of_decide_eq_false (Bool.eq_false_iff.mpr c))] at q1
              refine ⟨_, rfl, D, rfl, ⟨_, SqL.of (s2 _ _ e1)⟩, fun D3 nD3 => lc_list (xs := vs.map oV) (fun i H3 => Same H2 H3 ∧ H3 D3 = some (.lst (((vs.take i).map fun v => decide (oV v = V.non)).map V.bl))) ?_ ?_ ?_ ?_⟩
              · exact ⟨same_upd nD3, by rw [upd_same]; rfl⟩
              · rintro i H3 hi ⟨s3, e3⟩
                exact SqL.of (s3 _ _ (s2 _ _ e1))
              · rintro i y H3 hy ⟨s3, e3⟩
                obtain ⟨v, hv, rfl⟩ : ∃ v, vs[i]? = some v ∧ oV v = y := by
                  rw [List.getElem?_map] at hy
                  cases hv : vs[i]? with
                  | none => rw [hv] at hy; cases hy
                  | some v => rw [hv] at hy; exact ⟨v, rfl, Option.some.inj hy⟩
                refine ⟨rfl, ?_⟩
                dsimp only [tYes]
                rw [if_pos rfl]
                refine ⟨_, rfl, rfl, _, e3, ?_, fun b o' eb => ?_, ?_⟩
                · rw [List.length_map, List.length_map, List.length_take]; exact small1000 (by omega)
                · rw [upd_ne (ne_of_none eb nD3)]; exact s3 _ _ eb
                · rw [upd_same, List.take_add_one, hv]; simp
              · rintro H3 ⟨s3, e3⟩
                rw [List.length_map, List.take_length] at e3
                refine ⟨D3, _, rfl, SqL.of e3, _, rfl, ?_⟩
                rw [any_isN]
                have q3 := q1 H3 (s2.trans s3)
                refine ite2 (fun c => ?_) (fun c => ?_)
                · rw [if_pos (of_decide_eq_true c)] at q3
                  exact q3
                · rw [if_neg (of_decide_eq_false (Bool.eq_false_iff.mpr c))] at q3
                  exact ⟨_, rfl, _, rfl, q3⟩
end
end Fv


namespace Fv
open PySem PySem.Spec PyProof.Rows L2 FvX
/-! ### dicts from texts to truth values -/
def kvB (ps : List (Str × Bool)) : List (Key × V) := ps.map fun p => (Sum.inr p.1, V.bl p.2)
def csB (ps : List (Str × Bool)) (x : Str) : Option Bool := (ps.find? fun p => decide (p.1 = x)).map (·.2)
theorem putK_new {kvs : List (Key × V)} {k : Key} {v : V} (h : ∀ kv ∈ kvs, kv.1 ≠ k) : putK kvs k v = kvs ++ [(k, v)] := by
  unfold putK
  rw [if_neg]
  intro z
  rw [List.any_eq_true] at z
  obtain ⟨kv, hk, e⟩ := z
  exact h kv hk (of_decide_eq_true e)
theorem merge_app : ∀ (more kvs : List (Key × V)), ((kvs ++ more).map (·.1)).Nodup → mergeK kvs more = kvs ++ more
  | [], kvs, _ => by rw [List.append_nil]; rfl
  | kv :: more, kvs, h => by
    have e : mergeK kvs (kv :: more) = mergeK (putK kvs kv.1 kv.2) more := rfl
    have h' : (((kvs ++ [kv]) ++ more).map (·.1)).Nodup := by rw [List.append_assoc]; exact h
    rw [e, putK_new, merge_app more (kvs ++ [kv]) h', List.append_assoc]
    · rfl
    · intro p hp z
      rw [List.map_append, List.map_cons] at h
      have := (List.nodup_append.mp h).2.2 p.1 (List.mem_map.mpr ⟨p, hp, rfl⟩) kv.1 (List.mem_cons_self ..)
      exact this z
theorem kvB_nodup {ps : List (Str × Bool)} (h : (ps.map (·.1)).Nodup) : ((kvB ps).map (·.1)).Nodup := by
  unfold kvB
  rw [List.map_map]
  have e : ps.map ((fun x : Key × V => x.1) ∘ fun p : Str × Bool => (Sum.inr p.1, V.bl p.2)) = (ps.map (·.1)).map (fun x => (Sum.inr x : Key)) := by
    rw [List.map_map]; rfl
  rw [e]
  exact List.Pairwise.map _ (fun a b hab z => hab (Sum.inr.inj z)) h
theorem merge_kvB {ps : List (Str × Bool)} (h : (ps.map (·.1)).Nodup) : mergeK [] (kvB ps) = kvB ps := by
  rw [merge_app _ _ (by rw [List.nil_append]; exact kvB_nodup h), List.nil_append]
theorem val_kvB : ∀ (ps : List (Str × Bool)) (x : Str), valV (kvB ps) (Sum.inr x) = (csB ps x).map V.bl
  | [], x => rfl
  | p :: ps, x => by
    have ih := val_kvB ps x
    unfold valV csB kvB at ih ⊢
    rw [List.map_cons, List.find?_cons, List.find?_cons]
    by_cases e : p.1 = x
    · rw [show decide ((Sum.inr p.1 : Key) = Sum.inr x) = true from decide_eq_true (congrArg _ e), decide_eq_true e]
      rfl
    · rw [show decide ((Sum.inr p.1 : Key) = Sum.inr x) = false from decide_eq_false (fun z => e (Sum.inr.inj z)), decide_eq_false e]
      exact ih
theorem cs_mem : ∀ {ps : List (Str × Bool)}, (ps.map (·.1)).Nodup → ∀ p ∈ ps, csB ps p.1 = some p.2
  | q :: ps, h, p, hp => by
    rw [List.map_cons, List.nodup_cons] at h
    unfold csB
    rw [List.find?_cons]
    rcases List.mem_cons.mp hp with e | e
    · subst e
      rw [decide_eq_true rfl]
      rfl
    · rw [decide_eq_false (fun z : q.1 = p.1 => h.1 (by rw [z]; exact List.mem_map.mpr ⟨p, e, rfl⟩))]
      exact cs_mem h.2 p e
theorem kvB_all {ps : List (Str × Bool)} (h : (ps.map (·.1)).Nodup) : ∀ p ∈ kvB ps, valV (kvB ps) p.1 = some p.2 ∧ flatB p.2 = true := fun p hp => by
  obtain ⟨q, hq, rfl⟩ := List.mem_map.mp hp
  exact ⟨by rw [val_kvB, cs_mem h q hq]; rfl, rfl⟩
/-! ### pairs that stay -/
theorem paired_smx {M : List Addr} {H H' : Hp} (s : SmX M H H') (hM : ∀ b ∈ M, ∃ xs, H b = some (.lst xs)) : ∀ {ps : List Addr} {kvs : List (Key × V)}, Paired (fun p kv => H p = some (.tup [kV kv.1, kv.2])) ps kvs → Paired (fun p kv => H' p = some (.tup [kV kv.1, kv.2])) ps kvs
  | _, _, .nil => .nil
  | _, _, .cons h t => .cons (s _ _ (fun hb => by
      obtain ⟨xs, e⟩ := hM _ hb
      rw [h] at e
      cases e) h) (paired_smx s hM t)
theorem paired_sqT {K : PySem.W.Frag} {H : Hp} : ∀ {ps : List Addr} {kvs : List (Key × V)}, Paired (fun p kv => H p = some (.tup [kV kv.1, kv.2])) ps kvs → Paired (fun p kv => SqT K H p [kV kv.1, kv.2]) ps kvs
  | _, _, .nil => .nil
  | _, _, .cons h t => .cons (SqT.of h) (paired_sqT t)
theorem paired_len {α β : Type} {F : α → β → Prop} : ∀ {ps : List α} {kvs : List β}, Paired F ps kvs → ps.length = kvs.length
  | _, _, .nil => rfl
  | _, _, .cons _ t => by rw [List.length_cons, List.length_cons, paired_len t]
/-! ### rows of texts -/
theorem lett_strs0 : ∀ {ys : List V}, (∀ y ∈ ys, lett y) → ∃ ss : List Str, ys = ss.map V.str ∧ ∀ x ∈ ss, x ∈ (["a", "b", "c", "d", "e", "f", "g", "h"] : List Str)
  | [], _ => ⟨[], rfl, fun x hx => nomatch hx⟩
  | y :: ys, h => by
    obtain ⟨x, rfl, hx⟩ := lett_data (h y (List.mem_cons_self ..))
    obtain ⟨ss, e, hs⟩ := lett_strs0 fun z hz => h z (List.mem_cons_of_mem _ hz)
    refine ⟨x :: ss, by rw [e]; rfl, fun z hz => ?_⟩
    rcases List.mem_cons.mp hz with q | q
    · rw [q]; exact hx
    · exact hs z q
theorem lett_strs {ys : List V} (h : ∀ y ∈ ys, lett y) (nd : ys.Nodup) : ∃ ss : List Str, ys = ss.map V.str ∧ ss.Nodup ∧ ∀ x ∈ ss, x ∈ (["a", "b", "c", "d", "e", "f", "g", "h"] : List Str) := by
  obtain ⟨ss, e, hs⟩ := lett_strs0 h
  refine ⟨ss, e, ?_, hs⟩
  rw [e] at nd
  exact List.Pairwise.of_map V.str (fun a b hab z => hab (congrArg V.str z)) nd
theorem inV_strs (x : Str) : ∀ ss : List Str, inV (.str x) (ss.map V.str) = decide (x ∈ ss)
  | [] => rfl
  | s :: ss => by
    have ih := inV_strs x ss
    unfold inV at ih ⊢
    rw [List.map_cons, List.any_cons, ih]
    show ((s == x) || decide (x ∈ ss)) = decide (x ∈ s :: ss)
    by_cases e : s = x
    · subst e; simp
    · have e1 : (s == x) = false := beq_eq_false_iff_ne.mpr e
      rw [e1, Bool.false_or]
      simp [List.mem_cons, show ¬ x = s from fun z => e z.symm]
theorem flat_strs (ss : List Str) : (ss.map V.str).all flatV = true := by
  rw [List.all_map]
  exact List.all_eq_true.mpr fun _ _ => rfl
end Fv


namespace Fv
open PySem PySem.Spec PyProof.Rows L2 FvX TL
-- top 30  slots: 0:_law_script 1:_law_source_here 2:_law_turn 3:_law_word 4:_law_some 5:_law_sign 6:_law_case_now 7:_law_kept 8:_law_full 9:_law_odd_here
abbrev s_law : Stmt := topS 30
abbrev N_law : List Str := ["_law_script", "_law_source_here", "_law_turn", "_law_word", "_law_some", "_law_sign", "_law_case_now", "_law_kept", "_law_full", "_law_odd_here"]
theorem sc_law : FnScope N_law ["_law_script"] (defScope s_law) := ⟨rfl, rfl, rfl, by decide +kernel, rfl, by decide +kernel, by decide +kernel⟩

def bD : Option Bool → PyData
  | none => .none
  | some b => .bool b
theorem dp_oV {K : PySem.W.Frag} {H : Hp} (t : Option Bool) : Dp K H (oV t) (bD t) := by
  cases t with
  | none => exact .non
  | some b => exact .bl b
theorem gd_bD (n : Nat) (t : Option Bool) : gd n (bD t) = true := by
  refine gd_le (n := 0) ?_ (Nat.zero_le _)
  cases t <;> rfl
theorem tru_open {cs : Str → Option Bool} (hc : ∀ x, cs x = none) : ∀ (m : Nat) (d : PyData), 1 ≤ lmeas m d → tru cs m d = none
  | 0, d, h => by simp only [lmeas] at h; omega
  | m + 1, d, h => by
    rcases lmeas_inv h with ⟨x, rfl, hx⟩ | ⟨o, ds, rfl, nl, ho, h2, all1, e⟩
    · simp only [tru]; exact hc x
    · have all : ∀ t ∈ ds.map (tru cs m), t = none := fun t ht => by
        obtain ⟨d, hd, rfl⟩ := List.mem_map.mp ht
        exact tru_open hc m d (all1 d hd)
      simp only [tru]
      rw [tOr_eq, if_neg (fun z => by have := all _ z; cases this), if_pos]
      cases ds with
      | nil => simp at h2
      | cons d ds =>
        rw [List.map_cons, all (tru cs m d) (List.mem_map.mpr ⟨d, List.mem_cons_self .., rfl⟩)]
        exact List.mem_cons_self ..
theorem lmeas_up9 {n : Nat} {d : PyData} (h : 1 ≤ lmeas n d) {m : Nat} (hm : n ≤ m) : lmeas m d = lmeas n d := by
  induction hm with
  | refl => rfl
  | step _ ih => rw [lmeas_up _ _ (by rw [ih]; exact h), ih]
theorem nest8 : ∀ n, n < 8 → 1 ≤ lmeas 8 (nestD n) ∧ lmeas 8 (nestD n) ≤ 9 := by decide +kernel
def LL : List Str := ["a", "b", "c", "d", "e", "f", "g", "h"]
theorem LL_eq : LL = (tl "abcdefgh").map fun c => (⟨#[c]⟩ : Str) := by decide +kernel
theorem LL_at {i c : Nat} (h : ("abcdefgh" : Str).cps[i]? = some c) : LL[i]? = some ⟨#[c]⟩ := by
  have h' : (tl "abcdefgh")[i]? = some c := by
    rw [← h]
    exact Array.getElem?_toList ..
  rw [LL_eq, List.getElem?_map, h']
  rfl
theorem vs1' {i : Int} {n : Nat} (h : i = (n : Nat)) : [V.int i] = [V.int (n : Nat)] := by rw [h]
section
variable {P : Program} {w : World} {K : PySem.W.Frag} {mg : Str → Option Value} {base : Heap} {CT CF : Addr}
set_option maxHeartbeats 800000 in
theorem ok_law {f c Pt gcall : Addr} {oc oc2 : Value} {od an od2 an2 : Option Addr} {osl osl2 : Array (Option Value)} {kW doc pm ct kW2 doc2 pm2 cdv2 ct2 : Value} {k : Nat} (hk : 32 ≤ k)
    (lk : K.lookup f = some ⟨oc, od, .func (PySem.W.fnOf "law" "law" (defArgs s_law) (defBody s_law) (defScope s_law) .none kW doc pm an (.ref c) ct), osl⟩) (hcd : PySem.W.codeIn K (.ref c) "law" = true) (TB : LamX.TabB base mg c Pt)
    (m_range : mg "range" = none) (m_list : mg "list" = none) (m_dict : mg "dict" = none)
    (l_call : K.lookup gcall = some ⟨oc2, od2, .func (PySem.W.fnOf "_law_call" "_law_call" (defArgs s_law_call) (defBody s_law_call) (defScope s_law_call) .none kW2 doc2 pm2 an2 cdv2 ct2), osl2⟩) (c_call : PySem.W.codeIn K cdv2 "_law_call" = true) (k_call : PySem.W.keepIn K (.ref gcall) = true) (g_call : mg "_law_call" = some (.ref gcall))
    (b_call : Binds K (PySem.W.fnOf "_law_call" "_law_call" (defArgs s_law_call) (defBody s_law_call) (defScope s_law_call) .none kW2 doc2 pm2 an2 cdv2 ct2) ["_law_ask"] []) (g_FE : mg "FaultError" = some (.ref CF))
    (exm : PySem.W.exmOne K (.ref CT) (.ref CF) = some true) (xf : XfC K CT) (fnd : PySem.W.findIn K (.ref CT) "code" = some none)
    (C_law_source : Own P w K mg base 1 "_law_source" ["_law_script"] (spSource K))
    (C_law_take : Own P w K mg base 1 "_law_take" ["_law_source_here", "_law_many"] spTake)
    (C_law_mixed : Own P w K mg base 2 "_law_mixed" ["_law_source_here", "_law_row"] spMixed)
    (C_law_any_term : Own P w K mg base 8 "_law_any_term" ["_law_source_here"] (spAnyTerm K))
    (C_law_nest : Own P w K mg base 1 "_law_nest" ["_law_many"] (spNest K))
    (C_law_odd : Own P w K mg base 3 "_law_odd" ["_law_source_here", "_law_word"] (spOddN K))
    (C_law_same : Own P w K mg base 25 "_law_same" ["_law_found", "_law_due"] (spSame K 25))
    (C_law_truth : Own P w K mg base 10 "_law_truth" ["_law_word", "_law_case_now"] (spTru K 10))
    (C_truth : OwnR P w K mg base 26 "truth" (spTruth K CT)) (K_truth : OwnKR P w K mg base 26 "truth" ["term", "case"] ["term", "case"] (fun vs zs => vs ++ zs) (spTruth K CT)) :
    FnOk P w K mg base CX0 (k + 1) f (PySem.W.fnOf "law" "law" (defArgs s_law) (defBody s_law) (defScope s_law) .none kW doc pm an (.ref c) ct) ["_law_script"] (spLawT K Pt) := by
  refine okC lk hcd sc_law (fun vs H Q E h => ?_) (fun A outer s H vs Q E hr h => ?_)
  · obtain ⟨a, ns, rfl, _⟩ := h
    rfl
  · obtain ⟨sc, ns, rfl, hS, h63, hPt, q⟩ := h
    refine ⟨_, (pss_cons (ps_set (i := 1) sc_law.nd rfl (by first | exact .inl rfl | exact .inr rfl) (pe_own C_law_source (hr.mono (by omega)) (by rfl) (pa_cons (pv 0) pa_nil)))
      (pss_cons (ps_for PassesOwn.never rfl (pi_range1 (by rfl) m_range (pa_cons pe_int pa_nil)) (pg_name (i := 2) sc_law.nd rfl (by first | exact .inl rfl | exact .inr rfl))
        (pss_cons (ps_set (i := 3) sc_law.nd rfl (by first | exact .inl rfl | exact .inr rfl) (pe_own C_law_any_term (hr.mono (by omega)) (by rfl) (pa_cons (pv 1) pa_nil)))
        (C8.pss_cut (ps_if (pt_cmpR op_eq (pe_own C_law_take (hr.mono (by omega)) (by rfl) (pa_cons (pv 1) (pa_cons pe_int pa_nil))) pe_int (nomark _))
          (pss_one (ps_set (i := 3) sc_law.nd rfl (by first | exact .inl rfl | exact .inr rfl) (pe_tup (pa_cons pe_str (pa_cons (pv 3) (pa_cons (pe_own C_law_nest (hr.mono (by omega)) (by rfl) (pa_cons (pe_own C_law_take (hr.mono (by omega)) (by rfl) (pa_cons (pv 1) (pa_cons pe_int pa_nil))) pa_nil)) pa_nil))))))
          pss_nil)
        (pss_cons (ps_set (i := 4) sc_law.nd rfl (by first | exact .inl rfl | exact .inr rfl) (pe_lc (own := [("_law_sign", 5)]) (g := gName 5) (by rfl) sc_law.nd (pi_list (pe_own C_law_mixed (hr.mono (by omega)) (by rfl) (pa_cons (pv 1) (pa_cons (pe_callTy (call_listStr hr.hd) (by rfl) m_list (by decide +kernel) (pa_cons pe_str pa_nil)) pa_nil)))) (blkOk_by (own := [("_law_sign", 5)]) (N := N_law) (sc := defScope s_law) (by decide +kernel)) (fun _ _ _ _ _ => pg_name (i := 5) sc_law.nd rfl (Or.inl rfl)) (fun _ _ _ _ _ => pts_one (pt_cmpR op_gt (pe_own C_law_take (hr.mono (by omega)) (by rfl) (pa_cons (pv 1) (pa_cons pe_int pa_nil))) pe_int (nomark _))) (fun _ _ _ _ _ => (pv 5))))
        (pss_cons (ps_set (i := 6) sc_law.nd rfl (by first | exact .inl rfl | exact .inr rfl) (pe_callTy (call_dictP rfl) (by rfl) m_dict (by decide +kernel) (pa_cons (pe_lc (own := [("_law_sign", 5)]) (g := gName 5) (by rfl) sc_law.nd (pi_list (pv 4)) (blkOk_by (own := [("_law_sign", 5)]) (N := N_law) (sc := defScope s_law) (by decide +kernel)) (fun _ _ _ _ _ => pg_name (i := 5) sc_law.nd rfl (Or.inl rfl)) (fun _ _ _ _ _ => pts_nil) (fun _ _ _ _ _ => (pe_tup (pa_cons (pv 5) (pa_cons (pe_cmpR op_eq (pe_own C_law_take (hr.mono (by omega)) (by rfl) (pa_cons (pv 1) (pa_cons pe_int pa_nil))) pe_int (nomark _)) pa_nil))))) pa_nil)))
        (pss_cons (ps_set (i := 7) sc_law.nd rfl (by first | exact .inl rfl | exact .inr rfl) (pe_callTy call_dictD (by rfl) m_dict (by decide +kernel) (pa_cons (pv 6) pa_nil)))
        (pss_cons (ps_if (pt_not (pt_val (pe_own C_law_same (hr.mono (by omega)) (by rfl) (pa_cons (pe_lst (pa_cons (pe_ownR C_truth (hr.mono (by omega)) (by rfl) passE0 (pa_cons (pv 3) (pa_cons (pv 6) pa_nil))) (pa_cons (pe_ownKR0 K_truth (hr.mono (by omega)) (by rfl) passE0 (pk_cons (pv 3) (pk_cons pe_dnewK pk_nil))) pa_nil))) (pa_cons (pe_lst (pa_cons (pe_own C_law_truth (hr.mono (by omega)) (by rfl) (pa_cons (pv 3) (pa_cons (pv 7) pa_nil))) (pa_cons pe_non pa_nil))) pa_nil)))))
          (pss_one (ps_ret pe_bl))
          pss_nil)
        (pss_cons (ps_set (i := 8) sc_law.nd rfl (by first | exact .inl rfl | exact .inr rfl) (pe_callTy (call_dictP rfl) (by rfl) m_dict (by decide +kernel) (pa_cons (pe_lc (own := [("_law_sign", 5)]) (g := gName 5) (by rfl) sc_law.nd (pi_str pe_str) (blkOk_by (own := [("_law_sign", 5)]) (N := N_law) (sc := defScope s_law) (by decide +kernel)) (fun _ _ _ _ _ => pg_name (i := 5) sc_law.nd rfl (Or.inl rfl)) (fun _ _ _ _ _ => pts_nil) (fun _ _ _ _ _ => (pe_tup (pa_cons (pv 5) (pa_cons (pe_cmpR (op_in_seqK (K := K) rfl) (pv 5) (pv 4) (by rfl)) pa_nil))))) pa_nil)))
        (pss_cons (ps_if (PW.pt (pw_or (pt_not (pt_val (pe_own C_law_same (hr.mono (by omega)) (by rfl) (pa_cons (pe_ownR C_truth (hr.mono (by omega)) (by rfl) passE0 (pa_cons (pv 3) (pa_cons (pv 8) pa_nil))) (pa_cons (pe_own C_law_truth (hr.mono (by omega)) (by rfl) (pa_cons (pv 3) (pa_cons (pv 8) pa_nil))) pa_nil))))) (pw_or1 (pt_cmpR (op_ne_dictA (Nat.lt_of_succ_lt (hu_of hr))) (pv 6) (pv 7) (nomark _)))))
          (pss_one (ps_ret pe_bl))
          pss_nil)
        (pss_cons (ps_set (i := 9) sc_law.nd rfl (by first | exact .inl rfl | exact .inr rfl) (pe_own C_law_odd (hr.mono (by omega)) (by rfl) (pa_cons (pv 1) (pa_cons (pv 3) pa_nil))))
        (pss_one (ps_if (pt_cmpR (op_neD hr.units) (pe_lamS (T := TT0 Pt) (TT := TCall K CF) (Ng := N_law_call) (k := 30) (by rfl) g_call k_call l_call c_call b_call sc_law_call rfl (.inl rfl) (call_gives g_FE) TB rfl (List.mem_singleton.mpr rfl) (fun p hp _ => by rw [List.mem_singleton.mp hp]; rfl) (hr.mono (by omega)) (LamX.lamS_by (sc := defScope s_law) (by decide +kernel)) rfl (fun _ _ _ _ _ => rfl) (fun A outer s H E lf lc hr2 => pe_ownR C_truth (hr2.mono (by omega)) (by rfl) (passes_call (takes_of rfl rfl rfl rfl) (fun _ _ _ _ h => h)) (pa_cons (pv 9) (pa_cons (pv 8) pa_nil)))) (pe_tup (pa_cons pe_non (pa_cons pe_str pa_nil))) (nomark _))
          (pss_one (ps_ret pe_bl))
          pss_nil))))))))))))
      (pss_one (ps_ret pe_bl)))), ?_⟩
    have tab0 : LamX.Tabs (TT0 Pt) H := fun p hp => by
      rw [List.mem_singleton.mp hp]
      exact LamX.TabS.nil hPt
    refine ⟨_, rfl, sc, ns, rfl, hS, h63, fun H0 a L s0 na nL hs0 => ?_⟩
    have ma : ∀ {a : Addr}, a ∈ [a] := List.mem_singleton.mpr rfl
    have nn : ∀ {α : Option (Int × Int)}, α.isSome = true → α = none → False := fun {α} h e => by rw [e] at h; cases h
    refine ⟨8, rfl, by decide, by decide, for_range (lo := 0) (n := (8 : Int).toNat) (fun i σ Hi => ∃ y2 y3 y4 y5 y6 y7 y8 y9 : Option V, σ = [some (.ref sc), some (.ref a), y2, y3, y4, y5, y6, y7, y8, y9] ∧ Src Hi a L ns ∧ LamX.Tabs (TT0 Pt) Hi) ?_ ?_ ?_⟩
    · exact ⟨none, none, none, none, none, none, none, none, rfl, hs0, tabs_same tab0 s0⟩
    · rintro i σ Hi hi ⟨y2, y3, y4, y5, y6, y7, y8, y9, rfl, hsi, ti⟩
      refine ⟨_, rfl, a, L, ns, [a], rfl, hsi, ma, hsi.trk, fun H1 v0 d0 n hd0 n1 n5 l1 l24 hg0 hs1 sm1 => ?_⟩
      have t1 : LamX.Tabs (TT0 Pt) H1 := tabs_smx ti sm1 hsi.lst
      refine ⟨fun σ' H' => ∃ (v : V) (d : PyData), σ' = [some (.ref sc), some (.ref a), some (.int (0 + i)), some v, y4, y5, y6, y7, y8, y9] ∧ Dp K (hide [a] H') v d ∧ 1 ≤ lmeas 9 d ∧ lmeas 9 d ≤ 100 ∧ gd 9 d = true ∧ Src H' a L ns ∧ LamX.Tabs (TT0 Pt) H', ?_, ?_⟩
      · refine ⟨_, rfl, a, L, ns, 4, rfl, hs1, by decide, by decide, fun H2 t t0 t4 hs2 off2 => ⟨rfl, _, rfl, ?_⟩⟩
        have sm2 : SmX [a] H1 H2 := SmX.at off2 ma
        have hd2 : Dp K (hide [a] H2) v0 d0 := dp_same sm2.hid _ _ hd0
        have t2 := tabs_smx t1 sm2 hs1.lst
        refine ite2 (fun c => ?_) (fun c => ?_)
        · refine ⟨_, rfl, _, rfl, a, L, ns, 8, rfl, hs2, by decide, by decide, fun H3 u u0 u8 hs3 off3 => ?_⟩
          have sm3 : SmX [a] H2 H3 := SmX.at off3 ma
          refine ⟨u.toNat, [a], vs1' (by omega), by omega, hs3.trk, fun H4 v4 hd4 s4 => ⟨(by show 3 ≤ sizeLine; decide), fun p np => ?_⟩⟩
          have s5 := same_upd (o := .tup [.str "&", v0, v4]) np
          obtain ⟨b1, b2⟩ := nest8 u.toNat (by omega)
          have l8 : lmeas 8 d0 = lmeas n d0 := lmeas_up9 l1 (by omega)
          have e9 : lmeas 9 (.tuple (.str "&" :: [d0, nestD u.toNat])) = lmeas 8 d0 + lmeas 8 (nestD u.toNat) := lmeas_tup (by decide +kernel) (Nat.le_refl 2) (fun d hd => by
            simp only [List.mem_cons, List.not_mem_nil, or_false] at hd
            rcases hd with rfl | rfl
            · omega
            · exact b1) (by simp)
          have hs4 := hs3.same s4
          refine ⟨.ref p, .tuple [.str "&", d0, nestD u.toNat], rfl, ?_, ?_, ?_, ?_, hs4.same s5, tabs_same (tabs_smx t2 sm3 hs2.lst) (s4.trans s5)⟩
          · refine .tup (SqT.of (hid_at hs4.trk np)) (.cons (.str _) (.cons (dp_same (sm3.trans (SmX.of_same (s4.trans s5))).hid _ _ hd2) (.cons (dp_same (hid_new np) _ _ hd4) .nil)))
          · rw [e9]; omega
          · rw [e9]; omega
          · refine gd_tup (n := 8) (fun d hd => ?_) (by show 3 ≤ 1000; decide)
            simp only [List.mem_cons, List.not_mem_nil, or_false] at hd
            rcases hd with rfl | rfl | rfl
            · exact gd_le (n := 0) (by decide +kernel) (by decide)
            · exact gd_le hg0 (by omega)
            · exact gd_le (nest_gd _) (by omega)
        · have l9 : lmeas 9 d0 = lmeas n d0 := lmeas_up9 l1 (by omega)
          exact ⟨v0, d0, rfl, hd2, by omega, by omega, gd_le hg0 (by omega), hs2, t2⟩
      · rintro σ' Hw ⟨v, d, rfl, hdw, lw1, lw2, hg, hsw, tw⟩
        have hg20 : gd 20 d = true := gd_le hg (by decide)
        have ms9 : (meas 9 d 600).isSome = true := by
          rw [meas_some, decide_eq_true lw1, decide_eq_true (by omega)]
          rfl
        -- some letters
        refine ⟨_, rfl, _, rfl, by decide +kernel, fun r nr => ?_⟩
        have sr := same_upd (o := .lst (signs "abcdefgh")) nr
        have hsr := hsw.same sr
        have ar : a ≠ r := hsw.ne nr
        refine ⟨a, L, r, ns, _, rfl, hsr, ar.symm, upd_same, by decide +kernel, fun H2 p ys pm np hp hs2 off2 => ?_⟩
        have ap : a ≠ p := hsr.ne np
        have smA : SmX [a] Hw H2 := fun b o nb e => by
          have ba : b ≠ a := fun z => nb (by rw [z]; exact ma)
          have e1 := sr _ _ e
          rw [off2 b ba (ne_of_none e1 np)]
          exact e1
        have pa1 : p ∉ [a] := fun z => ap (List.mem_singleton.mp z).symm
        refine ⟨p, rfl, ⟨_, SqL.of hp⟩, fun D nD => lc_list (xs := ys) (fun j Hj => Src Hj a L ns ∧ SmX [a] H2 Hj ∧ ∃ zs, Hj D = some (.lst zs) ∧ zs.Sublist (ys.take j)) ?_ ?_ ?_ ?_⟩
        · exact ⟨hs2.new nD, SmX.new nD, [], upd_same, List.nil_sublist _⟩
        · rintro j Hj _ ⟨hsj, smj, zs, hD, sub⟩
          exact SqL.of (smj _ _ pa1 hp)
        · rintro j y Hj hy ⟨hsj, smj, zs, hD, sub⟩
          have aD : a ≠ D := hs2.ne nD
          refine ⟨rfl, ?_⟩
          refine ⟨_, rfl, a, L, ns, 3, rfl, hsj, by decide, by decide, fun H3 t t0 t3 hs3 off3 => ⟨_, _, rfl, rfl, _, rfl, ?_⟩⟩
          have sm3 : SmX [a] Hj H3 := SmX.at off3 ma
          have hD3 : H3 D = some (.lst zs) := (off3 D aD.symm).trans hD
          have lz : zs.length ≤ 8 := by
            have := sub.length_le
            have e8 : ys.length = 8 := by rw [pm.length_eq]; decide +kernel
            rw [List.length_take] at this
            omega
          refine ite2 (fun c => ?_) (fun c => ?_)
          · refine ⟨_, rfl, _, hD3, small1000 (by omega), ?_⟩
            have nL2 : D ≠ L := fun z => by
              obtain ⟨_, _, _, _, _, e, _⟩ := hs2
              rw [← z, nD] at e; cases e
            refine ⟨hs3.put aD.symm nL2, ?_, zs ++ [y], upd_same, ?_⟩
            · intro b o nb e
              rw [upd_ne (ne_of_none e nD)]
              exact sm3 _ _ nb (smj _ _ nb e)
            · rw [List.take_add_one, hy]
              exact List.Sublist.append sub (List.Sublist.refl _)
          · refine ⟨hs3, smj.trans sm3, zs, hD3, ?_⟩
            rw [List.take_add_one, hy]
            exact sub.trans (List.sublist_append_left _ _)
        · rintro H4 ⟨hs4, sm4, zs, hD, sub⟩
          rw [List.take_length] at sub
          have lz : ∀ y ∈ zs, lett y := fun y hy => pm.mem_iff.mp (sub.subset hy)
          have nz : zs.Nodup := sub.nodup (pm.nodup_iff.mpr (by decide +kernel))
          obtain ⟨ss, rfl, nds, lss⟩ := lett_strs lz nz
          have ls8 : ss.length ≤ 8 := by
            have := sub.length_le
            have e8 : ys.length = 8 := by rw [pm.length_eq]; decide +kernel
            rw [List.length_map] at this
            omega
          have smB : SmX [a] Hw H4 := smA.trans sm4
          have aD : a ≠ D := fun z => by
            obtain ⟨_, _, _, _, e, _⟩ := hs4
            rw [z, hD] at e
            cases ss with
            | nil => cases e
            | cons x r => cases r with
              | nil => cases e
              | cons x2 r => cases e
          have DnA : D ∉ [a] := fun z => aD (List.mem_singleton.mp z).symm
          -- the case
          refine ⟨_, rfl, D, rfl, ⟨_, SqL.of hD⟩, fun D2 nD2 => lc_list (xs := ss.map V.str) (fun j Hj => Src Hj a L ns ∧ SmX [a] H4 Hj ∧ ∃ (ps : List Addr) (bs : List (Str × Bool)), Hj D2 = some (.lst (ps.map V.ref)) ∧ bs.map (·.1) = ss.take j ∧ Paired (fun p kv => Hj p = some (.tup [kV kv.1, kv.2])) ps (kvB bs)) ?_ ?_ ?_ ?_⟩
          · exact ⟨hs4.new nD2, SmX.new nD2, [], [], upd_same, rfl, .nil⟩
          · rintro j Hj _ ⟨hsj, smj, ps, bs, hD2, eb, pr⟩
            exact SqL.of (smj _ _ DnA hD)
          · rintro j y Hj hy ⟨hsj, smj, ps, bs, hD2, eb, pr⟩
            obtain ⟨x, hx, rfl⟩ : ∃ x, ss[j]? = some x ∧ V.str x = y := by
              rw [List.getElem?_map] at hy
              cases hv : ss[j]? with
              | none => rw [hv] at hy; cases hy
              | some x => rw [hv] at hy; exact ⟨x, rfl, Option.some.inj hy⟩
            have aD2 : a ≠ D2 := hs4.ne nD2
            have LD2 : D2 ≠ L := fun z => by
              obtain ⟨_, _, _, _, _, e, _⟩ := hs4
              rw [← z, nD2] at e; cases e
            refine ⟨rfl, ?_⟩
            dsimp only [tYes]
            rw [if_pos rfl]
            refine ⟨_, rfl, _, rfl, a, L, ns, 2, rfl, hsj, by decide, by decide, fun H5 t t0 t2 hs5 off5 => ⟨rfl, (by show 2 ≤ sizeLine; decide), fun T nT => ?_⟩⟩
            have sm5 : SmX [a] Hj H5 := SmX.at off5 ma
            have hD5 : H5 D2 = some (.lst (ps.map V.ref)) := (off5 D2 aD2.symm).trans hD2
            have s6 := same_upd (o := .tup [.str x, .bl (decide (V.int t = V.int 1))]) nT
            have hD6 := s6 _ _ hD5
            have lps : ps.length ≤ 8 := by
              have e1 : ps.length = (kvB bs).length := paired_len pr
              have e2 : (kvB bs).length = bs.length := List.length_map ..
              have e3 : bs.length = (ss.take j).length := by rw [← eb, List.length_map]
              rw [List.length_take] at e3
              omega
            have pr5 := paired_smx sm5 hsj.lst pr
            have pr6 := paired_smx (M := []) (SmX.of_same s6) (fun b hb => nomatch hb) pr5
            have smP : ∀ xs, SmX [D2] (upd H5 T (.tup [.str x, .bl (decide (V.int t = V.int 1))])) (upd (upd H5 T (.tup [.str x, .bl (decide (V.int t = V.int 1))])) D2 (.lst xs)) := fun xs => SmX.put (SmX.refl _ _) (List.mem_singleton.mpr rfl)
            have TD2 : T ≠ D2 := fun z => by rw [z, hD5] at nT; cases nT
            refine ⟨_, hD6, by rw [List.length_map]; exact small1000 (by omega), (hs5.same s6).put aD2.symm LD2, ?_, ps ++ [T], bs ++ [(x, decide (V.int t = V.int 1))], ?_, ?_, ?_⟩
            · intro b o nb e
              rw [upd_ne (ne_of_none e nD2)]
              exact s6 _ _ (sm5 _ _ nb (smj _ _ nb e))
            · rw [upd_same, List.map_append]; rfl
            · rw [List.map_append, eb, List.take_add_one, hx]; rfl
            · have e : kvB (bs ++ [(x, decide (V.int t = V.int 1))]) = kvB bs ++ [(Sum.inr x, V.bl (decide (V.int t = V.int 1)))] := List.map_append ..
              rw [e]
              refine (paired_smx (smP _) (fun b hb => by rw [List.mem_singleton.mp hb]; exact ⟨_, hD6⟩) pr6).snoc ?_
              rw [upd_ne TD2, upd_same]
              rfl
          · rintro H5 ⟨hs5, sm5, ps, bs, hD2, eb, pr⟩
            rw [List.length_map, List.take_length] at eb
            have ndb : (bs.map (·.1)).Nodup := by rw [eb]; exact nds
            refine ⟨D2, ps, kvB bs, rfl, SqL.of hD2, paired_sqT pr, fun cn ncn => ?_⟩
            rw [merge_kvB ndb]
            have s6 := same_upd (o := .dK (kvB bs)) ncn
            refine ⟨_, rfl, cn, _, rfl, .inl upd_same, fun ck nck => ?_⟩
            have s7 := same_upd (o := .dK (kvB bs)) nck
            have s67 := s6.trans s7
            have hs7 := hs5.same s67
            have hD7 := s67 _ _ (sm5 _ _ DnA hD)
            have smC : SmX [a] Hw _ := smB.trans (sm5.trans (SmX.of_same s67))
            have hcn := s7 _ _ (upd_same (H := H5) (a := cn) (o := .dK (kvB bs)))
            have hck := upd_same (H := upd H5 cn (.dK (kvB bs))) (a := ck) (o := .dK (kvB bs))
            have hd7 : Dp K (hide [a] _) v d := dp_same smC.hid _ _ hdw
            have hd7' : Dp K _ v d := dp_same hide_same _ _ hd7
            have t7 := tabs_smx tw smC hsw.lst
            -- the first comparison
            refine ⟨_, rfl, _, rfl, v, cn, d, kvB bs, csB bs, rfl, hd7', hg20, hcn, val_kvB bs, fun _ H8 s8 => ?_, fun e => (nn ms9 e).elim⟩
            refine ⟨_, rfl, fun c3 nc3 => ⟨rfl, rfl, v, c3, d, [], fun _ => none, rfl, dp_same (s8.trans (same_upd nc3)) _ _ hd7', hg20, upd_same, fun x => rfl, fun _ H9 s9 => ?_, fun e => (nn ms9 e).elim⟩⟩
            have s39 := (same_upd (o := .dK []) nc3).trans s9
            rw [tru_open (fun x => rfl) 9 d lw1]
            refine ⟨(by show 2 ≤ sizeLine; decide), fun p1 np1 => ?_⟩
            have s10 := same_upd (o := .lst [oV (tru (csB bs) 9 d), oV none]) np1
            have A10 := s8.trans (s39.trans s10)
            refine ⟨_, rfl, _, rfl, v, ck, d, 9, kvB bs, csB bs, rfl, dp_same A10 _ _ hd7', hg20, by decide, lw1, A10 _ _ hck, val_kvB bs, fun H11 s11 => ⟨(by show 2 ≤ sizeLine; decide), fun p2 np2 => ?_⟩⟩
            have s12 := same_upd (o := .lst [oV (tru (csB bs) 9 d), .non]) np2
            refine ⟨.ref p1, .ref p2, .list [bD (tru (csB bs) 9 d), .none], 1, rfl, .lst (SqL.of ((s11.trans s12) _ _ upd_same)) (.cons (dp_oV _) (.cons .non .nil)), .lst (SqL.of upd_same) (.cons (dp_oV _) (.cons .non .nil)), by decide, gd_lst (n := 0) (fun z hz => ?_) (by show 2 ≤ 1000; decide), fun H13 s13 => ⟨_, rfl, iteF ?_⟩⟩
            · simp only [List.mem_cons, List.not_mem_nil, or_false] at hz
              rcases hz with rfl | rfl
              · exact gd_bD 0 _
              · rfl
            have A13 := A10.trans (s11.trans (s12.trans s13))
            have hs13 := hs7.same A13
            have hd13 : Dp K (hide [a] H13) v d := dp_same (SmX.of_same A13).hid _ _ hd7
            have hD13 := A13 _ _ hD7
            have hcn13 := A13 _ _ hcn
            have hck13 := A13 _ _ hck
            have t13 := tabs_same t7 A13
            -- the full case
            refine ⟨_, rfl, fun D3 nD3 => lc_it (walk_str (z := "abcdefgh")) (fun j Hj => Same H13 Hj ∧ ∃ ps : List Addr, Hj D3 = some (.lst (ps.map V.ref)) ∧ Paired (fun p kv => Hj p = some (.tup [kV kv.1, kv.2])) ps (kvB ((LL.take j).map fun x => (x, decide (x ∈ ss))))) ?_ ?_ ?_ ?_⟩
            · exact ⟨same_upd nD3, [], upd_same, .nil⟩
            · exact fun _ _ _ _ => trivial
            · rintro j y Hj Hj' hj ⟨sj, ps, hD3, pr⟩ ⟨rfl, ch, hch, rfl⟩
              have hL := LL_at hch
              have hj8 : j < 8 := by
                have := (List.getElem?_eq_some_iff.mp hL).1
                exact this
              refine ⟨rfl, ?_⟩
              dsimp only [tYes]
              rw [if_pos rfl]
              refine ⟨_, rfl, _, rfl, _, rfl, D, _, rfl, .inl (SqL.of (sj _ _ hD13)), rfl, flat_strs _, (by show 2 ≤ sizeLine; decide), fun T nT => ?_⟩
              have ein : (if false = true then !inV (V.str ⟨#[ch]⟩) (ss.map V.str) else inV (V.str ⟨#[ch]⟩) (ss.map V.str)) = decide ((⟨#[ch]⟩ : Str) ∈ ss) := by
                rw [if_neg Bool.false_ne_true, inV_strs]
              rw [ein]
              have s6 := same_upd (o := .tup [.str ⟨#[ch]⟩, .bl (decide ((⟨#[ch]⟩ : Str) ∈ ss))]) nT
              have hD6 := s6 _ _ hD3
              have lps : ps.length ≤ 8 := by
                rw [paired_len pr]
                unfold kvB
                rw [List.length_map, List.length_map, List.length_take]
                have : LL.length = 8 := rfl
                omega
              have TD3 : T ≠ D3 := fun z => by rw [z, hD3] at nT; cases nT
              have pr6 := paired_smx (M := []) (SmX.of_same s6) (fun b hb => nomatch hb) pr
              refine ⟨_, hD6, by rw [List.length_map]; exact small1000 (by omega), fun b o e => ?_, ps ++ [T], ?_, ?_⟩
              · rw [upd_ne (ne_of_none e nD3)]
                exact s6 _ _ (sj _ _ e)
              · rw [upd_same, List.map_append]; rfl
              · have e : kvB ((LL.take (j + 1)).map fun x => (x, decide (x ∈ ss))) = kvB ((LL.take j).map fun x => (x, decide (x ∈ ss))) ++ [(Sum.inr ⟨#[ch]⟩, V.bl (decide ((⟨#[ch]⟩ : Str) ∈ ss)))] := by
                  unfold kvB
                  rw [List.take_add_one, hL, List.map_append, List.map_append]
                  rfl
                rw [e]
                refine (paired_smx (SmX.put (M := [D3]) (SmX.refl _ _) (List.mem_singleton.mpr rfl)) (fun b hb => by rw [List.mem_singleton.mp hb]; exact ⟨_, hD6⟩) pr6).snoc ?_
                rw [upd_ne TD3, upd_same]
                rfl
            · rintro H14 ⟨s14, ps, hD3, pr⟩
              have ndf : ((LL.map fun x => (x, decide (x ∈ ss))).map (·.1)).Nodup := by
                rw [List.map_map]
                show (LL.map id).Nodup
                rw [List.map_id]
                decide +kernel
              have elt : LL.take (Array.size ("abcdefgh" : Str).cps) = LL := by decide +kernel
              rw [elt] at pr
              refine ⟨D3, ps, _, rfl, SqL.of hD3, paired_sqT pr, fun cf ncf => ?_⟩
              rw [merge_kvB ndf]
              generalize (LL.map fun x => (x, decide (x ∈ ss))) = fs at *
              have s15 := same_upd (o := .dK (kvB fs)) ncf
              have A15 := s14.trans s15
              have hcf := upd_same (H := H14) (a := cf) (o := .dK (kvB fs))
              have hd15 : Dp K _ v d := dp_same hide_same _ _ (dp_same (SmX.of_same A15).hid _ _ hd13)
              -- the second comparison
              refine ⟨_, rfl, _, rfl, v, cf, d, kvB fs, csB fs, rfl, hd15, hg20, hcf, val_kvB fs, fun _ H16 s16 => ?_, fun e => (nn ms9 e).elim⟩
              refine ⟨_, rfl, _, rfl, v, cf, d, 9, kvB fs, csB fs, rfl, dp_same s16 _ _ hd15, hg20, by decide, lw1, s16 _ _ hcf, val_kvB fs, fun H17 s17 => ?_⟩
              refine ⟨_, _, bD (tru (csB fs) 9 d), 1, rfl, dp_oV _, dp_oV _, by decide, gd_bD 1 _, fun H18 s18 => ⟨_, rfl, iteF ?_⟩⟩
              have A18 := s16.trans (s17.trans s18)
              have B18 := A15.trans A18
              refine ⟨_, rfl, _, rfl, cn, ck, kvB bs, kvB bs, rfl, rfl, B18 _ _ hcn13, B18 _ _ hck13, rfl, kvB_all ndb, _, rfl, iteF ?_⟩
              have hs18 := hs13.same B18
              have hd18 : Dp K (hide [a] H18) v d := dp_same (SmX.of_same B18).hid _ _ hd13
              have t18 := tabs_same t13 B18
              have hcf18 := A18 _ _ hcf
              -- an odd value
              refine ⟨_, rfl, _, rfl, a, L, ns, v, [a], rfl, hs18, ⟨d, hd18, hg⟩, ma, hs18.trk, fun H19 v19 gn hs19 sm19 => ?_⟩
              have t19 := tabs_smx t18 sm19 hs18.lst
              have cfa : cf ∉ [a] := fun z => by
                obtain ⟨_, _, _, _, e, _⟩ := hs18
                rw [List.mem_singleton.mp z, e] at hcf18
                cases hcf18
              have hcf19 := sm19 _ _ cfa hcf18
              obtain ⟨dn, hn1, hn2, hn3⟩ := gn
              have noL : meas 9 dn 600 = none := by
                rcases meas_iff 9 dn 600 with ⟨e, _⟩ | ⟨_, _, e, _⟩
                · exact e
                · omega
              refine ⟨t19, fun H20 eN T20 R E hR hE => ⟨_, rfl, _, rfl, v19, cf, dn, kvB fs, csB fs, rfl, dp_ext eN _ _ (dp_same hide_same _ _ hn1), gd_le hn2 (by decide), eN _ _ hcf19 (fun ps z => by cases z), val_kvB fs, fun h => (nn h noL).elim, fun _ H21 dd s21 hdd => hE CT dd H21 _ _ exm xf fnd hdd rfl fun p22 n22 => ?_⟩⟩
              have s22 := same_upd (o := .tup [.non, .str "InvalidTerm"]) n22
              refine ⟨(by show 2 ≤ sizeLine; decide), fun p23 n23 => ?_⟩
              have s23 := same_upd (o := .tup [.non, .str "InvalidTerm"]) n23
              refine ⟨.tuple [.none, .str "InvalidTerm"], .tuple [.none, .str "InvalidTerm"], .tup (SqT.of (s23 _ _ upd_same)) (.cons .non (.cons (.str _) .nil)), .tup (SqT.of upd_same) (.cons .non (.cons (.str _) .nil)), by decide +kernel, by decide +kernel, _, rfl, ?_⟩
              rw [show (!PyData.eqv (.tuple [.none, .str "InvalidTerm"]) (.tuple [.none, .str "InvalidTerm"])) = false from by decide +kernel]
              have sE := s21.trans (s22.trans s23)
              exact iteF ⟨_, _, _, _, _, _, _, _, rfl, (hs19.ext eN).same sE, tabs_same T20 sE⟩
    · rintro σ Hi ⟨y2, y3, y4, y5, y6, y7, y8, y9, rfl, hsi, ti⟩
      exact q _
end
end Fv


namespace Fv
open PySem PySem.Spec PyProof.Rows L2 FvX
abbrev s_InvalidTerm : Stmt := inClass (topS 2) 0
def q_InvalidTerm : ErrPos := { p0 := ⟨7, 8, 7, 13⟩, p1 := ⟨7, 8, 7, 15⟩, p2 := ⟨7, 8, 7, 24⟩, p3 := ⟨7, 25, 7, 45⟩, p4 := ⟨7, 8, 7, 46⟩, p5 := ⟨7, 8, 7, 46⟩, p6 := ⟨8, 8, 8, 12⟩, p7 := ⟨8, 8, 8, 17⟩, p8 := ⟨8, 20, 8, 33⟩, p9 := ⟨8, 8, 8, 33⟩, pp := ⟨6, 17, 6, 21⟩ }
theorem kw_all {K : PySem.W.Frag} {D : Addr} {kws : List (Str × V)} (h : ∀ q ∈ kws, ∃ u, PySem.W.nsIn K D q.1 = some (some u) ∧ RelV q.2 u) : ∀ q ∈ kws, ∃ u, PySem.W.nsIn K D q.1 = some (some u) ∧ RelV q.2 u := h
theorem all_mk {l : PySem.W.OpenLaw} {w : World} {K : PySem.W.Frag} {h : Heap} {mg : Str → Option Value} {fa : Addr} (X : K.In h) (G : h.Ns mainGlobals mg) (hfa : mg "law" = some (.ref fa))
    {f1 : Addr} {od1 an1 : Option Addr} {sl1 : Array (Option Value)} {oc1 dc1 pm1 cd1 ct1 : Value}
    {kV1 : Value}
    {f2 : Addr} {od2 an2 : Option Addr} {sl2 : Array (Option Value)} {oc2 dc2 pm2 cd2 ct2 : Value}
    {kV2 : Value}
    {f3 : Addr} {od3 an3 : Option Addr} {sl3 : Array (Option Value)} {oc3 dc3 pm3 cd3 ct3 : Value}
    {kV3 : Value}
    {f4 : Addr} {od4 an4 : Option Addr} {sl4 : Array (Option Value)} {oc4 dc4 pm4 cd4 ct4 : Value}
    {kV4 : Value}
    {f5 : Addr} {od5 an5 : Option Addr} {sl5 : Array (Option Value)} {oc5 dc5 pm5 cd5 ct5 : Value}
    {kV5 : Value}
    {f6 : Addr} {od6 an6 : Option Addr} {sl6 : Array (Option Value)} {oc6 dc6 pm6 cd6 ct6 : Value}
    {kV6 : Value}
    {f7 : Addr} {od7 an7 : Option Addr} {sl7 : Array (Option Value)} {oc7 dc7 pm7 cd7 ct7 : Value}
    {kV7 : Value}
    {f8 : Addr} {od8 an8 : Option Addr} {sl8 : Array (Option Value)} {oc8 dc8 pm8 cd8 ct8 : Value}
    {kV8 : Value}
    {f9 : Addr} {od9 an9 : Option Addr} {sl9 : Array (Option Value)} {oc9 dc9 pm9 cd9 ct9 : Value}
    {kV9 : Value}
    {f10 : Addr} {od10 an10 : Option Addr} {sl10 : Array (Option Value)} {oc10 dc10 pm10 cd10 ct10 : Value}
    {kV10 : Value}
    {f11 : Addr} {od11 an11 : Option Addr} {sl11 : Array (Option Value)} {oc11 dc11 pm11 cd11 ct11 : Value}
    {kV11 : Value}
    {f12 : Addr} {od12 an12 : Option Addr} {sl12 : Array (Option Value)} {oc12 dc12 pm12 cd12 ct12 : Value}
    {kV12 : Value}
    {f13 : Addr} {od13 an13 : Option Addr} {sl13 : Array (Option Value)} {oc13 dc13 pm13 cd13 ct13 : Value}
    {kV13 : Value}
    {f14 : Addr} {od14 an14 : Option Addr} {sl14 : Array (Option Value)} {oc14 dc14 pm14 cd14 ct14 : Value}
    {kV14 : Value}
    {f15 : Addr} {od15 an15 : Option Addr} {sl15 : Array (Option Value)} {oc15 dc15 pm15 cd15 ct15 : Value}
    {kV15 : Value}
    {f16 : Addr} {od16 an16 : Option Addr} {sl16 : Array (Option Value)} {oc16 dc16 pm16 cd16 ct16 : Value}
    {kV16 : Value}
    {f17 : Addr} {od17 an17 : Option Addr} {sl17 : Array (Option Value)} {oc17 dc17 pm17 cd17 ct17 : Value}
    {kV17 : Value}
    {f18 : Addr} {od18 an18 : Option Addr} {sl18 : Array (Option Value)} {oc18 dc18 pm18 cd18 ct18 : Value}
    {kV18 : Value}
    {f19 : Addr} {od19 an19 : Option Addr} {sl19 : Array (Option Value)} {oc19 dc19 pm19 cd19 ct19 : Value}
    {kV19 : Value}
    {ctLETTERS : Tok}
    {oA1 : Addr} {ob1 : Option Addr} {on1 : Nat} {os1 : Array (Option Value)} {ot1_0 : Tok} {ot1_1 : Tok}
    {ctLONG_DEPTH : Tok}
    {ctLONG_SIZE : Tok}
    {CF : Addr}
    {C_InvalidTerm f_InvalidTerm : Addr} {eoc_InvalidTerm : Value} {eod_InvalidTerm ean_InvalidTerm : Option Addr} {eosl_InvalidTerm : Array (Option Value)} {ekV_InvalidTerm edoc_InvalidTerm epm_InvalidTerm ect_InvalidTerm : Value} {cda_InvalidTerm ecc_InvalidTerm : Addr} {eccl_InvalidTerm ecl_InvalidTerm : Value} {ecdd_InvalidTerm ecld_InvalidTerm : Option Addr} {evs_InvalidTerm : Array Value} {eccs_InvalidTerm ecsl_InvalidTerm : Array (Option Value)} {efile_InvalidTerm : Str} {etf_InvalidTerm : Tok}
    {nm_InvalidTerm eq_InvalidTerm : Str} {eN_InvalidTerm : Addr} {ebs_InvalidTerm ebm_InvalidTerm : List Value} {esn_InvalidTerm : List Str} {esub_InvalidTerm : List Value} {eab_InvalidTerm : Bool} {ecol_InvalidTerm : Option Bool} {edd_InvalidTerm : Option Addr} {ek0_InvalidTerm ek1_InvalidTerm ek2_InvalidTerm ek3_InvalidTerm ek5_InvalidTerm : Option Value}
    (a1 : PySem.W.nsIn K mainGlobals "is_letter" = some (some (.ref f1))) (l1 : K.lookup f1 = some ⟨oc1, od1, .func (PySem.W.fnOf "is_letter" "is_letter" (defArgs s_is_letter) (defBody s_is_letter) (defScope s_is_letter) .none kV1 dc1 pm1 an1 cd1 ct1), sl1⟩) (c1 : PySem.W.codeIn K cd1 "is_letter" = true) (k1 : PySem.W.keepIn K (.ref f1) = true)
    (a2 : PySem.W.nsIn K mainGlobals "is_compound" = some (some (.ref f2))) (l2 : K.lookup f2 = some ⟨oc2, od2, .func (PySem.W.fnOf "is_compound" "is_compound" (defArgs s_is_compound) (defBody s_is_compound) (defScope s_is_compound) .none kV2 dc2 pm2 an2 cd2 ct2), sl2⟩) (c2 : PySem.W.codeIn K cd2 "is_compound" = true) (k2 : PySem.W.keepIn K (.ref f2) = true)
    (a3 : PySem.W.nsIn K mainGlobals "measured" = some (some (.ref f3))) (l3 : K.lookup f3 = some ⟨oc3, od3, .func (PySem.W.fnOf "measured" "measured" (defArgs s_measured) (defBody s_measured) (defScope s_measured) .none kV3 dc3 pm3 an3 cd3 ct3), sl3⟩) (c3 : PySem.W.codeIn K cd3 "measured" = true) (k3 : PySem.W.keepIn K (.ref f3) = true)
    (a4 : PySem.W.nsIn K mainGlobals "measured_long" = some (some (.ref f4))) (l4 : K.lookup f4 = some ⟨oc4, od4, .func (PySem.W.fnOf "measured_long" "measured_long" (defArgs s_measured_long) (defBody s_measured_long) (defScope s_measured_long) .none kV4 dc4 pm4 an4 cd4 ct4), sl4⟩) (c4 : PySem.W.codeIn K cd4 "measured_long" = true) (k4 : PySem.W.keepIn K (.ref f4) = true)
    (a5 : PySem.W.nsIn K mainGlobals "truth" = some (some (.ref f5))) (l5 : K.lookup f5 = some ⟨oc5, od5, .func (PySem.W.fnOf "truth" "truth" (defArgs s_truth) (defBody s_truth) (defScope s_truth) .none kV5 dc5 pm5 an5 cd5 ct5), sl5⟩) (c5 : PySem.W.codeIn K cd5 "truth" = true) (k5 : PySem.W.keepIn K (.ref f5) = true)
    (a6 : PySem.W.nsIn K mainGlobals "truth_under" = some (some (.ref f6))) (l6 : K.lookup f6 = some ⟨oc6, od6, .func (PySem.W.fnOf "truth_under" "truth_under" (defArgs s_truth_under) (defBody s_truth_under) (defScope s_truth_under) .none kV6 dc6 pm6 an6 cd6 ct6), sl6⟩) (c6 : PySem.W.codeIn K cd6 "truth_under" = true) (k6 : PySem.W.keepIn K (.ref f6) = true)
    (a7 : PySem.W.nsIn K mainGlobals "_law_source" = some (some (.ref f7))) (l7 : K.lookup f7 = some ⟨oc7, od7, .func (PySem.W.fnOf "_law_source" "_law_source" (defArgs s_law_source) (defBody s_law_source) (defScope s_law_source) .none kV7 dc7 pm7 an7 cd7 ct7), sl7⟩) (c7 : PySem.W.codeIn K cd7 "_law_source" = true) (k7 : PySem.W.keepIn K (.ref f7) = true)
    (a8 : PySem.W.nsIn K mainGlobals "_law_take" = some (some (.ref f8))) (l8 : K.lookup f8 = some ⟨oc8, od8, .func (PySem.W.fnOf "_law_take" "_law_take" (defArgs s_law_take) (defBody s_law_take) (defScope s_law_take) .none kV8 dc8 pm8 an8 cd8 ct8), sl8⟩) (c8 : PySem.W.codeIn K cd8 "_law_take" = true) (k8 : PySem.W.keepIn K (.ref f8) = true)
    (a9 : PySem.W.nsIn K mainGlobals "_law_pick" = some (some (.ref f9))) (l9 : K.lookup f9 = some ⟨oc9, od9, .func (PySem.W.fnOf "_law_pick" "_law_pick" (defArgs s_law_pick) (defBody s_law_pick) (defScope s_law_pick) .none kV9 dc9 pm9 an9 cd9 ct9), sl9⟩) (c9 : PySem.W.codeIn K cd9 "_law_pick" = true) (k9 : PySem.W.keepIn K (.ref f9) = true)
    (a10 : PySem.W.nsIn K mainGlobals "_law_mixed" = some (some (.ref f10))) (l10 : K.lookup f10 = some ⟨oc10, od10, .func (PySem.W.fnOf "_law_mixed" "_law_mixed" (defArgs s_law_mixed) (defBody s_law_mixed) (defScope s_law_mixed) .none kV10 dc10 pm10 an10 cd10 ct10), sl10⟩) (c10 : PySem.W.codeIn K cd10 "_law_mixed" = true) (k10 : PySem.W.keepIn K (.ref f10) = true)
    (a11 : PySem.W.nsIn K mainGlobals "_law_same" = some (some (.ref f11))) (l11 : K.lookup f11 = some ⟨oc11, od11, .func (PySem.W.fnOf "_law_same" "_law_same" (defArgs s_law_same) (defBody s_law_same) (defScope s_law_same) .none kV11 dc11 pm11 an11 cd11 ct11), sl11⟩) (c11 : PySem.W.codeIn K cd11 "_law_same" = true) (k11 : PySem.W.keepIn K (.ref f11) = true)
    (a12 : PySem.W.nsIn K mainGlobals "_law_call" = some (some (.ref f12))) (l12 : K.lookup f12 = some ⟨oc12, od12, .func (PySem.W.fnOf "_law_call" "_law_call" (defArgs s_law_call) (defBody s_law_call) (defScope s_law_call) .none kV12 dc12 pm12 an12 cd12 ct12), sl12⟩) (c12 : PySem.W.codeIn K cd12 "_law_call" = true) (k12 : PySem.W.keepIn K (.ref f12) = true)
    (a13 : PySem.W.nsIn K mainGlobals "_law_term" = some (some (.ref f13))) (l13 : K.lookup f13 = some ⟨oc13, od13, .func (PySem.W.fnOf "_law_term" "_law_term" (defArgs s_law_term) (defBody s_law_term) (defScope s_law_term) .none kV13 dc13 pm13 an13 cd13 ct13), sl13⟩) (c13 : PySem.W.codeIn K cd13 "_law_term" = true) (k13 : PySem.W.keepIn K (.ref f13) = true)
    (a14 : PySem.W.nsIn K mainGlobals "_law_any_term" = some (some (.ref f14))) (l14 : K.lookup f14 = some ⟨oc14, od14, .func (PySem.W.fnOf "_law_any_term" "_law_any_term" (defArgs s_law_any_term) (defBody s_law_any_term) (defScope s_law_any_term) .none kV14 dc14 pm14 an14 cd14 ct14), sl14⟩) (c14 : PySem.W.codeIn K cd14 "_law_any_term" = true) (k14 : PySem.W.keepIn K (.ref f14) = true)
    (a15 : PySem.W.nsIn K mainGlobals "_law_signs" = some (some (.ref f15))) (l15 : K.lookup f15 = some ⟨oc15, od15, .func (PySem.W.fnOf "_law_signs" "_law_signs" (defArgs s_law_signs) (defBody s_law_signs) (defScope s_law_signs) .none kV15 dc15 pm15 an15 cd15 ct15), sl15⟩) (c15 : PySem.W.codeIn K cd15 "_law_signs" = true) (k15 : PySem.W.keepIn K (.ref f15) = true)
    (a16 : PySem.W.nsIn K mainGlobals "_law_truth" = some (some (.ref f16))) (l16 : K.lookup f16 = some ⟨oc16, od16, .func (PySem.W.fnOf "_law_truth" "_law_truth" (defArgs s_law_truth) (defBody s_law_truth) (defScope s_law_truth) .none kV16 dc16 pm16 an16 cd16 ct16), sl16⟩) (c16 : PySem.W.codeIn K cd16 "_law_truth" = true) (k16 : PySem.W.keepIn K (.ref f16) = true)
    (a17 : PySem.W.nsIn K mainGlobals "_law_odd" = some (some (.ref f17))) (l17 : K.lookup f17 = some ⟨oc17, od17, .func (PySem.W.fnOf "_law_odd" "_law_odd" (defArgs s_law_odd) (defBody s_law_odd) (defScope s_law_odd) .none kV17 dc17 pm17 an17 cd17 ct17), sl17⟩) (c17 : PySem.W.codeIn K cd17 "_law_odd" = true) (k17 : PySem.W.keepIn K (.ref f17) = true)
    (a18 : PySem.W.nsIn K mainGlobals "_law_nest" = some (some (.ref f18))) (l18 : K.lookup f18 = some ⟨oc18, od18, .func (PySem.W.fnOf "_law_nest" "_law_nest" (defArgs s_law_nest) (defBody s_law_nest) (defScope s_law_nest) .none kV18 dc18 pm18 an18 cd18 ct18), sl18⟩) (c18 : PySem.W.codeIn K cd18 "_law_nest" = true) (k18 : PySem.W.keepIn K (.ref f18) = true)
    (a19 : PySem.W.nsIn K mainGlobals "law" = some (some (.ref f19))) (l19 : K.lookup f19 = some ⟨oc19, od19, .func (PySem.W.fnOf "law" "law" (defArgs s_law) (defBody s_law) (defScope s_law) .none kV19 dc19 pm19 an19 cd19 ct19), sl19⟩) (c19 : PySem.W.codeIn K cd19 "law" = true) (k19 : PySem.W.keepIn K (.ref f19) = true)
    (y0 : PySem.W.nsIn K mainGlobals "LETTERS" = some (some (.str "abcdefgh" ctLETTERS)))
    (y1 : PySem.W.nsIn K mainGlobals "OPERATORS" = some (some (.ref oA1))) (yl1 : K.lookup oA1 = some ⟨.type "tuple", ob1, .seq #[.str "&" ot1_0, .str "|" ot1_1] on1, os1⟩)
    (y2 : PySem.W.nsIn K mainGlobals "LONG_DEPTH" = some (some (.int 9 ctLONG_DEPTH)))
    (y3 : PySem.W.nsIn K mainGlobals "LONG_SIZE" = some (some (.int 600 ctLONG_SIZE)))
    (z_len : PySem.W.nsIn K mainGlobals "len" = some none)
    (z_int : PySem.W.nsIn K mainGlobals "int" = some none)
    (z_list : PySem.W.nsIn K mainGlobals "list" = some none)
    (z_str : PySem.W.nsIn K mainGlobals "str" = some none)
    (z_tuple : PySem.W.nsIn K mainGlobals "tuple" = some none)
    (z_isinstance : PySem.W.nsIn K mainGlobals "isinstance" = some none)
    (z_bool : PySem.W.nsIn K mainGlobals "bool" = some none)
    (z_dict : PySem.W.nsIn K mainGlobals "dict" = some none)
    (z_all : PySem.W.nsIn K mainGlobals "all" = some none)
    (z_any : PySem.W.nsIn K mainGlobals "any" = some none)
    (z_zip : PySem.W.nsIn K mainGlobals "zip" = some none)
    (z_max : PySem.W.nsIn K mainGlobals "max" = some none)
    (z_range : PySem.W.nsIn K mainGlobals "range" = some none)
    (z_super : PySem.W.nsIn K mainGlobals "super" = some none)
    (z_sorted : PySem.W.nsIn K mainGlobals "sorted" = some none)
    (e1 : PySem.W.nsIn K mainGlobals "FaultError" = some (some (.ref CF)))
    (e23a : PySem.W.subIn K (.ref CF) (.type "BaseException") = some true)
    (e23b : PySem.W.isClsIn K CF = true)
    (e23c : PySem.W.typeIn K (.ref CF) = some (.type "type"))
    (e20 : PySem.W.nsIn K cStatics "thirdparty.any" = some none)
    (e27 : (l.prog.main.scope.names.lookup ("super" : Str)).isSome = false)
    (e2_InvalidTerm : PySem.W.nsIn K mainGlobals "InvalidTerm" = some (some (.ref C_InvalidTerm)))
    (e3_InvalidTerm : K.lookup C_InvalidTerm = some (excClassObj nm_InvalidTerm eq_InvalidTerm C_InvalidTerm eN_InvalidTerm ebs_InvalidTerm ebm_InvalidTerm true esn_InvalidTerm esub_InvalidTerm eab_InvalidTerm ecol_InvalidTerm edd_InvalidTerm ek0_InvalidTerm ek1_InvalidTerm ek2_InvalidTerm ek3_InvalidTerm ek5_InvalidTerm "ValueError.__new__"))
    (e4_InvalidTerm : PySem.HandSPX.refsVE ebm_InvalidTerm = true)
    (e5_InvalidTerm : PySem.W.findIn K (.ref C_InvalidTerm) "__setattr__" = some (some (.builtin "object.__setattr__")))
    (e6_InvalidTerm : PySem.W.subIn K (.ref C_InvalidTerm) (.type "BaseException") = some true)
    (e7_InvalidTerm : PySem.W.typeIn K (.ref C_InvalidTerm) = some (.type "type"))
    (e8_InvalidTerm : PySem.W.keepIn K (.ref C_InvalidTerm) = true)
    (e13_InvalidTerm : PySem.W.findIn K (.ref C_InvalidTerm) "__init__" = some (some (.ref f_InvalidTerm)))
    (e9_InvalidTerm : K.lookup f_InvalidTerm = some ⟨eoc_InvalidTerm, eod_InvalidTerm, .func (PySem.W.ksFn "__init__" "InvalidTerm.__init__" (defArgs s_InvalidTerm) (defBody s_InvalidTerm) (defScope s_InvalidTerm) .none ekV_InvalidTerm edoc_InvalidTerm epm_InvalidTerm ean_InvalidTerm (.ref cda_InvalidTerm) ect_InvalidTerm ecc_InvalidTerm), eosl_InvalidTerm⟩)
    (e10_InvalidTerm : PySem.W.codeIn K (.ref cda_InvalidTerm) "InvalidTerm.__init__" = true)
    (e11_InvalidTerm : K.lookup cda_InvalidTerm = some ⟨eccl_InvalidTerm, ecdd_InvalidTerm, .fields evs_InvalidTerm, eccs_InvalidTerm⟩)
    (e12_InvalidTerm : evs_InvalidTerm[2]? = some (.str efile_InvalidTerm etf_InvalidTerm))
    (e14_InvalidTerm : (l.prog.main.file == efile_InvalidTerm) = true)
    (e15_InvalidTerm : K.lookup ecc_InvalidTerm = some ⟨ecl_InvalidTerm, ecld_InvalidTerm, .cell (some (.ref C_InvalidTerm)), ecsl_InvalidTerm⟩)
    (e16_InvalidTerm : PySem.W.ks_superIn K C_InvalidTerm C_InvalidTerm "__init__" = some (some (.builtin "ValueError.__init__")))
    (e17_InvalidTerm : PySem.W.mroIn K C_InvalidTerm (.ref C_InvalidTerm) = some true)
    (e18_InvalidTerm : PySem.W.subIn K (.ref C_InvalidTerm) (.type "ValueError") = some true)
    (e19t_InvalidTerm : PySem.W.excTail FvX.veTail4 ebm_InvalidTerm = true)
    (e21_InvalidTerm : PySem.W.findIn K (.ref C_InvalidTerm) "code" = some none)
    (e22_InvalidTerm : PySem.W.typeIn K (.ref f_InvalidTerm) = some (.type "function"))
    (e23d_InvalidTerm : PySem.W.subIn K (.ref C_InvalidTerm) (.ref CF) = some true)
    (e24_InvalidTerm : PySem.W.findIn K (.ref C_InvalidTerm) "__getattribute__" = some (some (.builtin "BaseException.__getattribute__")))
    (e25_InvalidTerm : PySem.W.findIn K (.ref C_InvalidTerm) "__getattr__" = some none)
    (e26_InvalidTerm : PySem.W.hasDictIn K C_InvalidTerm = true)
    {ccl : Value} {ccd : Option Addr} {cvs : Array Value} {ccs : Array (Option Value)} {cL Pt : Addr} (ecd : cd19 = .ref cL) (tlc : K.lookup cL = some ⟨ccl, ccd, .fields cvs, ccs⟩) (t11 : cvs[11]? = some (.ref Pt)) (tPt : K.lookup Pt = none)
    : ∃ (fd : FuncData) (c Pt : Addr), PySem.W.tabIn K "law" = some (c, Pt) ∧ K.lookup Pt = none ∧ (∀ (s : Shared) (v : Value), BindsTo s fd ⟨[v], []⟩ [("_law_script", v)]) ∧ ∀ base : Heap, K.In base → base.Ns mainGlobals mg → LamX.TabB base mg c Pt → FnOk l.prog w K mg base CX0 33 fa fd ["_law_script"] (spLawT K Pt) := by
  have e := hfa.symm.trans (PySem.W.mg_of X G a19)
  cases e
  have F1 := fun_mk (st := s_is_letter) l1 c1 k1
  have g1 := PySem.W.mg_of X G a1
  have b1 := F1.binds (ps := ["value"]) fun _ _ _ _ _ _ us hl => match us, hl with | [_], _ => rfl
  have F2 := fun_mk (st := s_is_compound) l2 c2 k2
  have g2 := PySem.W.mg_of X G a2
  have b2 := F2.binds (ps := ["value"]) fun _ _ _ _ _ _ us hl => match us, hl with | [_], _ => rfl
  have F3 := fun_mk (st := s_measured) l3 c3 k3
  have g3 := PySem.W.mg_of X G a3
  have b3 := F3.binds (ps := ["value", "max_depth", "max_size"]) fun _ _ _ _ _ _ us hl => match us, hl with | [_, _, _], _ => rfl
  have F4 := fun_mk (st := s_measured_long) l4 c4 k4
  have g4 := PySem.W.mg_of X G a4
  have b4 := F4.binds (ps := ["value"]) fun _ _ _ _ _ _ us hl => match us, hl with | [_], _ => rfl
  have F5 := fun_mk (st := s_truth) l5 c5 k5
  have g5 := PySem.W.mg_of X G a5
  have b5 := F5.binds (ps := ["term", "case"]) fun _ _ _ _ _ _ us hl => match us, hl with | [_, _], _ => rfl
  have F6 := fun_mk (st := s_truth_under) l6 c6 k6
  have g6 := PySem.W.mg_of X G a6
  have b6 := F6.binds (ps := ["term", "case"]) fun _ _ _ _ _ _ us hl => match us, hl with | [_, _], _ => rfl
  have F7 := fun_mk (st := s_law_source) l7 c7 k7
  have g7 := PySem.W.mg_of X G a7
  have b7 := F7.binds (ps := ["_law_script"]) fun _ _ _ _ _ _ us hl => match us, hl with | [_], _ => rfl
  have F8 := fun_mk (st := s_law_take) l8 c8 k8
  have g8 := PySem.W.mg_of X G a8
  have b8 := F8.binds (ps := ["_law_source_here", "_law_many"]) fun _ _ _ _ _ _ us hl => match us, hl with | [_, _], _ => rfl
  have F9 := fun_mk (st := s_law_pick) l9 c9 k9
  have g9 := PySem.W.mg_of X G a9
  have b9 := F9.binds (ps := ["_law_source_here", "_law_row"]) fun _ _ _ _ _ _ us hl => match us, hl with | [_, _], _ => rfl
  have F10 := fun_mk (st := s_law_mixed) l10 c10 k10
  have g10 := PySem.W.mg_of X G a10
  have b10 := F10.binds (ps := ["_law_source_here", "_law_row"]) fun _ _ _ _ _ _ us hl => match us, hl with | [_, _], _ => rfl
  have F11 := fun_mk (st := s_law_same) l11 c11 k11
  have g11 := PySem.W.mg_of X G a11
  have b11 := F11.binds (ps := ["_law_found", "_law_due"]) fun _ _ _ _ _ _ us hl => match us, hl with | [_, _], _ => rfl
  have F12 := fun_mk (st := s_law_call) l12 c12 k12
  have g12 := PySem.W.mg_of X G a12
  have b12 := F12.binds (ps := ["_law_ask"]) fun _ _ _ _ _ _ us hl => match us, hl with | [_], _ => rfl
  have F13 := fun_mk (st := s_law_term) l13 c13 k13
  have g13 := PySem.W.mg_of X G a13
  have b13 := F13.binds (ps := ["_law_source_here", "_law_signs_here", "_law_deep", "_law_room"]) fun _ _ _ _ _ _ us hl => match us, hl with | [_, _, _, _], _ => rfl
  have F14 := fun_mk (st := s_law_any_term) l14 c14 k14
  have g14 := PySem.W.mg_of X G a14
  have b14 := F14.binds (ps := ["_law_source_here"]) fun _ _ _ _ _ _ us hl => match us, hl with | [_], _ => rfl
  have F15 := fun_mk (st := s_law_signs) l15 c15 k15
  have g15 := PySem.W.mg_of X G a15
  have b15 := F15.binds (ps := ["_law_source_here", "_law_most"]) fun _ _ _ _ _ _ us hl => match us, hl with | [_, _], _ => rfl
  have F16 := fun_mk (st := s_law_truth) l16 c16 k16
  have g16 := PySem.W.mg_of X G a16
  have b16 := F16.binds (ps := ["_law_word", "_law_case_now"]) fun _ _ _ _ _ _ us hl => match us, hl with | [_, _], _ => rfl
  have F17 := fun_mk (st := s_law_odd) l17 c17 k17
  have g17 := PySem.W.mg_of X G a17
  have b17 := F17.binds (ps := ["_law_source_here", "_law_word"]) fun _ _ _ _ _ _ us hl => match us, hl with | [_, _], _ => rfl
  have F18 := fun_mk (st := s_law_nest) l18 c18 k18
  have g18 := PySem.W.mg_of X G a18
  have b18 := F18.binds (ps := ["_law_many"]) fun _ _ _ _ _ _ us hl => match us, hl with | [_], _ => rfl
  have F19 := fun_mk (st := s_law) l19 c19 k19
  have g19 := PySem.W.mg_of X G a19
  have g_LETTERS := PySem.W.mg_of X G y0
  have h_OPERATORS : ∀ H, SqT K H oA1 [.str "&", .str "|"] := fun H => .inr ⟨_, _, _, yl1, rfl, rfl, (Nat.le_of_ble_eq_true rfl), (.cons ⟨_, rfl⟩ (.cons ⟨_, rfl⟩ .nil))⟩
  have g_OPERATORS := PySem.W.mg_of X G y1
  have g_LONG_DEPTH := PySem.W.mg_of X G y2
  have g_LONG_SIZE := PySem.W.mg_of X G y3
  have m_len := PySem.W.mg_none_of X G z_len
  have m_int := PySem.W.mg_none_of X G z_int
  have m_list := PySem.W.mg_none_of X G z_list
  have m_str := PySem.W.mg_none_of X G z_str
  have m_tuple := PySem.W.mg_none_of X G z_tuple
  have m_isinstance := PySem.W.mg_none_of X G z_isinstance
  have m_bool := PySem.W.mg_none_of X G z_bool
  have m_dict := PySem.W.mg_none_of X G z_dict
  have m_all := PySem.W.mg_none_of X G z_all
  have m_any := PySem.W.mg_none_of X G z_any
  have m_zip := PySem.W.mg_none_of X G z_zip
  have m_max := PySem.W.mg_none_of X G z_max
  have m_range := PySem.W.mg_none_of X G z_range
  have m_super := PySem.W.mg_none_of X G z_super
  have m_sorted := PySem.W.mg_none_of X G z_sorted
  have g_FE := PySem.W.mg_of X G e1
  have e19_InvalidTerm : PySem.W.excInitIn K C_InvalidTerm FvX.veTail4 "ValueError.__new__" = true := by
    unfold PySem.W.excInitIn
    rw [e3_InvalidTerm]
    simp [excClassObj, e19t_InvalidTerm]
  have ex23_InvalidTerm : PySem.W.exmOne K (.ref C_InvalidTerm) (.ref CF) = some true := by
    unfold PySem.W.exmOne PySem.W.kitCls
    simp [e23a, show (PySem.W.clsIn K CF).isSome = true from e23b, e23c, e23d_InvalidTerm]
  have g_E_InvalidTerm := PySem.W.mg_of X G e2_InvalidTerm
  have OX_InvalidTerm : L2.OexC K C_InvalidTerm := ⟨⟨_, _, _, _, _, _, _, _, _, _, _, _, _, _, _, e3_InvalidTerm, e4_InvalidTerm⟩, e5_InvalidTerm, e6_InvalidTerm, e7_InvalidTerm, e8_InvalidTerm⟩
  have TI_InvalidTerm : FvX.ErrC l.prog.main.file K C_InvalidTerm f_InvalidTerm "InvalidTerm.__init__" q_InvalidTerm "this is not a term" "InvalidTerm" 0 0 := ⟨OX_InvalidTerm, ⟨_, _, _, _, _, _, _, _, _, _, _, _, _, _, _, _, _, _, _, e9_InvalidTerm, e10_InvalidTerm, e11_InvalidTerm, e12_InvalidTerm, e14_InvalidTerm, e15_InvalidTerm⟩, e16_InvalidTerm, e17_InvalidTerm, e18_InvalidTerm, e19_InvalidTerm, e20, e21_InvalidTerm, e13_InvalidTerm, e22_InvalidTerm⟩
  have LI_InvalidTerm : FvX.LineOk q_InvalidTerm "this is not a term" 0 := fun env => ⟨_, rfl⟩
  have XF_InvalidTerm : XfC K C_InvalidTerm := ⟨e24_InvalidTerm, e25_InvalidTerm, e6_InvalidTerm, e26_InvalidTerm⟩
  subst ecd
  have htab : PySem.W.tabIn K "law" = some (cL, Pt) := by
    unfold PySem.W.tabIn
    simp only [a19, l19, tlc, t11, PySem.W.fnOf]
  refine ⟨PySem.W.fnOf "law" "law" (defArgs s_law) (defBody s_law) (defScope s_law) .none kV19 dc19 pm19 an19 (.ref cL) ct19, cL, Pt, htab, tPt, fun s v => .of_eq rfl, fun base _ _ TB => ?_⟩
  have own : ∀ {k : Nat} {x : Str} {f : Addr} {fd : FuncData} {ps : List Str} {sp : Sp}, mg x = some (.ref f) → PySem.W.keepIn K (.ref f) = true → Binds K fd ps [] → FnOk l.prog w K mg base CX0 k f fd ps sp → Own l.prog w K mg base k x ps sp := fun a b c d => ⟨_, _, a, b, c, d⟩
  have ownR : ∀ {k : Nat} {x : Str} {f : Addr} {sp : Sp}, mg x = some (.ref f) → PySem.W.keepIn K (.ref f) = true → FnR l.prog w K mg base (L2.CX l.prog w) k f sp → OwnR l.prog w K mg base k x sp := fun a b c => ⟨_, a, b, c⟩
  have raw : ∀ {k : Nat} {f : Addr} {fd : FuncData} {ps : List Str} {sp : Sp}, FnOk l.prog w K mg base (L2.CX l.prog w) k f fd ps sp → Binds K fd ps [] → FnR l.prog w K mg base (L2.CX l.prog w) k f sp := fun F b => (FnOk.raw F b .nil).imp fun vs H Q E h => by rw [List.append_nil]; exact h
  have Csource := own g7 k7 b7 (ok_source (k := 0) F7 m_list)
  have Ctake := own g8 k8 b8 (ok_take (k := 0) F8 m_len m_int)
  have Cpick := own g9 k9 b9 (ok_pick (k := 1) F9 m_len Ctake)
  have Cmixed := own g10 k10 b10 (ok_mixed (k := 1) F10 m_len Ctake)
  have Ctake2 : Own l.prog w K mg base 2 _ _ spTake := own g8 k8 b8 (ok_take (k := 1) F8 m_len m_int)
  have Csigns := own g15 k15 b15 (ok_signs (k := 2) F15 m_list Ctake2 Cmixed)
  have Tn : ∀ n : Nat, FnOk l.prog w K mg base CX0 (2 + n) f13 _ _ (spTerm K n) := fun n => by
    induction n with
    | zero => exact term_zero
    | succ n ih => exact ok_term F13 m_tuple m_range (Nat.le_add_right 2 n) Ctake Cpick (own g13 k13 b13 ih)
  have Cterm := own g13 k13 b13 (Tn 5)
  have Cany := own g14 k14 b14 (ok_any_term (k := 7) F14 (by decide) Ctake Cpick Csigns Cterm)
  have Cnest := own g18 k18 b18 (ok_nest (k := 0) F18 m_range m_int)
  have Codd := own g17 k17 b17 (ok_oddN (k := 2) F17 (by decide) Cpick Cnest)
  have Sn : ∀ n : Nat, FnOk l.prog w K mg base CX0 (n) f11 _ _ (spSame K n) := fun n => by
    induction n with
    | zero => exact same_zero
    | succ n ih => exact ok_same F11 m_isinstance m_bool m_int m_str m_dict m_list m_tuple m_len m_all m_zip (own g11 k11 b11 ih)
  have Csame := own g11 k11 b11 (Sn 25)
  have Clet := own g1 k1 b1 (ok_is_letter (k := 0) F1 m_isinstance m_str m_len g_LETTERS)
  have Ccom := own g2 k2 b2 (ok_is_compound (k := 0) F2 m_isinstance m_tuple m_len g_OPERATORS h_OPERATORS)
  have Dn : ∀ n : Nat, FnOk l.prog w K mg base CX0 (1 + n) f3 _ _ (spMeas K n) := fun n => by
    induction n with
    | zero => exact meas_zero
    | succ n ih => exact ok_measured F3 m_max (Nat.le_add_right 1 n) Clet Ccom (own g3 k3 b3 ih)
  have Cmeasd := own g3 k3 b3 (Dn 20)
  have Clong := ownR g4 k4 (raw (ok_measured_long (k := 21) F4 g_LONG_DEPTH g_LONG_SIZE (by decide) TI_InvalidTerm LI_InvalidTerm e27 m_super g_E_InvalidTerm Cmeasd) b4)
  have Un : ∀ n : Nat, FnOk l.prog w K mg base CX0 (1 + n) f6 _ _ (spTru K n) := fun n => by
    induction n with
    | zero => exact tru_zero
    | succ n ih => exact ok_truth_under (k := 1 + n) F6 (by omega) Clet (own g6 k6 b6 ih)
  have Cun := own g6 k6 b6 ((Un 10).mono (k := 22) (by decide))
  have Fth := (ok_truth (k := 22) F5 Clong Cun).mono (k := 26) (by decide)
  have Ln : ∀ n : Nat, FnOk l.prog w K mg base CX0 n f16 _ _ (spTru K n) := fun n => by
    induction n with
    | zero => exact tru_zero
    | succ n ih => exact ok_law_truth F16 m_isinstance m_str m_any (own g16 k16 b16 ih)
  have Clth := own g16 k16 b16 (Ln 10)
  exact ok_law (k := 32) (by decide) l19 c19 TB m_range m_list m_dict l12 c12 k12 g12 b12 g_FE ex23_InvalidTerm XF_InvalidTerm e21_InvalidTerm Csource Ctake Cmixed Cany Cnest Codd Csame Clth
    (ownR g5 k5 (raw Fth b5)) ⟨_, _, _, g5, k5, ⟨fun s us ws _ h1 h2 => match us, ws, h1, h2 with | [], [_, _], _, _ => .of_eq rfl, fun r rz => r.append rz⟩, Fth⟩
theorem walk {l : PySem.W.OpenLaw} {q : Program} {loose : List Str} {XP : (Str → Option Value) → Heap → Prop} {YP : World → Heap → Prop} {d : DefRec} {K : Params → PySem.W.Frag} (hn : l.most = some 63) (hdf : d.params.defaults = [])
    (hY : ∀ (w : World) (h : Heap), YP w h → (K w.params).In h) (hrec : ∃ d', (PyProof.Rows.recsOf q).find? (fun e => e.name == ("law" : Str)) = some d')
    (F : ∀ (w : World) (mg : Str → Option Value) (fa : Addr) (h : Heap), (K w.params).In h → h.Ns mainGlobals mg → mg d.name = some (.ref fa) →
      ∃ (fd : FuncData) (c Pt : Addr), PySem.W.tabIn (K w.params) "law" = some (c, Pt) ∧ (K w.params).lookup Pt = none ∧ (∀ (s : Shared) (v : Value), BindsTo s fd ⟨[v], []⟩ [("_law_script", v)]) ∧
        ∀ base : Heap, (K w.params).In base → base.Ns mainGlobals mg → LamX.TabB base mg c Pt → FnOk l.prog w (K w.params) mg base CX0 33 fa fd ["_law_script"] (spLawT (K w.params) Pt)) :
    PySem.W.WalkO q loose XP YP l.row.toRowW d [] (fun f vs => PySem.call f vs) := by
  refine Att.attach_callB hn hdf fun w s₀ s₁ mg mb fa o pm cd doc a vs ns G Y ho hd hcd hmg hobj hints hlen hbits hg => ?_
  have KX := hY w _ Y
  obtain ⟨fd, c, Pt, ht, hno, hb, hF⟩ := F w mg fa _ KX G.T.g hmg
  obtain ⟨d', hrec⟩ := hrec
  obtain ⟨hC, hT⟩ := PySem.W.tab_of G.T KX hrec ht
  refine LamX.law_callTs (cs := [(c, Pt)]) (k := 33) (CX := CX0) (sp := spLawT (K w.params) Pt) KX G.T.g G.T.b G.T.builtins G.T.nolimit hg ?_ ?_ ?_ G.T.bmain hobj hints (Nat.le_trans hlen (by decide)) ⟨rfl, by decide, by decide⟩ (fun base k1 k2 tb => hF base k1 k2 (tb (c, Pt) (List.mem_singleton.mpr rfl))) hb (fun H hH hS => ⟨a, ns, rfl, hS, hlen, hH (c, Pt) (List.mem_singleton.mpr rfl), fun _ => rfl⟩) fun _ _ _ z => z
  · intro p hp
    rw [List.mem_singleton.mp hp]
    exact hT
  · intro p hp
    rw [List.mem_singleton.mp hp]
    exact hno
  · intro p hp
    rw [List.mem_singleton.mp hp]
    exact hC
end Fv
open PySem PySem.W PyProof.Rows
set_option maxRecDepth 100000 in
set_option maxHeartbeats 0 in
theorem PySem.Challenge.cw_fivefault_k30_truth_under_a_case_holds : PySem.Challenge.rw_fivefault_k30_truth_under_a_case.Holds := by
  w_on; o_law; k_head; (case hw => w_witness2)
  k_fill
  refine Fv.walk (l := PySem.Challenge.rw_fivefault_k30_truth_under_a_case) rfl rfl (fun w h Y => PySem.W.km_in_of Y) ?R ?F
  case R => exact ⟨_, rfl⟩
  case F =>
    intro w mg fa h KX G hmg
    refine' Fv.all_mk KX G hmg ?a1 ?l1 ?c1 ?k1 ?a2 ?l2 ?c2 ?k2 ?a3 ?l3 ?c3 ?k3 ?a4 ?l4 ?c4 ?k4 ?a5 ?l5 ?c5 ?k5 ?a6 ?l6 ?c6 ?k6 ?a7 ?l7 ?c7 ?k7 ?a8 ?l8 ?c8 ?k8 ?a9 ?l9 ?c9 ?k9 ?a10 ?l10 ?c10 ?k10 ?a11 ?l11 ?c11 ?k11 ?a12 ?l12 ?c12 ?k12 ?a13 ?l13 ?c13 ?k13 ?a14 ?l14 ?c14 ?k14 ?a15 ?l15 ?c15 ?k15 ?a16 ?l16 ?c16 ?k16 ?a17 ?l17 ?c17 ?k17 ?a18 ?l18 ?c18 ?k18 ?a19 ?l19 ?c19 ?k19 ?y0 ?y1 ?yl1 ?y2 ?y3 ?z_len ?z_int ?z_list ?z_str ?z_tuple ?z_isinstance ?z_bool ?z_dict ?z_all ?z_any ?z_zip ?z_max ?z_range ?z_super ?z_sorted ?e1 ?e23a ?e23b ?e23c ?e20 ?e27 ?e2_InvalidTerm ?e3_InvalidTerm ?e4_InvalidTerm ?e5_InvalidTerm ?e6_InvalidTerm ?e7_InvalidTerm ?e8_InvalidTerm ?e13_InvalidTerm ?e9_InvalidTerm ?e10_InvalidTerm ?e11_InvalidTerm ?e12_InvalidTerm ?e14_InvalidTerm ?e15_InvalidTerm ?e16_InvalidTerm ?e17_InvalidTerm ?e18_InvalidTerm ?e19t_InvalidTerm ?e21_InvalidTerm ?e22_InvalidTerm ?e23d_InvalidTerm ?e24_InvalidTerm ?e25_InvalidTerm ?e26_InvalidTerm ?ecd ?tlc ?t11 ?tPt
    (case a1 => k_is)
    (case l1 => k_is)
    (case c1 => k_is)
    (case k1 => k_is)
    (case a2 => k_is)
    (case l2 => k_is)
    (case c2 => k_is)
    (case k2 => k_is)
    (case a3 => k_is)
    (case l3 => k_is)
    (case c3 => k_is)
    (case k3 => k_is)
    (case a4 => k_is)
    (case l4 => k_is)
    (case c4 => k_is)
    (case k4 => k_is)
    (case a5 => k_is)
    (case l5 => k_is)
    (case c5 => k_is)
    (case k5 => k_is)
    (case a6 => k_is)
    (case l6 => k_is)
    (case c6 => k_is)
    (case k6 => k_is)
    (case a7 => k_is)
    (case l7 => k_is)
    (case c7 => k_is)
    (case k7 => k_is)
    (case a8 => k_is)
    (case l8 => k_is)
    (case c8 => k_is)
    (case k8 => k_is)
    (case a9 => k_is)
    (case l9 => k_is)
    (case c9 => k_is)
    (case k9 => k_is)
    (case a10 => k_is)
    (case l10 => k_is)
    (case c10 => k_is)
    (case k10 => k_is)
    (case a11 => k_is)
    (case l11 => k_is)
    (case c11 => k_is)
    (case k11 => k_is)
    (case a12 => k_is)
    (case l12 => k_is)
    (case c12 => k_is)
    (case k12 => k_is)
    (case a13 => k_is)
    (case l13 => k_is)
    (case c13 => k_is)
    (case k13 => k_is)
    (case a14 => k_is)
    (case l14 => k_is)
    (case c14 => k_is)
    (case k14 => k_is)
    (case a15 => k_is)
    (case l15 => k_is)
    (case c15 => k_is)
    (case k15 => k_is)
    (case a16 => k_is)
    (case l16 => k_is)
    (case c16 => k_is)
    (case k16 => k_is)
    (case a17 => k_is)
    (case l17 => k_is)
    (case c17 => k_is)
    (case k17 => k_is)
    (case a18 => k_is)
    (case l18 => k_is)
    (case c18 => k_is)
    (case k18 => k_is)
    (case a19 => k_is)
    (case l19 => k_is)
    (case c19 => k_is)
    (case k19 => k_is)
    (case y0 => k_is)
    (case y1 => k_is)
    (case yl1 => k_is)
    (case y2 => k_is)
    (case y3 => k_is)
    (case z_len => k_is)
    (case z_int => k_is)
    (case z_list => k_is)
    (case z_str => k_is)
    (case z_tuple => k_is)
    (case z_isinstance => k_is)
    (case z_bool => k_is)
    (case z_dict => k_is)
    (case z_all => k_is)
    (case z_any => k_is)
    (case z_zip => k_is)
    (case z_max => k_is)
    (case z_range => k_is)
    (case z_super => k_is)
    (case z_sorted => k_is)
    (case e1 => k_is)
    (case e23a => k_is)
    (case e23b => k_is)
    (case e23c => k_is)
    (case e20 => k_is)
    (case e27 => decide +kernel)
    (case e2_InvalidTerm => k_is)
    (case e3_InvalidTerm => k_is)
    (case e4_InvalidTerm => decide +kernel)
    (case e5_InvalidTerm => k_is)
    (case e6_InvalidTerm => k_is)
    (case e7_InvalidTerm => k_is)
    (case e8_InvalidTerm => k_is)
    (case e13_InvalidTerm => k_is)
    (case e9_InvalidTerm => k_is)
    (case e10_InvalidTerm => k_is)
    (case e11_InvalidTerm => k_is)
    (case e12_InvalidTerm => exact rfl)
    (case e14_InvalidTerm => decide +kernel)
    (case e15_InvalidTerm => k_is)
    (case e16_InvalidTerm => ks_is)
    (case e17_InvalidTerm => k_is)
    (case e18_InvalidTerm => k_is)
    (case e19t_InvalidTerm => decide +kernel)
    (case e21_InvalidTerm => k_is)
    (case e22_InvalidTerm => k_is)
    (case e23d_InvalidTerm => k_is)
    (case e24_InvalidTerm => k_is)
    (case e25_InvalidTerm => k_is)
    (case e26_InvalidTerm => k_is)
    (case ecd => exact rfl)
    (case tlc => k_is)
    (case t11 => exact rfl)
    (case tPt => kernel_rfl)
