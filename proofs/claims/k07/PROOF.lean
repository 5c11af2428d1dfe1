import PyProof.Rows.All
import Wide.All
import OpenK.AllK
import Wide.FinOn
import HandS.Base
import HandS.Call
import HandS.List
import HandS.Comp
import HandS.Ends
import HandS.Iter
import HandS.Text
import HandS.Words
import HandS.WordsList
import HandS.More
import HandS.Codes
import HandS.IsInst
import HandS.Zip
import HandS.Walk
import HandS.Style
import HandS.Defaults
import HandS.MakeKwOnly
import KE.KExcSuper
import HandS.Exc
import HandS.ExcInit
import HandS.ExcField
import HandS.Lambda
import HandS.Star
import HandS.WordsExc
import HandS.FStr
import HandS.Deep
import HandS.EndTab
import PySem.Challenge.RW_fivefault_k07_texts_of_rules_and_goals
set_option Elab.async false
set_option linter.all false
set_option maxRecDepth 100000

namespace Fv
open PySem PySem.Spec PyProof.Rows L2
/-! ### heaps -/
theorem same_upd {H : Hp} {p : Addr} {o : HO} (h : H p = none) : Same H (upd H p o) := fun b x e => by
  rw [upd_ne (ne_of_none e h)]
  exact e
/-- all but what stands at M is as it was -/
def SmX (M : List Addr) (H H' : Hp) : Prop := ∀ b o, b ∉ M → H b = some o → H' b = some o
theorem SmX.refl (M : List Addr) (H : Hp) : SmX M H H := fun _ _ _ h => h
theorem SmX.trans {M : List Addr} {H H1 H2 : Hp} (a : SmX M H H1) (b : SmX M H1 H2) : SmX M H H2 := fun c o m h => b c o m (a c o m h)
theorem SmX.of_same {M : List Addr} {H H1 : Hp} (a : Same H H1) : SmX M H H1 := fun c o _ h => a c o h
theorem SmX.new {M : List Addr} {H : Hp} {p : Addr} {o : HO} (h : H p = none) : SmX M H (upd H p o) := .of_same (same_upd h)
theorem SmX.sub {M M' : List Addr} {H H1 : Hp} (a : SmX M H H1) (h : ∀ b, b ∈ M → b ∈ M' ∨ H b = none) : SmX M' H H1 := fun c o m e => by
  refine a c o (fun hc => ?_) e
  rcases h c hc with q | q
  · exact m q
  · rw [q] at e; cases e
theorem SmX.at {M : List Addr} {H H1 : Hp} {a : Addr} (h : ∀ b, b ≠ a → H1 b = H b) (m : a ∈ M) : SmX M H H1 := fun c o n e => by
  rw [h c (fun z => n (z ▸ m))]; exact e
theorem SmX.put {M : List Addr} {H H1 : Hp} {p : Addr} {o : HO} (a : SmX M H H1) (m : p ∈ M) : SmX M H (L2.upd H1 p o) := fun c x n e => by
  have ne : c ≠ p := fun z => n (z ▸ m)
  rw [upd_ne ne]; exact a c x n e
/-- what does not stand at M -/
def hide (M : List Addr) (H : Hp) : Hp := fun b => if b ∈ M then none else H b
theorem hide_ne {M : List Addr} {H : Hp} {b : Addr} (h : b ∉ M) : hide M H b = H b := by unfold hide; rw [if_neg h]
theorem hide_some {M : List Addr} {H : Hp} {b : Addr} {o : HO} (h : hide M H b = some o) : b ∉ M ∧ H b = some o := by
  unfold hide at h
  by_cases m : b ∈ M
  · rw [if_pos m] at h; cases h
  · rw [if_neg m] at h; exact ⟨m, h⟩
theorem hide_same {M : List Addr} {H : Hp} : Same (hide M H) H := fun b o h => (hide_some h).2
theorem SmX.hid {M : List Addr} {H H' : Hp} (h : SmX M H H') : Same (hide M H) (hide M H') := fun b o e => by
  obtain ⟨m, e⟩ := hide_some e
  rw [hide_ne m]
  exact h b o m e
theorem hide_sub {M M' : List Addr} {H : Hp} (h : ∀ b, b ∈ M' → b ∈ M) : Same (hide M H) (hide M' H) := fun b o e => by
  obtain ⟨m, e⟩ := hide_some e
  rw [hide_ne (fun z => m (h b z))]
  exact e
theorem same_seqT {K : PySem.W.Frag} {H H' : Hp} {a : Addr} {xs : List V} (e : Same H H') (h : SqT K H a xs) : SqT K H' a xs := by
  rcases h with (h | ⟨o, h⟩) | h
  · exact .inl (.inl (e _ _ h))
  · exact .inl (.inr ⟨o, e _ _ h⟩)
  · exact .inr h
mutual
theorem dp_same {K : PySem.W.Frag} {H H' : Hp} (e : Same H H') : ∀ (d : PyData) (v : V), Dp K H v d → Dp K H' v d
  | .none, _, h => by cases h; exact .non
  | .bool b, _, h => by cases h; exact .bl b
  | .int i, _, h => by cases h; exact .int i
  | .str x, _, h => by cases h; exact .str x
  | .list ds, _, h => by cases h with | lst hs ha => exact .lst (e.seq hs) (dpAll_same e ds _ ha)
  | .tuple ds, _, h => by cases h with | tup hs ha => exact .tup (same_seqT e hs) (dpAll_same e ds _ ha)
  | .dict kvs, _, h => by cases h
theorem dpAll_same {K : PySem.W.Frag} {H H' : Hp} (e : Same H H') : ∀ (ds : List PyData) (vs : List V), DpAll K H vs ds → DpAll K H' vs ds
  | [], _, h => by cases h; exact .nil
  | d :: ds, _, h => by cases h with | cons h1 h2 => exact .cons (dp_same e d _ h1) (dpAll_same e ds _ h2)
end
theorem dpAll_len {K : PySem.W.Frag} {H : Hp} : ∀ {vs : List V} {ds : List PyData}, DpAll K H vs ds → vs.length = ds.length
  | _, _, .nil => rfl
  | _, _, .cons _ h => by rw [List.length_cons, List.length_cons, dpAll_len h]
theorem dpAll_get {K : PySem.W.Frag} {H : Hp} : ∀ {vs : List V} {ds : List PyData} {i : Nat} {v : V}, DpAll K H vs ds → vs[i]? = some v → ∃ d, ds[i]? = some d ∧ Dp K H v d
  | _, _, _, _, .nil, e => by simp at e
  | _, _, 0, _, .cons h _, e => by simp at e; subst e; exact ⟨_, rfl, h⟩
  | _ :: vs, _ :: ds, i + 1, _, .cons _ h, e => by
    have e' : vs[i]? = some _ := e
    exact dpAll_get (ds := ds) h e'
theorem dpAll_app {K : PySem.W.Frag} {H : Hp} : ∀ {vs ws : List V} {ds es : List PyData}, DpAll K H vs ds → DpAll K H ws es → DpAll K H (vs ++ ws) (ds ++ es)
  | _, _, _, _, .nil, h => h
  | _, _, _, _, .cons h1 h2, h => .cons h1 (dpAll_app h2 h)
theorem dpAll_drop {K : PySem.W.Frag} {H : Hp} : ∀ (n : Nat) {vs : List V} {ds : List PyData}, DpAll K H vs ds → DpAll K H (vs.drop n) (ds.drop n)
  | 0, _, _, h => h
  | n + 1, _, _, .nil => .nil
  | n + 1, _, _, .cons _ h => dpAll_drop n h
/-! ### data -/
mutual
/-- plain data, nested at most n deep -/
def gd : Nat → PyData → Bool
  | _, .none => true
  | _, .bool _ => true
  | _, .int _ => true
  | _, .str x => PyData.strOk x && decide (x.length ≤ 100000)
  | 0, _ => false
  | n + 1, .list ds => gdAll n ds && decide (ds.length ≤ 1000)
  | n + 1, .tuple ds => gdAll n ds && decide (ds.length ≤ 1000)
  | _, .dict _ => false
def gdAll : Nat → List PyData → Bool
  | _, [] => true
  | n, d :: ds => gd n d && gdAll n ds
end
theorem gdAll_iff {n : Nat} : ∀ {ds : List PyData}, gdAll n ds = true ↔ ∀ d ∈ ds, gd n d = true
  | [] => by simp [gdAll]
  | d :: ds => by simp [gdAll, gdAll_iff (n := n) (ds := ds)]
mutual
theorem gd_up : ∀ (n : Nat) (d : PyData), gd n d = true → gd (n + 1) d = true
  | _, .none, _ => rfl
  | _, .bool _, _ => rfl
  | _, .int _, _ => rfl
  | 0, .str x, h => h
  | n + 1, .str x, h => h
  | 0, .list _, h => by cases h
  | 0, .tuple _, h => by cases h
  | 0, .dict _, h => by cases h
  | n + 1, .list ds, h => by
    simp only [gd, Bool.and_eq_true] at h ⊢
    exact ⟨gdAll_up n ds h.1, h.2⟩
  | n + 1, .tuple ds, h => by
    simp only [gd, Bool.and_eq_true] at h ⊢
    exact ⟨gdAll_up n ds h.1, h.2⟩
  | n + 1, .dict _, h => by cases h
theorem gdAll_up : ∀ (n : Nat) (ds : List PyData), gdAll n ds = true → gdAll (n + 1) ds = true
  | _, [], _ => rfl
  | n, d :: ds, h => by
    simp only [gdAll, Bool.and_eq_true] at h ⊢
    exact ⟨gd_up n d h.1, gdAll_up n ds h.2⟩
end
theorem gd_le {n m : Nat} {d : PyData} (h : gd n d = true) (hm : n ≤ m) : gd m d = true := by
  induction hm with
  | refl => exact h
  | step _ ih => exact gd_up _ _ ih
mutual
theorem gd_lay : ∀ (n : Nat) (d : PyData), gd n d = true → d.canLay0 = true ∧ d.depth ≤ n
  | _, .none, _ => ⟨rfl, by simp [PyData.depth]⟩
  | _, .bool _, _ => ⟨rfl, by simp [PyData.depth]⟩
  | _, .int _, _ => ⟨rfl, by simp [PyData.depth]⟩
  | 0, .str x, h => ⟨by simp only [gd, Bool.and_eq_true] at h; simpa [PyData.canLay0] using h.1, by simp [PyData.depth]⟩
  | n + 1, .str x, h => ⟨by simp only [gd, Bool.and_eq_true] at h; simpa [PyData.canLay0] using h.1, by simp [PyData.depth]⟩
  | 0, .list _, h => by cases h
  | 0, .tuple _, h => by cases h
  | 0, .dict _, h => by cases h
  | n + 1, .list ds, h => by
    have q := gdAll_lay n ds (by simp only [gd, Bool.and_eq_true] at h; exact h.1)
    exact ⟨by simpa [PyData.canLay0] using q.1, by simp only [PyData.depth]; omega⟩
  | n + 1, .tuple ds, h => by
    have q := gdAll_lay n ds (by simp only [gd, Bool.and_eq_true] at h; exact h.1)
    exact ⟨by simpa [PyData.canLay0] using q.1, by simp only [PyData.depth]; omega⟩
  | n + 1, .dict _, h => by cases h
theorem gdAll_lay : ∀ (n : Nat) (ds : List PyData), gdAll n ds = true → PyData.canLayAll0 ds = true ∧ PyData.depthAll ds ≤ n
  | _, [], _ => ⟨rfl, by simp [PyData.depthAll]⟩
  | n, d :: ds, h => by
    simp only [gdAll, Bool.and_eq_true] at h
    have a := gd_lay n d h.1
    have b := gdAll_lay n ds h.2
    exact ⟨by simp [PyData.canLayAll0, a.1, b.1], by simp only [PyData.depthAll]; omega⟩
end
theorem gd_list {n : Nat} {ds : List PyData} (h : gd (n + 1) (.list ds) = true) : ds.length ≤ 1000 ∧ ∀ d ∈ ds, gd n d = true := by
  simp only [gd, Bool.and_eq_true, decide_eq_true_eq] at h
  exact ⟨h.2, gdAll_iff.mp h.1⟩
theorem gd_tuple {n : Nat} {ds : List PyData} (h : gd (n + 1) (.tuple ds) = true) : ds.length ≤ 1000 ∧ ∀ d ∈ ds, gd n d = true := by
  simp only [gd, Bool.and_eq_true, decide_eq_true_eq] at h
  exact ⟨h.2, gdAll_iff.mp h.1⟩
theorem gd_tup {n : Nat} {ds : List PyData} (h : ∀ d ∈ ds, gd n d = true) (hl : ds.length ≤ 1000) : gd (n + 1) (.tuple ds) = true := by
  simp only [gd, Bool.and_eq_true, decide_eq_true_eq]
  exact ⟨gdAll_iff.mpr h, hl⟩
theorem gd_lst {n : Nat} {ds : List PyData} (h : ∀ d ∈ ds, gd n d = true) (hl : ds.length ≤ 1000) : gd (n + 1) (.list ds) = true := by
  simp only [gd, Bool.and_eq_true, decide_eq_true_eq]
  exact ⟨gdAll_iff.mpr h, hl⟩
theorem gd_shaped {n : Nat} {d : PyData} (h : gd n d = true) (hn : n ≤ 64) : SeqAt.shaped d = true := by
  have q := gd_lay n d h
  show (d.canLay0 && decide (d.depth ≤ 64)) = true
  rw [q.1, decide_eq_true (Nat.le_trans q.2 hn)]
  rfl
end Fv


namespace Fv
open PySem PySem.Spec PyProof.Rows L2
/-! ### an own def as its callers see it -/
structure Own (P : Program) (w : World) (K : PySem.W.Frag) (mg : Str → Option Value) (base : Heap) (k : Nat) (x : Str) (ps : List Str) (sp : Sp) : Prop where
  ex : ∃ (f : Addr) (fd : FuncData), mg x = some (.ref f) ∧ PySem.W.keepIn K (.ref f) = true ∧ Binds K fd ps [] ∧ FnOk P w K mg base CX0 k f fd ps sp
section
variable {X : Cx} {k : Nat} {x : Str} {ps : List Str} {sp : Sp} {e : Expr} {es : List Expr} {t : TA} {p pos : Pos}
theorem pe_own (C : Own X.prog X.w X.K X.mg X.base k x ps sp) (hr : Room k X.A) (hg : Gl X x) (ha : PA X (e :: es) t) (hdb : (x == ("__debug__" : Str)) = false := by decide)
    (he : starEach (e :: es) X.env = (false, eval e X.env) :: starEach es X.env := by rfl) (hpl : (backTo pos (starEach es X.env)).any (·.1) = false := by rfl) : PE X (.Call (.Name x p) (e :: es) [] pos) (tCall sp [] E0 t) := by
  obtain ⟨f, fd, h1, h2, h3, h4⟩ := C.ex
  exact pe_call h4 hr hg h1 h2 h3 .nil pass0 ha hdb he hpl
end
/-! ### isinstance of data -/
def tyN : PyData → String
  | .none => "NoneType"
  | .bool _ => "bool"
  | .int _ => "int"
  | .str _ => "str"
  | .list _ => "list"
  | .tuple _ => "tuple"
  | .dict _ => "dict"
/-- isinstance of data, by the names of the types -/
def isB : String → String → Bool
  | a, b => a == b || (a == "bool" && b == "int")
def tyOk (T : String) : Bool := T == "str" || T == "int" || T == "bool" || T == "list" || T == "tuple" || T == "dict"
theorem kitB_all {d : PyData} {T : String} (h : tyOk T = true) : kitB (tyN d) T = some (isB (tyN d) T) := by
  simp only [tyOk, Bool.or_eq_true, beq_iff_eq] at h
  rcases h with ((((h | h) | h) | h) | h) | h <;> subst h <;> cases d <;> (simp only [tyN]; decide +kernel)
theorem dp_ty {K : PySem.W.Frag} {H : Hp} {v : V} {d : PyData} (h : Dp K H v d) : TyX K H v (.type (tyN d)) := by
  cases h with
  | non => exact .base .non
  | bl b => exact .base (.bl b)
  | int i => exact .base (.int i)
  | str x => exact .base (.str x)
  | lst hs ha =>
    rcases hs with (h | ⟨o, h⟩) | ⟨o, its, n, h1, h2, _⟩
    · exact .base (.lst h)
    · exact .base (.frz h)
    · exact .kList h1 h2
  | tup hs ha =>
    rcases hs with (h | ⟨o, h⟩) | ⟨o, its, n, h1, h2, _⟩
    · exact .base (.tup h)
    · exact .fTuple h
    · exact .kTuple h1 h2
def rIsD (K : PySem.W.Frag) : List V → Hp → VK → Prop := fun xs H Q => ∃ (x : V) (T : String) (d : PyData), xs = [x, .ty T] ∧ tyOk T = true ∧ Dp K H x d ∧ Q (.bl (isB (tyN d) T)) H
theorem call_isD {X : Cx} : CallR X (.builtin "isinstance") (rIsD X.K) := by
  intro pins s σ H xs us Q I r h
  obtain ⟨x, T, d, rfl, hT, hd, q⟩ := h
  exact call_isi pins s σ H _ us Q I r ⟨x, .ty T, _, _, _, rfl, .ty T, dp_ty hd, kit_ty (kitB_all hT), q⟩
section
variable {X : Cx} {e : Expr} {te : TE} {T : String} {y : Str} {p p2 pos : Pos}
theorem pe_isD (hg : Gl X "isinstance") (hm : X.mg "isinstance" = none) (hg2 : Gl X y) (hm2 : X.mg y = none) (ha : PE X e te)
    (hv : bootBuiltins y = some (.type T) := by decide +kernel) (hn : y ≠ "__name__" := by decide) (hd2 : (y == ("__debug__" : Str)) = false := by decide)
    (he : starEach (e :: [.Name y p2]) X.env = (false, eval e X.env) :: starEach [.Name y p2] X.env := by rfl) (hpl : (backTo pos (starEach [.Name y p2] X.env)).any (·.1) = false := by rfl) :
    PE X (.Call (.Name "isinstance" p) [e, .Name y p2] [] pos) (tCB (rIsD X.K) (tCons te (tCons (tC (.ty T)) tNil))) :=
  pe_callB (x := "isinstance") call_isD hg hm (by decide +kernel) (pa_cons ha (pa_cons (pe_bltn (v := .ty T) (pos := p2) hg2 hm2 hv rfl hn hd2) pa_nil) (hs := he)) (by decide) (by decide) he hpl
/-! ### in, not in: a tuple of data -/
def rInT (K : PySem.W.Frag) : R2 := fun x y H Q => ∃ d ds, Dp K H x d ∧ Dp K H y (.tuple ds) ∧ SeqAt.shaped d = true ∧ SeqAt.shaped (.tuple ds) = true ∧ Q (.bl (ds.any fun z => PyData.eqv z d)) H
def rNotInT (K : PySem.W.Frag) : R2 := fun x y H Q => ∃ d ds, Dp K H x d ∧ Dp K H y (.tuple ds) ∧ SeqAt.shaped d = true ∧ SeqAt.shaped (.tuple ds) = true ∧ Q (.bl (!ds.any fun z => PyData.eqv z d)) H
theorem room_shaped {n : Nat} {ds : List PyData} {d : PyData} (h : SeqAt.shaped d = true) (hu : n + 65 < cLine) : n + 1 + min (PyData.depthAll ds) d.depth < cLine := by
  have := SeqAt.depth_of_shaped h
  have := Nat.min_le_right (PyData.depthAll ds) d.depth
  omega
theorem op_inT (hu : X.A.units + 65 < cLine) : OpR X (compareOp .In) (rInT X.K) := by
  intro pins s σ H x y v u Q I rx ry h
  obtain ⟨d, ds, hd, he, sd, se, q⟩ := h
  obtain ⟨as, r1⟩ := Dp.reads I d x v hd rx
  obtain ⟨bs, r2⟩ := Dp.reads I (.tuple ds) y u he ry
  exact SeqAt.in_tuple_reads r2 r1 (SeqAt.canLay_of_shaped se) (SeqAt.canLay_of_shaped sd) (room_shaped sd hu) ⟨.bl _, H, I, rfl, q⟩
theorem op_notInT (hu : X.A.units + 65 < cLine) : OpR X (compareOp .NotIn) (rNotInT X.K) := by
  intro pins s σ H x y v u Q I rx ry h
  obtain ⟨d, ds, hd, he, sd, se, q⟩ := h
  obtain ⟨as, r1⟩ := Dp.reads I d x v hd rx
  obtain ⟨bs, r2⟩ := Dp.reads I (.tuple ds) y u he ry
  exact SeqAt.notIn_tuple_reads r2 r1 (SeqAt.canLay_of_shaped se) (SeqAt.canLay_of_shaped sd) (room_shaped sd hu) ⟨.bl _, H, I, rfl, q⟩
end
theorem hu65 {A : Around} {k : Nat} (hr : Room k A) : A.units + 65 < cLine := by have := hr.un; omega
/-! ### the source of draws -/
/-- the source at a: its script at L, ns -/
def Src (H : Hp) (a L : Addr) (ns : List Int) : Prop := ∃ i p st c : Int, H a = some (.lst [.ref L, .int i, .int p, .int st, .int c]) ∧ H L = some (.lst (ns.map V.int)) ∧ 0 ≤ i ∧ 0 ≤ st ∧ st < 2147483629
theorem Src.off {H H' : Hp} {a L b : Addr} {ns : List Int} (h : Src H a L ns) (hb : H b = none) (e : ∀ c, c ≠ b → H' c = H c) : Src H' a L ns := by
  obtain ⟨i, p, st, c, h1, h2, h3⟩ := h
  exact ⟨i, p, st, c, by rw [e a (ne_of_none h1 hb)]; exact h1, by rw [e L (ne_of_none h2 hb)]; exact h2, h3⟩
theorem Src.same {H H' : Hp} {a L : Addr} {ns : List Int} (h : Src H a L ns) (e : Same H H') : Src H' a L ns := by
  obtain ⟨i, p, st, c, h1, h2, h3⟩ := h
  exact ⟨i, p, st, c, e _ _ h1, e _ _ h2, h3⟩
def spSource (K : PySem.W.Frag) : Sp := fun vs H Q _ => ∃ (a : Addr) (ns : List Int), vs = [.ref a] ∧ SqL K H a (ns.map V.int) ∧ ns.length ≤ 63 ∧
  ∀ (H' : Hp) (p L : Addr), Same H H' → H p = none → H L = none → Src H' p L ns → Q (.ref p) H'
def spTake : Sp := fun vs H Q _ => ∃ (a L : Addr) (ns : List Int) (n : Int), vs = [.ref a, .int n] ∧ Src H a L ns ∧ 1 ≤ n ∧ n ≤ 1000000 ∧
  ∀ (H' : Hp) (d : Int), 0 ≤ d → d < n → Src H' a L ns → (∀ b, b ≠ a → H' b = H b) → Q (.int d) H'
def spPick : Sp := fun vs H Q _ => ∃ (a L r : Addr) (ns : List Int) (xs : List V), vs = [.ref a, .ref r] ∧ Src H a L ns ∧ r ≠ a ∧ H r = some (.lst xs) ∧ 0 < xs.length ∧ xs.length ≤ 1000 ∧
  ∀ (H' : Hp) (v : V), v ∈ xs → Src H' a L ns → (∀ b, b ≠ a → H' b = H b) → Q v H'
def spMixed : Sp := fun vs H Q _ => ∃ (a L r : Addr) (ns : List Int) (xs : List V), vs = [.ref a, .ref r] ∧ Src H a L ns ∧ r ≠ a ∧ H r = some (.lst xs) ∧ xs.length ≤ 1000 ∧
  ∀ (H' : Hp) (p : Addr) (ys : List V), ys.Perm xs → H p = none → H' p = some (.lst ys) → Src H' a L ns → (∀ b, b ≠ a → b ≠ p → H' b = H b) → Q (.ref p) H'
end Fv


namespace Fv
open PySem PySem.Spec PyProof.Rows L2
/-! ### list(text) -/
def signs (x : Str) : List V := x.cps.toList.map fun c => V.str ⟨#[c]⟩
theorem vals_signs {x : Str} {acc : Array Value} (h : ItemsOf (SignAt x) acc x.cps.size) : Vals (signs x) acc.toList := by
  have hs : acc.toList.length = x.cps.toList.length := by simpa using h.1
  have hi : ∀ (j : Nat) (v : Value), acc.toList[j]? = some v → ∃ c u, x.cps.toList[j]? = some c ∧ v = .str ⟨#[c]⟩ u := fun j v e => by
    obtain ⟨c, u, e1, e2⟩ := h.2 j v (by simpa using e)
    exact ⟨c, u, by simpa using e1, e2⟩
  unfold signs
  generalize acc.toList = us at hs hi
  generalize x.cps.toList = cs at hs hi
  induction cs generalizing us with
  | nil =>
    cases us with
    | nil => exact .nil
    | cons u us => simp at hs
  | cons c cs ih =>
    cases us with
    | nil => simp at hs
    | cons u us =>
      obtain ⟨c', t, e1, e2⟩ := hi 0 u rfl
      simp at e1
      subst e1
      refine .cons ⟨t, e2⟩ (ih us (by simpa using hs) fun j v e => ?_)
      obtain ⟨c', t, e1, e2⟩ := hi (j + 1) v (by simpa using e)
      exact ⟨c', t, by simpa using e1, e2⟩
section
variable {X : Cx}
theorem call_listStr (hh : X.A.handled = none) : CallR X (.type "list") (fun xs H Q => ∃ x : Str, xs = [.str x] ∧ x.cps.size ≤ sizeLine ∧ ∀ l, H l = none → Q (.ref l) (upd H l (.lst (signs x)))) := by
  intro pins s σ H xs us Q I r h
  obtain ⟨x, rfl, hz, q⟩ := h
  obtain ⟨u, rfl, rx⟩ := vals1 r
  obtain ⟨t, rfl⟩ := rx
  refine call_list_str hh x t (fun h' tk acc' c' kp e it => ?_) hz
  have rv := vals_signs it
  refine ⟨.ref s.heap.objs.size, _, I.laid (t' := tk) kp (Nat.le_refl _) (show ObjOk X.prog X.w _ h' _ (.lst (signs x)) from ⟨?_, acc'.toList, c', rv, ?_⟩), rfl, q _ (I.hok.fresh (Nat.le_refl _))⟩
  · unfold signs; rw [List.length_map, Array.length_toList]; exact hz
  · simpa using e
end
theorem atI_mem {xs : List V} {i : Int} (h0 : 0 ≤ i) (h : i < (xs.length : Nat)) : ∃ v, atI xs i = some v ∧ v ∈ xs := by
  have hk : i.toNat < xs.length := by omega
  have q : atI xs ((i.toNat : Nat) : Int) = some xs[i.toNat] := atI_nat (List.getElem?_eq_getElem hk)
  rw [show ((i.toNat : Nat) : Int) = i by omega] at q
  exact ⟨_, q, List.getElem_mem hk⟩
theorem le1000 {n : Nat} (h : n ≤ 1000) : n ≤ sizeLine := Nat.le_of_lt (small1000 h)
/-- the letters of a list of signs are texts of one sign of a to h -/
def lett (v : V) : Prop := v ∈ signs "abcdefgh"
theorem lett_data {v : V} (h : lett v) : ∃ x : Str, v = .str x ∧ x ∈ (["a", "b", "c", "d", "e", "f", "g", "h"] : List Str) := by
  have e : signs "abcdefgh" = (["a", "b", "c", "d", "e", "f", "g", "h"] : List Str).map V.str := by decide +kernel
  unfold lett at h
  rw [e] at h
  obtain ⟨x, hx, rfl⟩ := List.mem_map.mp h
  exact ⟨x, rfl, hx⟩
def spSigns : Sp := fun vs H Q _ => ∃ (a L : Addr) (ns : List Int) (n : Int), vs = [.ref a, .int n] ∧ Src H a L ns ∧ 1 ≤ n ∧ n ≤ 8 ∧
  ∀ (H' : Hp) (p : Addr) (ys : List V), 0 < ys.length → ys.length ≤ n → (∀ y ∈ ys, lett y) → ys.Nodup → H p = none → H' p = some (.lst ys) → Src H' a L ns → SmX [a] H H' → Q (.ref p) H'
theorem cut_take (xs : List V) {n : Int} (h : 0 ≤ n) : cutV xs none (some n) = xs.take n.toNat := by
  unfold cutV
  rw [HT.sIx_none, show HT.sIx xs.length xs.length (some n) = min n.toNat xs.length by
    have := HT.sIx_nat xs.length xs.length n.toNat
    rw [show ((n.toNat : Nat) : Int) = n by omega] at this
    exact this]
  rw [List.drop_zero, Nat.sub_zero]
  rcases Nat.le_total n.toNat xs.length with q | q
  · rw [Nat.min_eq_left q]
  · rw [Nat.min_eq_right q, List.take_of_length_le (Nat.le_refl _), List.take_of_length_le q]
theorem cut_drop1 (xs : List V) : cutV xs (some 1) none = xs.drop 1 := by
  unfold cutV
  rw [show HT.sIx xs.length 0 (some 1) = min 1 xs.length from HT.sIx_nat xs.length 0 1, HT.sIx_none]
  cases xs with
  | nil => rfl
  | cons x r =>
    rw [show min 1 (x :: r).length = 1 by
      rw [List.length_cons]
      omega]
    show (List.take ((x :: r).length - 1) r) = r
    rw [List.length_cons, Nat.add_sub_cancel]
    exact List.take_length
end Fv


namespace Fv
open PySem PySem.Spec PyProof.Rows L2
/-! ### measures of data -/
def isL (s : Str) : Bool := decide (V.int (s.length : Nat) = V.int 1) && !(Builtin.Str.occurrences "abcdefgh" s 0 (Str.length "abcdefgh") 1).isEmpty
def isLd : PyData → Bool
  | .str s => isL s
  | _ => false
def isOp (o : PyData) : Bool := ([PyData.str "&", .str "|"] : List PyData).any fun z => PyData.eqv z o
def isCd : PyData → Bool
  | .tuple (o :: ds) => decide (2 ≤ ds.length) && isOp o
  | _ => false
def parts : PyData → List PyData
  | .tuple (_ :: ds) => ds
  | _ => []
def measL (f : PyData → Int → Option (Int × Int)) : List PyData → Int → Int → Int → Option (Int × Int)
  | [], _, dp, tot => some (dp + 1, tot)
  | d :: ds, ms, dp, tot => match f d (ms - tot) with
    | none => none
    | some (a, b) => measL f ds ms (if a > dp then a else dp) (tot + b)
def meas : Nat → PyData → Int → Option (Int × Int)
  | 0, _, _ => none
  | n + 1, d, ms => if ms < 1 then none else if isLd d = true then some (1, 1) else if isCd d = true then measL (meas n) (parts d) ms 0 0 else none
def lmeas : Nat → PyData → Int
  | 0, _ => 0
  | n + 1, d => if isLd d = true then 1 else if isCd d = true then (if (0 : Int) ∈ (parts d).map (lmeas n) then 0 else ((parts d).map (lmeas n)).sum) else 0
theorem sum_nonneg : ∀ {l : List Int}, (∀ x ∈ l, 0 ≤ x) → 0 ≤ l.sum
  | [], _ => by simp
  | x :: l, h => by
    rw [List.sum_cons]
    have := h x (List.mem_cons_self ..)
    have := sum_nonneg (l := l) fun y hy => h y (List.mem_cons_of_mem _ hy)
    omega
theorem lmeas_nonneg : ∀ (n : Nat) (d : PyData), 0 ≤ lmeas n d
  | 0, _ => by simp [lmeas]
  | n + 1, d => by
    unfold lmeas
    split
    · decide
    · split
      · split
        · decide
        · exact sum_nonneg fun x hx => by
            obtain ⟨d', _, rfl⟩ := List.mem_map.mp hx
            exact lmeas_nonneg n d'
      · decide
theorem measL_iff {f : PyData → Int → Option (Int × Int)} {g : PyData → Int} (hg : ∀ d, 0 ≤ g d)
    (hf : ∀ d ms, (f d ms = none ∧ ¬ (1 ≤ g d ∧ g d ≤ ms)) ∨ (∃ dp, f d ms = some (dp, g d) ∧ 1 ≤ g d ∧ g d ≤ ms)) :
    ∀ (ds : List PyData) (ms dp tot : Int), tot ≤ ms →
      (measL f ds ms dp tot = none ∧ ¬ ((∀ d ∈ ds, 1 ≤ g d) ∧ tot + (ds.map g).sum ≤ ms)) ∨ (∃ dp', measL f ds ms dp tot = some (dp', tot + (ds.map g).sum) ∧ (∀ d ∈ ds, 1 ≤ g d) ∧ tot + (ds.map g).sum ≤ ms)
  | [], ms, dp, tot, h => by
    refine .inr ⟨dp + 1, ?_, by simp, by simpa using h⟩
    simp [measL]
  | d :: ds, ms, dp, tot, h => by
    have hs : 0 ≤ (ds.map g).sum := sum_nonneg fun x hx => by
      obtain ⟨d', _, rfl⟩ := List.mem_map.mp hx
      exact hg d'
    rw [List.map_cons, List.sum_cons]
    rcases hf d (ms - tot) with ⟨e, ne⟩ | ⟨a, e, e1, e2⟩
    · refine .inl ⟨by simp only [measL, e], fun ⟨q1, q2⟩ => ne ⟨q1 d (List.mem_cons_self ..), by omega⟩⟩
    · have st : measL f (d :: ds) ms dp tot = measL f ds ms (if a > dp then a else dp) (tot + g d) := by simp only [measL, e]
      rw [st]
      rcases measL_iff hg hf ds ms (if a > dp then a else dp) (tot + g d) (by omega) with ⟨e', ne⟩ | ⟨dp', e', q1, q2⟩
      · refine .inl ⟨e', fun ⟨q1, q2⟩ => ne ⟨fun x hx => q1 x (List.mem_cons_of_mem _ hx), by omega⟩⟩
      · refine .inr ⟨dp', by rw [e', Int.add_assoc], fun x hx => ?_, by omega⟩
        rcases List.mem_cons.mp hx with e | hx
        · rw [e]; exact e1
        · exact q1 x hx
theorem meas_iff : ∀ (n : Nat) (d : PyData) (ms : Int), (meas n d ms = none ∧ ¬ (1 ≤ lmeas n d ∧ lmeas n d ≤ ms)) ∨ (∃ dp, meas n d ms = some (dp, lmeas n d) ∧ 1 ≤ lmeas n d ∧ lmeas n d ≤ ms)
  | 0, d, ms => .inl ⟨rfl, fun h => by simp only [lmeas] at h; omega⟩
  | n + 1, d, ms => by
    have hn := lmeas_nonneg (n + 1) d
    unfold meas
    by_cases h1 : ms < 1
    · rw [if_pos h1]
      exact .inl ⟨rfl, fun h => by omega⟩
    · rw [if_neg h1]
      unfold lmeas
      by_cases h2 : isLd d = true
      · rw [if_pos h2, if_pos h2]
        exact .inr ⟨1, rfl, by decide, by omega⟩
      · rw [if_neg h2, if_neg h2]
        by_cases h3 : isCd d = true
        · rw [if_pos h3, if_pos h3]
          have q := measL_iff (g := lmeas n) (lmeas_nonneg n) (meas_iff n) (parts d) ms 0 0 (by omega)
          rw [Int.zero_add] at q
          by_cases h4 : (0 : Int) ∈ (parts d).map (lmeas n)
          · rw [if_pos h4]
            rcases q with ⟨e, _⟩ | ⟨dp, e, q1, _⟩
            · exact .inl ⟨e, fun h => by omega⟩
            · obtain ⟨x, hx, e0⟩ := List.mem_map.mp h4
              have := q1 x hx
              omega
          · rw [if_neg h4]
            have all1 : ∀ x ∈ parts d, 1 ≤ lmeas n x := fun x hx => by
              have z := lmeas_nonneg n x
              rcases Int.lt_or_eq_of_le z with z | z
              · omega
              · exact absurd (List.mem_map.mpr ⟨x, hx, z.symm⟩) h4
            rcases q with ⟨e, ne⟩ | ⟨dp, e, q1, q2⟩
            · exact .inl ⟨e, fun h => ne ⟨all1, h.2⟩⟩
            · refine .inr ⟨dp, e, ?_, q2⟩
              have hp : parts d ≠ [] := by
                cases d with
                | tuple ds =>
                  cases ds with
                  | nil => cases h3
                  | cons o ds =>
                    intro e0
                    simp only [parts] at e0
                    rw [e0] at h3
                    simp [isCd] at h3
                | _ => cases h3
              cases hd : parts d with
              | nil => exact absurd hd hp
              | cons x r =>
                rw [hd] at all1
                rw [List.map_cons, List.sum_cons]
                have := all1 x (List.mem_cons_self ..)
                have := sum_nonneg (l := r.map (lmeas n)) fun y hy => by
                  obtain ⟨d', _, rfl⟩ := List.mem_map.mp hy
                  exact lmeas_nonneg n d'
                omega
        · rw [if_neg h3, if_neg h3]
          exact .inl ⟨rfl, fun h => by omega⟩
/-- the two measures agree -/
theorem meas_some (n : Nat) (d : PyData) (ms : Int) : (meas n d ms).isSome = (decide (1 ≤ lmeas n d) && decide (lmeas n d ≤ ms)) := by
  rcases meas_iff n d ms with ⟨e, ne⟩ | ⟨dp, e, h1, h2⟩
  · rw [e]
    by_cases a : 1 ≤ lmeas n d
    · have b : ¬ lmeas n d ≤ ms := fun z => ne ⟨a, z⟩
      simp [b]
    · simp [a]
  · rw [e]; simp [h1, h2]
/-! ### contracts -/
/-- plain data at v: nested at most 20 deep -/
def spIsLetter (K : PySem.W.Frag) : Sp := fun vs H Q _ => ∃ (v : V) (d : PyData), vs = [v] ∧ Dp K H v d ∧ gd 20 d = true ∧ Q (.bl (isLd d)) H
def spIsCompound (K : PySem.W.Frag) : Sp := fun vs H Q _ => ∃ (v : V) (d : PyData), vs = [v] ∧ Dp K H v d ∧ gd 20 d = true ∧ Q (.bl (isCd d)) H
def spMeas (K : PySem.W.Frag) (n : Nat) : Sp := fun vs H Q _ => ∃ (v : V) (d : PyData) (md ms : Int), vs = [v, .int md, .int ms] ∧ Dp K H v d ∧ gd 20 d = true ∧ 0 ≤ md ∧ md < n ∧
  (meas md.toNat d ms = none → ∀ H', Same H H' → Q .non H') ∧ (∀ dp sz, meas md.toNat d ms = some (dp, sz) → ∀ (H' : Hp) (p : Addr), Same H H' → H' p = some (.tup [.int dp, .int sz]) → Q (.ref p) H')
def spIsTerm (K : PySem.W.Frag) : Sp := fun vs H Q _ => ∃ (v : V) (d : PyData) (md ms : Int), vs = [v, .int md, .int ms] ∧ Dp K H v d ∧ gd 20 d = true ∧ 0 ≤ md ∧ md < 20 ∧
  ∀ H', Same H H' → Q (.bl (meas md.toNat d ms).isSome) H'
def spMeasure (K : PySem.W.Frag) (n : Nat) : Sp := fun vs H Q _ => ∃ (v : V) (d : PyData) (md : Int), vs = [v, .int md] ∧ Dp K H v d ∧ gd 20 d = true ∧ 0 ≤ md ∧ md < n ∧
  ∀ H', Same H H' → Q (.int (lmeas md.toNat d)) H'
def spFits (K : PySem.W.Frag) : Sp := fun vs H Q _ => ∃ (v : V) (d : PyData), vs = [v] ∧ Dp K H v d ∧ gd 20 d = true ∧
  ∀ H', Same H H' → Q (.bl (decide (1 ≤ lmeas 5 d) && decide (lmeas 5 d ≤ 24))) H'
theorem gd_parts {n : Nat} {o : PyData} {ds : List PyData} (h : gd (n + 1) (.tuple (o :: ds)) = true) : gd n o = true ∧ ∀ d ∈ ds, gd n d = true := by
  have q := (gd_tuple h).2
  exact ⟨q o (List.mem_cons_self ..), fun d hd => q d (List.mem_cons_of_mem _ hd)⟩
theorem drop_cons_get {α : Type} {l : List α} {i : Nat} {x : α} (h : l[i]? = some x) : l.drop i = x :: l.drop (i + 1) := by
  obtain ⟨hi, e⟩ := List.getElem?_eq_some_iff.mp h
  rw [List.drop_eq_getElem_cons hi, e]
theorem dropHead {vs : List V} {ds : List PyData} {K : PySem.W.Frag} {H : Hp} (h : DpAll K H vs ds) : DpAll K H (vs.drop 1) (ds.drop 1) := dpAll_drop 1 h
theorem isOp_str : isOp (.str "&") = true ∧ isOp (.str "|") = true := by decide +kernel
end Fv


namespace Fv
open PySem PySem.Spec PyProof.Rows L2
/-! ### own defs with defaults, called with and without keywords -/
structure OwnD (P : Program) (w : World) (K : PySem.W.Frag) (mg : Str → Option Value) (base : Heap) (k : Nat) (x : Str) (ps : List Str) (dvs : List V) (sp : Sp) : Prop where
  ex : ∃ (f : Addr) (fd : FuncData) (ds : List Value), mg x = some (.ref f) ∧ PySem.W.keepIn K (.ref f) = true ∧ Binds K fd ps ds ∧ Vals dvs ds ∧ FnOk P w K mg base CX0 k f fd ps sp
structure OwnK (P : Program) (w : World) (K : PySem.W.Frag) (mg : Str → Option Value) (base : Heap) (k : Nat) (x : Str) (ps : List Str) (n : Nat) (ks : List Str) (gV : List V → List V → List V) (sp : Sp) : Prop where
  ex : ∃ (f : Addr) (fd : FuncData) (g : List Value → List Value → List Value), mg x = some (.ref f) ∧ PySem.W.keepIn K (.ref f) = true ∧ KBn K fd ps n ks g gV ∧ FnOk P w K mg base CX0 k f fd ps sp
section
variable {X : Cx} {k n : Nat} {x : Str} {ps ks : List Str} {dvs : List V} {gV : List V → List V → List V} {sp : Sp} {e : Expr} {es : List Expr} {t tk : TA} {p pos : Pos} {kws : List Keyword}
theorem pe_ownD (C : OwnD X.prog X.w X.K X.mg X.base k x ps dvs sp) (hr : Room k X.A) (hg : Gl X x) (ha : PA X (e :: es) t) (hdb : (x == ("__debug__" : Str)) = false := by decide)
    (he : starEach (e :: es) X.env = (false, eval e X.env) :: starEach es X.env := by rfl) (hpl : (backTo pos (starEach es X.env)).any (·.1) = false := by rfl) : PE X (.Call (.Name x p) (e :: es) [] pos) (tCall sp dvs E0 t) := by
  obtain ⟨f, fd, ds, h1, h2, h3, h4, h5⟩ := C.ex
  exact pe_call h5 hr hg h1 h2 h3 h4 pass0 ha hdb he hpl
theorem pe_ownK (C : OwnK X.prog X.w X.K X.mg X.base k x ps n ks gV sp) (hr : Room k X.A) (hg : Gl X x) (ha : PA X (e :: es) t) (hkw : PK X kws tk)
    (hall : (backToKw pos (keywordEach kws X.env)).all (·.1.isSome) = true := by rfl) (hks : (backToKw pos (keywordEach kws X.env)).filterMap (·.1) = ks := by rfl)
    (hdb : (x == ("__debug__" : Str)) = false := by decide) (he : starEach (e :: es) X.env = (false, eval e X.env) :: starEach es X.env := by rfl)
    (hpl : ((backTo pos (starEach (e :: es) X.env)).any (·.1) || (backToKw pos (keywordEach kws X.env)).any (·.1.isNone)) = false := by rfl) :
    PE X (.Call (.Name x p) (e :: es) kws pos) (tCallN n ks.length sp gV E0 t tk) := by
  obtain ⟨f, fd, g, h1, h2, h3, h4⟩ := C.ex
  exact pe_callN h4 hr hg h1 h2 h3 pass0 ha hkw hall hks hdb he hpl
/-- no positional value -/
theorem pe_ownK0 (C : OwnK X.prog X.w X.K X.mg X.base k x ps 0 ks gV sp) (hr : Room k X.A) (hg : Gl X x) (hkw : PK X kws tk)
    (hall : (backToKw pos (keywordEach kws X.env)).all (·.1.isSome) = true := by rfl) (hks : (backToKw pos (keywordEach kws X.env)).filterMap (·.1) = ks := by rfl)
    (hdb : (x == ("__debug__" : Str)) = false := by decide)
    (hpl : ((backTo pos (starEach [] X.env)).any (·.1) || (backToKw pos (keywordEach kws X.env)).any (·.1.isNone)) = false := by rfl) :
    PE X (.Call (.Name x p) [] kws pos) (tCallN 0 ks.length sp gV E0 tNil tk) := by
  obtain ⟨f, fd, g, h1, h2, h3, h4⟩ := C.ex
  refine ⟨fun pins s σ H Q I h => ?_⟩
  refine wpAny_Call_Name_kw (ld_glob I hg h1 ?_ hdb)
  refine PySem.W.callWith_KW0 (h₀ := X.base) I.ok.mod.kin h2 hall ?_ hpl
  refine thn (hkw.run pos pins s σ H _ I h) fun ws s2 ⟨zs, H2, I2, rz, l1, l2, q2⟩ => ⟨I2.kIn, ?_⟩
  rw [hks]
  exact run_fnN h4 hr h3 pass0 I2 .nil rz l1 l2 q2
end
end Fv


namespace Fv
open PySem PySem.Spec PyProof.Rows L2
/-! ### what is tracked; values that are plain data apart from M -/
def Trk (M : List Addr) (H : Hp) : Prop := ∀ b ∈ M, ∃ o, H b = some o
theorem Trk.same {M : List Addr} {H H' : Hp} (h : Trk M H) (s : Same H H') : Trk M H' := fun b hb => by
  obtain ⟨o, e⟩ := h b hb
  exact ⟨o, s _ _ e⟩
theorem Trk.smx {M N : List Addr} {H H' : Hp} (h : Trk M H) (s : SmX N H H') (hN : Trk N H') : Trk M H' := fun b hb => by
  by_cases m : b ∈ N
  · exact hN b m
  · obtain ⟨o, e⟩ := h b hb
    exact ⟨o, s _ _ m e⟩
theorem Trk.ne {M : List Addr} {H : Hp} (h : Trk M H) {p : Addr} (np : H p = none) : p ∉ M := fun hp => by
  obtain ⟨o, e⟩ := h p hp
  rw [np] at e
  cases e
theorem hid_new {M : List Addr} {H : Hp} {p : Addr} {o : HO} (np : H p = none) : Same (hide M H) (hide M (upd H p o)) := (SmX.new np).hid
theorem hid_at {M : List Addr} {H : Hp} (h : Trk M H) {p : Addr} {o : HO} (np : H p = none) : hide M (upd H p o) p = some o := by
  rw [hide_ne (h.ne np), upd_same]
def GV (K : PySem.W.Frag) (n : Nat) (M : List Addr) (H : Hp) (v : V) : Prop := ∃ d, Dp K (hide M H) v d ∧ gd n d = true
theorem GV.same {K : PySem.W.Frag} {n : Nat} {M : List Addr} {H H' : Hp} {v : V} (g : GV K n M H v) (s : Same H H') : GV K n M H' v := by
  obtain ⟨d, h1, h2⟩ := g
  exact ⟨d, dp_same (SmX.of_same s).hid d v h1, h2⟩
theorem GV.up {K : PySem.W.Frag} {n m : Nat} {M : List Addr} {H : Hp} {v : V} (g : GV K n M H v) (h : n ≤ m) : GV K m M H v := by
  obtain ⟨d, h1, h2⟩ := g
  exact ⟨d, h1, gd_le h2 h⟩
theorem GV.str {K : PySem.W.Frag} {n : Nat} {M : List Addr} {H : Hp} {x : Str} (h : gd 0 (.str x) = true) : GV K n M H (.str x) := ⟨_, .str x, gd_le h (Nat.zero_le _)⟩
theorem GV.int {K : PySem.W.Frag} {n : Nat} {M : List Addr} {H : Hp} (i : Int) : GV K n M H (.int i) := ⟨_, .int i, gd_le (n := 0) rfl (Nat.zero_le _)⟩
theorem GV.bl {K : PySem.W.Frag} {n : Nat} {M : List Addr} {H : Hp} (b : Bool) : GV K n M H (.bl b) := ⟨_, .bl b, gd_le (n := 0) rfl (Nat.zero_le _)⟩
theorem GV.non {K : PySem.W.Frag} {n : Nat} {M : List Addr} {H : Hp} : GV K n M H .non := ⟨_, .non, gd_le (n := 0) rfl (Nat.zero_le _)⟩
theorem gv_all {K : PySem.W.Frag} {n : Nat} {M : List Addr} {H : Hp} : ∀ {xs : List V}, (∀ x ∈ xs, GV K n M H x) → ∃ ds, DpAll K (hide M H) xs ds ∧ ∀ d ∈ ds, gd n d = true
  | [], _ => ⟨[], .nil, fun d h => nomatch h⟩
  | x :: xs, h => by
    obtain ⟨d, h1, h2⟩ := h x (List.mem_cons_self ..)
    obtain ⟨ds, h3, h4⟩ := gv_all (xs := xs) fun y hy => h y (List.mem_cons_of_mem _ hy)
    refine ⟨d :: ds, .cons h1 h3, fun e he => ?_⟩
    rcases List.mem_cons.mp he with z | z
    · rw [z]; exact h2
    · exact h4 e z
theorem GV.tup {K : PySem.W.Frag} {n : Nat} {M : List Addr} {H : Hp} {p : Addr} {xs : List V} (hM : Trk M H) (np : H p = none) (h : ∀ x ∈ xs, GV K n M H x) (hl : xs.length ≤ 1000 := by decide) : GV K (n + 1) M (upd H p (.tup xs)) (.ref p) := by
  obtain ⟨ds, h1, h2⟩ := gv_all h
  exact ⟨.tuple ds, .tup (SqT.of (hid_at hM np)) (dpAll_same (hid_new np) _ _ h1), gd_tup h2 (by rw [← dpAll_len h1]; exact hl)⟩
theorem GV.lst {K : PySem.W.Frag} {n : Nat} {M : List Addr} {H : Hp} {p : Addr} {xs : List V} (hM : Trk M H) (np : H p = none) (h : ∀ x ∈ xs, GV K n M H x) (hl : xs.length ≤ 1000 := by decide) : GV K (n + 1) M (upd H p (.lst xs)) (.ref p) := by
  obtain ⟨ds, h1, h2⟩ := gv_all h
  exact ⟨.list ds, .lst (SqL.of (hid_at hM np)) (dpAll_same (hid_new np) _ _ h1), gd_lst h2 (by rw [← dpAll_len h1]; exact hl)⟩
theorem Src.trk {H : Hp} {a L : Addr} {ns : List Int} (h : Src H a L ns) : Trk [a] H := fun b hb => by
  obtain ⟨_, _, _, _, e, _⟩ := h
  rw [List.mem_singleton.mp hb]
  exact ⟨_, e⟩
theorem Src.ne {H : Hp} {a L p : Addr} {ns : List Int} (h : Src H a L ns) (np : H p = none) : a ≠ p := by
  obtain ⟨_, _, _, _, e, _⟩ := h
  exact ne_of_none e np
theorem Src.put {H : Hp} {a L p : Addr} {ns : List Int} {o : HO} (h : Src H a L ns) (pa : p ≠ a) (pL : p ≠ L) : Src (upd H p o) a L ns := by
  obtain ⟨i, q, st, c, h1, h2, h3⟩ := h
  exact ⟨i, q, st, c, by rw [upd_ne pa.symm]; exact h1, by rw [upd_ne pL.symm]; exact h2, h3⟩
theorem Src.new {H : Hp} {a L p : Addr} {ns : List Int} {o : HO} (h : Src H a L ns) (np : H p = none) : Src (upd H p o) a L ns := h.same (same_upd np)
/-- the term that is drawn: its data d, its depth at most n, its size by the room that was used -/
def spTerm (K : PySem.W.Frag) (n : Nat) : Sp := fun vs H Q _ => ∃ (a L sg r : Addr) (ns : List Int) (deep m : Int) (ys : List V) (M : List Addr), vs = [.ref a, .ref sg, .int deep, .ref r] ∧ Src H a L ns ∧
  H sg = some (.lst ys) ∧ 0 < ys.length ∧ ys.length ≤ 8 ∧ (∀ y ∈ ys, lett y) ∧ H r = some (.lst [.int m]) ∧ sg ≠ a ∧ sg ≠ r ∧ r ≠ a ∧ r ≠ L ∧ 0 ≤ m ∧ m ≤ 1000 ∧ 1 ≤ deep ∧ deep ≤ n ∧ a ∈ M ∧ r ∈ M ∧ Trk M H ∧
  ∀ (H' : Hp) (v : V) (d : PyData) (m' : Int), Dp K (hide M H') v d → lmeas deep.toNat d = m - m' + 1 → 0 ≤ m' → m' ≤ m → gd deep.toNat d = true → Src H' a L ns → H' r = some (.lst [.int m']) → SmX [a, r] H H' → Q v H'
def spAnyTerm (K : PySem.W.Frag) : Sp := fun vs H Q _ => ∃ (a L : Addr) (ns : List Int) (M : List Addr), vs = [.ref a] ∧ Src H a L ns ∧ a ∈ M ∧ Trk M H ∧
  ∀ (H' : Hp) (v : V) (d : PyData) (n : Nat), Dp K (hide M H') v d → 1 ≤ n → n ≤ 5 → 1 ≤ lmeas n d → lmeas n d ≤ 24 → gd n d = true → Src H' a L ns → SmX [a] H H' → Q v H'
def nestD : Nat → PyData
  | 0 => .str "a"
  | n + 1 => .tuple [.str (if n % 2 = 0 then "&" else "|"), nestD n, .str "b"]
def spNest (K : PySem.W.Frag) : Sp := fun vs H Q _ => ∃ (n : Nat) (M : List Addr), vs = [.int (n : Nat)] ∧ n ≤ 12 ∧ Trk M H ∧
  ∀ (H' : Hp) (v : V), Dp K (hide M H') v (nestD n) → Same H H' → Q v H'
def spOdd (K : PySem.W.Frag) : Sp := fun vs H Q _ => ∃ (a L : Addr) (ns : List Int) (v : V) (M : List Addr), vs = [.ref a, v] ∧ Src H a L ns ∧ GV K 5 M H v ∧ a ∈ M ∧ Trk M H ∧
  ∀ (H' : Hp) (v' : V), GV K 12 M H' v' → Src H' a L ns → SmX [a] H H' → Q v' H'
theorem isL_lett {x : Str} (h : x ∈ (["a", "b", "c", "d", "e", "f", "g", "h"] : List Str)) : isL x = true ∧ gd 0 (.str x) = true := by
  have q : ∀ x ∈ (["a", "b", "c", "d", "e", "f", "g", "h"] : List Str), isL x = true ∧ gd 0 (.str x) = true := by decide +kernel
  exact q x h
theorem nest_gd : ∀ n : Nat, gd n (nestD n) = true
  | 0 => by decide +kernel
  | n + 1 => gd_tup (fun d hd => by
      rcases List.mem_cons.mp hd with e | hd
      · rw [e]
        refine gd_le (n := 0) ?_ (Nat.zero_le _)
        split <;> decide +kernel
      · rcases List.mem_cons.mp hd with e | hd
        · rw [e]; exact nest_gd n
        · rw [List.mem_singleton.mp hd]
          exact gd_le (n := 0) (by decide +kernel) (Nat.zero_le _)) (by show 3 ≤ 1000; decide)
/-- a term made of parts -/
theorem lmeas_tup {n : Nat} {op : Str} {ds : List PyData} {t : Int} (ho : isOp (.str op) = true) (h2 : 2 ≤ ds.length) (h1 : ∀ d ∈ ds, 1 ≤ lmeas n d) (hs : (ds.map (lmeas n)).sum = t) : lmeas (n + 1) (.tuple (.str op :: ds)) = t := by
  have e : lmeas (n + 1) (.tuple (.str op :: ds)) = if (decide (2 ≤ ds.length) && isOp (.str op)) = true then (if (0 : Int) ∈ ds.map (lmeas n) then 0 else (ds.map (lmeas n)).sum) else 0 := by
    show (if false = true then _ else _) = _
    rw [if_neg (fun z => by cases z)]
    rfl
  rw [e, ho, decide_eq_true h2, Bool.and_self, if_pos rfl, if_neg, hs]
  intro z
  obtain ⟨d, hd, e⟩ := List.mem_map.mp z
  have := h1 d hd
  omega
end Fv


set_option maxHeartbeats 2000000
namespace FvX
open PySem PySem.W PySem.Calls PyProof.Rows
/-! ### an own error whose __init__ says super().__init__(text) and self.code = text -/
abbrev errScope : Scope := { kind := .function, names := [("self", .local), ("__class__", .free), ("super", .globalImplicit)], isGenerator := false, isCoroutine := false, more := [] }
abbrev errParams (pp : Pos) : Arguments := { posonlyargs := [], args := [{ arg := "self", annotation := none, pos := pp : Arg }], vararg := none, kwonlyargs := [], kw_defaults := [], kwarg := none, defaults := [] }
/-- the places of such a body's parts -/
structure ErrPos where
  (p0 p1 p2 p3 p4 p5 p6 p7 p8 p9 pp : Pos)
abbrev errBody (q : ErrPos) (msg cod : Str) (j1 j2 : Nat) : List Stmt :=
  [.Expr (.Call (.Attribute (.Call (.Name "super" q.p0) [] [] q.p1) "__init__" q.p2) [.Constant (.str msg) j1 q.p3] [] q.p4) q.p5, .Assign [.Attribute (.Name "self" q.p6) "code" q.p7] (.Constant (.str cod) j2 q.p8) q.p9]
/-- the call stands on one line -/
def LineOk (q : ErrPos) (msg : Str) (j1 : Nat) : Prop := ∀ env : Env, ∃ pl : Sem Bool, eval (.Call (.Attribute (.Call (.Name "super" q.p0) [] [] q.p1) "__init__" q.p2) [.Constant (.str msg) j1 q.p3] [] q.p4) env = (do
  let ov ← attributeBase (.Call (.Name "super" q.p0) [] [] q.p1) "__init__" env (eval (.Call (.Name "super" q.p0) [] [] q.p1) env)
  standAt q.p2.atName
  let (f, first) ← holding [ov] (getMethod ov "__init__" pl)
  callWith q.p4 f first (backTo q.p4 (starEach [.Constant (.str msg) j1 q.p3] env)) [])
abbrev veTail4 : List Value := [.type "ValueError", .type "Exception", .type "BaseException", .type "object"]
/-- what the written part says of the class at C and of its __init__ at f -/
structure ErrC (file0 : Str) (K : Frag) (C f : Addr) (qual : Str) (q : ErrPos) (msg cod : Str) (j1 j2 : Nat) : Prop where
  oex : L2.OexC K C
  fn : ∃ (oc : Value) (od an : Option Addr) (osl : Array (Option Value)) (kV doc pm ct : Value) (cda cc : Addr) (ccl cl : Value) (cdd cld : Option Addr) (vs : Array Value) (ccs csl : Array (Option Value)) (file : Str) (tf : Tok),
    K.lookup f = some ⟨oc, od, .func (ksFn "__init__" qual (errParams q.pp) (errBody q msg cod j1 j2) errScope .none kV doc pm an (.ref cda) ct cc), osl⟩ ∧ codeIn K (.ref cda) qual = true ∧ K.lookup cda = some ⟨ccl, cdd, .fields vs, ccs⟩ ∧ vs[2]? = some (.str file tf) ∧
      (file0 == file) = true ∧ K.lookup cc = some ⟨cl, cld, .cell (some (.ref C)), csl⟩
  sup : ks_superIn K C C "__init__" = some (some (.builtin "ValueError.__init__"))
  self : mroIn K C (.ref C) = some true
  isV : subIn K (.ref C) (.type "ValueError") = some true
  init : excInitIn K C veTail4 "ValueError.__new__" = true
  third : nsIn K cStatics "thirdparty.any" = some none
  code : findIn K (.ref C) "code" = some none
  find : findIn K (.ref C) "__init__" = some (some (.ref f))
  typ : typeIn K (.ref f) = some (.type "function")
section
variable {prog : Program} {w : World} {A : Around} {K : Frag} {h : Heap} {g : Array GenState} {d : Drawn} {t : Nat} {os : OsState} {R : Result → Shared → Prop} {mg mb : Str → Option Value}
  {C f a t0 : Addr} {qual msg cod : Str} {q : ErrPos} {j1 j2 : Nat}
theorem init_run (T : ErrC prog.main.file K C f qual q msg cod j1 j2) (hline : LineOk q msg j1) (htop : (prog.main.scope.names.lookup ("super" : Str)).isSome = false)
    (X : K.In h) (hg : h.Ns mainGlobals mg) (hms : mg "super" = none) (hb : h.Ns builtinsNs mb) (hmb : mb "super" = some (.type "super")) (hlim : h.NoLimit) (hroom : A.depth < recursionLimit) (ha : h.get? a = some (excObj C t0 none .none)) (haK : K.lookup a = none)
    (hq : ∀ h' t1 tk' dx tk, (∀ b o, b ≠ a → h.get? b = some o → h'.get? b = some o) → h.objs.size ≤ dx → dx ≠ a → h'.get? a = some { cls := .ref C, dict := some dx, data := .fields #[.ref t1, .none, .none, .none, .bool false, .none] } →
      h'.Ns1 dx (fun y => if y = ("code" : Str) then some (.str cod tk) else none) → R (.ok (.ret .none)) ⟨h', g, d, tk', os⟩) :
    codeAny (model prog w) A (.call (.ref f) ⟨[.ref a], []⟩) R ⟨h, g, d, t, os⟩ := by
  obtain ⟨oc, od, an, osl, kV, doc, pm, ct, cda, cc, ccl, cl, cdd, cld, vs, ccs, csl, file, tf, hf, hcd, hcode, hvs, hfile, hcell⟩ := T.fn
  refine ks_codeAny_call_defAt (binds := [("self", .ref a)]) hroom (X _ _ hf) rfl hlim (codeRec_of X hcd) rfl (.of_eq rfl) (show ∀ x ∈ errScope.names, x.2 ≠ .cell by decide) (fun y hy => ?_) (fun h1 hns hk1 => ?_)
  · rw [List.mem_singleton.mp hy]; rfl
  have X1 : K.In h1 := fun b o e => hk1 b o (X b o e)
  have ha1 : h1.get? a = some (excObj C t0 none .none) := hk1 _ _ ha
  have haL : a ≠ h.objs.size := Nat.ne_of_lt (Heap.lt_size ha)
  obtain ⟨cd, hc⟩ : ∃ cd, clsIn K C = some cd := by
    have z := T.sup
    unfold ks_superIn at z
    cases hc : clsIn K C with
    | none => rw [hc] at z; cases z
    | some cd => exact ⟨cd, rfl⟩
  obtain ⟨oD, hD0, hD2⟩ : ∃ oD, K.lookup C = some oD ∧ oD.data = .cls cd := by
    unfold clsIn at hc
    split at hc
    · rename_i c d' cd' sl ho
      cases hc
      exact ⟨_, ho, rfl⟩
    · cases hc
  have hD1 := X1 _ _ hD0
  have hsup : alongIn K "__init__" ((cd.mro.dropWhile (· != .ref C)).drop 1) = some (some (.builtin "ValueError.__init__")) := by
    have z := T.sup
    unfold ks_superIn at z
    rw [hc] at z
    exact z
  have hv : (fun x => ([("self", Value.ref a)] : List (Str × Value)).reverse.lookup x) ("self" : Str) = some (.ref a) := rfl
  -- super().__init__(text)
  obtain ⟨pl, hline⟩ := hline (callEnv (ksFn "__init__" qual (errParams q.pp) (errBody q msg cod j1 j2) errScope .none kV doc pm an (.ref cda) ct cc) h.objs.size f)
  refine ks_wpAt_execs_cons (ks_wpAt_Expr_any (ks_wpAt_MethodCall ?_ hline))
  refine ks_wpAt_super_base rfl rfl (by decide) rfl (X1 _ _ hf) rfl rfl rfl (X1 _ _ hcode) rfl hvs hfile htop ?_
  refine ks_loadName_global rfl rfl (loadGlobal_builtin (hg.keeps hk1) hms (hb.keeps hk1) hmb ⟨rfl, ?_⟩)
  refine wpAny_loadName_free rfl rfl rfl ⟨_, X1 _ _ hcell, rfl⟩ ?_
  refine wpAny_loadName_local rfl rfl hns hv ?_
  refine ks_wpAny_isType_cls hD1 hD2 ⟨rfl, ?_⟩
  refine ks_wpAny_call_super hD1 hD2 ha1 rfl (fun c e => by cases e) (looks_mroIn X1 T.self) (fun h2 hso hk2 => ?_)
  have X2 : K.In h2 := fun b o e => hk2 b o (X1 b o e)
  have ha2 := hk2 _ _ ha1
  have haC : a ≠ C := fun e => by rw [e, hD0] at haK; cases haK
  have I2 : InstAt h2 a (excObj C t0 none .none) C none := ⟨ha2, rfl, rfl, trivial⟩
  refine kxs_getMethod kxs_ValueError hso (looks_opaque X2 T.third) (l₀ := cd.mro) (fun A Q E s k z => wpAny_bind ((looks_clsIn X2 hc) A _ E s k (wpAny_pure z))) rfl X2 hsup (I2.type.andThen (looks_subIn X2 T.isV)) haC (by decide) ?_
  have nsK : ∀ {h h' : Heap} {L : Addr} {m : Str → Option Value}, h.Ns L m → (∀ b o, h.get? b = some o → h'.get? b = some o) → h'.Ns L m := fun {h h' L m} ⟨o, es, ep, e, r⟩ k => ⟨o, es, ep, k _ _ e, r⟩
  have hns2 := nsK hns hk2
  have hk3 : ∀ b o, h2.get? b = some o → (h2.push (kxs_mw "ValueError.__init__" a)).get? b = some o := fun b o e => Heap.get?_push_of_some _ e
  have hLt : h.objs.size < h2.objs.size := by
    obtain ⟨o, _, _, e, _⟩ := hns2
    exact Heap.lt_size e
  have FR : Fr (hideAll h [a]) h.objs.size (h2.push (kxs_mw "ValueError.__init__" a)) (fun x => ([("self", Value.ref a)] : List (Str × Value)).reverse.lookup x) :=
    ⟨nsK hns2 hk3, fun b o e => hk3 _ _ (hk2 _ _ (hk1 _ _ (of_hideAll _ e))), Nat.le_of_eq (hideAll_size _ _)⟩
  have NW : News (hideAll h [a]) h.objs.size (h2.push (kxs_mw "ValueError.__init__" a)) [(h2.objs.size, kxs_mw "ValueError.__init__" a), (a, excObj C t0 none .none)] := fun p hp => by
    rcases List.mem_cons.mp hp with e | hp
    · subst e
      refine ⟨Heap.get?_push_size _ rfl, Nat.ne_of_gt hLt, ?_⟩
      cases z : (hideAll h [a]).get? h2.objs.size with
      | none => rfl
      | some o => exact absurd (Heap.lt_size (of_hideAll _ z)) (Nat.lt_asymm hLt)
    · rw [List.mem_singleton.mp hp]
      exact ⟨hk3 _ _ ha2, haL, hideAll_none _ (List.mem_singleton.mpr rfl)⟩
  have X0 : K.In (hideAll h [a]) := fun b o e => hideAll_get _ (X b o e) (fun z => by
    rw [List.mem_singleton.mp z, haK] at e
    cases e)
  refine kxs_callWith1 NW (List.mem_cons_self ..) ?_
  refine Calls.spliced_cons (wpAny_Constant_str (k := j1) (pos := q.p3) (Calls.spliced_nil ⟨kxs_at NW (List.mem_cons_self ..), ?_⟩))
  refine kxs_call FR X0 NW PySem.F.excBase_ValueError T.init (List.mem_cons_self ..) (.tail (Nat.ne_of_gt (Heap.lt_size ha2)) (.head fun p hp => nomatch hp)) (by show 1 ≤ sizeLine; decide) (fun t' h4 F4 N4 _ => ?_)
  have ha4 : h4.get? a = some (excObj C t' none .none) := (N4 (a, excObj C t' none .none) (List.mem_cons_of_mem _ (List.mem_cons_of_mem _ (List.mem_cons_self ..)))).1
  have X4 : K.In h4 := fun b o e => F4.keep b o (X0 b o e)
  obtain ⟨nm, qn, N, bs, bm, sn, sub, ab, col, dd, k0, k1, k2, k3, k5, hC, hbm⟩ := T.oex.cls
  have hcl : clsIn K C = some { name := nm, bases := bs, mro := .ref C :: bm, ns := N, qualname := qn, hasDict := true, slotNames := sn, subclasses := sub, abstract := ab, collection := col, hasDel := false } := by
    unfold clsIn
    rw [hC] <;> rfl
  -- self.code = text
  refine wpAt_of_wpAny (wpAny_execs_cons (plainObj_wpAny_Assign_Attribute (wpAny_Constant_str (k := j2) (pos := q.p8) (wpAny_Name (wpAny_loadName_local rfl rfl F4.ns hv ?_) (by decide))) rfl))
  refine set_plain X4 (ox := excObj C t' none .none) (od := none) ⟨ha4, rfl, rfl, trivial⟩ T.oex.sa ?_
  refine PySem.HandSPX.exc_osa X4 ha4 hcl (show PySem.HandSPX.refsVE (.ref C :: bm) = true from hbm) rfl T.code (fun h5 tk' dx hk5 dn dne hx hn => ?_)
  have hL4 : h.objs.size ≤ h4.objs.size := by
    obtain ⟨o, _, _, e, _⟩ := F4.ns
    exact Nat.le_of_lt (Heap.lt_size e)
  refine wpAny_execs_nil (hq h5 t' tk' dx _ (fun b o hb e => hk5 b o hb (F4.keep b o (hideAll_get _ e fun z => hb (List.mem_singleton.mp z)))) (Nat.le_trans hL4 dn) dne hx hn)
end
end FvX


set_option maxHeartbeats 2000000
namespace FvX
open PySem PySem.Spec PyProof.Rows L2
section
variable {X : Cx} {C f : Addr} {qual msg cod x : Str} {q : ErrPos} {j1 j2 k : Nat} {p pos : Pos}
/-- x(): the new error, its dict at d -/
def tErr0 (C : Addr) (cod : Str) : L2.St → Hp → XK → Prop := fun _ H Q => ∀ d, H d = none → Q (.ref C) (some d) (upd H d (.xd [("code", .str cod)]))
theorem pmk_err0 (T : ErrC X.prog.main.file X.K C f qual q msg cod j1 j2) (hline : LineOk q msg j1) (htop : (X.prog.main.scope.names.lookup ("super" : Str)).isSome = false) (hms : X.mg "super" = none) (hr : Room (k + 1) X.A) (hg : Gl X x) (hm : X.mg x = some (.ref C))
    (hdb : (x == ("__debug__" : Str)) = false := by decide) : PMk X (.Call (.Name x p) [] [] pos) (tErr0 C cod) := by
  intro pins s σ H Q I h
  obtain ⟨nm, qn, N, bs, bm, sn, sub, ab, col, dd, k0, k1, k2, k3, k5, hC, hbm⟩ := T.oex.cls
  refine wpAny_Call_Name_kw (ld_glob I hg hm ?_ hdb)
  refine PySem.W.callWith_K0 I.kIn T.oex.kC ?_
  show wpAny _ _ (call (.ref C) []) _ _ _
  obtain ⟨hp, g, dr, tk, os⟩ := s
  have nK : X.K.lookup (hp.objs.size + 1) = none := by
    cases e : X.K.lookup (hp.objs.size + 1) with
    | none => rfl
    | some o => exact absurd (Nat.lt_of_succ_lt (Heap.lt_size (I.kIn _ _ e))) (Nat.lt_irrefl _)
  have fresh : H (hp.objs.size + 1) = none := I.hok.fresh (Nat.le_succ _)
  have kk : ∀ b o, hp.get? b = some o → ((hp.push (PySem.W.kdv_tup [])).push (PySem.HandSPX.excO C hp.objs.size)).get? b = some o := fun b o e => Heap.get?_push_of_some _ (Heap.get?_push_of_some _ e)
  have at1 : ((hp.push (PySem.W.kdv_tup [])).push (PySem.HandSPX.excO C hp.objs.size)).get? (hp.objs.size + 1) = some (PySem.HandSPX.excO C hp.objs.size) := by heap_get
  have I2 := I.laid (t' := tk) (a := hp.objs.size + 1) (o := exo (hp.objs.size + 1) C none) (h' := (hp.push (PySem.W.kdv_tup [])).push (PySem.HandSPX.excO C hp.objs.size)) kk (Nat.le_succ _) (exo_ok at1)
  obtain ⟨mb, hb, hbb⟩ := I.mod.blt
  refine wpAny_call (PySem.HandSPX.call_own PySem.F.excBase_ValueError (fun Y => PySem.HandSPX.refsVE_contains Y bm hbm) (I.kIn _ _ hC) (PySem.W.looks_findIn I.kIn T.find) (fun self => PySem.W.bind_fn I.kIn self T.typ) (Nat.zero_le _) ?_)
  refine init_run (mg := X.mg) (mb := mb) (t0 := hp.objs.size) T hline htop (fun b o e => kk b o (I.kIn b o e)) ((I.mod.glob.keeps I.bk).keeps kk) hms ((hb.keeps I.bk).keeps kk) ((hbb _ (by decide)).trans (by decide +kernel)) ?lim (hr.make C [] []).depth at1 nK (fun h' t1 tk' dx tk0 hk dn dne hx hn => ?_)
  case lim => exact (I.mod.nolimit.keeps I.bk).keeps kk
  have nd : H dx = none := I.hok.fresh (Nat.le_trans (by simp; omega) dn)
  have na : ∀ {b : Addr} {u : Option HO}, upd H (hp.objs.size + 1) (exo (hp.objs.size + 1) C none) b = none → b ≠ hp.objs.size + 1 := fun {b u} e z => by
    rw [z, upd_same] at e
    cases e
  have lt2 : ∀ {b : Addr} {o : Obj}, ((hp.push (PySem.W.kdv_tup [])).push (PySem.HandSPX.excO C hp.objs.size)).get? b = some o → b ≠ dx := fun {b o} e => Nat.ne_of_lt (Nat.lt_of_lt_of_le (Heap.lt_size e) dn)
  have same : ∀ {b : Addr} {o : HO}, upd H (hp.objs.size + 1) (exo (hp.objs.size + 1) C none) b = some o → o ≠ exo (hp.objs.size + 1) C none → upd (upd H dx (exd dx [("code", .str cod)])) (hp.objs.size + 1) (exo (hp.objs.size + 1) C (some dx)) b = some o := fun {b o} e ne => by
    have b1 : b ≠ hp.objs.size + 1 := fun z => by
      rw [z, upd_same] at e
      exact ne (Option.some.inj e).symm
    rw [upd_ne b1] at e
    rw [upd_ne b1, upd_ne (ne_of_none e nd)]
    exact e
  have un : Un (frs X.stack) [] (upd H (hp.objs.size + 1) (exo (hp.objs.size + 1) C none)) (upd (upd H dx (exd dx [("code", .str cod)])) (hp.objs.size + 1) (exo (hp.objs.size + 1) C (some dx))) ((hp.push (PySem.W.kdv_tup [])).push (PySem.HandSPX.excO C hp.objs.size)) h' := by
    refine ⟨fun b o e n _ _ => hk b o (na (u := none) n) e, fun b o e n _ _ => ⟨o.slots, hk b o (na (u := none) n) e⟩, fun b o e n _ => ?_, fun b o e _ => ?_, fun b xs e => same e fun z => exo_tup z.symm, fun b o u e => same e fun z => exo_frz z.symm, fun b ps e => ⟨#[], ?_⟩⟩
    · have b1 := na (u := none) n
      rw [upd_ne b1, upd_ne (lt2 e)]
      rw [upd_ne b1] at n
      exact n
    · by_cases b1 : b = hp.objs.size + 1
      · exact ⟨_, by rw [b1]; exact hx⟩
      · exact ⟨o, hk b o b1 e⟩
    · rw [Array.append_empty]
      exact same e fun z => exo_tbl z.symm
  have hok : HOk X.prog X.w (upd (upd H dx (exd dx [("code", .str cod)])) (hp.objs.size + 1) (exo (hp.objs.size + 1) C (some dx))) h' := fun b o e => by
    by_cases b1 : b = hp.objs.size + 1
    · rw [b1, upd_same] at e
      cases e
      rw [b1]
      exact exo_ok hx
    · rw [upd_ne b1] at e
      by_cases b2 : b = dx
      · rw [b2, upd_same] at e
        cases e
        rw [b2]
        exact exd_ok hn (relO_put (fs := []) ⟨_, rfl⟩ fun g => True.intro)
      · rw [upd_ne b2] at e
        have e2 : upd H (hp.objs.size + 1) (exo (hp.objs.size + 1) C none) b = some o := by rw [upd_ne b1]; exact e
        refine (I2.hok b o e2).stay (fun c v hc z => hk c v (fun c1 => ?_) z) (fun c hc => same hc fun z => exo_own z.symm) (fun c xs hc => same hc fun z => exo_tup z.symm)
        rcases hc with hc | hc
        · exact b1 (hc.symm.trans c1)
        · rw [c1, upd_same] at hc
          exact exo_own (Option.some.inj hc)
  refine ⟨rfl, mk_end (a := hp.objs.size + 1) (C := C) (d := dx) (fs := [("code", .str cod)]) (raises_own T.oex.exC T.oex.tyC) I (Nat.le_succ _) kk un hok rfl I.bare upd_same ?_ nd ?_⟩
  · rw [upd_ne dne, upd_same]
  · have e : upd (del (upd (upd H dx (exd dx [("code", .str cod)])) (hp.objs.size + 1) (exo (hp.objs.size + 1) C (some dx))) (hp.objs.size + 1)) dx (.xd [("code", .str cod)]) = upd H dx (.xd [("code", .str cod)]) := by
      funext b
      by_cases b2 : b = dx
      · rw [b2, upd_same, upd_same]
      · rw [upd_ne b2, upd_ne b2]
        by_cases b1 : b = hp.objs.size + 1
        · rw [b1, del_same, fresh]
        · rw [del_ne b1, upd_ne b1, upd_ne b2]
    rw [e]
    exact h dx nd
end
end FvX


set_option maxHeartbeats 2000000
namespace FvX
open PySem PySem.Spec PyProof.Rows L2
/-! ### try: .. except x as n: .. except ..: ..; the first clause takes what comes -/
/-- what the first clause wishes -/
def wFst (K : PySem.W.Frag) (c : Value) (i : Nat) (ts : Addr → Value → Option Addr → TS) (D : Ends) : WX := fun cls dd σ H => PySem.W.exmOne K cls c = some true ∧
  ∀ a, H a = none → ts a cls dd { nx := fun σ' H' => D.nx (σ'.set i none) H', rt := D.rt, bk := fun σ' H' => D.bk (σ'.set i none) H', ct := fun σ' H' => D.ct (σ'.set i none) H' } (σ.set i (some (.ref a))) H
section
variable {X : Cx} {x n : Str} {c : Value} {i : Nat} {bd su : List Stmt} {b1 : Stmt} {np tp hp' : Pos} {more : List ExceptHandler} {tb : WX → TS} {ts : Addr → Value → Option Addr → TS}
theorem ps_try_first (hstk : X.stack = X.env :: X.outer) (hfrm : X.env.frame = some X.env.locals) (nd : X.N.Nodup) (hix : X.N[i]? = some n) (hlc : X.env.kindOf n = some .local) (hcl : Names X x c)
    (hbd : ∀ (W : WX) (pn : List (Addr × Obj)) (xe : Value → Shared → Prop), Takes (X.tr pn xe) W → PassesOwn (model X.prog X.w) X.A X.env xe → PSs (X.tr pn xe) bd (tb W))
    (hsu : ∀ (a : Addr) (oe : Obj) (cls : Value) (dd : Option Addr) (pn : List (Addr × Obj)), Zc cls dd oe → (∃ vs, oe.data = .fields vs) → PSs (X.suite a ((a, oe) :: pn)) (b1 :: su) (ts a cls dd)) :
    PS X (.Try bd (.ExceptHandler (some (.Name x np)) (some n) (b1 :: su) hp' :: more) [] [] tp) (fun D σ H => tb (wFst X.K c i ts D) D σ H) := by
  refine ⟨fun pins s σ H D I hW => wpAny_Try_except ?_⟩
  have fr : X.A.frames = some (X.env :: X.outer) := I.ok.frames.trans (congrArg some hstk)
  let land : Value → Shared → Prop := fun e s1 => wpAny (model X.prog X.w) X.A (noteFrame e X.env) (fun _ s2 => wpAny (model X.prog X.w) X.A (setFlight e none) (fun _ s3 => wpAny (model X.prog X.w) X.A (handleBy e X.env (.ExceptHandler (some (.Name x np)) (some n) (b1 :: su) hp' :: more)) (SP X pins D) X.xe s3) X.xe s2) X.xe s1
  have caught : Takes (X.tr (X.pn ++ pins) land) (wFst X.K c i ts D) := by
    rintro u s' ⟨a, B, sI, pins', σ', H', cls, dd, rfl, J', nb, up, sky, na, os, ag, hm, hyes⟩
    have J : Inv X pins σ' H' sI := J'.ofTry I.ok
    show wpAny (model X.prog X.w) X.A (noteFrame (.ref a) X.env) _ _ _
    refine Sky.land Zc.steady fr hfrm (show Sky B (X.env :: X.outer) a (Zc cls dd) X.env.locals s'.heap from hstk ▸ sky) fun h3 fl up3 => ?_
    have J3 : Inv X pins σ' H' { s' with heap := h3 } := J.landed nb fl.1 (up.trans up3) os ag
    obtain ⟨o3, v3, g3, z3, d3⟩ := fl.there
    have apart : a ∉ frs (X.env :: X.outer) := fun hin => by
      obtain ⟨_, o', g', no⟩ := fl.2.2.1.mem hin
      rw [g3] at g'
      cases g'
      exact no _ d3
    have aL : a ≠ X.env.locals := fun z => apart (List.mem_filterMap.mpr ⟨X.env, List.mem_cons_self, hfrm.trans (congrArg some z.symm)⟩)
    have aF : a ∉ X.fs := fun hin => by
      obtain ⟨e, he, z⟩ := List.mem_filterMap.mp hin
      exact apart (List.mem_filterMap.mpr ⟨e, List.mem_cons_of_mem _ he, z⟩)
    have S3 := J3.suite g3 d3 na aL aF
    have tyIs : PySem.W.Looks (model X.prog X.w) h3 (typeOf (.ref a)) cls := fun A Q E s k z => wpAny_typeOf_ref (k _ _ g3) (z3.1.symm ▸ z)
    have meets := PySem.W.exm_one (M := model X.prog X.w) J3.kIn tyIs hm
    refine wpAny_handleBy_cons (codeAny_handlers_test ?_) (fun z => by cases z)
    have ask : ∀ {Q : Value → Shared → Prop} {E : Value → Shared → Prop}, Q c { s' with heap := h3 } → wpAny (model X.prog X.w) (X.A.mark (some (.ref a))) (eval (.Name x np) X.env) Q E { s' with heap := h3 } := fun {Q E} z => by
      rcases hcl with ⟨gl, nd', m | ⟨m, bv, nn⟩⟩
      · exact ld_glob (X := X.suite a ((a, o3) :: (X.pn ++ pins))) S3 gl m z nd'
      · exact ld_blt (X := X.suite a ((a, o3) :: (X.pn ++ pins))) S3 gl m bv z nn nd'
    refine ask (meets.here (codeAny_handlers_suite_as (HandSPX.lands_againZ fl fun h4 fl4 up4 => ?_)))
    have J4 : Inv X pins σ' H' { s' with heap := h4 } := J.landed nb fl4.1 ((up.trans up3).trans up4) os ag
    obtain ⟨o4, v4, g4, z4, d4⟩ := fl4.there
    refine store_ok (X := X.suite a ((a, o4) :: (X.pn ++ pins))) (v := .ref a) (J4.suite g4 d4 na aL aF) nd hix (.inl hlc) rfl (fun s5 S5 => ?_) (.inr hlc)
    refine wpAny_mono ((hsu a o4 cls dd (X.pn ++ pins) z4 ⟨_, d4⟩).run [] s5 _ H' _ S5 (hyes a na)) (fun fl6 s6 q6 => ?_) (fun _ _ z => z.elim)
    have gone : ∀ {σ6 : L2.St} {H6 : Hp} {Q : Shared → Prop}, Inv (X.suite a ((a, o4) :: (X.pn ++ pins))) [] σ6 H6 s6 → (∀ s7, Inv X pins (σ6.set i none) H6 s7 → Q s7) →
        wpAny (model X.prog X.w) X.A (do bindName X.env n .none; unbindBehindTheSuite X.env n hp') (fun _ s7 => Q s7) X.xe s6 := fun {σ6 H6 Q} S6 z => gone_ok (S6.unsuite I.ok) nd hix hlc z
    cases fl6 with
    | ret u => obtain ⟨v6, σ6, H6, S6, r6, z6⟩ := q6; exact gone S6 fun s7 J7 => ⟨_, _, _, J7, r6, z6⟩
    | next => obtain ⟨σ6, H6, S6, z6⟩ := q6; exact gone S6 fun s7 J7 => ⟨_, _, J7, z6⟩
    | brk => obtain ⟨σ6, H6, S6, z6⟩ := q6; exact gone S6 fun s7 J7 => ⟨_, _, J7, z6⟩
    | cont => obtain ⟨σ6, H6, S6, z6⟩ := q6; exact gone S6 fun s7 J7 => ⟨_, _, J7, z6⟩
  refine wpAny_mono ((hbd (wFst X.K c i ts D) (X.pn ++ pins) land caught PassesOwn.looking).run [] s σ H D (I.toTry _) hW) (fun fl s1 z => ?_) (fun e s1 z => z)
  cases fl with
  | ret u => obtain ⟨v, σ', H', J', r, z⟩ := z; exact ⟨v, σ', H', J'.ofTry I.ok, r, z⟩
  | next => obtain ⟨σ', H', J', z⟩ := z; exact wpAny_execs_nil ⟨σ', H', J'.ofTry I.ok, z⟩
  | brk => obtain ⟨σ', H', J', z⟩ := z; exact ⟨σ', H', J'.ofTry I.ok, z⟩
  | cont => obtain ⟨σ', H', J', z⟩ := z; exact ⟨σ', H', J'.ofTry I.ok, z⟩
end
/-! ### e.f of the caught error -/
section
variable {X : Cx} {a : Addr} {oe : Obj} {cls : Value} {d : Option Addr} {pn : List (Addr × Obj)} {i : Nat} {n f : Str} {p pos : Pos}
theorem pe_errf (hz : Zc cls d oe) (hf : ∃ vs, oe.data = .fields vs) (hv : PE (X.suite a ((a, oe) :: pn)) (.Name n p) (tVar i)) (hb : attributeBase (.Name n p) f X.env (eval (.Name n p) X.env) = eval (.Name n p) X.env := by rfl) :
    PE (X.suite a ((a, oe) :: pn)) (.Attribute (.Name n p) f pos) (fun σ H Q => σ[i]? = some (some (.ref a)) ∧ ∃ (C dd : Addr) (fs : List (Str × V)) (v : V), cls = .ref C ∧ XfC X.K C ∧ PySem.W.findIn X.K (.ref C) f = some none ∧ d = some dd ∧ H dd = some (.xd fs) ∧ fs.lookup f = some v ∧ Q v H) := by
  refine ⟨fun pins s σ H Q I h => ?_⟩
  obtain ⟨h1, C, dd, fs, v, h2, T, h3, h4, h5, h6, q⟩ := h
  exact (pe_xf T h3 hz hf hv hb).run pins s σ H Q I ⟨_, h1, rfl, h2, dd, fs, v, h4, h5, h6, q⟩
end
end FvX


set_option maxHeartbeats 2000000
namespace FvX
open PySem PySem.Spec PyProof.Rows L2 LamX
/-! ### x(lambda: body), where x calls what it got within a try and goes on behind it -/
section
variable {X : Cx} {pins : List (Addr × Obj)} {σ : L2.St} {H : Hp} {s : Shared}
/-- the call of the lambda; what it raises is told of the very slots -/
theorem pe_actS {Eg : XK} {Ng : List Str} {qg : Str} {sg : Scope} {gf lf lc : Addr} {cdg pm ctv : Value} {pr : Arguments} {bd : Expr} {sc : Scope} {k i : Nat} {nm : Str} {pn : List (Addr × Obj)} {xe : Value → Shared → Prop} {W : WX} {E : XK} {tb : TE} {p1 p2 : Pos}
    (I : Inv X pins σ H s) (L : LamS X.env.scope sc) (hobj : s.heap.get? lf = some (PySem.W.kla_obj "<lambda>" (X.env.qual ++ "<lambda>") pr bd sc (cloFrom X.env.cells sc.names []) pm lc ctv)) (hn : H lf = none) (hnf : lf ∉ frs X.stack)
    (hbnd : bindArgs (PySem.W.kla_fn "<lambda>" (X.env.qual ++ "<lambda>") pr bd sc (cloFrom X.env.cells sc.names []) pm (.ref lc) ctv) ⟨[], []⟩ = pure [])
    (tk : Takes ((cxOf C8.CX0 X.prog X.w X.K X.mg X.base Ng qg sg gf cdg X.A X.stack s H Eg).tr pn xe) W) (hr : Room (k + 1) (X.A.deeper (envOfC qg sg s.heap.objs.size gf cdg)))
    (hbd : ∀ (A : Around) (outer : List Env) (s : Shared) (H : Hp), Room k (A.deeper (lamEnv X sc s.heap.objs.size lf lc)) → PE (lamCx X A outer s H E sc lf lc) bd tb)
    (hN : Ng[i]? = some nm) (hv : Vis sg nm) (hd : (nm == ("__debug__" : Str)) = false) (hcd : (nm == ("__classdict__" : Str)) = false) :
    PE ((cxOf C8.CX0 X.prog X.w X.K X.mg X.base Ng qg sg gf cdg X.A X.stack s H Eg).tr pn xe) (.Call (.Name nm p1) [] [] p2)
      (fun σZ HZ Q => σZ[i]? = some (some (.ref lf)) ∧ HZ lc = some (CodeO lc (X.env.qual ++ "<lambda>")) ∧ (∀ cls d H', E cls d H' → W cls d σZ H') ∧ tb σ HZ Q) := by
  refine ⟨fun pZ sZ σZ HZ Q IZ hh => ?_⟩
  obtain ⟨h1, h2, hW, h3⟩ := hh
  have var := (pe_var (X := (cxOf C8.CX0 X.prog X.w X.K X.mg X.base Ng qg sg gf cdg X.A X.stack s H Eg).tr pn xe) (pos := p1) (i := i) hN hv hd hcd).run pZ sZ σZ HZ (fun v H1 => v = .ref lf ∧ H1 = HZ) IZ ⟨.ref lf, h1, rfl, rfl⟩
  refine wpAny_Call_Name_kw (thn var fun u s1 z => ?_)
  obtain ⟨v, H1, I1, r1, e1, e2⟩ := z
  subst e1
  subst e2
  have eu : u = Value.ref lf := r1
  subst eu
  have here := I1.base.keep lf _ hobj hn hnf (fun z => nomatch (show lf ∈ ([] : List Addr) from z))
  have un : Un (frs X.stack) [] H H1 s.heap s1.heap := I1.base
  obtain ⟨⟨oc, vs, t, g1, g2, g3⟩, _, _⟩ := I1.hok lc _ h2
  have body : codeAny (model X.prog X.w) (X.A.deeper (envOfC qg sg s.heap.objs.size gf cdg)) (.call (.ref lf) ⟨[], []⟩) (CR (L2.CX X.prog X.w) (envOfC qg sg s.heap.objs.size gf cdg :: X.stack) X.prog X.w H1 s1 Q E) s1 := by
    refine PySem.W.kla_callFunE hr.depth here rfl L.co L.gen rfl ⟨lc, oc, vs, t, rfl, g1, g2, g3⟩ ?_
    rw [hbnd]
    refine wpAny_pure (wpAny_newFunctionEnv (fun y hy => (L.own y hy).2) (fun y hy => absurd hy List.not_mem_nil) (fun h₁ hns hsb => ⟨I1.nolimit.fresh _ hsb, ?_⟩) L.kind)
    show codeAny _ _ (.expr bd (lamEnv X sc s1.heap.objs.size lf lc)) _ _
    have kp : ∀ b o, s1.heap.get? b = some o → h₁.get? b = some o := fun b o e => hsb.extBut b o (Nat.ne_of_lt (Heap.lt_size e)) (Heap.get?_push_of_some _ e)
    have J := lam_start2 (A := X.A.deeper (envOfC qg sg s.heap.objs.size gf cdg)) (outer := envOfC qg sg s.heap.objs.size gf cdg :: X.stack) (E := E) (scope := sc) (f := lf) (c' := lc) (tk := s1.toks + ([] : List (Str × Value)).length) I L I1.env0 hr.hd un hns kp
    refine PySem.W.kla_codeExpr (wpAny_mono ((hbd _ _ s1 H1 (hr.deeper _)).run [] _ _ H1 Q J h3) (fun v s' z => ?_) fun e s' z => z)
    obtain ⟨v', H', J', rv, z⟩ := z
    exact ⟨v', H', J'.os, J'.bare, J'.base, J'.hok, rv, z⟩
  refine PySem.W.callWith_F0 ⟨_, _, _, _, here⟩ (wpAny_call (codeAny_mono body fun r s' z => ?_))
  cases r with
  | ok fl =>
    cases fl with
    | ret u => exact I1.after z
    | next => exact z.elim
    | brk => exact z.elim
    | cont => exact z.elim
  | error e => exact tk e s' (XE.of_call I1 (fun cls d H' hE => hW cls d H' hE) z)
end
/-- the def at gf, called with one value, makes of the lambda's reading what TT says -/
def GivesS (X : Cx) (Ng : List Str) (x : Str) (sg : Scope) (gf : Addr) (cdg : Value) (bg : List Stmt) (nm q : Str) (TT : (XK → Hp → VK → Prop) → Hp → VK → Prop) : Prop :=
  ∀ (lf lc : Addr) (s : Shared) (H : Hp) (Q : VK) (tl : XK → Hp → VK → Prop),
    (∀ (W : WX) (pn : List (Addr × Obj)) (xe : Value → Shared → Prop) (E : XK) (p1 p2 : Pos), Takes ((cxOf C8.CX0 X.prog X.w X.K X.mg X.base Ng x sg gf cdg X.A X.stack s H C8.E0).tr pn xe) W →
      PE ((cxOf C8.CX0 X.prog X.w X.K X.mg X.base Ng x sg gf cdg X.A X.stack s H C8.E0).tr pn xe) (.Call (.Name nm p1) [] [] p2)
        (fun σZ HZ Q => σZ[0]? = some (some (.ref lf)) ∧ HZ lc = some (CodeO lc q) ∧ (∀ cls d H', E cls d H' → W cls d σZ H') ∧ tl E HZ Q)) →
    H lc = some (CodeO lc q) → TT tl H Q →
    ∃ t, PSs (cxOf C8.CX0 X.prog X.w X.K X.mg X.base Ng x sg gf cdg X.A X.stack s H C8.E0).nox bg t ∧ t { nx := fun _ H' => Q .non H', rt := Q } (L2.start Ng [.ref lf]) H
section
variable {X : Cx}
theorem pe_lamS {T : List (Addr × Str)} {TT : (XK → Hp → VK → Prop) → Hp → VK → Prop} {x nm : Str} {gf c P : Addr} {k : Nat} {pg : Arguments} {bg : List Stmt} {sg : Scope} {dV kV doc pm cdv ct oc : Value} {an od : Option Addr} {osl : Array (Option Value)} {Ng : List Str}
    {pr : Arguments} {bd : Expr} {sc : Scope} {t : XK → TE} {p lpos pos : Pos} (hg : Gl X x) (hm : X.mg x = some (.ref gf)) (hk : PySem.W.keepIn X.K (.ref gf) = true)
    (lk : X.K.lookup gf = some ⟨oc, od, .func (PySem.W.fnOf x x pg bg sg dV kV doc pm an cdv ct), osl⟩) (hcg : PySem.W.codeIn X.K cdv x = true) (hb : L2.Binds X.K (PySem.W.fnOf x x pg bg sg dV kV doc pm an cdv ct) [nm] []) (Sg : FnScope Ng [nm] sg) (hNg : Ng[0]? = some nm) (hva : Vis sg nm)
    (hG : GivesS X Ng x sg gf cdv bg nm (X.env.qual ++ "<lambda>") TT)
    (TB : TabB X.base X.mg c P) (hcode : X.env.code = .ref c) (hmT : (P, X.env.qual ++ "<lambda>") ∈ T) (hu : ∀ p ∈ T, p.1 = P → p.2 = X.env.qual ++ "<lambda>") (hr : Room (k + 2) X.A) (L : LamS X.env.scope sc) (hdef : defaultsOf pr X.env = ([], []))
    (hbind : ∀ (q : Str) (cl : List (Str × Addr)) (pm cv ctv : Value), bindArgs (PySem.W.kla_fn "<lambda>" q pr bd sc cl pm cv ctv) ⟨[], []⟩ = pure [])
    (hbd : ∀ (A : Around) (outer : List Env) (s : Shared) (H : Hp) (E : XK) (lf lc : Addr), Room k (A.deeper (lamEnv X sc s.heap.objs.size lf lc)) → PE (lamCx X A outer s H E sc lf lc) bd (t E))
    (hdb : (x == ("__debug__" : Str)) = false := by decide) (hd : (nm == ("__debug__" : Str)) = false := by decide) (hcd : (nm == ("__classdict__" : Str)) = false := by decide) :
    PE X (.Call (.Name x p) [.Lambda pr bd sc lpos] [] pos) (tLam T TT t) := by
  refine ⟨fun pins s σ H Q I hh => wpAny_Call_Name_kw (ld_glob I hg hm (PySem.W.callWith_K (h₀ := X.base) I.ok.mod.kin hk ?_ (by rfl) (by rfl)) hdb)⟩
  show wpAny _ _ (spliced ((false, eval (.Lambda pr bd sc lpos) X.env) :: backTo pos (starEach [] X.env))) _ _ s
  refine Calls.spliced_cons (lam_make2 I TB hcode hmT hu hh.1 hdef (L.has I.ok) fun lf lc pm' ctv H1 s' I1 eN T1 g1 g2 g3 g4 => Calls.spliced_nil ⟨I1.kIn, ?_⟩)
  refine wpAny_call (codeAny_mono (R := CR C8.CX0 X.stack X.prog X.w H1 s' Q C8.E0) ?_ fun r s2 z => ?_)
  · refine run_ofS (N := Ng) (ps := [nm]) (us := [.ref lf]) (vs := [.ref lf]) lk hcg Sg hr I1.env0 (hb s' [.ref lf] I1.kIn rfl) (.cons rfl .nil) rfl fun hr' => ?_
    obtain ⟨t', q1, q2⟩ := hG lf lc s' H1 Q (fun E H' Q' => t E σ H' Q') (fun W pn xe E p1 p2 tk => pe_actS (i := 0) I1 L g1 g2 g3 (hbind _ _ _ _ _) tk hr' (fun A outer s H hr2 => hbd A outer s H E lf lc hr2) hNg hva hd hcd) g4 (hh.2 H1 eN T1)
    exact ⟨t', q1.nox, q2⟩
  · cases r with
    | error e => exact (show False from z).elim
    | ok fl =>
      cases fl with
      | ret u => exact I1.after z
      | next => exact z.elim
      | brk => exact z.elim
      | cont => exact z.elim
end
end FvX


namespace Fv
open PySem PySem.Spec PyProof.Rows L2 FvX
/-! ### own defs that may raise -/
structure OwnR (P : Program) (w : World) (K : PySem.W.Frag) (mg : Str → Option Value) (base : Heap) (k : Nat) (x : Str) (sp : Sp) : Prop where
  ex : ∃ f : Addr, mg x = some (.ref f) ∧ PySem.W.keepIn K (.ref f) = true ∧ FnR P w K mg base (L2.CX P w) k f sp
section
variable {X : Cx} {k : Nat} {x : Str} {sp : Sp} {E : XK} {e : Expr} {es : List Expr} {t : TA} {p pos : Pos}
theorem pe_ownR (C : OwnR X.prog X.w X.K X.mg X.base k x sp) (hr : Room k X.A) (hg : Gl X x) (hx : Passes (L2.CX X.prog X.w) X E) (ha : PA X (e :: es) t) (hdb : (x == ("__debug__" : Str)) = false := by decide)
    (he : starEach (e :: es) X.env = (false, eval e X.env) :: starEach es X.env := by rfl) (hpl : (backTo pos (starEach es X.env)).any (·.1) = false := by rfl) : PE X (.Call (.Name x p) (e :: es) [] pos) (fun σ H Q => t σ H fun vs H1 => sp vs H1 Q E) := by
  obtain ⟨f, h1, h2, h3⟩ := C.ex
  refine ⟨fun pins s σ H Q I h => wpAny_Call_Name_kw (ld_glob I hg h1 (PySem.W.callWith_K (h₀ := X.base) I.ok.mod.kin h2 (thn (ha.run pos pins s σ H _ I h) fun us s1 z => ?_) he hpl) hdb)⟩
  obtain ⟨vs, H1, I1, r, q⟩ := z
  exact ⟨I1.kIn, wpAny_call (run_fnR h3 hr hx I1 r q)⟩
theorem pe_ownR0 (C : OwnR X.prog X.w X.K X.mg X.base k x sp) (hr : Room k X.A) (hg : Gl X x) (hx : Passes (L2.CX X.prog X.w) X E) (hdb : (x == ("__debug__" : Str)) = false := by decide) : PE X (.Call (.Name x p) [] [] pos) (fun σ H Q => sp [] H Q E) := by
  obtain ⟨f, h1, h2, h3⟩ := C.ex
  exact ⟨fun pins s σ H Q I h => wpAny_Call_Name_kw (ld_glob I hg h1 (PySem.W.callWith_K0 I.kIn h2 (wpAny_call (run_fnR h3 hr hx I .nil h))) hdb)⟩
end
theorem passX {P : Program} {w : World} {K : PySem.W.Frag} {mg : Str → Option Value} {base : Heap} {N : List Str} {qual : Str} {scope : Scope} {f : Addr} {cd : Value} {A : Around} {outer : List Env} {s : Shared} {H : Hp} {E : XK} :
    Passes (L2.CX P w) (cxOf (L2.CX P w) P w K mg base N qual scope f cd A outer s H E) E := passes_call (takes_of rfl rfl rfl rfl) (fun _ _ _ _ h => h)
theorem passL {X : Cx} {A : Around} {outer : List Env} {s : Shared} {H : Hp} {E : XK} {sc : Scope} {lf lc : Addr} : Passes (L2.CX X.prog X.w) (LamX.lamCx X A outer s H E sc lf lc) E := passes_call (takes_of rfl rfl rfl rfl) (fun _ _ _ _ h => h)
/-- the error of the class at CT leaves, its code told -/
def errAt (CT : Addr) (cod : Str) (H : Hp) (E : XK) : Prop := ∀ (H' : Hp) (dd : Addr), Same H H' → H' dd = some (.xd [("code", .str cod)]) → E (.ref CT) (some dd) H'
theorem errAt.mono {CT : Addr} {cod : Str} {H H1 : Hp} {E : XK} (h : errAt CT cod H E) (s : Same H H1) : errAt CT cod H1 E := fun H' dd s' e => h H' dd (s.trans s') e
/-- a term by is_term's default bounds -/
def tmB (d : PyData) : Bool := (meas 5 d 24).isSome
def spChecked (K : PySem.W.Frag) (CT : Addr) : Sp := fun vs H Q E => ∃ (v : V) (d : PyData), vs = [v] ∧ Dp K H v d ∧ gd 20 d = true ∧ (tmB d = true → ∀ H', Same H H' → Q v H') ∧ (tmB d = false → errAt CT "InvalidTerm" H E)
/-- the term of an operator and its parts, or the only part -/
def madeD (op : Str) : List PyData → PyData
  | [d] => d
  | ds => .tuple (.str op :: ds)
def spJoined (K : PySem.W.Frag) (CT : Addr) : Sp := fun vs H Q E => ∃ (op : Str) (tp : Addr) (xs : List V) (ds : List PyData), vs = [.str op, .ref tp] ∧ SqT K H tp xs ∧ DpAll K H xs ds ∧ xs.length ≤ 100 ∧ gd 0 (.str op) = true ∧ (∀ d ∈ ds, gd 15 d = true) ∧
  (tmB (madeD op ds) = true → ∀ H' v, Same H H' → Dp K H' v (madeD op ds) → Q v H') ∧ (tmB (madeD op ds) = false → errAt CT "InvalidTerm" H E)
def spLower (K : PySem.W.Frag) (CT : Addr) (op : Str) : Sp := fun vs H Q E => ∃ (tp : Addr) (xs : List V) (ds : List PyData), vs = [.ref tp] ∧ SqT K H tp xs ∧ DpAll K H xs ds ∧ xs.length ≤ 100 ∧ (∀ d ∈ ds, gd 15 d = true) ∧
  (tmB (madeD op ds) = true → ∀ H' v, Same H H' → Dp K H' v (madeD op ds) → Q v H') ∧ (tmB (madeD op ds) = false → errAt CT "InvalidTerm" H E)
def spLowerR (K : PySem.W.Frag) (CT : Addr) (op : Str) : Sp := fun xs H Q E => ∃ ds : List PyData, DpAll K H xs ds ∧ xs.length ≤ 100 ∧ (∀ d ∈ ds, gd 15 d = true) ∧
  (tmB (madeD op ds) = true → ∀ H' v, Same H H' → Dp K H' v (madeD op ds) → Q v H') ∧ (tmB (madeD op ds) = false → errAt CT "InvalidTerm" H E)
theorem madeD_gd {op : Str} {ds : List PyData} (ho : gd 0 (.str op) = true) (h : ∀ d ∈ ds, gd 15 d = true) (hl : ds.length ≤ 100) : gd 20 (madeD op ds) = true := by
  have z : gd 16 (.tuple (.str op :: ds)) = true := gd_tup (fun d hd => by
    rcases List.mem_cons.mp hd with e | e
    · rw [e]; exact gd_le ho (by decide)
    · exact h d e) (by rw [List.length_cons]; omega)
  unfold madeD
  split
  · rename_i d
    exact gd_le (h d (List.mem_singleton.mpr rfl)) (by decide)
  · exact gd_le z (by decide)
theorem madeD_ne {op : Str} {ds : List PyData} (h : ds.length ≠ 1) : madeD op ds = .tuple (.str op :: ds) := by
  match ds, h with
  | [], _ => rfl
  | [d], h => exact absurd rfl h
  | a :: b :: r, _ => rfl
end Fv


namespace Fv
open PySem PySem.Spec PyProof.Rows L2 FvX
theorem lmeas_up : ∀ (n : Nat) (d : PyData), 1 ≤ lmeas n d → lmeas (n + 1) d = lmeas n d
  | 0, d, h => by simp only [lmeas] at h; omega
  | n + 1, d, h => by
    by_cases a : isLd d = true
    · unfold lmeas
      rw [if_pos a, if_pos a]
    · by_cases b : isCd d = true
      · have e : ∀ m, lmeas (m + 1) d = if (0 : Int) ∈ (parts d).map (lmeas m) then 0 else ((parts d).map (lmeas m)).sum := fun m => by
          show (if isLd d = true then (1 : Int) else if isCd d = true then _ else 0) = _
          rw [if_neg a, if_pos b]
        rw [e] at h
        by_cases c : (0 : Int) ∈ (parts d).map (lmeas n)
        · rw [if_pos c] at h; omega
        · have em : (parts d).map (lmeas (n + 1)) = (parts d).map (lmeas n) := List.map_congr_left fun x hx => lmeas_up n x (by
            have z := lmeas_nonneg n x
            rcases Int.lt_or_eq_of_le z with z | z
            · omega
            · exact absurd (List.mem_map.mpr ⟨x, hx, z.symm⟩) c)
          rw [e (n + 1), e n, em]
      · have e : ∀ m, lmeas (m + 1) d = 0 := fun m => by
          show (if isLd d = true then (1 : Int) else if isCd d = true then _ else 0) = _
          rw [if_neg a, if_neg b]
        rw [e] at h; omega
theorem mem_le_sum : ∀ {l : List Int} {x : Int}, (∀ y ∈ l, 0 ≤ y) → x ∈ l → x ≤ l.sum
  | y :: l, x, h, hx => by
    rw [List.sum_cons]
    have h0 := sum_nonneg (l := l) fun z hz => h z (List.mem_cons_of_mem _ hz)
    have h1 := h y (List.mem_cons_self ..)
    rcases List.mem_cons.mp hx with e | e
    · omega
    · have := mem_le_sum (l := l) (fun z hz => h z (List.mem_cons_of_mem _ hz)) e
      omega
theorem tmB_iff (d : PyData) : tmB d = true ↔ 1 ≤ lmeas 5 d ∧ lmeas 5 d ≤ 24 := by
  unfold tmB
  rw [meas_some, Bool.and_eq_true, decide_eq_true_eq, decide_eq_true_eq]
theorem tmB_fits (d : PyData) : (decide (1 ≤ lmeas 5 d) && decide (lmeas 5 d ≤ 24)) = tmB d := (meas_some 5 d 24).symm
/-- what makes a term is made of terms -/
theorem made_parts {op : Str} {ds : List PyData} (h : tmB (madeD op ds) = true) : ds ≠ [] ∧ ∀ d ∈ ds, tmB d = true := by
  match ds, h with
  | [], h => cases (show false = true from h)
  | [d], h => exact ⟨fun z => (by cases z), fun x hx => by rw [List.mem_singleton.mp hx]; exact h⟩
  | a :: b :: r, h =>
    refine ⟨fun z => (by cases z), fun x hx => ?_⟩
    obtain ⟨h1, h2⟩ := (tmB_iff _).mp h
    have e : lmeas 5 (madeD op (a :: b :: r)) = if isCd (.tuple (.str op :: a :: b :: r)) = true then (if (0 : Int) ∈ (a :: b :: r).map (lmeas 4) then 0 else ((a :: b :: r).map (lmeas 4)).sum) else 0 := rfl
    rw [e] at h1 h2
    by_cases c : isCd (.tuple (.str op :: a :: b :: r)) = true
    · rw [if_pos c] at h1 h2
      by_cases c0 : (0 : Int) ∈ (a :: b :: r).map (lmeas 4)
      · rw [if_pos c0] at h1; omega
      · rw [if_neg c0] at h1 h2
        have z := lmeas_nonneg 4 x
        have x1 : 1 ≤ lmeas 4 x := by
          rcases Int.lt_or_eq_of_le z with z | z
          · omega
          · exact absurd (List.mem_map.mpr ⟨x, hx, z.symm⟩) c0
        have xs : lmeas 4 x ≤ ((a :: b :: r).map (lmeas 4)).sum := mem_le_sum (fun y hy => by
          obtain ⟨d', _, rfl⟩ := List.mem_map.mp hy
          exact lmeas_nonneg 4 d') (List.mem_map.mpr ⟨x, hx, rfl⟩)
        exact (tmB_iff x).mpr (by rw [lmeas_up 4 x x1]; omega)
    · rw [if_neg c] at h1; omega
def badD : PyData := .tuple [.none, .str "InvalidTerm"]
def outD (op : Str) (ds : List PyData) : PyData := if tmB (madeD op ds) = true then .tuple [madeD op ds, .str ""] else badD
def opOf (low : Bool) : Str := if low = true then "&" else "|"
def spMade (K : PySem.W.Frag) (CT : Addr) : Sp := fun vs H Q E => ∃ (pl : Addr) (xs : List V) (ds : List PyData) (low : Bool), vs = [.ref pl, .bl low] ∧ H pl = some (.lst xs) ∧ DpAll K H xs ds ∧ xs.length ≤ 4 ∧ (∀ d ∈ ds, gd 13 d = true) ∧
  (tmB (madeD (opOf low) ds) = true → ∀ H' v, Same H H' → Dp K H' v (madeD (opOf low) ds) → Q v H') ∧ (tmB (madeD (opOf low) ds) = false → errAt CT "InvalidTerm" H E)
def spDue (K : PySem.W.Frag) : Sp := fun vs H Q _ => ∃ (pl : Addr) (xs : List V) (ds : List PyData) (low : Bool), vs = [.ref pl, .bl low] ∧ H pl = some (.lst xs) ∧ DpAll K H xs ds ∧ xs.length ≤ 4 ∧ (∀ d ∈ ds, gd 13 d = true) ∧
  ∀ H' v, Same H H' → Dp K H' v (outD (opOf low) ds) → Q v H'
theorem eqv_nil (ds : List PyData) : PyData.eqv (.list ds) (.list []) = decide (ds = []) := by
  cases ds with
  | nil => rfl
  | cons d ds => simp [PyData.eqv, PyData.eqvAll]
/-- what _law_call makes of the lambda's reading -/
def TCall (K : PySem.W.Frag) (CF : Addr) : (XK → Hp → VK → Prop) → Hp → VK → Prop := fun tl H Q => ∀ (R : VK) (E : XK),
  (∀ v H', (∀ p, H' p = none → Q (.ref p) (upd H' p (.tup [v, .str ""]))) → R v H') →
  (∀ (C dd : Addr) (H' : Hp) (fs : List (Str × V)) (v : V), PySem.W.exmOne K (.ref C) (.ref CF) = some true → XfC K C → PySem.W.findIn K (.ref C) "code" = some none → H' dd = some (.xd fs) → fs.lookup ("code" : Str) = some v →
      (∀ p, H' p = none → Q (.ref p) (upd H' p (.tup [.non, v]))) → E (.ref C) (some dd) H') → tl E H R
end Fv


namespace Fv
open PySem PySem.Spec PyProof.Rows L2 FvX
/-! ### what stays when a lambda is made -/
theorem sq_ext {K : PySem.W.Frag} {H H' : Hp} {a : Addr} {xs : List V} (e : LamX.ExtN H H') (h : SqL K H a xs) : SqL K H' a xs := by
  rcases h with (h | ⟨o, h⟩) | h
  · exact .inl (.inl (e _ _ h fun ps z => by cases z))
  · exact .inl (.inr ⟨o, e _ _ h fun ps z => by cases z⟩)
  · exact .inr h
theorem sqT_ext {K : PySem.W.Frag} {H H' : Hp} {a : Addr} {xs : List V} (e : LamX.ExtN H H') (h : SqT K H a xs) : SqT K H' a xs := by
  rcases h with (h | ⟨o, h⟩) | h
  · exact .inl (.inl (e _ _ h fun ps z => by cases z))
  · exact .inl (.inr ⟨o, e _ _ h fun ps z => by cases z⟩)
  · exact .inr h
mutual
theorem dp_ext {K : PySem.W.Frag} {H H' : Hp} (e : LamX.ExtN H H') : ∀ (d : PyData) (v : V), Dp K H v d → Dp K H' v d
  | .none, _, h => by cases h; exact .non
  | .bool b, _, h => by cases h; exact .bl b
  | .int i, _, h => by cases h; exact .int i
  | .str x, _, h => by cases h; exact .str x
  | .list ds, _, h => by cases h with | lst hs ha => exact .lst (sq_ext e hs) (dpAll_ext e ds _ ha)
  | .tuple ds, _, h => by cases h with | tup hs ha => exact .tup (sqT_ext e hs) (dpAll_ext e ds _ ha)
  | .dict kvs, _, h => by cases h
theorem dpAll_ext {K : PySem.W.Frag} {H H' : Hp} (e : LamX.ExtN H H') : ∀ (ds : List PyData) (vs : List V), DpAll K H vs ds → DpAll K H' vs ds
  | [], _, h => by cases h; exact .nil
  | d :: ds, _, h => by cases h with | cons h1 h2 => exact .cons (dp_ext e d _ h1) (dpAll_ext e ds _ h2)
end
theorem ext_hide {M : List Addr} {H H' : Hp} (e : LamX.ExtN H H') : LamX.ExtN (hide M H) (hide M H') := fun b o z n => by
  obtain ⟨m, z⟩ := hide_some z
  rw [hide_ne m]
  exact e b o z n
theorem Src.ext {H H' : Hp} {a L : Addr} {ns : List Int} (h : Src H a L ns) (e : LamX.ExtN H H') : Src H' a L ns := by
  obtain ⟨i, p, st, c, h1, h2, h3⟩ := h
  exact ⟨i, p, st, c, e _ _ h1 (fun ps z => by cases z), e _ _ h2 (fun ps z => by cases z), h3⟩
theorem GV.ext {K : PySem.W.Frag} {n : Nat} {M : List Addr} {H H' : Hp} {v : V} (g : GV K n M H v) (e : LamX.ExtN H H') : GV K n M H' v := by
  obtain ⟨d, h1, h2⟩ := g
  exact ⟨d, dp_ext (ext_hide e) d v h1, h2⟩
theorem GV.smx {K : PySem.W.Frag} {n : Nat} {M : List Addr} {H H' : Hp} {v : V} (g : GV K n M H v) (s : SmX M H H') : GV K n M H' v := by
  obtain ⟨d, h1, h2⟩ := g
  exact ⟨d, dp_same s.hid d v h1, h2⟩
/-- tables stay where lists alone are changed -/
theorem tabs_smx {T : List (Addr × Str)} {M : List Addr} {H H' : Hp} (t : LamX.Tabs T H) (s : SmX M H H') (hM : ∀ b ∈ M, ∃ xs, H b = some (.lst xs)) : LamX.Tabs T H' := fun p hp => by
  obtain ⟨ps, h1, h2, h3⟩ := t p hp
  have nm : ∀ {b : Addr} {o : HO}, H b = some o → (∀ xs, o ≠ .lst xs) → b ∉ M := fun {b o} e n hb => by
    obtain ⟨xs, e'⟩ := hM b hb
    rw [e] at e'
    exact n xs (Option.some.inj e')
  refine ⟨ps, s _ _ (nm h1 fun xs z => by cases z) h1, h2, fun pos cv hc => ?_⟩
  obtain ⟨c, e1, e2⟩ := h3 pos cv hc
  exact ⟨c, e1, s _ _ (nm e2 fun xs z => by unfold LamX.CodeO at z; cases z) e2⟩
theorem tabs_same {T : List (Addr × Str)} {H H' : Hp} (t : LamX.Tabs T H) (s : Same H H') : LamX.Tabs T H' := t.ext s
theorem Src.lst {H : Hp} {a L : Addr} {ns : List Int} (h : Src H a L ns) : ∀ b ∈ [a], ∃ xs, H b = some (.lst xs) := fun b hb => by
  obtain ⟨_, _, _, _, e, _⟩ := h
  rw [List.mem_singleton.mp hb]
  exact ⟨_, e⟩
/-- the table of the law's own code -/
def TT0 (Pt : Addr) : List (Addr × Str) := [(Pt, ("law" : Str) ++ ".<locals>." ++ "<lambda>")]
section
variable {P : Program} {w : World} {K : PySem.W.Frag} {mg : Str → Option Value} {base : Heap}
/-- a def whose code object is told -/
theorem okC {x qual : Str} {st : Stmt} {f c : Addr} {oc : Value} {od an : Option Addr} {osl : Array (Option Value)} {kV doc pm ct : Value} {N ps : List Str} {k : Nat} {sp : Sp} (lk : K.lookup f = some ⟨oc, od, .func (PySem.W.fnOf x qual (defArgs st) (defBody st) (defScope st) .none kV doc pm an (.ref c) ct), osl⟩)
    (hcd : PySem.W.codeIn K (.ref c) qual = true) (S : FnScope N ps (defScope st)) (len : ∀ vs H Q E, sp vs H Q E → vs.length = ps.length)
    (hbody : ∀ (A : Around) (outer : List Env) (s : Shared) (H : Hp) (vs : List V) (Q : VK) (E : XK), Room k (A.deeper (envOfC qual (defScope st) s.heap.objs.size f (.ref c))) → sp vs H Q E →
      ∃ t, PSs (cxOf CX0 P w K mg base N qual (defScope st) f (.ref c) A outer s H E).nox (defBody st) t ∧ t { nx := fun _ H' => Q .non H', rt := Q } (start N vs) H) :
    FnOk P w K mg base CX0 (k + 1) f (PySem.W.fnOf x qual (defArgs st) (defBody st) (defScope st) .none kV doc pm an (.ref c) ct) ps sp :=
  fn_of lk hcd S len fun A outer s H vs Q E hr h => by
    obtain ⟨t, h1, h2⟩ := hbody A outer s H vs Q E hr h
    exact ⟨t, h1.nox, h2⟩
end
def spLawT (K : PySem.W.Frag) (Pt : Addr) : Sp := fun vs H Q _ => ∃ (a : Addr) (ns : List Int), vs = [.ref a] ∧ SqL K H a (ns.map V.int) ∧ ns.length ≤ 63 ∧ H Pt = some (.tbl #[]) ∧ ∀ H', Q (.bl true) H'
theorem outD_gd {op : Str} {ds : List PyData} (h : gd 20 (madeD op ds) = true) : gd 21 (outD op ds) = true := by
  unfold outD
  split
  · refine gd_tup (fun d hd => ?_) (Nat.le_of_ble_eq_true rfl)
    rcases List.mem_cons.mp hd with e | e
    · rw [e]; exact h
    · rw [List.mem_singleton.mp e]; exact gd_le (n := 0) (by decide +kernel) (Nat.zero_le _)
  · exact gd_le (n := 1) (by decide +kernel) (by decide)
end Fv


set_option maxHeartbeats 4000000
namespace FvX
open PySem PySem.W PySem.Calls PyProof.Rows
/-! ### an own error with one field: super().__init__(f".."), self.code = text, self.f = f -/
def flds : List Str := ["index", "letter", "name", "count", "place", "limit", "line", "word"]
abbrev errScope1 (fl : Str) : Scope := { kind := .function, names := [("self", .local), (fl, .local), ("__class__", .free), ("super", .globalImplicit)], isGenerator := false, isCoroutine := false, more := [] }
abbrev errParams1 (fl : Str) (pp pp2 : Pos) : Arguments := { posonlyargs := [], args := [{ arg := "self", annotation := none, pos := pp : Arg }, { arg := fl, annotation := none, pos := pp2 : Arg }], vararg := none, kwonlyargs := [], kw_defaults := [], kwarg := none, defaults := [] }
structure ErrPos1 where
  (p0 p1 p2 p4 p5 p6 p7 p8 p9 p10 p11 p12 p13 pp pp2 : Pos)
abbrev errBody1 (q : ErrPos1) (me : Expr) (cod fl : Str) (j2 : Nat) : List Stmt :=
  [.Expr (.Call (.Attribute (.Call (.Name "super" q.p0) [] [] q.p1) "__init__" q.p2) [me] [] q.p4) q.p5, .Assign [.Attribute (.Name "self" q.p6) "code" q.p7] (.Constant (.str cod) j2 q.p8) q.p9, .Assign [.Attribute (.Name "self" q.p10) fl q.p11] (.Name fl q.p12) q.p13]
def LineOk1 (q : ErrPos1) (me : Expr) : Prop := ∀ env : Env, ∃ pl : Sem Bool, eval (.Call (.Attribute (.Call (.Name "super" q.p0) [] [] q.p1) "__init__" q.p2) [me] [] q.p4) env = (do
  let ov ← attributeBase (.Call (.Name "super" q.p0) [] [] q.p1) "__init__" env (eval (.Call (.Name "super" q.p0) [] [] q.p1) env)
  standAt q.p2.atName
  let (f, first) ← holding [ov] (getMethod ov "__init__" pl)
  callWith q.p4 f first (backTo q.p4 (starEach [me] env)) [])
/-- the message is some text; nothing else is changed -/
def MsgOk (me : Expr) (fl : Str) (u : Value) : Prop := ∀ {prog : Program} {w : World} {A : Around} {env : Env} {E : Value → Shared → Prop} {Q : Value → Shared → Prop} {h : Heap} {g : Array GenState} {d : Drawn} {t : Nat} {os : OsState},
  (∀ (p : Pos) (tk : Nat) (Q' : Value → Shared → Prop), Q' u ⟨h, g, d, tk, os⟩ → wpAny (model prog w) A (eval (.Name fl p) env) Q' E ⟨h, g, d, tk, os⟩) → (∀ y t' tk, Q (.str y t') ⟨h, g, d, tk, os⟩) → wpAny (model prog w) A (eval me env) Q E ⟨h, g, d, t, os⟩
/-- the shape of the message: one call's arguments are evaluated from the left -/
def ArgsOk (me : Expr) : Prop := ∀ env : Env, starEach [me] env = (false, eval me env) :: starEach [] env
theorem nocell (fl : Str) : ∀ x ∈ (errScope1 fl).names, x.2 ≠ .cell := by
  intro x hx
  simp only [List.mem_cons, List.not_mem_nil, or_false] at hx
  rcases hx with rfl | rfl | rfl | rfl <;> (intro z; cases z)
structure ErrC1 (file0 : Str) (K : Frag) (C f : Addr) (qual : Str) (q : ErrPos1) (me : Expr) (cod fl : Str) (j2 : Nat) : Prop where
  oex : L2.OexC K C
  fn : ∃ (oc : Value) (od an : Option Addr) (osl : Array (Option Value)) (kV doc pm ct : Value) (cda cc : Addr) (ccl cl : Value) (cdd cld : Option Addr) (vs : Array Value) (ccs csl : Array (Option Value)) (file : Str) (tf : Tok),
    K.lookup f = some ⟨oc, od, .func (ksFn "__init__" qual (errParams1 fl q.pp q.pp2) (errBody1 q me cod fl j2) (errScope1 fl) .none kV doc pm an (.ref cda) ct cc), osl⟩ ∧ codeIn K (.ref cda) qual = true ∧ K.lookup cda = some ⟨ccl, cdd, .fields vs, ccs⟩ ∧ vs[2]? = some (.str file tf) ∧
      (file0 == file) = true ∧ K.lookup cc = some ⟨cl, cld, .cell (some (.ref C)), csl⟩
  sup : ks_superIn K C C "__init__" = some (some (.builtin "ValueError.__init__"))
  self : mroIn K C (.ref C) = some true
  isV : subIn K (.ref C) (.type "ValueError") = some true
  init : excInitIn K C veTail4 "ValueError.__new__" = true
  third : nsIn K cStatics "thirdparty.any" = some none
  code : findIn K (.ref C) "code" = some none
  fld : findIn K (.ref C) fl = some none
  find : findIn K (.ref C) "__init__" = some (some (.ref f))
  typ : typeIn K (.ref f) = some (.type "function")
section
variable {prog : Program} {w : World} {A : Around} {K : Frag} {h : Heap} {g : Array GenState} {d : Drawn} {t : Nat} {os : OsState} {R : Result → Shared → Prop} {mg mb : Str → Option Value}
  {C f a t0 : Addr} {qual cod fl : Str} {q : ErrPos1} {me : Expr} {j2 : Nat} {u : Value}
theorem init_run1 (hfl : fl ∈ flds) (T : ErrC1 prog.main.file K C f qual q me cod fl j2) (hline : LineOk1 q me) (hargs : ArgsOk me) (hmsg : MsgOk me fl u) (htop : (prog.main.scope.names.lookup ("super" : Str)).isSome = false)
    (X : K.In h) (hg : h.Ns mainGlobals mg) (hms : mg "super" = none) (hb : h.Ns builtinsNs mb) (hmb : mb "super" = some (.type "super")) (hlim : h.NoLimit) (hroom : A.depth < recursionLimit) (ha : h.get? a = some (excObj C t0 none .none)) (haK : K.lookup a = none)
    (hq : ∀ h' t1 tk' dx tk, (∀ b o, b ≠ a → h.get? b = some o → h'.get? b = some o) → h.objs.size ≤ dx → dx ≠ a → h'.get? a = some { cls := .ref C, dict := some dx, data := .fields #[.ref t1, .none, .none, .none, .bool false, .none] } →
      h'.Ns1 dx (fun y => if y = fl then some u else if y = ("code" : Str) then some (.str cod tk) else none) → R (.ok (.ret .none)) ⟨h', g, d, tk', os⟩) :
    codeAny (model prog w) A (.call (.ref f) ⟨[.ref a, u], []⟩) R ⟨h, g, d, t, os⟩ := by
  simp only [flds, List.mem_cons, List.not_mem_nil, or_false] at hfl
  obtain ⟨oc, od, an, osl, kV, doc, pm, ct, cda, cc, ccl, cl, cdd, cld, vs, ccs, csl, file, tf, hf, hcd, hcode, hvs, hfile, hcell⟩ := T.fn
  rcases hfl with rfl | rfl | rfl | rfl | rfl | rfl | rfl | rfl
  all_goals
    refine ks_codeAny_call_defAt (binds := [("self", .ref a), (_, u)]) hroom (X _ _ hf) rfl hlim (codeRec_of X hcd) rfl (.of_eq rfl) (nocell _) (fun y hy => ?_) (fun h1 hns hk1 => ?_)
    · rcases List.mem_cons.mp hy with e | e
      · rw [e]; rfl
      · rw [List.mem_singleton.mp e]; rfl
    have X1 : K.In h1 := fun b o e => hk1 b o (X b o e)
    have ha1 : h1.get? a = some (excObj C t0 none .none) := hk1 _ _ ha
    have haL : a ≠ h.objs.size := Nat.ne_of_lt (Heap.lt_size ha)
    obtain ⟨cd, hc⟩ : ∃ cd, clsIn K C = some cd := by
      have z := T.sup
      unfold ks_superIn at z
      cases hc : clsIn K C with
      | none => rw [hc] at z; cases z
      | some cd => exact ⟨cd, rfl⟩
    obtain ⟨oD, hD0, hD2⟩ : ∃ oD, K.lookup C = some oD ∧ oD.data = .cls cd := by
      unfold clsIn at hc
      split at hc
      · rename_i c d' cd' sl ho
        cases hc
        exact ⟨_, ho, rfl⟩
      · cases hc
    have hD1 := X1 _ _ hD0
    have hsup : alongIn K "__init__" ((cd.mro.dropWhile (· != .ref C)).drop 1) = some (some (.builtin "ValueError.__init__")) := by
      have z := T.sup
      unfold ks_superIn at z
      rw [hc] at z
      exact z
    obtain ⟨pl, hline⟩ := hline (callEnv (ksFn "__init__" qual (errParams1 _ q.pp q.pp2) (errBody1 q me cod _ j2) (errScope1 _) .none kV doc pm an (.ref cda) ct cc) h.objs.size f)
    refine ks_wpAt_execs_cons (ks_wpAt_Expr_any (ks_wpAt_MethodCall ?_ hline))
    refine ks_wpAt_super_base rfl rfl (by decide) rfl (X1 _ _ hf) rfl rfl rfl (X1 _ _ hcode) rfl hvs hfile htop ?_
    refine ks_loadName_global rfl rfl (loadGlobal_builtin (hg.keeps hk1) hms (hb.keeps hk1) hmb ⟨rfl, ?_⟩)
    refine wpAny_loadName_free rfl rfl rfl ⟨_, X1 _ _ hcell, rfl⟩ ?_
    refine wpAny_loadName_local rfl rfl hns (show _ = some (Value.ref a) from rfl) ?_
    refine ks_wpAny_isType_cls hD1 hD2 ⟨rfl, ?_⟩
    refine ks_wpAny_call_super hD1 hD2 ha1 rfl (fun c e => by cases e) (looks_mroIn X1 T.self) (fun h2 hso hk2 => ?_)
    have X2 : K.In h2 := fun b o e => hk2 b o (X1 b o e)
    have ha2 := hk2 _ _ ha1
    have haC : a ≠ C := fun e => by rw [e, hD0] at haK; cases haK
    have I2 : InstAt h2 a (excObj C t0 none .none) C none := ⟨ha2, rfl, rfl, trivial⟩
    refine kxs_getMethod kxs_ValueError hso (looks_opaque X2 T.third) (l₀ := cd.mro) (fun A Q E s k z => wpAny_bind ((looks_clsIn X2 hc) A _ E s k (wpAny_pure z))) rfl X2 hsup (I2.type.andThen (looks_subIn X2 T.isV)) haC (by decide) ?_
    have nsK : ∀ {h h' : Heap} {L : Addr} {m : Str → Option Value}, h.Ns L m → (∀ b o, h.get? b = some o → h'.get? b = some o) → h'.Ns L m := fun {h h' L m} ⟨o, es, ep, e, r⟩ k => ⟨o, es, ep, k _ _ e, r⟩
    have hns2 := nsK hns hk2
    have hk3 : ∀ b o, h2.get? b = some o → (h2.push (kxs_mw "ValueError.__init__" a)).get? b = some o := fun b o e => Heap.get?_push_of_some _ e
    have hLt : h.objs.size < h2.objs.size := by
      obtain ⟨o, _, _, e, _⟩ := hns2
      exact Heap.lt_size e
    have FR := (⟨nsK hns2 hk3, fun b o e => hk3 _ _ (hk2 _ _ (hk1 _ _ (of_hideAll _ e))), Nat.le_of_eq (hideAll_size _ _)⟩ : Fr (hideAll h [a]) h.objs.size (h2.push (kxs_mw "ValueError.__init__" a)) _)
    have NW : News (hideAll h [a]) h.objs.size (h2.push (kxs_mw "ValueError.__init__" a)) [(h2.objs.size, kxs_mw "ValueError.__init__" a), (a, excObj C t0 none .none)] := fun p hp => by
      rcases List.mem_cons.mp hp with e | hp
      · subst e
        refine ⟨Heap.get?_push_size _ rfl, Nat.ne_of_gt hLt, ?_⟩
        cases z : (hideAll h [a]).get? h2.objs.size with
        | none => rfl
        | some o => exact absurd (Heap.lt_size (of_hideAll _ z)) (Nat.lt_asymm hLt)
      · rw [List.mem_singleton.mp hp]
        exact ⟨hk3 _ _ ha2, haL, hideAll_none _ (List.mem_singleton.mpr rfl)⟩
    have X0 : K.In (hideAll h [a]) := fun b o e => hideAll_get _ (X b o e) (fun z => by
      rw [List.mem_singleton.mp z, haK] at e
      cases e)
    refine kxs_callWith1 NW (List.mem_cons_self ..) ?_ (he := hargs _)
    rw [hargs]
    refine Calls.spliced_cons (hmsg ?_ ?_)
    · intro p tk Q' z
      exact wpAny_Name (wpAny_loadName_local rfl rfl FR.ns (show _ = some u from rfl) z) (by decide)
    intro y t' tk
    refine Calls.spliced_nil ⟨kxs_at NW (List.mem_cons_self ..), ?_⟩
    refine kxs_call FR X0 NW PySem.F.excBase_ValueError T.init (List.mem_cons_self ..) (.tail (Nat.ne_of_gt (Heap.lt_size ha2)) (.head fun p hp => nomatch hp)) (by show 1 ≤ sizeLine; decide) (fun t' h4 F4 N4 _ => ?_)
    have ha4 : h4.get? a = some (excObj C t' none .none) := (N4 (a, excObj C t' none .none) (List.mem_cons_of_mem _ (List.mem_cons_of_mem _ (List.mem_cons_self ..)))).1
    have X4 : K.In h4 := fun b o e => F4.keep b o (X0 b o e)
    obtain ⟨nm, qn, N, bs, bm, sn, sub, ab, col, dd, k0, k1, k2, k3, k5, hC, hbm⟩ := T.oex.cls
    have hcl : clsIn K C = some { name := nm, bases := bs, mro := .ref C :: bm, ns := N, qualname := qn, hasDict := true, slotNames := sn, subclasses := sub, abstract := ab, collection := col, hasDel := false } := by
      unfold clsIn
      rw [hC] <;> rfl
    -- self.code = text
    refine wpAt_of_wpAny (wpAny_execs_cons (plainObj_wpAny_Assign_Attribute (wpAny_Constant_str (k := j2) (pos := q.p8) (wpAny_Name (wpAny_loadName_local rfl rfl F4.ns (show _ = some (Value.ref a) from rfl) ?_) (by decide))) rfl))
    refine set_plain X4 (ox := excObj C t' none .none) (od := none) ⟨ha4, rfl, rfl, trivial⟩ T.oex.sa ?_
    refine PySem.HandSPX.exc_osa X4 ha4 hcl (show PySem.HandSPX.refsVE (.ref C :: bm) = true from hbm) rfl T.code (fun h5 tk' dx hk5 dn dne hx hn => ?_)
    have hL4 : h.objs.size ≤ h4.objs.size := by
      obtain ⟨o, _, _, e, _⟩ := F4.ns
      exact Nat.le_of_lt (Heap.lt_size e)
    -- self.f = f
    have nsB : ∀ {h h' : Heap} {L : Addr} {m : Str → Option Value}, h.Ns L m → (∀ b o, b ≠ a → h.get? b = some o → h'.get? b = some o) → L ≠ a → h'.Ns L m := fun {h h' L m} ⟨o, es, ep, e, r⟩ k n => ⟨o, es, ep, k _ _ n e, r⟩
    have ns5 := nsB F4.ns hk5 haL.symm
    have X5 : K.In h5 := fun b o e => hk5 b o (fun z => by rw [z, haK] at e; cases e) (X4 b o e)
    have hw : ∀ {v : Value}, Within (fun y => if y = ("code" : Str) then some v else none) [("code" : Str)] := fun {v} y hy => by
      by_cases e : y = "code"
      · rw [e]; exact List.mem_singleton.mpr rfl
      · exact absurd (if_neg e) hy
    obtain ⟨oX, _, _, hoX, _, _⟩ := hn.count hw
    refine wpAny_execs_cons (plainObj_wpAny_Assign_Attribute (wpAny_Name (wpAny_loadName_local rfl rfl ns5 (show _ = some u from rfl) (wpAny_Name (wpAny_loadName_local rfl rfl ns5 (show _ = some (Value.ref a) from rfl) ?_) (by decide))) (by decide)) rfl)
    refine set_plain X5 (ox := { cls := .ref C, dict := some dx, data := .fields #[.ref t', .none, .none, .none, .bool false, .none] }) (od := some oX) ⟨hx, rfl, rfl, hoX⟩ T.oex.sa ?_
    refine PySem.OEX.osa_old X5 hx hn hw (by decide) hcl (show PySem.HandSPX.refsVE (.ref C :: bm) = true from hbm) rfl T.fld (fun h6 tk6 hk6 hn6 => ?_)
    refine wpAny_execs_nil (hq h6 t' tk6 dx _ (fun b o hb e => ?_) (Nat.le_trans hL4 dn) dne ?_ hn6)
    · exact hk6 b o (fun z => by
        have := Heap.lt_size e
        have hh := Nat.le_trans hL4 dn
        rw [z] at this
        exact absurd (Nat.lt_of_lt_of_le this hh) (Nat.lt_irrefl _)) (hk5 b o hb (F4.keep b o (hideAll_get _ e fun z => hb (List.mem_singleton.mp z))))
    · exact hk6 a _ dne.symm hx
end
end FvX


set_option maxHeartbeats 2000000
namespace FvX
open PySem PySem.Spec PyProof.Rows L2
/-! ### the messages -/
def MsgV (u : Value) : Prop := (∃ y t, u = .str y t ∧ (reprText y).length ≤ 100000) ∨ ∃ i t, u = .int i t ∧ i.natAbs.log2 < 1920
def MsgW (v : V) : Prop := (∃ y, v = .str y ∧ (reprText y).length ≤ 100000) ∨ ∃ i, v = .int i ∧ i.natAbs.log2 < 1920
theorem MsgW.val {v : V} {u : Value} (h : MsgW v) (r : RelV v u) : MsgV u := by
  rcases h with ⟨y, rfl, hy⟩ | ⟨i, rfl, hi⟩
  · obtain ⟨t, rfl⟩ := r
    exact .inl ⟨y, t, rfl, hy⟩
  · obtain ⟨t, rfl⟩ := r
    exact .inr ⟨i, t, rfl, hi⟩
theorem emp_len (x : Str) : (Str.empty ++ x).length = x.length := by
  rw [TL.len_tl, TL.tl_append, List.length_append, ← TL.len_tl x]
  show 0 + _ = _
  omega
theorem app_len (x y : Str) : (x ++ y).length = x.length + y.length := by
  rw [TL.len_tl, TL.tl_append, List.length_append, ← TL.len_tl, ← TL.len_tl]
theorem fmt_msg {prog : Program} {w : World} {A : Around} {env : Env} {E : Value → Shared → Prop} {Q : Value → Shared → Prop} {fl : Str} {u : Value} {h : Heap} {g : Array GenState} {d : Drawn} {t : Nat} {os : OsState} {p p2 : Pos} (hu : MsgV u)
    (hn : ∀ (p : Pos) (tk : Nat) (Q' : Value → Shared → Prop), Q' u ⟨h, g, d, tk, os⟩ → wpAny (model prog w) A (eval (.Name fl p) env) Q' E ⟨h, g, d, tk, os⟩)
    (hq : ∀ y t' tk, y.length ≤ 100000 → Q (.str y t') ⟨h, g, d, tk, os⟩) : wpAny (model prog w) A (eval (.FormattedValue (.Name fl p) 114 none p2) env) Q E ⟨h, g, d, t, os⟩ := by
  refine wpAny_FormattedValue_repr (hn p t _ ?_)
  have big : ∀ n : Nat, n ≤ 100000 → n ≤ sizeLine := fun n h => Nat.le_trans h (by decide)
  rcases hu with ⟨y, t', rfl, hy⟩ | ⟨i, t', rfl, hi⟩
  · exact pyReprObj_str (wpAny_formatField_str (hq _ _ _ hy) (hq _ _ _ hy) (big _ hy)) (big _ hy)
  · have e := int_text_length_le (k := 1920) (by decide) hi
    have hy : (Str.ofString (toString i)).length ≤ 100000 := by rw [PySem.ofString_length]; omega
    exact pyReprObj_int hi (wpAny_formatField_str (hq _ _ _ hy) (hq _ _ _ hy) (big _ hy))
theorem msg2 {pre fl : Str} {u : Value} {k : Nat} {p1 p2 p3 p4 : Pos} (hp : pre.length ≤ 1000) (hu : MsgV u) : MsgOk (.JoinedStr [.Constant (.str pre) k p1, .FormattedValue (.Name fl p2) 114 none p3] p4) fl u := by
  intro prog w A env E Q h g d t os hn hq
  have big : ∀ n : Nat, n ≤ 102000 → n ≤ sizeLine := fun n h => Nat.le_trans h (by decide)
  refine wpAny_JoinedStr ?_
  show wpAny _ _ (eval (.Constant (.str pre) k p1) env) (fun v s₁ => ∃ y t, v = .str y t ∧ (Str.empty ++ y).length ≤ sizeLine ∧ wpAny _ _ (eval (.FormattedValue (.Name fl p2) 114 none p3) env) (fun v s₁ => ∃ y' t, v = .str y' t ∧ ((Str.empty ++ y) ++ y').length ≤ sizeLine ∧ _) _ s₁) _ _
  refine wpAny_Constant_str ⟨_, _, rfl, by rw [emp_len]; exact big _ (by omega), fmt_msg hu hn fun y t' tk hy => ⟨_, _, rfl, ?_, ?_, hq _ _ _⟩⟩
  · rw [app_len, emp_len]; exact big _ (by omega)
  · rw [app_len, emp_len]; exact big _ (by omega)
theorem msg3 {pre post fl : Str} {u : Value} {k k2 : Nat} {p1 p2 p3 p4 p5 : Pos} (hp : pre.length ≤ 1000) (hp2 : post.length ≤ 1000) (hu : MsgV u) : MsgOk (.JoinedStr [.Constant (.str pre) k p1, .FormattedValue (.Name fl p2) 114 none p3, .Constant (.str post) k2 p5] p4) fl u := by
  intro prog w A env E Q h g d t os hn hq
  have big : ∀ n : Nat, n ≤ 103000 → n ≤ sizeLine := fun n h => Nat.le_trans h (by decide)
  refine wpAny_JoinedStr ?_
  show wpAny _ _ (eval (.Constant (.str pre) k p1) env) (fun v s₁ => ∃ y t, v = .str y t ∧ (Str.empty ++ y).length ≤ sizeLine ∧ wpAny _ _ (eval (.FormattedValue (.Name fl p2) 114 none p3) env) (fun v s₁ => ∃ y' t, v = .str y' t ∧ ((Str.empty ++ y) ++ y').length ≤ sizeLine ∧ wpAny _ _ (eval (.Constant (.str post) k2 p5) env) (fun v s₁ => ∃ y'' t, v = .str y'' t ∧ (((Str.empty ++ y) ++ y') ++ y'').length ≤ sizeLine ∧ _) _ s₁) _ s₁) _ _
  refine wpAny_Constant_str ⟨_, _, rfl, by rw [emp_len]; exact big _ (by omega), fmt_msg hu hn fun y t' tk hy => ⟨_, _, rfl, ?_, wpAny_Constant_str ⟨_, _, rfl, ?_, ?_, hq _ _ _⟩⟩⟩
  · rw [app_len, emp_len]; exact big _ (by omega)
  · rw [app_len, app_len, emp_len]; exact big _ (by omega)
  · rw [app_len, app_len, emp_len]; exact big _ (by omega)
section
variable {X : Cx} {C f : Addr} {qual cod fl x : Str} {q : ErrPos1} {me : Expr} {j2 k : Nat} {p pos : Pos} {e : Expr} {ta : TA}
/-- x(e): the new error, its dict at d -/
def tErr1 (C : Addr) (cod fl : Str) (ta : TA) : L2.St → Hp → XK → Prop := fun σ H Q => ta σ H fun vs H1 => ∃ v, vs = [v] ∧ MsgW v ∧ ∀ d, H1 d = none → Q (.ref C) (some d) (upd H1 d (.xd [(fl, v), ("code", .str cod)]))
theorem pmk_err1 (hfl : fl ∈ flds) (T : ErrC1 X.prog.main.file X.K C f qual q me cod fl j2) (hline : LineOk1 q me) (hargs : ArgsOk me) (hme : ∀ u, MsgV u → MsgOk me fl u) (htop : (X.prog.main.scope.names.lookup ("super" : Str)).isSome = false) (hms : X.mg "super" = none) (hr : Room (k + 1) X.A) (hg : Gl X x) (hm : X.mg x = some (.ref C)) (ha : PA X [e] ta)
    (hdb : (x == ("__debug__" : Str)) = false := by decide) (he : starEach [e] X.env = (false, eval e X.env) :: starEach [] X.env := by rfl) (hpl : (backTo pos (starEach [] X.env)).any (·.1) = false := by rfl) : PMk X (.Call (.Name x p) [e] [] pos) (tErr1 C cod fl ta) := by
  intro pins s σ H Q I h
  obtain ⟨nm, qn, N, bs, bm, sn, sub, ab, col, dd, k0, k1, k2, k3, k5, hC, hbm⟩ := T.oex.cls
  refine wpAny_Call_Name_kw (ld_glob I hg hm (PySem.W.callWith_K (h₀ := X.base) I.ok.mod.kin T.oex.kC (thn (ha.run pos pins s σ H _ I h) fun us s1 z => ?_) he hpl) hdb)
  obtain ⟨vs, H1, I1, r, v, rfl, hv, h⟩ := z
  obtain ⟨u, rfl, ru⟩ := vals1 r
  clear I
  rename Inv X pins σ H1 s1 => I
  refine ⟨I.kIn, ?_⟩
  show wpAny _ _ (call (.ref C) [u]) _ _ _
  obtain ⟨hp, g, dr, tk, os⟩ := s1
  have nK : X.K.lookup (hp.objs.size + 1) = none := by
    cases e : X.K.lookup (hp.objs.size + 1) with
    | none => rfl
    | some o => exact absurd (Nat.lt_of_succ_lt (Heap.lt_size (I.kIn _ _ e))) (Nat.lt_irrefl _)
  have fresh : H1 (hp.objs.size + 1) = none := I.hok.fresh (Nat.le_succ _)
  have kk : ∀ b o, hp.get? b = some o → ((hp.push (PySem.W.kdv_tup [u])).push (PySem.HandSPX.excO C hp.objs.size)).get? b = some o := fun b o e => Heap.get?_push_of_some _ (Heap.get?_push_of_some _ e)
  have at1 : ((hp.push (PySem.W.kdv_tup [u])).push (PySem.HandSPX.excO C hp.objs.size)).get? (hp.objs.size + 1) = some (PySem.HandSPX.excO C hp.objs.size) := by heap_get
  have I2 := I.laid (t' := tk) (a := hp.objs.size + 1) (o := exo (hp.objs.size + 1) C none) (h' := (hp.push (PySem.W.kdv_tup [u])).push (PySem.HandSPX.excO C hp.objs.size)) kk (Nat.le_succ _) (exo_ok at1)
  obtain ⟨mb, hb, hbb⟩ := I.mod.blt
  refine wpAny_call (PySem.HandSPX.call_own PySem.F.excBase_ValueError (fun Y => PySem.HandSPX.refsVE_contains Y bm hbm) (I.kIn _ _ hC) (PySem.W.looks_findIn I.kIn T.find) (fun self => PySem.W.bind_fn I.kIn self T.typ) (by show 1 ≤ sizeLine; decide) ?_)
  refine init_run1 (mg := X.mg) (mb := mb) (t0 := hp.objs.size) hfl T hline hargs (hme u (hv.val ru)) htop (fun b o e => kk b o (I.kIn b o e)) ((I.mod.glob.keeps I.bk).keeps kk) hms ((hb.keeps I.bk).keeps kk) ((hbb _ (by decide)).trans (by decide +kernel)) ?lim (hr.make C [u] []).depth at1 nK (fun h' t1 tk' dx tk0 hk dn dne hx hn => ?_)
  case lim => exact (I.mod.nolimit.keeps I.bk).keeps kk
  have nd : H1 dx = none := I.hok.fresh (Nat.le_trans (by simp; omega) dn)
  have na : ∀ {b : Addr} {u : Option HO}, upd H1 (hp.objs.size + 1) (exo (hp.objs.size + 1) C none) b = none → b ≠ hp.objs.size + 1 := fun {b u} e z => by
    rw [z, upd_same] at e
    cases e
  have lt2 : ∀ {b : Addr} {o : Obj}, ((hp.push (PySem.W.kdv_tup [u])).push (PySem.HandSPX.excO C hp.objs.size)).get? b = some o → b ≠ dx := fun {b o} e => Nat.ne_of_lt (Nat.lt_of_lt_of_le (Heap.lt_size e) dn)
  have same : ∀ {b : Addr} {o : HO}, upd H1 (hp.objs.size + 1) (exo (hp.objs.size + 1) C none) b = some o → o ≠ exo (hp.objs.size + 1) C none → upd (upd H1 dx (exd dx [(fl, v), ("code", .str cod)])) (hp.objs.size + 1) (exo (hp.objs.size + 1) C (some dx)) b = some o := fun {b o} e ne => by
    have b1 : b ≠ hp.objs.size + 1 := fun z => by
      rw [z, upd_same] at e
      exact ne (Option.some.inj e).symm
    rw [upd_ne b1] at e
    rw [upd_ne b1, upd_ne (ne_of_none e nd)]
    exact e
  have un : Un (frs X.stack) [] (upd H1 (hp.objs.size + 1) (exo (hp.objs.size + 1) C none)) (upd (upd H1 dx (exd dx [(fl, v), ("code", .str cod)])) (hp.objs.size + 1) (exo (hp.objs.size + 1) C (some dx))) ((hp.push (PySem.W.kdv_tup [u])).push (PySem.HandSPX.excO C hp.objs.size)) h' := by
    refine ⟨fun b o e n _ _ => hk b o (na (u := none) n) e, fun b o e n _ _ => ⟨o.slots, hk b o (na (u := none) n) e⟩, fun b o e n _ => ?_, fun b o e _ => ?_, fun b xs e => same e fun z => exo_tup z.symm, fun b o u e => same e fun z => exo_frz z.symm, fun b ps e => ⟨#[], ?_⟩⟩
    · have b1 := na (u := none) n
      rw [upd_ne b1, upd_ne (lt2 e)]
      rw [upd_ne b1] at n
      exact n
    · by_cases b1 : b = hp.objs.size + 1
      · exact ⟨_, by rw [b1]; exact hx⟩
      · exact ⟨o, hk b o b1 e⟩
    · rw [Array.append_empty]
      exact same e fun z => exo_tbl z.symm
  have hok : HOk X.prog X.w (upd (upd H1 dx (exd dx [(fl, v), ("code", .str cod)])) (hp.objs.size + 1) (exo (hp.objs.size + 1) C (some dx))) h' := fun b o e => by
    by_cases b1 : b = hp.objs.size + 1
    · rw [b1, upd_same] at e
      cases e
      rw [b1]
      exact exo_ok hx
    · rw [upd_ne b1] at e
      by_cases b2 : b = dx
      · rw [b2, upd_same] at e
        cases e
        rw [b2]
        exact exd_ok hn (relO_put ru (relO_put (fs := []) ⟨_, rfl⟩ fun g => True.intro))
      · rw [upd_ne b2] at e
        have e2 : upd H1 (hp.objs.size + 1) (exo (hp.objs.size + 1) C none) b = some o := by rw [upd_ne b1]; exact e
        refine (I2.hok b o e2).stay (fun c v hc z => hk c v (fun c1 => ?_) z) (fun c hc => same hc fun z => exo_own z.symm) (fun c xs hc => same hc fun z => exo_tup z.symm)
        rcases hc with hc | hc
        · exact b1 (hc.symm.trans c1)
        · rw [c1, upd_same] at hc
          exact exo_own (Option.some.inj hc)
  refine ⟨rfl, mk_end (a := hp.objs.size + 1) (C := C) (d := dx) (fs := [(fl, v), ("code", .str cod)]) (raises_own T.oex.exC T.oex.tyC) I (Nat.le_succ _) kk un hok rfl I.bare upd_same ?_ nd ?_⟩
  · rw [upd_ne dne, upd_same]
  · have e : upd (del (upd (upd H1 dx (exd dx [(fl, v), ("code", .str cod)])) (hp.objs.size + 1) (exo (hp.objs.size + 1) C (some dx))) (hp.objs.size + 1)) dx (.xd [(fl, v), ("code", .str cod)]) = upd H1 dx (.xd [(fl, v), ("code", .str cod)]) := by
      funext b
      by_cases b2 : b = dx
      · rw [b2, upd_same, upd_same]
      · rw [upd_ne b2, upd_ne b2]
        by_cases b1 : b = hp.objs.size + 1
        · rw [b1, del_same, fresh]
        · rw [del_ne b1, upd_ne b1, upd_ne b2]
    rw [e]
    exact h dx nd
end
end FvX


namespace Fv
open PySem PySem.Spec PyProof.Rows L2
def topS (i : Nat) : Stmt := PySem.Challenge.pw_fivefault_k07_texts_of_rules_and_goals.main.body.getD i (.Pass ⟨0, 0, 0, 0⟩)
-- top 34  slots: 0:_law_source_here 1:_law_many 2:_law_cell 3:_law_digit 4:_law_mixed_here
abbrev s_law_take : Stmt := topS 34
abbrev N_law_take : List Str := ["_law_source_here", "_law_many", "_law_cell", "_law_digit", "_law_mixed_here"]
theorem sc_law_take : FnScope N_law_take ["_law_source_here", "_law_many"] (defScope s_law_take) := ⟨rfl, rfl, rfl, by decide +kernel, rfl, by decide +kernel, by decide +kernel⟩

theorem at_int {ns : List Int} {i : Int} (h0 : 0 ≤ i) (h : i < ((ns.map V.int).length : Nat)) : ∃ v : Int, atI (ns.map V.int) i = some (.int v) := by
  rw [List.length_map] at h
  have hk : i.toNat < ns.length := by omega
  have q : atI (ns.map V.int) ((i.toNat : Nat) : Int) = some (.int ns[i.toNat]) := atI_nat (by rw [List.getElem?_map, List.getElem?_eq_getElem hk] <;> rfl)
  rw [show ((i.toNat : Nat) : Int) = i by omega] at q
  exact ⟨_, q⟩
def zz (st c : Int) : Int := (((st * st) % 2147483629 + 40507 * (c + 1)) * 48271 + st + 17) % 2147483629
theorem pos1 : (0 : Int) < 2147483587 := by decide
theorem pos2 : (0 : Int) < 2147483629 := by decide
theorem pos3 : (0 : Int) < 8191 := by decide
section
variable {P : Program} {w : World} {K : PySem.W.Frag} {mg : Str → Option Value} {base : Heap}
theorem ok_take {f : Addr} {fd : FuncData} {k : Nat} (F : Fun K "_law_take" "_law_take" s_law_take f fd) (m_len : mg "len" = none) (m_int : mg "int" = none) :
    FnOk P w K mg base CX0 (k + 1) f fd ["_law_source_here", "_law_many"] spTake := by
  refine F.ok sc_law_take (fun vs H Q E h => ?_) (fun cdv A outer s H vs Q E hr h => ?_)
  · obtain ⟨a, L, ns, n, rfl, _⟩ := h
    rfl
  · obtain ⟨a, L, ns, n, rfl, ⟨i, p, st, c, hA, hL, h0, h1, h2⟩, n1, n2, q⟩ := h
    have aL : L ≠ a := fun e => by
      rw [e, hA] at hL
      cases ns with
      | nil => cases hL
      | cons x r => cases hL
    refine ⟨_, (C8.pss_cut (ps_if (PW.pt (pw_and (pt_cmpR op_eq (pe_ix ix_list (pv 0) pe_int (fun _ _ => rfl)) pe_int (nomark _)) (pw_and1 (pt_cmpR op_lt (pe_ix ix_list (pv 0) pe_int (fun _ _ => rfl)) (pe_callB call_len_seq (by rfl) m_len (by decide +kernel) (pa_cons (pe_ix ix_list (pv 0) pe_int (fun _ _ => rfl)) pa_nil)) (nomark _)))))
        (pss_cons (ps_set (i := 2) sc_law_take.nd rfl (by first | exact .inl rfl | exact .inr rfl) (pe_ix ix_list (pe_ix ix_list (pv 0) pe_int (fun _ _ => rfl)) (pe_ix ix_list (pv 0) pe_int (fun _ _ => rfl)) (fun _ _ => rfl)))
        (pss_cons (ps_asg (pe_op op_add (pe_ix ix_list (pv 0) pe_int (fun _ _ => rfl)) pe_int) (pg_sub (pv 0) pe_int set_list))
        (pss_one (ps_if (pt_cmpR op_ge (pv 2) (pe_op op_pow pe_int pe_int) (nomark _))
          (pss_one (ps_asg (pv 2) (pg_sub (pv 0) pe_int set_list)))
          (pss_one (ps_asg (pe_op op_mod (pe_callTy call_int1 (by rfl) m_int (by decide +kernel) (pa_cons (pe_op op_add (pe_op op_add (pe_op op_mul (pe_ix ix_list (pv 0) pe_int (fun _ _ => rfl)) pe_int) (pe_op op_mul (pe_op op_mod (pe_callTy call_int1 (by rfl) m_int (by decide +kernel) (pa_cons (pv 2) pa_nil)) pe_int) pe_int)) pe_int) pa_nil)) pe_int) (pg_sub (pv 0) pe_int set_list)))))))
        pss_nil)
      (pss_cons (ps_if (pt_cmpR op_gt (pe_ix ix_list (pv 0) pe_int (fun _ _ => rfl)) pe_int (nomark _))
        (pss_cons (ps_set (i := 3) sc_law_take.nd rfl (by first | exact .inl rfl | exact .inr rfl) (pe_op op_mod (pe_callTy call_int1 (by rfl) m_int (by decide +kernel) (pa_cons (pe_ix ix_list (pv 0) pe_int (fun _ _ => rfl)) pa_nil)) (pv 1)))
        (pss_cons (ps_asg (pe_op op_fdiv (pe_ix ix_list (pv 0) pe_int (fun _ _ => rfl)) (pv 1)) (pg_sub (pv 0) pe_int set_list))
        (pss_one (ps_ret (pv 3)))))
        pss_nil)
      (pss_cons (ps_asg (pe_op op_add (pe_ix ix_list (pv 0) pe_int (fun _ _ => rfl)) pe_int) (pg_sub (pv 0) pe_int set_list))
      (pss_cons (ps_set (i := 4) sc_law_take.nd rfl (by first | exact .inl rfl | exact .inr rfl) (pe_op op_add (pe_op op_mod (pe_callTy call_int1 (by rfl) m_int (by decide +kernel) (pa_cons (pe_op op_mul (pe_ix ix_list (pv 0) pe_int (fun _ _ => rfl)) (pe_ix ix_list (pv 0) pe_int (fun _ _ => rfl))) pa_nil)) pe_int) (pe_op op_mul pe_int (pe_ix ix_list (pv 0) pe_int (fun _ _ => rfl)))))
      (pss_cons (ps_asg (pe_op op_mod (pe_callTy call_int1 (by rfl) m_int (by decide +kernel) (pa_cons (pe_op op_add (pe_op op_add (pe_op op_mul (pv 4) pe_int) (pe_ix ix_list (pv 0) pe_int (fun _ _ => rfl))) pe_int) pa_nil)) pe_int) (pg_sub (pv 0) pe_int set_list))
      (pss_one (ps_ret (pe_op op_mod (pe_callTy call_int1 (by rfl) m_int (by decide +kernel) (pa_cons (pe_op op_add (pe_op op_fdiv (pe_ix ix_list (pv 0) pe_int (fun _ _ => rfl)) pe_int) (pe_op op_mul (pe_op op_mod (pe_callTy call_int1 (by rfl) m_int (by decide +kernel) (pa_cons (pe_ix ix_list (pv 0) pe_int (fun _ _ => rfl)) pa_nil)) pe_int) pe_int)) pa_nil)) (pv 1))))))))), ?_⟩
    refine ⟨fun σ' H' => ∃ (y2 : Option V) (i p st c : Int), σ' = [some (.ref a), some (.int n), y2, none, none] ∧ H' a = some (.lst [.ref L, .int i, .int p, .int st, .int c]) ∧ H' L = some (.lst (ns.map V.int)) ∧ 0 ≤ i ∧ 0 ≤ st ∧ st < 2147483629 ∧ (∀ b, b ≠ a → H' b = H b), ?_, ?_⟩
    · -- the first if
      refine ⟨_, rfl, a, _, _, _, rfl, rfl, SqL.of hA, rfl, rfl, _, rfl, ?_⟩
      refine ite2 (fun c0 => ?_) (fun c0 => ?_)
      · refine ⟨_, rfl, a, _, _, _, rfl, rfl, SqL.of hA, rfl, _, rfl, a, _, _, _, rfl, rfl, SqL.of hA, rfl, L, _, rfl, .inl (SqL.of hL), _, _, rfl, rfl, _, rfl, ?_⟩
        refine ite2 (fun c1 => ?_) (fun c1 => ?_)
        · obtain ⟨v, hv⟩ := at_int h0 (of_decide_eq_true c1)
          refine ⟨_, rfl, a, _, _, _, rfl, rfl, SqL.of hA, rfl, _, rfl, a, _, _, _, rfl, rfl, SqL.of hA, rfl, L, _, _, _, rfl, rfl, SqL.of hL, hv, ?_⟩
          refine ⟨_, rfl, a, _, _, _, rfl, rfl, SqL.of hA, rfl, _, _, rfl, rfl, _, rfl, a, _, _, _, rfl, rfl, hA, rfl, ?_⟩
          have hA2 : (upd H a (.lst [.ref L, .int (i + 1), .int p, .int st, .int c])) a = some (.lst [.ref L, .int (i + 1), .int p, .int st, .int c]) := upd_same
          refine ⟨_, rfl, _, _, rfl, rfl, ⟨by decide, by decide, by decide⟩, _, _, rfl, rfl, _, rfl, ?_⟩
          refine ite2 (fun c2 => ?_) (fun c2 => ?_)
          · refine ⟨_, rfl, _, rfl, a, _, _, _, rfl, rfl, hA2, rfl, ?_⟩
            refine ⟨some (.int v), i + 1, v, st, c, rfl, upd_same, ?_, by omega, h1, h2, fun b nb => ?_⟩
            · rw [upd_ne aL, upd_ne aL]; exact hL
            · rw [upd_ne nb, upd_ne nb]
          · refine ⟨_, rfl, a, _, _, _, rfl, rfl, SqL.of hA2, rfl, _, _, rfl, rfl, .inr ⟨by decide, by decide⟩, _, rfl, .inl ⟨_, rfl, _, _, rfl, rfl, pos1, _, _, rfl, rfl, .inr ⟨by decide, by decide⟩, _, _, rfl, rfl, _, _, rfl, rfl, .inl ⟨_, rfl, _, _, rfl, rfl, pos2, ?_⟩⟩⟩
            refine ⟨_, rfl, a, _, _, _, rfl, rfl, hA2, rfl, ?_⟩
            refine ⟨some (.int v), i + 1, p, _, c, rfl, upd_same, ?_, by omega, ?_, ?_, fun b nb => ?_⟩
            · rw [upd_ne aL, upd_ne aL]; exact hL
            · exact Int.emod_nonneg _ (by decide)
            · exact Int.emod_lt_of_pos _ (by decide)
            · rw [upd_ne nb, upd_ne nb]
        · exact ⟨none, i, p, st, c, rfl, hA, hL, h0, h1, h2, fun b nb => rfl⟩
      · exact iteF ⟨none, i, p, st, c, rfl, hA, hL, h0, h1, h2, fun b nb => rfl⟩
    · rintro σ' H' ⟨y2, i, p, st, c, rfl, hA, hL, h0, h1, h2, off⟩
      refine ⟨_, rfl, a, _, _, _, rfl, rfl, SqL.of hA, rfl, _, _, rfl, rfl, _, rfl, ?_⟩
      refine ite2 (fun c0 => ?_) (fun c0 => ?_)
      · have cp : p > 0 := of_decide_eq_true c0
        refine ⟨_, rfl, a, _, _, _, rfl, rfl, SqL.of hA, rfl, .inl ⟨_, rfl, _, rfl, _, _, rfl, rfl, by omega, ?_⟩⟩
        refine ⟨_, rfl, a, _, _, _, rfl, rfl, SqL.of hA, rfl, _, rfl, _, _, rfl, rfl, ⟨by omega, by omega⟩, _, rfl, a, _, _, _, rfl, rfl, hA, rfl, ?_⟩
        refine ⟨_, rfl, q _ _ (Int.emod_nonneg _ (by omega)) (Int.emod_lt_of_pos _ (by omega)) ⟨i, _, st, c, upd_same, ?_, h0, h1, h2⟩ fun b nb => ?_⟩
        · rw [upd_ne aL]; exact hL
        · rw [upd_ne nb]; exact off b nb
      · refine ⟨_, rfl, a, _, _, _, rfl, rfl, SqL.of hA, rfl, _, _, rfl, rfl, _, rfl, a, _, _, _, rfl, rfl, hA, rfl, ?_⟩
        have hA2 : (upd H' a (.lst [.ref L, .int i, .int p, .int st, .int (c + 1)])) a = some (.lst [.ref L, .int i, .int p, .int st, .int (c + 1)]) := upd_same
        refine ⟨_, rfl, a, _, _, _, rfl, rfl, SqL.of hA2, rfl, _, rfl, a, _, _, _, rfl, rfl, SqL.of hA2, rfl, _, _, rfl, rfl, .inl ⟨by omega, by omega⟩, .inl ⟨_, rfl, _, _, rfl, rfl, pos2, ?_⟩⟩
        refine ⟨_, rfl, a, _, _, _, rfl, rfl, SqL.of hA2, rfl, _, _, rfl, rfl, .inl ⟨by decide, by decide⟩, _, _, rfl, rfl, ?_⟩
        refine ⟨_, rfl, _, _, rfl, rfl, .inr ⟨by decide, by decide⟩, _, rfl, a, _, _, _, rfl, rfl, SqL.of hA2, rfl, _, _, rfl, rfl, _, _, rfl, rfl, .inl ⟨_, rfl, _, _, rfl, rfl, pos2, ?_⟩⟩
        refine ⟨_, rfl, a, _, _, _, rfl, rfl, hA2, rfl, ?_⟩
        have z0 : 0 ≤ zz st c := Int.emod_nonneg _ (by decide)
        have z1 : zz st c < 2147483629 := Int.emod_lt_of_pos _ (by decide)
        have hA3 : (upd (upd H' a (.lst [.ref L, .int i, .int p, .int st, .int (c + 1)])) a (.lst [.ref L, .int i, .int p, .int (zz st c), .int (c + 1)])) a = some (.lst [.ref L, .int i, .int p, .int (zz st c), .int (c + 1)]) := upd_same
        refine ⟨_, rfl, a, _, _, _, rfl, rfl, SqL.of hA3, rfl, _, _, rfl, rfl, ⟨by decide, by decide⟩, ?_⟩
        refine ⟨_, rfl, a, _, _, _, rfl, rfl, SqL.of hA3, rfl, .inl ⟨_, rfl, _, _, rfl, rfl, pos3, _, _, rfl, rfl, .inr ⟨by decide, by decide⟩, _, _, rfl, rfl, .inl ⟨_, rfl, _, rfl, _, _, rfl, rfl, by omega, ?_⟩⟩⟩
        refine q _ _ (Int.emod_nonneg _ (by omega)) (Int.emod_lt_of_pos _ (by omega)) ⟨i, p, zz st c, c + 1, upd_same, ?_, h0, z0, z1⟩ fun b nb => ?_
        · rw [upd_ne aL, upd_ne aL]; exact hL
        · rw [upd_ne nb, upd_ne nb]; exact off b nb
end
end Fv


namespace Fv
open PySem PySem.Spec PyProof.Rows L2
-- top 33  slots: 0:_law_script
abbrev s_law_source : Stmt := topS 33
abbrev N_law_source : List Str := ["_law_script"]
theorem sc_law_source : FnScope N_law_source ["_law_script"] (defScope s_law_source) := ⟨rfl, rfl, rfl, by decide +kernel, rfl, by decide +kernel, by decide +kernel⟩

-- top 35  slots: 0:_law_source_here 1:_law_row
abbrev s_law_pick : Stmt := topS 35
abbrev N_law_pick : List Str := ["_law_source_here", "_law_row"]
theorem sc_law_pick : FnScope N_law_pick ["_law_source_here", "_law_row"] (defScope s_law_pick) := ⟨rfl, rfl, rfl, by decide +kernel, rfl, by decide +kernel, by decide +kernel⟩

-- top 36  slots: 0:_law_source_here 1:_law_row 2:_law_found 3:_law_one
abbrev s_law_mixed : Stmt := topS 36
abbrev N_law_mixed : List Str := ["_law_source_here", "_law_row", "_law_found", "_law_one"]
theorem sc_law_mixed : FnScope N_law_mixed ["_law_source_here", "_law_row"] (defScope s_law_mixed) := ⟨rfl, rfl, rfl, by decide +kernel, rfl, by decide +kernel, by decide +kernel⟩

-- top 43  slots: 0:_law_source_here 1:_law_most 2:_law_every
abbrev s_law_signs : Stmt := topS 43
abbrev N_law_signs : List Str := ["_law_source_here", "_law_most", "_law_every"]
theorem sc_law_signs : FnScope N_law_signs ["_law_source_here", "_law_most"] (defScope s_law_signs) := ⟨rfl, rfl, rfl, by decide +kernel, rfl, by decide +kernel, by decide +kernel⟩

section
variable {P : Program} {w : World} {K : PySem.W.Frag} {mg : Str → Option Value} {base : Heap}
theorem ok_source {f : Addr} {fd : FuncData} {k : Nat} (F : Fun K "_law_source" "_law_source" s_law_source f fd) (m_list : mg "list" = none) :
    FnOk P w K mg base CX0 (k + 1) f fd ["_law_script"] (spSource K) := by
  refine F.ok sc_law_source (fun vs H Q E h => ?_) (fun cdv A outer s H vs Q E hr h => ?_)
  · obtain ⟨a, ns, rfl, _⟩ := h
    rfl
  · obtain ⟨a, ns, rfl, hS, hl, q⟩ := h
    refine ⟨_, (pss_one (ps_ret (pe_lst (pa_cons (pe_callTy call_list_of (by rfl) m_list (by decide +kernel) (pa_cons (pe_slice sl_list (pv 0) po_none (po_some pe_int)) pa_nil)) (pa_cons pe_int (pa_cons pe_int (pa_cons pe_int (pa_cons pe_int pa_nil)))))))), ?_⟩
    refine ⟨_, rfl, _, rfl, a, _, rfl, hS, fun c nc => ?_⟩
    have e1 : cutV (ns.map V.int) none (some 63) = ns.map V.int := by
      rw [cut_take _ (by decide)]
      exact List.take_of_length_le (by rw [List.length_map]; exact hl)
    refine ⟨c, _, rfl, .inl (SqL.of upd_same), fun L nL => ?_⟩
    refine ⟨(by show 5 ≤ sizeLine; decide), fun p np => ?_⟩
    have s1 := same_upd (o := .lst (cutV (ns.map V.int) none (some 63))) nc
    have s2 := same_upd (o := .lst (cutV (ns.map V.int) none (some 63))) nL
    have s3 := same_upd (o := .lst [.ref L, .int 0, .int 0, .int 3818, .int 0]) np
    refine q _ p L (s1.trans (s2.trans s3)) (s1.free (s2.free np)) (s1.free nL) ⟨0, 0, 3818, 0, upd_same, ?_, by decide, by decide, by decide⟩
    refine s3 _ _ ?_
    rw [upd_same, e1]
theorem ok_pick {f : Addr} {fd : FuncData} {k : Nat} (F : Fun K "_law_pick" "_law_pick" s_law_pick f fd) (m_len : mg "len" = none)
    (C_law_take : Own P w K mg base k "_law_take" ["_law_source_here", "_law_many"] spTake) :
    FnOk P w K mg base CX0 (k + 1) f fd ["_law_source_here", "_law_row"] spPick := by
  refine F.ok sc_law_pick (fun vs H Q E h => ?_) (fun cdv A outer s H vs Q E hr h => ?_)
  · obtain ⟨a, L, r, ns, xs, rfl, _⟩ := h
    rfl
  · obtain ⟨a, L, r, ns, xs, rfl, hs, ra, hr', hp, hl, q⟩ := h
    refine ⟨_, (pss_one (ps_ret (pe_ix ix_list (pv 1) (pe_own C_law_take (hr.mono (by omega)) (by rfl) (pa_cons (pv 0) (pa_cons (pe_callB call_len_seq (by rfl) m_len (by decide +kernel) (pa_cons (pv 1) pa_nil)) pa_nil))) (fun _ _ => rfl)))), ?_⟩
    refine ⟨_, rfl, _, rfl, _, rfl, r, _, rfl, .inl (SqL.of hr'), a, L, ns, _, rfl, hs, by omega, by omega, fun H' d d0 d1 hs' off => ?_⟩
    obtain ⟨v, hv, mv⟩ := atI_mem d0 d1
    exact ⟨r, _, _, _, rfl, rfl, SqL.of ((off r ra).trans hr'), hv, q H' v mv hs' off⟩
theorem ok_mixed {f : Addr} {fd : FuncData} {k : Nat} (F : Fun K "_law_mixed" "_law_mixed" s_law_mixed f fd) (m_len : mg "len" = none)
    (C_law_take : Own P w K mg base k "_law_take" ["_law_source_here", "_law_many"] spTake) :
    FnOk P w K mg base CX0 (k + 1) f fd ["_law_source_here", "_law_row"] spMixed := by
  refine F.ok sc_law_mixed (fun vs H Q E h => ?_) (fun cdv A outer s H vs Q E hr h => ?_)
  · obtain ⟨a, L, r, ns, xs, rfl, _⟩ := h
    rfl
  · obtain ⟨a, L, r, ns, xs, rfl, hs, ra, hR, hl, q⟩ := h
    refine ⟨_, (pss_cons (ps_set (i := 2) sc_law_mixed.nd rfl (by first | exact .inl rfl | exact .inr rfl) (pe_lst pa_nil))
      (pss_cons (ps_for PassesOwn.never rfl (pi_list (pv 1)) (pg_name (i := 3) sc_law_mixed.nd rfl (by first | exact .inl rfl | exact .inr rfl))
        (pss_one (ps_expr (pe_bm PySem.F.plainAttrs_list PySem.F.slot_list_insert PySem.F.type_list_insert mt_insert (pv 2) (pa_cons (pe_own C_law_take (hr.mono (by omega)) (by rfl) (pa_cons (pv 0) (pa_cons (pe_op op_add (pe_callB call_len_seq (by rfl) m_len (by decide +kernel) (pa_cons (pv 2) pa_nil)) pe_int) pa_nil))) (pa_cons (pv 3) pa_nil))))))
      (pss_one (ps_ret (pv 2))))), ?_⟩
    refine ⟨Nat.zero_le _, fun p np => ?_⟩
    have ap : a ≠ p := by
      obtain ⟨_, _, _, _, e, _⟩ := hs
      exact ne_of_none e np
    have rp : r ≠ p := ne_of_none hR np
    refine ⟨_, rfl, r, rfl, ⟨_, SqL.of (by rw [upd_ne rp]; exact hR)⟩, for_list (xs := xs) (fun i σ H1 => ∃ (y : Option V) (ys : List V), σ = [some (.ref a), some (.ref r), some (.ref p), y] ∧ ys.Perm (xs.take i) ∧ H1 p = some (.lst ys) ∧ Src H1 a L ns ∧ (∀ b, b ≠ a → b ≠ p → H1 b = H b)) ?_ ?_ ?_ ?_⟩
    · exact ⟨none, [], rfl, .nil, upd_same, hs.off np fun c hc => upd_ne hc, fun b _ hb => upd_ne hb⟩
    · rintro i σ H1 hi ⟨y, ys, rfl, pm, hp, hs1, off⟩
      exact SqL.of ((off r ra rp).trans hR)
    · rintro i x σ H1 hx ⟨y, ys, rfl, pm, hp, hs1, off⟩
      obtain ⟨hi, hxi⟩ := List.getElem?_eq_some_iff.mp hx
      have ly : ys.length = i := by
        rw [pm.length_eq, List.length_take]
        omega
      refine ⟨_, rfl, .inl ⟨rfl, _, SqL.of hp⟩, _, rfl, _, rfl, p, _, rfl, .inl (SqL.of hp), _, _, rfl, rfl, a, L, ns, _, rfl, hs1, by omega, by omega, fun H' d d0 d1 hs' off' => ?_⟩
      have hp' : H' p = some (.lst ys) := (off' p ap.symm).trans hp
      refine ⟨_, rfl, p, _, _, _, rfl, rfl, hp', small1000 (by omega), d0, by omega, ?_⟩
      refine ⟨_, _, rfl, ?_, upd_same, ?_, fun b ba bp => ?_⟩
      · rw [List.take_add_one, hx]
        refine List.Perm.trans ?_ (List.Perm.append_right _ pm)
        show (ys.take d.toNat ++ [x] ++ ys.drop d.toNat).Perm (ys ++ [x])
        refine List.Perm.trans (?_ : List.Perm _ (ys.take d.toNat ++ (ys.drop d.toNat ++ [x]))) ?_
        · rw [List.append_assoc]
          exact List.Perm.append_left _ List.perm_append_comm
        · rw [← List.append_assoc, List.take_append_drop]
      · obtain ⟨i', p', st, c, h1, h2, h3⟩ := hs'
        have Lp : L ≠ p := fun e => by
          obtain ⟨_, _, _, _, _, e2, _⟩ := hs
          rw [e, np] at e2
          cases e2
        exact ⟨i', p', st, c, by rw [upd_ne ap]; exact h1, by rw [upd_ne Lp]; exact h2, h3⟩
      · rw [upd_ne bp, off' b ba]
        exact off b ba bp
    · rintro σ H1 ⟨y, ys, rfl, pm, hp, hs1, off⟩
      rw [List.take_length] at pm
      exact ⟨_, rfl, q H1 p ys pm np hp hs1 off⟩
theorem ok_signs {f : Addr} {fd : FuncData} {k : Nat} (F : Fun K "_law_signs" "_law_signs" s_law_signs f fd) (m_list : mg "list" = none)
    (C_law_take : Own P w K mg base k "_law_take" ["_law_source_here", "_law_many"] spTake)
    (C_law_mixed : Own P w K mg base k "_law_mixed" ["_law_source_here", "_law_row"] spMixed) :
    FnOk P w K mg base CX0 (k + 1) f fd ["_law_source_here", "_law_most"] spSigns := by
  refine F.ok sc_law_signs (fun vs H Q E h => ?_) (fun cdv A outer s H vs Q E hr h => ?_)
  · obtain ⟨a, L, ns, n, rfl, _⟩ := h
    rfl
  · obtain ⟨a, L, ns, n, rfl, hs, n1, n8, q⟩ := h
    refine ⟨_, (pss_cons (ps_set (i := 2) sc_law_signs.nd rfl (by first | exact .inl rfl | exact .inr rfl) (pe_own C_law_mixed (hr.mono (by omega)) (by rfl) (pa_cons (pv 0) (pa_cons (pe_callTy (call_listStr hr.hd) (by rfl) m_list (by decide +kernel) (pa_cons pe_str pa_nil)) pa_nil))))
      (pss_one (ps_ret (pe_slice sl_list (pv 2) po_none (po_some (pe_op op_add pe_int (pe_own C_law_take (hr.mono (by omega)) (by rfl) (pa_cons (pv 0) (pa_cons (pv 1) pa_nil))))))))), ?_⟩
    refine ⟨_, rfl, _, rfl, by decide +kernel, fun r nr => ?_⟩
    have ar : a ≠ r := by
      obtain ⟨_, _, _, _, e, _⟩ := hs
      exact ne_of_none e nr
    refine ⟨a, L, r, ns, _, rfl, hs.off nr fun c hc => upd_ne hc, ar.symm, upd_same, by decide +kernel, fun H1 p ys pm np hp hs1 off1 => ?_⟩
    have s1 := same_upd (o := .lst (signs "abcdefgh")) nr
    have ap : a ≠ p := by
      obtain ⟨_, _, _, _, e, _⟩ := hs
      exact ne_of_none e (s1.free np)
    refine ⟨_, rfl, _, rfl, _, rfl, a, L, ns, n, rfl, hs1, n1, by omega, fun H2 d d0 d1 hs2 off2 => ?_⟩
    have hp2 : H2 p = some (.lst ys) := (off2 p ap.symm).trans hp
    refine ⟨_, _, rfl, rfl, _, rfl, p, ys, rfl, SqL.of hp2, fun z nz => ?_⟩
    have ly : ys.length = 8 := by
      rw [pm.length_eq]
      decide +kernel
    have ez : cutV ys none (some (1 + d)) = ys.take (1 + d).toNat := cut_take ys (by omega)
    have zn : H z = none := by
      have ap1 : H1 z = none := by
        by_cases e : z = a
        · rw [e] at nz
          obtain ⟨_, _, _, _, e', _⟩ := hs2
          rw [e'] at nz
          cases nz
        · rw [← off2 z e]; exact nz
      have ap2 : (upd H r (.lst (signs "abcdefgh"))) z = none := by
        by_cases e : z = a
        · rw [e] at ap1
          obtain ⟨_, _, _, _, e', _⟩ := hs1
          rw [e'] at ap1
          cases ap1
        · by_cases e2 : z = p
          · rw [e2] at ap1
            rw [hp] at ap1
            cases ap1
          · rw [← off1 z e e2]; exact ap1
      exact s1.free ap2
    refine q _ z _ ?_ ?_ ?_ ?_ zn upd_same (hs2.off nz fun c hc => upd_ne hc) ?_
    · rw [ez, List.length_take]; omega
    · rw [ez, List.length_take]; omega
    · intro y hy
      rw [ez] at hy
      exact pm.mem_iff.mp (List.mem_of_mem_take hy)
    · rw [ez]
      refine List.Sublist.nodup (List.take_sublist _ _) ?_
      exact pm.nodup_iff.mpr (by decide +kernel)
    · intro b o hb e
      have ba : b ≠ a := fun z => hb (by rw [z]; exact List.mem_singleton.mpr rfl)
      have bz : b ≠ z := ne_of_none e zn
      rw [upd_ne bz, off2 b ba, off1 b ba (ne_of_none e (s1.free np))]
      exact s1 b o e
end
end Fv


namespace Fv
open PySem PySem.Spec PyProof.Rows L2
-- top 12  slots: 0:value
abbrev s_is_letter : Stmt := topS 12
abbrev N_is_letter : List Str := ["value"]
theorem sc_is_letter : FnScope N_is_letter ["value"] (defScope s_is_letter) := ⟨rfl, rfl, rfl, by decide +kernel, rfl, by decide +kernel, by decide +kernel⟩

-- top 13  slots: 0:value
abbrev s_is_compound : Stmt := topS 13
abbrev N_is_compound : List Str := ["value"]
theorem sc_is_compound : FnScope N_is_compound ["value"] (defScope s_is_compound) := ⟨rfl, rfl, rfl, by decide +kernel, rfl, by decide +kernel, by decide +kernel⟩

-- top 14  slots: 0:value 1:max_depth 2:max_size 3:deepest 4:total 5:part 6:found
abbrev s_measured : Stmt := topS 14
abbrev N_measured : List Str := ["value", "max_depth", "max_size", "deepest", "total", "part", "found"]
theorem sc_measured : FnScope N_measured ["value", "max_depth", "max_size"] (defScope s_measured) := ⟨rfl, rfl, rfl, by decide +kernel, rfl, by decide +kernel, by decide +kernel⟩

-- top 15  slots: 0:value 1:max_depth 2:max_size
abbrev s_is_term : Stmt := topS 15
abbrev N_is_term : List Str := ["value", "max_depth", "max_size"]
theorem sc_is_term : FnScope N_is_term ["value", "max_depth", "max_size"] (defScope s_is_term) := ⟨rfl, rfl, rfl, by decide +kernel, rfl, by decide +kernel, by decide +kernel⟩

section
variable {P : Program} {w : World} {K : PySem.W.Frag} {mg : Str → Option Value} {base : Heap}
theorem at0 {x : V} {xs : List V} : atI (x :: xs) 0 = some x := atI_nat (xs := x :: xs) (rfl : (x :: xs)[0]? = some x)
theorem len_ok {n : Nat} {s : Str} (h : gd n (.str s) = true) : s.length ≤ sizeLine := by
  have q : s.length ≤ 100000 := by
    cases n <;> (simp only [gd, Bool.and_eq_true, decide_eq_true_eq] at h; exact h.2)
  exact Nat.le_trans q (by decide)
theorem ok_is_letter {f : Addr} {fd : FuncData} {k : Nat} (F : Fun K "is_letter" "is_letter" s_is_letter f fd) (m_isinstance : mg "isinstance" = none) (m_str : mg "str" = none) (m_len : mg "len" = none)
    {t : Tok} (g_LETTERS : mg "LETTERS" = some (.str "abcdefgh" t)) :
    FnOk P w K mg base CX0 (k + 1) f fd ["value"] (spIsLetter K) := by
  refine F.ok sc_is_letter (fun vs H Q E h => ?_) (fun cdv A outer s H vs Q E hr h => ?_)
  · obtain ⟨v, d, rfl, _⟩ := h
    rfl
  · obtain ⟨v, d, rfl, hd, hg, q⟩ := h
    refine ⟨_, (pss_one (ps_ret (pe_and (pe_isD (T := "str") (by rfl) m_isinstance (by rfl) m_str (pv 0)) (pe_and (pe_cmpR op_eq (pe_callB call_len_str (by rfl) m_len (by decide +kernel) (pa_cons (pv 0) pa_nil)) pe_int (nomark _)) (pe_one (pe_cmpR op_in_str (pv 0) (pe_glob (v := .str "abcdefgh") (by rfl) g_LETTERS (⟨_, rfl⟩)) (by rfl))))))), ?_⟩
    refine ⟨_, rfl, _, _, d, rfl, by decide, hd, _, rfl, ?_⟩
    cases d with
    | str z =>
      cases hd
      refine iteT ⟨_, rfl, z, rfl, len_ok hg, rfl, _, rfl, ?_⟩
      have e : isLd (.str z) = isL z := rfl
      rw [e] at q
      unfold isL at q
      refine ite2 (fun c => ?_) (fun c => ?_)
      · refine ⟨_, rfl, z, _, rfl, rfl, ?_⟩
        rw [c, Bool.true_and] at q
        exact q
      · rw [Bool.eq_false_iff.mpr c, Bool.false_and] at q
        exact q
    | _ => exact iteF q
theorem ok_is_compound {f : Addr} {fd : FuncData} {k : Nat} (F : Fun K "is_compound" "is_compound" s_is_compound f fd) (m_isinstance : mg "isinstance" = none) (m_tuple : mg "tuple" = none) (m_len : mg "len" = none)
    {oA : Addr} (g_OPERATORS : mg "OPERATORS" = some (.ref oA)) (hO : ∀ H, SqT K H oA [.str "&", .str "|"]) :
    FnOk P w K mg base CX0 (k + 1) f fd ["value"] (spIsCompound K) := by
  refine F.ok sc_is_compound (fun vs H Q E h => ?_) (fun cdv A outer s H vs Q E hr h => ?_)
  · obtain ⟨v, d, rfl, _⟩ := h
    rfl
  · obtain ⟨v, d, rfl, hd, hg, q⟩ := h
    refine ⟨_, (pss_one (ps_ret (pe_and (pe_isD (T := "tuple") (by rfl) m_isinstance (by rfl) m_tuple (pv 0)) (pe_and (pe_cmpR op_ge (pe_callB call_len_seq (by rfl) m_len (by decide +kernel) (pa_cons (pv 0) pa_nil)) pe_int (nomark _)) (pe_one (pe_cmpR (op_inT (hu65 hr)) (pe_ix ix_tup (pv 0) pe_int (fun _ _ => rfl)) (pe_glob (v := .ref oA) (by rfl) g_OPERATORS (rfl)) (by rfl))))))), ?_⟩
    refine ⟨_, rfl, _, _, d, rfl, by decide, hd, _, rfl, ?_⟩
    cases d with
    | tuple ds =>
      cases hd with
      | @tup a xs _ hs ha =>
        refine iteT ⟨_, rfl, a, xs, rfl, .inr hs, _, _, rfl, rfl, _, rfl, ?_⟩
        have hl := dpAll_len ha
        cases ds with
        | nil =>
          rw [hl]
          exact iteF q
        | cons o ds =>
          cases ha with
          | @cons x0 xr _ _ h1 h2 =>
            have hl' := dpAll_len h2
            have e : isCd (.tuple (o :: ds)) = (decide (2 ≤ ds.length) && isOp o) := rfl
            rw [e] at q
            refine ite2 (fun c => ?_) (fun c => ?_)
            · have c' : (3 : Int) ≤ (((x0 :: xr).length : Nat) : Int) := of_decide_eq_true c
              rw [List.length_cons] at c'
              refine ⟨_, rfl, a, _, _, x0, rfl, rfl, hs, at0, o, [.str "&", .str "|"], h1, .tup (hO _) (.cons (.str _) (.cons (.str _) .nil)), gd_shaped (gd_parts hg).1 (by decide), by decide +kernel, ?_⟩
              rw [decide_eq_true (by omega), Bool.true_and] at q
              exact q
            · have c' : ¬ (3 : Int) ≤ (((x0 :: xr).length : Nat) : Int) := of_decide_eq_false (Bool.eq_false_iff.mpr c)
              rw [List.length_cons] at c'
              rw [decide_eq_false (by omega), Bool.false_and] at q
              exact q
    | _ => exact iteF q
theorem ok_measured {f : Addr} {fd : FuncData} {k n : Nat} (F : Fun K "measured" "measured" s_measured f fd) (m_max : mg "max" = none) (hk : 1 ≤ k)
    (C_is_letter : Own P w K mg base 1 "is_letter" ["value"] (spIsLetter K)) (C_is_compound : Own P w K mg base 1 "is_compound" ["value"] (spIsCompound K))
    (C_measured : Own P w K mg base k "measured" ["value", "max_depth", "max_size"] (spMeas K n)) :
    FnOk P w K mg base CX0 (k + 1) f fd ["value", "max_depth", "max_size"] (spMeas K (n + 1)) := by
  refine F.ok sc_measured (fun vs H Q E h => ?_) (fun cdv A outer s H vs Q E hr h => ?_)
  · obtain ⟨v, d, md, ms, rfl, _⟩ := h
    rfl
  · obtain ⟨v, d, md, ms, rfl, hd, hg, m0, m1, q1, q2⟩ := h
    refine ⟨_, (pss_cons (ps_if (PW.pt (pw_or (pt_cmpR op_lt (pv 1) pe_int (nomark _)) (pw_or1 (pt_cmpR op_lt (pv 2) pe_int (nomark _)))))
        (pss_one (ps_ret pe_non))
        pss_nil)
      (pss_cons (ps_if (pt_val (pe_own C_is_letter (hr.mono (by omega)) (by rfl) (pa_cons (pv 0) pa_nil)))
        (pss_one (ps_ret (pe_tup (pa_cons pe_int (pa_cons pe_int pa_nil)))))
        pss_nil)
      (pss_cons (ps_if (pt_not (pt_val (pe_own C_is_compound (hr.mono (by omega)) (by rfl) (pa_cons (pv 0) pa_nil))))
        (pss_one (ps_ret pe_non))
        pss_nil)
      (pss_cons (ps_set (i := 3) sc_measured.nd rfl (by first | exact .inl rfl | exact .inr rfl) pe_int)
      (pss_cons (ps_set (i := 4) sc_measured.nd rfl (by first | exact .inl rfl | exact .inr rfl) pe_int)
      (pss_cons (ps_for PassesOwn.never rfl (pi_tup (pe_slice sl_tup (pv 0) (po_some pe_int) po_none)) (pg_name (i := 5) sc_measured.nd rfl (by first | exact .inl rfl | exact .inr rfl))
        (pss_cons (ps_set (i := 6) sc_measured.nd rfl (by first | exact .inl rfl | exact .inr rfl) (pe_own C_measured (hr.mono (by omega)) (by rfl) (pa_cons (pv 5) (pa_cons (pe_op op_sub (pv 1) pe_int) (pa_cons (pe_op op_sub (pv 2) (pv 4)) pa_nil)))))
        (pss_cons (ps_if (pt_cmpR op_isN (pv 6) pe_non (nomark _))
          (pss_one (ps_ret pe_non))
          pss_nil)
        (pss_cons (ps_set (i := 3) sc_measured.nd rfl (by first | exact .inl rfl | exact .inr rfl) (pe_callB (call_max2 rfl) (by rfl) m_max (by decide +kernel) (pa_cons (pv 3) (pa_cons (pe_ix ix_tup (pv 6) pe_int (fun _ _ => rfl)) pa_nil))))
        (pss_one (ps_set (i := 4) sc_measured.nd rfl (by first | exact .inl rfl | exact .inr rfl) (pe_op op_add (pv 4) (pe_ix ix_tup (pv 6) pe_int (fun _ _ => rfl)))))))))
      (pss_one (ps_ret (pe_tup (pa_cons (pe_op op_add (pv 3) pe_int) (pa_cons (pv 4) pa_nil))))))))))), ?_⟩
    refine ⟨_, rfl, _, _, rfl, rfl, _, rfl, ?_⟩
    have fin0 : ¬ 1 ≤ md ∨ ms < 1 → Q .non H := fun c => by
      refine q1 ?_ H (Same.refl H)
      rcases c with c | c
      · rw [show md.toNat = 0 by omega]; rfl
      · cases md.toNat with
        | zero => rfl
        | succ m => unfold meas; rw [if_pos c]
    refine ite2 (fun c => iteT (fin0 (.inl (by have := of_decide_eq_true c; omega)))) (fun c => ?_)
    have c1 : ¬ md < 1 := of_decide_eq_false (Bool.eq_false_iff.mpr c)
    refine ⟨_, rfl, _, _, rfl, rfl, _, rfl, ?_⟩
    refine ite2 (fun c => fin0 (.inr (of_decide_eq_true c))) (fun c => ?_)
    have c2 : ¬ ms < 1 := of_decide_eq_false (Bool.eq_false_iff.mpr c)
    obtain ⟨m, em⟩ : ∃ m, md.toNat = m + 1 := ⟨md.toNat - 1, by omega⟩
    have em' : (md - 1).toNat = m := by omega
    rw [em] at q1 q2
    unfold meas at q1 q2
    rw [if_neg c2] at q1 q2
    refine ⟨_, rfl, v, d, rfl, hd, hg, _, rfl, ?_⟩
    refine ite2 (fun c => ?_) (fun c => ?_)
    · refine ⟨(by show 2 ≤ sizeLine; decide), fun p np => ?_⟩
      rw [if_pos c] at q2
      exact q2 1 1 rfl _ p (same_upd np) upd_same
    · rw [if_neg c] at q1 q2
      refine ⟨_, rfl, v, d, rfl, hd, hg, _, rfl, ?_⟩
      cases hc : isCd d with
      | false =>
        rw [if_neg (by rw [hc]; decide)] at q1
        exact iteT (q1 rfl H (Same.refl H))
      | true =>
        rw [if_pos hc] at q1 q2
        refine iteF ?_
        cases d with
        | tuple ds =>
          cases ds with
          | nil => cases hc
          | cons o ds =>
            cases hd with
            | @tup a xs _ hs ha =>
              cases ha with
              | @cons x0 xr _ _ h1 h2 =>
                have hl := dpAll_len h2
                have h2l : 2 ≤ ds.length := by
                  have e : isCd (.tuple (o :: ds)) = (decide (2 ≤ ds.length) && isOp o) := rfl
                  rw [e, Bool.and_eq_true] at hc
                  exact of_decide_eq_true hc.1
                have ep : parts (.tuple (o :: ds)) = ds := rfl
                rw [ep] at q1 q2
                have gp := (gd_parts hg).2
                refine ⟨_, rfl, 1, rfl, a, x0 :: xr, rfl, hs, ?_, fun p np => ?_⟩
                · rw [show HT.sIx (x0 :: xr).length 0 (some 1) = min 1 (x0 :: xr).length from HT.sIx_nat _ 0 1, List.length_cons]
                  omega
                have ec : cutV (x0 :: xr) (some 1) none = xr := by rw [cut_drop1]; rfl
                rw [ec]
                have s0 : Same H (upd H p (.tup xr)) := same_upd np
                refine ⟨p, rfl, ⟨_, SqT.of upd_same⟩, for_tup (xs := xr) (fun i σ H1 => ∃ (dp tot : Int) (y5 y6 : Option V), σ = [some (.ref a), some (.int md), some (.int ms), some (.int dp), some (.int tot), y5, y6] ∧
                  Same (upd H p (.tup xr)) H1 ∧ measL (meas m) (ds.drop i) ms dp tot = measL (meas m) ds ms 0 0) ?_ ?_ ?_ ?_⟩
                · exact ⟨0, 0, none, none, rfl, Same.refl _, rfl⟩
                · rintro i σ H1 hi ⟨dp, tot, y5, y6, rfl, sm, e⟩
                  exact SqT.of (sm _ _ upd_same)
                · rintro i x σ H1 hx ⟨dp, tot, y5, y6, rfl, sm, e⟩
                  obtain ⟨d', hd', hD'⟩ := dpAll_get h2 hx
                  have hDs : Dp K H1 x d' := dp_same (s0.trans sm) d' x hD'
                  rw [drop_cons_get hd'] at e
                  refine ⟨_, rfl, _, rfl, _, _, rfl, rfl, _, rfl, _, rfl, _, _, rfl, rfl, x, d', md - 1, ms - tot, rfl, hDs, gd_le (gp d' (List.mem_of_getElem? hd')) (by decide), by omega, by omega, fun en H2 s2 => ?_, fun dp' sz es H2 p2 s2 hp2 => ?_⟩
                  · refine ⟨_, rfl, rfl, _, rfl, iteT ?_⟩
                    refine q1 ?_ H2 (s0.trans (sm.trans s2))
                    rw [em'] at en
                    rw [← e]
                    simp only [measL, en]
                  · refine ⟨_, rfl, rfl, _, rfl, iteF ?_⟩
                    refine ⟨_, rfl, _, rfl, p2, _, _, _, rfl, rfl, SqT.of hp2, rfl, _, _, rfl, ?_⟩
                    refine ⟨_, rfl, _, rfl, p2, _, _, _, rfl, rfl, SqT.of hp2, rfl, _, _, rfl, rfl, ?_⟩
                    refine ⟨_, _, _, _, rfl, sm.trans s2, ?_⟩
                    rw [← e, em'] at *
                    simp only [measL, es]
                · rintro σ H1 ⟨dp, tot, y5, y6, rfl, sm, e⟩
                  refine ⟨_, rfl, _, _, rfl, rfl, _, rfl, (by show 2 ≤ sizeLine; decide), fun p3 np3 => ?_⟩
                  refine q2 (dp + 1) tot ?_ _ p3 (s0.trans (sm.trans (same_upd np3))) upd_same
                  rw [← e, List.drop_eq_nil_of_le (by omega)]
                  rfl
        | _ => cases hc
theorem meas_zero {f : Addr} {fd : FuncData} {k : Nat} : FnOk P w K mg base CX0 k f fd ["value", "max_depth", "max_size"] (spMeas K 0) := by
  have no : ∀ vs H Q E, ¬ spMeas K 0 vs H Q E := fun vs H Q E h => by
    obtain ⟨v, d, md, ms, _, _, _, m0, m1, _⟩ := h
    omega
  exact ⟨fun vs H Q E h => absurd h (no vs H Q E), fun A outer s H args us vs Q E _ _ _ _ h => absurd h (no vs H Q E)⟩
end
end Fv


namespace Fv
open PySem PySem.Spec PyProof.Rows L2
abbrev PsT : List Str := ["value", "max_depth", "max_size"]
abbrev KwT : List (Str × V) := [("max_depth", .int 5), ("max_size", .int 24)]
abbrev FunT (K : PySem.W.Frag) (f : Addr) (fd : FuncData) : Prop := FunD K "is_term" "is_term" (defArgs s_is_term) (defBody s_is_term) (defScope s_is_term) [] KwT f fd
section
variable {P : Program} {w : World} {K : PySem.W.Frag} {mg : Str → Option Value} {base : Heap}
theorem ok_is_term {f : Addr} {fd : FuncData} {k : Nat} (F : FunT K f fd)
    (C_measured : Own P w K mg base k "measured" ["value", "max_depth", "max_size"] (spMeas K 20)) :
    FnOk P w K mg base CX0 (k + 1) f fd PsT (spIsTerm K) := by
  refine F.ok sc_is_term (fun vs H Q E h => ?_) (fun cdv A outer s H vs Q E hr h => ?_)
  · obtain ⟨v, d, md, ms, rfl, _⟩ := h
    rfl
  · obtain ⟨v, d, md, ms, rfl, hd, hg, m0, m1, q⟩ := h
    refine ⟨_, (pss_one (ps_ret (pe_cmpR op_notN (pe_own C_measured (hr.mono (by omega)) (by rfl) (pa_cons (pv 0) (pa_cons (pv 1) (pa_cons (pv 2) pa_nil)))) pe_non (nomark _)))), ?_⟩
    refine ⟨_, rfl, _, rfl, _, rfl, v, d, md, ms, rfl, hd, hg, m0, m1, fun e H' s' => ⟨rfl, ?_⟩, fun dp sz e H' p s' hp => ⟨rfl, ?_⟩⟩
    · have z := q H' s'
      rw [e] at z
      exact z
    · have z := q H' s'
      rw [e] at z
      exact z
theorem binds_T {f : Addr} {fd : FuncData} (F : FunT K f fd) : ∃ ds, Vals [V.int 5, V.int 24] ds ∧ Binds K fd PsT ds :=
  F.binds0 1 (by decide) rfl fun D doc pm an cdv ct us ks h1 h2 => match us, ks, h1, h2 with
    | [u], [k1, k2], _, _ => ⟨_, _, _, _, _, _, rfl, rfl, _, _, _, _, _, _, rfl, rfl, rfl⟩
theorem kbinds_T1 {f : Addr} {fd : FuncData} (F : FunT K f fd) : ∃ mv : List Value, KBn K fd PsT 1 ["max_size", "max_depth"] (fun us ws => us ++ ws.reverse ++ mv) (fun vs zs => vs ++ zs.reverse ++ []) :=
  F.kbinds0 1 ["max_size", "max_depth"] [] (fun us mv ws => us ++ ws.reverse ++ mv) (by decide) (fun q h => nomatch h) (fun a b c => (a.append c.reverse).append b)
    fun D doc pm an cdv ct us mv ws h1 h2 h3 => match us, mv, ws, h1, h2, h3 with
    | [u], [], [w1, w2], _, _, _ => rfl
theorem kbinds_T2 {f : Addr} {fd : FuncData} (F : FunT K f fd) : ∃ mv : List Value, KBn K fd PsT 0 ["value", "max_depth"] (fun us ws => us ++ ws ++ mv) (fun vs zs => vs ++ zs ++ [V.int 24]) :=
  F.kbinds0 0 ["value", "max_depth"] [("max_size", .int 24)] (fun us mv ws => us ++ ws ++ mv) (by decide) (fun q h => List.mem_cons_of_mem _ h) (fun a b c => (a.append c).append b)
    fun D doc pm an cdv ct us mv ws h1 h2 h3 => match us, mv, ws, h1, h2, h3 with
    | [], [m], [w1, w2], _, _, _ => ⟨_, _, _, _, _, _, rfl, rfl, rfl⟩
theorem kbinds_T3 {f : Addr} {fd : FuncData} (F : FunT K f fd) : ∃ mv : List Value, KBn K fd PsT 1 ["max_depth"] (fun us ws => us ++ ws ++ mv) (fun vs zs => vs ++ zs ++ [V.int 24]) :=
  F.kbinds0 1 ["max_depth"] [("max_size", .int 24)] (fun us mv ws => us ++ ws ++ mv) (by decide) (fun q h => List.mem_cons_of_mem _ h) (fun a b c => (a.append c).append b)
    fun D doc pm an cdv ct us mv ws h1 h2 h3 => match us, mv, ws, h1, h2, h3 with
    | [u], [m], [w1], _, _, _ => ⟨_, _, _, _, _, _, rfl, rfl, rfl⟩
end
end Fv


namespace Fv
open PySem PySem.Spec PyProof.Rows L2
-- top 37  slots: 0:_law_found 1:_law_due 2:_law_key 3:_law_one 4:_law_other
abbrev s_law_same : Stmt := topS 37
abbrev N_law_same : List Str := ["_law_found", "_law_due", "_law_key", "_law_one", "_law_other"]
theorem sc_law_same : FnScope N_law_same ["_law_found", "_law_due"] (defScope s_law_same) := ⟨rfl, rfl, rfl, by decide +kernel, rfl, by decide +kernel, by decide +kernel⟩



theorem walk_zipT {K : PySem.W.Frag} {a b : Addr} {xs ys : List V} {n : Nat} (hn : n = min xs.length ys.length) : Walk (RZ.ItzT K a b) n (fun H => SqT K H a xs ∧ SqT K H b ys) (YPair (fun i => xs[i]?) (fun i => ys[i]?)) := by
  subst hn
  refine ⟨fun i _ hi q => ?_, fun _ q => ⟨xs, ys, q.1, q.2, by omega⟩, fun i H v H' _ q y => ?_⟩
  · have h1 : i < xs.length := by omega
    have h2 : i < ys.length := by omega
    exact ⟨xs, ys, xs[i], ys[i], q.1, q.2, by simp [h1], by simp [h2]⟩
  · obtain ⟨T, x, z, h1, h2, h3, h4, h5⟩ := y
    exact ⟨T, x, z, h1, h2, h3, h4 xs q.1, h5 ys q.2⟩
def spSame (K : PySem.W.Frag) (n : Nat) : Sp := fun vs H Q _ => ∃ (v v' : V) (d : PyData) (m : Nat), vs = [v, v'] ∧ Dp K H v d ∧ Dp K H v' d ∧ m < n ∧ gd m d = true ∧ ∀ H', Same H H' → Q (.bl true) H'
theorem in_ints (ns : List Int) : inV (.int 0) (ns.map V.int) = decide ((0 : Int) ∈ ns) := by
  unfold inV
  induction ns with
  | nil => rfl
  | cons n ns ih =>
    rw [List.map_cons, List.any_cons, ih]
    show ((n == 0) || decide ((0 : Int) ∈ ns)) = decide ((0 : Int) ∈ n :: ns)
    by_cases e : n = 0
    · subst e; simp
    · have e1 : (n == 0) = false := beq_eq_false_iff_ne.mpr e
      rw [e1, Bool.false_or]
      simp [List.mem_cons, show ¬ (0 : Int) = n from fun z => e z.symm]
theorem flat_ints (ns : List Int) : (ns.map V.int).all flatV = true := by
  rw [List.all_map]
  exact List.all_eq_true.mpr fun _ _ => rfl
section
variable {P : Program} {w : World} {K : PySem.W.Frag} {mg : Str → Option Value} {base : Heap}
end
end Fv


namespace Fv
open PySem PySem.Spec PyProof.Rows L2
section
variable {P : Program} {w : World} {K : PySem.W.Frag} {mg : Str → Option Value} {base : Heap}
theorem measure_zero {f : Addr} {fd : FuncData} {k : Nat} : FnOk P w K mg base CX0 k f fd ["_law_word", "_law_deep"] (spMeasure K 0) := by
  have no : ∀ vs H Q E, ¬ spMeasure K 0 vs H Q E := fun vs H Q E h => by
    obtain ⟨v, d, md, _, _, _, m0, m1, _⟩ := h
    omega
  exact ⟨fun vs H Q E h => absurd h (no vs H Q E), fun A outer s H args us vs Q E _ _ _ _ h => absurd h (no vs H Q E)⟩
theorem same_zero {f : Addr} {fd : FuncData} {k : Nat} : FnOk P w K mg base CX0 k f fd ["_law_found", "_law_due"] (spSame K 0) := by
  have no : ∀ vs H Q E, ¬ spSame K 0 vs H Q E := fun vs H Q E h => by
    obtain ⟨v, v', d, m, _, _, _, m1, _⟩ := h
    omega
  exact ⟨fun vs H Q E h => absurd h (no vs H Q E), fun A outer s H args us vs Q E _ _ _ _ h => absurd h (no vs H Q E)⟩
theorem ok_same {f : Addr} {fd : FuncData} {k n : Nat} (F : Fun K "_law_same" "_law_same" s_law_same f fd) (m_isinstance : mg "isinstance" = none) (m_bool : mg "bool" = none) (m_int : mg "int" = none) (m_str : mg "str" = none) (m_dict : mg "dict" = none)
    (m_list : mg "list" = none) (m_tuple : mg "tuple" = none) (m_len : mg "len" = none) (m_all : mg "all" = none) (m_zip : mg "zip" = none)
    (C_law_same : Own P w K mg base k "_law_same" ["_law_found", "_law_due"] (spSame K n)) :
    FnOk P w K mg base CX0 (k + 1) f fd ["_law_found", "_law_due"] (spSame K (n + 1)) := by
  refine F.ok sc_law_same (fun vs H Q E h => ?_) (fun cdv A outer s H vs Q E hr h => ?_)
  · obtain ⟨v, v', d, m, rfl, _⟩ := h
    rfl
  · obtain ⟨v, v', d, m, rfl, hd, hd', hm, hg, q⟩ := h
    refine ⟨_, (pss_cons (ps_if (PW.pt (pw_or (pt_cmpR op_isN (pv 1) pe_non (nomark _)) (pw_or1 (pt_cmpR op_isN (pv 0) pe_non (nomark _)))))
        (pss_one (ps_ret (pe_and (pe_cmpR op_isN (pv 1) pe_non (nomark _)) (pe_one (pe_cmpR op_isN (pv 0) pe_non (nomark _))))))
        pss_nil)
      (pss_cons (ps_if (PW.pt (pw_or (pt_val (pe_isD (T := "bool") (by rfl) m_isinstance (by rfl) m_bool (pv 1))) (pw_or1 (pt_val (pe_isD (T := "bool") (by rfl) m_isinstance (by rfl) m_bool (pv 0))))))
        (pss_one (ps_ret (pe_and (pe_isD (T := "bool") (by rfl) m_isinstance (by rfl) m_bool (pv 1)) (pe_and (pe_isD (T := "bool") (by rfl) m_isinstance (by rfl) m_bool (pv 0)) (pe_one (pe_cmpR op_eq (pv 0) (pv 1) (nomark _)))))))
        pss_nil)
      (pss_cons (ps_if (PW.pt (pw_or (pt_val (pe_isD (T := "int") (by rfl) m_isinstance (by rfl) m_int (pv 1))) (pw_or1 (pt_val (pe_isD (T := "str") (by rfl) m_isinstance (by rfl) m_str (pv 1))))))
        (pss_one (ps_ret (pe_and (pe_cmpR op_eq (pe_isD (T := "int") (by rfl) m_isinstance (by rfl) m_int (pv 0)) (pe_isD (T := "int") (by rfl) m_isinstance (by rfl) m_int (pv 1)) (nomark _)) (pe_one (pe_cmpR op_eq (pv 0) (pv 1) (nomark _))))))
        pss_nil)
      (pss_cons (ps_if (pt_val (pe_isD (T := "dict") (by rfl) m_isinstance (by rfl) m_dict (pv 1)))
        pss_never
        pss_nil)
      (pss_cons (ps_if (PW.pt (pw_or (pt_cmpR op_ne (pe_isD (T := "list") (by rfl) m_isinstance (by rfl) m_list (pv 0)) (pe_isD (T := "list") (by rfl) m_isinstance (by rfl) m_list (pv 1)) (nomark _)) (pw_or1 (pt_cmpR op_ne (pe_isD (T := "tuple") (by rfl) m_isinstance (by rfl) m_tuple (pv 0)) (pe_isD (T := "tuple") (by rfl) m_isinstance (by rfl) m_tuple (pv 1)) (nomark _)))))
        (pss_one (ps_ret pe_bl))
        pss_nil)
      (pss_one (ps_ret (pe_and (pe_cmpR op_eq (pe_callB call_len_seq (by rfl) m_len (by decide +kernel) (pa_cons (pv 0) pa_nil)) (pe_callB call_len_seq (by rfl) m_len (by decide +kernel) (pa_cons (pv 1) pa_nil)) (nomark _)) (pe_one (pe_callB (cr_all rfl) (by rfl) m_all (by decide +kernel) (pa_cons (pe_lc (own := [("_law_one", 3), ("_law_other", 4)]) (g := gTup K 2 (gCons (gName 3) (gCons (gName 4) gNil))) (by rfl) sc_law_same.nd (RZ.pi_zipA (by rfl) m_zip (pa_cons (pv 0) (pa_cons (pv 1) pa_nil))) (blkOk_by (own := [("_law_one", 3), ("_law_other", 4)]) (N := N_law_same) (sc := defScope s_law_same) (by decide +kernel)) (fun _ _ _ _ _ => (pg_tup rfl (pgs_cons (pg_name (i := 3) sc_law_same.nd rfl (Or.inl rfl) (hf := Or.inr rfl)) (pgs_cons (pg_name (i := 4) sc_law_same.nd rfl (Or.inl rfl) (hf := Or.inr rfl)) pgs_nil)))) (fun _ _ _ _ _ => pts_nil) (fun _ _ _ _ _ => (pe_own C_law_same (hr.mono (by omega)) (by rfl) (pa_cons (pv 3) (pa_cons (pv 4) pa_nil))))) pa_nil))))))))))), ?_⟩
    have q0 := q H (Same.refl H)
    cases d with
    | none =>
      cases hd
      cases hd'
      exact ⟨_, rfl, rfl, _, rfl, iteT (iteT ⟨_, rfl, rfl, _, rfl, iteT ⟨_, rfl, rfl, q0⟩⟩)⟩
    | bool b =>
      refine ⟨_, rfl, rfl, _, rfl, ?_⟩
      cases hd
      cases hd'
      refine iteF ⟨_, rfl, rfl, _, rfl, iteF ?_⟩
      refine ⟨_, rfl, _, _, _, rfl, by decide, .bl b, _, rfl, iteT (iteT ⟨_, rfl, _, _, _, rfl, by decide, .bl b, _, rfl, iteT ⟨_, rfl, _, _, _, rfl, by decide, .bl b, _, rfl, iteT ⟨_, rfl, _, rfl, rfl, ?_⟩⟩⟩)⟩
      rw [decide_eq_true rfl]
      exact q0
    | int i =>
      refine ⟨_, rfl, rfl, _, rfl, ?_⟩
      cases hd
      cases hd'
      refine iteF ⟨_, rfl, rfl, _, rfl, iteF ?_⟩
      refine ⟨_, rfl, _, _, _, rfl, by decide, .int i, _, rfl, iteF ⟨_, rfl, _, _, _, rfl, by decide, .int i, _, rfl, iteF ?_⟩⟩
      refine ⟨_, rfl, _, _, _, rfl, by decide, .int i, _, rfl, iteT (iteT ⟨_, rfl, _, _, _, rfl, by decide, .int i, _, rfl, _, _, _, rfl, by decide, .int i, rfl, _, rfl, iteT ⟨_, rfl, _, rfl, rfl, ?_⟩⟩)⟩
      rw [decide_eq_true rfl]
      exact q0
    | str x =>
      refine ⟨_, rfl, rfl, _, rfl, ?_⟩
      cases hd
      cases hd'
      refine iteF ⟨_, rfl, rfl, _, rfl, iteF ?_⟩
      refine ⟨_, rfl, _, _, _, rfl, by decide, .str x, _, rfl, iteF ⟨_, rfl, _, _, _, rfl, by decide, .str x, _, rfl, iteF ?_⟩⟩
      refine ⟨_, rfl, _, _, _, rfl, by decide, .str x, _, rfl, iteF ⟨_, rfl, _, _, _, rfl, by decide, .str x, _, rfl, iteT ⟨_, rfl, _, _, _, rfl, by decide, .str x, _, rfl, _, _, _, rfl, by decide, .str x, rfl, _, rfl, iteT ⟨_, rfl, _, rfl, rfl, ?_⟩⟩⟩⟩
      rw [decide_eq_true rfl]
      exact q0
    | dict kvs => cases hd
    | list ds =>
      obtain ⟨a, xs, hs, ha, rfl⟩ : ∃ a xs, SqL K H a xs ∧ DpAll K H xs ds ∧ v = .ref a := by
        cases hd with | lst hs ha => exact ⟨_, _, hs, ha, rfl⟩
      obtain ⟨b, ys, hs', ha', rfl⟩ : ∃ b ys, SqL K H b ys ∧ DpAll K H ys ds ∧ v' = .ref b := by
        cases hd' with | lst hs ha => exact ⟨_, _, hs, ha, rfl⟩
      have D1 : Dp K H (.ref a) (.list ds) := .lst hs ha
      have D2 : Dp K H (.ref b) (.list ds) := .lst hs' ha'
      cases m with
      | zero => cases hg
      | succ m =>
      obtain ⟨lds, gds⟩ := gd_list hg
      have lx := dpAll_len ha
      have ly := dpAll_len ha'
      refine ⟨_, rfl, rfl, _, rfl, iteF ⟨_, rfl, rfl, _, rfl, iteF ?_⟩⟩
      refine ⟨_, rfl, _, _, _, rfl, by decide, D2, _, rfl, iteF ⟨_, rfl, _, _, _, rfl, by decide, D1, _, rfl, iteF ?_⟩⟩
      refine ⟨_, rfl, _, _, _, rfl, by decide, D2, _, rfl, iteF ⟨_, rfl, _, _, _, rfl, by decide, D2, _, rfl, iteF ?_⟩⟩
      refine ⟨_, rfl, _, _, _, rfl, by decide, D2, _, rfl, iteF ?_⟩
      refine ⟨_, rfl, _, _, _, rfl, by decide, D1, _, rfl, _, _, _, rfl, by decide, D2, rfl, _, rfl, iteF ⟨_, rfl, _, _, _, rfl, by decide, D1, _, rfl, _, _, _, rfl, by decide, D2, rfl, _, rfl, iteF ?_⟩⟩
      refine ⟨_, rfl, a, xs, rfl, .inl hs, _, rfl, b, ys, rfl, .inl hs', rfl, _, rfl, ?_⟩
      rw [lx, ly, decide_eq_true rfl]
      refine iteT ⟨_, rfl, _, rfl, a, b, xs, ys, rfl, .inl ⟨hs, hs', fun D nD => ?_⟩⟩
      refine lc_it (walk_zip (xs := xs) (ys := ys) (n := ds.length) (by omega)) (fun i H1 => Same H H1 ∧ H1 D = some (.lst ((List.replicate i true).map V.bl))) ⟨same_upd nD, upd_same⟩ (fun i H1 _ p => ⟨p.1.seq hs, p.1.seq hs'⟩) ?_ ?_
      · rintro i x H1 H2 hi ⟨sm, e⟩ ⟨T, x1, y1, rfl, nT, rfl, e1, e2⟩
        have sT : Same H1 (upd H1 T (.tup [x1, y1])) := same_upd nT
        obtain ⟨d1, g1, h1⟩ := dpAll_get ha e1
        obtain ⟨d2, g2, h2⟩ := dpAll_get ha' e2
        have ed : d2 = d1 := Option.some.inj (g2.symm.trans g1)
        subst ed
        refine ⟨T, [x1, y1], rfl, .inl (.inl upd_same), rfl, x1, [y1], rfl, y1, [], rfl, rfl, rfl, ?_⟩
        dsimp only [tYes]
        rw [if_pos rfl]
        refine ⟨_, rfl, _, rfl, x1, y1, d2, m, rfl, dp_same (sm.trans sT) _ _ h1, dp_same (sm.trans sT) _ _ h2, by omega, gds _ (List.mem_of_getElem? g1), fun H3 s3 => ?_⟩
        have e3 : H3 D = some (.lst ((List.replicate i true).map V.bl)) := s3 _ _ (sT _ _ e)
        refine ⟨_, e3, ?_, fun b' o' eb => ?_, ?_⟩
        · rw [List.length_map, List.length_replicate]
          exact small1000 (by omega)
        · rw [upd_ne (ne_of_none eb nD)]
          exact s3 _ _ (sT _ _ (sm _ _ eb))
        · rw [upd_same, List.replicate_succ']
          simp
      · rintro H1 ⟨sm, e⟩
        refine ⟨D, _, rfl, SqL.of e, ?_⟩
        rw [show (List.replicate ds.length true).all id = true by simp]
        exact q H1 sm
    | tuple ds =>
      obtain ⟨a, xs, hs, ha, rfl⟩ : ∃ a xs, SqT K H a xs ∧ DpAll K H xs ds ∧ v = .ref a := by
        cases hd with | tup hs ha => exact ⟨_, _, hs, ha, rfl⟩
      obtain ⟨b, ys, hs', ha', rfl⟩ : ∃ b ys, SqT K H b ys ∧ DpAll K H ys ds ∧ v' = .ref b := by
        cases hd' with | tup hs ha => exact ⟨_, _, hs, ha, rfl⟩
      have D1 : Dp K H (.ref a) (.tuple ds) := .tup hs ha
      have D2 : Dp K H (.ref b) (.tuple ds) := .tup hs' ha'
      cases m with
      | zero => cases hg
      | succ m =>
      obtain ⟨lds, gds⟩ := gd_tuple hg
      have lx := dpAll_len ha
      have ly := dpAll_len ha'
      refine ⟨_, rfl, rfl, _, rfl, iteF ⟨_, rfl, rfl, _, rfl, iteF ?_⟩⟩
      refine ⟨_, rfl, _, _, _, rfl, by decide, D2, _, rfl, iteF ⟨_, rfl, _, _, _, rfl, by decide, D1, _, rfl, iteF ?_⟩⟩
      refine ⟨_, rfl, _, _, _, rfl, by decide, D2, _, rfl, iteF ⟨_, rfl, _, _, _, rfl, by decide, D2, _, rfl, iteF ?_⟩⟩
      refine ⟨_, rfl, _, _, _, rfl, by decide, D2, _, rfl, iteF ?_⟩
      refine ⟨_, rfl, _, _, _, rfl, by decide, D1, _, rfl, _, _, _, rfl, by decide, D2, rfl, _, rfl, iteF ⟨_, rfl, _, _, _, rfl, by decide, D1, _, rfl, _, _, _, rfl, by decide, D2, rfl, _, rfl, iteF ?_⟩⟩
      refine ⟨_, rfl, a, xs, rfl, .inr hs, _, rfl, b, ys, rfl, .inr hs', rfl, _, rfl, ?_⟩
      rw [lx, ly, decide_eq_true rfl]
      refine iteT ⟨_, rfl, _, rfl, a, b, xs, ys, rfl, .inr ⟨hs, hs', fun D nD => ?_⟩⟩
      refine lc_it (walk_zipT (xs := xs) (ys := ys) (n := ds.length) (by omega)) (fun i H1 => Same H H1 ∧ H1 D = some (.lst ((List.replicate i true).map V.bl))) ⟨same_upd nD, upd_same⟩ (fun i H1 _ p => ⟨same_seqT p.1 hs, same_seqT p.1 hs'⟩) ?_ ?_
      · rintro i x H1 H2 hi ⟨sm, e⟩ ⟨T, x1, y1, rfl, nT, rfl, e1, e2⟩
        have sT : Same H1 (upd H1 T (.tup [x1, y1])) := same_upd nT
        obtain ⟨d1, g1, h1⟩ := dpAll_get ha e1
        obtain ⟨d2, g2, h2⟩ := dpAll_get ha' e2
        have ed : d2 = d1 := Option.some.inj (g2.symm.trans g1)
        subst ed
        refine ⟨T, [x1, y1], rfl, .inl (.inl upd_same), rfl, x1, [y1], rfl, y1, [], rfl, rfl, rfl, ?_⟩
        dsimp only [tYes]
        rw [if_pos rfl]
        refine ⟨_, rfl, _, rfl, x1, y1, d2, m, rfl, dp_same (sm.trans sT) _ _ h1, dp_same (sm.trans sT) _ _ h2, by omega, gds _ (List.mem_of_getElem? g1), fun H3 s3 => ?_⟩
        have e3 : H3 D = some (.lst ((List.replicate i true).map V.bl)) := s3 _ _ (sT _ _ e)
        refine ⟨_, e3, ?_, fun b' o' eb => ?_, ?_⟩
        · rw [List.length_map, List.length_replicate]
          exact small1000 (by omega)
        · rw [upd_ne (ne_of_none eb nD)]
          exact s3 _ _ (sT _ _ (sm _ _ eb))
        · rw [upd_same, List.replicate_succ']
          simp
      · rintro H1 ⟨sm, e⟩
        refine ⟨D, _, rfl, SqL.of e, ?_⟩
        rw [show (List.replicate ds.length true).all id = true by simp]
        exact q H1 sm
end
end Fv


namespace Fv
open PySem PySem.Spec PyProof.Rows L2
-- top 41  slots: 0:_law_source_here 1:_law_signs_here 2:_law_deep 3:_law_room 4:_law_many 5:_law_operator 6:_law_k
abbrev s_law_term : Stmt := topS 41
abbrev N_law_term : List Str := ["_law_source_here", "_law_signs_here", "_law_deep", "_law_room", "_law_many", "_law_operator", "_law_k"]
theorem sc_law_term : FnScope N_law_term ["_law_source_here", "_law_signs_here", "_law_deep", "_law_room"] (defScope s_law_term) := ⟨rfl, rfl, rfl, by decide +kernel, rfl, by decide +kernel, by decide +kernel⟩

-- top 42  slots: 0:_law_source_here 1:_law_signs_here
abbrev s_law_any_term : Stmt := topS 42
abbrev N_law_any_term : List Str := ["_law_source_here", "_law_signs_here"]
theorem sc_law_any_term : FnScope N_law_any_term ["_law_source_here"] (defScope s_law_any_term) := ⟨rfl, rfl, rfl, by decide +kernel, rfl, by decide +kernel, by decide +kernel⟩

section
variable {P : Program} {w : World} {K : PySem.W.Frag} {mg : Str → Option Value} {base : Heap}
theorem term_zero {f : Addr} {fd : FuncData} {k : Nat} : FnOk P w K mg base CX0 k f fd ["_law_source_here", "_law_signs_here", "_law_deep", "_law_room"] (spTerm K 0) := by
  have no : ∀ vs H Q E, ¬ spTerm K 0 vs H Q E := fun vs H Q E h => by
    obtain ⟨a, L, sg, r, ns, deep, m, ys, M, _, _, _, _, _, _, _, _, _, _, _, _, _, d1, d2, _⟩ := h
    omega
  exact ⟨fun vs H Q E h => absurd h (no vs H Q E), fun A outer s H args us vs Q E _ _ _ _ h => absurd h (no vs H Q E)⟩
theorem ok_term {f : Addr} {fd : FuncData} {k n : Nat} (F : Fun K "_law_term" "_law_term" s_law_term f fd) (m_tuple : mg "tuple" = none) (m_range : mg "range" = none) (hk : 2 ≤ k)
    (C_law_take : Own P w K mg base 1 "_law_take" ["_law_source_here", "_law_many"] spTake)
    (C_law_pick : Own P w K mg base 2 "_law_pick" ["_law_source_here", "_law_row"] spPick)
    (C_law_term : Own P w K mg base k "_law_term" ["_law_source_here", "_law_signs_here", "_law_deep", "_law_room"] (spTerm K n)) :
    FnOk P w K mg base CX0 (k + 1) f fd ["_law_source_here", "_law_signs_here", "_law_deep", "_law_room"] (spTerm K (n + 1)) := by
  refine F.ok sc_law_term (fun vs H Q E h => ?_) (fun cdv A outer s H vs Q E hr h => ?_)
  · obtain ⟨a, L, sg, r, ns, deep, m, ys, M, rfl, _⟩ := h
    rfl
  · obtain ⟨a, L, sg, r, ns, deep, m, ys, M, rfl, hs, hsg, y0, y8, hy, hR, sga, sgr, ra, rL, m0, m1, d1, d2, aM, rM, tM, q⟩ := h
    refine ⟨_, (pss_cons (ps_set (i := 4) sc_law_term.nd rfl (by first | exact .inl rfl | exact .inr rfl) (pe_op op_add pe_int (pe_op op_fdiv (pe_own C_law_take (hr.mono (by omega)) (by rfl) (pa_cons (pv 0) (pa_cons pe_int pa_nil))) pe_int)))
      (pss_cons (ps_if (PW.pt (pw_or (pt_cmpR op_lt (pv 2) pe_int (nomark _)) (pw_or (pt_cmpR op_lt (pe_ix ix_list (pv 3) pe_int (fun _ _ => rfl)) (pe_op op_sub (pv 4) pe_int) (nomark _)) (pw_or1 (pt_cmpR op_eq (pe_own C_law_take (hr.mono (by omega)) (by rfl) (pa_cons (pv 0) (pa_cons pe_int pa_nil))) pe_int (nomark _))))))
        (pss_one (ps_ret (pe_own C_law_pick (hr.mono (by omega)) (by rfl) (pa_cons (pv 0) (pa_cons (pv 1) pa_nil)))))
        pss_nil)
      (pss_cons (ps_asg (pe_op op_add (pe_op op_sub (pe_ix ix_list (pv 3) pe_int (fun _ _ => rfl)) (pv 4)) pe_int) (pg_sub (pv 3) pe_int set_list))
      (pss_cons (ps_set (i := 5) sc_law_term.nd rfl (by first | exact .inl rfl | exact .inr rfl) (pe_own C_law_pick (hr.mono (by omega)) (by rfl) (pa_cons (pv 0) (pa_cons (pe_lst (pa_cons pe_str (pa_cons pe_str pa_nil))) pa_nil))))
      (pss_one (ps_ret (pe_callTy call_tuple_of (by rfl) m_tuple (by decide +kernel) (pa_cons (pe_op op_cat (pe_lst (pa_cons (pv 5) pa_nil)) (pe_lc (own := [("_law_k", 6)]) (g := gName 6) (by rfl) sc_law_term.nd (pi_range1 (by rfl) m_range (pa_cons (pv 4) pa_nil)) (blkOk_by (own := [("_law_k", 6)]) (N := N_law_term) (sc := defScope s_law_term) (by decide +kernel)) (fun _ _ _ _ _ => pg_name (i := 6) sc_law_term.nd rfl (Or.inl rfl)) (fun _ _ _ _ _ => pts_nil) (fun _ _ _ _ _ => (pe_own C_law_term (hr.mono (by omega)) (by rfl) (pa_cons (pv 0) (pa_cons (pv 1) (pa_cons (pe_op op_sub (pv 2) pe_int) (pa_cons (pv 3) pa_nil)))))))) pa_nil)))))))), ?_⟩
    have fin : ∀ Hx, Src Hx a L ns → (∀ b, b ≠ a → Hx b = H b) → spPick [.ref a, .ref sg] Hx Q E0 := fun Hx hsx offx => by
      refine ⟨a, L, sg, ns, ys, rfl, hsx, sga, (offx sg sga).trans hsg, y0, by omega, fun H' v mv hs' off' => ?_⟩
      obtain ⟨x, rfl, hx⟩ := lett_data (hy v mv)
      obtain ⟨l1, l2⟩ := isL_lett hx
      refine q H' _ (.str x) m (.str x) ?_ m0 (Int.le_refl _) (gd_le l2 (Nat.zero_le _)) hs' (((off' r ra).trans (offx r ra)).trans hR) fun b o hb e => ?_
      · obtain ⟨j, ej⟩ : ∃ j, deep.toNat = j + 1 := ⟨deep.toNat - 1, by omega⟩
        rw [ej]
        show (if isL x = true then (1 : Int) else _) = _
        rw [if_pos l1]
        omega
      · have ba : b ≠ a := fun z => hb (by rw [z]; exact List.mem_cons_self ..)
        rw [off' b ba, offx b ba]
        exact e
    refine ⟨_, rfl, a, L, ns, 5, rfl, hs, by decide, by decide, fun H1 t t0 t1 hs1 off1 => ⟨_, _, rfl, rfl, ⟨by decide, by decide⟩, _, _, rfl, rfl, ?_⟩⟩
    have hR1 : H1 r = some (.lst [.int m]) := (off1 r ra).trans hR
    refine ⟨_, rfl, _, _, rfl, rfl, _, rfl, ?_⟩
    refine ite2 (fun c => iteT ⟨_, rfl, _, rfl, fin H1 hs1 off1⟩) (fun c => ?_)
    have cd : ¬ deep < 2 := of_decide_eq_false (Bool.eq_false_iff.mpr c)
    refine ⟨_, rfl, r, _, _, _, rfl, rfl, SqL.of hR1, rfl, _, rfl, _, _, rfl, rfl, _, _, rfl, rfl, _, rfl, ?_⟩
    refine ite2 (fun c => iteT ⟨_, rfl, _, rfl, fin H1 hs1 off1⟩) (fun c => ?_)
    have cm : ¬ m < 2 + t / 2 - 1 := of_decide_eq_false (Bool.eq_false_iff.mpr c)
    refine ⟨_, rfl, a, L, ns, 4, rfl, hs1, by decide, by decide, fun H2 t2 _ _ hs2 off2 => ⟨rfl, _, rfl, ?_⟩⟩
    have off12 : ∀ b, b ≠ a → H2 b = H b := fun b hb => (off2 b hb).trans (off1 b hb)
    refine ite2 (fun c => ⟨_, rfl, _, rfl, fin H2 hs2 off12⟩) (fun _ => ?_)
    have hR2 : H2 r = some (.lst [.int m]) := (off12 r ra).trans hR
    -- room[0] = room[0] - many + 1
    refine ⟨_, rfl, r, _, _, _, rfl, rfl, SqL.of hR2, rfl, _, rfl, _, _, rfl, rfl, _, _, rfl, rfl, _, rfl, r, _, _, _, rfl, rfl, hR2, rfl, ?_⟩
    have hs3 : Src (upd H2 r (.lst [.int (m - (2 + t / 2) + 1)])) a L ns := hs2.put ra rL
    have tM2 : Trk M (upd H2 r (.lst [.int (m - (2 + t / 2) + 1)])) := fun b hb => by
      by_cases br : b = r
      · rw [br]; exact ⟨_, upd_same⟩
      · rw [upd_ne br]
        by_cases ba : b = a
        · rw [ba]
          obtain ⟨_, _, _, _, e, _⟩ := hs2
          exact ⟨_, e⟩
        · rw [off12 b ba]; exact tM b hb
    -- operator
    refine ⟨_, rfl, (by show 2 ≤ sizeLine; decide), fun l nl => ?_⟩
    have sl := same_upd (o := .lst [.str "&", .str "|"]) nl
    have la : l ≠ a := (hs3.ne nl).symm
    refine ⟨a, L, l, ns, _, rfl, hs3.same sl, la, upd_same, by decide, by decide, fun H4 op mop hs4 off4 => ?_⟩
    obtain ⟨os, rfl, ho, go⟩ : ∃ os : Str, op = .str os ∧ isOp (.str os) = true ∧ gd 0 (.str os) = true := by
      rcases List.mem_cons.mp mop with e | e
      · exact ⟨_, e, isOp_str.1, by decide +kernel⟩
      · exact ⟨_, List.mem_singleton.mp e, isOp_str.2, by decide +kernel⟩
    -- what stands at H4
    have rl : r ≠ l := ne_of_none (H := upd H2 r (.lst [.int (m - (2 + t / 2) + 1)])) upd_same nl
    have hR4 : H4 r = some (.lst [.int (m - (2 + t / 2) + 1)]) := (off4 r ra).trans ((upd_ne rl).trans upd_same)
    have sm4 : SmX [a, r] H H4 := fun b o hb e => by
      have ba : b ≠ a := fun z => hb (by rw [z]; exact List.mem_cons_self ..)
      have br : b ≠ r := fun z => hb (by rw [z]; exact List.mem_cons_of_mem _ (List.mem_singleton.mpr rfl))
      rw [off4 b ba]
      exact sl b o ((upd_ne br).trans ((off12 b ba).trans e))
    have tM4 : Trk M H4 := fun b hb => by
      by_cases ba : b = a
      · rw [ba]
        obtain ⟨_, _, _, _, e, _⟩ := hs4
        exact ⟨_, e⟩
      · rw [off4 b ba]; exact (tM2.same sl) b hb
    have hsg4 : H4 sg = some (.lst ys) := sm4 _ _ (fun z => by
      rcases List.mem_cons.mp z with z | z
      · exact sga z
      · exact sgr (List.mem_singleton.mp z)) hsg
    -- [operator] + [..]
    refine ⟨_, rfl, (by show 1 ≤ sizeLine; decide), fun o1 no1 => ?_⟩
    have so := same_upd (o := .lst [.str os]) no1
    refine ⟨_, rfl, (2 + t / 2), rfl, by omega, by omega, fun D nD => ?_⟩
    have tMo : Trk M (upd H4 o1 (.lst [.str os])) := tM4.same so
    have DM : D ∉ M := tMo.ne nD
    have Da : D ≠ a := fun e => DM (e ▸ aM)
    have Dr : D ≠ r := fun e => DM (e ▸ rM)
    have sD := same_upd (o := .lst []) nD
    refine lc_range (lo := 0) (n := (2 + t / 2).toNat) (fun i Hi => ∃ (mi : Int) (acc : List V) (ds : List PyData), Src Hi a L ns ∧ Hi r = some (.lst [.int mi]) ∧ Hi D = some (.lst acc) ∧ acc.length = i ∧ DpAll K (hide (D :: M) Hi) acc ds ∧
      (∀ d ∈ ds, 1 ≤ lmeas (deep.toNat - 1) d ∧ gd (deep.toNat - 1) d = true) ∧ (ds.map (lmeas (deep.toNat - 1))).sum = (m - (2 + t / 2) + 1) - mi + i ∧ 0 ≤ mi ∧ mi ≤ m - (2 + t / 2) + 1 ∧ SmX [a, r] (upd H4 o1 (.lst [.str os])) Hi) ?_ ?_ ?_
    · refine ⟨_, [], [], (hs4.same so).same sD, sD _ _ (so _ _ hR4), upd_same, rfl, .nil, (fun d h => nomatch h), ?_, by omega, Int.le_refl _, .of_same sD⟩
      simp
    · rintro i Hi hi ⟨mi, acc, ds, hsi, hri, hDi, li, hda, hds, hsum, mi0, mi1, smi⟩
      refine ⟨rfl, ?_⟩
      dsimp only [tYes]
      rw [if_pos rfl]
      have tMi : Trk M Hi := tMo.smx smi fun b hb => by
        rcases List.mem_cons.mp hb with z | z
        · rw [z]
          obtain ⟨_, _, _, _, e, _⟩ := hsi
          exact ⟨_, e⟩
        · rw [List.mem_singleton.mp z]; exact ⟨_, hri⟩
      have hsgi : Hi sg = some (.lst ys) := smi _ _ (fun z => by
        rcases List.mem_cons.mp z with z | z
        · exact sga z
        · exact sgr (List.mem_singleton.mp z)) (so _ _ hsg4)
      refine ⟨_, rfl, _, rfl, _, rfl, _, _, rfl, rfl, _, rfl, a, L, sg, r, ns, deep - 1, mi, ys, D :: M, rfl, hsi, hsgi, y0, y8, hy, hri, sga, sgr, ra, rL, mi0, by omega, by omega, by omega, List.mem_cons_of_mem _ aM, List.mem_cons_of_mem _ rM, fun b hb => ?_, fun H5 v d m5 hd5 hl5 m50 m51 hg5 hs5 hr5 sm5 => ?_⟩
      · rcases List.mem_cons.mp hb with z | z
        · rw [z]; exact ⟨_, hDi⟩
        · exact tMi b z
      · have hD5 : H5 D = some (.lst acc) := sm5 _ _ (fun z => by
          rcases List.mem_cons.mp z with z | z
          · exact Da z
          · exact Dr (List.mem_singleton.mp z)) hDi
        have ed : (deep - 1).toNat = deep.toNat - 1 := by omega
        rw [ed] at hl5 hg5
        have hid : Same (hide (D :: M) Hi) (hide (D :: M) (upd H5 D (.lst (acc ++ [v])))) := (SmX.put (sm5.sub (M' := D :: M) fun b hb => by
          rcases List.mem_cons.mp hb with z | z
          · rw [z]; exact .inl (List.mem_cons_of_mem _ aM)
          · rw [List.mem_singleton.mp z]; exact .inl (List.mem_cons_of_mem _ rM)) (List.mem_cons_self ..)).hid
        have hid5 : Same (hide (D :: M) H5) (hide (D :: M) (upd H5 D (.lst (acc ++ [v])))) := (SmX.put (SmX.refl _ _) (List.mem_cons_self ..)).hid
        have Lr : r ≠ L := rL
        refine ⟨acc, hD5, ?_, m5, acc ++ [v], ds ++ [d], ?_, ?_, upd_same, ?_, ?_, ?_, ?_, m50, by omega, ?_⟩
        · exact small1000 (by omega)
        · refine hs5.put Da fun e => ?_
          obtain ⟨_, _, _, _, _, e2, _⟩ := hs
          have eL : (upd H4 o1 (.lst [.str os])) L = none := e ▸ nD
          obtain ⟨_, _, _, _, _, e3, _⟩ := hs4.same so
          rw [eL] at e3
          cases e3
        · rw [upd_ne Dr.symm]; exact hr5
        · rw [List.length_append, li]; rfl
        · exact dpAll_app (dpAll_same hid _ _ hda) (.cons (dp_same hid5 _ _ hd5) .nil)
        · intro d' hd'
          rcases List.mem_append.mp hd' with z | z
          · exact hds d' z
          · rw [List.mem_singleton.mp z]
            exact ⟨by omega, hg5⟩
        · rw [List.map_append, List.sum_append, hsum]
          simp only [List.map_cons, List.map_nil, List.sum_cons, List.sum_nil]
          omega
        · intro b o hb e
          rw [upd_ne (ne_of_none e nD)]
          exact sm5 b o hb (smi b o hb e)
    · rintro Hi ⟨mi, acc, ds, hsi, hri, hDi, li, hda, hds, hsum, mi0, mi1, smi⟩
      have o1a : o1 ≠ a := fun e => by
        obtain ⟨_, _, _, _, e', _⟩ := hs4
        rw [e, e'] at no1
        cases no1
      have o1r : o1 ≠ r := fun e => by
        rw [e, hR4] at no1
        cases no1
      have ho1 : Hi o1 = some (.lst [.str os]) := smi _ _ (fun z => by
        rcases List.mem_cons.mp z with z | z
        · exact o1a z
        · exact o1r (List.mem_singleton.mp z)) upd_same
      have tMi : Trk M Hi := tMo.smx smi fun b hb => by
        rcases List.mem_cons.mp hb with z | z
        · rw [z]
          obtain ⟨_, _, _, _, e, _⟩ := hsi
          exact ⟨_, e⟩
        · rw [List.mem_singleton.mp z]; exact ⟨_, hri⟩
      refine ⟨o1, D, _, _, rfl, rfl, ho1, hDi, ?_, fun cc ncc => ?_⟩
      · rw [li]
        exact le1000 (by show 1 + _ ≤ 1000; omega)
      have sc := same_upd (o := .lst ([.str os] ++ acc)) ncc
      refine ⟨cc, _, rfl, .inl ⟨SqL.of upd_same, fun p np => ?_⟩⟩
      have sp := same_upd (o := .tup ([.str os] ++ acc)) np
      have tMc : Trk M (upd Hi cc (.lst ([.str os] ++ acc))) := tMi.same sc
      have lds := dpAll_len hda
      obtain ⟨j, ej⟩ : ∃ j, deep.toNat = j + 1 := ⟨deep.toNat - 1, by omega⟩
      have ej1 : deep.toNat - 1 = j := by omega
      rw [ej1] at hds hsum
      have hidA : Same (hide (D :: M) Hi) (hide M (upd (upd Hi cc (.lst ([.str os] ++ acc))) p (.tup ([.str os] ++ acc)))) :=
        (hide_sub fun b hb => List.mem_cons_of_mem _ hb).trans (SmX.of_same (sc.trans sp)).hid
      refine q _ (.ref p) (.tuple (.str os :: ds)) mi (.tup (SqT.of (hid_at tMc np)) (.cons (.str os) (dpAll_same hidA _ _ hda))) ?_ mi0 (by omega) ?_ ((hsi.same sc).same sp) (sp _ _ (sc _ _ hri)) (sm4.trans ((SmX.of_same so).trans (smi.trans (.of_same (sc.trans sp)))))
      · rw [ej]
        refine lmeas_tup ho (by omega) (fun d hd => (hds d hd).1) ?_
        rw [hsum]
        omega
      · rw [ej]
        refine gd_tup (fun d hd => ?_) (by rw [List.length_cons]; omega)
        rcases List.mem_cons.mp hd with z | z
        · rw [z]; exact gd_le go (Nat.zero_le _)
        · exact (hds d z).2
end
end Fv


namespace Fv
open PySem PySem.Spec PyProof.Rows L2
-- top 46  slots: 0:_law_many 1:_law_word 2:_law_k
abbrev s_law_nest : Stmt := topS 46
abbrev N_law_nest : List Str := ["_law_many", "_law_word", "_law_k"]
theorem sc_law_nest : FnScope N_law_nest ["_law_many"] (defScope s_law_nest) := ⟨rfl, rfl, rfl, by decide +kernel, rfl, by decide +kernel, by decide +kernel⟩

-- top 45  slots: 0:_law_source_here 1:_law_word 2:_law_some
abbrev s_law_odd : Stmt := topS 45
abbrev N_law_odd : List Str := ["_law_source_here", "_law_word", "_law_some"]
theorem sc_law_odd : FnScope N_law_odd ["_law_source_here", "_law_word"] (defScope s_law_odd) := ⟨rfl, rfl, rfl, by decide +kernel, rfl, by decide +kernel, by decide +kernel⟩

theorem pos22 : (0 : Int) < 2 := by decide
section
variable {P : Program} {w : World} {K : PySem.W.Frag} {mg : Str → Option Value} {base : Heap}
theorem ok_any_term {f : Addr} {fd : FuncData} {k : Nat} (F : Fun K "_law_any_term" "_law_any_term" s_law_any_term f fd) (hk : 3 ≤ k)
    (C_law_take : Own P w K mg base 1 "_law_take" ["_law_source_here", "_law_many"] spTake)
    (C_law_pick : Own P w K mg base 2 "_law_pick" ["_law_source_here", "_law_row"] spPick)
    (C_law_signs : Own P w K mg base 3 "_law_signs" ["_law_source_here", "_law_most"] spSigns)
    (C_law_term : Own P w K mg base k "_law_term" ["_law_source_here", "_law_signs_here", "_law_deep", "_law_room"] (spTerm K 5)) :
    FnOk P w K mg base CX0 (k + 1) f fd ["_law_source_here"] (spAnyTerm K) := by
  refine F.ok sc_law_any_term (fun vs H Q E h => ?_) (fun cdv A outer s H vs Q E hr h => ?_)
  · obtain ⟨a, L, ns, M, rfl, _⟩ := h
    rfl
  · obtain ⟨a, L, ns, M, rfl, hs, aM, tM, q⟩ := h
    refine ⟨_, (pss_cons (ps_set (i := 1) sc_law_any_term.nd rfl (by first | exact .inl rfl | exact .inr rfl) (pe_own C_law_signs (hr.mono (by omega)) (by rfl) (pa_cons (pv 0) (pa_cons pe_int pa_nil))))
      (pss_one (ps_ret (pe_own C_law_term (hr.mono (by omega)) (by rfl) (pa_cons (pv 0) (pa_cons (pv 1) (pa_cons (pe_op op_add pe_int (pe_own C_law_take (hr.mono (by omega)) (by rfl) (pa_cons (pv 0) (pa_cons pe_int pa_nil)))) (pa_cons (pe_lst (pa_cons (pe_own C_law_pick (hr.mono (by omega)) (by rfl) (pa_cons (pv 0) (pa_cons (pe_lst (pa_cons pe_int (pa_cons pe_int (pa_cons pe_int pa_nil)))) pa_nil))) pa_nil)) pa_nil)))))))), ?_⟩
    refine ⟨_, rfl, a, L, ns, 8, rfl, hs, by decide, by decide, fun H1 sg ys y0 y8 hy _ nsg hsg hs1 sm1 => ?_⟩
    have sga : sg ≠ a := (hs.ne nsg).symm
    refine ⟨_, rfl, _, rfl, _, rfl, a, L, ns, 5, rfl, hs1, by decide, by decide, fun H2 t t0 t1 hs2 off2 => ⟨_, _, rfl, rfl, ?_⟩⟩
    refine ⟨_, rfl, (by show 3 ≤ sizeLine; decide), fun l nl => ?_⟩
    have sl := same_upd (o := .lst [.int 2, .int 7, .int 23]) nl
    refine ⟨a, L, l, ns, _, rfl, hs2.same sl, (hs2.ne nl).symm, upd_same, by decide, by decide, fun H3 v mv hs3 off3 => ?_⟩
    obtain ⟨m, rfl, m0, m23⟩ : ∃ m : Int, v = .int m ∧ 0 ≤ m ∧ m ≤ 23 := by
      simp only [List.mem_cons, List.not_mem_nil, or_false] at mv
      rcases mv with e | e | e
      · exact ⟨2, e, by decide, by decide⟩
      · exact ⟨7, e, by decide, by decide⟩
      · exact ⟨23, e, by decide, by decide⟩
    refine ⟨(by show 1 ≤ sizeLine; decide), fun r nr => ?_⟩
    have sr := same_upd (o := .lst [.int m]) nr
    have smA : SmX [a] H H3 := sm1.trans ((SmX.at off2 (List.mem_singleton.mpr rfl)).trans ((SmX.of_same sl).trans (SmX.at off3 (List.mem_singleton.mpr rfl))))
    have tM3 : Trk M H3 := tM.smx smA hs3.trk
    have hsg3 : H3 sg = some (.lst ys) := (off3 sg sga).trans (sl _ _ ((off2 sg sga).trans hsg))
    have rL : r ≠ L := fun e => by
      obtain ⟨_, _, _, _, _, e2, _⟩ := hs3
      rw [← e, nr] at e2
      cases e2
    have rn : H r = none := by
      by_cases e : r = a
      · exact absurd e (hs3.ne nr).symm
      · cases eh : H r with
        | none => rfl
        | some o =>
          have := smA r o (fun z => e (List.mem_singleton.mp z)) eh
          rw [nr] at this
          cases this
    refine ⟨a, L, sg, r, ns, 1 + t, m, ys, r :: M, rfl, hs3.same sr, sr _ _ hsg3, y0, by omega, hy, upd_same, sga, ne_of_none hsg3 nr, (hs3.ne nr).symm, rL, m0, by omega, by omega, by omega, List.mem_cons_of_mem _ aM, List.mem_cons_self .., fun b hb => ?_, fun H5 v5 d m5 hd hl m50 m51 hg hs5 hr5 sm5 => ?_⟩
    · rcases List.mem_cons.mp hb with z | z
      · rw [z]; exact ⟨_, upd_same⟩
      · exact (tM3.same sr) b z
    · refine q H5 v5 d (1 + t).toNat (dp_same (hide_sub fun b hb => List.mem_cons_of_mem _ hb) d v5 hd) (by omega) (by omega) (by omega) (by omega) hg hs5 ?_
      intro b o hb e
      have br : b ≠ r := ne_of_none e rn
      refine sm5 b o (fun z => ?_) (sr _ _ (smA b o hb e))
      rcases List.mem_cons.mp z with z | z
      · exact hb (by rw [z]; exact List.mem_singleton.mpr rfl)
      · exact br (List.mem_singleton.mp z)
theorem ok_nest {f : Addr} {fd : FuncData} {k : Nat} (F : Fun K "_law_nest" "_law_nest" s_law_nest f fd) (m_range : mg "range" = none) (m_int : mg "int" = none) :
    FnOk P w K mg base CX0 (k + 1) f fd ["_law_many"] (spNest K) := by
  refine F.ok sc_law_nest (fun vs H Q E h => ?_) (fun cdv A outer s H vs Q E hr h => ?_)
  · obtain ⟨n, M, rfl, _⟩ := h
    rfl
  · obtain ⟨n, M, rfl, hn, tM, q⟩ := h
    refine ⟨_, (pss_cons (ps_set (i := 1) sc_law_nest.nd rfl (by first | exact .inl rfl | exact .inr rfl) pe_str)
      (pss_cons (ps_for PassesOwn.never rfl (pi_range1 (by rfl) m_range (pa_cons (pv 0) pa_nil)) (pg_name (i := 2) sc_law_nest.nd rfl (by first | exact .inl rfl | exact .inr rfl))
        (pss_one (ps_set (i := 1) sc_law_nest.nd rfl (by first | exact .inl rfl | exact .inr rfl) (pe_tup (pa_cons (pe_ix ix_list (pe_lst (pa_cons pe_str (pa_cons pe_str pa_nil))) (pe_op op_mod (pe_callTy call_int1 (by rfl) m_int (by decide +kernel) (pa_cons (pv 2) pa_nil)) pe_int) (fun _ _ => rfl)) (pa_cons (pv 1) (pa_cons pe_str pa_nil)))))))
      (pss_one (ps_ret (pv 1))))), ?_⟩
    refine ⟨_, rfl, (n : Int), rfl, by omega, by omega, for_range (lo := 0) (n := (n : Int).toNat) (fun i σ Hi => ∃ (v : V) (y : Option V), σ = [some (.int (n : Nat)), some v, y] ∧ Dp K (hide M Hi) v (nestD i) ∧ Same H Hi) ?_ ?_ ?_⟩
    · exact ⟨_, none, rfl, .str _, Same.refl _⟩
    · rintro i σ Hi hi ⟨v, y, rfl, hd, sm⟩
      refine ⟨(by show 2 ≤ sizeLine; decide), fun l nl => ?_⟩
      have sl := same_upd (o := .lst [.str "&", .str "|"]) nl
      refine ⟨_, rfl, .inl ⟨_, rfl, _, _, rfl, rfl, pos22, ?_⟩⟩
      have hx : atI [V.str "&", V.str "|"] ((0 + (i : Int)) % 2) = some (.str (if i % 2 = 0 then "&" else "|")) := by
        rcases Nat.mod_two_eq_zero_or_one i with e | e
        · rw [show (0 + (i : Int)) % 2 = 0 by omega, if_pos e]; rfl
        · rw [show (0 + (i : Int)) % 2 = 1 by omega, if_neg (by omega)]; rfl
      refine ⟨l, _, _, _, rfl, rfl, SqL.of upd_same, hx, _, rfl, (by show 3 ≤ sizeLine; decide), fun p np => ?_⟩
      have sp := same_upd (o := .tup [.str (if i % 2 = 0 then "&" else "|"), v, .str "b"]) np
      refine ⟨_, _, rfl, ?_, sm.trans (sl.trans sp)⟩
      have tMi : Trk M (upd Hi l (.lst [.str "&", .str "|"])) := (tM.same sm).same sl
      exact .tup (SqT.of (hid_at tMi np)) (.cons (.str _) (.cons (dp_same (SmX.of_same (sl.trans sp)).hid _ _ hd) (.cons (.str _) .nil)))
    · rintro σ Hi ⟨v, y, rfl, hd, sm⟩
      rw [Int.toNat_natCast] at hd
      exact ⟨_, rfl, q Hi v hd sm⟩
end
end Fv


namespace Fv
open PySem PySem.Spec PyProof.Rows L2
theorem all_nil {P : V → Prop} : ∀ y ∈ ([] : List V), P y := fun y h => nomatch h
theorem all_cons {P : V → Prop} {x : V} {xs : List V} (h : P x) (t : ∀ y ∈ xs, P y) : ∀ y ∈ x :: xs, P y := fun y hy => by
  rcases List.mem_cons.mp hy with e | e
  · rw [e]; exact h
  · exact t y e
theorem all_app {P : V → Prop} {xs ys : List V} (h : ∀ y ∈ xs, P y) (t : ∀ y ∈ ys, P y) : ∀ y ∈ xs ++ ys, P y := fun y hy => by
  rcases List.mem_append.mp hy with e | e
  · exact h y e
  · exact t y e
section
variable {P : Program} {w : World} {K : PySem.W.Frag} {mg : Str → Option Value} {base : Heap}
theorem ok_odd {f : Addr} {fd : FuncData} {k : Nat} (F : Fun K "_law_odd" "_law_odd" s_law_odd f fd) (hk : 2 ≤ k)
    (C_law_pick : Own P w K mg base 2 "_law_pick" ["_law_source_here", "_law_row"] spPick)
    (C_law_nest : Own P w K mg base 1 "_law_nest" ["_law_many"] (spNest K)) :
    FnOk P w K mg base CX0 (k + 1) f fd ["_law_source_here", "_law_word"] (spOdd K) := by
  refine F.ok sc_law_odd (fun vs H Q E h => ?_) (fun cdv A outer s H vs Q E hr h => ?_)
  · obtain ⟨a, L, ns, v, M, rfl, _⟩ := h
    rfl
  · obtain ⟨a, L, ns, v, M, rfl, hs, gw, aM, t0, q⟩ := h
    have a0 : Same H H := Same.refl H
    refine ⟨_, (pss_cons (ps_set (i := 2) sc_law_odd.nd rfl (by first | exact .inl rfl | exact .inr rfl) (pe_lst (pa_cons pe_non (pa_cons pe_int (pa_cons pe_str (pa_cons pe_str (pa_cons pe_str (pa_cons pe_str (pa_cons (pe_tup pa_nil) (pa_cons (pe_tup (pa_cons pe_str pa_nil)) (pa_cons (pe_tup (pa_cons pe_str (pa_cons pe_str pa_nil))) (pa_cons (pe_tup (pa_cons pe_str (pa_cons pe_str (pa_cons pe_str pa_nil)))) (pa_cons (pe_tup (pa_cons pe_str (pa_cons pe_str (pa_cons pe_str pa_nil)))) (pa_cons (pe_lst (pa_cons pe_str (pa_cons pe_str (pa_cons pe_str pa_nil)))) pa_nil))))))))))))))
      (pss_cons (ps_set (i := 2) sc_law_odd.nd rfl (by first | exact .inl rfl | exact .inr rfl) (pe_op op_cat (pv 2) (pe_lst (pa_cons (pe_tup (pa_cons pe_str (pa_cons pe_str (pa_cons pe_non pa_nil)))) (pa_cons (pe_tup (pa_cons pe_str (pa_cons (pv 1) (pa_cons (pe_tup (pa_cons pe_str (pa_cons pe_str pa_nil))) pa_nil)))) (pa_cons (pe_tup (pa_cons (pv 1) pa_nil)) (pa_cons (pe_tup (pa_cons pe_str (pa_cons (pe_tup (pa_cons pe_str (pa_cons pe_str pa_nil))) (pa_cons (pv 1) pa_nil)))) (pa_cons (pe_tup (pa_cons pe_bl (pa_cons pe_str (pa_cons pe_str pa_nil)))) pa_nil))))))))
      (pss_cons (ps_set (i := 2) sc_law_odd.nd rfl (by first | exact .inl rfl | exact .inr rfl) (pe_op op_cat (pv 2) (pe_lst (pa_cons (pe_tup (pa_cons pe_str (pa_cons (pe_lst (pa_cons pe_str pa_nil)) (pa_cons (pv 1) pa_nil)))) (pa_cons (pe_tup (pa_cons pe_str (pa_cons (pv 1) (pa_cons pe_str pa_nil)))) (pa_cons (pe_tup (pa_cons pe_str (pa_cons (pv 1) (pa_cons (pv 1) pa_nil)))) (pa_cons (pe_tup (pa_cons (pe_tup (pa_cons pe_str (pa_cons pe_str (pa_cons pe_str pa_nil)))) (pa_cons pe_str (pa_cons pe_str pa_nil)))) (pa_cons (pe_own C_law_nest (hr.mono (by omega)) (by rfl) (pa_cons pe_int pa_nil)) pa_nil))))))))
      (pss_one (ps_ret (pe_own C_law_pick (hr.mono (by omega)) (by rfl) (pa_cons (pv 0) (pa_cons (pv 2) pa_nil)))))))), ?_⟩
    refine ⟨(by show 0 ≤ sizeLine; decide), fun p1 n1 => ?_⟩
    have s1 := same_upd (o := .tup []) n1
    have g1 : GV K 1 M _ (.ref p1) := GV.tup (n := 0) (xs := []) t0 n1 all_nil (Nat.le_of_ble_eq_true rfl)
    have a1 := a0.trans s1
    have t1 := t0.same s1
    refine ⟨(by show 1 ≤ sizeLine; decide), fun p2 n2 => ?_⟩
    have s2 := same_upd (o := .tup [.str "&"]) n2
    have g2 : GV K 1 M _ (.ref p2) := GV.tup (n := 0) (xs := [.str "&"]) t1 n2 (all_cons (GV.str (x := "&") (by decide +kernel)) all_nil) (Nat.le_of_ble_eq_true rfl)
    have a2 := a1.trans s2
    have t2 := t1.same s2
    refine ⟨(by show 2 ≤ sizeLine; decide), fun p3 n3 => ?_⟩
    have s3 := same_upd (o := .tup [.str "&", .str "a"]) n3
    have g3 : GV K 1 M _ (.ref p3) := GV.tup (n := 0) (xs := [.str "&", .str "a"]) t2 n3 (all_cons (GV.str (x := "&") (by decide +kernel)) (all_cons (GV.str (x := "a") (by decide +kernel)) all_nil)) (Nat.le_of_ble_eq_true rfl)
    have a3 := a2.trans s3
    have t3 := t2.same s3
    refine ⟨(by show 3 ≤ sizeLine; decide), fun p4 n4 => ?_⟩
    have s4 := same_upd (o := .tup [.str "|", .str "a", .str "z"]) n4
    have g4 : GV K 1 M _ (.ref p4) := GV.tup (n := 0) (xs := [.str "|", .str "a", .str "z"]) t3 n4 (all_cons (GV.str (x := "|") (by decide +kernel)) (all_cons (GV.str (x := "a") (by decide +kernel)) (all_cons (GV.str (x := "z") (by decide +kernel)) all_nil))) (Nat.le_of_ble_eq_true rfl)
    have a4 := a3.trans s4
    have t4 := t3.same s4
    refine ⟨(by show 3 ≤ sizeLine; decide), fun p5 n5 => ?_⟩
    have s5 := same_upd (o := .tup [.str "and", .str "a", .str "b"]) n5
    have g5 : GV K 1 M _ (.ref p5) := GV.tup (n := 0) (xs := [.str "and", .str "a", .str "b"]) t4 n5 (all_cons (GV.str (x := "and") (by decide +kernel)) (all_cons (GV.str (x := "a") (by decide +kernel)) (all_cons (GV.str (x := "b") (by decide +kernel)) all_nil))) (Nat.le_of_ble_eq_true rfl)
    have a5 := a4.trans s5
    have t5 := t4.same s5
    refine ⟨(by show 3 ≤ sizeLine; decide), fun p6 n6 => ?_⟩
    have s6 := same_upd (o := .lst [.str "&", .str "a", .str "b"]) n6
    have g6 : GV K 1 M _ (.ref p6) := GV.lst (n := 0) (xs := [.str "&", .str "a", .str "b"]) t5 n6 (all_cons (GV.str (x := "&") (by decide +kernel)) (all_cons (GV.str (x := "a") (by decide +kernel)) (all_cons (GV.str (x := "b") (by decide +kernel)) all_nil))) (Nat.le_of_ble_eq_true rfl)
    have a6 := a5.trans s6
    have t6 := t5.same s6
    refine ⟨(by show 12 ≤ sizeLine; decide), fun l1 nl1 => ?_⟩
    have s7 := same_upd (o := .lst [.non, .int 3, .str "", .str "i", .str "A", .str "ab", .ref p1, .ref p2, .ref p3, .ref p4, .ref p5, .ref p6]) nl1
    have a7 := a6.trans s7
    have t7 := t6.same s7
    refine ⟨_, rfl, ?_⟩
    refine ⟨(by show 3 ≤ sizeLine; decide), fun p8 n8 => ?_⟩
    have s8 := same_upd (o := .tup [.str "&", .str "a", .non]) n8
    have g8 : GV K 1 M _ (.ref p8) := GV.tup (n := 0) (xs := [.str "&", .str "a", .non]) t7 n8 (all_cons (GV.str (x := "&") (by decide +kernel)) (all_cons (GV.str (x := "a") (by decide +kernel)) (all_cons GV.non all_nil))) (Nat.le_of_ble_eq_true rfl)
    have a8 := a7.trans s8
    have t8 := t7.same s8
    refine ⟨_, rfl, ?_⟩
    refine ⟨(by show 2 ≤ sizeLine; decide), fun p9 n9 => ?_⟩
    have s9 := same_upd (o := .tup [.str "a", .str "b"]) n9
    have g9 : GV K 1 M _ (.ref p9) := GV.tup (n := 0) (xs := [.str "a", .str "b"]) t8 n9 (all_cons (GV.str (x := "a") (by decide +kernel)) (all_cons (GV.str (x := "b") (by decide +kernel)) all_nil)) (Nat.le_of_ble_eq_true rfl)
    have a9 := a8.trans s9
    have t9 := t8.same s9
    refine ⟨(by show 3 ≤ sizeLine; decide), fun p10 n10 => ?_⟩
    have s10 := same_upd (o := .tup [.str "&", v, .ref p9]) n10
    have g10 : GV K 6 M _ (.ref p10) := GV.tup (n := 5) (xs := [.str "&", v, .ref p9]) t9 n10 (all_cons (GV.str (x := "&") (by decide +kernel)) (all_cons (gw.same a9) (all_cons (g9.up (by decide)) all_nil))) (Nat.le_of_ble_eq_true rfl)
    have a10 := a9.trans s10
    have t10 := t9.same s10
    refine ⟨_, rfl, ?_⟩
    refine ⟨(by show 1 ≤ sizeLine; decide), fun p11 n11 => ?_⟩
    have s11 := same_upd (o := .tup [v]) n11
    have g11 : GV K 6 M _ (.ref p11) := GV.tup (n := 5) (xs := [v]) t10 n11 (all_cons (gw.same a10) all_nil) (Nat.le_of_ble_eq_true rfl)
    have a11 := a10.trans s11
    have t11 := t10.same s11
    refine ⟨(by show 2 ≤ sizeLine; decide), fun p12 n12 => ?_⟩
    have s12 := same_upd (o := .tup [.str "|", .str "b"]) n12
    have g12 : GV K 1 M _ (.ref p12) := GV.tup (n := 0) (xs := [.str "|", .str "b"]) t11 n12 (all_cons (GV.str (x := "|") (by decide +kernel)) (all_cons (GV.str (x := "b") (by decide +kernel)) all_nil)) (Nat.le_of_ble_eq_true rfl)
    have a12 := a11.trans s12
    have t12 := t11.same s12
    refine ⟨_, rfl, ?_⟩
    refine ⟨(by show 3 ≤ sizeLine; decide), fun p13 n13 => ?_⟩
    have s13 := same_upd (o := .tup [.str "&", .ref p12, v]) n13
    have g13 : GV K 6 M _ (.ref p13) := GV.tup (n := 5) (xs := [.str "&", .ref p12, v]) t12 n13 (all_cons (GV.str (x := "&") (by decide +kernel)) (all_cons (g12.up (by decide)) (all_cons (gw.same a12) all_nil))) (Nat.le_of_ble_eq_true rfl)
    have a13 := a12.trans s13
    have t13 := t12.same s13
    refine ⟨(by show 3 ≤ sizeLine; decide), fun p14 n14 => ?_⟩
    have s14 := same_upd (o := .tup [.bl true, .str "a", .str "b"]) n14
    have g14 : GV K 1 M _ (.ref p14) := GV.tup (n := 0) (xs := [.bl true, .str "a", .str "b"]) t13 n14 (all_cons (GV.bl _) (all_cons (GV.str (x := "a") (by decide +kernel)) (all_cons (GV.str (x := "b") (by decide +kernel)) all_nil))) (Nat.le_of_ble_eq_true rfl)
    have a14 := a13.trans s14
    have t14 := t13.same s14
    refine ⟨(by show 5 ≤ sizeLine; decide), fun m0 nm0 => ?_⟩
    have s15 := same_upd (o := .lst [.ref p8, .ref p10, .ref p11, .ref p13, .ref p14]) nm0
    have a15 := a14.trans s15
    have t15 := t14.same s15
    have hp0 : _ := (s8.trans (s9.trans (s10.trans (s11.trans (s12.trans (s13.trans (s14.trans s15))))))) _ _ (upd_same (o := .lst ([.non, .int 3, .str "", .str "i", .str "A", .str "ab", .ref p1, .ref p2, .ref p3, .ref p4, .ref p5, .ref p6])))
    refine ⟨l1, m0, _, _, rfl, rfl, hp0, upd_same, le1000 (Nat.le_of_ble_eq_true rfl), fun c0 nc0 => ?_⟩
    have s16 := same_upd (o := .lst ([.non, .int 3, .str "", .str "i", .str "A", .str "ab", .ref p1, .ref p2, .ref p3, .ref p4, .ref p5, .ref p6] ++ [.ref p8, .ref p10, .ref p11, .ref p13, .ref p14])) nc0
    have a16 := a15.trans s16
    have t16 := t15.same s16
    refine ⟨_, rfl, ?_⟩
    refine ⟨(by show 1 ≤ sizeLine; decide), fun p17 n17 => ?_⟩
    have s17 := same_upd (o := .lst [.str "a"]) n17
    have g17 : GV K 1 M _ (.ref p17) := GV.lst (n := 0) (xs := [.str "a"]) t16 n17 (all_cons (GV.str (x := "a") (by decide +kernel)) all_nil) (Nat.le_of_ble_eq_true rfl)
    have a17 := a16.trans s17
    have t17 := t16.same s17
    refine ⟨_, rfl, ?_⟩
    refine ⟨(by show 3 ≤ sizeLine; decide), fun p18 n18 => ?_⟩
    have s18 := same_upd (o := .tup [.str "|", .ref p17, v]) n18
    have g18 : GV K 6 M _ (.ref p18) := GV.tup (n := 5) (xs := [.str "|", .ref p17, v]) t17 n18 (all_cons (GV.str (x := "|") (by decide +kernel)) (all_cons (g17.up (by decide)) (all_cons (gw.same a17) all_nil))) (Nat.le_of_ble_eq_true rfl)
    have a18 := a17.trans s18
    have t18 := t17.same s18
    refine ⟨_, rfl, ?_⟩
    refine ⟨(by show 3 ≤ sizeLine; decide), fun p19 n19 => ?_⟩
    have s19 := same_upd (o := .tup [.str "&", v, .str ""]) n19
    have g19 : GV K 6 M _ (.ref p19) := GV.tup (n := 5) (xs := [.str "&", v, .str ""]) t18 n19 (all_cons (GV.str (x := "&") (by decide +kernel)) (all_cons (gw.same a18) (all_cons (GV.str (x := "") (by decide +kernel)) all_nil))) (Nat.le_of_ble_eq_true rfl)
    have a19 := a18.trans s19
    have t19 := t18.same s19
    refine ⟨_, rfl, ?_⟩
    refine ⟨_, rfl, ?_⟩
    refine ⟨(by show 3 ≤ sizeLine; decide), fun p20 n20 => ?_⟩
    have s20 := same_upd (o := .tup [.str "", v, v]) n20
    have g20 : GV K 6 M _ (.ref p20) := GV.tup (n := 5) (xs := [.str "", v, v]) t19 n20 (all_cons (GV.str (x := "") (by decide +kernel)) (all_cons (gw.same a19) (all_cons (gw.same a19) all_nil))) (Nat.le_of_ble_eq_true rfl)
    have a20 := a19.trans s20
    have t20 := t19.same s20
    refine ⟨(by show 3 ≤ sizeLine; decide), fun p21 n21 => ?_⟩
    have s21 := same_upd (o := .tup [.str "&", .str "a", .str "b"]) n21
    have g21 : GV K 1 M _ (.ref p21) := GV.tup (n := 0) (xs := [.str "&", .str "a", .str "b"]) t20 n21 (all_cons (GV.str (x := "&") (by decide +kernel)) (all_cons (GV.str (x := "a") (by decide +kernel)) (all_cons (GV.str (x := "b") (by decide +kernel)) all_nil))) (Nat.le_of_ble_eq_true rfl)
    have a21 := a20.trans s21
    have t21 := t20.same s21
    refine ⟨(by show 3 ≤ sizeLine; decide), fun p22 n22 => ?_⟩
    have s22 := same_upd (o := .tup [.ref p21, .str "a", .str "b"]) n22
    have g22 : GV K 2 M _ (.ref p22) := GV.tup (n := 1) (xs := [.ref p21, .str "a", .str "b"]) t21 n22 (all_cons g21 (all_cons (GV.str (x := "a") (by decide +kernel)) (all_cons (GV.str (x := "b") (by decide +kernel)) all_nil))) (Nat.le_of_ble_eq_true rfl)
    have a22 := a21.trans s22
    have t22 := t21.same s22
    refine ⟨10, M, rfl, by decide, t22, fun H23 p23 hd23 s23 => ?_⟩
    have a23 := a22.trans s23
    have t23 := t22.same s23
    have g23 : GV K 10 M H23 p23 := ⟨_, hd23, nest_gd 10⟩
    refine ⟨(by show 5 ≤ sizeLine; decide), fun m1 nm1 => ?_⟩
    have s24 := same_upd (o := .lst [.ref p18, .ref p19, .ref p20, .ref p22, p23]) nm1
    have a24 := a23.trans s24
    have t24 := t23.same s24
    have hp1 : _ := (s17.trans (s18.trans (s19.trans (s20.trans (s21.trans (s22.trans (s23.trans s24))))))) _ _ (upd_same (o := .lst ([.non, .int 3, .str "", .str "i", .str "A", .str "ab", .ref p1, .ref p2, .ref p3, .ref p4, .ref p5, .ref p6] ++ [.ref p8, .ref p10, .ref p11, .ref p13, .ref p14])))
    refine ⟨c0, m1, _, _, rfl, rfl, hp1, upd_same, le1000 (Nat.le_of_ble_eq_true rfl), fun c1 nc1 => ?_⟩
    have s25 := same_upd (o := .lst (([.non, .int 3, .str "", .str "i", .str "A", .str "ab", .ref p1, .ref p2, .ref p3, .ref p4, .ref p5, .ref p6] ++ [.ref p8, .ref p10, .ref p11, .ref p13, .ref p14]) ++ [.ref p18, .ref p19, .ref p20, .ref p22, p23])) nc1
    have a25 := a24.trans s25
    have t25 := t24.same s25
    have z24 := s25
    have z23 := s24.trans z24
    have z22 := s23.trans z23
    have z21 := s22.trans z22
    have z20 := s21.trans z21
    have z19 := s20.trans z20
    have z18 := s19.trans z19
    have z17 := s18.trans z18
    have z16 := s17.trans z17
    have z15 := s16.trans z16
    have z14 := s15.trans z15
    have z13 := s14.trans z14
    have z12 := s13.trans z13
    have z11 := s12.trans z12
    have z10 := s11.trans z11
    have z9 := s10.trans z10
    have z8 := s9.trans z9
    have z7 := s8.trans z8
    have z6 := s7.trans z7
    have z5 := s6.trans z6
    have z4 := s5.trans z5
    have z3 := s4.trans z4
    have z2 := s3.trans z3
    have z1 := s2.trans z2
    have ga1 : ∀ y ∈ ([.non, .int 3, .str "", .str "i", .str "A", .str "ab", .ref p1, .ref p2, .ref p3, .ref p4, .ref p5, .ref p6] : List V), GV K 12 M _ y := (all_cons GV.non (all_cons (GV.int _) (all_cons (GV.str (x := "") (by decide +kernel)) (all_cons (GV.str (x := "i") (by decide +kernel)) (all_cons (GV.str (x := "A") (by decide +kernel)) (all_cons (GV.str (x := "ab") (by decide +kernel)) (all_cons ((g1.same z1).up (by decide)) (all_cons ((g2.same z2).up (by decide)) (all_cons ((g3.same z3).up (by decide)) (all_cons ((g4.same z4).up (by decide)) (all_cons ((g5.same z5).up (by decide)) (all_cons ((g6.same z6).up (by decide)) all_nil))))))))))))
    have ga2 : ∀ y ∈ ([.ref p8, .ref p10, .ref p11, .ref p13, .ref p14] : List V), GV K 12 M _ y := (all_cons ((g8.same z8).up (by decide)) (all_cons ((g10.same z10).up (by decide)) (all_cons ((g11.same z11).up (by decide)) (all_cons ((g13.same z13).up (by decide)) (all_cons ((g14.same z14).up (by decide)) all_nil)))))
    have ga3 : ∀ y ∈ ([.ref p18, .ref p19, .ref p20, .ref p22, p23] : List V), GV K 12 M _ y := (all_cons ((g18.same z18).up (by decide)) (all_cons ((g19.same z19).up (by decide)) (all_cons ((g20.same z20).up (by decide)) (all_cons ((g22.same z22).up (by decide)) (all_cons ((g23.same z23).up (by decide)) all_nil)))))
    refine ⟨_, rfl, _, rfl, a, L, c1, ns, _, rfl, hs.same a25, (hs.ne (a24.free nc1)).symm, upd_same, Nat.le_of_ble_eq_true rfl, Nat.le_of_ble_eq_true rfl, fun H' y my hs' off' => ?_⟩
    have gy := all_app (all_app ga1 ga2) ga3 y my
    obtain ⟨d, h1, h2⟩ := gy
    refine q H' y ⟨d, dp_same (SmX.at off' aM).hid d y h1, h2⟩ hs' ((SmX.of_same a25).trans (SmX.at off' (List.mem_singleton.mpr rfl)))
end
end Fv


namespace Fv
open PySem PySem.Spec PyProof.Rows L2 FvX TL
/-! ### the text of a term -/
def opS : PyData → Str
  | .str s => s
  | _ => ""
mutual
def txt : PyData → Str
  | .str s => s
  | .tuple (o :: ds) => Txt.join (" " ++ opS o ++ " ") (ptxAll ds)
  | _ => ""
def ptxAll : List PyData → List Str
  | [] => []
  | d :: ds => (if isLd d = true then txt d else "(" ++ txt d ++ ")") :: ptxAll ds
end
def ptx (d : PyData) : Str := if isLd d = true then txt d else "(" ++ txt d ++ ")"
theorem ptxAll_map : ∀ ds : List PyData, ptxAll ds = ds.map ptx
  | [] => by simp [ptxAll]
  | d :: ds => by rw [List.map_cons, ← ptxAll_map ds]; simp only [ptxAll, ptx]
theorem txt_str (s : Str) : txt (.str s) = s := by simp only [txt]
theorem txt_tup (o : Str) (ds : List PyData) : txt (.tuple (.str o :: ds)) = Txt.join (" " ++ o ++ " ") (ds.map ptx) := by
  simp only [txt, ptxAll_map, opS]
theorem isOp_inv {o : PyData} (h : isOp o = true) : o = .str "&" ∨ o = .str "|" := by
  unfold isOp at h
  simp only [List.any_cons, List.any_nil, Bool.or_false, Bool.or_eq_true] at h
  cases o with
  | str x =>
    rcases h with h | h <;> simp [PyData.eqv] at h
    · exact .inl (by rw [h])
    · exact .inr (by rw [h])
  | _ => rcases h with h | h <;> simp [PyData.eqv] at h
theorem lmeas_inv {n : Nat} {d : PyData} (h : 1 ≤ lmeas (n + 1) d) : (∃ x, d = .str x ∧ isL x = true) ∨
    (∃ o ds, d = .tuple (.str o :: ds) ∧ isLd d = false ∧ (o = "&" ∨ o = "|") ∧ 2 ≤ ds.length ∧ (∀ x ∈ ds, 1 ≤ lmeas n x) ∧ lmeas (n + 1) d = (ds.map (lmeas n)).sum) := by
  by_cases a : isLd d = true
  · left
    cases d with
    | str x => exact ⟨x, rfl, a⟩
    | _ => cases a
  · right
    have e : lmeas (n + 1) d = if isCd d = true then (if (0 : Int) ∈ (parts d).map (lmeas n) then 0 else ((parts d).map (lmeas n)).sum) else 0 := by
      show (if isLd d = true then (1 : Int) else _) = _
      rw [if_neg a]
    rw [e] at h
    by_cases b : isCd d = true
    · rw [if_pos b] at h
      by_cases c : (0 : Int) ∈ (parts d).map (lmeas n)
      · rw [if_pos c] at h; omega
      · cases d with
        | tuple ds =>
          cases ds with
          | nil => cases b
          | cons o ds =>
            have b' : (decide (2 ≤ ds.length) && isOp o) = true := b
            rw [Bool.and_eq_true, decide_eq_true_eq] at b'
            have all1 : ∀ x ∈ ds, 1 ≤ lmeas n x := fun x hx => by
              have z := lmeas_nonneg n x
              rcases Int.lt_or_eq_of_le z with z | z
              · omega
              · exact absurd (List.mem_map.mpr ⟨x, hx, z.symm⟩) c
            have e' : lmeas (n + 1) (.tuple (o :: ds)) = (ds.map (lmeas n)).sum := by
              rw [e, if_pos b, if_neg c]; rfl
            rcases isOp_inv b'.2 with ho | ho <;> subst ho
            · exact ⟨_, ds, rfl, rfl, .inl rfl, b'.1, all1, e'⟩
            · exact ⟨_, ds, rfl, rfl, .inr rfl, b'.1, all1, e'⟩
        | _ => cases b
    · rw [if_neg b] at h; omega
theorem isL_len {x : Str} (h : isL x = true) : x.length = 1 := by
  unfold isL at h
  rw [Bool.and_eq_true, decide_eq_true_eq] at h
  have := h.1
  injection this with e
  omega
theorem len_app (x y : Str) : (x ++ y).length = x.length + y.length := by
  rw [len_tl, tl_append, List.length_append, ← len_tl, ← len_tl]
theorem joinL_len (S : List Nat) : ∀ (p : List Nat) (ps : List (List Nat)), (joinL S (p :: ps)).length = p.length + (ps.map (·.length)).sum + S.length * ps.length
  | p, [] => by simp [joinL]
  | p, q :: ps => by
    have e : joinL S (p :: q :: ps) = p ++ (S ++ joinL S (q :: ps)) := rfl
    rw [e, List.length_append, List.length_append, joinL_len S q ps, List.map_cons, List.sum_cons, List.length_cons, Nat.mul_add]
    omega
theorem sum_le {α : Type} {f g : α → Int} : ∀ {l : List α}, (∀ x ∈ l, f x ≤ g x) → (l.map f).sum ≤ (l.map g).sum
  | [], _ => by simp
  | x :: l, h => by
    rw [List.map_cons, List.map_cons, List.sum_cons, List.sum_cons]
    have := h x (List.mem_cons_self ..)
    have := sum_le (l := l) fun y hy => h y (List.mem_cons_of_mem _ hy)
    omega
theorem sum_lin {α : Type} {f : α → Int} : ∀ {l : List α}, (l.map fun x => 8 * f x - 5).sum = 8 * (l.map f).sum - 5 * l.length
  | [] => by simp
  | x :: l => by
    rw [List.map_cons, List.map_cons, List.sum_cons, List.sum_cons, sum_lin (l := l), List.length_cons]
    omega
theorem sum_cast {α : Type} {f : α → Nat} : ∀ {l : List α}, (((l.map f).sum : Nat) : Int) = (l.map fun x => ((f x : Nat) : Int)).sum
  | [] => by simp
  | x :: l => by
    rw [List.map_cons, List.map_cons, List.sum_cons, List.sum_cons, ← sum_cast (l := l)]
    omega
theorem sep_len {o : Str} (h : o = "&" ∨ o = "|") : ((" " : Str) ++ o ++ " ").length = 3 := by
  rcases h with h | h <;> subst h <;> decide +kernel
theorem par_len (x : Str) : (("(" : Str) ++ x ++ ")").length = x.length + 2 := by
  rw [len_app, len_app]
  have e1 : ("(" : Str).length = 1 := by decide +kernel
  have e2 : (")" : Str).length = 1 := by decide +kernel
  omega
theorem txt_len : ∀ (n : Nat) (d : PyData), 1 ≤ lmeas n d → ((txt d).length : Int) + 7 ≤ 8 * lmeas n d
  | 0, d, h => by simp only [lmeas] at h; omega
  | n + 1, d, h => by
    rcases lmeas_inv h with ⟨x, rfl, hx⟩ | ⟨o, ds, rfl, _, ho, h2, all1, e⟩
    · rw [txt_str, isL_len hx]
      omega
    · rw [txt_tup, join_eq, len_tl, tl_join, e]
      have hp : (((((ds.map ptx).map tl).map (·.length)).sum : Nat) : Int) ≤ 8 * (ds.map (lmeas n)).sum - 5 * ds.length := by
        rw [← sum_lin, List.map_map, List.map_map, sum_cast]
        refine sum_le fun x hx => ?_
        have := txt_len n x (all1 x hx)
        show (((tl (ptx x)).length : Nat) : Int) ≤ _
        rw [← len_tl]
        unfold ptx
        split
        · omega
        · rw [par_len]; omega
      cases ds with
      | nil => simp at h2
      | cons x r =>
        rw [List.map_cons, List.map_cons] at hp ⊢
        rw [joinL_len, ← len_tl (" " ++ o ++ " "), sep_len ho, List.length_map, List.length_map]
        rw [List.map_cons, List.sum_cons] at hp
        rw [List.length_cons] at h2 hp
        omega
theorem ptx_len {n : Nat} {d : PyData} (h : 1 ≤ lmeas n d) : ((ptx d).length : Int) + 5 ≤ 8 * lmeas n d := by
  have := txt_len n d h
  unfold ptx
  split
  · omega
  · rw [par_len]; omega
def spText (K : PySem.W.Frag) (n : Nat) : Sp := fun vs H Q _ => ∃ (v : V) (d : PyData) (m : Nat), vs = [v] ∧ Dp K H v d ∧ gd 20 d = true ∧ m < n ∧ 1 ≤ lmeas m d ∧ lmeas m d ≤ 1000 ∧ ∀ H', Same H H' → Q (.str (txt d)) H'
def spPart (K : PySem.W.Frag) (n : Nat) : Sp := fun vs H Q _ => ∃ (v : V) (d : PyData) (m : Nat), vs = [v] ∧ Dp K H v d ∧ gd 20 d = true ∧ m < n ∧ 1 ≤ lmeas m d ∧ lmeas m d ≤ 1000 ∧ ∀ H', Same H H' → Q (.str (ptx d)) H'
end Fv


namespace Fv
open PySem PySem.Spec PyProof.Rows L2 FvX TL
-- top 23  slots: 0:term 1:texts 2:part
abbrev s_term_text : Stmt := topS 23
abbrev N_term_text : List Str := ["term", "texts", "part"]
theorem sc_term_text : FnScope N_term_text ["term"] (defScope s_term_text) := ⟨rfl, rfl, rfl, by decide +kernel, rfl, by decide +kernel, by decide +kernel⟩

-- top 24  slots: 0:part 1:text
abbrev s_part_text : Stmt := topS 24
abbrev N_part_text : List Str := ["part", "text"]
theorem sc_part_text : FnScope N_part_text ["part"] (defScope s_part_text) := ⟨rfl, rfl, rfl, by decide +kernel, rfl, by decide +kernel, by decide +kernel⟩

-- top 39  slots: 0:_law_word 1:_law_texts 2:_law_one
abbrev s_law_text : Stmt := topS 39
abbrev N_law_text : List Str := ["_law_word", "_law_texts", "_law_one"]
theorem sc_law_text : FnScope N_law_text ["_law_word"] (defScope s_law_text) := ⟨rfl, rfl, rfl, by decide +kernel, rfl, by decide +kernel, by decide +kernel⟩

theorem pe_isDc {X : Cx} {K : PySem.W.Frag} {e : Expr} {te : TE} {T : String} {y : Str} {p p2 pos : Pos} (hK : X.K = K) (hg : Gl X "isinstance") (hm : X.mg "isinstance" = none) (hg2 : Gl X y) (hm2 : X.mg y = none) (ha : PE X e te)
    (hv : bootBuiltins y = some (.type T) := by decide +kernel) (hn : y ≠ "__name__" := by decide) (hd2 : (y == ("__debug__" : Str)) = false := by decide)
    (he : starEach (e :: [.Name y p2]) X.env = (false, eval e X.env) :: starEach [.Name y p2] X.env := by rfl) (hpl : (backTo pos (starEach [.Name y p2] X.env)).any (·.1) = false := by rfl) :
    PE X (.Call (.Name "isinstance" p) [e, .Name y p2] [] pos) (tCB (rIsD K) (tCons te (tCons (tC (.ty T)) tNil))) := by
  subst hK
  exact pe_isD hg hm hg2 hm2 ha hv hn hd2 he hpl
theorem one_len : (" " : Str).length = 1 := by decide +kernel
theorem op_len {o : Str} (h : o = "&" ∨ o = "|") : o.length = 1 := by rcases h with h | h <;> subst h <;> decide +kernel
theorem small_len {x : Str} {n : Nat} (h : x.length ≤ n) (hn : n ≤ 100000) : x.length ≤ sizeLine := Nat.le_trans h (Nat.le_trans hn (by decide))
theorem emp_app (x : Str) : Str.empty ++ x = x := ext_tl (by rw [tl_append]; rfl)
theorem sum_ptx {m : Nat} {ds : List PyData} (all1 : ∀ x ∈ ds, 1 ≤ lmeas m x) (h : (ds.map (lmeas m)).sum ≤ 1000) : ((ds.map ptx).map (·.length)).sum ≤ 8000 := by
  have hp : ((((ds.map ptx).map (·.length)).sum : Nat) : Int) ≤ 8 * (ds.map (lmeas m)).sum - 5 * ds.length := by
    rw [← sum_lin, List.map_map, sum_cast]
    refine sum_le fun x hx => ?_
    have := ptx_len (all1 x hx)
    show (((ptx x).length : Nat) : Int) ≤ _
    omega
  omega
theorem part_le {m : Nat} {ds : List PyData} {x : PyData} (hx : x ∈ ds) (h : (ds.map (lmeas m)).sum ≤ 1000) : lmeas m x ≤ 1000 := by
  have := mem_le_sum (l := ds.map (lmeas m)) (x := lmeas m x) (fun y hy => by
    obtain ⟨d', _, rfl⟩ := List.mem_map.mp hy
    exact lmeas_nonneg m d') (List.mem_map.mpr ⟨x, hx, rfl⟩)
  omega
section
variable {P : Program} {w : World} {K : PySem.W.Frag} {mg : Str → Option Value} {base : Heap}
theorem text_zero {f : Addr} {fd : FuncData} {k : Nat} {ps : List Str} : FnOk P w K mg base CX0 k f fd ps (spText K 0) := by
  have no : ∀ vs H Q E, ¬ spText K 0 vs H Q E := fun vs H Q E h => by
    obtain ⟨v, d, m, _, _, _, m1, _⟩ := h
    omega
  exact ⟨fun vs H Q E h => absurd h (no vs H Q E), fun A outer s H args us vs Q E _ _ _ _ h => absurd h (no vs H Q E)⟩
theorem ok_term_text {f : Addr} {fd : FuncData} {k n : Nat} (F : Fun K "term_text" "term_text" s_term_text f fd)
    (C_is_letter : Own P w K mg base 1 "is_letter" ["value"] (spIsLetter K)) (hk : 1 ≤ k)
    (C_part_text : Own P w K mg base k "part_text" ["part"] (spPart K n)) :
    FnOk P w K mg base CX0 (k + 1) f fd ["term"] (spText K (n + 1)) := by
  refine F.ok sc_term_text (fun vs H Q E h => ?_) (fun cdv A outer s H vs Q E hr h => ?_)
  · obtain ⟨v, d, m, rfl, _⟩ := h
    rfl
  · obtain ⟨v, d, m, rfl, hd, hg, hm, l1, l2, q⟩ := h
    refine ⟨_, (pss_cons (ps_if (pt_val (pe_own C_is_letter (hr.mono (by omega)) (by rfl) (pa_cons (pv 0) pa_nil)))
        (pss_one (ps_ret (pv 0)))
        pss_nil)
      (pss_cons (ps_setLc (i := 1) (own := [("part", 2)]) (g := gName 2) (by rfl) sc_term_text.nd rfl rfl (sw_true rfl rfl rfl (by decide +kernel)) (pi_tup (pe_slice sl_tup (pv 0) (po_some pe_int) po_none)) (blkOk_by (own := [("part", 2)]) (N := N_term_text) (sc := defScope s_term_text) (by decide +kernel)) (fun _ _ _ _ _ => pg_name (i := 2) sc_term_text.nd rfl (Or.inl rfl)) (fun _ _ _ _ _ => pts_nil) (fun _ _ _ _ _ => (pe_own C_part_text (hr.mono (by omega)) (by rfl) (pa_cons (pv 2) pa_nil))))
      (pss_one (ps_ret (pe_join (pe_joined (.cons pe_str (.cons (pe_fmt (pe_ix ix_tup (pv 0) pe_int (fun _ _ => rfl))) (.cons pe_str .nil)))) (pv 1)))))), ?_⟩
    cases m with
    | zero => simp only [lmeas] at l1; omega
    | succ m =>
    rcases lmeas_inv l1 with ⟨x, rfl, hx⟩ | ⟨o, ds, rfl, nl, ho, h2, all1, e⟩
    · cases hd
      refine ⟨_, rfl, _, _, rfl, .str x, hg, _, rfl, ?_⟩
      show if isL x = true then _ else _
      rw [if_pos hx]
      have q' := q H (Same.refl H)
      rw [txt_str] at q'
      exact ⟨_, rfl, q'⟩
    · rw [e] at l2
      cases hd with
      | @tup a xs _ hs ha =>
        cases ha with
        | @cons x0 xr _ _ h1 hA =>
        cases h1
        have hl := dpAll_len hA
        refine ⟨_, rfl, _, _, rfl, .tup hs (.cons (.str o) hA), hg, _, rfl, iteF ?_⟩
        refine ⟨_, rfl, 1, rfl, a, _, rfl, hs, ?_, fun p np => ?_⟩
        · rw [show HT.sIx (V.str o :: xr).length 0 (some 1) = min 1 (V.str o :: xr).length from HT.sIx_nat _ 0 1, List.length_cons]
          omega
        have ex : cutV (V.str o :: xr) (some 1) none = xr := by rw [cut_drop1]; rfl
        rw [ex]
        have sp := same_upd (o := .tup xr) np
        have gp := (gd_parts hg).2
        refine ⟨p, rfl, ⟨_, SqT.of upd_same⟩, fun D nD => lc_tup (xs := xr) (fun i H1 => Same (upd H p (.tup xr)) H1 ∧ H1 D = some (.lst (((ds.take i).map ptx).map V.str))) ?_ ?_ ?_ ?_⟩
        · exact ⟨same_upd nD, by rw [upd_same]; rfl⟩
        · rintro i H1 hi ⟨sm, e1⟩
          exact SqT.of (sm _ _ upd_same)
        · rintro i x H1 hx ⟨sm, e1⟩
          obtain ⟨d', hd', hD'⟩ := dpAll_get hA hx
          have hDs : Dp K H1 x d' := dp_same (sp.trans sm) d' x hD'
          have md : d' ∈ ds := List.mem_of_getElem? hd'
          refine ⟨rfl, ?_⟩
          dsimp only [tYes]
          rw [if_pos rfl]
          refine ⟨_, rfl, x, d', m, rfl, hDs, gd_le (gp d' md) (by decide), by omega, all1 d' md, part_le md l2, fun H2 s2 => ?_⟩
          refine ⟨_, s2 _ _ e1, ?_, ?_, ?_⟩
          · rw [List.length_map, List.length_map, List.length_take]
            have lds := (gd_tuple hg).1
            rw [List.length_cons] at lds
            exact small1000 (by omega)
          · intro b o' eb
            have bD : b ≠ D := ne_of_none eb nD
            rw [upd_ne bD]
            exact s2 _ _ (sm _ _ eb)
          · rw [upd_same, List.take_add_one, hd']
            simp
        · rintro H1 ⟨sm, e1⟩
          have et : ds.take xr.length = ds := List.take_of_length_le (by omega)
          rw [et] at e1
          have q' := q H1 (sp.trans sm)
          rw [txt_tup] at q'
          have ol := op_len ho
          refine ⟨_, rfl, ?_, _, rfl, a, _, _, _, rfl, rfl, same_seqT (sp.trans sm) hs, at0, .inl ⟨o, rfl, ?_, _, rfl, ?_, _, rfl, ?_, ⟨_, rfl⟩, _, rfl, _, D, ds.map ptx, rfl, rfl, .inl (SqL.of e1), ?_, ?_⟩⟩
          · rw [emp_app, one_len]; decide
          · rw [ol]; decide
          · rw [emp_app, len_app, one_len, ol]; decide
          · rw [emp_app, len_app, len_app, one_len, ol]; decide
          · rw [emp_app, sep_len ho, List.length_map]
            have := sum_ptx all1 l2
            have lds := (gd_tuple hg).1
            rw [List.length_cons] at lds
            omega
          · rw [emp_app]
            exact q'
theorem part_zero {f : Addr} {fd : FuncData} {k : Nat} {ps : List Str} : FnOk P w K mg base CX0 k f fd ps (spPart K 0) := by
  have no : ∀ vs H Q E, ¬ spPart K 0 vs H Q E := fun vs H Q E h => by
    obtain ⟨v, d, m, _, _, _, m1, _⟩ := h
    omega
  exact ⟨fun vs H Q E h => absurd h (no vs H Q E), fun A outer s H args us vs Q E _ _ _ _ h => absurd h (no vs H Q E)⟩
theorem ok_part_text {f : Addr} {fd : FuncData} {k n : Nat} (F : Fun K "part_text" "part_text" s_part_text f fd)
    (C_is_letter : Own P w K mg base 1 "is_letter" ["value"] (spIsLetter K)) (hk : 1 ≤ k)
    (C_term_text : Own P w K mg base k "term_text" ["term"] (spText K n)) :
    FnOk P w K mg base CX0 (k + 1) f fd ["part"] (spPart K n) := by
  refine F.ok sc_part_text (fun vs H Q E h => ?_) (fun cdv A outer s H vs Q E hr h => ?_)
  · obtain ⟨v, d, m, rfl, _⟩ := h
    rfl
  · obtain ⟨v, d, m, rfl, hd, hg, hm, l1, l2, q⟩ := h
    refine ⟨_, (pss_cons (ps_set (i := 1) sc_part_text.nd rfl (by first | exact .inl rfl | exact .inr rfl) (pe_own C_term_text (hr.mono (by omega)) (by rfl) (pa_cons (pv 0) pa_nil)))
      (pss_one (ps_ret (pe_ifExp (pt_val (pe_own C_is_letter (hr.mono (by omega)) (by rfl) (pa_cons (pv 0) pa_nil))) (pv 1) (pe_joined (.cons pe_str (.cons (pe_fmt (pv 1)) (.cons pe_str .nil)))))))), ?_⟩
    refine ⟨_, rfl, v, d, m, rfl, hd, hg, hm, l1, l2, fun H1 s1 => ?_⟩
    have q' := q H1 s1
    have tl8 := txt_len m d l1
    refine ⟨_, rfl, v, d, rfl, dp_same s1 d v hd, hg, _, rfl, ?_⟩
    unfold ptx at q'
    by_cases c : isLd d = true
    · rw [if_pos c] at q' ⊢
      exact ⟨_, rfl, q'⟩
    · rw [if_neg c] at q' ⊢
      have e1 : ("(" : Str).length = 1 := by decide +kernel
      have pl := par_len (txt d)
      have fit : ∀ n : Nat, n ≤ 8002 → n ≤ sizeLine := fun n h => Nat.le_trans h (by decide)
      refine ⟨_, rfl, ?_, _, rfl, .inl ⟨_, rfl, fit _ (by omega), _, rfl, ?_, _, rfl, ?_, ?_⟩⟩
      · rw [emp_app, e1]; decide
      · rw [emp_app, len_app, e1]; exact fit _ (by omega)
      · rw [emp_app, pl]; exact fit _ (by omega)
      · rw [emp_app]; exact q'
theorem isLd_str {m : Nat} {x : Str} (h : 1 ≤ lmeas m (.str x)) : isL x = true := by
  cases m with
  | zero => simp only [lmeas] at h; omega
  | succ m =>
    rcases lmeas_inv h with ⟨y, e, hy⟩ | ⟨o, ds, e, _⟩
    · cases e; exact hy
    · cases e
theorem ok_law_text {f : Addr} {fd : FuncData} {k n : Nat} (F : Fun K "_law_text" "_law_text" s_law_text f fd) (m_isinstance : mg "isinstance" = none) (m_str : mg "str" = none)
    (C_law_text : Own P w K mg base k "_law_text" ["_law_word"] (spText K n)) :
    FnOk P w K mg base CX0 (k + 1) f fd ["_law_word"] (spText K (n + 1)) := by
  refine F.ok sc_law_text (fun vs H Q E h => ?_) (fun cdv A outer s H vs Q E hr h => ?_)
  · obtain ⟨v, d, m, rfl, _⟩ := h
    rfl
  · obtain ⟨v, d, m, rfl, hd, hg, hm, l1, l2, q⟩ := h
    refine ⟨_, (pss_cons (ps_if (pt_val (pe_isD (T := "str") (by rfl) m_isinstance (by rfl) m_str (pv 0)))
        (pss_one (ps_ret (pv 0)))
        pss_nil)
      (pss_cons (ps_setLc (i := 1) (own := [("_law_one", 2)]) (g := gName 2) (by rfl) sc_law_text.nd rfl rfl (sw_true rfl rfl rfl (by decide +kernel)) (pi_tup (pe_slice sl_tup (pv 0) (po_some pe_int) po_none)) (blkOk_by (own := [("_law_one", 2)]) (N := N_law_text) (sc := defScope s_law_text) (by decide +kernel)) (fun _ _ _ _ _ => pg_name (i := 2) sc_law_text.nd rfl (Or.inl rfl)) (fun _ _ _ _ _ => pts_nil) (fun _ _ _ _ _ => (pe_ifExp (pt_val (pe_isDc (K := K) (T := "str") rfl (by rfl) m_isinstance (by rfl) m_str (pv 2))) (pv 2) (pe_op op_add_str (pe_op op_add_str pe_str (pe_own C_law_text (hr.mono (by omega)) (by rfl) (pa_cons (pv 2) pa_nil))) pe_str))))
      (pss_one (ps_ret (pe_join (pe_op op_add_str (pe_op op_add_str pe_str (pe_ix ix_tup (pv 0) pe_int (fun _ _ => rfl))) pe_str) (pv 1)))))), ?_⟩
    cases m with
    | zero => simp only [lmeas] at l1; omega
    | succ m =>
    have fit : ∀ n : Nat, n ≤ 8010 → n ≤ sizeLine := fun n h => Nat.le_trans h (by decide)
    have e1 : ("(" : Str).length = 1 := by decide +kernel
    have e2 : (")" : Str).length = 1 := by decide +kernel
    rcases lmeas_inv l1 with ⟨x, rfl, hx⟩ | ⟨o, ds, rfl, nl, ho, h2, all1, e⟩
    · cases hd
      have q' := q H (Same.refl H)
      rw [txt_str] at q'
      exact ⟨_, rfl, _, _, _, rfl, by decide, .str x, _, rfl, iteT ⟨_, rfl, q'⟩⟩
    · rw [e] at l2
      cases hd with
      | @tup a xs _ hs ha =>
        cases ha with
        | @cons x0 xr _ _ h1 hA =>
        cases h1
        have hl := dpAll_len hA
        refine ⟨_, rfl, _, _, .tuple (.str o :: ds), rfl, by decide, .tup hs (.cons (.str o) hA), _, rfl, iteF ?_⟩
        refine ⟨_, rfl, 1, rfl, a, _, rfl, hs, ?_, fun p np => ?_⟩
        · rw [show HT.sIx (V.str o :: xr).length 0 (some 1) = min 1 (V.str o :: xr).length from HT.sIx_nat _ 0 1, List.length_cons]
          omega
        have ex : cutV (V.str o :: xr) (some 1) none = xr := by rw [cut_drop1]; rfl
        rw [ex]
        have sp := same_upd (o := .tup xr) np
        have gp := (gd_parts hg).2
        refine ⟨p, rfl, ⟨_, SqT.of upd_same⟩, fun D nD => lc_tup (xs := xr) (fun i H1 => Same (upd H p (.tup xr)) H1 ∧ H1 D = some (.lst (((ds.take i).map ptx).map V.str))) ?_ ?_ ?_ ?_⟩
        · exact ⟨same_upd nD, by rw [upd_same]; rfl⟩
        · rintro i H1 hi ⟨sm, e1⟩
          exact SqT.of (sm _ _ upd_same)
        · rintro i x H1 hx ⟨sm, e1'⟩
          obtain ⟨d', hd', hD'⟩ := dpAll_get hA hx
          have hDs : Dp K H1 x d' := dp_same (sp.trans sm) d' x hD'
          have md : d' ∈ ds := List.mem_of_getElem? hd'
          have fin : ∀ H2, Same H1 H2 → ∃ xs, H2 D = some (.lst xs) ∧ xs.length + 1 ≤ sizeLine ∧ (Same (upd H p (.tup xr)) (upd H2 D (.lst (xs ++ [V.str (ptx d')]))) ∧ upd H2 D (.lst (xs ++ [V.str (ptx d')])) D = some (.lst (((ds.take (i + 1)).map ptx).map V.str))) := fun H2 s2 => by
            refine ⟨_, s2 _ _ e1', ?_, ?_, ?_⟩
            · rw [List.length_map, List.length_map, List.length_take]
              have lds := (gd_tuple hg).1
              rw [List.length_cons] at lds
              exact small1000 (by omega)
            · intro b o' eb
              have bD : b ≠ D := ne_of_none eb nD
              rw [upd_ne bD]
              exact s2 _ _ (sm _ _ eb)
            · rw [upd_same, List.take_add_one, hd']
              simp
          refine ⟨rfl, ?_⟩
          dsimp only [tYes]
          rw [if_pos rfl]
          by_cases c : isLd d' = true
          · cases d' with
            | str z =>
              cases hDs
              refine ⟨_, rfl, _, _, .str z, rfl, by decide, .str z, _, rfl, iteT ⟨_, rfl, ?_⟩⟩
              have ez : ptx (.str z) = z := by unfold ptx; rw [if_pos c, txt_str]
              have f2 := fin H1 (Same.refl H1)
              rw [ez] at f2
              exact f2
            | _ => cases c
          · have nb : isB (tyN d') "str" = false := by
              cases m with
              | zero => have := all1 d' md; simp only [lmeas] at this; omega
              | succ m =>
                rcases lmeas_inv (all1 d' md) with ⟨y, rfl, hy⟩ | ⟨o', ds', rfl, _⟩
                · exact absurd hy c
                · rfl
            refine ⟨_, rfl, _, _, d', rfl, by decide, hDs, _, rfl, ?_⟩
            rw [nb]
            have t8 := txt_len m d' (all1 d' md)
            have t9 := part_le md l2
            refine iteF ⟨_, rfl, x, d', m, rfl, hDs, gd_le (gp d' md) (by decide), by omega, all1 d' md, t9, fun H2 s2 => ⟨_, _, rfl, rfl, fit _ (by omega), _, _, rfl, rfl, fit _ (by rw [len_app]; omega), ?_⟩⟩
            have ez : ptx d' = "(" ++ txt d' ++ ")" := by unfold ptx; rw [if_neg c]
            have f2 := fin H2 s2
            rw [ez] at f2
            exact f2
        · rintro H1 ⟨sm, e1'⟩
          have et : ds.take xr.length = ds := List.take_of_length_le (by omega)
          rw [et] at e1'
          have q' := q H1 (sp.trans sm)
          rw [txt_tup] at q'
          have ol := op_len ho
          refine ⟨_, rfl, a, _, _, _, rfl, rfl, same_seqT (sp.trans sm) hs, at0, _, _, rfl, rfl, ?_, _, _, rfl, rfl, ?_, ⟨_, rfl⟩, _, rfl, _, D, ds.map ptx, rfl, rfl, .inl (SqL.of e1'), ?_, q'⟩
          · rw [one_len, ol]; decide
          · rw [len_app, one_len, ol]; decide
          · rw [sep_len ho, List.length_map]
            have := sum_ptx all1 l2
            have lds := (gd_tuple hg).1
            rw [List.length_cons] at lds
            omega
end
end Fv


namespace Fv
open PySem PySem.Spec PyProof.Rows L2 FvX TL
/-! ### reading, as the program reads: a mirror over code points -/
/-- k signs from at on -/
def sub (T : List Nat) (at' k : Nat) : Str := ⟨((T.drop at').take k).toArray⟩
theorem tl_sub (T : List Nat) (a k : Nat) : tl (sub T a k) = (T.drop a).take k := rfl
theorem cut_sub (z : Str) (a k : Nat) : cutS z (some (a : Int)) (some ((a : Int) + (k : Nat))) = sub (tl z) a k := by
  refine ext_tl ?_
  have e : ((a : Int) + (k : Nat)) = ((a + k : Nat) : Int) := by omega
  rw [tl_sub, e]
  show ((z.cps.toList.drop (HT.sIx z.length 0 (some (a : Int)))).take (HT.sIx z.length z.length (some ((a + k : Nat) : Int)) - HT.sIx z.length 0 (some (a : Int)))) = _
  rw [HT.sIx_nat, HT.sIx_nat]
  have hl : z.length = (tl z).length := len_tl z
  have hl2 : z.length = z.cps.toList.length := len_tl z
  by_cases h : a ≤ z.length
  · rw [Nat.min_eq_left h]
    by_cases h2 : a + k ≤ z.length
    · rw [Nat.min_eq_left h2, Nat.add_sub_cancel_left]
    · rw [Nat.min_eq_right (by omega), List.take_of_length_le (by rw [List.length_drop]; omega), List.take_of_length_le (by rw [List.length_drop]; omega)]
  · rw [Nat.min_eq_right (by omega : z.length ≤ a), List.drop_of_length_le (by omega), List.drop_of_length_le (by omega), List.take_nil, List.take_nil]
theorem sub_len (T : List Nat) (a k : Nat) : (sub T a k).length ≤ k := by
  rw [len_tl, tl_sub, List.length_take]; omega
theorem sub_in {T : List Nat} {a k n : Nat} (h : (sub T a k).length = n) (hn : 0 < n) : a + n ≤ T.length := by
  rw [len_tl, tl_sub, List.length_take, List.length_drop] at h
  omega
def rdL (P : Nat → Option (PyData × Nat)) (T : List Nat) (sg : Str) : Nat → Nat → List PyData → Option (List PyData × Nat)
  | 0, _, _ => none
  | f + 1, a, acc => if sub T a 3 = sg then (match P (a + 3) with
    | none => none
    | some (d, e) => rdL P T sg f e (acc ++ [d])) else some (acc, a)
def sgn (s : Str) : Str := if s = " & " then "&" else "|"
def isSg (s : Str) : Prop := s = " & " ∨ s = " | "
instance (s : Str) : Decidable (isSg s) := inferInstanceAs (Decidable (_ ∨ _))
def rdT (P : Nat → Option (PyData × Nat)) (T : List Nat) (a : Nat) : Option (PyData × Nat) := match P a with
  | none => none
  | some (d, e) => if isSg (sub T e 3) then (match rdL P T (sub T e 3) (T.length + 1 - e) e [d] with
      | none => none
      | some (ds, e') => some (.tuple (.str (sgn (sub T e 3)) :: ds), e')) else if isLd d = true then some (d, e) else none
def rdP (T : List Nat) : Nat → Nat → Option (PyData × Nat)
  | 0 => fun a => if isL (sub T a 1) = true then some (.str (sub T a 1), a + 1) else none
  | n + 1 => fun a => if isL (sub T a 1) = true then some (.str (sub T a 1), a + 1) else if sub T a 1 = "(" then (match rdT (rdP T n) T (a + 1) with
      | none => none
      | some (d, e) => if isLd d = true ∨ sub T e 1 ≠ ")" then none else some (d, e + 1)) else none
theorem isL_one {x : Str} (h : isL x = true) : x ∈ (["a", "b", "c", "d", "e", "f", "g", "h"] : List Str) := by
  have hl := isL_len h
  rw [len_tl] at hl
  obtain ⟨c, ec⟩ : ∃ c, tl x = [c] := by
    match tl x, hl with
    | [c], _ => exact ⟨c, rfl⟩
  have ex : x = ⟨#[c]⟩ := ext_tl (by rw [ec])
  subst ex
  unfold isL at h
  rw [Bool.and_eq_true] at h
  have h2 := h.2
  rw [PySem.StrLaws.found_one, decide_eq_true_eq] at h2
  have e : ("abcdefgh" : Str).cps.toList = [97, 98, 99, 100, 101, 102, 103, 104] := by decide +kernel
  rw [e] at h2
  have all : ∀ c ∈ ([97, 98, 99, 100, 101, 102, 103, 104] : List Nat), (⟨#[c]⟩ : Str) ∈ (["a", "b", "c", "d", "e", "f", "g", "h"] : List Str) := by decide +kernel
  exact all c h2
theorem isL_gd {x : Str} (h : isL x = true) (n : Nat) : gd n (.str x) = true := gd_le (isL_lett (isL_one h)).2 (Nat.zero_le _)
theorem sg_len {s : Str} (h : isSg s) : s.length = 3 := by rcases h with h | h <;> rw [h] <;> decide +kernel
/-- what a reading of parts promises -/
def PFine (T : List Nat) (n : Nat) (P : Nat → Option (PyData × Nat)) : Prop := ∀ a d e, P a = some (d, e) → a < e ∧ e ≤ T.length ∧ gd n d = true
theorem rdL_fine {T : List Nat} {n : Nat} {P : Nat → Option (PyData × Nat)} (hP : PFine T n P) {sg : Str} (hs : sg.length = 3) : ∀ (f a : Nat) (acc ds : List PyData) (e : Nat), rdL P T sg f a acc = some (ds, e) →
    (∀ d ∈ acc, gd n d = true) → 4 * acc.length ≤ a + 3 → a ≤ T.length → (∀ d ∈ ds, gd n d = true) ∧ 4 * ds.length ≤ e + 3 ∧ a ≤ e ∧ e ≤ T.length
  | 0, a, acc, ds, e, h, _, _, _ => by cases h
  | f + 1, a, acc, ds, e, h, hg, hl, ha => by
    unfold rdL at h
    by_cases c : sub T a 3 = sg
    · rw [if_pos c] at h
      cases hp : P (a + 3) with
      | none => rw [hp] at h; cases h
      | some r =>
        obtain ⟨d, e1⟩ := r
        rw [hp] at h
        obtain ⟨h1, h2, h3⟩ := hP _ _ _ hp
        have z := rdL_fine hP hs f e1 (acc ++ [d]) ds e h (fun x hx => by
          rcases List.mem_append.mp hx with q | q
          · exact hg x q
          · rw [List.mem_singleton.mp q]; exact h3) (by rw [List.length_append, List.length_singleton]; omega) h2
        exact ⟨z.1, z.2.1, by omega, z.2.2.2⟩
    · rw [if_neg c] at h
      cases h
      exact ⟨hg, hl, Nat.le_refl _, ha⟩
theorem rdT_fine {T : List Nat} {n : Nat} {P : Nat → Option (PyData × Nat)} (hT : T.length ≤ 2900) (hP : PFine T n P) : PFine T (n + 1) (rdT P T) := by
  intro a d e h
  unfold rdT at h
  cases hp : P a with
  | none => rw [hp] at h; cases h
  | some r =>
    obtain ⟨d1, e1⟩ := r
    rw [hp] at h
    obtain ⟨h1, h2, h3⟩ := hP _ _ _ hp
    dsimp only at h
    by_cases c : isSg (sub T e1 3)
    · rw [if_pos c] at h
      cases hr : rdL P T (sub T e1 3) (T.length + 1 - e1) e1 [d1] with
      | none => rw [hr] at h; cases h
      | some r =>
        obtain ⟨ds, e2⟩ := r
        rw [hr] at h
        cases h
        obtain ⟨z1, z2, z3, z4⟩ := rdL_fine hP (sg_len c) _ _ _ _ _ hr (fun x hx => by rw [List.mem_singleton.mp hx]; exact h3) (by rw [List.length_singleton]; omega) h2
        refine ⟨by omega, z4, gd_tup (fun x hx => ?_) (by rw [List.length_cons]; omega)⟩
        rcases List.mem_cons.mp hx with q | q
        · rw [q]
          refine gd_le (n := 0) ?_ (Nat.zero_le _)
          unfold sgn
          split <;> decide +kernel
        · exact z1 x q
    · rw [if_neg c] at h
      by_cases c2 : isLd d1 = true
      · rw [if_pos c2] at h
        cases h
        exact ⟨h1, h2, gd_up _ _ h3⟩
      · rw [if_neg c2] at h; cases h
theorem rdP_fine {T : List Nat} (hT : T.length ≤ 2900) : ∀ n : Nat, PFine T n (rdP T n)
  | 0 => fun a d e h => by
    unfold rdP at h
    by_cases c : isL (sub T a 1) = true
    · rw [if_pos c] at h
      cases h
      exact ⟨by omega, sub_in (isL_len c) (by decide), isL_gd c _⟩
    · rw [if_neg c] at h; cases h
  | n + 1 => fun a d e h => by
    unfold rdP at h
    by_cases c : isL (sub T a 1) = true
    · rw [if_pos c] at h
      cases h
      exact ⟨by omega, sub_in (isL_len c) (by decide), isL_gd c _⟩
    · rw [if_neg c] at h
      by_cases c2 : sub T a 1 = "("
      · rw [if_pos c2] at h
        cases hr : rdT (rdP T n) T (a + 1) with
        | none => rw [hr] at h; cases h
        | some r =>
          obtain ⟨d1, e1⟩ := r
          rw [hr] at h
          dsimp only at h
          obtain ⟨h1, h2, h3⟩ := rdT_fine hT (rdP_fine hT n) _ _ _ hr
          by_cases c3 : isLd d1 = true ∨ sub T e1 1 ≠ ")"
          · rw [if_pos c3] at h; cases h
          · rw [if_neg c3] at h
            cases h
            have c4 : sub T e1 1 = ")" := Classical.not_not.mp fun z => c3 (.inr z)
            exact ⟨by omega, sub_in (by rw [c4]; decide +kernel) (by decide), h3⟩
      · rw [if_neg c2] at h; cases h
theorem sub_ok {x : Str} (h : PyData.strOk x = true) (a k : Nat) : PyData.strOk (sub (tl x) a k) = true := by
  unfold PyData.strOk at h ⊢
  rw [← Array.all_toList, List.all_eq_true] at h ⊢
  intro c hc
  exact h c (List.mem_of_mem_drop (List.mem_of_mem_take hc))
theorem sub_gd {x : Str} (h : PyData.strOk x = true) (a k : Nat) (hk : k ≤ 3) (n : Nat) : gd n (.str (sub (tl x) a k)) = true := by
  refine gd_le (n := 0) ?_ (Nat.zero_le _)
  have := sub_len (tl x) a k
  show (PyData.strOk (sub (tl x) a k) && decide ((sub (tl x) a k).length ≤ 100000)) = true
  rw [sub_ok h, decide_eq_true (by omega)]
  rfl
theorem cut1 (z : Str) (a : Nat) : cutS z (some (a : Int)) (some ((a : Int) + 1)) = sub (tl z) a 1 := cut_sub z a 1
theorem cut3 (z : Str) (a : Nat) : cutS z (some (a : Int)) (some ((a : Int) + 3)) = sub (tl z) a 3 := cut_sub z a 3
theorem sub_one {T : List Nat} {a : Nat} (h : (sub T a 1).length = 1) : ∃ c, T[a]? = some c ∧ sub T a 1 = ⟨#[c]⟩ := by
  have hl := sub_in h (by decide)
  refine ⟨T[a], List.getElem?_eq_getElem (by omega), ext_tl ?_⟩
  rw [tl_sub, List.drop_eq_getElem_cons (by omega)]
  rfl
def outR (K : PySem.W.Frag) (CT : Addr) (M : List Addr) (r : Option (PyData × Nat)) (H : Hp) (Q : VK) (E : XK) : Prop :=
  (∀ d e, r = some (d, e) → ∀ (H' : Hp) (p : Addr) (v : V), Same H H' → H' p = some (.tup [v, .int (e : Nat)]) → Dp K (hide M H') v d → Q (.ref p) H') ∧ (r = none → errAt CT "InvalidText" H E)
def spRdP (K : PySem.W.Frag) (CT : Addr) (n : Nat) : Sp := fun vs H Q E => ∃ (x : Str) (a m : Nat) (M : List Addr), vs = [.str x, .int (a : Nat), .int (m : Nat)] ∧ x.length ≤ 2900 ∧ PyData.strOk x = true ∧ m < n ∧ Trk M H ∧ outR K CT M (rdP (tl x) m a) H Q E
def spRdT (K : PySem.W.Frag) (CT : Addr) (n : Nat) : Sp := fun vs H Q E => ∃ (x : Str) (a m : Nat) (M : List Addr), vs = [.str x, .int (a : Nat), .int (m : Nat)] ∧ x.length ≤ 2900 ∧ PyData.strOk x = true ∧ m < n ∧ Trk M H ∧ outR K CT M (rdT (rdP (tl x) m) (tl x) a) H Q E
theorem vs3 {x : Str} {i j : Int} {a m : Nat} (h : i = (a : Nat)) (g : j = (m : Nat)) : [V.str x, V.int i, V.int j] = [.str x, .int (a : Nat), .int (m : Nat)] := by rw [h, g]
end Fv


namespace Fv
open PySem PySem.Spec PyProof.Rows L2 FvX TL
-- top 27  slots: 0:text 1:at 2:levels 3:part
abbrev s_read_part : Stmt := topS 27
abbrev N_read_part : List Str := ["text", "at", "levels", "part"]
theorem sc_read_part : FnScope N_read_part ["text", "at", "levels"] (defScope s_read_part) := ⟨rfl, rfl, rfl, by decide +kernel, rfl, by decide +kernel, by decide +kernel⟩

section
variable {P : Program} {w : World} {K : PySem.W.Frag} {mg : Str → Option Value} {base : Heap} {CT fI oS : Addr} {qual msg : Str} {q : ErrPos} {j1 j2 : Nat}
theorem fit900 {x : Str} (h : x.length ≤ 2900) : x.length ≤ sizeLine := Nat.le_trans h (by decide)
theorem rdT_zero {f : Addr} {fd : FuncData} {k : Nat} {ps : List Str} : FnOk P w K mg base (L2.CX P w) k f fd ps (spRdT K CT 0) := by
  have no : ∀ vs H Q E, ¬ spRdT K CT 0 vs H Q E := fun vs H Q E h => by
    obtain ⟨x, a, m, M, _, _, _, h, _⟩ := h
    omega
  exact ⟨fun vs H Q E h => absurd h (no vs H Q E), fun A outer s H args us vs Q E _ _ _ _ h => absurd h (no vs H Q E)⟩
theorem ok_read_part {f : Addr} {fd : FuncData} {k n : Nat} (F : Fun K "read_part" "read_part" s_read_part f fd) (hk : 1 ≤ k) (T_IX : ErrC P.main.file K CT fI qual q msg "InvalidText" j1 j2) (hline : LineOk q msg j1) (htop : (P.main.scope.names.lookup ("super" : Str)).isSome = false) (m_super : mg "super" = none) (g_IX : mg "InvalidText" = some (.ref CT))
    (C_is_letter : Own P w K mg base 1 "is_letter" ["value"] (spIsLetter K)) (C_read_term : OwnR P w K mg base k "read_term" (spRdT K CT n)) (hn : n ≤ 10) :
    FnOk P w K mg base (L2.CX P w) (k + 1) f fd ["text", "at", "levels"] (spRdP K CT (n + 1)) := by
  refine F.okX sc_read_part (fun vs H Q E h => ?_) (fun cdv A outer s H vs Q E hr h => ?_)
  · obtain ⟨x, a, m, M, rfl, _⟩ := h
    rfl
  · obtain ⟨x, a, m, M, rfl, hx, hok, hm, tM, o1, o2⟩ := h
    refine ⟨_, (pss_cons (ps_if (pt_val (pe_own C_is_letter (hr.mono (by omega)) (by rfl) (pa_cons (pe_slice sl_str (pv 0) (po_some (pv 1)) (po_some (pe_op op_add (pv 1) pe_int))) pa_nil)))
        (pss_one (ps_ret (pe_tup (pa_cons (pe_ix ix_str (pv 0) (pv 1) (fun _ _ => rfl)) (pa_cons (pe_op op_add (pv 1) pe_int) pa_nil)))))
        pss_nil)
      (pss_cons (ps_if (PW.pt (pw_or (pt_cmpR op_eq (pv 2) pe_int (nomark _)) (pw_or1 (pt_cmpR op_ne (pe_slice sl_str (pv 0) (po_some (pv 1)) (po_some (pe_op op_add (pv 1) pe_int))) pe_str (nomark _)))))
        (pss_one (ps_raise rfl (takes_of rfl rfl rfl rfl) (pmk_err0 (k := 0) T_IX hline htop m_super (hr.mono (by omega)) (by rfl) g_IX)))
        pss_nil)
      (pss_cons (ps_asg (pe_ownR C_read_term (hr.mono (by omega)) (by rfl) passX (pa_cons (pv 0) (pa_cons (pe_op op_add (pv 1) pe_int) (pa_cons (pe_op op_sub (pv 2) pe_int) pa_nil)))) (pg_tup rfl (pgs_cons (pg_name (i := 3) sc_read_part.nd rfl (by first | exact .inl rfl | exact .inr rfl)) (pgs_cons (pg_name (i := 1) sc_read_part.nd rfl (by first | exact .inl rfl | exact .inr rfl)) pgs_nil))))
      (pss_cons (ps_if (PW.pt (pw_or (pt_val (pe_own C_is_letter (hr.mono (by omega)) (by rfl) (pa_cons (pv 3) pa_nil))) (pw_or1 (pt_cmpR op_ne (pe_slice sl_str (pv 0) (po_some (pv 1)) (po_some (pe_op op_add (pv 1) pe_int))) pe_str (nomark _)))))
        (pss_one (ps_raise rfl (takes_of rfl rfl rfl rfl) (pmk_err0 (k := 0) T_IX hline htop m_super (hr.mono (by omega)) (by rfl) g_IX)))
        pss_nil)
      (pss_one (ps_ret (pe_tup (pa_cons (pv 3) (pa_cons (pe_op op_add (pv 1) pe_int) pa_nil))))))))), ?_⟩
    have hT : (tl x).length ≤ 2900 := by rw [← len_tl]; exact hx
    refine ⟨_, rfl, _, rfl, _, rfl, _, rfl, _, _, rfl, rfl, _, rfl, x, rfl, fit900 hx, _, _, rfl, .str _, (by rw [cut1]; exact sub_gd hok _ _ (by decide) _), _, rfl, ?_⟩
    show if isL (cutS x (some (a : Int)) (some ((a : Int) + 1))) = true then _ else _
    rw [cut1]
    by_cases c : isL (sub (tl x) a 1) = true
    · rw [if_pos c]
      obtain ⟨ch, h1, h2⟩ := sub_one (isL_len c)
      refine ⟨_, rfl, _, rfl, x, _, ch, rfl, rfl, fit900 hx, atI_nat h1, _, rfl, _, _, rfl, rfl, (by show 2 ≤ sizeLine; decide), fun p np => ?_⟩
      refine o1 (.str (sub (tl x) a 1)) (a + 1) ?_ _ p (.str (sub (tl x) a 1)) (same_upd np) ?_ (.str _)
      · cases m with
        | zero => unfold rdP; rw [if_pos c]
        | succ m => unfold rdP; rw [if_pos c]
      · rw [upd_same, h2]
        rfl
    · rw [if_neg c]
      cases m with
      | zero =>
        have e0 : rdP (tl x) 0 a = none := by unfold rdP; rw [if_neg c]
        refine ⟨_, rfl, rfl, _, rfl, ?_⟩
        refine iteT (iteT fun dd nd => ?_)
        exact o2 e0 _ dd (same_upd nd) upd_same
      | succ m =>
        refine ⟨_, rfl, rfl, _, rfl, ?_⟩
        rw [show decide (V.int ((m + 1 : Nat) : Int) = V.int 0) = false from decide_eq_false (fun z => by have := V.int.inj z; omega)]
        refine iteF ?_
        refine ⟨_, rfl, _, rfl, _, rfl, _, rfl, _, _, rfl, rfl, _, rfl, x, rfl, fit900 hx, rfl, _, rfl, ?_⟩
        rw [cut1]
        unfold rdP at o1 o2
        rw [if_neg c] at o1 o2
        by_cases c2 : sub (tl x) a 1 = "("
        · rw [if_pos c2] at o1 o2
          rw [c2, show (!decide (V.str "(" = V.str "(")) = false from by rw [decide_eq_true rfl]; rfl]
          refine iteF ?_
          refine ⟨_, rfl, _, rfl, _, _, rfl, rfl, _, rfl, _, _, rfl, rfl, x, a + 1, m, M, vs3 (by omega) (by omega), hx, hok, by omega, tM, fun d e hr2 H' p v s' hp hd => ?_, fun hr2 => ?_⟩
          · rw [hr2] at o1 o2
            dsimp only at o1 o2
            obtain ⟨f1, f2, f3⟩ := rdT_fine hT (rdP_fine hT m) _ _ _ hr2
            refine ⟨p, _, rfl, SqT.of hp, rfl, _, _, rfl, _, _, rfl, rfl, ?_⟩
            have hd' : Dp K H' v d := dp_same hide_same d v hd
            refine ⟨_, rfl, v, d, rfl, hd', gd_le f3 (by omega), _, rfl, ?_⟩
            refine ite2 (fun c3 => ?_) (fun c3 => ?_)
            · refine iteT fun dd nd => ?_
              rw [if_pos (.inl c3)] at o2
              exact o2 rfl _ dd (s'.trans (same_upd nd)) upd_same
            · refine ⟨_, rfl, _, rfl, _, rfl, _, rfl, _, _, rfl, rfl, _, rfl, x, rfl, fit900 hx, rfl, _, rfl, ?_⟩
              rw [cut1]
              by_cases c4 : sub (tl x) e 1 = ")"
              · rw [if_neg (fun z => z.elim c3 (fun y => y c4))] at o1
                rw [c4, show (!decide (V.str ")" = V.str ")")) = false from by rw [decide_eq_true rfl]; rfl]
                refine iteF ⟨_, rfl, _, rfl, _, _, rfl, rfl, (by show 2 ≤ sizeLine; decide), fun p2 np2 => ?_⟩
                refine o1 d (e + 1) rfl _ p2 v (s'.trans (same_upd np2)) ?_ (dp_same (hid_new np2) d v hd)
                rw [upd_same]
                rfl
              · rw [if_pos (.inr c4)] at o2
                rw [show (!decide (V.str (sub (tl x) e 1) = V.str ")")) = true from by rw [decide_eq_false (fun z => c4 (V.str.inj z))]; rfl]
                refine iteT fun dd nd => ?_
                exact o2 rfl _ dd (s'.trans (same_upd nd)) upd_same
          · rw [hr2] at o2
            exact o2 rfl
        · rw [if_neg c2] at o2
          rw [show (!decide (V.str (sub (tl x) a 1) = V.str "(")) = true from by rw [decide_eq_false (fun z => c2 (V.str.inj z))]; rfl]
          refine iteT fun dd nd => ?_
          exact o2 rfl _ dd (same_upd nd) upd_same
end
end Fv


namespace Fv
open PySem PySem.Spec PyProof.Rows L2 FvX TL
-- top 26  slots: 0:text 1:at 2:levels 3:first 4:sign 5:parts 6:part
abbrev s_read_term : Stmt := topS 26
abbrev N_read_term : List Str := ["text", "at", "levels", "first", "sign", "parts", "part"]
theorem sc_read_term : FnScope N_read_term ["text", "at", "levels"] (defScope s_read_term) := ⟨rfl, rfl, rfl, by decide +kernel, rfl, by decide +kernel, by decide +kernel⟩

def WR (K : PySem.W.Frag) (x : Str) (m : Nat) (v : V) (sg : Str) (L : Addr) (M : List Addr) (H : Hp) (R : Option (List PyData × Nat)) : Nat → L2.St → Hp → Prop := fun f σ H1 => ∃ (a : Nat) (acc : List PyData) (vs : List V) (y6 : Option V),
  σ = [some (.str x), some (.int (a : Nat)), some (.int (m : Nat)), some v, some (.str sg), some (.ref L), y6] ∧ H1 L = some (.lst vs) ∧ DpAll K (hide (L :: M) H1) vs acc ∧ 4 * acc.length ≤ a + 3 ∧ a ≤ x.length ∧ x.length + 1 - a ≤ f ∧
  rdL (rdP (tl x) m) (tl x) sg f a acc = R ∧ Same H H1
theorem in_sg (s : Str) : (!([PyData.str " & ", .str " | "] : List PyData).any fun z => PyData.eqv z (.str s)) = !decide (isSg s) := by
  congr 1
  simp only [List.any_cons, List.any_nil, Bool.or_false, PyData.eqv]
  rw [Bool.eq_iff_iff, decide_eq_true_eq, Bool.or_eq_true, beq_iff_eq, beq_iff_eq]
  exact ⟨fun h => h.imp Eq.symm Eq.symm, fun h => h.imp Eq.symm Eq.symm⟩
theorem sg_at {s : Str} (h : isSg s) : ∃ c, (tl s)[1]? = some c ∧ (⟨#[c]⟩ : Str) = sgn s := by
  rcases h with h | h <;> subst h
  · exact ⟨38, by decide +kernel, by decide +kernel⟩
  · exact ⟨124, by decide +kernel, by decide +kernel⟩
section
variable {P : Program} {w : World} {K : PySem.W.Frag} {mg : Str → Option Value} {base : Heap} {CT fI oS : Addr} {qual msg : Str} {q : ErrPos} {j1 j2 : Nat}
theorem ok_read_term {f : Addr} {fd : FuncData} {k n : Nat} (F : Fun K "read_term" "read_term" s_read_term f fd) (hk : 1 ≤ k) (T_IX : ErrC P.main.file K CT fI qual q msg "InvalidText" j1 j2) (hline : LineOk q msg j1) (htop : (P.main.scope.names.lookup ("super" : Str)).isSome = false) (m_super : mg "super" = none) (g_IX : mg "InvalidText" = some (.ref CT))
    (g_SIGNS : mg "SIGNS" = some (.ref oS)) (hS : ∀ H : Hp, SqT K H oS [.str " & ", .str " | "])
    (C_is_letter : Own P w K mg base 1 "is_letter" ["value"] (spIsLetter K)) (C_read_part : OwnR P w K mg base k "read_part" (spRdP K CT n)) (hn : n ≤ 10) :
    FnOk P w K mg base (L2.CX P w) (k + 1) f fd ["text", "at", "levels"] (spRdT K CT n) := by
  refine F.okX sc_read_term (fun vs H Q E h => ?_) (fun cdv A outer s H vs Q E hr h => ?_)
  · obtain ⟨x, a, m, M, rfl, _⟩ := h
    rfl
  · obtain ⟨x, a, m, M, rfl, hx, hok, hm, tM, o1, o2⟩ := h
    refine ⟨_, (pss_cons (ps_asg (pe_ownR C_read_part (hr.mono (by omega)) (by rfl) passX (pa_cons (pv 0) (pa_cons (pv 1) (pa_cons (pv 2) pa_nil)))) (pg_tup rfl (pgs_cons (pg_name (i := 3) sc_read_term.nd rfl (by first | exact .inl rfl | exact .inr rfl)) (pgs_cons (pg_name (i := 1) sc_read_term.nd rfl (by first | exact .inl rfl | exact .inr rfl)) pgs_nil))))
      (pss_cons (ps_set (i := 4) sc_read_term.nd rfl (by first | exact .inl rfl | exact .inr rfl) (pe_slice sl_str (pv 0) (po_some (pv 1)) (po_some (pe_op op_add (pv 1) pe_int))))
      (pss_cons (ps_if (pt_cmpR (op_notInT (hu65 hr)) (pv 4) (pe_glob (v := .ref oS) (by rfl) g_SIGNS (rfl)) (by rfl))
        (pss_cons (ps_if (pt_not (pt_val (pe_own C_is_letter (hr.mono (by omega)) (by rfl) (pa_cons (pv 3) pa_nil))))
          (pss_one (ps_raise rfl (takes_of rfl rfl rfl rfl) (pmk_err0 (k := 0) T_IX hline htop m_super (hr.mono (by omega)) (by rfl) g_IX)))
          pss_nil)
        (pss_one (ps_ret (pe_tup (pa_cons (pv 3) (pa_cons (pv 1) pa_nil))))))
        pss_nil)
      (pss_cons (ps_set (i := 5) sc_read_term.nd rfl (by first | exact .inl rfl | exact .inr rfl) (pe_lst (pa_cons (pv 3) pa_nil)))
      (pss_cons (ps_while (passes_of rfl) (pt_cmpR op_eq (pe_slice sl_str (pv 0) (po_some (pv 1)) (po_some (pe_op op_add (pv 1) pe_int))) (pv 4) (nomark _))
        (pss_cons (ps_asg (pe_ownR C_read_part (hr.mono (by omega)) (by rfl) passX (pa_cons (pv 0) (pa_cons (pe_op op_add (pv 1) pe_int) (pa_cons (pv 2) pa_nil)))) (pg_tup rfl (pgs_cons (pg_name (i := 6) sc_read_term.nd rfl (by first | exact .inl rfl | exact .inr rfl)) (pgs_cons (pg_name (i := 1) sc_read_term.nd rfl (by first | exact .inl rfl | exact .inr rfl)) pgs_nil))))
        (pss_one (ps_expr (pe_bm PySem.F.plainAttrs_list PySem.F.slot_list_append PySem.F.type_list_append mt_append (pv 5) (pa_cons (pv 6) pa_nil))))))
      (pss_one (ps_ret (pe_tup (pa_cons (pe_tup (pa_cons (pe_ix ix_str (pv 4) pe_int (fun _ _ => rfl)) (StX.pa_star (pv 5) pa_nil))) (pa_cons (pv 1) pa_nil)))))))))), ?_⟩
    have hT : (tl x).length ≤ 2900 := by rw [← len_tl]; exact hx
    have lx : x.length = (tl x).length := len_tl x
    unfold rdT at o1 o2
    refine ⟨_, rfl, _, rfl, _, rfl, x, a, m, M, rfl, hx, hok, hm, tM, fun d e hr1 H1 p v s1 hp hd => ?_, fun hr1 => ?_⟩
    · rw [hr1] at o1 o2
      dsimp only at o1 o2
      obtain ⟨f1, f2, f3⟩ := rdP_fine hT m _ _ _ hr1
      refine ⟨p, _, rfl, SqT.of hp, rfl, _, _, rfl, _, _, rfl, rfl, ?_⟩
      have hd' : Dp K H1 v d := dp_same hide_same d v hd
      refine ⟨_, rfl, _, rfl, _, rfl, _, rfl, _, _, rfl, rfl, _, rfl, x, rfl, fit900 hx, ?_⟩
      rw [cut3]
      refine ⟨_, rfl, .str (sub (tl x) e 3), _, .str _, .tup (hS _) (.cons (.str _) (.cons (.str _) .nil)), gd_shaped (sub_gd hok e 3 (by decide) 1) (by decide), by decide +kernel, _, rfl, ?_⟩
      rw [in_sg]
      by_cases c : isSg (sub (tl x) e 3)
      · rw [if_pos c] at o1 o2
        rw [decide_eq_true c]
        refine iteF ⟨_, rfl, (by show 1 ≤ sizeLine; decide), fun L nL => ?_⟩
        have sL := same_upd (o := .lst [v]) nL
        have tM1 : Trk M H1 := tM.same s1
        have LM : L ∉ M := tM1.ne nL
        have d0 : Dp K (hide (L :: M) (upd H1 L (.lst [v]))) v d := dp_same (fun b o' hb => by
          obtain ⟨m1, e1⟩ := hide_some hb
          have bL : b ≠ L := ne_of_none e1 nL
          rw [hide_ne (fun z => by
            rcases List.mem_cons.mp z with z | z
            · exact bL z
            · exact m1 z), upd_ne bL]
          exact e1) d v hd
        have HL : H L = none := by
          cases hh : H L with
          | none => rfl
          | some o' => rw [s1 _ _ hh] at nL; cases nL
        obtain ⟨R, hR0⟩ : ∃ R, rdL (rdP (tl x) m) (tl x) (sub (tl x) e 3) ((tl x).length + 1 - e) e [d] = R := ⟨_, rfl⟩
        rw [hR0] at o1 o2
        refine ⟨WR K x m v (sub (tl x) e 3) L M H R, ⟨(tl x).length + 1 - e, e, [d], [v], none, rfl, upd_same, .cons d0 .nil, by rw [List.length_singleton]; omega, by omega, by omega, hR0, s1.trans sL⟩, ?_⟩
        rintro fu σ H2 ⟨a2, acc, vs, y6, rfl, hL2, hA2, l2, a2x, hfu, hR, s2⟩
        refine ⟨_, rfl, _, rfl, _, rfl, _, rfl, _, _, rfl, rfl, _, rfl, x, rfl, fit900 hx, _, rfl, rfl, _, rfl, ?_⟩
        rw [cut3]
        obtain ⟨fu, rfl⟩ : ∃ g, fu = g + 1 := ⟨fu - 1, by omega⟩
        have hR' := hR
        unfold rdL at hR'
        have la := dpAll_len hA2
        by_cases c2 : sub (tl x) a2 3 = sub (tl x) e 3
        · rw [if_pos c2] at hR'
          rw [decide_eq_true (congrArg V.str c2), if_pos rfl]
          refine ⟨WR K x m v (sub (tl x) e 3) L M H R fu, fun σ' H' h => ⟨fu, by omega, h⟩, ?_⟩
          have tML : Trk (L :: M) H2 := fun b hb => by
            rcases List.mem_cons.mp hb with z | z
            · rw [z]; exact ⟨_, hL2⟩
            · exact (tM.same s2) b z
          refine ⟨_, rfl, _, rfl, _, _, rfl, rfl, _, rfl, x, a2 + 3, m, L :: M, vs3 (by omega) rfl, hx, hok, hm, tML, fun d3 e3 hr3 H3 p3 v3 s3 hp3 hd3 => ?_, fun hr3 => ?_⟩
          · rw [hr3] at hR'
            dsimp only at hR'
            obtain ⟨g1, g2, g3⟩ := rdP_fine hT m _ _ _ hr3
            have hL3 : H3 L = some (.lst vs) := s3 _ _ hL2
            refine ⟨p3, _, rfl, SqT.of hp3, rfl, _, _, rfl, _, _, rfl, rfl, ?_⟩
            refine ⟨_, rfl, .inl ⟨rfl, _, SqL.of hL3⟩, _, rfl, L, vs, _, rfl, rfl, hL3, ?_, ?_⟩
            · exact Nat.lt_of_lt_of_le (by omega : vs.length < 1000) (by decide)
            · have hid : Same (hide (L :: M) H2) (hide (L :: M) (upd H3 L (.lst (vs ++ [v3])))) := (SmX.put (SmX.of_same s3) (List.mem_cons_self ..)).hid
              have hid3 : Same (hide (L :: M) H3) (hide (L :: M) (upd H3 L (.lst (vs ++ [v3])))) := (SmX.put (SmX.refl _ _) (List.mem_cons_self ..)).hid
              refine ⟨e3, acc ++ [d3], vs ++ [v3], _, rfl, upd_same, dpAll_app (dpAll_same hid _ _ hA2) (.cons (dp_same hid3 _ _ hd3) .nil), by rw [List.length_append, List.length_singleton]; omega, by omega, by omega, hR', fun b o' hb => ?_⟩
              rw [upd_ne (ne_of_none hb HL)]
              exact s3 _ _ (s2 _ _ hb)
          · rw [hr3] at hR'
            rw [← hR'] at o2
            exact (o2 rfl).mono s2
        · rw [if_neg c2] at hR'
          rw [decide_eq_false (fun z => c2 (V.str.inj z)), if_neg (fun z => by cases z)]
          rw [← hR'] at o1
          dsimp only at o1
          obtain ⟨ch, h1, h2⟩ := sg_at c
          refine ⟨_, rfl, _, _, ch, rfl, rfl, Nat.le_trans (sub_len _ _ _) (by decide), atI_nat h1, _, rfl, L, vs, rfl, .inr (SqL.of hL2), ?_, fun p3 np3 => ?_⟩
          · show (vs ++ []).length + 1 ≤ sizeLine
            rw [List.append_nil]
            exact le1000 (by omega)
          rw [List.append_nil, h2]
          have s3 := same_upd (o := .tup (.str (sgn (sub (tl x) e 3)) :: vs)) np3
          refine ⟨_, rfl, (by show 2 ≤ sizeLine; decide), fun p4 np4 => ?_⟩
          have s4 := same_upd (o := .tup [.ref p3, .int (a2 : Nat)]) np4
          have tM2 : Trk M H2 := tM.same s2
          have hidA : Same (hide (L :: M) H2) (hide M (upd H2 p3 (.tup (.str (sgn (sub (tl x) e 3)) :: vs)))) := (hide_sub fun b hb => List.mem_cons_of_mem _ hb).trans (hid_new np3)
          have D3 : Dp K (hide M (upd H2 p3 (.tup (.str (sgn (sub (tl x) e 3)) :: vs)))) (.ref p3) (.tuple (.str (sgn (sub (tl x) e 3)) :: acc)) := .tup (SqT.of (hid_at tM2 np3)) (.cons (.str _) (dpAll_same hidA _ _ hA2))
          exact o1 _ a2 rfl _ p4 (.ref p3) (s2.trans (s3.trans s4)) upd_same (dp_same (hid_new np4) _ _ D3)
      · rw [if_neg c] at o1 o2
        rw [decide_eq_false c]
        refine iteT ⟨_, rfl, v, d, rfl, hd', gd_le f3 (by omega), _, rfl, ?_⟩
        by_cases c3 : isLd d = true
        · rw [if_pos c3] at o1
          rw [c3]
          refine iteF ⟨_, rfl, _, rfl, (by show 2 ≤ sizeLine; decide), fun p2 np2 => ?_⟩
          exact o1 d e rfl _ p2 v (s1.trans (same_upd np2)) upd_same (dp_same (hid_new np2) d v hd)
        · rw [if_neg c3] at o2
          rw [Bool.eq_false_iff.mpr c3]
          refine iteT fun dd nd => ?_
          exact o2 rfl _ dd (s1.trans (same_upd nd)) upd_same
    · rw [hr1] at o2
      exact o2 rfl
end
end Fv


namespace Fv
open PySem PySem.Spec PyProof.Rows L2 FvX TL
-- top 25  slots: 0:text 1:term 2:end
abbrev s_parse_term : Stmt := topS 25
abbrev N_parse_term : List Str := ["text", "term", "end"]
theorem sc_parse_term : FnScope N_parse_term ["text"] (defScope s_parse_term) := ⟨rfl, rfl, rfl, by decide +kernel, rfl, by decide +kernel, by decide +kernel⟩



/-- what parse_term makes of a text -/
def prs (x : Str) : Option PyData := match rdT (rdP (tl x) 5) (tl x) 0 with
  | none => none
  | some (d, e) => if e < x.length ∨ tmB d = false then none else some d
def spParse (K : PySem.W.Frag) (CT : Addr) : Sp := fun vs H Q E => ∃ (x : Str) (M : List Addr), vs = [.str x] ∧ x.length ≤ 2900 ∧ PyData.strOk x = true ∧ Trk M H ∧
  (∀ d, prs x = some d → ∀ (H' : Hp) (v : V), Same H H' → Dp K (hide M H') v d → Q v H') ∧ (prs x = none → errAt CT "InvalidText" H E)
def spLong (K : PySem.W.Frag) (CT : Addr) : Sp := fun vs H Q E => ∃ (v : V) (d : PyData), vs = [v] ∧ Dp K H v d ∧ gd 20 d = true ∧
  (∀ dp sz, meas 9 d 600 = some (dp, sz) → ∀ (H' : Hp) (p : Addr), Same H H' → H' p = some (.tup [.int dp, .int sz]) → Q (.ref p) H') ∧ (meas 9 d 600 = none → errAt CT "InvalidTerm" H E)
def spFormat (K : PySem.W.Frag) (CT : Addr) : Sp := fun vs H Q E => ∃ (v : V) (d : PyData), vs = [v] ∧ Dp K H v d ∧ gd 20 d = true ∧
  ((meas 9 d 600).isSome = true → ∀ H', Same H H' → Q (.str (txt d)) H') ∧ (meas 9 d 600 = none → errAt CT "InvalidTerm" H E)
section
variable {P : Program} {w : World} {K : PySem.W.Frag} {mg : Str → Option Value} {base : Heap} {CT fI oS : Addr} {qual msg : Str} {q : ErrPos} {j1 j2 : Nat}
theorem ok_parse_term {f : Addr} {fd : FuncData} {k : Nat} (F : Fun K "parse_term" "parse_term" s_parse_term f fd) (m_len : mg "len" = none) {t5 : Tok} (g_MAX_DEPTH : mg "MAX_DEPTH" = some (.int 5 t5)) (hk : 1 ≤ k) (T_IX : ErrC P.main.file K CT fI qual q msg "InvalidText" j1 j2) (hline : LineOk q msg j1) (htop : (P.main.scope.names.lookup ("super" : Str)).isSome = false) (m_super : mg "super" = none) (g_IX : mg "InvalidText" = some (.ref CT))
    (C_T0 : OwnD P w K mg base k "is_term" PsT [.int 5, .int 24] (spIsTerm K)) (C_read_term : OwnR P w K mg base k "read_term" (spRdT K CT 6)) :
    FnOk P w K mg base (L2.CX P w) (k + 1) f fd ["text"] (spParse K CT) := by
  refine F.okX sc_parse_term (fun vs H Q E h => ?_) (fun cdv A outer s H vs Q E hr h => ?_)
  · obtain ⟨x, M, rfl, _⟩ := h
    rfl
  · obtain ⟨x, M, rfl, hx, hok, tM, o1, o2⟩ := h
    refine ⟨_, (pss_cons (ps_asg (pe_ownR C_read_term (hr.mono (by omega)) (by rfl) passX (pa_cons (pv 0) (pa_cons pe_int (pa_cons (pe_glob (v := .int 5) (by rfl) g_MAX_DEPTH (⟨_, rfl⟩)) pa_nil)))) (pg_tup rfl (pgs_cons (pg_name (i := 1) sc_parse_term.nd rfl (by first | exact .inl rfl | exact .inr rfl)) (pgs_cons (pg_name (i := 2) sc_parse_term.nd rfl (by first | exact .inl rfl | exact .inr rfl)) pgs_nil))))
      (pss_cons (ps_if (PW.pt (pw_or (pt_cmpR op_lt (pv 2) (pe_callB call_len_str (by rfl) m_len (by decide +kernel) (pa_cons (pv 0) pa_nil)) (nomark _)) (pw_or1 (pt_not (pt_val (pe_ownD C_T0 (hr.mono (by omega)) (by rfl) (pa_cons (pv 1) pa_nil)))))))
        (pss_one (ps_raise rfl (takes_of rfl rfl rfl rfl) (pmk_err0 (k := 0) T_IX hline htop m_super (hr.mono (by omega)) (by rfl) g_IX)))
        pss_nil)
      (pss_one (ps_ret (pv 1))))), ?_⟩
    have hT : (tl x).length ≤ 2900 := by rw [← len_tl]; exact hx
    unfold prs at o1 o2
    refine ⟨_, rfl, x, 0, 5, M, rfl, hx, hok, by decide, tM, fun d e hr1 H1 p v s1 hp hd => ?_, fun hr1 => ?_⟩
    · rw [hr1] at o1 o2
      dsimp only at o1 o2
      obtain ⟨f1, f2, f3⟩ := rdT_fine hT (rdP_fine hT 5) _ _ _ hr1
      have hd' : Dp K H1 v d := dp_same hide_same d v hd
      refine ⟨p, _, rfl, SqT.of hp, rfl, _, _, rfl, _, _, rfl, rfl, ?_⟩
      refine ⟨_, rfl, _, rfl, _, rfl, (fit900 hx), _, _, rfl, rfl, _, rfl, ?_⟩
      refine ite2 (fun c => ?_) (fun c => ?_)
      · have c' : e < x.length := by have := of_decide_eq_true c; omega
        rw [if_pos (.inl c')] at o2
        refine iteT fun dd nd => ?_
        exact o2 rfl _ dd (s1.trans (same_upd nd)) upd_same
      · have c' : ¬ e < x.length := by have := of_decide_eq_false (Bool.eq_false_iff.mpr c); omega
        refine ⟨_, rfl, v, d, 5, 24, rfl, hd', gd_le f3 (by decide), by decide, by decide, fun H2 s2 => ⟨_, rfl, ?_⟩⟩
        cases ht : tmB d with
        | true =>
          rw [show (meas (5 : Int).toNat d 24).isSome = true from ht]
          rw [if_neg (fun z => z.elim c' (fun y => by rw [ht] at y; cases y))] at o1
          exact iteF ⟨_, rfl, o1 d rfl H2 v (s1.trans s2) (dp_same (SmX.of_same s2).hid d v hd)⟩
        | false =>
          rw [show (meas (5 : Int).toNat d 24).isSome = false from ht]
          rw [if_pos (.inr ht)] at o2
          refine iteT fun dd nd => ?_
          exact o2 rfl _ dd (s1.trans (s2.trans (same_upd nd))) upd_same
    · rw [hr1] at o2
      exact o2 rfl
end
end Fv


namespace Fv
open PySem PySem.Spec PyProof.Rows L2 FvX TL
/-! ### reading the text of a term gives the term -/
theorem drop_add {T u v : List Nat} {a : Nat} (h : T.drop a = u ++ v) : T.drop (a + u.length) = v := by
  rw [← List.drop_drop, h, List.drop_left]
theorem sub_eq {T u v : List Nat} {a : Nat} {s : Str} (h : T.drop a = u ++ v) (hs : tl s = u) : sub T a u.length = s := by
  refine ext_tl ?_
  rw [tl_sub, h, List.take_left, hs]
theorem sub_eq1 {T v : List Nat} {a c : Nat} (h : T.drop a = c :: v) : sub T a 1 = ⟨#[c]⟩ := by
  refine ext_tl ?_
  rw [tl_sub, h]
  rfl
theorem joinL_flat (S p : List Nat) : ∀ ps : List (List Nat), joinL S (p :: ps) = p ++ ps.flatMap (fun x => S ++ x)
  | [] => by simp [joinL]
  | q :: ps => by
    have e : joinL S (p :: q :: ps) = p ++ (S ++ joinL S (q :: ps)) := rfl
    rw [e, joinL_flat S q ps, List.flatMap_cons, List.append_assoc]
theorem isL_nopar {x : Str} (h : isL x = true) : x ≠ "(" := fun e => by
  rw [e] at h
  have : isL "(" = false := by decide +kernel
  rw [this] at h
  cases h
theorem tl_par (x : Str) : tl (("(" : Str) ++ x ++ ")") = 40 :: (tl x ++ [41]) := by
  rw [tl_append, tl_append]
  rfl
theorem rdL_txt {T : List Nat} {P : Nat → Option (PyData × Nat)} {sg : Str} (hs : sg.length = 3) : ∀ (ds : List PyData) (f a : Nat) (acc : List PyData) (rest : List Nat),
    (∀ d ∈ ds, ∀ b r, T.drop b = tl (ptx d) ++ r → P b = some (d, b + (ptx d).length)) → T.drop a = ((ds.map ptx).map tl).flatMap (fun x => tl sg ++ x) ++ rest → rest.take 3 ≠ tl sg → ds.length < f →
    rdL P T sg f a acc = some (acc ++ ds, a + (((ds.map ptx).map tl).flatMap (fun x => tl sg ++ x)).length)
  | [], f, a, acc, rest, _, h, hr, hf => by
    obtain ⟨f, rfl⟩ : ∃ g, f = g + 1 := ⟨f - 1, by simp at hf; omega⟩
    have h' : T.drop a = rest := h
    have e : sub T a 3 ≠ sg := fun z => hr (by rw [← h', ← z]; rfl)
    unfold rdL
    rw [if_neg e]
    simp
  | d :: ds, f, a, acc, rest, hP, h, hr, hf => by
    rw [List.length_cons] at hf
    obtain ⟨f, rfl⟩ : ∃ g, f = g + 1 := ⟨f - 1, by omega⟩
    rw [List.map_cons, List.map_cons, List.flatMap_cons] at h ⊢
    have l3 : (tl sg).length = 3 := by rw [← len_tl]; exact hs
    have h1 : T.drop a = tl sg ++ (tl (ptx d) ++ (((ds.map ptx).map tl).flatMap (fun x => tl sg ++ x) ++ rest)) := by
      rw [h]; simp only [List.append_assoc]
    have e : sub T a 3 = sg := by
      have := sub_eq (s := sg) h1 rfl
      rw [l3] at this
      exact this
    have h2 := drop_add h1
    rw [l3] at h2
    have h3 := drop_add h2
    have hp := hP d (List.mem_cons_self ..) _ _ h2
    unfold rdL
    rw [if_pos e, hp]
    dsimp only
    have l4 : (ptx d).length = (tl (ptx d)).length := len_tl _
    rw [l4]
    rw [rdL_txt hs ds f _ (acc ++ [d]) rest (fun x hx => hP x (List.mem_cons_of_mem _ hx)) h3 hr (by omega)]
    rw [List.append_assoc, List.length_append, List.length_append, l3]
    simp only [List.singleton_append, Option.some.injEq, Prod.mk.injEq, true_and]
    omega
theorem sg_of {o : Str} (ho : o = "&" ∨ o = "|") : isSg (" " ++ o ++ " ") ∧ sgn (" " ++ o ++ " ") = o ∧ ∀ rest : List Nat, rest = [] ∨ rest.head? = some 41 → rest.take 3 ≠ tl (" " ++ o ++ " ") := by
  have key : ∀ c : Nat, ∀ rest : List Nat, rest = [] ∨ rest.head? = some 41 → rest.take 3 ≠ [32, c, 32] := fun c rest h e => by
    rcases h with h | h
    · rw [h] at e; cases e
    · cases rest with
      | nil => cases h
      | cons r rs =>
        cases h
        rw [List.take_succ_cons] at e
        cases e
  rcases ho with ho | ho <;> subst ho
  · refine ⟨.inl (by decide +kernel), by decide +kernel, ?_⟩
    have e : tl (" " ++ "&" ++ " ") = [32, 38, 32] := by decide +kernel
    rw [e]; exact key 38
  · refine ⟨.inr (by decide +kernel), by decide +kernel, ?_⟩
    have e : tl (" " ++ "|" ++ " ") = [32, 124, 32] := by decide +kernel
    rw [e]; exact key 124
theorem flat_len {S : List Nat} (hS : 1 ≤ S.length) : ∀ l : List (List Nat), l.length ≤ (l.flatMap fun x => S ++ x).length
  | [] => Nat.zero_le _
  | x :: l => by
    have := flat_len hS l
    rw [List.flatMap_cons, List.length_append, List.length_append, List.length_cons]
    omega
theorem rdT_txt {T : List Nat} {n : Nat} {P : Nat → Option (PyData × Nat)} {o : Str} {ds : List PyData} (ho : o = "&" ∨ o = "|") (h2 : 2 ≤ ds.length)
    (hP : ∀ d ∈ ds, ∀ b r, T.drop b = tl (ptx d) ++ r → P b = some (d, b + (ptx d).length)) {a : Nat} {rest : List Nat} (h : T.drop a = tl (txt (.tuple (.str o :: ds))) ++ rest) (hr : rest = [] ∨ rest.head? = some 41) :
    rdT P T a = some (.tuple (.str o :: ds), a + (txt (.tuple (.str o :: ds))).length) := by
  obtain ⟨s1, s2, s3⟩ := sg_of ho
  have l3 : (tl (" " ++ o ++ " ")).length = 3 := by rw [← len_tl]; exact sep_len ho
  cases ds with
  | nil => simp at h2
  | cons d ds =>
    rw [List.length_cons] at h2
    rw [txt_tup, join_eq, tl_join, List.map_cons, List.map_cons, joinL_flat] at h
    rw [txt_tup, join_eq, len_tl (Str.join _ _), tl_join, List.map_cons, List.map_cons, joinL_flat]
    have h1 : T.drop a = tl (ptx d) ++ (((ds.map ptx).map tl).flatMap (fun x => tl (" " ++ o ++ " ") ++ x) ++ rest) := by rw [h, List.append_assoc]
    have hp := hP d (List.mem_cons_self ..) _ _ h1
    have hd := drop_add h1
    have l4 : (ptx d).length = (tl (ptx d)).length := len_tl _
    unfold rdT
    rw [hp]
    dsimp only
    rw [l4]
    have e : sub T (a + (tl (ptx d)).length) 3 = " " ++ o ++ " " := by
      cases ds with
      | nil => simp at h2
      | cons d2 ds2 =>
        rw [List.map_cons, List.map_cons, List.flatMap_cons] at hd
        have hd' : T.drop (a + (tl (ptx d)).length) = tl (" " ++ o ++ " ") ++ (tl (ptx d2) ++ (((ds2.map ptx).map tl).flatMap (fun x => tl (" " ++ o ++ " ") ++ x) ++ rest)) := by
          rw [hd]; simp only [List.append_assoc]
        have := sub_eq (s := " " ++ o ++ " ") hd' rfl
        rw [l3] at this
        exact this
    rw [e, if_pos s1]
    have fu : ds.length < T.length + 1 - (a + (tl (ptx d)).length) := by
      have hl := congrArg List.length hd
      rw [List.length_drop, List.length_append] at hl
      have := flat_len (S := tl (" " ++ o ++ " ")) (by omega) ((ds.map ptx).map tl)
      rw [List.length_map, List.length_map] at this
      omega
    rw [rdL_txt (sep_len ho) ds _ _ [d] rest (fun x hx => hP x (List.mem_cons_of_mem _ hx)) hd (s3 rest hr) fu]
    dsimp only
    rw [s2, List.length_append]
    simp only [List.singleton_append, Option.some.injEq, Prod.mk.injEq, true_and]
    omega
theorem rdP_txt : ∀ (n : Nat) (d : PyData), 1 ≤ lmeas (n + 1) d → ∀ (T : List Nat) (a : Nat) (rest : List Nat), T.drop a = tl (ptx d) ++ rest → rdP T n a = some (d, a + (ptx d).length)
  | n, d, h, T, a, rest, hd => by
    rcases lmeas_inv h with ⟨x, rfl, hx⟩ | ⟨o, ds, rfl, nl, ho, h2, all1, e⟩
    · have ep : ptx (.str x) = x := by unfold ptx; rw [if_pos (show isLd (.str x) = true from hx), txt_str]
      rw [ep] at hd ⊢
      have es := sub_eq (s := x) hd rfl
      rw [← len_tl, isL_len hx] at es
      rw [isL_len hx]
      cases n with
      | zero => unfold rdP; rw [es, if_pos hx]
      | succ n => unfold rdP; rw [es, if_pos hx]
    · have ep : ptx (.tuple (.str o :: ds)) = "(" ++ txt (.tuple (.str o :: ds)) ++ ")" := by unfold ptx; rw [if_neg (by rw [nl]; decide)]
      cases n with
      | zero =>
        cases ds with
        | nil => simp at h2
        | cons d ds =>
          have := all1 d (List.mem_cons_self ..)
          simp only [lmeas] at this
          omega
      | succ n =>
        rw [ep, tl_par] at hd
        rw [ep, par_len]
        have e1 : sub T a 1 = "(" := sub_eq1 hd
        have nL : ¬ isL (sub T a 1) = true := fun z => isL_nopar z e1
        have hd1 : T.drop (a + 1) = tl (txt (.tuple (.str o :: ds))) ++ (41 :: rest) := by
          have z := drop_add (u := [40]) (v := tl (txt (.tuple (.str o :: ds))) ++ [41] ++ rest) hd
          rw [List.append_assoc] at z
          exact z
        have hT := rdT_txt (n := n) (P := rdP T n) ho h2 (fun d hd b r hb => rdP_txt n d (all1 d hd) T b r hb) hd1 (.inr rfl)
        have hd2 := drop_add hd1
        rw [← len_tl] at hd2
        have e2 : sub T (a + 1 + (txt (.tuple (.str o :: ds))).length) 1 = ")" := sub_eq1 hd2
        unfold rdP
        rw [if_neg nL, if_pos e1, hT]
        dsimp only
        rw [if_neg (fun z => z.elim (fun y => by rw [nl] at y; cases y) (fun y => y e2))]
        simp only [Option.some.injEq, Prod.mk.injEq, true_and]
        omega
theorem prs_txt {d : PyData} (h : tmB d = true) : prs (txt d) = some d := by
  obtain ⟨h1, h2⟩ := (tmB_iff d).mp h
  have fin : rdT (rdP (tl (txt d)) 5) (tl (txt d)) 0 = some (d, (txt d).length) → prs (txt d) = some d := fun e => by
    unfold prs
    rw [e]
    dsimp only
    rw [if_neg (fun z => z.elim (fun y => Nat.lt_irrefl _ y) (fun y => by rw [h] at y; cases y))]
  refine fin ?_
  rcases lmeas_inv h1 with ⟨x, rfl, hx⟩ | ⟨o, ds, rfl, nl, ho, h3, all1, e⟩
  · rw [txt_str]
    have ep : ptx (.str x) = x := by unfold ptx; rw [if_pos (show isLd (.str x) = true from hx), txt_str]
    have l6 : 1 ≤ lmeas 6 (.str x) := by rw [lmeas_up 5 _ h1]; exact h1
    have hp := rdP_txt 5 (.str x) l6 (tl x) 0 [] (by rw [ep, List.append_nil]; rfl)
    rw [ep, Nat.zero_add] at hp
    unfold rdT
    rw [hp]
    dsimp only
    have es : sub (tl x) x.length 3 = "" := by
      refine ext_tl ?_
      rw [tl_sub, len_tl, List.drop_length, List.take_nil]
      rfl
    rw [es, if_neg (by decide +kernel), if_pos (show isLd (.str x) = true from hx)]
  · have hp := rdT_txt (n := 5) (T := tl (txt (.tuple (.str o :: ds)))) (P := rdP (tl (txt (.tuple (.str o :: ds)))) 5) ho h3 (fun d hd b r hb => rdP_txt 5 d (by
      have a4 := all1 d hd
      have a5 : lmeas 5 d = lmeas 4 d := lmeas_up 4 d a4
      have a6 : lmeas 6 d = lmeas 5 d := lmeas_up 5 d (by rw [a5]; exact a4)
      show 1 ≤ lmeas 6 d
      rw [a6, a5]
      exact a4) _ b r hb) (a := 0) (rest := []) (by rw [List.append_nil]; rfl) (.inl rfl)
    rw [hp, Nat.zero_add]
theorem app_ok {x y : Str} (hx : PyData.strOk x = true) (hy : PyData.strOk y = true) : PyData.strOk (x ++ y) = true := by
  unfold PyData.strOk at *
  rw [← Array.all_toList, List.all_eq_true] at *
  intro c hc
  have hc' : c ∈ tl (x ++ y) := hc
  rw [tl_append] at hc'
  rcases List.mem_append.mp hc' with z | z
  · exact hx c z
  · exact hy c z
theorem join_ok {s : Str} (hs : PyData.strOk s = true) : ∀ {l : List Str}, (∀ x ∈ l, PyData.strOk x = true) → PyData.strOk (Str.join s l) = true
  | [], _ => by show PyData.strOk Str.empty = true; decide +kernel
  | [x], h => h x (List.mem_cons_self ..)
  | x :: y :: r, h => app_ok (app_ok (h x (List.mem_cons_self ..)) hs) (join_ok hs fun z hz => h z (List.mem_cons_of_mem _ hz))
theorem txt_ok : ∀ (n : Nat) (d : PyData), 1 ≤ lmeas n d → PyData.strOk (txt d) = true
  | 0, d, h => by simp only [lmeas] at h; omega
  | n + 1, d, h => by
    rcases lmeas_inv h with ⟨x, rfl, hx⟩ | ⟨o, ds, rfl, nl, ho, h2, all1, e⟩
    · rw [txt_str]
      have := isL_gd hx 0
      have z : (PyData.strOk x && decide (x.length ≤ 100000)) = true := this
      rw [Bool.and_eq_true] at z
      exact z.1
    · rw [txt_tup, join_eq]
      refine join_ok ?_ fun x hx => ?_
      · rcases ho with ho | ho <;> subst ho <;> decide +kernel
      · obtain ⟨d, hd, rfl⟩ := List.mem_map.mp hx
        have := txt_ok n d (all1 d hd)
        unfold ptx
        split
        · exact this
        · exact app_ok (app_ok (by decide +kernel) this) (by decide +kernel)
end Fv


namespace Fv
open PySem PySem.Spec PyProof.Rows L2 FvX TL
/-! ### values with their data; odd values -/
def GE (K : PySem.W.Frag) (n : Nat) (M : List Addr) (H : Hp) (v : V) (d : PyData) : Prop := Dp K (hide M H) v d ∧ gd n d = true
def GVN (K : PySem.W.Frag) (M : List Addr) (H : Hp) (v : V) : Prop := ∃ d, Dp K (hide M H) v d ∧ gd 12 d = true ∧ lmeas 9 d = 0
inductive GEs (K : PySem.W.Frag) (n : Nat) (M : List Addr) (H : Hp) : List V → List PyData → Prop where
  | nil : GEs K n M H [] []
  | cons {v d vs ds} (h : GE K n M H v d) (t : GEs K n M H vs ds) : GEs K n M H (v :: vs) (d :: ds)
section
variable {K : PySem.W.Frag} {n m : Nat} {M : List Addr} {H H' : Hp} {v : V} {d : PyData}
theorem GE.same (g : GE K n M H v d) (s : Same H H') : GE K n M H' v d := ⟨dp_same (SmX.of_same s).hid d v g.1, g.2⟩
theorem GE.up (g : GE K n M H v d) (h : n ≤ m) : GE K m M H v d := ⟨g.1, gd_le g.2 h⟩
theorem GE.str {x : Str} (h : gd 0 (.str x) = true) : GE K n M H (.str x) (.str x) := ⟨.str x, gd_le h (Nat.zero_le _)⟩
theorem GE.int (i : Int) : GE K n M H (.int i) (.int i) := ⟨.int i, gd_le (n := 0) rfl (Nat.zero_le _)⟩
theorem GE.bl (b : Bool) : GE K n M H (.bl b) (.bool b) := ⟨.bl b, gd_le (n := 0) rfl (Nat.zero_le _)⟩
theorem GE.non : GE K n M H .non .none := ⟨.non, gd_le (n := 0) rfl (Nat.zero_le _)⟩
theorem ges_all : ∀ {xs : List V} {ds : List PyData}, GEs K n M H xs ds → DpAll K (hide M H) xs ds ∧ ∀ d ∈ ds, gd n d = true
  | _, _, .nil => ⟨.nil, fun d h => nomatch h⟩
  | _, _, .cons h t => by
    obtain ⟨h1, h2⟩ := ges_all t
    refine ⟨.cons h.1 h1, fun e he => ?_⟩
    rcases List.mem_cons.mp he with z | z
    · rw [z]; exact h.2
    · exact h2 e z
theorem GE.tup {p : Addr} {xs : List V} {ds : List PyData} (hM : Trk M H) (np : H p = none) (h : GEs K n M H xs ds) (hl : xs.length ≤ 1000) : GE K (n + 1) M (upd H p (.tup xs)) (.ref p) (.tuple ds) := by
  obtain ⟨h1, h2⟩ := ges_all h
  exact ⟨.tup (SqT.of (hid_at hM np)) (dpAll_same (hid_new np) _ _ h1), gd_tup h2 (by rw [← dpAll_len h1]; exact hl)⟩
theorem GE.lst {p : Addr} {xs : List V} {ds : List PyData} (hM : Trk M H) (np : H p = none) (h : GEs K n M H xs ds) (hl : xs.length ≤ 1000) : GE K (n + 1) M (upd H p (.lst xs)) (.ref p) (.list ds) := by
  obtain ⟨h1, h2⟩ := ges_all h
  exact ⟨.lst (SqL.of (hid_at hM np)) (dpAll_same (hid_new np) _ _ h1), gd_lst h2 (by rw [← dpAll_len h1]; exact hl)⟩
theorem GVN.of (g : GE K n M H v d) (h : n ≤ 12) (z : lmeas 9 d = 0) : GVN K M H v := ⟨d, g.1, gd_le g.2 h, z⟩
end
theorem zp {o x : PyData} {ds : List PyData} (hx : x ∈ ds) (h : lmeas 8 x = 0) : lmeas 9 (.tuple (o :: ds)) = 0 := by
  have e : lmeas 9 (.tuple (o :: ds)) = if isCd (.tuple (o :: ds)) = true then (if (0 : Int) ∈ ds.map (lmeas 8) then 0 else (ds.map (lmeas 8)).sum) else 0 := by
    show (if isLd (.tuple (o :: ds)) = true then (1 : Int) else _) = _
    rw [if_neg (fun z => by cases z)]
    rfl
  rw [e, if_pos (List.mem_map.mpr ⟨x, hx, h⟩)]
  split <;> rfl
theorem zo {o : PyData} {ds : List PyData} (h : isOp o = false) : lmeas 9 (.tuple (o :: ds)) = 0 := by
  have e : lmeas 9 (.tuple (o :: ds)) = if isCd (.tuple (o :: ds)) = true then (if (0 : Int) ∈ ds.map (lmeas 8) then 0 else (ds.map (lmeas 8)).sum) else 0 := by
    show (if isLd (.tuple (o :: ds)) = true then (1 : Int) else _) = _
    rw [if_neg (fun z => by cases z)]
    rfl
  have e2 : isCd (.tuple (o :: ds)) = (decide (2 ≤ ds.length) && isOp o) := rfl
  rw [e, e2, h, Bool.and_false, if_neg (fun z => by cases z)]
def spOddN (K : PySem.W.Frag) : Sp := fun vs H Q _ => ∃ (a L : Addr) (ns : List Int) (v : V) (M : List Addr), vs = [.ref a, v] ∧ Src H a L ns ∧ GV K 9 M H v ∧ a ∈ M ∧ Trk M H ∧
  ∀ (H' : Hp) (v' : V), GVN K M H' v' → Src H' a L ns → SmX [a] H H' → Q v' H'
end Fv


namespace Fv
open PySem PySem.Spec PyProof.Rows L2 FvX TL
section
variable {P : Program} {w : World} {K : PySem.W.Frag} {mg : Str → Option Value} {base : Heap}
theorem ok_oddN {f : Addr} {fd : FuncData} {k : Nat} (F : Fun K "_law_odd" "_law_odd" s_law_odd f fd) (hk : 2 ≤ k)
    (C_law_pick : Own P w K mg base 2 "_law_pick" ["_law_source_here", "_law_row"] spPick)
    (C_law_nest : Own P w K mg base 1 "_law_nest" ["_law_many"] (spNest K)) :
    FnOk P w K mg base CX0 (k + 1) f fd ["_law_source_here", "_law_word"] (spOddN K) := by
  refine F.ok sc_law_odd (fun vs H Q E h => ?_) (fun cdv A outer s H vs Q E hr h => ?_)
  · obtain ⟨a, L, ns, v, M, rfl, _⟩ := h
    rfl
  · obtain ⟨a, L, ns, v, M, rfl, hs, gw, aM, t0, q⟩ := h
    obtain ⟨dw, hw1, hw2⟩ := gw
    have gw : GE K 9 M H v dw := ⟨hw1, hw2⟩
    have a0 : Same H H := Same.refl H
    refine ⟨_, (pss_cons (ps_set (i := 2) sc_law_odd.nd rfl (by first | exact .inl rfl | exact .inr rfl) (pe_lst (pa_cons pe_non (pa_cons pe_int (pa_cons pe_str (pa_cons pe_str (pa_cons pe_str (pa_cons pe_str (pa_cons (pe_tup pa_nil) (pa_cons (pe_tup (pa_cons pe_str pa_nil)) (pa_cons (pe_tup (pa_cons pe_str (pa_cons pe_str pa_nil))) (pa_cons (pe_tup (pa_cons pe_str (pa_cons pe_str (pa_cons pe_str pa_nil)))) (pa_cons (pe_tup (pa_cons pe_str (pa_cons pe_str (pa_cons pe_str pa_nil)))) (pa_cons (pe_lst (pa_cons pe_str (pa_cons pe_str (pa_cons pe_str pa_nil)))) pa_nil))))))))))))))
      (pss_cons (ps_set (i := 2) sc_law_odd.nd rfl (by first | exact .inl rfl | exact .inr rfl) (pe_op op_cat (pv 2) (pe_lst (pa_cons (pe_tup (pa_cons pe_str (pa_cons pe_str (pa_cons pe_non pa_nil)))) (pa_cons (pe_tup (pa_cons pe_str (pa_cons (pv 1) (pa_cons (pe_tup (pa_cons pe_str (pa_cons pe_str pa_nil))) pa_nil)))) (pa_cons (pe_tup (pa_cons (pv 1) pa_nil)) (pa_cons (pe_tup (pa_cons pe_str (pa_cons (pe_tup (pa_cons pe_str (pa_cons pe_str pa_nil))) (pa_cons (pv 1) pa_nil)))) (pa_cons (pe_tup (pa_cons pe_bl (pa_cons pe_str (pa_cons pe_str pa_nil)))) pa_nil))))))))
      (pss_cons (ps_set (i := 2) sc_law_odd.nd rfl (by first | exact .inl rfl | exact .inr rfl) (pe_op op_cat (pv 2) (pe_lst (pa_cons (pe_tup (pa_cons pe_str (pa_cons (pe_lst (pa_cons pe_str pa_nil)) (pa_cons (pv 1) pa_nil)))) (pa_cons (pe_tup (pa_cons pe_str (pa_cons (pv 1) (pa_cons pe_str pa_nil)))) (pa_cons (pe_tup (pa_cons pe_str (pa_cons (pv 1) (pa_cons (pv 1) pa_nil)))) (pa_cons (pe_tup (pa_cons (pe_tup (pa_cons pe_str (pa_cons pe_str (pa_cons pe_str pa_nil)))) (pa_cons pe_str (pa_cons pe_str pa_nil)))) (pa_cons (pe_own C_law_nest (hr.mono (by omega)) (by rfl) (pa_cons pe_int pa_nil)) pa_nil))))))))
      (pss_one (ps_ret (pe_own C_law_pick (hr.mono (by omega)) (by rfl) (pa_cons (pv 0) (pa_cons (pv 2) pa_nil)))))))), ?_⟩
    refine ⟨(by show 0 ≤ sizeLine; decide), fun p1 n1 => ?_⟩
    have s1 := same_upd (o := .tup []) n1
    have g1 : GE K 1 M _ (.ref p1) _ := GE.tup (n := 0) (xs := []) t0 n1 GEs.nil (Nat.le_of_ble_eq_true rfl)
    have a1 := a0.trans s1
    have t1 := t0.same s1
    refine ⟨(by show 1 ≤ sizeLine; decide), fun p2 n2 => ?_⟩
    have s2 := same_upd (o := .tup [.str "&"]) n2
    have g2 : GE K 1 M _ (.ref p2) _ := GE.tup (n := 0) (xs := [.str "&"]) t1 n2 (GEs.cons (GE.str (x := "&") (by decide +kernel)) GEs.nil) (Nat.le_of_ble_eq_true rfl)
    have a2 := a1.trans s2
    have t2 := t1.same s2
    refine ⟨(by show 2 ≤ sizeLine; decide), fun p3 n3 => ?_⟩
    have s3 := same_upd (o := .tup [.str "&", .str "a"]) n3
    have g3 : GE K 1 M _ (.ref p3) _ := GE.tup (n := 0) (xs := [.str "&", .str "a"]) t2 n3 (GEs.cons (GE.str (x := "&") (by decide +kernel)) (GEs.cons (GE.str (x := "a") (by decide +kernel)) GEs.nil)) (Nat.le_of_ble_eq_true rfl)
    have a3 := a2.trans s3
    have t3 := t2.same s3
    refine ⟨(by show 3 ≤ sizeLine; decide), fun p4 n4 => ?_⟩
    have s4 := same_upd (o := .tup [.str "|", .str "a", .str "z"]) n4
    have g4 : GE K 1 M _ (.ref p4) _ := GE.tup (n := 0) (xs := [.str "|", .str "a", .str "z"]) t3 n4 (GEs.cons (GE.str (x := "|") (by decide +kernel)) (GEs.cons (GE.str (x := "a") (by decide +kernel)) (GEs.cons (GE.str (x := "z") (by decide +kernel)) GEs.nil))) (Nat.le_of_ble_eq_true rfl)
    have a4 := a3.trans s4
    have t4 := t3.same s4
    refine ⟨(by show 3 ≤ sizeLine; decide), fun p5 n5 => ?_⟩
    have s5 := same_upd (o := .tup [.str "and", .str "a", .str "b"]) n5
    have g5 : GE K 1 M _ (.ref p5) _ := GE.tup (n := 0) (xs := [.str "and", .str "a", .str "b"]) t4 n5 (GEs.cons (GE.str (x := "and") (by decide +kernel)) (GEs.cons (GE.str (x := "a") (by decide +kernel)) (GEs.cons (GE.str (x := "b") (by decide +kernel)) GEs.nil))) (Nat.le_of_ble_eq_true rfl)
    have a5 := a4.trans s5
    have t5 := t4.same s5
    refine ⟨(by show 3 ≤ sizeLine; decide), fun p6 n6 => ?_⟩
    have s6 := same_upd (o := .lst [.str "&", .str "a", .str "b"]) n6
    have g6 : GE K 1 M _ (.ref p6) _ := GE.lst (n := 0) (xs := [.str "&", .str "a", .str "b"]) t5 n6 (GEs.cons (GE.str (x := "&") (by decide +kernel)) (GEs.cons (GE.str (x := "a") (by decide +kernel)) (GEs.cons (GE.str (x := "b") (by decide +kernel)) GEs.nil))) (Nat.le_of_ble_eq_true rfl)
    have a6 := a5.trans s6
    have t6 := t5.same s6
    refine ⟨(by show 12 ≤ sizeLine; decide), fun l1 nl1 => ?_⟩
    have s7 := same_upd (o := .lst [.non, .int 3, .str "", .str "i", .str "A", .str "ab", .ref p1, .ref p2, .ref p3, .ref p4, .ref p5, .ref p6]) nl1
    have a7 := a6.trans s7
    have t7 := t6.same s7
    refine ⟨_, rfl, ?_⟩
    refine ⟨(by show 3 ≤ sizeLine; decide), fun p8 n8 => ?_⟩
    have s8 := same_upd (o := .tup [.str "&", .str "a", .non]) n8
    have g8 : GE K 1 M _ (.ref p8) _ := GE.tup (n := 0) (xs := [.str "&", .str "a", .non]) t7 n8 (GEs.cons (GE.str (x := "&") (by decide +kernel)) (GEs.cons (GE.str (x := "a") (by decide +kernel)) (GEs.cons GE.non GEs.nil))) (Nat.le_of_ble_eq_true rfl)
    have a8 := a7.trans s8
    have t8 := t7.same s8
    refine ⟨_, rfl, ?_⟩
    refine ⟨(by show 2 ≤ sizeLine; decide), fun p9 n9 => ?_⟩
    have s9 := same_upd (o := .tup [.str "a", .str "b"]) n9
    have g9 : GE K 1 M _ (.ref p9) _ := GE.tup (n := 0) (xs := [.str "a", .str "b"]) t8 n9 (GEs.cons (GE.str (x := "a") (by decide +kernel)) (GEs.cons (GE.str (x := "b") (by decide +kernel)) GEs.nil)) (Nat.le_of_ble_eq_true rfl)
    have a9 := a8.trans s9
    have t9 := t8.same s9
    refine ⟨(by show 3 ≤ sizeLine; decide), fun p10 n10 => ?_⟩
    have s10 := same_upd (o := .tup [.str "&", v, .ref p9]) n10
    have g10 : GE K 10 M _ (.ref p10) _ := GE.tup (n := 9) (xs := [.str "&", v, .ref p9]) t9 n10 (GEs.cons (GE.str (x := "&") (by decide +kernel)) (GEs.cons (gw.same a9) (GEs.cons (g9.up (by decide)) GEs.nil))) (Nat.le_of_ble_eq_true rfl)
    have a10 := a9.trans s10
    have t10 := t9.same s10
    refine ⟨_, rfl, ?_⟩
    refine ⟨(by show 1 ≤ sizeLine; decide), fun p11 n11 => ?_⟩
    have s11 := same_upd (o := .tup [v]) n11
    have g11 : GE K 10 M _ (.ref p11) _ := GE.tup (n := 9) (xs := [v]) t10 n11 (GEs.cons (gw.same a10) GEs.nil) (Nat.le_of_ble_eq_true rfl)
    have a11 := a10.trans s11
    have t11 := t10.same s11
    refine ⟨(by show 2 ≤ sizeLine; decide), fun p12 n12 => ?_⟩
    have s12 := same_upd (o := .tup [.str "|", .str "b"]) n12
    have g12 : GE K 1 M _ (.ref p12) _ := GE.tup (n := 0) (xs := [.str "|", .str "b"]) t11 n12 (GEs.cons (GE.str (x := "|") (by decide +kernel)) (GEs.cons (GE.str (x := "b") (by decide +kernel)) GEs.nil)) (Nat.le_of_ble_eq_true rfl)
    have a12 := a11.trans s12
    have t12 := t11.same s12
    refine ⟨_, rfl, ?_⟩
    refine ⟨(by show 3 ≤ sizeLine; decide), fun p13 n13 => ?_⟩
    have s13 := same_upd (o := .tup [.str "&", .ref p12, v]) n13
    have g13 : GE K 10 M _ (.ref p13) _ := GE.tup (n := 9) (xs := [.str "&", .ref p12, v]) t12 n13 (GEs.cons (GE.str (x := "&") (by decide +kernel)) (GEs.cons (g12.up (by decide)) (GEs.cons (gw.same a12) GEs.nil))) (Nat.le_of_ble_eq_true rfl)
    have a13 := a12.trans s13
    have t13 := t12.same s13
    refine ⟨(by show 3 ≤ sizeLine; decide), fun p14 n14 => ?_⟩
    have s14 := same_upd (o := .tup [.bl true, .str "a", .str "b"]) n14
    have g14 : GE K 1 M _ (.ref p14) _ := GE.tup (n := 0) (xs := [.bl true, .str "a", .str "b"]) t13 n14 (GEs.cons (GE.bl _) (GEs.cons (GE.str (x := "a") (by decide +kernel)) (GEs.cons (GE.str (x := "b") (by decide +kernel)) GEs.nil))) (Nat.le_of_ble_eq_true rfl)
    have a14 := a13.trans s14
    have t14 := t13.same s14
    refine ⟨(by show 5 ≤ sizeLine; decide), fun m0 nm0 => ?_⟩
    have s15 := same_upd (o := .lst [.ref p8, .ref p10, .ref p11, .ref p13, .ref p14]) nm0
    have a15 := a14.trans s15
    have t15 := t14.same s15
    have hp0 : _ := (s8.trans (s9.trans (s10.trans (s11.trans (s12.trans (s13.trans (s14.trans s15))))))) _ _ (upd_same (o := .lst ([.non, .int 3, .str "", .str "i", .str "A", .str "ab", .ref p1, .ref p2, .ref p3, .ref p4, .ref p5, .ref p6])))
    refine ⟨l1, m0, _, _, rfl, rfl, hp0, upd_same, le1000 (Nat.le_of_ble_eq_true rfl), fun c0 nc0 => ?_⟩
    have s16 := same_upd (o := .lst ([.non, .int 3, .str "", .str "i", .str "A", .str "ab", .ref p1, .ref p2, .ref p3, .ref p4, .ref p5, .ref p6] ++ [.ref p8, .ref p10, .ref p11, .ref p13, .ref p14])) nc0
    have a16 := a15.trans s16
    have t16 := t15.same s16
    refine ⟨_, rfl, ?_⟩
    refine ⟨(by show 1 ≤ sizeLine; decide), fun p17 n17 => ?_⟩
    have s17 := same_upd (o := .lst [.str "a"]) n17
    have g17 : GE K 1 M _ (.ref p17) _ := GE.lst (n := 0) (xs := [.str "a"]) t16 n17 (GEs.cons (GE.str (x := "a") (by decide +kernel)) GEs.nil) (Nat.le_of_ble_eq_true rfl)
    have a17 := a16.trans s17
    have t17 := t16.same s17
    refine ⟨_, rfl, ?_⟩
    refine ⟨(by show 3 ≤ sizeLine; decide), fun p18 n18 => ?_⟩
    have s18 := same_upd (o := .tup [.str "|", .ref p17, v]) n18
    have g18 : GE K 10 M _ (.ref p18) _ := GE.tup (n := 9) (xs := [.str "|", .ref p17, v]) t17 n18 (GEs.cons (GE.str (x := "|") (by decide +kernel)) (GEs.cons (g17.up (by decide)) (GEs.cons (gw.same a17) GEs.nil))) (Nat.le_of_ble_eq_true rfl)
    have a18 := a17.trans s18
    have t18 := t17.same s18
    refine ⟨_, rfl, ?_⟩
    refine ⟨(by show 3 ≤ sizeLine; decide), fun p19 n19 => ?_⟩
    have s19 := same_upd (o := .tup [.str "&", v, .str ""]) n19
    have g19 : GE K 10 M _ (.ref p19) _ := GE.tup (n := 9) (xs := [.str "&", v, .str ""]) t18 n19 (GEs.cons (GE.str (x := "&") (by decide +kernel)) (GEs.cons (gw.same a18) (GEs.cons (GE.str (x := "") (by decide +kernel)) GEs.nil))) (Nat.le_of_ble_eq_true rfl)
    have a19 := a18.trans s19
    have t19 := t18.same s19
    refine ⟨_, rfl, ?_⟩
    refine ⟨_, rfl, ?_⟩
    refine ⟨(by show 3 ≤ sizeLine; decide), fun p20 n20 => ?_⟩
    have s20 := same_upd (o := .tup [.str "", v, v]) n20
    have g20 : GE K 10 M _ (.ref p20) _ := GE.tup (n := 9) (xs := [.str "", v, v]) t19 n20 (GEs.cons (GE.str (x := "") (by decide +kernel)) (GEs.cons (gw.same a19) (GEs.cons (gw.same a19) GEs.nil))) (Nat.le_of_ble_eq_true rfl)
    have a20 := a19.trans s20
    have t20 := t19.same s20
    refine ⟨(by show 3 ≤ sizeLine; decide), fun p21 n21 => ?_⟩
    have s21 := same_upd (o := .tup [.str "&", .str "a", .str "b"]) n21
    have g21 : GE K 1 M _ (.ref p21) _ := GE.tup (n := 0) (xs := [.str "&", .str "a", .str "b"]) t20 n21 (GEs.cons (GE.str (x := "&") (by decide +kernel)) (GEs.cons (GE.str (x := "a") (by decide +kernel)) (GEs.cons (GE.str (x := "b") (by decide +kernel)) GEs.nil))) (Nat.le_of_ble_eq_true rfl)
    have a21 := a20.trans s21
    have t21 := t20.same s21
    refine ⟨(by show 3 ≤ sizeLine; decide), fun p22 n22 => ?_⟩
    have s22 := same_upd (o := .tup [.ref p21, .str "a", .str "b"]) n22
    have g22 : GE K 2 M _ (.ref p22) _ := GE.tup (n := 1) (xs := [.ref p21, .str "a", .str "b"]) t21 n22 (GEs.cons g21 (GEs.cons (GE.str (x := "a") (by decide +kernel)) (GEs.cons (GE.str (x := "b") (by decide +kernel)) GEs.nil))) (Nat.le_of_ble_eq_true rfl)
    have a22 := a21.trans s22
    have t22 := t21.same s22
    refine ⟨10, M, rfl, by decide, t22, fun H23 p23 hd23 s23 => ?_⟩
    have a23 := a22.trans s23
    have t23 := t22.same s23
    have g23 : GE K 10 M H23 p23 (nestD 10) := ⟨hd23, nest_gd 10⟩
    refine ⟨(by show 5 ≤ sizeLine; decide), fun m1 nm1 => ?_⟩
    have s24 := same_upd (o := .lst [.ref p18, .ref p19, .ref p20, .ref p22, p23]) nm1
    have a24 := a23.trans s24
    have t24 := t23.same s24
    have hp1 : _ := (s17.trans (s18.trans (s19.trans (s20.trans (s21.trans (s22.trans (s23.trans s24))))))) _ _ (upd_same (o := .lst ([.non, .int 3, .str "", .str "i", .str "A", .str "ab", .ref p1, .ref p2, .ref p3, .ref p4, .ref p5, .ref p6] ++ [.ref p8, .ref p10, .ref p11, .ref p13, .ref p14])))
    refine ⟨c0, m1, _, _, rfl, rfl, hp1, upd_same, le1000 (Nat.le_of_ble_eq_true rfl), fun c1 nc1 => ?_⟩
    have s25 := same_upd (o := .lst (([.non, .int 3, .str "", .str "i", .str "A", .str "ab", .ref p1, .ref p2, .ref p3, .ref p4, .ref p5, .ref p6] ++ [.ref p8, .ref p10, .ref p11, .ref p13, .ref p14]) ++ [.ref p18, .ref p19, .ref p20, .ref p22, p23])) nc1
    have a25 := a24.trans s25
    have t25 := t24.same s25
    have z24 := s25
    have z23 := s24.trans z24
    have z22 := s23.trans z23
    have z21 := s22.trans z22
    have z20 := s21.trans z21
    have z19 := s20.trans z20
    have z18 := s19.trans z19
    have z17 := s18.trans z18
    have z16 := s17.trans z17
    have z15 := s16.trans z16
    have z14 := s15.trans z15
    have z13 := s14.trans z14
    have z12 := s13.trans z13
    have z11 := s12.trans z12
    have z10 := s11.trans z11
    have z9 := s10.trans z10
    have z8 := s9.trans z9
    have z7 := s8.trans z8
    have z6 := s7.trans z7
    have z5 := s6.trans z6
    have z4 := s5.trans z5
    have z3 := s4.trans z4
    have z2 := s3.trans z3
    have z1 := s2.trans z2
    have ga1 : ∀ y ∈ ([.non, .int 3, .str "", .str "i", .str "A", .str "ab", .ref p1, .ref p2, .ref p3, .ref p4, .ref p5, .ref p6] : List V), GVN K M _ y := (all_cons (GVN.of (n := 0) (GE.non) (by decide) (by decide +kernel)) (all_cons (GVN.of (n := 0) (GE.int _) (by decide) (by decide +kernel)) (all_cons (GVN.of (n := 0) (GE.str (x := "") (by decide +kernel)) (by decide) (by decide +kernel)) (all_cons (GVN.of (n := 0) (GE.str (x := "i") (by decide +kernel)) (by decide) (by decide +kernel)) (all_cons (GVN.of (n := 0) (GE.str (x := "A") (by decide +kernel)) (by decide) (by decide +kernel)) (all_cons (GVN.of (n := 0) (GE.str (x := "ab") (by decide +kernel)) (by decide) (by decide +kernel)) (all_cons (GVN.of (g1.same z1) (by decide) (by decide +kernel)) (all_cons (GVN.of (g2.same z2) (by decide) (by decide +kernel)) (all_cons (GVN.of (g3.same z3) (by decide) (by decide +kernel)) (all_cons (GVN.of (g4.same z4) (by decide) (by decide +kernel)) (all_cons (GVN.of (g5.same z5) (by decide) (by decide +kernel)) (all_cons (GVN.of (g6.same z6) (by decide) (by decide +kernel)) all_nil))))))))))))
    have ga2 : ∀ y ∈ ([.ref p8, .ref p10, .ref p11, .ref p13, .ref p14] : List V), GVN K M _ y := (all_cons (GVN.of (g8.same z8) (by decide) (by decide +kernel)) (all_cons (GVN.of (g10.same z10) (by decide) (zp (x := .tuple [.str "a", .str "b"]) (by simp) (by decide +kernel))) (all_cons (GVN.of (g11.same z11) (by decide) rfl) (all_cons (GVN.of (g13.same z13) (by decide) (zp (x := .tuple [.str "|", .str "b"]) (by simp) (by decide +kernel))) (all_cons (GVN.of (g14.same z14) (by decide) (by decide +kernel)) all_nil)))))
    have ga3 : ∀ y ∈ ([.ref p18, .ref p19, .ref p20, .ref p22, p23] : List V), GVN K M _ y := (all_cons (GVN.of (g18.same z18) (by decide) (zp (x := .list [.str "a"]) (by simp) (by decide +kernel))) (all_cons (GVN.of (g19.same z19) (by decide) (zp (x := .str "") (by simp) (by decide +kernel))) (all_cons (GVN.of (g20.same z20) (by decide) (zo (by decide +kernel))) (all_cons (GVN.of (g22.same z22) (by decide) (by decide +kernel)) (all_cons (GVN.of (g23.same z23) (by decide) (by decide +kernel)) all_nil)))))
    refine ⟨_, rfl, _, rfl, a, L, c1, ns, _, rfl, hs.same a25, (hs.ne (a24.free nc1)).symm, upd_same, Nat.le_of_ble_eq_true rfl, Nat.le_of_ble_eq_true rfl, fun H' y my hs' off' => ?_⟩
    have gy := all_app (all_app ga1 ga2) ga3 y my
    obtain ⟨d, h1, h2, h3⟩ := gy
    refine q H' y ⟨d, dp_same (SmX.at off' aM).hid d y h1, h2, h3⟩ hs' ((SmX.of_same a25).trans (SmX.at off' (List.mem_singleton.mpr rfl)))
end
end Fv


namespace Fv
open PySem PySem.Spec PyProof.Rows L2 FvX TL
/-! ### what the program reads as a term is the term's text -/
theorem sub_drop {T : List Nat} {a k : Nat} {s : Str} (h : sub T a k = s) (hl : s.length = k) : T.drop a = tl s ++ T.drop (a + k) := by
  have e : (T.drop a).take k = tl s := by rw [← tl_sub, h]
  rw [← e, ← List.drop_drop, List.take_append_drop]
theorem rdL_sound {T : List Nat} {P : Nat → Option (PyData × Nat)} {G : PyData → Prop} {sg : Str} (hs : sg.length = 3) (hP : ∀ b d e, P b = some (d, e) → T.drop b = tl (ptx d) ++ T.drop e ∧ G d) :
    ∀ (f a : Nat) (acc ds : List PyData) (e : Nat), rdL P T sg f a acc = some (ds, e) →
    ∃ r, ds = acc ++ r ∧ T.drop a = ((r.map ptx).map tl).flatMap (fun x => tl sg ++ x) ++ T.drop e ∧ (∀ d ∈ r, G d) ∧ (sub T a 3 = sg → r ≠ [])
  | 0, a, acc, ds, e, h => by cases h
  | f + 1, a, acc, ds, e, h => by
    unfold rdL at h
    by_cases c : sub T a 3 = sg
    · rw [if_pos c] at h
      cases hp : P (a + 3) with
      | none => rw [hp] at h; cases h
      | some r =>
        obtain ⟨d, e1⟩ := r
        rw [hp] at h
        obtain ⟨r, e2, h1, h2, _⟩ := rdL_sound hs hP f e1 (acc ++ [d]) ds e h
        obtain ⟨h3, h4⟩ := hP _ _ _ hp
        refine ⟨d :: r, by rw [e2, List.append_assoc]; rfl, ?_, fun x hx => ?_, fun _ z => by cases z⟩
        · rw [sub_drop c hs, h3, h1, List.map_cons, List.map_cons, List.flatMap_cons]
          simp only [List.append_assoc]
        · rcases List.mem_cons.mp hx with z | z
          · rw [z]; exact h4
          · exact h2 x z
    · rw [if_neg c] at h
      cases h
      exact ⟨[], by rw [List.append_nil], by simp, (fun x hx => nomatch hx), fun z => absurd z c⟩
theorem sgn_sg {s : Str} (h : isSg s) : s = " " ++ sgn s ++ " " ∧ (sgn s = "&" ∨ sgn s = "|") := by
  rcases h with h | h <;> subst h
  · exact ⟨by decide +kernel, .inl (by decide +kernel)⟩
  · exact ⟨by decide +kernel, .inr (by decide +kernel)⟩
theorem lmeas_make {n : Nat} {o : Str} {ds : List PyData} (ho : o = "&" ∨ o = "|") (h2 : 2 ≤ ds.length) (h : ∀ d ∈ ds, 1 ≤ lmeas n d) : 1 ≤ lmeas (n + 1) (.tuple (.str o :: ds)) := by
  have hop : isOp (.str o) = true := by rcases ho with ho | ho <;> subst ho <;> decide +kernel
  have hc : isCd (.tuple (.str o :: ds)) = true := by
    show (decide (2 ≤ ds.length) && isOp (.str o)) = true
    rw [hop, decide_eq_true h2]; rfl
  have e : lmeas (n + 1) (.tuple (.str o :: ds)) = if isCd (.tuple (.str o :: ds)) = true then (if (0 : Int) ∈ ds.map (lmeas n) then 0 else (ds.map (lmeas n)).sum) else 0 := by
    show (if isLd (.tuple (.str o :: ds)) = true then (1 : Int) else _) = _
    rw [if_neg (fun z => by cases z)]
    rfl
  have n0 : ¬ (0 : Int) ∈ ds.map (lmeas n) := fun z => by
    obtain ⟨d, hd, e0⟩ := List.mem_map.mp z
    have := h d hd
    omega
  rw [e, if_pos hc, if_neg n0]
  cases ds with
  | nil => simp at h2
  | cons d ds =>
    rw [List.map_cons, List.sum_cons]
    have := h d (List.mem_cons_self ..)
    have := sum_nonneg (l := ds.map (lmeas n)) fun y hy => by
      obtain ⟨d', _, rfl⟩ := List.mem_map.mp hy
      exact lmeas_nonneg n d'
    omega
theorem rdT_sound {T : List Nat} {n : Nat} {P : Nat → Option (PyData × Nat)} (hP : ∀ b d e, P b = some (d, e) → T.drop b = tl (ptx d) ++ T.drop e ∧ 1 ≤ lmeas (n + 1) d) {a : Nat} {d : PyData} {e : Nat} (h : rdT P T a = some (d, e)) :
    T.drop a = tl (txt d) ++ T.drop e ∧ 1 ≤ lmeas (n + 2) d := by
  unfold rdT at h
  cases hp : P a with
  | none => rw [hp] at h; cases h
  | some r =>
    obtain ⟨d1, e1⟩ := r
    rw [hp] at h
    dsimp only at h
    obtain ⟨h1, h2⟩ := hP _ _ _ hp
    by_cases c : isSg (sub T e1 3)
    · rw [if_pos c] at h
      cases hr : rdL P T (sub T e1 3) (T.length + 1 - e1) e1 [d1] with
      | none => rw [hr] at h; cases h
      | some r =>
        obtain ⟨ds, e2⟩ := r
        rw [hr] at h
        cases h
        obtain ⟨r, er, h3, h4, h5⟩ := rdL_sound (G := fun d => 1 ≤ lmeas (n + 1) d) (sg_len c) hP _ _ _ _ _ hr
        obtain ⟨g1, g2⟩ := sgn_sg c
        have er' : ds = d1 :: r := er
        subst er'
        have hr1 : 1 ≤ r.length := by
          cases r with
          | nil => exact absurd rfl (h5 rfl)
          | cons _ _ => rw [List.length_cons]; omega
        refine ⟨?_, lmeas_make g2 (by rw [List.length_cons]; omega) fun x hx => ?_⟩
        · rw [txt_tup, join_eq, tl_join, List.map_cons, List.map_cons, joinL_flat, ← g1, h1, h3, List.append_assoc]
        · rcases List.mem_cons.mp hx with z | z
          · rw [z]; exact h2
          · exact h4 x z
    · rw [if_neg c] at h
      by_cases c2 : isLd d1 = true
      · rw [if_pos c2] at h
        cases h
        have ep : ptx d = txt d := by unfold ptx; rw [if_pos c2]
        rw [ep] at h1
        exact ⟨h1, by rw [lmeas_up _ _ h2]; exact h2⟩
      · rw [if_neg c2] at h; cases h
theorem rdP_sound {T : List Nat} : ∀ (n b : Nat) (d : PyData) (e : Nat), rdP T n b = some (d, e) → T.drop b = tl (ptx d) ++ T.drop e ∧ 1 ≤ lmeas (n + 1) d
  | n, b, d, e, h => by
    have lett : isL (sub T b 1) = true → some (PyData.str (sub T b 1), b + 1) = some (d, e) → T.drop b = tl (ptx d) ++ T.drop e ∧ 1 ≤ lmeas (n + 1) d := fun c h => by
      cases h
      have ep : ptx (.str (sub T b 1)) = sub T b 1 := by unfold ptx; rw [if_pos (show isLd (.str (sub T b 1)) = true from c), txt_str]
      refine ⟨by rw [ep]; exact sub_drop rfl (isL_len c), ?_⟩
      show 1 ≤ (if isL (sub T b 1) = true then (1 : Int) else _)
      rw [if_pos c]
      decide
    cases n with
    | zero =>
      unfold rdP at h
      by_cases c : isL (sub T b 1) = true
      · rw [if_pos c] at h; exact lett c h
      · rw [if_neg c] at h; cases h
    | succ n =>
      unfold rdP at h
      by_cases c : isL (sub T b 1) = true
      · rw [if_pos c] at h; exact lett c h
      · rw [if_neg c] at h
        by_cases c2 : sub T b 1 = "("
        · rw [if_pos c2] at h
          cases hr : rdT (rdP T n) T (b + 1) with
          | none => rw [hr] at h; cases h
          | some r =>
            obtain ⟨d1, e1⟩ := r
            rw [hr] at h
            dsimp only at h
            by_cases c3 : isLd d1 = true ∨ sub T e1 1 ≠ ")"
            · rw [if_pos c3] at h; cases h
            · rw [if_neg c3] at h
              cases h
              have c4 : sub T e1 1 = ")" := Classical.not_not.mp fun z => c3 (.inr z)
              have c5 : ¬ isLd d = true := fun z => c3 (.inl z)
              obtain ⟨h1, h2⟩ := rdT_sound (n := n) (rdP_sound n) hr
              have ep : ptx d = "(" ++ txt d ++ ")" := by unfold ptx; rw [if_neg c5]
              refine ⟨?_, h2⟩
              rw [ep, tl_par, sub_drop c2 (by decide +kernel), h1, sub_drop c4 (by decide +kernel)]
              show [40] ++ (tl (txt d) ++ ([41] ++ _)) = 40 :: (tl (txt d) ++ [41]) ++ _
              simp only [List.append_assoc, List.singleton_append, List.cons_append, List.nil_append]
        · rw [if_neg c2] at h; cases h
theorem prs_sound {x : Str} {d : PyData} (h : prs x = some d) : x = txt d ∧ tmB d = true := by
  unfold prs at h
  cases hr : rdT (rdP (tl x) 5) (tl x) 0 with
  | none => rw [hr] at h; cases h
  | some r =>
    obtain ⟨d1, e⟩ := r
    rw [hr] at h
    dsimp only at h
    by_cases c : e < x.length ∨ tmB d1 = false
    · rw [if_pos c] at h; cases h
    · rw [if_neg c] at h
      cases h
      obtain ⟨h1, _⟩ := rdT_sound (n := 5) (rdP_sound 5) hr
      have he : (tl x).drop e = [] := List.drop_of_length_le (by
        have : ¬ e < x.length := fun z => c (.inl z)
        rw [len_tl] at this
        omega)
      rw [he, List.append_nil, List.drop_zero] at h1
      refine ⟨ext_tl h1, ?_⟩
      cases ht : tmB d with
      | true => rfl
      | false => exact absurd (.inr ht) c
/-- parse_term reads the texts of terms, and nothing else -/
theorem prs_iff {x : Str} {d : PyData} : prs x = some d ↔ x = txt d ∧ tmB d = true := ⟨prs_sound, fun ⟨e, h⟩ => by rw [e]; exact prs_txt h⟩
end Fv


namespace Fv
open PySem PySem.Spec PyProof.Rows L2 FvX TL
/-! ### the law's own reading: pieces at level 0, over code points -/
def dl (c : Nat) : Int := (if c = 40 then 1 else 0) - (if c = 41 then 1 else 0)
def scn : List Nat → Int → List (List Nat) → List Nat → List Nat → Option (Int × List (List Nat) × List Nat)
  | [], lv, ps, cur, sg => some (lv, ps ++ [cur], sg)
  | c :: r, lv, ps, cur, sg => if lv = 0 ∧ isSg (sub (c :: r) 0 3) then scn (r.drop 2) lv (ps ++ [cur]) [] (sg ++ [r.headD 0])
    else if lv + dl c < 0 then none else scn r (lv + dl c) ps (cur ++ [c]) sg
termination_by R => R.length
decreasing_by
  · simp only [List.length_drop, List.length_cons]; omega
  · simp only [List.length_cons]; omega
theorem scn_nil (lv : Int) (ps : List (List Nat)) (cur sg : List Nat) : scn [] lv ps cur sg = some (lv, ps ++ [cur], sg) := by unfold scn; rfl
theorem scn_cons (c : Nat) (r : List Nat) (lv : Int) (ps : List (List Nat)) (cur sg : List Nat) : scn (c :: r) lv ps cur sg = if lv = 0 ∧ isSg (sub (c :: r) 0 3) then scn (r.drop 2) lv (ps ++ [cur]) [] (sg ++ [r.headD 0])
    else if lv + dl c < 0 then none else scn r (lv + dl c) ps (cur ++ [c]) sg := by
  rw [scn]
theorem sg_codes {s : Str} (h : isSg s) : tl s = [32, 38, 32] ∨ tl s = [32, 124, 32] := by
  rcases h with h | h <;> subst h
  · exact .inl (by decide +kernel)
  · exact .inr (by decide +kernel)
theorem sg_head {R : List Nat} (h : isSg (sub R 0 3)) : ∃ s r, R = 32 :: s :: 32 :: r ∧ (s = 38 ∨ s = 124) := by
  have e : tl (sub R 0 3) = R.take 3 := by rw [tl_sub, List.drop_zero]
  have key : ∀ s : Nat, R.take 3 = [32, s, 32] → ∃ r, R = 32 :: s :: 32 :: r := fun s z => by
    refine ⟨R.drop 3, ?_⟩
    have := List.take_append_drop 3 R
    rw [z] at this
    exact this.symm
  rcases sg_codes h with z | z
  · obtain ⟨r, hr⟩ := key 38 (e.symm.trans z)
    exact ⟨38, r, hr, .inl rfl⟩
  · obtain ⟨r, hr⟩ := key 124 (e.symm.trans z)
    exact ⟨124, r, hr, .inr rfl⟩
theorem scn_sound : ∀ (n : Nat) (R : List Nat), R.length ≤ n → ∀ (lv : Int) (ps : List (List Nat)) (cur sg : List Nat) (lv' : Int) (ps' : List (List Nat)) (sg' : List Nat), scn R lv ps cur sg = some (lv', ps', sg') →
    ∃ (q : List Nat) (l : List (Nat × List Nat)), ps' = ps ++ (cur ++ q) :: l.map (·.2) ∧ sg' = sg ++ l.map (·.1) ∧ R = q ++ l.flatMap (fun t => [32, t.1, 32] ++ t.2) ∧ ∀ t ∈ l, t.1 = 38 ∨ t.1 = 124
  | n, [], _, lv, ps, cur, sg, lv', ps', sg', h => by
    rw [scn_nil] at h
    cases h
    exact ⟨[], [], by simp, by simp, rfl, fun t ht => nomatch ht⟩
  | 0, c :: r, hn, _, _, _, _, _, _, _, _ => by simp at hn
  | n + 1, c :: r, hn, lv, ps, cur, sg, lv', ps', sg', h => by
    rw [List.length_cons] at hn
    rw [scn_cons] at h
    by_cases k : lv = 0 ∧ isSg (sub (c :: r) 0 3)
    · rw [if_pos k] at h
      obtain ⟨s, r', er, hs⟩ := sg_head k.2
      cases er
      have h' : scn r' lv (ps ++ [cur]) [] (sg ++ [s]) = some (lv', ps', sg') := h
      obtain ⟨q, l, e1, e2, e3, e4⟩ := scn_sound n r' (by simp only [List.length_cons] at hn; omega) _ _ _ _ _ _ _ h'
      refine ⟨[], (s, q) :: l, ?_, ?_, ?_, fun t ht => ?_⟩
      · rw [e1]; simp
      · rw [e2]; simp
      · rw [e3]; simp
      · rcases List.mem_cons.mp ht with z | z
        · rw [z]; exact hs
        · exact e4 t z
    · rw [if_neg k] at h
      by_cases k2 : lv + dl c < 0
      · rw [if_pos k2] at h; cases h
      · rw [if_neg k2] at h
        obtain ⟨q, l, e1, e2, e3, e4⟩ := scn_sound n r (by omega) _ _ _ _ _ _ _ h
        refine ⟨c :: q, l, ?_, e2, ?_, e4⟩
        · rw [e1]; simp
        · rw [e3]; simp
/-! a sign of no weight -/
theorem scn_quiet {c : Nat} {r : List Nat} {lv : Int} {ps : List (List Nat)} {cur sg : List Nat} (h0 : 0 ≤ lv) (h1 : c ≠ 40) (h2 : c ≠ 41) (h : 1 ≤ lv ∨ c ≠ 32) : scn (c :: r) lv ps cur sg = scn r lv ps (cur ++ [c]) sg := by
  have nk : ¬ (lv = 0 ∧ isSg (sub (c :: r) 0 3)) := fun z => by
    obtain ⟨s, r', er, _⟩ := sg_head z.2
    cases er
    rcases h with h | h
    · omega
    · exact h rfl
  have e : dl c = 0 := by unfold dl; rw [if_neg h1, if_neg h2]; rfl
  rw [scn_cons, if_neg nk, e, Int.add_zero, if_neg (by omega)]
theorem scn_open {r : List Nat} {lv : Int} {ps : List (List Nat)} {cur sg : List Nat} (h0 : 0 ≤ lv) : scn (40 :: r) lv ps cur sg = scn r (lv + 1) ps (cur ++ [40]) sg := by
  have nk : ¬ (lv = 0 ∧ isSg (sub (40 :: r) 0 3)) := fun z => by
    obtain ⟨s, r', er, _⟩ := sg_head z.2
    cases er
  have e : dl 40 = 1 := by decide
  rw [scn_cons, if_neg nk, e, if_neg (by omega)]
theorem scn_close {r : List Nat} {lv : Int} {ps : List (List Nat)} {cur sg : List Nat} (h0 : 1 ≤ lv) : scn (41 :: r) lv ps cur sg = scn r (lv - 1) ps (cur ++ [41]) sg := by
  have nk : ¬ (lv = 0 ∧ isSg (sub (41 :: r) 0 3)) := fun z => by omega
  have e : dl 41 = -1 := by decide
  rw [scn_cons, if_neg nk, e, if_neg (by omega)]
  rfl
theorem isL_code {x : Str} (h : isL x = true) : ∃ c, tl x = [c] ∧ c ≠ 40 ∧ c ≠ 41 ∧ c ≠ 32 := by
  have all : ∀ x ∈ (["a", "b", "c", "d", "e", "f", "g", "h"] : List Str), ∃ c ∈ ([97, 98, 99, 100, 101, 102, 103, 104] : List Nat), tl x = [c] := by decide +kernel
  obtain ⟨c, hc, e⟩ := all x (isL_one h)
  have ne : ∀ c ∈ ([97, 98, 99, 100, 101, 102, 103, 104] : List Nat), c ≠ 40 ∧ c ≠ 41 ∧ c ≠ 32 := by decide
  exact ⟨c, e, ne c hc⟩
theorem op_code {o : Str} (h : o = "&" ∨ o = "|") : ∃ s, tl (" " ++ o ++ " ") = [32, s, 32] ∧ tl o = [s] ∧ (s = 38 ∨ s = 124) := by
  rcases h with h | h <;> subst h
  · exact ⟨38, by decide +kernel, by decide +kernel, .inl rfl⟩
  · exact ⟨124, by decide +kernel, by decide +kernel, .inr rfl⟩
/-- inside of parentheses nothing is cut -/
theorem scn_flat {s : Nat} (hs : s = 38 ∨ s = 124) : ∀ (l : List (List Nat)), (∀ u ∈ l, ∀ R (lv : Int) ps cur sg, 1 ≤ lv → scn (u ++ R) lv ps cur sg = scn R lv ps (cur ++ u) sg) → ∀ R (lv : Int) ps cur sg, 1 ≤ lv →
    scn (l.flatMap (fun x => [32, s, 32] ++ x) ++ R) lv ps cur sg = scn R lv ps (cur ++ l.flatMap (fun x => [32, s, 32] ++ x)) sg
  | [], _, R, lv, ps, cur, sg, _ => by simp
  | u :: l, h, R, lv, ps, cur, sg, h1 => by
    have e : (u :: l).flatMap (fun x => [32, s, 32] ++ x) ++ R = 32 :: s :: 32 :: (u ++ (l.flatMap (fun x => [32, s, 32] ++ x) ++ R)) := by simp
    rw [e, scn_quiet (by omega) (by decide) (by decide) (.inl h1), scn_quiet (by omega) (by omega) (by omega) (.inl h1), scn_quiet (by omega) (by decide) (by decide) (.inl h1), h u (List.mem_cons_self ..) _ _ _ _ _ h1,
      scn_flat hs l (fun x hx => h x (List.mem_cons_of_mem _ hx)) R lv ps _ sg h1]
    simp
theorem scn_txt : ∀ (n : Nat) (d : PyData), 1 ≤ lmeas n d → (∀ R (lv : Int) ps cur sg, 1 ≤ lv → scn (tl (txt d) ++ R) lv ps cur sg = scn R lv ps (cur ++ tl (txt d)) sg) ∧ (∀ R (lv : Int) ps cur sg, 0 ≤ lv → scn (tl (ptx d) ++ R) lv ps cur sg = scn R lv ps (cur ++ tl (ptx d)) sg)
  | 0, d, h => by simp only [lmeas] at h; omega
  | n + 1, d, h => by
    have par : isLd d = false → (∀ R (lv : Int) ps cur sg, 1 ≤ lv → scn (tl (txt d) ++ R) lv ps cur sg = scn R lv ps (cur ++ tl (txt d)) sg) → ∀ R (lv : Int) ps cur sg, 0 ≤ lv → scn (tl (ptx d) ++ R) lv ps cur sg = scn R lv ps (cur ++ tl (ptx d)) sg := fun nl ht R lv ps cur sg h0 => by
      have ep : ptx d = "(" ++ txt d ++ ")" := by unfold ptx; rw [if_neg (by rw [nl]; decide)]
      rw [ep, tl_par, List.cons_append, List.append_assoc, scn_open h0, ht _ _ _ _ _ (by omega), List.singleton_append, scn_close (by omega), Int.add_sub_cancel]
      simp
    rcases lmeas_inv h with ⟨x, rfl, hx⟩ | ⟨o, ds, rfl, nl, ho, h2, all1, e⟩
    · obtain ⟨c, ec, c1, c2, c3⟩ := isL_code hx
      have ep : ptx (.str x) = x := by unfold ptx; rw [if_pos (show isLd (.str x) = true from hx), txt_str]
      rw [ep, txt_str, ec]
      exact ⟨fun R lv ps cur sg h1 => scn_quiet (by omega) c1 c2 (.inr c3), fun R lv ps cur sg h1 => scn_quiet h1 c1 c2 (.inr c3)⟩
    · have ht : ∀ R (lv : Int) ps cur sg, 1 ≤ lv → scn (tl (txt (.tuple (.str o :: ds))) ++ R) lv ps cur sg = scn R lv ps (cur ++ tl (txt (.tuple (.str o :: ds)))) sg := fun R lv ps cur sg h1 => by
        obtain ⟨s, e1, e2, e3⟩ := op_code ho
        cases ds with
        | nil => simp at h2
        | cons d ds =>
          rw [txt_tup, join_eq, tl_join, List.map_cons, List.map_cons, joinL_flat, e1, List.append_assoc, (scn_txt n d (all1 d (List.mem_cons_self ..))).2 _ _ _ _ _ (by omega),
            scn_flat e3 _ (fun u hu R lv ps cur sg h1 => ?_) R lv ps _ sg h1, List.append_assoc]
          obtain ⟨y, hy, rfl⟩ := List.mem_map.mp hu
          obtain ⟨d', hd', rfl⟩ := List.mem_map.mp hy
          exact (scn_txt n d' (all1 d' (List.mem_cons_of_mem _ hd'))).2 R lv ps cur sg (by omega)
      exact ⟨ht, par nl ht⟩
/-- at level 0 the text of a term falls into its parts -/
theorem scn_cut {s : Nat} (hs : s = 38 ∨ s = 124) : ∀ (l : List (List Nat)), (∀ u ∈ l, ∀ R (lv : Int) ps cur sg, 0 ≤ lv → scn (u ++ R) lv ps cur sg = scn R lv ps (cur ++ u) sg) → ∀ ps cur sg,
    scn (l.flatMap (fun x => [32, s, 32] ++ x)) 0 ps cur sg = some (0, ps ++ cur :: l, sg ++ List.replicate l.length s)
  | [], _, ps, cur, sg => by
    show scn [] 0 ps cur sg = _
    rw [scn_nil]
    simp
  | u :: l, h, ps, cur, sg => by
    have e : (u :: l).flatMap (fun x => [32, s, 32] ++ x) = 32 :: s :: 32 :: (u ++ l.flatMap (fun x => [32, s, 32] ++ x)) := by simp
    have k : (0 : Int) = 0 ∧ isSg (sub (32 :: s :: 32 :: (u ++ l.flatMap (fun x => [32, s, 32] ++ x))) 0 3) := ⟨rfl, by
      rcases hs with hs | hs <;> subst hs
      · exact .inl (ext_tl (by rw [tl_sub]; rfl))
      · exact .inr (ext_tl (by rw [tl_sub]; rfl))⟩
    rw [e, scn_cons, if_pos k]
    show scn (u ++ l.flatMap (fun x => [32, s, 32] ++ x)) 0 (ps ++ [cur]) [] (sg ++ [s]) = _
    rw [h u (List.mem_cons_self ..) _ _ _ _ _ (Int.le_refl _), List.nil_append, scn_cut hs l (fun x hx => h x (List.mem_cons_of_mem _ hx))]
    simp [List.replicate_succ]
theorem scn_term {n : Nat} {o : Str} {ds : List PyData} (ho : o = "&" ∨ o = "|") (h2 : 2 ≤ ds.length) (all1 : ∀ x ∈ ds, 1 ≤ lmeas n x) :
    ∃ s, tl o = [s] ∧ scn (tl (txt (.tuple (.str o :: ds)))) 0 [] [] [] = some (0, (ds.map ptx).map tl, List.replicate (ds.length - 1) s) := by
  obtain ⟨s, e1, e2, e3⟩ := op_code ho
  refine ⟨s, e2, ?_⟩
  cases ds with
  | nil => simp at h2
  | cons d ds =>
    rw [txt_tup, join_eq, tl_join, List.map_cons, List.map_cons, joinL_flat, e1, (scn_txt n d (all1 d (List.mem_cons_self ..))).2 _ _ _ _ _ (Int.le_refl _), List.nil_append,
      scn_cut e3 _ (fun u hu R lv ps cur sg h0 => ?_)]
    · simp
    · obtain ⟨y, hy, rfl⟩ := List.mem_map.mp hu
      obtain ⟨d', hd', rfl⟩ := List.mem_map.mp hy
      exact (scn_txt n d' (all1 d' (List.mem_cons_of_mem _ hd'))).2 R lv ps cur sg h0
end Fv


namespace Fv
open PySem PySem.Spec PyProof.Rows L2 FvX TL
/-! ### the law's own reading, and that it agrees with the program's -/
def lrP (f : List Nat → Option PyData) (T : List Nat) : Option PyData :=
  if T.length = 1 then f T else if T.take 1 ≠ [40] ∨ T.drop (T.length - 1) ≠ [41] ∨ T.length < 4 then none else f ((T.drop 1).take (T.length - 2))
def lrL (T : List Nat) : Option PyData := if isL ⟨T.toArray⟩ = true then some (.str ⟨T.toArray⟩) else none
open Classical in
noncomputable def lrC (f : List Nat → Option PyData) (T : List Nat) : Option PyData := match scn T 0 [] [] [] with
  | none => none
  | some (lv, ps, sg) => if 0 < lv ∨ ps.length < 2 ∨ sg ≠ List.replicate sg.length (sg.headD 0) then none else
    if none ∈ ps.map (lrP f) then none else some (.tuple (.str ⟨#[sg.headD 0]⟩ :: (ps.map (lrP f)).filterMap id))
noncomputable def lrT : Nat → List Nat → Option PyData
  | 0 => fun T => if T.length = 1 then lrL T else none
  | n + 1 => fun T => if T.length = 1 then lrL T else if n = 0 then none else lrC (lrT n) T
theorem lrT_one {n : Nat} {T : List Nat} (h : T.length = 1) : lrT n T = lrL T := by
  cases n <;> (unfold lrT; rw [if_pos h])
theorem lrL_some {T : List Nat} {d : PyData} (h : lrL T = some d) : isLd d = true ∧ T = tl (txt d) ∧ T = tl (ptx d) ∧ ∀ n, 1 ≤ lmeas (n + 1) d := by
  unfold lrL at h
  by_cases c : isL ⟨T.toArray⟩ = true
  · rw [if_pos c] at h
    cases h
    have e : isLd (.str ⟨T.toArray⟩) = true := c
    refine ⟨e, by rw [txt_str], by unfold ptx; rw [if_pos e, txt_str], fun n => ?_⟩
    show 1 ≤ (if isL ⟨T.toArray⟩ = true then (1 : Int) else _)
    rw [if_pos c]; decide
  · rw [if_neg c] at h; cases h
theorem mid_eq {T : List Nat} (h1 : T.take 1 = [40]) (h2 : T.drop (T.length - 1) = [41]) (h4 : 4 ≤ T.length) : T = 40 :: ((T.drop 1).take (T.length - 2) ++ [41]) := by
  have a := List.take_append_drop 1 T
  have b := List.take_append_drop (T.length - 2) (T.drop 1)
  rw [List.drop_drop, show 1 + (T.length - 2) = T.length - 1 by omega, h2] at b
  rw [b, h1] at *
  exact a.symm
theorem inner_sound {f : List Nat → Option PyData} {G : PyData → Prop} (hf : ∀ p d, f p = some d → p = tl (ptx d) ∧ G d) : ∀ ps : List (List Nat), none ∉ ps.map f → ((((ps.map f).filterMap id).map ptx).map tl = ps ∧ ∀ d ∈ (ps.map f).filterMap id, G d)
  | [], _ => ⟨rfl, fun d hd => nomatch hd⟩
  | p :: ps, h => by
    rw [List.map_cons, List.mem_cons, not_or] at h
    obtain ⟨h1, h2⟩ := inner_sound hf ps h.2
    cases hp : f p with
    | none => exact absurd hp.symm h.1
    | some d =>
      obtain ⟨g1, g2⟩ := hf p d hp
      rw [List.map_cons, hp]
      refine ⟨?_, fun x hx => ?_⟩
      · show tl (ptx d) :: _ = _
        rw [h1, ← g1]
      · rcases List.mem_cons.mp hx with z | z
        · rw [z]; exact g2
        · exact h2 x z
theorem lrT_sound : ∀ (n : Nat) (T : List Nat) (d : PyData), lrT (n + 1) T = some d → T = tl (txt d) ∧ 1 ≤ lmeas (n + 1) d
  | n, T, d, h => by
    by_cases c : T.length = 1
    · rw [lrT_one c] at h
      obtain ⟨_, h2, _, h4⟩ := lrL_some h
      exact ⟨h2, h4 n⟩
    · cases n with
      | zero =>
        unfold lrT at h
        rw [if_neg c, if_pos rfl] at h
        cases h
      | succ n =>
        unfold lrT at h
        rw [if_neg c, if_neg (by omega)] at h
        unfold lrC at h
        cases hs : scn T 0 [] [] [] with
        | none => rw [hs] at h; cases h
        | some r =>
          obtain ⟨lv, ps, sg⟩ := r
          rw [hs] at h
          dsimp only at h
          by_cases k1 : 0 < lv ∨ ps.length < 2 ∨ sg ≠ List.replicate sg.length (sg.headD 0)
          · rw [if_pos k1] at h; cases h
          · rw [if_neg k1] at h
            by_cases k2 : none ∈ ps.map (lrP (lrT (n + 1)))
            · rw [if_pos k2] at h; cases h
            · rw [if_neg k2] at h
              have k3 : ¬ ps.length < 2 := fun z => k1 (.inr (.inl z))
              have k4 : sg = List.replicate sg.length (sg.headD 0) := Classical.not_not.mp fun z => k1 (.inr (.inr z))
              have hf : ∀ p d, lrP (lrT (n + 1)) p = some d → p = tl (ptx d) ∧ 1 ≤ lmeas (n + 1) d := fun p d hp => by
                unfold lrP at hp
                by_cases j : p.length = 1
                · rw [if_pos j, lrT_one j] at hp
                  obtain ⟨_, _, h3, h4⟩ := lrL_some hp
                  exact ⟨h3, h4 n⟩
                · rw [if_neg j] at hp
                  by_cases j2 : p.take 1 ≠ [40] ∨ p.drop (p.length - 1) ≠ [41] ∨ p.length < 4
                  · rw [if_pos j2] at hp; cases hp
                  · rw [if_neg j2] at hp
                    have j3 : p.take 1 = [40] := Classical.not_not.mp fun z => j2 (.inl z)
                    have j4 : p.drop (p.length - 1) = [41] := Classical.not_not.mp fun z => j2 (.inr (.inl z))
                    have j5 : ¬ p.length < 4 := fun z => j2 (.inr (.inr z))
                    obtain ⟨g1, g2⟩ := lrT_sound n _ _ hp
                    have ml : ((p.drop 1).take (p.length - 2)).length = p.length - 2 := by rw [List.length_take, List.length_drop]; omega
                    have nl : ¬ isLd d = true := fun z => by
                      cases d with
                      | str x =>
                        rw [g1, txt_str, ← len_tl, isL_len z] at ml
                        omega
                      | _ => cases z
                    refine ⟨?_, g2⟩
                    unfold ptx
                    rw [if_neg nl, tl_par, ← g1]
                    exact mid_eq j3 j4 (by omega)
              obtain ⟨e1, e2⟩ := inner_sound hf ps k2
              obtain ⟨q, l, a1, a2, a3, a4⟩ := scn_sound _ T (Nat.le_refl _) _ _ _ _ _ _ _ hs
              rw [List.nil_append, List.nil_append] at a1
              rw [List.nil_append] at a2
              have ll : 1 ≤ l.length := by
                rw [a1, List.length_cons, List.length_map] at k3
                omega
              have all : ∀ t ∈ l, t.1 = sg.headD 0 := fun t ht => by
                have m : t.1 ∈ sg := by rw [a2]; exact List.mem_map.mpr ⟨t, ht, rfl⟩
                rw [k4] at m
                exact (List.mem_replicate.mp m).2
              obtain ⟨t0, ht0⟩ : ∃ t0, t0 ∈ l := by
                cases l with
                | nil => simp at ll
                | cons t l => exact ⟨t, List.mem_cons_self ..⟩
              have hs0 : sg.headD 0 = 38 ∨ sg.headD 0 = 124 := by rw [← all t0 ht0]; exact a4 t0 ht0
              have ho : ((⟨#[sg.headD 0]⟩ : Str) = "&" ∨ (⟨#[sg.headD 0]⟩ : Str) = "|") := by
                rcases hs0 with z | z <;> rw [z]
                · exact .inl (by decide +kernel)
                · exact .inr (by decide +kernel)
              have hsep : tl (" " ++ (⟨#[sg.headD 0]⟩ : Str) ++ " ") = [32, sg.headD 0, 32] := by rw [tl_append, tl_append]; rfl
              cases h
              have el : ((ps.map (lrP (lrT (n + 1)))).filterMap id).length = ps.length := by
                have := congrArg List.length e1
                rw [List.length_map, List.length_map] at this
                exact this
              refine ⟨?_, lmeas_make ho (by omega) e2⟩
              rw [txt_tup, join_eq, tl_join, e1, hsep, a1, joinL_flat, a3]
              congr 1
              clear a1 a2 a3 e1 e2 el hs k2 k3 k4 hf ll ht0 ho hsep hs0 a4
              induction l with
              | nil => rfl
              | cons t l ih =>
                rw [List.flatMap_cons, List.map_cons, List.flatMap_cons, all t (List.mem_cons_self ..), ih (fun x hx => all x (List.mem_cons_of_mem _ hx))]
theorem txt_len3 {o : Str} {ds : List PyData} (ho : o = "&" ∨ o = "|") (h2 : 2 ≤ ds.length) : 3 ≤ (tl (txt (.tuple (.str o :: ds)))).length := by
  cases ds with
  | nil => simp at h2
  | cons d ds =>
    rw [List.length_cons] at h2
    rw [txt_tup, join_eq, tl_join, List.map_cons, List.map_cons, joinL_len, ← len_tl (" " ++ o ++ " "), sep_len ho, List.length_map, List.length_map]
    omega
theorem lrT_txt : ∀ (n : Nat) (d : PyData), 1 ≤ lmeas n d → lrT n (tl (txt d)) = some d
  | 0, d, h => by simp only [lmeas] at h; omega
  | n + 1, d, h => by
    have lett : ∀ (m : Nat) (x : Str), isL x = true → lrT m (tl x) = some (.str x) := fun m x hx => by
      rw [lrT_one (by rw [← len_tl]; exact isL_len hx)]
      unfold lrL
      rw [mk_tl, if_pos hx]
    rcases lmeas_inv h with ⟨x, rfl, hx⟩ | ⟨o, ds, rfl, nl, ho, h2, all1, e⟩
    · rw [txt_str]; exact lett _ x hx
    · have n0 : n ≠ 0 := fun z => by
        subst z
        cases ds with
        | nil => simp at h2
        | cons d ds =>
          have := all1 d (List.mem_cons_self ..)
          simp only [lmeas] at this
          omega
      have l3 := txt_len3 ho h2
      obtain ⟨s, e1, e2⟩ := scn_term ho h2 all1
      have part : ∀ x ∈ ds, lrP (lrT n) (tl (ptx x)) = some x := fun x hx => by
        have ih := lrT_txt n x (all1 x hx)
        obtain ⟨m, rfl⟩ : ∃ m, n = m + 1 := ⟨n - 1, by omega⟩
        unfold lrP
        rcases lmeas_inv (all1 x hx) with ⟨y, rfl, hy⟩ | ⟨o', ds', rfl, nl', ho', h2', _, _⟩
        · have ep : ptx (.str y) = y := by unfold ptx; rw [if_pos (show isLd (.str y) = true from hy), txt_str]
          rw [ep, if_pos (by rw [← len_tl]; exact isL_len hy)]
          exact lett _ y hy
        · have l3' := txt_len3 ho' h2'
          have ep : ptx (.tuple (.str o' :: ds')) = "(" ++ txt (.tuple (.str o' :: ds')) ++ ")" := by unfold ptx; rw [if_neg (by rw [nl']; decide)]
          rw [ep, tl_par]
          have ll : (40 :: (tl (txt (.tuple (.str o' :: ds'))) ++ [41])).length = (tl (txt (.tuple (.str o' :: ds')))).length + 2 := by simp
          have d1 : (40 :: (tl (txt (.tuple (.str o' :: ds'))) ++ [41])).drop ((40 :: (tl (txt (.tuple (.str o' :: ds'))) ++ [41])).length - 1) = [41] := by
            rw [ll, show (tl (txt (.tuple (.str o' :: ds')))).length + 2 - 1 = (tl (txt (.tuple (.str o' :: ds')))).length + 1 by omega, List.drop_succ_cons, List.drop_left]
          have d2 : ((40 :: (tl (txt (.tuple (.str o' :: ds'))) ++ [41])).drop 1).take ((40 :: (tl (txt (.tuple (.str o' :: ds'))) ++ [41])).length - 2) = tl (txt (.tuple (.str o' :: ds'))) := by
            rw [ll, Nat.add_sub_cancel, List.drop_succ_cons, List.drop_zero, List.take_left]
          rw [if_neg (by rw [ll]; omega), if_neg (fun z => by
            rcases z with z | z | z
            · exact z rfl
            · exact z d1
            · rw [ll] at z; omega), d2]
          exact ih
      have em : ((ds.map ptx).map tl).map (lrP (lrT n)) = ds.map some := by
        rw [List.map_map, List.map_map]
        exact List.map_congr_left part
      unfold lrT
      rw [if_neg (by omega), if_neg n0]
      unfold lrC
      rw [e2]
      dsimp only
      obtain ⟨j, ej⟩ : ∃ j, ds.length - 1 = j + 1 := ⟨ds.length - 2, by omega⟩
      have hh : (List.replicate (ds.length - 1) s).headD 0 = s := by rw [ej, List.replicate_succ]; rfl
      rw [if_neg (fun z => by
        rcases z with z | z | z
        · omega
        · rw [List.length_map, List.length_map] at z; omega
        · rw [hh, List.length_replicate] at z; exact z rfl), em, if_neg (fun z => by
        obtain ⟨x, _, ex⟩ := List.mem_map.mp z
        cases ex), hh]
      have eo : (⟨#[s]⟩ : Str) = o := ext_tl (by rw [e1])
      have ef : (ds.map some).filterMap id = ds := by
        rw [List.filterMap_map]
        exact List.filterMap_some
      rw [eo, ef]
/-- the law's reading of a text -/
noncomputable def lrd (x : Str) : Option PyData := match lrT 5 (tl x) with
  | none => none
  | some d => if lmeas 5 d ≤ 24 then some d else none
theorem lrd_prs (x : Str) : lrd x = prs x := by
  unfold lrd
  cases h : lrT 5 (tl x) with
  | none =>
    cases hp : prs x with
    | none => rfl
    | some d =>
      obtain ⟨e, ht⟩ := prs_sound hp
      rw [e, lrT_txt 5 d ((tmB_iff d).mp ht).1] at h
      cases h
  | some d =>
    obtain ⟨e, h1⟩ := lrT_sound 4 _ _ h
    dsimp only
    have ex : x = txt d := ext_tl e
    by_cases c : lmeas 5 d ≤ 24
    · rw [if_pos c, ex, prs_txt ((tmB_iff d).mpr ⟨h1, c⟩)]
    · rw [if_neg c]
      cases hp : prs x with
      | none => rfl
      | some d' =>
        obtain ⟨e', ht⟩ := prs_sound hp
        have h' := lrT_txt 5 d' ((tmB_iff d').mp ht).1
        rw [← e', h] at h'
        cases h'
        exact absurd ((tmB_iff d).mp ht).2 c
end Fv


namespace Fv
open PySem PySem.Spec PyProof.Rows L2 FvX
-- top 38  slots: 0:_law_ask 1:_law_told 2:_law_word 3:e
abbrev s_law_call : Stmt := topS 38
abbrev N_law_call : List Str := ["_law_ask", "_law_told", "_law_word", "e"]
theorem sc_law_call : FnScope N_law_call ["_law_ask"] (defScope s_law_call) := ⟨rfl, rfl, rfl, by decide +kernel, rfl, by decide +kernel, by decide +kernel⟩

section
variable {X : Cx} {gf CF : Addr} {cdg : Value} {q : Str}
/-- _law_call: what the lambda gives, or the error's code -/
theorem call_gives (hF : X.mg "FaultError" = some (.ref CF)) : GivesS X N_law_call "_law_call" (defScope s_law_call) gf cdg (defBody s_law_call) "_law_ask" q (TCall X.K CF) := by
  intro lf lc s H Q tl act hc h
  refine ⟨_, pss_cons (ps_set (i := 1) sc_law_call.nd rfl (.inl rfl) pe_non) (pss_cons (ps_set (i := 2) sc_law_call.nd rfl (.inl rfl) pe_str)
    (pss_cons (ps_try_first (X := (cxOf C8.CX0 X.prog X.w X.K X.mg X.base N_law_call "_law_call" (defScope s_law_call) gf cdg X.A X.stack s H C8.E0).nox) (i := 3) (c := .ref CF)
      (tb := fun W D σ H => ∃ E : XK, (∀ cls d H', E cls d H' → W cls d σ H') ∧ σ[0]? = some (some (.ref lf)) ∧ H lc = some (LamX.CodeO lc q) ∧ tl E H (fun v H' => D.nx (σ.set 1 (some v)) H'))
      rfl rfl sc_law_call.nd rfl rfl ⟨rfl, by decide, .inl hF⟩ (fun W pn xe tk _ => ?_)
      (fun a oe cls d pn hz hf => pss_one (ps_set (i := 2) sc_law_call.nd rfl (.inl rfl) (pe_errf (i := 3) hz hf (pv 3)))))
    (pss_one (ps_ret (pe_tup (pa_cons (pv 1) (pa_cons (pv 2) pa_nil))))))), ?_⟩
  · refine ⟨fun pins s' σ H' D I hh => ?_⟩
    obtain ⟨E, hW, h1, h2, h3⟩ := hh
    exact (pss_one (ps_set (i := 1) sc_law_call.nd rfl (.inl rfl) (act W pn xe E _ _ tk))).run pins s' σ H' D I ⟨h1, h2, hW, h3⟩
  · refine ⟨fun cls d H' => ∃ (C dd : Addr) (fs : List (Str × V)) (v : V), cls = .ref C ∧ PySem.W.exmOne X.K cls (.ref CF) = some true ∧ XfC X.K C ∧ PySem.W.findIn X.K (.ref C) "code" = some none ∧ d = some dd ∧ H' dd = some (.xd fs) ∧ fs.lookup ("code" : Str) = some v ∧
      ∀ p, H' p = none → Q (.ref p) (upd H' p (.tup [.non, v])), fun cls d H' z => ?_, rfl, hc, h _ _ (fun v H' z => ?_) (fun C dd H' fs v h2 h3 h4 h6 h7 h8 => ⟨C, dd, fs, v, rfl, h2, h3, h4, rfl, h6, h7, h8⟩)⟩
    · obtain ⟨C, dd, fs, v, h1, h2, h3, h4, h5, h6, h7, h8⟩ := z
      refine ⟨h2, fun a na => ⟨rfl, C, dd, fs, v, h1, h3, h4, h5, h6, h7, ?_⟩⟩
      exact ⟨_, rfl, _, rfl, (by show 2 ≤ sizeLine; decide), h8⟩
    · exact ⟨_, rfl, _, rfl, (by show 2 ≤ sizeLine; decide), z⟩
end
end Fv


namespace Fv
open PySem PySem.Spec PyProof.Rows L2 FvX TL
/-! ### text * int -/
def mk (l : List Nat) : Str := ⟨l.toArray⟩
theorem tl_mk (l : List Nat) : tl (mk l) = l := rfl
theorem mk_len (l : List Nat) : (mk l).length = l.length := by rw [len_tl, tl_mk]
def mulS (x : Str) (n : Nat) : Str := ⟨(List.replicate n x.cps).foldl (· ++ ·) #[]⟩
def rMulS : R2 := fun x y H Q => ∃ (z : Str) (n : Nat), x = .str z ∧ y = .int (n : Nat) ∧ 2 ≤ n ∧ n ≤ 1000 ∧ 1 ≤ z.length ∧ z.length ≤ 10 ∧ Q (.str (mulS z n)) H
theorem op_mulS {X : Cx} : OpR X (binaryOp .Mult) rMulS := by
  intro pins s σ H x y v u Q I rx ry h
  obtain ⟨z, n, rfl, rfl, n2, n3, z1, z2, q⟩ := h
  obtain ⟨t, rfl⟩ := rx
  obtain ⟨t', rfl⟩ := ry
  have ok := mulOk_of (x := z) (n := (n : Nat)) 10 1000 z2 (by omega) (by omega) (by decide) (by decide)
  have c : ((((n : Nat) : Int) == 1) || z.length == 0) = false := by
    rw [Bool.or_eq_false_iff]
    exact ⟨beq_eq_false_iff_ne.mpr (by omega), beq_eq_false_iff_ne.mpr (by omega)⟩
  refine P.mul_str ok.1 ok.2.1 ok.2.2 ?_
  rw [if_neg (by omega), if_neg (by rw [c]; decide)]
  refine ⟨?_, ?_⟩
  · show ((List.replicate n z.cps).foldl (· ++ ·) #[]).size ≤ _
    rw [len_reps]
    have : n * z.cps.size ≤ 1000 * 10 := Nat.mul_le_mul n3 z2
    refine Nat.le_trans (?_ : _ ≤ 10000) (by decide)
    simp
    omega
  · exact ⟨.str (mulS z n), H, I.tok _, ⟨_, rfl⟩, q⟩
theorem vs1 {i : Int} {n : Nat} (h : i = (n : Nat)) : [V.int i] = [V.int (n : Nat)] := by rw [h]
theorem lmeas_le {n m : Nat} {d : PyData} (h : 1 ≤ lmeas n d) (hm : n ≤ m) : lmeas m d = lmeas n d := by
  induction hm with
  | refl => rfl
  | step _ ih => rw [lmeas_up _ _ (by rw [ih]; exact h), ih]
/-- a text of few signs -/
def goodT (x : Str) : Prop := x.length ≤ 2900 ∧ PyData.strOk x = true
instance (x : Str) : Decidable (goodT x) := inferInstanceAs (Decidable (_ ∧ _))
theorem goodT.gd {x : Str} (h : goodT x) : gd 0 (.str x) = true := by
  show (PyData.strOk x && decide (x.length ≤ 100000)) = true
  rw [h.2, decide_eq_true (Nat.le_trans h.1 (by decide))]; rfl
/-! ### slices of texts -/
theorem cut_pre (z : Str) (n : Nat) : tl (cutS z none (some (n : Int))) = (tl z).take n := by
  show ((z.cps.toList.drop (HT.sIx z.length 0 none)).take (HT.sIx z.length z.length (some (n : Int)) - HT.sIx z.length 0 none)) = _
  rw [HT.sIx_none, HT.sIx_nat, List.drop_zero, Nat.sub_zero]
  have hl : z.length = z.cps.toList.length := len_tl z
  by_cases h : n ≤ z.length
  · rw [Nat.min_eq_left h]
  · rw [Nat.min_eq_right (by omega), List.take_of_length_le (by omega), List.take_of_length_le (show (tl z).length ≤ n by rw [← len_tl]; omega)]
theorem sIx_m1 (n d : Nat) (h : 1 ≤ n) : HT.sIx n d (some (-1)) = n - 1 := by
  show (if (-1 : Int) < 0 then ((-1 : Int) + (n : Int)).toNat else min (-1 : Int).toNat n) = n - 1
  rw [if_pos (by decide)]
  omega
theorem cut_last (z : Str) (h : 1 ≤ z.length) : tl (cutS z (some (-1)) none) = (tl z).drop (z.length - 1) := by
  show ((z.cps.toList.drop (HT.sIx z.length 0 (some (-1)))).take (HT.sIx z.length z.length none - HT.sIx z.length 0 (some (-1)))) = _
  have hl : z.length = z.cps.toList.length := len_tl z
  rw [HT.sIx_none, sIx_m1 _ _ h, List.take_of_length_le (by rw [List.length_drop]; omega)]
theorem cut_mid (z : Str) (h : 1 ≤ z.length) : tl (cutS z (some 1) (some (-1))) = ((tl z).drop 1).take (z.length - 2) := by
  show ((z.cps.toList.drop (HT.sIx z.length 0 (some 1))).take (HT.sIx z.length z.length (some (-1)) - HT.sIx z.length 0 (some 1))) = _
  rw [sIx_m1 _ _ h, show HT.sIx z.length 0 (some 1) = min 1 z.length from HT.sIx_nat _ 0 1, Nat.min_eq_left h, show z.length - 1 - 1 = z.length - 2 by omega]
theorem cut_ok {z : Str} (h : PyData.strOk z = true) (lo hi : Option Int) : PyData.strOk (cutS z lo hi) = true := by
  unfold PyData.strOk at h ⊢
  rw [← Array.all_toList, List.all_eq_true] at h ⊢
  intro c hc
  exact h c (List.mem_of_mem_drop (List.mem_of_mem_take hc))
theorem ok_mk {l : List Nat} {x : Str} (h : PyData.strOk x = true) (s : ∀ c ∈ l, c ∈ tl x) : PyData.strOk (mk l) = true := by
  unfold PyData.strOk at h ⊢
  rw [← Array.all_toList, List.all_eq_true] at h ⊢
  exact fun c hc => h c (s c hc)
/-! ### what has a size is plain data -/
theorem len_le_sum {n : Nat} : ∀ {ds : List PyData}, (∀ d ∈ ds, 1 ≤ lmeas n d) → (ds.length : Int) ≤ (ds.map (lmeas n)).sum
  | [], _ => by simp
  | d :: ds, h => by
    rw [List.length_cons, List.map_cons, List.sum_cons]
    have := h d (List.mem_cons_self ..)
    have := len_le_sum (ds := ds) fun x hx => h x (List.mem_cons_of_mem _ hx)
    omega
theorem gd_lmeas : ∀ (n : Nat) (d : PyData), 1 ≤ lmeas n d → lmeas n d ≤ 990 → gd n d = true
  | 0, d, h, _ => by simp only [lmeas] at h; omega
  | n + 1, d, h, h9 => by
    rcases lmeas_inv h with ⟨x, rfl, hx⟩ | ⟨o, ds, rfl, _, ho, h2, all1, e⟩
    · exact isL_gd hx _
    · rw [e] at h9
      have hl := len_le_sum all1
      refine gd_tup (fun y hy => ?_) (by rw [List.length_cons]; omega)
      rcases List.mem_cons.mp hy with z | z
      · rw [z]
        refine gd_le (n := 0) ?_ (Nat.zero_le _)
        rcases ho with ho | ho <;> subst ho <;> decide +kernel
      · refine gd_lmeas n y (all1 y z) ?_
        have := mem_le_sum (l := ds.map (lmeas n)) (x := lmeas n y) (fun u hu => by
          obtain ⟨d', _, rfl⟩ := List.mem_map.mp hu
          exact lmeas_nonneg n d') (List.mem_map.mpr ⟨y, z, rfl⟩)
        omega
theorem sum_le2 {α : Type} {f : α → Int} {g : α → Nat} : ∀ {l : List α}, (∀ x ∈ l, f x ≤ (g x : Nat)) → (l.map f).sum ≤ (((l.map g).sum : Nat) : Int)
  | [], _ => by simp
  | x :: l, h => by
    rw [List.map_cons, List.map_cons, List.sum_cons, List.sum_cons]
    have := h x (List.mem_cons_self ..)
    have := sum_le2 (l := l) fun y hy => h y (List.mem_cons_of_mem _ hy)
    omega
theorem sum_lin4 {n : Nat} : ∀ {r : List PyData}, (r.map fun x => 4 * lmeas n x - 3).sum = 4 * (r.map (lmeas n)).sum - 3 * r.length
  | [] => by simp
  | x :: r => by rw [List.map_cons, List.map_cons, List.sum_cons, List.sum_cons, sum_lin4 (r := r), List.length_cons]; omega
theorem lmeas_txt : ∀ (n : Nat) (d : PyData), 1 ≤ lmeas n d → 4 * lmeas n d ≤ ((txt d).length : Nat) + 3
  | 0, d, h => by simp only [lmeas] at h; omega
  | n + 1, d, h => by
    rcases lmeas_inv h with ⟨x, rfl, hx⟩ | ⟨o, ds, rfl, _, ho, h2, all1, e⟩
    · rw [txt_str, isL_len hx]
      show 4 * (if isL x = true then (1 : Int) else _) ≤ _
      rw [if_pos hx]; decide
    · rw [e, txt_tup, join_eq, len_tl, tl_join]
      cases ds with
      | nil => simp at h2
      | cons d0 r =>
        simp only [List.map_cons, List.sum_cons]
        rw [joinL_len, List.map_map, List.map_map]
        have hp : ∀ x ∈ d0 :: r, 4 * lmeas n x - 3 ≤ ((tl (ptx x)).length : Nat) := fun x hx => by
          have := lmeas_txt n x (all1 x hx)
          rw [← len_tl]
          unfold ptx
          split
          · omega
          · rw [par_len]; omega
        have h0 := hp d0 (List.mem_cons_self ..)
        have h1 := sum_le2 (f := fun x => 4 * lmeas n x - 3) (g := fun x => (tl (ptx x)).length) (l := r) fun x hx => hp x (List.mem_cons_of_mem _ hx)
        have e3 : (r.map (((fun x => x.length) ∘ tl) ∘ ptx)).sum = (r.map fun x => (tl (ptx x)).length).sum := rfl
        rw [e3]
        have e4 := sum_lin4 (n := n) (r := r)
        rw [e4] at h1
        have e5 : (tl (" " ++ o ++ " " : Str)).length = 3 := by rw [← len_tl]; exact sep_len ho
        rw [e5, List.length_map, List.length_map]
        omega
/-- what the law reads is plain data -/
theorem lrT_gd {n : Nat} {T : List Nat} {d : PyData} (hn : 1 ≤ n) (h : lrT n T = some d) (hT : T.length ≤ 2900) : 1 ≤ lmeas n d ∧ lmeas n d ≤ 900 ∧ gd n d = true := by
  obtain ⟨m, rfl⟩ : ∃ m, n = m + 1 := ⟨n - 1, by omega⟩
  obtain ⟨e, h1⟩ := lrT_sound m T d h
  have h2 := lmeas_txt (m + 1) d h1
  rw [len_tl, ← e] at h2
  exact ⟨h1, by omega, gd_lmeas _ d h1 (by omega)⟩
/-! ### the signs of a text: one and the same -/
theorem rep_flat (n : Nat) (c : Nat) : (List.replicate n [c]).flatten = List.replicate n c := by
  induction n with
  | zero => rfl
  | succ n ih => rw [List.replicate_succ, List.flatten_cons, ih, List.replicate_succ]; rfl
theorem sg_rep (sg : List Nat) : (List.replicate sg.length (sg.take 1)).flatten = List.replicate sg.length (sg.headD 0) := by
  cases sg with
  | nil => rfl
  | cons c r =>
    show (List.replicate (c :: r).length [c]).flatten = _
    rw [rep_flat]; rfl
theorem eqv_strs : ∀ (a b : List Nat), PyData.eqvAll (a.map fun c => PyData.str ⟨#[c]⟩) (b.map fun c => PyData.str ⟨#[c]⟩) = decide (a = b)
  | [], [] => by simp [PyData.eqvAll]
  | [], c :: b => by simp [PyData.eqvAll]
  | c :: a, [] => by simp [PyData.eqvAll]
  | c :: a, c' :: b => by
    rw [List.map_cons, List.map_cons]
    simp only [PyData.eqvAll, PyData.eqv, eqv_strs a b]
    by_cases e : c = c'
    · subst e; simp
    · simp [e]
def optD : Option PyData → PyData
  | none => .none
  | some d => d
theorem any_none : ∀ (os : List (Option PyData)), (∀ d, some d ∈ os → d ≠ .none) → (((os.map optD).any fun z => PyData.eqv z .none) = true ↔ none ∈ os)
  | [], _ => by simp
  | o :: os, h => by
    rw [List.map_cons, List.any_cons, Bool.or_eq_true, any_none os fun d hd => h d (List.mem_cons_of_mem _ hd), List.mem_cons]
    cases o with
    | none => simp [optD, PyData.eqv]
    | some d =>
      have hd := h d (List.mem_cons_self ..)
      have e : PyData.eqv d .none = false := by cases d <;> first | rfl | (exact absurd rfl hd) | (simp [PyData.eqv])
      simp [optD, e]
end Fv


namespace Fv
open PySem PySem.Spec PyProof.Rows L2 FvX TL
-- top 40  slots: 0:_law_word 1:_law_one
abbrev s_law_leaves : Stmt := topS 40
abbrev N_law_leaves : List Str := ["_law_word", "_law_one"]
theorem sc_law_leaves : FnScope N_law_leaves ["_law_word"] (defScope s_law_leaves) := ⟨rfl, rfl, rfl, by decide +kernel, rfl, by decide +kernel, by decide +kernel⟩

-- top 47  slots: 0:_law_mtext 1:_law_deep 2:_law_level 3:_law_at 4:_law_pieces 5:_law_signs_here 6:_law_inner 7:_law_one
abbrev s_law_read_term : Stmt := topS 47
abbrev N_law_read_term : List Str := ["_law_mtext", "_law_deep", "_law_level", "_law_at", "_law_pieces", "_law_signs_here", "_law_inner", "_law_one"]
theorem sc_law_read_term : FnScope N_law_read_term ["_law_mtext", "_law_deep"] (defScope s_law_read_term) := ⟨rfl, rfl, rfl, by decide +kernel, rfl, by decide +kernel, by decide +kernel⟩

-- top 48  slots: 0:_law_mtext 1:_law_deep
abbrev s_law_read_piece : Stmt := topS 48
abbrev N_law_read_piece : List Str := ["_law_mtext", "_law_deep"]
theorem sc_law_read_piece : FnScope N_law_read_piece ["_law_mtext", "_law_deep"] (defScope s_law_read_piece) := ⟨rfl, rfl, rfl, by decide +kernel, rfl, by decide +kernel, by decide +kernel⟩

-- top 49  slots: 0:_law_mtext 1:_law_word
abbrev s_law_read : Stmt := topS 49
abbrev N_law_read : List Str := ["_law_mtext", "_law_word"]
theorem sc_law_read : FnScope N_law_read ["_law_mtext"] (defScope s_law_read) := ⟨rfl, rfl, rfl, by decide +kernel, rfl, by decide +kernel, by decide +kernel⟩

def spLeaves (K : PySem.W.Frag) (n : Nat) : Sp := fun vs H Q _ => ∃ (v : V) (d : PyData) (m : Nat), vs = [v] ∧ Dp K H v d ∧ gd 20 d = true ∧ m < n ∧ 1 ≤ lmeas m d ∧ ∀ H', Same H H' → Q (.int (lmeas m d)) H'
def spLR (K : PySem.W.Frag) (g : Nat → List Nat → Option PyData) (n : Nat) : Sp := fun vs H Q _ => ∃ (x : Str) (m : Nat) (M : List Addr), vs = [.str x, .int (m : Nat)] ∧ x.length ≤ 2900 ∧ PyData.strOk x = true ∧ m < n ∧ Trk M H ∧
  (∀ d, g m (tl x) = some d → ∀ (H' : Hp) (v : V), Same H H' → Dp K (hide M H') v d → Q v H') ∧ (g m (tl x) = none → ∀ H', Same H H' → Q .non H')
def spLRead (K : PySem.W.Frag) : Sp := fun vs H Q _ => ∃ (x : Str) (M : List Addr), vs = [.str x] ∧ x.length ≤ 2900 ∧ PyData.strOk x = true ∧ Trk M H ∧
  (∀ d, prs x = some d → ∀ (H' : Hp) (v : V), Same H H' → Dp K (hide M H') v d → Q v H') ∧ (prs x = none → ∀ H', Same H H' → Q .non H')
theorem vs2 {x : Str} {i : Int} {m : Nat} (h : i = (m : Nat)) : [V.str x, V.int i] = [.str x, .int (m : Nat)] := by rw [h]
theorem in_sgT (s : Str) : (([PyData.str " & ", .str " | "] : List PyData).any fun z => PyData.eqv z (.str s)) = decide (isSg s) := by
  simp only [List.any_cons, List.any_nil, Bool.or_false, PyData.eqv]
  rw [Bool.eq_iff_iff, decide_eq_true_eq, Bool.or_eq_true, beq_iff_eq, beq_iff_eq]
  exact ⟨fun h => h.imp Eq.symm Eq.symm, fun h => h.imp Eq.symm Eq.symm⟩
theorem par_iff (c : Nat) : (decide (V.str (⟨#[c]⟩ : Str) = V.str "(")) = decide (c = 40) ∧ (decide (V.str (⟨#[c]⟩ : Str) = V.str ")")) = decide (c = 41) := by
  have e1 : ("(" : Str) = ⟨#[40]⟩ := by decide +kernel
  have e2 : (")" : Str) = ⟨#[41]⟩ := by decide +kernel
  rw [e1, e2]
  constructor <;> (rw [Bool.eq_iff_iff, decide_eq_true_eq, decide_eq_true_eq]; simp)
theorem dl_eq (lv : Int) (c : Nat) : lv + (if decide (V.str (⟨#[c]⟩ : Str) = V.str "(") = true then 1 else 0) - (if decide (V.str (⟨#[c]⟩ : Str) = V.str ")") = true then 1 else 0) = lv + dl c := by
  rw [(par_iff c).1, (par_iff c).2]
  unfold dl
  simp only [decide_eq_true_eq]
  omega
/-- the pieces of a text -/
theorem piece_in {T : List Nat} {lv : Int} {ps : List (List Nat)} {sg : List Nat} (h : scn T 0 [] [] [] = some (lv, ps, sg)) : (∀ p ∈ ps, p.length ≤ T.length ∧ ∀ c ∈ p, c ∈ T) ∧ ps.length = sg.length + 1 := by
  obtain ⟨q, l, e1, e2, e3, _⟩ := scn_sound _ T (Nat.le_refl _) _ _ _ _ _ _ _ h
  rw [List.nil_append, List.nil_append] at e1
  rw [List.nil_append] at e2
  refine ⟨fun p hp => ?_, by rw [e1, e2, List.length_cons, List.length_map, List.length_map]⟩
  rw [e1] at hp
  rcases List.mem_cons.mp hp with z | z
  · rw [z, e3]
    exact ⟨by rw [List.length_append]; omega, fun c hc => List.mem_append_left _ hc⟩
  · obtain ⟨t, ht, rfl⟩ := List.mem_map.mp z
    obtain ⟨l1, l2, el⟩ := List.append_of_mem ht
    rw [e3, el]
    refine ⟨?_, fun c hc => ?_⟩
    · rw [List.flatMap_append, List.flatMap_cons]
      simp only [List.length_append]
      omega
    · rw [List.flatMap_append, List.flatMap_cons]
      simp only [List.mem_append]
      exact .inr (.inr (.inl (.inr hc)))
theorem lrP_gd {n : Nat} {T : List Nat} {d : PyData} (hn : 1 ≤ n) (h : lrP (lrT n) T = some d) (hT : T.length ≤ 2900) : 1 ≤ lmeas n d ∧ gd n d = true := by
  unfold lrP at h
  by_cases c : T.length = 1
  · rw [if_pos c] at h
    have := lrT_gd hn h hT
    exact ⟨this.1, this.2.2⟩
  · rw [if_neg c] at h
    by_cases c2 : T.take 1 ≠ [40] ∨ T.drop (T.length - 1) ≠ [41] ∨ T.length < 4
    · rw [if_pos c2] at h; cases h
    · rw [if_neg c2] at h
      have := lrT_gd hn h (by rw [List.length_take, List.length_drop]; omega)
      exact ⟨this.1, this.2.2⟩
theorem opt_filter : ∀ {os : List (Option PyData)}, none ∉ os → os.map optD = os.filterMap id
  | [], _ => rfl
  | o :: os, h => by
    rw [List.mem_cons, not_or] at h
    cases o with
    | none => exact absurd rfl h.1
    | some d =>
      rw [List.map_cons, opt_filter h.2]
      rfl
theorem dpAll_strs {K : PySem.W.Frag} {H : Hp} : ∀ sg : List Nat, DpAll K H (sg.map fun c => V.str (mk [c])) (sg.map fun c => PyData.str ⟨#[c]⟩)
  | [] => .nil
  | c :: sg => .cons (.str _) (dpAll_strs sg)
theorem strs_gd {sg : List Nat} {x : Str} (hok : PyData.strOk x = true) (h : ∀ c ∈ sg, c ∈ tl x) (hl : sg.length ≤ 1000) : gd 1 (.list (sg.map fun c => PyData.str ⟨#[c]⟩)) = true := by
  refine gd_lst (n := 0) (fun d hd => ?_) (by rw [List.length_map]; exact hl)
  obtain ⟨c, hc, rfl⟩ := List.mem_map.mp hd
  show (PyData.strOk (mk [c]) && decide ((mk [c]).length ≤ 100000)) = true
  rw [ok_mk hok (fun z hz => by rw [List.mem_singleton.mp hz]; exact h c hc)]
  rfl
theorem cutV_take1 (l : List Nat) : cutV (l.map fun c => V.str (mk [c])) none (some 1) = (l.take 1).map fun c => V.str (mk [c]) := by
  rw [cut_take _ (by decide)]
  exact (List.map_take ..).symm
theorem flat_map (n : Nat) (l : List Nat) : (List.replicate n (l.map fun c => V.str (mk [c]))).flatten = ((List.replicate n l).flatten).map fun c => V.str (mk [c]) := by
  induction n with
  | zero => rfl
  | succ n ih => rw [List.replicate_succ, List.flatten_cons, ih, List.replicate_succ, List.flatten_cons, List.map_append]
section
variable {P : Program} {w : World} {K : PySem.W.Frag} {mg : Str → Option Value} {base : Heap}
theorem leaves_zero {f : Addr} {fd : FuncData} {k : Nat} {ps : List Str} : FnOk P w K mg base CX0 k f fd ps (spLeaves K 0) := by
  have no : ∀ vs H Q E, ¬ spLeaves K 0 vs H Q E := fun vs H Q E h => by
    obtain ⟨v, d, m, _, _, _, m1, _⟩ := h
    omega
  exact ⟨fun vs H Q E h => absurd h (no vs H Q E), fun A outer s H args us vs Q E _ _ _ _ h => absurd h (no vs H Q E)⟩
theorem lr_zero {f : Addr} {fd : FuncData} {k : Nat} {ps : List Str} {g : Nat → List Nat → Option PyData} : FnOk P w K mg base CX0 k f fd ps (spLR K g 0) := by
  have no : ∀ vs H Q E, ¬ spLR K g 0 vs H Q E := fun vs H Q E h => by
    obtain ⟨x, m, M, _, _, _, m1, _⟩ := h
    omega
  exact ⟨fun vs H Q E h => absurd h (no vs H Q E), fun A outer s H args us vs Q E _ _ _ _ h => absurd h (no vs H Q E)⟩
theorem ok_leaves {f : Addr} {fd : FuncData} {k n : Nat} (F : Fun K "_law_leaves" "_law_leaves" s_law_leaves f fd) (m_isinstance : mg "isinstance" = none) (m_str : mg "str" = none) (m_sum : mg "sum" = none)
    (C_law_leaves : Own P w K mg base k "_law_leaves" ["_law_word"] (spLeaves K n)) :
    FnOk P w K mg base CX0 (k + 1) f fd ["_law_word"] (spLeaves K (n + 1)) := by
  refine F.ok sc_law_leaves (fun vs H Q E h => ?_) (fun cdv A outer s H vs Q E hr h => ?_)
  · obtain ⟨v, d, m, rfl, _⟩ := h
    rfl
  · obtain ⟨v, d, m, rfl, hd, hg, hm, l1, q⟩ := h
    refine ⟨_, (pss_one (ps_ret (pe_ifExp (pt_val (pe_isD (T := "str") (by rfl) m_isinstance (by rfl) m_str (pv 0))) pe_int (pe_callB (cr_sum rfl) (by rfl) m_sum (by decide +kernel) (pa_cons (pe_lc (own := [("_law_one", 1)]) (g := gName 1) (by rfl) sc_law_leaves.nd (pi_tup (pe_slice sl_tup (pv 0) (po_some pe_int) po_none)) (blkOk_by (own := [("_law_one", 1)]) (N := N_law_leaves) (sc := defScope s_law_leaves) (by decide +kernel)) (fun _ _ _ _ _ => pg_name (i := 1) sc_law_leaves.nd rfl (Or.inl rfl)) (fun _ _ _ _ _ => pts_nil) (fun _ _ _ _ _ => (pe_own C_law_leaves (hr.mono (by omega)) (by rfl) (pa_cons (pv 1) pa_nil)))) pa_nil))))), ?_⟩
    cases m with
    | zero => simp only [lmeas] at l1; omega
    | succ m =>
    rcases lmeas_inv l1 with ⟨x, rfl, hx⟩ | ⟨o, ds, rfl, nl, ho, h2, all1, e⟩
    · cases hd
      have q' := q H (Same.refl H)
      have e1 : lmeas (m + 1) (.str x) = 1 := by
        show (if isL x = true then (1 : Int) else _) = 1
        rw [if_pos hx]
      rw [e1] at q'
      exact ⟨_, rfl, _, _, _, rfl, by decide, .str x, _, rfl, iteT q'⟩
    · cases hd with
      | @tup a xs _ hs ha =>
        cases ha with
        | @cons x0 xr _ _ h1 hA =>
        cases h1
        have hl := dpAll_len hA
        refine ⟨_, rfl, _, _, .tuple (.str o :: ds), rfl, by decide, .tup hs (.cons (.str o) hA), _, rfl, iteF ?_⟩
        refine ⟨_, rfl, 1, rfl, a, _, rfl, hs, ?_, fun p np => ?_⟩
        · rw [show HT.sIx (V.str o :: xr).length 0 (some 1) = min 1 (V.str o :: xr).length from HT.sIx_nat _ 0 1, List.length_cons]
          omega
        have ex : cutV (V.str o :: xr) (some 1) none = xr := by rw [cut_drop1]; rfl
        rw [ex]
        have sp := same_upd (o := .tup xr) np
        have gp := (gd_parts hg).2
        refine ⟨p, rfl, ⟨_, SqT.of upd_same⟩, fun D nD => lc_tup (xs := xr) (fun i H1 => Same (upd H p (.tup xr)) H1 ∧ H1 D = some (.lst (((ds.take i).map (lmeas m)).map V.int))) ?_ ?_ ?_ ?_⟩
        · exact ⟨same_upd nD, by rw [upd_same]; rfl⟩
        · rintro i H1 hi ⟨sm, e1⟩
          exact SqT.of (sm _ _ upd_same)
        · rintro i x H1 hx ⟨sm, e1⟩
          obtain ⟨d', hd', hD'⟩ := dpAll_get hA hx
          have hDs : Dp K H1 x d' := dp_same (sp.trans sm) d' x hD'
          have md : d' ∈ ds := List.mem_of_getElem? hd'
          refine ⟨rfl, ?_⟩
          dsimp only [tYes]
          rw [if_pos rfl]
          refine ⟨_, rfl, x, d', m, rfl, hDs, gd_le (gp d' md) (by decide), by omega, all1 d' md, fun H2 s2 => ?_⟩
          refine ⟨_, s2 _ _ e1, ?_, ?_, ?_⟩
          · rw [List.length_map, List.length_map, List.length_take]
            have lds := (gd_tuple hg).1
            rw [List.length_cons] at lds
            exact small1000 (by omega)
          · intro b o' eb
            have bD : b ≠ D := ne_of_none eb nD
            rw [upd_ne bD]
            exact s2 _ _ (sm _ _ eb)
          · rw [upd_same, List.take_add_one, hd']
            simp
        · rintro H1 ⟨sm, e1⟩
          have et : ds.take xr.length = ds := List.take_of_length_le (by omega)
          rw [et] at e1
          have q' := q H1 (sp.trans sm)
          rw [e] at q'
          exact ⟨D, _, rfl, SqL.of e1, q'⟩
theorem ok_read_piece {f : Addr} {fd : FuncData} {k n : Nat} (F : Fun K "_law_read_piece" "_law_read_piece" s_law_read_piece f fd) (m_len : mg "len" = none)
    (C_law_read_term : Own P w K mg base k "_law_read_term" ["_law_mtext", "_law_deep"] (spLR K lrT n)) :
    FnOk P w K mg base CX0 (k + 1) f fd ["_law_mtext", "_law_deep"] (spLR K (fun m => lrP (lrT m)) n) := by
  refine F.ok sc_law_read_piece (fun vs H Q E h => ?_) (fun cdv A outer s H vs Q E hr h => ?_)
  · obtain ⟨x, m, M, rfl, _⟩ := h
    rfl
  · obtain ⟨x, m, M, rfl, hx, hok, hm, tM, o1, o2⟩ := h
    refine ⟨_, (pss_cons (ps_if (pt_cmpR op_eq (pe_callB call_len_str (by rfl) m_len (by decide +kernel) (pa_cons (pv 0) pa_nil)) pe_int (nomark _))
        (pss_one (ps_ret (pe_own C_law_read_term (hr.mono (by omega)) (by rfl) (pa_cons (pv 0) (pa_cons (pv 1) pa_nil)))))
        pss_nil)
      (pss_cons (ps_if (PW.pt (pw_or (pt_cmpR op_ne (pe_slice sl_str (pv 0) po_none (po_some pe_int)) pe_str (nomark _)) (pw_or (pt_cmpR op_ne (pe_slice sl_str (pv 0) (po_some (pe_un un_neg pe_int)) po_none) pe_str (nomark _)) (pw_or1 (pt_cmpR op_lt (pe_callB call_len_str (by rfl) m_len (by decide +kernel) (pa_cons (pv 0) pa_nil)) pe_int (nomark _))))))
        (pss_one (ps_ret pe_non))
        pss_nil)
      (pss_one (ps_ret (pe_own C_law_read_term (hr.mono (by omega)) (by rfl) (pa_cons (pe_slice sl_str (pv 0) (po_some pe_int) (po_some (pe_un un_neg pe_int))) (pa_cons (pv 1) pa_nil))))))), ?_⟩
    have lx : x.length = (tl x).length := len_tl x
    refine ⟨_, rfl, x, rfl, fit900 hx, rfl, _, rfl, ?_⟩
    unfold lrP at o1 o2
    dsimp only at o1 o2
    refine ite2 (fun c => ?_) (fun c => ?_)
    · have c1 : (tl x).length = 1 := by have := V.int.inj (of_decide_eq_true c); omega
      rw [if_pos c1] at o1 o2
      exact ⟨_, rfl, _, rfl, x, m, M, rfl, hx, hok, hm, tM, o1, o2⟩
    · have c1 : ¬ (tl x).length = 1 := fun z => c (decide_eq_true (by rw [lx, z]; rfl))
      rw [if_neg c1] at o1 o2
      have q0 : ((tl x).take 1 ≠ [40] ∨ (tl x).drop ((tl x).length - 1) ≠ [41] ∨ (tl x).length < 4) → Q .non H := fun z => o2 (by rw [if_pos z]) H (Same.refl H)
      have p1 : ("(" : Str) = mk [40] := by decide +kernel
      have p2 : (")" : Str) = mk [41] := by decide +kernel
      refine ⟨_, rfl, _, rfl, x, rfl, fit900 hx, rfl, _, rfl, ?_⟩
      refine ite2 (fun c => iteT (q0 (.inl fun z => ?_))) (fun c => ?_)
      · have ex : cutS x none (some 1) = "(" := by
          rw [p1]
          exact ext_tl ((cut_pre x 1).trans z)
        rw [ex] at c
        exact absurd c (by decide +kernel)
      · have k1 : (tl x).take 1 = [40] := by
          have z : cutS x none (some 1) = "(" := by
            have c' := Bool.eq_false_iff.mpr c
            rw [Bool.not_eq_false'] at c'
            exact V.str.inj (of_decide_eq_true c')
          rw [← cut_pre x 1]
          show tl (cutS x none (some 1)) = _
          rw [z]; decide +kernel
        have x1 : 1 ≤ x.length := by
          rw [lx]
          cases ht : tl x with
          | nil => rw [ht] at k1; cases k1
          | cons _ _ => rw [List.length_cons]; omega
        refine ⟨_, rfl, _, rfl, _, rfl, x, rfl, fit900 hx, rfl, _, rfl, ?_⟩
        refine ite2 (fun c => iteT (q0 (.inr (.inl fun z => ?_)))) (fun c => ?_)
        · have ex : cutS x (some (-1)) none = ")" := by
            rw [p2]
            exact ext_tl ((cut_last x x1).trans (by rw [lx]; exact z))
          rw [ex] at c
          exact absurd c (by decide +kernel)
        · have k2 : (tl x).drop ((tl x).length - 1) = [41] := by
            have z : cutS x (some (-1)) none = ")" := by
              have c' := Bool.eq_false_iff.mpr c
              rw [Bool.not_eq_false'] at c'
              exact V.str.inj (of_decide_eq_true c')
            rw [← lx, ← cut_last x x1, z]; decide +kernel
          refine ⟨_, rfl, x, rfl, fit900 hx, _, _, rfl, rfl, _, rfl, ?_⟩
          refine ite2 (fun c => q0 (.inr (.inr ?_))) (fun c => ?_)
          · have := of_decide_eq_true c; omega
          · have k3 : ¬ (tl x).length < 4 := by have := of_decide_eq_false (Bool.eq_false_iff.mpr c); omega
            rw [if_neg (fun z => z.elim (fun y => y k1) fun y => y.elim (fun y => y k2) k3)] at o1 o2
            have em := cut_mid x x1
            rw [lx] at em
            rw [← em] at o1 o2
            have cl := cutS_length x (some 1) (some (-1))
            exact ⟨_, rfl, _, rfl, _, rfl, _, rfl, x, rfl, fit900 hx, _, rfl, _, m, M, rfl, by omega, cut_ok hok _ _, hm, tM, o1, o2⟩
end
end Fv


namespace Fv
open PySem PySem.Spec PyProof.Rows L2 FvX TL
def pcs (ps : List (List Nat)) : List V := ps.map fun l => V.str (mk l)
def sgs (sg : List Nat) : List V := sg.map fun c => V.str (mk [c])
abbrev Rr := Option (Int × List (List Nat) × List Nat)
def WS (x : Str) (m : Nat) (Lp Ls : Addr) (H : Hp) (R : Rr) (f : Nat) (σ : L2.St) (H1 : Hp) : Prop := ∃ (a : Nat) (lv : Int) (ps : List (List Nat)) (cur sg : List Nat),
  σ = [some (.str x), some (.int (m : Nat)), some (.int lv), some (.int (a : Nat)), some (.ref Lp), some (.ref Ls), none, none] ∧ H1 Lp = some (.lst (pcs ps ++ [V.str (mk cur)])) ∧ H1 Ls = some (.lst (sgs sg)) ∧ a ≤ (tl x).length ∧ f = (tl x).length - a ∧ 0 ≤ lv ∧
  3 * ps.length ≤ a ∧ 3 * sg.length ≤ a ∧ cur.length ≤ a ∧ scn ((tl x).drop a) lv ps cur sg = R ∧ Same H H1
def WM (x : Str) (m : Nat) (Lp Ls : Addr) (H : Hp) (R : Rr) (a0 : Nat) (σ : L2.St) (H1 : Hp) : Prop := ∃ (a : Nat) (lv : Int) (ps : List (List Nat)) (cur sg : List Nat),
  σ = [some (.str x), some (.int (m : Nat)), some (.int lv), some (.int (a : Nat)), some (.ref Lp), some (.ref Ls), none, none] ∧ H1 Lp = some (.lst (pcs ps ++ [V.str (mk cur)])) ∧ H1 Ls = some (.lst (sgs sg)) ∧ a ≤ (tl x).length ∧ a0 < a ∧
  3 * ps.length ≤ a ∧ 3 * sg.length ≤ a ∧ cur.length ≤ a ∧ (lv < 0 → R = none) ∧ (0 ≤ lv → scn ((tl x).drop a) lv ps cur sg = R) ∧ Same H H1
theorem pcs_len (ps : List (List Nat)) : (pcs ps).length = ps.length := List.length_map ..
theorem sgs_len (sg : List Nat) : (sgs sg).length = sg.length := List.length_map ..
theorem pcs_app (ps qs : List (List Nat)) : pcs (ps ++ qs) = pcs ps ++ pcs qs := List.map_append ..
theorem sgs_app (ps qs : List Nat) : sgs (ps ++ qs) = sgs ps ++ sgs qs := List.map_append ..
theorem mk_app (l : List Nat) (c : Nat) : mk l ++ (⟨#[c]⟩ : Str) = mk (l ++ [c]) := ext_tl (by rw [tl_append]; rfl)
theorem ixN_m1 {n : Nat} (h : 1 ≤ n) : ixN n (-1) = some (n - 1) := by
  unfold ixN
  rw [if_neg (by decide), if_pos (by omega)]
  congr 1
  omega
theorem set_last (l : List V) (v v' : V) : (l ++ [v]).set ((l ++ [v]).length - 1) v' = l ++ [v'] := by
  rw [List.length_append, List.length_singleton, Nat.add_sub_cancel, List.set_append_right _ _ (Nat.le_refl _), Nat.sub_self]
  rfl
section
variable {P : Program} {w : World} {K : PySem.W.Frag} {mg : Str → Option Value} {base : Heap}
theorem ok_lread_term {f : Addr} {fd : FuncData} {k n : Nat} (F : Fun K "_law_read_term" "_law_read_term" s_law_read_term f fd) (m_len : mg "len" = none) (m_int : mg "int" = none) (m_tuple : mg "tuple" = none) (hn : n ≤ 10)
    (C_law_read_piece : Own P w K mg base k "_law_read_piece" ["_law_mtext", "_law_deep"] (spLR K (fun m => lrP (lrT m)) n)) :
    FnOk P w K mg base CX0 (k + 1) f fd ["_law_mtext", "_law_deep"] (spLR K lrT (n + 1)) := by
  refine F.ok sc_law_read_term (fun vs H Q E h => ?_) (fun cdv A outer s H vs Q E hr h => ?_)
  · obtain ⟨x, m, M, rfl, _⟩ := h
    rfl
  · obtain ⟨x, m, M, rfl, hx, hok, hm, tM, o1, o2⟩ := h
    refine ⟨_, (pss_cons (ps_if (pt_cmpR op_eq (pe_callB call_len_str (by rfl) m_len (by decide +kernel) (pa_cons (pv 0) pa_nil)) pe_int (nomark _))
        (pss_one (ps_ret (pe_ifExp (pt_cmpR op_in_str (pv 0) pe_str (by rfl)) (pv 0) pe_non)))
        pss_nil)
      (pss_cons (ps_if (pt_cmpR op_lt (pv 1) pe_int (nomark _))
        (pss_one (ps_ret pe_non))
        pss_nil)
      (pss_cons (ps_asg (pe_tup (pa_cons pe_int (pa_cons pe_int (pa_cons (pe_lst (pa_cons pe_str pa_nil)) (pa_cons (pe_lst pa_nil) pa_nil))))) (pg_tup rfl (pgs_cons (pg_name (i := 2) sc_law_read_term.nd rfl (by first | exact .inl rfl | exact .inr rfl)) (pgs_cons (pg_name (i := 3) sc_law_read_term.nd rfl (by first | exact .inl rfl | exact .inr rfl)) (pgs_cons (pg_name (i := 4) sc_law_read_term.nd rfl (by first | exact .inl rfl | exact .inr rfl)) (pgs_cons (pg_name (i := 5) sc_law_read_term.nd rfl (by first | exact .inl rfl | exact .inr rfl)) pgs_nil))))))
      (pss_cons (ps_while PassesOwn.never (pt_cmpR op_lt (pv 3) (pe_callB call_len_str (by rfl) m_len (by decide +kernel) (pa_cons (pv 0) pa_nil)) (nomark _))
        (C8.pss_cut (ps_if (PW.pt (pw_and (pt_cmpR op_eq (pv 2) pe_int (nomark _)) (pw_and1 (pt_cmpR (op_inT (hu65 hr)) (pe_slice sl_str (pv 0) (po_some (pv 3)) (po_some (pe_op op_add (pv 3) pe_int))) (pe_tup (pa_cons pe_str (pa_cons pe_str pa_nil))) (by rfl)))))
          (pss_cons (ps_expr (pe_bm PySem.F.plainAttrs_list PySem.F.slot_list_append PySem.F.type_list_append mt_append (pv 5) (pa_cons (pe_ix ix_str (pv 0) (pe_op op_add (pv 3) pe_int) (fun _ _ => rfl)) pa_nil)))
          (pss_cons (ps_expr (pe_bm PySem.F.plainAttrs_list PySem.F.slot_list_append PySem.F.type_list_append mt_append (pv 4) (pa_cons pe_str pa_nil)))
          (pss_one (ps_set (i := 3) sc_law_read_term.nd rfl (by first | exact .inl rfl | exact .inr rfl) (pe_op op_add (pv 3) pe_int)))))
          (pss_cons (ps_set (i := 2) sc_law_read_term.nd rfl (by first | exact .inl rfl | exact .inr rfl) (pe_op op_sub (pe_op op_add (pv 2) (pe_callTy call_int1 (by rfl) m_int (by decide +kernel) (pa_cons (pe_cmpR op_eq (pe_ix ix_str (pv 0) (pv 3) (fun _ _ => rfl)) pe_str (nomark _)) pa_nil))) (pe_callTy call_int1 (by rfl) m_int (by decide +kernel) (pa_cons (pe_cmpR op_eq (pe_ix ix_str (pv 0) (pv 3) (fun _ _ => rfl)) pe_str (nomark _)) pa_nil))))
          (pss_cons (ps_asg (pe_op op_add_str (pe_ix ix_list (pv 4) (pe_un un_neg pe_int) (fun _ _ => rfl)) (pe_ix ix_str (pv 0) (pv 3) (fun _ _ => rfl))) (pg_sub (pv 4) (pe_un un_neg pe_int) set_list))
          (pss_one (ps_set (i := 3) sc_law_read_term.nd rfl (by first | exact .inl rfl | exact .inr rfl) (pe_op op_add (pv 3) pe_int))))))
        (pss_one (ps_if (pt_cmpR op_lt (pv 2) pe_int (nomark _))
          (pss_one (ps_ret pe_non))
          pss_nil))))
      (pss_cons (ps_if (PW.pt (pw_or (pt_cmpR op_gt (pv 2) pe_int (nomark _)) (pw_or (pt_cmpR op_lt (pe_callB call_len_seq (by rfl) m_len (by decide +kernel) (pa_cons (pv 4) pa_nil)) pe_int (nomark _)) (pw_or1 (pt_cmpR (op_neD hr.units) (pv 5) (pe_op op_rep (pe_slice sl_list (pv 5) po_none (po_some pe_int)) (pe_callB call_len_seq (by rfl) m_len (by decide +kernel) (pa_cons (pv 5) pa_nil))) (nomark _))))))
        (pss_one (ps_ret pe_non))
        pss_nil)
      (pss_cons (ps_setLc (i := 6) (own := [("_law_one", 7)]) (g := gName 7) (by rfl) sc_law_read_term.nd rfl rfl (sw_true rfl rfl rfl (by decide +kernel)) (pi_list (pv 4)) (blkOk_by (own := [("_law_one", 7)]) (N := N_law_read_term) (sc := defScope s_law_read_term) (by decide +kernel)) (fun _ _ _ _ _ => pg_name (i := 7) sc_law_read_term.nd rfl (Or.inl rfl)) (fun _ _ _ _ _ => pts_nil) (fun _ _ _ _ _ => (pe_own C_law_read_piece (hr.mono (by omega)) (by rfl) (pa_cons (pv 7) (pa_cons (pe_op op_sub (pv 1) pe_int) pa_nil)))))
      (pss_one (ps_ret (pe_ifExp (pt_cmpR (op_inD (hu65 hr)) pe_non (pv 6) (by rfl)) pe_non (pe_callTy call_tuple_of (by rfl) m_tuple (by decide +kernel) (pa_cons (pe_op op_cat (pe_slice sl_list (pv 5) po_none (po_some pe_int)) (pv 6)) pa_nil))))))))))), ?_⟩
    have lx : x.length = (tl x).length := len_tl x
    refine ⟨_, rfl, x, rfl, fit900 hx, rfl, _, rfl, ?_⟩
    refine ite2 (fun c => ?_) (fun c => ?_)
    · have c1 : (tl x).length = 1 := by have := V.int.inj (of_decide_eq_true c); omega
      have e0 : lrT m (tl x) = if isL x = true then some (.str x) else none := by
        rw [lrT_one c1]; unfold lrL; rw [mk_tl]
      have eL : isL x = !(Builtin.Str.occurrences "abcdefgh" x 0 (Str.length "abcdefgh") 1).isEmpty := by
        unfold isL; rw [show decide (V.int (x.length : Nat) = V.int 1) = true from c, Bool.true_and]
      refine ⟨_, rfl, _, _, rfl, rfl, _, rfl, ?_⟩
      refine ite2 (fun c => ?_) (fun c => ?_)
      · exact ⟨_, rfl, o1 (.str x) (by rw [e0, if_pos (eL.trans c)]) H _ (Same.refl H) (.str x)⟩
      · exact o2 (by rw [e0, if_neg (fun z => c (eL.symm.trans z))]) H (Same.refl H)
    · have c1 : ¬ (tl x).length = 1 := fun z => c (decide_eq_true (by rw [lx, z]; rfl))
      refine ⟨_, rfl, _, _, rfl, rfl, _, rfl, ?_⟩
      refine ite2 (fun c => ?_) (fun c => ?_)
      · have c2 : (m : Int) < 2 := of_decide_eq_true c
        refine o2 ?_ H (Same.refl H)
        match m, c2 with
        | 0, _ => unfold lrT; rw [if_neg c1]
        | 1, _ => unfold lrT; rw [if_neg c1, if_pos rfl]
        | m + 2, c2 => omega
      · have c2 : ¬ (m : Int) < 2 := of_decide_eq_false (Bool.eq_false_iff.mpr c)
        obtain ⟨m', rfl⟩ : ∃ m', m = m' + 1 := ⟨m - 1, by omega⟩
        unfold lrT at o1 o2
        rw [if_neg c1, if_neg (by omega)] at o1 o2
        unfold lrC at o1 o2
        refine ⟨(by show 1 ≤ sizeLine; decide), fun Lp nLp => ⟨Nat.zero_le _, fun Ls nLs => ⟨(by show 4 ≤ sizeLine; decide), fun tp ntp => ?_⟩⟩⟩
        have sA := same_upd (o := .lst [.str ""]) nLp
        have sB := same_upd (o := .lst []) nLs
        have sC := same_upd (o := .tup [.int 0, .int 0, .ref Lp, .ref Ls]) ntp
        have nLs0 : H Ls = none := sA.free nLs
        have LpLs : Lp ≠ Ls := fun z => by
          rw [← z, upd_same] at nLs; cases nLs
        refine ⟨tp, _, rfl, SqT.of upd_same, rfl, _, _, rfl, _, _, rfl, _, _, rfl, _, _, rfl, rfl, ?_⟩
        obtain ⟨R, hR⟩ : ∃ R, scn (tl x) 0 [] [] [] = R := ⟨_, rfl⟩
        rw [hR] at o1 o2
        refine ⟨WS x (m' + 1) Lp Ls H R, ⟨(tl x).length, 0, 0, [], [], [], rfl, ?_, ?_, Nat.zero_le _, rfl, by decide, (by decide), (by decide), Nat.le_refl _, hR, sA.trans (sB.trans sC)⟩, ?_⟩
        · exact sC _ _ (sB _ _ upd_same)
        · exact sC _ _ upd_same
        rintro fu σ H1 ⟨a, lv, ps, cur, sg, rfl, hP, hS, ha, rfl, h0, lp, ls, lc, hR1, s1⟩
        have putP : ∀ {H2 : Hp} {o : HO}, Same H H2 → Same H (upd H2 Lp o) := fun {H2 o} s b o' eb => by
          rw [upd_ne (ne_of_none eb nLp)]; exact s _ _ eb
        have putS : ∀ {H2 : Hp} {o : HO}, Same H H2 → Same H (upd H2 Ls o) := fun {H2 o} s b o' eb => by
          rw [upd_ne (ne_of_none eb nLs0)]; exact s _ _ eb
        have big : ∀ n : Nat, n ≤ 9000 → n ≤ sizeLine := fun n h => Nat.le_trans h (by decide)
        refine ⟨_, rfl, _, rfl, x, rfl, fit900 hx, _, _, rfl, rfl, _, rfl, ?_⟩
        refine ite2 (fun c => ?_) (fun c => ?_)
        · have ca : a < (tl x).length := by have := of_decide_eq_true c; omega
          obtain ⟨ch, r, hd⟩ : ∃ ch r, (tl x).drop a = ch :: r := by
            rw [List.drop_eq_getElem_cons ca]; exact ⟨_, _, rfl⟩
          have hch : (tl x)[a]? = some ch := by
            have := congrArg List.head? hd
            rw [List.head?_drop] at this
            exact this
          have hdr : (tl x).drop (a + 1) = r := by
            rw [← List.drop_drop, hd]; rfl
          have e3 : sub ((tl x).drop a) 0 3 = sub (tl x) a 3 := rfl
          rw [hd, scn_cons, ← hd, e3] at hR1
          refine ⟨fun σ' H' => ∃ f', f' < (tl x).length - a ∧ WS x (m' + 1) Lp Ls H R f' σ' H', fun σ' H' h => h, ?_⟩
          refine ⟨WM x (m' + 1) Lp Ls H R a, ?_, ?_⟩
          · -- the if
            have elseB : ¬ (lv = 0 ∧ isSg (sub (tl x) a 3)) → ∀ H2 : Hp, Same H1 H2 → H2 Lp = some (.lst (pcs ps ++ [V.str (mk cur)])) ∧ WM x (m' + 1) Lp Ls H R a [some (.str x), some (.int ((m' + 1 : Nat) : Int)), some (.int (lv + dl ch)), some (.int ((a + 1 : Nat) : Int)), some (.ref Lp), some (.ref Ls), none, none] (upd H2 Lp (.lst (pcs ps ++ [V.str (mk (cur ++ [ch]))]))) := fun k H2 s2 => by
              rw [if_neg k] at hR1
              refine ⟨s2 _ _ hP, a + 1, lv + dl ch, ps, cur ++ [ch], sg, rfl, upd_same, ?_, by omega, by omega, by omega, by omega, by rw [List.length_append, List.length_singleton]; omega, fun z => ?_, fun z => ?_, putP (s1.trans s2)⟩
              · rw [upd_ne LpLs.symm]; exact s2 _ _ hS
              · rw [if_pos z] at hR1; exact hR1.symm
              · rw [if_neg (by omega)] at hR1
                rw [hdr]; exact hR1
            refine ⟨_, rfl, rfl, _, rfl, ?_⟩
            refine ite2 (fun c0 => ?_) (fun c0 => ?_)
            · have lv0 : lv = 0 := V.int.inj (of_decide_eq_true c0)
              refine ⟨_, rfl, _, rfl, _, rfl, _, rfl, _, _, rfl, rfl, _, rfl, x, rfl, fit900 hx, ?_⟩
              rw [cut3]
              refine ⟨(by show 2 ≤ sizeLine; decide), fun tq ntq => ?_⟩
              have sq := same_upd (o := .tup [.str " & ", .str " | "]) ntq
              refine ⟨.str (sub (tl x) a 3), [.str " & ", .str " | "], .str _, .tup (SqT.of upd_same) (.cons (.str _) (.cons (.str _) .nil)), gd_shaped (sub_gd hok a 3 (by decide) 1) (by decide), by decide +kernel, _, rfl, ?_⟩
              rw [in_sgT]
              refine ite2 (fun c3 => ?_) (fun c3 => ?_)
              · have k : lv = 0 ∧ isSg (sub (tl x) a 3) := ⟨lv0, of_decide_eq_true c3⟩
                rw [if_pos k] at hR1
                obtain ⟨s', r', er, _⟩ := sg_head (R := (tl x).drop a) k.2
                rw [hd] at er
                cases er
                have h1 : (tl x)[a + 1]? = some s' := by
                  have := congrArg (fun l => l[1]?) hd
                  simp only [List.getElem?_drop] at this
                  exact this
                have hl3 : a + 3 ≤ (tl x).length := by
                  have := congrArg List.length hd
                  rw [List.length_drop] at this
                  simp only [List.length_cons] at this
                  omega
                have hd3 : (tl x).drop (a + 3) = r' := by
                  rw [← List.drop_drop, hd]; rfl
                have hS2 := sq _ _ hS
                refine ⟨_, rfl, .inl ⟨rfl, _, SqL.of hS2⟩, _, rfl, _, rfl, _, _, rfl, rfl, x, _, s', rfl, rfl, fit900 hx, atI_nat (j := a + 1) h1, Ls, _, _, rfl, rfl, hS2, ?_, ?_⟩
                · rw [sgs_len]; exact Nat.lt_of_lt_of_le (by omega : sg.length < 1000) (by decide)
                have hP2 : (upd (upd H1 tq (.tup [.str " & ", .str " | "])) Ls (.lst (sgs sg ++ [V.str ⟨#[s']⟩]))) Lp = some (.lst (pcs ps ++ [V.str (mk cur)])) := by
                  rw [upd_ne LpLs]; exact sq _ _ hP
                refine ⟨_, rfl, .inl ⟨rfl, _, SqL.of hP2⟩, Lp, _, _, rfl, rfl, hP2, ?_, ?_⟩
                · rw [List.length_append, pcs_len]; exact Nat.lt_of_lt_of_le (show ps.length + 1 < 1000 by omega) (by decide)
                refine ⟨_, rfl, _, _, rfl, rfl, a + 3, 0, ps ++ [cur], [], sg ++ [s'], ?_, ?_, ?_, hl3, by omega, by rw [List.length_append, List.length_singleton]; omega, by rw [List.length_append, List.length_singleton]; omega, Nat.zero_le _, fun z => by omega, fun _ => ?_, putP (putS (s1.trans sq))⟩
                · rw [lv0]; rfl
                · rw [upd_same, pcs_app]; rfl
                · rw [upd_ne LpLs.symm, upd_same, sgs_app]; rfl
                · rw [hd3, ← hR1, lv0]; rfl
              · have k : ¬ (lv = 0 ∧ isSg (sub (tl x) a 3)) := fun z => c3 (decide_eq_true z.2)
                obtain ⟨hP2, fin⟩ := elseB k _ sq
                refine ⟨_, rfl, _, rfl, _, rfl, x, _, ch, rfl, rfl, fit900 hx, atI_nat hch, rfl, .inr ⟨_, rfl, _, _, rfl, rfl, _, rfl, _, rfl, x, _, ch, rfl, rfl, fit900 hx, atI_nat hch, rfl, .inr ⟨_, rfl, _, _, rfl, rfl, ?_⟩⟩⟩
                refine ⟨_, rfl, _, rfl, Lp, _, _, _, rfl, rfl, SqL.of hP2, atI_last _ _, _, rfl, _, rfl, x, _, ch, rfl, rfl, fit900 hx, atI_nat hch, _, _, rfl, rfl, ?_, _, rfl, _, rfl, Lp, _, _, _, rfl, rfl, hP2, ixN_m1 (by rw [List.length_append, List.length_singleton]; omega), ?_⟩
                · rw [mk_len]
                  exact big _ (by show cur.length + 1 ≤ 9000; omega)
                rw [set_last, mk_app]
                refine ⟨_, rfl, _, _, rfl, rfl, ?_⟩
                have fin' := fin
                rw [← dl_eq] at fin'
                exact fin'
            · have k : ¬ (lv = 0 ∧ isSg (sub (tl x) a 3)) := fun z => c0 (decide_eq_true (by rw [z.1]))
              obtain ⟨hP2, fin⟩ := elseB k _ (Same.refl H1)
              refine iteF ?_
              refine ⟨_, rfl, _, rfl, _, rfl, x, _, ch, rfl, rfl, fit900 hx, atI_nat hch, rfl, .inr ⟨_, rfl, _, _, rfl, rfl, _, rfl, _, rfl, x, _, ch, rfl, rfl, fit900 hx, atI_nat hch, rfl, .inr ⟨_, rfl, _, _, rfl, rfl, ?_⟩⟩⟩
              refine ⟨_, rfl, _, rfl, Lp, _, _, _, rfl, rfl, SqL.of hP2, atI_last _ _, _, rfl, _, rfl, x, _, ch, rfl, rfl, fit900 hx, atI_nat hch, _, _, rfl, rfl, ?_, _, rfl, _, rfl, Lp, _, _, _, rfl, rfl, hP2, ixN_m1 (by rw [List.length_append, List.length_singleton]; omega), ?_⟩
              · rw [mk_len]
                exact big _ (by show cur.length + 1 ≤ 9000; omega)
              rw [set_last, mk_app]
              refine ⟨_, rfl, _, _, rfl, rfl, ?_⟩
              have fin' := fin
              rw [← dl_eq] at fin'
              exact fin'
          · rintro σ' H' ⟨a2, lv2, ps2, cur2, sg2, rfl, hP2, hS2, ha2, ga, lp2, ls2, lc2, z1, z2, s2⟩
            refine ⟨_, rfl, _, _, rfl, rfl, _, rfl, ite2 (fun c => ?_) (fun c => ?_)⟩
            · have := z1 (of_decide_eq_true c)
              rw [this] at o2
              exact o2 rfl H' s2
            · have l0 : 0 ≤ lv2 := by have := of_decide_eq_false (Bool.eq_false_iff.mpr c); omega
              exact ⟨(tl x).length - a2, by omega, a2, lv2, ps2, cur2, sg2, rfl, hP2, hS2, ha2, rfl, l0, lp2, ls2, lc2, z2 l0, s2⟩
        · have ca : a = (tl x).length := by have := of_decide_eq_false (Bool.eq_false_iff.mpr c); omega
          rw [ca, List.drop_length, scn_nil] at hR1
          rw [← hR1] at o1 o2 hR
          dsimp only at o1 o2
          obtain ⟨inP, lPS⟩ := piece_in hR
          have pl : (ps ++ [cur]).length = ps.length + 1 := by rw [List.length_append, List.length_singleton]
          have ePP : pcs ps ++ [V.str (mk cur)] = pcs (ps ++ [cur]) := by rw [pcs_app]; rfl
          rw [ePP] at hP
          generalize hPP : ps ++ [cur] = PP at *
          have noA : (0 < lv ∨ PP.length < 2 ∨ sg ≠ List.replicate sg.length (sg.headD 0)) → ∀ H', Same H H' → Q .non H' := fun z => o2 (by rw [if_pos z])
          refine ⟨_, rfl, _, _, rfl, rfl, _, rfl, ?_⟩
          refine ite2 (fun c => iteT (noA (.inl (of_decide_eq_true c)) H1 s1)) (fun c4 => ?_)
          refine ⟨_, rfl, Lp, _, rfl, .inl (SqL.of hP), _, _, rfl, rfl, _, rfl, ?_⟩
          refine ite2 (fun c => iteT (noA (.inr (.inl (by have := of_decide_eq_true c; rw [pcs_len] at this; omega))) H1 s1)) (fun c5 => ?_)
          have P2 : 2 ≤ PP.length := by have := of_decide_eq_false (Bool.eq_false_iff.mpr c5); rw [pcs_len] at this; omega
          refine ⟨_, rfl, _, rfl, _, rfl, Ls, _, rfl, SqL.of hS, fun p1 np1 => ?_⟩
          have ec : cutV (sgs sg) none (some 1) = sgs (sg.take 1) := cutV_take1 sg
          rw [ec]
          have t1 := same_upd (o := .lst (sgs (sg.take 1))) np1
          refine ⟨_, rfl, Ls, _, rfl, .inl (SqL.of (t1 _ _ hS)), p1, _, _, rfl, rfl, upd_same, by omega, ?_, ?_, fun p2 np2 => ?_⟩
          · rw [sgs_len]; omega
          · rw [sgs_len, sgs_len]
            have : (sg.take 1).length ≤ 1 := by rw [List.length_take]; omega
            have h3 : (sg.take 1).length * ((sg.length : Nat) : Int).toNat ≤ 1 * 2900 := Nat.mul_le_mul this (by omega)
            exact big _ (by omega)
          have er : (List.replicate (((sgs sg).length : Nat) : Int).toNat (sgs (sg.take 1))).flatten = sgs (List.replicate sg.length (sg.headD 0)) := by
            rw [sgs_len, Int.toNat_natCast, ← sg_rep]
            exact flat_map _ _
          rw [er]
          have t2 := same_upd (o := .lst (sgs (List.replicate sg.length (sg.headD 0)))) np2
          have sgIn : ∀ c ∈ sg, c ∈ tl x := by
            obtain ⟨q', l', e1, e2, e3, _⟩ := scn_sound _ (tl x) (Nat.le_refl _) _ _ _ _ _ _ _ hR
            rw [List.nil_append] at e2
            intro c hc
            rw [e2] at hc
            obtain ⟨t, ht, rfl⟩ := List.mem_map.mp hc
            obtain ⟨l1, l2, el⟩ := List.append_of_mem ht
            rw [e3, el, List.flatMap_append, List.flatMap_cons]
            simp
          have hd0 : ∀ c ∈ List.replicate sg.length (sg.headD 0), c ∈ tl x := fun c hc => by
            obtain ⟨n0, rfl⟩ := List.mem_replicate.mp hc
            cases sg with
            | nil => exact absurd rfl n0
            | cons c0 r0 => exact sgIn c0 (List.mem_cons_self ..)
          refine ⟨.list (sg.map fun c => PyData.str ⟨#[c]⟩), .list ((List.replicate sg.length (sg.headD 0)).map fun c => PyData.str ⟨#[c]⟩), .lst (SqL.of (t2 _ _ (t1 _ _ hS))) (dpAll_strs sg), .lst (SqL.of upd_same) (dpAll_strs _), gd_shaped (strs_gd hok sgIn (by omega)) (by decide), gd_shaped (strs_gd hok hd0 (by rw [List.length_replicate]; omega)) (by decide), _, rfl, ?_⟩
          have ev : PyData.eqv (.list (sg.map fun c => PyData.str ⟨#[c]⟩)) (.list ((List.replicate sg.length (sg.headD 0)).map fun c => PyData.str ⟨#[c]⟩)) = decide (sg = List.replicate sg.length (sg.headD 0)) := by
            rw [← eqv_strs]; simp only [PyData.eqv]
          rw [ev]
          have s2 := s1.trans (t1.trans t2)
          refine ite2 (fun c => noA (.inr (.inr (fun z => by rw [decide_eq_true z] at c; cases c))) _ s2) (fun c6 => ?_)
          have k6 : sg = List.replicate sg.length (sg.headD 0) := by
            refine Classical.not_not.mp fun z => c6 ?_
            rw [decide_eq_false z]; rfl
          have nk : ¬ (0 < lv ∨ PP.length < 2 ∨ sg ≠ List.replicate sg.length (sg.headD 0)) := fun z => z.elim (fun y => c4 (decide_eq_true y)) fun z => z.elim (by omega) fun y => y k6
          rw [if_neg nk] at o1 o2
          have hPb := t2 _ _ (t1 _ _ hP)
          have hSb := t2 _ _ (t1 _ _ hS)
          generalize hHb : upd (upd H1 p1 (.lst (sgs (sg.take 1)))) p2 (.lst (sgs (List.replicate sg.length (sg.headD 0)))) = Hb at *
          refine ⟨_, rfl, Lp, rfl, ⟨_, SqL.of hPb⟩, fun D nD => lc_list (xs := pcs PP) (fun i H2 => Same Hb H2 ∧ ∃ vs, H2 D = some (.lst vs) ∧ DpAll K (hide (D :: M) H2) vs (((PP.take i).map (lrP (lrT m'))).map optD)) ?_ ?_ ?_ ?_⟩
          · exact ⟨same_upd nD, [], upd_same, .nil⟩
          · rintro i H2 hi ⟨sm, _⟩
            exact SqL.of (sm _ _ hPb)
          · rintro i y H2 hy ⟨sm, vs, hD, hA⟩
            obtain ⟨hi, ey⟩ := List.getElem?_eq_some_iff.mp hy
            rw [pcs_len] at hi
            have ep : PP[i]? = some PP[i] := List.getElem?_eq_getElem hi
            have ey2 : V.str (mk PP[i]) = y := by
              have z : (pcs PP)[i]? = (PP[i]?).map fun l => V.str (mk l) := List.getElem?_map ..
              rw [hy, ep] at z
              exact (Option.some.inj z).symm
            subst ey2
            obtain ⟨g1, g2⟩ := inP PP[i] (List.getElem_mem hi)
            have tMD : Trk (D :: M) H2 := fun b hb => by
              rcases List.mem_cons.mp hb with z | z
              · rw [z]; exact ⟨_, hD⟩
              · exact (tM.same (s2.trans sm)) b z
            have la := dpAll_len hA
            have step : ∀ (H3 : Hp) (v : V), Same H2 H3 → Dp K (hide (D :: M) H3) v (optD (lrP (lrT m') PP[i])) → ∃ xs, H3 D = some (.lst xs) ∧ xs.length + 1 ≤ sizeLine ∧ (Same Hb (upd H3 D (.lst (xs ++ [v]))) ∧ ∃ vs, upd H3 D (.lst (xs ++ [v])) D = some (.lst vs) ∧ DpAll K (hide (D :: M) (upd H3 D (.lst (xs ++ [v])))) vs (((PP.take (i + 1)).map (lrP (lrT m'))).map optD)) := fun H3 v s3 hv => by
              refine ⟨vs, s3 _ _ hD, ?_, fun b o' eb => ?_, vs ++ [v], upd_same, ?_⟩
              · rw [la, List.length_map, List.length_map, List.length_take]
                exact big _ (by omega)
              · rw [upd_ne (ne_of_none eb nD)]
                exact s3 _ _ (sm _ _ eb)
              · rw [List.take_add_one, ep, Option.toList_some, List.map_append, List.map_append]
                exact dpAll_app (dpAll_same (SmX.put (SmX.of_same s3) (List.mem_cons_self ..)).hid _ _ hA) (.cons (dp_same (SmX.put (SmX.refl _ _) (List.mem_cons_self ..)).hid _ _ hv) .nil)
            refine ⟨rfl, ?_⟩
            dsimp only [tYes]
            rw [if_pos rfl]
            refine ⟨_, rfl, _, rfl, _, _, rfl, rfl, mk PP[i], m', D :: M, vs2 (by omega), by rw [mk_len]; omega, ok_mk hok g2, by omega, tMD, fun d ed H3 v s3 hv => ?_, fun ed H3 s3 => ?_⟩
            · have ed' : lrP (lrT m') PP[i] = some d := ed
              refine step H3 v s3 ?_
              rw [ed']; exact hv
            · have ed' : lrP (lrT m') PP[i] = none := ed
              refine step H3 .non s3 ?_
              rw [ed']; exact .non
          · rintro H2 ⟨sm, vs, hD, hA⟩
            rw [pcs_len, List.take_length] at hA
            have la := dpAll_len hA
            rw [List.length_map, List.length_map] at la
            have m1 : 1 ≤ m' := by omega
            have gall : ∀ d ∈ (PP.map (lrP (lrT m'))).map optD, gd 10 d = true := fun d hd => by
              obtain ⟨o, ho, rfl⟩ := List.mem_map.mp hd
              obtain ⟨p, hp, rfl⟩ := List.mem_map.mp ho
              cases e : lrP (lrT m') p with
              | none => exact gd_le (n := 0) rfl (Nat.zero_le _)
              | some d => exact gd_le (lrP_gd m1 e (by have := (inP p hp).1; omega)).2 (by omega)
            have hAA := dpAll_same (hide_same (M := D :: M)) _ _ hA
            refine ⟨_, rfl, .none, _, .non, .lst (SqL.of hD) hAA, rfl, gd_shaped (gd_lst gall (by rw [List.length_map, List.length_map]; omega)) (by decide), _, rfl, ?_⟩
            have an : (((PP.map (lrP (lrT m'))).map optD).any fun z => PyData.eqv z .none) = true ↔ none ∈ PP.map (lrP (lrT m')) := any_none _ fun d hd => by
              obtain ⟨p, hp, e⟩ := List.mem_map.mp hd
              have := (lrP_gd m1 e (by have := (inP p hp).1; omega)).1
              intro z
              rw [z] at this
              cases m' with
              | zero => omega
              | succ j => exact absurd this (by show ¬ (1 : Int) ≤ 0; decide)
            have sE := s2.trans sm
            refine ite2 (fun c => ?_) (fun c => ?_)
            · exact o2 (by rw [if_pos (an.mp c)]) H2 sE
            · have nn : ¬ none ∈ PP.map (lrP (lrT m')) := fun z => c (an.mpr z)
              rw [if_neg nn] at o1
              rw [opt_filter nn] at hA
              have hS2 := sm _ _ hSb
              refine ⟨_, rfl, _, rfl, Ls, _, rfl, SqL.of hS2, fun p3 np3 => ?_⟩
              have es : sg.take 1 = [sg.headD 0] := by
                cases sg with
                | nil => rw [List.length_nil] at lPS; omega
                | cons c r => rfl
              rw [ec, es]
              have t3 := same_upd (o := .lst (sgs [sg.headD 0])) np3
              refine ⟨_, rfl, p3, D, _, _, rfl, rfl, upd_same, t3 _ _ hD, ?_, fun p4 np4 => ?_⟩
              · rw [sgs_len, List.length_singleton]; exact big _ (by omega)
              have t4 := same_upd (o := .lst (sgs [sg.headD 0] ++ vs)) np4
              refine ⟨p4, _, rfl, .inl ⟨SqL.of upd_same, fun p5 np5 => ?_⟩⟩
              have tM2 : Trk M (upd (upd H2 p3 (.lst (sgs [sg.headD 0]))) p4 (.lst (sgs [sg.headD 0] ++ vs))) := tM.same (sE.trans (t3.trans t4))
              refine o1 _ rfl _ _ (sE.trans (t3.trans (t4.trans (same_upd np5)))) (.tup (SqT.of (hid_at tM2 np5)) (.cons (.str _) ?_))
              exact dpAll_same ((hide_sub fun b hb => List.mem_cons_of_mem _ hb).trans (SmX.of_same (t3.trans (t4.trans (same_upd np5)))).hid) _ _ hA
theorem ok_lread {f : Addr} {fd : FuncData} {k : Nat} (F : Fun K "_law_read" "_law_read" s_law_read f fd)
    (C_law_read_term : Own P w K mg base k "_law_read_term" ["_law_mtext", "_law_deep"] (spLR K lrT 6)) (C_law_leaves : Own P w K mg base k "_law_leaves" ["_law_word"] (spLeaves K 6)) :
    FnOk P w K mg base CX0 (k + 1) f fd ["_law_mtext"] (spLRead K) := by
  refine F.ok sc_law_read (fun vs H Q E h => ?_) (fun cdv A outer s H vs Q E hr h => ?_)
  · obtain ⟨x, M, rfl, _⟩ := h
    rfl
  · obtain ⟨x, M, rfl, hx, hok, tM, o1, o2⟩ := h
    refine ⟨_, (pss_cons (ps_set (i := 1) sc_law_read.nd rfl (by first | exact .inl rfl | exact .inr rfl) (pe_own C_law_read_term (hr.mono (by omega)) (by rfl) (pa_cons (pv 0) (pa_cons pe_int pa_nil))))
      (pss_one (ps_ret (pe_ifExp (PW.pt (pw_and (pt_cmpR op_notN (pv 1) pe_non (nomark _)) (pw_and1 (pt_cmpR op_le (pe_own C_law_leaves (hr.mono (by omega)) (by rfl) (pa_cons (pv 1) pa_nil)) pe_int (nomark _))))) (pv 1) pe_non)))), ?_⟩
    rw [← lrd_prs] at o1 o2
    unfold lrd at o1 o2
    have lx : x.length = (tl x).length := len_tl x
    refine ⟨_, rfl, x, 5, M, rfl, hx, hok, by decide, tM, fun d ed H1 v s1 hv => ?_, fun ed H1 s1 => ?_⟩
    · rw [ed] at o1 o2
      dsimp only at o1 o2
      obtain ⟨g1, g2, g3⟩ := lrT_gd (by decide) ed (by omega)
      have nv : v ≠ .non := fun z => by
        subst z
        cases hv
        exact absurd g1 (by decide)
      refine ⟨_, rfl, rfl, _, rfl, ?_⟩
      rw [decide_eq_false nv]
      refine iteT ⟨_, rfl, v, d, 5, rfl, dp_same hide_same d v hv, gd_le g3 (by decide), by decide, g1, fun H2 s2 => ⟨_, _, rfl, rfl, _, rfl, ?_⟩⟩
      refine ite2 (fun c => ?_) (fun c => ?_)
      · rw [if_pos (of_decide_eq_true c)] at o1
        exact ⟨_, rfl, o1 d rfl H2 v (s1.trans s2) (dp_same (SmX.of_same s2).hid d v hv)⟩
      · rw [if_neg (of_decide_eq_false (Bool.eq_false_iff.mpr c))] at o2
        exact o2 rfl H2 (s1.trans s2)
    · rw [ed] at o2
      exact ⟨_, rfl, rfl, _, rfl, iteF (iteF (o2 rfl H1 s1))⟩
end
end Fv


namespace Fv
open PySem PySem.Spec PyProof.Rows L2 FvX TL
-- top 50  slots: 0:_law_source_here 1:_law_mtext 2:_law_at 3:_law_to 4:_law_signs_here 5:_law_sign 6:_law_way
abbrev s_law_spoilt : Stmt := topS 50
abbrev N_law_spoilt : List Str := ["_law_source_here", "_law_mtext", "_law_at", "_law_to", "_law_signs_here", "_law_sign", "_law_way"]
theorem sc_law_spoilt : FnScope N_law_spoilt ["_law_source_here", "_law_mtext"] (defScope s_law_spoilt) := ⟨rfl, rfl, rfl, by decide +kernel, rfl, by decide +kernel, by decide +kernel⟩

def spSpoilt : Sp := fun vs H Q _ => ∃ (a L : Addr) (ns : List Int) (x : Str), vs = [.ref a, .str x] ∧ Src H a L ns ∧ x.length ≤ 1400 ∧ PyData.strOk x = true ∧
  ∀ (H' : Hp) (y : Str), y.length ≤ 2 * x.length + 2 → PyData.strOk y = true → Src H' a L ns → (∀ b, b ≠ a → H' b = H b) → Q (.str y) H'
theorem atI_in {α : Type} {xs : List α} {i : Int} (h0 : 0 ≤ i) (h : i < (xs.length : Nat)) : ∃ v, atI xs i = some v ∧ v ∈ xs := by
  have hk : i.toNat < xs.length := by omega
  have q : atI xs ((i.toNat : Nat) : Int) = some xs[i.toNat] := atI_nat (List.getElem?_eq_getElem hk)
  rw [show ((i.toNat : Nat) : Int) = i by omega] at q
  exact ⟨_, q, List.getElem_mem hk⟩
section
variable {P : Program} {w : World} {K : PySem.W.Frag} {mg : Str → Option Value} {base : Heap}
theorem ok_spoilt {f : Addr} {fd : FuncData} {k : Nat} (F : Fun K "_law_spoilt" "_law_spoilt" s_law_spoilt f fd) (m_len : mg "len" = none) (m_min : mg "min" = none) (m_max : mg "max" = none)
    (C_law_take : Own P w K mg base k "_law_take" ["_law_source_here", "_law_many"] spTake) :
    FnOk P w K mg base CX0 (k + 1) f fd ["_law_source_here", "_law_mtext"] spSpoilt := by
  refine F.ok sc_law_spoilt (fun vs H Q E h => ?_) (fun cdv A outer s H vs Q E hr h => ?_)
  · obtain ⟨a, L, ns, x, rfl, _⟩ := h
    rfl
  · obtain ⟨a, L, ns, x, rfl, hs, hx, hok, q⟩ := h
    refine ⟨_, (pss_cons (ps_set (i := 2) sc_law_spoilt.nd rfl (by first | exact .inl rfl | exact .inr rfl) (pe_own C_law_take (hr.mono (by omega)) (by rfl) (pa_cons (pv 0) (pa_cons (pe_op op_add (pe_callB call_len_str (by rfl) m_len (by decide +kernel) (pa_cons (pv 1) pa_nil)) pe_int) pa_nil))))
      (pss_cons (ps_set (i := 3) sc_law_spoilt.nd rfl (by first | exact .inl rfl | exact .inr rfl) (pe_own C_law_take (hr.mono (by omega)) (by rfl) (pa_cons (pv 0) (pa_cons (pe_op op_add (pe_callB call_len_str (by rfl) m_len (by decide +kernel) (pa_cons (pv 1) pa_nil)) pe_int) pa_nil))))
      (pss_cons (ps_set (i := 4) sc_law_spoilt.nd rfl (by first | exact .inl rfl | exact .inr rfl) pe_str)
      (pss_cons (ps_set (i := 5) sc_law_spoilt.nd rfl (by first | exact .inl rfl | exact .inr rfl) (pe_ix ix_str (pv 4) (pe_own C_law_take (hr.mono (by omega)) (by rfl) (pa_cons (pv 0) (pa_cons (pe_callB call_len_str (by rfl) m_len (by decide +kernel) (pa_cons (pv 4) pa_nil)) pa_nil))) (fun _ _ => rfl)))
      (pss_cons (ps_set (i := 6) sc_law_spoilt.nd rfl (by first | exact .inl rfl | exact .inr rfl) (pe_own C_law_take (hr.mono (by omega)) (by rfl) (pa_cons (pv 0) (pa_cons pe_int pa_nil))))
      (pss_cons (ps_if (pt_cmpR op_eq (pv 6) pe_int (nomark _))
        (pss_one (ps_ret (pe_op op_add_str (pe_op op_add_str (pe_slice sl_str (pv 1) po_none (po_some (pv 2))) (pv 5)) (pe_slice sl_str (pv 1) (po_some (pv 2)) po_none))))
        pss_nil)
      (pss_cons (ps_if (pt_cmpR op_eq (pv 6) pe_int (nomark _))
        (pss_one (ps_ret (pe_op op_add_str (pe_slice sl_str (pv 1) po_none (po_some (pv 2))) (pe_slice sl_str (pv 1) (po_some (pe_op op_add (pv 2) pe_int)) po_none))))
        pss_nil)
      (pss_cons (ps_if (pt_cmpR op_eq (pv 6) pe_int (nomark _))
        (pss_one (ps_ret (pe_op op_add_str (pe_op op_add_str (pe_slice sl_str (pv 1) po_none (po_some (pv 2))) (pv 5)) (pe_slice sl_str (pv 1) (po_some (pe_op op_add (pv 2) pe_int)) po_none))))
        pss_nil)
      (pss_cons (ps_if (pt_cmpR op_eq (pv 6) pe_int (nomark _))
        (pss_one (ps_ret (pe_op op_add_str (pe_slice sl_str (pv 1) po_none (po_some (pe_callB (call_min2 rfl) (by rfl) m_min (by decide +kernel) (pa_cons (pv 2) (pa_cons (pv 3) pa_nil))))) (pe_slice sl_str (pv 1) (po_some (pe_callB (call_max2 rfl) (by rfl) m_max (by decide +kernel) (pa_cons (pv 2) (pa_cons (pv 3) pa_nil)))) po_none))))
        pss_nil)
      (pss_cons (ps_if (pt_cmpR op_eq (pv 6) pe_int (nomark _))
        (pss_one (ps_ret (pe_op op_add_str (pe_slice sl_str (pv 1) po_none (po_some (pe_callB (call_max2 rfl) (by rfl) m_max (by decide +kernel) (pa_cons (pv 2) (pa_cons (pv 3) pa_nil))))) (pe_slice sl_str (pv 1) (po_some (pe_callB (call_min2 rfl) (by rfl) m_min (by decide +kernel) (pa_cons (pv 2) (pa_cons (pv 3) pa_nil)))) po_none))))
        pss_nil)
      (pss_one (ps_ret (pe_op op_add_str (pe_op op_add_str pe_str (pv 1)) pe_str))))))))))))), ?_⟩
    have fx : x.length ≤ sizeLine := fit900 (by omega)
    have big : ∀ n : Nat, n ≤ 9000 → n ≤ sizeLine := fun n h => Nat.le_trans h (by decide)
    refine ⟨_, rfl, _, rfl, x, rfl, fx, _, _, rfl, rfl, a, L, ns, _, rfl, hs, by omega, by omega, fun H1 d1 d10 d11 hs1 off1 => ?_⟩
    refine ⟨_, rfl, _, rfl, x, rfl, fx, _, _, rfl, rfl, a, L, ns, _, rfl, hs1, by omega, by omega, fun H2 d2 d20 d21 hs2 off2 => ?_⟩
    refine ⟨_, rfl, _, rfl, _, rfl, _, rfl, (by decide +kernel), a, L, ns, _, rfl, hs2, (by decide +kernel), (by decide +kernel), fun H3 d3 d30 d31 hs3 off3 => ?_⟩
    rw [len_tl] at d31
    obtain ⟨ch, hch, mch⟩ := atI_in d30 d31
    refine ⟨_, _, ch, rfl, rfl, (by decide +kernel), hch, ?_⟩
    refine ⟨_, rfl, a, L, ns, 6, rfl, hs3, by decide, by decide, fun H4 d4 d40 d41 hs4 off4 => ?_⟩
    have sok : PyData.strOk (⟨#[ch]⟩ : Str) = true := by
      have all : ∀ c ∈ tl (" &|()<:abhiA0\n-" : Str), PyData.strOk (⟨#[c]⟩ : Str) = true := by decide +kernel
      exact all ch mch
    have sl : (⟨#[ch]⟩ : Str).length = 1 := rfl
    have fin : ∀ y : Str, y.length ≤ 2 * x.length + 2 → PyData.strOk y = true → Q (.str y) H4 := fun y h1 h2 => q H4 y h1 h2 hs4 fun b hb => by rw [off4 b hb, off3 b hb, off2 b hb, off1 b hb]
    have cl := cutS_length x
    have ck := fun lo hi => cut_ok hok lo hi
    refine ⟨_, rfl, rfl, _, rfl, ite2 (fun c => ?_) (fun c => ?_)⟩
    · refine ⟨_, rfl, _, rfl, _, rfl, x, rfl, fx, _, rfl, _, _, rfl, rfl, ?_, _, rfl, _, rfl, _, rfl, x, rfl, fx, _, _, rfl, rfl, ?_, fin _ ?_ (app_ok (app_ok (ck _ _) sok) (ck _ _))⟩
      · have := cl none (some d1); exact big _ (by rw [sl]; omega)
      · have := cl none (some d1); have := cl (some d1) none; exact big _ (by rw [len_app, sl]; omega)
      · have := cl none (some d1); have := cl (some d1) none; rw [len_app, len_app, sl]; omega
    refine ⟨_, rfl, rfl, _, rfl, ite2 (fun c => ?_) (fun c => ?_)⟩
    · refine ⟨_, rfl, _, rfl, _, rfl, x, rfl, fx, _, rfl, _, rfl, _, _, rfl, rfl, _, rfl, x, rfl, fx, _, _, rfl, rfl, ?_, fin _ ?_ (app_ok (ck _ _) (ck _ _))⟩
      · have := cl none (some d1); have := cl (some (d1 + 1)) none; exact big _ (by omega)
      · have := cl none (some d1); have := cl (some (d1 + 1)) none; rw [len_app]; omega
    refine ⟨_, rfl, rfl, _, rfl, ite2 (fun c => ?_) (fun c => ?_)⟩
    · refine ⟨_, rfl, _, rfl, _, rfl, x, rfl, fx, _, rfl, _, _, rfl, rfl, ?_, _, rfl, _, rfl, _, _, rfl, rfl, _, rfl, x, rfl, fx, _, _, rfl, rfl, ?_, fin _ ?_ (app_ok (app_ok (ck _ _) sok) (ck _ _))⟩
      · have := cl none (some d1); exact big _ (by rw [sl]; omega)
      · have := cl none (some d1); have := cl (some (d1 + 1)) none; exact big _ (by rw [len_app, sl]; omega)
      · have := cl none (some d1); have := cl (some (d1 + 1)) none; rw [len_app, len_app, sl]; omega
    refine ⟨_, rfl, rfl, _, rfl, ite2 (fun c => ?_) (fun c => ?_)⟩
    · refine ⟨_, rfl, _, rfl, _, rfl, _, _, rfl, _, rfl, x, rfl, fx, _, rfl, _, rfl, _, rfl, _, _, rfl, _, rfl, x, rfl, fx, _, _, rfl, rfl, ?_, fin _ ?_ (app_ok (ck _ _) (ck _ _))⟩
      · exact big _ (Nat.le_trans (Nat.add_le_add (cl _ _) (cl _ _)) (by omega))
      · rw [len_app]; exact Nat.le_trans (Nat.add_le_add (cl _ _) (cl _ _)) (by omega)
    refine ⟨_, rfl, rfl, _, rfl, ite2 (fun c => ?_) (fun c => ?_)⟩
    · refine ⟨_, rfl, _, rfl, _, rfl, _, _, rfl, _, rfl, x, rfl, fx, _, rfl, _, rfl, _, rfl, _, _, rfl, _, rfl, x, rfl, fx, _, _, rfl, rfl, ?_, fin _ ?_ (app_ok (ck _ _) (ck _ _))⟩
      · exact big _ (Nat.le_trans (Nat.add_le_add (cl _ _) (cl _ _)) (by omega))
      · rw [len_app]; exact Nat.le_trans (Nat.add_le_add (cl _ _) (cl _ _)) (by omega)
    have e1 : ("(" : Str).length = 1 := by decide +kernel
    have e2 : (")" : Str).length = 1 := by decide +kernel
    refine ⟨_, rfl, _, _, rfl, rfl, big _ (by omega), _, _, rfl, rfl, big _ (by rw [len_app]; omega), fin _ ?_ (app_ok (app_ok (by decide +kernel) hok) (by decide +kernel))⟩
    rw [len_app, len_app]; omega
end
end Fv


namespace Fv
open PySem PySem.Spec PyProof.Rows L2 FvX
/-! ### calls that never raise; calls by keywords of defs that may raise -/
theorem passE0 {P : Program} {w : World} {X : Cx} : Passes (L2.CX P w) X E0 := fun _ _ _ _ _ _ _ h => by
  obtain ⟨_, _, _, _, _, _, _, _, _, _, _, _, z⟩ := h
  exact z.elim
structure OwnKR (P : Program) (w : World) (K : PySem.W.Frag) (mg : Str → Option Value) (base : Heap) (k : Nat) (x : Str) (ps ks : List Str) (gV : List V → List V → List V) (sp : Sp) : Prop where
  ex : ∃ (f : Addr) (fd : FuncData) (g : List Value → List Value → List Value), mg x = some (.ref f) ∧ PySem.W.keepIn K (.ref f) = true ∧ KBn K fd ps 0 ks g gV ∧ FnOk P w K mg base (L2.CX P w) k f fd ps sp
theorem pe_ownKR0 {X : Cx} {k : Nat} {x : Str} {ps ks : List Str} {gV : List V → List V → List V} {sp : Sp} {E : XK} {tk : TA} {p pos : Pos} {kws : List Keyword} (C : OwnKR X.prog X.w X.K X.mg X.base k x ps ks gV sp) (hr : Room k X.A) (hg : Gl X x) (hx : Passes (L2.CX X.prog X.w) X E) (hkw : PK X kws tk)
    (hall : (backToKw pos (keywordEach kws X.env)).all (·.1.isSome) = true := by rfl) (hks : (backToKw pos (keywordEach kws X.env)).filterMap (·.1) = ks := by rfl)
    (hdb : (x == ("__debug__" : Str)) = false := by decide)
    (hpl : ((backTo pos (starEach [] X.env)).any (·.1) || (backToKw pos (keywordEach kws X.env)).any (·.1.isNone)) = false := by rfl) :
    PE X (.Call (.Name x p) [] kws pos) (tCallN 0 ks.length sp gV E tNil tk) := by
  obtain ⟨f, fd, g, h1, h2, h3, h4⟩ := C.ex
  refine ⟨fun pins s σ H Q I h => ?_⟩
  refine wpAny_Call_Name_kw (ld_glob I hg h1 ?_ hdb)
  refine PySem.W.callWith_KW0 (h₀ := X.base) I.ok.mod.kin h2 hall ?_ hpl
  refine thn (hkw.run pos pins s σ H _ I h) fun ws s2 ⟨zs, H2, I2, rz, l1, l2, q2⟩ => ⟨I2.kIn, ?_⟩
  rw [hks]
  exact run_fnN h4 hr h3 hx I2 .nil rz l1 l2 q2
/-! ### rules in the element of a comprehension: the written part is told -/
theorem op_in_seqK {X : Cx} {K : PySem.W.Frag} (hK : X.K = K) : OpR X (compareOp .In) (rIn K false) := by
  subst hK
  exact op_in_seq
theorem ix_listK {X : Cx} {K : PySem.W.Frag} (hK : X.K = K) : IxR X (rIxL K) := by
  subst hK
  exact ix_list
end Fv


namespace Fv
open PySem PySem.Spec PyProof.Rows L2 FvX TL
/-! ### names, goals, rules -/
-- top 20  slots: 0:text 1:letter
abbrev s_is_name : Stmt := topS 20
abbrev N_is_name : List Str := ["text", "letter"]
theorem sc_is_name : FnScope N_is_name ["text"] (defScope s_is_name) := ⟨rfl, rfl, rfl, by decide +kernel, rfl, by decide +kernel, by decide +kernel⟩

-- top 21  slots: 0:value
abbrev s_is_goal : Stmt := topS 21
abbrev N_is_goal : List Str := ["value"]
theorem sc_is_goal : FnScope N_is_goal ["value"] (defScope s_is_goal) := ⟨rfl, rfl, rfl, by decide +kernel, rfl, by decide +kernel, by decide +kernel⟩

-- top 22  slots: 0:value
abbrev s_is_rule : Stmt := topS 22
abbrev N_is_rule : List Str := ["value"]
theorem sc_is_rule : FnScope N_is_rule ["value"] (defScope s_is_rule) := ⟨rfl, rfl, rfl, by decide +kernel, rfl, by decide +kernel, by decide +kernel⟩

-- top 51  slots: 0:_law_mtext 1:_law_one
abbrev s_law_is_name : Stmt := topS 51
abbrev N_law_is_name : List Str := ["_law_mtext", "_law_one"]
theorem sc_law_is_name : FnScope N_law_is_name ["_law_mtext"] (defScope s_law_is_name) := ⟨rfl, rfl, rfl, by decide +kernel, rfl, by decide +kernel, by decide +kernel⟩

-- top 44  slots: 0:_law_source_here 1:_law_many 2:_law_mletters 3:_law_msize 4:_law_at 5:_law_first 6:_law_step 7:_law_found 8:_law_k 9:_law_signs_here
abbrev s_law_names : Stmt := topS 44
abbrev N_law_names : List Str := ["_law_source_here", "_law_many", "_law_mletters", "_law_msize", "_law_at", "_law_first", "_law_step", "_law_found", "_law_k", "_law_signs_here"]
theorem sc_law_names : FnScope N_law_names ["_law_source_here", "_law_many"] (defScope s_law_names) := ⟨rfl, rfl, rfl, by decide +kernel, rfl, by decide +kernel, by decide +kernel⟩

abbrev NLs : Str := "abcdefghijklmnopqrstuvwxyz"
def inNL (c : Nat) : Bool := decide (c ∈ tl NLs)
def nmS (x : Str) : Bool := decide (1 ≤ x.length) && (decide (x.length ≤ 6) && (tl x).all inNL)
def isNm : PyData → Bool
  | .str x => nmS x
  | _ => false
def isGl : PyData → Bool
  | .tuple [l, r] => tmB l && tmB r
  | _ => false
def isRl : PyData → Bool
  | .tuple [n, l, r] => isNm n && (tmB l && tmB r)
  | _ => false
def spIsName (K : PySem.W.Frag) : Sp := fun vs H Q _ => ∃ (v : V) (d : PyData), vs = [v] ∧ Dp K H v d ∧ gd 20 d = true ∧ ∀ H', Same H H' → Q (.bl (isNm d)) H'
def spIsGoal (K : PySem.W.Frag) : Sp := fun vs H Q _ => ∃ (v : V) (d : PyData), vs = [v] ∧ Dp K H v d ∧ gd 20 d = true ∧ ∀ H', Same H H' → Q (.bl (isGl d)) H'
def spIsRule (K : PySem.W.Frag) : Sp := fun vs H Q _ => ∃ (v : V) (d : PyData), vs = [v] ∧ Dp K H v d ∧ gd 20 d = true ∧ ∀ H', Same H H' → Q (.bl (isRl d)) H'
def spLIsName : Sp := fun vs H Q _ => ∃ x : Str, vs = [.str x] ∧ x.length ≤ 100000 ∧ ∀ H', Same H H' → Q (.bl (nmS x)) H'
/-- the names that are drawn -/
def spNames : Sp := fun vs H Q _ => ∃ (a L : Addr) (ns : List Int) (n : Int), vs = [.ref a, .int n] ∧ Src H a L ns ∧ 0 ≤ n ∧ n ≤ 26 ∧
  ∀ (H' : Hp) (p : Addr) (ss : List Str), ss.length = n.toNat → (∀ x ∈ ss, nmS x = true) → ss.Nodup → H p = none → H' p = some (.lst (ss.map V.str)) → Src H' a L ns → SmX [a] H H' → Q (.ref p) H'
theorem gd_str_len {n : Nat} {x : Str} (h : gd n (.str x) = true) : x.length ≤ 100000 := by
  cases n <;> (simp only [gd, Bool.and_eq_true, decide_eq_true_eq] at h; exact h.2)
section
variable {P : Program} {w : World} {K : PySem.W.Frag} {mg : Str → Option Value} {base : Heap}
theorem ok_is_name {f : Addr} {fd : FuncData} {k : Nat} (F : Fun K "is_name" "is_name" s_is_name f fd) (m_isinstance : mg "isinstance" = none) (m_str : mg "str" = none) (m_len : mg "len" = none) (m_all : mg "all" = none)
    {t6 t26 : Tok} (g_MAX_NAME : mg "MAX_NAME" = some (.int 6 t6)) (g_NAME_LETTERS : mg "NAME_LETTERS" = some (.str "abcdefghijklmnopqrstuvwxyz" t26)) :
    FnOk P w K mg base CX0 (k + 1) f fd ["text"] (spIsName K) := by
  refine F.ok sc_is_name (fun vs H Q E h => ?_) (fun cdv A outer s H vs Q E hr h => ?_)
  · obtain ⟨v, d, rfl, _⟩ := h
    rfl
  · obtain ⟨v, d, rfl, hd, hg, q⟩ := h
    refine ⟨_, (pss_cons (ps_if (PW.pt (pw_or (pt_not (pt_val (pe_isD (T := "str") (by rfl) m_isinstance (by rfl) m_str (pv 0)))) (pw_or (pt_cmpR op_lt (pe_callB call_len_str (by rfl) m_len (by decide +kernel) (pa_cons (pv 0) pa_nil)) pe_int (nomark _)) (pw_or1 (pt_cmpR op_gt (pe_callB call_len_str (by rfl) m_len (by decide +kernel) (pa_cons (pv 0) pa_nil)) (pe_glob (v := .int 6) (by rfl) g_MAX_NAME (⟨_, rfl⟩)) (nomark _))))))
        (pss_one (ps_ret pe_bl))
        pss_nil)
      (pss_one (ps_ret (pe_callB (cr_all rfl) (by rfl) m_all (by decide +kernel) (pa_cons (pe_lc (own := [("letter", 1)]) (g := gName 1) (by rfl) sc_is_name.nd (pi_str (pv 0)) (blkOk_by (own := [("letter", 1)]) (N := N_is_name) (sc := defScope s_is_name) (by decide +kernel)) (fun _ _ _ _ _ => pg_name (i := 1) sc_is_name.nd rfl (Or.inl rfl)) (fun _ _ _ _ _ => pts_nil) (fun _ _ _ _ _ => (pe_cmpR op_in_sign (pv 1) (pe_glob (v := .str "abcdefghijklmnopqrstuvwxyz") (by rfl) g_NAME_LETTERS (⟨_, rfl⟩)) (by rfl)))) pa_nil))))), ?_⟩
    refine ⟨_, rfl, _, _, d, rfl, by decide, hd, _, rfl, ?_⟩
    have q0 := q H (Same.refl H)
    cases d with
    | str x =>
      cases hd
      have fx := len_ok hg
      have lx := gd_str_len hg
      have ex : isNm (.str x) = nmS x := rfl
      rw [ex] at q q0
      unfold nmS at q q0
      refine iteF ⟨_, rfl, x, rfl, fx, _, _, rfl, rfl, _, rfl, ?_⟩
      refine ite2 (fun c => iteT ?_) (fun c => ?_)
      · have c1 : ¬ 1 ≤ x.length := by have := of_decide_eq_true c; omega
        rw [decide_eq_false c1, Bool.false_and] at q0
        exact q0
      · have c1 : 1 ≤ x.length := by have := of_decide_eq_false (Bool.eq_false_iff.mpr c); omega
        rw [decide_eq_true c1, Bool.true_and] at q0
        simp only [decide_eq_true c1, Bool.true_and] at q
        refine ⟨_, rfl, x, rfl, fx, _, _, rfl, rfl, _, rfl, ?_⟩
        refine ite2 (fun c => ?_) (fun c => ?_)
        · have c2 : ¬ x.length ≤ 6 := by have := of_decide_eq_true c; omega
          rw [decide_eq_false c2, Bool.false_and] at q0
          exact q0
        · have c2 : x.length ≤ 6 := by have := of_decide_eq_false (Bool.eq_false_iff.mpr c); omega
          simp only [decide_eq_true c2, Bool.true_and] at q
          refine ⟨_, rfl, x, rfl, fun D nD => lc_it (walk_str (z := x)) (fun i H1 => Same H H1 ∧ H1 D = some (.lst ((((tl x).take i).map inNL).map V.bl))) ?_ ?_ ?_ ?_⟩
          · exact ⟨same_upd nD, by rw [upd_same]; rfl⟩
          · exact fun _ _ _ _ => trivial
          · rintro i y H1 H2 hi ⟨sm, e⟩ ⟨rfl, ch, hch, rfl⟩
            have hch' : (tl x)[i]? = some ch := by rw [← hch]; exact Array.getElem?_toList ..
            refine ⟨rfl, ?_⟩
            dsimp only [tYes]
            rw [if_pos rfl]
            refine ⟨_, rfl, ch, _, rfl, rfl, _, e, ?_, fun b o eb => ?_, ?_⟩
            · rw [List.length_map, List.length_map, List.length_take]; have := len_tl x; exact small1000 (by omega)
            · rw [upd_ne (ne_of_none eb nD)]; exact sm _ _ eb
            · rw [upd_same, List.take_add_one, hch']; simp [inNL]
          · rintro H1 ⟨sm, e⟩
            have et : (tl x).take x.cps.size = tl x := List.take_of_length_le (by rw [← len_tl]; exact Nat.le_refl _)
            rw [et] at e
            refine ⟨D, _, rfl, SqL.of e, ?_⟩
            rw [List.all_map]
            exact q H1 sm
    | _ => exact iteT (iteT q0)
theorem ok_is_goal {f : Addr} {fd : FuncData} {k : Nat} (F : Fun K "is_goal" "is_goal" s_is_goal f fd) (m_isinstance : mg "isinstance" = none) (m_tuple : mg "tuple" = none) (m_len : mg "len" = none)
    (C_T0 : OwnD P w K mg base k "is_term" PsT [.int 5, .int 24] (spIsTerm K)) :
    FnOk P w K mg base CX0 (k + 1) f fd ["value"] (spIsGoal K) := by
  refine F.ok sc_is_goal (fun vs H Q E h => ?_) (fun cdv A outer s H vs Q E hr h => ?_)
  · obtain ⟨v, d, rfl, _⟩ := h
    rfl
  · obtain ⟨v, d, rfl, hd, hg, q⟩ := h
    refine ⟨_, (pss_one (ps_ret (pe_and (pe_isD (T := "tuple") (by rfl) m_isinstance (by rfl) m_tuple (pv 0)) (pe_and (pe_cmpR op_eq (pe_callB call_len_seq (by rfl) m_len (by decide +kernel) (pa_cons (pv 0) pa_nil)) pe_int (nomark _)) (pe_and (pe_ownD C_T0 (hr.mono (by omega)) (by rfl) (pa_cons (pe_ix ix_tup (pv 0) pe_int (fun _ _ => rfl)) pa_nil)) (pe_one (pe_ownD C_T0 (hr.mono (by omega)) (by rfl) (pa_cons (pe_ix ix_tup (pv 0) pe_int (fun _ _ => rfl)) pa_nil)))))))), ?_⟩
    have q0 := q H (Same.refl H)
    refine ⟨_, rfl, _, _, d, rfl, by decide, hd, _, rfl, ?_⟩
    cases d with
    | tuple ds =>
      obtain ⟨a, xs, rfl, hs, ha⟩ : ∃ a xs, v = .ref a ∧ SqT K H a xs ∧ DpAll K H xs ds := by
        cases hd with | tup hs ha => exact ⟨_, _, rfl, hs, ha⟩
      have hl := dpAll_len ha
      have gds := (gd_tuple hg).2
      refine iteT ⟨_, rfl, a, xs, rfl, .inr hs, rfl, _, rfl, ?_⟩
      rw [hl]
      match ds, ha, q, q0, hl, gds with
      | [], ha, q, q0, hl, _ => exact iteF q0
      | [_], ha, q, q0, hl, _ => exact iteF q0
      | [l, r], ha, q, q0, hl, gds =>
        refine iteT ?_
        cases ha with
        | @cons x0 _ _ _ h0 ha =>
          cases ha with
          | @cons x1 _ _ _ h1 ha =>
            cases ha
            have g0 := gd_le (gds l (List.mem_cons_self ..)) (show 19 ≤ 20 by decide)
            have g1 := gd_le (gds r (List.mem_cons_of_mem _ (List.mem_cons_self ..))) (show 19 ≤ 20 by decide)
            have ex : isGl (.tuple [l, r]) = (tmB l && tmB r) := rfl
            rw [ex] at q
            refine ⟨_, rfl, a, _, _, x0, rfl, rfl, hs, at0, x0, l, 5, 24, rfl, h0, g0, by decide, by decide, fun H1 s1 => ⟨_, rfl, ?_⟩⟩
            show if tmB l = true then _ else _
            cases htl : tmB l with
            | false =>
              rw [htl, Bool.false_and] at q
              exact iteF (q H1 s1)
            | true =>
              rw [htl, Bool.true_and] at q
              refine iteT ⟨_, rfl, a, _, _, x1, rfl, rfl, same_seqT s1 hs, atI_nat (j := 1) rfl, x1, r, 5, 24, rfl, dp_same s1 _ _ h1, g1, by decide, by decide, fun H2 s2 => ?_⟩
              exact q H2 (s1.trans s2)
      | _ :: _ :: _ :: ds, ha, q, q0, hl, _ =>
        rw [decide_eq_false (fun z => by have := V.int.inj z; simp only [List.length_cons] at this; omega)]
        exact iteF q0
    | _ => exact iteF q0
theorem ok_is_rule {f : Addr} {fd : FuncData} {k : Nat} (F : Fun K "is_rule" "is_rule" s_is_rule f fd) (m_isinstance : mg "isinstance" = none) (m_tuple : mg "tuple" = none) (m_len : mg "len" = none)
    (C_is_name : Own P w K mg base k "is_name" ["text"] (spIsName K)) (C_is_goal : Own P w K mg base k "is_goal" ["value"] (spIsGoal K)) :
    FnOk P w K mg base CX0 (k + 1) f fd ["value"] (spIsRule K) := by
  refine F.ok sc_is_rule (fun vs H Q E h => ?_) (fun cdv A outer s H vs Q E hr h => ?_)
  · obtain ⟨v, d, rfl, _⟩ := h
    rfl
  · obtain ⟨v, d, rfl, hd, hg, q⟩ := h
    refine ⟨_, (pss_one (ps_ret (pe_and (pe_isD (T := "tuple") (by rfl) m_isinstance (by rfl) m_tuple (pv 0)) (pe_and (pe_cmpR op_eq (pe_callB call_len_seq (by rfl) m_len (by decide +kernel) (pa_cons (pv 0) pa_nil)) pe_int (nomark _)) (pe_and (pe_own C_is_name (hr.mono (by omega)) (by rfl) (pa_cons (pe_ix ix_tup (pv 0) pe_int (fun _ _ => rfl)) pa_nil)) (pe_one (pe_own C_is_goal (hr.mono (by omega)) (by rfl) (pa_cons (pe_slice sl_tup (pv 0) (po_some pe_int) po_none) pa_nil)))))))), ?_⟩
    have q0 := q H (Same.refl H)
    refine ⟨_, rfl, _, _, d, rfl, by decide, hd, _, rfl, ?_⟩
    cases d with
    | tuple ds =>
      obtain ⟨a, xs, rfl, hs, ha⟩ : ∃ a xs, v = .ref a ∧ SqT K H a xs ∧ DpAll K H xs ds := by
        cases hd with | tup hs ha => exact ⟨_, _, rfl, hs, ha⟩
      have hl := dpAll_len ha
      have gds := (gd_tuple hg).2
      refine iteT ⟨_, rfl, a, xs, rfl, .inr hs, rfl, _, rfl, ?_⟩
      rw [hl]
      match ds, ha, q, q0, hl, gds with
      | [], ha, q, q0, hl, _ => exact iteF q0
      | [_], ha, q, q0, hl, _ => exact iteF q0
      | [_, _], ha, q, q0, hl, _ => exact iteF q0
      | [n, l, r], ha, q, q0, hl, gds =>
        refine iteT ?_
        cases ha with
        | @cons x0 xr _ _ h0 ha =>
          have g0 := gd_le (gds n (List.mem_cons_self ..)) (show 19 ≤ 20 by decide)
          have ex : isRl (.tuple [n, l, r]) = (isNm n && isGl (.tuple [l, r])) := rfl
          rw [ex] at q
          refine ⟨_, rfl, a, _, _, x0, rfl, rfl, hs, at0, x0, n, rfl, h0, g0, fun H1 s1 => ⟨_, rfl, ?_⟩⟩
          cases htl : isNm n with
          | false =>
            rw [htl, Bool.false_and] at q
            exact iteF (q H1 s1)
          | true =>
            rw [htl, Bool.true_and] at q
            refine iteT ⟨_, rfl, 1, rfl, a, _, rfl, same_seqT s1 hs, ?_, fun p np => ?_⟩
            · rw [show HT.sIx (x0 :: xr).length 0 (some 1) = min 1 (x0 :: xr).length from HT.sIx_nat _ 0 1, List.length_cons]
              omega
            have ec : cutV (x0 :: xr) (some 1) none = xr := by rw [cut_drop1]; rfl
            rw [ec]
            have s2 := same_upd (o := .tup xr) np
            refine ⟨.ref p, .tuple [l, r], rfl, .tup (SqT.of upd_same) (dpAll_same (s1.trans s2) _ _ ha), ?_, fun H2 s3 => q H2 (s1.trans (s2.trans s3))⟩
            exact gd_tup (n := 19) (fun d hd => gds d (List.mem_cons_of_mem _ hd)) (by show 2 ≤ 1000; decide)
      | _ :: _ :: _ :: _ :: ds, ha, q, q0, hl, _ =>
        rw [decide_eq_false (fun z => by have := V.int.inj z; simp only [List.length_cons] at this; omega)]
        exact iteF q0
    | _ => exact iteF q0
theorem ok_law_is_name {f : Addr} {fd : FuncData} {k : Nat} (F : Fun K "_law_is_name" "_law_is_name" s_law_is_name f fd) (m_len : mg "len" = none) (m_all : mg "all" = none) :
    FnOk P w K mg base CX0 (k + 1) f fd ["_law_mtext"] spLIsName := by
  refine F.ok sc_law_is_name (fun vs H Q E h => ?_) (fun cdv A outer s H vs Q E hr h => ?_)
  · obtain ⟨x, rfl, _⟩ := h
    rfl
  · obtain ⟨x, rfl, lx, q⟩ := h
    refine ⟨_, (pss_one (ps_ret (pe_and (pe_chain op_le op_le pe_int (pe_callB call_len_str (by rfl) m_len (by decide +kernel) (pa_cons (pv 0) pa_nil)) pe_int) (pe_one (pe_callB (cr_all rfl) (by rfl) m_all (by decide +kernel) (pa_cons (pe_lc (own := [("_law_one", 1)]) (g := gName 1) (by rfl) sc_law_is_name.nd (pi_str (pv 0)) (blkOk_by (own := [("_law_one", 1)]) (N := N_law_is_name) (sc := defScope s_law_is_name) (by decide +kernel)) (fun _ _ _ _ _ => pg_name (i := 1) sc_law_is_name.nd rfl (Or.inl rfl)) (fun _ _ _ _ _ => pts_nil) (fun _ _ _ _ _ => (pe_cmpR op_in_sign (pv 1) pe_str (by rfl)))) pa_nil)))))), ?_⟩
    have q0 := q H (Same.refl H)
    have fx : x.length ≤ sizeLine := Nat.le_trans lx (by decide)
    unfold nmS at q q0
    refine ⟨_, rfl, x, rfl, fx, _, _, rfl, rfl, _, rfl, ?_⟩
    by_cases c1 : 1 ≤ x.length
    · rw [show decide ((1 : Int) ≤ ((x.length : Nat) : Int)) = true from decide_eq_true (by omega)]
      refine iteT ⟨_, _, rfl, rfl, _, rfl, ?_⟩
      by_cases c2 : x.length ≤ 6
      · rw [show decide (((x.length : Nat) : Int) ≤ 6) = true from decide_eq_true (by omega)]
        simp only [decide_eq_true c1, decide_eq_true c2, Bool.true_and] at q
        refine iteT ⟨_, rfl, x, rfl, fun D nD => lc_it (walk_str (z := x)) (fun i H1 => Same H H1 ∧ H1 D = some (.lst ((((tl x).take i).map inNL).map V.bl))) ?_ ?_ ?_ ?_⟩
        · exact ⟨same_upd nD, by rw [upd_same]; rfl⟩
        · exact fun _ _ _ _ => trivial
        · rintro i y H1 H2 hi ⟨sm, e⟩ ⟨rfl, ch, hch, rfl⟩
          have hch' : (tl x)[i]? = some ch := by rw [← hch]; exact Array.getElem?_toList ..
          refine ⟨rfl, ?_⟩
          dsimp only [tYes]
          rw [if_pos rfl]
          refine ⟨_, rfl, ch, _, rfl, rfl, _, e, ?_, fun b o eb => ?_, ?_⟩
          · rw [List.length_map, List.length_map, List.length_take]; have := len_tl x; exact small1000 (by omega)
          · rw [upd_ne (ne_of_none eb nD)]; exact sm _ _ eb
          · rw [upd_same, List.take_add_one, hch']; simp [inNL]
        · rintro H1 ⟨sm, e⟩
          have et : (tl x).take x.cps.size = tl x := List.take_of_length_le (by rw [← len_tl]; exact Nat.le_refl _)
          rw [et] at e
          refine ⟨D, _, rfl, SqL.of e, ?_⟩
          rw [List.all_map]
          exact q H1 sm
      · rw [show decide (((x.length : Nat) : Int) ≤ 6) = false from decide_eq_false (by omega)]
        rw [decide_eq_false c2, Bool.false_and, Bool.and_false] at q0
        exact iteF q0
    · rw [show decide ((1 : Int) ≤ ((x.length : Nat) : Int)) = false from decide_eq_false (by omega)]
      rw [decide_eq_false c1, Bool.false_and] at q0
      exact iteF ⟨_, rfl, iteF q0⟩
end
end Fv


namespace Fv
open PySem PySem.Spec PyProof.Rows L2 FvX TL
/-! ### the names that are drawn -/
def cNL (i : Nat) : Nat := (tl NLs).getD i 97
def nameK (m at' : Nat) (f st : Int) (k : Nat) : List Nat := (List.replicate m (cNL f.toNat)).set at' (cNL ((f + 1 + st * (k : Nat)) % 26).toNat)
theorem nl_len : (tl NLs).length = 26 := by decide +kernel
theorem cNL_at {i : Int} (h0 : 0 ≤ i) (h : i < 26) : atI (tl NLs) i = some (cNL i.toNat) := by
  have hk : i.toNat < (tl NLs).length := by rw [nl_len]; omega
  have q : atI (tl NLs) ((i.toNat : Nat) : Int) = some (tl NLs)[i.toNat] := atI_nat (List.getElem?_eq_getElem hk)
  rw [show ((i.toNat : Nat) : Int) = i by omega] at q
  rw [q]
  unfold cNL
  rw [List.getD_eq_getElem?_getD, List.getElem?_eq_getElem hk]
  rfl
theorem cNL_in {i : Nat} (h : i < 26) : inNL (cNL i) = true := by
  have all : ∀ i < 26, inNL (cNL i) = true := by decide +kernel
  exact all i h
theorem cNL_inj {i j : Nat} (hi : i < 26) (hj : j < 26) (h : cNL i = cNL j) : i = j := by
  have all : ∀ i < 26, ∀ j < 26, cNL i = cNL j → i = j := by decide +kernel
  exact all i hi j hj h
theorem step_inj {f st : Int} (hs : st ∈ ([1, 3, 5, 7, 9, 11, 15] : List Int)) {k k' : Nat} (hk : k < 26) (hk' : k' < 26) (h : (f + 1 + st * (k : Nat)) % 26 = (f + 1 + st * (k' : Nat)) % 26) : k = k' := by
  simp only [List.mem_cons, List.not_mem_nil, or_false] at hs
  rcases hs with rfl | rfl | rfl | rfl | rfl | rfl | rfl <;> omega
theorem nameK_ok {m at' : Nat} {f st : Int} {k : Nat} (hm : 1 ≤ m) (hm6 : m ≤ 6) (f0 : 0 ≤ f) (f1 : f < 26) : nmS (mk (nameK m at' f st k)) = true := by
  unfold nmS
  have l : (mk (nameK m at' f st k)).length = m := by
    rw [mk_len]; unfold nameK; rw [List.length_set, List.length_replicate]
  rw [l, decide_eq_true hm, decide_eq_true hm6, Bool.true_and, Bool.true_and, List.all_eq_true]
  intro c hc
  have hc' : c ∈ nameK m at' f st k := hc
  unfold nameK at hc'
  rcases List.mem_or_eq_of_mem_set hc' with z | z
  · rw [(List.mem_replicate.mp z).2]; exact cNL_in (by omega)
  · rw [z]
    refine cNL_in ?_
    have a1 := Int.emod_nonneg (f + 1 + st * (k : Nat)) (show (26 : Int) ≠ 0 by decide)
    have a2 := Int.emod_lt_of_pos (f + 1 + st * (k : Nat)) (show (0 : Int) < 26 by decide)
    omega
theorem nameK_inj {m at' : Nat} {f st : Int} {k k' : Nat} (ha : at' < m) (hs : st ∈ ([1, 3, 5, 7, 9, 11, 15] : List Int)) (hk : k < 26) (hk' : k' < 26) (h : mk (nameK m at' f st k) = mk (nameK m at' f st k')) : k = k' := by
  have e : nameK m at' f st k = nameK m at' f st k' := congrArg tl h
  have e2 := congrArg (fun l => l[at']?) e
  unfold nameK at e2
  simp only [List.getElem?_set_self (show at' < (List.replicate m (cNL f.toNat)).length by rw [List.length_replicate]; exact ha)] at e2
  have e3 := Option.some.inj e2
  have a1 := Int.emod_nonneg (f + 1 + st * (k : Nat)) (show (26 : Int) ≠ 0 by decide)
  have a2 := Int.emod_lt_of_pos (f + 1 + st * (k : Nat)) (show (0 : Int) < 26 by decide)
  have b1 := Int.emod_nonneg (f + 1 + st * (k' : Nat)) (show (26 : Int) ≠ 0 by decide)
  have b2 := Int.emod_lt_of_pos (f + 1 + st * (k' : Nat)) (show (0 : Int) < 26 by decide)
  have e4 := cNL_inj (by omega) (by omega) e3
  exact step_inj (f := f) hs hk hk' (by omega)
theorem join_empty : ∀ l : List Nat, Txt.join "" (l.map fun c => (⟨#[c]⟩ : Str)) = mk l := fun l => by
  refine ext_tl ?_
  rw [join_eq, tl_join, List.map_map]
  have e : ∀ l : List Nat, joinL (tl "") (l.map (tl ∘ fun c => (⟨#[c]⟩ : Str))) = l := fun l => by
    induction l with
    | nil => rfl
    | cons c l ih =>
      cases l with
      | nil => rfl
      | cons c2 l =>
        show [c] ++ (tl "" ++ joinL (tl "") ((c2 :: l).map (tl ∘ fun c => (⟨#[c]⟩ : Str)))) = _
        rw [ih]
        rfl
  exact e l
theorem pos26 : (0 : Int) < 26 := by decide
theorem sum_ones : ∀ l : List Nat, ((l.map fun c => (⟨#[c]⟩ : Str)).map (·.length)).sum = l.length
  | [] => rfl
  | c :: l => by rw [List.map_cons, List.map_cons, List.sum_cons, sum_ones l, List.length_cons]; show 1 + _ = _; omega
section
variable {P : Program} {w : World} {K : PySem.W.Frag} {mg : Str → Option Value} {base : Heap}
theorem ok_names {f : Addr} {fd : FuncData} {k : Nat} (F : Fun K "_law_names" "_law_names" s_law_names f fd) (m_range : mg "range" = none) (m_int : mg "int" = none) (hk : 2 ≤ k)
    (C_law_take : Own P w K mg base 1 "_law_take" ["_law_source_here", "_law_many"] spTake)
    (C_law_pick : Own P w K mg base 2 "_law_pick" ["_law_source_here", "_law_row"] spPick) :
    FnOk P w K mg base CX0 (k + 1) f fd ["_law_source_here", "_law_many"] spNames := by
  refine F.ok sc_law_names (fun vs H Q E h => ?_) (fun cdv A outer s H vs Q E hr h => ?_)
  · obtain ⟨a, L, ns, n, rfl, _⟩ := h
    rfl
  · obtain ⟨a, L, ns, n, rfl, hs, n0, n26, q⟩ := h
    refine ⟨_, (pss_cons (ps_set (i := 2) sc_law_names.nd rfl (by first | exact .inl rfl | exact .inr rfl) pe_str)
      (pss_cons (ps_set (i := 3) sc_law_names.nd rfl (by first | exact .inl rfl | exact .inr rfl) (pe_op op_add pe_int (pe_own C_law_take (hr.mono (by omega)) (by rfl) (pa_cons (pv 0) (pa_cons pe_int pa_nil)))))
      (pss_cons (ps_set (i := 4) sc_law_names.nd rfl (by first | exact .inl rfl | exact .inr rfl) (pe_own C_law_take (hr.mono (by omega)) (by rfl) (pa_cons (pv 0) (pa_cons (pv 3) pa_nil))))
      (pss_cons (ps_set (i := 5) sc_law_names.nd rfl (by first | exact .inl rfl | exact .inr rfl) (pe_own C_law_take (hr.mono (by omega)) (by rfl) (pa_cons (pv 0) (pa_cons pe_int pa_nil))))
      (pss_cons (ps_set (i := 6) sc_law_names.nd rfl (by first | exact .inl rfl | exact .inr rfl) (pe_own C_law_pick (hr.mono (by omega)) (by rfl) (pa_cons (pv 0) (pa_cons (pe_lst (pa_cons pe_int (pa_cons pe_int (pa_cons pe_int (pa_cons pe_int (pa_cons pe_int (pa_cons pe_int (pa_cons pe_int pa_nil)))))))) pa_nil))))
      (pss_cons (ps_set (i := 7) sc_law_names.nd rfl (by first | exact .inl rfl | exact .inr rfl) (pe_lst pa_nil))
      (pss_cons (ps_for PassesOwn.never rfl (pi_range1 (by rfl) m_range (pa_cons (pv 1) pa_nil)) (pg_name (i := 8) sc_law_names.nd rfl (by first | exact .inl rfl | exact .inr rfl))
        (pss_cons (ps_set (i := 9) sc_law_names.nd rfl (by first | exact .inl rfl | exact .inr rfl) (pe_op op_rep (pe_lst (pa_cons (pe_ix ix_str (pv 2) (pv 5) (fun _ _ => rfl)) pa_nil)) (pv 3)))
        (pss_cons (ps_asg (pe_ix ix_str (pv 2) (pe_op op_mod (pe_callTy call_int1 (by rfl) m_int (by decide +kernel) (pa_cons (pe_op op_add (pe_op op_add (pv 5) pe_int) (pe_op op_mul (pv 6) (pv 8))) pa_nil)) pe_int) (fun _ _ => rfl)) (pg_sub (pv 9) (pv 4) set_list))
        (pss_one (ps_expr (pe_bm PySem.F.plainAttrs_list PySem.F.slot_list_append PySem.F.type_list_append mt_append (pv 7) (pa_cons (pe_join pe_str (pv 9)) pa_nil)))))))
      (pss_one (ps_ret (pv 7)))))))))), ?_⟩
    have ma : ∀ {a : Addr}, a ∈ [a] := List.mem_singleton.mpr rfl
    refine ⟨_, rfl, a, L, ns, 6, rfl, hs, by decide, by decide, fun H1 d1 a1 b1 hs1 off1 => ⟨_, _, rfl, rfl, ?_⟩⟩
    refine ⟨_, rfl, _, rfl, a, L, ns, 1 + d1, rfl, hs1, by omega, by omega, fun H2 d2 a2 b2 hs2 off2 => ?_⟩
    refine ⟨_, rfl, a, L, ns, 26, rfl, hs2, by decide, by decide, fun H3 d3 a3 b3 hs3 off3 => ?_⟩
    refine ⟨_, rfl, (by show 7 ≤ sizeLine; decide), fun r nr => ?_⟩
    have sr := same_upd (o := .lst [.int 1, .int 3, .int 5, .int 7, .int 9, .int 11, .int 15]) nr
    refine ⟨a, L, r, ns, _, rfl, hs3.same sr, (hs3.ne nr).symm, upd_same, by decide, by decide, fun H4 v hv hs4 off4 => ?_⟩
    obtain ⟨st, hst, rfl⟩ : ∃ st : Int, st ∈ ([1, 3, 5, 7, 9, 11, 15] : List Int) ∧ v = .int st := by
      simp only [List.mem_cons, List.not_mem_nil, or_false] at hv
      rcases hv with rfl | rfl | rfl | rfl | rfl | rfl | rfl <;> exact ⟨_, by decide, rfl⟩
    have sm4 : SmX [a] H H4 := (SmX.at off1 ma).trans ((SmX.at off2 ma).trans ((SmX.at off3 ma).trans ((SmX.of_same sr).trans (SmX.at off4 ma))))
    have st15 : 0 ≤ st ∧ st ≤ 15 := by
      simp only [List.mem_cons, List.not_mem_nil, or_false] at hst
      omega
    refine ⟨Nat.zero_le _, fun p np => ?_⟩
    have npH : H p = none := by
      cases hh : H p with
      | none => rfl
      | some o =>
        by_cases e : p = a
        · rw [e] at np
          obtain ⟨_, _, _, _, e', _⟩ := hs4
          rw [e'] at np; cases np
        · rw [sm4 p o (fun z => e (List.mem_singleton.mp z)) hh] at np; cases np
    have pa : p ≠ a := (hs4.ne np).symm
    have pL : p ≠ L := fun z => by
      obtain ⟨_, _, _, _, _, e, _⟩ := hs4
      rw [← z, np] at e; cases e
    refine ⟨_, rfl, n, rfl, by omega, by omega, for_range (lo := 0) (n := n.toNat) (fun i σ Hi => ∃ y8 y9 : Option V, σ = [some (.ref a), some (.int n), some (.str NLs), some (.int (1 + d1)), some (.int d2), some (.int d3), some (.int st), some (.ref p), y8, y9] ∧ Src Hi a L ns ∧ SmX [a] H Hi ∧ Hi p = some (.lst (((List.range i).map fun k => mk (nameK (1 + d1).toNat d2.toNat d3 st k)).map V.str))) ?_ ?_ ?_⟩
    · exact ⟨none, none, rfl, hs4.new np, sm4.trans (SmX.new np), upd_same⟩
    · rintro i σ Hi hi ⟨y8, y9, rfl, hsi, smi, hp⟩
      have b3' : d3 < 26 := b3
      refine ⟨_, rfl, _, rfl, NLs, _, _, rfl, rfl, (by decide +kernel), cNL_at a3 b3', (by show 1 ≤ sizeLine; decide), fun q1 nq1 => ?_⟩
      have t1 := same_upd (o := .lst [.str ⟨#[cNL d3.toNat]⟩]) nq1
      refine ⟨_, rfl, q1, _, _, rfl, rfl, upd_same, by omega, by omega, ?_, fun q2 nq2 => ?_⟩
      · show 1 * (1 + d1).toNat ≤ sizeLine
        exact Nat.le_trans (show 1 * (1 + d1).toNat ≤ 6 by omega) (by decide)
      have er : (List.replicate (1 + d1).toNat [V.str (⟨#[cNL d3.toNat]⟩ : Str)]).flatten = (List.replicate (1 + d1).toNat (cNL d3.toNat)).map fun c => V.str (⟨#[c]⟩ : Str) := by
        generalize (1 + d1).toNat = m
        induction m with
        | zero => rfl
        | succ m ih => rw [List.replicate_succ, List.flatten_cons, ih, List.replicate_succ]; rfl
      rw [er]
      have t2 := same_upd (o := .lst ((List.replicate (1 + d1).toNat (cNL d3.toNat)).map fun c => V.str (⟨#[c]⟩ : Str))) nq2
      have m0 := Int.emod_nonneg (d3 + 1 + st * (0 + (i : Nat))) (show (26 : Int) ≠ 0 by decide)
      have m1 := Int.emod_lt_of_pos (d3 + 1 + st * (0 + (i : Nat))) pos26
      have hi26 : i < 26 := by omega
      refine ⟨_, rfl, _, rfl, _, _, rfl, rfl, _, rfl, _, rfl, _, _, rfl, rfl, .inl ⟨by omega, by omega⟩, _, _, rfl, rfl, .inl ⟨_, rfl, _, _, rfl, rfl, pos26, NLs, _, _, rfl, rfl, (by decide +kernel), cNL_at m0 m1, _, rfl, _, rfl, q2, _, _, d2.toNat, rfl, rfl, upd_same, ?_, ?_⟩⟩
      · rw [List.length_map, List.length_replicate]
        unfold ixN
        rw [if_pos a2, if_pos (by omega)]
      have e0 : d3 + 1 + st * (0 + (i : Int)) = d3 + 1 + st * (i : Nat) := by rw [Int.zero_add]
      have es : ((List.replicate (1 + d1).toNat (cNL d3.toNat)).map fun c => V.str (⟨#[c]⟩ : Str)).set d2.toNat (V.str ⟨#[cNL ((d3 + 1 + st * (0 + (i : Int))) % 26).toNat]⟩) = ((nameK (1 + d1).toNat d2.toNat d3 st i).map fun c => (⟨#[c]⟩ : Str)).map V.str := by
        unfold nameK
        rw [e0, List.map_map, List.map_set]
        rfl
      rw [es]
      generalize hH7 : upd _ q2 (.lst (((nameK (1 + d1).toNat d2.toNat d3 st i).map fun c => (⟨#[c]⟩ : Str)).map V.str)) = H7
      have q2H : Hi q2 = none := t1.free nq2
      have s7 : Same Hi H7 := fun b o e => by
        rw [← hH7, upd_ne (ne_of_none e q2H)]
        exact t2 _ _ (t1 _ _ e)
      have hq7 : H7 q2 = some (.lst (((nameK (1 + d1).toNat d2.toNat d3 st i).map fun c => (⟨#[c]⟩ : Str)).map V.str)) := by rw [← hH7, upd_same]
      have hp7 := s7 _ _ hp
      have lk : (nameK (1 + d1).toNat d2.toNat d3 st i).length ≤ 6 := by unfold nameK; rw [List.length_set, List.length_replicate]; omega
      refine ⟨_, rfl, .inl ⟨rfl, _, SqL.of hp7⟩, ⟨_, rfl⟩, _, rfl, _, q2, (nameK (1 + d1).toNat d2.toNat d3 st i).map fun c => (⟨#[c]⟩ : Str), rfl, rfl, .inl (SqL.of hq7), ?_, p, _, _, rfl, rfl, hp7, ?_, ?_⟩
      · rw [sum_ones, List.length_map]
        have e1 : ("" : Str).length = 0 := rfl
        rw [e1]
        omega
      · rw [List.length_map, List.length_map, List.length_range]; exact small1000 (by omega)
      · rw [join_empty]
        refine ⟨_, _, rfl, (hsi.same s7).put pa pL, ?_, ?_⟩
        · intro b o nb e
          rw [upd_ne (ne_of_none e npH)]
          exact s7 _ _ (smi _ _ nb e)
        · rw [upd_same, List.range_succ, List.map_append, List.map_append]
          rfl
    · rintro σ Hi ⟨y8, y9, rfl, hsi, smi, hp⟩
      refine ⟨_, rfl, q Hi p _ ?_ ?_ ?_ npH hp hsi smi⟩
      · rw [List.length_map, List.length_range]
      · intro x hx
        obtain ⟨j, hj, rfl⟩ := List.mem_map.mp hx
        exact nameK_ok (by omega) (by omega) a3 b3
      · refine List.Pairwise.map (R := fun i j => i < 26 ∧ j < 26 ∧ i ≠ j) _ (fun i j ⟨hi, hj, ne⟩ z => ne (nameK_inj (by omega) hst hi hj z)) ?_
        have h1 : (List.range n.toNat).Pairwise (· ≠ ·) := List.nodup_range
        refine List.Pairwise.imp_of_mem ?_ h1
        intro i j hi hj ne
        rw [List.mem_range] at hi hj
        exact ⟨by omega, by omega, ne⟩
end
end Fv


namespace Fv
open PySem PySem.Spec PyProof.Rows L2 FvX TL
/-! ### texts of goals and rules -/
-- top 28  slots: 0:goal 1:left 2:right
abbrev s_format_goal : Stmt := topS 28
abbrev N_format_goal : List Str := ["goal", "left", "right"]
theorem sc_format_goal : FnScope N_format_goal ["goal"] (defScope s_format_goal) := ⟨rfl, rfl, rfl, by decide +kernel, rfl, by decide +kernel, by decide +kernel⟩

-- top 29  slots: 0:text 1:left 2:sign 3:right
abbrev s_parse_goal : Stmt := topS 29
abbrev N_parse_goal : List Str := ["text", "left", "sign", "right"]
theorem sc_parse_goal : FnScope N_parse_goal ["text"] (defScope s_parse_goal) := ⟨rfl, rfl, rfl, by decide +kernel, rfl, by decide +kernel, by decide +kernel⟩

-- top 30  slots: 0:rule
abbrev s_format_rule : Stmt := topS 30
abbrev N_format_rule : List Str := ["rule"]
theorem sc_format_rule : FnScope N_format_rule ["rule"] (defScope s_format_rule) := ⟨rfl, rfl, rfl, by decide +kernel, rfl, by decide +kernel, by decide +kernel⟩

-- top 31  slots: 0:text 1:name 2:sign 3:goal 4:left 5:right
abbrev s_parse_rule : Stmt := topS 31
abbrev N_parse_rule : List Str := ["text", "name", "sign", "goal", "left", "right"]
theorem sc_parse_rule : FnScope N_parse_rule ["text"] (defScope s_parse_rule) := ⟨rfl, rfl, rfl, by decide +kernel, rfl, by decide +kernel, by decide +kernel⟩

-- top 52  slots: 0:_law_mtext 1:_law_first 2:_law_sign 3:_law_last 4:_law_words
abbrev s_law_read_goal : Stmt := topS 52
abbrev N_law_read_goal : List Str := ["_law_mtext", "_law_first", "_law_sign", "_law_last", "_law_words"]
theorem sc_law_read_goal : FnScope N_law_read_goal ["_law_mtext"] (defScope s_law_read_goal) := ⟨rfl, rfl, rfl, by decide +kernel, rfl, by decide +kernel, by decide +kernel⟩

-- top 53  slots: 0:_law_mtext 1:_law_first 2:_law_sign 3:_law_last 4:_law_both
abbrev s_law_read_rule : Stmt := topS 53
abbrev N_law_read_rule : List Str := ["_law_mtext", "_law_first", "_law_sign", "_law_last", "_law_both"]
theorem sc_law_read_rule : FnScope N_law_read_rule ["_law_mtext"] (defScope s_law_read_rule) := ⟨rfl, rfl, rfl, by decide +kernel, rfl, by decide +kernel, by decide +kernel⟩

-- top 54  slots: 0:_law_left 1:_law_right
abbrev s_law_goal_text : Stmt := topS 54
abbrev N_law_goal_text : List Str := ["_law_left", "_law_right"]
theorem sc_law_goal_text : FnScope N_law_goal_text ["_law_left", "_law_right"] (defScope s_law_goal_text) := ⟨rfl, rfl, rfl, by decide +kernel, rfl, by decide +kernel, by decide +kernel⟩

-- top 55  slots: 0:_law_one
abbrev s_law_rule_text : Stmt := topS 55
abbrev N_law_rule_text : List Str := ["_law_one"]
theorem sc_law_rule_text : FnScope N_law_rule_text ["_law_one"] (defScope s_law_rule_text) := ⟨rfl, rfl, rfl, by decide +kernel, rfl, by decide +kernel, by decide +kernel⟩

/-- the error of the class at CT with a field leaves -/
def errAt1 (CT : Addr) (cod fl : Str) (v : V) (H : Hp) (E : XK) : Prop := ∀ (H' : Hp) (dd : Addr), Same H H' → H' dd = some (.xd [(fl, v), ("code", .str cod)]) → E (.ref CT) (some dd) H'
theorem errAt1.mono {CT : Addr} {cod fl : Str} {v : V} {H H1 : Hp} {E : XK} (h : errAt1 CT cod fl v H E) (s : Same H H1) : errAt1 CT cod fl v H1 E := fun H' dd s' e => h H' dd (s.trans s') e
def gTxt (l r : PyData) : Str := txt l ++ " < " ++ txt r
def rTxt (n : Str) (l r : PyData) : Str := n ++ ": " ++ gTxt l r
def prsG (x : Str) : Option (PyData × PyData) := match prs (Txt.partition x " < ").1, prs (Txt.partition x " < ").2.2 with
  | some l, some r => some (l, r)
  | _, _ => none
def prsR (x : Str) : Option (Str × PyData × PyData) := if nmS (Txt.partition x ": ").1 = true then (prsG (Txt.partition x ": ").2.2).map fun p => ((Txt.partition x ": ").1, p.1, p.2) else none
theorem sub_ok2 {x : Str} (h : PyData.strOk x = true) (i j : Nat) : PyData.strOk (Builtin.Str.strSub x i j) = true := by
  unfold PyData.strOk at h ⊢
  rw [← Array.all_toList, List.all_eq_true] at h ⊢
  intro c hc
  have hc' : c ∈ tl (Builtin.Str.strSub x i j) := hc
  rw [tl_strSub] at hc'
  exact h c (List.mem_of_mem_drop (List.mem_of_mem_take hc'))
theorem sub_len2 (x : Str) (i j : Nat) : (Builtin.Str.strSub x i j).length ≤ x.length := by
  rw [len_tl, tl_strSub, List.length_take, List.length_drop, ← len_tl]
  omega
theorem part_ok {x : Str} (y : Str) (h : PyData.strOk x = true) : ((Txt.partition x y).1.length ≤ x.length ∧ PyData.strOk (Txt.partition x y).1 = true) ∧ ((Txt.partition x y).2.2.length ≤ x.length ∧ PyData.strOk (Txt.partition x y).2.2 = true) ∧
    (((Txt.partition x y).2.1 = "" ∧ (Txt.partition x y).2.2 = "") ∨ (Txt.partition x y).2.1 = y) := by
  rcases partition_whole x y with ⟨e, _⟩ | ⟨i, e, _⟩
  · rw [e]
    exact ⟨⟨Nat.le_refl _, h⟩, ⟨Nat.zero_le _, (by show PyData.strOk Str.empty = true; decide +kernel)⟩, .inl ⟨rfl, rfl⟩⟩
  · rw [e]
    exact ⟨⟨sub_len2 _ _ _, sub_ok2 h _ _⟩, ⟨sub_len2 _ _ _, sub_ok2 h _ _⟩, .inr rfl⟩
theorem prs_emp : prs "" = none := by
  cases h : prs "" with
  | none => rfl
  | some d =>
    obtain ⟨e, ht⟩ := prs_sound h
    have := lmeas_txt 5 d ((tmB_iff d).mp ht).1
    rw [← e] at this
    have l1 := ((tmB_iff d).mp ht).1
    have e0 : ("" : Str).length = 0 := rfl
    rw [e0] at this
    omega
theorem prsG_emp {x : Str} (h : (Txt.partition x " < ").2.2 = "") : prsG x = none := by
  unfold prsG
  rw [h, prs_emp]
  cases prs (Txt.partition x " < ").1 <;> rfl
theorem prsG_empty : prsG "" = none := by
  refine prsG_emp ?_
  rcases (part_ok (x := "") " < " (by decide +kernel)).2.1 with ⟨h, _⟩
  refine ext_tl ?_
  have e0 : ("" : Str).length = 0 := rfl
  rw [len_tl, e0] at h
  rw [List.eq_nil_of_length_eq_zero (Nat.le_zero.mp h)]
  rfl
theorem tm_gd {d : PyData} (h : tmB d = true) (n : Nat) (hn : 5 ≤ n) : gd n d = true := by
  obtain ⟨l1, l2⟩ := (tmB_iff d).mp h
  exact gd_le (gd_lmeas 5 d l1 (by omega)) hn
theorem tm_len {d : PyData} (h : tmB d = true) : (txt d).length ≤ 185 ∧ PyData.strOk (txt d) = true := by
  obtain ⟨l1, l2⟩ := (tmB_iff d).mp h
  have := txt_len 5 d l1
  exact ⟨by omega, txt_ok 5 d l1⟩
def spFmtG (K : PySem.W.Frag) (CG : Addr) : Sp := fun vs H Q E => ∃ (v : V) (d : PyData), vs = [v] ∧ Dp K H v d ∧ gd 20 d = true ∧ (∀ l r, d = .tuple [l, r] → isGl d = true → ∀ H', Same H H' → Q (.str (gTxt l r)) H') ∧ (isGl d = false → errAt CG "InvalidGoal" H E)
def spFmtR (K : PySem.W.Frag) (CR : Addr) : Sp := fun vs H Q E => ∃ (v : V) (d : PyData), vs = [v] ∧ Dp K H v d ∧ gd 20 d = true ∧ (∀ n l r, d = .tuple [.str n, l, r] → isRl d = true → ∀ H', Same H H' → Q (.str (rTxt n l r)) H') ∧ (isRl d = false → errAt1 CR "InvalidRules" "index" (.int 0) H E)
def spPG (K : PySem.W.Frag) (CX : Addr) : Sp := fun vs H Q E => ∃ (x : Str) (M : List Addr), vs = [.str x] ∧ x.length ≤ 2900 ∧ PyData.strOk x = true ∧ Trk M H ∧ (∀ l r, prsG x = some (l, r) → ∀ H' v, Same H H' → Dp K (hide M H') v (.tuple [l, r]) → Q v H') ∧ (prsG x = none → errAt CX "InvalidText" H E)
def spPR (K : PySem.W.Frag) (CX : Addr) : Sp := fun vs H Q E => ∃ (x : Str) (M : List Addr), vs = [.str x] ∧ x.length ≤ 2900 ∧ PyData.strOk x = true ∧ Trk M H ∧ (∀ n l r, prsR x = some (n, l, r) → ∀ H' v, Same H H' → Dp K (hide M H') v (.tuple [.str n, l, r]) → Q v H') ∧ (prsR x = none → errAt CX "InvalidText" H E)
def prsGd (x : Str) : Option PyData := (prsG x).map fun p => .tuple [p.1, p.2]
def prsRd (x : Str) : Option PyData := (prsR x).map fun p => .tuple [.str p.1, p.2.1, p.2.2]
/-- a value or None -/
def OptV (K : PySem.W.Frag) (M : List Addr) (H : Hp) (v : V) (o : Option PyData) : Prop := Dp K (hide M H) v (optD o) ∧ (o = none → v = .non) ∧ (∀ d, o = some d → v ≠ .non)
def spLRG (K : PySem.W.Frag) : Sp := fun vs H Q _ => ∃ (x : Str) (M : List Addr), vs = [.str x] ∧ x.length ≤ 2900 ∧ PyData.strOk x = true ∧ Trk M H ∧ ∀ H' v, Same H H' → OptV K M H' v (prsGd x) → Q v H'
def spLRR (K : PySem.W.Frag) : Sp := fun vs H Q _ => ∃ (x : Str) (M : List Addr), vs = [.str x] ∧ x.length ≤ 2900 ∧ PyData.strOk x = true ∧ Trk M H ∧ ∀ H' v, Same H H' → OptV K M H' v (prsRd x) → Q v H'
def spGText (K : PySem.W.Frag) : Sp := fun vs H Q _ => ∃ (v v' : V) (l r : PyData), vs = [v, v'] ∧ Dp K H v l ∧ Dp K H v' r ∧ tmB l = true ∧ tmB r = true ∧ ∀ H', Same H H' → Q (.str (gTxt l r)) H'
def spRText (K : PySem.W.Frag) : Sp := fun vs H Q _ => ∃ (v : V) (n : Str) (l r : PyData), vs = [v] ∧ Dp K H v (.tuple [.str n, l, r]) ∧ nmS n = true ∧ tmB l = true ∧ tmB r = true ∧ ∀ H', Same H H' → Q (.str (rTxt n l r)) H'
theorem nm_len {n : Str} (h : nmS n = true) : n.length ≤ 6 ∧ PyData.strOk n = true := by
  unfold nmS at h
  simp only [Bool.and_eq_true, decide_eq_true_eq] at h
  refine ⟨h.2.1, ?_⟩
  unfold PyData.strOk
  rw [← Array.all_toList, List.all_eq_true]
  intro c hc
  have := (List.all_eq_true.mp h.2.2) c hc
  have all : ∀ c ∈ tl NLs, decide (c < 0x110000) = true := by decide +kernel
  exact all c (of_decide_eq_true this)
theorem three1 : (" < " : Str).length = 3 := by decide +kernel
theorem two1 : (": " : Str).length = 2 := by decide +kernel
theorem gTxt_len {l r : PyData} (hl : tmB l = true) (hr : tmB r = true) : (gTxt l r).length ≤ 373 ∧ PyData.strOk (gTxt l r) = true := by
  have a := tm_len hl
  have b := tm_len hr
  unfold gTxt
  refine ⟨by rw [len_app, len_app, three1]; omega, app_ok (app_ok a.2 (by decide +kernel)) b.2⟩
theorem rTxt_len {n : Str} {l r : PyData} (hn : nmS n = true) (hl : tmB l = true) (hr : tmB r = true) : (rTxt n l r).length ≤ 381 ∧ PyData.strOk (rTxt n l r) = true := by
  have a := gTxt_len hl hr
  have b := nm_len hn
  unfold rTxt
  refine ⟨by rw [len_app, len_app, two1]; omega, app_ok (app_ok b.2 (by decide +kernel)) a.2⟩
section
variable {P : Program} {w : World} {K : PySem.W.Frag} {mg : Str → Option Value} {base : Heap}
theorem ok_format_goal {f CG fG : Addr} {fd : FuncData} {k : Nat} {qual msg : Str} {q : ErrPos} {j1 j2 : Nat} (F : Fun K "format_goal" "format_goal" s_format_goal f fd) (hk : 1 ≤ k) (T_IG : ErrC P.main.file K CG fG qual q msg "InvalidGoal" j1 j2) (hline : LineOk q msg j1) (htop : (P.main.scope.names.lookup ("super" : Str)).isSome = false) (m_super : mg "super" = none) (g_IG : mg "InvalidGoal" = some (.ref CG))
    (C_is_goal : Own P w K mg base k "is_goal" ["value"] (spIsGoal K)) (C_term_text : Own P w K mg base k "term_text" ["term"] (spText K 10)) :
    FnOk P w K mg base (L2.CX P w) (k + 1) f fd ["goal"] (spFmtG K CG) := by
  refine F.okX sc_format_goal (fun vs H Q E h => ?_) (fun cdv A outer s H vs Q E hr h => ?_)
  · obtain ⟨v, d, rfl, _⟩ := h
    rfl
  · obtain ⟨v, d, rfl, hd, hg, o1, o2⟩ := h
    refine ⟨_, (pss_cons (ps_if (pt_not (pt_val (pe_own C_is_goal (hr.mono (by omega)) (by rfl) (pa_cons (pv 0) pa_nil))))
        (pss_one (ps_raise rfl (takes_of rfl rfl rfl rfl) (pmk_err0 (k := 0) T_IG hline htop m_super (hr.mono (by omega)) (by rfl) g_IG)))
        pss_nil)
      (pss_cons (ps_asg (pv 0) (pg_tup rfl (pgs_cons (pg_name (i := 1) sc_format_goal.nd rfl (by first | exact .inl rfl | exact .inr rfl)) (pgs_cons (pg_name (i := 2) sc_format_goal.nd rfl (by first | exact .inl rfl | exact .inr rfl)) pgs_nil))))
      (pss_one (ps_ret (pe_joined (.cons (pe_fmt (pe_own C_term_text (hr.mono (by omega)) (by rfl) (pa_cons (pv 1) pa_nil))) (.cons pe_str (.cons (pe_fmt (pe_own C_term_text (hr.mono (by omega)) (by rfl) (pa_cons (pv 2) pa_nil))) .nil)))))))), ?_⟩
    refine ⟨_, rfl, v, d, rfl, hd, hg, fun H1 s1 => ⟨_, rfl, ?_⟩⟩
    cases hG : isGl d with
    | false => exact iteT fun dd nd => o2 hG _ dd (s1.trans (same_upd nd)) upd_same
    | true =>
      refine iteF ?_
      obtain ⟨l, r, rfl⟩ : ∃ l r, d = .tuple [l, r] := by
        cases d with
        | tuple ds =>
          match ds, hG with
          | [l, r], _ => exact ⟨l, r, rfl⟩
          | [], hG => cases hG
          | [_], hG => cases hG
          | _ :: _ :: _ :: _, hG => cases hG
        | _ => cases hG
      have hG' : (tmB l && tmB r) = true := hG
      obtain ⟨hl, hrr⟩ := Bool.and_eq_true_iff.mp hG'
      have ll := tm_len hl
      have lr := tm_len hrr
      have fit : ∀ n : Nat, n ≤ 9000 → n ≤ sizeLine := fun n h => Nat.le_trans h (by decide)
      cases hd with
      | @tup a xs _ hs ha =>
        cases ha with
        | @cons x0 _ _ _ h0 ha =>
          cases ha with
          | @cons x1 _ _ _ h1 ha =>
            cases ha
            refine ⟨_, rfl, a, _, rfl, same_seqT s1 hs, rfl, _, _, rfl, _, _, rfl, rfl, ?_⟩
            refine ⟨_, rfl, x0, l, 5, rfl, dp_same s1 _ _ h0, tm_gd hl 20 (by decide), by decide, ((tmB_iff l).mp hl).1, by have := ((tmB_iff l).mp hl).2; omega, fun H2 s2 => .inl ⟨_, rfl, fit _ (by omega), _, rfl, ?_, _, rfl, ?_, ?_⟩⟩
            · rw [emp_app]; exact fit _ (by omega)
            · rw [emp_app, len_app, three1]; exact fit _ (by omega)
            refine ⟨_, rfl, x1, r, 5, rfl, dp_same (s1.trans s2) _ _ h1, tm_gd hrr 20 (by decide), by decide, ((tmB_iff r).mp hrr).1, by have := ((tmB_iff r).mp hrr).2; omega, fun H3 s3 => .inl ⟨_, rfl, fit _ (by omega), _, rfl, ?_, ?_⟩⟩
            · rw [emp_app, len_app, len_app, three1]; exact fit _ (by omega)
            rw [emp_app]
            exact o1 l r rfl hG H3 (s1.trans (s2.trans s3))
theorem ok_parse_goal {f CX' : Addr} {fd : FuncData} {k : Nat} (F : Fun K "parse_goal" "parse_goal" s_parse_goal f fd)
    (C_parse_term : OwnR P w K mg base k "parse_term" (spParse K CX')) :
    FnOk P w K mg base (L2.CX P w) (k + 1) f fd ["text"] (spPG K CX') := by
  refine F.okX sc_parse_goal (fun vs H Q E h => ?_) (fun cdv A outer s H vs Q E hr h => ?_)
  · obtain ⟨x, M, rfl, _⟩ := h
    rfl
  · obtain ⟨x, M, rfl, hx, hok, tM, o1, o2⟩ := h
    refine ⟨_, (pss_cons (ps_asg (pe_partition (pv 0) pe_str) (pg_tup rfl (pgs_cons (pg_name (i := 1) sc_parse_goal.nd rfl (by first | exact .inl rfl | exact .inr rfl)) (pgs_cons (pg_name (i := 2) sc_parse_goal.nd rfl (by first | exact .inl rfl | exact .inr rfl)) (pgs_cons (pg_name (i := 3) sc_parse_goal.nd rfl (by first | exact .inl rfl | exact .inr rfl)) pgs_nil)))))
      (pss_one (ps_ret (pe_tup (pa_cons (pe_ownR C_parse_term (hr.mono (by omega)) (by rfl) passX (pa_cons (pv 1) pa_nil)) (pa_cons (pe_ownR C_parse_term (hr.mono (by omega)) (by rfl) passX (pa_cons (pv 3) pa_nil)) pa_nil)))))), ?_⟩
    obtain ⟨⟨pl, pok⟩, ⟨rl, rok⟩, _⟩ := part_ok (x := x) " < " hok
    refine ⟨_, rfl, ⟨_, rfl⟩, x, " < ", rfl, rfl, by decide +kernel, fit900 hx, fun p np => ?_⟩
    have s1 := same_upd (o := .tup [.str (Txt.partition x " < ").1, .str (Txt.partition x " < ").2.1, .str (Txt.partition x " < ").2.2]) np
    refine ⟨p, _, rfl, SqT.of upd_same, rfl, _, _, rfl, _, _, rfl, _, _, rfl, rfl, ?_⟩
    unfold prsG at o1 o2
    refine ⟨_, rfl, _, M, rfl, by omega, pok, tM.same s1, fun l el H2 v2 s2 hv2 => ?_, fun el => ?_⟩
    · rw [el] at o1 o2
      refine ⟨_, rfl, _, M, rfl, by omega, rok, tM.same (s1.trans s2), fun r er H3 v3 s3 hv3 => ?_, fun er => ?_⟩
      · rw [er] at o1
        refine ⟨(by show 2 ≤ sizeLine; decide), fun t nt => ?_⟩
        have s4 := same_upd (o := .tup [v2, v3]) nt
        have tM3 := tM.same (s1.trans (s2.trans s3))
        refine o1 l r rfl _ _ (s1.trans (s2.trans (s3.trans s4))) (.tup (SqT.of (hid_at tM3 nt)) (.cons (dp_same (SmX.of_same (s3.trans s4)).hid _ _ hv2) (.cons (dp_same (SmX.of_same s4).hid _ _ hv3) .nil)))
      · rw [er] at o2
        exact (o2 rfl).mono (s1.trans s2)
    · rw [el] at o2
      exact (o2 rfl).mono s1
theorem ok_format_rule {f CG CR fR : Addr} {fd : FuncData} {k : Nat} {qual : Str} {q : ErrPos1} {me : Expr} {j2 : Nat} (F : Fun K "format_rule" "format_rule" s_format_rule f fd) (hk : 1 ≤ k) (T_IR : ErrC1 P.main.file K CR fR qual q me "InvalidRules" "index" j2) (hline : LineOk1 q me) (hargs : ArgsOk me) (hme : ∀ u, MsgV u → MsgOk me "index" u) (htop : (P.main.scope.names.lookup ("super" : Str)).isSome = false) (m_super : mg "super" = none) (g_IR : mg "InvalidRules" = some (.ref CR))
    (C_is_rule : Own P w K mg base k "is_rule" ["value"] (spIsRule K)) (C_format_goal : OwnR P w K mg base k "format_goal" (spFmtG K CG)) :
    FnOk P w K mg base (L2.CX P w) (k + 1) f fd ["rule"] (spFmtR K CR) := by
  refine F.okX sc_format_rule (fun vs H Q E h => ?_) (fun cdv A outer s H vs Q E hr h => ?_)
  · obtain ⟨v, d, rfl, _⟩ := h
    rfl
  · obtain ⟨v, d, rfl, hd, hg, o1, o2⟩ := h
    refine ⟨_, (pss_cons (ps_if (pt_not (pt_val (pe_own C_is_rule (hr.mono (by omega)) (by rfl) (pa_cons (pv 0) pa_nil))))
        (pss_one (ps_raise rfl (takes_of rfl rfl rfl rfl) (pmk_err1 (k := 0) (by decide +kernel) T_IR hline hargs hme htop m_super (hr.mono (by omega)) (by rfl) g_IR (pa_cons pe_int pa_nil))))
        pss_nil)
      (pss_one (ps_ret (pe_joined (.cons (pe_fmt (pe_ix ix_tup (pv 0) pe_int (fun _ _ => rfl))) (.cons pe_str (.cons (pe_fmt (pe_ownR C_format_goal (hr.mono (by omega)) (by rfl) passX (pa_cons (pe_slice sl_tup (pv 0) (po_some pe_int) po_none) pa_nil))) .nil))))))), ?_⟩
    refine ⟨_, rfl, v, d, rfl, hd, hg, fun H1 s1 => ⟨_, rfl, ?_⟩⟩
    cases hR : isRl d with
    | false => exact iteT ⟨_, rfl, .inr ⟨0, rfl, by decide⟩, fun dd nd => o2 hR _ dd (s1.trans (same_upd nd)) upd_same⟩
    | true =>
      refine iteF ?_
      obtain ⟨n, l, r, rfl, hn, hG⟩ : ∃ n l r, d = .tuple [.str n, l, r] ∧ nmS n = true ∧ isGl (.tuple [l, r]) = true := by
        cases d with
        | tuple ds =>
          match ds, hR with
          | [n, l, r], hR =>
            obtain ⟨h1, h2⟩ := Bool.and_eq_true_iff.mp (show (isNm n && (tmB l && tmB r)) = true from hR)
            cases n with
            | str n => exact ⟨n, l, r, rfl, h1, h2⟩
            | _ => cases h1
          | [], hR => cases hR
          | [_], hR => cases hR
          | [_, _], hR => cases hR
          | _ :: _ :: _ :: _ :: _, hR => cases hR
        | _ => cases hR
      obtain ⟨hl, hrr⟩ := Bool.and_eq_true_iff.mp (show (tmB l && tmB r) = true from hG)
      have lg := gTxt_len hl hrr
      have ln := nm_len hn
      have fit : ∀ n : Nat, n ≤ 9000 → n ≤ sizeLine := fun n h => Nat.le_trans h (by decide)
      have gds := (gd_tuple hg).2
      cases hd with
      | @tup a xs _ hs ha =>
        cases ha with
        | @cons x0 xr _ _ h0 ha =>
          cases h0
          refine ⟨_, rfl, a, _, _, _, rfl, rfl, same_seqT s1 hs, at0, .inl ⟨n, rfl, fit _ (by omega), _, rfl, ?_, _, rfl, ?_, ?_⟩⟩
          · rw [emp_app]; exact fit _ (by omega)
          · rw [emp_app, len_app, two1]; exact fit _ (by omega)
          refine ⟨_, rfl, 1, rfl, a, _, rfl, same_seqT s1 hs, ?_, fun p np => ?_⟩
          · rw [show HT.sIx (V.str n :: xr).length 0 (some 1) = min 1 (V.str n :: xr).length from HT.sIx_nat _ 0 1, List.length_cons]
            have := dpAll_len ha
            simp only [List.length_cons, List.length_nil] at this
            omega
          have ec : cutV (V.str n :: xr) (some 1) none = xr := by rw [cut_drop1]; rfl
          rw [ec]
          have s2 := same_upd (o := .tup xr) np
          refine ⟨.ref p, .tuple [l, r], rfl, .tup (SqT.of upd_same) (dpAll_same (s1.trans s2) _ _ ha), gd_tup (n := 19) (fun d hd => gds d (List.mem_cons_of_mem _ hd)) (by show 2 ≤ 1000; decide), fun l' r' e' _ H3 s3 => ?_, fun e => (by rw [hG] at e; cases e)⟩
          cases e'
          refine .inl ⟨_, rfl, fit _ (by omega), _, rfl, ?_, ?_⟩
          · rw [emp_app, len_app, len_app, two1]; exact fit _ (by omega)
          rw [emp_app]
          exact o1 n l r rfl hR H3 (s1.trans (s2.trans s3))
theorem ok_parse_rule {f CX' fI : Addr} {fd : FuncData} {k : Nat} {qual msg : Str} {q : ErrPos} {j1 j2 : Nat} (F : Fun K "parse_rule" "parse_rule" s_parse_rule f fd) (hk : 1 ≤ k) (T_IX : ErrC P.main.file K CX' fI qual q msg "InvalidText" j1 j2) (hline : LineOk q msg j1) (htop : (P.main.scope.names.lookup ("super" : Str)).isSome = false) (m_super : mg "super" = none) (g_IX : mg "InvalidText" = some (.ref CX'))
    (C_is_name : Own P w K mg base k "is_name" ["text"] (spIsName K)) (C_parse_goal : OwnR P w K mg base k "parse_goal" (spPG K CX')) :
    FnOk P w K mg base (L2.CX P w) (k + 1) f fd ["text"] (spPR K CX') := by
  refine F.okX sc_parse_rule (fun vs H Q E h => ?_) (fun cdv A outer s H vs Q E hr h => ?_)
  · obtain ⟨x, M, rfl, _⟩ := h
    rfl
  · obtain ⟨x, M, rfl, hx, hok, tM, o1, o2⟩ := h
    refine ⟨_, (pss_cons (ps_asg (pe_partition (pv 0) pe_str) (pg_tup rfl (pgs_cons (pg_name (i := 1) sc_parse_rule.nd rfl (by first | exact .inl rfl | exact .inr rfl)) (pgs_cons (pg_name (i := 2) sc_parse_rule.nd rfl (by first | exact .inl rfl | exact .inr rfl)) (pgs_cons (pg_name (i := 3) sc_parse_rule.nd rfl (by first | exact .inl rfl | exact .inr rfl)) pgs_nil)))))
      (pss_cons (ps_if (pt_not (pt_val (pe_own C_is_name (hr.mono (by omega)) (by rfl) (pa_cons (pv 1) pa_nil))))
        (pss_one (ps_raise rfl (takes_of rfl rfl rfl rfl) (pmk_err0 (k := 0) T_IX hline htop m_super (hr.mono (by omega)) (by rfl) g_IX)))
        pss_nil)
      (pss_cons (ps_asg (pe_ownR C_parse_goal (hr.mono (by omega)) (by rfl) passX (pa_cons (pv 3) pa_nil)) (pg_tup rfl (pgs_cons (pg_name (i := 4) sc_parse_rule.nd rfl (by first | exact .inl rfl | exact .inr rfl)) (pgs_cons (pg_name (i := 5) sc_parse_rule.nd rfl (by first | exact .inl rfl | exact .inr rfl)) pgs_nil))))
      (pss_one (ps_ret (pe_tup (pa_cons (pv 1) (pa_cons (pv 4) (pa_cons (pv 5) pa_nil))))))))), ?_⟩
    obtain ⟨⟨pl, pok⟩, ⟨rl, rok⟩, _⟩ := part_ok (x := x) ": " hok
    refine ⟨_, rfl, ⟨_, rfl⟩, x, ": ", rfl, rfl, by decide +kernel, fit900 hx, fun p np => ?_⟩
    have s1 := same_upd (o := .tup [.str (Txt.partition x ": ").1, .str (Txt.partition x ": ").2.1, .str (Txt.partition x ": ").2.2]) np
    refine ⟨p, _, rfl, SqT.of upd_same, rfl, _, _, rfl, _, _, rfl, _, _, rfl, rfl, ?_⟩
    unfold prsR at o1 o2
    have gn : gd 20 (.str (Txt.partition x ": ").1) = true := gd_le (n := 0) (by
      show (PyData.strOk _ && decide (_ ≤ 100000)) = true
      rw [pok, decide_eq_true (by omega)]; rfl) (by decide)
    refine ⟨_, rfl, _, .str (Txt.partition x ": ").1, rfl, .str _, gn, fun H2 s2 => ⟨_, rfl, ?_⟩⟩
    show if (!nmS (Txt.partition x ": ").1) = true then _ else _
    cases hn : nmS (Txt.partition x ": ").1 with
    | false =>
      rw [if_neg (by rw [hn]; decide)] at o2
      exact iteT fun dd nd => o2 rfl _ dd (s1.trans (s2.trans (same_upd nd))) upd_same
    | true =>
      rw [if_pos hn] at o1 o2
      refine iteF ⟨_, rfl, _, M, rfl, by omega, rok, tM.same (s1.trans s2), fun l r e H3 v3 s3 hv3 => ?_, fun e => ?_⟩
      · rw [e] at o1
        cases hv3 with
        | @tup a xs _ hs ha =>
          cases ha with
          | @cons x0 _ _ _ h0 ha =>
            cases ha with
            | @cons x1 _ _ _ h1 ha =>
              cases ha
              refine ⟨a, _, rfl, same_seqT hide_same hs, rfl, _, _, rfl, _, _, rfl, rfl, ?_⟩
              refine ⟨_, rfl, _, rfl, _, rfl, (by show 3 ≤ sizeLine; decide), fun t nt => ?_⟩
              have s4 := same_upd (o := .tup [.str (Txt.partition x ": ").1, x0, x1]) nt
              have tM3 := tM.same (s1.trans (s2.trans s3))
              exact o1 _ l r rfl _ _ (s1.trans (s2.trans (s3.trans s4))) (.tup (SqT.of (hid_at tM3 nt)) (.cons (.str _) (.cons (dp_same (SmX.of_same s4).hid _ _ h0) (.cons (dp_same (SmX.of_same s4).hid _ _ h1) .nil))))
      · rw [e] at o2
        exact (o2 rfl).mono (s1.trans s2)
theorem ok_law_read_goal {f : Addr} {fd : FuncData} {k : Nat} (F : Fun K "_law_read_goal" "_law_read_goal" s_law_read_goal f fd)
    (C_law_read : Own P w K mg base k "_law_read" ["_law_mtext"] (spLRead K)) :
    FnOk P w K mg base CX0 (k + 1) f fd ["_law_mtext"] (spLRG K) := by
  refine F.ok sc_law_read_goal (fun vs H Q E h => ?_) (fun cdv A outer s H vs Q E hr h => ?_)
  · obtain ⟨x, M, rfl, _⟩ := h
    rfl
  · obtain ⟨x, M, rfl, hx, hok, tM, oq⟩ := h
    have o1 : ∀ l r, prsG x = some (l, r) → ∀ H' v, Same H H' → Dp K (hide M H') v (.tuple [l, r]) → Q v H' := fun l r e H' v s' hv => oq H' v s' (by
      unfold prsGd
      rw [e]
      exact ⟨hv, fun z => (by cases z), fun _ _ z => (by subst z; cases hv)⟩)
    have o2 : prsG x = none → ∀ H', Same H H' → Q .non H' := fun e H' s' => oq H' .non s' (by
      unfold prsGd
      rw [e]
      exact ⟨.non, fun _ => rfl, fun _ z => (by cases z)⟩)
    refine ⟨_, (pss_cons (ps_asg (pe_partition (pv 0) pe_str) (pg_tup rfl (pgs_cons (pg_name (i := 1) sc_law_read_goal.nd rfl (by first | exact .inl rfl | exact .inr rfl)) (pgs_cons (pg_name (i := 2) sc_law_read_goal.nd rfl (by first | exact .inl rfl | exact .inr rfl)) (pgs_cons (pg_name (i := 3) sc_law_read_goal.nd rfl (by first | exact .inl rfl | exact .inr rfl)) pgs_nil)))))
      (pss_cons (ps_set (i := 4) sc_law_read_goal.nd rfl (by first | exact .inl rfl | exact .inr rfl) (pe_lst (pa_cons (pe_own C_law_read (hr.mono (by omega)) (by rfl) (pa_cons (pv 1) pa_nil)) (pa_cons (pe_own C_law_read (hr.mono (by omega)) (by rfl) (pa_cons (pv 3) pa_nil)) pa_nil))))
      (pss_one (ps_ret (pe_ifExp (PW.pt (pw_or (pt_cmpR op_eq (pv 2) pe_str (nomark _)) (pw_or1 (pt_cmpR (op_inD (hu65 hr)) pe_non (pv 4) (by rfl))))) pe_non (pe_tup (pa_cons (pe_ix ix_list (pv 4) pe_int (fun _ _ => rfl)) (pa_cons (pe_ix ix_list (pv 4) pe_int (fun _ _ => rfl)) pa_nil)))))))), ?_⟩
    obtain ⟨⟨pl, pok⟩, ⟨rl, rok⟩, sgn'⟩ := part_ok (x := x) " < " hok
    refine ⟨_, rfl, ⟨_, rfl⟩, x, " < ", rfl, rfl, by decide +kernel, fit900 hx, fun p np => ?_⟩
    have s1 := same_upd (o := .tup [.str (Txt.partition x " < ").1, .str (Txt.partition x " < ").2.1, .str (Txt.partition x " < ").2.2]) np
    refine ⟨p, _, rfl, SqT.of upd_same, rfl, _, _, rfl, _, _, rfl, _, _, rfl, rfl, ?_⟩
    have neg : (" < " : Str) ≠ "" := by decide +kernel
    -- what both readings lead to
    have fin : ∀ (ol or' : Option PyData) (v2 v3 : V) (H3 : Hp), prs (Txt.partition x " < ").1 = ol → prs (Txt.partition x " < ").2.2 = or' → Same H H3 → Dp K (hide M H3) v2 (optD ol) → Dp K (hide M H3) v3 (optD or') → ∀ (L : Addr), H3 L = none → Trk M H3 →
        (if decide (V.str (Txt.partition x " < ").2.1 = V.str "") = true then Q .non (upd H3 L (.lst [v2, v3])) else True) ∧
        (decide (V.str (Txt.partition x " < ").2.1 = V.str "") = false → (none ∈ [ol, or'] → Q .non (upd H3 L (.lst [v2, v3]))) ∧ (none ∉ [ol, or'] → ∀ t, (upd H3 L (.lst [v2, v3])) t = none → Q (.ref t) (upd (upd H3 L (.lst [v2, v3])) t (.tup [v2, v3])))) := fun ol or' v2 v3 H3 e1 e2 s3 h2 h3 L nL tM3 => by
      have sL := same_upd (o := .lst [v2, v3]) nL
      refine ⟨ite2 (fun c => ?_) (fun _ => trivial), fun c => ⟨fun hn => ?_, fun hn t nt => ?_⟩⟩
      · have hs0 : (Txt.partition x " < ").2.1 = "" := V.str.inj (of_decide_eq_true c)
        rcases sgn' with ⟨_, e⟩ | e
        · exact o2 (prsG_emp e) _ (s3.trans sL)
        · exact absurd (e.symm.trans hs0) neg
      · refine o2 ?_ _ (s3.trans sL)
        unfold prsG
        rw [e1, e2]
        cases ol with
        | none => rfl
        | some l =>
          cases or' with
          | none => rfl
          | some r => simp at hn
      · cases ol with
        | none => simp at hn
        | some l =>
          cases or' with
          | none => simp at hn
          | some r =>
            have st := same_upd (o := .tup [v2, v3]) nt
            refine o1 l r (by unfold prsG; rw [e1, e2]) _ _ (s3.trans (sL.trans st)) (.tup (SqT.of (hid_at (tM3.same sL) nt)) (.cons (dp_same (SmX.of_same (sL.trans st)).hid _ _ h2) (.cons (dp_same (SmX.of_same (sL.trans st)).hid _ _ h3) .nil)))
    have gdo : ∀ (y : Str) (d : PyData), prs y = some d → gd 10 d = true ∧ d ≠ .none := fun y d e => by
      have ht := (prs_sound e).2
      refine ⟨tm_gd ht 10 (by decide), fun z => ?_⟩
      rw [z] at ht
      exact absurd ((tmB_iff _).mp ht).1 (by decide)
    have gN : gd 10 .none = true := gd_le (n := 0) rfl (by decide)
    refine ⟨_, rfl, _, M, rfl, by omega, pok, tM.same s1, fun l el H2 v2 s2 hv2 => ?_, fun el H2 s2 => ?_⟩
    · refine ⟨_, rfl, _, M, rfl, by omega, rok, tM.same (s1.trans s2), fun r er H3 v3 s3 hv3 => ⟨(by show 2 ≤ sizeLine; decide), fun L nL => ?_⟩, fun er H3 s3 => ⟨(by show 2 ≤ sizeLine; decide), fun L nL => ?_⟩⟩
      · have hv2' := dp_same (SmX.of_same s3).hid _ _ hv2
        obtain ⟨f1, f2⟩ := fin (some l) (some r) v2 v3 H3 el er (s1.trans (s2.trans s3)) hv2' hv3 L nL (tM.same (s1.trans (s2.trans s3)))
        have sL := same_upd (o := .lst [v2, v3]) nL
        refine ⟨_, rfl, rfl, _, rfl, ?_⟩
        refine ite2 (fun c => ?_) (fun c => ?_)
        · rw [if_pos c] at f1
          exact iteT f1
        · obtain ⟨f3, f4⟩ := f2 (Bool.eq_false_iff.mpr c)
          refine ⟨_, rfl, .none, [optD (some l), optD (some r)], .non, .lst (SqL.of upd_same) (.cons (dp_same sL _ _ (dp_same hide_same _ _ hv2')) (.cons (dp_same sL _ _ (dp_same hide_same _ _ hv3)) .nil)), rfl, gd_shaped (gd_lst (n := 10) (fun z hz => ?_) (by show 2 ≤ 1000; decide)) (by decide), _, rfl, ?_⟩
          · simp only [List.mem_cons, List.not_mem_nil, or_false] at hz
            rcases hz with rfl | rfl
            · exact (gdo _ _ el).1
            · exact (gdo _ _ er).1
          have an := any_none [(some l), (some r)] (fun d hd => by
            simp only [List.mem_cons, List.not_mem_nil, or_false] at hd
            rcases hd with e | e
            · first | (cases e; exact (gdo _ _ el).2) | cases e
            · first | (cases e; exact (gdo _ _ er).2) | cases e)
          refine ite2 (fun c2 => f3 (an.mp c2)) (fun c2 => ?_)
          exact ⟨_, rfl, L, _, _, _, rfl, rfl, SqL.of upd_same, rfl, _, rfl, L, _, _, _, rfl, rfl, SqL.of upd_same, rfl, (by show 2 ≤ sizeLine; decide), f4 (fun z => c2 (an.mpr z))⟩
      · have hv2' := dp_same (SmX.of_same s3).hid _ _ hv2
        obtain ⟨f1, f2⟩ := fin (some l) none v2 .non H3 el er (s1.trans (s2.trans s3)) hv2' .non L nL (tM.same (s1.trans (s2.trans s3)))
        have sL := same_upd (o := .lst [v2, .non]) nL
        refine ⟨_, rfl, rfl, _, rfl, ?_⟩
        refine ite2 (fun c => ?_) (fun c => ?_)
        · rw [if_pos c] at f1
          exact iteT f1
        · obtain ⟨f3, f4⟩ := f2 (Bool.eq_false_iff.mpr c)
          refine ⟨_, rfl, .none, [optD (some l), optD none], .non, .lst (SqL.of upd_same) (.cons (dp_same sL _ _ (dp_same hide_same _ _ hv2')) (.cons (dp_same sL _ _ .non) .nil)), rfl, gd_shaped (gd_lst (n := 10) (fun z hz => ?_) (by show 2 ≤ 1000; decide)) (by decide), _, rfl, ?_⟩
          · simp only [List.mem_cons, List.not_mem_nil, or_false] at hz
            rcases hz with rfl | rfl
            · exact (gdo _ _ el).1
            · exact gN
          have an := any_none [(some l), none] (fun d hd => by
            simp only [List.mem_cons, List.not_mem_nil, or_false] at hd
            rcases hd with e | e
            · first | (cases e; exact (gdo _ _ el).2) | cases e
            · first | (cases e; exact (gdo _ _ er).2) | cases e)
          refine ite2 (fun c2 => f3 (an.mp c2)) (fun c2 => ?_)
          exact ⟨_, rfl, L, _, _, _, rfl, rfl, SqL.of upd_same, rfl, _, rfl, L, _, _, _, rfl, rfl, SqL.of upd_same, rfl, (by show 2 ≤ sizeLine; decide), f4 (fun z => c2 (an.mpr z))⟩
    · refine ⟨_, rfl, _, M, rfl, by omega, rok, tM.same (s1.trans s2), fun r er H3 v3 s3 hv3 => ⟨(by show 2 ≤ sizeLine; decide), fun L nL => ?_⟩, fun er H3 s3 => ⟨(by show 2 ≤ sizeLine; decide), fun L nL => ?_⟩⟩
      · obtain ⟨f1, f2⟩ := fin none (some r) .non v3 H3 el er (s1.trans (s2.trans s3)) .non hv3 L nL (tM.same (s1.trans (s2.trans s3)))
        have sL := same_upd (o := .lst [.non, v3]) nL
        refine ⟨_, rfl, rfl, _, rfl, ?_⟩
        refine ite2 (fun c => ?_) (fun c => ?_)
        · rw [if_pos c] at f1
          exact iteT f1
        · obtain ⟨f3, f4⟩ := f2 (Bool.eq_false_iff.mpr c)
          refine ⟨_, rfl, .none, [optD none, optD (some r)], .non, .lst (SqL.of upd_same) (.cons (dp_same sL _ _ .non) (.cons (dp_same sL _ _ (dp_same hide_same _ _ hv3)) .nil)), rfl, gd_shaped (gd_lst (n := 10) (fun z hz => ?_) (by show 2 ≤ 1000; decide)) (by decide), _, rfl, ?_⟩
          · simp only [List.mem_cons, List.not_mem_nil, or_false] at hz
            rcases hz with rfl | rfl
            · exact gN
            · exact (gdo _ _ er).1
          have an := any_none [none, (some r)] (fun d hd => by
            simp only [List.mem_cons, List.not_mem_nil, or_false] at hd
            rcases hd with e | e
            · first | (cases e; exact (gdo _ _ el).2) | cases e
            · first | (cases e; exact (gdo _ _ er).2) | cases e)
          refine ite2 (fun c2 => f3 (an.mp c2)) (fun c2 => ?_)
          exact ⟨_, rfl, L, _, _, _, rfl, rfl, SqL.of upd_same, rfl, _, rfl, L, _, _, _, rfl, rfl, SqL.of upd_same, rfl, (by show 2 ≤ sizeLine; decide), f4 (fun z => c2 (an.mpr z))⟩
      · obtain ⟨f1, f2⟩ := fin none none .non .non H3 el er (s1.trans (s2.trans s3)) .non .non L nL (tM.same (s1.trans (s2.trans s3)))
        have sL := same_upd (o := .lst [.non, .non]) nL
        refine ⟨_, rfl, rfl, _, rfl, ?_⟩
        refine ite2 (fun c => ?_) (fun c => ?_)
        · rw [if_pos c] at f1
          exact iteT f1
        · obtain ⟨f3, f4⟩ := f2 (Bool.eq_false_iff.mpr c)
          refine ⟨_, rfl, .none, [optD none, optD none], .non, .lst (SqL.of upd_same) (.cons (dp_same sL _ _ .non) (.cons (dp_same sL _ _ .non) .nil)), rfl, gd_shaped (gd_lst (n := 10) (fun z hz => ?_) (by show 2 ≤ 1000; decide)) (by decide), _, rfl, ?_⟩
          · simp only [List.mem_cons, List.not_mem_nil, or_false] at hz
            rcases hz with rfl | rfl
            · exact gN
            · exact gN
          have an := any_none [none, none] (fun d hd => by
            simp only [List.mem_cons, List.not_mem_nil, or_false] at hd
            rcases hd with e | e
            · first | (cases e; exact (gdo _ _ el).2) | cases e
            · first | (cases e; exact (gdo _ _ er).2) | cases e)
          refine ite2 (fun c2 => f3 (an.mp c2)) (fun c2 => ?_)
          exact ⟨_, rfl, L, _, _, _, rfl, rfl, SqL.of upd_same, rfl, _, rfl, L, _, _, _, rfl, rfl, SqL.of upd_same, rfl, (by show 2 ≤ sizeLine; decide), f4 (fun z => c2 (an.mpr z))⟩
theorem ok_law_read_rule {f : Addr} {fd : FuncData} {k : Nat} (F : Fun K "_law_read_rule" "_law_read_rule" s_law_read_rule f fd)
    (C_law_read_goal : Own P w K mg base k "_law_read_goal" ["_law_mtext"] (spLRG K)) (C_law_is_name : Own P w K mg base k "_law_is_name" ["_law_mtext"] spLIsName) :
    FnOk P w K mg base CX0 (k + 1) f fd ["_law_mtext"] (spLRR K) := by
  refine F.ok sc_law_read_rule (fun vs H Q E h => ?_) (fun cdv A outer s H vs Q E hr h => ?_)
  · obtain ⟨x, M, rfl, _⟩ := h
    rfl
  · obtain ⟨x, M, rfl, hx, hok, tM, oq⟩ := h
    have o1 : ∀ n l r, prsR x = some (n, l, r) → ∀ H' v, Same H H' → Dp K (hide M H') v (.tuple [.str n, l, r]) → Q v H' := fun n l r e H' v s' hv => oq H' v s' (by
      unfold prsRd
      rw [e]
      exact ⟨hv, fun z => (by cases z), fun _ _ z => (by subst z; cases hv)⟩)
    have o2 : prsR x = none → ∀ H', Same H H' → Q .non H' := fun e H' s' => oq H' .non s' (by
      unfold prsRd
      rw [e]
      exact ⟨.non, fun _ => rfl, fun _ z => (by cases z)⟩)
    refine ⟨_, (pss_cons (ps_asg (pe_partition (pv 0) pe_str) (pg_tup rfl (pgs_cons (pg_name (i := 1) sc_law_read_rule.nd rfl (by first | exact .inl rfl | exact .inr rfl)) (pgs_cons (pg_name (i := 2) sc_law_read_rule.nd rfl (by first | exact .inl rfl | exact .inr rfl)) (pgs_cons (pg_name (i := 3) sc_law_read_rule.nd rfl (by first | exact .inl rfl | exact .inr rfl)) pgs_nil)))))
      (pss_cons (ps_set (i := 4) sc_law_read_rule.nd rfl (by first | exact .inl rfl | exact .inr rfl) (pe_own C_law_read_goal (hr.mono (by omega)) (by rfl) (pa_cons (pv 3) pa_nil)))
      (pss_one (ps_ret (pe_ifExp (PW.pt (pw_or (pt_cmpR op_eq (pv 2) pe_str (nomark _)) (pw_or (pt_cmpR op_isN (pv 4) pe_non (nomark _)) (pw_or1 (pt_not (pt_val (pe_own C_law_is_name (hr.mono (by omega)) (by rfl) (pa_cons (pv 1) pa_nil)))))))) pe_non (pe_tup (pa_cons (pv 1) (pa_cons (pe_ix ix_tup (pv 4) pe_int (fun _ _ => rfl)) (pa_cons (pe_ix ix_tup (pv 4) pe_int (fun _ _ => rfl)) pa_nil))))))))), ?_⟩
    obtain ⟨⟨pl, pok⟩, ⟨rl, rok⟩, sgn'⟩ := part_ok (x := x) ": " hok
    refine ⟨_, rfl, ⟨_, rfl⟩, x, ": ", rfl, rfl, by decide +kernel, fit900 hx, fun p np => ?_⟩
    have s1 := same_upd (o := .tup [.str (Txt.partition x ": ").1, .str (Txt.partition x ": ").2.1, .str (Txt.partition x ": ").2.2]) np
    refine ⟨p, _, rfl, SqT.of upd_same, rfl, _, _, rfl, _, _, rfl, _, _, rfl, rfl, ?_⟩
    have neg : (": " : Str) ≠ "" := by decide +kernel
    unfold prsR at o1 o2
    refine ⟨_, rfl, _, M, rfl, by omega, rok, tM.same s1, fun H2 v2 s2 ⟨hv2, vn, _⟩ => ?_⟩
    unfold prsGd at hv2 vn
    cases e : prsG (Txt.partition x ": ").2.2 with
    | some lr =>
      obtain ⟨l, r⟩ := lr
      rw [e] at o1 o2 hv2
      refine ⟨_, rfl, rfl, _, rfl, ?_⟩
      refine ite2 (fun c => ?_) (fun c => ?_)
      · exfalso
        have hs0 : (Txt.partition x ": ").2.1 = "" := V.str.inj (of_decide_eq_true c)
        rcases sgn' with ⟨_, e2⟩ | e2
        · rw [e2, prsG_empty] at e; cases e
        · exact absurd (e2.symm.trans hs0) neg
      have hv2 : Dp K (hide M H2) v2 (.tuple [l, r]) := hv2
      have nv : v2 ≠ .non := fun z => by subst z; cases hv2
      refine ⟨_, rfl, rfl, _, rfl, ?_⟩
      rw [decide_eq_false nv]
      refine iteF ⟨_, rfl, _, rfl, by omega, fun H3 s3 => ⟨_, rfl, ?_⟩⟩
      cases hn : nmS (Txt.partition x ": ").1 with
      | false =>
        rw [if_neg (by rw [hn]; decide)] at o2
        exact iteT (o2 rfl H3 (s1.trans (s2.trans s3)))
      | true =>
        rw [if_pos hn] at o1
        cases hv2 with
        | @tup a xs _ hs ha =>
          cases ha with
          | @cons x0 _ _ _ h0 ha =>
            cases ha with
            | @cons x1 _ _ _ h1 ha =>
              cases ha
              have hs3 := same_seqT (hide_same.trans s3) hs
              refine iteF ⟨_, rfl, _, rfl, a, _, _, _, rfl, rfl, hs3, at0, _, rfl, a, _, _, _, rfl, rfl, hs3, atI_nat (j := 1) rfl, (by show 3 ≤ sizeLine; decide), fun t nt => ?_⟩
              have s4 := same_upd (o := .tup [.str (Txt.partition x ": ").1, x0, x1]) nt
              have tM3 := tM.same (s1.trans (s2.trans s3))
              exact o1 _ l r rfl _ _ (s1.trans (s2.trans (s3.trans s4))) (.tup (SqT.of (hid_at tM3 nt)) (.cons (.str _) (.cons (dp_same (SmX.of_same (s3.trans s4)).hid _ _ h0) (.cons (dp_same (SmX.of_same (s3.trans s4)).hid _ _ h1) .nil))))
    | none =>
      have ev : v2 = .non := vn (by rw [e]; rfl)
      subst ev
      have q0 : Q .non H2 := by
        refine o2 ?_ H2 (s1.trans s2)
        rw [e]
        split <;> rfl
      refine ⟨_, rfl, rfl, _, rfl, ite2 (fun c => iteT q0) (fun c => ?_)⟩
      exact ⟨_, rfl, rfl, _, rfl, iteT (iteT q0)⟩
theorem ok_law_goal_text {f : Addr} {fd : FuncData} {k : Nat} (F : Fun K "_law_goal_text" "_law_goal_text" s_law_goal_text f fd)
    (C_law_text : Own P w K mg base k "_law_text" ["_law_word"] (spText K 10)) :
    FnOk P w K mg base CX0 (k + 1) f fd ["_law_left", "_law_right"] (spGText K) := by
  refine F.ok sc_law_goal_text (fun vs H Q E h => ?_) (fun cdv A outer s H vs Q E hr h => ?_)
  · obtain ⟨v, v', l, r, rfl, _⟩ := h
    rfl
  · obtain ⟨v, v', l, r, rfl, h1, h2, hl, hrr, q⟩ := h
    refine ⟨_, (pss_one (ps_ret (pe_op op_add_str (pe_op op_add_str (pe_own C_law_text (hr.mono (by omega)) (by rfl) (pa_cons (pv 0) pa_nil)) pe_str) (pe_own C_law_text (hr.mono (by omega)) (by rfl) (pa_cons (pv 1) pa_nil))))), ?_⟩
    have ll := tm_len hl
    have lr := tm_len hrr
    have fit : ∀ n : Nat, n ≤ 9000 → n ≤ sizeLine := fun n h => Nat.le_trans h (by decide)
    refine ⟨_, rfl, v, l, 5, rfl, h1, tm_gd hl 20 (by decide), by decide, ((tmB_iff l).mp hl).1, by have := ((tmB_iff l).mp hl).2; omega, fun H2 s2 => ⟨_, _, rfl, rfl, fit _ (by rw [three1]; omega), ?_⟩⟩
    refine ⟨_, rfl, v', r, 5, rfl, dp_same s2 _ _ h2, tm_gd hrr 20 (by decide), by decide, ((tmB_iff r).mp hrr).1, by have := ((tmB_iff r).mp hrr).2; omega, fun H3 s3 => ⟨_, _, rfl, rfl, fit _ (by rw [len_app, three1]; omega), q H3 (s2.trans s3)⟩⟩
theorem ok_law_rule_text {f : Addr} {fd : FuncData} {k : Nat} (F : Fun K "_law_rule_text" "_law_rule_text" s_law_rule_text f fd)
    (C_law_goal_text : Own P w K mg base k "_law_goal_text" ["_law_left", "_law_right"] (spGText K)) :
    FnOk P w K mg base CX0 (k + 1) f fd ["_law_one"] (spRText K) := by
  refine F.ok sc_law_rule_text (fun vs H Q E h => ?_) (fun cdv A outer s H vs Q E hr h => ?_)
  · obtain ⟨v, n, l, r, rfl, _⟩ := h
    rfl
  · obtain ⟨v, n, l, r, rfl, hd, hn, hl, hrr, q⟩ := h
    refine ⟨_, (pss_one (ps_ret (pe_op op_add_str (pe_op op_add_str (pe_ix ix_tup (pv 0) pe_int (fun _ _ => rfl)) pe_str) (pe_own C_law_goal_text (hr.mono (by omega)) (by rfl) (pa_cons (pe_ix ix_tup (pv 0) pe_int (fun _ _ => rfl)) (pa_cons (pe_ix ix_tup (pv 0) pe_int (fun _ _ => rfl)) pa_nil)))))), ?_⟩
    have ln := nm_len hn
    have lg := gTxt_len hl hrr
    have fit : ∀ n : Nat, n ≤ 9000 → n ≤ sizeLine := fun n h => Nat.le_trans h (by decide)
    cases hd with
    | @tup a xs _ hs ha =>
      cases ha with
      | @cons x0 _ _ _ h0 ha =>
        cases h0
        cases ha with
        | @cons x1 _ _ _ h1 ha =>
          cases ha with
          | @cons x2 _ _ _ h2 ha =>
            cases ha
            refine ⟨_, rfl, a, _, _, _, rfl, rfl, hs, at0, _, _, rfl, rfl, fit _ (by rw [two1]; omega), ?_⟩
            exact ⟨_, rfl, a, _, _, _, rfl, rfl, hs, atI_nat (j := 1) rfl, _, rfl, a, _, _, _, rfl, rfl, hs, atI_nat (j := 2) rfl, x1, x2, l, r, rfl, h1, h2, hl, hrr, fun H2 s2 => ⟨_, _, rfl, rfl, fit _ (by rw [len_app, two1]; omega), q H2 s2⟩⟩
end
end Fv


namespace Fv
open PySem PySem.Spec PyProof.Rows L2 FvX
-- top 56  slots: 0:_law_ask 1:_law_told 2:e
abbrev s_law_index_told : Stmt := topS 56
abbrev N_law_index_told : List Str := ["_law_ask", "_law_told", "e"]
theorem sc_law_index_told : FnScope N_law_index_told ["_law_ask"] (defScope s_law_index_told) := ⟨rfl, rfl, rfl, by decide +kernel, rfl, by decide +kernel, by decide +kernel⟩

/-- what _law_index_told makes of the lambda's reading -/
def TIdx (K : PySem.W.Frag) (CR : Addr) : (XK → Hp → VK → Prop) → Hp → VK → Prop := fun tl H Q => ∀ (R : VK) (E : XK), (∀ v H', Q (.int (-1)) H' → R v H') →
  (∀ (C dd : Addr) (H' : Hp) (fs : List (Str × V)) (v : V), PySem.W.exmOne K (.ref C) (.ref CR) = some true → XfC K C → PySem.W.findIn K (.ref C) "index" = some none → H' dd = some (.xd fs) → fs.lookup ("index" : Str) = some v → Q v H' → E (.ref C) (some dd) H') → tl E H R
section
variable {X : Cx} {gf CR : Addr} {cdg : Value} {q : Str}
theorem index_gives (hF : X.mg "InvalidRules" = some (.ref CR)) : GivesS X N_law_index_told "_law_index_told" (defScope s_law_index_told) gf cdg (defBody s_law_index_told) "_law_ask" q (TIdx X.K CR) := by
  intro lf lc s H Q tl act hc h
  refine ⟨_, pss_cons (ps_set (i := 1) sc_law_index_told.nd rfl (.inl rfl) (pe_un un_neg pe_int))
    (pss_cons (ps_try_first (X := (cxOf C8.CX0 X.prog X.w X.K X.mg X.base N_law_index_told "_law_index_told" (defScope s_law_index_told) gf cdg X.A X.stack s H C8.E0).nox) (i := 2) (c := .ref CR)
      (tb := fun W D σ H => ∃ E : XK, (∀ cls d H', E cls d H' → W cls d σ H') ∧ σ[0]? = some (some (.ref lf)) ∧ H lc = some (LamX.CodeO lc q) ∧ tl E H (fun _ H' => D.nx σ H'))
      rfl rfl sc_law_index_told.nd rfl rfl ⟨rfl, by decide, .inl hF⟩ (fun W pn xe tk _ => ?_)
      (fun a oe cls d pn hz hf => pss_one (ps_set (i := 1) sc_law_index_told.nd rfl (.inl rfl) (pe_errf (i := 2) hz hf (pv 2)))))
    (pss_one (ps_ret (pv 1)))), ?_⟩
  · refine ⟨fun pins s' σ H' D I hh => ?_⟩
    obtain ⟨E, hW, h1, h2, h3⟩ := hh
    exact (pss_one (ps_expr (act W pn xe E _ _ tk))).run pins s' σ H' D I ⟨h1, h2, hW, h3⟩
  · refine ⟨_, rfl, fun cls d H' => ∃ (C dd : Addr) (fs : List (Str × V)) (v : V), cls = .ref C ∧ PySem.W.exmOne X.K cls (.ref CR) = some true ∧ XfC X.K C ∧ PySem.W.findIn X.K (.ref C) "index" = some none ∧ d = some dd ∧ H' dd = some (.xd fs) ∧ fs.lookup ("index" : Str) = some v ∧ Q v H', fun cls d H' z => ?_, rfl, hc, h _ _ (fun v H' z => ?_) (fun C dd H' fs v h2 h3 h4 h6 h7 h8 => ⟨C, dd, fs, v, rfl, h2, h3, h4, rfl, h6, h7, h8⟩)⟩
    · obtain ⟨C, dd, fs, v, h1, h2, h3, h4, h5, h6, h7, h8⟩ := z
      exact ⟨h2, fun a na => ⟨rfl, C, dd, fs, v, h1, h3, h4, h5, h6, h7, _, rfl, h8⟩⟩
    · exact ⟨_, rfl, z⟩
end
end Fv


namespace Fv
open PySem PySem.Spec PyProof.Rows L2 FvX TL
-- top 57  slots: 0:_law_script 1:_law_source_here 2:_law_turn 3:_law_left 4:_law_right 5:_law_one 6:_law_texts 7:_law_change 8:_law_mtext 9:_law_read_here 10:_law_due 11:_law_word 12:_law_odd_here 13:_law_some 14:_law_bad 15:_law_words
abbrev s_law : Stmt := topS 57
abbrev N_law : List Str := ["_law_script", "_law_source_here", "_law_turn", "_law_left", "_law_right", "_law_one", "_law_texts", "_law_change", "_law_mtext", "_law_read_here", "_law_due", "_law_word", "_law_odd_here", "_law_some", "_law_bad", "_law_words"]
theorem sc_law : FnScope N_law ["_law_script"] (defScope s_law) := ⟨rfl, rfl, rfl, by decide +kernel, rfl, by decide +kernel, by decide +kernel⟩

/-! what is carried through a turn: two terms and a rule of them -/
def Bag (K : PySem.W.Frag) (a : Addr) (v1 v2 : V) (o : Addr) (d1 d2 : PyData) (x : Str) (H : Hp) : Prop := Dp K (hide [a] H) v1 d1 ∧ Dp K (hide [a] H) v2 d2 ∧ SqT K (hide [a] H) o [.str x, v1, v2]
section
variable {K : PySem.W.Frag} {a o : Addr} {v1 v2 : V} {d1 d2 : PyData} {x : Str} {H H' : Hp}
theorem Bag.smx (b : Bag K a v1 v2 o d1 d2 x H) (s : SmX [a] H H') : Bag K a v1 v2 o d1 d2 x H' := ⟨dp_same s.hid _ _ b.1, dp_same s.hid _ _ b.2.1, same_seqT s.hid b.2.2⟩
theorem Bag.same (b : Bag K a v1 v2 o d1 d2 x H) (s : Same H H') : Bag K a v1 v2 o d1 d2 x H' := b.smx (SmX.of_same s)
theorem Bag.ext (b : Bag K a v1 v2 o d1 d2 x H) (e : LamX.ExtN H H') : Bag K a v1 v2 o d1 d2 x H' := ⟨dp_ext (ext_hide e) _ _ b.1, dp_ext (ext_hide e) _ _ b.2.1, sqT_ext (ext_hide e) b.2.2⟩
theorem Bag.one (b : Bag K a v1 v2 o d1 d2 x H) : Dp K (hide [a] H) (.ref o) (.tuple [.str x, d1, d2]) := .tup b.2.2 (.cons (.str _) (.cons b.1 (.cons b.2.1 .nil)))
end
def bnd7 : Nat → Nat
  | 0 => 381
  | 1 => 764
  | _ => 1530
theorem bnd7_le : ∀ i, i ≤ 2 → bnd7 i ≤ 2900 := by decide
theorem bnd7_up : ∀ i, i < 2 → bnd7 i ≤ 1400 ∧ 2 * bnd7 i + 2 ≤ bnd7 (i + 1) := by decide
def dueD : Option PyData → PyData
  | none => .tuple [.none, .str "InvalidText"]
  | some d => .tuple [d, .str ""]
def wds : List Str := ["", "a", "abcdef", "abcdefg", "aB", "a b", "zzz", "a1", "z\n"]
theorem wds_ok : ∀ x ∈ wds, x.length ≤ 100000 ∧ gd 20 (.str x) = true := by decide +kernel
theorem eqv_self2 (n : Str) : True := trivial
theorem tmB_of {n : Nat} {d : PyData} (n5 : n ≤ 5) (l1 : 1 ≤ lmeas n d) (l24 : lmeas n d ≤ 24) : tmB d = true := (tmB_iff d).mpr (by rw [lmeas_le l1 n5]; exact ⟨l1, l24⟩)
theorem tm_no {d : PyData} (h : lmeas 9 d = 0) : tmB d = false := by
  cases ht : tmB d with
  | false => rfl
  | true =>
    have l1 := ((tmB_iff d).mp ht).1
    rw [lmeas_le l1 (by decide)] at h
    omega
/-- no term is a goal -/
theorem tm_noGl {d : PyData} (h : tmB d = true) : isGl d = false := by
  rcases lmeas_inv ((tmB_iff d).mp h).1 with ⟨x, rfl, _⟩ | ⟨o, ds, rfl, _, _, h2, _, _⟩
  · rfl
  · match ds, h2 with
    | [], h2 => simp at h2
    | [_], h2 => simp at h2
    | _ :: _ :: _, _ => rfl
theorem dueD_gd {o : Option PyData} (h : ∀ d, o = some d → gd 10 d = true) : gd 11 (dueD o) = true := by
  cases o with
  | none => decide +kernel
  | some d => exact gd_tup (n := 10) (fun z hz => by
      simp only [List.mem_cons, List.not_mem_nil, or_false] at hz
      rcases hz with rfl | rfl
      · exact h _ rfl
      · decide +kernel) (by show 2 ≤ 1000; decide)
theorem prsG_gd {x : Str} {l r : PyData} (h : prsG x = some (l, r)) : tmB l = true ∧ tmB r = true := by
  unfold prsG at h
  cases h1 : prs (Txt.partition x " < ").1 with
  | none => rw [h1] at h; cases h
  | some l' =>
    cases h2 : prs (Txt.partition x " < ").2.2 with
    | none => rw [h1, h2] at h; cases h
    | some r' =>
      rw [h1, h2] at h
      cases h
      exact ⟨(prs_sound h1).2, (prs_sound h2).2⟩
theorem prsGd_gd {x : Str} {d : PyData} (h : prsGd x = some d) : gd 10 d = true := by
  unfold prsGd at h
  cases h1 : prsG x with
  | none => rw [h1] at h; cases h
  | some p =>
    obtain ⟨l, r⟩ := p
    rw [h1] at h
    cases h
    obtain ⟨hl, hr⟩ := prsG_gd h1
    exact gd_tup (n := 9) (fun z hz => by
      simp only [List.mem_cons, List.not_mem_nil, or_false] at hz
      rcases hz with rfl | rfl
      · exact tm_gd hl 9 (by decide)
      · exact tm_gd hr 9 (by decide)) (by show 2 ≤ 1000; decide)
theorem prsRd_gd {x : Str} {d : PyData} (h : prsRd x = some d) : gd 10 d = true := by
  unfold prsRd prsR at h
  by_cases c : nmS (Txt.partition x ": ").1 = true
  · rw [if_pos c] at h
    cases h1 : prsG (Txt.partition x ": ").2.2 with
    | none => rw [h1] at h; cases h
    | some p =>
      obtain ⟨l, r⟩ := p
      rw [h1] at h
      cases h
      obtain ⟨hl, hr⟩ := prsG_gd h1
      exact gd_tup (n := 9) (fun z hz => by
        simp only [List.mem_cons, List.not_mem_nil, or_false] at hz
        rcases hz with rfl | rfl | rfl
        · refine gd_le (n := 0) ?_ (by decide)
          have := nm_len c
          show (PyData.strOk _ && decide (_ ≤ 100000)) = true
          rw [this.2, decide_eq_true (by omega)]; rfl
        · exact tm_gd hl 9 (by decide)
        · exact tm_gd hr 9 (by decide)) (by show 3 ≤ 1000; decide)
  · rw [if_neg c] at h; cases h
/-- a value that is no goal (no rule) -/
def NG (K : PySem.W.Frag) (a : Addr) (H : Hp) (v : V) : Prop := ∃ d, Dp K (hide [a] H) v d ∧ gd 18 d = true ∧ isGl d = false
def NR (K : PySem.W.Frag) (a : Addr) (H : Hp) (v : V) : Prop := ∃ d, Dp K (hide [a] H) v d ∧ gd 18 d = true ∧ isRl d = false
theorem NG.same {K : PySem.W.Frag} {a : Addr} {H H' : Hp} {v : V} (h : NG K a H v) (s : SmX [a] H H') : NG K a H' v := by
  obtain ⟨d, h1, h2⟩ := h
  exact ⟨d, dp_same s.hid _ _ h1, h2⟩
theorem NR.same {K : PySem.W.Frag} {a : Addr} {H H' : Hp} {v : V} (h : NR K a H v) (s : SmX [a] H H') : NR K a H' v := by
  obtain ⟨d, h1, h2⟩ := h
  exact ⟨d, dp_same s.hid _ _ h1, h2⟩
/-- a new tuple of data -/
theorem ng_tup {K : PySem.W.Frag} {a p : Addr} {H : Hp} {xs : List V} {ds : List PyData} (t : Trk [a] H) (np : H p = none) (h : DpAll K (hide [a] H) xs ds) (hg : ∀ d ∈ ds, gd 17 d = true) (hl : ds.length ≤ 1000) : Dp K (hide [a] (upd H p (.tup xs))) (.ref p) (.tuple ds) ∧ gd 18 (.tuple ds) = true :=
  ⟨.tup (SqT.of (hid_at t np)) (dpAll_same (hid_new np) _ _ h), gd_tup hg hl⟩
theorem ng_lst {K : PySem.W.Frag} {a p : Addr} {H : Hp} {xs : List V} {ds : List PyData} (t : Trk [a] H) (np : H p = none) (h : DpAll K (hide [a] H) xs ds) (hg : ∀ d ∈ ds, gd 17 d = true) (hl : ds.length ≤ 1000) : Dp K (hide [a] (upd H p (.lst xs))) (.ref p) (.list ds) ∧ gd 18 (.list ds) = true :=
  ⟨.lst (SqL.of (hid_at t np)) (dpAll_same (hid_new np) _ _ h), gd_lst hg hl⟩
theorem g1 {d1 : PyData} {n : Nat} (h1 : gd n d1 = true) : ∀ d ∈ [d1], gd n d = true := fun d hd => by rw [List.mem_singleton.mp hd]; exact h1
theorem gc {d1 : PyData} {ds : List PyData} {n : Nat} (h1 : gd n d1 = true) (h : ∀ d ∈ ds, gd n d = true) : ∀ d ∈ d1 :: ds, gd n d = true := fun d hd => by
  rcases List.mem_cons.mp hd with e | e
  · rw [e]; exact h1
  · exact h d e
section
variable {P : Program} {w : World} {K : PySem.W.Frag} {mg : Str → Option Value} {base : Heap} {CX' CG CR CF : Addr}
set_option maxHeartbeats 1600000 in
theorem ok_law {f c Pt gcall gidx : Addr} {oc oc2 oc3 : Value} {od an od2 an2 od3 an3 : Option Addr} {osl osl2 osl3 : Array (Option Value)} {kW doc pm ct kW2 doc2 pm2 cdv2 ct2 kW3 doc3 pm3 cdv3 ct3 : Value} {k : Nat} (hk : 32 ≤ k)
    (lk : K.lookup f = some ⟨oc, od, .func (PySem.W.fnOf "law" "law" (defArgs s_law) (defBody s_law) (defScope s_law) .none kW doc pm an (.ref c) ct), osl⟩) (hcd : PySem.W.codeIn K (.ref c) "law" = true) (TB : LamX.TabB base mg c Pt)
    (m_range : mg "range" = none) (m_list : mg "list" = none)
    (l_call : K.lookup gcall = some ⟨oc2, od2, .func (PySem.W.fnOf "_law_call" "_law_call" (defArgs s_law_call) (defBody s_law_call) (defScope s_law_call) .none kW2 doc2 pm2 an2 cdv2 ct2), osl2⟩) (c_call : PySem.W.codeIn K cdv2 "_law_call" = true) (k_call : PySem.W.keepIn K (.ref gcall) = true) (g_call : mg "_law_call" = some (.ref gcall))
    (b_call : Binds K (PySem.W.fnOf "_law_call" "_law_call" (defArgs s_law_call) (defBody s_law_call) (defScope s_law_call) .none kW2 doc2 pm2 an2 cdv2 ct2) ["_law_ask"] []) (g_FE : mg "FaultError" = some (.ref CF))
    (l_idx : K.lookup gidx = some ⟨oc3, od3, .func (PySem.W.fnOf "_law_index_told" "_law_index_told" (defArgs s_law_index_told) (defBody s_law_index_told) (defScope s_law_index_told) .none kW3 doc3 pm3 an3 cdv3 ct3), osl3⟩) (c_idx : PySem.W.codeIn K cdv3 "_law_index_told" = true) (k_idx : PySem.W.keepIn K (.ref gidx) = true) (g_idx : mg "_law_index_told" = some (.ref gidx))
    (b_idx : Binds K (PySem.W.fnOf "_law_index_told" "_law_index_told" (defArgs s_law_index_told) (defBody s_law_index_told) (defScope s_law_index_told) .none kW3 doc3 pm3 an3 cdv3 ct3) ["_law_ask"] []) (g_IR : mg "InvalidRules" = some (.ref CR))
    (exX : PySem.W.exmOne K (.ref CX') (.ref CF) = some true) (xfX : XfC K CX') (fnX : PySem.W.findIn K (.ref CX') "code" = some none)
    (exG : PySem.W.exmOne K (.ref CG) (.ref CF) = some true) (xfG : XfC K CG) (fnG : PySem.W.findIn K (.ref CG) "code" = some none)
    (exR : PySem.W.exmOne K (.ref CR) (.ref CR) = some true) (xfR : XfC K CR) (fnR : PySem.W.findIn K (.ref CR) "index" = some none)
    (C_law_source : Own P w K mg base 1 "_law_source" ["_law_script"] (spSource K))
    (C_law_take : Own P w K mg base 1 "_law_take" ["_law_source_here", "_law_many"] spTake)
    (C_law_pick : Own P w K mg base 2 "_law_pick" ["_law_source_here", "_law_row"] spPick)
    (C_law_any_term : Own P w K mg base 8 "_law_any_term" ["_law_source_here"] (spAnyTerm K))
    (C_law_names : Own P w K mg base 3 "_law_names" ["_law_source_here", "_law_many"] spNames)
    (C_law_odd : Own P w K mg base 3 "_law_odd" ["_law_source_here", "_law_word"] (spOddN K))
    (C_law_same : Own P w K mg base 25 "_law_same" ["_law_found", "_law_due"] (spSame K 25))
    (C_law_goal_text : Own P w K mg base 20 "_law_goal_text" ["_law_left", "_law_right"] (spGText K))
    (C_law_rule_text : Own P w K mg base 20 "_law_rule_text" ["_law_one"] (spRText K))
    (C_law_spoilt : Own P w K mg base 2 "_law_spoilt" ["_law_source_here", "_law_mtext"] spSpoilt)
    (C_law_read_goal : Own P w K mg base 20 "_law_read_goal" ["_law_mtext"] (spLRG K))
    (C_law_read_rule : Own P w K mg base 20 "_law_read_rule" ["_law_mtext"] (spLRR K))
    (C_is_name : Own P w K mg base 20 "is_name" ["text"] (spIsName K))
    (C_law_is_name : Own P w K mg base 20 "_law_is_name" ["_law_mtext"] spLIsName)
    (C_format_goal : OwnR P w K mg base 28 "format_goal" (spFmtG K CG)) (C_format_rule : OwnR P w K mg base 28 "format_rule" (spFmtR K CR)) (K_format_rule : OwnKR P w K mg base 28 "format_rule" ["rule"] ["rule"] (fun vs zs => vs ++ zs) (spFmtR K CR))
    (C_parse_goal : OwnR P w K mg base 28 "parse_goal" (spPG K CX')) (K_parse_rule : OwnKR P w K mg base 28 "parse_rule" ["text"] ["text"] (fun vs zs => vs ++ zs) (spPR K CX')) :
    FnOk P w K mg base CX0 (k + 1) f (PySem.W.fnOf "law" "law" (defArgs s_law) (defBody s_law) (defScope s_law) .none kW doc pm an (.ref c) ct) ["_law_script"] (spLawT K Pt) := by
  refine okC lk hcd sc_law (fun vs H Q E h => ?_) (fun A outer s H vs Q E hr h => ?_)
  · obtain ⟨a, ns, rfl, _⟩ := h
    rfl
  · obtain ⟨sc, ns, rfl, hS, h63, hPt, q⟩ := h
    refine ⟨_, (pss_cons (ps_set (i := 1) sc_law.nd rfl (by first | exact .inl rfl | exact .inr rfl) (pe_own C_law_source (hr.mono (by omega)) (by rfl) (pa_cons (pv 0) pa_nil)))
      (pss_cons (ps_for PassesOwn.never rfl (pi_range1 (by rfl) m_range (pa_cons pe_int pa_nil)) (pg_name (i := 2) sc_law.nd rfl (by first | exact .inl rfl | exact .inr rfl))
        (pss_cons (ps_par (i := 3) (j := 4) (by rfl) sc_law.nd rfl rfl (by decide) rfl rfl (pa_cons (pe_own C_law_any_term (hr.mono (by omega)) (by rfl) (pa_cons (pv 1) pa_nil)) (pa_cons (pe_own C_law_any_term (hr.mono (by omega)) (by rfl) (pa_cons (pv 1) pa_nil)) pa_nil)) (by rfl))
        (pss_cons (ps_set (i := 5) sc_law.nd rfl (by first | exact .inl rfl | exact .inr rfl) (pe_tup (pa_cons (pe_ix ix_list (pe_own C_law_names (hr.mono (by omega)) (by rfl) (pa_cons (pv 1) (pa_cons pe_int pa_nil))) pe_int (fun _ _ => rfl)) (pa_cons (pv 3) (pa_cons (pv 4) pa_nil)))))
        (pss_cons (ps_set (i := 6) sc_law.nd rfl (by first | exact .inl rfl | exact .inr rfl) (pe_lst (pa_cons (pe_own C_law_goal_text (hr.mono (by omega)) (by rfl) (pa_cons (pv 3) (pa_cons (pv 4) pa_nil))) (pa_cons (pe_own C_law_rule_text (hr.mono (by omega)) (by rfl) (pa_cons (pv 5) pa_nil)) pa_nil))))
        (pss_cons (ps_if (pt_not (pt_val (pe_own C_law_same (hr.mono (by omega)) (by rfl) (pa_cons (pe_lst (pa_cons (pe_ownR C_format_goal (hr.mono (by omega)) (by rfl) passE0 (pa_cons (pe_tup (pa_cons (pv 3) (pa_cons (pv 4) pa_nil))) pa_nil)) (pa_cons (pe_ownR C_format_rule (hr.mono (by omega)) (by rfl) passE0 (pa_cons (pv 5) pa_nil)) (pa_cons (pe_ownKR0 K_format_rule (hr.mono (by omega)) (by rfl) passE0 (pk_cons (pv 5) pk_nil)) pa_nil)))) (pa_cons (pe_op op_cat (pv 6) (pe_slice sl_list (pv 6) (po_some pe_int) po_none)) pa_nil)))))
          (pss_one (ps_ret pe_bl))
          pss_nil)
        (pss_cons (ps_for PassesOwn.never rfl (pi_range1 (by rfl) m_range (pa_cons (pe_own C_law_take (hr.mono (by omega)) (by rfl) (pa_cons (pv 1) (pa_cons pe_int pa_nil))) pa_nil)) (pg_name (i := 7) sc_law.nd rfl (by first | exact .inl rfl | exact .inr rfl))
          (pss_one (ps_set (i := 6) sc_law.nd rfl (by first | exact .inl rfl | exact .inr rfl) (pe_lc (own := [("_law_mtext", 8)]) (g := gName 8) (by rfl) sc_law.nd (pi_list (pv 6)) (blkOk_by (own := [("_law_mtext", 8)]) (N := N_law) (sc := defScope s_law) (by decide +kernel)) (fun _ _ _ _ _ => pg_name (i := 8) sc_law.nd rfl (Or.inl rfl)) (fun _ _ _ _ _ => pts_nil) (fun _ _ _ _ _ => (pe_own C_law_spoilt (hr.mono (by omega)) (by rfl) (pa_cons (pv 1) (pa_cons (pv 8) pa_nil))))))))
        (pss_cons (ps_set (i := 9) sc_law.nd rfl (by first | exact .inl rfl | exact .inr rfl) (pe_lst (pa_cons (pe_own C_law_read_goal (hr.mono (by omega)) (by rfl) (pa_cons (pe_ix ix_list (pv 6) pe_int (fun _ _ => rfl)) pa_nil)) (pa_cons (pe_own C_law_read_rule (hr.mono (by omega)) (by rfl) (pa_cons (pe_ix ix_list (pv 6) pe_int (fun _ _ => rfl)) pa_nil)) pa_nil))))
        (pss_cons (ps_setLc (i := 10) (own := [("_law_word", 11)]) (g := gName 11) (by rfl) sc_law.nd rfl rfl (sw_true rfl rfl rfl (by decide +kernel)) (pi_list (pv 9)) (blkOk_by (own := [("_law_word", 11)]) (N := N_law) (sc := defScope s_law) (by decide +kernel)) (fun _ _ _ _ _ => pg_name (i := 11) sc_law.nd rfl (Or.inl rfl)) (fun _ _ _ _ _ => pts_nil) (fun _ _ _ _ _ => (pe_ifExp (pt_cmpR op_isN (pv 11) pe_non (nomark _)) (pe_tup (pa_cons pe_non (pa_cons pe_str pa_nil))) (pe_tup (pa_cons (pv 11) (pa_cons pe_str pa_nil))))))
        (C8.pss_cut (ps_if (pt_not (pt_val (pe_own C_law_same (hr.mono (by omega)) (by rfl) (pa_cons (pe_lst (pa_cons (pe_lamS (T := TT0 Pt) (TT := TCall K CF) (Ng := N_law_call) (k := 30) (by rfl) g_call k_call l_call c_call b_call sc_law_call rfl (.inl rfl) (call_gives g_FE) TB rfl (List.mem_singleton.mpr rfl) (fun p hp _ => by rw [List.mem_singleton.mp hp]; rfl) (hr.mono (by omega)) (LamX.lamS_by (sc := defScope s_law) (by decide +kernel)) rfl (fun _ _ _ _ _ => rfl) (fun A outer s H E lf lc hr2 => pe_ownR C_parse_goal (hr2.mono (by omega)) (by rfl) (passes_call (takes_of rfl rfl rfl rfl) (fun _ _ _ _ h => h)) (pa_cons (pe_ix (ix_listK (K := K) rfl) (pv 6) pe_int (fun _ _ => rfl)) pa_nil))) (pa_cons (pe_lamS (T := TT0 Pt) (TT := TCall K CF) (Ng := N_law_call) (k := 30) (by rfl) g_call k_call l_call c_call b_call sc_law_call rfl (.inl rfl) (call_gives g_FE) TB rfl (List.mem_singleton.mpr rfl) (fun p hp _ => by rw [List.mem_singleton.mp hp]; rfl) (hr.mono (by omega)) (LamX.lamS_by (sc := defScope s_law) (by decide +kernel)) rfl (fun _ _ _ _ _ => rfl) (fun A outer s H E lf lc hr2 => pe_ownKR0 K_parse_rule (hr2.mono (by omega)) (by rfl) (passes_call (takes_of rfl rfl rfl rfl) (fun _ _ _ _ h => h)) (pk_cons (pe_ix (ix_listK (K := K) rfl) (pv 6) pe_int (fun _ _ => rfl)) pk_nil))) pa_nil))) (pa_cons (pv 10) pa_nil)))))
          (pss_one (ps_ret pe_bl))
          pss_nil)
        (pss_cons (ps_set (i := 12) sc_law.nd rfl (by first | exact .inl rfl | exact .inr rfl) (pe_own C_law_odd (hr.mono (by omega)) (by rfl) (pa_cons (pv 1) (pa_cons (pv 3) pa_nil))))
        (pss_cons (ps_set (i := 13) sc_law.nd rfl (by first | exact .inl rfl | exact .inr rfl) (pe_lst (pa_cons (pe_tup (pa_cons (pv 3) (pa_cons (pv 12) pa_nil))) (pa_cons (pe_tup (pa_cons (pv 12) (pa_cons (pv 3) pa_nil))) (pa_cons (pe_tup (pa_cons (pv 3) pa_nil)) (pa_cons (pe_lst (pa_cons (pv 3) (pa_cons (pv 4) pa_nil))) (pa_cons (pe_tup (pa_cons (pv 3) (pa_cons (pv 4) (pa_cons (pv 4) pa_nil)))) (pa_cons pe_non (pa_cons (pv 3) pa_nil)))))))))
        (pss_cons (ps_if (pt_cmpR (op_neD hr.units) (pe_lamS (T := TT0 Pt) (TT := TCall K CF) (Ng := N_law_call) (k := 30) (by rfl) g_call k_call l_call c_call b_call sc_law_call rfl (.inl rfl) (call_gives g_FE) TB rfl (List.mem_singleton.mpr rfl) (fun p hp _ => by rw [List.mem_singleton.mp hp]; rfl) (hr.mono (by omega)) (LamX.lamS_by (sc := defScope s_law) (by decide +kernel)) rfl (fun _ _ _ _ _ => rfl) (fun A outer s H E lf lc hr2 => pe_ownR C_format_goal (hr2.mono (by omega)) (by rfl) (passes_call (takes_of rfl rfl rfl rfl) (fun _ _ _ _ h => h)) (pa_cons (pe_own C_law_pick (hr2.mono (by omega)) (by rfl) (pa_cons (pv 1) (pa_cons (pv 13) pa_nil))) pa_nil))) (pe_tup (pa_cons pe_non (pa_cons pe_str pa_nil))) (nomark _))
          (pss_one (ps_ret pe_bl))
          pss_nil)
        (pss_cons (ps_set (i := 13) sc_law.nd rfl (by first | exact .inl rfl | exact .inr rfl) (pe_lst (pa_cons (pe_tup (pa_cons pe_str (pa_cons (pv 3) (pa_cons (pv 4) pa_nil)))) (pa_cons (pe_tup (pa_cons pe_str (pa_cons (pv 3) (pa_cons (pv 4) pa_nil)))) (pa_cons (pe_tup (pa_cons pe_str (pa_cons (pv 3) (pa_cons (pv 4) pa_nil)))) (pa_cons (pe_tup (pa_cons (pe_ix ix_tup (pv 5) pe_int (fun _ _ => rfl)) (pa_cons (pv 12) (pa_cons (pv 4) pa_nil)))) (pa_cons (pe_tup (pa_cons (pe_ix ix_tup (pv 5) pe_int (fun _ _ => rfl)) (pa_cons (pv 3) pa_nil))) pa_nil)))))))
        (pss_cons (ps_set (i := 13) sc_law.nd rfl (by first | exact .inl rfl | exact .inr rfl) (pe_op op_cat (pv 13) (pe_lst (pa_cons (pe_callTy call_list_of (by rfl) m_list (by decide +kernel) (pa_cons (pv 5) pa_nil)) (pa_cons (pe_tup (pa_cons pe_int (pa_cons (pv 3) (pa_cons (pv 4) pa_nil)))) (pa_cons (pe_tup (pa_cons (pe_ix ix_tup (pv 5) pe_int (fun _ _ => rfl)) (pa_cons (pv 3) (pa_cons (pv 4) (pa_cons (pv 4) pa_nil))))) (pa_cons (pe_tup (pa_cons (pe_ix ix_tup (pv 5) pe_int (fun _ _ => rfl)) (pa_cons (pv 3) (pa_cons (pv 12) pa_nil)))) (pa_cons pe_non pa_nil))))))))
        (pss_cons (ps_set (i := 14) sc_law.nd rfl (by first | exact .inl rfl | exact .inr rfl) (pe_own C_law_pick (hr.mono (by omega)) (by rfl) (pa_cons (pv 1) (pa_cons (pv 13) pa_nil))))
        (pss_one (ps_if (pt_not (pt_val (pe_own C_law_same (hr.mono (by omega)) (by rfl) (pa_cons (pe_lamS (T := TT0 Pt) (TT := TIdx K CR) (Ng := N_law_index_told) (k := 30) (by rfl) g_idx k_idx l_idx c_idx b_idx sc_law_index_told rfl (.inl rfl) (index_gives g_IR) TB rfl (List.mem_singleton.mpr rfl) (fun p hp _ => by rw [List.mem_singleton.mp hp]; rfl) (hr.mono (by omega)) (LamX.lamS_by (sc := defScope s_law) (by decide +kernel)) rfl (fun _ _ _ _ _ => rfl) (fun A outer s H E lf lc hr2 => pe_ownR C_format_rule (hr2.mono (by omega)) (by rfl) (passes_call (takes_of rfl rfl rfl rfl) (fun _ _ _ _ h => h)) (pa_cons (pv 14) pa_nil))) (pa_cons pe_int pa_nil)))))
          (pss_one (ps_ret pe_bl))
          pss_nil)))))))))))))))))
      (pss_cons (ps_set (i := 15) sc_law.nd rfl (by first | exact .inl rfl | exact .inr rfl) (pe_lst (pa_cons pe_str (pa_cons pe_str (pa_cons pe_str (pa_cons pe_str (pa_cons pe_str (pa_cons pe_str (pa_cons pe_str (pa_cons pe_str (pa_cons pe_str pa_nil)))))))))))
      (pss_one (ps_ret (pe_own C_law_same (hr.mono (by omega)) (by rfl) (pa_cons (pe_lc (own := [("_law_word", 11)]) (g := gName 11) (by rfl) sc_law.nd (pi_list (pv 15)) (blkOk_by (own := [("_law_word", 11)]) (N := N_law) (sc := defScope s_law) (by decide +kernel)) (fun _ _ _ _ _ => pg_name (i := 11) sc_law.nd rfl (Or.inl rfl)) (fun _ _ _ _ _ => pts_nil) (fun _ _ _ _ _ => (pe_own C_is_name (hr.mono (by omega)) (by rfl) (pa_cons (pv 11) pa_nil)))) (pa_cons (pe_lc (own := [("_law_word", 11)]) (g := gName 11) (by rfl) sc_law.nd (pi_list (pv 15)) (blkOk_by (own := [("_law_word", 11)]) (N := N_law) (sc := defScope s_law) (by decide +kernel)) (fun _ _ _ _ _ => pg_name (i := 11) sc_law.nd rfl (Or.inl rfl)) (fun _ _ _ _ _ => pts_nil) (fun _ _ _ _ _ => (pe_own C_law_is_name (hr.mono (by omega)) (by rfl) (pa_cons (pv 11) pa_nil)))) pa_nil)))))))), ?_⟩
    have tab0 : LamX.Tabs (TT0 Pt) H := fun p hp => by
      rw [List.mem_singleton.mp hp]
      exact LamX.TabS.nil hPt
    refine ⟨_, rfl, sc, ns, rfl, hS, h63, fun H0 a L s0 na nL hs0 => ?_⟩
    have ma : ∀ {a : Addr}, a ∈ [a] := List.mem_singleton.mpr rfl
    refine ⟨5, rfl, by decide, by decide, for_range (lo := 0) (n := (5 : Int).toNat) (fun i σ Hi => ∃ y2 y3 y4 y5 y6 y7 y8 y9 y10 y11 y12 y13 y14 : Option V, σ = [some (.ref sc), some (.ref a), y2, y3, y4, y5, y6, y7, y8, y9, y10, y11, y12, y13, y14, none] ∧ Src Hi a L ns ∧ LamX.Tabs (TT0 Pt) Hi) ?_ ?_ ?_⟩
    · exact ⟨_, _, _, _, _, _, _, _, _, _, _, _, _, rfl, hs0, tabs_same tab0 s0⟩
    · rintro i σ Hi hi ⟨y2, y3, y4, y5, y6, y7, y8, y9, y10, y11, y12, y13, y14, rfl, hsi, ti⟩
      refine ⟨_, rfl, a, L, ns, [a], rfl, hsi, ma, hsi.trk, fun H1 v1 d1 n1 hv1 _ n15 l11 l12 hg1 hs1 sm1 => ?_⟩
      refine ⟨_, rfl, a, L, ns, [a], rfl, hs1, ma, hs1.trk, fun H2 v2 d2 n2 hv2 _ n25 l21 l22 hg2 hs2 sm2 => ⟨_, _, rfl, ?_⟩⟩
      have tm1 := tmB_of n15 l11 l12
      have tm2 := tmB_of n25 l21 l22
      have t2 := tabs_smx (tabs_smx ti sm1 hsi.lst) sm2 hs1.lst
      -- the rule
      refine ⟨_, rfl, a, L, ns, 1, rfl, hs2, by decide, by decide, fun H3 p3 ss ls3 nm3 _ np3 hp3 hs3 sm3 => ?_⟩
      obtain ⟨x, rfl⟩ : ∃ x, ss = [x] := by
        match ss, ls3 with
        | [x], _ => exact ⟨x, rfl⟩
      have nmx := nm3 x (List.mem_singleton.mpr rfl)
      refine ⟨p3, _, _, _, rfl, rfl, SqL.of hp3, at0, _, rfl, _, rfl, (by show 3 ≤ sizeLine; decide), fun o no => ?_⟩
      have s4 := same_upd (o := .tup [.str x, v1, v2]) no
      have trk3 := hs3.trk
      have B4 : Bag K a v1 v2 o d1 d2 x (upd H3 o (.tup [.str x, v1, v2])) := ⟨dp_same (sm2.trans (sm3.trans (SmX.of_same s4))).hid _ _ hv1, dp_same (sm3.trans (SmX.of_same s4)).hid _ _ hv2, SqT.of (hid_at trk3 no)⟩
      have hs4 := hs3.same s4
      have t4 := tabs_same (tabs_smx t2 sm3 hs2.lst) s4
      have nml := nm_len nmx
      have gx : ∀ n, gd n (.str x) = true := fun n => gd_le (n := 0) (by
        show (PyData.strOk _ && decide (_ ≤ 100000)) = true
        rw [nml.2, decide_eq_true (by omega)]; rfl) (Nat.zero_le _)
      generalize hHd : upd H3 o (.tup [.str x, v1, v2]) = H4 at *
      have gd1 := tm_gd tm1 17 (by decide)
      have gd2 := tm_gd tm2 17 (by decide)
      have gone : gd 18 (.tuple [.str x, d1, d2]) = true := gd_tup (n := 17) (gc (gx 17) (gc gd1 (g1 gd2))) (by show 3 ≤ 1000; decide)
      have isG : isGl (.tuple [d1, d2]) = true := by show (tmB d1 && tmB d2) = true; rw [tm1, tm2]; rfl
      have isR : isRl (.tuple [.str x, d1, d2]) = true := by show (nmS x && (tmB d1 && tmB d2)) = true; rw [nmx, tm1, tm2]; rfl
      have u : ∀ {H : Hp} {v : V} {d : PyData}, Dp K (hide [a] H) v d → Dp K H v d := fun h => dp_same hide_same _ _ h
      -- the law's texts
      refine ⟨_, rfl, _, rfl, v1, v2, d1, d2, rfl, u B4.1, u B4.2.1, tm1, tm2, fun H5 s5 => ?_⟩
      have B5 := B4.same s5
      refine ⟨_, rfl, .ref o, x, d1, d2, rfl, u B5.one, nmx, tm1, tm2, fun H6 s6 => ⟨(by show 2 ≤ sizeLine; decide), fun pt npt => ?_⟩⟩
      have s7 := same_upd (o := .lst [.str (gTxt d1 d2), .str (rTxt x d1 d2)]) npt
      have B7 := B5.same (s6.trans s7)
      have A7 := s5.trans (s6.trans s7)
      -- format_goal and format_rule
      refine ⟨_, rfl, _, rfl, (by show 2 ≤ sizeLine; decide), fun g ng => ?_⟩
      have s8 := same_upd (o := .tup [v1, v2]) ng
      have B8 := B7.same s8
      have hs8 := hs4.same (A7.trans s8)
      refine ⟨.ref g, .tuple [d1, d2], rfl, .tup (SqT.of upd_same) (.cons (u B8.1) (.cons (u B8.2.1) .nil)), gd_tup (n := 19) (gc (gd_le gd1 (by decide)) (g1 (gd_le gd2 (by decide)))) (by show 2 ≤ 1000; decide), fun l r e _ H9 s9 => ?_, fun e => (by rw [isG] at e; cases e)⟩
      cases e
      have B9 := B8.same s9
      refine ⟨_, rfl, .ref o, .tuple [.str x, d1, d2], rfl, u B9.one, gd_le gone (by decide), fun n l r e _ H10 s10 => ?_, fun e => (by rw [isR] at e; cases e)⟩
      cases e
      have B10 := B9.same s10
      refine ⟨_, rfl, rfl, rfl, .ref o, .tuple [.str x, d1, d2], rfl, u B10.one, gd_le gone (by decide), fun n l r e _ H11 s11 => ?_, fun e => (by rw [isR] at e; cases e)⟩
      cases e
      refine ⟨(by show 3 ≤ sizeLine; decide), fun q1 nq1 => ?_⟩
      have s12 := same_upd (o := .lst [.str (gTxt d1 d2), .str (rTxt x d1 d2), .str (rTxt x d1 d2)]) nq1
      have A12 := s8.trans (s9.trans (s10.trans (s11.trans s12)))
      have hpt12 := A12 _ _ (upd_same (H := H6) (a := pt) (o := .lst [.str (gTxt d1 d2), .str (rTxt x d1 d2)]))
      refine ⟨_, rfl, _, rfl, _, rfl, pt, _, rfl, SqL.of hpt12, fun q2 nq2 => ?_⟩
      rw [show cutV [V.str (gTxt d1 d2), .str (rTxt x d1 d2)] (some 1) none = [.str (rTxt x d1 d2)] from cut_drop1 _]
      have s13 := same_upd (o := .lst [.str (rTxt x d1 d2)]) nq2
      refine ⟨pt, q2, _, _, rfl, rfl, s13 _ _ hpt12, upd_same, (by show 3 ≤ sizeLine; decide), fun q3 nq3 => ?_⟩
      have s14 := same_upd (o := .lst [.str (gTxt d1 d2), .str (rTxt x d1 d2), .str (rTxt x d1 d2)]) nq3
      have lg := gTxt_len tm1 tm2
      have lr := rTxt_len nmx tm1 tm2
      have gg : gd 0 (.str (gTxt d1 d2)) = true := goodT.gd ⟨by omega, lg.2⟩
      have gr : gd 0 (.str (rTxt x d1 d2)) = true := goodT.gd ⟨by omega, lr.2⟩
      refine ⟨.ref q1, .ref q3, .list [.str (gTxt d1 d2), .str (rTxt x d1 d2), .str (rTxt x d1 d2)], 1, rfl, .lst (SqL.of ((s13.trans s14) _ _ upd_same)) (.cons (.str _) (.cons (.str _) (.cons (.str _) .nil))), .lst (SqL.of upd_same) (.cons (.str _) (.cons (.str _) (.cons (.str _) .nil))), by decide, gd_lst (n := 0) (gc gg (gc gr (g1 gr))) (by show 3 ≤ 1000; decide), fun H15 s15 => ⟨_, rfl, iteF ?_⟩⟩
      have A15 := A12.trans (s13.trans (s14.trans s15))
      have B15 := B7.same A15
      have hs15 := hs4.same (A7.trans A15)
      have t15 := tabs_same t4 (A7.trans A15)
      have hpt15 := (s13.trans (s14.trans s15)) _ _ hpt12
      have ptL : ∀ b, b = pt → b ≠ a := fun b e z => by
        obtain ⟨_, _, _, _, e', _⟩ := hs15
        rw [← z, e, hpt15] at e'; cases e'
      -- changes
      refine ⟨_, rfl, a, L, ns, 3, rfl, hs15, by decide, by decide, fun H16 t tt0 tt3 hs16 off16 => ?_⟩
      have sm16 : SmX [a] H15 H16 := SmX.at off16 ma
      refine ⟨t, rfl, by omega, by omega, for_range (lo := 0) (n := t.toNat) (fun j σ Hj => ∃ (y7 y8 : Option V) (pj : Addr) (ts : List Str), σ = [some (.ref sc), some (.ref a), some (.int (0 + i)), some v1, some v2, some (.ref o), some (.ref pj), y7, y8, y9, y10, y11, y12, y13, y14, none] ∧ Src Hj a L ns ∧ LamX.Tabs (TT0 Pt) Hj ∧ Bag K a v1 v2 o d1 d2 x Hj ∧ Hj pj = some (.lst (ts.map V.str)) ∧ pj ≠ a ∧ ts.length = 2 ∧ ∀ y ∈ ts, y.length ≤ bnd7 j ∧ PyData.strOk y = true) ?_ ?_ ?_⟩
      · refine ⟨_, _, pt, [gTxt d1 d2, rTxt x d1 d2], rfl, hs16, tabs_smx t15 sm16 hs15.lst, B15.smx sm16, (off16 pt (ptL pt rfl)).trans hpt15, ptL pt rfl, rfl, fun y hy => ?_⟩
        simp only [List.mem_cons, List.not_mem_nil, or_false] at hy
        rcases hy with rfl | rfl
        · exact ⟨by show _ ≤ 381; omega, lg.2⟩
        · exact ⟨by show _ ≤ 381; omega, lr.2⟩
      · rintro j σ Hj hj ⟨z7, z8, pj, ts, rfl, hsj, tj, Bj, hpj, pja, lts, gts⟩
        obtain ⟨b1, b2⟩ := bnd7_up j (by omega)
        refine ⟨_, rfl, pj, rfl, ⟨_, SqL.of hpj⟩, fun D nD => lc_list (xs := ts.map V.str) (fun m Hm => Src Hm a L ns ∧ SmX [a] Hj Hm ∧ ∃ ys : List Str, Hm D = some (.lst (ys.map V.str)) ∧ ys.length = m ∧ ∀ y ∈ ys, y.length ≤ bnd7 (j + 1) ∧ PyData.strOk y = true) ?_ ?_ ?_ ?_⟩
        · exact ⟨hsj.new nD, SmX.new nD, [], upd_same, rfl, fun y hy => nomatch hy⟩
        · rintro m Hm _ ⟨hsm, smm, _⟩
          exact SqL.of (smm _ _ (fun z => pja (List.mem_singleton.mp z)) hpj)
        · rintro m y Hm hy ⟨hsm, smm, ys, hD, lys, gys⟩
          obtain ⟨tx, mtx, rfl⟩ := List.mem_map.mp (List.mem_of_getElem? hy)
          obtain ⟨g1', g2'⟩ := gts tx mtx
          have aD : a ≠ D := hsj.ne nD
          have LD : D ≠ L := fun z => by
            obtain ⟨_, _, _, _, _, e, _⟩ := hsj
            rw [← z, nD] at e; cases e
          have lm : m < 2 := by
            have := (List.getElem?_eq_some_iff.mp hy).1
            rw [List.length_map] at this; omega
          refine ⟨rfl, ?_⟩
          dsimp only [tYes]
          rw [if_pos rfl]
          refine ⟨_, rfl, _, rfl, a, L, ns, tx, rfl, hsm, by omega, g2', fun H17 yy ly oky hs17 off17 => ?_⟩
          have sm17 : SmX [a] Hm H17 := SmX.at off17 ma
          refine ⟨_, (off17 D aD.symm).trans hD, by rw [List.length_map]; exact small1000 (by omega), hs17.put aD.symm LD, fun b o' nb e => ?_, ys ++ [yy], ?_, by rw [List.length_append, List.length_singleton, lys], fun z hz => ?_⟩
          · rw [upd_ne (ne_of_none e nD)]; exact sm17 _ _ nb (smm _ _ nb e)
          · rw [upd_same, List.map_append]; rfl
          · rcases List.mem_append.mp hz with e | e
            · exact gys z e
            · rw [List.mem_singleton.mp e]; exact ⟨by omega, oky⟩
        · rintro Hm ⟨hsm, smm, ys, hD, lys, gys⟩
          rw [List.length_map, lts] at lys
          refine ⟨_, _, D, ys, rfl, hsm, tabs_smx tj smm hsj.lst, Bj.smx smm, hD, fun z => ?_, lys, gys⟩
          obtain ⟨_, _, _, _, e', _⟩ := hsm
          rw [← z, hD] at e'
          match ys, lys, e' with
          | [_, _], _, e' => cases e'
      · rintro σ Hj ⟨z7, z8, pj, ts, rfl, hsj, tj, Bj, hpj, pja, lts, gts⟩
        obtain ⟨t0, t1, rfl⟩ : ∃ t0 t1, ts = [t0, t1] := by
          match ts, lts with
          | [t0, t1], _ => exact ⟨t0, t1, rfl⟩
        have b3 := bnd7_le t.toNat (by omega)
        obtain ⟨k01, k02⟩ := gts t0 (List.mem_cons_self ..)
        obtain ⟨k11, k12⟩ := gts t1 (List.mem_cons_of_mem _ (List.mem_cons_self ..))
        have hpj' : Hj pj = some (.lst [.str t0, .str t1]) := hpj
        -- the law's reading
        refine ⟨_, rfl, pj, _, _, _, rfl, rfl, SqL.of hpj', at0, t0, [a], rfl, by omega, k02, hsj.trk, fun H20 w0 s20 ov0 => ?_⟩
        refine ⟨_, rfl, pj, _, _, _, rfl, rfl, SqL.of (s20 _ _ hpj'), atI_nat (j := 1) rfl, t1, [a], rfl, by omega, k12, (hsj.same s20).trk, fun H21 w1 s21 ov1 => ⟨(by show 2 ≤ sizeLine; decide), fun pr npr => ?_⟩⟩
        have s22 := same_upd (o := .lst [w0, w1]) npr
        have ov0' : Dp K (hide [a] (upd H21 pr (.lst [w0, w1]))) w0 (optD (prsGd t0)) := dp_same (SmX.of_same (s21.trans s22)).hid _ _ ov0.1
        have ov1' : Dp K (hide [a] (upd H21 pr (.lst [w0, w1]))) w1 (optD (prsRd t1)) := dp_same (SmX.of_same s22).hid _ _ ov1.1
        have A22 := s20.trans (s21.trans s22)
        -- what is due
        refine ⟨_, rfl, pr, rfl, ⟨_, SqL.of upd_same⟩, fun D nD => lc_list (xs := [w0, w1]) (fun m Hm => Same (upd H21 pr (.lst [w0, w1])) Hm ∧ ∃ vs, Hm D = some (.lst vs) ∧ DpAll K (hide [D] Hm) vs (([prsGd t0, prsRd t1].take m).map dueD)) ?_ ?_ ?_ ?_⟩
        · exact ⟨same_upd nD, [], upd_same, .nil⟩
        · rintro m Hm _ ⟨smm, _⟩
          exact SqL.of (smm _ _ upd_same)
        · rintro m y Hm hy ⟨smm, vs, hD, hA⟩
          have lm : m < 2 := (List.getElem?_eq_some_iff.mp hy).1
          have la := dpAll_len hA
          rw [List.length_map, List.length_take] at la
          obtain ⟨oo, hoo, hyo, hy1, hy2⟩ : ∃ oo, [prsGd t0, prsRd t1][m]? = some oo ∧ Dp K (hide [D] Hm) y (optD oo) ∧ (oo = none → y = .non) ∧ (∀ d, oo = some d → y ≠ .non) := by
            have hid : ∀ {v : V} {d : PyData}, Dp K (hide [a] (upd H21 pr (.lst [w0, w1]))) v d → Dp K (hide [D] Hm) v d := fun {v d} h => dp_same (fun b ob e => by
              have e1 := hide_same _ _ e
              have bD : b ∉ [D] := fun z => ne_of_none e1 nD (List.mem_singleton.mp z)
              rw [hide_ne bD]
              exact smm _ _ e1) _ _ h
            match m, lm, hy with
            | 0, _, hy => cases hy; exact ⟨_, rfl, hid ov0', ov0.2.1, ov0.2.2⟩
            | 1, _, hy => cases hy; exact ⟨_, rfl, hid ov1', ov1.2.1, ov1.2.2⟩
          have trkD : Trk [D] Hm := fun b hb => by rw [List.mem_singleton.mp hb]; exact ⟨_, hD⟩
          have step : ∀ (T : Addr) (xs : List V) (nT : Hm T = none), DpAll K (hide [D] Hm) xs (match dueD oo with | .tuple ds => ds | _ => []) → ∃ acc, (upd Hm T (.tup xs)) D = some (.lst acc) ∧ acc.length < sizeLine ∧ (Same (upd H21 pr (.lst [w0, w1])) (upd (upd Hm T (.tup xs)) D (.lst (acc ++ [.ref T]))) ∧ ∃ vs, (upd (upd Hm T (.tup xs)) D (.lst (acc ++ [.ref T]))) D = some (.lst vs) ∧ DpAll K (hide [D] (upd (upd Hm T (.tup xs)) D (.lst (acc ++ [.ref T])))) vs (([prsGd t0, prsRd t1].take (m + 1)).map dueD)) := fun T xs nT hx => by
            have sT := same_upd (o := .tup xs) nT
            refine ⟨vs, sT _ _ hD, by rw [la]; exact small1000 (by omega), fun b ob e => ?_, vs ++ [.ref T], upd_same, ?_⟩
            · rw [upd_ne (ne_of_none e nD)]; exact sT _ _ (smm _ _ e)
            · have sp : SmX [D] (upd Hm T (.tup xs)) (upd (upd Hm T (.tup xs)) D (.lst (vs ++ [.ref T]))) := SmX.put (SmX.refl _ _) (List.mem_singleton.mpr rfl)
              rw [List.take_add_one, hoo, List.map_append]
              refine dpAll_app (dpAll_same (hid_new nT |>.trans sp.hid) _ _ hA) (.cons ?_ .nil)
              have e : dueD oo = .tuple (match dueD oo with | .tuple ds => ds | _ => []) := by cases oo <;> rfl
              rw [e]
              exact .tup (same_seqT sp.hid (SqT.of (hid_at trkD nT))) (dpAll_same (hid_new nT |>.trans sp.hid) _ _ hx)
          refine ⟨rfl, ?_⟩
          dsimp only [tYes]
          rw [if_pos rfl]
          refine ⟨_, rfl, rfl, _, rfl, ?_⟩
          cases oo with
          | none =>
            have ey := hy1 rfl
            subst ey
            refine iteT ⟨(by show 2 ≤ sizeLine; decide), fun T nT => step T _ nT (.cons .non (.cons (.str _) .nil))⟩
          | some d =>
            rw [decide_eq_false (hy2 d rfl)]
            exact iteF ⟨_, rfl, (by show 2 ≤ sizeLine; decide), fun T nT => step T _ nT (.cons hyo (.cons (.str _) .nil))⟩
        · rintro H23 ⟨s23, vs, hD, hA⟩
          have hA' : DpAll K H23 vs [dueD (prsGd t0), dueD (prsRd t1)] := dpAll_same hide_same _ _ hA
          have A23 := A22.trans s23
          have DD : Dp K H23 (.ref D) (.list [dueD (prsGd t0), dueD (prsRd t1)]) := .lst (SqL.of hD) hA'
          have gdue : gd 12 (.list [dueD (prsGd t0), dueD (prsRd t1)]) = true := gd_lst (n := 11) (gc (dueD_gd fun d e => prsGd_gd e) (g1 (dueD_gd fun d e => prsRd_gd e))) (by show 2 ≤ 1000; decide)
          have B23 := Bj.same A23
          have hs23 := hsj.same A23
          have t23 := tabs_same tj A23
          have hpj23 := A23 _ _ hpj'
          refine ⟨fun σ' H' => ∃ y6 y7 y8 y9 y10 y11 y12 y13 y14 : Option V, σ' = [some (.ref sc), some (.ref a), some (.int (0 + i)), some v1, some v2, some (.ref o), y6, y7, y8, y9, y10, y11, y12, y13, y14, none] ∧ Src H' a L ns ∧ LamX.Tabs (TT0 Pt) H' ∧ Bag K a v1 v2 o d1 d2 x H', ?_, ?_⟩
          · -- the program's reading
            have trk0 : ∀ H : Hp, Trk [] H := fun H b hb => nomatch hb
            have last : ∀ (o0 o1 : Option PyData) (p0 p1 : Addr) (H27 : Hp), prsGd t0 = o0 → prsRd t1 = o1 → Dp K H27 (.ref p0) (dueD o0) → Dp K H27 (.ref p1) (dueD o1) → ∀ pq, H27 pq = none → Dp K (upd H27 pq (.lst [.ref p0, .ref p1])) (.ref pq) (.list [dueD (prsGd t0), dueD (prsRd t1)]) := fun o0 o1 p0 p1 H27 e0 e1 h0 h1 pq npq => by
              have sp := same_upd (o := .lst [.ref p0, .ref p1]) npq
              rw [e0, e1]
              exact .lst (SqL.of upd_same) (.cons (dp_same sp _ _ h0) (.cons (dp_same sp _ _ h1) .nil))
            cases eG : prsG t0 with
            | some lr0 =>
              obtain ⟨l0, r0⟩ := lr0
              cases eR : prsR t1 with
              | some lr1 =>
                obtain ⟨n1', l1', r1'⟩ := lr1
                refine ⟨t23, fun H24 eN1 T24 R1 E1 hR1 hE1 => ⟨_, rfl, pj, _, _, _, rfl, rfl, SqL.of (eN1 _ _ hpj23 (fun ps z => by cases z)), at0, t0, [], rfl, by omega, k02, trk0 _, ?_, ?_⟩⟩
                rotate_left
                · intro e; rw [eG] at e; cases e
                intro l r e H25 w25 s25 hw25
                rw [eG] at e
                cases e
                refine hR1 w25 H25 fun p0 np0 => ?_
                have x0 := same_upd (o := .tup [w25, .str ""]) np0
                have D0 : Dp K (upd H25 p0 (.tup [w25, .str ""])) (.ref p0) (dueD (some (.tuple [l0, r0]))) := .tup (SqT.of upd_same) (.cons (dp_same (hide_same.trans x0) _ _ hw25) (.cons (.str _) .nil))
                have X0 := s25.trans x0
                have hpjB := X0 _ _ (eN1 _ _ hpj23 (fun ps z => by cases z))
                refine ⟨tabs_same T24 X0, fun H26 eN2 T26 R2 E2 hR2 hE2 => ⟨_, rfl, pj, _, _, _, rfl, rfl, SqL.of (eN2 _ _ hpjB (fun ps z => by cases z)), atI_nat (j := 1) rfl, rfl, rfl, t1, [], rfl, by omega, k12, trk0 _, ?_, ?_⟩⟩
                rotate_left
                · intro e; rw [eR] at e; cases e
                intro n l r e H27 w27 s27 hw27
                rw [eR] at e
                cases e
                refine hR2 w27 H27 fun p1 np1 => ?_
                have x1 := same_upd (o := .tup [w27, .str ""]) np1
                have D1 : Dp K (upd H27 p1 (.tup [w27, .str ""])) (.ref p1) (dueD (some (.tuple [.str n1', l1', r1']))) := .tup (SqT.of upd_same) (.cons (dp_same (hide_same.trans x1) _ _ hw27) (.cons (.str _) .nil))
                have X1 := s27.trans x1
                refine ⟨(by show 2 ≤ sizeLine; decide), fun pq npq => ?_⟩
                have xq := same_upd (o := .lst [.ref p0, .ref p1]) npq
                have X2 := X1.trans xq
                refine ⟨_, rfl, .ref pq, .ref D, .list [dueD (prsGd t0), dueD (prsRd t1)], 12, rfl, last (some (.tuple [l0, r0])) (some (.tuple [.str n1', l1', r1'])) p0 p1 _ (by unfold prsGd; rw [eG]; rfl) (by unfold prsRd; rw [eR]; rfl) (dp_same X1 _ _ (dp_ext eN2 _ _ D0)) D1 pq npq, dp_same X2 _ _ (dp_ext eN2 _ _ (dp_same X0 _ _ (dp_ext eN1 _ _ DD))), by decide, gdue, fun H28 s28 => ⟨_, rfl, iteF ?_⟩⟩
                have X3 := X2.trans s28
                exact ⟨_, _, _, _, _, _, _, _, _, rfl, ((((hs23.ext eN1).same X0).ext eN2).same X3), tabs_same T26 X3, ((((B23.ext eN1).same X0).ext eN2).same X3)⟩
              | none =>
                refine ⟨t23, fun H24 eN1 T24 R1 E1 hR1 hE1 => ⟨_, rfl, pj, _, _, _, rfl, rfl, SqL.of (eN1 _ _ hpj23 (fun ps z => by cases z)), at0, t0, [], rfl, by omega, k02, trk0 _, ?_, ?_⟩⟩
                rotate_left
                · intro e; rw [eG] at e; cases e
                intro l r e H25 w25 s25 hw25
                rw [eG] at e
                cases e
                refine hR1 w25 H25 fun p0 np0 => ?_
                have x0 := same_upd (o := .tup [w25, .str ""]) np0
                have D0 : Dp K (upd H25 p0 (.tup [w25, .str ""])) (.ref p0) (dueD (some (.tuple [l0, r0]))) := .tup (SqT.of upd_same) (.cons (dp_same (hide_same.trans x0) _ _ hw25) (.cons (.str _) .nil))
                have X0 := s25.trans x0
                have hpjB := X0 _ _ (eN1 _ _ hpj23 (fun ps z => by cases z))
                refine ⟨tabs_same T24 X0, fun H26 eN2 T26 R2 E2 hR2 hE2 => ⟨_, rfl, pj, _, _, _, rfl, rfl, SqL.of (eN2 _ _ hpjB (fun ps z => by cases z)), atI_nat (j := 1) rfl, rfl, rfl, t1, [], rfl, by omega, k12, trk0 _, ?_, ?_⟩⟩
                · intro n l r e; rw [eR] at e; cases e
                intro _ H27 dd1 s27 hdd1
                refine hE2 CX' dd1 H27 _ _ exX xfX fnX hdd1 rfl fun p1 np1 => ?_
                have x1 := same_upd (o := .tup [.non, .str "InvalidText"]) np1
                have D1 : Dp K (upd H27 p1 (.tup [.non, .str "InvalidText"])) (.ref p1) (dueD none) := .tup (SqT.of upd_same) (.cons .non (.cons (.str _) .nil))
                have X1 := s27.trans x1
                refine ⟨(by show 2 ≤ sizeLine; decide), fun pq npq => ?_⟩
                have xq := same_upd (o := .lst [.ref p0, .ref p1]) npq
                have X2 := X1.trans xq
                refine ⟨_, rfl, .ref pq, .ref D, .list [dueD (prsGd t0), dueD (prsRd t1)], 12, rfl, last (some (.tuple [l0, r0])) none p0 p1 _ (by unfold prsGd; rw [eG]; rfl) (by unfold prsRd; rw [eR]; rfl) (dp_same X1 _ _ (dp_ext eN2 _ _ D0)) D1 pq npq, dp_same X2 _ _ (dp_ext eN2 _ _ (dp_same X0 _ _ (dp_ext eN1 _ _ DD))), by decide, gdue, fun H28 s28 => ⟨_, rfl, iteF ?_⟩⟩
                have X3 := X2.trans s28
                exact ⟨_, _, _, _, _, _, _, _, _, rfl, ((((hs23.ext eN1).same X0).ext eN2).same X3), tabs_same T26 X3, ((((B23.ext eN1).same X0).ext eN2).same X3)⟩
            | none =>
              cases eR : prsR t1 with
              | some lr1 =>
                obtain ⟨n1', l1', r1'⟩ := lr1
                refine ⟨t23, fun H24 eN1 T24 R1 E1 hR1 hE1 => ⟨_, rfl, pj, _, _, _, rfl, rfl, SqL.of (eN1 _ _ hpj23 (fun ps z => by cases z)), at0, t0, [], rfl, by omega, k02, trk0 _, ?_, ?_⟩⟩
                · intro l r e; rw [eG] at e; cases e
                intro _ H25 dd0 s25 hdd0
                refine hE1 CX' dd0 H25 _ _ exX xfX fnX hdd0 rfl fun p0 np0 => ?_
                have x0 := same_upd (o := .tup [.non, .str "InvalidText"]) np0
                have D0 : Dp K (upd H25 p0 (.tup [.non, .str "InvalidText"])) (.ref p0) (dueD none) := .tup (SqT.of upd_same) (.cons .non (.cons (.str _) .nil))
                have X0 := s25.trans x0
                have hpjB := X0 _ _ (eN1 _ _ hpj23 (fun ps z => by cases z))
                refine ⟨tabs_same T24 X0, fun H26 eN2 T26 R2 E2 hR2 hE2 => ⟨_, rfl, pj, _, _, _, rfl, rfl, SqL.of (eN2 _ _ hpjB (fun ps z => by cases z)), atI_nat (j := 1) rfl, rfl, rfl, t1, [], rfl, by omega, k12, trk0 _, ?_, ?_⟩⟩
                rotate_left
                · intro e; rw [eR] at e; cases e
                intro n l r e H27 w27 s27 hw27
                rw [eR] at e
                cases e
                refine hR2 w27 H27 fun p1 np1 => ?_
                have x1 := same_upd (o := .tup [w27, .str ""]) np1
                have D1 : Dp K (upd H27 p1 (.tup [w27, .str ""])) (.ref p1) (dueD (some (.tuple [.str n1', l1', r1']))) := .tup (SqT.of upd_same) (.cons (dp_same (hide_same.trans x1) _ _ hw27) (.cons (.str _) .nil))
                have X1 := s27.trans x1
                refine ⟨(by show 2 ≤ sizeLine; decide), fun pq npq => ?_⟩
                have xq := same_upd (o := .lst [.ref p0, .ref p1]) npq
                have X2 := X1.trans xq
                refine ⟨_, rfl, .ref pq, .ref D, .list [dueD (prsGd t0), dueD (prsRd t1)], 12, rfl, last none (some (.tuple [.str n1', l1', r1'])) p0 p1 _ (by unfold prsGd; rw [eG]; rfl) (by unfold prsRd; rw [eR]; rfl) (dp_same X1 _ _ (dp_ext eN2 _ _ D0)) D1 pq npq, dp_same X2 _ _ (dp_ext eN2 _ _ (dp_same X0 _ _ (dp_ext eN1 _ _ DD))), by decide, gdue, fun H28 s28 => ⟨_, rfl, iteF ?_⟩⟩
                have X3 := X2.trans s28
                exact ⟨_, _, _, _, _, _, _, _, _, rfl, ((((hs23.ext eN1).same X0).ext eN2).same X3), tabs_same T26 X3, ((((B23.ext eN1).same X0).ext eN2).same X3)⟩
              | none =>
                refine ⟨t23, fun H24 eN1 T24 R1 E1 hR1 hE1 => ⟨_, rfl, pj, _, _, _, rfl, rfl, SqL.of (eN1 _ _ hpj23 (fun ps z => by cases z)), at0, t0, [], rfl, by omega, k02, trk0 _, ?_, ?_⟩⟩
                · intro l r e; rw [eG] at e; cases e
                intro _ H25 dd0 s25 hdd0
                refine hE1 CX' dd0 H25 _ _ exX xfX fnX hdd0 rfl fun p0 np0 => ?_
                have x0 := same_upd (o := .tup [.non, .str "InvalidText"]) np0
                have D0 : Dp K (upd H25 p0 (.tup [.non, .str "InvalidText"])) (.ref p0) (dueD none) := .tup (SqT.of upd_same) (.cons .non (.cons (.str _) .nil))
                have X0 := s25.trans x0
                have hpjB := X0 _ _ (eN1 _ _ hpj23 (fun ps z => by cases z))
                refine ⟨tabs_same T24 X0, fun H26 eN2 T26 R2 E2 hR2 hE2 => ⟨_, rfl, pj, _, _, _, rfl, rfl, SqL.of (eN2 _ _ hpjB (fun ps z => by cases z)), atI_nat (j := 1) rfl, rfl, rfl, t1, [], rfl, by omega, k12, trk0 _, ?_, ?_⟩⟩
                · intro n l r e; rw [eR] at e; cases e
                intro _ H27 dd1 s27 hdd1
                refine hE2 CX' dd1 H27 _ _ exX xfX fnX hdd1 rfl fun p1 np1 => ?_
                have x1 := same_upd (o := .tup [.non, .str "InvalidText"]) np1
                have D1 : Dp K (upd H27 p1 (.tup [.non, .str "InvalidText"])) (.ref p1) (dueD none) := .tup (SqT.of upd_same) (.cons .non (.cons (.str _) .nil))
                have X1 := s27.trans x1
                refine ⟨(by show 2 ≤ sizeLine; decide), fun pq npq => ?_⟩
                have xq := same_upd (o := .lst [.ref p0, .ref p1]) npq
                have X2 := X1.trans xq
                refine ⟨_, rfl, .ref pq, .ref D, .list [dueD (prsGd t0), dueD (prsRd t1)], 12, rfl, last none none p0 p1 _ (by unfold prsGd; rw [eG]; rfl) (by unfold prsRd; rw [eR]; rfl) (dp_same X1 _ _ (dp_ext eN2 _ _ D0)) D1 pq npq, dp_same X2 _ _ (dp_ext eN2 _ _ (dp_same X0 _ _ (dp_ext eN1 _ _ DD))), by decide, gdue, fun H28 s28 => ⟨_, rfl, iteF ?_⟩⟩
                have X3 := X2.trans s28
                exact ⟨_, _, _, _, _, _, _, _, _, rfl, ((((hs23.ext eN1).same X0).ext eN2).same X3), tabs_same T26 X3, ((((B23.ext eN1).same X0).ext eN2).same X3)⟩
          · rintro σ' H30 ⟨z6, z7, z8, z9, z10, z11, z12, z13, z14, rfl, hs30, t30, B30⟩
            -- an odd value
            refine ⟨_, rfl, _, rfl, a, L, ns, v1, [a], rfl, hs30, ⟨d1, B30.1, tm_gd tm1 9 (by decide)⟩, ma, hs30.trk, fun H31 vo gno hs31 sm31 => ?_⟩
            have B31 := B30.smx sm31
            have t31 := tabs_smx t30 sm31 hs30.lst
            obtain ⟨dn, hn1, hn2, hn3⟩ := gno
            have tmn := tm_no hn3
            have gdn := gd_le hn2 (show 12 ≤ 17 by decide)
            -- what is no goal
            refine ⟨_, rfl, _, rfl, (by show 2 ≤ sizeLine; decide), fun g1a n1a => ?_⟩
            have r1 := same_upd (o := .tup [v1, vo]) n1a
            refine ⟨_, rfl, _, rfl, (by show 2 ≤ sizeLine; decide), fun g2a n2a => ?_⟩
            have r2 := same_upd (o := .tup [vo, v1]) n2a
            refine ⟨_, rfl, (by show 1 ≤ sizeLine; decide), fun g3a n3a => ?_⟩
            have r3 := same_upd (o := .tup [v1]) n3a
            refine ⟨_, rfl, _, rfl, (by show 2 ≤ sizeLine; decide), fun g4a n4a => ?_⟩
            have r4 := same_upd (o := .lst [v1, v2]) n4a
            refine ⟨_, rfl, _, rfl, _, rfl, (by show 3 ≤ sizeLine; decide), fun g5a n5a => ?_⟩
            have r5 := same_upd (o := .tup [v1, v2, v2]) n5a
            refine ⟨_, rfl, (by show 7 ≤ sizeLine; decide), fun pl npl => ?_⟩
            have r6 := same_upd (o := .lst [.ref g1a, .ref g2a, .ref g3a, .ref g4a, .ref g5a, .non, v1]) npl
            have hsA := hs31.same r1
            have hsB := hsA.same r2
            have hsC := hsB.same r3
            have hsD := hsC.same r4
            have R5 := r1.trans (r2.trans (r3.trans (r4.trans r5)))
            have R6 := R5.trans r6
            have B36 := B31.same R6
            have hs36 := hs31.same R6
            have hno : ∀ {H' : Hp}, Same H31 H' → Dp K (hide [a] H') vo dn := fun s => dp_same (SmX.of_same s).hid _ _ hn1
            have q1 := ng_tup hs31.trk n1a (.cons B31.1 (.cons hn1 .nil)) (gc gd1 (g1 gdn)) (by show 2 ≤ 1000; decide)
            have e1 := NG.same (v := .ref g1a) ⟨_, q1.1, q1.2, (by show (tmB d1 && tmB dn) = false; rw [tmn, Bool.and_false])⟩ (SmX.of_same (r2.trans (r3.trans (r4.trans (r5.trans r6)))))
            have q2 := ng_tup hsA.trk n2a (.cons (hno r1) (.cons (B31.same r1).1 .nil)) (gc gdn (g1 gd1)) (by show 2 ≤ 1000; decide)
            have e2 := NG.same (v := .ref g2a) ⟨_, q2.1, q2.2, (by show (tmB dn && tmB d1) = false; rw [tmn, Bool.false_and])⟩ (SmX.of_same (r3.trans (r4.trans (r5.trans r6))))
            have q3 := ng_tup hsB.trk n3a (.cons (B31.same (r1.trans r2)).1 .nil) (g1 gd1) (by show 1 ≤ 1000; decide)
            have e3 := NG.same (v := .ref g3a) ⟨_, q3.1, q3.2, rfl⟩ (SmX.of_same (r4.trans (r5.trans r6)))
            have Bc := B31.same (r1.trans (r2.trans r3))
            have q4 := ng_lst hsC.trk n4a (.cons Bc.1 (.cons Bc.2.1 .nil)) (gc gd1 (g1 gd2)) (by show 2 ≤ 1000; decide)
            have e4 := NG.same (v := .ref g4a) ⟨_, q4.1, q4.2, rfl⟩ (SmX.of_same (r5.trans r6))
            have Bd := B31.same (r1.trans (r2.trans (r3.trans r4)))
            have q5 := ng_tup hsD.trk n5a (.cons Bd.1 (.cons Bd.2.1 (.cons Bd.2.1 .nil))) (gc gd1 (gc gd2 (g1 gd2))) (by show 3 ≤ 1000; decide)
            have e5 := NG.same (v := .ref g5a) ⟨_, q5.1, q5.2, rfl⟩ (SmX.of_same r6)
            have e7 := (⟨d1, B36.1, tm_gd tm1 18 (by decide), tm_noGl tm1⟩ : NG K a _ v1)
            have bad := all_cons (P := NG K a _) e1 (all_cons e2 (all_cons e3 (all_cons e4 (all_cons e5 (all_cons (x := .non) ⟨_, .non, rfl, rfl⟩ (all_cons e7 all_nil))))))
            have pla : pl ≠ a := fun z => (hs31.same R5).ne npl z.symm
            have plL : pl ≠ L := fun z => by
              obtain ⟨_, _, _, _, _, e, _⟩ := hs31.same R5
              rw [← z, npl] at e; cases e
            refine ⟨tabs_same t31 R6, fun H40 eN T40 R E hR hE => ⟨_, rfl, _, rfl, a, L, pl, ns, _, rfl, hs36.ext eN, pla, eN _ _ upd_same (fun ps z => by cases z), (by show 0 < 7; decide), (by show 7 ≤ 1000; decide), fun H41 vb mb hs41 off41 => ?_⟩⟩
            have sm41 : SmX [a] H40 H41 := SmX.at off41 ma
            obtain ⟨db, hb1, hb2, hb3⟩ := bad vb mb
            have B41 := (B36.ext eN).smx sm41
            have T41 := tabs_smx T40 sm41 (hs36.ext eN).lst
            have hno41 : Dp K (hide [a] H41) vo dn := dp_same sm41.hid _ _ (dp_ext (ext_hide eN) _ _ (hno R6))
            refine ⟨vb, db, rfl, u (dp_same sm41.hid _ _ (dp_ext (ext_hide eN) _ _ hb1)), gd_le hb2 (by decide), fun l r e hG => (by rw [hb3] at hG; cases hG), fun _ H42 dd s42 hdd => hE CG dd H42 _ _ exG xfG fnG hdd rfl fun p43 n43 => ?_⟩
            have s43 := same_upd (o := .tup [.non, .str "InvalidGoal"]) n43
            refine ⟨(by show 2 ≤ sizeLine; decide), fun p44 n44 => ?_⟩
            have s44 := same_upd (o := .tup [.non, .str "InvalidGoal"]) n44
            refine ⟨.tuple [.none, .str "InvalidGoal"], .tuple [.none, .str "InvalidGoal"], .tup (SqT.of (s44 _ _ upd_same)) (.cons .non (.cons (.str _) .nil)), .tup (SqT.of upd_same) (.cons .non (.cons (.str _) .nil)), by decide +kernel, by decide +kernel, _, rfl, ?_⟩
            rw [show (!PyData.eqv (.tuple [.none, .str "InvalidGoal"]) (.tuple [.none, .str "InvalidGoal"])) = false from by decide +kernel]
            refine iteF ?_
            have S44 := s42.trans (s43.trans s44)
            have B44 := B41.same S44
            have hs44 := hs41.same S44
            have t44 := tabs_same T41 S44
            have ho44 : Dp K (hide [a] _) vo dn := dp_same (SmX.of_same S44).hid _ _ hno41
            generalize upd (upd H42 p43 (.tup [.non, .str "InvalidGoal"])) p44 (.tup [.non, .str "InvalidGoal"]) = H44 at *
            -- what is no rule
            have one : ∀ {H' : Hp}, Same H44 H' → SqT K H' o [.str x, v1, v2] := fun s => same_seqT (hide_same.trans s) B44.2.2
            have hoS : ∀ {H' : Hp}, Same H44 H' → Dp K (hide [a] H') vo dn := fun s => dp_same (SmX.of_same s).hid _ _ ho44
            refine ⟨_, rfl, _, rfl, (by show 3 ≤ sizeLine; decide), fun b1a m1a => ?_⟩
            have r1' := same_upd (o := .tup [.str "", v1, v2]) m1a
            refine ⟨_, rfl, _, rfl, (by show 3 ≤ sizeLine; decide), fun b2a m2a => ?_⟩
            have r2' := same_upd (o := .tup [.str "Ab", v1, v2]) m2a
            have R2 := r1'.trans r2'
            refine ⟨_, rfl, _, rfl, (by show 3 ≤ sizeLine; decide), fun b3a m3a => ?_⟩
            have r3' := same_upd (o := .tup [.str "abcdefg", v1, v2]) m3a
            have R3 := R2.trans r3'
            refine ⟨_, rfl, o, _, _, _, rfl, rfl, one R3, at0, _, rfl, _, rfl, (by show 3 ≤ sizeLine; decide), fun b4a m4a => ?_⟩
            have r4' := same_upd (o := .tup [.str x, vo, v2]) m4a
            have R4 := R3.trans r4'
            refine ⟨_, rfl, o, _, _, _, rfl, rfl, one R4, at0, _, rfl, (by show 2 ≤ sizeLine; decide), fun b5a m5a => ?_⟩
            have r5' := same_upd (o := .tup [.str x, v1]) m5a
            have R5' := R4.trans r5'
            refine ⟨(by show 5 ≤ sizeLine; decide), fun l1 nl1 => ?_⟩
            have r6' := same_upd (o := .lst [.ref b1a, .ref b2a, .ref b3a, .ref b4a, .ref b5a]) nl1
            have R6' := R5'.trans r6'
            refine ⟨_, rfl, _, rfl, o, _, rfl, .inr (one R6'), fun b6a m6a => ?_⟩
            have r7 := same_upd (o := .lst [.str x, v1, v2]) m6a
            have R7 := R6'.trans r7
            refine ⟨_, rfl, _, rfl, (by show 3 ≤ sizeLine; decide), fun b7a m7a => ?_⟩
            have r8 := same_upd (o := .tup [.int 3, v1, v2]) m7a
            have R8 := R7.trans r8
            refine ⟨_, rfl, o, _, _, _, rfl, rfl, one R8, at0, _, rfl, _, rfl, _, rfl, (by show 4 ≤ sizeLine; decide), fun b8a m8a => ?_⟩
            have r9 := same_upd (o := .tup [.str x, v1, v2, v2]) m8a
            have R9 := R8.trans r9
            refine ⟨_, rfl, o, _, _, _, rfl, rfl, one R9, at0, _, rfl, _, rfl, (by show 3 ≤ sizeLine; decide), fun b9a m9a => ?_⟩
            have r10 := same_upd (o := .tup [.str x, v1, vo]) m9a
            have R10 := R9.trans r10
            refine ⟨(by show 5 ≤ sizeLine; decide), fun l2 nl2 => ?_⟩
            have r11 := same_upd (o := .lst [.ref b6a, .ref b7a, .ref b8a, .ref b9a, .non]) nl2
            have R11 := R10.trans r11
            refine ⟨l1, l2, _, _, rfl, rfl, (r7.trans (r8.trans (r9.trans (r10.trans r11)))) _ _ upd_same, upd_same, (by show 10 ≤ sizeLine; decide), fun l3 nl3 => ?_⟩
            have r12 := same_upd (o := .lst ([.ref b1a, .ref b2a, .ref b3a, .ref b4a, .ref b5a] ++ [.ref b6a, .ref b7a, .ref b8a, .ref b9a, .non])) nl3
            have R12 := R11.trans r12
            have hs56 := hs44.same R12
            have f1 := ng_tup hs44.trk m1a (.cons (.str "") (.cons B44.1 (.cons B44.2.1 .nil))) (gc (by decide +kernel) (gc gd1 (g1 gd2))) (by show 3 ≤ 1000; decide)
            have x1 := NR.same (v := .ref b1a) ⟨_, f1.1, f1.2, rfl⟩ (SmX.of_same (r2'.trans (r3'.trans (r4'.trans (r5'.trans (r6'.trans (r7.trans (r8.trans (r9.trans (r10.trans (r11.trans r12)))))))))))
            have Bb := B44.same r1'
            have f2 := ng_tup (hs44.same r1').trk m2a (.cons (.str "Ab") (.cons Bb.1 (.cons Bb.2.1 .nil))) (gc (by decide +kernel) (gc gd1 (g1 gd2))) (by show 3 ≤ 1000; decide)
            have x2 := NR.same (v := .ref b2a) ⟨_, f2.1, f2.2, (by show (nmS "Ab" && (tmB d1 && tmB d2)) = false; rw [show nmS "Ab" = false from by decide +kernel]; rfl)⟩ (SmX.of_same (r3'.trans (r4'.trans (r5'.trans (r6'.trans (r7.trans (r8.trans (r9.trans (r10.trans (r11.trans r12))))))))))
            have Bc' := B44.same R2
            have f3 := ng_tup (hs44.same R2).trk m3a (.cons (.str "abcdefg") (.cons Bc'.1 (.cons Bc'.2.1 .nil))) (gc (by decide +kernel) (gc gd1 (g1 gd2))) (by show 3 ≤ 1000; decide)
            have x3 := NR.same (v := .ref b3a) ⟨_, f3.1, f3.2, (by show (nmS "abcdefg" && (tmB d1 && tmB d2)) = false; rw [show nmS "abcdefg" = false from by decide +kernel]; rfl)⟩ (SmX.of_same (r4'.trans (r5'.trans (r6'.trans (r7.trans (r8.trans (r9.trans (r10.trans (r11.trans r12)))))))))
            have Bd' := B44.same R3
            have f4 := ng_tup (hs44.same R3).trk m4a (.cons (.str x) (.cons (hoS R3) (.cons Bd'.2.1 .nil))) (gc (gx 17) (gc gdn (g1 gd2))) (by show 3 ≤ 1000; decide)
            have x4 := NR.same (v := .ref b4a) ⟨_, f4.1, f4.2, (by show (nmS x && (tmB dn && tmB d2)) = false; rw [tmn, Bool.false_and, Bool.and_false])⟩ (SmX.of_same (r5'.trans (r6'.trans (r7.trans (r8.trans (r9.trans (r10.trans (r11.trans r12))))))))
            have Be' := B44.same R4
            have f5 := ng_tup (hs44.same R4).trk m5a (.cons (.str x) (.cons Be'.1 .nil)) (gc (gx 17) (g1 gd1)) (by show 2 ≤ 1000; decide)
            have x5 := NR.same (v := .ref b5a) ⟨_, f5.1, f5.2, rfl⟩ (SmX.of_same (r6'.trans (r7.trans (r8.trans (r9.trans (r10.trans (r11.trans r12)))))))
            have Bf' := B44.same R6'
            have f6 := ng_lst (hs44.same R6').trk m6a (.cons (.str x) (.cons Bf'.1 (.cons Bf'.2.1 .nil))) (gc (gx 17) (gc gd1 (g1 gd2))) (by show 3 ≤ 1000; decide)
            have x6 := NR.same (v := .ref b6a) ⟨_, f6.1, f6.2, rfl⟩ (SmX.of_same (r8.trans (r9.trans (r10.trans (r11.trans r12)))))
            have Bg' := B44.same R7
            have f7 := ng_tup (hs44.same R7).trk m7a (.cons (.int 3) (.cons Bg'.1 (.cons Bg'.2.1 .nil))) (gc rfl (gc gd1 (g1 gd2))) (by show 3 ≤ 1000; decide)
            have x7 := NR.same (v := .ref b7a) ⟨_, f7.1, f7.2, rfl⟩ (SmX.of_same (r9.trans (r10.trans (r11.trans r12))))
            have Bh' := B44.same R8
            have f8 := ng_tup (hs44.same R8).trk m8a (.cons (.str x) (.cons Bh'.1 (.cons Bh'.2.1 (.cons Bh'.2.1 .nil)))) (gc (gx 17) (gc gd1 (gc gd2 (g1 gd2)))) (by show 4 ≤ 1000; decide)
            have x8 := NR.same (v := .ref b8a) ⟨_, f8.1, f8.2, rfl⟩ (SmX.of_same (r10.trans (r11.trans r12)))
            have Bi' := B44.same R9
            have f9 := ng_tup (hs44.same R9).trk m9a (.cons (.str x) (.cons Bi'.1 (.cons (hoS R9) .nil))) (gc (gx 17) (gc gd1 (g1 gdn))) (by show 3 ≤ 1000; decide)
            have x9 := NR.same (v := .ref b9a) ⟨_, f9.1, f9.2, (by show (nmS x && (tmB d1 && tmB dn)) = false; rw [tmn, Bool.and_false, Bool.and_false])⟩ (SmX.of_same (r11.trans r12))
            have badR := all_cons (P := NR K a _) x1 (all_cons x2 (all_cons x3 (all_cons x4 (all_cons x5 (all_cons x6 (all_cons x7 (all_cons x8 (all_cons x9 (all_cons (x := .non) ⟨_, .non, rfl, rfl⟩ all_nil)))))))))
            have l3a : l3 ≠ a := fun z => (hs44.same R11).ne nl3 z.symm
            refine ⟨_, rfl, _, rfl, a, L, l3, ns, _, rfl, hs56, l3a, upd_same, (by show 0 < 10; decide), (by show 10 ≤ 1000; decide), fun H57 vb' mb' hs57 off57 => ?_⟩
            have sm57 : SmX [a] _ H57 := SmX.at off57 ma
            obtain ⟨db', hb1', hb2', hb3'⟩ := badR vb' mb'
            have t57 := tabs_smx (tabs_same t44 R12) sm57 hs56.lst
            have hb57 := dp_same sm57.hid _ _ hb1'
            -- its index
            refine ⟨t57, fun H60 eN' T60 R' E' hR' hE' => ⟨_, rfl, vb', db', rfl, u (dp_ext (ext_hide eN') _ _ hb57), gd_le hb2' (by decide), fun n l r e hG => (by rw [hb3'] at hG; cases hG), fun _ H61 dd' s61 hdd' => hE' CR dd' H61 _ _ exR xfR fnR hdd' rfl ?_⟩⟩
            refine ⟨_, _, .int 0, 1, rfl, .int 0, .int 0, by decide, rfl, fun H62 s62 => ⟨_, rfl, iteF ?_⟩⟩
            exact ⟨_, _, _, _, _, _, _, _, _, _, _, _, _, rfl, (hs57.ext eN').same (s61.trans s62), tabs_same T60 (s61.trans s62)⟩
    · rintro σ Hi ⟨y2, y3, y4, y5, y6, y7, y8, y9, y10, y11, y12, y13, y14, rfl, hsi, ti⟩
      refine ⟨(by show 9 ≤ sizeLine; decide), fun pw npw => ?_⟩
      have hpw : (upd Hi pw (.lst (wds.map V.str))) pw = some (.lst (wds.map V.str)) := upd_same
      refine ⟨_, rfl, pw, rfl, ⟨_, SqL.of hpw⟩, fun D nD => lc_list (xs := wds.map V.str) (fun j Hj => Same (upd Hi pw (.lst (wds.map V.str))) Hj ∧ Hj D = some (.lst (((wds.take j).map nmS).map V.bl))) ?_ ?_ ?_ ?_⟩
      · exact ⟨same_upd nD, by rw [upd_same]; rfl⟩
      · rintro j Hj _ ⟨sj, _⟩
        exact SqL.of (sj _ _ hpw)
      · rintro j y Hj hy ⟨sj, hD⟩
        obtain ⟨z, hz, rfl⟩ : ∃ z, wds[j]? = some z ∧ V.str z = y := by
          rw [List.getElem?_map] at hy
          cases hv : wds[j]? with
          | none => rw [hv] at hy; cases hy
          | some z => rw [hv] at hy; exact ⟨z, rfl, Option.some.inj hy⟩
        refine ⟨rfl, ?_⟩
        dsimp only [tYes]
        rw [if_pos rfl]
        refine ⟨_, rfl, _, .str z, rfl, .str z, (wds_ok z (List.mem_of_getElem? hz)).2, fun H1 s1 => ⟨_, s1 _ _ hD, ?_, fun b o e => ?_, ?_⟩⟩
        · rw [List.length_map, List.length_map, List.length_take]; exact small1000 (by have : wds.length = 9 := rfl; omega)
        · rw [upd_ne (ne_of_none e nD)]; exact s1 _ _ (sj _ _ e)
        · rw [upd_same, List.take_add_one, hz, List.map_append, List.map_append]; rfl
      · rintro H1 ⟨s1, hD⟩
        rw [List.length_map, List.take_length] at hD
        have hpw1 := s1 _ _ hpw
        refine ⟨_, rfl, pw, rfl, ⟨_, SqL.of hpw1⟩, fun D2 nD2 => lc_list (xs := wds.map V.str) (fun j Hj => Same H1 Hj ∧ Hj D2 = some (.lst (((wds.take j).map nmS).map V.bl))) ?_ ?_ ?_ ?_⟩
        · exact ⟨same_upd nD2, by rw [upd_same]; rfl⟩
        · rintro j Hj _ ⟨sj, _⟩
          exact SqL.of (sj _ _ hpw1)
        · rintro j y Hj hy ⟨sj, hD2⟩
          obtain ⟨z, hz, rfl⟩ : ∃ z, wds[j]? = some z ∧ V.str z = y := by
            rw [List.getElem?_map] at hy
            cases hv : wds[j]? with
            | none => rw [hv] at hy; cases hy
            | some z => rw [hv] at hy; exact ⟨z, rfl, Option.some.inj hy⟩
          refine ⟨rfl, ?_⟩
          dsimp only [tYes]
          rw [if_pos rfl]
          refine ⟨_, rfl, z, rfl, (wds_ok z (List.mem_of_getElem? hz)).1, fun H2 s2 => ⟨_, s2 _ _ hD2, ?_, fun b o e => ?_, ?_⟩⟩
          · rw [List.length_map, List.length_map, List.length_take]; exact small1000 (by have : wds.length = 9 := rfl; omega)
          · rw [upd_ne (ne_of_none e nD2)]; exact s2 _ _ (sj _ _ e)
          · rw [upd_same, List.take_add_one, hz, List.map_append, List.map_append]; rfl
        · rintro H2 ⟨s2, hD2⟩
          rw [List.length_map, List.take_length] at hD2
          have dpb : ∀ {H : Hp} (bs : List Bool), DpAll K H (bs.map V.bl) (bs.map PyData.bool) := fun {H} bs => by
            induction bs with
            | nil => exact .nil
            | cons b bs ih => exact .cons (.bl b) ih
          refine ⟨.ref D, .ref D2, .list ((wds.map nmS).map PyData.bool), 1, rfl, .lst (SqL.of (s2 _ _ hD)) (dpb _), .lst (SqL.of hD2) (dpb _), by decide, gd_lst (n := 0) (fun z hz => ?_) (by show 9 ≤ 1000; decide), fun H3 s3 => q _⟩
          obtain ⟨b, _, rfl⟩ := List.mem_map.mp hz
          rfl
end
end Fv


namespace Fv
open PySem PySem.Spec PyProof.Rows L2 FvX
abbrev s_InvalidText : Stmt := inClass (topS 2) 0
def q_InvalidText : ErrPos := { p0 := ⟨7, 8, 7, 13⟩, p1 := ⟨7, 8, 7, 15⟩, p2 := ⟨7, 8, 7, 24⟩, p3 := ⟨7, 25, 7, 63⟩, p4 := ⟨7, 8, 7, 64⟩, p5 := ⟨7, 8, 7, 64⟩, p6 := ⟨8, 8, 8, 12⟩, p7 := ⟨8, 8, 8, 17⟩, p8 := ⟨8, 20, 8, 33⟩, p9 := ⟨8, 8, 8, 33⟩, pp := ⟨6, 17, 6, 21⟩ }
abbrev s_InvalidGoal : Stmt := inClass (topS 4) 0
def q_InvalidGoal : ErrPos := { p0 := ⟨18, 8, 18, 13⟩, p1 := ⟨18, 8, 18, 15⟩, p2 := ⟨18, 8, 18, 24⟩, p3 := ⟨18, 25, 18, 58⟩, p4 := ⟨18, 8, 18, 59⟩, p5 := ⟨18, 8, 18, 59⟩, p6 := ⟨19, 8, 19, 12⟩, p7 := ⟨19, 8, 19, 17⟩, p8 := ⟨19, 20, 19, 33⟩, p9 := ⟨19, 8, 19, 33⟩, pp := ⟨17, 17, 17, 21⟩ }
abbrev s_InvalidRules : Stmt := inClass (topS 3) 0
def me_InvalidRules : Expr := match defBody s_InvalidRules with
  | .Expr (.Call _ [e] _ _) _ :: _ => e
  | _ => .Constant .none 0 ⟨0, 0, 0, 0⟩
def q_InvalidRules : ErrPos1 := { p0 := ⟨12, 8, 12, 13⟩, p1 := ⟨12, 8, 12, 15⟩, p2 := ⟨12, 8, 12, 24⟩, p4 := ⟨12, 8, 12, 71⟩, p5 := ⟨12, 8, 12, 71⟩, p6 := ⟨13, 8, 13, 12⟩, p7 := ⟨13, 8, 13, 17⟩, p8 := ⟨13, 20, 13, 34⟩, p9 := ⟨13, 8, 13, 34⟩, p10 := ⟨14, 8, 14, 12⟩, p11 := ⟨14, 8, 14, 18⟩, p12 := ⟨14, 21, 14, 26⟩, p13 := ⟨14, 8, 14, 26⟩, pp := ⟨11, 17, 11, 21⟩, pp2 := ⟨11, 23, 11, 28⟩ }
theorem hme_InvalidRules : ∀ u, MsgV u → MsgOk me_InvalidRules "index" u := fun u hu => (msg2 (pre := "the rules are wrong at the index ") (by decide +kernel) hu : MsgOk me_InvalidRules "index" u)
theorem kw_all {K : PySem.W.Frag} {D : Addr} {kws : List (Str × V)} (h : ∀ q ∈ kws, ∃ u, PySem.W.nsIn K D q.1 = some (some u) ∧ RelV q.2 u) : ∀ q ∈ kws, ∃ u, PySem.W.nsIn K D q.1 = some (some u) ∧ RelV q.2 u := h
set_option maxHeartbeats 8000000 in
theorem all_mk {l : PySem.W.OpenLaw} {w : World} {K : PySem.W.Frag} {h : Heap} {mg : Str → Option Value} {fa : Addr} (X : K.In h) (G : h.Ns mainGlobals mg) (hfa : mg "law" = some (.ref fa))
    {f1 : Addr} {od1 an1 : Option Addr} {sl1 : Array (Option Value)} {oc1 dc1 pm1 cd1 ct1 : Value}
    {kV1 : Value}
    {f2 : Addr} {od2 an2 : Option Addr} {sl2 : Array (Option Value)} {oc2 dc2 pm2 cd2 ct2 : Value}
    {kV2 : Value}
    {f3 : Addr} {od3 an3 : Option Addr} {sl3 : Array (Option Value)} {oc3 dc3 pm3 cd3 ct3 : Value}
    {kV3 : Value}
    {f4 : Addr} {od4 an4 : Option Addr} {sl4 : Array (Option Value)} {oc4 dc4 pm4 cd4 ct4 : Value}
    {D4 : Addr} {w4_0 : Tok} {w4_1 : Tok}
    {f5 : Addr} {od5 an5 : Option Addr} {sl5 : Array (Option Value)} {oc5 dc5 pm5 cd5 ct5 : Value}
    {kV5 : Value}
    {f6 : Addr} {od6 an6 : Option Addr} {sl6 : Array (Option Value)} {oc6 dc6 pm6 cd6 ct6 : Value}
    {kV6 : Value}
    {f7 : Addr} {od7 an7 : Option Addr} {sl7 : Array (Option Value)} {oc7 dc7 pm7 cd7 ct7 : Value}
    {kV7 : Value}
    {f8 : Addr} {od8 an8 : Option Addr} {sl8 : Array (Option Value)} {oc8 dc8 pm8 cd8 ct8 : Value}
    {kV8 : Value}
    {f9 : Addr} {od9 an9 : Option Addr} {sl9 : Array (Option Value)} {oc9 dc9 pm9 cd9 ct9 : Value}
    {kV9 : Value}
    {f10 : Addr} {od10 an10 : Option Addr} {sl10 : Array (Option Value)} {oc10 dc10 pm10 cd10 ct10 : Value}
    {kV10 : Value}
    {f11 : Addr} {od11 an11 : Option Addr} {sl11 : Array (Option Value)} {oc11 dc11 pm11 cd11 ct11 : Value}
    {kV11 : Value}
    {f12 : Addr} {od12 an12 : Option Addr} {sl12 : Array (Option Value)} {oc12 dc12 pm12 cd12 ct12 : Value}
    {kV12 : Value}
    {f13 : Addr} {od13 an13 : Option Addr} {sl13 : Array (Option Value)} {oc13 dc13 pm13 cd13 ct13 : Value}
    {kV13 : Value}
    {f14 : Addr} {od14 an14 : Option Addr} {sl14 : Array (Option Value)} {oc14 dc14 pm14 cd14 ct14 : Value}
    {kV14 : Value}
    {f15 : Addr} {od15 an15 : Option Addr} {sl15 : Array (Option Value)} {oc15 dc15 pm15 cd15 ct15 : Value}
    {kV15 : Value}
    {f16 : Addr} {od16 an16 : Option Addr} {sl16 : Array (Option Value)} {oc16 dc16 pm16 cd16 ct16 : Value}
    {kV16 : Value}
    {f17 : Addr} {od17 an17 : Option Addr} {sl17 : Array (Option Value)} {oc17 dc17 pm17 cd17 ct17 : Value}
    {kV17 : Value}
    {f18 : Addr} {od18 an18 : Option Addr} {sl18 : Array (Option Value)} {oc18 dc18 pm18 cd18 ct18 : Value}
    {kV18 : Value}
    {f19 : Addr} {od19 an19 : Option Addr} {sl19 : Array (Option Value)} {oc19 dc19 pm19 cd19 ct19 : Value}
    {kV19 : Value}
    {f20 : Addr} {od20 an20 : Option Addr} {sl20 : Array (Option Value)} {oc20 dc20 pm20 cd20 ct20 : Value}
    {kV20 : Value}
    {f21 : Addr} {od21 an21 : Option Addr} {sl21 : Array (Option Value)} {oc21 dc21 pm21 cd21 ct21 : Value}
    {kV21 : Value}
    {f22 : Addr} {od22 an22 : Option Addr} {sl22 : Array (Option Value)} {oc22 dc22 pm22 cd22 ct22 : Value}
    {kV22 : Value}
    {f23 : Addr} {od23 an23 : Option Addr} {sl23 : Array (Option Value)} {oc23 dc23 pm23 cd23 ct23 : Value}
    {kV23 : Value}
    {f24 : Addr} {od24 an24 : Option Addr} {sl24 : Array (Option Value)} {oc24 dc24 pm24 cd24 ct24 : Value}
    {kV24 : Value}
    {f25 : Addr} {od25 an25 : Option Addr} {sl25 : Array (Option Value)} {oc25 dc25 pm25 cd25 ct25 : Value}
    {kV25 : Value}
    {f26 : Addr} {od26 an26 : Option Addr} {sl26 : Array (Option Value)} {oc26 dc26 pm26 cd26 ct26 : Value}
    {kV26 : Value}
    {f27 : Addr} {od27 an27 : Option Addr} {sl27 : Array (Option Value)} {oc27 dc27 pm27 cd27 ct27 : Value}
    {kV27 : Value}
    {f28 : Addr} {od28 an28 : Option Addr} {sl28 : Array (Option Value)} {oc28 dc28 pm28 cd28 ct28 : Value}
    {kV28 : Value}
    {f29 : Addr} {od29 an29 : Option Addr} {sl29 : Array (Option Value)} {oc29 dc29 pm29 cd29 ct29 : Value}
    {kV29 : Value}
    {f30 : Addr} {od30 an30 : Option Addr} {sl30 : Array (Option Value)} {oc30 dc30 pm30 cd30 ct30 : Value}
    {kV30 : Value}
    {f31 : Addr} {od31 an31 : Option Addr} {sl31 : Array (Option Value)} {oc31 dc31 pm31 cd31 ct31 : Value}
    {kV31 : Value}
    {f32 : Addr} {od32 an32 : Option Addr} {sl32 : Array (Option Value)} {oc32 dc32 pm32 cd32 ct32 : Value}
    {kV32 : Value}
    {f33 : Addr} {od33 an33 : Option Addr} {sl33 : Array (Option Value)} {oc33 dc33 pm33 cd33 ct33 : Value}
    {kV33 : Value}
    {f34 : Addr} {od34 an34 : Option Addr} {sl34 : Array (Option Value)} {oc34 dc34 pm34 cd34 ct34 : Value}
    {kV34 : Value}
    {f35 : Addr} {od35 an35 : Option Addr} {sl35 : Array (Option Value)} {oc35 dc35 pm35 cd35 ct35 : Value}
    {kV35 : Value}
    {f36 : Addr} {od36 an36 : Option Addr} {sl36 : Array (Option Value)} {oc36 dc36 pm36 cd36 ct36 : Value}
    {kV36 : Value}
    {f37 : Addr} {od37 an37 : Option Addr} {sl37 : Array (Option Value)} {oc37 dc37 pm37 cd37 ct37 : Value}
    {kV37 : Value}
    {f38 : Addr} {od38 an38 : Option Addr} {sl38 : Array (Option Value)} {oc38 dc38 pm38 cd38 ct38 : Value}
    {kV38 : Value}
    {f39 : Addr} {od39 an39 : Option Addr} {sl39 : Array (Option Value)} {oc39 dc39 pm39 cd39 ct39 : Value}
    {kV39 : Value}
    {f40 : Addr} {od40 an40 : Option Addr} {sl40 : Array (Option Value)} {oc40 dc40 pm40 cd40 ct40 : Value}
    {kV40 : Value}
    {f41 : Addr} {od41 an41 : Option Addr} {sl41 : Array (Option Value)} {oc41 dc41 pm41 cd41 ct41 : Value}
    {kV41 : Value}
    {ctLETTERS : Tok}
    {oA1 : Addr} {ob1 : Option Addr} {on1 : Nat} {os1 : Array (Option Value)} {ot1_0 : Tok} {ot1_1 : Tok}
    {ctMAX_DEPTH : Tok}
    {ctMAX_SIZE : Tok}
    {ctNAME_LETTERS : Tok}
    {ctMAX_NAME : Tok}
    {oA6 : Addr} {ob6 : Option Addr} {on6 : Nat} {os6 : Array (Option Value)} {ot6_0 : Tok} {ot6_1 : Tok}
    {CF : Addr}
    {C_InvalidText f_InvalidText : Addr} {eoc_InvalidText : Value} {eod_InvalidText ean_InvalidText : Option Addr} {eosl_InvalidText : Array (Option Value)} {ekV_InvalidText edoc_InvalidText epm_InvalidText ect_InvalidText : Value} {cda_InvalidText ecc_InvalidText : Addr} {eccl_InvalidText ecl_InvalidText : Value} {ecdd_InvalidText ecld_InvalidText : Option Addr} {evs_InvalidText : Array Value} {eccs_InvalidText ecsl_InvalidText : Array (Option Value)} {efile_InvalidText : Str} {etf_InvalidText : Tok}
    {nm_InvalidText eq_InvalidText : Str} {eN_InvalidText : Addr} {ebs_InvalidText ebm_InvalidText : List Value} {esn_InvalidText : List Str} {esub_InvalidText : List Value} {eab_InvalidText : Bool} {ecol_InvalidText : Option Bool} {edd_InvalidText : Option Addr} {ek0_InvalidText ek1_InvalidText ek2_InvalidText ek3_InvalidText ek5_InvalidText : Option Value}
    {C_InvalidGoal f_InvalidGoal : Addr} {eoc_InvalidGoal : Value} {eod_InvalidGoal ean_InvalidGoal : Option Addr} {eosl_InvalidGoal : Array (Option Value)} {ekV_InvalidGoal edoc_InvalidGoal epm_InvalidGoal ect_InvalidGoal : Value} {cda_InvalidGoal ecc_InvalidGoal : Addr} {eccl_InvalidGoal ecl_InvalidGoal : Value} {ecdd_InvalidGoal ecld_InvalidGoal : Option Addr} {evs_InvalidGoal : Array Value} {eccs_InvalidGoal ecsl_InvalidGoal : Array (Option Value)} {efile_InvalidGoal : Str} {etf_InvalidGoal : Tok}
    {nm_InvalidGoal eq_InvalidGoal : Str} {eN_InvalidGoal : Addr} {ebs_InvalidGoal ebm_InvalidGoal : List Value} {esn_InvalidGoal : List Str} {esub_InvalidGoal : List Value} {eab_InvalidGoal : Bool} {ecol_InvalidGoal : Option Bool} {edd_InvalidGoal : Option Addr} {ek0_InvalidGoal ek1_InvalidGoal ek2_InvalidGoal ek3_InvalidGoal ek5_InvalidGoal : Option Value}
    {C_InvalidRules f_InvalidRules : Addr} {eoc_InvalidRules : Value} {eod_InvalidRules ean_InvalidRules : Option Addr} {eosl_InvalidRules : Array (Option Value)} {ekV_InvalidRules edoc_InvalidRules epm_InvalidRules ect_InvalidRules : Value} {cda_InvalidRules ecc_InvalidRules : Addr} {eccl_InvalidRules ecl_InvalidRules : Value} {ecdd_InvalidRules ecld_InvalidRules : Option Addr} {evs_InvalidRules : Array Value} {eccs_InvalidRules ecsl_InvalidRules : Array (Option Value)} {efile_InvalidRules : Str} {etf_InvalidRules : Tok}
    {nm_InvalidRules eq_InvalidRules : Str} {eN_InvalidRules : Addr} {ebs_InvalidRules ebm_InvalidRules : List Value} {esn_InvalidRules : List Str} {esub_InvalidRules : List Value} {eab_InvalidRules : Bool} {ecol_InvalidRules : Option Bool} {edd_InvalidRules : Option Addr} {ek0_InvalidRules ek1_InvalidRules ek2_InvalidRules ek3_InvalidRules ek5_InvalidRules : Option Value}
    (a1 : PySem.W.nsIn K mainGlobals "is_letter" = some (some (.ref f1))) (l1 : K.lookup f1 = some ⟨oc1, od1, .func (PySem.W.fnOf "is_letter" "is_letter" (defArgs s_is_letter) (defBody s_is_letter) (defScope s_is_letter) .none kV1 dc1 pm1 an1 cd1 ct1), sl1⟩) (c1 : PySem.W.codeIn K cd1 "is_letter" = true) (k1 : PySem.W.keepIn K (.ref f1) = true)
    (a2 : PySem.W.nsIn K mainGlobals "is_compound" = some (some (.ref f2))) (l2 : K.lookup f2 = some ⟨oc2, od2, .func (PySem.W.fnOf "is_compound" "is_compound" (defArgs s_is_compound) (defBody s_is_compound) (defScope s_is_compound) .none kV2 dc2 pm2 an2 cd2 ct2), sl2⟩) (c2 : PySem.W.codeIn K cd2 "is_compound" = true) (k2 : PySem.W.keepIn K (.ref f2) = true)
    (a3 : PySem.W.nsIn K mainGlobals "measured" = some (some (.ref f3))) (l3 : K.lookup f3 = some ⟨oc3, od3, .func (PySem.W.fnOf "measured" "measured" (defArgs s_measured) (defBody s_measured) (defScope s_measured) .none kV3 dc3 pm3 an3 cd3 ct3), sl3⟩) (c3 : PySem.W.codeIn K cd3 "measured" = true) (k3 : PySem.W.keepIn K (.ref f3) = true)
    (a4 : PySem.W.nsIn K mainGlobals "is_term" = some (some (.ref f4))) (l4 : K.lookup f4 = some ⟨oc4, od4, .func (PySem.W.fnOf "is_term" "is_term" (defArgs s_is_term) (defBody s_is_term) (defScope s_is_term) .none (.ref D4) dc4 pm4 an4 cd4 ct4), sl4⟩) (c4 : PySem.W.codeIn K cd4 "is_term" = true) (k4 : PySem.W.keepIn K (.ref f4) = true)
    (x4_0 : PySem.W.nsIn K D4 "max_depth" = some (some (.int 5 w4_0)))
    (x4_1 : PySem.W.nsIn K D4 "max_size" = some (some (.int 24 w4_1)))
    (a5 : PySem.W.nsIn K mainGlobals "is_name" = some (some (.ref f5))) (l5 : K.lookup f5 = some ⟨oc5, od5, .func (PySem.W.fnOf "is_name" "is_name" (defArgs s_is_name) (defBody s_is_name) (defScope s_is_name) .none kV5 dc5 pm5 an5 cd5 ct5), sl5⟩) (c5 : PySem.W.codeIn K cd5 "is_name" = true) (k5 : PySem.W.keepIn K (.ref f5) = true)
    (a6 : PySem.W.nsIn K mainGlobals "is_goal" = some (some (.ref f6))) (l6 : K.lookup f6 = some ⟨oc6, od6, .func (PySem.W.fnOf "is_goal" "is_goal" (defArgs s_is_goal) (defBody s_is_goal) (defScope s_is_goal) .none kV6 dc6 pm6 an6 cd6 ct6), sl6⟩) (c6 : PySem.W.codeIn K cd6 "is_goal" = true) (k6 : PySem.W.keepIn K (.ref f6) = true)
    (a7 : PySem.W.nsIn K mainGlobals "is_rule" = some (some (.ref f7))) (l7 : K.lookup f7 = some ⟨oc7, od7, .func (PySem.W.fnOf "is_rule" "is_rule" (defArgs s_is_rule) (defBody s_is_rule) (defScope s_is_rule) .none kV7 dc7 pm7 an7 cd7 ct7), sl7⟩) (c7 : PySem.W.codeIn K cd7 "is_rule" = true) (k7 : PySem.W.keepIn K (.ref f7) = true)
    (a8 : PySem.W.nsIn K mainGlobals "term_text" = some (some (.ref f8))) (l8 : K.lookup f8 = some ⟨oc8, od8, .func (PySem.W.fnOf "term_text" "term_text" (defArgs s_term_text) (defBody s_term_text) (defScope s_term_text) .none kV8 dc8 pm8 an8 cd8 ct8), sl8⟩) (c8 : PySem.W.codeIn K cd8 "term_text" = true) (k8 : PySem.W.keepIn K (.ref f8) = true)
    (a9 : PySem.W.nsIn K mainGlobals "part_text" = some (some (.ref f9))) (l9 : K.lookup f9 = some ⟨oc9, od9, .func (PySem.W.fnOf "part_text" "part_text" (defArgs s_part_text) (defBody s_part_text) (defScope s_part_text) .none kV9 dc9 pm9 an9 cd9 ct9), sl9⟩) (c9 : PySem.W.codeIn K cd9 "part_text" = true) (k9 : PySem.W.keepIn K (.ref f9) = true)
    (a10 : PySem.W.nsIn K mainGlobals "parse_term" = some (some (.ref f10))) (l10 : K.lookup f10 = some ⟨oc10, od10, .func (PySem.W.fnOf "parse_term" "parse_term" (defArgs s_parse_term) (defBody s_parse_term) (defScope s_parse_term) .none kV10 dc10 pm10 an10 cd10 ct10), sl10⟩) (c10 : PySem.W.codeIn K cd10 "parse_term" = true) (k10 : PySem.W.keepIn K (.ref f10) = true)
    (a11 : PySem.W.nsIn K mainGlobals "read_term" = some (some (.ref f11))) (l11 : K.lookup f11 = some ⟨oc11, od11, .func (PySem.W.fnOf "read_term" "read_term" (defArgs s_read_term) (defBody s_read_term) (defScope s_read_term) .none kV11 dc11 pm11 an11 cd11 ct11), sl11⟩) (c11 : PySem.W.codeIn K cd11 "read_term" = true) (k11 : PySem.W.keepIn K (.ref f11) = true)
    (a12 : PySem.W.nsIn K mainGlobals "read_part" = some (some (.ref f12))) (l12 : K.lookup f12 = some ⟨oc12, od12, .func (PySem.W.fnOf "read_part" "read_part" (defArgs s_read_part) (defBody s_read_part) (defScope s_read_part) .none kV12 dc12 pm12 an12 cd12 ct12), sl12⟩) (c12 : PySem.W.codeIn K cd12 "read_part" = true) (k12 : PySem.W.keepIn K (.ref f12) = true)
    (a13 : PySem.W.nsIn K mainGlobals "format_goal" = some (some (.ref f13))) (l13 : K.lookup f13 = some ⟨oc13, od13, .func (PySem.W.fnOf "format_goal" "format_goal" (defArgs s_format_goal) (defBody s_format_goal) (defScope s_format_goal) .none kV13 dc13 pm13 an13 cd13 ct13), sl13⟩) (c13 : PySem.W.codeIn K cd13 "format_goal" = true) (k13 : PySem.W.keepIn K (.ref f13) = true)
    (a14 : PySem.W.nsIn K mainGlobals "parse_goal" = some (some (.ref f14))) (l14 : K.lookup f14 = some ⟨oc14, od14, .func (PySem.W.fnOf "parse_goal" "parse_goal" (defArgs s_parse_goal) (defBody s_parse_goal) (defScope s_parse_goal) .none kV14 dc14 pm14 an14 cd14 ct14), sl14⟩) (c14 : PySem.W.codeIn K cd14 "parse_goal" = true) (k14 : PySem.W.keepIn K (.ref f14) = true)
    (a15 : PySem.W.nsIn K mainGlobals "format_rule" = some (some (.ref f15))) (l15 : K.lookup f15 = some ⟨oc15, od15, .func (PySem.W.fnOf "format_rule" "format_rule" (defArgs s_format_rule) (defBody s_format_rule) (defScope s_format_rule) .none kV15 dc15 pm15 an15 cd15 ct15), sl15⟩) (c15 : PySem.W.codeIn K cd15 "format_rule" = true) (k15 : PySem.W.keepIn K (.ref f15) = true)
    (a16 : PySem.W.nsIn K mainGlobals "parse_rule" = some (some (.ref f16))) (l16 : K.lookup f16 = some ⟨oc16, od16, .func (PySem.W.fnOf "parse_rule" "parse_rule" (defArgs s_parse_rule) (defBody s_parse_rule) (defScope s_parse_rule) .none kV16 dc16 pm16 an16 cd16 ct16), sl16⟩) (c16 : PySem.W.codeIn K cd16 "parse_rule" = true) (k16 : PySem.W.keepIn K (.ref f16) = true)
    (a17 : PySem.W.nsIn K mainGlobals "_law_source" = some (some (.ref f17))) (l17 : K.lookup f17 = some ⟨oc17, od17, .func (PySem.W.fnOf "_law_source" "_law_source" (defArgs s_law_source) (defBody s_law_source) (defScope s_law_source) .none kV17 dc17 pm17 an17 cd17 ct17), sl17⟩) (c17 : PySem.W.codeIn K cd17 "_law_source" = true) (k17 : PySem.W.keepIn K (.ref f17) = true)
    (a18 : PySem.W.nsIn K mainGlobals "_law_take" = some (some (.ref f18))) (l18 : K.lookup f18 = some ⟨oc18, od18, .func (PySem.W.fnOf "_law_take" "_law_take" (defArgs s_law_take) (defBody s_law_take) (defScope s_law_take) .none kV18 dc18 pm18 an18 cd18 ct18), sl18⟩) (c18 : PySem.W.codeIn K cd18 "_law_take" = true) (k18 : PySem.W.keepIn K (.ref f18) = true)
    (a19 : PySem.W.nsIn K mainGlobals "_law_pick" = some (some (.ref f19))) (l19 : K.lookup f19 = some ⟨oc19, od19, .func (PySem.W.fnOf "_law_pick" "_law_pick" (defArgs s_law_pick) (defBody s_law_pick) (defScope s_law_pick) .none kV19 dc19 pm19 an19 cd19 ct19), sl19⟩) (c19 : PySem.W.codeIn K cd19 "_law_pick" = true) (k19 : PySem.W.keepIn K (.ref f19) = true)
    (a20 : PySem.W.nsIn K mainGlobals "_law_mixed" = some (some (.ref f20))) (l20 : K.lookup f20 = some ⟨oc20, od20, .func (PySem.W.fnOf "_law_mixed" "_law_mixed" (defArgs s_law_mixed) (defBody s_law_mixed) (defScope s_law_mixed) .none kV20 dc20 pm20 an20 cd20 ct20), sl20⟩) (c20 : PySem.W.codeIn K cd20 "_law_mixed" = true) (k20 : PySem.W.keepIn K (.ref f20) = true)
    (a21 : PySem.W.nsIn K mainGlobals "_law_same" = some (some (.ref f21))) (l21 : K.lookup f21 = some ⟨oc21, od21, .func (PySem.W.fnOf "_law_same" "_law_same" (defArgs s_law_same) (defBody s_law_same) (defScope s_law_same) .none kV21 dc21 pm21 an21 cd21 ct21), sl21⟩) (c21 : PySem.W.codeIn K cd21 "_law_same" = true) (k21 : PySem.W.keepIn K (.ref f21) = true)
    (a22 : PySem.W.nsIn K mainGlobals "_law_call" = some (some (.ref f22))) (l22 : K.lookup f22 = some ⟨oc22, od22, .func (PySem.W.fnOf "_law_call" "_law_call" (defArgs s_law_call) (defBody s_law_call) (defScope s_law_call) .none kV22 dc22 pm22 an22 cd22 ct22), sl22⟩) (c22 : PySem.W.codeIn K cd22 "_law_call" = true) (k22 : PySem.W.keepIn K (.ref f22) = true)
    (a23 : PySem.W.nsIn K mainGlobals "_law_text" = some (some (.ref f23))) (l23 : K.lookup f23 = some ⟨oc23, od23, .func (PySem.W.fnOf "_law_text" "_law_text" (defArgs s_law_text) (defBody s_law_text) (defScope s_law_text) .none kV23 dc23 pm23 an23 cd23 ct23), sl23⟩) (c23 : PySem.W.codeIn K cd23 "_law_text" = true) (k23 : PySem.W.keepIn K (.ref f23) = true)
    (a24 : PySem.W.nsIn K mainGlobals "_law_leaves" = some (some (.ref f24))) (l24 : K.lookup f24 = some ⟨oc24, od24, .func (PySem.W.fnOf "_law_leaves" "_law_leaves" (defArgs s_law_leaves) (defBody s_law_leaves) (defScope s_law_leaves) .none kV24 dc24 pm24 an24 cd24 ct24), sl24⟩) (c24 : PySem.W.codeIn K cd24 "_law_leaves" = true) (k24 : PySem.W.keepIn K (.ref f24) = true)
    (a25 : PySem.W.nsIn K mainGlobals "_law_term" = some (some (.ref f25))) (l25 : K.lookup f25 = some ⟨oc25, od25, .func (PySem.W.fnOf "_law_term" "_law_term" (defArgs s_law_term) (defBody s_law_term) (defScope s_law_term) .none kV25 dc25 pm25 an25 cd25 ct25), sl25⟩) (c25 : PySem.W.codeIn K cd25 "_law_term" = true) (k25 : PySem.W.keepIn K (.ref f25) = true)
    (a26 : PySem.W.nsIn K mainGlobals "_law_any_term" = some (some (.ref f26))) (l26 : K.lookup f26 = some ⟨oc26, od26, .func (PySem.W.fnOf "_law_any_term" "_law_any_term" (defArgs s_law_any_term) (defBody s_law_any_term) (defScope s_law_any_term) .none kV26 dc26 pm26 an26 cd26 ct26), sl26⟩) (c26 : PySem.W.codeIn K cd26 "_law_any_term" = true) (k26 : PySem.W.keepIn K (.ref f26) = true)
    (a27 : PySem.W.nsIn K mainGlobals "_law_signs" = some (some (.ref f27))) (l27 : K.lookup f27 = some ⟨oc27, od27, .func (PySem.W.fnOf "_law_signs" "_law_signs" (defArgs s_law_signs) (defBody s_law_signs) (defScope s_law_signs) .none kV27 dc27 pm27 an27 cd27 ct27), sl27⟩) (c27 : PySem.W.codeIn K cd27 "_law_signs" = true) (k27 : PySem.W.keepIn K (.ref f27) = true)
    (a28 : PySem.W.nsIn K mainGlobals "_law_names" = some (some (.ref f28))) (l28 : K.lookup f28 = some ⟨oc28, od28, .func (PySem.W.fnOf "_law_names" "_law_names" (defArgs s_law_names) (defBody s_law_names) (defScope s_law_names) .none kV28 dc28 pm28 an28 cd28 ct28), sl28⟩) (c28 : PySem.W.codeIn K cd28 "_law_names" = true) (k28 : PySem.W.keepIn K (.ref f28) = true)
    (a29 : PySem.W.nsIn K mainGlobals "_law_odd" = some (some (.ref f29))) (l29 : K.lookup f29 = some ⟨oc29, od29, .func (PySem.W.fnOf "_law_odd" "_law_odd" (defArgs s_law_odd) (defBody s_law_odd) (defScope s_law_odd) .none kV29 dc29 pm29 an29 cd29 ct29), sl29⟩) (c29 : PySem.W.codeIn K cd29 "_law_odd" = true) (k29 : PySem.W.keepIn K (.ref f29) = true)
    (a30 : PySem.W.nsIn K mainGlobals "_law_nest" = some (some (.ref f30))) (l30 : K.lookup f30 = some ⟨oc30, od30, .func (PySem.W.fnOf "_law_nest" "_law_nest" (defArgs s_law_nest) (defBody s_law_nest) (defScope s_law_nest) .none kV30 dc30 pm30 an30 cd30 ct30), sl30⟩) (c30 : PySem.W.codeIn K cd30 "_law_nest" = true) (k30 : PySem.W.keepIn K (.ref f30) = true)
    (a31 : PySem.W.nsIn K mainGlobals "_law_read_term" = some (some (.ref f31))) (l31 : K.lookup f31 = some ⟨oc31, od31, .func (PySem.W.fnOf "_law_read_term" "_law_read_term" (defArgs s_law_read_term) (defBody s_law_read_term) (defScope s_law_read_term) .none kV31 dc31 pm31 an31 cd31 ct31), sl31⟩) (c31 : PySem.W.codeIn K cd31 "_law_read_term" = true) (k31 : PySem.W.keepIn K (.ref f31) = true)
    (a32 : PySem.W.nsIn K mainGlobals "_law_read_piece" = some (some (.ref f32))) (l32 : K.lookup f32 = some ⟨oc32, od32, .func (PySem.W.fnOf "_law_read_piece" "_law_read_piece" (defArgs s_law_read_piece) (defBody s_law_read_piece) (defScope s_law_read_piece) .none kV32 dc32 pm32 an32 cd32 ct32), sl32⟩) (c32 : PySem.W.codeIn K cd32 "_law_read_piece" = true) (k32 : PySem.W.keepIn K (.ref f32) = true)
    (a33 : PySem.W.nsIn K mainGlobals "_law_read" = some (some (.ref f33))) (l33 : K.lookup f33 = some ⟨oc33, od33, .func (PySem.W.fnOf "_law_read" "_law_read" (defArgs s_law_read) (defBody s_law_read) (defScope s_law_read) .none kV33 dc33 pm33 an33 cd33 ct33), sl33⟩) (c33 : PySem.W.codeIn K cd33 "_law_read" = true) (k33 : PySem.W.keepIn K (.ref f33) = true)
    (a34 : PySem.W.nsIn K mainGlobals "_law_spoilt" = some (some (.ref f34))) (l34 : K.lookup f34 = some ⟨oc34, od34, .func (PySem.W.fnOf "_law_spoilt" "_law_spoilt" (defArgs s_law_spoilt) (defBody s_law_spoilt) (defScope s_law_spoilt) .none kV34 dc34 pm34 an34 cd34 ct34), sl34⟩) (c34 : PySem.W.codeIn K cd34 "_law_spoilt" = true) (k34 : PySem.W.keepIn K (.ref f34) = true)
    (a35 : PySem.W.nsIn K mainGlobals "_law_is_name" = some (some (.ref f35))) (l35 : K.lookup f35 = some ⟨oc35, od35, .func (PySem.W.fnOf "_law_is_name" "_law_is_name" (defArgs s_law_is_name) (defBody s_law_is_name) (defScope s_law_is_name) .none kV35 dc35 pm35 an35 cd35 ct35), sl35⟩) (c35 : PySem.W.codeIn K cd35 "_law_is_name" = true) (k35 : PySem.W.keepIn K (.ref f35) = true)
    (a36 : PySem.W.nsIn K mainGlobals "_law_read_goal" = some (some (.ref f36))) (l36 : K.lookup f36 = some ⟨oc36, od36, .func (PySem.W.fnOf "_law_read_goal" "_law_read_goal" (defArgs s_law_read_goal) (defBody s_law_read_goal) (defScope s_law_read_goal) .none kV36 dc36 pm36 an36 cd36 ct36), sl36⟩) (c36 : PySem.W.codeIn K cd36 "_law_read_goal" = true) (k36 : PySem.W.keepIn K (.ref f36) = true)
    (a37 : PySem.W.nsIn K mainGlobals "_law_read_rule" = some (some (.ref f37))) (l37 : K.lookup f37 = some ⟨oc37, od37, .func (PySem.W.fnOf "_law_read_rule" "_law_read_rule" (defArgs s_law_read_rule) (defBody s_law_read_rule) (defScope s_law_read_rule) .none kV37 dc37 pm37 an37 cd37 ct37), sl37⟩) (c37 : PySem.W.codeIn K cd37 "_law_read_rule" = true) (k37 : PySem.W.keepIn K (.ref f37) = true)
    (a38 : PySem.W.nsIn K mainGlobals "_law_goal_text" = some (some (.ref f38))) (l38 : K.lookup f38 = some ⟨oc38, od38, .func (PySem.W.fnOf "_law_goal_text" "_law_goal_text" (defArgs s_law_goal_text) (defBody s_law_goal_text) (defScope s_law_goal_text) .none kV38 dc38 pm38 an38 cd38 ct38), sl38⟩) (c38 : PySem.W.codeIn K cd38 "_law_goal_text" = true) (k38 : PySem.W.keepIn K (.ref f38) = true)
    (a39 : PySem.W.nsIn K mainGlobals "_law_rule_text" = some (some (.ref f39))) (l39 : K.lookup f39 = some ⟨oc39, od39, .func (PySem.W.fnOf "_law_rule_text" "_law_rule_text" (defArgs s_law_rule_text) (defBody s_law_rule_text) (defScope s_law_rule_text) .none kV39 dc39 pm39 an39 cd39 ct39), sl39⟩) (c39 : PySem.W.codeIn K cd39 "_law_rule_text" = true) (k39 : PySem.W.keepIn K (.ref f39) = true)
    (a40 : PySem.W.nsIn K mainGlobals "_law_index_told" = some (some (.ref f40))) (l40 : K.lookup f40 = some ⟨oc40, od40, .func (PySem.W.fnOf "_law_index_told" "_law_index_told" (defArgs s_law_index_told) (defBody s_law_index_told) (defScope s_law_index_told) .none kV40 dc40 pm40 an40 cd40 ct40), sl40⟩) (c40 : PySem.W.codeIn K cd40 "_law_index_told" = true) (k40 : PySem.W.keepIn K (.ref f40) = true)
    (a41 : PySem.W.nsIn K mainGlobals "law" = some (some (.ref f41))) (l41 : K.lookup f41 = some ⟨oc41, od41, .func (PySem.W.fnOf "law" "law" (defArgs s_law) (defBody s_law) (defScope s_law) .none kV41 dc41 pm41 an41 cd41 ct41), sl41⟩) (c41 : PySem.W.codeIn K cd41 "law" = true) (k41 : PySem.W.keepIn K (.ref f41) = true)
    (y0 : PySem.W.nsIn K mainGlobals "LETTERS" = some (some (.str "abcdefgh" ctLETTERS)))
    (y1 : PySem.W.nsIn K mainGlobals "OPERATORS" = some (some (.ref oA1))) (yl1 : K.lookup oA1 = some ⟨.type "tuple", ob1, .seq #[.str "&" ot1_0, .str "|" ot1_1] on1, os1⟩)
    (y2 : PySem.W.nsIn K mainGlobals "MAX_DEPTH" = some (some (.int 5 ctMAX_DEPTH)))
    (y3 : PySem.W.nsIn K mainGlobals "MAX_SIZE" = some (some (.int 24 ctMAX_SIZE)))
    (y4 : PySem.W.nsIn K mainGlobals "NAME_LETTERS" = some (some (.str "abcdefghijklmnopqrstuvwxyz" ctNAME_LETTERS)))
    (y5 : PySem.W.nsIn K mainGlobals "MAX_NAME" = some (some (.int 6 ctMAX_NAME)))
    (y6 : PySem.W.nsIn K mainGlobals "SIGNS" = some (some (.ref oA6))) (yl6 : K.lookup oA6 = some ⟨.type "tuple", ob6, .seq #[.str " & " ot6_0, .str " | " ot6_1] on6, os6⟩)
    (z_len : PySem.W.nsIn K mainGlobals "len" = some none)
    (z_int : PySem.W.nsIn K mainGlobals "int" = some none)
    (z_list : PySem.W.nsIn K mainGlobals "list" = some none)
    (z_str : PySem.W.nsIn K mainGlobals "str" = some none)
    (z_tuple : PySem.W.nsIn K mainGlobals "tuple" = some none)
    (z_isinstance : PySem.W.nsIn K mainGlobals "isinstance" = some none)
    (z_bool : PySem.W.nsIn K mainGlobals "bool" = some none)
    (z_dict : PySem.W.nsIn K mainGlobals "dict" = some none)
    (z_all : PySem.W.nsIn K mainGlobals "all" = some none)
    (z_zip : PySem.W.nsIn K mainGlobals "zip" = some none)
    (z_sum : PySem.W.nsIn K mainGlobals "sum" = some none)
    (z_max : PySem.W.nsIn K mainGlobals "max" = some none)
    (z_min : PySem.W.nsIn K mainGlobals "min" = some none)
    (z_range : PySem.W.nsIn K mainGlobals "range" = some none)
    (z_super : PySem.W.nsIn K mainGlobals "super" = some none)
    (z_sorted : PySem.W.nsIn K mainGlobals "sorted" = some none)
    (e1 : PySem.W.nsIn K mainGlobals "FaultError" = some (some (.ref CF)))
    (e23a : PySem.W.subIn K (.ref CF) (.type "BaseException") = some true)
    (e23b : PySem.W.isClsIn K CF = true)
    (e23c : PySem.W.typeIn K (.ref CF) = some (.type "type"))
    (e20 : PySem.W.nsIn K cStatics "thirdparty.any" = some none)
    (e27 : (l.prog.main.scope.names.lookup ("super" : Str)).isSome = false)
    (e2_InvalidText : PySem.W.nsIn K mainGlobals "InvalidText" = some (some (.ref C_InvalidText)))
    (e3_InvalidText : K.lookup C_InvalidText = some (excClassObj nm_InvalidText eq_InvalidText C_InvalidText eN_InvalidText ebs_InvalidText ebm_InvalidText true esn_InvalidText esub_InvalidText eab_InvalidText ecol_InvalidText edd_InvalidText ek0_InvalidText ek1_InvalidText ek2_InvalidText ek3_InvalidText ek5_InvalidText "ValueError.__new__"))
    (e4_InvalidText : PySem.HandSPX.refsVE ebm_InvalidText = true)
    (e5_InvalidText : PySem.W.findIn K (.ref C_InvalidText) "__setattr__" = some (some (.builtin "object.__setattr__")))
    (e6_InvalidText : PySem.W.subIn K (.ref C_InvalidText) (.type "BaseException") = some true)
    (e7_InvalidText : PySem.W.typeIn K (.ref C_InvalidText) = some (.type "type"))
    (e8_InvalidText : PySem.W.keepIn K (.ref C_InvalidText) = true)
    (e13_InvalidText : PySem.W.findIn K (.ref C_InvalidText) "__init__" = some (some (.ref f_InvalidText)))
    (e9_InvalidText : K.lookup f_InvalidText = some ⟨eoc_InvalidText, eod_InvalidText, .func (PySem.W.ksFn "__init__" "InvalidText.__init__" (defArgs s_InvalidText) (defBody s_InvalidText) (defScope s_InvalidText) .none ekV_InvalidText edoc_InvalidText epm_InvalidText ean_InvalidText (.ref cda_InvalidText) ect_InvalidText ecc_InvalidText), eosl_InvalidText⟩)
    (e10_InvalidText : PySem.W.codeIn K (.ref cda_InvalidText) "InvalidText.__init__" = true)
    (e11_InvalidText : K.lookup cda_InvalidText = some ⟨eccl_InvalidText, ecdd_InvalidText, .fields evs_InvalidText, eccs_InvalidText⟩)
    (e12_InvalidText : evs_InvalidText[2]? = some (.str efile_InvalidText etf_InvalidText))
    (e14_InvalidText : (l.prog.main.file == efile_InvalidText) = true)
    (e15_InvalidText : K.lookup ecc_InvalidText = some ⟨ecl_InvalidText, ecld_InvalidText, .cell (some (.ref C_InvalidText)), ecsl_InvalidText⟩)
    (e16_InvalidText : PySem.W.ks_superIn K C_InvalidText C_InvalidText "__init__" = some (some (.builtin "ValueError.__init__")))
    (e17_InvalidText : PySem.W.mroIn K C_InvalidText (.ref C_InvalidText) = some true)
    (e18_InvalidText : PySem.W.subIn K (.ref C_InvalidText) (.type "ValueError") = some true)
    (e19t_InvalidText : PySem.W.excTail FvX.veTail4 ebm_InvalidText = true)
    (e21_InvalidText : PySem.W.findIn K (.ref C_InvalidText) "code" = some none)
    (e22_InvalidText : PySem.W.typeIn K (.ref f_InvalidText) = some (.type "function"))
    (e23d_InvalidText : PySem.W.subIn K (.ref C_InvalidText) (.ref CF) = some true)
    (e24_InvalidText : PySem.W.findIn K (.ref C_InvalidText) "__getattribute__" = some (some (.builtin "BaseException.__getattribute__")))
    (e25_InvalidText : PySem.W.findIn K (.ref C_InvalidText) "__getattr__" = some none)
    (e26_InvalidText : PySem.W.hasDictIn K C_InvalidText = true)
    (e2_InvalidGoal : PySem.W.nsIn K mainGlobals "InvalidGoal" = some (some (.ref C_InvalidGoal)))
    (e3_InvalidGoal : K.lookup C_InvalidGoal = some (excClassObj nm_InvalidGoal eq_InvalidGoal C_InvalidGoal eN_InvalidGoal ebs_InvalidGoal ebm_InvalidGoal true esn_InvalidGoal esub_InvalidGoal eab_InvalidGoal ecol_InvalidGoal edd_InvalidGoal ek0_InvalidGoal ek1_InvalidGoal ek2_InvalidGoal ek3_InvalidGoal ek5_InvalidGoal "ValueError.__new__"))
    (e4_InvalidGoal : PySem.HandSPX.refsVE ebm_InvalidGoal = true)
    (e5_InvalidGoal : PySem.W.findIn K (.ref C_InvalidGoal) "__setattr__" = some (some (.builtin "object.__setattr__")))
    (e6_InvalidGoal : PySem.W.subIn K (.ref C_InvalidGoal) (.type "BaseException") = some true)
    (e7_InvalidGoal : PySem.W.typeIn K (.ref C_InvalidGoal) = some (.type "type"))
    (e8_InvalidGoal : PySem.W.keepIn K (.ref C_InvalidGoal) = true)
    (e13_InvalidGoal : PySem.W.findIn K (.ref C_InvalidGoal) "__init__" = some (some (.ref f_InvalidGoal)))
    (e9_InvalidGoal : K.lookup f_InvalidGoal = some ⟨eoc_InvalidGoal, eod_InvalidGoal, .func (PySem.W.ksFn "__init__" "InvalidGoal.__init__" (defArgs s_InvalidGoal) (defBody s_InvalidGoal) (defScope s_InvalidGoal) .none ekV_InvalidGoal edoc_InvalidGoal epm_InvalidGoal ean_InvalidGoal (.ref cda_InvalidGoal) ect_InvalidGoal ecc_InvalidGoal), eosl_InvalidGoal⟩)
    (e10_InvalidGoal : PySem.W.codeIn K (.ref cda_InvalidGoal) "InvalidGoal.__init__" = true)
    (e11_InvalidGoal : K.lookup cda_InvalidGoal = some ⟨eccl_InvalidGoal, ecdd_InvalidGoal, .fields evs_InvalidGoal, eccs_InvalidGoal⟩)
    (e12_InvalidGoal : evs_InvalidGoal[2]? = some (.str efile_InvalidGoal etf_InvalidGoal))
    (e14_InvalidGoal : (l.prog.main.file == efile_InvalidGoal) = true)
    (e15_InvalidGoal : K.lookup ecc_InvalidGoal = some ⟨ecl_InvalidGoal, ecld_InvalidGoal, .cell (some (.ref C_InvalidGoal)), ecsl_InvalidGoal⟩)
    (e16_InvalidGoal : PySem.W.ks_superIn K C_InvalidGoal C_InvalidGoal "__init__" = some (some (.builtin "ValueError.__init__")))
    (e17_InvalidGoal : PySem.W.mroIn K C_InvalidGoal (.ref C_InvalidGoal) = some true)
    (e18_InvalidGoal : PySem.W.subIn K (.ref C_InvalidGoal) (.type "ValueError") = some true)
    (e19t_InvalidGoal : PySem.W.excTail FvX.veTail4 ebm_InvalidGoal = true)
    (e21_InvalidGoal : PySem.W.findIn K (.ref C_InvalidGoal) "code" = some none)
    (e22_InvalidGoal : PySem.W.typeIn K (.ref f_InvalidGoal) = some (.type "function"))
    (e23d_InvalidGoal : PySem.W.subIn K (.ref C_InvalidGoal) (.ref CF) = some true)
    (e24_InvalidGoal : PySem.W.findIn K (.ref C_InvalidGoal) "__getattribute__" = some (some (.builtin "BaseException.__getattribute__")))
    (e25_InvalidGoal : PySem.W.findIn K (.ref C_InvalidGoal) "__getattr__" = some none)
    (e26_InvalidGoal : PySem.W.hasDictIn K C_InvalidGoal = true)
    (e2_InvalidRules : PySem.W.nsIn K mainGlobals "InvalidRules" = some (some (.ref C_InvalidRules)))
    (e3_InvalidRules : K.lookup C_InvalidRules = some (excClassObj nm_InvalidRules eq_InvalidRules C_InvalidRules eN_InvalidRules ebs_InvalidRules ebm_InvalidRules true esn_InvalidRules esub_InvalidRules eab_InvalidRules ecol_InvalidRules edd_InvalidRules ek0_InvalidRules ek1_InvalidRules ek2_InvalidRules ek3_InvalidRules ek5_InvalidRules "ValueError.__new__"))
    (e4_InvalidRules : PySem.HandSPX.refsVE ebm_InvalidRules = true)
    (e5_InvalidRules : PySem.W.findIn K (.ref C_InvalidRules) "__setattr__" = some (some (.builtin "object.__setattr__")))
    (e6_InvalidRules : PySem.W.subIn K (.ref C_InvalidRules) (.type "BaseException") = some true)
    (e7_InvalidRules : PySem.W.typeIn K (.ref C_InvalidRules) = some (.type "type"))
    (e8_InvalidRules : PySem.W.keepIn K (.ref C_InvalidRules) = true)
    (e13_InvalidRules : PySem.W.findIn K (.ref C_InvalidRules) "__init__" = some (some (.ref f_InvalidRules)))
    (e9_InvalidRules : K.lookup f_InvalidRules = some ⟨eoc_InvalidRules, eod_InvalidRules, .func (PySem.W.ksFn "__init__" "InvalidRules.__init__" (defArgs s_InvalidRules) (defBody s_InvalidRules) (defScope s_InvalidRules) .none ekV_InvalidRules edoc_InvalidRules epm_InvalidRules ean_InvalidRules (.ref cda_InvalidRules) ect_InvalidRules ecc_InvalidRules), eosl_InvalidRules⟩)
    (e10_InvalidRules : PySem.W.codeIn K (.ref cda_InvalidRules) "InvalidRules.__init__" = true)
    (e11_InvalidRules : K.lookup cda_InvalidRules = some ⟨eccl_InvalidRules, ecdd_InvalidRules, .fields evs_InvalidRules, eccs_InvalidRules⟩)
    (e12_InvalidRules : evs_InvalidRules[2]? = some (.str efile_InvalidRules etf_InvalidRules))
    (e14_InvalidRules : (l.prog.main.file == efile_InvalidRules) = true)
    (e15_InvalidRules : K.lookup ecc_InvalidRules = some ⟨ecl_InvalidRules, ecld_InvalidRules, .cell (some (.ref C_InvalidRules)), ecsl_InvalidRules⟩)
    (e16_InvalidRules : PySem.W.ks_superIn K C_InvalidRules C_InvalidRules "__init__" = some (some (.builtin "ValueError.__init__")))
    (e17_InvalidRules : PySem.W.mroIn K C_InvalidRules (.ref C_InvalidRules) = some true)
    (e18_InvalidRules : PySem.W.subIn K (.ref C_InvalidRules) (.type "ValueError") = some true)
    (e19t_InvalidRules : PySem.W.excTail FvX.veTail4 ebm_InvalidRules = true)
    (e21_InvalidRules : PySem.W.findIn K (.ref C_InvalidRules) "code" = some none)
    (e28_InvalidRules : PySem.W.findIn K (.ref C_InvalidRules) "index" = some none)
    (e29_InvalidRules : PySem.W.isClsIn K C_InvalidRules = true)
    (e30_InvalidRules : PySem.W.subIn K (.ref C_InvalidRules) (.ref C_InvalidRules) = some true)
    (e22_InvalidRules : PySem.W.typeIn K (.ref f_InvalidRules) = some (.type "function"))
    (e23d_InvalidRules : PySem.W.subIn K (.ref C_InvalidRules) (.ref CF) = some true)
    (e24_InvalidRules : PySem.W.findIn K (.ref C_InvalidRules) "__getattribute__" = some (some (.builtin "BaseException.__getattribute__")))
    (e25_InvalidRules : PySem.W.findIn K (.ref C_InvalidRules) "__getattr__" = some none)
    (e26_InvalidRules : PySem.W.hasDictIn K C_InvalidRules = true)
    {ccl : Value} {ccd : Option Addr} {cvs : Array Value} {ccs : Array (Option Value)} {cL Pt : Addr} (ecd : cd41 = .ref cL) (tlc : K.lookup cL = some ⟨ccl, ccd, .fields cvs, ccs⟩) (t11 : cvs[11]? = some (.ref Pt)) (tPt : K.lookup Pt = none)
    : ∃ (fd : FuncData) (c Pt : Addr), PySem.W.tabIn K "law" = some (c, Pt) ∧ K.lookup Pt = none ∧ (∀ (s : Shared) (v : Value), BindsTo s fd ⟨[v], []⟩ [("_law_script", v)]) ∧ ∀ base : Heap, K.In base → base.Ns mainGlobals mg → LamX.TabB base mg c Pt → FnOk l.prog w K mg base CX0 33 fa fd ["_law_script"] (spLawT K Pt) := by
  have e := hfa.symm.trans (PySem.W.mg_of X G a41)
  cases e
  have F1 := fun_mk (st := s_is_letter) l1 c1 k1
  have g1 := PySem.W.mg_of X G a1
  have b1 := F1.binds (ps := ["value"]) fun _ _ _ _ _ _ us hl => match us, hl with | [_], _ => rfl
  have F2 := fun_mk (st := s_is_compound) l2 c2 k2
  have g2 := PySem.W.mg_of X G a2
  have b2 := F2.binds (ps := ["value"]) fun _ _ _ _ _ _ us hl => match us, hl with | [_], _ => rfl
  have F3 := fun_mk (st := s_measured) l3 c3 k3
  have g3 := PySem.W.mg_of X G a3
  have b3 := F3.binds (ps := ["value", "max_depth", "max_size"]) fun _ _ _ _ _ _ us hl => match us, hl with | [_, _, _], _ => rfl
  have F4 : FunD K "is_term" "is_term" (defArgs s_is_term) (defBody s_is_term) (defScope s_is_term) [] [("max_depth", .int 5), ("max_size", .int 24)] f4 _ := ⟨⟨_, _, _, _, _, _, _, _, _, _, rfl, l4, c4, .inl ⟨rfl, rfl⟩, .inr ⟨D4, rfl, kw_all (by
    simp only [List.mem_cons, List.not_mem_nil, or_false, forall_eq_or_imp, forall_eq]
    exact ⟨⟨_, x4_0, ⟨_, rfl⟩⟩, ⟨_, x4_1, ⟨_, rfl⟩⟩⟩)⟩⟩, k4⟩
  have g4 := PySem.W.mg_of X G a4
  have F5 := fun_mk (st := s_is_name) l5 c5 k5
  have g5 := PySem.W.mg_of X G a5
  have b5 := F5.binds (ps := ["text"]) fun _ _ _ _ _ _ us hl => match us, hl with | [_], _ => rfl
  have F6 := fun_mk (st := s_is_goal) l6 c6 k6
  have g6 := PySem.W.mg_of X G a6
  have b6 := F6.binds (ps := ["value"]) fun _ _ _ _ _ _ us hl => match us, hl with | [_], _ => rfl
  have F7 := fun_mk (st := s_is_rule) l7 c7 k7
  have g7 := PySem.W.mg_of X G a7
  have b7 := F7.binds (ps := ["value"]) fun _ _ _ _ _ _ us hl => match us, hl with | [_], _ => rfl
  have F8 := fun_mk (st := s_term_text) l8 c8 k8
  have g8 := PySem.W.mg_of X G a8
  have b8 := F8.binds (ps := ["term"]) fun _ _ _ _ _ _ us hl => match us, hl with | [_], _ => rfl
  have F9 := fun_mk (st := s_part_text) l9 c9 k9
  have g9 := PySem.W.mg_of X G a9
  have b9 := F9.binds (ps := ["part"]) fun _ _ _ _ _ _ us hl => match us, hl with | [_], _ => rfl
  have F10 := fun_mk (st := s_parse_term) l10 c10 k10
  have g10 := PySem.W.mg_of X G a10
  have b10 := F10.binds (ps := ["text"]) fun _ _ _ _ _ _ us hl => match us, hl with | [_], _ => rfl
  have F11 := fun_mk (st := s_read_term) l11 c11 k11
  have g11 := PySem.W.mg_of X G a11
  have b11 := F11.binds (ps := ["text", "at", "levels"]) fun _ _ _ _ _ _ us hl => match us, hl with | [_, _, _], _ => rfl
  have F12 := fun_mk (st := s_read_part) l12 c12 k12
  have g12 := PySem.W.mg_of X G a12
  have b12 := F12.binds (ps := ["text", "at", "levels"]) fun _ _ _ _ _ _ us hl => match us, hl with | [_, _, _], _ => rfl
  have F13 := fun_mk (st := s_format_goal) l13 c13 k13
  have g13 := PySem.W.mg_of X G a13
  have b13 := F13.binds (ps := ["goal"]) fun _ _ _ _ _ _ us hl => match us, hl with | [_], _ => rfl
  have F14 := fun_mk (st := s_parse_goal) l14 c14 k14
  have g14 := PySem.W.mg_of X G a14
  have b14 := F14.binds (ps := ["text"]) fun _ _ _ _ _ _ us hl => match us, hl with | [_], _ => rfl
  have F15 := fun_mk (st := s_format_rule) l15 c15 k15
  have g15 := PySem.W.mg_of X G a15
  have b15 := F15.binds (ps := ["rule"]) fun _ _ _ _ _ _ us hl => match us, hl with | [_], _ => rfl
  have F16 := fun_mk (st := s_parse_rule) l16 c16 k16
  have g16 := PySem.W.mg_of X G a16
  have b16 := F16.binds (ps := ["text"]) fun _ _ _ _ _ _ us hl => match us, hl with | [_], _ => rfl
  have F17 := fun_mk (st := s_law_source) l17 c17 k17
  have g17 := PySem.W.mg_of X G a17
  have b17 := F17.binds (ps := ["_law_script"]) fun _ _ _ _ _ _ us hl => match us, hl with | [_], _ => rfl
  have F18 := fun_mk (st := s_law_take) l18 c18 k18
  have g18 := PySem.W.mg_of X G a18
  have b18 := F18.binds (ps := ["_law_source_here", "_law_many"]) fun _ _ _ _ _ _ us hl => match us, hl with | [_, _], _ => rfl
  have F19 := fun_mk (st := s_law_pick) l19 c19 k19
  have g19 := PySem.W.mg_of X G a19
  have b19 := F19.binds (ps := ["_law_source_here", "_law_row"]) fun _ _ _ _ _ _ us hl => match us, hl with | [_, _], _ => rfl
  have F20 := fun_mk (st := s_law_mixed) l20 c20 k20
  have g20 := PySem.W.mg_of X G a20
  have b20 := F20.binds (ps := ["_law_source_here", "_law_row"]) fun _ _ _ _ _ _ us hl => match us, hl with | [_, _], _ => rfl
  have F21 := fun_mk (st := s_law_same) l21 c21 k21
  have g21 := PySem.W.mg_of X G a21
  have b21 := F21.binds (ps := ["_law_found", "_law_due"]) fun _ _ _ _ _ _ us hl => match us, hl with | [_, _], _ => rfl
  have F22 := fun_mk (st := s_law_call) l22 c22 k22
  have g22 := PySem.W.mg_of X G a22
  have b22 := F22.binds (ps := ["_law_ask"]) fun _ _ _ _ _ _ us hl => match us, hl with | [_], _ => rfl
  have F23 := fun_mk (st := s_law_text) l23 c23 k23
  have g23 := PySem.W.mg_of X G a23
  have b23 := F23.binds (ps := ["_law_word"]) fun _ _ _ _ _ _ us hl => match us, hl with | [_], _ => rfl
  have F24 := fun_mk (st := s_law_leaves) l24 c24 k24
  have g24 := PySem.W.mg_of X G a24
  have b24 := F24.binds (ps := ["_law_word"]) fun _ _ _ _ _ _ us hl => match us, hl with | [_], _ => rfl
  have F25 := fun_mk (st := s_law_term) l25 c25 k25
  have g25 := PySem.W.mg_of X G a25
  have b25 := F25.binds (ps := ["_law_source_here", "_law_signs_here", "_law_deep", "_law_room"]) fun _ _ _ _ _ _ us hl => match us, hl with | [_, _, _, _], _ => rfl
  have F26 := fun_mk (st := s_law_any_term) l26 c26 k26
  have g26 := PySem.W.mg_of X G a26
  have b26 := F26.binds (ps := ["_law_source_here"]) fun _ _ _ _ _ _ us hl => match us, hl with | [_], _ => rfl
  have F27 := fun_mk (st := s_law_signs) l27 c27 k27
  have g27 := PySem.W.mg_of X G a27
  have b27 := F27.binds (ps := ["_law_source_here", "_law_most"]) fun _ _ _ _ _ _ us hl => match us, hl with | [_, _], _ => rfl
  have F28 := fun_mk (st := s_law_names) l28 c28 k28
  have g28 := PySem.W.mg_of X G a28
  have b28 := F28.binds (ps := ["_law_source_here", "_law_many"]) fun _ _ _ _ _ _ us hl => match us, hl with | [_, _], _ => rfl
  have F29 := fun_mk (st := s_law_odd) l29 c29 k29
  have g29 := PySem.W.mg_of X G a29
  have b29 := F29.binds (ps := ["_law_source_here", "_law_word"]) fun _ _ _ _ _ _ us hl => match us, hl with | [_, _], _ => rfl
  have F30 := fun_mk (st := s_law_nest) l30 c30 k30
  have g30 := PySem.W.mg_of X G a30
  have b30 := F30.binds (ps := ["_law_many"]) fun _ _ _ _ _ _ us hl => match us, hl with | [_], _ => rfl
  have F31 := fun_mk (st := s_law_read_term) l31 c31 k31
  have g31 := PySem.W.mg_of X G a31
  have b31 := F31.binds (ps := ["_law_mtext", "_law_deep"]) fun _ _ _ _ _ _ us hl => match us, hl with | [_, _], _ => rfl
  have F32 := fun_mk (st := s_law_read_piece) l32 c32 k32
  have g32 := PySem.W.mg_of X G a32
  have b32 := F32.binds (ps := ["_law_mtext", "_law_deep"]) fun _ _ _ _ _ _ us hl => match us, hl with | [_, _], _ => rfl
  have F33 := fun_mk (st := s_law_read) l33 c33 k33
  have g33 := PySem.W.mg_of X G a33
  have b33 := F33.binds (ps := ["_law_mtext"]) fun _ _ _ _ _ _ us hl => match us, hl with | [_], _ => rfl
  have F34 := fun_mk (st := s_law_spoilt) l34 c34 k34
  have g34 := PySem.W.mg_of X G a34
  have b34 := F34.binds (ps := ["_law_source_here", "_law_mtext"]) fun _ _ _ _ _ _ us hl => match us, hl with | [_, _], _ => rfl
  have F35 := fun_mk (st := s_law_is_name) l35 c35 k35
  have g35 := PySem.W.mg_of X G a35
  have b35 := F35.binds (ps := ["_law_mtext"]) fun _ _ _ _ _ _ us hl => match us, hl with | [_], _ => rfl
  have F36 := fun_mk (st := s_law_read_goal) l36 c36 k36
  have g36 := PySem.W.mg_of X G a36
  have b36 := F36.binds (ps := ["_law_mtext"]) fun _ _ _ _ _ _ us hl => match us, hl with | [_], _ => rfl
  have F37 := fun_mk (st := s_law_read_rule) l37 c37 k37
  have g37 := PySem.W.mg_of X G a37
  have b37 := F37.binds (ps := ["_law_mtext"]) fun _ _ _ _ _ _ us hl => match us, hl with | [_], _ => rfl
  have F38 := fun_mk (st := s_law_goal_text) l38 c38 k38
  have g38 := PySem.W.mg_of X G a38
  have b38 := F38.binds (ps := ["_law_left", "_law_right"]) fun _ _ _ _ _ _ us hl => match us, hl with | [_, _], _ => rfl
  have F39 := fun_mk (st := s_law_rule_text) l39 c39 k39
  have g39 := PySem.W.mg_of X G a39
  have b39 := F39.binds (ps := ["_law_one"]) fun _ _ _ _ _ _ us hl => match us, hl with | [_], _ => rfl
  have F40 := fun_mk (st := s_law_index_told) l40 c40 k40
  have g40 := PySem.W.mg_of X G a40
  have b40 := F40.binds (ps := ["_law_ask"]) fun _ _ _ _ _ _ us hl => match us, hl with | [_], _ => rfl
  have F41 := fun_mk (st := s_law) l41 c41 k41
  have g41 := PySem.W.mg_of X G a41
  have g_LETTERS := PySem.W.mg_of X G y0
  have h_OPERATORS : ∀ H, SqT K H oA1 [.str "&", .str "|"] := fun H => .inr ⟨_, _, _, yl1, rfl, rfl, (Nat.le_of_ble_eq_true rfl), (.cons ⟨_, rfl⟩ (.cons ⟨_, rfl⟩ .nil))⟩
  have g_OPERATORS := PySem.W.mg_of X G y1
  have g_MAX_DEPTH := PySem.W.mg_of X G y2
  have g_MAX_SIZE := PySem.W.mg_of X G y3
  have g_NAME_LETTERS := PySem.W.mg_of X G y4
  have g_MAX_NAME := PySem.W.mg_of X G y5
  have h_SIGNS : ∀ H, SqT K H oA6 [.str " & ", .str " | "] := fun H => .inr ⟨_, _, _, yl6, rfl, rfl, (Nat.le_of_ble_eq_true rfl), (.cons ⟨_, rfl⟩ (.cons ⟨_, rfl⟩ .nil))⟩
  have g_SIGNS := PySem.W.mg_of X G y6
  have m_len := PySem.W.mg_none_of X G z_len
  have m_int := PySem.W.mg_none_of X G z_int
  have m_list := PySem.W.mg_none_of X G z_list
  have m_str := PySem.W.mg_none_of X G z_str
  have m_tuple := PySem.W.mg_none_of X G z_tuple
  have m_isinstance := PySem.W.mg_none_of X G z_isinstance
  have m_bool := PySem.W.mg_none_of X G z_bool
  have m_dict := PySem.W.mg_none_of X G z_dict
  have m_all := PySem.W.mg_none_of X G z_all
  have m_zip := PySem.W.mg_none_of X G z_zip
  have m_sum := PySem.W.mg_none_of X G z_sum
  have m_max := PySem.W.mg_none_of X G z_max
  have m_min := PySem.W.mg_none_of X G z_min
  have m_range := PySem.W.mg_none_of X G z_range
  have m_super := PySem.W.mg_none_of X G z_super
  have m_sorted := PySem.W.mg_none_of X G z_sorted
  have g_FE := PySem.W.mg_of X G e1
  have e19_InvalidText : PySem.W.excInitIn K C_InvalidText FvX.veTail4 "ValueError.__new__" = true := by
    unfold PySem.W.excInitIn
    rw [e3_InvalidText]
    simp [excClassObj, e19t_InvalidText]
  have ex23_InvalidText : PySem.W.exmOne K (.ref C_InvalidText) (.ref CF) = some true := by
    unfold PySem.W.exmOne PySem.W.kitCls
    simp [e23a, show (PySem.W.clsIn K CF).isSome = true from e23b, e23c, e23d_InvalidText]
  have g_E_InvalidText := PySem.W.mg_of X G e2_InvalidText
  have OX_InvalidText : L2.OexC K C_InvalidText := ⟨⟨_, _, _, _, _, _, _, _, _, _, _, _, _, _, _, e3_InvalidText, e4_InvalidText⟩, e5_InvalidText, e6_InvalidText, e7_InvalidText, e8_InvalidText⟩
  have TI_InvalidText : FvX.ErrC l.prog.main.file K C_InvalidText f_InvalidText "InvalidText.__init__" q_InvalidText "this is not the text of such a value" "InvalidText" 0 0 := ⟨OX_InvalidText, ⟨_, _, _, _, _, _, _, _, _, _, _, _, _, _, _, _, _, _, _, e9_InvalidText, e10_InvalidText, e11_InvalidText, e12_InvalidText, e14_InvalidText, e15_InvalidText⟩, e16_InvalidText, e17_InvalidText, e18_InvalidText, e19_InvalidText, e20, e21_InvalidText, e13_InvalidText, e22_InvalidText⟩
  have LI_InvalidText : FvX.LineOk q_InvalidText "this is not the text of such a value" 0 := fun env => ⟨_, rfl⟩
  have XF_InvalidText : XfC K C_InvalidText := ⟨e24_InvalidText, e25_InvalidText, e6_InvalidText, e26_InvalidText⟩
  have e19_InvalidGoal : PySem.W.excInitIn K C_InvalidGoal FvX.veTail4 "ValueError.__new__" = true := by
    unfold PySem.W.excInitIn
    rw [e3_InvalidGoal]
    simp [excClassObj, e19t_InvalidGoal]
  have ex23_InvalidGoal : PySem.W.exmOne K (.ref C_InvalidGoal) (.ref CF) = some true := by
    unfold PySem.W.exmOne PySem.W.kitCls
    simp [e23a, show (PySem.W.clsIn K CF).isSome = true from e23b, e23c, e23d_InvalidGoal]
  have g_E_InvalidGoal := PySem.W.mg_of X G e2_InvalidGoal
  have OX_InvalidGoal : L2.OexC K C_InvalidGoal := ⟨⟨_, _, _, _, _, _, _, _, _, _, _, _, _, _, _, e3_InvalidGoal, e4_InvalidGoal⟩, e5_InvalidGoal, e6_InvalidGoal, e7_InvalidGoal, e8_InvalidGoal⟩
  have TI_InvalidGoal : FvX.ErrC l.prog.main.file K C_InvalidGoal f_InvalidGoal "InvalidGoal.__init__" q_InvalidGoal "the goal is not a pair of terms" "InvalidGoal" 0 0 := ⟨OX_InvalidGoal, ⟨_, _, _, _, _, _, _, _, _, _, _, _, _, _, _, _, _, _, _, e9_InvalidGoal, e10_InvalidGoal, e11_InvalidGoal, e12_InvalidGoal, e14_InvalidGoal, e15_InvalidGoal⟩, e16_InvalidGoal, e17_InvalidGoal, e18_InvalidGoal, e19_InvalidGoal, e20, e21_InvalidGoal, e13_InvalidGoal, e22_InvalidGoal⟩
  have LI_InvalidGoal : FvX.LineOk q_InvalidGoal "the goal is not a pair of terms" 0 := fun env => ⟨_, rfl⟩
  have XF_InvalidGoal : XfC K C_InvalidGoal := ⟨e24_InvalidGoal, e25_InvalidGoal, e6_InvalidGoal, e26_InvalidGoal⟩
  have e19_InvalidRules : PySem.W.excInitIn K C_InvalidRules FvX.veTail4 "ValueError.__new__" = true := by
    unfold PySem.W.excInitIn
    rw [e3_InvalidRules]
    simp [excClassObj, e19t_InvalidRules]
  have ex23_InvalidRules : PySem.W.exmOne K (.ref C_InvalidRules) (.ref CF) = some true := by
    unfold PySem.W.exmOne PySem.W.kitCls
    simp [e23a, show (PySem.W.clsIn K CF).isSome = true from e23b, e23c, e23d_InvalidRules]
  have ex30_InvalidRules : PySem.W.exmOne K (.ref C_InvalidRules) (.ref C_InvalidRules) = some true := by
    unfold PySem.W.exmOne PySem.W.kitCls
    simp [e6_InvalidRules, show (PySem.W.clsIn K C_InvalidRules).isSome = true from e29_InvalidRules, e7_InvalidRules, e30_InvalidRules]
  have g_E_InvalidRules := PySem.W.mg_of X G e2_InvalidRules
  have OX_InvalidRules : L2.OexC K C_InvalidRules := ⟨⟨_, _, _, _, _, _, _, _, _, _, _, _, _, _, _, e3_InvalidRules, e4_InvalidRules⟩, e5_InvalidRules, e6_InvalidRules, e7_InvalidRules, e8_InvalidRules⟩
  have TI_InvalidRules : FvX.ErrC1 l.prog.main.file K C_InvalidRules f_InvalidRules "InvalidRules.__init__" q_InvalidRules me_InvalidRules "InvalidRules" "index" 0 := ⟨OX_InvalidRules, ⟨_, _, _, _, _, _, _, _, _, _, _, _, _, _, _, _, _, _, _, e9_InvalidRules, e10_InvalidRules, e11_InvalidRules, e12_InvalidRules, e14_InvalidRules, e15_InvalidRules⟩, e16_InvalidRules, e17_InvalidRules, e18_InvalidRules, e19_InvalidRules, e20, e21_InvalidRules, e28_InvalidRules, e13_InvalidRules, e22_InvalidRules⟩
  have LI_InvalidRules : FvX.LineOk1 q_InvalidRules me_InvalidRules := fun env => ⟨_, rfl⟩
  have AI_InvalidRules : FvX.ArgsOk me_InvalidRules := fun env => rfl
  have XF_InvalidRules : XfC K C_InvalidRules := ⟨e24_InvalidRules, e25_InvalidRules, e6_InvalidRules, e26_InvalidRules⟩
  subst ecd
  have htab : PySem.W.tabIn K "law" = some (cL, Pt) := by
    unfold PySem.W.tabIn
    simp only [a41, l41, tlc, t11, PySem.W.fnOf]
  refine ⟨PySem.W.fnOf "law" "law" (defArgs s_law) (defBody s_law) (defScope s_law) .none kV41 dc41 pm41 an41 (.ref cL) ct41, cL, Pt, htab, tPt, fun s v => .of_eq rfl, fun base _ _ TB => ?_⟩
  have own : ∀ {k : Nat} {x : Str} {f : Addr} {fd : FuncData} {ps : List Str} {sp : Sp}, mg x = some (.ref f) → PySem.W.keepIn K (.ref f) = true → Binds K fd ps [] → FnOk l.prog w K mg base CX0 k f fd ps sp → Own l.prog w K mg base k x ps sp := fun a b c d => ⟨_, _, a, b, c, d⟩
  have ownR : ∀ {k : Nat} {x : Str} {f : Addr} {sp : Sp}, mg x = some (.ref f) → PySem.W.keepIn K (.ref f) = true → FnR l.prog w K mg base (L2.CX l.prog w) k f sp → OwnR l.prog w K mg base k x sp := fun a b c => ⟨_, a, b, c⟩
  have raw : ∀ {k : Nat} {f : Addr} {fd : FuncData} {ps : List Str} {sp : Sp}, FnOk l.prog w K mg base (L2.CX l.prog w) k f fd ps sp → Binds K fd ps [] → FnR l.prog w K mg base (L2.CX l.prog w) k f sp := fun F b => (FnOk.raw F b .nil).imp fun vs H Q E h => by rw [List.append_nil]; exact h
  have Csource := own g17 k17 b17 (ok_source (k := 0) F17 m_list)
  have Ctake := own g18 k18 b18 (ok_take (k := 0) F18 m_len m_int)
  have Cpick := own g19 k19 b19 (ok_pick (k := 1) F19 m_len Ctake)
  have Cmixed := own g20 k20 b20 (ok_mixed (k := 1) F20 m_len Ctake)
  have Ctake2 : Own l.prog w K mg base 2 _ _ spTake := own g18 k18 b18 (ok_take (k := 1) F18 m_len m_int)
  have Csigns := own g27 k27 b27 (ok_signs (k := 2) F27 m_list Ctake2 Cmixed)
  have Tn : ∀ n : Nat, FnOk l.prog w K mg base CX0 (2 + n) f25 _ _ (spTerm K n) := fun n => by
    induction n with
    | zero => exact term_zero
    | succ n ih => exact ok_term F25 m_tuple m_range (Nat.le_add_right 2 n) Ctake Cpick (own g25 k25 b25 ih)
  have Cterm := own g25 k25 b25 (Tn 5)
  have Cany := own g26 k26 b26 (ok_any_term (k := 7) F26 (by decide) Ctake Cpick Csigns Cterm)
  have Cnest := own g30 k30 b30 (ok_nest (k := 0) F30 m_range m_int)
  have Codd := own g29 k29 b29 (ok_oddN (k := 2) F29 (by decide) Cpick Cnest)
  have Sn : ∀ n : Nat, FnOk l.prog w K mg base CX0 (n) f21 _ _ (spSame K n) := fun n => by
    induction n with
    | zero => exact same_zero
    | succ n ih => exact ok_same F21 m_isinstance m_bool m_int m_str m_dict m_list m_tuple m_len m_all m_zip (own g21 k21 b21 ih)
  have Csame := own g21 k21 b21 (Sn 25)
  have Clet := own g1 k1 b1 (ok_is_letter (k := 0) F1 m_isinstance m_str m_len g_LETTERS)
  have Ccom := own g2 k2 b2 (ok_is_compound (k := 0) F2 m_isinstance m_tuple m_len g_OPERATORS h_OPERATORS)
  have Dn : ∀ n : Nat, FnOk l.prog w K mg base CX0 (1 + n) f3 _ _ (spMeas K n) := fun n => by
    induction n with
    | zero => exact meas_zero
    | succ n ih => exact ok_measured F3 m_max (Nat.le_add_right 1 n) Clet Ccom (own g3 k3 b3 ih)
  have Cmeasd := own g3 k3 b3 (Dn 20)
  have T := ok_is_term (P := l.prog) (w := w) (mg := mg) (base := base) (k := 21) F4 Cmeasd
  obtain ⟨ds0, vd0, bd0⟩ := binds_T F4
  have CT0 : OwnD l.prog w K mg base 22 "is_term" PsT [.int 5, .int 24] (spIsTerm K) := ⟨_, _, _, g4, k4, bd0, vd0, T⟩
  have Xn : ∀ n : Nat, FnOk l.prog w K mg base CX0 (n) f23 _ _ (spText K n) := fun n => by
    induction n with
    | zero => exact text_zero
    | succ n ih => exact ok_law_text F23 m_isinstance m_str (own g23 k23 b23 ih)
  have Ctext := own g23 k23 b23 (Xn 10)
  have TTn : ∀ n : Nat, FnOk l.prog w K mg base CX0 (2 * n + 1) f8 _ _ (spText K n) := fun n => by
    induction n with
    | zero => exact text_zero
    | succ n ih => exact ok_term_text (k := 2 * n + 2) F8 Clet (by omega) (own g9 k9 b9 (ok_part_text (k := 2 * n + 1) F9 Clet (by omega) (own g8 k8 b8 ih)))
  have Ctt := own g8 k8 b8 ((TTn 10).mono (k := 22) (by decide))
  have RTn : ∀ n : Nat, n ≤ 9 → FnOk l.prog w K mg base (L2.CX l.prog w) (2 * n + 1) f11 _ _ (spRdT K C_InvalidText n) := fun n => by
    induction n with
    | zero => exact fun _ => rdT_zero
    | succ n ih => exact fun hn => ok_read_term (k := 2 * n + 2) F11 (by omega) TI_InvalidText LI_InvalidText e27 m_super g_E_InvalidText g_SIGNS h_SIGNS Clet (ownR g12 k12 (raw (ok_read_part (k := 2 * n + 1) F12 (by omega) TI_InvalidText LI_InvalidText e27 m_super g_E_InvalidText Clet (ownR g11 k11 (raw (ih (by omega)) b11)) (by omega)) b12)) (by omega)
  have Crt := ownR g11 k11 (raw ((RTn 6 (by decide)).mono (k := 22) (by decide)) b11)
  have Fprs := (ok_parse_term (k := 22) F10 m_len g_MAX_DEPTH (by decide) TI_InvalidText LI_InvalidText e27 m_super g_E_InvalidText CT0 Crt).mono (k := 26) (by decide)
  have Vn : ∀ n : Nat, FnOk l.prog w K mg base CX0 (n) f24 _ _ (spLeaves K n) := fun n => by
    induction n with
    | zero => exact leaves_zero
    | succ n ih => exact ok_leaves F24 m_isinstance m_str m_sum (own g24 k24 b24 ih)
  have Cleaves := own g24 k24 b24 (Vn 6)
  have LRn : ∀ n : Nat, n ≤ 9 → FnOk l.prog w K mg base CX0 (2 * n + 1) f31 _ _ (spLR K lrT n) := fun n => by
    induction n with
    | zero => exact fun _ => lr_zero
    | succ n ih => exact fun hn => ok_lread_term (k := 2 * n + 2) F31 m_len m_int m_tuple (by omega) (own g32 k32 b32 (ok_read_piece (k := 2 * n + 1) F32 m_len (own g31 k31 b31 (ih (by omega)))))
  have Clrt := own g31 k31 b31 (LRn 6 (by decide))
  have Cread := own g33 k33 b33 (ok_lread (k := 13) F33 Clrt (own g24 k24 b24 ((Vn 6).mono (k := 13) (by decide))))
  have Cnm := own g5 k5 b5 (ok_is_name (k := 0) F5 m_isinstance m_str m_len m_all g_MAX_NAME g_NAME_LETTERS)
  have Cgl := own g6 k6 b6 (ok_is_goal (k := 22) F6 m_isinstance m_tuple m_len CT0)
  have Crl := own g7 k7 b7 (ok_is_rule (k := 23) F7 m_isinstance m_tuple m_len (own g5 k5 b5 ((ok_is_name (k := 0) F5 m_isinstance m_str m_len m_all g_MAX_NAME g_NAME_LETTERS).mono (k := 23) (by decide))) Cgl)
  have Cnames := own g28 k28 b28 (ok_names (k := 2) F28 m_range m_int (by decide) Ctake Cpick)
  have Cspoilt := own g34 k34 b34 (ok_spoilt (k := 1) F34 m_len m_min m_max Ctake)
  have Ffg := ok_format_goal (k := 23) F13 (by decide) TI_InvalidGoal LI_InvalidGoal e27 m_super g_E_InvalidGoal Cgl (own g8 k8 b8 ((TTn 10).mono (k := 23) (by decide)))
  have Ffr := (ok_format_rule (k := 24) F15 (by decide) TI_InvalidRules LI_InvalidRules AI_InvalidRules hme_InvalidRules e27 m_super g_E_InvalidRules Crl (ownR g13 k13 (raw Ffg b13))).mono (k := 28) (by decide)
  have Fpg := ok_parse_goal (k := 26) F14 (ownR g10 k10 (raw Fprs b10))
  have Fpr := ok_parse_rule (k := 27) F16 (by decide) TI_InvalidText LI_InvalidText e27 m_super g_E_InvalidText (own g5 k5 b5 ((ok_is_name (k := 0) F5 m_isinstance m_str m_len m_all g_MAX_NAME g_NAME_LETTERS).mono (k := 27) (by decide))) (ownR g14 k14 (raw Fpg b14))
  have Fgt := ok_law_goal_text (k := 10) F38 Ctext
  have Frt := ok_law_rule_text (k := 11) F39 (own g38 k38 b38 Fgt)
  have Flg := ok_law_read_goal (k := 14) F36 Cread
  have Flr := ok_law_read_rule (k := 15) F37 (own g36 k36 b36 Flg) (own g35 k35 b35 ((ok_law_is_name (k := 0) F35 m_len m_all).mono (k := 15) (by decide)))
  exact ok_law (k := 32) (by decide) l41 c41 TB m_range m_list l22 c22 k22 g22 b22 g_FE l40 c40 k40 g40 b40 g_E_InvalidRules
    ex23_InvalidText XF_InvalidText e21_InvalidText ex23_InvalidGoal XF_InvalidGoal e21_InvalidGoal ex30_InvalidRules XF_InvalidRules e28_InvalidRules Csource Ctake Cpick Cany Cnames Codd Csame
    (own g38 k38 b38 (Fgt.mono (k := 20) (by decide))) (own g39 k39 b39 (Frt.mono (k := 20) (by decide))) Cspoilt (own g36 k36 b36 (Flg.mono (k := 20) (by decide))) (own g37 k37 b37 (Flr.mono (k := 20) (by decide)))
    (own g5 k5 b5 ((ok_is_name (k := 0) F5 m_isinstance m_str m_len m_all g_MAX_NAME g_NAME_LETTERS).mono (k := 20) (by decide))) (own g35 k35 b35 ((ok_law_is_name (k := 0) F35 m_len m_all).mono (k := 20) (by decide)))
    (ownR g13 k13 (raw (Ffg.mono (k := 28) (by decide)) b13)) (ownR g15 k15 (raw Ffr b15)) ⟨_, _, _, g15, k15, ⟨fun s us ws _ h1 h2 => match us, ws, h1, h2 with | [], [_], _, _ => .of_eq rfl, fun r rz => r.append rz⟩, Ffr⟩
    (ownR g14 k14 (raw (Fpg.mono (k := 28) (by decide)) b14)) ⟨_, _, _, g16, k16, ⟨fun s us ws _ h1 h2 => match us, ws, h1, h2 with | [], [_], _, _ => .of_eq rfl, fun r rz => r.append rz⟩, Fpr⟩
theorem walk {l : PySem.W.OpenLaw} {q : Program} {loose : List Str} {XP : (Str → Option Value) → Heap → Prop} {YP : World → Heap → Prop} {d : DefRec} {K : Params → PySem.W.Frag} (hn : l.most = some 63) (hdf : d.params.defaults = [])
    (hY : ∀ (w : World) (h : Heap), YP w h → (K w.params).In h) (hrec : ∃ d', (PyProof.Rows.recsOf q).find? (fun e => e.name == ("law" : Str)) = some d')
    (F : ∀ (w : World) (mg : Str → Option Value) (fa : Addr) (h : Heap), (K w.params).In h → h.Ns mainGlobals mg → mg d.name = some (.ref fa) →
      ∃ (fd : FuncData) (c Pt : Addr), PySem.W.tabIn (K w.params) "law" = some (c, Pt) ∧ (K w.params).lookup Pt = none ∧ (∀ (s : Shared) (v : Value), BindsTo s fd ⟨[v], []⟩ [("_law_script", v)]) ∧
        ∀ base : Heap, (K w.params).In base → base.Ns mainGlobals mg → LamX.TabB base mg c Pt → FnOk l.prog w (K w.params) mg base CX0 33 fa fd ["_law_script"] (spLawT (K w.params) Pt)) :
    PySem.W.WalkO q loose XP YP l.row.toRowW d [] (fun f vs => PySem.call f vs) := by
  refine Att.attach_callB hn hdf fun w s₀ s₁ mg mb fa o pm cd doc a vs ns G Y ho hd hcd hmg hobj hints hlen hbits hg => ?_
  have KX := hY w _ Y
  obtain ⟨fd, c, Pt, ht, hno, hb, hF⟩ := F w mg fa _ KX G.T.g hmg
  obtain ⟨d', hrec⟩ := hrec
  obtain ⟨hC, hT⟩ := PySem.W.tab_of G.T KX hrec ht
  refine LamX.law_callTs (cs := [(c, Pt)]) (k := 33) (CX := CX0) (sp := spLawT (K w.params) Pt) KX G.T.g G.T.b G.T.builtins G.T.nolimit hg ?_ ?_ ?_ G.T.bmain hobj hints (Nat.le_trans hlen (by decide)) ⟨rfl, by decide, by decide⟩ (fun base k1 k2 tb => hF base k1 k2 (tb (c, Pt) (List.mem_singleton.mpr rfl))) hb (fun H hH hS => ⟨a, ns, rfl, hS, hlen, hH (c, Pt) (List.mem_singleton.mpr rfl), fun _ => rfl⟩) fun _ _ _ z => z
  · intro p hp
    rw [List.mem_singleton.mp hp]
    exact hT
  · intro p hp
    rw [List.mem_singleton.mp hp]
    exact hno
  · intro p hp
    rw [List.mem_singleton.mp hp]
    exact hC
end Fv
open PySem PySem.W PyProof.Rows
set_option maxRecDepth 100000 in
set_option maxHeartbeats 0 in
theorem PySem.Challenge.cw_fivefault_k07_texts_of_rules_and_goals_holds : PySem.Challenge.rw_fivefault_k07_texts_of_rules_and_goals.Holds := by
  w_on; o_law; k_head; (case hw => w_witness2)
  k_fill
  refine Fv.walk (l := PySem.Challenge.rw_fivefault_k07_texts_of_rules_and_goals) rfl rfl (fun w h Y => PySem.W.km_in_of Y) ?R ?F
  case R => exact ⟨_, rfl⟩
  case F =>
    intro w mg fa h KX G hmg
    refine' Fv.all_mk KX G hmg ?a1 ?l1 ?c1 ?k1 ?a2 ?l2 ?c2 ?k2 ?a3 ?l3 ?c3 ?k3 ?a4 ?l4 ?c4 ?k4 ?x4_0 ?x4_1 ?a5 ?l5 ?c5 ?k5 ?a6 ?l6 ?c6 ?k6 ?a7 ?l7 ?c7 ?k7 ?a8 ?l8 ?c8 ?k8 ?a9 ?l9 ?c9 ?k9 ?a10 ?l10 ?c10 ?k10 ?a11 ?l11 ?c11 ?k11 ?a12 ?l12 ?c12 ?k12 ?a13 ?l13 ?c13 ?k13 ?a14 ?l14 ?c14 ?k14 ?a15 ?l15 ?c15 ?k15 ?a16 ?l16 ?c16 ?k16 ?a17 ?l17 ?c17 ?k17 ?a18 ?l18 ?c18 ?k18 ?a19 ?l19 ?c19 ?k19 ?a20 ?l20 ?c20 ?k20 ?a21 ?l21 ?c21 ?k21 ?a22 ?l22 ?c22 ?k22 ?a23 ?l23 ?c23 ?k23 ?a24 ?l24 ?c24 ?k24 ?a25 ?l25 ?c25 ?k25 ?a26 ?l26 ?c26 ?k26 ?a27 ?l27 ?c27 ?k27 ?a28 ?l28 ?c28 ?k28 ?a29 ?l29 ?c29 ?k29 ?a30 ?l30 ?c30 ?k30 ?a31 ?l31 ?c31 ?k31 ?a32 ?l32 ?c32 ?k32 ?a33 ?l33 ?c33 ?k33 ?a34 ?l34 ?c34 ?k34 ?a35 ?l35 ?c35 ?k35 ?a36 ?l36 ?c36 ?k36 ?a37 ?l37 ?c37 ?k37 ?a38 ?l38 ?c38 ?k38 ?a39 ?l39 ?c39 ?k39 ?a40 ?l40 ?c40 ?k40 ?a41 ?l41 ?c41 ?k41 ?y0 ?y1 ?yl1 ?y2 ?y3 ?y4 ?y5 ?y6 ?yl6 ?z_len ?z_int ?z_list ?z_str ?z_tuple ?z_isinstance ?z_bool ?z_dict ?z_all ?z_zip ?z_sum ?z_max ?z_min ?z_range ?z_super ?z_sorted ?e1 ?e23a ?e23b ?e23c ?e20 ?e27 ?e2_InvalidText ?e3_InvalidText ?e4_InvalidText ?e5_InvalidText ?e6_InvalidText ?e7_InvalidText ?e8_InvalidText ?e13_InvalidText ?e9_InvalidText ?e10_InvalidText ?e11_InvalidText ?e12_InvalidText ?e14_InvalidText ?e15_InvalidText ?e16_InvalidText ?e17_InvalidText ?e18_InvalidText ?e19t_InvalidText ?e21_InvalidText ?e22_InvalidText ?e23d_InvalidText ?e24_InvalidText ?e25_InvalidText ?e26_InvalidText ?e2_InvalidGoal ?e3_InvalidGoal ?e4_InvalidGoal ?e5_InvalidGoal ?e6_InvalidGoal ?e7_InvalidGoal ?e8_InvalidGoal ?e13_InvalidGoal ?e9_InvalidGoal ?e10_InvalidGoal ?e11_InvalidGoal ?e12_InvalidGoal ?e14_InvalidGoal ?e15_InvalidGoal ?e16_InvalidGoal ?e17_InvalidGoal ?e18_InvalidGoal ?e19t_InvalidGoal ?e21_InvalidGoal ?e22_InvalidGoal ?e23d_InvalidGoal ?e24_InvalidGoal ?e25_InvalidGoal ?e26_InvalidGoal ?e2_InvalidRules ?e3_InvalidRules ?e4_InvalidRules ?e5_InvalidRules ?e6_InvalidRules ?e7_InvalidRules ?e8_InvalidRules ?e13_InvalidRules ?e9_InvalidRules ?e10_InvalidRules ?e11_InvalidRules ?e12_InvalidRules ?e14_InvalidRules ?e15_InvalidRules ?e16_InvalidRules ?e17_InvalidRules ?e18_InvalidRules ?e19t_InvalidRules ?e21_InvalidRules ?e28_InvalidRules ?e29_InvalidRules ?e30_InvalidRules ?e22_InvalidRules ?e23d_InvalidRules ?e24_InvalidRules ?e25_InvalidRules ?e26_InvalidRules ?ecd ?tlc ?t11 ?tPt
    (case a1 => k_is)
    (case l1 => k_is)
    (case c1 => k_is)
    (case k1 => k_is)
    (case a2 => k_is)
    (case l2 => k_is)
    (case c2 => k_is)
    (case k2 => k_is)
    (case a3 => k_is)
    (case l3 => k_is)
    (case c3 => k_is)
    (case k3 => k_is)
    (case a4 => k_is)
    (case l4 => k_is)
    (case c4 => k_is)
    (case k4 => k_is)
    (case x4_0 => k_is)
    (case x4_1 => k_is)
    (case a5 => k_is)
    (case l5 => k_is)
    (case c5 => k_is)
    (case k5 => k_is)
    (case a6 => k_is)
    (case l6 => k_is)
    (case c6 => k_is)
    (case k6 => k_is)
    (case a7 => k_is)
    (case l7 => k_is)
    (case c7 => k_is)
    (case k7 => k_is)
    (case a8 => k_is)
    (case l8 => k_is)
    (case c8 => k_is)
    (case k8 => k_is)
    (case a9 => k_is)
    (case l9 => k_is)
    (case c9 => k_is)
    (case k9 => k_is)
    (case a10 => k_is)
    (case l10 => k_is)
    (case c10 => k_is)
    (case k10 => k_is)
    (case a11 => k_is)
    (case l11 => k_is)
    (case c11 => k_is)
    (case k11 => k_is)
    (case a12 => k_is)
    (case l12 => k_is)
    (case c12 => k_is)
    (case k12 => k_is)
    (case a13 => k_is)
    (case l13 => k_is)
    (case c13 => k_is)
    (case k13 => k_is)
    (case a14 => k_is)
    (case l14 => k_is)
    (case c14 => k_is)
    (case k14 => k_is)
    (case a15 => k_is)
    (case l15 => k_is)
    (case c15 => k_is)
    (case k15 => k_is)
    (case a16 => k_is)
    (case l16 => k_is)
    (case c16 => k_is)
    (case k16 => k_is)
    (case a17 => k_is)
    (case l17 => k_is)
    (case c17 => k_is)
    (case k17 => k_is)
    (case a18 => k_is)
    (case l18 => k_is)
    (case c18 => k_is)
    (case k18 => k_is)
    (case a19 => k_is)
    (case l19 => k_is)
    (case c19 => k_is)
    (case k19 => k_is)
    (case a20 => k_is)
    (case l20 => k_is)
    (case c20 => k_is)
    (case k20 => k_is)
    (case a21 => k_is)
    (case l21 => k_is)
    (case c21 => k_is)
    (case k21 => k_is)
    (case a22 => k_is)
    (case l22 => k_is)
    (case c22 => k_is)
    (case k22 => k_is)
    (case a23 => k_is)
    (case l23 => k_is)
    (case c23 => k_is)
    (case k23 => k_is)
    (case a24 => k_is)
    (case l24 => k_is)
    (case c24 => k_is)
    (case k24 => k_is)
    (case a25 => k_is)
    (case l25 => k_is)
    (case c25 => k_is)
    (case k25 => k_is)
    (case a26 => k_is)
    (case l26 => k_is)
    (case c26 => k_is)
    (case k26 => k_is)
    (case a27 => k_is)
    (case l27 => k_is)
    (case c27 => k_is)
    (case k27 => k_is)
    (case a28 => k_is)
    (case l28 => k_is)
    (case c28 => k_is)
    (case k28 => k_is)
    (case a29 => k_is)
    (case l29 => k_is)
    (case c29 => k_is)
    (case k29 => k_is)
    (case a30 => k_is)
    (case l30 => k_is)
    (case c30 => k_is)
    (case k30 => k_is)
    (case a31 => k_is)
    (case l31 => k_is)
    (case c31 => k_is)
    (case k31 => k_is)
    (case a32 => k_is)
    (case l32 => k_is)
    (case c32 => k_is)
    (case k32 => k_is)
    (case a33 => k_is)
    (case l33 => k_is)
    (case c33 => k_is)
    (case k33 => k_is)
    (case a34 => k_is)
    (case l34 => k_is)
    (case c34 => k_is)
    (case k34 => k_is)
    (case a35 => k_is)
    (case l35 => k_is)
    (case c35 => k_is)
    (case k35 => k_is)
    (case a36 => k_is)
    (case l36 => k_is)
    (case c36 => k_is)
    (case k36 => k_is)
    (case a37 => k_is)
    (case l37 => k_is)
    (case c37 => k_is)
    (case k37 => k_is)
    (case a38 => k_is)
    (case l38 => k_is)
    (case c38 => k_is)
    (case k38 => k_is)
    (case a39 => k_is)
    (case l39 => k_is)
    (case c39 => k_is)
    (case k39 => k_is)
    (case a40 => k_is)
    (case l40 => k_is)
    (case c40 => k_is)
    (case k40 => k_is)
    (case a41 => k_is)
    (case l41 => k_is)
    (case c41 => k_is)
    (case k41 => k_is)
    (case y0 => k_is)
    (case y1 => k_is)
    (case yl1 => k_is)
    (case y2 => k_is)
    (case y3 => k_is)
    (case y4 => k_is)
    (case y5 => k_is)
    (case y6 => k_is)
    (case yl6 => k_is)
    (case z_len => k_is)
    (case z_int => k_is)
    (case z_list => k_is)
    (case z_str => k_is)
    (case z_tuple => k_is)
    (case z_isinstance => k_is)
    (case z_bool => k_is)
    (case z_dict => k_is)
    (case z_all => k_is)
    (case z_zip => k_is)
    (case z_sum => k_is)
    (case z_max => k_is)
    (case z_min => k_is)
    (case z_range => k_is)
    (case z_super => k_is)
    (case z_sorted => k_is)
    (case e1 => k_is)
    (case e23a => k_is)
    (case e23b => k_is)
    (case e23c => k_is)
    (case e20 => k_is)
    (case e27 => decide +kernel)
    (case e2_InvalidText => k_is)
    (case e3_InvalidText => k_is)
    (case e4_InvalidText => decide +kernel)
    (case e5_InvalidText => k_is)
    (case e6_InvalidText => k_is)
    (case e7_InvalidText => k_is)
    (case e8_InvalidText => k_is)
    (case e13_InvalidText => k_is)
    (case e9_InvalidText => k_is)
    (case e10_InvalidText => k_is)
    (case e11_InvalidText => k_is)
    (case e12_InvalidText => exact rfl)
    (case e14_InvalidText => decide +kernel)
    (case e15_InvalidText => k_is)
    (case e16_InvalidText => ks_is)
    (case e17_InvalidText => k_is)
    (case e18_InvalidText => k_is)
    (case e19t_InvalidText => decide +kernel)
    (case e21_InvalidText => k_is)
    (case e22_InvalidText => k_is)
    (case e23d_InvalidText => k_is)
    (case e24_InvalidText => k_is)
    (case e25_InvalidText => k_is)
    (case e26_InvalidText => k_is)
    (case e2_InvalidGoal => k_is)
    (case e3_InvalidGoal => k_is)
    (case e4_InvalidGoal => decide +kernel)
    (case e5_InvalidGoal => k_is)
    (case e6_InvalidGoal => k_is)
    (case e7_InvalidGoal => k_is)
    (case e8_InvalidGoal => k_is)
    (case e13_InvalidGoal => k_is)
    (case e9_InvalidGoal => k_is)
    (case e10_InvalidGoal => k_is)
    (case e11_InvalidGoal => k_is)
    (case e12_InvalidGoal => exact rfl)
    (case e14_InvalidGoal => decide +kernel)
    (case e15_InvalidGoal => k_is)
    (case e16_InvalidGoal => ks_is)
    (case e17_InvalidGoal => k_is)
    (case e18_InvalidGoal => k_is)
    (case e19t_InvalidGoal => decide +kernel)
    (case e21_InvalidGoal => k_is)
    (case e22_InvalidGoal => k_is)
    (case e23d_InvalidGoal => k_is)
    (case e24_InvalidGoal => k_is)
    (case e25_InvalidGoal => k_is)
    (case e26_InvalidGoal => k_is)
    (case e2_InvalidRules => k_is)
    (case e3_InvalidRules => k_is)
    (case e4_InvalidRules => decide +kernel)
    (case e5_InvalidRules => k_is)
    (case e6_InvalidRules => k_is)
    (case e7_InvalidRules => k_is)
    (case e8_InvalidRules => k_is)
    (case e13_InvalidRules => k_is)
    (case e9_InvalidRules => k_is)
    (case e10_InvalidRules => k_is)
    (case e11_InvalidRules => k_is)
    (case e12_InvalidRules => exact rfl)
    (case e14_InvalidRules => decide +kernel)
    (case e15_InvalidRules => k_is)
    (case e16_InvalidRules => ks_is)
    (case e17_InvalidRules => k_is)
    (case e18_InvalidRules => k_is)
    (case e19t_InvalidRules => decide +kernel)
    (case e21_InvalidRules => k_is)
    (case e28_InvalidRules => k_is)
    (case e29_InvalidRules => k_is)
    (case e30_InvalidRules => k_is)
    (case e22_InvalidRules => k_is)
    (case e23d_InvalidRules => k_is)
    (case e24_InvalidRules => k_is)
    (case e25_InvalidRules => k_is)
    (case e26_InvalidRules => k_is)
    (case ecd => exact rfl)
    (case tlc => k_is)
    (case t11 => exact rfl)
    (case tPt => kernel_rfl)
