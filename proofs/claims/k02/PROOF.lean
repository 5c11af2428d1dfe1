import PyProof.Rows.All
import Wide.All
import OpenK.AllK
import Wide.FinOn
import HandS.Base
import HandS.Call
import HandS.List
import HandS.Comp
import HandS.Ends
import HandS.Iter
import HandS.Text
import HandS.Words
import HandS.WordsList
import HandS.More
import HandS.Codes
import HandS.IsInst
import HandS.Zip
import HandS.Walk
import HandS.Style
import HandS.Defaults
import HandS.MakeKwOnly
import KE.KExcSuper
import HandS.Exc
import HandS.ExcInit
import HandS.ExcField
import HandS.Lambda
import HandS.Star
import HandS.WordsExc
import HandS.FStr
import KE.KeyNested
import HandS.Conv
import HandS.Dict
import KE.KRevSl
import HandS.GenList
import HandS.Deep
import HandS.Set
import HandS.Strs
import HandS.NoneIn
import HandS.EndTab
import PySem.Challenge.RW_fivefault_k02_measures_and_subterms
set_option Elab.async false
set_option linter.all false
set_option maxRecDepth 100000

namespace Fv
open PySem PySem.Spec PyProof.Rows L2
/-! ### heaps -/
theorem same_upd {H : Hp} {p : Addr} {o : HO} (h : H p = none) : Same H (upd H p o) := fun b x e => by
  rw [upd_ne (ne_of_none e h)]
  exact e
/-- all but what stands at M is as it was -/
def SmX (M : List Addr) (H H' : Hp) : Prop := ∀ b o, b ∉ M → H b = some o → H' b = some o
theorem SmX.refl (M : List Addr) (H : Hp) : SmX M H H := fun _ _ _ h => h
theorem SmX.trans {M : List Addr} {H H1 H2 : Hp} (a : SmX M H H1) (b : SmX M H1 H2) : SmX M H H2 := fun c o m h => b c o m (a c o m h)
theorem SmX.of_same {M : List Addr} {H H1 : Hp} (a : Same H H1) : SmX M H H1 := fun c o _ h => a c o h
theorem SmX.new {M : List Addr} {H : Hp} {p : Addr} {o : HO} (h : H p = none) : SmX M H (upd H p o) := .of_same (same_upd h)
theorem SmX.sub {M M' : List Addr} {H H1 : Hp} (a : SmX M H H1) (h : ∀ b, b ∈ M → b ∈ M' ∨ H b = none) : SmX M' H H1 := fun c o m e => by
  refine a c o (fun hc => ?_) e
  rcases h c hc with q | q
  · exact m q
  · rw [q] at e; cases e
theorem SmX.at {M : List Addr} {H H1 : Hp} {a : Addr} (h : ∀ b, b ≠ a → H1 b = H b) (m : a ∈ M) : SmX M H H1 := fun c o n e => by
  rw [h c (fun z => n (z ▸ m))]; exact e
theorem SmX.put {M : List Addr} {H H1 : Hp} {p : Addr} {o : HO} (a : SmX M H H1) (m : p ∈ M) : SmX M H (L2.upd H1 p o) := fun c x n e => by
  have ne : c ≠ p := fun z => n (z ▸ m)
  rw [upd_ne ne]; exact a c x n e
/-- what does not stand at M -/
def hide (M : List Addr) (H : Hp) : Hp := fun b => if b ∈ M then none else H b
theorem hide_ne {M : List Addr} {H : Hp} {b : Addr} (h : b ∉ M) : hide M H b = H b := by unfold hide; rw [if_neg h]
theorem hide_some {M : List Addr} {H : Hp} {b : Addr} {o : HO} (h : hide M H b = some o) : b ∉ M ∧ H b = some o := by
  unfold hide at h
  by_cases m : b ∈ M
  · rw [if_pos m] at h; cases h
  · rw [if_neg m] at h; exact ⟨m, h⟩
theorem hide_same {M : List Addr} {H : Hp} : Same (hide M H) H := fun b o h => (hide_some h).2
theorem SmX.hid {M : List Addr} {H H' : Hp} (h : SmX M H H') : Same (hide M H) (hide M H') := fun b o e => by
  obtain ⟨m, e⟩ := hide_some e
  rw [hide_ne m]
  exact h b o m e
theorem hide_sub {M M' : List Addr} {H : Hp} (h : ∀ b, b ∈ M' → b ∈ M) : Same (hide M H) (hide M' H) := fun b o e => by
  obtain ⟨m, e⟩ := hide_some e
  rw [hide_ne (fun z => m (h b z))]
  exact e
theorem same_seqT {K : PySem.W.Frag} {H H' : Hp} {a : Addr} {xs : List V} (e : Same H H') (h : SqT K H a xs) : SqT K H' a xs := by
  rcases h with (h | ⟨o, h⟩) | h
  · exact .inl (.inl (e _ _ h))
  · exact .inl (.inr ⟨o, e _ _ h⟩)
  · exact .inr h
mutual
theorem dp_same {K : PySem.W.Frag} {H H' : Hp} (e : Same H H') : ∀ (d : PyData) (v : V), Dp K H v d → Dp K H' v d
  | .none, _, h => by cases h; exact .non
  | .bool b, _, h => by cases h; exact .bl b
  | .int i, _, h => by cases h; exact .int i
  | .str x, _, h => by cases h; exact .str x
  | .list ds, _, h => by cases h with | lst hs ha => exact .lst (e.seq hs) (dpAll_same e ds _ ha)
  | .tuple ds, _, h => by cases h with | tup hs ha => exact .tup (same_seqT e hs) (dpAll_same e ds _ ha)
  | .dict kvs, _, h => by cases h
theorem dpAll_same {K : PySem.W.Frag} {H H' : Hp} (e : Same H H') : ∀ (ds : List PyData) (vs : List V), DpAll K H vs ds → DpAll K H' vs ds
  | [], _, h => by cases h; exact .nil
  | d :: ds, _, h => by cases h with | cons h1 h2 => exact .cons (dp_same e d _ h1) (dpAll_same e ds _ h2)
end
theorem dpAll_len {K : PySem.W.Frag} {H : Hp} : ∀ {vs : List V} {ds : List PyData}, DpAll K H vs ds → vs.length = ds.length
  | _, _, .nil => rfl
  | _, _, .cons _ h => by rw [List.length_cons, List.length_cons, dpAll_len h]
theorem dpAll_get {K : PySem.W.Frag} {H : Hp} : ∀ {vs : List V} {ds : List PyData} {i : Nat} {v : V}, DpAll K H vs ds → vs[i]? = some v → ∃ d, ds[i]? = some d ∧ Dp K H v d
  | _, _, _, _, .nil, e => by simp at e
  | _, _, 0, _, .cons h _, e => by simp at e; subst e; exact ⟨_, rfl, h⟩
  | _ :: vs, _ :: ds, i + 1, _, .cons _ h, e => by
    have e' : vs[i]? = some _ := e
    exact dpAll_get (ds := ds) h e'
theorem dpAll_app {K : PySem.W.Frag} {H : Hp} : ∀ {vs ws : List V} {ds es : List PyData}, DpAll K H vs ds → DpAll K H ws es → DpAll K H (vs ++ ws) (ds ++ es)
  | _, _, _, _, .nil, h => h
  | _, _, _, _, .cons h1 h2, h => .cons h1 (dpAll_app h2 h)
theorem dpAll_drop {K : PySem.W.Frag} {H : Hp} : ∀ (n : Nat) {vs : List V} {ds : List PyData}, DpAll K H vs ds → DpAll K H (vs.drop n) (ds.drop n)
  | 0, _, _, h => h
  | n + 1, _, _, .nil => .nil
  | n + 1, _, _, .cons _ h => dpAll_drop n h
/-! ### data -/
mutual
/-- plain data, nested at most n deep -/
def gd : Nat → PyData → Bool
  | _, .none => true
  | _, .bool _ => true
  | _, .int _ => true
  | _, .str x => PyData.strOk x && decide (x.length ≤ 100000)
  | 0, _ => false
  | n + 1, .list ds => gdAll n ds && decide (ds.length ≤ 1000)
  | n + 1, .tuple ds => gdAll n ds && decide (ds.length ≤ 1000)
  | _, .dict _ => false
def gdAll : Nat → List PyData → Bool
  | _, [] => true
  | n, d :: ds => gd n d && gdAll n ds
end
theorem gdAll_iff {n : Nat} : ∀ {ds : List PyData}, gdAll n ds = true ↔ ∀ d ∈ ds, gd n d = true
  | [] => by simp [gdAll]
  | d :: ds => by simp [gdAll, gdAll_iff (n := n) (ds := ds)]
mutual
theorem gd_up : ∀ (n : Nat) (d : PyData), gd n d = true → gd (n + 1) d = true
  | _, .none, _ => rfl
  | _, .bool _, _ => rfl
  | _, .int _, _ => rfl
  | 0, .str x, h => h
  | n + 1, .str x, h => h
  | 0, .list _, h => by cases h
  | 0, .tuple _, h => by cases h
  | 0, .dict _, h => by cases h
  | n + 1, .list ds, h => by
    simp only [gd, Bool.and_eq_true] at h ⊢
    exact ⟨gdAll_up n ds h.1, h.2⟩
  | n + 1, .tuple ds, h => by
    simp only [gd, Bool.and_eq_true] at h ⊢
    exact ⟨gdAll_up n ds h.1, h.2⟩
  | n + 1, .dict _, h => by cases h
theorem gdAll_up : ∀ (n : Nat) (ds : List PyData), gdAll n ds = true → gdAll (n + 1) ds = true
  | _, [], _ => rfl
  | n, d :: ds, h => by
    simp only [gdAll, Bool.and_eq_true] at h ⊢
    exact ⟨gd_up n d h.1, gdAll_up n ds h.2⟩
end
theorem gd_le {n m : Nat} {d : PyData} (h : gd n d = true) (hm : n ≤ m) : gd m d = true := by
  induction hm with
  | refl => exact h
  | step _ ih => exact gd_up _ _ ih
mutual
theorem gd_lay : ∀ (n : Nat) (d : PyData), gd n d = true → d.canLay0 = true ∧ d.depth ≤ n
  | _, .none, _ => ⟨rfl, by simp [PyData.depth]⟩
  | _, .bool _, _ => ⟨rfl, by simp [PyData.depth]⟩
  | _, .int _, _ => ⟨rfl, by simp [PyData.depth]⟩
  | 0, .str x, h => ⟨by simp only [gd, Bool.and_eq_true] at h; simpa [PyData.canLay0] using h.1, by simp [PyData.depth]⟩
  | n + 1, .str x, h => ⟨by simp only [gd, Bool.and_eq_true] at h; simpa [PyData.canLay0] using h.1, by simp [PyData.depth]⟩
  | 0, .list _, h => by cases h
  | 0, .tuple _, h => by cases h
  | 0, .dict _, h => by cases h
  | n + 1, .list ds, h => by
    have q := gdAll_lay n ds (by simp only [gd, Bool.and_eq_true] at h; exact h.1)
    exact ⟨by simpa [PyData.canLay0] using q.1, by simp only [PyData.depth]; omega⟩
  | n + 1, .tuple ds, h => by
    have q := gdAll_lay n ds (by simp only [gd, Bool.and_eq_true] at h; exact h.1)
    exact ⟨by simpa [PyData.canLay0] using q.1, by simp only [PyData.depth]; omega⟩
  | n + 1, .dict _, h => by cases h
theorem gdAll_lay : ∀ (n : Nat) (ds : List PyData), gdAll n ds = true → PyData.canLayAll0 ds = true ∧ PyData.depthAll ds ≤ n
  | _, [], _ => ⟨rfl, by simp [PyData.depthAll]⟩
  | n, d :: ds, h => by
    simp only [gdAll, Bool.and_eq_true] at h
    have a := gd_lay n d h.1
    have b := gdAll_lay n ds h.2
    exact ⟨by simp [PyData.canLayAll0, a.1, b.1], by simp only [PyData.depthAll]; omega⟩
end
theorem gd_list {n : Nat} {ds : List PyData} (h : gd (n + 1) (.list ds) = true) : ds.length ≤ 1000 ∧ ∀ d ∈ ds, gd n d = true := by
  simp only [gd, Bool.and_eq_true, decide_eq_true_eq] at h
  exact ⟨h.2, gdAll_iff.mp h.1⟩
theorem gd_tuple {n : Nat} {ds : List PyData} (h : gd (n + 1) (.tuple ds) = true) : ds.length ≤ 1000 ∧ ∀ d ∈ ds, gd n d = true := by
  simp only [gd, Bool.and_eq_true, decide_eq_true_eq] at h
  exact ⟨h.2, gdAll_iff.mp h.1⟩
theorem gd_tup {n : Nat} {ds : List PyData} (h : ∀ d ∈ ds, gd n d = true) (hl : ds.length ≤ 1000) : gd (n + 1) (.tuple ds) = true := by
  simp only [gd, Bool.and_eq_true, decide_eq_true_eq]
  exact ⟨gdAll_iff.mpr h, hl⟩
theorem gd_lst {n : Nat} {ds : List PyData} (h : ∀ d ∈ ds, gd n d = true) (hl : ds.length ≤ 1000) : gd (n + 1) (.list ds) = true := by
  simp only [gd, Bool.and_eq_true, decide_eq_true_eq]
  exact ⟨gdAll_iff.mpr h, hl⟩
theorem gd_shaped {n : Nat} {d : PyData} (h : gd n d = true) (hn : n ≤ 64) : SeqAt.shaped d = true := by
  have q := gd_lay n d h
  show (d.canLay0 && decide (d.depth ≤ 64)) = true
  rw [q.1, decide_eq_true (Nat.le_trans q.2 hn)]
  rfl
end Fv


namespace Fv
open PySem PySem.Spec PyProof.Rows L2
/-! ### an own def as its callers see it -/
structure Own (P : Program) (w : World) (K : PySem.W.Frag) (mg : Str → Option Value) (base : Heap) (k : Nat) (x : Str) (ps : List Str) (sp : Sp) : Prop where
  ex : ∃ (f : Addr) (fd : FuncData), mg x = some (.ref f) ∧ PySem.W.keepIn K (.ref f) = true ∧ Binds K fd ps [] ∧ FnOk P w K mg base CX0 k f fd ps sp
section
variable {X : Cx} {k : Nat} {x : Str} {ps : List Str} {sp : Sp} {e : Expr} {es : List Expr} {t : TA} {p pos : Pos}
theorem pe_own (C : Own X.prog X.w X.K X.mg X.base k x ps sp) (hr : Room k X.A) (hg : Gl X x) (ha : PA X (e :: es) t) (hdb : (x == ("__debug__" : Str)) = false := by decide)
    (he : starEach (e :: es) X.env = (false, eval e X.env) :: starEach es X.env := by rfl) (hpl : (backTo pos (starEach es X.env)).any (·.1) = false := by rfl) : PE X (.Call (.Name x p) (e :: es) [] pos) (tCall sp [] E0 t) := by
  obtain ⟨f, fd, h1, h2, h3, h4⟩ := C.ex
  exact pe_call h4 hr hg h1 h2 h3 .nil pass0 ha hdb he hpl
end
/-! ### isinstance of data -/
def tyN : PyData → String
  | .none => "NoneType"
  | .bool _ => "bool"
  | .int _ => "int"
  | .str _ => "str"
  | .list _ => "list"
  | .tuple _ => "tuple"
  | .dict _ => "dict"
/-- isinstance of data, by the names of the types -/
def isB : String → String → Bool
  | a, b => a == b || (a == "bool" && b == "int")
def tyOk (T : String) : Bool := T == "str" || T == "int" || T == "bool" || T == "list" || T == "tuple" || T == "dict"
theorem kitB_all {d : PyData} {T : String} (h : tyOk T = true) : kitB (tyN d) T = some (isB (tyN d) T) := by
  simp only [tyOk, Bool.or_eq_true, beq_iff_eq] at h
  rcases h with ((((h | h) | h) | h) | h) | h <;> subst h <;> cases d <;> (simp only [tyN]; decide +kernel)
theorem dp_ty {K : PySem.W.Frag} {H : Hp} {v : V} {d : PyData} (h : Dp K H v d) : TyX K H v (.type (tyN d)) := by
  cases h with
  | non => exact .base .non
  | bl b => exact .base (.bl b)
  | int i => exact .base (.int i)
  | str x => exact .base (.str x)
  | lst hs ha =>
    rcases hs with (h | ⟨o, h⟩) | ⟨o, its, n, h1, h2, _⟩
    · exact .base (.lst h)
    · exact .base (.frz h)
    · exact .kList h1 h2
  | tup hs ha =>
    rcases hs with (h | ⟨o, h⟩) | ⟨o, its, n, h1, h2, _⟩
    · exact .base (.tup h)
    · exact .fTuple h
    · exact .kTuple h1 h2
def rIsD (K : PySem.W.Frag) : List V → Hp → VK → Prop := fun xs H Q => ∃ (x : V) (T : String) (d : PyData), xs = [x, .ty T] ∧ tyOk T = true ∧ Dp K H x d ∧ Q (.bl (isB (tyN d) T)) H
theorem call_isD {X : Cx} : CallR X (.builtin "isinstance") (rIsD X.K) := by
  intro pins s σ H xs us Q I r h
  obtain ⟨x, T, d, rfl, hT, hd, q⟩ := h
  exact call_isi pins s σ H _ us Q I r ⟨x, .ty T, _, _, _, rfl, .ty T, dp_ty hd, kit_ty (kitB_all hT), q⟩
section
variable {X : Cx} {e : Expr} {te : TE} {T : String} {y : Str} {p p2 pos : Pos}
theorem pe_isD (hg : Gl X "isinstance") (hm : X.mg "isinstance" = none) (hg2 : Gl X y) (hm2 : X.mg y = none) (ha : PE X e te)
    (hv : bootBuiltins y = some (.type T) := by decide +kernel) (hn : y ≠ "__name__" := by decide) (hd2 : (y == ("__debug__" : Str)) = false := by decide)
    (he : starEach (e :: [.Name y p2]) X.env = (false, eval e X.env) :: starEach [.Name y p2] X.env := by rfl) (hpl : (backTo pos (starEach [.Name y p2] X.env)).any (·.1) = false := by rfl) :
    PE X (.Call (.Name "isinstance" p) [e, .Name y p2] [] pos) (tCB (rIsD X.K) (tCons te (tCons (tC (.ty T)) tNil))) :=
  pe_callB (x := "isinstance") call_isD hg hm (by decide +kernel) (pa_cons ha (pa_cons (pe_bltn (v := .ty T) (pos := p2) hg2 hm2 hv rfl hn hd2) pa_nil) (hs := he)) (by decide) (by decide) he hpl
/-! ### in, not in: a tuple of data -/
def rInT (K : PySem.W.Frag) : R2 := fun x y H Q => ∃ d ds, Dp K H x d ∧ Dp K H y (.tuple ds) ∧ SeqAt.shaped d = true ∧ SeqAt.shaped (.tuple ds) = true ∧ Q (.bl (ds.any fun z => PyData.eqv z d)) H
def rNotInT (K : PySem.W.Frag) : R2 := fun x y H Q => ∃ d ds, Dp K H x d ∧ Dp K H y (.tuple ds) ∧ SeqAt.shaped d = true ∧ SeqAt.shaped (.tuple ds) = true ∧ Q (.bl (!ds.any fun z => PyData.eqv z d)) H
theorem room_shaped {n : Nat} {ds : List PyData} {d : PyData} (h : SeqAt.shaped d = true) (hu : n + 65 < cLine) : n + 1 + min (PyData.depthAll ds) d.depth < cLine := by
  have := SeqAt.depth_of_shaped h
  have := Nat.min_le_right (PyData.depthAll ds) d.depth
  omega
theorem op_inT (hu : X.A.units + 65 < cLine) : OpR X (compareOp .In) (rInT X.K) := by
  intro pins s σ H x y v u Q I rx ry h
  obtain ⟨d, ds, hd, he, sd, se, q⟩ := h
  obtain ⟨as, r1⟩ := Dp.reads I d x v hd rx
  obtain ⟨bs, r2⟩ := Dp.reads I (.tuple ds) y u he ry
  exact SeqAt.in_tuple_reads r2 r1 (SeqAt.canLay_of_shaped se) (SeqAt.canLay_of_shaped sd) (room_shaped sd hu) ⟨.bl _, H, I, rfl, q⟩
theorem op_notInT (hu : X.A.units + 65 < cLine) : OpR X (compareOp .NotIn) (rNotInT X.K) := by
  intro pins s σ H x y v u Q I rx ry h
  obtain ⟨d, ds, hd, he, sd, se, q⟩ := h
  obtain ⟨as, r1⟩ := Dp.reads I d x v hd rx
  obtain ⟨bs, r2⟩ := Dp.reads I (.tuple ds) y u he ry
  exact SeqAt.notIn_tuple_reads r2 r1 (SeqAt.canLay_of_shaped se) (SeqAt.canLay_of_shaped sd) (room_shaped sd hu) ⟨.bl _, H, I, rfl, q⟩
end
theorem hu65 {A : Around} {k : Nat} (hr : Room k A) : A.units + 65 < cLine := by have := hr.un; omega
/-! ### the source of draws -/
/-- the source at a: its script at L, ns -/
def Src (H : Hp) (a L : Addr) (ns : List Int) : Prop := ∃ i p st c : Int, H a = some (.lst [.ref L, .int i, .int p, .int st, .int c]) ∧ H L = some (.lst (ns.map V.int)) ∧ 0 ≤ i ∧ 0 ≤ st ∧ st < 2147483629
theorem Src.off {H H' : Hp} {a L b : Addr} {ns : List Int} (h : Src H a L ns) (hb : H b = none) (e : ∀ c, c ≠ b → H' c = H c) : Src H' a L ns := by
  obtain ⟨i, p, st, c, h1, h2, h3⟩ := h
  exact ⟨i, p, st, c, by rw [e a (ne_of_none h1 hb)]; exact h1, by rw [e L (ne_of_none h2 hb)]; exact h2, h3⟩
theorem Src.same {H H' : Hp} {a L : Addr} {ns : List Int} (h : Src H a L ns) (e : Same H H') : Src H' a L ns := by
  obtain ⟨i, p, st, c, h1, h2, h3⟩ := h
  exact ⟨i, p, st, c, e _ _ h1, e _ _ h2, h3⟩
def spSource (K : PySem.W.Frag) : Sp := fun vs H Q _ => ∃ (a : Addr) (ns : List Int), vs = [.ref a] ∧ SqL K H a (ns.map V.int) ∧ ns.length ≤ 63 ∧
  ∀ (H' : Hp) (p L : Addr), Same H H' → H p = none → H L = none → Src H' p L ns → Q (.ref p) H'
def spTake : Sp := fun vs H Q _ => ∃ (a L : Addr) (ns : List Int) (n : Int), vs = [.ref a, .int n] ∧ Src H a L ns ∧ 1 ≤ n ∧ n ≤ 1000000 ∧
  ∀ (H' : Hp) (d : Int), 0 ≤ d → d < n → Src H' a L ns → (∀ b, b ≠ a → H' b = H b) → Q (.int d) H'
def spPick : Sp := fun vs H Q _ => ∃ (a L r : Addr) (ns : List Int) (xs : List V), vs = [.ref a, .ref r] ∧ Src H a L ns ∧ r ≠ a ∧ H r = some (.lst xs) ∧ 0 < xs.length ∧ xs.length ≤ 1000 ∧
  ∀ (H' : Hp) (v : V), v ∈ xs → Src H' a L ns → (∀ b, b ≠ a → H' b = H b) → Q v H'
def spMixed : Sp := fun vs H Q _ => ∃ (a L r : Addr) (ns : List Int) (xs : List V), vs = [.ref a, .ref r] ∧ Src H a L ns ∧ r ≠ a ∧ H r = some (.lst xs) ∧ xs.length ≤ 1000 ∧
  ∀ (H' : Hp) (p : Addr) (ys : List V), ys.Perm xs → H p = none → H' p = some (.lst ys) → Src H' a L ns → (∀ b, b ≠ a → b ≠ p → H' b = H b) → Q (.ref p) H'
end Fv


namespace Fv
open PySem PySem.Spec PyProof.Rows L2
/-! ### list(text) -/
def signs (x : Str) : List V := x.cps.toList.map fun c => V.str ⟨#[c]⟩
theorem vals_signs {x : Str} {acc : Array Value} (h : ItemsOf (SignAt x) acc x.cps.size) : Vals (signs x) acc.toList := by
  have hs : acc.toList.length = x.cps.toList.length := by simpa using h.1
  have hi : ∀ (j : Nat) (v : Value), acc.toList[j]? = some v → ∃ c u, x.cps.toList[j]? = some c ∧ v = .str ⟨#[c]⟩ u := fun j v e => by
    obtain ⟨c, u, e1, e2⟩ := h.2 j v (by simpa using e)
    exact ⟨c, u, by simpa using e1, e2⟩
  unfold signs
  generalize acc.toList = us at hs hi
  generalize x.cps.toList = cs at hs hi
  induction cs generalizing us with
  | nil =>
    cases us with
    | nil => exact .nil
    | cons u us => simp at hs
  | cons c cs ih =>
    cases us with
    | nil => simp at hs
    | cons u us =>
      obtain ⟨c', t, e1, e2⟩ := hi 0 u rfl
      simp at e1
      subst e1
      refine .cons ⟨t, e2⟩ (ih us (by simpa using hs) fun j v e => ?_)
      obtain ⟨c', t, e1, e2⟩ := hi (j + 1) v (by simpa using e)
      exact ⟨c', t, by simpa using e1, e2⟩
section
variable {X : Cx}
theorem call_listStr (hh : X.A.handled = none) : CallR X (.type "list") (fun xs H Q => ∃ x : Str, xs = [.str x] ∧ x.cps.size ≤ sizeLine ∧ ∀ l, H l = none → Q (.ref l) (upd H l (.lst (signs x)))) := by
  intro pins s σ H xs us Q I r h
  obtain ⟨x, rfl, hz, q⟩ := h
  obtain ⟨u, rfl, rx⟩ := vals1 r
  obtain ⟨t, rfl⟩ := rx
  refine call_list_str hh x t (fun h' tk acc' c' kp e it => ?_) hz
  have rv := vals_signs it
  refine ⟨.ref s.heap.objs.size, _, I.laid (t' := tk) kp (Nat.le_refl _) (show ObjOk X.prog X.w _ h' _ (.lst (signs x)) from ⟨?_, acc'.toList, c', rv, ?_⟩), rfl, q _ (I.hok.fresh (Nat.le_refl _))⟩
  · unfold signs; rw [List.length_map, Array.length_toList]; exact hz
  · simpa using e
end
theorem atI_mem {xs : List V} {i : Int} (h0 : 0 ≤ i) (h : i < (xs.length : Nat)) : ∃ v, atI xs i = some v ∧ v ∈ xs := by
  have hk : i.toNat < xs.length := by omega
  have q : atI xs ((i.toNat : Nat) : Int) = some xs[i.toNat] := atI_nat (List.getElem?_eq_getElem hk)
  rw [show ((i.toNat : Nat) : Int) = i by omega] at q
  exact ⟨_, q, List.getElem_mem hk⟩
theorem le1000 {n : Nat} (h : n ≤ 1000) : n ≤ sizeLine := Nat.le_of_lt (small1000 h)
/-- the letters of a list of signs are texts of one sign of a to h -/
def lett (v : V) : Prop := v ∈ signs "abcdefgh"
theorem lett_data {v : V} (h : lett v) : ∃ x : Str, v = .str x ∧ x ∈ (["a", "b", "c", "d", "e", "f", "g", "h"] : List Str) := by
  have e : signs "abcdefgh" = (["a", "b", "c", "d", "e", "f", "g", "h"] : List Str).map V.str := by decide +kernel
  unfold lett at h
  rw [e] at h
  obtain ⟨x, hx, rfl⟩ := List.mem_map.mp h
  exact ⟨x, rfl, hx⟩
def spSigns : Sp := fun vs H Q _ => ∃ (a L : Addr) (ns : List Int) (n : Int), vs = [.ref a, .int n] ∧ Src H a L ns ∧ 1 ≤ n ∧ n ≤ 8 ∧
  ∀ (H' : Hp) (p : Addr) (ys : List V), 0 < ys.length → ys.length ≤ n → (∀ y ∈ ys, lett y) → ys.Nodup → H p = none → H' p = some (.lst ys) → Src H' a L ns → SmX [a] H H' → Q (.ref p) H'
theorem cut_take (xs : List V) {n : Int} (h : 0 ≤ n) : cutV xs none (some n) = xs.take n.toNat := by
  unfold cutV
  rw [HT.sIx_none, show HT.sIx xs.length xs.length (some n) = min n.toNat xs.length by
    have := HT.sIx_nat xs.length xs.length n.toNat
    rw [show ((n.toNat : Nat) : Int) = n by omega] at this
    exact this]
  rw [List.drop_zero, Nat.sub_zero]
  rcases Nat.le_total n.toNat xs.length with q | q
  · rw [Nat.min_eq_left q]
  · rw [Nat.min_eq_right q, List.take_of_length_le (Nat.le_refl _), List.take_of_length_le q]
theorem cut_drop1 (xs : List V) : cutV xs (some 1) none = xs.drop 1 := by
  unfold cutV
  rw [show HT.sIx xs.length 0 (some 1) = min 1 xs.length from HT.sIx_nat xs.length 0 1, HT.sIx_none]
  cases xs with
  | nil => rfl
  | cons x r =>
    rw [show min 1 (x :: r).length = 1 by
      rw [List.length_cons]
      omega]
    show (List.take ((x :: r).length - 1) r) = r
    rw [List.length_cons, Nat.add_sub_cancel]
    exact List.take_length
end Fv


namespace Fv
open PySem PySem.Spec PyProof.Rows L2
/-! ### measures of data -/
def isL (s : Str) : Bool := decide (V.int (s.length : Nat) = V.int 1) && !(Builtin.Str.occurrences "abcdefgh" s 0 (Str.length "abcdefgh") 1).isEmpty
def isLd : PyData → Bool
  | .str s => isL s
  | _ => false
def isOp (o : PyData) : Bool := ([PyData.str "&", .str "|"] : List PyData).any fun z => PyData.eqv z o
def isCd : PyData → Bool
  | .tuple (o :: ds) => decide (2 ≤ ds.length) && isOp o
  | _ => false
def parts : PyData → List PyData
  | .tuple (_ :: ds) => ds
  | _ => []
def measL (f : PyData → Int → Option (Int × Int)) : List PyData → Int → Int → Int → Option (Int × Int)
  | [], _, dp, tot => some (dp + 1, tot)
  | d :: ds, ms, dp, tot => match f d (ms - tot) with
    | none => none
    | some (a, b) => measL f ds ms (if a > dp then a else dp) (tot + b)
def meas : Nat → PyData → Int → Option (Int × Int)
  | 0, _, _ => none
  | n + 1, d, ms => if ms < 1 then none else if isLd d = true then some (1, 1) else if isCd d = true then measL (meas n) (parts d) ms 0 0 else none
def lmeas : Nat → PyData → Int
  | 0, _ => 0
  | n + 1, d => if isLd d = true then 1 else if isCd d = true then (if (0 : Int) ∈ (parts d).map (lmeas n) then 0 else ((parts d).map (lmeas n)).sum) else 0
theorem sum_nonneg : ∀ {l : List Int}, (∀ x ∈ l, 0 ≤ x) → 0 ≤ l.sum
  | [], _ => by simp
  | x :: l, h => by
    rw [List.sum_cons]
    have := h x (List.mem_cons_self ..)
    have := sum_nonneg (l := l) fun y hy => h y (List.mem_cons_of_mem _ hy)
    omega
theorem lmeas_nonneg : ∀ (n : Nat) (d : PyData), 0 ≤ lmeas n d
  | 0, _ => by simp [lmeas]
  | n + 1, d => by
    unfold lmeas
    split
    · decide
    · split
      · split
        · decide
        · exact sum_nonneg fun x hx => by
            obtain ⟨d', _, rfl⟩ := List.mem_map.mp hx
            exact lmeas_nonneg n d'
      · decide
theorem measL_iff {f : PyData → Int → Option (Int × Int)} {g : PyData → Int} (hg : ∀ d, 0 ≤ g d)
    (hf : ∀ d ms, (f d ms = none ∧ ¬ (1 ≤ g d ∧ g d ≤ ms)) ∨ (∃ dp, f d ms = some (dp, g d) ∧ 1 ≤ g d ∧ g d ≤ ms)) :
    ∀ (ds : List PyData) (ms dp tot : Int), tot ≤ ms →
      (measL f ds ms dp tot = none ∧ ¬ ((∀ d ∈ ds, 1 ≤ g d) ∧ tot + (ds.map g).sum ≤ ms)) ∨ (∃ dp', measL f ds ms dp tot = some (dp', tot + (ds.map g).sum) ∧ (∀ d ∈ ds, 1 ≤ g d) ∧ tot + (ds.map g).sum ≤ ms)
  | [], ms, dp, tot, h => by
    refine .inr ⟨dp + 1, ?_, by simp, by simpa using h⟩
    simp [measL]
  | d :: ds, ms, dp, tot, h => by
    have hs : 0 ≤ (ds.map g).sum := sum_nonneg fun x hx => by
      obtain ⟨d', _, rfl⟩ := List.mem_map.mp hx
      exact hg d'
    rw [List.map_cons, List.sum_cons]
    rcases hf d (ms - tot) with ⟨e, ne⟩ | ⟨a, e, e1, e2⟩
    · refine .inl ⟨by simp only [measL, e], fun ⟨q1, q2⟩ => ne ⟨q1 d (List.mem_cons_self ..), by omega⟩⟩
    · have st : measL f (d :: ds) ms dp tot = measL f ds ms (if a > dp then a else dp) (tot + g d) := by simp only [measL, e]
      rw [st]
      rcases measL_iff hg hf ds ms (if a > dp then a else dp) (tot + g d) (by omega) with ⟨e', ne⟩ | ⟨dp', e', q1, q2⟩
      · refine .inl ⟨e', fun ⟨q1, q2⟩ => ne ⟨fun x hx => q1 x (List.mem_cons_of_mem _ hx), by omega⟩⟩
      · refine .inr ⟨dp', by rw [e', Int.add_assoc], fun x hx => ?_, by omega⟩
        rcases List.mem_cons.mp hx with e | hx
        · rw [e]; exact e1
        · exact q1 x hx
theorem meas_iff : ∀ (n : Nat) (d : PyData) (ms : Int), (meas n d ms = none ∧ ¬ (1 ≤ lmeas n d ∧ lmeas n d ≤ ms)) ∨ (∃ dp, meas n d ms = some (dp, lmeas n d) ∧ 1 ≤ lmeas n d ∧ lmeas n d ≤ ms)
  | 0, d, ms => .inl ⟨rfl, fun h => by simp only [lmeas] at h; omega⟩
  | n + 1, d, ms => by
    have hn := lmeas_nonneg (n + 1) d
    unfold meas
    by_cases h1 : ms < 1
    · rw [if_pos h1]
      exact .inl ⟨rfl, fun h => by omega⟩
    · rw [if_neg h1]
      unfold lmeas
      by_cases h2 : isLd d = true
      · rw [if_pos h2, if_pos h2]
        exact .inr ⟨1, rfl, by decide, by omega⟩
      · rw [if_neg h2, if_neg h2]
        by_cases h3 : isCd d = true
        · rw [if_pos h3, if_pos h3]
          have q := measL_iff (g := lmeas n) (lmeas_nonneg n) (meas_iff n) (parts d) ms 0 0 (by omega)
          rw [Int.zero_add] at q
          by_cases h4 : (0 : Int) ∈ (parts d).map (lmeas n)
          · rw [if_pos h4]
            rcases q with ⟨e, _⟩ | ⟨dp, e, q1, _⟩
            · exact .inl ⟨e, fun h => by omega⟩
            · obtain ⟨x, hx, e0⟩ := List.mem_map.mp h4
              have := q1 x hx
              omega
          · rw [if_neg h4]
            have all1 : ∀ x ∈ parts d, 1 ≤ lmeas n x := fun x hx => by
              have z := lmeas_nonneg n x
              rcases Int.lt_or_eq_of_le z with z | z
              · omega
              · exact absurd (List.mem_map.mpr ⟨x, hx, z.symm⟩) h4
            rcases q with ⟨e, ne⟩ | ⟨dp, e, q1, q2⟩
            · exact .inl ⟨e, fun h => ne ⟨all1, h.2⟩⟩
            · refine .inr ⟨dp, e, ?_, q2⟩
              have hp : parts d ≠ [] := by
                cases d with
                | tuple ds =>
                  cases ds with
                  | nil => cases h3
                  | cons o ds =>
                    intro e0
                    simp only [parts] at e0
                    rw [e0] at h3
                    simp [isCd] at h3
                | _ => cases h3
              cases hd : parts d with
              | nil => exact absurd hd hp
              | cons x r =>
                rw [hd] at all1
                rw [List.map_cons, List.sum_cons]
                have := all1 x (List.mem_cons_self ..)
                have := sum_nonneg (l := r.map (lmeas n)) fun y hy => by
                  obtain ⟨d', _, rfl⟩ := List.mem_map.mp hy
                  exact lmeas_nonneg n d'
                omega
        · rw [if_neg h3, if_neg h3]
          exact .inl ⟨rfl, fun h => by omega⟩
/-- the two measures agree -/
theorem meas_some (n : Nat) (d : PyData) (ms : Int) : (meas n d ms).isSome = (decide (1 ≤ lmeas n d) && decide (lmeas n d ≤ ms)) := by
  rcases meas_iff n d ms with ⟨e, ne⟩ | ⟨dp, e, h1, h2⟩
  · rw [e]
    by_cases a : 1 ≤ lmeas n d
    · have b : ¬ lmeas n d ≤ ms := fun z => ne ⟨a, z⟩
      simp [b]
    · simp [a]
  · rw [e]; simp [h1, h2]
/-! ### contracts -/
/-- plain data at v: nested at most 20 deep -/
def spIsLetter (K : PySem.W.Frag) : Sp := fun vs H Q _ => ∃ (v : V) (d : PyData), vs = [v] ∧ Dp K H v d ∧ gd 20 d = true ∧ Q (.bl (isLd d)) H
def spIsCompound (K : PySem.W.Frag) : Sp := fun vs H Q _ => ∃ (v : V) (d : PyData), vs = [v] ∧ Dp K H v d ∧ gd 20 d = true ∧ Q (.bl (isCd d)) H
def spMeas (K : PySem.W.Frag) (n : Nat) : Sp := fun vs H Q _ => ∃ (v : V) (d : PyData) (md ms : Int), vs = [v, .int md, .int ms] ∧ Dp K H v d ∧ gd 20 d = true ∧ 0 ≤ md ∧ md < n ∧
  (meas md.toNat d ms = none → ∀ H', Same H H' → Q .non H') ∧ (∀ dp sz, meas md.toNat d ms = some (dp, sz) → ∀ (H' : Hp) (p : Addr), Same H H' → H' p = some (.tup [.int dp, .int sz]) → Q (.ref p) H')
def spIsTerm (K : PySem.W.Frag) : Sp := fun vs H Q _ => ∃ (v : V) (d : PyData) (md ms : Int), vs = [v, .int md, .int ms] ∧ Dp K H v d ∧ gd 20 d = true ∧ 0 ≤ md ∧ md < 20 ∧
  ∀ H', Same H H' → Q (.bl (meas md.toNat d ms).isSome) H'
def spMeasure (K : PySem.W.Frag) (n : Nat) : Sp := fun vs H Q _ => ∃ (v : V) (d : PyData) (md : Int), vs = [v, .int md] ∧ Dp K H v d ∧ gd 20 d = true ∧ 0 ≤ md ∧ md < n ∧
  ∀ H', Same H H' → Q (.int (lmeas md.toNat d)) H'
def spFits (K : PySem.W.Frag) : Sp := fun vs H Q _ => ∃ (v : V) (d : PyData), vs = [v] ∧ Dp K H v d ∧ gd 20 d = true ∧
  ∀ H', Same H H' → Q (.bl (decide (1 ≤ lmeas 5 d) && decide (lmeas 5 d ≤ 24))) H'
theorem gd_parts {n : Nat} {o : PyData} {ds : List PyData} (h : gd (n + 1) (.tuple (o :: ds)) = true) : gd n o = true ∧ ∀ d ∈ ds, gd n d = true := by
  have q := (gd_tuple h).2
  exact ⟨q o (List.mem_cons_self ..), fun d hd => q d (List.mem_cons_of_mem _ hd)⟩
theorem drop_cons_get {α : Type} {l : List α} {i : Nat} {x : α} (h : l[i]? = some x) : l.drop i = x :: l.drop (i + 1) := by
  obtain ⟨hi, e⟩ := List.getElem?_eq_some_iff.mp h
  rw [List.drop_eq_getElem_cons hi, e]
theorem dropHead {vs : List V} {ds : List PyData} {K : PySem.W.Frag} {H : Hp} (h : DpAll K H vs ds) : DpAll K H (vs.drop 1) (ds.drop 1) := dpAll_drop 1 h
theorem isOp_str : isOp (.str "&") = true ∧ isOp (.str "|") = true := by decide +kernel
end Fv


namespace Fv
open PySem PySem.Spec PyProof.Rows L2
/-! ### own defs with defaults, called with and without keywords -/
structure OwnD (P : Program) (w : World) (K : PySem.W.Frag) (mg : Str → Option Value) (base : Heap) (k : Nat) (x : Str) (ps : List Str) (dvs : List V) (sp : Sp) : Prop where
  ex : ∃ (f : Addr) (fd : FuncData) (ds : List Value), mg x = some (.ref f) ∧ PySem.W.keepIn K (.ref f) = true ∧ Binds K fd ps ds ∧ Vals dvs ds ∧ FnOk P w K mg base CX0 k f fd ps sp
structure OwnK (P : Program) (w : World) (K : PySem.W.Frag) (mg : Str → Option Value) (base : Heap) (k : Nat) (x : Str) (ps : List Str) (n : Nat) (ks : List Str) (gV : List V → List V → List V) (sp : Sp) : Prop where
  ex : ∃ (f : Addr) (fd : FuncData) (g : List Value → List Value → List Value), mg x = some (.ref f) ∧ PySem.W.keepIn K (.ref f) = true ∧ KBn K fd ps n ks g gV ∧ FnOk P w K mg base CX0 k f fd ps sp
section
variable {X : Cx} {k n : Nat} {x : Str} {ps ks : List Str} {dvs : List V} {gV : List V → List V → List V} {sp : Sp} {e : Expr} {es : List Expr} {t tk : TA} {p pos : Pos} {kws : List Keyword}
theorem pe_ownD (C : OwnD X.prog X.w X.K X.mg X.base k x ps dvs sp) (hr : Room k X.A) (hg : Gl X x) (ha : PA X (e :: es) t) (hdb : (x == ("__debug__" : Str)) = false := by decide)
    (he : starEach (e :: es) X.env = (false, eval e X.env) :: starEach es X.env := by rfl) (hpl : (backTo pos (starEach es X.env)).any (·.1) = false := by rfl) : PE X (.Call (.Name x p) (e :: es) [] pos) (tCall sp dvs E0 t) := by
  obtain ⟨f, fd, ds, h1, h2, h3, h4, h5⟩ := C.ex
  exact pe_call h5 hr hg h1 h2 h3 h4 pass0 ha hdb he hpl
theorem pe_ownK (C : OwnK X.prog X.w X.K X.mg X.base k x ps n ks gV sp) (hr : Room k X.A) (hg : Gl X x) (ha : PA X (e :: es) t) (hkw : PK X kws tk)
    (hall : (backToKw pos (keywordEach kws X.env)).all (·.1.isSome) = true := by rfl) (hks : (backToKw pos (keywordEach kws X.env)).filterMap (·.1) = ks := by rfl)
    (hdb : (x == ("__debug__" : Str)) = false := by decide) (he : starEach (e :: es) X.env = (false, eval e X.env) :: starEach es X.env := by rfl)
    (hpl : ((backTo pos (starEach (e :: es) X.env)).any (·.1) || (backToKw pos (keywordEach kws X.env)).any (·.1.isNone)) = false := by rfl) :
    PE X (.Call (.Name x p) (e :: es) kws pos) (tCallN n ks.length sp gV E0 t tk) := by
  obtain ⟨f, fd, g, h1, h2, h3, h4⟩ := C.ex
  exact pe_callN h4 hr hg h1 h2 h3 pass0 ha hkw hall hks hdb he hpl
/-- no positional value -/
theorem pe_ownK0 (C : OwnK X.prog X.w X.K X.mg X.base k x ps 0 ks gV sp) (hr : Room k X.A) (hg : Gl X x) (hkw : PK X kws tk)
    (hall : (backToKw pos (keywordEach kws X.env)).all (·.1.isSome) = true := by rfl) (hks : (backToKw pos (keywordEach kws X.env)).filterMap (·.1) = ks := by rfl)
    (hdb : (x == ("__debug__" : Str)) = false := by decide)
    (hpl : ((backTo pos (starEach [] X.env)).any (·.1) || (backToKw pos (keywordEach kws X.env)).any (·.1.isNone)) = false := by rfl) :
    PE X (.Call (.Name x p) [] kws pos) (tCallN 0 ks.length sp gV E0 tNil tk) := by
  obtain ⟨f, fd, g, h1, h2, h3, h4⟩ := C.ex
  refine ⟨fun pins s σ H Q I h => ?_⟩
  refine wpAny_Call_Name_kw (ld_glob I hg h1 ?_ hdb)
  refine PySem.W.callWith_KW0 (h₀ := X.base) I.ok.mod.kin h2 hall ?_ hpl
  refine thn (hkw.run pos pins s σ H _ I h) fun ws s2 ⟨zs, H2, I2, rz, l1, l2, q2⟩ => ⟨I2.kIn, ?_⟩
  rw [hks]
  exact run_fnN h4 hr h3 pass0 I2 .nil rz l1 l2 q2
end
end Fv


namespace Fv
open PySem PySem.Spec PyProof.Rows L2
/-! ### what is tracked; values that are plain data apart from M -/
def Trk (M : List Addr) (H : Hp) : Prop := ∀ b ∈ M, ∃ o, H b = some o
theorem Trk.same {M : List Addr} {H H' : Hp} (h : Trk M H) (s : Same H H') : Trk M H' := fun b hb => by
  obtain ⟨o, e⟩ := h b hb
  exact ⟨o, s _ _ e⟩
theorem Trk.smx {M N : List Addr} {H H' : Hp} (h : Trk M H) (s : SmX N H H') (hN : Trk N H') : Trk M H' := fun b hb => by
  by_cases m : b ∈ N
  · exact hN b m
  · obtain ⟨o, e⟩ := h b hb
    exact ⟨o, s _ _ m e⟩
theorem Trk.ne {M : List Addr} {H : Hp} (h : Trk M H) {p : Addr} (np : H p = none) : p ∉ M := fun hp => by
  obtain ⟨o, e⟩ := h p hp
  rw [np] at e
  cases e
theorem hid_new {M : List Addr} {H : Hp} {p : Addr} {o : HO} (np : H p = none) : Same (hide M H) (hide M (upd H p o)) := (SmX.new np).hid
theorem hid_at {M : List Addr} {H : Hp} (h : Trk M H) {p : Addr} {o : HO} (np : H p = none) : hide M (upd H p o) p = some o := by
  rw [hide_ne (h.ne np), upd_same]
def GV (K : PySem.W.Frag) (n : Nat) (M : List Addr) (H : Hp) (v : V) : Prop := ∃ d, Dp K (hide M H) v d ∧ gd n d = true
theorem GV.same {K : PySem.W.Frag} {n : Nat} {M : List Addr} {H H' : Hp} {v : V} (g : GV K n M H v) (s : Same H H') : GV K n M H' v := by
  obtain ⟨d, h1, h2⟩ := g
  exact ⟨d, dp_same (SmX.of_same s).hid d v h1, h2⟩
theorem GV.up {K : PySem.W.Frag} {n m : Nat} {M : List Addr} {H : Hp} {v : V} (g : GV K n M H v) (h : n ≤ m) : GV K m M H v := by
  obtain ⟨d, h1, h2⟩ := g
  exact ⟨d, h1, gd_le h2 h⟩
theorem GV.str {K : PySem.W.Frag} {n : Nat} {M : List Addr} {H : Hp} {x : Str} (h : gd 0 (.str x) = true) : GV K n M H (.str x) := ⟨_, .str x, gd_le h (Nat.zero_le _)⟩
theorem GV.int {K : PySem.W.Frag} {n : Nat} {M : List Addr} {H : Hp} (i : Int) : GV K n M H (.int i) := ⟨_, .int i, gd_le (n := 0) rfl (Nat.zero_le _)⟩
theorem GV.bl {K : PySem.W.Frag} {n : Nat} {M : List Addr} {H : Hp} (b : Bool) : GV K n M H (.bl b) := ⟨_, .bl b, gd_le (n := 0) rfl (Nat.zero_le _)⟩
theorem GV.non {K : PySem.W.Frag} {n : Nat} {M : List Addr} {H : Hp} : GV K n M H .non := ⟨_, .non, gd_le (n := 0) rfl (Nat.zero_le _)⟩
theorem gv_all {K : PySem.W.Frag} {n : Nat} {M : List Addr} {H : Hp} : ∀ {xs : List V}, (∀ x ∈ xs, GV K n M H x) → ∃ ds, DpAll K (hide M H) xs ds ∧ ∀ d ∈ ds, gd n d = true
  | [], _ => ⟨[], .nil, fun d h => nomatch h⟩
  | x :: xs, h => by
    obtain ⟨d, h1, h2⟩ := h x (List.mem_cons_self ..)
    obtain ⟨ds, h3, h4⟩ := gv_all (xs := xs) fun y hy => h y (List.mem_cons_of_mem _ hy)
    refine ⟨d :: ds, .cons h1 h3, fun e he => ?_⟩
    rcases List.mem_cons.mp he with z | z
    · rw [z]; exact h2
    · exact h4 e z
theorem GV.tup {K : PySem.W.Frag} {n : Nat} {M : List Addr} {H : Hp} {p : Addr} {xs : List V} (hM : Trk M H) (np : H p = none) (h : ∀ x ∈ xs, GV K n M H x) (hl : xs.length ≤ 1000 := by decide) : GV K (n + 1) M (upd H p (.tup xs)) (.ref p) := by
  obtain ⟨ds, h1, h2⟩ := gv_all h
  exact ⟨.tuple ds, .tup (SqT.of (hid_at hM np)) (dpAll_same (hid_new np) _ _ h1), gd_tup h2 (by rw [← dpAll_len h1]; exact hl)⟩
theorem GV.lst {K : PySem.W.Frag} {n : Nat} {M : List Addr} {H : Hp} {p : Addr} {xs : List V} (hM : Trk M H) (np : H p = none) (h : ∀ x ∈ xs, GV K n M H x) (hl : xs.length ≤ 1000 := by decide) : GV K (n + 1) M (upd H p (.lst xs)) (.ref p) := by
  obtain ⟨ds, h1, h2⟩ := gv_all h
  exact ⟨.list ds, .lst (SqL.of (hid_at hM np)) (dpAll_same (hid_new np) _ _ h1), gd_lst h2 (by rw [← dpAll_len h1]; exact hl)⟩
theorem Src.trk {H : Hp} {a L : Addr} {ns : List Int} (h : Src H a L ns) : Trk [a] H := fun b hb => by
  obtain ⟨_, _, _, _, e, _⟩ := h
  rw [List.mem_singleton.mp hb]
  exact ⟨_, e⟩
theorem Src.ne {H : Hp} {a L p : Addr} {ns : List Int} (h : Src H a L ns) (np : H p = none) : a ≠ p := by
  obtain ⟨_, _, _, _, e, _⟩ := h
  exact ne_of_none e np
theorem Src.put {H : Hp} {a L p : Addr} {ns : List Int} {o : HO} (h : Src H a L ns) (pa : p ≠ a) (pL : p ≠ L) : Src (upd H p o) a L ns := by
  obtain ⟨i, q, st, c, h1, h2, h3⟩ := h
  exact ⟨i, q, st, c, by rw [upd_ne pa.symm]; exact h1, by rw [upd_ne pL.symm]; exact h2, h3⟩
theorem Src.new {H : Hp} {a L p : Addr} {ns : List Int} {o : HO} (h : Src H a L ns) (np : H p = none) : Src (upd H p o) a L ns := h.same (same_upd np)
/-- the term that is drawn: its data d, its depth at most n, its size by the room that was used -/
def spTerm (K : PySem.W.Frag) (n : Nat) : Sp := fun vs H Q _ => ∃ (a L sg r : Addr) (ns : List Int) (deep m : Int) (ys : List V) (M : List Addr), vs = [.ref a, .ref sg, .int deep, .ref r] ∧ Src H a L ns ∧
  H sg = some (.lst ys) ∧ 0 < ys.length ∧ ys.length ≤ 8 ∧ (∀ y ∈ ys, lett y) ∧ H r = some (.lst [.int m]) ∧ sg ≠ a ∧ sg ≠ r ∧ r ≠ a ∧ r ≠ L ∧ 0 ≤ m ∧ m ≤ 1000 ∧ 1 ≤ deep ∧ deep ≤ n ∧ a ∈ M ∧ r ∈ M ∧ Trk M H ∧
  ∀ (H' : Hp) (v : V) (d : PyData) (m' : Int), Dp K (hide M H') v d → lmeas deep.toNat d = m - m' + 1 → 0 ≤ m' → m' ≤ m → gd deep.toNat d = true → Src H' a L ns → H' r = some (.lst [.int m']) → SmX [a, r] H H' → Q v H'
def spAnyTerm (K : PySem.W.Frag) : Sp := fun vs H Q _ => ∃ (a L : Addr) (ns : List Int) (M : List Addr), vs = [.ref a] ∧ Src H a L ns ∧ a ∈ M ∧ Trk M H ∧
  ∀ (H' : Hp) (v : V) (d : PyData) (n : Nat), Dp K (hide M H') v d → 1 ≤ n → n ≤ 5 → 1 ≤ lmeas n d → lmeas n d ≤ 24 → gd n d = true → Src H' a L ns → SmX [a] H H' → Q v H'
def nestD : Nat → PyData
  | 0 => .str "a"
  | n + 1 => .tuple [.str (if n % 2 = 0 then "&" else "|"), nestD n, .str "b"]
def spNest (K : PySem.W.Frag) : Sp := fun vs H Q _ => ∃ (n : Nat) (M : List Addr), vs = [.int (n : Nat)] ∧ n ≤ 12 ∧ Trk M H ∧
  ∀ (H' : Hp) (v : V), Dp K (hide M H') v (nestD n) → Same H H' → Q v H'
def spOdd (K : PySem.W.Frag) : Sp := fun vs H Q _ => ∃ (a L : Addr) (ns : List Int) (v : V) (M : List Addr), vs = [.ref a, v] ∧ Src H a L ns ∧ GV K 5 M H v ∧ a ∈ M ∧ Trk M H ∧
  ∀ (H' : Hp) (v' : V), GV K 12 M H' v' → Src H' a L ns → SmX [a] H H' → Q v' H'
theorem isL_lett {x : Str} (h : x ∈ (["a", "b", "c", "d", "e", "f", "g", "h"] : List Str)) : isL x = true ∧ gd 0 (.str x) = true := by
  have q : ∀ x ∈ (["a", "b", "c", "d", "e", "f", "g", "h"] : List Str), isL x = true ∧ gd 0 (.str x) = true := by decide +kernel
  exact q x h
theorem nest_gd : ∀ n : Nat, gd n (nestD n) = true
  | 0 => by decide +kernel
  | n + 1 => gd_tup (fun d hd => by
      rcases List.mem_cons.mp hd with e | hd
      · rw [e]
        refine gd_le (n := 0) ?_ (Nat.zero_le _)
        split <;> decide +kernel
      · rcases List.mem_cons.mp hd with e | hd
        · rw [e]; exact nest_gd n
        · rw [List.mem_singleton.mp hd]
          exact gd_le (n := 0) (by decide +kernel) (Nat.zero_le _)) (by show 3 ≤ 1000; decide)
/-- a term made of parts -/
theorem lmeas_tup {n : Nat} {op : Str} {ds : List PyData} {t : Int} (ho : isOp (.str op) = true) (h2 : 2 ≤ ds.length) (h1 : ∀ d ∈ ds, 1 ≤ lmeas n d) (hs : (ds.map (lmeas n)).sum = t) : lmeas (n + 1) (.tuple (.str op :: ds)) = t := by
  have e : lmeas (n + 1) (.tuple (.str op :: ds)) = if (decide (2 ≤ ds.length) && isOp (.str op)) = true then (if (0 : Int) ∈ ds.map (lmeas n) then 0 else (ds.map (lmeas n)).sum) else 0 := by
    show (if false = true then _ else _) = _
    rw [if_neg (fun z => by cases z)]
    rfl
  rw [e, ho, decide_eq_true h2, Bool.and_self, if_pos rfl, if_neg, hs]
  intro z
  obtain ⟨d, hd, e⟩ := List.mem_map.mp z
  have := h1 d hd
  omega
end Fv


set_option maxHeartbeats 2000000
namespace FvX
open PySem PySem.W PySem.Calls PyProof.Rows
/-! ### an own error whose __init__ says super().__init__(text) and self.code = text -/
abbrev errScope : Scope := { kind := .function, names := [("self", .local), ("__class__", .free), ("super", .globalImplicit)], isGenerator := false, isCoroutine := false, more := [] }
abbrev errParams (pp : Pos) : Arguments := { posonlyargs := [], args := [{ arg := "self", annotation := none, pos := pp : Arg }], vararg := none, kwonlyargs := [], kw_defaults := [], kwarg := none, defaults := [] }
/-- the places of such a body's parts -/
structure ErrPos where
  (p0 p1 p2 p3 p4 p5 p6 p7 p8 p9 pp : Pos)
abbrev errBody (q : ErrPos) (msg cod : Str) (j1 j2 : Nat) : List Stmt :=
  [.Expr (.Call (.Attribute (.Call (.Name "super" q.p0) [] [] q.p1) "__init__" q.p2) [.Constant (.str msg) j1 q.p3] [] q.p4) q.p5, .Assign [.Attribute (.Name "self" q.p6) "code" q.p7] (.Constant (.str cod) j2 q.p8) q.p9]
/-- the call stands on one line -/
def LineOk (q : ErrPos) (msg : Str) (j1 : Nat) : Prop := ∀ env : Env, ∃ pl : Sem Bool, eval (.Call (.Attribute (.Call (.Name "super" q.p0) [] [] q.p1) "__init__" q.p2) [.Constant (.str msg) j1 q.p3] [] q.p4) env = (do
  let ov ← attributeBase (.Call (.Name "super" q.p0) [] [] q.p1) "__init__" env (eval (.Call (.Name "super" q.p0) [] [] q.p1) env)
  standAt q.p2.atName
  let (f, first) ← holding [ov] (getMethod ov "__init__" pl)
  callWith q.p4 f first (backTo q.p4 (starEach [.Constant (.str msg) j1 q.p3] env)) [])
abbrev veTail4 : List Value := [.type "ValueError", .type "Exception", .type "BaseException", .type "object"]
/-- what the written part says of the class at C and of its __init__ at f -/
structure ErrC (file0 : Str) (K : Frag) (C f : Addr) (qual : Str) (q : ErrPos) (msg cod : Str) (j1 j2 : Nat) : Prop where
  oex : L2.OexC K C
  fn : ∃ (oc : Value) (od an : Option Addr) (osl : Array (Option Value)) (kV doc pm ct : Value) (cda cc : Addr) (ccl cl : Value) (cdd cld : Option Addr) (vs : Array Value) (ccs csl : Array (Option Value)) (file : Str) (tf : Tok),
    K.lookup f = some ⟨oc, od, .func (ksFn "__init__" qual (errParams q.pp) (errBody q msg cod j1 j2) errScope .none kV doc pm an (.ref cda) ct cc), osl⟩ ∧ codeIn K (.ref cda) qual = true ∧ K.lookup cda = some ⟨ccl, cdd, .fields vs, ccs⟩ ∧ vs[2]? = some (.str file tf) ∧
      (file0 == file) = true ∧ K.lookup cc = some ⟨cl, cld, .cell (some (.ref C)), csl⟩
  sup : ks_superIn K C C "__init__" = some (some (.builtin "ValueError.__init__"))
  self : mroIn K C (.ref C) = some true
  isV : subIn K (.ref C) (.type "ValueError") = some true
  init : excInitIn K C veTail4 "ValueError.__new__" = true
  third : nsIn K cStatics "thirdparty.any" = some none
  code : findIn K (.ref C) "code" = some none
  find : findIn K (.ref C) "__init__" = some (some (.ref f))
  typ : typeIn K (.ref f) = some (.type "function")
section
variable {prog : Program} {w : World} {A : Around} {K : Frag} {h : Heap} {g : Array GenState} {d : Drawn} {t : Nat} {os : OsState} {R : Result → Shared → Prop} {mg mb : Str → Option Value}
  {C f a t0 : Addr} {qual msg cod : Str} {q : ErrPos} {j1 j2 : Nat}
theorem init_run (T : ErrC prog.main.file K C f qual q msg cod j1 j2) (hline : LineOk q msg j1) (htop : (prog.main.scope.names.lookup ("super" : Str)).isSome = false)
    (X : K.In h) (hg : h.Ns mainGlobals mg) (hms : mg "super" = none) (hb : h.Ns builtinsNs mb) (hmb : mb "super" = some (.type "super")) (hlim : h.NoLimit) (hroom : A.depth < recursionLimit) (ha : h.get? a = some (excObj C t0 none .none)) (haK : K.lookup a = none)
    (hq : ∀ h' t1 tk' dx tk, (∀ b o, b ≠ a → h.get? b = some o → h'.get? b = some o) → h.objs.size ≤ dx → dx ≠ a → h'.get? a = some { cls := .ref C, dict := some dx, data := .fields #[.ref t1, .none, .none, .none, .bool false, .none] } →
      h'.Ns1 dx (fun y => if y = ("code" : Str) then some (.str cod tk) else none) → R (.ok (.ret .none)) ⟨h', g, d, tk', os⟩) :
    codeAny (model prog w) A (.call (.ref f) ⟨[.ref a], []⟩) R ⟨h, g, d, t, os⟩ := by
  obtain ⟨oc, od, an, osl, kV, doc, pm, ct, cda, cc, ccl, cl, cdd, cld, vs, ccs, csl, file, tf, hf, hcd, hcode, hvs, hfile, hcell⟩ := T.fn
  refine ks_codeAny_call_defAt (binds := [("self", .ref a)]) hroom (X _ _ hf) rfl hlim (codeRec_of X hcd) rfl (.of_eq rfl) (show ∀ x ∈ errScope.names, x.2 ≠ .cell by decide) (fun y hy => ?_) (fun h1 hns hk1 => ?_)
  · rw [List.mem_singleton.mp hy]; rfl
  have X1 : K.In h1 := fun b o e => hk1 b o (X b o e)
  have ha1 : h1.get? a = some (excObj C t0 none .none) := hk1 _ _ ha
  have haL : a ≠ h.objs.size := Nat.ne_of_lt (Heap.lt_size ha)
  obtain ⟨cd, hc⟩ : ∃ cd, clsIn K C = some cd := by
    have z := T.sup
    unfold ks_superIn at z
    cases hc : clsIn K C with
    | none => rw [hc] at z; cases z
    | some cd => exact ⟨cd, rfl⟩
  obtain ⟨oD, hD0, hD2⟩ : ∃ oD, K.lookup C = some oD ∧ oD.data = .cls cd := by
    unfold clsIn at hc
    split at hc
    · rename_i c d' cd' sl ho
      cases hc
      exact ⟨_, ho, rfl⟩
    · cases hc
  have hD1 := X1 _ _ hD0
  have hsup : alongIn K "__init__" ((cd.mro.dropWhile (· != .ref C)).drop 1) = some (some (.builtin "ValueError.__init__")) := by
    have z := T.sup
    unfold ks_superIn at z
    rw [hc] at z
    exact z
  have hv : (fun x => ([("self", Value.ref a)] : List (Str × Value)).reverse.lookup x) ("self" : Str) = some (.ref a) := rfl
  -- super().__init__(text)
  obtain ⟨pl, hline⟩ := hline (callEnv (ksFn "__init__" qual (errParams q.pp) (errBody q msg cod j1 j2) errScope .none kV doc pm an (.ref cda) ct cc) h.objs.size f)
  refine ks_wpAt_execs_cons (ks_wpAt_Expr_any (ks_wpAt_MethodCall ?_ hline))
  refine ks_wpAt_super_base rfl rfl (by decide) rfl (X1 _ _ hf) rfl rfl rfl (X1 _ _ hcode) rfl hvs hfile htop ?_
  refine ks_loadName_global rfl rfl (loadGlobal_builtin (hg.keeps hk1) hms (hb.keeps hk1) hmb ⟨rfl, ?_⟩)
  refine wpAny_loadName_free rfl rfl rfl ⟨_, X1 _ _ hcell, rfl⟩ ?_
  refine wpAny_loadName_local rfl rfl hns hv ?_
  refine ks_wpAny_isType_cls hD1 hD2 ⟨rfl, ?_⟩
  refine ks_wpAny_call_super hD1 hD2 ha1 rfl (fun c e => by cases e) (looks_mroIn X1 T.self) (fun h2 hso hk2 => ?_)
  have X2 : K.In h2 := fun b o e => hk2 b o (X1 b o e)
  have ha2 := hk2 _ _ ha1
  have haC : a ≠ C := fun e => by rw [e, hD0] at haK; cases haK
  have I2 : InstAt h2 a (excObj C t0 none .none) C none := ⟨ha2, rfl, rfl, trivial⟩
  refine kxs_getMethod kxs_ValueError hso (looks_opaque X2 T.third) (l₀ := cd.mro) (fun A Q E s k z => wpAny_bind ((looks_clsIn X2 hc) A _ E s k (wpAny_pure z))) rfl X2 hsup (I2.type.andThen (looks_subIn X2 T.isV)) haC (by decide) ?_
  have nsK : ∀ {h h' : Heap} {L : Addr} {m : Str → Option Value}, h.Ns L m → (∀ b o, h.get? b = some o → h'.get? b = some o) → h'.Ns L m := fun {h h' L m} ⟨o, es, ep, e, r⟩ k => ⟨o, es, ep, k _ _ e, r⟩
  have hns2 := nsK hns hk2
  have hk3 : ∀ b o, h2.get? b = some o → (h2.push (kxs_mw "ValueError.__init__" a)).get? b = some o := fun b o e => Heap.get?_push_of_some _ e
  have hLt : h.objs.size < h2.objs.size := by
    obtain ⟨o, _, _, e, _⟩ := hns2
    exact Heap.lt_size e
  have FR : Fr (hideAll h [a]) h.objs.size (h2.push (kxs_mw "ValueError.__init__" a)) (fun x => ([("self", Value.ref a)] : List (Str × Value)).reverse.lookup x) :=
    ⟨nsK hns2 hk3, fun b o e => hk3 _ _ (hk2 _ _ (hk1 _ _ (of_hideAll _ e))), Nat.le_of_eq (hideAll_size _ _)⟩
  have NW : News (hideAll h [a]) h.objs.size (h2.push (kxs_mw "ValueError.__init__" a)) [(h2.objs.size, kxs_mw "ValueError.__init__" a), (a, excObj C t0 none .none)] := fun p hp => by
    rcases List.mem_cons.mp hp with e | hp
    · subst e
      refine ⟨Heap.get?_push_size _ rfl, Nat.ne_of_gt hLt, ?_⟩
      cases z : (hideAll h [a]).get? h2.objs.size with
      | none => rfl
      | some o => exact absurd (Heap.lt_size (of_hideAll _ z)) (Nat.lt_asymm hLt)
    · rw [List.mem_singleton.mp hp]
      exact ⟨hk3 _ _ ha2, haL, hideAll_none _ (List.mem_singleton.mpr rfl)⟩
  have X0 : K.In (hideAll h [a]) := fun b o e => hideAll_get _ (X b o e) (fun z => by
    rw [List.mem_singleton.mp z, haK] at e
    cases e)
  refine kxs_callWith1 NW (List.mem_cons_self ..) ?_
  refine Calls.spliced_cons (wpAny_Constant_str (k := j1) (pos := q.p3) (Calls.spliced_nil ⟨kxs_at NW (List.mem_cons_self ..), ?_⟩))
  refine kxs_call FR X0 NW PySem.F.excBase_ValueError T.init (List.mem_cons_self ..) (.tail (Nat.ne_of_gt (Heap.lt_size ha2)) (.head fun p hp => nomatch hp)) (by show 1 ≤ sizeLine; decide) (fun t' h4 F4 N4 _ => ?_)
  have ha4 : h4.get? a = some (excObj C t' none .none) := (N4 (a, excObj C t' none .none) (List.mem_cons_of_mem _ (List.mem_cons_of_mem _ (List.mem_cons_self ..)))).1
  have X4 : K.In h4 := fun b o e => F4.keep b o (X0 b o e)
  obtain ⟨nm, qn, N, bs, bm, sn, sub, ab, col, dd, k0, k1, k2, k3, k5, hC, hbm⟩ := T.oex.cls
  have hcl : clsIn K C = some { name := nm, bases := bs, mro := .ref C :: bm, ns := N, qualname := qn, hasDict := true, slotNames := sn, subclasses := sub, abstract := ab, collection := col, hasDel := false } := by
    unfold clsIn
    rw [hC] <;> rfl
  -- self.code = text
  refine wpAt_of_wpAny (wpAny_execs_cons (plainObj_wpAny_Assign_Attribute (wpAny_Constant_str (k := j2) (pos := q.p8) (wpAny_Name (wpAny_loadName_local rfl rfl F4.ns hv ?_) (by decide))) rfl))
  refine set_plain X4 (ox := excObj C t' none .none) (od := none) ⟨ha4, rfl, rfl, trivial⟩ T.oex.sa ?_
  refine PySem.HandSPX.exc_osa X4 ha4 hcl (show PySem.HandSPX.refsVE (.ref C :: bm) = true from hbm) rfl T.code (fun h5 tk' dx hk5 dn dne hx hn => ?_)
  have hL4 : h.objs.size ≤ h4.objs.size := by
    obtain ⟨o, _, _, e, _⟩ := F4.ns
    exact Nat.le_of_lt (Heap.lt_size e)
  refine wpAny_execs_nil (hq h5 t' tk' dx _ (fun b o hb e => hk5 b o hb (F4.keep b o (hideAll_get _ e fun z => hb (List.mem_singleton.mp z)))) (Nat.le_trans hL4 dn) dne hx hn)
end
end FvX


set_option maxHeartbeats 2000000
namespace FvX
open PySem PySem.Spec PyProof.Rows L2
section
variable {X : Cx} {C f : Addr} {qual msg cod x : Str} {q : ErrPos} {j1 j2 k : Nat} {p pos : Pos}
/-- x(): the new error, its dict at d -/
def tErr0 (C : Addr) (cod : Str) : L2.St → Hp → XK → Prop := fun _ H Q => ∀ d, H d = none → Q (.ref C) (some d) (upd H d (.xd [("code", .str cod)]))
theorem pmk_err0 (T : ErrC X.prog.main.file X.K C f qual q msg cod j1 j2) (hline : LineOk q msg j1) (htop : (X.prog.main.scope.names.lookup ("super" : Str)).isSome = false) (hms : X.mg "super" = none) (hr : Room (k + 1) X.A) (hg : Gl X x) (hm : X.mg x = some (.ref C))
    (hdb : (x == ("__debug__" : Str)) = false := by decide) : PMk X (.Call (.Name x p) [] [] pos) (tErr0 C cod) := by
  intro pins s σ H Q I h
  obtain ⟨nm, qn, N, bs, bm, sn, sub, ab, col, dd, k0, k1, k2, k3, k5, hC, hbm⟩ := T.oex.cls
  refine wpAny_Call_Name_kw (ld_glob I hg hm ?_ hdb)
  refine PySem.W.callWith_K0 I.kIn T.oex.kC ?_
  show wpAny _ _ (call (.ref C) []) _ _ _
  obtain ⟨hp, g, dr, tk, os⟩ := s
  have nK : X.K.lookup (hp.objs.size + 1) = none := by
    cases e : X.K.lookup (hp.objs.size + 1) with
    | none => rfl
    | some o => exact absurd (Nat.lt_of_succ_lt (Heap.lt_size (I.kIn _ _ e))) (Nat.lt_irrefl _)
  have fresh : H (hp.objs.size + 1) = none := I.hok.fresh (Nat.le_succ _)
  have kk : ∀ b o, hp.get? b = some o → ((hp.push (PySem.W.kdv_tup [])).push (PySem.HandSPX.excO C hp.objs.size)).get? b = some o := fun b o e => Heap.get?_push_of_some _ (Heap.get?_push_of_some _ e)
  have at1 : ((hp.push (PySem.W.kdv_tup [])).push (PySem.HandSPX.excO C hp.objs.size)).get? (hp.objs.size + 1) = some (PySem.HandSPX.excO C hp.objs.size) := by heap_get
  have I2 := I.laid (t' := tk) (a := hp.objs.size + 1) (o := exo (hp.objs.size + 1) C none) (h' := (hp.push (PySem.W.kdv_tup [])).push (PySem.HandSPX.excO C hp.objs.size)) kk (Nat.le_succ _) (exo_ok at1)
  obtain ⟨mb, hb, hbb⟩ := I.mod.blt
  refine wpAny_call (PySem.HandSPX.call_own PySem.F.excBase_ValueError (fun Y => PySem.HandSPX.refsVE_contains Y bm hbm) (I.kIn _ _ hC) (PySem.W.looks_findIn I.kIn T.find) (fun self => PySem.W.bind_fn I.kIn self T.typ) (Nat.zero_le _) ?_)
  refine init_run (mg := X.mg) (mb := mb) (t0 := hp.objs.size) T hline htop (fun b o e => kk b o (I.kIn b o e)) ((I.mod.glob.keeps I.bk).keeps kk) hms ((hb.keeps I.bk).keeps kk) ((hbb _ (by decide)).trans (by decide +kernel)) ?lim (hr.make C [] []).depth at1 nK (fun h' t1 tk' dx tk0 hk dn dne hx hn => ?_)
  case lim => exact (I.mod.nolimit.keeps I.bk).keeps kk
  have nd : H dx = none := I.hok.fresh (Nat.le_trans (by simp; omega) dn)
  have na : ∀ {b : Addr} {u : Option HO}, upd H (hp.objs.size + 1) (exo (hp.objs.size + 1) C none) b = none → b ≠ hp.objs.size + 1 := fun {b u} e z => by
    rw [z, upd_same] at e
    cases e
  have lt2 : ∀ {b : Addr} {o : Obj}, ((hp.push (PySem.W.kdv_tup [])).push (PySem.HandSPX.excO C hp.objs.size)).get? b = some o → b ≠ dx := fun {b o} e => Nat.ne_of_lt (Nat.lt_of_lt_of_le (Heap.lt_size e) dn)
  have same : ∀ {b : Addr} {o : HO}, upd H (hp.objs.size + 1) (exo (hp.objs.size + 1) C none) b = some o → o ≠ exo (hp.objs.size + 1) C none → upd (upd H dx (exd dx [("code", .str cod)])) (hp.objs.size + 1) (exo (hp.objs.size + 1) C (some dx)) b = some o := fun {b o} e ne => by
    have b1 : b ≠ hp.objs.size + 1 := fun z => by
      rw [z, upd_same] at e
      exact ne (Option.some.inj e).symm
    rw [upd_ne b1] at e
    rw [upd_ne b1, upd_ne (ne_of_none e nd)]
    exact e
  have un : Un (frs X.stack) [] (upd H (hp.objs.size + 1) (exo (hp.objs.size + 1) C none)) (upd (upd H dx (exd dx [("code", .str cod)])) (hp.objs.size + 1) (exo (hp.objs.size + 1) C (some dx))) ((hp.push (PySem.W.kdv_tup [])).push (PySem.HandSPX.excO C hp.objs.size)) h' := by
    refine ⟨fun b o e n _ _ => hk b o (na (u := none) n) e, fun b o e n _ _ => ⟨o.slots, hk b o (na (u := none) n) e⟩, fun b o e n _ => ?_, fun b o e _ => ?_, fun b xs e => same e fun z => exo_tup z.symm, fun b o u e => same e fun z => exo_frz z.symm, fun b ps e => ⟨#[], ?_⟩⟩
    · have b1 := na (u := none) n
      rw [upd_ne b1, upd_ne (lt2 e)]
      rw [upd_ne b1] at n
      exact n
    · by_cases b1 : b = hp.objs.size + 1
      · exact ⟨_, by rw [b1]; exact hx⟩
      · exact ⟨o, hk b o b1 e⟩
    · rw [Array.append_empty]
      exact same e fun z => exo_tbl z.symm
  have hok : HOk X.prog X.w (upd (upd H dx (exd dx [("code", .str cod)])) (hp.objs.size + 1) (exo (hp.objs.size + 1) C (some dx))) h' := fun b o e => by
    by_cases b1 : b = hp.objs.size + 1
    · rw [b1, upd_same] at e
      cases e
      rw [b1]
      exact exo_ok hx
    · rw [upd_ne b1] at e
      by_cases b2 : b = dx
      · rw [b2, upd_same] at e
        cases e
        rw [b2]
        exact exd_ok hn (relO_put (fs := []) ⟨_, rfl⟩ fun g => True.intro)
      · rw [upd_ne b2] at e
        have e2 : upd H (hp.objs.size + 1) (exo (hp.objs.size + 1) C none) b = some o := by rw [upd_ne b1]; exact e
        refine (I2.hok b o e2).stay (fun c v hc z => hk c v (fun c1 => ?_) z) (fun c hc => same hc fun z => exo_own z.symm) (fun c xs hc => same hc fun z => exo_tup z.symm)
        rcases hc with hc | hc
        · exact b1 (hc.symm.trans c1)
        · rw [c1, upd_same] at hc
          exact exo_own (Option.some.inj hc)
  refine ⟨rfl, mk_end (a := hp.objs.size + 1) (C := C) (d := dx) (fs := [("code", .str cod)]) (raises_own T.oex.exC T.oex.tyC) I (Nat.le_succ _) kk un hok rfl I.bare upd_same ?_ nd ?_⟩
  · rw [upd_ne dne, upd_same]
  · have e : upd (del (upd (upd H dx (exd dx [("code", .str cod)])) (hp.objs.size + 1) (exo (hp.objs.size + 1) C (some dx))) (hp.objs.size + 1)) dx (.xd [("code", .str cod)]) = upd H dx (.xd [("code", .str cod)]) := by
      funext b
      by_cases b2 : b = dx
      · rw [b2, upd_same, upd_same]
      · rw [upd_ne b2, upd_ne b2]
        by_cases b1 : b = hp.objs.size + 1
        · rw [b1, del_same, fresh]
        · rw [del_ne b1, upd_ne b1, upd_ne b2]
    rw [e]
    exact h dx nd
end
end FvX


set_option maxHeartbeats 2000000
namespace FvX
open PySem PySem.Spec PyProof.Rows L2
/-! ### try: .. except x as n: .. except ..: ..; the first clause takes what comes -/
/-- what the first clause wishes -/
def wFst (K : PySem.W.Frag) (c : Value) (i : Nat) (ts : Addr → Value → Option Addr → TS) (D : Ends) : WX := fun cls dd σ H => PySem.W.exmOne K cls c = some true ∧
  ∀ a, H a = none → ts a cls dd { nx := fun σ' H' => D.nx (σ'.set i none) H', rt := D.rt, bk := fun σ' H' => D.bk (σ'.set i none) H', ct := fun σ' H' => D.ct (σ'.set i none) H' } (σ.set i (some (.ref a))) H
section
variable {X : Cx} {x n : Str} {c : Value} {i : Nat} {bd su : List Stmt} {b1 : Stmt} {np tp hp' : Pos} {more : List ExceptHandler} {tb : WX → TS} {ts : Addr → Value → Option Addr → TS}
theorem ps_try_first (hstk : X.stack = X.env :: X.outer) (hfrm : X.env.frame = some X.env.locals) (nd : X.N.Nodup) (hix : X.N[i]? = some n) (hlc : X.env.kindOf n = some .local) (hcl : Names X x c)
    (hbd : ∀ (W : WX) (pn : List (Addr × Obj)) (xe : Value → Shared → Prop), Takes (X.tr pn xe) W → PassesOwn (model X.prog X.w) X.A X.env xe → PSs (X.tr pn xe) bd (tb W))
    (hsu : ∀ (a : Addr) (oe : Obj) (cls : Value) (dd : Option Addr) (pn : List (Addr × Obj)), Zc cls dd oe → (∃ vs, oe.data = .fields vs) → PSs (X.suite a ((a, oe) :: pn)) (b1 :: su) (ts a cls dd)) :
    PS X (.Try bd (.ExceptHandler (some (.Name x np)) (some n) (b1 :: su) hp' :: more) [] [] tp) (fun D σ H => tb (wFst X.K c i ts D) D σ H) := by
  refine ⟨fun pins s σ H D I hW => wpAny_Try_except ?_⟩
  have fr : X.A.frames = some (X.env :: X.outer) := I.ok.frames.trans (congrArg some hstk)
  let land : Value → Shared → Prop := fun e s1 => wpAny (model X.prog X.w) X.A (noteFrame e X.env) (fun _ s2 => wpAny (model X.prog X.w) X.A (setFlight e none) (fun _ s3 => wpAny (model X.prog X.w) X.A (handleBy e X.env (.ExceptHandler (some (.Name x np)) (some n) (b1 :: su) hp' :: more)) (SP X pins D) X.xe s3) X.xe s2) X.xe s1
  have caught : Takes (X.tr (X.pn ++ pins) land) (wFst X.K c i ts D) := by
    rintro u s' ⟨a, B, sI, pins', σ', H', cls, dd, rfl, J', nb, up, sky, na, os, ag, hm, hyes⟩
    have J : Inv X pins σ' H' sI := J'.ofTry I.ok
    show wpAny (model X.prog X.w) X.A (noteFrame (.ref a) X.env) _ _ _
    refine Sky.land Zc.steady fr hfrm (show Sky B (X.env :: X.outer) a (Zc cls dd) X.env.locals s'.heap from hstk ▸ sky) fun h3 fl up3 => ?_
    have J3 : Inv X pins σ' H' { s' with heap := h3 } := J.landed nb fl.1 (up.trans up3) os ag
    obtain ⟨o3, v3, g3, z3, d3⟩ := fl.there
    have apart : a ∉ frs (X.env :: X.outer) := fun hin => by
      obtain ⟨_, o', g', no⟩ := fl.2.2.1.mem hin
      rw [g3] at g'
      cases g'
      exact no _ d3
    have aL : a ≠ X.env.locals := fun z => apart (List.mem_filterMap.mpr ⟨X.env, List.mem_cons_self, hfrm.trans (congrArg some z.symm)⟩)
    have aF : a ∉ X.fs := fun hin => by
      obtain ⟨e, he, z⟩ := List.mem_filterMap.mp hin
      exact apart (List.mem_filterMap.mpr ⟨e, List.mem_cons_of_mem _ he, z⟩)
    have S3 := J3.suite g3 d3 na aL aF
    have tyIs : PySem.W.Looks (model X.prog X.w) h3 (typeOf (.ref a)) cls := fun A Q E s k z => wpAny_typeOf_ref (k _ _ g3) (z3.1.symm ▸ z)
    have meets := PySem.W.exm_one (M := model X.prog X.w) J3.kIn tyIs hm
    refine wpAny_handleBy_cons (codeAny_handlers_test ?_) (fun z => by cases z)
    have ask : ∀ {Q : Value → Shared → Prop} {E : Value → Shared → Prop}, Q c { s' with heap := h3 } → wpAny (model X.prog X.w) (X.A.mark (some (.ref a))) (eval (.Name x np) X.env) Q E { s' with heap := h3 } := fun {Q E} z => by
      rcases hcl with ⟨gl, nd', m | ⟨m, bv, nn⟩⟩
      · exact ld_glob (X := X.suite a ((a, o3) :: (X.pn ++ pins))) S3 gl m z nd'
      · exact ld_blt (X := X.suite a ((a, o3) :: (X.pn ++ pins))) S3 gl m bv z nn nd'
    refine ask (meets.here (codeAny_handlers_suite_as (HandSPX.lands_againZ fl fun h4 fl4 up4 => ?_)))
    have J4 : Inv X pins σ' H' { s' with heap := h4 } := J.landed nb fl4.1 ((up.trans up3).trans up4) os ag
    obtain ⟨o4, v4, g4, z4, d4⟩ := fl4.there
    refine store_ok (X := X.suite a ((a, o4) :: (X.pn ++ pins))) (v := .ref a) (J4.suite g4 d4 na aL aF) nd hix (.inl hlc) rfl (fun s5 S5 => ?_) (.inr hlc)
    refine wpAny_mono ((hsu a o4 cls dd (X.pn ++ pins) z4 ⟨_, d4⟩).run [] s5 _ H' _ S5 (hyes a na)) (fun fl6 s6 q6 => ?_) (fun _ _ z => z.elim)
    have gone : ∀ {σ6 : L2.St} {H6 : Hp} {Q : Shared → Prop}, Inv (X.suite a ((a, o4) :: (X.pn ++ pins))) [] σ6 H6 s6 → (∀ s7, Inv X pins (σ6.set i none) H6 s7 → Q s7) →
        wpAny (model X.prog X.w) X.A (do bindName X.env n .none; unbindBehindTheSuite X.env n hp') (fun _ s7 => Q s7) X.xe s6 := fun {σ6 H6 Q} S6 z => gone_ok (S6.unsuite I.ok) nd hix hlc z
    cases fl6 with
    | ret u => obtain ⟨v6, σ6, H6, S6, r6, z6⟩ := q6; exact gone S6 fun s7 J7 => ⟨_, _, _, J7, r6, z6⟩
    | next => obtain ⟨σ6, H6, S6, z6⟩ := q6; exact gone S6 fun s7 J7 => ⟨_, _, J7, z6⟩
    | brk => obtain ⟨σ6, H6, S6, z6⟩ := q6; exact gone S6 fun s7 J7 => ⟨_, _, J7, z6⟩
    | cont => obtain ⟨σ6, H6, S6, z6⟩ := q6; exact gone S6 fun s7 J7 => ⟨_, _, J7, z6⟩
  refine wpAny_mono ((hbd (wFst X.K c i ts D) (X.pn ++ pins) land caught PassesOwn.looking).run [] s σ H D (I.toTry _) hW) (fun fl s1 z => ?_) (fun e s1 z => z)
  cases fl with
  | ret u => obtain ⟨v, σ', H', J', r, z⟩ := z; exact ⟨v, σ', H', J'.ofTry I.ok, r, z⟩
  | next => obtain ⟨σ', H', J', z⟩ := z; exact wpAny_execs_nil ⟨σ', H', J'.ofTry I.ok, z⟩
  | brk => obtain ⟨σ', H', J', z⟩ := z; exact ⟨σ', H', J'.ofTry I.ok, z⟩
  | cont => obtain ⟨σ', H', J', z⟩ := z; exact ⟨σ', H', J'.ofTry I.ok, z⟩
end
/-! ### e.f of the caught error -/
section
variable {X : Cx} {a : Addr} {oe : Obj} {cls : Value} {d : Option Addr} {pn : List (Addr × Obj)} {i : Nat} {n f : Str} {p pos : Pos}
theorem pe_errf (hz : Zc cls d oe) (hf : ∃ vs, oe.data = .fields vs) (hv : PE (X.suite a ((a, oe) :: pn)) (.Name n p) (tVar i)) (hb : attributeBase (.Name n p) f X.env (eval (.Name n p) X.env) = eval (.Name n p) X.env := by rfl) :
    PE (X.suite a ((a, oe) :: pn)) (.Attribute (.Name n p) f pos) (fun σ H Q => σ[i]? = some (some (.ref a)) ∧ ∃ (C dd : Addr) (fs : List (Str × V)) (v : V), cls = .ref C ∧ XfC X.K C ∧ PySem.W.findIn X.K (.ref C) f = some none ∧ d = some dd ∧ H dd = some (.xd fs) ∧ fs.lookup f = some v ∧ Q v H) := by
  refine ⟨fun pins s σ H Q I h => ?_⟩
  obtain ⟨h1, C, dd, fs, v, h2, T, h3, h4, h5, h6, q⟩ := h
  exact (pe_xf T h3 hz hf hv hb).run pins s σ H Q I ⟨_, h1, rfl, h2, dd, fs, v, h4, h5, h6, q⟩
end
end FvX


set_option maxHeartbeats 2000000
namespace FvX
open PySem PySem.Spec PyProof.Rows L2 LamX
/-! ### x(lambda: body), where x calls what it got within a try and goes on behind it -/
section
variable {X : Cx} {pins : List (Addr × Obj)} {σ : L2.St} {H : Hp} {s : Shared}
/-- the call of the lambda; what it raises is told of the very slots -/
theorem pe_actS {Eg : XK} {Ng : List Str} {qg : Str} {sg : Scope} {gf lf lc : Addr} {cdg pm ctv : Value} {pr : Arguments} {bd : Expr} {sc : Scope} {k i : Nat} {nm : Str} {pn : List (Addr × Obj)} {xe : Value → Shared → Prop} {W : WX} {E : XK} {tb : TE} {p1 p2 : Pos}
    (I : Inv X pins σ H s) (L : LamS X.env.scope sc) (hobj : s.heap.get? lf = some (PySem.W.kla_obj "<lambda>" (X.env.qual ++ "<lambda>") pr bd sc (cloFrom X.env.cells sc.names []) pm lc ctv)) (hn : H lf = none) (hnf : lf ∉ frs X.stack)
    (hbnd : bindArgs (PySem.W.kla_fn "<lambda>" (X.env.qual ++ "<lambda>") pr bd sc (cloFrom X.env.cells sc.names []) pm (.ref lc) ctv) ⟨[], []⟩ = pure [])
    (tk : Takes ((cxOf C8.CX0 X.prog X.w X.K X.mg X.base Ng qg sg gf cdg X.A X.stack s H Eg).tr pn xe) W) (hr : Room (k + 1) (X.A.deeper (envOfC qg sg s.heap.objs.size gf cdg)))
    (hbd : ∀ (A : Around) (outer : List Env) (s : Shared) (H : Hp), Room k (A.deeper (lamEnv X sc s.heap.objs.size lf lc)) → PE (lamCx X A outer s H E sc lf lc) bd tb)
    (hN : Ng[i]? = some nm) (hv : Vis sg nm) (hd : (nm == ("__debug__" : Str)) = false) (hcd : (nm == ("__classdict__" : Str)) = false) :
    PE ((cxOf C8.CX0 X.prog X.w X.K X.mg X.base Ng qg sg gf cdg X.A X.stack s H Eg).tr pn xe) (.Call (.Name nm p1) [] [] p2)
      (fun σZ HZ Q => σZ[i]? = some (some (.ref lf)) ∧ HZ lc = some (CodeO lc (X.env.qual ++ "<lambda>")) ∧ (∀ cls d H', E cls d H' → W cls d σZ H') ∧ tb σ HZ Q) := by
  refine ⟨fun pZ sZ σZ HZ Q IZ hh => ?_⟩
  obtain ⟨h1, h2, hW, h3⟩ := hh
  have var := (pe_var (X := (cxOf C8.CX0 X.prog X.w X.K X.mg X.base Ng qg sg gf cdg X.A X.stack s H Eg).tr pn xe) (pos := p1) (i := i) hN hv hd hcd).run pZ sZ σZ HZ (fun v H1 => v = .ref lf ∧ H1 = HZ) IZ ⟨.ref lf, h1, rfl, rfl⟩
  refine wpAny_Call_Name_kw (thn var fun u s1 z => ?_)
  obtain ⟨v, H1, I1, r1, e1, e2⟩ := z
  subst e1
  subst e2
  have eu : u = Value.ref lf := r1
  subst eu
  have here := I1.base.keep lf _ hobj hn hnf (fun z => nomatch (show lf ∈ ([] : List Addr) from z))
  have un : Un (frs X.stack) [] H H1 s.heap s1.heap := I1.base
  obtain ⟨⟨oc, vs, t, g1, g2, g3⟩, _, _⟩ := I1.hok lc _ h2
  have body : codeAny (model X.prog X.w) (X.A.deeper (envOfC qg sg s.heap.objs.size gf cdg)) (.call (.ref lf) ⟨[], []⟩) (CR (L2.CX X.prog X.w) (envOfC qg sg s.heap.objs.size gf cdg :: X.stack) X.prog X.w H1 s1 Q E) s1 := by
    refine PySem.W.kla_callFunE hr.depth here rfl L.co L.gen rfl ⟨lc, oc, vs, t, rfl, g1, g2, g3⟩ ?_
    rw [hbnd]
    refine wpAny_pure (wpAny_newFunctionEnv (fun y hy => (L.own y hy).2) (fun y hy => absurd hy List.not_mem_nil) (fun h₁ hns hsb => ⟨I1.nolimit.fresh _ hsb, ?_⟩) L.kind)
    show codeAny _ _ (.expr bd (lamEnv X sc s1.heap.objs.size lf lc)) _ _
    have kp : ∀ b o, s1.heap.get? b = some o → h₁.get? b = some o := fun b o e => hsb.extBut b o (Nat.ne_of_lt (Heap.lt_size e)) (Heap.get?_push_of_some _ e)
    have J := lam_start2 (A := X.A.deeper (envOfC qg sg s.heap.objs.size gf cdg)) (outer := envOfC qg sg s.heap.objs.size gf cdg :: X.stack) (E := E) (scope := sc) (f := lf) (c' := lc) (tk := s1.toks + ([] : List (Str × Value)).length) I L I1.env0 hr.hd un hns kp
    refine PySem.W.kla_codeExpr (wpAny_mono ((hbd _ _ s1 H1 (hr.deeper _)).run [] _ _ H1 Q J h3) (fun v s' z => ?_) fun e s' z => z)
    obtain ⟨v', H', J', rv, z⟩ := z
    exact ⟨v', H', J'.os, J'.bare, J'.base, J'.hok, rv, z⟩
  refine PySem.W.callWith_F0 ⟨_, _, _, _, here⟩ (wpAny_call (codeAny_mono body fun r s' z => ?_))
  cases r with
  | ok fl =>
    cases fl with
    | ret u => exact I1.after z
    | next => exact z.elim
    | brk => exact z.elim
    | cont => exact z.elim
  | error e => exact tk e s' (XE.of_call I1 (fun cls d H' hE => hW cls d H' hE) z)
end
/-- the def at gf, called with one value, makes of the lambda's reading what TT says -/
def GivesS (X : Cx) (Ng : List Str) (x : Str) (sg : Scope) (gf : Addr) (cdg : Value) (bg : List Stmt) (nm q : Str) (TT : (XK → Hp → VK → Prop) → Hp → VK → Prop) : Prop :=
  ∀ (lf lc : Addr) (s : Shared) (H : Hp) (Q : VK) (tl : XK → Hp → VK → Prop),
    (∀ (W : WX) (pn : List (Addr × Obj)) (xe : Value → Shared → Prop) (E : XK) (p1 p2 : Pos), Takes ((cxOf C8.CX0 X.prog X.w X.K X.mg X.base Ng x sg gf cdg X.A X.stack s H C8.E0).tr pn xe) W →
      PE ((cxOf C8.CX0 X.prog X.w X.K X.mg X.base Ng x sg gf cdg X.A X.stack s H C8.E0).tr pn xe) (.Call (.Name nm p1) [] [] p2)
        (fun σZ HZ Q => σZ[0]? = some (some (.ref lf)) ∧ HZ lc = some (CodeO lc q) ∧ (∀ cls d H', E cls d H' → W cls d σZ H') ∧ tl E HZ Q)) →
    H lc = some (CodeO lc q) → TT tl H Q →
    ∃ t, PSs (cxOf C8.CX0 X.prog X.w X.K X.mg X.base Ng x sg gf cdg X.A X.stack s H C8.E0).nox bg t ∧ t { nx := fun _ H' => Q .non H', rt := Q } (L2.start Ng [.ref lf]) H
section
variable {X : Cx}
theorem pe_lamS {T : List (Addr × Str)} {TT : (XK → Hp → VK → Prop) → Hp → VK → Prop} {x nm : Str} {gf c P : Addr} {k : Nat} {pg : Arguments} {bg : List Stmt} {sg : Scope} {dV kV doc pm cdv ct oc : Value} {an od : Option Addr} {osl : Array (Option Value)} {Ng : List Str}
    {pr : Arguments} {bd : Expr} {sc : Scope} {t : XK → TE} {p lpos pos : Pos} (hg : Gl X x) (hm : X.mg x = some (.ref gf)) (hk : PySem.W.keepIn X.K (.ref gf) = true)
    (lk : X.K.lookup gf = some ⟨oc, od, .func (PySem.W.fnOf x x pg bg sg dV kV doc pm an cdv ct), osl⟩) (hcg : PySem.W.codeIn X.K cdv x = true) (hb : L2.Binds X.K (PySem.W.fnOf x x pg bg sg dV kV doc pm an cdv ct) [nm] []) (Sg : FnScope Ng [nm] sg) (hNg : Ng[0]? = some nm) (hva : Vis sg nm)
    (hG : GivesS X Ng x sg gf cdv bg nm (X.env.qual ++ "<lambda>") TT)
    (TB : TabB X.base X.mg c P) (hcode : X.env.code = .ref c) (hmT : (P, X.env.qual ++ "<lambda>") ∈ T) (hu : ∀ p ∈ T, p.1 = P → p.2 = X.env.qual ++ "<lambda>") (hr : Room (k + 2) X.A) (L : LamS X.env.scope sc) (hdef : defaultsOf pr X.env = ([], []))
    (hbind : ∀ (q : Str) (cl : List (Str × Addr)) (pm cv ctv : Value), bindArgs (PySem.W.kla_fn "<lambda>" q pr bd sc cl pm cv ctv) ⟨[], []⟩ = pure [])
    (hbd : ∀ (A : Around) (outer : List Env) (s : Shared) (H : Hp) (E : XK) (lf lc : Addr), Room k (A.deeper (lamEnv X sc s.heap.objs.size lf lc)) → PE (lamCx X A outer s H E sc lf lc) bd (t E))
    (hdb : (x == ("__debug__" : Str)) = false := by decide) (hd : (nm == ("__debug__" : Str)) = false := by decide) (hcd : (nm == ("__classdict__" : Str)) = false := by decide) :
    PE X (.Call (.Name x p) [.Lambda pr bd sc lpos] [] pos) (tLam T TT t) := by
  refine ⟨fun pins s σ H Q I hh => wpAny_Call_Name_kw (ld_glob I hg hm (PySem.W.callWith_K (h₀ := X.base) I.ok.mod.kin hk ?_ (by rfl) (by rfl)) hdb)⟩
  show wpAny _ _ (spliced ((false, eval (.Lambda pr bd sc lpos) X.env) :: backTo pos (starEach [] X.env))) _ _ s
  refine Calls.spliced_cons (lam_make2 I TB hcode hmT hu hh.1 hdef (L.has I.ok) fun lf lc pm' ctv H1 s' I1 eN T1 g1 g2 g3 g4 => Calls.spliced_nil ⟨I1.kIn, ?_⟩)
  refine wpAny_call (codeAny_mono (R := CR C8.CX0 X.stack X.prog X.w H1 s' Q C8.E0) ?_ fun r s2 z => ?_)
  · refine run_ofS (N := Ng) (ps := [nm]) (us := [.ref lf]) (vs := [.ref lf]) lk hcg Sg hr I1.env0 (hb s' [.ref lf] I1.kIn rfl) (.cons rfl .nil) rfl fun hr' => ?_
    obtain ⟨t', q1, q2⟩ := hG lf lc s' H1 Q (fun E H' Q' => t E σ H' Q') (fun W pn xe E p1 p2 tk => pe_actS (i := 0) I1 L g1 g2 g3 (hbind _ _ _ _ _) tk hr' (fun A outer s H hr2 => hbd A outer s H E lf lc hr2) hNg hva hd hcd) g4 (hh.2 H1 eN T1)
    exact ⟨t', q1.nox, q2⟩
  · cases r with
    | error e => exact (show False from z).elim
    | ok fl =>
      cases fl with
      | ret u => exact I1.after z
      | next => exact z.elim
      | brk => exact z.elim
      | cont => exact z.elim
end
end FvX


namespace Fv
open PySem PySem.Spec PyProof.Rows L2 FvX
/-! ### own defs that may raise -/
structure OwnR (P : Program) (w : World) (K : PySem.W.Frag) (mg : Str → Option Value) (base : Heap) (k : Nat) (x : Str) (sp : Sp) : Prop where
  ex : ∃ f : Addr, mg x = some (.ref f) ∧ PySem.W.keepIn K (.ref f) = true ∧ FnR P w K mg base (L2.CX P w) k f sp
section
variable {X : Cx} {k : Nat} {x : Str} {sp : Sp} {E : XK} {e : Expr} {es : List Expr} {t : TA} {p pos : Pos}
theorem pe_ownR (C : OwnR X.prog X.w X.K X.mg X.base k x sp) (hr : Room k X.A) (hg : Gl X x) (hx : Passes (L2.CX X.prog X.w) X E) (ha : PA X (e :: es) t) (hdb : (x == ("__debug__" : Str)) = false := by decide)
    (he : starEach (e :: es) X.env = (false, eval e X.env) :: starEach es X.env := by rfl) (hpl : (backTo pos (starEach es X.env)).any (·.1) = false := by rfl) : PE X (.Call (.Name x p) (e :: es) [] pos) (fun σ H Q => t σ H fun vs H1 => sp vs H1 Q E) := by
  obtain ⟨f, h1, h2, h3⟩ := C.ex
  refine ⟨fun pins s σ H Q I h => wpAny_Call_Name_kw (ld_glob I hg h1 (PySem.W.callWith_K (h₀ := X.base) I.ok.mod.kin h2 (thn (ha.run pos pins s σ H _ I h) fun us s1 z => ?_) he hpl) hdb)⟩
  obtain ⟨vs, H1, I1, r, q⟩ := z
  exact ⟨I1.kIn, wpAny_call (run_fnR h3 hr hx I1 r q)⟩
theorem pe_ownR0 (C : OwnR X.prog X.w X.K X.mg X.base k x sp) (hr : Room k X.A) (hg : Gl X x) (hx : Passes (L2.CX X.prog X.w) X E) (hdb : (x == ("__debug__" : Str)) = false := by decide) : PE X (.Call (.Name x p) [] [] pos) (fun σ H Q => sp [] H Q E) := by
  obtain ⟨f, h1, h2, h3⟩ := C.ex
  exact ⟨fun pins s σ H Q I h => wpAny_Call_Name_kw (ld_glob I hg h1 (PySem.W.callWith_K0 I.kIn h2 (wpAny_call (run_fnR h3 hr hx I .nil h))) hdb)⟩
end
theorem passX {P : Program} {w : World} {K : PySem.W.Frag} {mg : Str → Option Value} {base : Heap} {N : List Str} {qual : Str} {scope : Scope} {f : Addr} {cd : Value} {A : Around} {outer : List Env} {s : Shared} {H : Hp} {E : XK} :
    Passes (L2.CX P w) (cxOf (L2.CX P w) P w K mg base N qual scope f cd A outer s H E) E := passes_call (takes_of rfl rfl rfl rfl) (fun _ _ _ _ h => h)
theorem passL {X : Cx} {A : Around} {outer : List Env} {s : Shared} {H : Hp} {E : XK} {sc : Scope} {lf lc : Addr} : Passes (L2.CX X.prog X.w) (LamX.lamCx X A outer s H E sc lf lc) E := passes_call (takes_of rfl rfl rfl rfl) (fun _ _ _ _ h => h)
/-- the error of the class at CT leaves, its code told -/
def errAt (CT : Addr) (cod : Str) (H : Hp) (E : XK) : Prop := ∀ (H' : Hp) (dd : Addr), Same H H' → H' dd = some (.xd [("code", .str cod)]) → E (.ref CT) (some dd) H'
theorem errAt.mono {CT : Addr} {cod : Str} {H H1 : Hp} {E : XK} (h : errAt CT cod H E) (s : Same H H1) : errAt CT cod H1 E := fun H' dd s' e => h H' dd (s.trans s') e
/-- a term by is_term's default bounds -/
def tmB (d : PyData) : Bool := (meas 5 d 24).isSome
def spChecked (K : PySem.W.Frag) (CT : Addr) : Sp := fun vs H Q E => ∃ (v : V) (d : PyData), vs = [v] ∧ Dp K H v d ∧ gd 20 d = true ∧ (tmB d = true → ∀ H', Same H H' → Q v H') ∧ (tmB d = false → errAt CT "InvalidTerm" H E)
/-- the term of an operator and its parts, or the only part -/
def madeD (op : Str) : List PyData → PyData
  | [d] => d
  | ds => .tuple (.str op :: ds)
def spJoined (K : PySem.W.Frag) (CT : Addr) : Sp := fun vs H Q E => ∃ (op : Str) (tp : Addr) (xs : List V) (ds : List PyData), vs = [.str op, .ref tp] ∧ SqT K H tp xs ∧ DpAll K H xs ds ∧ xs.length ≤ 100 ∧ gd 0 (.str op) = true ∧ (∀ d ∈ ds, gd 15 d = true) ∧
  (tmB (madeD op ds) = true → ∀ H' v, Same H H' → Dp K H' v (madeD op ds) → Q v H') ∧ (tmB (madeD op ds) = false → errAt CT "InvalidTerm" H E)
def spLower (K : PySem.W.Frag) (CT : Addr) (op : Str) : Sp := fun vs H Q E => ∃ (tp : Addr) (xs : List V) (ds : List PyData), vs = [.ref tp] ∧ SqT K H tp xs ∧ DpAll K H xs ds ∧ xs.length ≤ 100 ∧ (∀ d ∈ ds, gd 15 d = true) ∧
  (tmB (madeD op ds) = true → ∀ H' v, Same H H' → Dp K H' v (madeD op ds) → Q v H') ∧ (tmB (madeD op ds) = false → errAt CT "InvalidTerm" H E)
def spLowerR (K : PySem.W.Frag) (CT : Addr) (op : Str) : Sp := fun xs H Q E => ∃ ds : List PyData, DpAll K H xs ds ∧ xs.length ≤ 100 ∧ (∀ d ∈ ds, gd 15 d = true) ∧
  (tmB (madeD op ds) = true → ∀ H' v, Same H H' → Dp K H' v (madeD op ds) → Q v H') ∧ (tmB (madeD op ds) = false → errAt CT "InvalidTerm" H E)
theorem madeD_gd {op : Str} {ds : List PyData} (ho : gd 0 (.str op) = true) (h : ∀ d ∈ ds, gd 15 d = true) (hl : ds.length ≤ 100) : gd 20 (madeD op ds) = true := by
  have z : gd 16 (.tuple (.str op :: ds)) = true := gd_tup (fun d hd => by
    rcases List.mem_cons.mp hd with e | e
    · rw [e]; exact gd_le ho (by decide)
    · exact h d e) (by rw [List.length_cons]; omega)
  unfold madeD
  split
  · rename_i d
    exact gd_le (h d (List.mem_singleton.mpr rfl)) (by decide)
  · exact gd_le z (by decide)
theorem madeD_ne {op : Str} {ds : List PyData} (h : ds.length ≠ 1) : madeD op ds = .tuple (.str op :: ds) := by
  match ds, h with
  | [], _ => rfl
  | [d], h => exact absurd rfl h
  | a :: b :: r, _ => rfl
end Fv


namespace Fv
open PySem PySem.Spec PyProof.Rows L2 FvX
theorem lmeas_up : ∀ (n : Nat) (d : PyData), 1 ≤ lmeas n d → lmeas (n + 1) d = lmeas n d
  | 0, d, h => by simp only [lmeas] at h; omega
  | n + 1, d, h => by
    by_cases a : isLd d = true
    · unfold lmeas
      rw [if_pos a, if_pos a]
    · by_cases b : isCd d = true
      · have e : ∀ m, lmeas (m + 1) d = if (0 : Int) ∈ (parts d).map (lmeas m) then 0 else ((parts d).map (lmeas m)).sum := fun m => by
          show (if isLd d = true then (1 : Int) else if isCd d = true then _ else 0) = _
          rw [if_neg a, if_pos b]
        rw [e] at h
        by_cases c : (0 : Int) ∈ (parts d).map (lmeas n)
        · rw [if_pos c] at h; omega
        · have em : (parts d).map (lmeas (n + 1)) = (parts d).map (lmeas n) := List.map_congr_left fun x hx => lmeas_up n x (by
            have z := lmeas_nonneg n x
            rcases Int.lt_or_eq_of_le z with z | z
            · omega
            · exact absurd (List.mem_map.mpr ⟨x, hx, z.symm⟩) c)
          rw [e (n + 1), e n, em]
      · have e : ∀ m, lmeas (m + 1) d = 0 := fun m => by
          show (if isLd d = true then (1 : Int) else if isCd d = true then _ else 0) = _
          rw [if_neg a, if_neg b]
        rw [e] at h; omega
theorem mem_le_sum : ∀ {l : List Int} {x : Int}, (∀ y ∈ l, 0 ≤ y) → x ∈ l → x ≤ l.sum
  | y :: l, x, h, hx => by
    rw [List.sum_cons]
    have h0 := sum_nonneg (l := l) fun z hz => h z (List.mem_cons_of_mem _ hz)
    have h1 := h y (List.mem_cons_self ..)
    rcases List.mem_cons.mp hx with e | e
    · omega
    · have := mem_le_sum (l := l) (fun z hz => h z (List.mem_cons_of_mem _ hz)) e
      omega
theorem tmB_iff (d : PyData) : tmB d = true ↔ 1 ≤ lmeas 5 d ∧ lmeas 5 d ≤ 24 := by
  unfold tmB
  rw [meas_some, Bool.and_eq_true, decide_eq_true_eq, decide_eq_true_eq]
theorem tmB_fits (d : PyData) : (decide (1 ≤ lmeas 5 d) && decide (lmeas 5 d ≤ 24)) = tmB d := (meas_some 5 d 24).symm
/-- what makes a term is made of terms -/
theorem made_parts {op : Str} {ds : List PyData} (h : tmB (madeD op ds) = true) : ds ≠ [] ∧ ∀ d ∈ ds, tmB d = true := by
  match ds, h with
  | [], h => cases (show false = true from h)
  | [d], h => exact ⟨fun z => (by cases z), fun x hx => by rw [List.mem_singleton.mp hx]; exact h⟩
  | a :: b :: r, h =>
    refine ⟨fun z => (by cases z), fun x hx => ?_⟩
    obtain ⟨h1, h2⟩ := (tmB_iff _).mp h
    have e : lmeas 5 (madeD op (a :: b :: r)) = if isCd (.tuple (.str op :: a :: b :: r)) = true then (if (0 : Int) ∈ (a :: b :: r).map (lmeas 4) then 0 else ((a :: b :: r).map (lmeas 4)).sum) else 0 := rfl
    rw [e] at h1 h2
    by_cases c : isCd (.tuple (.str op :: a :: b :: r)) = true
    · rw [if_pos c] at h1 h2
      by_cases c0 : (0 : Int) ∈ (a :: b :: r).map (lmeas 4)
      · rw [if_pos c0] at h1; omega
      · rw [if_neg c0] at h1 h2
        have z := lmeas_nonneg 4 x
        have x1 : 1 ≤ lmeas 4 x := by
          rcases Int.lt_or_eq_of_le z with z | z
          · omega
          · exact absurd (List.mem_map.mpr ⟨x, hx, z.symm⟩) c0
        have xs : lmeas 4 x ≤ ((a :: b :: r).map (lmeas 4)).sum := mem_le_sum (fun y hy => by
          obtain ⟨d', _, rfl⟩ := List.mem_map.mp hy
          exact lmeas_nonneg 4 d') (List.mem_map.mpr ⟨x, hx, rfl⟩)
        exact (tmB_iff x).mpr (by rw [lmeas_up 4 x x1]; omega)
    · rw [if_neg c] at h1; omega
def badD : PyData := .tuple [.none, .str "InvalidTerm"]
def outD (op : Str) (ds : List PyData) : PyData := if tmB (madeD op ds) = true then .tuple [madeD op ds, .str ""] else badD
def opOf (low : Bool) : Str := if low = true then "&" else "|"
def spMade (K : PySem.W.Frag) (CT : Addr) : Sp := fun vs H Q E => ∃ (pl : Addr) (xs : List V) (ds : List PyData) (low : Bool), vs = [.ref pl, .bl low] ∧ H pl = some (.lst xs) ∧ DpAll K H xs ds ∧ xs.length ≤ 4 ∧ (∀ d ∈ ds, gd 13 d = true) ∧
  (tmB (madeD (opOf low) ds) = true → ∀ H' v, Same H H' → Dp K H' v (madeD (opOf low) ds) → Q v H') ∧ (tmB (madeD (opOf low) ds) = false → errAt CT "InvalidTerm" H E)
def spDue (K : PySem.W.Frag) : Sp := fun vs H Q _ => ∃ (pl : Addr) (xs : List V) (ds : List PyData) (low : Bool), vs = [.ref pl, .bl low] ∧ H pl = some (.lst xs) ∧ DpAll K H xs ds ∧ xs.length ≤ 4 ∧ (∀ d ∈ ds, gd 13 d = true) ∧
  ∀ H' v, Same H H' → Dp K H' v (outD (opOf low) ds) → Q v H'
theorem eqv_nil (ds : List PyData) : PyData.eqv (.list ds) (.list []) = decide (ds = []) := by
  cases ds with
  | nil => rfl
  | cons d ds => simp [PyData.eqv, PyData.eqvAll]
/-- what _law_call makes of the lambda's reading -/
def TCall (K : PySem.W.Frag) (CF : Addr) : (XK → Hp → VK → Prop) → Hp → VK → Prop := fun tl H Q => ∀ (R : VK) (E : XK),
  (∀ v H', (∀ p, H' p = none → Q (.ref p) (upd H' p (.tup [v, .str ""]))) → R v H') →
  (∀ (C dd : Addr) (H' : Hp) (fs : List (Str × V)) (v : V), PySem.W.exmOne K (.ref C) (.ref CF) = some true → XfC K C → PySem.W.findIn K (.ref C) "code" = some none → H' dd = some (.xd fs) → fs.lookup ("code" : Str) = some v →
      (∀ p, H' p = none → Q (.ref p) (upd H' p (.tup [.non, v]))) → E (.ref C) (some dd) H') → tl E H R
end Fv


namespace Fv
open PySem PySem.Spec PyProof.Rows L2 FvX
/-! ### what stays when a lambda is made -/
theorem sq_ext {K : PySem.W.Frag} {H H' : Hp} {a : Addr} {xs : List V} (e : LamX.ExtN H H') (h : SqL K H a xs) : SqL K H' a xs := by
  rcases h with (h | ⟨o, h⟩) | h
  · exact .inl (.inl (e _ _ h fun ps z => by cases z))
  · exact .inl (.inr ⟨o, e _ _ h fun ps z => by cases z⟩)
  · exact .inr h
theorem sqT_ext {K : PySem.W.Frag} {H H' : Hp} {a : Addr} {xs : List V} (e : LamX.ExtN H H') (h : SqT K H a xs) : SqT K H' a xs := by
  rcases h with (h | ⟨o, h⟩) | h
  · exact .inl (.inl (e _ _ h fun ps z => by cases z))
  · exact .inl (.inr ⟨o, e _ _ h fun ps z => by cases z⟩)
  · exact .inr h
mutual
theorem dp_ext {K : PySem.W.Frag} {H H' : Hp} (e : LamX.ExtN H H') : ∀ (d : PyData) (v : V), Dp K H v d → Dp K H' v d
  | .none, _, h => by cases h; exact .non
  | .bool b, _, h => by cases h; exact .bl b
  | .int i, _, h => by cases h; exact .int i
  | .str x, _, h => by cases h; exact .str x
  | .list ds, _, h => by cases h with | lst hs ha => exact .lst (sq_ext e hs) (dpAll_ext e ds _ ha)
  | .tuple ds, _, h => by cases h with | tup hs ha => exact .tup (sqT_ext e hs) (dpAll_ext e ds _ ha)
  | .dict kvs, _, h => by cases h
theorem dpAll_ext {K : PySem.W.Frag} {H H' : Hp} (e : LamX.ExtN H H') : ∀ (ds : List PyData) (vs : List V), DpAll K H vs ds → DpAll K H' vs ds
  | [], _, h => by cases h; exact .nil
  | d :: ds, _, h => by cases h with | cons h1 h2 => exact .cons (dp_ext e d _ h1) (dpAll_ext e ds _ h2)
end
theorem ext_hide {M : List Addr} {H H' : Hp} (e : LamX.ExtN H H') : LamX.ExtN (hide M H) (hide M H') := fun b o z n => by
  obtain ⟨m, z⟩ := hide_some z
  rw [hide_ne m]
  exact e b o z n
theorem Src.ext {H H' : Hp} {a L : Addr} {ns : List Int} (h : Src H a L ns) (e : LamX.ExtN H H') : Src H' a L ns := by
  obtain ⟨i, p, st, c, h1, h2, h3⟩ := h
  exact ⟨i, p, st, c, e _ _ h1 (fun ps z => by cases z), e _ _ h2 (fun ps z => by cases z), h3⟩
theorem GV.ext {K : PySem.W.Frag} {n : Nat} {M : List Addr} {H H' : Hp} {v : V} (g : GV K n M H v) (e : LamX.ExtN H H') : GV K n M H' v := by
  obtain ⟨d, h1, h2⟩ := g
  exact ⟨d, dp_ext (ext_hide e) d v h1, h2⟩
theorem GV.smx {K : PySem.W.Frag} {n : Nat} {M : List Addr} {H H' : Hp} {v : V} (g : GV K n M H v) (s : SmX M H H') : GV K n M H' v := by
  obtain ⟨d, h1, h2⟩ := g
  exact ⟨d, dp_same s.hid d v h1, h2⟩
/-- tables stay where lists alone are changed -/
theorem tabs_smx {T : List (Addr × Str)} {M : List Addr} {H H' : Hp} (t : LamX.Tabs T H) (s : SmX M H H') (hM : ∀ b ∈ M, ∃ xs, H b = some (.lst xs)) : LamX.Tabs T H' := fun p hp => by
  obtain ⟨ps, h1, h2, h3⟩ := t p hp
  have nm : ∀ {b : Addr} {o : HO}, H b = some o → (∀ xs, o ≠ .lst xs) → b ∉ M := fun {b o} e n hb => by
    obtain ⟨xs, e'⟩ := hM b hb
    rw [e] at e'
    exact n xs (Option.some.inj e')
  refine ⟨ps, s _ _ (nm h1 fun xs z => by cases z) h1, h2, fun pos cv hc => ?_⟩
  obtain ⟨c, e1, e2⟩ := h3 pos cv hc
  exact ⟨c, e1, s _ _ (nm e2 fun xs z => by unfold LamX.CodeO at z; cases z) e2⟩
theorem tabs_same {T : List (Addr × Str)} {H H' : Hp} (t : LamX.Tabs T H) (s : Same H H') : LamX.Tabs T H' := t.ext s
theorem Src.lst {H : Hp} {a L : Addr} {ns : List Int} (h : Src H a L ns) : ∀ b ∈ [a], ∃ xs, H b = some (.lst xs) := fun b hb => by
  obtain ⟨_, _, _, _, e, _⟩ := h
  rw [List.mem_singleton.mp hb]
  exact ⟨_, e⟩
/-- the table of the law's own code -/
def TT0 (Pt : Addr) : List (Addr × Str) := [(Pt, ("law" : Str) ++ ".<locals>." ++ "<lambda>")]
section
variable {P : Program} {w : World} {K : PySem.W.Frag} {mg : Str → Option Value} {base : Heap}
/-- a def whose code object is told -/
theorem okC {x qual : Str} {st : Stmt} {f c : Addr} {oc : Value} {od an : Option Addr} {osl : Array (Option Value)} {kV doc pm ct : Value} {N ps : List Str} {k : Nat} {sp : Sp} (lk : K.lookup f = some ⟨oc, od, .func (PySem.W.fnOf x qual (defArgs st) (defBody st) (defScope st) .none kV doc pm an (.ref c) ct), osl⟩)
    (hcd : PySem.W.codeIn K (.ref c) qual = true) (S : FnScope N ps (defScope st)) (len : ∀ vs H Q E, sp vs H Q E → vs.length = ps.length)
    (hbody : ∀ (A : Around) (outer : List Env) (s : Shared) (H : Hp) (vs : List V) (Q : VK) (E : XK), Room k (A.deeper (envOfC qual (defScope st) s.heap.objs.size f (.ref c))) → sp vs H Q E →
      ∃ t, PSs (cxOf CX0 P w K mg base N qual (defScope st) f (.ref c) A outer s H E).nox (defBody st) t ∧ t { nx := fun _ H' => Q .non H', rt := Q } (start N vs) H) :
    FnOk P w K mg base CX0 (k + 1) f (PySem.W.fnOf x qual (defArgs st) (defBody st) (defScope st) .none kV doc pm an (.ref c) ct) ps sp :=
  fn_of lk hcd S len fun A outer s H vs Q E hr h => by
    obtain ⟨t, h1, h2⟩ := hbody A outer s H vs Q E hr h
    exact ⟨t, h1.nox, h2⟩
end
def spLawT (K : PySem.W.Frag) (Pt : Addr) : Sp := fun vs H Q _ => ∃ (a : Addr) (ns : List Int), vs = [.ref a] ∧ SqL K H a (ns.map V.int) ∧ ns.length ≤ 63 ∧ H Pt = some (.tbl #[]) ∧ ∀ H', Q (.bl true) H'
theorem outD_gd {op : Str} {ds : List PyData} (h : gd 20 (madeD op ds) = true) : gd 21 (outD op ds) = true := by
  unfold outD
  split
  · refine gd_tup (fun d hd => ?_) (Nat.le_of_ble_eq_true rfl)
    rcases List.mem_cons.mp hd with e | e
    · rw [e]; exact h
    · rw [List.mem_singleton.mp e]; exact gd_le (n := 0) (by decide +kernel) (Nat.zero_le _)
  · exact gd_le (n := 1) (by decide +kernel) (by decide)
end Fv


namespace Fv
open PySem PySem.Spec PyProof.Rows L2
def topS (i : Nat) : Stmt := PySem.Challenge.pw_fivefault_k02_measures_and_subterms.main.body.getD i (.Pass ⟨0, 0, 0, 0⟩)
-- top 23  slots: 0:_law_source_here 1:_law_many 2:_law_cell 3:_law_digit 4:_law_mixed_here
abbrev s_law_take : Stmt := topS 23
abbrev N_law_take : List Str := ["_law_source_here", "_law_many", "_law_cell", "_law_digit", "_law_mixed_here"]
theorem sc_law_take : FnScope N_law_take ["_law_source_here", "_law_many"] (defScope s_law_take) := ⟨rfl, rfl, rfl, by decide +kernel, rfl, by decide +kernel, by decide +kernel⟩

theorem at_int {ns : List Int} {i : Int} (h0 : 0 ≤ i) (h : i < ((ns.map V.int).length : Nat)) : ∃ v : Int, atI (ns.map V.int) i = some (.int v) := by
  rw [List.length_map] at h
  have hk : i.toNat < ns.length := by omega
  have q : atI (ns.map V.int) ((i.toNat : Nat) : Int) = some (.int ns[i.toNat]) := atI_nat (by rw [List.getElem?_map, List.getElem?_eq_getElem hk] <;> rfl)
  rw [show ((i.toNat : Nat) : Int) = i by omega] at q
  exact ⟨_, q⟩
def zz (st c : Int) : Int := (((st * st) % 2147483629 + 40507 * (c + 1)) * 48271 + st + 17) % 2147483629
theorem pos1 : (0 : Int) < 2147483587 := by decide
theorem pos2 : (0 : Int) < 2147483629 := by decide
theorem pos3 : (0 : Int) < 8191 := by decide
section
variable {P : Program} {w : World} {K : PySem.W.Frag} {mg : Str → Option Value} {base : Heap}
theorem ok_take {f : Addr} {fd : FuncData} {k : Nat} (F : Fun K "_law_take" "_law_take" s_law_take f fd) (m_len : mg "len" = none) (m_int : mg "int" = none) :
    FnOk P w K mg base CX0 (k + 1) f fd ["_law_source_here", "_law_many"] spTake := by
  refine F.ok sc_law_take (fun vs H Q E h => ?_) (fun cdv A outer s H vs Q E hr h => ?_)
  · obtain ⟨a, L, ns, n, rfl, _⟩ := h
    rfl
  · obtain ⟨a, L, ns, n, rfl, ⟨i, p, st, c, hA, hL, h0, h1, h2⟩, n1, n2, q⟩ := h
    have aL : L ≠ a := fun e => by
      rw [e, hA] at hL
      cases ns with
      | nil => cases hL
      | cons x r => cases hL
    refine ⟨_, (C8.pss_cut (ps_if (PW.pt (pw_and (pt_cmpR op_eq (pe_ix ix_list (pv 0) pe_int (fun _ _ => rfl)) pe_int (nomark _)) (pw_and1 (pt_cmpR op_lt (pe_ix ix_list (pv 0) pe_int (fun _ _ => rfl)) (pe_callB call_len_seq (by rfl) m_len (by decide +kernel) (pa_cons (pe_ix ix_list (pv 0) pe_int (fun _ _ => rfl)) pa_nil)) (nomark _)))))
        (pss_cons (ps_set (i := 2) sc_law_take.nd rfl (by first | exact .inl rfl | exact .inr rfl) (pe_ix ix_list (pe_ix ix_list (pv 0) pe_int (fun _ _ => rfl)) (pe_ix ix_list (pv 0) pe_int (fun _ _ => rfl)) (fun _ _ => rfl)))
        (pss_cons (ps_asg (pe_op op_add (pe_ix ix_list (pv 0) pe_int (fun _ _ => rfl)) pe_int) (pg_sub (pv 0) pe_int set_list))
        (pss_one (ps_if (pt_cmpR op_ge (pv 2) (pe_op op_pow pe_int pe_int) (nomark _))
          (pss_one (ps_asg (pv 2) (pg_sub (pv 0) pe_int set_list)))
          (pss_one (ps_asg (pe_op op_mod (pe_callTy call_int1 (by rfl) m_int (by decide +kernel) (pa_cons (pe_op op_add (pe_op op_add (pe_op op_mul (pe_ix ix_list (pv 0) pe_int (fun _ _ => rfl)) pe_int) (pe_op op_mul (pe_op op_mod (pe_callTy call_int1 (by rfl) m_int (by decide +kernel) (pa_cons (pv 2) pa_nil)) pe_int) pe_int)) pe_int) pa_nil)) pe_int) (pg_sub (pv 0) pe_int set_list)))))))
        pss_nil)
      (pss_cons (ps_if (pt_cmpR op_gt (pe_ix ix_list (pv 0) pe_int (fun _ _ => rfl)) pe_int (nomark _))
        (pss_cons (ps_set (i := 3) sc_law_take.nd rfl (by first | exact .inl rfl | exact .inr rfl) (pe_op op_mod (pe_callTy call_int1 (by rfl) m_int (by decide +kernel) (pa_cons (pe_ix ix_list (pv 0) pe_int (fun _ _ => rfl)) pa_nil)) (pv 1)))
        (pss_cons (ps_asg (pe_op op_fdiv (pe_ix ix_list (pv 0) pe_int (fun _ _ => rfl)) (pv 1)) (pg_sub (pv 0) pe_int set_list))
        (pss_one (ps_ret (pv 3)))))
        pss_nil)
      (pss_cons (ps_asg (pe_op op_add (pe_ix ix_list (pv 0) pe_int (fun _ _ => rfl)) pe_int) (pg_sub (pv 0) pe_int set_list))
      (pss_cons (ps_set (i := 4) sc_law_take.nd rfl (by first | exact .inl rfl | exact .inr rfl) (pe_op op_add (pe_op op_mod (pe_callTy call_int1 (by rfl) m_int (by decide +kernel) (pa_cons (pe_op op_mul (pe_ix ix_list (pv 0) pe_int (fun _ _ => rfl)) (pe_ix ix_list (pv 0) pe_int (fun _ _ => rfl))) pa_nil)) pe_int) (pe_op op_mul pe_int (pe_ix ix_list (pv 0) pe_int (fun _ _ => rfl)))))
      (pss_cons (ps_asg (pe_op op_mod (pe_callTy call_int1 (by rfl) m_int (by decide +kernel) (pa_cons (pe_op op_add (pe_op op_add (pe_op op_mul (pv 4) pe_int) (pe_ix ix_list (pv 0) pe_int (fun _ _ => rfl))) pe_int) pa_nil)) pe_int) (pg_sub (pv 0) pe_int set_list))
      (pss_one (ps_ret (pe_op op_mod (pe_callTy call_int1 (by rfl) m_int (by decide +kernel) (pa_cons (pe_op op_add (pe_op op_fdiv (pe_ix ix_list (pv 0) pe_int (fun _ _ => rfl)) pe_int) (pe_op op_mul (pe_op op_mod (pe_callTy call_int1 (by rfl) m_int (by decide +kernel) (pa_cons (pe_ix ix_list (pv 0) pe_int (fun _ _ => rfl)) pa_nil)) pe_int) pe_int)) pa_nil)) (pv 1))))))))), ?_⟩
    refine ⟨fun σ' H' => ∃ (y2 : Option V) (i p st c : Int), σ' = [some (.ref a), some (.int n), y2, none, none] ∧ H' a = some (.lst [.ref L, .int i, .int p, .int st, .int c]) ∧ H' L = some (.lst (ns.map V.int)) ∧ 0 ≤ i ∧ 0 ≤ st ∧ st < 2147483629 ∧ (∀ b, b ≠ a → H' b = H b), ?_, ?_⟩
    · -- the first if
      refine ⟨_, rfl, a, _, _, _, rfl, rfl, SqL.of hA, rfl, rfl, _, rfl, ?_⟩
      refine ite2 (fun c0 => ?_) (fun c0 => ?_)
      · refine ⟨_, rfl, a, _, _, _, rfl, rfl, SqL.of hA, rfl, _, rfl, a, _, _, _, rfl, rfl, SqL.of hA, rfl, L, _, rfl, .inl (SqL.of hL), _, _, rfl, rfl, _, rfl, ?_⟩
        refine ite2 (fun c1 => ?_) (fun c1 => ?_)
        · obtain ⟨v, hv⟩ := at_int h0 (of_decide_eq_true c1)
          refine ⟨_, rfl, a, _, _, _, rfl, rfl, SqL.of hA, rfl, _, rfl, a, _, _, _, rfl, rfl, SqL.of hA, rfl, L, _, _, _, rfl, rfl, SqL.of hL, hv, ?_⟩
          refine ⟨_, rfl, a, _, _, _, rfl, rfl, SqL.of hA, rfl, _, _, rfl, rfl, _, rfl, a, _, _, _, rfl, rfl, hA, rfl, ?_⟩
          have hA2 : (upd H a (.lst [.ref L, .int (i + 1), .int p, .int st, .int c])) a = some (.lst [.ref L, .int (i + 1), .int p, .int st, .int c]) := upd_same
          refine ⟨_, rfl, _, _, rfl, rfl, ⟨by decide, by decide, by decide⟩, _, _, rfl, rfl, _, rfl, ?_⟩
          refine ite2 (fun c2 => ?_) (fun c2 => ?_)
          · refine ⟨_, rfl, _, rfl, a, _, _, _, rfl, rfl, hA2, rfl, ?_⟩
            refine ⟨some (.int v), i + 1, v, st, c, rfl, upd_same, ?_, by omega, h1, h2, fun b nb => ?_⟩
            · rw [upd_ne aL, upd_ne aL]; exact hL
            · rw [upd_ne nb, upd_ne nb]
          · refine ⟨_, rfl, a, _, _, _, rfl, rfl, SqL.of hA2, rfl, _, _, rfl, rfl, .inr ⟨by decide, by decide⟩, _, rfl, .inl ⟨_, rfl, _, _, rfl, rfl, pos1, _, _, rfl, rfl, .inr ⟨by decide, by decide⟩, _, _, rfl, rfl, _, _, rfl, rfl, .inl ⟨_, rfl, _, _, rfl, rfl, pos2, ?_⟩⟩⟩
            refine ⟨_, rfl, a, _, _, _, rfl, rfl, hA2, rfl, ?_⟩
            refine ⟨some (.int v), i + 1, p, _, c, rfl, upd_same, ?_, by omega, ?_, ?_, fun b nb => ?_⟩
            · rw [upd_ne aL, upd_ne aL]; exact hL
            · exact Int.emod_nonneg _ (by decide)
            · exact Int.emod_lt_of_pos _ (by decide)
            · rw [upd_ne nb, upd_ne nb]
        · exact ⟨none, i, p, st, c, rfl, hA, hL, h0, h1, h2, fun b nb => rfl⟩
      · exact iteF ⟨none, i, p, st, c, rfl, hA, hL, h0, h1, h2, fun b nb => rfl⟩
    · rintro σ' H' ⟨y2, i, p, st, c, rfl, hA, hL, h0, h1, h2, off⟩
      refine ⟨_, rfl, a, _, _, _, rfl, rfl, SqL.of hA, rfl, _, _, rfl, rfl, _, rfl, ?_⟩
      refine ite2 (fun c0 => ?_) (fun c0 => ?_)
      · have cp : p > 0 := of_decide_eq_true c0
        refine ⟨_, rfl, a, _, _, _, rfl, rfl, SqL.of hA, rfl, .inl ⟨_, rfl, _, rfl, _, _, rfl, rfl, by omega, ?_⟩⟩
        refine ⟨_, rfl, a, _, _, _, rfl, rfl, SqL.of hA, rfl, _, rfl, _, _, rfl, rfl, ⟨by omega, by omega⟩, _, rfl, a, _, _, _, rfl, rfl, hA, rfl, ?_⟩
        refine ⟨_, rfl, q _ _ (Int.emod_nonneg _ (by omega)) (Int.emod_lt_of_pos _ (by omega)) ⟨i, _, st, c, upd_same, ?_, h0, h1, h2⟩ fun b nb => ?_⟩
        · rw [upd_ne aL]; exact hL
        · rw [upd_ne nb]; exact off b nb
      · refine ⟨_, rfl, a, _, _, _, rfl, rfl, SqL.of hA, rfl, _, _, rfl, rfl, _, rfl, a, _, _, _, rfl, rfl, hA, rfl, ?_⟩
        have hA2 : (upd H' a (.lst [.ref L, .int i, .int p, .int st, .int (c + 1)])) a = some (.lst [.ref L, .int i, .int p, .int st, .int (c + 1)]) := upd_same
        refine ⟨_, rfl, a, _, _, _, rfl, rfl, SqL.of hA2, rfl, _, rfl, a, _, _, _, rfl, rfl, SqL.of hA2, rfl, _, _, rfl, rfl, .inl ⟨by omega, by omega⟩, .inl ⟨_, rfl, _, _, rfl, rfl, pos2, ?_⟩⟩
        refine ⟨_, rfl, a, _, _, _, rfl, rfl, SqL.of hA2, rfl, _, _, rfl, rfl, .inl ⟨by decide, by decide⟩, _, _, rfl, rfl, ?_⟩
        refine ⟨_, rfl, _, _, rfl, rfl, .inr ⟨by decide, by decide⟩, _, rfl, a, _, _, _, rfl, rfl, SqL.of hA2, rfl, _, _, rfl, rfl, _, _, rfl, rfl, .inl ⟨_, rfl, _, _, rfl, rfl, pos2, ?_⟩⟩
        refine ⟨_, rfl, a, _, _, _, rfl, rfl, hA2, rfl, ?_⟩
        have z0 : 0 ≤ zz st c := Int.emod_nonneg _ (by decide)
        have z1 : zz st c < 2147483629 := Int.emod_lt_of_pos _ (by decide)
        have hA3 : (upd (upd H' a (.lst [.ref L, .int i, .int p, .int st, .int (c + 1)])) a (.lst [.ref L, .int i, .int p, .int (zz st c), .int (c + 1)])) a = some (.lst [.ref L, .int i, .int p, .int (zz st c), .int (c + 1)]) := upd_same
        refine ⟨_, rfl, a, _, _, _, rfl, rfl, SqL.of hA3, rfl, _, _, rfl, rfl, ⟨by decide, by decide⟩, ?_⟩
        refine ⟨_, rfl, a, _, _, _, rfl, rfl, SqL.of hA3, rfl, .inl ⟨_, rfl, _, _, rfl, rfl, pos3, _, _, rfl, rfl, .inr ⟨by decide, by decide⟩, _, _, rfl, rfl, .inl ⟨_, rfl, _, rfl, _, _, rfl, rfl, by omega, ?_⟩⟩⟩
        refine q _ _ (Int.emod_nonneg _ (by omega)) (Int.emod_lt_of_pos _ (by omega)) ⟨i, p, zz st c, c + 1, upd_same, ?_, h0, z0, z1⟩ fun b nb => ?_
        · rw [upd_ne aL, upd_ne aL]; exact hL
        · rw [upd_ne nb, upd_ne nb]; exact off b nb
end
end Fv


namespace Fv
open PySem PySem.Spec PyProof.Rows L2
-- top 22  slots: 0:_law_script
abbrev s_law_source : Stmt := topS 22
abbrev N_law_source : List Str := ["_law_script"]
theorem sc_law_source : FnScope N_law_source ["_law_script"] (defScope s_law_source) := ⟨rfl, rfl, rfl, by decide +kernel, rfl, by decide +kernel, by decide +kernel⟩

-- top 24  slots: 0:_law_source_here 1:_law_row
abbrev s_law_pick : Stmt := topS 24
abbrev N_law_pick : List Str := ["_law_source_here", "_law_row"]
theorem sc_law_pick : FnScope N_law_pick ["_law_source_here", "_law_row"] (defScope s_law_pick) := ⟨rfl, rfl, rfl, by decide +kernel, rfl, by decide +kernel, by decide +kernel⟩

-- top 25  slots: 0:_law_source_here 1:_law_row 2:_law_found 3:_law_one
abbrev s_law_mixed : Stmt := topS 25
abbrev N_law_mixed : List Str := ["_law_source_here", "_law_row", "_law_found", "_law_one"]
theorem sc_law_mixed : FnScope N_law_mixed ["_law_source_here", "_law_row"] (defScope s_law_mixed) := ⟨rfl, rfl, rfl, by decide +kernel, rfl, by decide +kernel, by decide +kernel⟩

-- top 37  slots: 0:_law_source_here 1:_law_most 2:_law_every
abbrev s_law_signs : Stmt := topS 37
abbrev N_law_signs : List Str := ["_law_source_here", "_law_most", "_law_every"]
theorem sc_law_signs : FnScope N_law_signs ["_law_source_here", "_law_most"] (defScope s_law_signs) := ⟨rfl, rfl, rfl, by decide +kernel, rfl, by decide +kernel, by decide +kernel⟩

section
variable {P : Program} {w : World} {K : PySem.W.Frag} {mg : Str → Option Value} {base : Heap}
theorem ok_source {f : Addr} {fd : FuncData} {k : Nat} (F : Fun K "_law_source" "_law_source" s_law_source f fd) (m_list : mg "list" = none) :
    FnOk P w K mg base CX0 (k + 1) f fd ["_law_script"] (spSource K) := by
  refine F.ok sc_law_source (fun vs H Q E h => ?_) (fun cdv A outer s H vs Q E hr h => ?_)
  · obtain ⟨a, ns, rfl, _⟩ := h
    rfl
  · obtain ⟨a, ns, rfl, hS, hl, q⟩ := h
    refine ⟨_, (pss_one (ps_ret (pe_lst (pa_cons (pe_callTy call_list_of (by rfl) m_list (by decide +kernel) (pa_cons (pe_slice sl_list (pv 0) po_none (po_some pe_int)) pa_nil)) (pa_cons pe_int (pa_cons pe_int (pa_cons pe_int (pa_cons pe_int pa_nil)))))))), ?_⟩
    refine ⟨_, rfl, _, rfl, a, _, rfl, hS, fun c nc => ?_⟩
    have e1 : cutV (ns.map V.int) none (some 63) = ns.map V.int := by
      rw [cut_take _ (by decide)]
      exact List.take_of_length_le (by rw [List.length_map]; exact hl)
    refine ⟨c, _, rfl, .inl (SqL.of upd_same), fun L nL => ?_⟩
    refine ⟨(by show 5 ≤ sizeLine; decide), fun p np => ?_⟩
    have s1 := same_upd (o := .lst (cutV (ns.map V.int) none (some 63))) nc
    have s2 := same_upd (o := .lst (cutV (ns.map V.int) none (some 63))) nL
    have s3 := same_upd (o := .lst [.ref L, .int 0, .int 0, .int 3818, .int 0]) np
    refine q _ p L (s1.trans (s2.trans s3)) (s1.free (s2.free np)) (s1.free nL) ⟨0, 0, 3818, 0, upd_same, ?_, by decide, by decide, by decide⟩
    refine s3 _ _ ?_
    rw [upd_same, e1]
theorem ok_pick {f : Addr} {fd : FuncData} {k : Nat} (F : Fun K "_law_pick" "_law_pick" s_law_pick f fd) (m_len : mg "len" = none)
    (C_law_take : Own P w K mg base k "_law_take" ["_law_source_here", "_law_many"] spTake) :
    FnOk P w K mg base CX0 (k + 1) f fd ["_law_source_here", "_law_row"] spPick := by
  refine F.ok sc_law_pick (fun vs H Q E h => ?_) (fun cdv A outer s H vs Q E hr h => ?_)
  · obtain ⟨a, L, r, ns, xs, rfl, _⟩ := h
    rfl
  · obtain ⟨a, L, r, ns, xs, rfl, hs, ra, hr', hp, hl, q⟩ := h
    refine ⟨_, (pss_one (ps_ret (pe_ix ix_list (pv 1) (pe_own C_law_take (hr.mono (by omega)) (by rfl) (pa_cons (pv 0) (pa_cons (pe_callB call_len_seq (by rfl) m_len (by decide +kernel) (pa_cons (pv 1) pa_nil)) pa_nil))) (fun _ _ => rfl)))), ?_⟩
    refine ⟨_, rfl, _, rfl, _, rfl, r, _, rfl, .inl (SqL.of hr'), a, L, ns, _, rfl, hs, by omega, by omega, fun H' d d0 d1 hs' off => ?_⟩
    obtain ⟨v, hv, mv⟩ := atI_mem d0 d1
    exact ⟨r, _, _, _, rfl, rfl, SqL.of ((off r ra).trans hr'), hv, q H' v mv hs' off⟩
theorem ok_mixed {f : Addr} {fd : FuncData} {k : Nat} (F : Fun K "_law_mixed" "_law_mixed" s_law_mixed f fd) (m_len : mg "len" = none)
    (C_law_take : Own P w K mg base k "_law_take" ["_law_source_here", "_law_many"] spTake) :
    FnOk P w K mg base CX0 (k + 1) f fd ["_law_source_here", "_law_row"] spMixed := by
  refine F.ok sc_law_mixed (fun vs H Q E h => ?_) (fun cdv A outer s H vs Q E hr h => ?_)
  · obtain ⟨a, L, r, ns, xs, rfl, _⟩ := h
    rfl
  · obtain ⟨a, L, r, ns, xs, rfl, hs, ra, hR, hl, q⟩ := h
    refine ⟨_, (pss_cons (ps_set (i := 2) sc_law_mixed.nd rfl (by first | exact .inl rfl | exact .inr rfl) (pe_lst pa_nil))
      (pss_cons (ps_for PassesOwn.never rfl (pi_list (pv 1)) (pg_name (i := 3) sc_law_mixed.nd rfl (by first | exact .inl rfl | exact .inr rfl))
        (pss_one (ps_expr (pe_bm PySem.F.plainAttrs_list PySem.F.slot_list_insert PySem.F.type_list_insert mt_insert (pv 2) (pa_cons (pe_own C_law_take (hr.mono (by omega)) (by rfl) (pa_cons (pv 0) (pa_cons (pe_op op_add (pe_callB call_len_seq (by rfl) m_len (by decide +kernel) (pa_cons (pv 2) pa_nil)) pe_int) pa_nil))) (pa_cons (pv 3) pa_nil))))))
      (pss_one (ps_ret (pv 2))))), ?_⟩
    refine ⟨Nat.zero_le _, fun p np => ?_⟩
    have ap : a ≠ p := by
      obtain ⟨_, _, _, _, e, _⟩ := hs
      exact ne_of_none e np
    have rp : r ≠ p := ne_of_none hR np
    refine ⟨_, rfl, r, rfl, ⟨_, SqL.of (by rw [upd_ne rp]; exact hR)⟩, for_list (xs := xs) (fun i σ H1 => ∃ (y : Option V) (ys : List V), σ = [some (.ref a), some (.ref r), some (.ref p), y] ∧ ys.Perm (xs.take i) ∧ H1 p = some (.lst ys) ∧ Src H1 a L ns ∧ (∀ b, b ≠ a → b ≠ p → H1 b = H b)) ?_ ?_ ?_ ?_⟩
    · exact ⟨none, [], rfl, .nil, upd_same, hs.off np fun c hc => upd_ne hc, fun b _ hb => upd_ne hb⟩
    · rintro i σ H1 hi ⟨y, ys, rfl, pm, hp, hs1, off⟩
      exact SqL.of ((off r ra rp).trans hR)
    · rintro i x σ H1 hx ⟨y, ys, rfl, pm, hp, hs1, off⟩
      obtain ⟨hi, hxi⟩ := List.getElem?_eq_some_iff.mp hx
      have ly : ys.length = i := by
        rw [pm.length_eq, List.length_take]
        omega
      refine ⟨_, rfl, .inl ⟨rfl, _, SqL.of hp⟩, _, rfl, _, rfl, p, _, rfl, .inl (SqL.of hp), _, _, rfl, rfl, a, L, ns, _, rfl, hs1, by omega, by omega, fun H' d d0 d1 hs' off' => ?_⟩
      have hp' : H' p = some (.lst ys) := (off' p ap.symm).trans hp
      refine ⟨_, rfl, p, _, _, _, rfl, rfl, hp', small1000 (by omega), d0, by omega, ?_⟩
      refine ⟨_, _, rfl, ?_, upd_same, ?_, fun b ba bp => ?_⟩
      · rw [List.take_add_one, hx]
        refine List.Perm.trans ?_ (List.Perm.append_right _ pm)
        show (ys.take d.toNat ++ [x] ++ ys.drop d.toNat).Perm (ys ++ [x])
        refine List.Perm.trans (?_ : List.Perm _ (ys.take d.toNat ++ (ys.drop d.toNat ++ [x]))) ?_
        · rw [List.append_assoc]
          exact List.Perm.append_left _ List.perm_append_comm
        · rw [← List.append_assoc, List.take_append_drop]
      · obtain ⟨i', p', st, c, h1, h2, h3⟩ := hs'
        have Lp : L ≠ p := fun e => by
          obtain ⟨_, _, _, _, _, e2, _⟩ := hs
          rw [e, np] at e2
          cases e2
        exact ⟨i', p', st, c, by rw [upd_ne ap]; exact h1, by rw [upd_ne Lp]; exact h2, h3⟩
      · rw [upd_ne bp, off' b ba]
        exact off b ba bp
    · rintro σ H1 ⟨y, ys, rfl, pm, hp, hs1, off⟩
      rw [List.take_length] at pm
      exact ⟨_, rfl, q H1 p ys pm np hp hs1 off⟩
theorem ok_signs {f : Addr} {fd : FuncData} {k : Nat} (F : Fun K "_law_signs" "_law_signs" s_law_signs f fd) (m_list : mg "list" = none)
    (C_law_take : Own P w K mg base k "_law_take" ["_law_source_here", "_law_many"] spTake)
    (C_law_mixed : Own P w K mg base k "_law_mixed" ["_law_source_here", "_law_row"] spMixed) :
    FnOk P w K mg base CX0 (k + 1) f fd ["_law_source_here", "_law_most"] spSigns := by
  refine F.ok sc_law_signs (fun vs H Q E h => ?_) (fun cdv A outer s H vs Q E hr h => ?_)
  · obtain ⟨a, L, ns, n, rfl, _⟩ := h
    rfl
  · obtain ⟨a, L, ns, n, rfl, hs, n1, n8, q⟩ := h
    refine ⟨_, (pss_cons (ps_set (i := 2) sc_law_signs.nd rfl (by first | exact .inl rfl | exact .inr rfl) (pe_own C_law_mixed (hr.mono (by omega)) (by rfl) (pa_cons (pv 0) (pa_cons (pe_callTy (call_listStr hr.hd) (by rfl) m_list (by decide +kernel) (pa_cons pe_str pa_nil)) pa_nil))))
      (pss_one (ps_ret (pe_slice sl_list (pv 2) po_none (po_some (pe_op op_add pe_int (pe_own C_law_take (hr.mono (by omega)) (by rfl) (pa_cons (pv 0) (pa_cons (pv 1) pa_nil))))))))), ?_⟩
    refine ⟨_, rfl, _, rfl, by decide +kernel, fun r nr => ?_⟩
    have ar : a ≠ r := by
      obtain ⟨_, _, _, _, e, _⟩ := hs
      exact ne_of_none e nr
    refine ⟨a, L, r, ns, _, rfl, hs.off nr fun c hc => upd_ne hc, ar.symm, upd_same, by decide +kernel, fun H1 p ys pm np hp hs1 off1 => ?_⟩
    have s1 := same_upd (o := .lst (signs "abcdefgh")) nr
    have ap : a ≠ p := by
      obtain ⟨_, _, _, _, e, _⟩ := hs
      exact ne_of_none e (s1.free np)
    refine ⟨_, rfl, _, rfl, _, rfl, a, L, ns, n, rfl, hs1, n1, by omega, fun H2 d d0 d1 hs2 off2 => ?_⟩
    have hp2 : H2 p = some (.lst ys) := (off2 p ap.symm).trans hp
    refine ⟨_, _, rfl, rfl, _, rfl, p, ys, rfl, SqL.of hp2, fun z nz => ?_⟩
    have ly : ys.length = 8 := by
      rw [pm.length_eq]
      decide +kernel
    have ez : cutV ys none (some (1 + d)) = ys.take (1 + d).toNat := cut_take ys (by omega)
    have zn : H z = none := by
      have ap1 : H1 z = none := by
        by_cases e : z = a
        · rw [e] at nz
          obtain ⟨_, _, _, _, e', _⟩ := hs2
          rw [e'] at nz
          cases nz
        · rw [← off2 z e]; exact nz
      have ap2 : (upd H r (.lst (signs "abcdefgh"))) z = none := by
        by_cases e : z = a
        · rw [e] at ap1
          obtain ⟨_, _, _, _, e', _⟩ := hs1
          rw [e'] at ap1
          cases ap1
        · by_cases e2 : z = p
          · rw [e2] at ap1
            rw [hp] at ap1
            cases ap1
          · rw [← off1 z e e2]; exact ap1
      exact s1.free ap2
    refine q _ z _ ?_ ?_ ?_ ?_ zn upd_same (hs2.off nz fun c hc => upd_ne hc) ?_
    · rw [ez, List.length_take]; omega
    · rw [ez, List.length_take]; omega
    · intro y hy
      rw [ez] at hy
      exact pm.mem_iff.mp (List.mem_of_mem_take hy)
    · rw [ez]
      refine List.Sublist.nodup (List.take_sublist _ _) ?_
      exact pm.nodup_iff.mpr (by decide +kernel)
    · intro b o hb e
      have ba : b ≠ a := fun z => hb (by rw [z]; exact List.mem_singleton.mpr rfl)
      have bz : b ≠ z := ne_of_none e zn
      rw [upd_ne bz, off2 b ba, off1 b ba (ne_of_none e (s1.free np))]
      exact s1 b o e
end
end Fv


namespace Fv
open PySem PySem.Spec PyProof.Rows L2
-- top 10  slots: 0:value
abbrev s_is_letter : Stmt := topS 10
abbrev N_is_letter : List Str := ["value"]
theorem sc_is_letter : FnScope N_is_letter ["value"] (defScope s_is_letter) := ⟨rfl, rfl, rfl, by decide +kernel, rfl, by decide +kernel, by decide +kernel⟩

-- top 11  slots: 0:value
abbrev s_is_compound : Stmt := topS 11
abbrev N_is_compound : List Str := ["value"]
theorem sc_is_compound : FnScope N_is_compound ["value"] (defScope s_is_compound) := ⟨rfl, rfl, rfl, by decide +kernel, rfl, by decide +kernel, by decide +kernel⟩

-- top 12  slots: 0:value 1:max_depth 2:max_size 3:deepest 4:total 5:part 6:found
abbrev s_measured : Stmt := topS 12
abbrev N_measured : List Str := ["value", "max_depth", "max_size", "deepest", "total", "part", "found"]
theorem sc_measured : FnScope N_measured ["value", "max_depth", "max_size"] (defScope s_measured) := ⟨rfl, rfl, rfl, by decide +kernel, rfl, by decide +kernel, by decide +kernel⟩


section
variable {P : Program} {w : World} {K : PySem.W.Frag} {mg : Str → Option Value} {base : Heap}
theorem at0 {x : V} {xs : List V} : atI (x :: xs) 0 = some x := atI_nat (xs := x :: xs) (rfl : (x :: xs)[0]? = some x)
theorem len_ok {n : Nat} {s : Str} (h : gd n (.str s) = true) : s.length ≤ sizeLine := by
  have q : s.length ≤ 100000 := by
    cases n <;> (simp only [gd, Bool.and_eq_true, decide_eq_true_eq] at h; exact h.2)
  exact Nat.le_trans q (by decide)
theorem ok_is_letter {f : Addr} {fd : FuncData} {k : Nat} (F : Fun K "is_letter" "is_letter" s_is_letter f fd) (m_isinstance : mg "isinstance" = none) (m_str : mg "str" = none) (m_len : mg "len" = none)
    {t : Tok} (g_LETTERS : mg "LETTERS" = some (.str "abcdefgh" t)) :
    FnOk P w K mg base CX0 (k + 1) f fd ["value"] (spIsLetter K) := by
  refine F.ok sc_is_letter (fun vs H Q E h => ?_) (fun cdv A outer s H vs Q E hr h => ?_)
  · obtain ⟨v, d, rfl, _⟩ := h
    rfl
  · obtain ⟨v, d, rfl, hd, hg, q⟩ := h
    refine ⟨_, (pss_one (ps_ret (pe_and (pe_isD (T := "str") (by rfl) m_isinstance (by rfl) m_str (pv 0)) (pe_and (pe_cmpR op_eq (pe_callB call_len_str (by rfl) m_len (by decide +kernel) (pa_cons (pv 0) pa_nil)) pe_int (nomark _)) (pe_one (pe_cmpR op_in_str (pv 0) (pe_glob (v := .str "abcdefgh") (by rfl) g_LETTERS (⟨_, rfl⟩)) (by rfl))))))), ?_⟩
    refine ⟨_, rfl, _, _, d, rfl, by decide, hd, _, rfl, ?_⟩
    cases d with
    | str z =>
      cases hd
      refine iteT ⟨_, rfl, z, rfl, len_ok hg, rfl, _, rfl, ?_⟩
      have e : isLd (.str z) = isL z := rfl
      rw [e] at q
      unfold isL at q
      refine ite2 (fun c => ?_) (fun c => ?_)
      · refine ⟨_, rfl, z, _, rfl, rfl, ?_⟩
        rw [c, Bool.true_and] at q
        exact q
      · rw [Bool.eq_false_iff.mpr c, Bool.false_and] at q
        exact q
    | _ => exact iteF q
theorem ok_is_compound {f : Addr} {fd : FuncData} {k : Nat} (F : Fun K "is_compound" "is_compound" s_is_compound f fd) (m_isinstance : mg "isinstance" = none) (m_tuple : mg "tuple" = none) (m_len : mg "len" = none)
    {oA : Addr} (g_OPERATORS : mg "OPERATORS" = some (.ref oA)) (hO : ∀ H, SqT K H oA [.str "&", .str "|"]) :
    FnOk P w K mg base CX0 (k + 1) f fd ["value"] (spIsCompound K) := by
  refine F.ok sc_is_compound (fun vs H Q E h => ?_) (fun cdv A outer s H vs Q E hr h => ?_)
  · obtain ⟨v, d, rfl, _⟩ := h
    rfl
  · obtain ⟨v, d, rfl, hd, hg, q⟩ := h
    refine ⟨_, (pss_one (ps_ret (pe_and (pe_isD (T := "tuple") (by rfl) m_isinstance (by rfl) m_tuple (pv 0)) (pe_and (pe_cmpR op_ge (pe_callB call_len_seq (by rfl) m_len (by decide +kernel) (pa_cons (pv 0) pa_nil)) pe_int (nomark _)) (pe_one (pe_cmpR (op_inT (hu65 hr)) (pe_ix ix_tup (pv 0) pe_int (fun _ _ => rfl)) (pe_glob (v := .ref oA) (by rfl) g_OPERATORS (rfl)) (by rfl))))))), ?_⟩
    refine ⟨_, rfl, _, _, d, rfl, by decide, hd, _, rfl, ?_⟩
    cases d with
    | tuple ds =>
      cases hd with
      | @tup a xs _ hs ha =>
        refine iteT ⟨_, rfl, a, xs, rfl, .inr hs, _, _, rfl, rfl, _, rfl, ?_⟩
        have hl := dpAll_len ha
        cases ds with
        | nil =>
          rw [hl]
          exact iteF q
        | cons o ds =>
          cases ha with
          | @cons x0 xr _ _ h1 h2 =>
            have hl' := dpAll_len h2
            have e : isCd (.tuple (o :: ds)) = (decide (2 ≤ ds.length) && isOp o) := rfl
            rw [e] at q
            refine ite2 (fun c => ?_) (fun c => ?_)
            · have c' : (3 : Int) ≤ (((x0 :: xr).length : Nat) : Int) := of_decide_eq_true c
              rw [List.length_cons] at c'
              refine ⟨_, rfl, a, _, _, x0, rfl, rfl, hs, at0, o, [.str "&", .str "|"], h1, .tup (hO _) (.cons (.str _) (.cons (.str _) .nil)), gd_shaped (gd_parts hg).1 (by decide), by decide +kernel, ?_⟩
              rw [decide_eq_true (by omega), Bool.true_and] at q
              exact q
            · have c' : ¬ (3 : Int) ≤ (((x0 :: xr).length : Nat) : Int) := of_decide_eq_false (Bool.eq_false_iff.mpr c)
              rw [List.length_cons] at c'
              rw [decide_eq_false (by omega), Bool.false_and] at q
              exact q
    | _ => exact iteF q
theorem ok_measured {f : Addr} {fd : FuncData} {k n : Nat} (F : Fun K "measured" "measured" s_measured f fd) (m_max : mg "max" = none) (hk : 1 ≤ k)
    (C_is_letter : Own P w K mg base 1 "is_letter" ["value"] (spIsLetter K)) (C_is_compound : Own P w K mg base 1 "is_compound" ["value"] (spIsCompound K))
    (C_measured : Own P w K mg base k "measured" ["value", "max_depth", "max_size"] (spMeas K n)) :
    FnOk P w K mg base CX0 (k + 1) f fd ["value", "max_depth", "max_size"] (spMeas K (n + 1)) := by
  refine F.ok sc_measured (fun vs H Q E h => ?_) (fun cdv A outer s H vs Q E hr h => ?_)
  · obtain ⟨v, d, md, ms, rfl, _⟩ := h
    rfl
  · obtain ⟨v, d, md, ms, rfl, hd, hg, m0, m1, q1, q2⟩ := h
    refine ⟨_, (pss_cons (ps_if (PW.pt (pw_or (pt_cmpR op_lt (pv 1) pe_int (nomark _)) (pw_or1 (pt_cmpR op_lt (pv 2) pe_int (nomark _)))))
        (pss_one (ps_ret pe_non))
        pss_nil)
      (pss_cons (ps_if (pt_val (pe_own C_is_letter (hr.mono (by omega)) (by rfl) (pa_cons (pv 0) pa_nil)))
        (pss_one (ps_ret (pe_tup (pa_cons pe_int (pa_cons pe_int pa_nil)))))
        pss_nil)
      (pss_cons (ps_if (pt_not (pt_val (pe_own C_is_compound (hr.mono (by omega)) (by rfl) (pa_cons (pv 0) pa_nil))))
        (pss_one (ps_ret pe_non))
        pss_nil)
      (pss_cons (ps_set (i := 3) sc_measured.nd rfl (by first | exact .inl rfl | exact .inr rfl) pe_int)
      (pss_cons (ps_set (i := 4) sc_measured.nd rfl (by first | exact .inl rfl | exact .inr rfl) pe_int)
      (pss_cons (ps_for PassesOwn.never rfl (pi_tup (pe_slice sl_tup (pv 0) (po_some pe_int) po_none)) (pg_name (i := 5) sc_measured.nd rfl (by first | exact .inl rfl | exact .inr rfl))
        (pss_cons (ps_set (i := 6) sc_measured.nd rfl (by first | exact .inl rfl | exact .inr rfl) (pe_own C_measured (hr.mono (by omega)) (by rfl) (pa_cons (pv 5) (pa_cons (pe_op op_sub (pv 1) pe_int) (pa_cons (pe_op op_sub (pv 2) (pv 4)) pa_nil)))))
        (pss_cons (ps_if (pt_cmpR op_isN (pv 6) pe_non (nomark _))
          (pss_one (ps_ret pe_non))
          pss_nil)
        (pss_cons (ps_set (i := 3) sc_measured.nd rfl (by first | exact .inl rfl | exact .inr rfl) (pe_callB (call_max2 rfl) (by rfl) m_max (by decide +kernel) (pa_cons (pv 3) (pa_cons (pe_ix ix_tup (pv 6) pe_int (fun _ _ => rfl)) pa_nil))))
        (pss_one (ps_set (i := 4) sc_measured.nd rfl (by first | exact .inl rfl | exact .inr rfl) (pe_op op_add (pv 4) (pe_ix ix_tup (pv 6) pe_int (fun _ _ => rfl)))))))))
      (pss_one (ps_ret (pe_tup (pa_cons (pe_op op_add (pv 3) pe_int) (pa_cons (pv 4) pa_nil))))))))))), ?_⟩
    refine ⟨_, rfl, _, _, rfl, rfl, _, rfl, ?_⟩
    have fin0 : ¬ 1 ≤ md ∨ ms < 1 → Q .non H := fun c => by
      refine q1 ?_ H (Same.refl H)
      rcases c with c | c
      · rw [show md.toNat = 0 by omega]; rfl
      · cases md.toNat with
        | zero => rfl
        | succ m => unfold meas; rw [if_pos c]
    refine ite2 (fun c => iteT (fin0 (.inl (by have := of_decide_eq_true c; omega)))) (fun c => ?_)
    have c1 : ¬ md < 1 := of_decide_eq_false (Bool.eq_false_iff.mpr c)
    refine ⟨_, rfl, _, _, rfl, rfl, _, rfl, ?_⟩
    refine ite2 (fun c => fin0 (.inr (of_decide_eq_true c))) (fun c => ?_)
    have c2 : ¬ ms < 1 := of_decide_eq_false (Bool.eq_false_iff.mpr c)
    obtain ⟨m, em⟩ : ∃ m, md.toNat = m + 1 := ⟨md.toNat - 1, by omega⟩
    have em' : (md - 1).toNat = m := by omega
    rw [em] at q1 q2
    unfold meas at q1 q2
    rw [if_neg c2] at q1 q2
    refine ⟨_, rfl, v, d, rfl, hd, hg, _, rfl, ?_⟩
    refine ite2 (fun c => ?_) (fun c => ?_)
    · refine ⟨(by show 2 ≤ sizeLine; decide), fun p np => ?_⟩
      rw [if_pos c] at q2
      exact q2 1 1 rfl _ p (same_upd np) upd_same
    · rw [if_neg c] at q1 q2
      refine ⟨_, rfl, v, d, rfl, hd, hg, _, rfl, ?_⟩
      cases hc : isCd d with
      | false =>
        rw [if_neg (by rw [hc]; decide)] at q1
        exact iteT (q1 rfl H (Same.refl H))
      | true =>
        rw [if_pos hc] at q1 q2
        refine iteF ?_
        cases d with
        | tuple ds =>
          cases ds with
          | nil => cases hc
          | cons o ds =>
            cases hd with
            | @tup a xs _ hs ha =>
              cases ha with
              | @cons x0 xr _ _ h1 h2 =>
                have hl := dpAll_len h2
                have h2l : 2 ≤ ds.length := by
                  have e : isCd (.tuple (o :: ds)) = (decide (2 ≤ ds.length) && isOp o) := rfl
                  rw [e, Bool.and_eq_true] at hc
                  exact of_decide_eq_true hc.1
                have ep : parts (.tuple (o :: ds)) = ds := rfl
                rw [ep] at q1 q2
                have gp := (gd_parts hg).2
                refine ⟨_, rfl, 1, rfl, a, x0 :: xr, rfl, hs, ?_, fun p np => ?_⟩
                · rw [show HT.sIx (x0 :: xr).length 0 (some 1) = min 1 (x0 :: xr).length from HT.sIx_nat _ 0 1, List.length_cons]
                  omega
                have ec : cutV (x0 :: xr) (some 1) none = xr := by rw [cut_drop1]; rfl
                rw [ec]
                have s0 : Same H (upd H p (.tup xr)) := same_upd np
                refine ⟨p, rfl, ⟨_, SqT.of upd_same⟩, for_tup (xs := xr) (fun i σ H1 => ∃ (dp tot : Int) (y5 y6 : Option V), σ = [some (.ref a), some (.int md), some (.int ms), some (.int dp), some (.int tot), y5, y6] ∧
                  Same (upd H p (.tup xr)) H1 ∧ measL (meas m) (ds.drop i) ms dp tot = measL (meas m) ds ms 0 0) ?_ ?_ ?_ ?_⟩
                · exact ⟨0, 0, none, none, rfl, Same.refl _, rfl⟩
                · rintro i σ H1 hi ⟨dp, tot, y5, y6, rfl, sm, e⟩
                  exact SqT.of (sm _ _ upd_same)
                · rintro i x σ H1 hx ⟨dp, tot, y5, y6, rfl, sm, e⟩
                  obtain ⟨d', hd', hD'⟩ := dpAll_get h2 hx
                  have hDs : Dp K H1 x d' := dp_same (s0.trans sm) d' x hD'
                  rw [drop_cons_get hd'] at e
                  refine ⟨_, rfl, _, rfl, _, _, rfl, rfl, _, rfl, _, rfl, _, _, rfl, rfl, x, d', md - 1, ms - tot, rfl, hDs, gd_le (gp d' (List.mem_of_getElem? hd')) (by decide), by omega, by omega, fun en H2 s2 => ?_, fun dp' sz es H2 p2 s2 hp2 => ?_⟩
                  · refine ⟨_, rfl, rfl, _, rfl, iteT ?_⟩
                    refine q1 ?_ H2 (s0.trans (sm.trans s2))
                    rw [em'] at en
                    rw [← e]
                    simp only [measL, en]
                  · refine ⟨_, rfl, rfl, _, rfl, iteF ?_⟩
                    refine ⟨_, rfl, _, rfl, p2, _, _, _, rfl, rfl, SqT.of hp2, rfl, _, _, rfl, ?_⟩
                    refine ⟨_, rfl, _, rfl, p2, _, _, _, rfl, rfl, SqT.of hp2, rfl, _, _, rfl, rfl, ?_⟩
                    refine ⟨_, _, _, _, rfl, sm.trans s2, ?_⟩
                    rw [← e, em'] at *
                    simp only [measL, es]
                · rintro σ H1 ⟨dp, tot, y5, y6, rfl, sm, e⟩
                  refine ⟨_, rfl, _, _, rfl, rfl, _, rfl, (by show 2 ≤ sizeLine; decide), fun p3 np3 => ?_⟩
                  refine q2 (dp + 1) tot ?_ _ p3 (s0.trans (sm.trans (same_upd np3))) upd_same
                  rw [← e, List.drop_eq_nil_of_le (by omega)]
                  rfl
        | _ => cases hc
theorem meas_zero {f : Addr} {fd : FuncData} {k : Nat} : FnOk P w K mg base CX0 k f fd ["value", "max_depth", "max_size"] (spMeas K 0) := by
  have no : ∀ vs H Q E, ¬ spMeas K 0 vs H Q E := fun vs H Q E h => by
    obtain ⟨v, d, md, ms, _, _, _, m0, m1, _⟩ := h
    omega
  exact ⟨fun vs H Q E h => absurd h (no vs H Q E), fun A outer s H args us vs Q E _ _ _ _ h => absurd h (no vs H Q E)⟩
end
end Fv


namespace Fv
open PySem PySem.Spec PyProof.Rows L2
end Fv


namespace Fv
open PySem PySem.Spec PyProof.Rows L2
-- top 26  slots: 0:_law_found 1:_law_due 2:_law_key 3:_law_one 4:_law_other
abbrev s_law_same : Stmt := topS 26
abbrev N_law_same : List Str := ["_law_found", "_law_due", "_law_key", "_law_one", "_law_other"]
theorem sc_law_same : FnScope N_law_same ["_law_found", "_law_due"] (defScope s_law_same) := ⟨rfl, rfl, rfl, by decide +kernel, rfl, by decide +kernel, by decide +kernel⟩



theorem walk_zipT {K : PySem.W.Frag} {a b : Addr} {xs ys : List V} {n : Nat} (hn : n = min xs.length ys.length) : Walk (RZ.ItzT K a b) n (fun H => SqT K H a xs ∧ SqT K H b ys) (YPair (fun i => xs[i]?) (fun i => ys[i]?)) := by
  subst hn
  refine ⟨fun i _ hi q => ?_, fun _ q => ⟨xs, ys, q.1, q.2, by omega⟩, fun i H v H' _ q y => ?_⟩
  · have h1 : i < xs.length := by omega
    have h2 : i < ys.length := by omega
    exact ⟨xs, ys, xs[i], ys[i], q.1, q.2, by simp [h1], by simp [h2]⟩
  · obtain ⟨T, x, z, h1, h2, h3, h4, h5⟩ := y
    exact ⟨T, x, z, h1, h2, h3, h4 xs q.1, h5 ys q.2⟩
def spSame (K : PySem.W.Frag) (n : Nat) : Sp := fun vs H Q _ => ∃ (v v' : V) (d : PyData) (m : Nat), vs = [v, v'] ∧ Dp K H v d ∧ Dp K H v' d ∧ m < n ∧ gd m d = true ∧ ∀ H', Same H H' → Q (.bl true) H'
theorem in_ints (ns : List Int) : inV (.int 0) (ns.map V.int) = decide ((0 : Int) ∈ ns) := by
  unfold inV
  induction ns with
  | nil => rfl
  | cons n ns ih =>
    rw [List.map_cons, List.any_cons, ih]
    show ((n == 0) || decide ((0 : Int) ∈ ns)) = decide ((0 : Int) ∈ n :: ns)
    by_cases e : n = 0
    · subst e; simp
    · have e1 : (n == 0) = false := beq_eq_false_iff_ne.mpr e
      rw [e1, Bool.false_or]
      simp [List.mem_cons, show ¬ (0 : Int) = n from fun z => e z.symm]
theorem flat_ints (ns : List Int) : (ns.map V.int).all flatV = true := by
  rw [List.all_map]
  exact List.all_eq_true.mpr fun _ _ => rfl
section
variable {P : Program} {w : World} {K : PySem.W.Frag} {mg : Str → Option Value} {base : Heap}
end
end Fv


namespace Fv
open PySem PySem.Spec PyProof.Rows L2
section
variable {P : Program} {w : World} {K : PySem.W.Frag} {mg : Str → Option Value} {base : Heap}
theorem measure_zero {f : Addr} {fd : FuncData} {k : Nat} : FnOk P w K mg base CX0 k f fd ["_law_word", "_law_deep"] (spMeasure K 0) := by
  have no : ∀ vs H Q E, ¬ spMeasure K 0 vs H Q E := fun vs H Q E h => by
    obtain ⟨v, d, md, _, _, _, m0, m1, _⟩ := h
    omega
  exact ⟨fun vs H Q E h => absurd h (no vs H Q E), fun A outer s H args us vs Q E _ _ _ _ h => absurd h (no vs H Q E)⟩
theorem same_zero {f : Addr} {fd : FuncData} {k : Nat} : FnOk P w K mg base CX0 k f fd ["_law_found", "_law_due"] (spSame K 0) := by
  have no : ∀ vs H Q E, ¬ spSame K 0 vs H Q E := fun vs H Q E h => by
    obtain ⟨v, v', d, m, _, _, _, m1, _⟩ := h
    omega
  exact ⟨fun vs H Q E h => absurd h (no vs H Q E), fun A outer s H args us vs Q E _ _ _ _ h => absurd h (no vs H Q E)⟩
theorem ok_same {f : Addr} {fd : FuncData} {k n : Nat} (F : Fun K "_law_same" "_law_same" s_law_same f fd) (m_isinstance : mg "isinstance" = none) (m_bool : mg "bool" = none) (m_int : mg "int" = none) (m_str : mg "str" = none) (m_dict : mg "dict" = none)
    (m_list : mg "list" = none) (m_tuple : mg "tuple" = none) (m_len : mg "len" = none) (m_all : mg "all" = none) (m_zip : mg "zip" = none)
    (C_law_same : Own P w K mg base k "_law_same" ["_law_found", "_law_due"] (spSame K n)) :
    FnOk P w K mg base CX0 (k + 1) f fd ["_law_found", "_law_due"] (spSame K (n + 1)) := by
  refine F.ok sc_law_same (fun vs H Q E h => ?_) (fun cdv A outer s H vs Q E hr h => ?_)
  · obtain ⟨v, v', d, m, rfl, _⟩ := h
    rfl
  · obtain ⟨v, v', d, m, rfl, hd, hd', hm, hg, q⟩ := h
    refine ⟨_, (pss_cons (ps_if (PW.pt (pw_or (pt_cmpR op_isN (pv 1) pe_non (nomark _)) (pw_or1 (pt_cmpR op_isN (pv 0) pe_non (nomark _)))))
        (pss_one (ps_ret (pe_and (pe_cmpR op_isN (pv 1) pe_non (nomark _)) (pe_one (pe_cmpR op_isN (pv 0) pe_non (nomark _))))))
        pss_nil)
      (pss_cons (ps_if (PW.pt (pw_or (pt_val (pe_isD (T := "bool") (by rfl) m_isinstance (by rfl) m_bool (pv 1))) (pw_or1 (pt_val (pe_isD (T := "bool") (by rfl) m_isinstance (by rfl) m_bool (pv 0))))))
        (pss_one (ps_ret (pe_and (pe_isD (T := "bool") (by rfl) m_isinstance (by rfl) m_bool (pv 1)) (pe_and (pe_isD (T := "bool") (by rfl) m_isinstance (by rfl) m_bool (pv 0)) (pe_one (pe_cmpR op_eq (pv 0) (pv 1) (nomark _)))))))
        pss_nil)
      (pss_cons (ps_if (PW.pt (pw_or (pt_val (pe_isD (T := "int") (by rfl) m_isinstance (by rfl) m_int (pv 1))) (pw_or1 (pt_val (pe_isD (T := "str") (by rfl) m_isinstance (by rfl) m_str (pv 1))))))
        (pss_one (ps_ret (pe_and (pe_cmpR op_eq (pe_isD (T := "int") (by rfl) m_isinstance (by rfl) m_int (pv 0)) (pe_isD (T := "int") (by rfl) m_isinstance (by rfl) m_int (pv 1)) (nomark _)) (pe_one (pe_cmpR op_eq (pv 0) (pv 1) (nomark _))))))
        pss_nil)
      (pss_cons (ps_if (pt_val (pe_isD (T := "dict") (by rfl) m_isinstance (by rfl) m_dict (pv 1)))
        pss_never
        pss_nil)
      (pss_cons (ps_if (PW.pt (pw_or (pt_cmpR op_ne (pe_isD (T := "list") (by rfl) m_isinstance (by rfl) m_list (pv 0)) (pe_isD (T := "list") (by rfl) m_isinstance (by rfl) m_list (pv 1)) (nomark _)) (pw_or1 (pt_cmpR op_ne (pe_isD (T := "tuple") (by rfl) m_isinstance (by rfl) m_tuple (pv 0)) (pe_isD (T := "tuple") (by rfl) m_isinstance (by rfl) m_tuple (pv 1)) (nomark _)))))
        (pss_one (ps_ret pe_bl))
        pss_nil)
      (pss_one (ps_ret (pe_and (pe_cmpR op_eq (pe_callB call_len_seq (by rfl) m_len (by decide +kernel) (pa_cons (pv 0) pa_nil)) (pe_callB call_len_seq (by rfl) m_len (by decide +kernel) (pa_cons (pv 1) pa_nil)) (nomark _)) (pe_one (pe_callB (cr_all rfl) (by rfl) m_all (by decide +kernel) (pa_cons (pe_lc (own := [("_law_one", 3), ("_law_other", 4)]) (g := gTup K 2 (gCons (gName 3) (gCons (gName 4) gNil))) (by rfl) sc_law_same.nd (RZ.pi_zipA (by rfl) m_zip (pa_cons (pv 0) (pa_cons (pv 1) pa_nil))) (blkOk_by (own := [("_law_one", 3), ("_law_other", 4)]) (N := N_law_same) (sc := defScope s_law_same) (by decide +kernel)) (fun _ _ _ _ _ => (pg_tup rfl (pgs_cons (pg_name (i := 3) sc_law_same.nd rfl (Or.inl rfl) (hf := Or.inr rfl)) (pgs_cons (pg_name (i := 4) sc_law_same.nd rfl (Or.inl rfl) (hf := Or.inr rfl)) pgs_nil)))) (fun _ _ _ _ _ => pts_nil) (fun _ _ _ _ _ => (pe_own C_law_same (hr.mono (by omega)) (by rfl) (pa_cons (pv 3) (pa_cons (pv 4) pa_nil))))) pa_nil))))))))))), ?_⟩
    have q0 := q H (Same.refl H)
    cases d with
    | none =>
      cases hd
      cases hd'
      exact ⟨_, rfl, rfl, _, rfl, iteT (iteT ⟨_, rfl, rfl, _, rfl, iteT ⟨_, rfl, rfl, q0⟩⟩)⟩
    | bool b =>
      refine ⟨_, rfl, rfl, _, rfl, ?_⟩
      cases hd
      cases hd'
      refine iteF ⟨_, rfl, rfl, _, rfl, iteF ?_⟩
      refine ⟨_, rfl, _, _, _, rfl, by decide, .bl b, _, rfl, iteT (iteT ⟨_, rfl, _, _, _, rfl, by decide, .bl b, _, rfl, iteT ⟨_, rfl, _, _, _, rfl, by decide, .bl b, _, rfl, iteT ⟨_, rfl, _, rfl, rfl, ?_⟩⟩⟩)⟩
      rw [decide_eq_true rfl]
      exact q0
    | int i =>
      refine ⟨_, rfl, rfl, _, rfl, ?_⟩
      cases hd
      cases hd'
      refine iteF ⟨_, rfl, rfl, _, rfl, iteF ?_⟩
      refine ⟨_, rfl, _, _, _, rfl, by decide, .int i, _, rfl, iteF ⟨_, rfl, _, _, _, rfl, by decide, .int i, _, rfl, iteF ?_⟩⟩
      refine ⟨_, rfl, _, _, _, rfl, by decide, .int i, _, rfl, iteT (iteT ⟨_, rfl, _, _, _, rfl, by decide, .int i, _, rfl, _, _, _, rfl, by decide, .int i, rfl, _, rfl, iteT ⟨_, rfl, _, rfl, rfl, ?_⟩⟩)⟩
      rw [decide_eq_true rfl]
      exact q0
    | str x =>
      refine ⟨_, rfl, rfl, _, rfl, ?_⟩
      cases hd
      cases hd'
      refine iteF ⟨_, rfl, rfl, _, rfl, iteF ?_⟩
      refine ⟨_, rfl, _, _, _, rfl, by decide, .str x, _, rfl, iteF ⟨_, rfl, _, _, _, rfl, by decide, .str x, _, rfl, iteF ?_⟩⟩
      refine ⟨_, rfl, _, _, _, rfl, by decide, .str x, _, rfl, iteF ⟨_, rfl, _, _, _, rfl, by decide, .str x, _, rfl, iteT ⟨_, rfl, _, _, _, rfl, by decide, .str x, _, rfl, _, _, _, rfl, by decide, .str x, rfl, _, rfl, iteT ⟨_, rfl, _, rfl, rfl, ?_⟩⟩⟩⟩
      rw [decide_eq_true rfl]
      exact q0
    | dict kvs => cases hd
    | list ds =>
      obtain ⟨a, xs, hs, ha, rfl⟩ : ∃ a xs, SqL K H a xs ∧ DpAll K H xs ds ∧ v = .ref a := by
        cases hd with | lst hs ha => exact ⟨_, _, hs, ha, rfl⟩
      obtain ⟨b, ys, hs', ha', rfl⟩ : ∃ b ys, SqL K H b ys ∧ DpAll K H ys ds ∧ v' = .ref b := by
        cases hd' with | lst hs ha => exact ⟨_, _, hs, ha, rfl⟩
      have D1 : Dp K H (.ref a) (.list ds) := .lst hs ha
      have D2 : Dp K H (.ref b) (.list ds) := .lst hs' ha'
      cases m with
      | zero => cases hg
      | succ m =>
      obtain ⟨lds, gds⟩ := gd_list hg
      have lx := dpAll_len ha
      have ly := dpAll_len ha'
      refine ⟨_, rfl, rfl, _, rfl, iteF ⟨_, rfl, rfl, _, rfl, iteF ?_⟩⟩
      refine ⟨_, rfl, _, _, _, rfl, by decide, D2, _, rfl, iteF ⟨_, rfl, _, _, _, rfl, by decide, D1, _, rfl, iteF ?_⟩⟩
      refine ⟨_, rfl, _, _, _, rfl, by decide, D2, _, rfl, iteF ⟨_, rfl, _, _, _, rfl, by decide, D2, _, rfl, iteF ?_⟩⟩
      refine ⟨_, rfl, _, _, _, rfl, by decide, D2, _, rfl, iteF ?_⟩
      refine ⟨_, rfl, _, _, _, rfl, by decide, D1, _, rfl, _, _, _, rfl, by decide, D2, rfl, _, rfl, iteF ⟨_, rfl, _, _, _, rfl, by decide, D1, _, rfl, _, _, _, rfl, by decide, D2, rfl, _, rfl, iteF ?_⟩⟩
      refine ⟨_, rfl, a, xs, rfl, .inl hs, _, rfl, b, ys, rfl, .inl hs', rfl, _, rfl, ?_⟩
      rw [lx, ly, decide_eq_true rfl]
      refine iteT ⟨_, rfl, _, rfl, a, b, xs, ys, rfl, .inl ⟨hs, hs', fun D nD => ?_⟩⟩
      refine lc_it (walk_zip (xs := xs) (ys := ys) (n := ds.length) (by omega)) (fun i H1 => Same H H1 ∧ H1 D = some (.lst ((List.replicate i true).map V.bl))) ⟨same_upd nD, upd_same⟩ (fun i H1 _ p => ⟨p.1.seq hs, p.1.seq hs'⟩) ?_ ?_
      · rintro i x H1 H2 hi ⟨sm, e⟩ ⟨T, x1, y1, rfl, nT, rfl, e1, e2⟩
        have sT : Same H1 (upd H1 T (.tup [x1, y1])) := same_upd nT
        obtain ⟨d1, g1, h1⟩ := dpAll_get ha e1
        obtain ⟨d2, g2, h2⟩ := dpAll_get ha' e2
        have ed : d2 = d1 := Option.some.inj (g2.symm.trans g1)
        subst ed
        refine ⟨T, [x1, y1], rfl, .inl (.inl upd_same), rfl, x1, [y1], rfl, y1, [], rfl, rfl, rfl, ?_⟩
        dsimp only [tYes]
        rw [if_pos rfl]
        refine ⟨_, rfl, _, rfl, x1, y1, d2, m, rfl, dp_same (sm.trans sT) _ _ h1, dp_same (sm.trans sT) _ _ h2, by omega, gds _ (List.mem_of_getElem? g1), fun H3 s3 => ?_⟩
        have e3 : H3 D = some (.lst ((List.replicate i true).map V.bl)) := s3 _ _ (sT _ _ e)
        refine ⟨_, e3, ?_, fun b' o' eb => ?_, ?_⟩
        · rw [List.length_map, List.length_replicate]
          exact small1000 (by omega)
        · rw [upd_ne (ne_of_none eb nD)]
          exact s3 _ _ (sT _ _ (sm _ _ eb))
        · rw [upd_same, List.replicate_succ']
          simp
      · rintro H1 ⟨sm, e⟩
        refine ⟨D, _, rfl, SqL.of e, ?_⟩
        rw [show (List.replicate ds.length true).all id = true by simp]
        exact q H1 sm
    | tuple ds =>
      obtain ⟨a, xs, hs, ha, rfl⟩ : ∃ a xs, SqT K H a xs ∧ DpAll K H xs ds ∧ v = .ref a := by
        cases hd with | tup hs ha => exact ⟨_, _, hs, ha, rfl⟩
      obtain ⟨b, ys, hs', ha', rfl⟩ : ∃ b ys, SqT K H b ys ∧ DpAll K H ys ds ∧ v' = .ref b := by
        cases hd' with | tup hs ha => exact ⟨_, _, hs, ha, rfl⟩
      have D1 : Dp K H (.ref a) (.tuple ds) := .tup hs ha
      have D2 : Dp K H (.ref b) (.tuple ds) := .tup hs' ha'
      cases m with
      | zero => cases hg
      | succ m =>
      obtain ⟨lds, gds⟩ := gd_tuple hg
      have lx := dpAll_len ha
      have ly := dpAll_len ha'
      refine ⟨_, rfl, rfl, _, rfl, iteF ⟨_, rfl, rfl, _, rfl, iteF ?_⟩⟩
      refine ⟨_, rfl, _, _, _, rfl, by decide, D2, _, rfl, iteF ⟨_, rfl, _, _, _, rfl, by decide, D1, _, rfl, iteF ?_⟩⟩
      refine ⟨_, rfl, _, _, _, rfl, by decide, D2, _, rfl, iteF ⟨_, rfl, _, _, _, rfl, by decide, D2, _, rfl, iteF ?_⟩⟩
      refine ⟨_, rfl, _, _, _, rfl, by decide, D2, _, rfl, iteF ?_⟩
      refine ⟨_, rfl, _, _, _, rfl, by decide, D1, _, rfl, _, _, _, rfl, by decide, D2, rfl, _, rfl, iteF ⟨_, rfl, _, _, _, rfl, by decide, D1, _, rfl, _, _, _, rfl, by decide, D2, rfl, _, rfl, iteF ?_⟩⟩
      refine ⟨_, rfl, a, xs, rfl, .inr hs, _, rfl, b, ys, rfl, .inr hs', rfl, _, rfl, ?_⟩
      rw [lx, ly, decide_eq_true rfl]
      refine iteT ⟨_, rfl, _, rfl, a, b, xs, ys, rfl, .inr ⟨hs, hs', fun D nD => ?_⟩⟩
      refine lc_it (walk_zipT (xs := xs) (ys := ys) (n := ds.length) (by omega)) (fun i H1 => Same H H1 ∧ H1 D = some (.lst ((List.replicate i true).map V.bl))) ⟨same_upd nD, upd_same⟩ (fun i H1 _ p => ⟨same_seqT p.1 hs, same_seqT p.1 hs'⟩) ?_ ?_
      · rintro i x H1 H2 hi ⟨sm, e⟩ ⟨T, x1, y1, rfl, nT, rfl, e1, e2⟩
        have sT : Same H1 (upd H1 T (.tup [x1, y1])) := same_upd nT
        obtain ⟨d1, g1, h1⟩ := dpAll_get ha e1
        obtain ⟨d2, g2, h2⟩ := dpAll_get ha' e2
        have ed : d2 = d1 := Option.some.inj (g2.symm.trans g1)
        subst ed
        refine ⟨T, [x1, y1], rfl, .inl (.inl upd_same), rfl, x1, [y1], rfl, y1, [], rfl, rfl, rfl, ?_⟩
        dsimp only [tYes]
        rw [if_pos rfl]
        refine ⟨_, rfl, _, rfl, x1, y1, d2, m, rfl, dp_same (sm.trans sT) _ _ h1, dp_same (sm.trans sT) _ _ h2, by omega, gds _ (List.mem_of_getElem? g1), fun H3 s3 => ?_⟩
        have e3 : H3 D = some (.lst ((List.replicate i true).map V.bl)) := s3 _ _ (sT _ _ e)
        refine ⟨_, e3, ?_, fun b' o' eb => ?_, ?_⟩
        · rw [List.length_map, List.length_replicate]
          exact small1000 (by omega)
        · rw [upd_ne (ne_of_none eb nD)]
          exact s3 _ _ (sT _ _ (sm _ _ eb))
        · rw [upd_same, List.replicate_succ']
          simp
      · rintro H1 ⟨sm, e⟩
        refine ⟨D, _, rfl, SqL.of e, ?_⟩
        rw [show (List.replicate ds.length true).all id = true by simp]
        exact q H1 sm
end
end Fv


namespace Fv
open PySem PySem.Spec PyProof.Rows L2
-- top 35  slots: 0:_law_source_here 1:_law_signs_here 2:_law_deep_here 3:_law_room 4:_law_many 5:_law_operator 6:_law_k
abbrev s_law_term : Stmt := topS 35
abbrev N_law_term : List Str := ["_law_source_here", "_law_signs_here", "_law_deep_here", "_law_room", "_law_many", "_law_operator", "_law_k"]
theorem sc_law_term : FnScope N_law_term ["_law_source_here", "_law_signs_here", "_law_deep_here", "_law_room"] (defScope s_law_term) := ⟨rfl, rfl, rfl, by decide +kernel, rfl, by decide +kernel, by decide +kernel⟩

-- top 36  slots: 0:_law_source_here 1:_law_signs_here
abbrev s_law_any_term : Stmt := topS 36
abbrev N_law_any_term : List Str := ["_law_source_here", "_law_signs_here"]
theorem sc_law_any_term : FnScope N_law_any_term ["_law_source_here"] (defScope s_law_any_term) := ⟨rfl, rfl, rfl, by decide +kernel, rfl, by decide +kernel, by decide +kernel⟩

section
variable {P : Program} {w : World} {K : PySem.W.Frag} {mg : Str → Option Value} {base : Heap}
theorem term_zero {f : Addr} {fd : FuncData} {k : Nat} : FnOk P w K mg base CX0 k f fd ["_law_source_here", "_law_signs_here", "_law_deep_here", "_law_room"] (spTerm K 0) := by
  have no : ∀ vs H Q E, ¬ spTerm K 0 vs H Q E := fun vs H Q E h => by
    obtain ⟨a, L, sg, r, ns, deep, m, ys, M, _, _, _, _, _, _, _, _, _, _, _, _, _, d1, d2, _⟩ := h
    omega
  exact ⟨fun vs H Q E h => absurd h (no vs H Q E), fun A outer s H args us vs Q E _ _ _ _ h => absurd h (no vs H Q E)⟩
theorem ok_term {f : Addr} {fd : FuncData} {k n : Nat} (F : Fun K "_law_term" "_law_term" s_law_term f fd) (m_tuple : mg "tuple" = none) (m_range : mg "range" = none) (hk : 2 ≤ k)
    (C_law_take : Own P w K mg base 1 "_law_take" ["_law_source_here", "_law_many"] spTake)
    (C_law_pick : Own P w K mg base 2 "_law_pick" ["_law_source_here", "_law_row"] spPick)
    (C_law_term : Own P w K mg base k "_law_term" ["_law_source_here", "_law_signs_here", "_law_deep_here", "_law_room"] (spTerm K n)) :
    FnOk P w K mg base CX0 (k + 1) f fd ["_law_source_here", "_law_signs_here", "_law_deep_here", "_law_room"] (spTerm K (n + 1)) := by
  refine F.ok sc_law_term (fun vs H Q E h => ?_) (fun cdv A outer s H vs Q E hr h => ?_)
  · obtain ⟨a, L, sg, r, ns, deep, m, ys, M, rfl, _⟩ := h
    rfl
  · obtain ⟨a, L, sg, r, ns, deep, m, ys, M, rfl, hs, hsg, y0, y8, hy, hR, sga, sgr, ra, rL, m0, m1, d1, d2, aM, rM, tM, q⟩ := h
    refine ⟨_, (pss_cons (ps_set (i := 4) sc_law_term.nd rfl (by first | exact .inl rfl | exact .inr rfl) (pe_op op_add pe_int (pe_op op_fdiv (pe_own C_law_take (hr.mono (by omega)) (by rfl) (pa_cons (pv 0) (pa_cons pe_int pa_nil))) pe_int)))
      (pss_cons (ps_if (PW.pt (pw_or (pt_cmpR op_lt (pv 2) pe_int (nomark _)) (pw_or (pt_cmpR op_lt (pe_ix ix_list (pv 3) pe_int (fun _ _ => rfl)) (pe_op op_sub (pv 4) pe_int) (nomark _)) (pw_or1 (pt_cmpR op_eq (pe_own C_law_take (hr.mono (by omega)) (by rfl) (pa_cons (pv 0) (pa_cons pe_int pa_nil))) pe_int (nomark _))))))
        (pss_one (ps_ret (pe_own C_law_pick (hr.mono (by omega)) (by rfl) (pa_cons (pv 0) (pa_cons (pv 1) pa_nil)))))
        pss_nil)
      (pss_cons (ps_asg (pe_op op_add (pe_op op_sub (pe_ix ix_list (pv 3) pe_int (fun _ _ => rfl)) (pv 4)) pe_int) (pg_sub (pv 3) pe_int set_list))
      (pss_cons (ps_set (i := 5) sc_law_term.nd rfl (by first | exact .inl rfl | exact .inr rfl) (pe_own C_law_pick (hr.mono (by omega)) (by rfl) (pa_cons (pv 0) (pa_cons (pe_lst (pa_cons pe_str (pa_cons pe_str pa_nil))) pa_nil))))
      (pss_one (ps_ret (pe_callTy call_tuple_of (by rfl) m_tuple (by decide +kernel) (pa_cons (pe_op op_cat (pe_lst (pa_cons (pv 5) pa_nil)) (pe_lc (own := [("_law_k", 6)]) (g := gName 6) (by rfl) sc_law_term.nd (pi_range1 (by rfl) m_range (pa_cons (pv 4) pa_nil)) (blkOk_by (own := [("_law_k", 6)]) (N := N_law_term) (sc := defScope s_law_term) (by decide +kernel)) (fun _ _ _ _ _ => pg_name (i := 6) sc_law_term.nd rfl (Or.inl rfl)) (fun _ _ _ _ _ => pts_nil) (fun _ _ _ _ _ => (pe_own C_law_term (hr.mono (by omega)) (by rfl) (pa_cons (pv 0) (pa_cons (pv 1) (pa_cons (pe_op op_sub (pv 2) pe_int) (pa_cons (pv 3) pa_nil)))))))) pa_nil)))))))), ?_⟩
    have fin : ∀ Hx, Src Hx a L ns → (∀ b, b ≠ a → Hx b = H b) → spPick [.ref a, .ref sg] Hx Q E0 := fun Hx hsx offx => by
      refine ⟨a, L, sg, ns, ys, rfl, hsx, sga, (offx sg sga).trans hsg, y0, by omega, fun H' v mv hs' off' => ?_⟩
      obtain ⟨x, rfl, hx⟩ := lett_data (hy v mv)
      obtain ⟨l1, l2⟩ := isL_lett hx
      refine q H' _ (.str x) m (.str x) ?_ m0 (Int.le_refl _) (gd_le l2 (Nat.zero_le _)) hs' (((off' r ra).trans (offx r ra)).trans hR) fun b o hb e => ?_
      · obtain ⟨j, ej⟩ : ∃ j, deep.toNat = j + 1 := ⟨deep.toNat - 1, by omega⟩
        rw [ej]
        show (if isL x = true then (1 : Int) else _) = _
        rw [if_pos l1]
        omega
      · have ba : b ≠ a := fun z => hb (by rw [z]; exact List.mem_cons_self ..)
        rw [off' b ba, offx b ba]
        exact e
    refine ⟨_, rfl, a, L, ns, 5, rfl, hs, by decide, by decide, fun H1 t t0 t1 hs1 off1 => ⟨_, _, rfl, rfl, ⟨by decide, by decide⟩, _, _, rfl, rfl, ?_⟩⟩
    have hR1 : H1 r = some (.lst [.int m]) := (off1 r ra).trans hR
    refine ⟨_, rfl, _, _, rfl, rfl, _, rfl, ?_⟩
    refine ite2 (fun c => iteT ⟨_, rfl, _, rfl, fin H1 hs1 off1⟩) (fun c => ?_)
    have cd : ¬ deep < 2 := of_decide_eq_false (Bool.eq_false_iff.mpr c)
    refine ⟨_, rfl, r, _, _, _, rfl, rfl, SqL.of hR1, rfl, _, rfl, _, _, rfl, rfl, _, _, rfl, rfl, _, rfl, ?_⟩
    refine ite2 (fun c => iteT ⟨_, rfl, _, rfl, fin H1 hs1 off1⟩) (fun c => ?_)
    have cm : ¬ m < 2 + t / 2 - 1 := of_decide_eq_false (Bool.eq_false_iff.mpr c)
    refine ⟨_, rfl, a, L, ns, 4, rfl, hs1, by decide, by decide, fun H2 t2 _ _ hs2 off2 => ⟨rfl, _, rfl, ?_⟩⟩
    have off12 : ∀ b, b ≠ a → H2 b = H b := fun b hb => (off2 b hb).trans (off1 b hb)
    refine ite2 (fun c => ⟨_, rfl, _, rfl, fin H2 hs2 off12⟩) (fun _ => ?_)
    have hR2 : H2 r = some (.lst [.int m]) := (off12 r ra).trans hR
    -- room[0] = room[0] - many + 1
    refine ⟨_, rfl, r, _, _, _, rfl, rfl, SqL.of hR2, rfl, _, rfl, _, _, rfl, rfl, _, _, rfl, rfl, _, rfl, r, _, _, _, rfl, rfl, hR2, rfl, ?_⟩
    have hs3 : Src (upd H2 r (.lst [.int (m - (2 + t / 2) + 1)])) a L ns := hs2.put ra rL
    have tM2 : Trk M (upd H2 r (.lst [.int (m - (2 + t / 2) + 1)])) := fun b hb => by
      by_cases br : b = r
      · rw [br]; exact ⟨_, upd_same⟩
      · rw [upd_ne br]
        by_cases ba : b = a
        · rw [ba]
          obtain ⟨_, _, _, _, e, _⟩ := hs2
          exact ⟨_, e⟩
        · rw [off12 b ba]; exact tM b hb
    -- operator
    refine ⟨_, rfl, (by show 2 ≤ sizeLine; decide), fun l nl => ?_⟩
    have sl := same_upd (o := .lst [.str "&", .str "|"]) nl
    have la : l ≠ a := (hs3.ne nl).symm
    refine ⟨a, L, l, ns, _, rfl, hs3.same sl, la, upd_same, by decide, by decide, fun H4 op mop hs4 off4 => ?_⟩
    obtain ⟨os, rfl, ho, go⟩ : ∃ os : Str, op = .str os ∧ isOp (.str os) = true ∧ gd 0 (.str os) = true := by
      rcases List.mem_cons.mp mop with e | e
      · exact ⟨_, e, isOp_str.1, by decide +kernel⟩
      · exact ⟨_, List.mem_singleton.mp e, isOp_str.2, by decide +kernel⟩
    -- what stands at H4
    have rl : r ≠ l := ne_of_none (H := upd H2 r (.lst [.int (m - (2 + t / 2) + 1)])) upd_same nl
    have hR4 : H4 r = some (.lst [.int (m - (2 + t / 2) + 1)]) := (off4 r ra).trans ((upd_ne rl).trans upd_same)
    have sm4 : SmX [a, r] H H4 := fun b o hb e => by
      have ba : b ≠ a := fun z => hb (by rw [z]; exact List.mem_cons_self ..)
      have br : b ≠ r := fun z => hb (by rw [z]; exact List.mem_cons_of_mem _ (List.mem_singleton.mpr rfl))
      rw [off4 b ba]
      exact sl b o ((upd_ne br).trans ((off12 b ba).trans e))
    have tM4 : Trk M H4 := fun b hb => by
      by_cases ba : b = a
      · rw [ba]
        obtain ⟨_, _, _, _, e, _⟩ := hs4
        exact ⟨_, e⟩
      · rw [off4 b ba]; exact (tM2.same sl) b hb
    have hsg4 : H4 sg = some (.lst ys) := sm4 _ _ (fun z => by
      rcases List.mem_cons.mp z with z | z
      · exact sga z
      · exact sgr (List.mem_singleton.mp z)) hsg
    -- [operator] + [..]
    refine ⟨_, rfl, (by show 1 ≤ sizeLine; decide), fun o1 no1 => ?_⟩
    have so := same_upd (o := .lst [.str os]) no1
    refine ⟨_, rfl, (2 + t / 2), rfl, by omega, by omega, fun D nD => ?_⟩
    have tMo : Trk M (upd H4 o1 (.lst [.str os])) := tM4.same so
    have DM : D ∉ M := tMo.ne nD
    have Da : D ≠ a := fun e => DM (e ▸ aM)
    have Dr : D ≠ r := fun e => DM (e ▸ rM)
    have sD := same_upd (o := .lst []) nD
    refine lc_range (lo := 0) (n := (2 + t / 2).toNat) (fun i Hi => ∃ (mi : Int) (acc : List V) (ds : List PyData), Src Hi a L ns ∧ Hi r = some (.lst [.int mi]) ∧ Hi D = some (.lst acc) ∧ acc.length = i ∧ DpAll K (hide (D :: M) Hi) acc ds ∧
      (∀ d ∈ ds, 1 ≤ lmeas (deep.toNat - 1) d ∧ gd (deep.toNat - 1) d = true) ∧ (ds.map (lmeas (deep.toNat - 1))).sum = (m - (2 + t / 2) + 1) - mi + i ∧ 0 ≤ mi ∧ mi ≤ m - (2 + t / 2) + 1 ∧ SmX [a, r] (upd H4 o1 (.lst [.str os])) Hi) ?_ ?_ ?_
    · refine ⟨_, [], [], (hs4.same so).same sD, sD _ _ (so _ _ hR4), upd_same, rfl, .nil, (fun d h => nomatch h), ?_, by omega, Int.le_refl _, .of_same sD⟩
      simp
    · rintro i Hi hi ⟨mi, acc, ds, hsi, hri, hDi, li, hda, hds, hsum, mi0, mi1, smi⟩
      refine ⟨rfl, ?_⟩
      dsimp only [tYes]
      rw [if_pos rfl]
      have tMi : Trk M Hi := tMo.smx smi fun b hb => by
        rcases List.mem_cons.mp hb with z | z
        · rw [z]
          obtain ⟨_, _, _, _, e, _⟩ := hsi
          exact ⟨_, e⟩
        · rw [List.mem_singleton.mp z]; exact ⟨_, hri⟩
      have hsgi : Hi sg = some (.lst ys) := smi _ _ (fun z => by
        rcases List.mem_cons.mp z with z | z
        · exact sga z
        · exact sgr (List.mem_singleton.mp z)) (so _ _ hsg4)
      refine ⟨_, rfl, _, rfl, _, rfl, _, _, rfl, rfl, _, rfl, a, L, sg, r, ns, deep - 1, mi, ys, D :: M, rfl, hsi, hsgi, y0, y8, hy, hri, sga, sgr, ra, rL, mi0, by omega, by omega, by omega, List.mem_cons_of_mem _ aM, List.mem_cons_of_mem _ rM, fun b hb => ?_, fun H5 v d m5 hd5 hl5 m50 m51 hg5 hs5 hr5 sm5 => ?_⟩
      · rcases List.mem_cons.mp hb with z | z
        · rw [z]; exact ⟨_, hDi⟩
        · exact tMi b z
      · have hD5 : H5 D = some (.lst acc) := sm5 _ _ (fun z => by
          rcases List.mem_cons.mp z with z | z
          · exact Da z
          · exact Dr (List.mem_singleton.mp z)) hDi
        have ed : (deep - 1).toNat = deep.toNat - 1 := by omega
        rw [ed] at hl5 hg5
        have hid : Same (hide (D :: M) Hi) (hide (D :: M) (upd H5 D (.lst (acc ++ [v])))) := (SmX.put (sm5.sub (M' := D :: M) fun b hb => by
          rcases List.mem_cons.mp hb with z | z
          · rw [z]; exact .inl (List.mem_cons_of_mem _ aM)
          · rw [List.mem_singleton.mp z]; exact .inl (List.mem_cons_of_mem _ rM)) (List.mem_cons_self ..)).hid
        have hid5 : Same (hide (D :: M) H5) (hide (D :: M) (upd H5 D (.lst (acc ++ [v])))) := (SmX.put (SmX.refl _ _) (List.mem_cons_self ..)).hid
        have Lr : r ≠ L := rL
        refine ⟨acc, hD5, ?_, m5, acc ++ [v], ds ++ [d], ?_, ?_, upd_same, ?_, ?_, ?_, ?_, m50, by omega, ?_⟩
        · exact small1000 (by omega)
        · refine hs5.put Da fun e => ?_
          obtain ⟨_, _, _, _, _, e2, _⟩ := hs
          have eL : (upd H4 o1 (.lst [.str os])) L = none := e ▸ nD
          obtain ⟨_, _, _, _, _, e3, _⟩ := hs4.same so
          rw [eL] at e3
          cases e3
        · rw [upd_ne Dr.symm]; exact hr5
        · rw [List.length_append, li]; rfl
        · exact dpAll_app (dpAll_same hid _ _ hda) (.cons (dp_same hid5 _ _ hd5) .nil)
        · intro d' hd'
          rcases List.mem_append.mp hd' with z | z
          · exact hds d' z
          · rw [List.mem_singleton.mp z]
            exact ⟨by omega, hg5⟩
        · rw [List.map_append, List.sum_append, hsum]
          simp only [List.map_cons, List.map_nil, List.sum_cons, List.sum_nil]
          omega
        · intro b o hb e
          rw [upd_ne (ne_of_none e nD)]
          exact sm5 b o hb (smi b o hb e)
    · rintro Hi ⟨mi, acc, ds, hsi, hri, hDi, li, hda, hds, hsum, mi0, mi1, smi⟩
      have o1a : o1 ≠ a := fun e => by
        obtain ⟨_, _, _, _, e', _⟩ := hs4
        rw [e, e'] at no1
        cases no1
      have o1r : o1 ≠ r := fun e => by
        rw [e, hR4] at no1
        cases no1
      have ho1 : Hi o1 = some (.lst [.str os]) := smi _ _ (fun z => by
        rcases List.mem_cons.mp z with z | z
        · exact o1a z
        · exact o1r (List.mem_singleton.mp z)) upd_same
      have tMi : Trk M Hi := tMo.smx smi fun b hb => by
        rcases List.mem_cons.mp hb with z | z
        · rw [z]
          obtain ⟨_, _, _, _, e, _⟩ := hsi
          exact ⟨_, e⟩
        · rw [List.mem_singleton.mp z]; exact ⟨_, hri⟩
      refine ⟨o1, D, _, _, rfl, rfl, ho1, hDi, ?_, fun cc ncc => ?_⟩
      · rw [li]
        exact le1000 (by show 1 + _ ≤ 1000; omega)
      have sc := same_upd (o := .lst ([.str os] ++ acc)) ncc
      refine ⟨cc, _, rfl, .inl ⟨SqL.of upd_same, fun p np => ?_⟩⟩
      have sp := same_upd (o := .tup ([.str os] ++ acc)) np
      have tMc : Trk M (upd Hi cc (.lst ([.str os] ++ acc))) := tMi.same sc
      have lds := dpAll_len hda
      obtain ⟨j, ej⟩ : ∃ j, deep.toNat = j + 1 := ⟨deep.toNat - 1, by omega⟩
      have ej1 : deep.toNat - 1 = j := by omega
      rw [ej1] at hds hsum
      have hidA : Same (hide (D :: M) Hi) (hide M (upd (upd Hi cc (.lst ([.str os] ++ acc))) p (.tup ([.str os] ++ acc)))) :=
        (hide_sub fun b hb => List.mem_cons_of_mem _ hb).trans (SmX.of_same (sc.trans sp)).hid
      refine q _ (.ref p) (.tuple (.str os :: ds)) mi (.tup (SqT.of (hid_at tMc np)) (.cons (.str os) (dpAll_same hidA _ _ hda))) ?_ mi0 (by omega) ?_ ((hsi.same sc).same sp) (sp _ _ (sc _ _ hri)) (sm4.trans ((SmX.of_same so).trans (smi.trans (.of_same (sc.trans sp)))))
      · rw [ej]
        refine lmeas_tup ho (by omega) (fun d hd => (hds d hd).1) ?_
        rw [hsum]
        omega
      · rw [ej]
        refine gd_tup (fun d hd => ?_) (by rw [List.length_cons]; omega)
        rcases List.mem_cons.mp hd with z | z
        · rw [z]; exact gd_le go (Nat.zero_le _)
        · exact (hds d z).2
end
end Fv


namespace Fv
open PySem PySem.Spec PyProof.Rows L2
-- top 39  slots: 0:_law_many 1:_law_word 2:_law_k
abbrev s_law_nest : Stmt := topS 39
abbrev N_law_nest : List Str := ["_law_many", "_law_word", "_law_k"]
theorem sc_law_nest : FnScope N_law_nest ["_law_many"] (defScope s_law_nest) := ⟨rfl, rfl, rfl, by decide +kernel, rfl, by decide +kernel, by decide +kernel⟩

-- top 38  slots: 0:_law_source_here 1:_law_word 2:_law_some
abbrev s_law_odd : Stmt := topS 38
abbrev N_law_odd : List Str := ["_law_source_here", "_law_word", "_law_some"]
theorem sc_law_odd : FnScope N_law_odd ["_law_source_here", "_law_word"] (defScope s_law_odd) := ⟨rfl, rfl, rfl, by decide +kernel, rfl, by decide +kernel, by decide +kernel⟩

theorem pos22 : (0 : Int) < 2 := by decide
section
variable {P : Program} {w : World} {K : PySem.W.Frag} {mg : Str → Option Value} {base : Heap}
theorem ok_any_term {f : Addr} {fd : FuncData} {k : Nat} (F : Fun K "_law_any_term" "_law_any_term" s_law_any_term f fd) (hk : 3 ≤ k)
    (C_law_take : Own P w K mg base 1 "_law_take" ["_law_source_here", "_law_many"] spTake)
    (C_law_pick : Own P w K mg base 2 "_law_pick" ["_law_source_here", "_law_row"] spPick)
    (C_law_signs : Own P w K mg base 3 "_law_signs" ["_law_source_here", "_law_most"] spSigns)
    (C_law_term : Own P w K mg base k "_law_term" ["_law_source_here", "_law_signs_here", "_law_deep_here", "_law_room"] (spTerm K 5)) :
    FnOk P w K mg base CX0 (k + 1) f fd ["_law_source_here"] (spAnyTerm K) := by
  refine F.ok sc_law_any_term (fun vs H Q E h => ?_) (fun cdv A outer s H vs Q E hr h => ?_)
  · obtain ⟨a, L, ns, M, rfl, _⟩ := h
    rfl
  · obtain ⟨a, L, ns, M, rfl, hs, aM, tM, q⟩ := h
    refine ⟨_, (pss_cons (ps_set (i := 1) sc_law_any_term.nd rfl (by first | exact .inl rfl | exact .inr rfl) (pe_own C_law_signs (hr.mono (by omega)) (by rfl) (pa_cons (pv 0) (pa_cons pe_int pa_nil))))
      (pss_one (ps_ret (pe_own C_law_term (hr.mono (by omega)) (by rfl) (pa_cons (pv 0) (pa_cons (pv 1) (pa_cons (pe_op op_add pe_int (pe_own C_law_take (hr.mono (by omega)) (by rfl) (pa_cons (pv 0) (pa_cons pe_int pa_nil)))) (pa_cons (pe_lst (pa_cons (pe_own C_law_pick (hr.mono (by omega)) (by rfl) (pa_cons (pv 0) (pa_cons (pe_lst (pa_cons pe_int (pa_cons pe_int (pa_cons pe_int pa_nil)))) pa_nil))) pa_nil)) pa_nil)))))))), ?_⟩
    refine ⟨_, rfl, a, L, ns, 8, rfl, hs, by decide, by decide, fun H1 sg ys y0 y8 hy _ nsg hsg hs1 sm1 => ?_⟩
    have sga : sg ≠ a := (hs.ne nsg).symm
    refine ⟨_, rfl, _, rfl, _, rfl, a, L, ns, 5, rfl, hs1, by decide, by decide, fun H2 t t0 t1 hs2 off2 => ⟨_, _, rfl, rfl, ?_⟩⟩
    refine ⟨_, rfl, (by show 3 ≤ sizeLine; decide), fun l nl => ?_⟩
    have sl := same_upd (o := .lst [.int 2, .int 7, .int 23]) nl
    refine ⟨a, L, l, ns, _, rfl, hs2.same sl, (hs2.ne nl).symm, upd_same, by decide, by decide, fun H3 v mv hs3 off3 => ?_⟩
    obtain ⟨m, rfl, m0, m23⟩ : ∃ m : Int, v = .int m ∧ 0 ≤ m ∧ m ≤ 23 := by
      simp only [List.mem_cons, List.not_mem_nil, or_false] at mv
      rcases mv with e | e | e
      · exact ⟨2, e, by decide, by decide⟩
      · exact ⟨7, e, by decide, by decide⟩
      · exact ⟨23, e, by decide, by decide⟩
    refine ⟨(by show 1 ≤ sizeLine; decide), fun r nr => ?_⟩
    have sr := same_upd (o := .lst [.int m]) nr
    have smA : SmX [a] H H3 := sm1.trans ((SmX.at off2 (List.mem_singleton.mpr rfl)).trans ((SmX.of_same sl).trans (SmX.at off3 (List.mem_singleton.mpr rfl))))
    have tM3 : Trk M H3 := tM.smx smA hs3.trk
    have hsg3 : H3 sg = some (.lst ys) := (off3 sg sga).trans (sl _ _ ((off2 sg sga).trans hsg))
    have rL : r ≠ L := fun e => by
      obtain ⟨_, _, _, _, _, e2, _⟩ := hs3
      rw [← e, nr] at e2
      cases e2
    have rn : H r = none := by
      by_cases e : r = a
      · exact absurd e (hs3.ne nr).symm
      · cases eh : H r with
        | none => rfl
        | some o =>
          have := smA r o (fun z => e (List.mem_singleton.mp z)) eh
          rw [nr] at this
          cases this
    refine ⟨a, L, sg, r, ns, 1 + t, m, ys, r :: M, rfl, hs3.same sr, sr _ _ hsg3, y0, by omega, hy, upd_same, sga, ne_of_none hsg3 nr, (hs3.ne nr).symm, rL, m0, by omega, by omega, by omega, List.mem_cons_of_mem _ aM, List.mem_cons_self .., fun b hb => ?_, fun H5 v5 d m5 hd hl m50 m51 hg hs5 hr5 sm5 => ?_⟩
    · rcases List.mem_cons.mp hb with z | z
      · rw [z]; exact ⟨_, upd_same⟩
      · exact (tM3.same sr) b z
    · refine q H5 v5 d (1 + t).toNat (dp_same (hide_sub fun b hb => List.mem_cons_of_mem _ hb) d v5 hd) (by omega) (by omega) (by omega) (by omega) hg hs5 ?_
      intro b o hb e
      have br : b ≠ r := ne_of_none e rn
      refine sm5 b o (fun z => ?_) (sr _ _ (smA b o hb e))
      rcases List.mem_cons.mp z with z | z
      · exact hb (by rw [z]; exact List.mem_singleton.mpr rfl)
      · exact br (List.mem_singleton.mp z)
theorem ok_nest {f : Addr} {fd : FuncData} {k : Nat} (F : Fun K "_law_nest" "_law_nest" s_law_nest f fd) (m_range : mg "range" = none) (m_int : mg "int" = none) :
    FnOk P w K mg base CX0 (k + 1) f fd ["_law_many"] (spNest K) := by
  refine F.ok sc_law_nest (fun vs H Q E h => ?_) (fun cdv A outer s H vs Q E hr h => ?_)
  · obtain ⟨n, M, rfl, _⟩ := h
    rfl
  · obtain ⟨n, M, rfl, hn, tM, q⟩ := h
    refine ⟨_, (pss_cons (ps_set (i := 1) sc_law_nest.nd rfl (by first | exact .inl rfl | exact .inr rfl) pe_str)
      (pss_cons (ps_for PassesOwn.never rfl (pi_range1 (by rfl) m_range (pa_cons (pv 0) pa_nil)) (pg_name (i := 2) sc_law_nest.nd rfl (by first | exact .inl rfl | exact .inr rfl))
        (pss_one (ps_set (i := 1) sc_law_nest.nd rfl (by first | exact .inl rfl | exact .inr rfl) (pe_tup (pa_cons (pe_ix ix_list (pe_lst (pa_cons pe_str (pa_cons pe_str pa_nil))) (pe_op op_mod (pe_callTy call_int1 (by rfl) m_int (by decide +kernel) (pa_cons (pv 2) pa_nil)) pe_int) (fun _ _ => rfl)) (pa_cons (pv 1) (pa_cons pe_str pa_nil)))))))
      (pss_one (ps_ret (pv 1))))), ?_⟩
    refine ⟨_, rfl, (n : Int), rfl, by omega, by omega, for_range (lo := 0) (n := (n : Int).toNat) (fun i σ Hi => ∃ (v : V) (y : Option V), σ = [some (.int (n : Nat)), some v, y] ∧ Dp K (hide M Hi) v (nestD i) ∧ Same H Hi) ?_ ?_ ?_⟩
    · exact ⟨_, none, rfl, .str _, Same.refl _⟩
    · rintro i σ Hi hi ⟨v, y, rfl, hd, sm⟩
      refine ⟨(by show 2 ≤ sizeLine; decide), fun l nl => ?_⟩
      have sl := same_upd (o := .lst [.str "&", .str "|"]) nl
      refine ⟨_, rfl, .inl ⟨_, rfl, _, _, rfl, rfl, pos22, ?_⟩⟩
      have hx : atI [V.str "&", V.str "|"] ((0 + (i : Int)) % 2) = some (.str (if i % 2 = 0 then "&" else "|")) := by
        rcases Nat.mod_two_eq_zero_or_one i with e | e
        · rw [show (0 + (i : Int)) % 2 = 0 by omega, if_pos e]; rfl
        · rw [show (0 + (i : Int)) % 2 = 1 by omega, if_neg (by omega)]; rfl
      refine ⟨l, _, _, _, rfl, rfl, SqL.of upd_same, hx, _, rfl, (by show 3 ≤ sizeLine; decide), fun p np => ?_⟩
      have sp := same_upd (o := .tup [.str (if i % 2 = 0 then "&" else "|"), v, .str "b"]) np
      refine ⟨_, _, rfl, ?_, sm.trans (sl.trans sp)⟩
      have tMi : Trk M (upd Hi l (.lst [.str "&", .str "|"])) := (tM.same sm).same sl
      exact .tup (SqT.of (hid_at tMi np)) (.cons (.str _) (.cons (dp_same (SmX.of_same (sl.trans sp)).hid _ _ hd) (.cons (.str _) .nil)))
    · rintro σ Hi ⟨v, y, rfl, hd, sm⟩
      rw [Int.toNat_natCast] at hd
      exact ⟨_, rfl, q Hi v hd sm⟩
end
end Fv


namespace Fv
open PySem PySem.Spec PyProof.Rows L2
theorem all_nil {P : V → Prop} : ∀ y ∈ ([] : List V), P y := fun y h => nomatch h
theorem all_cons {P : V → Prop} {x : V} {xs : List V} (h : P x) (t : ∀ y ∈ xs, P y) : ∀ y ∈ x :: xs, P y := fun y hy => by
  rcases List.mem_cons.mp hy with e | e
  · rw [e]; exact h
  · exact t y e
theorem all_app {P : V → Prop} {xs ys : List V} (h : ∀ y ∈ xs, P y) (t : ∀ y ∈ ys, P y) : ∀ y ∈ xs ++ ys, P y := fun y hy => by
  rcases List.mem_append.mp hy with e | e
  · exact h y e
  · exact t y e
section
variable {P : Program} {w : World} {K : PySem.W.Frag} {mg : Str → Option Value} {base : Heap}
theorem ok_odd {f : Addr} {fd : FuncData} {k : Nat} (F : Fun K "_law_odd" "_law_odd" s_law_odd f fd) (hk : 2 ≤ k)
    (C_law_pick : Own P w K mg base 2 "_law_pick" ["_law_source_here", "_law_row"] spPick)
    (C_law_nest : Own P w K mg base 1 "_law_nest" ["_law_many"] (spNest K)) :
    FnOk P w K mg base CX0 (k + 1) f fd ["_law_source_here", "_law_word"] (spOdd K) := by
  refine F.ok sc_law_odd (fun vs H Q E h => ?_) (fun cdv A outer s H vs Q E hr h => ?_)
  · obtain ⟨a, L, ns, v, M, rfl, _⟩ := h
    rfl
  · obtain ⟨a, L, ns, v, M, rfl, hs, gw, aM, t0, q⟩ := h
    have a0 : Same H H := Same.refl H
    refine ⟨_, (pss_cons (ps_set (i := 2) sc_law_odd.nd rfl (by first | exact .inl rfl | exact .inr rfl) (pe_lst (pa_cons pe_non (pa_cons pe_int (pa_cons pe_str (pa_cons pe_str (pa_cons pe_str (pa_cons pe_str (pa_cons (pe_tup pa_nil) (pa_cons (pe_tup (pa_cons pe_str pa_nil)) (pa_cons (pe_tup (pa_cons pe_str (pa_cons pe_str pa_nil))) (pa_cons (pe_tup (pa_cons pe_str (pa_cons pe_str (pa_cons pe_str pa_nil)))) (pa_cons (pe_tup (pa_cons pe_str (pa_cons pe_str (pa_cons pe_str pa_nil)))) (pa_cons (pe_lst (pa_cons pe_str (pa_cons pe_str (pa_cons pe_str pa_nil)))) pa_nil))))))))))))))
      (pss_cons (ps_set (i := 2) sc_law_odd.nd rfl (by first | exact .inl rfl | exact .inr rfl) (pe_op op_cat (pv 2) (pe_lst (pa_cons (pe_tup (pa_cons pe_str (pa_cons pe_str (pa_cons pe_non pa_nil)))) (pa_cons (pe_tup (pa_cons pe_str (pa_cons (pv 1) (pa_cons (pe_tup (pa_cons pe_str (pa_cons pe_str pa_nil))) pa_nil)))) (pa_cons (pe_tup (pa_cons (pv 1) pa_nil)) (pa_cons (pe_tup (pa_cons pe_str (pa_cons (pe_tup (pa_cons pe_str (pa_cons pe_str pa_nil))) (pa_cons (pv 1) pa_nil)))) (pa_cons (pe_tup (pa_cons pe_bl (pa_cons pe_str (pa_cons pe_str pa_nil)))) pa_nil))))))))
      (pss_cons (ps_set (i := 2) sc_law_odd.nd rfl (by first | exact .inl rfl | exact .inr rfl) (pe_op op_cat (pv 2) (pe_lst (pa_cons (pe_tup (pa_cons pe_str (pa_cons (pe_lst (pa_cons pe_str pa_nil)) (pa_cons (pv 1) pa_nil)))) (pa_cons (pe_tup (pa_cons pe_str (pa_cons (pv 1) (pa_cons pe_str pa_nil)))) (pa_cons (pe_tup (pa_cons pe_str (pa_cons (pv 1) (pa_cons (pv 1) pa_nil)))) (pa_cons (pe_tup (pa_cons (pe_tup (pa_cons pe_str (pa_cons pe_str (pa_cons pe_str pa_nil)))) (pa_cons pe_str (pa_cons pe_str pa_nil)))) (pa_cons (pe_own C_law_nest (hr.mono (by omega)) (by rfl) (pa_cons pe_int pa_nil)) pa_nil))))))))
      (pss_one (ps_ret (pe_own C_law_pick (hr.mono (by omega)) (by rfl) (pa_cons (pv 0) (pa_cons (pv 2) pa_nil)))))))), ?_⟩
    refine ⟨(by show 0 ≤ sizeLine; decide), fun p1 n1 => ?_⟩
    have s1 := same_upd (o := .tup []) n1
    have g1 : GV K 1 M _ (.ref p1) := GV.tup (n := 0) (xs := []) t0 n1 all_nil (Nat.le_of_ble_eq_true rfl)
    have a1 := a0.trans s1
    have t1 := t0.same s1
    refine ⟨(by show 1 ≤ sizeLine; decide), fun p2 n2 => ?_⟩
    have s2 := same_upd (o := .tup [.str "&"]) n2
    have g2 : GV K 1 M _ (.ref p2) := GV.tup (n := 0) (xs := [.str "&"]) t1 n2 (all_cons (GV.str (x := "&") (by decide +kernel)) all_nil) (Nat.le_of_ble_eq_true rfl)
    have a2 := a1.trans s2
    have t2 := t1.same s2
    refine ⟨(by show 2 ≤ sizeLine; decide), fun p3 n3 => ?_⟩
    have s3 := same_upd (o := .tup [.str "&", .str "a"]) n3
    have g3 : GV K 1 M _ (.ref p3) := GV.tup (n := 0) (xs := [.str "&", .str "a"]) t2 n3 (all_cons (GV.str (x := "&") (by decide +kernel)) (all_cons (GV.str (x := "a") (by decide +kernel)) all_nil)) (Nat.le_of_ble_eq_true rfl)
    have a3 := a2.trans s3
    have t3 := t2.same s3
    refine ⟨(by show 3 ≤ sizeLine; decide), fun p4 n4 => ?_⟩
    have s4 := same_upd (o := .tup [.str "|", .str "a", .str "z"]) n4
    have g4 : GV K 1 M _ (.ref p4) := GV.tup (n := 0) (xs := [.str "|", .str "a", .str "z"]) t3 n4 (all_cons (GV.str (x := "|") (by decide +kernel)) (all_cons (GV.str (x := "a") (by decide +kernel)) (all_cons (GV.str (x := "z") (by decide +kernel)) all_nil))) (Nat.le_of_ble_eq_true rfl)
    have a4 := a3.trans s4
    have t4 := t3.same s4
    refine ⟨(by show 3 ≤ sizeLine; decide), fun p5 n5 => ?_⟩
    have s5 := same_upd (o := .tup [.str "and", .str "a", .str "b"]) n5
    have g5 : GV K 1 M _ (.ref p5) := GV.tup (n := 0) (xs := [.str "and", .str "a", .str "b"]) t4 n5 (all_cons (GV.str (x := "and") (by decide +kernel)) (all_cons (GV.str (x := "a") (by decide +kernel)) (all_cons (GV.str (x := "b") (by decide +kernel)) all_nil))) (Nat.le_of_ble_eq_true rfl)
    have a5 := a4.trans s5
    have t5 := t4.same s5
    refine ⟨(by show 3 ≤ sizeLine; decide), fun p6 n6 => ?_⟩
    have s6 := same_upd (o := .lst [.str "&", .str "a", .str "b"]) n6
    have g6 : GV K 1 M _ (.ref p6) := GV.lst (n := 0) (xs := [.str "&", .str "a", .str "b"]) t5 n6 (all_cons (GV.str (x := "&") (by decide +kernel)) (all_cons (GV.str (x := "a") (by decide +kernel)) (all_cons (GV.str (x := "b") (by decide +kernel)) all_nil))) (Nat.le_of_ble_eq_true rfl)
    have a6 := a5.trans s6
    have t6 := t5.same s6
    refine ⟨(by show 12 ≤ sizeLine; decide), fun l1 nl1 => ?_⟩
    have s7 := same_upd (o := .lst [.non, .int 3, .str "", .str "i", .str "A", .str "ab", .ref p1, .ref p2, .ref p3, .ref p4, .ref p5, .ref p6]) nl1
    have a7 := a6.trans s7
    have t7 := t6.same s7
    refine ⟨_, rfl, ?_⟩
    refine ⟨(by show 3 ≤ sizeLine; decide), fun p8 n8 => ?_⟩
    have s8 := same_upd (o := .tup [.str "&", .str "a", .non]) n8
    have g8 : GV K 1 M _ (.ref p8) := GV.tup (n := 0) (xs := [.str "&", .str "a", .non]) t7 n8 (all_cons (GV.str (x := "&") (by decide +kernel)) (all_cons (GV.str (x := "a") (by decide +kernel)) (all_cons GV.non all_nil))) (Nat.le_of_ble_eq_true rfl)
    have a8 := a7.trans s8
    have t8 := t7.same s8
    refine ⟨_, rfl, ?_⟩
    refine ⟨(by show 2 ≤ sizeLine; decide), fun p9 n9 => ?_⟩
    have s9 := same_upd (o := .tup [.str "a", .str "b"]) n9
    have g9 : GV K 1 M _ (.ref p9) := GV.tup (n := 0) (xs := [.str "a", .str "b"]) t8 n9 (all_cons (GV.str (x := "a") (by decide +kernel)) (all_cons (GV.str (x := "b") (by decide +kernel)) all_nil)) (Nat.le_of_ble_eq_true rfl)
    have a9 := a8.trans s9
    have t9 := t8.same s9
    refine ⟨(by show 3 ≤ sizeLine; decide), fun p10 n10 => ?_⟩
    have s10 := same_upd (o := .tup [.str "&", v, .ref p9]) n10
    have g10 : GV K 6 M _ (.ref p10) := GV.tup (n := 5) (xs := [.str "&", v, .ref p9]) t9 n10 (all_cons (GV.str (x := "&") (by decide +kernel)) (all_cons (gw.same a9) (all_cons (g9.up (by decide)) all_nil))) (Nat.le_of_ble_eq_true rfl)
    have a10 := a9.trans s10
    have t10 := t9.same s10
    refine ⟨_, rfl, ?_⟩
    refine ⟨(by show 1 ≤ sizeLine; decide), fun p11 n11 => ?_⟩
    have s11 := same_upd (o := .tup [v]) n11
    have g11 : GV K 6 M _ (.ref p11) := GV.tup (n := 5) (xs := [v]) t10 n11 (all_cons (gw.same a10) all_nil) (Nat.le_of_ble_eq_true rfl)
    have a11 := a10.trans s11
    have t11 := t10.same s11
    refine ⟨(by show 2 ≤ sizeLine; decide), fun p12 n12 => ?_⟩
    have s12 := same_upd (o := .tup [.str "|", .str "b"]) n12
    have g12 : GV K 1 M _ (.ref p12) := GV.tup (n := 0) (xs := [.str "|", .str "b"]) t11 n12 (all_cons (GV.str (x := "|") (by decide +kernel)) (all_cons (GV.str (x := "b") (by decide +kernel)) all_nil)) (Nat.le_of_ble_eq_true rfl)
    have a12 := a11.trans s12
    have t12 := t11.same s12
    refine ⟨_, rfl, ?_⟩
    refine ⟨(by show 3 ≤ sizeLine; decide), fun p13 n13 => ?_⟩
    have s13 := same_upd (o := .tup [.str "&", .ref p12, v]) n13
    have g13 : GV K 6 M _ (.ref p13) := GV.tup (n := 5) (xs := [.str "&", .ref p12, v]) t12 n13 (all_cons (GV.str (x := "&") (by decide +kernel)) (all_cons (g12.up (by decide)) (all_cons (gw.same a12) all_nil))) (Nat.le_of_ble_eq_true rfl)
    have a13 := a12.trans s13
    have t13 := t12.same s13
    refine ⟨(by show 3 ≤ sizeLine; decide), fun p14 n14 => ?_⟩
    have s14 := same_upd (o := .tup [.bl true, .str "a", .str "b"]) n14
    have g14 : GV K 1 M _ (.ref p14) := GV.tup (n := 0) (xs := [.bl true, .str "a", .str "b"]) t13 n14 (all_cons (GV.bl _) (all_cons (GV.str (x := "a") (by decide +kernel)) (all_cons (GV.str (x := "b") (by decide +kernel)) all_nil))) (Nat.le_of_ble_eq_true rfl)
    have a14 := a13.trans s14
    have t14 := t13.same s14
    refine ⟨(by show 5 ≤ sizeLine; decide), fun m0 nm0 => ?_⟩
    have s15 := same_upd (o := .lst [.ref p8, .ref p10, .ref p11, .ref p13, .ref p14]) nm0
    have a15 := a14.trans s15
    have t15 := t14.same s15
    have hp0 : _ := (s8.trans (s9.trans (s10.trans (s11.trans (s12.trans (s13.trans (s14.trans s15))))))) _ _ (upd_same (o := .lst ([.non, .int 3, .str "", .str "i", .str "A", .str "ab", .ref p1, .ref p2, .ref p3, .ref p4, .ref p5, .ref p6])))
    refine ⟨l1, m0, _, _, rfl, rfl, hp0, upd_same, le1000 (Nat.le_of_ble_eq_true rfl), fun c0 nc0 => ?_⟩
    have s16 := same_upd (o := .lst ([.non, .int 3, .str "", .str "i", .str "A", .str "ab", .ref p1, .ref p2, .ref p3, .ref p4, .ref p5, .ref p6] ++ [.ref p8, .ref p10, .ref p11, .ref p13, .ref p14])) nc0
    have a16 := a15.trans s16
    have t16 := t15.same s16
    refine ⟨_, rfl, ?_⟩
    refine ⟨(by show 1 ≤ sizeLine; decide), fun p17 n17 => ?_⟩
    have s17 := same_upd (o := .lst [.str "a"]) n17
    have g17 : GV K 1 M _ (.ref p17) := GV.lst (n := 0) (xs := [.str "a"]) t16 n17 (all_cons (GV.str (x := "a") (by decide +kernel)) all_nil) (Nat.le_of_ble_eq_true rfl)
    have a17 := a16.trans s17
    have t17 := t16.same s17
    refine ⟨_, rfl, ?_⟩
    refine ⟨(by show 3 ≤ sizeLine; decide), fun p18 n18 => ?_⟩
    have s18 := same_upd (o := .tup [.str "|", .ref p17, v]) n18
    have g18 : GV K 6 M _ (.ref p18) := GV.tup (n := 5) (xs := [.str "|", .ref p17, v]) t17 n18 (all_cons (GV.str (x := "|") (by decide +kernel)) (all_cons (g17.up (by decide)) (all_cons (gw.same a17) all_nil))) (Nat.le_of_ble_eq_true rfl)
    have a18 := a17.trans s18
    have t18 := t17.same s18
    refine ⟨_, rfl, ?_⟩
    refine ⟨(by show 3 ≤ sizeLine; decide), fun p19 n19 => ?_⟩
    have s19 := same_upd (o := .tup [.str "&", v, .str ""]) n19
    have g19 : GV K 6 M _ (.ref p19) := GV.tup (n := 5) (xs := [.str "&", v, .str ""]) t18 n19 (all_cons (GV.str (x := "&") (by decide +kernel)) (all_cons (gw.same a18) (all_cons (GV.str (x := "") (by decide +kernel)) all_nil))) (Nat.le_of_ble_eq_true rfl)
    have a19 := a18.trans s19
    have t19 := t18.same s19
    refine ⟨_, rfl, ?_⟩
    refine ⟨_, rfl, ?_⟩
    refine ⟨(by show 3 ≤ sizeLine; decide), fun p20 n20 => ?_⟩
    have s20 := same_upd (o := .tup [.str "", v, v]) n20
    have g20 : GV K 6 M _ (.ref p20) := GV.tup (n := 5) (xs := [.str "", v, v]) t19 n20 (all_cons (GV.str (x := "") (by decide +kernel)) (all_cons (gw.same a19) (all_cons (gw.same a19) all_nil))) (Nat.le_of_ble_eq_true rfl)
    have a20 := a19.trans s20
    have t20 := t19.same s20
    refine ⟨(by show 3 ≤ sizeLine; decide), fun p21 n21 => ?_⟩
    have s21 := same_upd (o := .tup [.str "&", .str "a", .str "b"]) n21
    have g21 : GV K 1 M _ (.ref p21) := GV.tup (n := 0) (xs := [.str "&", .str "a", .str "b"]) t20 n21 (all_cons (GV.str (x := "&") (by decide +kernel)) (all_cons (GV.str (x := "a") (by decide +kernel)) (all_cons (GV.str (x := "b") (by decide +kernel)) all_nil))) (Nat.le_of_ble_eq_true rfl)
    have a21 := a20.trans s21
    have t21 := t20.same s21
    refine ⟨(by show 3 ≤ sizeLine; decide), fun p22 n22 => ?_⟩
    have s22 := same_upd (o := .tup [.ref p21, .str "a", .str "b"]) n22
    have g22 : GV K 2 M _ (.ref p22) := GV.tup (n := 1) (xs := [.ref p21, .str "a", .str "b"]) t21 n22 (all_cons g21 (all_cons (GV.str (x := "a") (by decide +kernel)) (all_cons (GV.str (x := "b") (by decide +kernel)) all_nil))) (Nat.le_of_ble_eq_true rfl)
    have a22 := a21.trans s22
    have t22 := t21.same s22
    refine ⟨10, M, rfl, by decide, t22, fun H23 p23 hd23 s23 => ?_⟩
    have a23 := a22.trans s23
    have t23 := t22.same s23
    have g23 : GV K 10 M H23 p23 := ⟨_, hd23, nest_gd 10⟩
    refine ⟨(by show 5 ≤ sizeLine; decide), fun m1 nm1 => ?_⟩
    have s24 := same_upd (o := .lst [.ref p18, .ref p19, .ref p20, .ref p22, p23]) nm1
    have a24 := a23.trans s24
    have t24 := t23.same s24
    have hp1 : _ := (s17.trans (s18.trans (s19.trans (s20.trans (s21.trans (s22.trans (s23.trans s24))))))) _ _ (upd_same (o := .lst ([.non, .int 3, .str "", .str "i", .str "A", .str "ab", .ref p1, .ref p2, .ref p3, .ref p4, .ref p5, .ref p6] ++ [.ref p8, .ref p10, .ref p11, .ref p13, .ref p14])))
    refine ⟨c0, m1, _, _, rfl, rfl, hp1, upd_same, le1000 (Nat.le_of_ble_eq_true rfl), fun c1 nc1 => ?_⟩
    have s25 := same_upd (o := .lst (([.non, .int 3, .str "", .str "i", .str "A", .str "ab", .ref p1, .ref p2, .ref p3, .ref p4, .ref p5, .ref p6] ++ [.ref p8, .ref p10, .ref p11, .ref p13, .ref p14]) ++ [.ref p18, .ref p19, .ref p20, .ref p22, p23])) nc1
    have a25 := a24.trans s25
    have t25 := t24.same s25
    have z24 := s25
    have z23 := s24.trans z24
    have z22 := s23.trans z23
    have z21 := s22.trans z22
    have z20 := s21.trans z21
    have z19 := s20.trans z20
    have z18 := s19.trans z19
    have z17 := s18.trans z18
    have z16 := s17.trans z17
    have z15 := s16.trans z16
    have z14 := s15.trans z15
    have z13 := s14.trans z14
    have z12 := s13.trans z13
    have z11 := s12.trans z12
    have z10 := s11.trans z11
    have z9 := s10.trans z10
    have z8 := s9.trans z9
    have z7 := s8.trans z8
    have z6 := s7.trans z7
    have z5 := s6.trans z6
    have z4 := s5.trans z5
    have z3 := s4.trans z4
    have z2 := s3.trans z3
    have z1 := s2.trans z2
    have ga1 : ∀ y ∈ ([.non, .int 3, .str "", .str "i", .str "A", .str "ab", .ref p1, .ref p2, .ref p3, .ref p4, .ref p5, .ref p6] : List V), GV K 12 M _ y := (all_cons GV.non (all_cons (GV.int _) (all_cons (GV.str (x := "") (by decide +kernel)) (all_cons (GV.str (x := "i") (by decide +kernel)) (all_cons (GV.str (x := "A") (by decide +kernel)) (all_cons (GV.str (x := "ab") (by decide +kernel)) (all_cons ((g1.same z1).up (by decide)) (all_cons ((g2.same z2).up (by decide)) (all_cons ((g3.same z3).up (by decide)) (all_cons ((g4.same z4).up (by decide)) (all_cons ((g5.same z5).up (by decide)) (all_cons ((g6.same z6).up (by decide)) all_nil))))))))))))
    have ga2 : ∀ y ∈ ([.ref p8, .ref p10, .ref p11, .ref p13, .ref p14] : List V), GV K 12 M _ y := (all_cons ((g8.same z8).up (by decide)) (all_cons ((g10.same z10).up (by decide)) (all_cons ((g11.same z11).up (by decide)) (all_cons ((g13.same z13).up (by decide)) (all_cons ((g14.same z14).up (by decide)) all_nil)))))
    have ga3 : ∀ y ∈ ([.ref p18, .ref p19, .ref p20, .ref p22, p23] : List V), GV K 12 M _ y := (all_cons ((g18.same z18).up (by decide)) (all_cons ((g19.same z19).up (by decide)) (all_cons ((g20.same z20).up (by decide)) (all_cons ((g22.same z22).up (by decide)) (all_cons ((g23.same z23).up (by decide)) all_nil)))))
    refine ⟨_, rfl, _, rfl, a, L, c1, ns, _, rfl, hs.same a25, (hs.ne (a24.free nc1)).symm, upd_same, Nat.le_of_ble_eq_true rfl, Nat.le_of_ble_eq_true rfl, fun H' y my hs' off' => ?_⟩
    have gy := all_app (all_app ga1 ga2) ga3 y my
    obtain ⟨d, h1, h2⟩ := gy
    refine q H' y ⟨d, dp_same (SmX.at off' aM).hid d y h1, h2⟩ hs' ((SmX.of_same a25).trans (SmX.at off' (List.mem_singleton.mpr rfl)))
end
end Fv


namespace Fv
open PySem PySem.Spec PyProof.Rows L2 FvX TL
/-! ### the text of a term -/
def opS : PyData → Str
  | .str s => s
  | _ => ""
mutual
def txt : PyData → Str
  | .str s => s
  | .tuple (o :: ds) => Txt.join (" " ++ opS o ++ " ") (ptxAll ds)
  | _ => ""
def ptxAll : List PyData → List Str
  | [] => []
  | d :: ds => (if isLd d = true then txt d else "(" ++ txt d ++ ")") :: ptxAll ds
end
def ptx (d : PyData) : Str := if isLd d = true then txt d else "(" ++ txt d ++ ")"
theorem ptxAll_map : ∀ ds : List PyData, ptxAll ds = ds.map ptx
  | [] => by simp [ptxAll]
  | d :: ds => by rw [List.map_cons, ← ptxAll_map ds]; simp only [ptxAll, ptx]
theorem txt_str (s : Str) : txt (.str s) = s := by simp only [txt]
theorem txt_tup (o : Str) (ds : List PyData) : txt (.tuple (.str o :: ds)) = Txt.join (" " ++ o ++ " ") (ds.map ptx) := by
  simp only [txt, ptxAll_map, opS]
theorem isOp_inv {o : PyData} (h : isOp o = true) : o = .str "&" ∨ o = .str "|" := by
  unfold isOp at h
  simp only [List.any_cons, List.any_nil, Bool.or_false, Bool.or_eq_true] at h
  cases o with
  | str x =>
    rcases h with h | h <;> simp [PyData.eqv] at h
    · exact .inl (by rw [h])
    · exact .inr (by rw [h])
  | _ => rcases h with h | h <;> simp [PyData.eqv] at h
theorem lmeas_inv {n : Nat} {d : PyData} (h : 1 ≤ lmeas (n + 1) d) : (∃ x, d = .str x ∧ isL x = true) ∨
    (∃ o ds, d = .tuple (.str o :: ds) ∧ isLd d = false ∧ (o = "&" ∨ o = "|") ∧ 2 ≤ ds.length ∧ (∀ x ∈ ds, 1 ≤ lmeas n x) ∧ lmeas (n + 1) d = (ds.map (lmeas n)).sum) := by
  by_cases a : isLd d = true
  · left
    cases d with
    | str x => exact ⟨x, rfl, a⟩
    | _ => cases a
  · right
    have e : lmeas (n + 1) d = if isCd d = true then (if (0 : Int) ∈ (parts d).map (lmeas n) then 0 else ((parts d).map (lmeas n)).sum) else 0 := by
      show (if isLd d = true then (1 : Int) else _) = _
      rw [if_neg a]
    rw [e] at h
    by_cases b : isCd d = true
    · rw [if_pos b] at h
      by_cases c : (0 : Int) ∈ (parts d).map (lmeas n)
      · rw [if_pos c] at h; omega
      · cases d with
        | tuple ds =>
          cases ds with
          | nil => cases b
          | cons o ds =>
            have b' : (decide (2 ≤ ds.length) && isOp o) = true := b
            rw [Bool.and_eq_true, decide_eq_true_eq] at b'
            have all1 : ∀ x ∈ ds, 1 ≤ lmeas n x := fun x hx => by
              have z := lmeas_nonneg n x
              rcases Int.lt_or_eq_of_le z with z | z
              · omega
              · exact absurd (List.mem_map.mpr ⟨x, hx, z.symm⟩) c
            have e' : lmeas (n + 1) (.tuple (o :: ds)) = (ds.map (lmeas n)).sum := by
              rw [e, if_pos b, if_neg c]; rfl
            rcases isOp_inv b'.2 with ho | ho <;> subst ho
            · exact ⟨_, ds, rfl, rfl, .inl rfl, b'.1, all1, e'⟩
            · exact ⟨_, ds, rfl, rfl, .inr rfl, b'.1, all1, e'⟩
        | _ => cases b
    · rw [if_neg b] at h; omega
theorem isL_len {x : Str} (h : isL x = true) : x.length = 1 := by
  unfold isL at h
  rw [Bool.and_eq_true, decide_eq_true_eq] at h
  have := h.1
  injection this with e
  omega
theorem len_app (x y : Str) : (x ++ y).length = x.length + y.length := by
  rw [len_tl, tl_append, List.length_append, ← len_tl, ← len_tl]
theorem joinL_len (S : List Nat) : ∀ (p : List Nat) (ps : List (List Nat)), (joinL S (p :: ps)).length = p.length + (ps.map (·.length)).sum + S.length * ps.length
  | p, [] => by simp [joinL]
  | p, q :: ps => by
    have e : joinL S (p :: q :: ps) = p ++ (S ++ joinL S (q :: ps)) := rfl
    rw [e, List.length_append, List.length_append, joinL_len S q ps, List.map_cons, List.sum_cons, List.length_cons, Nat.mul_add]
    omega
theorem sum_le {α : Type} {f g : α → Int} : ∀ {l : List α}, (∀ x ∈ l, f x ≤ g x) → (l.map f).sum ≤ (l.map g).sum
  | [], _ => by simp
  | x :: l, h => by
    rw [List.map_cons, List.map_cons, List.sum_cons, List.sum_cons]
    have := h x (List.mem_cons_self ..)
    have := sum_le (l := l) fun y hy => h y (List.mem_cons_of_mem _ hy)
    omega
theorem sum_lin {α : Type} {f : α → Int} : ∀ {l : List α}, (l.map fun x => 8 * f x - 5).sum = 8 * (l.map f).sum - 5 * l.length
  | [] => by simp
  | x :: l => by
    rw [List.map_cons, List.map_cons, List.sum_cons, List.sum_cons, sum_lin (l := l), List.length_cons]
    omega
theorem sum_cast {α : Type} {f : α → Nat} : ∀ {l : List α}, (((l.map f).sum : Nat) : Int) = (l.map fun x => ((f x : Nat) : Int)).sum
  | [] => by simp
  | x :: l => by
    rw [List.map_cons, List.map_cons, List.sum_cons, List.sum_cons, ← sum_cast (l := l)]
    omega
theorem sep_len {o : Str} (h : o = "&" ∨ o = "|") : ((" " : Str) ++ o ++ " ").length = 3 := by
  rcases h with h | h <;> subst h <;> decide +kernel
theorem par_len (x : Str) : (("(" : Str) ++ x ++ ")").length = x.length + 2 := by
  rw [len_app, len_app]
  have e1 : ("(" : Str).length = 1 := by decide +kernel
  have e2 : (")" : Str).length = 1 := by decide +kernel
  omega
theorem txt_len : ∀ (n : Nat) (d : PyData), 1 ≤ lmeas n d → ((txt d).length : Int) + 7 ≤ 8 * lmeas n d
  | 0, d, h => by simp only [lmeas] at h; omega
  | n + 1, d, h => by
    rcases lmeas_inv h with ⟨x, rfl, hx⟩ | ⟨o, ds, rfl, _, ho, h2, all1, e⟩
    · rw [txt_str, isL_len hx]
      omega
    · rw [txt_tup, join_eq, len_tl, tl_join, e]
      have hp : (((((ds.map ptx).map tl).map (·.length)).sum : Nat) : Int) ≤ 8 * (ds.map (lmeas n)).sum - 5 * ds.length := by
        rw [← sum_lin, List.map_map, List.map_map, sum_cast]
        refine sum_le fun x hx => ?_
        have := txt_len n x (all1 x hx)
        show (((tl (ptx x)).length : Nat) : Int) ≤ _
        rw [← len_tl]
        unfold ptx
        split
        · omega
        · rw [par_len]; omega
      cases ds with
      | nil => simp at h2
      | cons x r =>
        rw [List.map_cons, List.map_cons] at hp ⊢
        rw [joinL_len, ← len_tl (" " ++ o ++ " "), sep_len ho, List.length_map, List.length_map]
        rw [List.map_cons, List.sum_cons] at hp
        rw [List.length_cons] at h2 hp
        omega
theorem ptx_len {n : Nat} {d : PyData} (h : 1 ≤ lmeas n d) : ((ptx d).length : Int) + 5 ≤ 8 * lmeas n d := by
  have := txt_len n d h
  unfold ptx
  split
  · omega
  · rw [par_len]; omega
def spText (K : PySem.W.Frag) (n : Nat) : Sp := fun vs H Q _ => ∃ (v : V) (d : PyData) (m : Nat), vs = [v] ∧ Dp K H v d ∧ gd 20 d = true ∧ m < n ∧ 1 ≤ lmeas m d ∧ lmeas m d ≤ 1000 ∧ ∀ H', Same H H' → Q (.str (txt d)) H'
def spPart (K : PySem.W.Frag) (n : Nat) : Sp := fun vs H Q _ => ∃ (v : V) (d : PyData) (m : Nat), vs = [v] ∧ Dp K H v d ∧ gd 20 d = true ∧ m < n ∧ 1 ≤ lmeas m d ∧ lmeas m d ≤ 1000 ∧ ∀ H', Same H H' → Q (.str (ptx d)) H'
end Fv


namespace Fv
open PySem PySem.Spec PyProof.Rows L2 FvX TL



theorem pe_isDc {X : Cx} {K : PySem.W.Frag} {e : Expr} {te : TE} {T : String} {y : Str} {p p2 pos : Pos} (hK : X.K = K) (hg : Gl X "isinstance") (hm : X.mg "isinstance" = none) (hg2 : Gl X y) (hm2 : X.mg y = none) (ha : PE X e te)
    (hv : bootBuiltins y = some (.type T) := by decide +kernel) (hn : y ≠ "__name__" := by decide) (hd2 : (y == ("__debug__" : Str)) = false := by decide)
    (he : starEach (e :: [.Name y p2]) X.env = (false, eval e X.env) :: starEach [.Name y p2] X.env := by rfl) (hpl : (backTo pos (starEach [.Name y p2] X.env)).any (·.1) = false := by rfl) :
    PE X (.Call (.Name "isinstance" p) [e, .Name y p2] [] pos) (tCB (rIsD K) (tCons te (tCons (tC (.ty T)) tNil))) := by
  subst hK
  exact pe_isD hg hm hg2 hm2 ha hv hn hd2 he hpl
theorem one_len : (" " : Str).length = 1 := by decide +kernel
theorem op_len {o : Str} (h : o = "&" ∨ o = "|") : o.length = 1 := by rcases h with h | h <;> subst h <;> decide +kernel
theorem small_len {x : Str} {n : Nat} (h : x.length ≤ n) (hn : n ≤ 100000) : x.length ≤ sizeLine := Nat.le_trans h (Nat.le_trans hn (by decide))
theorem emp_app (x : Str) : Str.empty ++ x = x := ext_tl (by rw [tl_append]; rfl)
theorem sum_ptx {m : Nat} {ds : List PyData} (all1 : ∀ x ∈ ds, 1 ≤ lmeas m x) (h : (ds.map (lmeas m)).sum ≤ 1000) : ((ds.map ptx).map (·.length)).sum ≤ 8000 := by
  have hp : ((((ds.map ptx).map (·.length)).sum : Nat) : Int) ≤ 8 * (ds.map (lmeas m)).sum - 5 * ds.length := by
    rw [← sum_lin, List.map_map, sum_cast]
    refine sum_le fun x hx => ?_
    have := ptx_len (all1 x hx)
    show (((ptx x).length : Nat) : Int) ≤ _
    omega
  omega
theorem part_le {m : Nat} {ds : List PyData} {x : PyData} (hx : x ∈ ds) (h : (ds.map (lmeas m)).sum ≤ 1000) : lmeas m x ≤ 1000 := by
  have := mem_le_sum (l := ds.map (lmeas m)) (x := lmeas m x) (fun y hy => by
    obtain ⟨d', _, rfl⟩ := List.mem_map.mp hy
    exact lmeas_nonneg m d') (List.mem_map.mpr ⟨x, hx, rfl⟩)
  omega
section
variable {P : Program} {w : World} {K : PySem.W.Frag} {mg : Str → Option Value} {base : Heap}
theorem text_zero {f : Addr} {fd : FuncData} {k : Nat} {ps : List Str} : FnOk P w K mg base CX0 k f fd ps (spText K 0) := by
  have no : ∀ vs H Q E, ¬ spText K 0 vs H Q E := fun vs H Q E h => by
    obtain ⟨v, d, m, _, _, _, m1, _⟩ := h
    omega
  exact ⟨fun vs H Q E h => absurd h (no vs H Q E), fun A outer s H args us vs Q E _ _ _ _ h => absurd h (no vs H Q E)⟩
theorem part_zero {f : Addr} {fd : FuncData} {k : Nat} {ps : List Str} : FnOk P w K mg base CX0 k f fd ps (spPart K 0) := by
  have no : ∀ vs H Q E, ¬ spPart K 0 vs H Q E := fun vs H Q E h => by
    obtain ⟨v, d, m, _, _, _, m1, _⟩ := h
    omega
  exact ⟨fun vs H Q E h => absurd h (no vs H Q E), fun A outer s H args us vs Q E _ _ _ _ h => absurd h (no vs H Q E)⟩
theorem isLd_str {m : Nat} {x : Str} (h : 1 ≤ lmeas m (.str x)) : isL x = true := by
  cases m with
  | zero => simp only [lmeas] at h; omega
  | succ m =>
    rcases lmeas_inv h with ⟨y, e, hy⟩ | ⟨o, ds, e, _⟩
    · cases e; exact hy
    · cases e
end
end Fv


namespace Fv
open PySem PySem.Spec PyProof.Rows L2 FvX TL
/-! ### reading, as the program reads: a mirror over code points -/
/-- k signs from at on -/
def sub (T : List Nat) (at' k : Nat) : Str := ⟨((T.drop at').take k).toArray⟩
theorem tl_sub (T : List Nat) (a k : Nat) : tl (sub T a k) = (T.drop a).take k := rfl
theorem cut_sub (z : Str) (a k : Nat) : cutS z (some (a : Int)) (some ((a : Int) + (k : Nat))) = sub (tl z) a k := by
  refine ext_tl ?_
  have e : ((a : Int) + (k : Nat)) = ((a + k : Nat) : Int) := by omega
  rw [tl_sub, e]
  show ((z.cps.toList.drop (HT.sIx z.length 0 (some (a : Int)))).take (HT.sIx z.length z.length (some ((a + k : Nat) : Int)) - HT.sIx z.length 0 (some (a : Int)))) = _
  rw [HT.sIx_nat, HT.sIx_nat]
  have hl : z.length = (tl z).length := len_tl z
  have hl2 : z.length = z.cps.toList.length := len_tl z
  by_cases h : a ≤ z.length
  · rw [Nat.min_eq_left h]
    by_cases h2 : a + k ≤ z.length
    · rw [Nat.min_eq_left h2, Nat.add_sub_cancel_left]
    · rw [Nat.min_eq_right (by omega), List.take_of_length_le (by rw [List.length_drop]; omega), List.take_of_length_le (by rw [List.length_drop]; omega)]
  · rw [Nat.min_eq_right (by omega : z.length ≤ a), List.drop_of_length_le (by omega), List.drop_of_length_le (by omega), List.take_nil, List.take_nil]
theorem sub_len (T : List Nat) (a k : Nat) : (sub T a k).length ≤ k := by
  rw [len_tl, tl_sub, List.length_take]; omega
theorem sub_in {T : List Nat} {a k n : Nat} (h : (sub T a k).length = n) (hn : 0 < n) : a + n ≤ T.length := by
  rw [len_tl, tl_sub, List.length_take, List.length_drop] at h
  omega
def rdL (P : Nat → Option (PyData × Nat)) (T : List Nat) (sg : Str) : Nat → Nat → List PyData → Option (List PyData × Nat)
  | 0, _, _ => none
  | f + 1, a, acc => if sub T a 3 = sg then (match P (a + 3) with
    | none => none
    | some (d, e) => rdL P T sg f e (acc ++ [d])) else some (acc, a)
def sgn (s : Str) : Str := if s = " & " then "&" else "|"
def isSg (s : Str) : Prop := s = " & " ∨ s = " | "
instance (s : Str) : Decidable (isSg s) := inferInstanceAs (Decidable (_ ∨ _))
def rdT (P : Nat → Option (PyData × Nat)) (T : List Nat) (a : Nat) : Option (PyData × Nat) := match P a with
  | none => none
  | some (d, e) => if isSg (sub T e 3) then (match rdL P T (sub T e 3) (T.length + 1 - e) e [d] with
      | none => none
      | some (ds, e') => some (.tuple (.str (sgn (sub T e 3)) :: ds), e')) else if isLd d = true then some (d, e) else none
def rdP (T : List Nat) : Nat → Nat → Option (PyData × Nat)
  | 0 => fun a => if isL (sub T a 1) = true then some (.str (sub T a 1), a + 1) else none
  | n + 1 => fun a => if isL (sub T a 1) = true then some (.str (sub T a 1), a + 1) else if sub T a 1 = "(" then (match rdT (rdP T n) T (a + 1) with
      | none => none
      | some (d, e) => if isLd d = true ∨ sub T e 1 ≠ ")" then none else some (d, e + 1)) else none
theorem isL_one {x : Str} (h : isL x = true) : x ∈ (["a", "b", "c", "d", "e", "f", "g", "h"] : List Str) := by
  have hl := isL_len h
  rw [len_tl] at hl
  obtain ⟨c, ec⟩ : ∃ c, tl x = [c] := by
    match tl x, hl with
    | [c], _ => exact ⟨c, rfl⟩
  have ex : x = ⟨#[c]⟩ := ext_tl (by rw [ec])
  subst ex
  unfold isL at h
  rw [Bool.and_eq_true] at h
  have h2 := h.2
  rw [PySem.StrLaws.found_one, decide_eq_true_eq] at h2
  have e : ("abcdefgh" : Str).cps.toList = [97, 98, 99, 100, 101, 102, 103, 104] := by decide +kernel
  rw [e] at h2
  have all : ∀ c ∈ ([97, 98, 99, 100, 101, 102, 103, 104] : List Nat), (⟨#[c]⟩ : Str) ∈ (["a", "b", "c", "d", "e", "f", "g", "h"] : List Str) := by decide +kernel
  exact all c h2
theorem isL_gd {x : Str} (h : isL x = true) (n : Nat) : gd n (.str x) = true := gd_le (isL_lett (isL_one h)).2 (Nat.zero_le _)
theorem sg_len {s : Str} (h : isSg s) : s.length = 3 := by rcases h with h | h <;> rw [h] <;> decide +kernel
/-- what a reading of parts promises -/
def PFine (T : List Nat) (n : Nat) (P : Nat → Option (PyData × Nat)) : Prop := ∀ a d e, P a = some (d, e) → a < e ∧ e ≤ T.length ∧ gd n d = true
theorem rdL_fine {T : List Nat} {n : Nat} {P : Nat → Option (PyData × Nat)} (hP : PFine T n P) {sg : Str} (hs : sg.length = 3) : ∀ (f a : Nat) (acc ds : List PyData) (e : Nat), rdL P T sg f a acc = some (ds, e) →
    (∀ d ∈ acc, gd n d = true) → 4 * acc.length ≤ a + 3 → a ≤ T.length → (∀ d ∈ ds, gd n d = true) ∧ 4 * ds.length ≤ e + 3 ∧ a ≤ e ∧ e ≤ T.length
  | 0, a, acc, ds, e, h, _, _, _ => by cases h
  | f + 1, a, acc, ds, e, h, hg, hl, ha => by
    unfold rdL at h
    by_cases c : sub T a 3 = sg
    · rw [if_pos c] at h
      cases hp : P (a + 3) with
      | none => rw [hp] at h; cases h
      | some r =>
        obtain ⟨d, e1⟩ := r
        rw [hp] at h
        obtain ⟨h1, h2, h3⟩ := hP _ _ _ hp
        have z := rdL_fine hP hs f e1 (acc ++ [d]) ds e h (fun x hx => by
          rcases List.mem_append.mp hx with q | q
          · exact hg x q
          · rw [List.mem_singleton.mp q]; exact h3) (by rw [List.length_append, List.length_singleton]; omega) h2
        exact ⟨z.1, z.2.1, by omega, z.2.2.2⟩
    · rw [if_neg c] at h
      cases h
      exact ⟨hg, hl, Nat.le_refl _, ha⟩
theorem rdT_fine {T : List Nat} {n : Nat} {P : Nat → Option (PyData × Nat)} (hT : T.length ≤ 2900) (hP : PFine T n P) : PFine T (n + 1) (rdT P T) := by
  intro a d e h
  unfold rdT at h
  cases hp : P a with
  | none => rw [hp] at h; cases h
  | some r =>
    obtain ⟨d1, e1⟩ := r
    rw [hp] at h
    obtain ⟨h1, h2, h3⟩ := hP _ _ _ hp
    dsimp only at h
    by_cases c : isSg (sub T e1 3)
    · rw [if_pos c] at h
      cases hr : rdL P T (sub T e1 3) (T.length + 1 - e1) e1 [d1] with
      | none => rw [hr] at h; cases h
      | some r =>
        obtain ⟨ds, e2⟩ := r
        rw [hr] at h
        cases h
        obtain ⟨z1, z2, z3, z4⟩ := rdL_fine hP (sg_len c) _ _ _ _ _ hr (fun x hx => by rw [List.mem_singleton.mp hx]; exact h3) (by rw [List.length_singleton]; omega) h2
        refine ⟨by omega, z4, gd_tup (fun x hx => ?_) (by rw [List.length_cons]; omega)⟩
        rcases List.mem_cons.mp hx with q | q
        · rw [q]
          refine gd_le (n := 0) ?_ (Nat.zero_le _)
          unfold sgn
          split <;> decide +kernel
        · exact z1 x q
    · rw [if_neg c] at h
      by_cases c2 : isLd d1 = true
      · rw [if_pos c2] at h
        cases h
        exact ⟨h1, h2, gd_up _ _ h3⟩
      · rw [if_neg c2] at h; cases h
theorem rdP_fine {T : List Nat} (hT : T.length ≤ 2900) : ∀ n : Nat, PFine T n (rdP T n)
  | 0 => fun a d e h => by
    unfold rdP at h
    by_cases c : isL (sub T a 1) = true
    · rw [if_pos c] at h
      cases h
      exact ⟨by omega, sub_in (isL_len c) (by decide), isL_gd c _⟩
    · rw [if_neg c] at h; cases h
  | n + 1 => fun a d e h => by
    unfold rdP at h
    by_cases c : isL (sub T a 1) = true
    · rw [if_pos c] at h
      cases h
      exact ⟨by omega, sub_in (isL_len c) (by decide), isL_gd c _⟩
    · rw [if_neg c] at h
      by_cases c2 : sub T a 1 = "("
      · rw [if_pos c2] at h
        cases hr : rdT (rdP T n) T (a + 1) with
        | none => rw [hr] at h; cases h
        | some r =>
          obtain ⟨d1, e1⟩ := r
          rw [hr] at h
          dsimp only at h
          obtain ⟨h1, h2, h3⟩ := rdT_fine hT (rdP_fine hT n) _ _ _ hr
          by_cases c3 : isLd d1 = true ∨ sub T e1 1 ≠ ")"
          · rw [if_pos c3] at h; cases h
          · rw [if_neg c3] at h
            cases h
            have c4 : sub T e1 1 = ")" := Classical.not_not.mp fun z => c3 (.inr z)
            exact ⟨by omega, sub_in (by rw [c4]; decide +kernel) (by decide), h3⟩
      · rw [if_neg c2] at h; cases h
theorem sub_ok {x : Str} (h : PyData.strOk x = true) (a k : Nat) : PyData.strOk (sub (tl x) a k) = true := by
  unfold PyData.strOk at h ⊢
  rw [← Array.all_toList, List.all_eq_true] at h ⊢
  intro c hc
  exact h c (List.mem_of_mem_drop (List.mem_of_mem_take hc))
theorem sub_gd {x : Str} (h : PyData.strOk x = true) (a k : Nat) (hk : k ≤ 3) (n : Nat) : gd n (.str (sub (tl x) a k)) = true := by
  refine gd_le (n := 0) ?_ (Nat.zero_le _)
  have := sub_len (tl x) a k
  show (PyData.strOk (sub (tl x) a k) && decide ((sub (tl x) a k).length ≤ 100000)) = true
  rw [sub_ok h, decide_eq_true (by omega)]
  rfl
theorem cut1 (z : Str) (a : Nat) : cutS z (some (a : Int)) (some ((a : Int) + 1)) = sub (tl z) a 1 := cut_sub z a 1
theorem cut3 (z : Str) (a : Nat) : cutS z (some (a : Int)) (some ((a : Int) + 3)) = sub (tl z) a 3 := cut_sub z a 3
theorem sub_one {T : List Nat} {a : Nat} (h : (sub T a 1).length = 1) : ∃ c, T[a]? = some c ∧ sub T a 1 = ⟨#[c]⟩ := by
  have hl := sub_in h (by decide)
  refine ⟨T[a], List.getElem?_eq_getElem (by omega), ext_tl ?_⟩
  rw [tl_sub, List.drop_eq_getElem_cons (by omega)]
  rfl
def outR (K : PySem.W.Frag) (CT : Addr) (M : List Addr) (r : Option (PyData × Nat)) (H : Hp) (Q : VK) (E : XK) : Prop :=
  (∀ d e, r = some (d, e) → ∀ (H' : Hp) (p : Addr) (v : V), Same H H' → H' p = some (.tup [v, .int (e : Nat)]) → Dp K (hide M H') v d → Q (.ref p) H') ∧ (r = none → errAt CT "InvalidText" H E)
def spRdP (K : PySem.W.Frag) (CT : Addr) (n : Nat) : Sp := fun vs H Q E => ∃ (x : Str) (a m : Nat) (M : List Addr), vs = [.str x, .int (a : Nat), .int (m : Nat)] ∧ x.length ≤ 2900 ∧ PyData.strOk x = true ∧ m < n ∧ Trk M H ∧ outR K CT M (rdP (tl x) m a) H Q E
def spRdT (K : PySem.W.Frag) (CT : Addr) (n : Nat) : Sp := fun vs H Q E => ∃ (x : Str) (a m : Nat) (M : List Addr), vs = [.str x, .int (a : Nat), .int (m : Nat)] ∧ x.length ≤ 2900 ∧ PyData.strOk x = true ∧ m < n ∧ Trk M H ∧ outR K CT M (rdT (rdP (tl x) m) (tl x) a) H Q E
theorem vs3 {x : Str} {i j : Int} {a m : Nat} (h : i = (a : Nat)) (g : j = (m : Nat)) : [V.str x, V.int i, V.int j] = [.str x, .int (a : Nat), .int (m : Nat)] := by rw [h, g]
end Fv


namespace Fv
open PySem PySem.Spec PyProof.Rows L2 FvX TL

section
variable {P : Program} {w : World} {K : PySem.W.Frag} {mg : Str → Option Value} {base : Heap} {CT fI oS : Addr} {qual msg : Str} {q : ErrPos} {j1 j2 : Nat}
theorem fit900 {x : Str} (h : x.length ≤ 2900) : x.length ≤ sizeLine := Nat.le_trans h (by decide)
theorem rdT_zero {f : Addr} {fd : FuncData} {k : Nat} {ps : List Str} : FnOk P w K mg base (L2.CX P w) k f fd ps (spRdT K CT 0) := by
  have no : ∀ vs H Q E, ¬ spRdT K CT 0 vs H Q E := fun vs H Q E h => by
    obtain ⟨x, a, m, M, _, _, _, h, _⟩ := h
    omega
  exact ⟨fun vs H Q E h => absurd h (no vs H Q E), fun A outer s H args us vs Q E _ _ _ _ h => absurd h (no vs H Q E)⟩
end
end Fv


namespace Fv
open PySem PySem.Spec PyProof.Rows L2 FvX TL

def WR (K : PySem.W.Frag) (x : Str) (m : Nat) (v : V) (sg : Str) (L : Addr) (M : List Addr) (H : Hp) (R : Option (List PyData × Nat)) : Nat → L2.St → Hp → Prop := fun f σ H1 => ∃ (a : Nat) (acc : List PyData) (vs : List V) (y6 : Option V),
  σ = [some (.str x), some (.int (a : Nat)), some (.int (m : Nat)), some v, some (.str sg), some (.ref L), y6] ∧ H1 L = some (.lst vs) ∧ DpAll K (hide (L :: M) H1) vs acc ∧ 4 * acc.length ≤ a + 3 ∧ a ≤ x.length ∧ x.length + 1 - a ≤ f ∧
  rdL (rdP (tl x) m) (tl x) sg f a acc = R ∧ Same H H1
theorem in_sg (s : Str) : (!([PyData.str " & ", .str " | "] : List PyData).any fun z => PyData.eqv z (.str s)) = !decide (isSg s) := by
  congr 1
  simp only [List.any_cons, List.any_nil, Bool.or_false, PyData.eqv]
  rw [Bool.eq_iff_iff, decide_eq_true_eq, Bool.or_eq_true, beq_iff_eq, beq_iff_eq]
  exact ⟨fun h => h.imp Eq.symm Eq.symm, fun h => h.imp Eq.symm Eq.symm⟩
theorem sg_at {s : Str} (h : isSg s) : ∃ c, (tl s)[1]? = some c ∧ (⟨#[c]⟩ : Str) = sgn s := by
  rcases h with h | h <;> subst h
  · exact ⟨38, by decide +kernel, by decide +kernel⟩
  · exact ⟨124, by decide +kernel, by decide +kernel⟩
section
variable {P : Program} {w : World} {K : PySem.W.Frag} {mg : Str → Option Value} {base : Heap} {CT fI oS : Addr} {qual msg : Str} {q : ErrPos} {j1 j2 : Nat}
end
end Fv


namespace Fv
open PySem PySem.Spec PyProof.Rows L2 FvX TL

-- top 13  slots: 0:value 1:found
abbrev s_measured_long : Stmt := topS 13
abbrev N_measured_long : List Str := ["value", "found"]
theorem sc_measured_long : FnScope N_measured_long ["value"] (defScope s_measured_long) := ⟨rfl, rfl, rfl, by decide +kernel, rfl, by decide +kernel, by decide +kernel⟩


/-- what parse_term makes of a text -/
def prs (x : Str) : Option PyData := match rdT (rdP (tl x) 5) (tl x) 0 with
  | none => none
  | some (d, e) => if e < x.length ∨ tmB d = false then none else some d
def spParse (K : PySem.W.Frag) (CT : Addr) : Sp := fun vs H Q E => ∃ (x : Str) (M : List Addr), vs = [.str x] ∧ x.length ≤ 2900 ∧ PyData.strOk x = true ∧ Trk M H ∧
  (∀ d, prs x = some d → ∀ (H' : Hp) (v : V), Same H H' → Dp K (hide M H') v d → Q v H') ∧ (prs x = none → errAt CT "InvalidText" H E)
def spLong (K : PySem.W.Frag) (CT : Addr) : Sp := fun vs H Q E => ∃ (v : V) (d : PyData), vs = [v] ∧ Dp K H v d ∧ gd 20 d = true ∧
  (∀ dp sz, meas 9 d 600 = some (dp, sz) → ∀ (H' : Hp) (p : Addr), Same H H' → H' p = some (.tup [.int dp, .int sz]) → Q (.ref p) H') ∧ (meas 9 d 600 = none → errAt CT "InvalidTerm" H E)
def spFormat (K : PySem.W.Frag) (CT : Addr) : Sp := fun vs H Q E => ∃ (v : V) (d : PyData), vs = [v] ∧ Dp K H v d ∧ gd 20 d = true ∧
  ((meas 9 d 600).isSome = true → ∀ H', Same H H' → Q (.str (txt d)) H') ∧ (meas 9 d 600 = none → errAt CT "InvalidTerm" H E)
section
variable {P : Program} {w : World} {K : PySem.W.Frag} {mg : Str → Option Value} {base : Heap} {CT fI oS : Addr} {qual msg : Str} {q : ErrPos} {j1 j2 : Nat}
theorem ok_measured_long {f : Addr} {fd : FuncData} {k : Nat} (F : Fun K "measured_long" "measured_long" s_measured_long f fd) {t9 t6 : Tok} (g_LONG_DEPTH : mg "LONG_DEPTH" = some (.int 9 t9)) (g_LONG_SIZE : mg "LONG_SIZE" = some (.int 600 t6)) (hk : 1 ≤ k) (T_IT : ErrC P.main.file K CT fI qual q msg "InvalidTerm" j1 j2) (hline : LineOk q msg j1) (htop : (P.main.scope.names.lookup ("super" : Str)).isSome = false) (m_super : mg "super" = none) (g_IT : mg "InvalidTerm" = some (.ref CT))
    (C_measured : Own P w K mg base k "measured" ["value", "max_depth", "max_size"] (spMeas K 20)) :
    FnOk P w K mg base (L2.CX P w) (k + 1) f fd ["value"] (spLong K CT) := by
  refine F.okX sc_measured_long (fun vs H Q E h => ?_) (fun cdv A outer s H vs Q E hr h => ?_)
  · obtain ⟨v, d, rfl, _⟩ := h
    rfl
  · obtain ⟨v, d, rfl, hd, hg, o1, o2⟩ := h
    refine ⟨_, (pss_cons (ps_set (i := 1) sc_measured_long.nd rfl (by first | exact .inl rfl | exact .inr rfl) (pe_own C_measured (hr.mono (by omega)) (by rfl) (pa_cons (pv 0) (pa_cons (pe_glob (v := .int 9) (by rfl) g_LONG_DEPTH (⟨_, rfl⟩)) (pa_cons (pe_glob (v := .int 600) (by rfl) g_LONG_SIZE (⟨_, rfl⟩)) pa_nil)))))
      (pss_cons (ps_if (pt_cmpR op_isN (pv 1) pe_non (nomark _))
        (pss_one (ps_raise rfl (takes_of rfl rfl rfl rfl) (pmk_err0 (k := 0) T_IT hline htop m_super (hr.mono (by omega)) (by rfl) g_IT)))
        pss_nil)
      (pss_one (ps_ret (pv 1))))), ?_⟩
    refine ⟨_, rfl, v, d, 9, 600, rfl, hd, hg, by decide, by decide, fun e H' s' => ?_, fun dp sz e H' p s' hp => ?_⟩
    · refine ⟨_, rfl, rfl, _, rfl, iteT fun dd nd => ?_⟩
      exact o2 e _ dd (s'.trans (same_upd nd)) upd_same
    · exact ⟨_, rfl, rfl, _, rfl, iteF ⟨_, rfl, o1 dp sz e H' p s' hp⟩⟩
end
end Fv


namespace Fv
open PySem PySem.Spec PyProof.Rows L2 FvX TL
/-! ### values with their data; odd values -/
def GE (K : PySem.W.Frag) (n : Nat) (M : List Addr) (H : Hp) (v : V) (d : PyData) : Prop := Dp K (hide M H) v d ∧ gd n d = true
def GVN (K : PySem.W.Frag) (M : List Addr) (H : Hp) (v : V) : Prop := ∃ d, Dp K (hide M H) v d ∧ gd 12 d = true ∧ lmeas 9 d = 0
inductive GEs (K : PySem.W.Frag) (n : Nat) (M : List Addr) (H : Hp) : List V → List PyData → Prop where
  | nil : GEs K n M H [] []
  | cons {v d vs ds} (h : GE K n M H v d) (t : GEs K n M H vs ds) : GEs K n M H (v :: vs) (d :: ds)
section
variable {K : PySem.W.Frag} {n m : Nat} {M : List Addr} {H H' : Hp} {v : V} {d : PyData}
theorem GE.same (g : GE K n M H v d) (s : Same H H') : GE K n M H' v d := ⟨dp_same (SmX.of_same s).hid d v g.1, g.2⟩
theorem GE.up (g : GE K n M H v d) (h : n ≤ m) : GE K m M H v d := ⟨g.1, gd_le g.2 h⟩
theorem GE.str {x : Str} (h : gd 0 (.str x) = true) : GE K n M H (.str x) (.str x) := ⟨.str x, gd_le h (Nat.zero_le _)⟩
theorem GE.int (i : Int) : GE K n M H (.int i) (.int i) := ⟨.int i, gd_le (n := 0) rfl (Nat.zero_le _)⟩
theorem GE.bl (b : Bool) : GE K n M H (.bl b) (.bool b) := ⟨.bl b, gd_le (n := 0) rfl (Nat.zero_le _)⟩
theorem GE.non : GE K n M H .non .none := ⟨.non, gd_le (n := 0) rfl (Nat.zero_le _)⟩
theorem ges_all : ∀ {xs : List V} {ds : List PyData}, GEs K n M H xs ds → DpAll K (hide M H) xs ds ∧ ∀ d ∈ ds, gd n d = true
  | _, _, .nil => ⟨.nil, fun d h => nomatch h⟩
  | _, _, .cons h t => by
    obtain ⟨h1, h2⟩ := ges_all t
    refine ⟨.cons h.1 h1, fun e he => ?_⟩
    rcases List.mem_cons.mp he with z | z
    · rw [z]; exact h.2
    · exact h2 e z
theorem GE.tup {p : Addr} {xs : List V} {ds : List PyData} (hM : Trk M H) (np : H p = none) (h : GEs K n M H xs ds) (hl : xs.length ≤ 1000) : GE K (n + 1) M (upd H p (.tup xs)) (.ref p) (.tuple ds) := by
  obtain ⟨h1, h2⟩ := ges_all h
  exact ⟨.tup (SqT.of (hid_at hM np)) (dpAll_same (hid_new np) _ _ h1), gd_tup h2 (by rw [← dpAll_len h1]; exact hl)⟩
theorem GE.lst {p : Addr} {xs : List V} {ds : List PyData} (hM : Trk M H) (np : H p = none) (h : GEs K n M H xs ds) (hl : xs.length ≤ 1000) : GE K (n + 1) M (upd H p (.lst xs)) (.ref p) (.list ds) := by
  obtain ⟨h1, h2⟩ := ges_all h
  exact ⟨.lst (SqL.of (hid_at hM np)) (dpAll_same (hid_new np) _ _ h1), gd_lst h2 (by rw [← dpAll_len h1]; exact hl)⟩
theorem GVN.of (g : GE K n M H v d) (h : n ≤ 12) (z : lmeas 9 d = 0) : GVN K M H v := ⟨d, g.1, gd_le g.2 h, z⟩
end
theorem zp {o x : PyData} {ds : List PyData} (hx : x ∈ ds) (h : lmeas 8 x = 0) : lmeas 9 (.tuple (o :: ds)) = 0 := by
  have e : lmeas 9 (.tuple (o :: ds)) = if isCd (.tuple (o :: ds)) = true then (if (0 : Int) ∈ ds.map (lmeas 8) then 0 else (ds.map (lmeas 8)).sum) else 0 := by
    show (if isLd (.tuple (o :: ds)) = true then (1 : Int) else _) = _
    rw [if_neg (fun z => by cases z)]
    rfl
  rw [e, if_pos (List.mem_map.mpr ⟨x, hx, h⟩)]
  split <;> rfl
theorem zo {o : PyData} {ds : List PyData} (h : isOp o = false) : lmeas 9 (.tuple (o :: ds)) = 0 := by
  have e : lmeas 9 (.tuple (o :: ds)) = if isCd (.tuple (o :: ds)) = true then (if (0 : Int) ∈ ds.map (lmeas 8) then 0 else (ds.map (lmeas 8)).sum) else 0 := by
    show (if isLd (.tuple (o :: ds)) = true then (1 : Int) else _) = _
    rw [if_neg (fun z => by cases z)]
    rfl
  have e2 : isCd (.tuple (o :: ds)) = (decide (2 ≤ ds.length) && isOp o) := rfl
  rw [e, e2, h, Bool.and_false, if_neg (fun z => by cases z)]
def spOddN (K : PySem.W.Frag) : Sp := fun vs H Q _ => ∃ (a L : Addr) (ns : List Int) (v : V) (M : List Addr), vs = [.ref a, v] ∧ Src H a L ns ∧ GV K 9 M H v ∧ a ∈ M ∧ Trk M H ∧
  ∀ (H' : Hp) (v' : V), GVN K M H' v' → Src H' a L ns → SmX [a] H H' → Q v' H'
end Fv


namespace Fv
open PySem PySem.Spec PyProof.Rows L2 FvX TL
section
variable {P : Program} {w : World} {K : PySem.W.Frag} {mg : Str → Option Value} {base : Heap}
theorem ok_oddN {f : Addr} {fd : FuncData} {k : Nat} (F : Fun K "_law_odd" "_law_odd" s_law_odd f fd) (hk : 2 ≤ k)
    (C_law_pick : Own P w K mg base 2 "_law_pick" ["_law_source_here", "_law_row"] spPick)
    (C_law_nest : Own P w K mg base 1 "_law_nest" ["_law_many"] (spNest K)) :
    FnOk P w K mg base CX0 (k + 1) f fd ["_law_source_here", "_law_word"] (spOddN K) := by
  refine F.ok sc_law_odd (fun vs H Q E h => ?_) (fun cdv A outer s H vs Q E hr h => ?_)
  · obtain ⟨a, L, ns, v, M, rfl, _⟩ := h
    rfl
  · obtain ⟨a, L, ns, v, M, rfl, hs, gw, aM, t0, q⟩ := h
    obtain ⟨dw, hw1, hw2⟩ := gw
    have gw : GE K 9 M H v dw := ⟨hw1, hw2⟩
    have a0 : Same H H := Same.refl H
    refine ⟨_, (pss_cons (ps_set (i := 2) sc_law_odd.nd rfl (by first | exact .inl rfl | exact .inr rfl) (pe_lst (pa_cons pe_non (pa_cons pe_int (pa_cons pe_str (pa_cons pe_str (pa_cons pe_str (pa_cons pe_str (pa_cons (pe_tup pa_nil) (pa_cons (pe_tup (pa_cons pe_str pa_nil)) (pa_cons (pe_tup (pa_cons pe_str (pa_cons pe_str pa_nil))) (pa_cons (pe_tup (pa_cons pe_str (pa_cons pe_str (pa_cons pe_str pa_nil)))) (pa_cons (pe_tup (pa_cons pe_str (pa_cons pe_str (pa_cons pe_str pa_nil)))) (pa_cons (pe_lst (pa_cons pe_str (pa_cons pe_str (pa_cons pe_str pa_nil)))) pa_nil))))))))))))))
      (pss_cons (ps_set (i := 2) sc_law_odd.nd rfl (by first | exact .inl rfl | exact .inr rfl) (pe_op op_cat (pv 2) (pe_lst (pa_cons (pe_tup (pa_cons pe_str (pa_cons pe_str (pa_cons pe_non pa_nil)))) (pa_cons (pe_tup (pa_cons pe_str (pa_cons (pv 1) (pa_cons (pe_tup (pa_cons pe_str (pa_cons pe_str pa_nil))) pa_nil)))) (pa_cons (pe_tup (pa_cons (pv 1) pa_nil)) (pa_cons (pe_tup (pa_cons pe_str (pa_cons (pe_tup (pa_cons pe_str (pa_cons pe_str pa_nil))) (pa_cons (pv 1) pa_nil)))) (pa_cons (pe_tup (pa_cons pe_bl (pa_cons pe_str (pa_cons pe_str pa_nil)))) pa_nil))))))))
      (pss_cons (ps_set (i := 2) sc_law_odd.nd rfl (by first | exact .inl rfl | exact .inr rfl) (pe_op op_cat (pv 2) (pe_lst (pa_cons (pe_tup (pa_cons pe_str (pa_cons (pe_lst (pa_cons pe_str pa_nil)) (pa_cons (pv 1) pa_nil)))) (pa_cons (pe_tup (pa_cons pe_str (pa_cons (pv 1) (pa_cons pe_str pa_nil)))) (pa_cons (pe_tup (pa_cons pe_str (pa_cons (pv 1) (pa_cons (pv 1) pa_nil)))) (pa_cons (pe_tup (pa_cons (pe_tup (pa_cons pe_str (pa_cons pe_str (pa_cons pe_str pa_nil)))) (pa_cons pe_str (pa_cons pe_str pa_nil)))) (pa_cons (pe_own C_law_nest (hr.mono (by omega)) (by rfl) (pa_cons pe_int pa_nil)) pa_nil))))))))
      (pss_one (ps_ret (pe_own C_law_pick (hr.mono (by omega)) (by rfl) (pa_cons (pv 0) (pa_cons (pv 2) pa_nil)))))))), ?_⟩
    refine ⟨(by show 0 ≤ sizeLine; decide), fun p1 n1 => ?_⟩
    have s1 := same_upd (o := .tup []) n1
    have g1 : GE K 1 M _ (.ref p1) _ := GE.tup (n := 0) (xs := []) t0 n1 GEs.nil (Nat.le_of_ble_eq_true rfl)
    have a1 := a0.trans s1
    have t1 := t0.same s1
    refine ⟨(by show 1 ≤ sizeLine; decide), fun p2 n2 => ?_⟩
    have s2 := same_upd (o := .tup [.str "&"]) n2
    have g2 : GE K 1 M _ (.ref p2) _ := GE.tup (n := 0) (xs := [.str "&"]) t1 n2 (GEs.cons (GE.str (x := "&") (by decide +kernel)) GEs.nil) (Nat.le_of_ble_eq_true rfl)
    have a2 := a1.trans s2
    have t2 := t1.same s2
    refine ⟨(by show 2 ≤ sizeLine; decide), fun p3 n3 => ?_⟩
    have s3 := same_upd (o := .tup [.str "&", .str "a"]) n3
    have g3 : GE K 1 M _ (.ref p3) _ := GE.tup (n := 0) (xs := [.str "&", .str "a"]) t2 n3 (GEs.cons (GE.str (x := "&") (by decide +kernel)) (GEs.cons (GE.str (x := "a") (by decide +kernel)) GEs.nil)) (Nat.le_of_ble_eq_true rfl)
    have a3 := a2.trans s3
    have t3 := t2.same s3
    refine ⟨(by show 3 ≤ sizeLine; decide), fun p4 n4 => ?_⟩
    have s4 := same_upd (o := .tup [.str "|", .str "a", .str "z"]) n4
    have g4 : GE K 1 M _ (.ref p4) _ := GE.tup (n := 0) (xs := [.str "|", .str "a", .str "z"]) t3 n4 (GEs.cons (GE.str (x := "|") (by decide +kernel)) (GEs.cons (GE.str (x := "a") (by decide +kernel)) (GEs.cons (GE.str (x := "z") (by decide +kernel)) GEs.nil))) (Nat.le_of_ble_eq_true rfl)
    have a4 := a3.trans s4
    have t4 := t3.same s4
    refine ⟨(by show 3 ≤ sizeLine; decide), fun p5 n5 => ?_⟩
    have s5 := same_upd (o := .tup [.str "and", .str "a", .str "b"]) n5
    have g5 : GE K 1 M _ (.ref p5) _ := GE.tup (n := 0) (xs := [.str "and", .str "a", .str "b"]) t4 n5 (GEs.cons (GE.str (x := "and") (by decide +kernel)) (GEs.cons (GE.str (x := "a") (by decide +kernel)) (GEs.cons (GE.str (x := "b") (by decide +kernel)) GEs.nil))) (Nat.le_of_ble_eq_true rfl)
    have a5 := a4.trans s5
    have t5 := t4.same s5
    refine ⟨(by show 3 ≤ sizeLine; decide), fun p6 n6 => ?_⟩
    have s6 := same_upd (o := .lst [.str "&", .str "a", .str "b"]) n6
    have g6 : GE K 1 M _ (.ref p6) _ := GE.lst (n := 0) (xs := [.str "&", .str "a", .str "b"]) t5 n6 (GEs.cons (GE.str (x := "&") (by decide +kernel)) (GEs.cons (GE.str (x := "a") (by decide +kernel)) (GEs.cons (GE.str (x := "b") (by decide +kernel)) GEs.nil))) (Nat.le_of_ble_eq_true rfl)
    have a6 := a5.trans s6
    have t6 := t5.same s6
    refine ⟨(by show 12 ≤ sizeLine; decide), fun l1 nl1 => ?_⟩
    have s7 := same_upd (o := .lst [.non, .int 3, .str "", .str "i", .str "A", .str "ab", .ref p1, .ref p2, .ref p3, .ref p4, .ref p5, .ref p6]) nl1
    have a7 := a6.trans s7
    have t7 := t6.same s7
    refine ⟨_, rfl, ?_⟩
    refine ⟨(by show 3 ≤ sizeLine; decide), fun p8 n8 => ?_⟩
    have s8 := same_upd (o := .tup [.str "&", .str "a", .non]) n8
    have g8 : GE K 1 M _ (.ref p8) _ := GE.tup (n := 0) (xs := [.str "&", .str "a", .non]) t7 n8 (GEs.cons (GE.str (x := "&") (by decide +kernel)) (GEs.cons (GE.str (x := "a") (by decide +kernel)) (GEs.cons GE.non GEs.nil))) (Nat.le_of_ble_eq_true rfl)
    have a8 := a7.trans s8
    have t8 := t7.same s8
    refine ⟨_, rfl, ?_⟩
    refine ⟨(by show 2 ≤ sizeLine; decide), fun p9 n9 => ?_⟩
    have s9 := same_upd (o := .tup [.str "a", .str "b"]) n9
    have g9 : GE K 1 M _ (.ref p9) _ := GE.tup (n := 0) (xs := [.str "a", .str "b"]) t8 n9 (GEs.cons (GE.str (x := "a") (by decide +kernel)) (GEs.cons (GE.str (x := "b") (by decide +kernel)) GEs.nil)) (Nat.le_of_ble_eq_true rfl)
    have a9 := a8.trans s9
    have t9 := t8.same s9
    refine ⟨(by show 3 ≤ sizeLine; decide), fun p10 n10 => ?_⟩
    have s10 := same_upd (o := .tup [.str "&", v, .ref p9]) n10
    have g10 : GE K 10 M _ (.ref p10) _ := GE.tup (n := 9) (xs := [.str "&", v, .ref p9]) t9 n10 (GEs.cons (GE.str (x := "&") (by decide +kernel)) (GEs.cons (gw.same a9) (GEs.cons (g9.up (by decide)) GEs.nil))) (Nat.le_of_ble_eq_true rfl)
    have a10 := a9.trans s10
    have t10 := t9.same s10
    refine ⟨_, rfl, ?_⟩
    refine ⟨(by show 1 ≤ sizeLine; decide), fun p11 n11 => ?_⟩
    have s11 := same_upd (o := .tup [v]) n11
    have g11 : GE K 10 M _ (.ref p11) _ := GE.tup (n := 9) (xs := [v]) t10 n11 (GEs.cons (gw.same a10) GEs.nil) (Nat.le_of_ble_eq_true rfl)
    have a11 := a10.trans s11
    have t11 := t10.same s11
    refine ⟨(by show 2 ≤ sizeLine; decide), fun p12 n12 => ?_⟩
    have s12 := same_upd (o := .tup [.str "|", .str "b"]) n12
    have g12 : GE K 1 M _ (.ref p12) _ := GE.tup (n := 0) (xs := [.str "|", .str "b"]) t11 n12 (GEs.cons (GE.str (x := "|") (by decide +kernel)) (GEs.cons (GE.str (x := "b") (by decide +kernel)) GEs.nil)) (Nat.le_of_ble_eq_true rfl)
    have a12 := a11.trans s12
    have t12 := t11.same s12
    refine ⟨_, rfl, ?_⟩
    refine ⟨(by show 3 ≤ sizeLine; decide), fun p13 n13 => ?_⟩
    have s13 := same_upd (o := .tup [.str "&", .ref p12, v]) n13
    have g13 : GE K 10 M _ (.ref p13) _ := GE.tup (n := 9) (xs := [.str "&", .ref p12, v]) t12 n13 (GEs.cons (GE.str (x := "&") (by decide +kernel)) (GEs.cons (g12.up (by decide)) (GEs.cons (gw.same a12) GEs.nil))) (Nat.le_of_ble_eq_true rfl)
    have a13 := a12.trans s13
    have t13 := t12.same s13
    refine ⟨(by show 3 ≤ sizeLine; decide), fun p14 n14 => ?_⟩
    have s14 := same_upd (o := .tup [.bl true, .str "a", .str "b"]) n14
    have g14 : GE K 1 M _ (.ref p14) _ := GE.tup (n := 0) (xs := [.bl true, .str "a", .str "b"]) t13 n14 (GEs.cons (GE.bl _) (GEs.cons (GE.str (x := "a") (by decide +kernel)) (GEs.cons (GE.str (x := "b") (by decide +kernel)) GEs.nil))) (Nat.le_of_ble_eq_true rfl)
    have a14 := a13.trans s14
    have t14 := t13.same s14
    refine ⟨(by show 5 ≤ sizeLine; decide), fun m0 nm0 => ?_⟩
    have s15 := same_upd (o := .lst [.ref p8, .ref p10, .ref p11, .ref p13, .ref p14]) nm0
    have a15 := a14.trans s15
    have t15 := t14.same s15
    have hp0 : _ := (s8.trans (s9.trans (s10.trans (s11.trans (s12.trans (s13.trans (s14.trans s15))))))) _ _ (upd_same (o := .lst ([.non, .int 3, .str "", .str "i", .str "A", .str "ab", .ref p1, .ref p2, .ref p3, .ref p4, .ref p5, .ref p6])))
    refine ⟨l1, m0, _, _, rfl, rfl, hp0, upd_same, le1000 (Nat.le_of_ble_eq_true rfl), fun c0 nc0 => ?_⟩
    have s16 := same_upd (o := .lst ([.non, .int 3, .str "", .str "i", .str "A", .str "ab", .ref p1, .ref p2, .ref p3, .ref p4, .ref p5, .ref p6] ++ [.ref p8, .ref p10, .ref p11, .ref p13, .ref p14])) nc0
    have a16 := a15.trans s16
    have t16 := t15.same s16
    refine ⟨_, rfl, ?_⟩
    refine ⟨(by show 1 ≤ sizeLine; decide), fun p17 n17 => ?_⟩
    have s17 := same_upd (o := .lst [.str "a"]) n17
    have g17 : GE K 1 M _ (.ref p17) _ := GE.lst (n := 0) (xs := [.str "a"]) t16 n17 (GEs.cons (GE.str (x := "a") (by decide +kernel)) GEs.nil) (Nat.le_of_ble_eq_true rfl)
    have a17 := a16.trans s17
    have t17 := t16.same s17
    refine ⟨_, rfl, ?_⟩
    refine ⟨(by show 3 ≤ sizeLine; decide), fun p18 n18 => ?_⟩
    have s18 := same_upd (o := .tup [.str "|", .ref p17, v]) n18
    have g18 : GE K 10 M _ (.ref p18) _ := GE.tup (n := 9) (xs := [.str "|", .ref p17, v]) t17 n18 (GEs.cons (GE.str (x := "|") (by decide +kernel)) (GEs.cons (g17.up (by decide)) (GEs.cons (gw.same a17) GEs.nil))) (Nat.le_of_ble_eq_true rfl)
    have a18 := a17.trans s18
    have t18 := t17.same s18
    refine ⟨_, rfl, ?_⟩
    refine ⟨(by show 3 ≤ sizeLine; decide), fun p19 n19 => ?_⟩
    have s19 := same_upd (o := .tup [.str "&", v, .str ""]) n19
    have g19 : GE K 10 M _ (.ref p19) _ := GE.tup (n := 9) (xs := [.str "&", v, .str ""]) t18 n19 (GEs.cons (GE.str (x := "&") (by decide +kernel)) (GEs.cons (gw.same a18) (GEs.cons (GE.str (x := "") (by decide +kernel)) GEs.nil))) (Nat.le_of_ble_eq_true rfl)
    have a19 := a18.trans s19
    have t19 := t18.same s19
    refine ⟨_, rfl, ?_⟩
    refine ⟨_, rfl, ?_⟩
    refine ⟨(by show 3 ≤ sizeLine; decide), fun p20 n20 => ?_⟩
    have s20 := same_upd (o := .tup [.str "", v, v]) n20
    have g20 : GE K 10 M _ (.ref p20) _ := GE.tup (n := 9) (xs := [.str "", v, v]) t19 n20 (GEs.cons (GE.str (x := "") (by decide +kernel)) (GEs.cons (gw.same a19) (GEs.cons (gw.same a19) GEs.nil))) (Nat.le_of_ble_eq_true rfl)
    have a20 := a19.trans s20
    have t20 := t19.same s20
    refine ⟨(by show 3 ≤ sizeLine; decide), fun p21 n21 => ?_⟩
    have s21 := same_upd (o := .tup [.str "&", .str "a", .str "b"]) n21
    have g21 : GE K 1 M _ (.ref p21) _ := GE.tup (n := 0) (xs := [.str "&", .str "a", .str "b"]) t20 n21 (GEs.cons (GE.str (x := "&") (by decide +kernel)) (GEs.cons (GE.str (x := "a") (by decide +kernel)) (GEs.cons (GE.str (x := "b") (by decide +kernel)) GEs.nil))) (Nat.le_of_ble_eq_true rfl)
    have a21 := a20.trans s21
    have t21 := t20.same s21
    refine ⟨(by show 3 ≤ sizeLine; decide), fun p22 n22 => ?_⟩
    have s22 := same_upd (o := .tup [.ref p21, .str "a", .str "b"]) n22
    have g22 : GE K 2 M _ (.ref p22) _ := GE.tup (n := 1) (xs := [.ref p21, .str "a", .str "b"]) t21 n22 (GEs.cons g21 (GEs.cons (GE.str (x := "a") (by decide +kernel)) (GEs.cons (GE.str (x := "b") (by decide +kernel)) GEs.nil))) (Nat.le_of_ble_eq_true rfl)
    have a22 := a21.trans s22
    have t22 := t21.same s22
    refine ⟨10, M, rfl, by decide, t22, fun H23 p23 hd23 s23 => ?_⟩
    have a23 := a22.trans s23
    have t23 := t22.same s23
    have g23 : GE K 10 M H23 p23 (nestD 10) := ⟨hd23, nest_gd 10⟩
    refine ⟨(by show 5 ≤ sizeLine; decide), fun m1 nm1 => ?_⟩
    have s24 := same_upd (o := .lst [.ref p18, .ref p19, .ref p20, .ref p22, p23]) nm1
    have a24 := a23.trans s24
    have t24 := t23.same s24
    have hp1 : _ := (s17.trans (s18.trans (s19.trans (s20.trans (s21.trans (s22.trans (s23.trans s24))))))) _ _ (upd_same (o := .lst ([.non, .int 3, .str "", .str "i", .str "A", .str "ab", .ref p1, .ref p2, .ref p3, .ref p4, .ref p5, .ref p6] ++ [.ref p8, .ref p10, .ref p11, .ref p13, .ref p14])))
    refine ⟨c0, m1, _, _, rfl, rfl, hp1, upd_same, le1000 (Nat.le_of_ble_eq_true rfl), fun c1 nc1 => ?_⟩
    have s25 := same_upd (o := .lst (([.non, .int 3, .str "", .str "i", .str "A", .str "ab", .ref p1, .ref p2, .ref p3, .ref p4, .ref p5, .ref p6] ++ [.ref p8, .ref p10, .ref p11, .ref p13, .ref p14]) ++ [.ref p18, .ref p19, .ref p20, .ref p22, p23])) nc1
    have a25 := a24.trans s25
    have t25 := t24.same s25
    have z24 := s25
    have z23 := s24.trans z24
    have z22 := s23.trans z23
    have z21 := s22.trans z22
    have z20 := s21.trans z21
    have z19 := s20.trans z20
    have z18 := s19.trans z19
    have z17 := s18.trans z18
    have z16 := s17.trans z17
    have z15 := s16.trans z16
    have z14 := s15.trans z15
    have z13 := s14.trans z14
    have z12 := s13.trans z13
    have z11 := s12.trans z12
    have z10 := s11.trans z11
    have z9 := s10.trans z10
    have z8 := s9.trans z9
    have z7 := s8.trans z8
    have z6 := s7.trans z7
    have z5 := s6.trans z6
    have z4 := s5.trans z5
    have z3 := s4.trans z4
    have z2 := s3.trans z3
    have z1 := s2.trans z2
    have ga1 : ∀ y ∈ ([.non, .int 3, .str "", .str "i", .str "A", .str "ab", .ref p1, .ref p2, .ref p3, .ref p4, .ref p5, .ref p6] : List V), GVN K M _ y := (all_cons (GVN.of (n := 0) (GE.non) (by decide) (by decide +kernel)) (all_cons (GVN.of (n := 0) (GE.int _) (by decide) (by decide +kernel)) (all_cons (GVN.of (n := 0) (GE.str (x := "") (by decide +kernel)) (by decide) (by decide +kernel)) (all_cons (GVN.of (n := 0) (GE.str (x := "i") (by decide +kernel)) (by decide) (by decide +kernel)) (all_cons (GVN.of (n := 0) (GE.str (x := "A") (by decide +kernel)) (by decide) (by decide +kernel)) (all_cons (GVN.of (n := 0) (GE.str (x := "ab") (by decide +kernel)) (by decide) (by decide +kernel)) (all_cons (GVN.of (g1.same z1) (by decide) (by decide +kernel)) (all_cons (GVN.of (g2.same z2) (by decide) (by decide +kernel)) (all_cons (GVN.of (g3.same z3) (by decide) (by decide +kernel)) (all_cons (GVN.of (g4.same z4) (by decide) (by decide +kernel)) (all_cons (GVN.of (g5.same z5) (by decide) (by decide +kernel)) (all_cons (GVN.of (g6.same z6) (by decide) (by decide +kernel)) all_nil))))))))))))
    have ga2 : ∀ y ∈ ([.ref p8, .ref p10, .ref p11, .ref p13, .ref p14] : List V), GVN K M _ y := (all_cons (GVN.of (g8.same z8) (by decide) (by decide +kernel)) (all_cons (GVN.of (g10.same z10) (by decide) (zp (x := .tuple [.str "a", .str "b"]) (by simp) (by decide +kernel))) (all_cons (GVN.of (g11.same z11) (by decide) rfl) (all_cons (GVN.of (g13.same z13) (by decide) (zp (x := .tuple [.str "|", .str "b"]) (by simp) (by decide +kernel))) (all_cons (GVN.of (g14.same z14) (by decide) (by decide +kernel)) all_nil)))))
    have ga3 : ∀ y ∈ ([.ref p18, .ref p19, .ref p20, .ref p22, p23] : List V), GVN K M _ y := (all_cons (GVN.of (g18.same z18) (by decide) (zp (x := .list [.str "a"]) (by simp) (by decide +kernel))) (all_cons (GVN.of (g19.same z19) (by decide) (zp (x := .str "") (by simp) (by decide +kernel))) (all_cons (GVN.of (g20.same z20) (by decide) (zo (by decide +kernel))) (all_cons (GVN.of (g22.same z22) (by decide) (by decide +kernel)) (all_cons (GVN.of (g23.same z23) (by decide) (by decide +kernel)) all_nil)))))
    refine ⟨_, rfl, _, rfl, a, L, c1, ns, _, rfl, hs.same a25, (hs.ne (a24.free nc1)).symm, upd_same, Nat.le_of_ble_eq_true rfl, Nat.le_of_ble_eq_true rfl, fun H' y my hs' off' => ?_⟩
    have gy := all_app (all_app ga1 ga2) ga3 y my
    obtain ⟨d, h1, h2, h3⟩ := gy
    refine q H' y ⟨d, dp_same (SmX.at off' aM).hid d y h1, h2, h3⟩ hs' ((SmX.of_same a25).trans (SmX.at off' (List.mem_singleton.mpr rfl)))
end
end Fv


namespace Fv
open PySem PySem.Spec PyProof.Rows L2 FvX
-- top 27  slots: 0:_law_ask 1:_law_told 2:_law_word 3:e
abbrev s_law_call : Stmt := topS 27
abbrev N_law_call : List Str := ["_law_ask", "_law_told", "_law_word", "e"]
theorem sc_law_call : FnScope N_law_call ["_law_ask"] (defScope s_law_call) := ⟨rfl, rfl, rfl, by decide +kernel, rfl, by decide +kernel, by decide +kernel⟩

section
variable {X : Cx} {gf CF : Addr} {cdg : Value} {q : Str}
/-- _law_call: what the lambda gives, or the error's code -/
theorem call_gives (hF : X.mg "FaultError" = some (.ref CF)) : GivesS X N_law_call "_law_call" (defScope s_law_call) gf cdg (defBody s_law_call) "_law_ask" q (TCall X.K CF) := by
  intro lf lc s H Q tl act hc h
  refine ⟨_, pss_cons (ps_set (i := 1) sc_law_call.nd rfl (.inl rfl) pe_non) (pss_cons (ps_set (i := 2) sc_law_call.nd rfl (.inl rfl) pe_str)
    (pss_cons (ps_try_first (X := (cxOf C8.CX0 X.prog X.w X.K X.mg X.base N_law_call "_law_call" (defScope s_law_call) gf cdg X.A X.stack s H C8.E0).nox) (i := 3) (c := .ref CF)
      (tb := fun W D σ H => ∃ E : XK, (∀ cls d H', E cls d H' → W cls d σ H') ∧ σ[0]? = some (some (.ref lf)) ∧ H lc = some (LamX.CodeO lc q) ∧ tl E H (fun v H' => D.nx (σ.set 1 (some v)) H'))
      rfl rfl sc_law_call.nd rfl rfl ⟨rfl, by decide, .inl hF⟩ (fun W pn xe tk _ => ?_)
      (fun a oe cls d pn hz hf => pss_one (ps_set (i := 2) sc_law_call.nd rfl (.inl rfl) (pe_errf (i := 3) hz hf (pv 3)))))
    (pss_one (ps_ret (pe_tup (pa_cons (pv 1) (pa_cons (pv 2) pa_nil))))))), ?_⟩
  · refine ⟨fun pins s' σ H' D I hh => ?_⟩
    obtain ⟨E, hW, h1, h2, h3⟩ := hh
    exact (pss_one (ps_set (i := 1) sc_law_call.nd rfl (.inl rfl) (act W pn xe E _ _ tk))).run pins s' σ H' D I ⟨h1, h2, hW, h3⟩
  · refine ⟨fun cls d H' => ∃ (C dd : Addr) (fs : List (Str × V)) (v : V), cls = .ref C ∧ PySem.W.exmOne X.K cls (.ref CF) = some true ∧ XfC X.K C ∧ PySem.W.findIn X.K (.ref C) "code" = some none ∧ d = some dd ∧ H' dd = some (.xd fs) ∧ fs.lookup ("code" : Str) = some v ∧
      ∀ p, H' p = none → Q (.ref p) (upd H' p (.tup [.non, v])), fun cls d H' z => ?_, rfl, hc, h _ _ (fun v H' z => ?_) (fun C dd H' fs v h2 h3 h4 h6 h7 h8 => ⟨C, dd, fs, v, rfl, h2, h3, h4, rfl, h6, h7, h8⟩)⟩
    · obtain ⟨C, dd, fs, v, h1, h2, h3, h4, h5, h6, h7, h8⟩ := z
      refine ⟨h2, fun a na => ⟨rfl, C, dd, fs, v, h1, h3, h4, h5, h6, h7, ?_⟩⟩
      exact ⟨_, rfl, _, rfl, (by show 2 ≤ sizeLine; decide), h8⟩
    · exact ⟨_, rfl, _, rfl, (by show 2 ≤ sizeLine; decide), z⟩
end
end Fv


set_option maxHeartbeats 2000000
namespace FvD
open PySem PySem.Spec PyProof.Rows L2
/-! ### a dict whose keys are data: letters and nested tuples side by side -/
/-- a key, the value that stands for it, what is stored -/
abbrev KE3 := NestedKey × Value × Value
def entD (w : World) (x : KE3) : DictEntry := ⟨x.1.hash w, x.2.1, x.2.2⟩
/-- how a search ends -/
structure Ans (xs : List KE3) (k : NestedKey) (Q : Option Nat → Shared → Prop) (s : Shared) : Prop where
  no : (∀ x ∈ xs, x.1 ≠ k) → Q none s
  yes : ∀ j x, xs[j]? = some x → x.1 = k → Q (some j) s
section
variable {prog : Program} {w : World} {A : Around} {E : Value → Shared → Prop} {s : Shared} {es : Array DictEntry} {xs : List KE3} {k : NestedKey} {u : Value}
theorem ent_at (he : es.toList = xs.map (entD w)) (j : Nat) : es[j]? = (xs[j]?).map (entD w) := by
  rw [← Array.getElem?_toList, he, List.getElem?_map]
theorem ent_size (he : es.toList = xs.map (entD w)) : es.size = xs.length := by
  rw [← Array.length_toList, he, List.length_map]
theorem key_once (hn : (xs.map (·.1)).Nodup) {i j : Nat} {x y : KE3} (hi : xs[i]? = some x) (hj : xs[j]? = some y) (e : x.1 = y.1) : i = j := by
  have a : (xs.map (·.1))[i]? = some x.1 := by rw [List.getElem?_map, hi]; rfl
  have b : (xs.map (·.1))[j]? = some x.1 := by rw [List.getElem?_map, hj, e]; rfl
  exact (List.getElem?_inj (List.getElem?_eq_some_iff.mp a).1 hn).mp (a.trans b.symm)
/-- the places with this hash -/
def plc (w : World) (es : Array DictEntry) (k : NestedKey) : List Nat := placesWithHash es.size (fun i => es[i]?.map (·.hash)) (k.hash w)
theorem plc_mem {j : Nat} : j ∈ plc w es k ↔ j < es.size ∧ ((es[j]?.map (·.hash)) == some (k.hash w)) = true := by
  unfold plc placesWithHash
  rw [List.mem_filter, List.mem_range]
theorem plc_nodup : (plc w es k).Nodup := by
  unfold plc placesWithHash
  exact List.Pairwise.filter _ List.nodup_range
/-- a key that is there stands at one of these places -/
theorem plc_has (he : es.toList = xs.map (entD w)) {j : Nat} {x : KE3} (hj : xs[j]? = some x) (e : x.1 = k) : j ∈ plc w es k := by
  refine plc_mem.mpr ⟨?_, ?_⟩
  · rw [ent_size he]; exact (List.getElem?_eq_some_iff.mp hj).1
  · rw [ent_at he j, hj, ← e]; simp [entD]
theorem none_there (he : es.toList = xs.map (entD w)) (h : ∀ j ∈ plc w es k, ∀ x, xs[j]? = some x → x.1 ≠ k) : ∀ x ∈ xs, x.1 ≠ k := fun x hx e => by
  obtain ⟨j, hj⟩ := List.mem_iff_getElem?.mp hx
  exact h j (plc_has he hj e) x hj e
end
section
variable {prog : Program} {w : World} {A : Around} {E : Value → Shared → Prop} {s : Shared} {d : Addr} {o : Obj} {es : Array DictEntry} {ep : Nat} {xs : List KE3} {k : NestedKey} {u : Value} {Q : Option Nat → Shared → Prop}
/-- the walk by value -/
theorem walk_plain (hu : A.units + 8 < cLine) (hk : NestedIs s.heap k u) (hkd : k.depth ≤ 8) (ho : s.heap.get? d = some o) (hd : o.data = .dict es ep) (he : es.toList = xs.map (entD w))
    (his : ∀ x ∈ xs, NestedIs s.heap x.1 x.2.1 ∧ x.1.depth ≤ 8) (q : Ans xs k Q s) : wpAny (model prog w) A (dictWalkPlain d u (k.hash w) es (plc w es k)) Q E s := by
  unfold dictWalkPlain
  refine wpAny_bind ?_
  refine wpAny_forIn_list _ (fun rest b s' => s' = s ∧ b = (none, ()) ∧ ∃ done, done ++ rest = plc w es k ∧ ∀ j ∈ done, ∀ x, xs[j]? = some x → x.1 ≠ k) _ ?_ ?_ _ _ ⟨rfl, rfl, [], rfl, fun _ h => nomatch h⟩
  · rintro j rest b s' ⟨rfl, rfl, done, hr, hno⟩
    have hm : j ∈ plc w es k := by rw [← hr]; exact List.mem_append_right _ List.mem_cons_self
    obtain ⟨hj, hp⟩ := plc_mem.mp hm
    obtain ⟨x, hx⟩ : ∃ x, xs[j]? = some x := ⟨xs[j]'(by rw [← ent_size he]; exact hj), List.getElem?_eq_getElem _⟩
    have ex : es[j]? = some (entD w x) := by rw [ent_at he j, hx]; rfl
    rw [ex] at hp ⊢
    dsimp only
    have hh : ((entD w x).hash == k.hash w) = true := by simpa using hp
    rw [if_pos hh]
    obtain ⟨n1, n2⟩ := his x (List.mem_of_getElem? hx)
    refine wpAny_bind (wpAny_dictEpoch ho hd (wpAny_bind (eqAt_key x.1 k A s' _ _ n1 hk (by omega) _ _ _ _ (wpAny_bind (wpAny_dictEpoch ho hd ?_)))))
    show wpAny _ _ (if (ep != ep) = true then _ else _) _ E _
    rw [if_neg (by simp), ← NestedKey.decide_eq]
    by_cases e : x.1 = k
    · rw [decide_eq_true e]
      first | rw [if_pos rfl] | skip
      exact wpAny_bind (wpAny_rule (wpAny_pure (wpAny_pure (q.yes j x hx e))))
    · rw [decide_eq_false e]
      first | rw [if_neg Bool.false_ne_true] | skip
      have nx : ∃ done', done' ++ rest = plc w es k ∧ ∀ i ∈ done', ∀ y, xs[i]? = some y → y.1 ≠ k := ⟨done ++ [j], by rw [← hr, List.append_assoc]; rfl, fun i hi y hy => by
        rcases List.mem_append.mp hi with z | z
        · exact hno i z y hy
        · rw [List.mem_singleton.mp z, hx] at hy
          cases hy
          exact e⟩
      first
        | exact wpAny_bind (wpAny_rule (wpAny_pure ⟨rfl, rfl, nx⟩))
        | exact wpAny_bind (wpAny_pure (wpAny_bind (wpAny_rule (wpAny_pure ⟨rfl, rfl, nx⟩))))
  · rintro b s' ⟨rfl, rfl, done, hr, hno⟩
    rw [List.append_nil] at hr
    exact wpAny_pure (q.no (none_there he fun j hj => hno j (by rw [hr]; exact hj)))
end

section
variable {prog : Program} {w : World} {A : Around} {E : Value → Shared → Prop} {s : Shared} {d : Addr} {o : Obj} {es : Array DictEntry} {ep : Nat} {xs : List KE3} {k : NestedKey} {u : Value} {Q : Option Nat → Shared → Prop}
/-- all keys are texts -/
theorem find_texts {x : Str} {t : Tok} (hu : A.units + 8 < cLine) (ho : s.heap.get? d = some o) (hd : o.data = .dict es ep) (he : es.toList = xs.map (entD w)) (hn : (xs.map (·.1)).Nodup)
    (his : ∀ y ∈ xs, NestedIs s.heap y.1 y.2.1 ∧ y.1.depth ≤ 8) (hall : (es.all fun e => isExactStrKey e.key) = true) (q : Ans xs (.text x) Q s) : wpAny (model prog w) A (foundByValue d (.str x t) es x) Q E s := by
  have isx : ∀ (j : Nat) (hj : j < es.size) (y : KE3), xs[j]? = some y → (es[j].key.isStr x = true ↔ y.1 = .text x) := fun j hj y hy => by
    have ex : es[j]? = some (entD w y) := by rw [ent_at he j, hy]; rfl
    have e2 : es[j] = entD w y := by
      rw [Array.getElem?_eq_getElem hj] at ex
      exact Option.some.inj ex
    have hs : isExactStrKey es[j].key = true := by
      rw [Array.all_eq_true] at hall
      exact hall j hj
    rw [e2] at hs ⊢
    obtain ⟨n1, _⟩ := his y (List.mem_of_getElem? hy)
    show y.2.1.isStr x = true ↔ _
    change isExactStrKey y.2.1 = true at hs
    cases hv : y.2.1 with
    | str z t' =>
      rw [hv] at n1
      have e3 : y.1 = .text z := NestedIs.inj _ _ _ n1 (.text z t')
      rw [e3]
      constructor
      · intro h
        have h' : z = x := by simpa [Value.isStr] using h
        rw [h']
      · intro h
        injection h with h
        rw [h]
        simp [Value.isStr]
    | _ => rw [hv] at hs; cases hs
  unfold foundByValue
  cases hf : es.findIdx? (fun e => e.key.isStr x) with
  | none =>
    refine wpAny_pure (q.no fun y hy e => ?_)
    obtain ⟨j, hj⟩ := List.mem_iff_getElem?.mp hy
    have hlt : j < es.size := by rw [ent_size he]; exact (List.getElem?_eq_some_iff.mp hj).1
    have z := Array.findIdx?_eq_none_iff.mp hf es[j] (Array.getElem_mem hlt)
    rw [(isx j hlt y hj).mpr e] at z
    cases z
  | some i =>
    obtain ⟨hlt, hi, _⟩ := Array.findIdx?_eq_some_iff_getElem.mp hf
    obtain ⟨y, hy⟩ : ∃ y, xs[i]? = some y := ⟨xs[i]'(by rw [← ent_size he]; exact hlt), List.getElem?_eq_getElem _⟩
    have e := (isx i hlt y hy).mp hi
    have ex : es[i]? = some (entD w y) := by rw [ent_at he i, hy]; rfl
    have n1 := (his y (List.mem_of_getElem? hy)).1
    simp only [ex]
    refine wpAny_bind (wpAny_dictEpoch ho hd (wpAny_bind (eqAt_key y.1 (.text x) A s _ _ n1 (.text x t) (by simp only [NestedKey.depth]; omega) _ _ _ _ (wpAny_bind (wpAny_dictEpoch ho hd ?_)))))
    show wpAny _ _ (if (ep != ep) = true then _ else _) _ E _
    rw [if_neg (by simp), ← NestedKey.decide_eq, decide_eq_true e]
    exact wpAny_bind (wpAny_rule (wpAny_pure (q.yes i y hy e)))
theorem may_tell {stored : List Value} {Q : Bool → Shared → Prop} (hk : NestedIs s.heap k u) (hkd : k.depth ≤ 8) (hst : ∀ v ∈ stored, ∃ k' : NestedKey, NestedIs s.heap k' v ∧ k'.depth ≤ 8) (h : Q false s) :
    wpAny (model prog w) A (tableMayTell u stored) Q E s := by
  unfold tableMayTell
  by_cases he : stored.isEmpty = true
  · rw [if_pos he]
    exact wpAny_pure h
  · rw [if_neg he]
    refine wpAny_bind (quiet_key k u 8 s hk hkd A E _ ?_)
    simp only [Bool.not_true, Bool.false_eq_true, if_false]
    refine wpAny_bind (wpAny_forIn_list _ (fun rest r s' => r = (none, ()) ∧ s' = s ∧ ∀ v ∈ rest, ∃ k' : NestedKey, NestedIs s.heap k' v ∧ k'.depth ≤ 8) _ ?_ ?_ _ _ ⟨rfl, rfl, hst⟩)
    · rintro x rest r s' ⟨rfl, rfl, hr⟩
      obtain ⟨k', n1, n2⟩ := hr x List.mem_cons_self
      refine wpAny_bind (quiet_key k' x 8 s' n1 n2 A E _ ?_)
      simp only [Bool.not_true, Bool.false_eq_true, if_false]
      exact wpAny_pure ⟨rfl, rfl, fun v hv => hr v (List.mem_cons_of_mem _ hv)⟩
    · rintro r s' ⟨rfl, rfl, _⟩
      exact wpAny_pure h
/-- the search -/
theorem nd_find (hu : A.units + 8 < cLine) (hk : NestedIs s.heap k u) (hkd : k.depth ≤ 8) (ho : s.heap.get? d = some o) (hd : o.data = .dict es ep) (he : es.toList = xs.map (entD w)) (hn : (xs.map (·.1)).Nodup)
    (his : ∀ x ∈ xs, NestedIs s.heap x.1 x.2.1 ∧ x.1.depth ≤ 8) (q : Ans xs k Q s) : wpAny (model prog w) A (dictFind d u (k.hash w)) Q E s := by
  have hst : ∀ v ∈ (plc w es k).filterMap (fun i => es[i]?.map (·.key)), ∃ k' : NestedKey, NestedIs s.heap k' v ∧ k'.depth ≤ 8 := fun v hv => by
    obtain ⟨i, _, hi⟩ := List.mem_filterMap.mp hv
    rw [ent_at he i] at hi
    cases hx : xs[i]? with
    | none => rw [hx] at hi; cases hi
    | some x =>
      rw [hx] at hi
      have e : x.2.1 = v := Option.some.inj hi
      rw [← e]
      exact ⟨x.1, his x (List.mem_of_getElem? hx)⟩
  have stale : ∀ a, u = .ref a → ¬ (es.any fun e => e.key == u && e.hash != k.hash w) = true := fun a ea h => by
    rw [← Array.any_toList, List.any_eq_true] at h
    obtain ⟨e, hin, hc⟩ := h
    rw [he] at hin
    obtain ⟨x, hx, rfl⟩ := List.mem_map.mp hin
    rw [Bool.and_eq_true] at hc
    obtain ⟨c1, c2⟩ := hc
    have e1 : x.2.1 = u := by simpa [entD] using c1
    have n1 := (his x hx).1
    rw [e1] at n1
    have e2 : x.1 = k := NestedIs.inj _ _ _ n1 hk
    rw [show (entD w x).hash = x.1.hash w from rfl, e2, bne_self_eq_false] at c2
    cases c2
  unfold dictFind
  try with_reducible refine wpAny_holding ?_
  refine wpAny_bind (wpAny_dictEntries ho hd ?_)
  dsimp only
  have fold : placesWithHash es.size (fun i => es[i]?.map (·.hash)) (k.hash w) = plc w es k := rfl
  rw [fold]
  have plain : ∀ {m : Sem (Option Nat)}, m = dictWalkPlain d u (k.hash w) es (plc w es k) → wpAny (model prog w) A m Q E s := fun {m} em => by
    rw [em]
    exact walk_plain hu hk hkd ho hd he his q
  split
  · rename_i x t
    have ek : k = .text x := NestedIs.inj _ _ _ hk (.text x t)
    by_cases hall : (es.all fun e => isExactStrKey e.key) = true
    · rw [if_pos hall]
      subst ek
      exact find_texts hu ho hd he hn his hall q
    · rw [if_neg hall]
      by_cases c : (((Value.str x t) :: (plc w es k).filterMap fun i => es[i]?.map (·.key)).all carriedByValue) = true
      · rw [if_pos c]; exact plain rfl
      · rw [if_neg c]
        dsimp only
        by_cases c2 : (((plc w es k).filterMap fun i => es[i]?.map (·.key)) == [Value.str x t]) = true <;> (first | rw [if_pos c2] | rw [if_neg c2]) <;> (first | refine wpAny_bind (wpAny_pure ?_) | refine wpAny_bind (may_tell hk hkd hst ?_)) <;> (
        rw [if_neg (by simp)]
        refine wpAny_bind ?_
        refine wpAny_forIn_list _ (fun rest b s' => s' = s ∧ ∃ hit done, b = (none, hit) ∧ done ++ rest = plc w es k ∧ ((hit = none ∧ ∀ j ∈ done, ∀ x, xs[j]? = some x → x.1 ≠ k) ∨ ∃ j x, hit = some j ∧ j ∈ done ∧ xs[j]? = some x ∧ x.1 = k)) _ ?_ ?_ _ _ ⟨rfl, none, [], rfl, rfl, .inl ⟨rfl, fun _ h => nomatch h⟩⟩
        · rintro j rest b s' ⟨rfl, hit, done, rfl, hr, hH⟩
          have hm : j ∈ plc w es k := by rw [← hr]; exact List.mem_append_right _ List.mem_cons_self
          obtain ⟨hj, hp⟩ := plc_mem.mp hm
          obtain ⟨x, hx⟩ : ∃ x, xs[j]? = some x := ⟨xs[j]'(by rw [← ent_size he]; exact hj), List.getElem?_eq_getElem _⟩
          have ex : es[j]? = some (entD w x) := by rw [ent_at he j, hx]; rfl
          rw [ex] at hp ⊢
          dsimp only
          have hh : ((entD w x).hash == k.hash w) = true := by simpa using hp
          rw [if_pos hh]
          obtain ⟨n1, n2⟩ := his x (List.mem_of_getElem? hx)
          have more : done ++ [j] ++ rest = plc w es k := by rw [← hr, List.append_assoc]; rfl
          refine wpAny_bind (wpAny_dictEpoch ho hd (wpAny_bind (eqAt_key x.1 k A s' _ _ n1 hk (by omega) _ _ _ _ (wpAny_bind (wpAny_dictEpoch ho hd ?_)))))
          show wpAny _ _ (if (ep != ep) = true then _ else _) _ E _
          rw [if_neg (by simp), ← NestedKey.decide_eq]
          by_cases e : x.1 = k
          · rw [decide_eq_true e]
            first | rw [if_pos rfl] | skip
            rcases hH with ⟨rfl, _⟩ | ⟨i, y, _, hi, hy, ey⟩
            · simp only [Option.isSome_none, Bool.false_eq_true, if_false]
              first | refine wpAny_bind (wpAny_pure ?_) | skip
              refine wpAny_bind (wpAny_rule ?_)
              split
              · exact wpAny_pure (wpAny_pure (q.yes j x hx e))
              · exact wpAny_pure ⟨rfl, some j, done ++ [j], rfl, more, .inr ⟨j, x, rfl, List.mem_append_right _ (List.mem_singleton.mpr rfl), hx, e⟩⟩
            · exfalso
              have ij : i = j := key_once hn hy hx (ey.trans e.symm)
              have nd : (done ++ j :: rest).Nodup := by rw [hr]; exact plc_nodup
              rw [List.nodup_append] at nd
              exact nd.2.2 i hi j List.mem_cons_self ij
          · rw [decide_eq_false e]
            simp only [Bool.false_eq_true, if_false]
            refine wpAny_bind (wpAny_rule ?_)
            have nx : (hit = none ∧ ∀ i ∈ done ++ [j], ∀ y, xs[i]? = some y → y.1 ≠ k) ∨ ∃ i y, hit = some i ∧ i ∈ done ++ [j] ∧ xs[i]? = some y ∧ y.1 = k := by
              rcases hH with ⟨h0, hno⟩ | ⟨i, y, h0, hi, hy⟩
              · refine .inl ⟨h0, fun i hi y hy => ?_⟩
                rcases List.mem_append.mp hi with z | z
                · exact hno i z y hy
                · rw [List.mem_singleton.mp z, hx] at hy
                  cases hy
                  exact e
              · exact .inr ⟨i, y, h0, List.mem_append_left _ hi, hy⟩
            first | rw [if_neg (by simp)] | skip
            first
              | exact wpAny_pure ⟨rfl, hit, done ++ [j], rfl, more, nx⟩
              | exact wpAny_bind (wpAny_pure (wpAny_pure ⟨rfl, hit, done ++ [j], rfl, more, nx⟩))
        · rintro b s' ⟨rfl, hit, done, rfl, hr, hH⟩
          rw [List.append_nil] at hr
          rcases hH with ⟨rfl, hno⟩ | ⟨j, x, rfl, _, hx, e⟩
          · exact wpAny_pure (q.no (none_there he fun j hj => hno j (by rw [hr]; exact hj)))
          · exact wpAny_pure (q.yes j x hx e))
  · by_cases c : ((u :: (plc w es k).filterMap fun i => es[i]?.map (·.key)).all carriedByValue) = true
    · rw [if_pos c]; exact plain rfl
    · rw [if_neg c]
      split
      · rename_i a _
        rw [if_neg (stale a rfl)]
        by_cases c2 : (((plc w es k).filterMap fun i => es[i]?.map (·.key)) == [Value.ref a]) = true <;> (first | rw [if_pos c2] | rw [if_neg c2]) <;> (first | refine wpAny_bind (wpAny_pure ?_) | refine wpAny_bind (may_tell hk hkd hst ?_)) <;> (
        rw [if_neg (by simp)]
        refine wpAny_bind ?_
        refine wpAny_forIn_list _ (fun rest b s' => s' = s ∧ ∃ hit done, b = (none, hit) ∧ done ++ rest = plc w es k ∧ ((hit = none ∧ ∀ j ∈ done, ∀ x, xs[j]? = some x → x.1 ≠ k) ∨ ∃ j x, hit = some j ∧ j ∈ done ∧ xs[j]? = some x ∧ x.1 = k)) _ ?_ ?_ _ _ ⟨rfl, none, [], rfl, rfl, .inl ⟨rfl, fun _ h => nomatch h⟩⟩
        · rintro j rest b s' ⟨rfl, hit, done, rfl, hr, hH⟩
          have hm : j ∈ plc w es k := by rw [← hr]; exact List.mem_append_right _ List.mem_cons_self
          obtain ⟨hj, hp⟩ := plc_mem.mp hm
          obtain ⟨x, hx⟩ : ∃ x, xs[j]? = some x := ⟨xs[j]'(by rw [← ent_size he]; exact hj), List.getElem?_eq_getElem _⟩
          have ex : es[j]? = some (entD w x) := by rw [ent_at he j, hx]; rfl
          rw [ex] at hp ⊢
          dsimp only
          have hh : ((entD w x).hash == k.hash w) = true := by simpa using hp
          rw [if_pos hh]
          obtain ⟨n1, n2⟩ := his x (List.mem_of_getElem? hx)
          have more : done ++ [j] ++ rest = plc w es k := by rw [← hr, List.append_assoc]; rfl
          refine wpAny_bind (wpAny_dictEpoch ho hd (wpAny_bind (eqAt_key x.1 k A s' _ _ n1 hk (by omega) _ _ _ _ (wpAny_bind (wpAny_dictEpoch ho hd ?_)))))
          show wpAny _ _ (if (ep != ep) = true then _ else _) _ E _
          rw [if_neg (by simp), ← NestedKey.decide_eq]
          by_cases e : x.1 = k
          · rw [decide_eq_true e]
            first | rw [if_pos rfl] | skip
            rcases hH with ⟨rfl, _⟩ | ⟨i, y, _, hi, hy, ey⟩
            · simp only [Option.isSome_none, Bool.false_eq_true, if_false]
              first | refine wpAny_bind (wpAny_pure ?_) | skip
              refine wpAny_bind (wpAny_rule ?_)
              split
              · exact wpAny_pure (wpAny_pure (q.yes j x hx e))
              · exact wpAny_pure ⟨rfl, some j, done ++ [j], rfl, more, .inr ⟨j, x, rfl, List.mem_append_right _ (List.mem_singleton.mpr rfl), hx, e⟩⟩
            · exfalso
              have ij : i = j := key_once hn hy hx (ey.trans e.symm)
              have nd : (done ++ j :: rest).Nodup := by rw [hr]; exact plc_nodup
              rw [List.nodup_append] at nd
              exact nd.2.2 i hi j List.mem_cons_self ij
          · rw [decide_eq_false e]
            simp only [Bool.false_eq_true, if_false]
            refine wpAny_bind (wpAny_rule ?_)
            have nx : (hit = none ∧ ∀ i ∈ done ++ [j], ∀ y, xs[i]? = some y → y.1 ≠ k) ∨ ∃ i y, hit = some i ∧ i ∈ done ++ [j] ∧ xs[i]? = some y ∧ y.1 = k := by
              rcases hH with ⟨h0, hno⟩ | ⟨i, y, h0, hi, hy⟩
              · refine .inl ⟨h0, fun i hi y hy => ?_⟩
                rcases List.mem_append.mp hi with z | z
                · exact hno i z y hy
                · rw [List.mem_singleton.mp z, hx] at hy
                  cases hy
                  exact e
              · exact .inr ⟨i, y, h0, List.mem_append_left _ hi, hy⟩
            first | rw [if_neg (by simp)] | skip
            first
              | exact wpAny_pure ⟨rfl, hit, done ++ [j], rfl, more, nx⟩
              | exact wpAny_bind (wpAny_pure (wpAny_pure ⟨rfl, hit, done ++ [j], rfl, more, nx⟩))
        · rintro b s' ⟨rfl, hit, done, rfl, hr, hH⟩
          rw [List.append_nil] at hr
          rcases hH with ⟨rfl, hno⟩ | ⟨j, x, rfl, _, hx, e⟩
          · exact wpAny_pure (q.no (none_there he fun j hj => hno j (by rw [hr]; exact hj)))
          · exact wpAny_pure (q.yes j x hx e))
      · skip
        by_cases c2 : (((plc w es k).filterMap fun i => es[i]?.map (·.key)) == [u]) = true <;> (first | rw [if_pos c2] | rw [if_neg c2]) <;> (first | refine wpAny_bind (wpAny_pure ?_) | refine wpAny_bind (may_tell hk hkd hst ?_)) <;> (
        rw [if_neg (by simp)]
        refine wpAny_bind ?_
        refine wpAny_forIn_list _ (fun rest b s' => s' = s ∧ ∃ hit done, b = (none, hit) ∧ done ++ rest = plc w es k ∧ ((hit = none ∧ ∀ j ∈ done, ∀ x, xs[j]? = some x → x.1 ≠ k) ∨ ∃ j x, hit = some j ∧ j ∈ done ∧ xs[j]? = some x ∧ x.1 = k)) _ ?_ ?_ _ _ ⟨rfl, none, [], rfl, rfl, .inl ⟨rfl, fun _ h => nomatch h⟩⟩
        · rintro j rest b s' ⟨rfl, hit, done, rfl, hr, hH⟩
          have hm : j ∈ plc w es k := by rw [← hr]; exact List.mem_append_right _ List.mem_cons_self
          obtain ⟨hj, hp⟩ := plc_mem.mp hm
          obtain ⟨x, hx⟩ : ∃ x, xs[j]? = some x := ⟨xs[j]'(by rw [← ent_size he]; exact hj), List.getElem?_eq_getElem _⟩
          have ex : es[j]? = some (entD w x) := by rw [ent_at he j, hx]; rfl
          rw [ex] at hp ⊢
          dsimp only
          have hh : ((entD w x).hash == k.hash w) = true := by simpa using hp
          rw [if_pos hh]
          obtain ⟨n1, n2⟩ := his x (List.mem_of_getElem? hx)
          have more : done ++ [j] ++ rest = plc w es k := by rw [← hr, List.append_assoc]; rfl
          refine wpAny_bind (wpAny_dictEpoch ho hd (wpAny_bind (eqAt_key x.1 k A s' _ _ n1 hk (by omega) _ _ _ _ (wpAny_bind (wpAny_dictEpoch ho hd ?_)))))
          show wpAny _ _ (if (ep != ep) = true then _ else _) _ E _
          rw [if_neg (by simp), ← NestedKey.decide_eq]
          by_cases e : x.1 = k
          · rw [decide_eq_true e]
            first | rw [if_pos rfl] | skip
            rcases hH with ⟨rfl, _⟩ | ⟨i, y, _, hi, hy, ey⟩
            · simp only [Option.isSome_none, Bool.false_eq_true, if_false]
              first | refine wpAny_bind (wpAny_pure ?_) | skip
              refine wpAny_bind (wpAny_rule ?_)
              split
              · exact wpAny_pure (wpAny_pure (q.yes j x hx e))
              · exact wpAny_pure ⟨rfl, some j, done ++ [j], rfl, more, .inr ⟨j, x, rfl, List.mem_append_right _ (List.mem_singleton.mpr rfl), hx, e⟩⟩
            · exfalso
              have ij : i = j := key_once hn hy hx (ey.trans e.symm)
              have nd : (done ++ j :: rest).Nodup := by rw [hr]; exact plc_nodup
              rw [List.nodup_append] at nd
              exact nd.2.2 i hi j List.mem_cons_self ij
          · rw [decide_eq_false e]
            simp only [Bool.false_eq_true, if_false]
            refine wpAny_bind (wpAny_rule ?_)
            have nx : (hit = none ∧ ∀ i ∈ done ++ [j], ∀ y, xs[i]? = some y → y.1 ≠ k) ∨ ∃ i y, hit = some i ∧ i ∈ done ++ [j] ∧ xs[i]? = some y ∧ y.1 = k := by
              rcases hH with ⟨h0, hno⟩ | ⟨i, y, h0, hi, hy⟩
              · refine .inl ⟨h0, fun i hi y hy => ?_⟩
                rcases List.mem_append.mp hi with z | z
                · exact hno i z y hy
                · rw [List.mem_singleton.mp z, hx] at hy
                  cases hy
                  exact e
              · exact .inr ⟨i, y, h0, List.mem_append_left _ hi, hy⟩
            first | rw [if_neg (by simp)] | skip
            first
              | exact wpAny_pure ⟨rfl, hit, done ++ [j], rfl, more, nx⟩
              | exact wpAny_bind (wpAny_pure (wpAny_pure ⟨rfl, hit, done ++ [j], rfl, more, nx⟩))
        · rintro b s' ⟨rfl, hit, done, rfl, hr, hH⟩
          rw [List.append_nil] at hr
          rcases hH with ⟨rfl, hno⟩ | ⟨j, x, rfl, _, hx, e⟩
          · exact wpAny_pure (q.no (none_there he fun j hj => hno j (by rw [hr]; exact hj)))
          · exact wpAny_pure (q.yes j x hx e))
end
end FvD


set_option maxHeartbeats 2000000
namespace FvD
open PySem PySem.Spec PyProof.Rows L2
/-! ### storing and reading, by the entries -/
def storedN (xs : List KE3) (k : NestedKey) (u v : Value) : List KE3 :=
  if (xs.any fun x => decide (x.1 = k)) = true then xs.map (fun x => if x.1 = k then (x.1, x.2.1, v) else x) else xs ++ [(k, u, v)]
theorem any_key {xs : List KE3} {k : NestedKey} : (xs.any fun x => decide (x.1 = k)) = true ↔ ∃ x ∈ xs, x.1 = k := by
  simp [List.any_eq_true]
theorem modify_key (w : World) (k : NestedKey) (v : Value) : ∀ (xs : List KE3) (j : Nat) (x : KE3), (xs.map (·.1)).Nodup → xs[j]? = some x → x.1 = k →
    (xs.map (entD w)).modify j (fun e => { e with val := v }) = (xs.map (fun x => if x.1 = k then (x.1, x.2.1, v) else x)).map (entD w)
  | [], j, x, _, hj, _ => by simp at hj
  | y :: xs, 0, x, hn, hj, e => by
    simp only [List.getElem?_cons_zero, Option.some.injEq] at hj
    subst hj
    rw [List.map_cons, List.nodup_cons] at hn
    have rest : xs.map (fun x => if x.1 = k then (x.1, x.2.1, v) else x) = xs := by
      exact (List.map_congr_left fun x hx => by
        rw [if_neg]
        · rfl
        · intro z
          exact hn.1 (List.mem_map.mpr ⟨x, hx, z.trans e.symm⟩)).trans (List.map_id xs)
    rw [List.map_cons, List.map_cons, List.map_cons, rest, if_pos e]
    rfl
  | y :: xs, j + 1, x, hn, hj, e => by
    simp only [List.getElem?_cons_succ] at hj
    rw [List.map_cons, List.nodup_cons] at hn
    have ne : ¬ y.1 = k := fun z => hn.1 (List.mem_map.mpr ⟨x, List.mem_of_getElem? hj, e.trans z.symm⟩)
    rw [List.map_cons, List.map_cons, List.map_cons, if_neg ne]
    show entD w y :: (xs.map (entD w)).modify j _ = _
    rw [modify_key w k v xs j x hn.2 hj e]
/-- the dict at d holds xs -/
def NdAt (w : World) (h : Heap) (d : Addr) (xs : List KE3) : Prop := ∃ o es ep, h.get? d = some o ∧ o.ExactDict ∧ o.data = .dict es ep ∧ es.toList = xs.map (entD w)
theorem NdAt.ty {w : World} {s : Shared} {d : Addr} {xs : List KE3} (h : NdAt w s.heap d xs) : s.TypeIs (.ref d) "dict" := let ⟨o, _, _, ho, hc, _⟩ := h; ⟨o, ho, hc.1⟩
section
variable {prog : Program} {w : World} {A : Around} {E : Value → Shared → Prop} {s : Shared} {d : Addr} {xs : List KE3} {k : NestedKey} {u : Value}
def valN (xs : List KE3) (k : NestedKey) : Option Value := (xs.find? fun x => decide (x.1 = k)).map (·.2.2)
theorem valN_none (h : ∀ x ∈ xs, x.1 ≠ k) : valN xs k = none := by
  have : (xs.find? fun x => decide (x.1 = k)) = none := by
    rw [List.find?_eq_none]
    intro x hx e
    exact h x hx (of_decide_eq_true e)
  unfold valN
  rw [this]
  rfl
theorem valN_some (hn : (xs.map (·.1)).Nodup) {j : Nat} {x : KE3} (hj : xs[j]? = some x) (e : x.1 = k) : valN xs k = some x.2.2 := by
  unfold valN
  cases hf : xs.find? fun x => decide (x.1 = k) with
  | none => exact absurd e (by simpa using List.find?_eq_none.mp hf x (List.mem_of_getElem? hj))
  | some y =>
    have ey : y.1 = k := by
      have z := List.find?_some hf
      exact of_decide_eq_true z
    obtain ⟨i, hi⟩ := List.mem_iff_getElem?.mp (List.mem_of_find?_eq_some hf)
    have ij := key_once hn hi hj (ey.trans e.symm)
    rw [ij, hj] at hi
    cases hi
    rfl
theorem nd_get {Q : Option Value → Shared → Prop} (hu : A.units + 8 < cLine) (hk : NestedIs s.heap k u) (hkd : k.depth ≤ 8) (hm : NdAt w s.heap d xs) (hn : (xs.map (·.1)).Nodup)
    (his : ∀ x ∈ xs, NestedIs s.heap x.1 x.2.1 ∧ x.1.depth ≤ 8) (q : Q (valN xs k) { s with toks := s.toks + k.draws }) : wpAny (model prog w) A (dictGet d u) Q E s := by
  obtain ⟨o, es, ep, ho, hc, hd, he⟩ := hm
  unfold dictGet
  try with_reducible refine wpAny_holding ?_
  refine wpAny_bind (pyHash_key k u A s _ hk (by omega) (wpAny_bind (nd_find (s := { s with toks := s.toks + k.draws }) hu hk hkd ho hd he hn his ⟨fun h => ?_, fun j x hj e => ?_⟩)))
  · rw [valN_none h] at q
    exact wpAny_pure q
  · rw [valN_some hn hj e] at q
    refine wpAny_bind (wpAny_dictEntries (s := { s with toks := s.toks + k.draws }) ho hd ?_)
    rw [ent_at he j, hj]
    exact wpAny_pure q
theorem nd_set {v : Value} {Q : Unit → Shared → Prop} (hu : A.units + 8 < cLine) (hk : NestedIs s.heap k u) (hkd : k.depth ≤ 8) (hm : NdAt w s.heap d xs) (hn : (xs.map (·.1)).Nodup)
    (his : ∀ x ∈ xs, NestedIs s.heap x.1 x.2.1 ∧ x.1.depth ≤ 8) (hsz : xs.length ≤ sizeLine) (q : ∀ h', NdAt w h' d (storedN xs k u v) → Heap.SameBut d s.heap h' → Q () { s with heap := h', toks := s.toks + k.draws }) : wpAny (model prog w) A (dictSet d u v) Q E s := by
  obtain ⟨o, es, ep, ho, hc, hd, he⟩ := hm
  unfold dictSet
  try with_reducible refine wpAny_holding ?_
  refine wpAny_bind (pyHash_key k u A s _ hk (by omega) ?_)
  unfold dictSetHashed
  try with_reducible refine wpAny_holding ?_
  refine wpAny_bind (nd_find (s := { s with toks := s.toks + k.draws }) hu hk hkd ho hd he hn his ⟨fun h => ?_, fun j x hj e => ?_⟩)
  · have no : ¬ (xs.any fun x => decide (x.1 = k)) = true := fun z => by
      obtain ⟨x, hx, e⟩ := any_key.mp z
      exact h x hx e
    refine wpAny_bind (wpAny_rule (wpAny_updateDictKeys (hz := by have e := ent_size he; omega) (s := { s with toks := s.toks + k.draws }) ho hd (q _ ⟨_, _, ep + 1, Heap.get?_update_self _ ho (Obj.isFreed_of_dict (Obj.data_mapDictKeys hd _)),
      hc.mapDictKeys _, Obj.data_mapDictKeys hd _, ?_⟩ (Heap.SameBut.update ..))))
    unfold storedN
    rw [if_neg no]
    simp [he, entD]
  · have yes : (xs.any fun x => decide (x.1 = k)) = true := any_key.mpr ⟨x, List.mem_of_getElem? hj, e⟩
    refine wpAny_bind (wpAny_rule (wpAny_bind (wpAny_updateDict (s := { s with toks := s.toks + k.draws }) ho hd (wpAny_point (q _ ⟨_, _, ep, Heap.get?_update_self _ ho (Obj.isFreed_of_dict (Obj.data_mapDict hd _)),
      hc.mapDict _, Obj.data_mapDict hd _, ?_⟩ (Heap.SameBut.update ..))))))
    unfold storedN
    rw [if_pos yes]
    have z := modify_key w k v xs j x hn hj e
    rw [← he] at z
    obtain ⟨l⟩ := es
    simpa using z
theorem set_item {v : Value} {Q : Unit → Shared → Prop} (hu : A.units + 9 < cLine) (hk : NestedIs s.heap k u) (hkd : k.depth ≤ 8) (hm : NdAt w s.heap d xs) (hn : (xs.map (·.1)).Nodup)
    (his : ∀ x ∈ xs, NestedIs s.heap x.1 x.2.1 ∧ x.1.depth ≤ 8) (hsz : xs.length ≤ sizeLine) (q : ∀ h', NdAt w h' d (storedN xs k u v) → Heap.SameBut d s.heap h' → Q () { s with heap := h', toks := s.toks + k.draws }) :
    wpAny (model prog w) A (setItem (.ref d) u v) Q E s := by
  unfold setItem
  try with_reducible refine wpAny_holding ?_
  refine wpAny_bind (wpAny_sequenceKey hm.ty (by decide) ?_)
  refine wpAny_bind (wpAny_callSpecial?_slot (name := Str.ofString "__setitem__") hm.ty slot_dict_setitem (wpAny_call_entry slot_dict_setitem hm.ty entry_dict_setitem ?_ (args_dict_setitem _ _ _)))
  show wpAny _ _ (Builtin.Dict.notOrdered "__setitem__" ⟨[.ref d, u, v], []⟩ >>= _) _ _ s
  refine wpAny_bind (wpAny_notOrdered_dict hm.ty ?_)
  show wpAny _ _ (dictSet d u v >>= _) _ _ s
  exact wpAny_bind (nd_set (A := A.in1) (by show A.units + 1 + 8 < _; omega) hk hkd hm hn his hsz fun h' m' s' => wpAny_pure ⟨.none, rfl, wpAny_pure (q h' m' s')⟩)
theorem get_item {x : Value} {Q : Value → Shared → Prop} (hu : A.units + 9 < cLine) (hk : NestedIs s.heap k u) (hkd : k.depth ≤ 8) (hm : NdAt w s.heap d xs) (hn : (xs.map (·.1)).Nodup)
    (his : ∀ x ∈ xs, NestedIs s.heap x.1 x.2.1 ∧ x.1.depth ≤ 8) (hx : valN xs k = some x) (q : Q x { s with toks := s.toks + k.draws }) : wpAny (model prog w) A (getItem (.ref d) u) Q E s := by
  unfold getItem
  try with_reducible refine wpAny_holding ?_
  refine wpAny_bind (wpAny_sequenceKey hm.ty (by decide) ?_)
  refine wpAny_bind (wpAny_callSpecial?_slot (name := Str.ofString "__getitem__") hm.ty slot_dict_getitem (wpAny_call_entry slot_dict_getitem hm.ty entry_dict_getitem ?_ (args_dict_getitem _ _)))
  show wpAny _ _ (dictGet d u >>= _) _ _ s
  refine wpAny_bind (nd_get (A := A.in1) (by show A.units + 1 + 8 < _; omega) hk hkd hm hn his ?_)
  rw [hx]
  exact wpAny_pure ⟨x, rfl, wpAny_pure q⟩
end
end FvD


set_option maxHeartbeats 2000000
namespace FvD
open PySem PySem.Spec PyProof.Rows L2 Fv
/-! ### data as keys -/
mutual
def nk : PyData → NestedKey
  | .str x => .text x
  | .tuple ds => .tup (nks ds)
  | .int i => .num i
  | .bool b => .num (if b = true then 1 else 0)
  | _ => .none
def nks : List PyData → List NestedKey
  | [] => []
  | d :: ds => nk d :: nks ds
end
mutual
/-- texts, and tuples of such, nested at most n deep -/
def kd : Nat → PyData → Bool
  | _, .str _ => true
  | n + 1, .tuple ds => kdAll n ds
  | _, _ => false
def kdAll : Nat → List PyData → Bool
  | _, [] => true
  | n, d :: ds => kd n d && kdAll n ds
end
theorem kd_str {n : Nat} {x : Str} : kd n (.str x) = true := by cases n <;> rfl
theorem kdAll_iff {n : Nat} : ∀ {ds : List PyData}, kdAll n ds = true ↔ ∀ d ∈ ds, kd n d = true
  | [] => by simp [kdAll]
  | d :: ds => by simp [kdAll, kdAll_iff (n := n) (ds := ds)]
mutual
theorem kd_depth : ∀ (n : Nat) (d : PyData), kd n d = true → (nk d).depth ≤ n
  | n, .str x, _ => by simp [nk, NestedKey.depth]
  | n + 1, .tuple ds, h => by
    have q := kdAll_depth n ds (by simpa [kd] using h)
    simp only [nk, NestedKey.depth]
    omega
  | 0, .tuple _, h => by simp [kd] at h
  | n, .none, h => by cases n <;> simp [kd] at h
  | n, .bool _, h => by cases n <;> simp [kd] at h
  | n, .int _, h => by cases n <;> simp [kd] at h
  | n, .list _, h => by cases n <;> simp [kd] at h
  | n, .dict _, h => by cases n <;> simp [kd] at h
theorem kdAll_depth : ∀ (n : Nat) (ds : List PyData), kdAll n ds = true → NestedKey.depthAll (nks ds) ≤ n
  | n, [], _ => by simp [nks, NestedKey.depthAll]
  | n, d :: ds, h => by
    simp only [kdAll, Bool.and_eq_true] at h
    have a := kd_depth n d h.1
    have b := kdAll_depth n ds h.2
    simp only [nks, NestedKey.depthAll]
    omega
end
mutual
theorem nk_inj : ∀ (n m : Nat) (d e : PyData), kd n d = true → kd m e = true → nk d = nk e → d = e
  | n, m, .str x, .str y, _, _, h => by simp only [nk] at h; injection h with h; rw [h]
  | n + 1, m + 1, .tuple ds, .tuple es, hd, he, h => by
    simp only [nk] at h
    injection h with h
    rw [nks_inj n m ds es (by simpa [kd] using hd) (by simpa [kd] using he) h]
  | n, m, .str x, .tuple es, _, _, h => by simp only [nk] at h; cases h
  | n, m, .tuple es, .str x, _, _, h => by simp only [nk] at h; cases h
  | 0, m, .tuple es, e, hd, _, h => by simp [kd] at hd
  | n, 0, d, .tuple es, _, he, h => by simp [kd] at he
  | n, m, .none, e, hd, _, _ => by cases n <;> simp [kd] at hd
  | n, m, .bool _, e, hd, _, _ => by cases n <;> simp [kd] at hd
  | n, m, .int _, e, hd, _, _ => by cases n <;> simp [kd] at hd
  | n, m, .list _, e, hd, _, _ => by cases n <;> simp [kd] at hd
  | n, m, .dict _, e, hd, _, _ => by cases n <;> simp [kd] at hd
  | n, m, d, .none, _, he, _ => by cases m <;> simp [kd] at he
  | n, m, d, .bool _, _, he, _ => by cases m <;> simp [kd] at he
  | n, m, d, .int _, _, he, _ => by cases m <;> simp [kd] at he
  | n, m, d, .list _, _, he, _ => by cases m <;> simp [kd] at he
  | n, m, d, .dict _, _, he, _ => by cases m <;> simp [kd] at he
theorem nks_inj : ∀ (n m : Nat) (ds es : List PyData), kdAll n ds = true → kdAll m es = true → nks ds = nks es → ds = es
  | n, m, [], [], _, _, _ => rfl
  | n, m, d :: ds, e :: es, hd, he, h => by
    simp only [kdAll, Bool.and_eq_true] at hd he
    simp only [nks] at h
    injection h with h1 h2
    rw [nk_inj n m d e hd.1 he.1 h1, nks_inj n m ds es hd.2 he.2 h2]
  | n, m, [], e :: es, _, _, h => by simp only [nks] at h; cases h
  | n, m, d :: ds, [], _, _, h => by simp only [nks] at h; cases h
end
section
variable {X : Cx} {pins : List (Addr × Obj)} {σ : L2.St} {H : Hp} {s : Shared}
mutual
theorem dp_key (I : Inv X pins σ H s) : ∀ (n : Nat) (d : PyData) (v : V) (u : Value), kd n d = true → Dp X.K H v d → RelV v u → NestedIs s.heap (nk d) u
  | n, .str x, v, u, _, h, r => by
    cases h
    obtain ⟨t, rfl⟩ := r
    exact .text x t
  | n + 1, .tuple ds, v, u, hk, h, r => by
    cases h with
    | tup hs ha =>
      cases r
      obtain ⟨its, rv, ⟨o, ho, hc, m, hd⟩, hz⟩ := I.tuple hs
      exact .tup ho hc hd (by simpa using dpAll_key I n ds _ its (by simpa [kd] using hk) ha rv)
  | 0, .tuple _, _, _, hk, _, _ => by simp [kd] at hk
  | n, .none, _, _, hk, _, _ => by cases n <;> simp [kd] at hk
  | n, .bool _, _, _, hk, _, _ => by cases n <;> simp [kd] at hk
  | n, .int _, _, _, hk, _, _ => by cases n <;> simp [kd] at hk
  | n, .list _, _, _, hk, _, _ => by cases n <;> simp [kd] at hk
  | n, .dict _, _, _, hk, _, _ => by cases n <;> simp [kd] at hk
theorem dpAll_key (I : Inv X pins σ H s) : ∀ (n : Nat) (ds : List PyData) (vs : List V) (us : List Value), kdAll n ds = true → DpAll X.K H vs ds → Vals vs us → NestedAll s.heap (nks ds) us
  | n, [], vs, us, _, h, r => by cases h; cases r; exact .nil
  | n, d :: ds, vs, us, hk, h, r => by
    simp only [kdAll, Bool.and_eq_true] at hk
    cases h with
    | cons h1 h2 =>
      cases r with
      | cons r1 r2 => exact .cons (dp_key I n d _ _ hk.1 h1 r1) (dpAll_key I n ds _ _ hk.2 h2 r2)
end
end
/-! ### the dict, tracked -/
abbrev NKV := PyData × V × V
def RelN (p : NKV) (q : KE3) : Prop := nk p.1 = q.1 ∧ RelV p.2.1 q.2.1 ∧ RelV p.2.2 q.2.2
/-- a dict at a whose keys are data -/
def NdO (w : World) (a : Addr) (kvs : List NKV) : HO := .ext fun h => kvs.length ≤ sizeLine ∧ (a == sysModules) = false ∧ (kvs.map fun p => nk p.1).Nodup ∧ ∃ xs, Paired RelN kvs xs ∧ NdAt w h a xs
theorem ndO_ok {P : Program} {w : World} {H : Hp} {h : Heap} {a : Addr} {kvs : List NKV} {xs : List KE3} (z : kvs.length ≤ sizeLine) (hs : (a == sysModules) = false) (hn : (kvs.map fun p => nk p.1).Nodup) (r : Paired RelN kvs xs) (hd : NdAt w h a xs) : ObjOk P w H h a (NdO w a kvs) := by
  refine ⟨⟨z, hs, hn, xs, r, hd⟩, let ⟨o, _, _, ho, _⟩ := hd; ⟨o, ho⟩, fun h1 h2 ⟨a1, a2, a3, xs, a4, o, es, ep, ho, q⟩ k => ⟨a1, a2, a3, xs, a4, o, es, ep, k o ho, q⟩⟩
/-- all keys are there -/
def KyOk (K : PySem.W.Frag) (H : Hp) (kvs : List NKV) : Prop := ∀ p ∈ kvs, kd 8 p.1 = true ∧ Dp K H p.2.1 p.1
theorem relN_keys : ∀ {kvs : List NKV} {xs : List KE3}, Paired RelN kvs xs → (kvs.map fun p => nk p.1) = xs.map (·.1)
  | _, _, .nil => rfl
  | _, _, .cons h t => by rw [List.map_cons, List.map_cons, h.1, relN_keys t]
def putN (kvs : List NKV) (d : PyData) (y v : V) : List NKV :=
  if (kvs.any fun p => decide (nk p.1 = nk d)) = true then kvs.map (fun p => if nk p.1 = nk d then (p.1, p.2.1, v) else p) else kvs ++ [(d, y, v)]
theorem relN_any {k : NestedKey} : ∀ {kvs : List NKV} {xs : List KE3}, Paired RelN kvs xs → (kvs.any fun p => decide (nk p.1 = k)) = xs.any fun x => decide (x.1 = k)
  | _, _, .nil => rfl
  | _, _, .cons h t => by rw [List.any_cons, List.any_cons, h.1, relN_any t]
theorem relN_map {k : NestedKey} {v : V} {u : Value} (rv : RelV v u) : ∀ {kvs : List NKV} {xs : List KE3}, Paired RelN kvs xs → Paired RelN (kvs.map (fun p => if nk p.1 = k then (p.1, p.2.1, v) else p)) (xs.map (fun x => if x.1 = k then (x.1, x.2.1, u) else x))
  | _, _, .nil => .nil
  | _, _, .cons (a := p) (b := q) h t => by
    rw [List.map_cons, List.map_cons]
    refine .cons ?_ (relN_map rv t)
    by_cases e : nk p.1 = k
    · rw [if_pos e, if_pos (h.1 ▸ e)]
      exact ⟨h.1, h.2.1, rv⟩
    · rw [if_neg e, if_neg (h.1 ▸ e)]
      exact h
theorem relN_app {p : NKV} {q : KE3} (hp : RelN p q) : ∀ {kvs : List NKV} {xs : List KE3}, Paired RelN kvs xs → Paired RelN (kvs ++ [p]) (xs ++ [q])
  | _, _, .nil => .cons hp .nil
  | _, _, .cons h t => .cons h (relN_app hp t)
theorem relN_put {kvs : List NKV} {xs : List KE3} {d : PyData} {y v : V} {u r : Value} (h : Paired RelN kvs xs) (ry : RelV y u) (rv : RelV v r) : Paired RelN (putN kvs d y v) (storedN xs (nk d) u r) := by
  unfold putN storedN
  rw [relN_any h]
  by_cases c : (xs.any fun x => decide (x.1 = nk d)) = true
  · rw [if_pos c, if_pos c]; exact relN_map rv h
  · rw [if_neg c, if_neg c]; exact relN_app ⟨rfl, ry, rv⟩ h
theorem putN_keys (kvs : List NKV) (d : PyData) (y v : V) (h : (kvs.map fun p => nk p.1).Nodup) : ((putN kvs d y v).map fun p => nk p.1).Nodup := by
  unfold putN
  by_cases c : (kvs.any fun p => decide (nk p.1 = nk d)) = true
  · rw [if_pos c, List.map_map]
    have e : ((fun p : NKV => nk p.1) ∘ fun p => if nk p.1 = nk d then (p.1, p.2.1, v) else p) = fun p => nk p.1 := by
      funext p
      show nk (if nk p.1 = nk d then (p.1, p.2.1, v) else p).1 = nk p.1
      split <;> rfl
    rw [e]; exact h
  · rw [if_neg c, List.map_append, List.nodup_append]
    refine ⟨h, by simp, fun a ha b hb e => ?_⟩
    obtain ⟨p, hp, rfl⟩ := List.mem_map.mp ha
    have eb : b = nk d := by simpa using hb
    exact c (List.any_eq_true.mpr ⟨p, hp, decide_eq_true (e.trans eb)⟩)
theorem putN_len (kvs : List NKV) (d : PyData) (y v : V) : (putN kvs d y v).length ≤ kvs.length + 1 := by
  unfold putN
  split
  · rw [List.length_map]; omega
  · rw [List.length_append]; simp
section
variable {X : Cx} {pins : List (Addr × Obj)} {σ : L2.St} {H : Hp} {s : Shared} {A : Around} {E : Value → Shared → Prop}
theorem relN_is (I : Inv X pins σ H s) : ∀ {kvs : List NKV} {xs : List KE3}, Paired RelN kvs xs → KyOk X.K H kvs → ∀ x ∈ xs, NestedIs s.heap x.1 x.2.1 ∧ x.1.depth ≤ 8
  | _, _, .nil, _, x, hx => nomatch hx
  | _, _, .cons (a := p) h t, hk, x, hx => by
    rcases List.mem_cons.mp hx with e | hx
    · subst e
      obtain ⟨k1, k2⟩ := hk p List.mem_cons_self
      rw [← h.1]
      exact ⟨dp_key I 8 _ _ _ k1 k2 h.2.1, kd_depth 8 _ k1⟩
    · exact relN_is I t (fun q hq => hk q (List.mem_cons_of_mem _ hq)) x hx
/-- d[y] = v, with the state that it leaves -/
theorem d_setN {a : Addr} {kvs : List NKV} {d : PyData} {y v : V} {u r : Value} {Q : Unit → Shared → Prop} (hu : A.units + 9 < cLine) (I : Inv X pins σ H s) (ha : H a = some (NdO X.w a kvs)) (hk : KyOk X.K H kvs) (hd : kd 8 d = true) (hy : Dp X.K H y d) (ry : RelV y u) (rv : RelV v r) (hl : kvs.length < sizeLine)
    (q : ∀ h' t', Inv X pins σ (upd H a (NdO X.w a (putN kvs d y v))) { s with heap := h', toks := t' } → Q () { s with heap := h', toks := t' }) : wpAny (model X.prog X.w) A (setItem (.ref a) u r) Q E s := by
  obtain ⟨⟨z, hs, hn, xs, pr, hm⟩, _, _⟩ := I.hok a _ ha
  refine set_item hu (dp_key I 8 d y u hd hy ry) (kd_depth 8 d hd) hm (by rw [← relN_keys pr]; exact hn) (relN_is I pr hk) (by rw [← Paired.length pr]; exact z) fun h' m' sb => q h' _ ?_
  have hz := putN_len kvs d y v
  exact d_write I (by rw [ha]; exact True.intro) sb (let ⟨o, _, _, ho, _⟩ := m'; ⟨o, ho⟩) (ndO_ok (by omega) hs (putN_keys kvs d y v hn) (relN_put pr ry rv) m')
/-- {} -/
def tDNewN (w : World) : TE := fun _ H Q => ∀ a, H a = none → Q (.ref a) (upd H a (NdO w a []))
theorem pe_dnewN {pos : Pos} : PE X (.Dict [] [] pos) (tDNewN X.w) := by
  refine ⟨fun pins s σ H Q I h => ?_⟩
  have hb : (s.heap.objs.size == sysModules) = false := beq_eq_false_iff_ne.mpr (Nat.ne_of_gt I.big)
  refine wpAny_Dict_empty ⟨.ref s.heap.objs.size, _, I.laid (a := s.heap.objs.size) (o := NdO X.w s.heap.objs.size []) (t' := s.toks) (fun _ _ q => Heap.get?_push_of_some _ q) (Nat.le_refl _) ?_, rfl, h _ (I.hok.fresh (Nat.le_refl _))⟩
  exact ndO_ok (Nat.zero_le _) hb List.nodup_nil .nil ⟨_, #[], 0, Heap.get?_push_size _ rfl, ⟨rfl, rfl, rfl⟩, rfl, rfl⟩
/-- d[y] = v -/
def sNPut (K : PySem.W.Frag) (w : World) (td ty tv : TE) : TS := fun D σ H => tv σ H fun v H1 => td σ H1 fun x H2 => ty σ H2 fun y H3 => ∃ a kvs d, x = .ref a ∧ H3 a = some (NdO w a kvs) ∧ KyOk K H3 kvs ∧ kd 8 d = true ∧ Dp K H3 y d ∧ kvs.length < sizeLine ∧ D.nx σ (upd H3 a (NdO w a (putN kvs d y v)))
theorem ps_dputN {o i value : Expr} {td ty tv : TE} {pos pos' : Pos} (hu : X.A.units + 9 < cLine) (ho : PE X o td) (hi : PE X i ty) (hv : PE X value tv) (hs : swapsWith value (some (.Subscript o i pos')) pos.line X.env = pure false) : PS X (.Assign [.Subscript o i pos'] value pos) (sNPut X.K X.w td ty tv) := by
  refine ⟨fun pins s σ H D I h => ?_⟩
  refine wpAny_Assign_Subscript (thn (hv.run pins s σ H _ I h) fun r s1 ⟨v, H1, I1, rv, q1⟩ => thn (ho.run pins s1 σ H1 _ I1 q1) fun u s2 ⟨x, H2, I2, rx, q2⟩ => thn (hi.run pins s2 σ H2 _ I2 q2) fun iv s3 ⟨y, H3, I3, ry, a, kvs, d, ex, g1, g2, g3, g4, g5, q3⟩ => ?_) hs
  subst ex
  obtain rfl : u = Value.ref a := rx
  exact d_setN hu I3 g1 g2 g3 g4 ry rv g5 fun h' t' I4 => ⟨σ, _, I4, q3⟩
/-- list(d): its keys -/
theorem call_listN (hc : X.calm = true) : CallR X (.type "list") (fun xs H Q => ∃ (a : Addr) (kvs : List NKV), xs = [.ref a] ∧ H a = some (NdO X.w a kvs) ∧ ∀ p, H p = none → Q (.ref p) (upd H p (.lst (kvs.map fun kv => kv.2.1)))) := by
  intro pins s σ H xs us Q I r h
  obtain ⟨a, kvs, rfl, ha, q⟩ := h
  obtain ⟨u, rfl, rx⟩ := r.one
  cases rx
  obtain ⟨⟨z, hs, hn, ks, pr, o, es, ep, ho, hx, hdt, he⟩, _, _⟩ := I.hok a _ ha
  have l1 : es.size = ks.length := ent_size he
  have l2 : kvs.length = ks.length := Paired.length pr
  refine PySem.W.kdl_call (kdl_raw hs hx hdt) (I.ok.hd hc) ho (by omega) fun h' tk acc c' kp e it => ?_
  have ea : acc.toList = ks.map fun x => x.2.1 := by
    have hl : acc.toList.length = ks.length := by rw [Array.length_toList, it.1]; exact l1
    apply List.ext_getElem?
    intro j
    rw [List.getElem?_map]
    cases hj : acc.toList[j]? with
    | none => rw [List.getElem?_eq_none (by have := List.getElem?_eq_none_iff.mp hj; omega)]; rfl
    | some v =>
      obtain ⟨en, hen, hv⟩ := it.2 j v (by rw [← Array.getElem?_toList]; exact hj)
      have qe := ent_at (w := X.w) he j
      rw [hen] at qe
      cases hb : ks[j]? with
      | none => rw [hb] at qe; exact nomatch qe
      | some b =>
        rw [hb] at qe
        have e2 : en = entD X.w b := Option.some.inj qe
        rw [hv, e2]
        rfl
  have vals : ∀ {kvs : List NKV} {ks : List KE3}, Paired RelN kvs ks → Vals (kvs.map fun kv => kv.2.1) (ks.map fun x => x.2.1) := fun {kvs ks} pr => by
    induction pr with
    | nil => exact .nil
    | cons h _ ih => exact .cons h.2.1 ih
  refine ⟨.ref s.heap.objs.size, _, I.laid (t' := tk) (o := .lst (kvs.map fun kv => kv.2.1)) kp (Nat.le_refl _) ?_, rfl, q _ (I.hok.fresh (Nat.le_refl _))⟩
  exact ⟨by rw [List.length_map]; exact z, acc.toList, c', by rw [ea]; exact vals pr, by rw [Array.toArray_toList]; exact e⟩
end
end FvD


set_option maxHeartbeats 2000000
namespace FvG
open PySem PySem.Spec PyProof.Rows L2
/-! ### t[:0:-1] of a tuple: its items but the first one, from the last one down -/
theorem fm_congr {α β : Type} {f g : α → Option β} : ∀ {l : List α}, (∀ a ∈ l, f a = g a) → l.filterMap f = l.filterMap g
  | [], _ => rfl
  | a :: l, h => by
    rw [List.filterMap_cons, List.filterMap_cons, h a List.mem_cons_self, fm_congr (l := l) fun b hb => h b (List.mem_cons_of_mem _ hb)]
theorem back_pick (x : Value) (r : List Value) : ((List.range r.length).filterMap fun (k : Nat) => ((x :: r).toArray)[(((r.length : Nat) : Int) + (k : Int) * (-1)).toNat]?) = r.reverse := by
  have step : ∀ k ∈ List.range r.length, ((x :: r).toArray)[(((r.length : Nat) : Int) + (k : Int) * (-1)).toNat]? = r.reverse.toArray[k]? := fun k hk => by
    have hk' := List.mem_range.mp hk
    have e : (((r.length : Nat) : Int) + (k : Int) * (-1)).toNat = (r.length - 1 - k) + 1 := by omega
    rw [e, ← Array.getElem?_toList, ← Array.getElem?_toList]
    show r[r.length - 1 - k]? = r.reverse[k]?
    rw [List.getElem?_reverse hk']
  rw [fm_congr step]
  have := PySem.W.krv_all r.reverse.toArray
  rw [List.size_toArray, List.length_reverse] at this
  exact this
section
variable {prog : Program} {w : World} {A : Around} {E : Value → Shared → Prop} {s : Shared}
theorem applied_back {sl : Addr} {vl vu vs : Value} {n : Nat} {Q : Int × Int × Nat → Shared → Prop} (hs : s.heap.IsSliceOf sl vl vu vs) (pl : IsPart vl none) (pu : IsPart vu (some 0)) (ps : IsPart vs (some (-1)))
    (h : Q ((n : Int), -1, n) s) : wpAny (model prog w) A (Builtin.Slice.sliceApplied (.ref sl) (pure ((n + 1 : Nat) : Int))) Q E s := by
  obtain ⟨os, hos, hcs, hds⟩ := id hs
  unfold Builtin.Slice.sliceApplied Builtin.Slice.sliceFields
  refine wpAny_bind (wpAny_bind (wpAny_field hos hds (x := vl) rfl (wpAny_bind (wpAny_field hos hds (x := vu) rfl (wpAny_bind (wpAny_field hos hds (x := vs) rfl (wpAny_pure ?_)))))))
  refine wpAny_bind (HT.slicePart_ ps ?_)
  show wpAny _ _ (if ((-1 : Int) == 0) = true then _ else _) _ _ s
  rw [if_neg (by decide)]
  refine wpAny_bind (HT.slicePart_ pl (wpAny_bind (HT.slicePart_ pu (wpAny_bind (wpAny_pure ?_)))))
  have e1 : Builtin.Slice.sliceAdjust none (some 0) (-1) ((n + 1 : Nat) : Int) = ((n : Int), 0) := by
    unfold Builtin.Slice.sliceAdjust
    simp only [show ((-1 : Int) < 0) = True from by simp, if_true]
    refine Prod.ext ?_ ?_
    · show ((n + 1 : Nat) : Int) - 1 = (n : Int)
      omega
    · simp
      try omega
  have e2 : Builtin.Slice.slicePlaces (n : Int) 0 (-1) = n := by
    unfold Builtin.Slice.slicePlaces
    rw [if_neg (by decide)]
    by_cases hn : (n : Int) > 0
    · rw [if_pos hn]
      simp
      try omega
    · rw [if_neg hn]
      omega
  show wpAny _ _ (match Builtin.Slice.sliceAdjust none (some 0) (-1) ((n + 1 : Nat) : Int) with | (lo, hi) => pure (lo, (-1 : Int), Builtin.Slice.slicePlaces lo hi (-1))) _ _ s
  rw [e1]
  show wpAny _ _ (pure ((n : Int), (-1 : Int), Builtin.Slice.slicePlaces (n : Int) 0 (-1))) _ _ s
  rw [e2]
  exact wpAny_pure h
theorem item_back {t sl : Addr} {x : Value} {r : List Value} {vl vu vs : Value} {Q : Value → Shared → Prop} (ht : IsTup s.heap t (x :: r).toArray) (hs : s.heap.IsSliceOf sl vl vu vs) (pl : IsPart vl none) (pu : IsPart vu (some 0)) (ps : IsPart vs (some (-1)))
    (hz : r.length ≤ sizeLine) (h : Q (.ref s.heap.objs.size) { s with heap := s.heap.push { cls := .type "tuple", data := .seq r.reverse.toArray } }) : wpAny (model prog w) A (getItem (.ref t) (.ref sl)) Q E s := by
  obtain ⟨os, hos, hcs, hds⟩ := id hs
  have hTs : s.TypeIs (.ref sl) "slice" := ⟨os, hos, hcs⟩
  have fits : sizeOk (.seq r.reverse.toArray) := by
    show r.reverse.toArray.size ≤ sizeLine
    rw [List.size_toArray, List.length_reverse]
    exact hz
  unfold getItem
  try with_reducible refine wpAny_holding ?_
  first | refine wpAny_bind (wpAny_pure ?_) | skip
  refine wpAny_bind (wpAny_sequenceKey ht.typeIs (by decide) ?_)
  refine wpAny_bind (wpAny_callSpecial?_slot (name := Str.ofString "__getitem__") ht.typeIs PyProof.Rows.slot_tuple_getitem (wpAny_call_entry PyProof.Rows.slot_tuple_getitem ht.typeIs entry_tuple_getitem ?_ (args_tuple_getitem _ _)))
  show wpAny _ _ (Builtin.Tuple.tupleItemsOf (.ref t) >>= _) _ _ s
  refine wpAny_bind (PyProof.Rows.tupleItemsOf_ ht ?_)
  refine wpAny_bind (wpAny_typeOf hTs ?_)
  rw [if_pos (by decide)]
  have en : (x :: r).toArray.size = r.length + 1 := by rw [List.size_toArray, List.length_cons]
  rw [en]
  refine wpAny_bind (applied_back (n := r.length) hs pl pu ps ?_)
  show wpAny _ _ (if (((r.length : Nat) : Int) == 0 && (-1 : Int) == 1 && r.length == r.length + 1) = true then _ else _) _ _ s
  rw [if_neg (by rw [show ((-1 : Int) == 1) = false from by decide, Bool.and_false, Bool.false_and]; exact Bool.false_ne_true), back_pick]
  first
    | exact wpAny_bind (m := Builtin.Tuple.tupleExact _) (wpAny_newObj_type (wpAny_pure ⟨_, rfl, wpAny_pure h⟩) fits)
    | exact wpAny_bind (m := Builtin.Tuple.tupleExact _) (wpAny_newObj_type (wpAny_bind (wpAny_pure (wpAny_pure ⟨_, rfl, wpAny_pure h⟩))) fits)
    | exact wpAny_bind (wpAny_bind (m := Builtin.Tuple.tupleExact _) (wpAny_newObj_type (wpAny_pure (wpAny_pure ⟨_, rfl, wpAny_pure h⟩)) fits))
    | exact wpAny_bind (wpAny_bind (m := Builtin.Tuple.tupleExact _) (wpAny_newObj_type (wpAny_pure ⟨_, rfl, wpAny_pure h⟩) fits))
end
section
variable {X : Cx}
def tBackT (K : PySem.W.Frag) (te : TE) : TE := fun σ H Q => te σ H fun x H1 => ∃ a y ys, x = .ref a ∧ SqT K H1 a (y :: ys) ∧ ∀ p, H1 p = none → Q (.ref p) (upd H1 p (.tup ys.reverse))
theorem pe_backT {e : Expr} {te : TE} {k j : Nat} {p0 p1 p2 p3 pos : Pos} (he : PE X e te) : PE X (.Subscript e (.Slice none (some (.Constant (.int 0) j p0)) (some (.UnaryOp .USub (.Constant (.int 1) k p1) p2)) p3) pos) (tBackT X.K te) := by
  refine ⟨fun pins s σ H Q I h => ?_⟩
  refine Subscript_ (thn (he.run pins s σ H _ I h) fun v s1 ⟨x, H1, I1, r1, q1⟩ => ?_)
  obtain ⟨a, y, ys, ex, hx, q⟩ := q1
  subst ex
  cases r1
  have hst : PO X (some (.UnaryOp .USub (.Constant (.int 1) k p1) p2)) (tPart (tUn (rU fun i => .int (-i)) (tC (.int 1)))) := po_some (pe_un un_neg pe_int)
  have hup : PO X (some (.Constant (.int 0) j p0)) (tPart (tC (.int 0))) := po_some pe_int
  refine wpAny_Slice (thn (po_none.run pins s1 σ H1 (fun o H2 => o = none ∧ H2 = H1) I1 ⟨rfl, rfl⟩) fun vl s2 ⟨l, H2, I2, pl, el, e2⟩ => ?_)
  subst el e2
  refine thn (hup.run pins s2 σ H2 (fun o H3 => o = some 0 ∧ H3 = H2) I2 ⟨0, rfl, rfl, rfl⟩) fun vu s3 ⟨u, H3, I3, pu, eu, e3⟩ => ?_
  subst eu e3
  refine thn (hst.run pins s3 σ H3 (fun o H4 => o = some (-1) ∧ H4 = H3) I3 ⟨1, rfl, -1, rfl, rfl, rfl⟩) fun vs s4 ⟨o, H4, I4, ps, eo, e4⟩ => ?_
  subst eo e4
  have I5 : Inv X pins σ H4 { s4 with heap := s4.heap.push { cls := .type "slice", data := .fields #[vl, vu, vs] } } := I4.kept (t' := s4.toks) fun b ob q => Heap.get?_push_of_some _ q
  obtain ⟨its, r, ht, hz⟩ := I5.tuple hx
  cases r with
  | @cons _ u0 _ us r0 rs =>
    have hlen := rs.length
    have hz' : us.length ≤ sizeLine := by
      rw [List.length_cons] at hz
      omega
    show wpAny (model X.prog X.w) X.A (subscriptTail e (.Slice none (some (.Constant (.int 0) j p0)) (some (.UnaryOp .USub (.Constant (.int 1) k p1) p2)) p3) (.ref a) (.ref s4.heap.objs.size)) (EP X pins σ Q) X.xe { s4 with heap := s4.heap.push { cls := .type "slice", data := .fields #[vl, vu, vs] } }
    refine tail_any (ops := [.ref a, .ref s4.heap.objs.size]) ht.typeIs (PyProof.Rows.slot_tuple_getitem.lookup) ?_ (by with_unfolding_all rfl)
    refine item_back ht (Heap.IsSliceOf.new _ vl vu vs) pl pu ps hz' ?_
    refine ⟨.ref _, _, I5.laid (t' := s4.toks) (o := .tup ys.reverse) (fun b ob q => Heap.get?_push_of_some _ q) (Nat.le_refl _) ?_, rfl, q _ (I5.hok.fresh (Nat.le_refl _))⟩
    exact ⟨by rw [List.length_reverse, hlen]; exact hz', _, L2.Vals.reverse rs, IsTup.new _ _⟩
/-- l.extend(t) of a tuple -/
def rExtendT (K : PySem.W.Frag) : V → List V → Hp → VK → Prop := fun x vs H Q => ∃ l b xs zs, x = .ref l ∧ vs = [.ref b] ∧ H l = some (.lst xs) ∧ SqT K H b zs ∧ xs.length + zs.length ≤ sizeLine ∧ Q .non (upd H l (.lst (xs ++ zs)))
theorem ext_meets (l : Addr) (items : Array Value) (n : Nat) (b : Addr) (items2 : Array Value) (n2 : Nat) (dd : Option Addr) (sl : Array (Option Value)) (hs0 : ¬(!items.isEmpty && Builtin.List.listTooLong (items.size + items2.size)) = true) (hs1 : items.size ≤ sizeLine) (hs2 : items.size + items2.size ≤ sizeLine + 1) :
    Meets (Builtin.«list.extend» ⟨[.ref l, .ref b], []⟩) (fun _ R s => s.heap.get? l = some { cls := .type "list", dict := none, data := .seq items n, slots := #[] } ∧ s.heap.get? b = some { cls := .type "tuple", dict := dd, data := .seq items2 n2, slots := sl } ∧ R (.ok (.ret Value.none)) { s with heap := s.heap.update l (Obj.mapSeq fun x => x ++ items2), toks := s.toks }) :=
  .of_wp fun prog w A R s h => by
    obtain ⟨hp, g, d, tk, os⟩ := s
    obtain ⟨hl, hb, h⟩ := h
    have f1 := AutoSeq1.idx_int
    have f2 := AutoSeq1.sub_tuple_tuple
    have f3 := AutoSeq1.sub_list_list
    have f4 := AutoSeq1.sub_tuple_list
    have f5 := AutoSeq1.sub_list_tuple
    have hz' : (items ++ items2).size ≤ sizeLine + 1 := by rw [Array.size_append]; exact hs2
    wp_walk using (wpAny_updateSeq hl rfl (hz := hs1) (_hz' := hz')), AutoSeq1.wpAny_loadPart' hl, AutoSeq1.wpAny_loadPart' hb
    exact ⟨_, rfl, h⟩
theorem mt_extendT : MtM X "list.extend" (rExtendT X.K) := by
  intro pins s σ H x vs v us Q I rx rv h
  obtain ⟨l, b, xs, zs, rfl, rfl, hH, hB, hz, q⟩ := h
  cases rx
  obtain ⟨u, rfl, ru⟩ := rv.one
  cases ru
  obtain ⟨z, its, n, r, hl, e⟩ := I.lstM hH
  obtain ⟨its2, r2, ⟨⟨c2, dd, data, sl⟩, e2, hc2, n2, hd2⟩, hz2⟩ := I.tuple hB
  simp only at hc2 hd2
  subst hc2 hd2
  have hl2 := r2.length
  have hsz : its.toArray.size + its2.toArray.size ≤ sizeLine := by rw [List.size_toArray, List.size_toArray]; omega
  have hlong : ¬ (!its.toArray.isEmpty && Builtin.List.listTooLong (its.toArray.size + its2.toArray.size)) = true := by
    rw [notLongL hsz, Bool.and_false]
    exact Bool.false_ne_true
  refine call_meets F.slot_list_extend ⟨_, e, rfl⟩ F.entry_list_extend (F.args_list_extend_2 _ _) (ext_meets l its.toArray n b its2.toArray n2 dd sl hlong (by rw [List.size_toArray]; omega) (by omega)) ⟨e, e2, ?_⟩
  refine ⟨.non, _, I.lset (its' := its ++ its2) hH e (by simp) (r.append r2) ?_, rfl, q⟩
  rw [List.length_append]
  omega
end
end FvG


set_option maxHeartbeats 2000000
namespace FvG
open PySem PySem.Spec PyProof.Rows L2 GenW Fv
/-! ### a heap's lower part -/
theorem lower_part (h : Heap) (n : Nat) (hn : n ≤ h.objs.size) : ∃ G : Heap, G.objs.size = n ∧ (∀ b, b < n → G.get? b = h.get? b) ∧ ∀ b, n ≤ b → G.get? b = none := by
  refine ⟨{ h with objs := h.objs.extract 0 n }, ?_, fun b hb => ?_, fun b hb => ?_⟩
  · show (h.objs.extract 0 n).size = n
    rw [Array.size_extract]
    omega
  · have e : (h.objs.extract 0 n)[b]? = h.objs[b]? := by
      rw [Array.getElem?_extract]
      rw [if_pos (by omega), Nat.zero_add]
    unfold Heap.get?
    simp only [e]
  · have e : (h.objs.extract 0 n)[b]? = none := by
      rw [Array.getElem?_extract, if_neg (by omega)]
    unfold Heap.get?
    simp only [e]
/-- s0 is s below L -/
structure Low (L : Addr) (s0 s : Shared) : Prop where
  size : s0.heap.objs.size = L
  same : ∀ b o, s0.heap.get? b = some o → s.heap.get? b = some o
  back : ∀ b o, b < L → s.heap.get? b = some o → s0.heap.get? b = some o
  os : s0.os = s.os
theorem Low.refl (s : Shared) : Low s.heap.objs.size s s := ⟨rfl, fun _ _ e => e, fun _ _ _ e => e, rfl⟩
theorem low_of (s : Shared) {L : Addr} (h : L ≤ s.heap.objs.size) : ∃ s0, Low L s0 s := by
  obtain ⟨G, g1, g2, g3⟩ := lower_part s.heap L h
  refine ⟨{ s with heap := G }, g1, fun b o e => ?_, fun b o hb e => ?_, rfl⟩
  · by_cases hb : b < L
    · rw [← g2 b hb]; exact e
    · have z : G.get? b = some o := e
      rw [g3 b (Nat.le_of_not_lt hb)] at z
      cases z
  · show G.get? b = some o
    rw [g2 b hb]; exact e
/-- the addresses from L on -/
def high (L : Addr) (s : Shared) : List Addr := List.range' L (s.heap.objs.size - L)
theorem range_iff (L n b : Nat) : (L ≤ b ∧ b < L + (n - L)) ↔ (L ≤ b ∧ b < n) := by omega
theorem high_mem {L : Addr} {s : Shared} {b : Addr} : b ∈ high L s ↔ L ≤ b ∧ b < s.heap.objs.size := by
  unfold high
  rw [List.mem_range'_1]
  exact range_iff L s.heap.objs.size b
/-- what a run of the generator's, begun at s with H, has left for those who wait for it -/
structure Moved (P : Program) (w : World) (outer : List Env) (L : Addr) (W : List Addr) (H H1 : Hp) (s s1 : Shared) : Prop where
  os : s1.os = s.os
  bare : AllBare s1.gens
  un : Un (frs outer) (high L s) H H1 s.heap s1.heap
  hok : HOk P w H1 s1.heap
  sm : SmX W H H1
/-! ### the generator's frame, awake -/
/-- the context of a generator's code that was woken at s0; nothing leaves it -/
def wx (P : Program) (w : World) (K : PySem.W.Frag) (mg : Str → Option Value) (base : Heap) (N : List Str) (qual : Str) (scope : Scope) (f : Addr) (cd : Value) (A : Around) (outer : List Env) (L : Addr) (pn : List (Addr × Obj)) (s0 : Shared) (H0 : Hp) : Cx where
  prog := P
  w := w
  K := K
  mg := mg
  base := base
  A := A.deeper (envOfC qual scope L f cd)
  N := N
  s_0 := s0
  H_0 := H0
  env := envOfC qual scope L f cd
  outer := outer
  stack := envOfC qual scope L f cd :: outer
  ex := []
  fn := fun _ => true
  calm := true
  pn := pn
  xe := fun _ _ => False
section
variable {P : Program} {w : World} {K : PySem.W.Frag} {mg : Str → Option Value} {base : Heap} {N : List Str} {qual : Str} {scope : Scope} {f : Addr} {cd : Value} {A A' : Around} {outer : List Env} {L : Addr} {pn : List (Addr × Obj)} {s0 s s1 : Shared} {H H1 : Hp} {σ : L2.St} {W : List Addr}
/-- no name of the def is a cell -/
def NoCell (scope : Scope) : Prop := cellsFrom 0 scope.names [] = [] ∧ ∀ n, cellsFrom n scope.names [] = []
/-- what the sleeper's frame holds -/
structure Holds (N : List Str) (qual : Str) (scope : Scope) (f : Addr) (cd : Value) (L : Addr) (σ : L2.St) (h : Heap) : Prop where
  ns : ∃ m, h.Ns L m ∧ ∀ (i : Nat) (x : Str) (v : V), N[i]? = some x → σ[i]? = some (some v) → Vis scope x → ∃ u, RelV v u ∧ Look (envOfC qual scope L f cd) h m x u
  len : σ.length = N.length
theorem Holds.keep {h h' : Heap} {o : Obj} (nc : NoCell scope) (x : Holds N qual scope f cd L σ h) (e : h.get? L = some o) (e' : h'.get? L = some o) : Holds N qual scope f cd L σ h' := by
  obtain ⟨m, ⟨o', es, ep, ho, hr⟩, hl⟩ := x.ns
  rw [e] at ho
  cases ho
  refine ⟨⟨m, ⟨o, es, ep, e', hr⟩, fun i y v h1 h2 h3 => ?_⟩, x.len⟩
  obtain ⟨u, ru, lk⟩ := hl i y v h1 h2 h3
  refine ⟨u, ru, ?_⟩
  rcases lk with lk | ⟨_, c, hc, _⟩
  · exact .inl lk
  · exfalso
    have z : (cellsFrom (L + 1) scope.names []).lookup y = some c := hc
    rw [nc.2] at z
    cases z
theorem wake_inv (nc : NoCell scope) (hk : scope.kind = .function) (nf : ∀ y ∈ scope.names, y.2 ≠ .free ∧ y.2 ≠ .cell) (e0 : Env0 P w K mg base A' outer s H) (hfr : A.frames = some outer) (hh : A.handled = none) (lo : Low L s0 s) (hbl : base.objs.size ≤ L) (hol : ∀ b ∈ frs outer, b < L)
    (hN : Holds N qual scope f cd L σ s.heap) (hL : H L = none) (hpn : ∀ p ∈ pn, s.heap.get? p.1 = some p.2 ∧ H p.1 = none ∧ p.1 ≠ L ∧ p.1 ∉ frs outer ∧ ∀ v, p.2.data ≠ .cell v) :
    Inv (wx P w K mg base N qual scope f cd A outer L pn s0 H) [] σ H s := by
  have nocell : ∀ {y c}, (envOfC qual scope L f cd).cells.lookup y = some c → False := fun {y c} z => by
    have z : (cellsFrom (L + 1) scope.names []).lookup y = some c := z
    rw [nc.2] at z
    cases z
  have blt : ∀ b o, base.get? b = some o → b < L := fun b o e => Nat.lt_of_lt_of_le (Heap.lt_size e) hbl
  have funs : s0.heap.FunFrames base outer := by
    have all : ∀ l : List Env, (∀ b ∈ frs l, b < L) → s.heap.FunFrames base l → s0.heap.FunFrames base l := by
      intro l
      induction l with
      | nil => intro _ _; trivial
      | cons e r ih =>
        intro hl hx
        obtain ⟨h1, ⟨L', o, hf, hn, ho, hd⟩, hr⟩ := hx
        have mem : L' ∈ frs (e :: r) := by
          unfold frs
          rw [List.filterMap_cons, hf]
          exact List.mem_cons_self
        refine ⟨h1, ⟨L', o, hf, hn, lo.back _ _ (hl _ mem) ho, hd⟩, ih (fun b hb => hl b ?_) hr⟩
        unfold frs
        rw [List.filterMap_cons, hf]
        exact List.mem_cons_of_mem _ hb
    exact all outer hol e0.funs
  refine ⟨⟨e0.mod, hk, rfl, rfl, Nat.le_of_eq lo.size, fun _ _ _ z _ => (nocell z).elim, fun y hy => ?_, fun _ _ _ z => (nocell z).elim, fun _ => hh, Around.frames_deeper hfr, .inr ⟨rfl, rfl⟩, fun b z => absurd z (show b ∉ ([] : List Addr) by simp), fun b o e => ?_, by rw [show (wx P w K mg base N qual scope f cd A outer L pn s0 H).s_0 = s0 from rfl, lo.size]; exact hbl,
    fun b _ _ => show b ∉ ([] : List Addr) by simp, fun b z => absurd z (show b ∉ ([] : List Addr) by simp), funs, e0.frf⟩, lo.os.symm, e0.bare, ⟨fun b o e _ _ _ => lo.same b o e, fun b o e _ _ _ => ⟨o.slots, lo.same b o e⟩, fun _ _ _ n _ => n, fun b o e _ => ⟨o, lo.same b o e⟩, fun _ _ e => e, fun _ _ _ e => e, fun b ps e => ⟨#[], by rw [Array.append_empty]; exact e⟩⟩,
    hN.ns, fun _ _ z => (nocell z).elim, hL, fun _ _ z => (nocell z).elim, fun p hp => ?_, e0.hok, hN.len⟩
  · have hy : scope.names.lookup y = some .cell ∨ scope.names.lookup y = some .free := hy
    rcases hy with hy | hy
    · exact absurd rfl (nf _ (PySem.mem_of_lookup hy)).2
    · exact absurd rfl (nf _ (PySem.mem_of_lookup hy)).1
  · obtain ⟨q1, q2⟩ := e0.bs b o e
    exact ⟨lo.back _ _ (blt b o e) q1, q2⟩
  · rw [List.append_nil] at hp
    exact hpn p hp
/-- the run's trace, for those who wait -/
theorem moved_of (lo : Low L s0 s) (I : Inv (wx P w K mg base N qual scope f cd A outer L pn s0 H) [] σ H1 s1) (sm : SmX W H H1) : Moved P w outer L W H H1 s s1 := by
  have small : ∀ b o, b ∉ high L s → s.heap.get? b = some o → s0.heap.get? b = some o := fun b o hb e => by
    refine lo.back b o ?_ e
    have := Heap.lt_size e
    rcases Nat.lt_or_ge b L with z | z
    · exact z
    · exact absurd (high_mem.mpr ⟨z, this⟩) hb
  have no : ∀ b, b ∉ (wx P w K mg base N qual scope f cd A outer L pn s0 H).ex := fun b => show b ∉ ([] : List Addr) by simp
  refine ⟨I.os.trans lo.os, I.bare, ⟨fun b o e n hb hx => I.base.keep b o (small b o hx e) n hb (no b), fun b o e n hb hx => I.base.slot b o (small b o hx e) n hb (no b), fun b o e n hx => I.base.free b o (small b o hx e) n (no b), fun b o e hx => I.base.there b o (small b o hx e) (no b), I.base.tups, I.base.frzs, I.base.tbls⟩, I.hok, sm⟩
theorem holds_of (I : Inv (wx P w K mg base N qual scope f cd A outer L pn s0 H) [] σ H1 s1) : Holds N qual scope f cd L σ s1.heap := ⟨I.loc, I.len⟩
end
/-! ### a name stored, the state told -/
section
variable {X : Cx} {pins : List (Addr × Obj)} {σ : L2.St} {H : Hp} {s : Shared}
theorem store_loc {M : Model} {A : Around} {E : Value → Shared → Prop} {i : Nat} {x : Str} {v : V} {u : Value} {Q : Unit → Shared → Prop} (I : Inv X pins σ H s) (hN : X.N.Nodup) (hi : X.N[i]? = some x) (hk : X.env.scope.names.lookup x = some .local) (r : RelV v u)
    (h : ∀ h' t', Inv X pins (σ.set i (some v)) H { s with heap := h', toks := t' } → Q () { s with heap := h', toks := t' }) : wpAny M A (storeName X.env x u) Q E s := by
  obtain ⟨m, hn, hl⟩ := id I.loc
  have nk : (X.env.scope.kind == .class || (X.env.scope.kind == .module && X.env.locals != X.env.globals)) = false := by rw [I.ok.kind]; rfl
  have il : i < σ.length := by rw [I.len]; exact (List.getElem?_eq_some_iff.mp hi).1
  refine wpAny_storeName_local hk hn (fun h' hn' hs => h h' _ ?_) nk
  have low : ∀ {b o}, X.s_0.heap.get? b = some o → b ≠ X.env.locals := fun {b o} e => Nat.ne_of_lt (Nat.lt_of_lt_of_le (Heap.lt_size e) I.ok.above)
  have keep : ∀ {b o}, b ≠ X.env.locals → s.heap.get? b = some o → h'.get? b = some o := fun {b o} ne e => (hs.2 b ne).trans e
  have trk : ∀ {b o}, H b = some o → b ≠ X.env.locals := fun {b o} e z => by rw [z, I.free] at e; cases e
  refine ⟨I.ok, I.os, I.bare, ⟨fun b o e n hb hx => keep (low e) (I.base.keep b o e n hb hx), fun b o e n hb hx => ?_, I.base.free, fun b o e hx => ?_, I.base.tups, I.base.frzs, I.base.tbls⟩, ⟨_, hn', fun j y v' e1 e2 e3 => ?_⟩, fun y c e => ?_, I.free, I.freeC, fun p hp => ?_, fun b o e => ?_, by rw [List.length_set]; exact I.len⟩
  · obtain ⟨sl, q⟩ := I.base.slot b o e n hb hx
    exact ⟨sl, keep (low e) q⟩
  · obtain ⟨o', q⟩ := I.base.there b o e hx
    exact ⟨o', keep (low e) q⟩
  · by_cases hj : j = i
    · subst hj
      rw [hi] at e1
      cases e1
      rw [List.getElem?_set_self il] at e2
      cases e2
      exact ⟨u, r, .inl ⟨hk, by simp⟩⟩
    · rw [List.getElem?_set_ne (Ne.symm hj)] at e2
      obtain ⟨u', r', q⟩ := hl j y v' e1 e2 e3
      refine ⟨u', r', ?_⟩
      rcases q with ⟨k, e⟩ | ⟨k, c, e, z⟩
      · have ne : y ≠ x := fun e => hj (nodup_ix hN e1 (e ▸ hi))
        exact .inl ⟨k, by simp [ne, e]⟩
      · exact .inr ⟨k, c, e, z.sameBut hs (I.cne y c e)⟩
  · obtain ⟨v', z⟩ := I.cell y c e
    exact ⟨v', z.sameBut hs (I.cne y c e)⟩
  · obtain ⟨e, n, ne, nf, d⟩ := I.pin p hp
    exact ⟨keep ne e, n, ne, nf, d⟩
  · refine (I.hok b o e).stay (fun c q hc z => keep ?_ z) (fun _ z => z) fun _ _ z => z
    rcases hc with y | y
    · rw [y]; exact trk e
    · exact trk y
end
end FvG


namespace FvG
open PySem PySem.Spec PyProof.Rows L2 Fv FvD
/-! ### a term and all below it, from the left -/
mutual
def pre : PyData → List PyData
  | .tuple l => .tuple l :: preT l
  | .none => [.none]
  | .bool b => [.bool b]
  | .int i => [.int i]
  | .str x => [.str x]
  | .list l => [.list l]
  | .dict l => [.dict l]
def preT : List PyData → List PyData
  | [] => []
  | o :: ds => if isCd (.tuple (o :: ds)) = true then preL ds else []
def preL : List PyData → List PyData
  | [] => []
  | d :: ds => pre d ++ preL ds
end
theorem preL_eq : ∀ ds : List PyData, preL ds = ds.flatMap pre
  | [] => by simp [preL]
  | d :: ds => by simp [preL, preL_eq ds]
theorem pre_eq (d : PyData) : pre d = d :: (if isCd d = true then (parts d).flatMap pre else []) := by
  cases d with
  | tuple l =>
    cases l with
    | nil => simp [pre, preT, isCd]
    | cons o ds =>
      simp only [pre, preT, parts]
      rw [preL_eq]
  | _ => simp [pre, isCd]
theorem pre_ne (d : PyData) : pre d ≠ [] := by rw [pre_eq]; exact fun h => nomatch h
theorem flat_len : ∀ ds : List PyData, ds.length ≤ (ds.flatMap pre).length
  | [] => by simp
  | d :: ds => by
    have := flat_len ds
    rw [List.flatMap_cons, List.length_append, List.length_cons, pre_eq, List.length_cons]
    omega
theorem flat_nil {ds : List PyData} (h : ds.flatMap pre = []) : ds = [] := by
  have := flat_len ds
  rw [h] at this
  cases ds with
  | nil => rfl
  | cons _ _ => simp at this
/-! ### data of tuples and texts stay while the tuples stay -/
structure Stay (H H' : Hp) : Prop where
  tup : ∀ b xs, H b = some (.tup xs) → H' b = some (.tup xs)
  frz : ∀ b o u, H b = some (.frz o u) → H' b = some (.frz o u)
theorem Stay.refl (H : Hp) : Stay H H := ⟨fun _ _ e => e, fun _ _ _ e => e⟩
theorem Stay.trans {H H1 H2 : Hp} (a : Stay H H1) (b : Stay H1 H2) : Stay H H2 := ⟨fun c xs e => b.tup c xs (a.tup c xs e), fun c o u e => b.frz c o u (a.frz c o u e)⟩
theorem Stay.same {H H1 : Hp} (s : Same H H1) : Stay H H1 := ⟨fun b xs e => s b _ e, fun b o u e => s b _ e⟩
/-- at a something is written that is no tuple and not locked -/
theorem Stay.put {H : Hp} {a : Addr} {o : HO} (h : (∀ xs, H a ≠ some (.tup xs)) ∧ ∀ u v, H a ≠ some (.frz u v)) : Stay H (upd H a o) := by
  refine ⟨fun b xs e => ?_, fun b u v e => ?_⟩
  · rw [upd_ne (fun z => h.1 xs (by rw [← z]; exact e))]; exact e
  · rw [upd_ne (fun z => h.2 u v (by rw [← z]; exact e))]; exact e
theorem stay_lst {H : Hp} {a : Addr} {xs ys : List V} (h : H a = some (.lst xs)) : Stay H (upd H a (.lst ys)) := Stay.put ⟨fun zs e => (by rw [h] at e; cases e), fun u v e => (by rw [h] at e; cases e)⟩
theorem stay_new {H : Hp} {a : Addr} {o : HO} (h : H a = none) : Stay H (upd H a o) := .same (same_upd h)
mutual
theorem kdp_stay {K : PySem.W.Frag} {H H' : Hp} (s : Stay H H') : ∀ (n : Nat) (d : PyData) (v : V), kd n d = true → Dp K H v d → Dp K H' v d
  | n, .str x, v, _, h => by cases h; exact .str x
  | n + 1, .tuple ds, v, hk, h => by
    cases h with
    | tup hs ha =>
      refine .tup ?_ (kdpAll_stay s n ds _ (by simpa [kd] using hk) ha)
      rcases hs with (h | ⟨o, h⟩) | h
      · exact .inl (.inl (s.tup _ _ h))
      · exact .inl (.inr ⟨o, s.frz _ _ _ h⟩)
      · exact .inr h
  | 0, .tuple _, _, hk, _ => by simp [kd] at hk
  | n, .none, _, hk, _ => by cases n <;> simp [kd] at hk
  | n, .bool _, _, hk, _ => by cases n <;> simp [kd] at hk
  | n, .int _, _, hk, _ => by cases n <;> simp [kd] at hk
  | n, .list _, _, hk, _ => by cases n <;> simp [kd] at hk
  | n, .dict _, _, hk, _ => by cases n <;> simp [kd] at hk
theorem kdpAll_stay {K : PySem.W.Frag} {H H' : Hp} (s : Stay H H') : ∀ (n : Nat) (ds : List PyData) (vs : List V), kdAll n ds = true → DpAll K H vs ds → DpAll K H' vs ds
  | n, [], vs, _, h => by cases h; exact .nil
  | n, d :: ds, vs, hk, h => by
    simp only [kdAll, Bool.and_eq_true] at hk
    cases h with
    | cons h1 h2 => exact .cons (kdp_stay s n d _ hk.1 h1) (kdpAll_stay s n ds _ hk.2 h2)
end
theorem kd_up : ∀ (n : Nat) (d : PyData), kd n d = true → kd (n + 1) d = true := by
  have both : ∀ (n : Nat), (∀ d, kd n d = true → kd (n + 1) d = true) := by
    intro n
    induction n with
    | zero =>
      intro d h
      cases d with
      | str x => exact kd_str
      | _ => simp [kd] at h
    | succ n ih =>
      intro d h
      cases d with
      | str x => exact kd_str
      | tuple ds =>
        have h' : kdAll n ds = true := by simpa [kd] using h
        show kdAll (n + 1) ds = true
        exact kdAll_iff.mpr fun d hd => ih d (kdAll_iff.mp h' d hd)
      | _ => simp [kd] at h
  exact both
theorem kd_le {n m : Nat} {d : PyData} (h : kd n d = true) (hm : n ≤ m) : kd m d = true := by
  induction hm with
  | refl => exact h
  | step _ ih => exact kd_up _ _ ih
/-! ### what can stand on the stack -/
/-- a long term -/
structure Tk (d : PyData) : Prop where
  one : 1 ≤ lmeas 9 d
  top : lmeas 9 d ≤ 600
  gd : gd 20 d = true
theorem kd_meas : ∀ (n : Nat) (d : PyData), 1 ≤ lmeas (n + 1) d → kd n d = true
  | 0, d, h => by
    rcases lmeas_inv h with ⟨x, rfl, hx⟩ | ⟨o, ds, rfl, _, ho, h2, all1, e⟩
    · exact kd_str
    · exfalso
      match ds, h2, all1 with
      | d :: _, _, all1 =>
        have := all1 d List.mem_cons_self
        simp [lmeas] at this
  | n + 1, d, h => by
    rcases lmeas_inv h with ⟨x, rfl, hx⟩ | ⟨o, ds, rfl, _, ho, h2, all1, e⟩
    · exact kd_str
    · show kdAll n (.str o :: ds) = true
      refine kdAll_iff.mpr fun y hy => ?_
      rcases List.mem_cons.mp hy with z | z
      · rw [z]; exact kd_str
      · exact kd_meas n y (all1 y z)
theorem Tk.kd {d : PyData} (h : Tk d) : kd 8 d = true := kd_meas 8 d h.one
theorem Tk.inv {d : PyData} (h : Tk d) : (∃ x, d = .str x ∧ isL x = true) ∨ ∃ o ds, d = .tuple (.str o :: ds) ∧ isCd d = true ∧ 2 ≤ ds.length ∧ (∀ x ∈ ds, Tk x) ∧ lmeas 9 d = (ds.map (lmeas 9)).sum := by
  rcases lmeas_inv (n := 8) h.one with ⟨x, rfl, hx⟩ | ⟨o, ds, rfl, _, ho, h2, all1, e⟩
  · exact .inl ⟨x, rfl, hx⟩
  · have up : ∀ x ∈ ds, lmeas 9 x = lmeas 8 x := fun x hx => lmeas_up 8 x (all1 x hx)
    have sm : (ds.map (lmeas 9)).sum = (ds.map (lmeas 8)).sum := by rw [List.map_congr_left up]
    refine .inr ⟨o, ds, rfl, ?_, h2, fun x hx => ⟨?_, ?_, ?_⟩, by rw [sm]; exact e⟩
    · have op : isOp (.str o) = true := by
        rcases ho with z | z
        · rw [z]; exact isOp_str.1
        · rw [z]; exact isOp_str.2
      simp [isCd, h2, op]
    · rw [up x hx]; exact all1 x hx
    · rw [up x hx]
      have z : lmeas 8 x ≤ (ds.map (lmeas 8)).sum := by
        have nn : ∀ l : List PyData, 0 ≤ (l.map (lmeas 8)).sum := fun l => sum_nonneg fun u hu => by
          obtain ⟨d', _, rfl⟩ := List.mem_map.mp hu
          exact lmeas_nonneg 8 d'
        have le : ∀ l : List PyData, x ∈ l → lmeas 8 x ≤ (l.map (lmeas 8)).sum := by
          intro l
          induction l with
          | nil => intro h; cases h
          | cons y r ih =>
            intro hm
            rw [List.map_cons, List.sum_cons]
            have n1 := nn r
            have n2 := lmeas_nonneg 8 y
            rcases List.mem_cons.mp hm with e | e
            · rw [e]; omega
            · have := ih e; omega
        exact le ds hx
      have t9 := h.top
      have e9 : lmeas 9 (.tuple (.str o :: ds)) = (ds.map (lmeas 8)).sum := e
      rw [e9] at t9
      omega
    · exact gd_up 19 x ((gd_parts (n := 19) h.gd).2 x hx)
theorem str_isCd (x : Str) : isCd (.str x) = false := rfl
theorem sum9_nonneg (l : List PyData) : 0 ≤ (l.map (lmeas 9)).sum := sum_nonneg fun u hu => by
  obtain ⟨d', _, rfl⟩ := List.mem_map.mp hu
  exact lmeas_nonneg 9 d'
/-- how many there are -/
theorem pre_len : ∀ (n : Nat) (d : PyData), 1 ≤ lmeas n d → Tk d → ((pre d).length : Int) + 1 ≤ 2 * lmeas 9 d
  | 0, d, h, _ => by simp only [lmeas] at h; omega
  | n + 1, d, h, t => by
    rcases t.inv with ⟨x, rfl, hx⟩ | ⟨o, ds, rfl, hc, h2, all, e⟩
    · have := t.one
      rw [pre_eq, str_isCd]
      simp
      omega
    · rw [pre_eq, if_pos hc, e]
      rcases lmeas_inv h with ⟨x, hx, _⟩ | ⟨o', ds', hd, _, _, _, all1, _⟩
      · cases hx
      · cases hd
        have sub : ∀ l : List PyData, (∀ x ∈ l, x ∈ ds) → ((l.flatMap pre).length : Int) + l.length ≤ 2 * (l.map (lmeas 9)).sum := by
          intro l
          induction l with
          | nil => intro _; simp
          | cons y r ih =>
            intro hm
            have hy := hm y List.mem_cons_self
            have a := pre_len n y (all1 y hy) (all y hy)
            have b := ih fun x hx => hm x (List.mem_cons_of_mem _ hx)
            rw [List.flatMap_cons, List.length_append, List.length_cons, List.map_cons, List.sum_cons]
            omega
        have := sub ds fun _ h => h
        show (((PyData.tuple (.str o :: ds)) :: (ds.flatMap pre)).length : Int) + 1 ≤ _
        rw [List.length_cons]
        omega
theorem pre_small {d : PyData} (t : Tk d) : (pre d).length ≤ 1200 := by
  have := pre_len 9 d t.one t
  have := t.top
  omega
end FvG


set_option maxHeartbeats 2000000
namespace FvG
open PySem PySem.Spec PyProof.Rows L2 GenW Fv
/-! ### a generator that was just made -/
/-- the generator's own object -/
structure GObj (go : Obj) (g : Nat) : Prop where
  cls : go.cls = .type "generator"
  dat : ∃ nm qn, go.data = .fields #[.int g 0, nm, qn]
  slo : go.slots = #[]
theorem GObj.is {go : Obj} {g : Nat} {h : Heap} {a : Addr} (x : GObj go g) (e : h.get? a = some go) : h.IsGen a g := let ⟨nm, qn, hd⟩ := x.dat; ⟨go, nm, qn, e, x.cls, hd, x.slo⟩
theorem GObj.nocell {go : Obj} {g : Nat} (x : GObj go g) : ∀ v, go.data ≠ .cell v := fun v e => by
  obtain ⟨nm, qn, hd⟩ := x.dat
  rw [hd] at e
  cases e
/-- s' is s with a generator at a, number g, that has not begun; its frame lies where s ended -/
structure Born (P : Program) (w : World) (K : PySem.W.Frag) (mg : Str → Option Value) (base : Heap) (N : List Str) (qual : Str) (scope : Scope) (f : Addr) (cd : Value) (body : List Stmt) (outer : List Env) (H : Hp) (vs : List V) (s : Shared) (a : Addr) (g : Nat) (go : Obj) (s' : Shared) : Prop where
  obj : GObj go g
  at_ : s'.heap.get? a = some go
  above : s.heap.objs.size < a
  gen : s'.gens[g]? = some (.fresh (.func body (envOfC qual scope s.heap.objs.size f cd)))
  os : s'.os = s.os
  bare : AllBare s'.gens
  lim : s'.heap.NoLimit
  keep : ∀ b o, s.heap.get? b = some o → s'.heap.get? b = some o
  begin_ : ∀ (Aw : Around) (E : XK) (s2 : Shared), Aw.frames = some outer → Aw.handled = none → (∀ b o, s'.heap.get? b = some o → s2.heap.get? b = some o) → s2.os = s.os → AllBare s2.gens → Inv (gcxOf P w K mg base N qual scope f cd Aw outer s H E [(a, go)]) [] (start N vs) H s2
section
variable {P : Program} {w : World} {K : PySem.W.Frag} {mg : Str → Option Value} {base : Heap} {f : Addr} {name qual : Str} {params : Arguments} {body : List Stmt} {scope : Scope} {dV kV doc pm cdv ct oc : Value} {an od : Option Addr} {osl : Array (Option Value)} {N ps : List Str}
  {A : Around} {outer : List Env} {s : Shared} {H : Hp} {args : Args} {us : List Value} {vs : List V}
theorem born_of (lk : K.lookup f = some ⟨oc, od, .func (PySem.W.fnOf name qual params body scope dV kV doc pm an cdv ct), osl⟩) (hcd : PySem.W.codeIn K cdv qual = true) (S : GScope N ps scope) (hl : vs.length = ps.length) (dp : A.depth < recursionLimit) (hh : A.handled = none)
    (e0 : Env0 P w K mg base A outer s H) (hb : BindsTo s (PySem.W.fnOf name qual params body scope dV kV doc pm an cdv ct) args (ps.zip us)) (rv : Vals vs us) :
    codeAny (model P w) A (.call (.ref f) args) (fun r s' => ∃ a g go, r = .ok (.ret (.ref a)) ∧ Born P w K mg base N qual scope f cdv body outer H vs s a g go s') s := by
  have kin : K.In s.heap := e0.mod.kin.keeps fun b o e => (e0.bs b o e).1
  have nolim : s.heap.NoLimit := e0.mod.nolimit.keeps fun b o e => (e0.bs b o e).1
  have kinds : ∀ y ∈ ps.zip us, scope.names.lookup y.1 = some .local ∨ (scope.names.lookup y.1 = some .cell ∧ ((cellsFrom (s.heap.objs.size + 1) scope.names []).lookup y.1).isSome = true) := fun y hy => by
    rcases S.par y.1 (List.of_mem_zip (a := y.1) (b := y.2) hy).1 with z | z
    · exact .inl z
    · exact .inr ⟨z, PySem.W.cellsFrom_some _ _ _ (.inl z)⟩
  refine codeAny_call_generator dp (kin _ _ lk) rfl S.co S.gen rfl (PySem.W.codeRec_of kin hcd) (hb _ _ _ _ ?_)
  refine wpAny_newFunctionEnv_cells S.kind kinds fun env he s1 x => ?_
  subst he
  have lim1 : s1.heap.NoLimit := nolim.keeps x.toInCall.keep
  refine ⟨lim1, ?_⟩
  obtain ⟨h1, tk, es1, _⟩ := x.done
  have gs1 : s1.gens = s.gens := by rw [es1]
  have os1 : s1.os = s.os := by rw [es1]
  have lt1 : s.heap.objs.size < s1.heap.objs.size := x.toInCall.ns.lt
  have k1 : ∀ b o, s.heap.get? b = some o → s1.heap.get? b = some o := x.toInCall.keep
  refine ⟨s1.heap.objs.size, s1.gens.size, _, rfl, ⟨rfl, ⟨_, _, rfl⟩, rfl⟩, Heap.get?_push_size _ rfl, lt1, Array.getElem?_push_size .., os1, AllBare.push (by rw [gs1]; exact e0.bare) rfl, lim1.keeps fun b o e => Heap.get?_push_of_some _ e, fun b o e => Heap.get?_push_of_some _ (k1 b o e), fun Aw E s2 hfr hd k2 o2 b2 => ?_⟩
  have e1 : Env0 P w K mg base Aw outer s H := ⟨hfr, e0.mod, e0.bs, e0.bsz, e0.funs, e0.frf, e0.hok, e0.bare⟩
  have I1 : Inv (gcxOf P w K mg base N qual scope f cdv Aw outer s H E []) [] (start N vs) H s1 := inv_startG S hd e1 hl rv x
  have kp : ∀ b o, s1.heap.get? b = some o → s2.heap.get? b = some o := fun b o e => k2 b o (Heap.get?_push_of_some _ e)
  have I2 : Inv (gcxOf P w K mg base N qual scope f cdv Aw outer s H E []) [] (start N vs) H s2 := I1.call' (ch := []) (o2.trans os1.symm) (Un.kept kp) (I1.hok.kept kp) b2 fun b z => absurd z (by simp)
  refine Inv.pinnedG I2 fun p hp => ?_
  rw [List.append_nil] at hp
  rw [List.mem_singleton.mp hp]
  refine ⟨k2 _ _ (Heap.get?_push_size _ rfl), I1.hok.fresh (Nat.le_refl _), Nat.ne_of_gt lt1, I1.nofs (Nat.le_refl _), fun v q => ?_⟩
  cases q
end
end FvG


set_option maxHeartbeats 2000000
namespace Fv
open PySem PySem.Spec PyProof.Rows L2 GenW FvX FvD FvG
-- top 17  slots: 0:term 1:waiting 2:found
abbrev s_walk : Stmt := topS 17
abbrev N_walk : List Str := ["term", "waiting", "found"]
theorem sc_walk : GScope N_walk ["term"] (defScope s_walk) := ⟨rfl, rfl, rfl, by decide +kernel, rfl, by decide +kernel, by decide +kernel⟩

abbrev wNone : Stmt := .Pass ⟨0, 0, 0, 0⟩
abbrev w1 : Stmt := (defBody s_walk).getD 0 wNone
abbrev w2 : Stmt := (defBody s_walk).getD 1 wNone
abbrev w3 : Stmt := (defBody s_walk).getD 2 wNone
def whTest : Stmt → Expr
  | .While t _ _ _ => t
  | _ => .Constant .none 0 ⟨0, 0, 0, 0⟩
def whBody : Stmt → List Stmt
  | .While _ b _ _ => b
  | _ => []
abbrev wT : Expr := whTest w3
abbrev wB : List Stmt := whBody w3
theorem walk_body : ∃ p, defBody s_walk = [w1, w2, .While wT wB [] p] := ⟨_, rfl⟩
abbrev b1 : Stmt := wB.getD 0 wNone
abbrev b2 : Stmt := wB.getD 1 wNone
abbrev b3 : Stmt := wB.getD 2 wNone
theorem wB_eq : wB = [b1, b2, b3] := rfl
def yldE : Stmt → Expr
  | .Expr (.Yield (some e) _) _ => e
  | _ => .Constant .none 0 ⟨0, 0, 0, 0⟩
theorem b2_eq : ∃ p q, b2 = .Expr (.Yield (some (yldE b2)) p) q := ⟨_, _, rfl⟩
theorem walk_nc : NoCell (defScope s_walk) := by
  have h : ∀ n, cellsFrom n (defScope s_walk).names [] = [] := fun n => rfl
  exact ⟨h 0, h⟩
theorem walk_nf : ∀ y ∈ (defScope s_walk).names, y.2 ≠ .free ∧ y.2 ≠ .cell := by decide +kernel
section
variable {P : Program} {w : World} {K : PySem.W.Frag} {mg : Str → Option Value} {base : Heap} {f : Addr} {cd : Value} {A : Around} {outer : List Env} {L : Addr} {a : Addr} {go : Obj} {k : Nat}
  {Cn : Addr → Nat → Hp → Shared → Prop} {Dn : Addr → Nat → V → Hp → Shared → Prop} {Zn : Addr → Hp → Shared → Prop} {Er : Value → Shared → Prop} {items : List PyData}
abbrev wxW (P : Program) (w : World) (K : PySem.W.Frag) (mg : Str → Option Value) (base : Heap) (f : Addr) (cd : Value) (A : Around) (outer : List Env) (L a : Addr) (go : Obj) (s0 : Shared) (H0 : Hp) : Cx :=
  wx P w K mg base N_walk "walk" (defScope s_walk) f cd A outer L [(a, go)] s0 H0
abbrev wE (f : Addr) (cd : Value) (L : Addr) : Env := envOfC "walk" (defScope s_walk) L f cd
/-- the end of a run -/
def RP (Zn : Addr → Hp → Shared → Prop) (Er : Value → Shared → Prop) : GenEnd := fun _ _ r s1 => ((r = .ok (.ret .none) ∨ r = .ok .next) ∧ ∃ W H1, Zn W H1 s1) ∨ ∃ e, r = .error e ∧ Er e s1
/-- what the sleeper wants to find again -/
structure Asleep (L a : Addr) (go : Obj) (W : Addr) (vs : List V) (oL : Obj) (H : Hp) (s : Shared) : Prop where
  lst : H W = some (.lst vs)
  frm : s.heap.get? L = some oL
  frn : H L = none
  gen : s.heap.get? a = some go
  gnn : H a = none
/-- an item is handed out -/
def YP (Cn : Addr → Nat → Hp → Shared → Prop) (Dn : Addr → Nat → V → Hp → Shared → Prop) (L a : Addr) (go : Obj) (m : Nat) : Protocol := fun n _ v s1 kap => ∃ W i x vs oL H1, n + i = m ∧ RelV x v ∧ Dn W i x H1 s1 ∧ Asleep L a go W vs oL H1 s1 ∧ (∀ c, oL.data ≠ .cell c) ∧
  ∀ s' H', Cn W (i + 1) H' s' → Stay H1 H' → Asleep L a go W vs oL H' s' → kap (.send .none) s'
/-- where the loop's code stands -/
abbrev wCode (f : Addr) (cd : Value) (L : Addr) : Code := .whileLoop wT wB [] (wE f cd L)
theorem over_w {kk : Result → Sem PySem.Fin} {g : Bool} {l kp : List Value} {p : Pos} : A.over (wCode f cd L) [.ret kk none g l (.func (defBody s_walk) (wE f cd L)) p kp] = A.deeper (wE f cd L) :=
  (over_loop rfl rfl).trans over_func
/-- the state at the loop's head: i items are out -/
structure AtHead (P : Program) (w : World) (K : PySem.W.Frag) (mg : Str → Option Value) (base : Heap) (f : Addr) (cd : Value) (A : Around) (outer : List Env) (L a : Addr) (go : Obj) (items : List PyData) (i : Nat) (W : Addr) (s0 : Shared) (Hr H : Hp) (s : Shared) : Prop where
  st : ∃ t fx vs dvs, Inv (wxW P w K mg base f cd A outer L a go s0 Hr) [] [some t, some (.ref W), fx] H s ∧ H W = some (.lst vs) ∧ DpAll K H vs dvs ∧ (∀ d ∈ dvs, Tk d) ∧ dvs.reverse.flatMap pre = items.drop i
  sm : SmX [W] Hr H
theorem dpAll_snoc {H : Hp} : ∀ {vs : List V} {ds : List PyData} {d : PyData}, DpAll K H vs (ds ++ [d]) → ∃ us x, vs = us ++ [x] ∧ DpAll K H us ds ∧ Dp K H x d
  | _, [], d, h => by
    cases h with
    | cons h1 h2 => cases h2; exact ⟨[], _, rfl, .nil, h1⟩
  | _, e :: ds, d, h => by
    cases h with
    | cons h1 h2 =>
      obtain ⟨us, x, rfl, q1, q2⟩ := dpAll_snoc h2
      exact ⟨_ :: us, x, rfl, .cons h1 q1, q2⟩
theorem dpAll_rev {H : Hp} : ∀ {vs : List V} {ds : List PyData}, DpAll K H vs ds → DpAll K H vs.reverse ds.reverse
  | _, _, .nil => .nil
  | _, _, .cons h t => by
    rw [List.reverse_cons, List.reverse_cons]
    exact dpAll_app (dpAll_rev t) (.cons h .nil)
theorem tkAll_stay {H H' : Hp} (s : Stay H H') : ∀ {vs : List V} {ds : List PyData}, (∀ d ∈ ds, Tk d) → DpAll K H vs ds → DpAll K H' vs ds
  | _, _, _, .nil => .nil
  | _, _, h, .cons h1 t => .cons (kdp_stay s 8 _ _ (h _ List.mem_cons_self).kd h1) (tkAll_stay s (fun d hd => h d (List.mem_cons_of_mem _ hd)) t)
theorem walk_head (hc : Own P w K mg base k "is_compound" ["value"] (spIsCompound K)) (hr : Room k (A.deeper (wE f cd L))) (hfr : A.frames = some outer) (hh : A.handled = none) (hbl : base.objs.size ≤ L) (hol : ∀ b ∈ frs outer, b < L) (haL : a ≠ L) (hao : a ∉ frs outer) (hgo : ∀ v, go.data ≠ .cell v)
    (hC : ∀ W i H s, Cn W i H s → Env0 P w K mg base A outer s H ∧ L ≤ s.heap.objs.size)
    (hD : ∀ W i H s H1 s1 x d, Cn W i H s → Moved P w outer L [W] H H1 s s1 → items[i]? = some d → Tk d → Dp K H1 x d → Dn W i x H1 s1)
    (hZ : ∀ W H s H1 s1, Cn W items.length H s → Moved P w outer L [W] H H1 s s1 → Zn W H1 s1) (hlen : items.length ≤ 1200)
    {kk : Result → Sem PySem.Fin} {p : Pos} (hkk : kk (.ok .next) = .pure (.done (.ret .none))) :
    ∀ (n i : Nat) (W : Addr) (s0 sr s₀ s : Shared) (Hr H : Hp), n + i = items.length + 1 → i ≤ items.length → Cn W i Hr sr → Low L s0 sr → AtHead P w K mg base f cd A outer L a go items i W s0 Hr H s →
      Seg (model P w) A (RP Zn Er) (YP Cn Dn L a go items.length) n s₀ (wCode f cd L) ((model P w).den (wCode f cd L)) [.ret kk none false [] (.func (defBody s_walk) (wE f cd L)) p []] s := by
  have nd : N_walk.Nodup := sc_walk.nd
  intro n
  induction n with
  | zero =>
    intro i W s0 sr s₀ s Hr H hn hi _ _ _
    omega
  | succ n ih =>
    intro i W s0 sr s₀ s Hr H hn hi0 hCn lo ⟨⟨t, fx, vs, dvs, I, hW, hv, ht, hf⟩, sm⟩
    by_cases ne : dvs = []
    · subst ne
      have hi : i = items.length := by
        have z : items.drop i = [] := hf.symm
        have := List.drop_eq_nil_iff.mp z
        omega
      subst hi
      cases hv
      have pt : PT (wxW P w K mg base f cd A outer L a go s0 Hr) wT _ := pt_truth (pv 1) (fun _ => rfl)
      refine seg_whileLoop ?_
      rw [over_w]
      refine wpAny_mono (pt.run [] s _ H (fun b H' => b = false ∧ H' = H) I ⟨_, rfl, false, .inl ⟨[], SqL.of hW, rfl⟩, rfl, rfl⟩) (fun b s' hb => ?_) fun _ _ hx => hx.elim
      obtain ⟨H2, I2, rfl, rfl⟩ := hb
      rw [if_neg Bool.false_ne_true]
      refine seg_execs_nil (seg_leaf (.ok .next) ?_)
      rw [hkk]
      exact seg_end (.ok (.ret .none)) (.inl ⟨.inl rfl, W, H2, hZ W Hr sr H2 s' hCn (moved_of lo I2 sm)⟩)
    obtain ⟨dvs', dx, rfl⟩ : ∃ l d, dvs = l ++ [d] := ⟨dvs.dropLast, dvs.getLast ne, (List.dropLast_concat_getLast ne).symm⟩
    obtain ⟨us, x, rfl, hus, hx⟩ := dpAll_snoc hv
    have tx : Tk dx := ht dx (List.mem_append_right _ (List.mem_singleton.mpr rfl))
    have tus : ∀ d ∈ dvs', Tk d := fun d hd => ht d (List.mem_append_left _ hd)
    have hflat : items.drop i = pre dx ++ dvs'.reverse.flatMap pre := by
      rw [← hf, List.reverse_append, List.reverse_singleton, List.singleton_append, List.flatMap_cons]
    have hil : i < items.length := by
      have z := congrArg List.length hflat
      rw [List.length_append, List.length_drop, pre_eq, List.length_cons] at z
      omega
    have hit : items[i]? = some dx := by
      have z : (items.drop i)[0]? = some dx := by rw [hflat, pre_eq]; rfl
      rw [List.getElem?_drop, Nat.add_zero] at z
      exact z
    have hrest : items.drop (i + 1) = (if isCd dx = true then (parts dx).flatMap pre else []) ++ dvs'.reverse.flatMap pre := by
      have z : items.drop (i + 1) = (items.drop i).drop 1 := by rw [List.drop_drop]
      rw [z, hflat, pre_eq]
      rfl
    have pt : PT (wxW P w K mg base f cd A outer L a go s0 Hr) wT _ := pt_truth (pv 1) (fun _ => rfl)
    have p1 : PS (wxW P w K mg base f cd A outer L a go s0 Hr) b1 _ := ps_set (i := 2) nd rfl (.inl rfl) (pe_bm0 PySem.F.plainAttrs_list PySem.F.slot_list_pop PySem.F.type_list_pop mt_pop (pv 1))
    have p2 : PE (wxW P w K mg base f cd A outer L a go s0 Hr) (yldE b2) _ := pv 2
    refine seg_whileLoop ?_
    rw [over_w]
    refine wpAny_mono (pt.run [] s _ H (fun b H' => b = true ∧ H' = H) I ⟨_, rfl, true, .inl ⟨us ++ [x], SqL.of hW, by simp⟩, rfl, rfl⟩) (fun b s' hb => ?_) fun _ _ hx => hx.elim
    obtain ⟨H2, I2, rfl, rfl⟩ := hb
    rw [if_pos rfl]
    refine seg_execs_cons (st := b1) (rest := [b2, b3]) (seg_wrap ?_)
    rw [over_w]
    have last : (us ++ [x])[(us ++ [x]).length - 1]? = some x := by simp
    refine wpAny_mono (p1.run [] s' _ H2 { nx := fun σ H' => σ = [some t, some (.ref W), some x] ∧ H' = upd H2 W (.lst us), rt := fun _ _ => False } I2 ⟨_, rfl, .inl ⟨rfl, _, SqL.of hW⟩, W, us ++ [x], x, rfl, rfl, hW, last, rfl, by rw [List.dropLast_concat]⟩) (fun fl s3 h3 => ?_) fun _ _ hx => hx.elim
    cases fl with
    | brk => obtain ⟨_, _, _, q⟩ := h3; exact q.elim
    | cont => obtain ⟨_, _, _, q⟩ := h3; exact q.elim
    | ret u => obtain ⟨_, _, _, _, _, q⟩ := h3; exact q.elim
    | next =>
      obtain ⟨σ3, H3, I3, rfl, rfl⟩ := h3
      have stay3 : Stay H2 (upd H2 W (.lst us)) := stay_lst hW
      have sm3 : SmX [W] Hr (upd H2 W (.lst us)) := sm.put (List.mem_singleton.mpr rfl)
      have hx3 : Dp K (upd H2 W (.lst us)) x dx := kdp_stay stay3 8 dx x tx.kd hx
      have hus3 : DpAll K (upd H2 W (.lst us)) us dvs' := tkAll_stay stay3 tus hus
      refine seg_execs_cons (st := b2) (rest := [b3]) ?_
      refine seg_Expr_Yield (e := yldE b2) rfl rfl rfl ?_
      rw [over_w]
      refine wpAny_mono (p2.run [] s3 _ _ (fun y H' => y = x ∧ H' = upd H2 W (.lst us)) I3 ⟨_, rfl, rfl, rfl⟩) (fun v s4 h4 => ?_) fun _ _ hx => hx.elim
      obtain ⟨y, H4, I4, rv, rfl, rfl⟩ := h4
      intro kap hkap
      have mv := moved_of lo I4 sm3
      obtain ⟨m, ⟨oL, es, ep, hoL, hdL, hrL⟩, _⟩ := id I4.loc
      have gen4 := I4.pin (a, go) (List.mem_append_left _ (List.mem_singleton.mpr rfl))
      refine ⟨W, i, y, us, oL, _, by omega, rv, hD W i Hr sr _ s4 y dx hCn mv hit tx hx3, ⟨upd_same, hoL, I4.free, gen4.1, gen4.2.1⟩, fun c q => (by rw [hdL] at q; cases q), fun s5 H5 hC5 stay5 as5 => hkap .none s5 ?_⟩
      -- awake again
      obtain ⟨e05, hL5⟩ := hC W (i + 1) H5 s5 hC5
      obtain ⟨s05, lo5⟩ := low_of s5 hL5
      have I5 : Inv (wxW P w K mg base f cd A outer L a go s05 H5) [] [some t, some (.ref W), some y] H5 s5 := by
        refine wake_inv walk_nc sc_walk.kind walk_nf e05 hfr hh lo5 hbl hol ((holds_of I4).keep walk_nc hoL as5.frm) as5.frn fun q hq => ?_
        rw [List.mem_singleton.mp hq]
        exact ⟨as5.gen, as5.gnn, haL, hao, hgo⟩
      have hy5 : Dp K H5 y dx := kdp_stay stay5 8 dx y tx.kd hx3
      have hus5 : DpAll K H5 us dvs' := tkAll_stay stay5 tus hus3
      have p3 : PS (wxW P w K mg base f cd A outer L a go s05 H5) b3 _ := ps_if (pt_val (pe_own hc hr (by rfl) (pa_cons (pv 2) pa_nil))) (pss_one (ps_expr (pe_bm PySem.F.plainAttrs_list PySem.F.slot_list_extend PySem.F.type_list_extend mt_extendT (pv 1) (pa_cons (pe_backT (pv 2)) pa_nil)))) pss_nil
      show Seg _ _ _ _ n s5 _ _ _ s5
      refine seg_execs_cons (st := b3) (rest := []) (seg_wrap ?_)
      rw [over_w]
      have go3 : ∀ (H6 : Hp) (s6 : Shared), AtHead P w K mg base f cd A outer L a go items (i + 1) W s05 H5 H6 s6 → Seg (model P w) A (RP Zn Er) (YP Cn Dn L a go items.length) n s5 (wCode f cd L) (.pure (.again (wCode f cd L))) [.ret kk none false [] (.func (defBody s_walk) (wE f cd L)) p []] s6 := fun H6 s6 hA =>
        seg_again rfl (ih (i + 1) W s05 s5 s5 s6 H5 H6 (by omega) hil hC5 lo5 hA)
      have hlen5 : (dvs'.reverse.flatMap pre).length ≤ 1200 := by
        have z := congrArg List.length hrest
        rw [List.length_append, List.length_drop] at z
        omega
      have hul : us.length ≤ 1200 := by
        have z := flat_len dvs'.reverse
        rw [List.length_reverse] at z
        have := dpAll_len hus5
        omega
      refine wpAny_mono (p3.run [] s5 _ H5 { nx := fun σ H' => σ = [some t, some (.ref W), some y] ∧ SmX [W] H5 H' ∧ ∃ vs' dvs2, H' W = some (.lst vs') ∧ DpAll K H' vs' dvs2 ∧ (∀ d ∈ dvs2, Tk d) ∧ dvs2.reverse.flatMap pre = items.drop (i + 1), rt := fun _ _ => False } I5 ?_) (fun fl s6 h6 => ?_) fun _ _ hx => hx.elim
      · refine ⟨_, rfl, y, dx, rfl, hy5, tx.gd, _, rfl, ?_⟩
        refine ite2 (fun c => ?_) (fun c => ?_)
        · have c' : isCd dx = true := c
          rcases tx.inv with ⟨z, rfl, _⟩ | ⟨o, ds, rfl, _, h2, tds, esum⟩
          · cases c'
          cases hy5 with
          | @tup ay xs _ hs ha =>
            cases ha with
            | @cons v0 vr _ _ h0 hr' =>
              refine ⟨_, rfl, .inl ⟨rfl, _, SqL.of as5.lst⟩, _, rfl, ay, v0, vr, rfl, hs, fun p2 np => ?_⟩
              have lv : vr.length = ds.length := dpAll_len hr'
              have hdl : ds.length ≤ 1200 := by
                have z1 := flat_len ds
                have z := congrArg List.length hrest
                rw [if_pos c, List.length_append, List.length_drop] at z
                have z2 : ((parts (.tuple (.str o :: ds))).flatMap pre).length = (ds.flatMap pre).length := rfl
                omega
              have Wp : W ≠ p2 := ne_of_none as5.lst np
              have sz : us.length + vr.reverse.length ≤ sizeLine := by
                rw [List.length_reverse, lv]
                exact Nat.le_trans (by omega : us.length + ds.length ≤ 2400) (by rw [sizeLine_eq]; decide)
              refine ⟨W, p2, us, vr.reverse, rfl, rfl, by rw [upd_ne Wp]; exact as5.lst, SqT.of upd_same, sz, rfl, ?_, ?_⟩
              · exact ((SmX.new np).put (List.mem_singleton.mpr rfl))
              · have st1 : Stay H5 (upd H5 p2 (.tup vr.reverse)) := stay_new np
                have st2 : Stay (upd H5 p2 (.tup vr.reverse)) (upd (upd H5 p2 (.tup vr.reverse)) W (.lst (us ++ vr.reverse))) := stay_lst (by rw [upd_ne Wp]; exact as5.lst)
                have st := st1.trans st2
                refine ⟨us ++ vr.reverse, dvs' ++ ds.reverse, upd_same, dpAll_app (tkAll_stay st tus hus5) (tkAll_stay st (fun d hd => tds d (List.mem_reverse.mp hd)) (dpAll_rev hr')), fun d hd => ?_, ?_⟩
                · rcases List.mem_append.mp hd with z | z
                  · exact tus d z
                  · exact tds d (List.mem_reverse.mp z)
                · rw [hrest, if_pos c, List.reverse_append, List.reverse_reverse, List.flatMap_append]
                  rfl
        · have c' : isCd dx = false := Bool.eq_false_iff.mpr c
          refine ⟨rfl, SmX.refl _ _, us, dvs', as5.lst, hus5, tus, ?_⟩
          rw [hrest, c']
          rfl
      · cases fl with
        | brk => obtain ⟨_, _, _, q⟩ := h6; exact q.elim
        | cont => obtain ⟨_, _, _, q⟩ := h6; exact q.elim
        | ret u => obtain ⟨_, _, _, _, _, q⟩ := h6; exact q.elim
        | next =>
          obtain ⟨σ6, H6, I6, rfl, sm6, vs', dvs2, q1, q2, q3, q4⟩ := h6
          exact go3 H6 s6 ⟨⟨t, some y, vs', dvs2, I6, q1, q2, q3, q4⟩, sm6⟩
/-- the whole of it, from its first turn on -/
theorem walk_seg {s s' s2 : Shared} {H : Hp} {v0 : V} {d0 : PyData} {g : Nat} {E : XK} {CT : Addr} (C_ml : OwnR P w K mg base k "measured_long" (spLong K CT)) (hc : Own P w K mg base k "is_compound" ["value"] (spIsCompound K)) (hr : Room k (A.deeper (wE f cd s.heap.objs.size))) (hfr : A.frames = some outer) (hh : A.handled = none)
    (e0 : Env0 P w K mg base A outer s H) (B : Born P w K mg base N_walk "walk" (defScope s_walk) f cd (defBody s_walk) outer H [v0] s a g go s') (k2 : ∀ b o, s'.heap.get? b = some o → s2.heap.get? b = some o) (o2 : s2.os = s.os) (bare2 : AllBare s2.gens)
    (hd : Dp K H v0 d0) (hg : gd 20 d0 = true) (hbad : meas 9 d0 600 = none → errAt CT "InvalidTerm" H E)
    (hC : ∀ W i H s1, Cn W i H s1 → Env0 P w K mg base A outer s1 H ∧ s.heap.objs.size ≤ s1.heap.objs.size)
    (hD : ∀ W i H s0 H1 s1 x d, Cn W i H s0 → Moved P w outer s.heap.objs.size [W] H H1 s0 s1 → (pre d0)[i]? = some d → Tk d → Dp K H1 x d → Dn W i x H1 s1)
    (hZ : ∀ W H s0 H1 s1, Cn W (pre d0).length H s0 → Moved P w outer s.heap.objs.size [W] H H1 s0 s1 → Zn W H1 s1)
    (h0 : (meas 9 d0 600).isSome = true → ∀ W, H W = none → Cn W 0 H s) :
    Seg (model P w) A (RP Zn fun e s1 => L2.CX P w outer H s E e s1 ∧ s1.heap.IsGen a g) (YP Cn Dn s.heap.objs.size a go (pre d0).length) ((pre d0).length + 1) s2 (.func (defBody s_walk) (wE f cd s.heap.objs.size)) ((model P w).den (.func (defBody s_walk) (wE f cd s.heap.objs.size))) [] s2 := by
  have nd : N_walk.Nodup := sc_walk.nd
  have I0 := B.begin_ A E s2 hfr hh k2 o2 bare2
  have pass : Passes (L2.CX P w) (gcxOf P w K mg base N_walk "walk" (defScope s_walk) f cd A outer s H E [(a, go)]) E := passes_call takes_gcx fun _ _ _ _ h => h
  have p1 : PS (gcxOf P w K mg base N_walk "walk" (defScope s_walk) f cd A outer s H E [(a, go)]) w1 _ := ps_expr (pe_ownR C_ml hr (by rfl) pass (pa_cons (pv 0) pa_nil))
  have p2 : PS (gcxOf P w K mg base N_walk "walk" (defScope s_walk) f cd A outer s H E [(a, go)]) w2 _ := ps_set (i := 1) nd rfl (.inl rfl) (pe_lst (pa_cons (pv 0) pa_nil))
  have exc : ∀ {n : Nat} {t0 : Shared} {e : Value} {s1 : Shared}, (gcxOf P w K mg base N_walk "walk" (defScope s_walk) f cd A outer s H E [(a, go)]).xe e s1 → Seg (model P w) A (RP Zn fun e s1 => L2.CX P w outer H s E e s1 ∧ s1.heap.IsGen a g) (YP Cn Dn s.heap.objs.size a go (pre d0).length) n t0 (.func (defBody s_walk) (wE f cd s.heap.objs.size)) ((leaving (wE f cd s.heap.objs.size) e).wrap (fun _ => .raise e) .raise id id) [] s1 := fun {n t0 e s1} hx => by
    refine seg_wrap ?_
    rw [over_func]
    refine wpAny_mono (show wpAny (model P w) (A.deeper (wE f cd s.heap.objs.size)) (leaving (wE f cd s.heap.objs.size) e) (fun _ s2 => L2.CX P w outer H s E e s2 ∧ ∀ p ∈ [(a, go)], s2.heap.get? p.1 = some p.2) (fun _ _ => False) s1 from hx) (fun _ s3 q => ?_) fun _ _ q => q.elim
    exact seg_end (.error e) (.inr ⟨e, rfl, q.1, B.obj.is (q.2 (a, go) (List.mem_singleton.mpr rfl))⟩)
  refine seg_func ?_
  refine seg_execs_cons (st := w1) (rest := [w2, w3]) (seg_wrap ?_)
  rw [over_func]
  refine wpAny_mono (p1.run [] s2 _ H { nx := fun σ H' => σ = [some v0, none, none] ∧ Same H H' ∧ (meas 9 d0 600).isSome = true, rt := fun _ _ => False } I0 ⟨_, rfl, v0, d0, rfl, hd, hg, fun dp sz e H' p s' _ => ⟨rfl, s', by rw [e]; rfl⟩, hbad⟩) (fun fl s3 h3 => ?_) fun _ _ hx => exc hx
  cases fl with
  | brk => obtain ⟨_, _, _, q⟩ := h3; exact q.elim
  | cont => obtain ⟨_, _, _, q⟩ := h3; exact q.elim
  | ret u => obtain ⟨_, _, _, _, _, q⟩ := h3; exact q.elim
  | next =>
  obtain ⟨σ3, H3, I3, rfl, sm3, hm⟩ := h3
  have ms := meas_some 9 d0 600
  rw [hm] at ms
  have ms' := Bool.and_eq_true_iff.mp ms.symm
  have tk : Tk d0 := ⟨of_decide_eq_true ms'.1, of_decide_eq_true ms'.2, hg⟩
  refine seg_execs_cons (st := w2) (rest := [w3]) (seg_wrap ?_)
  rw [over_func]
  refine wpAny_mono (p2.run [] s3 _ H3 { nx := fun σ H' => ∃ W, H3 W = none ∧ σ = [some v0, some (.ref W), none] ∧ H' = upd H3 W (.lst [v0]), rt := fun _ _ => False } I3 ⟨_, rfl, by show 1 ≤ sizeLine; decide, fun W nW => ⟨W, nW, rfl, rfl⟩⟩) (fun fl s4 h4 => ?_) fun _ _ hx => exc hx
  cases fl with
  | brk => obtain ⟨_, _, _, q⟩ := h4; exact q.elim
  | cont => obtain ⟨_, _, _, q⟩ := h4; exact q.elim
  | ret u => obtain ⟨_, _, _, _, _, q⟩ := h4; exact q.elim
  | next =>
  obtain ⟨σ4, H4, I4, W, nW, rfl, rfl⟩ := h4
  have nW0 : H W = none := by
    cases e : H W with
    | none => rfl
    | some o => rw [sm3 W o e] at nW; cases nW
  have ns := same_upd (o := .lst [v0]) nW
  have I5 : Inv (wxW P w K mg base f cd A outer s.heap.objs.size a go s H) [] [some v0, some (.ref W), none] (upd H3 W (.lst [v0])) s4 :=
    ⟨⟨I4.ok.mod, I4.ok.kind, I4.ok.glob, I4.ok.blt, I4.ok.above, I4.ok.inj, I4.ok.has, I4.ok.cab, I4.ok.hd, I4.ok.frames, I4.ok.stk, I4.ok.exf, I4.ok.bs, I4.ok.bsz, I4.ok.noex, I4.ok.exfs, I4.ok.funs, I4.ok.frf⟩, I4.os, I4.bare, I4.base, I4.loc, I4.cell, I4.free, I4.freeC, I4.pin, I4.hok, I4.len⟩
  have hv4 : Dp K (upd H3 W (.lst [v0])) v0 d0 := dp_same ns d0 v0 (dp_same sm3 d0 v0 hd)
  have pinA := I4.pin (a, go) (List.mem_append_left _ (List.mem_singleton.mpr rfl))
  have hol : ∀ b ∈ frs outer, b < s.heap.objs.size := fun b hb => by
    obtain ⟨_, o, ho, _⟩ := e0.funs.mem hb
    exact Heap.lt_size ho
  refine seg_execs_cons (st := w3) (rest := []) (seg_While (test := wT) (body := wB) (orelse := []) fun p => ?_)
  exact walk_head hc hr hfr hh e0.bsz hol (Nat.ne_of_gt B.above) pinA.2.2.2.1 B.obj.nocell hC hD hZ (pre_small tk) rfl ((pre d0).length + 1) 0 W s s s2 s4 H _ rfl (Nat.zero_le _) (h0 hm W nW0) (Low.refl s)
    ⟨⟨v0, none, [v0], [d0], I5, upd_same, .cons hv4 .nil, fun d hd => by rw [List.mem_singleton.mp hd]; exact tk, by simp⟩, (SmX.of_same sm3).put (List.mem_singleton.mpr rfl)⟩
end
end Fv


set_option maxHeartbeats 2000000
namespace Fv
open PySem PySem.Spec PyProof.Rows L2 GenW FvX FvD FvG
/-! ### each one once, by the first occurrence -/
def addD (acc : List PyData) (d : PyData) : List PyData := if (acc.any fun e => decide (nk e = nk d)) = true then acc else acc ++ [d]
def onceD (l : List PyData) : List PyData := l.foldl addD []
theorem once_take {items : List PyData} {i : Nat} {d : PyData} (h : items[i]? = some d) : onceD (items.take (i + 1)) = addD (onceD (items.take i)) d := by
  unfold onceD
  rw [List.take_add_one, h, List.foldl_append]
  rfl
theorem put_keys (kvs : List NKV) (d : PyData) (y v : V) : (putN kvs d y v).map (·.1) = addD (kvs.map (·.1)) d := by
  unfold putN addD
  have e : (kvs.map (·.1)).any (fun e => decide (nk e = nk d)) = kvs.any fun p => decide (nk p.1 = nk d) := by
    rw [List.any_map]
    rfl
  rw [e]
  by_cases c : (kvs.any fun p => decide (nk p.1 = nk d)) = true
  · rw [if_pos c, if_pos c, List.map_map]
    refine List.map_congr_left fun p _ => ?_
    show (if nk p.1 = nk d then (p.1, p.2.1, v) else p).1 = p.1
    split <;> rfl
  · rw [if_neg c, if_neg c, List.map_append]
    rfl
theorem put_ok {K : PySem.W.Frag} {H : Hp} {kvs : List NKV} {d : PyData} {y v : V} (h : KyOk K H kvs) (hd : kd 8 d = true) (hy : Dp K H y d) : KyOk K H (putN kvs d y v) := fun p hp => by
  unfold putN at hp
  split at hp
  · obtain ⟨q, hq, rfl⟩ := List.mem_map.mp hp
    by_cases c : nk q.1 = nk d
    · rw [if_pos c]; exact h q hq
    · rw [if_neg c]; exact h q hq
  · rcases List.mem_append.mp hp with z | z
    · exact h p z
    · rw [List.mem_singleton.mp z]; exact ⟨hd, hy⟩
theorem ky_stay {K : PySem.W.Frag} {H H' : Hp} {kvs : List NKV} (s : Stay H H') (h : KyOk K H kvs) : KyOk K H' kvs := fun p hp => ⟨(h p hp).1, kdp_stay s 8 _ _ (h p hp).1 (h p hp).2⟩
theorem once_len (l : List PyData) : (onceD l).length ≤ l.length := by
  have gen : ∀ (l acc : List PyData), (l.foldl addD acc).length ≤ acc.length + l.length := by
    intro l
    induction l with
    | nil => intro acc; simp
    | cons d r ih =>
      intro acc
      rw [List.foldl_cons, List.length_cons]
      have a := ih (addD acc d)
      have b : (addD acc d).length ≤ acc.length + 1 := by
        unfold addD
        split
        · omega
        · simp
      omega
  have := gen l []
  unfold onceD
  simpa using this
/-! ### names, the state told -/
section
variable {X : Cx} {pins : List (Addr × Obj)} {σ : L2.St} {H : Hp} {s : Shared}
theorem ev_name {E : Value → Shared → Prop} {i : Nat} {x : Str} {v : V} {pos : Pos} {Q : Value → Shared → Prop} (I : Inv X pins σ H s) (hN : X.N[i]? = some x) (hk : X.env.scope.names.lookup x = some .local) (e : σ[i]? = some (some v)) (h : ∀ u, RelV v u → Q u s) (hd : (x == ("__debug__" : Str)) = false := by decide) :
    wpAny (model X.prog X.w) X.A (eval (.Name x pos) X.env) Q E s := by
  obtain ⟨m, hn, hl⟩ := I.loc
  obtain ⟨u, r, l⟩ := hl i x v hN e (.inl hk)
  rcases l with ⟨hk', hm⟩ | ⟨hk', _⟩
  · exact wpAny_Name (wpAny_loadName_local I.ok.kind hk' hn hm (h u r)) hd
  · have z : X.env.scope.names.lookup x = some .cell ∨ X.env.scope.names.lookup x = some .free := hk'
    rw [hk] at z
    rcases z with z | z <;> cases z
theorem inv_gens {s' : Shared} (I : Inv X pins σ H s) (hh : s'.heap = s.heap) (ho : s'.os = s.os) (hb : AllBare s'.gens) : Inv X pins σ H s' := by
  have k : ∀ b o, s.heap.get? b = some o → s'.heap.get? b = some o := fun b o e => by rw [hh]; exact e
  exact I.call' (ch := []) ho (Un.kept k) (I.hok.kept k) hb fun b z => absurd z (by simp)
theorem cx_kin {E : XK} {e : Value} {s' : Shared} (I : Inv X pins σ H s) (c : L2.CX X.prog X.w X.stack H s E e s') : X.K.In s'.heap := by
  obtain ⟨a, B, H', cls, d, _, fl, _, ub, _⟩ := c
  refine I.ok.mod.kin.keeps fun b o eb => ?_
  obtain ⟨e1, e2⟩ := I.bs b o eb
  refine fl.1 b o (ub.keep b o e1 e2 fun hm => ?_)
  rcases List.mem_cons.mp (I.stkSub b hm) with z | z
  · have a1 := Heap.lt_size eb
    rw [z] at a1
    exact absurd (Nat.lt_of_lt_of_le a1 (Nat.le_trans I.ok.bsz I.ok.above)) (Nat.lt_irrefl _)
  · exact I.ok.nofr eb z
end
/-! ### for x in walk(e): d[x] = True -/
structure LoopI (K : PySem.W.Frag) (w : World) (da : Addr) (H1 : Hp) (items : List PyData) (W : Addr) (i : Nat) (H : Hp) : Prop where
  ne : W ≠ da
  new : H1 W = none
  sm : SmX [da, W] H1 H
  stay : Stay H1 H
  dic : ∃ kvs, H da = some (NdO w da kvs) ∧ KyOk K H kvs ∧ kvs.map (·.1) = onceD (items.take i)
theorem LoopI.moved {K : PySem.W.Frag} {w : World} {da : Addr} {H1 : Hp} {items : List PyData} {W : Addr} {i : Nat} {H H2 : Hp} {P : Program} {outer : List Env} {L : Addr} {s s2 : Shared} (l : LoopI K w da H1 items W i H) (m : Moved P w outer L [W] H H2 s s2) : LoopI K w da H1 items W i H2 := by
  have st : Stay H H2 := ⟨m.un.tups, m.un.frzs⟩
  obtain ⟨kvs, q1, q2, q3⟩ := l.dic
  refine ⟨l.ne, l.new, l.sm.trans (m.sm.sub fun b hb => .inl (List.mem_cons_of_mem _ hb)), l.stay.trans st, kvs, m.sm da _ (fun z => l.ne (List.mem_singleton.mp z).symm) q1, ky_stay st q2, q3⟩
def tForW (K : PySem.W.Frag) (w : World) (CT : Addr) (E : XK) (i1 i2 : Nat) (ta : TA) : TS := fun D σ H => ta σ H fun vs H1 => ∃ v0 d0 da, vs = [v0] ∧ Dp K H1 v0 d0 ∧ gd 20 d0 = true ∧ σ[i1]? = some (some (.ref da)) ∧ H1 da = some (NdO w da []) ∧ (meas 9 d0 600 = none → errAt CT "InvalidTerm" H1 E) ∧
  ((meas 9 d0 600).isSome = true → ∀ (H' : Hp) (x : V) (kvs : List NKV) (W : Addr), H1 W = none → W ≠ da → SmX [da, W] H1 H' → Stay H1 H' → H' da = some (NdO w da kvs) → KyOk K H' kvs → kvs.map (·.1) = onceD (pre d0) → D.nx (σ.set i2 (some x)) H')
section
variable {X : Cx} {k : Nat} {fw CT : Addr} {fd : FuncData} {E : XK} {xf xp : Str} {i1 i2 j : Nat} {e : Expr} {ta : TA} {p1 p2 p3 p4 p5 p6 p7 pos : Pos}
theorem ps_forW (F : Fun X.K "walk" "walk" s_walk fw fd) (hmg : X.mg "walk" = some (.ref fw)) (hg : Gl X "walk") (C_ml : OwnR X.prog X.w X.K X.mg X.base k "measured_long" (spLong X.K CT)) (C_ic : Own X.prog X.w X.K X.mg X.base k "is_compound" ["value"] (spIsCompound X.K))
    (hr : Room (k + 3) X.A) (hp : PassesOwn (model X.prog X.w) X.A X.env X.xe) (hx : Passes (L2.CX X.prog X.w) X E) (hns : NoStop X.K E) (nd : X.N.Nodup) (hN1 : X.N[i1]? = some xf) (hN2 : X.N[i2]? = some xp) (hk1 : X.env.scope.names.lookup xf = some .local) (hk2 : X.env.scope.names.lookup xp = some .local) (h12 : i1 ≠ i2)
    (ha : PA X [e] ta) (hst : starEach [e] X.env = (false, eval e X.env) :: starEach [] X.env := by rfl) (hd1 : (xf == ("__debug__" : Str)) = false := by decide) (hd2 : (xp == ("__debug__" : Str)) = false := by decide) (hsw : swapsWith (.Constant (.bool true) j p6) (some (.Subscript (.Name xf p3) (.Name xp p4) p5)) p7.line X.env = pure false := by rfl) :
    PS X (.For (.Name xp p1) (.Call (.Name "walk" p2) [e] [] pos) [.Assign [.Subscript (.Name xf p3) (.Name xp p4) p5] (.Constant (.bool true) j p6) p7] [] pos') (tForW X.K X.w CT E i1 i2 ta) := by
  refine ⟨fun pins s σ H D I h => ?_⟩
  obtain ⟨oc, od, kV, doc, pm, an, cdv, ct, osl, rfl, lk, hcd⟩ := F.ex
  refine wpAny_For ?_ (fun _ => rfl)
  refine wpAny_Call_Name_kw (ld_glob I hg hmg ?_)
  refine PySem.W.callWith_K (h₀ := X.base) I.ok.mod.kin F.kp (thn (ha.run pos pins s σ H _ I h) fun us s1 z => ?_) hst rfl
  obtain ⟨vs, H1, I1, r, v0, d0, da, rfl, hd, hgd, hs1, hda, hbad, hgood⟩ := z
  refine ⟨I1.kIn, ?_⟩
  have hl : us.length = 1 := by rw [← r.length]; rfl
  have bnd : BindsTo s1 (PySem.W.fnOf "walk" "walk" (defArgs s_walk) (defBody s_walk) (defScope s_walk) .none kV doc pm an cdv ct) ⟨us, []⟩ ((["term"] : List Str).zip us) := by
    match us, hl with
    | [u], _ => exact .of_eq rfl
  refine wpAny_call (codeAny_mono (born_of (vs := [v0]) lk hcd sc_walk rfl hr.depth hr.hd I1.env0 bnd r) fun r2 s2 hq => ?_)
  obtain ⟨a, g, go, rfl, B⟩ := hq
  show wpAny _ _ (pyIter (.ref a)) _ _ s2
  refine wpAny_pyIter_gen (B.obj.is B.at_) ?_
  -- those who wait, and what they see
  have below : ∀ p ∈ X.pn ++ pins, p.1 < s1.heap.objs.size := fun p hp => Heap.lt_size (I1.pin p hp).1
  have lowL : X.env.locals < s1.heap.objs.size := I1.lt
  have hiOk : ∀ (t : Shared) (b : Addr), b ∈ high s1.heap.objs.size t → (b ∈ X.ex ∨ X.s_0.heap.objs.size ≤ b) ∧ b ≠ X.env.locals ∧ (∀ x c, X.env.cells.lookup x = some c → c ≠ b) ∧ ∀ p ∈ X.pn ++ pins, p.1 ≠ b := fun t b hb => by
    have lb := (high_mem.mp hb).1
    refine ⟨.inr (Nat.le_trans I1.sz lb), Nat.ne_of_gt (Nat.lt_of_lt_of_le lowL lb), fun x c hc z => ?_, fun p hp z => ?_⟩
    · obtain ⟨v, o, ho, _⟩ := I1.cell x c hc
      have := Heap.lt_size ho
      rw [z] at this
      exact absurd (Nat.lt_of_lt_of_le this lb) (Nat.lt_irrefl _)
    · have := below p hp
      rw [z] at this
      exact absurd (Nat.lt_of_lt_of_le this lb) (Nat.lt_irrefl _)
  have slots : ∀ x, (σ.set i2 (some x))[i1]? = some (some (.ref da)) := fun x => by rw [List.getElem?_set_ne (Ne.symm h12)]; exact hs1
  let Cn : Addr → Nat → Hp → Shared → Prop := fun W i H' t => ∃ σ', Inv X pins σ' H' t ∧ ((i = 0 ∧ σ' = σ) ∨ ∃ x, σ' = σ.set i2 (some x)) ∧ s1.heap.objs.size ≤ t.heap.objs.size ∧ LoopI X.K X.w da H1 (pre d0) W i H' ∧ (meas 9 d0 600).isSome = true
  let Dn : Addr → Nat → V → Hp → Shared → Prop := fun W i x H' t => ∃ σ', Inv X pins σ' H' t ∧ ((i = 0 ∧ σ' = σ) ∨ ∃ x, σ' = σ.set i2 (some x)) ∧ LoopI X.K X.w da H1 (pre d0) W i H' ∧ (∃ d, (pre d0)[i]? = some d ∧ Tk d ∧ Dp X.K H' x d) ∧ (meas 9 d0 600).isSome = true
  let Zn : Addr → Hp → Shared → Prop := fun W H' t => ∃ x, Inv X pins (σ.set i2 (some x)) H' t ∧ LoopI X.K X.w da H1 (pre d0) W (pre d0).length H' ∧ (meas 9 d0 600).isSome = true
  have small : (meas 9 d0 600).isSome = true → (pre d0).length ≤ 1200 := fun hm => by
    have ms := meas_some 9 d0 600
    rw [hm] at ms
    have ms' := Bool.and_eq_true_iff.mp ms.symm
    exact pre_small ⟨of_decide_eq_true ms'.1, of_decide_eq_true ms'.2, hgd⟩
  have pos0 : 0 < (pre d0).length := by rw [pre_eq]; exact Nat.succ_pos _
  have afterM : ∀ {W : Addr} {H' H2 : Hp} {t t2 : Shared} {σ' : L2.St}, Inv X pins σ' H' t → Moved X.prog X.w X.stack s1.heap.objs.size [W] H' H2 t t2 → Inv X pins σ' H2 t2 := fun {W H' H2 t t2 σ'} It m =>
    It.call' (ch := high s1.heap.objs.size t) m.os m.un m.hok m.bare fun b hb => hiOk t b hb
  have hfr : X.A.in1.frames = some X.stack := I1.ok.frames
  have hC : ∀ W i H' t, Cn W i H' t → Env0 X.prog X.w X.K X.mg X.base X.A.in1 X.stack t H' ∧ s1.heap.objs.size ≤ t.heap.objs.size := fun W i H' t ⟨σ', It, _, hL, _⟩ =>
    ⟨⟨hfr, It.env0.mod, It.env0.bs, It.env0.bsz, It.env0.funs, It.env0.frf, It.env0.hok, It.env0.bare⟩, hL⟩
  have e01 : Env0 X.prog X.w X.K X.mg X.base X.A.in1 X.stack s1 H1 := ⟨hfr, I1.env0.mod, I1.env0.bs, I1.env0.bsz, I1.env0.funs, I1.env0.frf, I1.env0.hok, I1.env0.bare⟩
  have hD : ∀ W i H' t H2 t2 x d, Cn W i H' t → Moved X.prog X.w X.stack s1.heap.objs.size [W] H' H2 t t2 → (pre d0)[i]? = some d → Tk d → Dp X.K H2 x d → Dn W i x H2 t2 := fun W i H' t H2 t2 x d ⟨σ', It, sl, hL, lp, hm⟩ m hi tk hdp =>
    ⟨σ', afterM It m, sl, lp.moved m, ⟨d, hi, tk, hdp⟩, hm⟩
  have hZ : ∀ W H' t H2 t2, Cn W (pre d0).length H' t → Moved X.prog X.w X.stack s1.heap.objs.size [W] H' H2 t t2 → Zn W H2 t2 := fun W H' t H2 t2 ⟨σ', It, sl, hL, lp, hm⟩ m => by
    rcases sl with ⟨z, _⟩ | ⟨x, rfl⟩
    · omega
    · exact ⟨x, afterM It m, lp.moved m, hm⟩
  have h0 : (meas 9 d0 600).isSome = true → ∀ W, H1 W = none → Cn W 0 H1 s1 := fun hm W nW =>
    ⟨σ, I1, .inl ⟨rfl, rfl⟩, Nat.le_refl _, ⟨(fun z => by rw [z, hda] at nW; cases nW), nW, SmX.refl _ _, Stay.refl _, [], hda, (fun p hp => nomatch hp), rfl⟩, hm⟩
  have seg := fun (t2 : Shared) (k2 : ∀ b o, s2.heap.get? b = some o → t2.heap.get? b = some o) (o2 : t2.os = s1.os) (b2 : AllBare t2.gens) =>
    walk_seg (A := X.A.in1) (Cn := Cn) (Dn := Dn) (Zn := Zn) (E := E) C_ml C_ic (((hr.mono (by omega : k + 2 ≤ k + 3)).in1).deeper _) hfr hr.hd e01 B k2 o2 b2 hd hgd hbad hC hD hZ h0
  refine codeAny_forLoop_any (fun n t => t.heap.NoLimit ∧ t.heap.get? a = some go ∧ ∃ gs, t.gens[g]? = some gs ∧ gs.Goes (model X.prog X.w) X.A.in1 (RP Zn fun e t1 => L2.CX X.prog X.w X.stack H1 s1 E e t1 ∧ t1.heap.IsGen a g) (YP Cn Dn s1.heap.objs.size a go (pre d0).length) n (.send .none) (t.setGen g .running)) ?_ ((pre d0).length + 1)
    ⟨B.lim, B.at_, _, B.gen, rfl, seg (s2.setGen g .running) (fun b o e => e) B.os (allBare_setGen B.bare rfl)⟩
  rintro n t ⟨lim, hat, gs, hgs, hgo⟩
  have hgl : g < t.gens.size := (Array.getElem?_eq_some_iff.mp hgs).1
  refine wpAny_passesOwn hp (wpAny_gsz (n := g + 1) hgl (next_genG (A := X.A) (F := fun _ _ t1 => ∃ W H', Zn W H' t1) (Er := fun e t1 => L2.CX X.prog X.w X.stack H1 s1 E e t1 ∧ t1.heap.IsGen a g) hr.hd lim hr.depth (B.obj.is hat) hgs hgo (fun v t1 gs' hbare hv => ?_) (fun t1 hz h' hk => ?_) fun ee t1 he => ?_))
  · intro hsz
    obtain ⟨W, i, x, vs, oL, H5, hni, rv, ⟨σ5, I5, sl5, lp5, ⟨d, hdi, tk, hdp⟩, hm⟩, as5, ncell, wake⟩ := hv
    have hsz1 : g < t1.gens.size := by
      have z : g + 1 ≤ (t1.setGen g gs').gens.size := hsz
      rw [setGen_size] at z
      omega
    obtain ⟨nm, qn, hdat⟩ := B.obj.dat
    refine go_of (o := go) (s := t1.setGen g gs') as5.gen B.obj.cls hdat (by decide) ?_
    have I6 : Inv X pins σ5 H5 (t1.setGen g gs') := inv_gens I5 rfl rfl (allBare_setGen I5.bare hbare)
    have nfs : ∀ b, s1.heap.objs.size ≤ b → b ∉ X.fs := fun b hb hm => by
      obtain ⟨_, o, ho, _⟩ := I1.ok.funs.mem hm
      have z := Heap.lt_size ho
      exact absurd (Nat.lt_of_lt_of_le z (Nat.le_trans I1.sz hb)) (Nat.lt_irrefl _)
    have I7 : Inv X (pins ++ [(s1.heap.objs.size, oL), (a, go)]) σ5 H5 (t1.setGen g gs') := I6.pins_of fun p hp => by
      rcases List.mem_append.mp hp with z | z
      · exact I6.pin p (List.mem_append_right _ z)
      · rcases List.mem_cons.mp z with z | z
        · rw [z]
          exact ⟨as5.frm, as5.frn, Nat.ne_of_gt lowL, nfs _ (Nat.le_refl _), ncell⟩
        · rw [List.mem_singleton.mp z]
          exact ⟨as5.gen, as5.gnn, Nat.ne_of_gt (Nat.lt_trans lowL B.above), nfs _ (Nat.le_of_lt B.above), B.obj.nocell⟩
    have hlσ : σ5.length = σ.length := by
      rcases sl5 with ⟨_, rfl⟩ | ⟨y, rfl⟩
      · rfl
      · exact List.length_set ..
    have set5 : σ5.set i2 (some x) = σ.set i2 (some x) := by
      rcases sl5 with ⟨_, rfl⟩ | ⟨y, rfl⟩
      · rfl
      · exact List.set_set ..
    have hi2 : i2 < σ.length := by rw [I1.len]; exact (List.getElem?_eq_some_iff.mp hN2).1
    refine wpAny_assign_Name (store_loc I7 nd hN2 hk2 rv fun h8 t8 I8 => ?_)
    rw [set5] at I8
    obtain ⟨kvs, q1, q2, q3⟩ := lp5.dic
    have kl : kvs.length < sizeLine := by
      have z1 := congrArg List.length q3
      rw [List.length_map] at z1
      have z2 := once_len ((pre d0).take i)
      have z3 : ((pre d0).take i).length ≤ (pre d0).length := by rw [List.length_take]; omega
      have z4 := small hm
      exact Nat.lt_of_le_of_lt (by omega : kvs.length ≤ 1200) (by rw [sizeLine_eq]; decide)
    refine wpAny_execs_cons (wpAny_Assign_Subscript (Constant_bool (ev_name I8 hN1 hk1 (slots x) (fun u1 r1 => ev_name I8 hN2 hk2 (by rw [List.getElem?_set_self hi2]) (fun u2 r2 => ?_) hd2) hd1)) hsw)
    obtain rfl : u1 = Value.ref da := r1
    refine d_setN (v := .bl true) (r := .bool true) (by have := hr.un; omega) I8 q1 q2 tk.kd hdp r2 rfl kl fun h9 t9 I9 => ?_
    refine wpAny_execs_nil ?_
    -- the sleeper finds all as it was
    have stay9 : Stay H5 (upd H5 da (NdO X.w da (putN kvs d x (.bl true)))) := Stay.put ⟨fun xs z => (by rw [q1] at z; cases z), fun u v z => (by rw [q1] at z; cases z)⟩
    have pL := I9.pin (s1.heap.objs.size, oL) (List.mem_append_right _ (List.mem_append_right _ List.mem_cons_self))
    have pA := I9.pin (a, go) (List.mem_append_right _ (List.mem_append_right _ (List.mem_cons_of_mem _ (List.mem_singleton.mpr rfl))))
    have I10 : Inv X pins (σ.set i2 (some x)) (upd H5 da (NdO X.w da (putN kvs d x (.bl true)))) _ := I9.pins_of fun p hp => I9.pin p (List.mem_append_right _ (List.mem_append_left _ hp))
    have lp9 : LoopI X.K X.w da H1 (pre d0) W (i + 1) (upd H5 da (NdO X.w da (putN kvs d x (.bl true)))) := by
      refine ⟨lp5.ne, lp5.new, lp5.sm.put List.mem_cons_self, lp5.stay.trans stay9, _, upd_same, ky_stay stay9 (put_ok q2 tk.kd hdp), ?_⟩
      rw [put_keys, q3, once_take hdi]
    have as9 : Asleep s1.heap.objs.size a go W vs oL (upd H5 da (NdO X.w da (putN kvs d x (.bl true)))) ({ t1.setGen g gs' with heap := h9, toks := t9 } : Shared) := ⟨by rw [upd_ne lp5.ne]; exact as5.lst, pL.1, pL.2.1, pA.1, pA.2.1⟩
    have aw := wake (({ t1.setGen g gs' with heap := h9, toks := t9 } : Shared).setGen g .running) _ ⟨_, inv_gens I10 rfl rfl (allBare_setGen I10.bare rfl), .inr ⟨x, rfl⟩, Nat.le_of_lt (Heap.lt_size pL.1), lp9, hm⟩ stay9 ⟨as9.lst, as9.frm, as9.frn, as9.gen, as9.gnn⟩
    cases n with
    | zero => exact aw.elim
    | succ m => exact ⟨m, Nat.lt_succ_self m, I10.nolimit, pA.1, gs', setGen_at hsz1, aw⟩
  · intro hsz
    obtain ⟨W, H2, x, I2, lp, hm⟩ := hz
    obtain ⟨kvs, q1, q2, q3⟩ := lp.dic
    rw [List.take_length] at q3
    have I3 : Inv X pins (σ.set i2 (some x)) H2 (t1.setGen g .finished) := inv_gens I2 rfl rfl (allBare_setGen I2.bare rfl)
    have I4 := I3.kept (t' := t1.toks) hk
    exact wpAny_execs_nil ⟨_, H2, I4, hgood hm H2 x kvs W lp.new lp.ne lp.sm lp.stay q1 q2 q3⟩
  · obtain ⟨hc, hi⟩ := he
    refine ⟨hi, notStop_of hns (cx_kin I1 hc) hc, fun _ => hx pins σ H1 s1 ee _ I1 ?_⟩
    obtain ⟨a', B', H', cls, d, z1, fl, z2, ub, z3, z4, z5, z6⟩ := hc
    exact ⟨a', B', H', cls, d, z1, fl, z2, ub, z3, z4, allBare_setGen z5 rfl, z6⟩
end
end Fv


namespace Fv
open PySem PySem.Spec PyProof.Rows L2
-- top 30  slots: 0:_law_word 1:_law_one
abbrev s_law_leaves : Stmt := topS 30
abbrev N_law_leaves : List Str := ["_law_word", "_law_one"]
theorem sc_law_leaves : FnScope N_law_leaves ["_law_word"] (defScope s_law_leaves) := ⟨rfl, rfl, rfl, by decide +kernel, rfl, by decide +kernel, by decide +kernel⟩

def spLeaves (K : PySem.W.Frag) (n : Nat) : Sp := fun vs H Q _ => ∃ (v : V) (d : PyData) (m : Nat), vs = [v] ∧ Dp K H v d ∧ gd 20 d = true ∧ m < n ∧ 1 ≤ lmeas m d ∧ ∀ H', Same H H' → Q (.int (lmeas m d)) H'
section
variable {P : Program} {w : World} {K : PySem.W.Frag} {mg : Str → Option Value} {base : Heap}
theorem leaves_zero {f : Addr} {fd : FuncData} {k : Nat} {ps : List Str} : FnOk P w K mg base CX0 k f fd ps (spLeaves K 0) := by
  have no : ∀ vs H Q E, ¬ spLeaves K 0 vs H Q E := fun vs H Q E h => by
    obtain ⟨v, d, m, _, _, _, m1, _⟩ := h
    omega
  exact ⟨fun vs H Q E h => absurd h (no vs H Q E), fun A outer s H args us vs Q E _ _ _ _ h => absurd h (no vs H Q E)⟩
theorem ok_leaves {f : Addr} {fd : FuncData} {k n : Nat} (F : Fun K "_law_leaves" "_law_leaves" s_law_leaves f fd) (m_isinstance : mg "isinstance" = none) (m_str : mg "str" = none) (m_sum : mg "sum" = none)
    (C_law_leaves : Own P w K mg base k "_law_leaves" ["_law_word"] (spLeaves K n)) :
    FnOk P w K mg base CX0 (k + 1) f fd ["_law_word"] (spLeaves K (n + 1)) := by
  refine F.ok sc_law_leaves (fun vs H Q E h => ?_) (fun cdv A outer s H vs Q E hr h => ?_)
  · obtain ⟨v, d, m, rfl, _⟩ := h
    rfl
  · obtain ⟨v, d, m, rfl, hd, hg, hm, l1, q⟩ := h
    refine ⟨_, (pss_one (ps_ret (pe_ifExp (pt_val (pe_isD (T := "str") (by rfl) m_isinstance (by rfl) m_str (pv 0))) pe_int (pe_callB (cr_sum rfl) (by rfl) m_sum (by decide +kernel) (pa_cons (pe_lc (own := [("_law_one", 1)]) (g := gName 1) (by rfl) sc_law_leaves.nd (pi_tup (pe_slice sl_tup (pv 0) (po_some pe_int) po_none)) (blkOk_by (own := [("_law_one", 1)]) (N := N_law_leaves) (sc := defScope s_law_leaves) (by decide +kernel)) (fun _ _ _ _ _ => pg_name (i := 1) sc_law_leaves.nd rfl (Or.inl rfl)) (fun _ _ _ _ _ => pts_nil) (fun _ _ _ _ _ => (pe_own C_law_leaves (hr.mono (by omega)) (by rfl) (pa_cons (pv 1) pa_nil)))) pa_nil))))), ?_⟩
    cases m with
    | zero => simp only [lmeas] at l1; omega
    | succ m =>
    rcases lmeas_inv l1 with ⟨x, rfl, hx⟩ | ⟨o, ds, rfl, nl, ho, h2, all1, e⟩
    · cases hd
      have q' := q H (Same.refl H)
      have e1 : lmeas (m + 1) (.str x) = 1 := by
        show (if isL x = true then (1 : Int) else _) = 1
        rw [if_pos hx]
      rw [e1] at q'
      exact ⟨_, rfl, _, _, _, rfl, by decide, .str x, _, rfl, iteT q'⟩
    · cases hd with
      | @tup a xs _ hs ha =>
        cases ha with
        | @cons x0 xr _ _ h1 hA =>
        cases h1
        have hl := dpAll_len hA
        refine ⟨_, rfl, _, _, .tuple (.str o :: ds), rfl, by decide, .tup hs (.cons (.str o) hA), _, rfl, iteF ?_⟩
        refine ⟨_, rfl, 1, rfl, a, _, rfl, hs, ?_, fun p np => ?_⟩
        · rw [show HT.sIx (V.str o :: xr).length 0 (some 1) = min 1 (V.str o :: xr).length from HT.sIx_nat _ 0 1, List.length_cons]
          omega
        have ex : cutV (V.str o :: xr) (some 1) none = xr := by rw [cut_drop1]; rfl
        rw [ex]
        have sp := same_upd (o := .tup xr) np
        have gp := (gd_parts hg).2
        refine ⟨p, rfl, ⟨_, SqT.of upd_same⟩, fun D nD => lc_tup (xs := xr) (fun i H1 => Same (upd H p (.tup xr)) H1 ∧ H1 D = some (.lst (((ds.take i).map (lmeas m)).map V.int))) ?_ ?_ ?_ ?_⟩
        · exact ⟨same_upd nD, by rw [upd_same]; rfl⟩
        · rintro i H1 hi ⟨sm, e1⟩
          exact SqT.of (sm _ _ upd_same)
        · rintro i x H1 hx ⟨sm, e1⟩
          obtain ⟨d', hd', hD'⟩ := dpAll_get hA hx
          have hDs : Dp K H1 x d' := dp_same (sp.trans sm) d' x hD'
          have md : d' ∈ ds := List.mem_of_getElem? hd'
          refine ⟨rfl, ?_⟩
          dsimp only [tYes]
          rw [if_pos rfl]
          refine ⟨_, rfl, x, d', m, rfl, hDs, gd_le (gp d' md) (by decide), by omega, all1 d' md, fun H2 s2 => ?_⟩
          refine ⟨_, s2 _ _ e1, ?_, ?_, ?_⟩
          · rw [List.length_map, List.length_map, List.length_take]
            have lds := (gd_tuple hg).1
            rw [List.length_cons] at lds
            exact small1000 (by omega)
          · intro b o' eb
            have bD : b ≠ D := ne_of_none eb nD
            rw [upd_ne bD]
            exact s2 _ _ (sm _ _ eb)
          · rw [upd_same, List.take_add_one, hd']
            simp
        · rintro H1 ⟨sm, e1⟩
          have et : ds.take xr.length = ds := List.take_of_length_le (by omega)
          rw [et] at e1
          have q' := q H1 (sp.trans sm)
          rw [e] at q'
          exact ⟨D, _, rfl, SqL.of e1, q'⟩
end
end Fv


namespace Fv
open PySem PySem.Spec PyProof.Rows L2 FvX TL
-- top 20  slots: 0:term 1:operator 2:parts 3:part
abbrev s_with_turned_operators : Stmt := topS 20
abbrev N_with_turned_operators : List Str := ["term", "operator", "parts", "part"]
theorem sc_with_turned_operators : FnScope N_with_turned_operators ["term"] (defScope s_with_turned_operators) := ⟨rfl, rfl, rfl, by decide +kernel, rfl, by decide +kernel, by decide +kernel⟩


-- top 34  slots: 0:_law_word 1:_law_one
abbrev s_law_turned : Stmt := topS 34
abbrev N_law_turned : List Str := ["_law_word", "_law_one"]
theorem sc_law_turned : FnScope N_law_turned ["_law_word"] (defScope s_law_turned) := ⟨rfl, rfl, rfl, by decide +kernel, rfl, by decide +kernel, by decide +kernel⟩


/-! ### turned terms, terms with letters replaced -/
def opT (o : Str) : Str := if o = "&" then "|" else "&"
def tnd : Nat → PyData → PyData
  | 0, d => d
  | m + 1, .tuple (.str o :: ds) => .tuple (.str (opT o) :: ds.map (tnd m))
  | _ + 1, d => d
def swp (f : Str → Option PyData) : Nat → PyData → PyData
  | 0, d => d
  | _ + 1, .str x => (f x).getD (.str x)
  | m + 1, .tuple (.str o :: ds) => .tuple (.str o :: ds.map (swp f m))
  | _ + 1, d => d
/-- the table at kvs: f -/
def tabOf (K : PySem.W.Frag) (H : Hp) (kvs : List (Key × V)) (f : Str → Option PyData) : Prop := ∀ x, (f x = none ∧ valV kvs (.inr x) = none) ∨ ∃ e u, f x = some e ∧ valV kvs (.inr x) = some u ∧ Dp K H u e
theorem tabOf.same {K : PySem.W.Frag} {H H' : Hp} {kvs : List (Key × V)} {f : Str → Option PyData} (h : tabOf K H kvs f) (s : Same H H') : tabOf K H' kvs f := fun x => by
  rcases h x with z | ⟨e, u, h1, h2, h3⟩
  · exact .inl z
  · exact .inr ⟨e, u, h1, h2, dp_same s _ _ h3⟩
def spTnd (K : PySem.W.Frag) (n : Nat) : Sp := fun vs H Q _ => ∃ (v : V) (d : PyData) (m : Nat) (M : List Addr), vs = [v] ∧ Dp K H v d ∧ gd 20 d = true ∧ m < n ∧ 1 ≤ lmeas m d ∧ Trk M H ∧
  ∀ H' v', Same H H' → Dp K (hide M H') v' (tnd m d) → Q v' H'
def spSwp (K : PySem.W.Frag) (n : Nat) : Sp := fun vs H Q _ => ∃ (v : V) (c : Addr) (d : PyData) (m : Nat) (M : List Addr) (kvs : List (Key × V)) (f : Str → Option PyData), vs = [v, .ref c] ∧ Dp K H v d ∧ gd 20 d = true ∧ m < n ∧ 1 ≤ lmeas m d ∧ Trk M H ∧
  H c = some (.dK kvs) ∧ tabOf K (hide M H) kvs f ∧ ∀ H' v', Same H H' → Dp K (hide M H') v' (swp f m d) → Q v' H'
theorem hid_more {M : List Addr} {H H1 : Hp} {D : Addr} (nD : H D = none) (s : Same H H1) : Same (hide M H) (hide (D :: M) H1) := fun b o e => by
  obtain ⟨nb, e⟩ := hide_some e
  have bD : b ≠ D := ne_of_none e nD
  rw [hide_ne (fun z => by
    rcases List.mem_cons.mp z with z | z
    · exact bD z
    · exact nb z)]
  exact s _ _ e
theorem hid_less {M : List Addr} {H H1 : Hp} {D : Addr} (s : Same H H1) : Same (hide (D :: M) H) (hide M H1) := (hide_sub fun b hb => List.mem_cons_of_mem _ hb).trans (SmX.of_same s).hid
theorem trk_cons {M : List Addr} {H H1 : Hp} {D : Addr} {o : HO} (t : Trk M H) (s : Same H H1) (e : H1 D = some o) : Trk (D :: M) H1 := fun b hb => by
  rcases List.mem_cons.mp hb with z | z
  · rw [z]; exact ⟨_, e⟩
  · exact t.same s b z
theorem amp_dec (o : Str) : decide (V.str o = V.str "&") = decide (o = "&") := by
  rw [Bool.eq_iff_iff, decide_eq_true_eq, decide_eq_true_eq]
  exact ⟨V.str.inj, congrArg V.str⟩
theorem ifC {b : Bool} {x y : Str} {σ : L2.St} {H : Hp} {Q : VK} (h : Q (.str (if b = true then x else y)) H) : if b = true then tC (.str x) σ H Q else tC (.str y) σ H Q := by
  cases b <;> exact h
theorem opT_eq (o : Str) : (if decide (o = "&") = true then ("|" : Str) else "&") = opT o := by
  unfold opT
  by_cases e : o = "&"
  · rw [if_pos e, if_pos (decide_eq_true e)]
  · rw [if_neg e, if_neg (fun z => e (of_decide_eq_true z))]
section
variable {P : Program} {w : World} {K : PySem.W.Frag} {mg : Str → Option Value} {base : Heap}
theorem tnd_zero {f : Addr} {fd : FuncData} {k : Nat} {ps : List Str} : FnOk P w K mg base CX0 k f fd ps (spTnd K 0) := by
  have no : ∀ vs H Q E, ¬ spTnd K 0 vs H Q E := fun vs H Q E h => by
    obtain ⟨v, d, m, M, _, _, _, h, _⟩ := h
    omega
  exact ⟨fun vs H Q E h => absurd h (no vs H Q E), fun A outer s H args us vs Q E _ _ _ _ h => absurd h (no vs H Q E)⟩
theorem swp_zero {f : Addr} {fd : FuncData} {k : Nat} {ps : List Str} : FnOk P w K mg base CX0 k f fd ps (spSwp K 0) := by
  have no : ∀ vs H Q E, ¬ spSwp K 0 vs H Q E := fun vs H Q E h => by
    obtain ⟨v, c, d, m, M, kvs, f, _, _, _, h, _⟩ := h
    omega
  exact ⟨fun vs H Q E h => absurd h (no vs H Q E), fun A outer s H args us vs Q E _ _ _ _ h => absurd h (no vs H Q E)⟩
theorem ok_turned_ops {f : Addr} {fd : FuncData} {k n : Nat} (F : Fun K "with_turned_operators" "with_turned_operators" s_with_turned_operators f fd) (hk : 1 ≤ k)
    (C_is_letter : Own P w K mg base 1 "is_letter" ["value"] (spIsLetter K))
    (C_with_turned_operators : Own P w K mg base k "with_turned_operators" ["term"] (spTnd K n)) :
    FnOk P w K mg base CX0 (k + 1) f fd ["term"] (spTnd K (n + 1)) := by
  refine F.ok sc_with_turned_operators (fun vs H Q E h => ?_) (fun cdv A outer s H vs Q E hr h => ?_)
  · obtain ⟨v, d, m, M, rfl, _⟩ := h
    rfl
  · obtain ⟨v, d, m, M, rfl, hd, hg, hm, l1, tM, q⟩ := h
    refine ⟨_, (pss_cons (ps_if (pt_val (pe_own C_is_letter (hr.mono (by omega)) (by rfl) (pa_cons (pv 0) pa_nil)))
        (pss_one (ps_ret (pv 0)))
        pss_nil)
      (pss_cons (ps_set (i := 1) sc_with_turned_operators.nd rfl (by first | exact .inl rfl | exact .inr rfl) (pe_ifExp (pt_cmpR op_eq (pe_ix ix_tup (pv 0) pe_int (fun _ _ => rfl)) pe_str (nomark _)) pe_str pe_str))
      (pss_cons (ps_setLc (i := 2) (own := [("part", 3)]) (g := gName 3) (by rfl) sc_with_turned_operators.nd rfl rfl (sw_true rfl rfl rfl (by decide +kernel)) (pi_tup (pe_slice sl_tup (pv 0) (po_some pe_int) po_none)) (blkOk_by (own := [("part", 3)]) (N := N_with_turned_operators) (sc := defScope s_with_turned_operators) (by decide +kernel)) (fun _ _ _ _ _ => pg_name (i := 3) sc_with_turned_operators.nd rfl (Or.inl rfl)) (fun _ _ _ _ _ => pts_nil) (fun _ _ _ _ _ => (pe_own C_with_turned_operators (hr.mono (by omega)) (by rfl) (pa_cons (pv 3) pa_nil))))
      (pss_one (ps_ret (pe_tup (pa_cons (pv 1) (StX.pa_star (pv 2) pa_nil)))))))), ?_⟩
    cases m with
    | zero => simp only [lmeas] at l1; omega
    | succ m =>
    rcases lmeas_inv l1 with ⟨x, rfl, hx⟩ | ⟨o, ds, rfl, nl, ho, h2, all1, e⟩
    · cases hd
      refine ⟨_, rfl, _, _, rfl, .str x, hg, _, rfl, ?_⟩
      show if isL x = true then _ else _
      rw [if_pos hx]
      exact ⟨_, rfl, q H _ (Same.refl H) (.str x)⟩
    · cases hd with
      | @tup a xs _ hs ha =>
        cases ha with
        | @cons x0 xr _ _ h1 hA =>
        cases h1
        have hl := dpAll_len hA
        have lds := (gd_tuple hg).1
        rw [List.length_cons] at lds
        refine ⟨_, rfl, _, _, rfl, .tup hs (.cons (.str o) hA), hg, _, rfl, iteF ?_⟩
        refine ⟨_, rfl, a, _, _, _, rfl, rfl, hs, at0, rfl, _, rfl, ?_⟩
        rw [amp_dec]
        refine ifC ?_
        rw [opT_eq]
        refine ⟨_, rfl, 1, rfl, a, _, rfl, hs, ?_, fun p np => ?_⟩
        · rw [show HT.sIx (V.str o :: xr).length 0 (some 1) = min 1 (V.str o :: xr).length from HT.sIx_nat _ 0 1, List.length_cons]
          omega
        have ex : cutV (V.str o :: xr) (some 1) none = xr := by rw [cut_drop1]; rfl
        rw [ex]
        have sp := same_upd (o := .tup xr) np
        have gp := (gd_parts hg).2
        refine ⟨p, rfl, ⟨_, SqT.of upd_same⟩, fun D nD => lc_tup (xs := xr) (fun i H1 => Same (upd H p (.tup xr)) H1 ∧ ∃ acc, H1 D = some (.lst acc) ∧ acc.length = i ∧ DpAll K (hide (D :: M) H1) acc ((ds.take i).map (tnd m))) ?_ ?_ ?_ ?_⟩
        · exact ⟨same_upd nD, [], upd_same, rfl, .nil⟩
        · rintro i H1 hi ⟨sm, acc, e1, la, hda⟩
          exact SqT.of (sm _ _ upd_same)
        · rintro i x H1 hx ⟨sm, acc, e1, la, hda⟩
          obtain ⟨d', hd', hD'⟩ := dpAll_get hA hx
          have hDs : Dp K H1 x d' := dp_same (sp.trans sm) d' x hD'
          have md : d' ∈ ds := List.mem_of_getElem? hd'
          have li : i < xr.length := by
            rcases Nat.lt_or_ge i xr.length with z | z
            · exact z
            · rw [List.getElem?_eq_none z] at hx; cases hx
          refine ⟨rfl, ?_⟩
          dsimp only [tYes]
          rw [if_pos rfl]
          refine ⟨_, rfl, x, d', m, D :: M, rfl, hDs, gd_le (gp d' md) (by decide), by omega, all1 d' md, trk_cons tM (sp.trans sm) e1, fun H2 v' s2 hv' => ?_⟩
          refine ⟨_, s2 _ _ e1, small1000 (by omega), fun b o' eb => ?_, acc ++ [v'], upd_same, by rw [List.length_append, la]; rfl, ?_⟩
          · rw [upd_ne (ne_of_none eb nD)]
            exact s2 _ _ (sm _ _ eb)
          · have hp2 : Same (hide (D :: M) H2) (hide (D :: M) (upd H2 D (.lst (acc ++ [v'])))) := (SmX.put (SmX.refl _ _) (List.mem_cons_self ..)).hid
            have e3 : (ds.take (i + 1)).map (tnd m) = (ds.take i).map (tnd m) ++ [tnd m d'] := by
              rw [List.take_add_one, hd']
              simp
            rw [e3]
            exact dpAll_app (dpAll_same ((SmX.of_same s2).hid.trans hp2) _ _ hda) (.cons (dp_same hp2 _ _ hv') .nil)
        · rintro H1 ⟨sm, acc, e1, la, hda⟩
          have et : ds.take xr.length = ds := List.take_of_length_le (by omega)
          rw [et] at hda
          refine ⟨_, rfl, _, rfl, D, acc, rfl, .inr (SqL.of e1), ?_, fun p2 np2 => ?_⟩
          · show (acc ++ []).length + 1 ≤ sizeLine
            rw [List.append_nil]
            exact le1000 (by omega)
          rw [List.append_nil]
          have s2 := same_upd (o := .tup (.str (opT o) :: acc)) np2
          have tM1 : Trk M H1 := tM.same (sp.trans sm)
          refine q _ (.ref p2) ((sp.trans sm).trans s2) ?_
          show Dp K _ _ (.tuple (.str (opT o) :: ds.map (tnd m)))
          exact .tup (SqT.of (hid_at tM1 np2)) (.cons (.str _) (dpAll_same (hid_less s2) _ _ hda))
theorem ok_lturned {f : Addr} {fd : FuncData} {k n : Nat} (F : Fun K "_law_turned" "_law_turned" s_law_turned f fd) (m_isinstance : mg "isinstance" = none) (m_str : mg "str" = none) (m_tuple : mg "tuple" = none) (m_int : mg "int" = none)
    (C_law_turned : Own P w K mg base k "_law_turned" ["_law_word"] (spTnd K n)) :
    FnOk P w K mg base CX0 (k + 1) f fd ["_law_word"] (spTnd K (n + 1)) := by
  refine F.ok sc_law_turned (fun vs H Q E h => ?_) (fun cdv A outer s H vs Q E hr h => ?_)
  · obtain ⟨v, d, m, M, rfl, _⟩ := h
    rfl
  · obtain ⟨v, d, m, M, rfl, hd, hg, hm, l1, tM, q⟩ := h
    refine ⟨_, (pss_cons (ps_if (pt_val (pe_isD (T := "str") (by rfl) m_isinstance (by rfl) m_str (pv 0)))
        (pss_one (ps_ret (pv 0)))
        pss_nil)
      (pss_one (ps_ret (pe_callTy call_tuple_of (by rfl) m_tuple (by decide +kernel) (pa_cons (pe_op op_cat (pe_lst (pa_cons (pe_ix ix_list (pe_lst (pa_cons pe_str (pa_cons pe_str pa_nil))) (pe_callTy call_int1 (by rfl) m_int (by decide +kernel) (pa_cons (pe_cmpR op_eq (pe_ix ix_tup (pv 0) pe_int (fun _ _ => rfl)) pe_str (nomark _)) pa_nil)) (fun _ _ => rfl)) pa_nil)) (pe_lc (own := [("_law_one", 1)]) (g := gName 1) (by rfl) sc_law_turned.nd (pi_tup (pe_slice sl_tup (pv 0) (po_some pe_int) po_none)) (blkOk_by (own := [("_law_one", 1)]) (N := N_law_turned) (sc := defScope s_law_turned) (by decide +kernel)) (fun _ _ _ _ _ => pg_name (i := 1) sc_law_turned.nd rfl (Or.inl rfl)) (fun _ _ _ _ _ => pts_nil) (fun _ _ _ _ _ => (pe_own C_law_turned (hr.mono (by omega)) (by rfl) (pa_cons (pv 1) pa_nil))))) pa_nil))))), ?_⟩
    cases m with
    | zero => simp only [lmeas] at l1; omega
    | succ m =>
    rcases lmeas_inv l1 with ⟨x, rfl, hx⟩ | ⟨o, ds, rfl, nl, ho, h2, all1, e⟩
    · cases hd
      exact ⟨_, rfl, _, _, _, rfl, by decide, .str x, _, rfl, iteT ⟨_, rfl, q H _ (Same.refl H) (.str x)⟩⟩
    · cases hd with
      | @tup a xs _ hs ha =>
        cases ha with
        | @cons x0 xr _ _ h1 hA =>
        cases h1
        have hl := dpAll_len hA
        have lds := (gd_tuple hg).1
        rw [List.length_cons] at lds
        refine ⟨_, rfl, _, _, .tuple (.str o :: ds), rfl, by decide, .tup hs (.cons (.str o) hA), _, rfl, iteF ?_⟩
        refine ⟨(by show 2 ≤ sizeLine; decide), fun l nl2 => ?_⟩
        have sl := same_upd (o := .lst [.str "&", .str "|"]) nl2
        refine ⟨_, rfl, a, _, _, _, rfl, rfl, same_seqT sl hs, at0, rfl, .inr ⟨_, rfl, ?_⟩⟩
        rw [amp_dec]
        refine ⟨l, _, _, .str (opT o), rfl, rfl, SqL.of upd_same, ?_, (by show 1 ≤ sizeLine; decide), fun o1 no1 => ?_⟩
        · unfold opT
          by_cases c : o = "&"
          · rw [if_pos c, decide_eq_true c]; rfl
          · rw [if_neg c, decide_eq_false c]; rfl
        have so := same_upd (o := .lst [.str (opT o)]) no1
        refine ⟨_, rfl, 1, rfl, a, _, rfl, same_seqT (sl.trans so) hs, ?_, fun p np => ?_⟩
        · rw [show HT.sIx (V.str o :: xr).length 0 (some 1) = min 1 (V.str o :: xr).length from HT.sIx_nat _ 0 1, List.length_cons]
          omega
        have ex : cutV (V.str o :: xr) (some 1) none = xr := by rw [cut_drop1]; rfl
        rw [ex]
        have sp := same_upd (o := .tup xr) np
        have gp := (gd_parts hg).2
        refine ⟨p, rfl, ⟨_, SqT.of upd_same⟩, fun D nD => lc_tup (xs := xr) (fun i H1 => Same (upd (upd (upd H l (.lst [.str "&", .str "|"])) o1 (.lst [.str (opT o)])) p (.tup xr)) H1 ∧ ∃ acc, H1 D = some (.lst acc) ∧ acc.length = i ∧ DpAll K (hide (D :: M) H1) acc ((ds.take i).map (tnd m))) ?_ ?_ ?_ ?_⟩
        · exact ⟨same_upd nD, [], upd_same, rfl, .nil⟩
        · rintro i H1 hi ⟨sm, acc, e1, la, hda⟩
          exact SqT.of (sm _ _ upd_same)
        · rintro i x H1 hx ⟨sm, acc, e1, la, hda⟩
          obtain ⟨d', hd', hD'⟩ := dpAll_get hA hx
          have sH1 : Same H H1 := (sl.trans so).trans (sp.trans sm)
          have nDH : H D = none := by
            cases z : H D with
            | none => rfl
            | some o' => have := ((sl.trans so).trans sp) _ _ z; rw [nD] at this; cases this
          have hDs : Dp K H1 x d' := dp_same sH1 d' x hD'
          have md : d' ∈ ds := List.mem_of_getElem? hd'
          have li : i < xr.length := by
            rcases Nat.lt_or_ge i xr.length with z | z
            · exact z
            · rw [List.getElem?_eq_none z] at hx; cases hx
          refine ⟨rfl, ?_⟩
          dsimp only [tYes]
          rw [if_pos rfl]
          refine ⟨_, rfl, x, d', m, D :: M, rfl, hDs, gd_le (gp d' md) (by decide), by omega, all1 d' md, trk_cons tM sH1 e1, fun H2 v' s2 hv' => ?_⟩
          refine ⟨_, s2 _ _ e1, small1000 (by omega), fun b o' eb => ?_, acc ++ [v'], upd_same, by rw [List.length_append, la]; rfl, ?_⟩
          · rw [upd_ne (ne_of_none eb nD)]
            exact s2 _ _ (sm _ _ eb)
          · have hp2 : Same (hide (D :: M) H2) (hide (D :: M) (upd H2 D (.lst (acc ++ [v'])))) := (SmX.put (SmX.refl _ _) (List.mem_cons_self ..)).hid
            have e3 : (ds.take (i + 1)).map (tnd m) = (ds.take i).map (tnd m) ++ [tnd m d'] := by
              rw [List.take_add_one, hd']
              simp
            rw [e3]
            exact dpAll_app (dpAll_same ((SmX.of_same s2).hid.trans hp2) _ _ hda) (.cons (dp_same hp2 _ _ hv') .nil)
        · rintro H1 ⟨sm, acc, e1, la, hda⟩
          have sH1 : Same H H1 := (sl.trans so).trans (sp.trans sm)
          have et : ds.take xr.length = ds := List.take_of_length_le (by omega)
          rw [et] at hda
          have ho1 : H1 o1 = some (.lst [.str (opT o)]) := (sp.trans sm) _ _ upd_same
          refine ⟨o1, D, _, _, rfl, rfl, ho1, e1, ?_, fun cc ncc => ?_⟩
          · exact le1000 (by show 1 + _ ≤ 1000; omega)
          have sc := same_upd (o := .lst ([.str (opT o)] ++ acc)) ncc
          refine ⟨cc, _, rfl, .inl ⟨SqL.of upd_same, fun p2 np2 => ?_⟩⟩
          have s2 := same_upd (o := .tup ([.str (opT o)] ++ acc)) np2
          have tM1 : Trk M (upd H1 cc (.lst ([.str (opT o)] ++ acc))) := (tM.same sH1).same sc
          refine q _ (.ref p2) ((sH1.trans sc).trans s2) ?_
          show Dp K _ _ (.tuple (.str (opT o) :: ds.map (tnd m)))
          exact .tup (SqT.of (hid_at tM1 np2)) (.cons (.str _) (dpAll_same (hid_less (sc.trans s2)) _ _ hda))
end
end Fv


namespace Fv
open PySem PySem.Spec PyProof.Rows L2 FvX
/-! ### calls that never raise; calls by keywords of defs that may raise -/
theorem passE0 {P : Program} {w : World} {X : Cx} : Passes (L2.CX P w) X E0 := fun _ _ _ _ _ _ _ h => by
  obtain ⟨_, _, _, _, _, _, _, _, _, _, _, _, z⟩ := h
  exact z.elim
structure OwnKR (P : Program) (w : World) (K : PySem.W.Frag) (mg : Str → Option Value) (base : Heap) (k : Nat) (x : Str) (ps ks : List Str) (gV : List V → List V → List V) (sp : Sp) : Prop where
  ex : ∃ (f : Addr) (fd : FuncData) (g : List Value → List Value → List Value), mg x = some (.ref f) ∧ PySem.W.keepIn K (.ref f) = true ∧ KBn K fd ps 0 ks g gV ∧ FnOk P w K mg base (L2.CX P w) k f fd ps sp
theorem pe_ownKR0 {X : Cx} {k : Nat} {x : Str} {ps ks : List Str} {gV : List V → List V → List V} {sp : Sp} {E : XK} {tk : TA} {p pos : Pos} {kws : List Keyword} (C : OwnKR X.prog X.w X.K X.mg X.base k x ps ks gV sp) (hr : Room k X.A) (hg : Gl X x) (hx : Passes (L2.CX X.prog X.w) X E) (hkw : PK X kws tk)
    (hall : (backToKw pos (keywordEach kws X.env)).all (·.1.isSome) = true := by rfl) (hks : (backToKw pos (keywordEach kws X.env)).filterMap (·.1) = ks := by rfl)
    (hdb : (x == ("__debug__" : Str)) = false := by decide)
    (hpl : ((backTo pos (starEach [] X.env)).any (·.1) || (backToKw pos (keywordEach kws X.env)).any (·.1.isNone)) = false := by rfl) :
    PE X (.Call (.Name x p) [] kws pos) (tCallN 0 ks.length sp gV E tNil tk) := by
  obtain ⟨f, fd, g, h1, h2, h3, h4⟩ := C.ex
  refine ⟨fun pins s σ H Q I h => ?_⟩
  refine wpAny_Call_Name_kw (ld_glob I hg h1 ?_ hdb)
  refine PySem.W.callWith_KW0 (h₀ := X.base) I.ok.mod.kin h2 hall ?_ hpl
  refine thn (hkw.run pos pins s σ H _ I h) fun ws s2 ⟨zs, H2, I2, rz, l1, l2, q2⟩ => ⟨I2.kIn, ?_⟩
  rw [hks]
  exact run_fnN h4 hr h3 hx I2 .nil rz l1 l2 q2
/-! ### rules in the element of a comprehension: the written part is told -/
theorem op_in_seqK {X : Cx} {K : PySem.W.Frag} (hK : X.K = K) : OpR X (compareOp .In) (rIn K false) := by
  subst hK
  exact op_in_seq
theorem ix_listK {X : Cx} {K : PySem.W.Frag} (hK : X.K = K) : IxR X (rIxL K) := by
  subst hK
  exact ix_list
end Fv


namespace Fv
open PySem PySem.Spec PyProof.Rows L2 GenW FvX FvD FvG
-- top 18  slots: 0:term 1:found 2:part
abbrev s_subterms : Stmt := topS 18
abbrev N_subterms : List Str := ["term", "found", "part"]
theorem sc_subterms : FnScope N_subterms ["term"] (defScope s_subterms) := ⟨rfl, rfl, rfl, by decide +kernel, rfl, by decide +kernel, by decide +kernel⟩

-- top 16  slots: 0:term 1:parts 2:letter
abbrev s_letters : Stmt := topS 16
abbrev N_letters : List Str := ["term", "parts", "letter"]
theorem sc_letters : FnScope N_letters ["term"] (defScope s_letters) := ⟨rfl, rfl, rfl, by decide +kernel, rfl, by decide +kernel, by decide +kernel⟩

-- top 14  slots: 0:term
abbrev s_depth : Stmt := topS 14
abbrev N_depth : List Str := ["term"]
theorem sc_depth : FnScope N_depth ["term"] (defScope s_depth) := ⟨rfl, rfl, rfl, by decide +kernel, rfl, by decide +kernel, by decide +kernel⟩

-- top 15  slots: 0:term
abbrev s_size : Stmt := topS 15
abbrev N_size : List Str := ["term"]
theorem sc_size : FnScope N_size ["term"] (defScope s_size) := ⟨rfl, rfl, rfl, by decide +kernel, rfl, by decide +kernel, by decide +kernel⟩

-- top 19  slots: 0:term
abbrev s_turned : Stmt := topS 19
abbrev N_turned : List Str := ["term"]
theorem sc_turned : FnScope N_turned ["term"] (defScope s_turned) := ⟨rfl, rfl, rfl, by decide +kernel, rfl, by decide +kernel, by decide +kernel⟩

/-- a def that asks for a long term first: what it gives, or the error -/
def spLg (K : PySem.W.Frag) (CT : Addr) (good : V → PyData → Hp → VK → Prop) : Sp := fun vs H Q E => ∃ (v : V) (d : PyData), vs = [v] ∧ Dp K H v d ∧ gd 20 d = true ∧ ((meas 9 d 600).isSome = true → good v d H Q) ∧ (meas 9 d 600 = none → errAt CT "InvalidTerm" H E)
/-- a new list of the subterms -/
def gSubt (K : PySem.W.Frag) : V → PyData → Hp → VK → Prop := fun _ d H Q => ∀ (H' : Hp) (p : Addr) (vs : List V), Same H H' → H p = none → H' p = some (.lst vs) → DpAll K H' vs (onceD (pre d)) → Q (.ref p) H'
theorem tk_of {d : PyData} (hm : (meas 9 d 600).isSome = true) (hg : gd 20 d = true) : Tk d := by
  have ms := meas_some 9 d 600
  rw [hm] at ms
  have ms' := Bool.and_eq_true_iff.mp ms.symm
  exact ⟨of_decide_eq_true ms'.1, of_decide_eq_true ms'.2, hg⟩
theorem ky_all {K : PySem.W.Frag} {H : Hp} : ∀ {kvs : List NKV}, KyOk K H kvs → DpAll K H (kvs.map fun p => p.2.1) (kvs.map (·.1))
  | [], _ => .nil
  | p :: r, h => .cons (h p List.mem_cons_self).2 (ky_all fun q hq => h q (List.mem_cons_of_mem _ hq))
section
variable {P : Program} {w : World} {K : PySem.W.Frag} {mg : Str → Option Value} {base : Heap} {CT : Addr}
theorem ok_subterms {f fw : Addr} {fd fdw : FuncData} {k : Nat} (F : Fun K "subterms" "subterms" s_subterms f fd) (Fw : Fun K "walk" "walk" s_walk fw fdw) (g_walk : mg "walk" = some (.ref fw)) (m_list : mg "list" = none) (hstop : PySem.W.subIn K (.ref CT) (.type "StopIteration") = some false)
    (C_ml : OwnR P w K mg base k "measured_long" (spLong K CT)) (C_ic : Own P w K mg base k "is_compound" ["value"] (spIsCompound K)) :
    FnOk P w K mg base (L2.CX P w) (k + 4) f fd ["term"] (spLg K CT (gSubt K)) := by
  refine F.okX sc_subterms (fun vs H Q E h => ?_) (fun cdv A outer s H vs Q E hr h => ?_)
  · obtain ⟨v, d, rfl, _⟩ := h
    rfl
  · obtain ⟨v, d, rfl, hd, hg, good, bad⟩ := h
    refine ⟨_, (pss_cons (ps_set (i := 1) sc_subterms.nd rfl (.inl rfl) pe_dnewN)
      (pss_cons (ps_forW (E := fun cls d H' => cls = .ref CT ∧ E cls d H') (i1 := 1) (i2 := 2) Fw g_walk (by rfl) C_ml C_ic hr (passes_of rfl) (passes_call (takes_of rfl rfl rfl rfl) (fun _ _ _ _ h => h.2)) (fun cls d H' h => by rw [h.1]; exact hstop) sc_subterms.nd rfl rfl rfl rfl (by decide) (pa_cons (pv 0) pa_nil))
      (pss_one (ps_ret (pe_callTy (call_listN rfl) (by rfl) m_list (by decide +kernel) (pa_cons (pv 1) pa_nil)))))), ?_⟩
    intro da nda
    have s0 := same_upd (o := NdO w da []) nda
    refine ⟨_, rfl, v, d, da, rfl, dp_same s0 d v hd, hg, rfl, upd_same, fun e H' dd s' e' => ⟨rfl, bad e H' dd (s0.trans s') e'⟩, fun hm H' x kvs W nW nWd sm st hda hky hkeys => ?_⟩
    have nW' : upd H da (NdO w da []) W = none := nW
    have smH : Same H H' := fun b o e => sm b o (fun z => by
      rcases List.mem_cons.mp z with z | z
      · rw [z, nda] at e; cases e
      · have e' := s0 b o e
        rw [List.mem_singleton.mp z, nW'] at e'
        cases e') (s0 b o e)
    refine ⟨_, rfl, da, kvs, rfl, hda, fun p np => ?_⟩
    have s2 := same_upd (o := .lst (kvs.map fun kv => kv.2.1)) np
    have npH : H p = none := by
      cases e : H p with
      | none => rfl
      | some o => rw [smH p o e] at np; cases np
    refine good hm _ p _ (smH.trans s2) npH upd_same ?_
    rw [← hkeys]
    exact dpAll_same s2 _ _ (ky_all hky)
/-! ### depth, size -/
def gInt (g : PyData → Int) : V → PyData → Hp → VK → Prop := fun _ d H Q => ∀ H', Same H H' → Q (.int (g d)) H'
/-- the program's depth -/
def dpt (d : PyData) : Int := ((meas 9 d 600).getD (0, 0)).1
theorem ok_depth {f : Addr} {fd : FuncData} {k : Nat} (F : Fun K "depth" "depth" s_depth f fd) (C_measured_long : OwnR P w K mg base k "measured_long" (spLong K CT)) : FnOk P w K mg base (L2.CX P w) (k + 1) f fd ["term"] (spLg K CT (gInt dpt)) := by
  refine F.okX sc_depth (fun vs H Q E h => ?_) (fun cdv A outer s H vs Q E hr h => ?_)
  · obtain ⟨v, d, rfl, _⟩ := h
    rfl
  · obtain ⟨v, d, rfl, hd, hg, good, bad⟩ := h
    refine ⟨_, (pss_one (ps_ret (pe_ix ix_tup (pe_ownR C_measured_long (hr.mono (by omega)) (by rfl) passX (pa_cons (pv 0) pa_nil)) pe_int (fun _ _ => rfl)))), ?_⟩
    refine ⟨_, rfl, v, d, rfl, hd, hg, fun dp sz e H' p s' hp => ?_, bad⟩
    have z := good (by rw [e]; rfl) H' s'
    rw [show dpt d = dp from by unfold dpt; rw [e]; rfl] at z
    exact ⟨p, _, 0, _, rfl, rfl, SqT.of hp, rfl, z⟩
theorem ok_size {f : Addr} {fd : FuncData} {k : Nat} (F : Fun K "size" "size" s_size f fd) (C_measured_long : OwnR P w K mg base k "measured_long" (spLong K CT)) : FnOk P w K mg base (L2.CX P w) (k + 1) f fd ["term"] (spLg K CT (gInt (lmeas 9))) := by
  refine F.okX sc_size (fun vs H Q E h => ?_) (fun cdv A outer s H vs Q E hr h => ?_)
  · obtain ⟨v, d, rfl, _⟩ := h
    rfl
  · obtain ⟨v, d, rfl, hd, hg, good, bad⟩ := h
    refine ⟨_, (pss_one (ps_ret (pe_ix ix_tup (pe_ownR C_measured_long (hr.mono (by omega)) (by rfl) passX (pa_cons (pv 0) pa_nil)) pe_int (fun _ _ => rfl)))), ?_⟩
    refine ⟨_, rfl, v, d, rfl, hd, hg, fun dp sz e H' p s' hp => ?_, bad⟩
    have z := good (by rw [e]; rfl) H' s'
    have es : lmeas 9 d = sz := by
      rcases meas_iff 9 d 600 with ⟨n, _⟩ | ⟨a, e', _, _⟩
      · rw [n] at e; cases e
      · rw [e'] at e; injection e with e; injection e with e1 e2
    rw [es] at z
    exact ⟨p, _, 1, _, rfl, rfl, SqT.of hp, rfl, z⟩
/-! ### turned, the error told -/
def gTnd (K : PySem.W.Frag) : V → PyData → Hp → VK → Prop := fun _ d H Q => ∃ M, Trk M H ∧ ∀ (H' : Hp) (v' : V), Same H H' → Dp K (hide M H') v' (tnd 9 d) → Q v' H'
theorem ok_turnedE {f : Addr} {fd : FuncData} {k : Nat} (F : Fun K "turned" "turned" s_turned f fd)
    (C_measured_long : OwnR P w K mg base k "measured_long" (spLong K CT)) (C_with_turned_operators : Own P w K mg base k "with_turned_operators" ["term"] (spTnd K 10)) :
    FnOk P w K mg base (L2.CX P w) (k + 1) f fd ["term"] (spLg K CT (gTnd K)) := by
  refine F.okX sc_turned (fun vs H Q E h => ?_) (fun cdv A outer s H vs Q E hr h => ?_)
  · obtain ⟨v, d, rfl, _⟩ := h
    rfl
  · obtain ⟨v, d, rfl, hd, hg, good, bad⟩ := h
    refine ⟨_, (pss_cons (ps_expr (pe_ownR C_measured_long (hr.mono (by omega)) (by rfl) passX (pa_cons (pv 0) pa_nil)))
      (pss_one (ps_ret (pe_own C_with_turned_operators (hr.mono (by omega)) (by rfl) (pa_cons (pv 0) pa_nil))))), ?_⟩
    refine ⟨_, rfl, v, d, rfl, hd, hg, fun dp sz e H' p s' hp => ?_, bad⟩
    have hm : (meas 9 d 600).isSome = true := by rw [e]; rfl
    obtain ⟨M, tM, q⟩ := good hm
    exact ⟨_, rfl, v, d, 9, M, rfl, dp_same s' d v hd, hg, by decide, (tk_of hm hg).one, tM.same s', fun H2 v' s2 hv => q H2 v' (s'.trans s2) hv⟩
end
end Fv


set_option maxHeartbeats 4000000
namespace FvB
open PySem PySem.Spec PyProof.Rows L2
/-! ### sets of texts: set(list of texts), sorted(set) -/
def keyS (e : Int × Value) : Str := match e.2 with | .str x _ => x | _ => Str.empty
def GoodS (P : Program) (w : World) (e : Int × Value) : Prop := ∃ x tk, e.2 = Value.str x tk ∧ e.1 = (PySem.strKind P w).hash x
/-- the set of texts at a: S its members, at most m of them; it can be walked -/
structure SetT (P : Program) (w : World) (h : Heap) (a : Addr) (S : Str → Bool) (m : Nat) : Prop where
  ex : ∃ o es ep t, h.get? a = some o ∧ o.ExactSet ∧ o.data = .set es ep t ∧ (∀ e ∈ es.toList, GoodS P w e) ∧ (es.toList.map keyS).Nodup ∧ (∀ k, S k = true ↔ k ∈ es.toList.map keyS) ∧ es.size < scanBound ∧ t.fits es.size = true ∧ es.size ≤ m ∧ Ris t.place.toList ∧
    (w.params.followText "set-order" = true ∨ t.led = true)
section
variable {P : Program} {w : World} {A : Around} {E : Value → Shared → Prop} {s : Shared} {a : Addr} {S : Str → Bool} {m : Nat} {h h' : Heap}
theorem SetT.at (R : SetT P w h a S m) (k : ∀ o, h.get? a = some o → h'.get? a = some o) : SetT P w h' a S m := by
  obtain ⟨o, es, ep, t, ho, r⟩ := R.ex
  exact ⟨o, es, ep, t, k o ho, r⟩
theorem goodS_elems {l : List (Int × Value)} (g : ∀ e ∈ l, GoodS P w e) : ElemsOf (PySem.strKind P w) l := fun e he => by
  obtain ⟨x, tk, h1, h2⟩ := g e he
  exact ⟨⟨x, by rw [h1]; exact strKind_is P w x tk, h2⟩, by rw [h1]; rfl⟩
theorem goodS_is {e : Int × Value} (g : GoodS P w e) (k : Str) : (PySem.strKind P w).is k e.2 = true ↔ keyS e = k := by
  obtain ⟨x, tk, h1, _⟩ := g
  have e1 : keyS e = x := by unfold keyS; rw [h1]
  rw [e1]
  constructor
  · intro z
    rw [h1] at z
    exact ((PySem.strKind P w).inj _ _ _ z (strKind_is P w x tk)).symm
  · intro z
    rw [h1, ← z]
    exact strKind_is P w x tk
theorem goodS_mem {l : List (Int × Value)} (g : ∀ e ∈ l, GoodS P w e) (k : Str) : k ∈ l.map keyS ↔ ∃ e ∈ l, (PySem.strKind P w).is k e.2 = true := by
  rw [List.mem_map]
  exact ⟨fun ⟨e, he, z⟩ => ⟨e, he, (goodS_is (g e he) k).mpr z⟩, fun ⟨e, he, z⟩ => ⟨e, he, (goodS_is (g e he) k).mp z⟩⟩
/-- what is stored at the end of an add -/
theorem addT_tail {gv : Bool → Sem Unit} (hg : ∀ (b : Bool) (s₁ : Shared) (Q' : Unit → Shared → Prop), Q' () s₁ → wpAny (model P w) A (gv b) Q' E s₁) {o : Obj} {es : Array (Int × Value)} {ep : Nat} {t : SetTable} (ho : s.heap.get? a = some o) (hex : o.ExactSet) (hd : o.data = .set es ep t)
    {es1 : Array (Int × Value)} {t2 : SetTable} {S' : Str → Bool} (g1 : ∀ e ∈ es1.toList, GoodS P w e) (nd1 : (es1.toList.map keyS).Nodup) (m1 : ∀ k, S' k = true ↔ k ∈ es1.toList.map keyS) (hb1 : es1.size < scanBound) (hm1 : es1.size ≤ m) (hf2 : t2.fits es1.size = true) (hr : Ris t2.place.toList)
    (hl : w.params.followText "set-order" = true ∨ t2.led = true) {wasDummy : Bool} {R : Option Bool → Shared → Prop} (hR : ∀ h', Heap.SameBut a s.heap h' → SetT P w h' a S' m → R (some true) { s with heap := h' }) {tr : Sem (Option Bool)}
    (et : tr = (storeSet a es1 t2 >>= fun _ => if (!wasDummy && t2.tooFull) = true then (gv (relayAll t2 es1 (SetTable.grown es1.size)).2.2 >>= fun _ => storeSet a (relayAll t2 es1 (SetTable.grown es1.size)).1 (relayAll t2 es1 (SetTable.grown es1.size)).2.1 >>= fun _ => pure (some true)) else pure (some true))) :
    wpAny (model P w) A tr R E s := by
  subst et
  refine wpAny_bind (wpAny_storeSet_of ho hd ?_ (fits_of_scanBound hb1))
  have at1 := store_at (es' := es1) (t' := t2) ho hd
  have sb := Heap.SameBut.update s.heap a (Obj.putSet es1 t2)
  by_cases c : (!wasDummy && t2.tooFull) = true
  · rw [if_pos c]
    have pm := relayAll_perm t2 es1 (SetTable.grown es1.size)
    have f3 := relayAll_fits t2 es1 (SetTable.grown es1.size)
    have r3 := relayAll_ris t2 es1 (SetTable.grown es1.size)
    have l3 := relayAll_led t2 es1 (SetTable.grown es1.size)
    generalize relayAll t2 es1 (SetTable.grown es1.size) = Z at pm f3 r3 l3 ⊢
    obtain ⟨es2, t3, gave⟩ := Z
    dsimp only at pm f3 r3 l3 ⊢
    have sz : es2.size = es1.size := by rw [← Array.length_toList, pm.length_eq, Array.length_toList]
    have hb2 : es2.size < scanBound := by rw [sz]; exact hb1
    refine wpAny_bind (hg _ _ _ (wpAny_bind (wpAny_storeSet_of at1 rfl ?_ (fits_of_scanBound hb2))))
    have at2 := store_at (es' := es2) (t' := t3) at1 rfl
    refine wpAny_pure (hR _ (sb.trans (Heap.SameBut.update _ a _)) ⟨_, es2, _, t3, at2, hex, rfl, fun e he => g1 e (pm.mem_iff.mp he), (pm.map keyS).nodup_iff.mpr nd1, fun k => (m1 k).trans (pm.map keyS).mem_iff.symm, hb2, f3, by rw [sz]; exact hm1, r3, hl.imp id fun z => by rw [l3]; exact z⟩)
  · rw [if_neg c]
    exact wpAny_pure (hR _ sb ⟨_, es1, _, t2, at1, hex, rfl, g1, nd1, m1, hb1, hf2, hm1, hr, hl⟩)
theorem addT {x : Str} {tk : Tok} {Q : Bool → Shared → Prop} (R : SetT P w s.heap a S m) (room : m + 1 < scanBound) (hQ : ∀ h' b, Heap.SameBut a s.heap h' → SetT P w h' a (fun j => S j || decide (j = x)) (m + 1) → Q b { s with heap := h' }) :
    wpAny (model P w) A (setAddHashed a (.str x tk) ((PySem.strKind P w).hash x)) Q E s := by
  obtain ⟨o, es, ep, t, ho, hex, hd, g, nd, hm, hb, hf, hn, hr, hl⟩ := R.ex
  have hk : (PySem.strKind P w).is x (.str x tk) = true := strKind_is P w x tk
  have sc : (Value.str x tk).scannable = true := rfl
  have el : ElemsOf (PySem.strKind P w) es.toList := goodS_elems g
  unfold setAddHashed
  unfold setAddHashedIn
  refine wpAny_holding (wpAny_bind (wpAny_setState_of ho hd hf ?_))
  dsimp only
  rw [byScan_of sc hb el]
  simp only [↓reduceIte]
  unfold setAddByScan
  refine wpAny_bind (wpAny_bind (wpAny_rule (wpAny_bind (wpAny_setScan_of hk ho hd hf el ?_))))
  cases fi : List.findIdx? (fun e => (PySem.strKind P w).is x e.2) es.toList with
  | some j =>
    dsimp only
    obtain ⟨hj, pj, _⟩ := List.findIdx?_eq_some_iff_getElem.mp fi
    have Sx : S x = true := (hm x).2 ((goodS_mem g x).2 ⟨es.toList[j], List.getElem_mem hj, pj⟩)
    refine wpAny_pure (wpAny_pure (hQ s.heap _ (Heap.SameBut.refl a s.heap) ⟨o, es, ep, t, ho, hex, hd, g, nd, fun i => ?_, hb, hf, by omega, hr, hl⟩))
    rw [Bool.or_eq_true, decide_eq_true_eq, ← hm i]
    exact ⟨fun z => z.elim id (fun e => e ▸ Sx), .inl⟩
  | none =>
    dsimp only
    have nx : x ∉ es.toList.map keyS := fun z => by
      obtain ⟨e, he, q⟩ := (goodS_mem (P := P) (w := w) g x).1 z
      have c := List.findIdx?_eq_none_iff.mp fi e he
      rw [q] at c
      cases c
    have say : ∀ (b : Bool) {s₁ : Shared} {Q' : Unit → Shared → Prop}, Q' () s₁ → wpAny (model P w) A (match b with | true => rule "set.scan.the-table-gave-way" | false => pure ()) Q' E s₁ :=
      fun b s₁ Q' q => by cases b <;> first | exact wpAny_pure q | exact wpAny_rule q
    have pm := layNew_perm t es ((PySem.strKind P w).hash x) (.str x tk)
    have f1 := layNew_fits t es ((PySem.strKind P w).hash x) (.str x tk)
    have r1 := layNew_ris t es ((PySem.strKind P w).hash x) (.str x tk) hr
    have l1 := layNew_led t es ((PySem.strKind P w).hash x) (.str x tk)
    generalize layNew t es ((PySem.strKind P w).hash x) (.str x tk) = Z at pm f1 r1 l1 ⊢
    obtain ⟨es1, t1, wasDummy, gave⟩ := Z
    dsimp only at pm f1 r1 l1 ⊢
    rw [Array.toList_push] at pm
    have pc : es1.toList.Perm (((PySem.strKind P w).hash x, Value.str x tk) :: es.toList) := pm.trans (List.perm_append_singleton _ _)
    have pk : (es1.toList.map keyS).Perm (x :: es.toList.map keyS) := pc.map keyS
    have g1 : ∀ e ∈ es1.toList, GoodS P w e := fun e he => by
      rcases List.mem_cons.mp (pc.mem_iff.mp he) with z | z
      · rw [z]; exact ⟨x, tk, rfl, rfl⟩
      · exact g e z
    have nd1 : (es1.toList.map keyS).Nodup := pk.nodup_iff.mpr (List.nodup_cons.mpr ⟨nx, nd⟩)
    have m1 : ∀ i, (S i || decide (i = x)) = true ↔ i ∈ es1.toList.map keyS := fun i => by
      rw [Bool.or_eq_true, decide_eq_true_eq, hm i, pk.mem_iff, List.mem_cons]
      exact Or.comm
    have sz : es1.size = es.size + 1 := by rw [← Array.length_toList, pc.length_eq, List.length_cons, Array.length_toList]
    have hb1 : es1.size < scanBound := by omega
    have led1 : w.params.followText "set-order" = true ∨ t1.led = true := hl.imp id fun z => by rw [l1]; exact z
    refine wpAny_bind (say _ ?_)
    split
    · refine wpAny_bind ?_
      rw [hashByValue_scannable 8 sc]
      refine wpAny_pure ?_
      refine addT_tail (m := m + 1) (fun b s₁ Q' q => ?_) ho hex hd g1 nd1 m1 hb1 (by omega) ?_ ?_ ?_ (fun h' sb r => ?_) rfl
      · cases b <;> first | exact wpAny_pure q | exact wpAny_rule q
      · first | (split <;> first | exact f1 | exact SetTable.fits_plain_off f1) | exact f1
      · first | (split <;> exact r1) | exact r1
      · first | (split <;> exact led1) | exact led1
      · dsimp only; exact wpAny_pure (hQ h' _ sb r)
    · refine wpAny_bind (wpAny_pure ?_)
      simp only [↓reduceIte]
      refine addT_tail (m := m + 1) (fun b s₁ Q' q => ?_) ho hex hd g1 nd1 m1 hb1 (by omega) f1 r1 led1 (fun h' sb r => ?_) rfl
      · cases b <;> first | exact wpAny_pure q | exact wpAny_rule q
      · dsimp only; exact wpAny_pure (hQ h' _ sb r)
end
end FvB


set_option maxHeartbeats 8000000
namespace FvB
open PySem PySem.Spec PyProof.Rows L2
/-! ### set(list of texts) -/
/-- members: what was there among the first i -/
def memT (xs : List Str) : Str → Bool := fun k => decide (k ∈ xs)
section
variable {P : Program} {w : World} {A : Around} {R : Result → Shared → Prop} {I : Addr} {fp wr : List Addr} {G : Array GenState → Array GenState → Prop} {n : Nat} {Pv : Nat → Value → Prop} {St : Nat → Shared → Prop}
theorem SetT.congr {h : Heap} {a : Addr} {S S' : Str → Bool} {m : Nat} (x : SetT P w h a S m) (e : ∀ k, S' k = S k) : SetT P w h a S' m := by
  obtain ⟨o, es, ep, t, h1, h2, h3, h4, h5, h6, r⟩ := x.ex
  exact ⟨o, es, ep, t, h1, h2, h3, h4, h5, fun k => by rw [e k]; exact h6 k, r⟩
theorem memT_snoc (xs : List Str) (i : Nat) (x : Str) (h : xs[i]? = some x) (k : Str) : memT (xs.take (i + 1)) k = (memT (xs.take i) k || decide (k = x)) := by
  unfold memT
  rw [List.take_add_one, h]
  by_cases a : k ∈ xs.take i
  · simp [a]
  · by_cases b : k = x
    · simp [b]
    · simp [a, b]
theorem fill (W : WalksS P w A.in1 I fp wr G n Pv St) (T : Addr) (hT : T ∉ fp) (xs : List Str) (hx : xs.length = n) (hn : n + 1 < scanBound) (hval : ∀ i v, Pv i v → ∃ t, v = .str (xs.getD i Str.empty) t) :
    ∀ (k i : Nat) (s : Shared), n - i = k → i ≤ n → St i s → SetT P w s.heap T (memT (xs.take i)) i → (∀ s', Moved (T :: wr) G s s' → SetT P w s'.heap T (memT (xs.take n)) n → R (.ok (.ret .none)) s') →
      codeAny (model P w) A (.builtin "set.update.loop" ⟨[.ref T, .ref I], []⟩) R s := by
  have hTw : T ∉ wr := fun h => hT (W.sub _ h)
  have more : ∀ b ∈ wr, b ∈ T :: wr := fun b hb => List.mem_cons_of_mem _ hb
  intro k
  induction k with
  | zero =>
    intro i s hk hi hst hS hR
    obtain rfl : i = n := by omega
    refine codeAny_builtin PyProof.Rows.F.entry_set_update_loop ?_
    rw [Around.under_plainId PyProof.Rows.F.plain_set_update_loop _]
    show wpAny _ A.in1 (pyNext (.ref I) >>= _) _ _ s
    refine wpAny_bind (W.done s _ _ hst fun s' hm => ?_)
    show wpAny _ A.in1 (ret Value.none) _ _ s'
    exact wpAny_pure (hR s' (hm.mono more) (hS.at fun o e => hm.heap T o hTw e))
  | succ k ih =>
    intro i s hk hi hst hS hR
    have il : i < n := by omega
    refine codeAny_builtin PyProof.Rows.F.entry_set_update_loop ?_
    rw [Around.under_plainId PyProof.Rows.F.plain_set_update_loop _]
    show wpAny _ A.in1 (pyNext (.ref I) >>= _) _ _ s
    refine wpAny_bind (W.item i s _ _ il hst fun v s' hP hst' hm => ?_)
    obtain ⟨t, rfl⟩ := hval i v hP
    have hg : xs[i]? = some (xs.getD i Str.empty) := by
      rw [List.getD_eq_getElem?_getD, List.getElem?_eq_getElem (by omega)]
      rfl
    have hS' : SetT P w s'.heap T (memT (xs.take i)) i := hS.at fun o e => hm.heap T o hTw e
    show wpAny _ A.in1 (holding [Value.str (xs.getD i Str.empty) t] (setAdd T (.str (xs.getD i Str.empty) t)) >>= _) _ _ s'
    refine wpAny_bind (wpAny_holding ?_)
    unfold setAdd
    refine wpAny_holding (wpAny_bind ((PySem.strKind P w).pyHash (k := xs.getD i Str.empty) (strKind_is _ _ _ _) ?_))
    refine addT (s := { s' with toks := s'.toks + 1 }) hS' (by omega) fun h' b sb S2 => ?_
    have S3 : SetT P w h' T (memT (xs.take (i + 1))) (i + 1) := S2.congr fun k' => memT_snoc xs i _ hg k'
    have keep : ∀ b o, b ≠ T → s'.heap.get? b = some o → h'.get? b = some o := fun b o hb e => (sb.2 b hb).trans e
    refine wpAny_pure ⟨plainId_quiet PyProof.Rows.F.plain_set_update_loop _, ih (i + 1) _ (by omega) il (W.frame _ s' _ _ hst' (Nat.le_succ _) fun b hb o e => keep b o (fun z => hT (z ▸ hb)) e) S3 fun s'' hm'' S'' => ?_⟩
    exact hR s'' (Moved.trans W.gtrans ((hm.mono more).then_heap (Nat.le_succ _) fun b o hb e => keep b o (fun z => hb (z ▸ List.mem_cons_self)) e) hm'') S''
end
/-- an empty set's object -/
abbrev emptyT (w : World) : Obj := { cls := .type "set", dict := none, data := .set #[] 0 (.fresh 0 0 (!w.params.followText "set-order")) }
theorem freshT {P : Program} {w : World} {h : Heap} {a : Addr} (e : h.get? a = some (emptyT w)) : SetT P w h a (memT []) 0 := by
  refine ⟨_, #[], 0, _, e, ⟨rfl, rfl, rfl⟩, rfl, fun e he => by simp at he, by simp, fun k => by simp [memT], by decide, by rfl, Nat.le_refl _, List.Pairwise.nil, ?_⟩
  show _ ∨ (!w.params.followText "set-order") = true
  cases w.params.followText "set-order" with
  | true => exact .inl rfl
  | false => exact .inr rfl
section
variable {P : Program} {w : World} {A : Around} {E : Value → Shared → Prop} {s : Shared}
theorem newT (x : Value) {Q₁ : Value → Shared → Prop} (h : Q₁ (.ref s.heap.objs.size) { s with heap := s.heap.push (emptyT w) }) :
    codeAny (model P w) A (.call (.builtin "set.__new__") ⟨[.type "set", x], []⟩) (wants Q₁ E) s := by
  refine codeAny_of_tree ?_
  show wpAny _ A.in1 (do checkBuiltinCall "set.__new__" ⟨[.type "set", x], []⟩; again (.builtin "set.__new__" ⟨[.type "set", x], []⟩)) _ _ s
  refine wpAny_bind (wpAny_of_eq (PySem.F.newCall_set_1 x) (wpAny_pure ⟨plainId_quiet PySem.F.plain_set_new _, codeAny_builtin PySem.F.entry_set_new ?_⟩))
  rw [Around.under_plainId PySem.F.plain_set_new _]
  unfold Builtin.«set.__new__»
  unfold Builtin.Frozenset.newClass
  have sub := sub_set_self
  obtain ⟨hp, g, d, tk, os⟩ := s
  dsimp only
  wp_walk
  refine wpAny_askSetting (wpAny_pure ?_)
  dsimp only
  simp only [newObj]
  exact wpAny_bind (wpAny_alloc (wpAny_pure (wpAny_pure h)))
theorem set_of_list {l : Addr} {items : Array Value} {xs : List Str} {Q : Value → Shared → Prop} (hh : A.handled = none) (hl : s.heap.IsList l items) (hi : PyProof.Rows.StrsAre items.toList xs) (hn : xs.length + 1 < scanBound)
    (h : ∀ (h' : Heap) (tk : Nat), SetT P w h' s.heap.objs.size (memT xs) xs.length → (∀ b o, s.heap.get? b = some o → h'.get? b = some o) → Q (.ref s.heap.objs.size) { s with heap := h', toks := tk }) :
    wpAny (model P w) A (call (.type "set") [.ref l]) Q E s := by
  obtain ⟨c, tl, mro⟩ := PySem.F.called_set.mro
  have made := PySem.F.called_set.made
  have sub := PySem.F.called_set.sub
  refine wpAny_call (codeAny_of_tree ?_)
  show wpAny _ _ (callAny (.type "set") _) _ _ _
  refine wpAny_pure ⟨Code.quiet_builtin _ (by decide +kernel), codeAny_builtin PySem.F.entry_type_call ?_⟩
  rw [Around.under_plain (weight_type_call_type "set" [.ref l] []) rfl]
  have n1 := PySem.F.called_set.notType
  have n2 := PySem.F.called_set.canCreate
  have n3 := PySem.F.typeCall_set_1 (.ref l)
  repeat (any_goals (first | assumption | wp_step))
  refine codeAny_mono (newT (.ref l) (E := E) (Q₁ := fun obj s₁ => obj = .ref s.heap.objs.size ∧ s₁ = { s with heap := s.heap.push (emptyT w) }) ⟨rfl, rfl⟩) fun r s₁ hr => ?_
  cases r with
  | error e => exact hr
  | ok fl =>
    cases fl with
    | ret obj =>
      obtain ⟨rfl, rfl⟩ := hr
      have at0 : (s.heap.push (emptyT w)).get? s.heap.objs.size = some (emptyT w) := Heap.get?_push_size _ rfl
      have ty : Shared.TypeIs { s with heap := s.heap.push (emptyT w) } (.ref s.heap.objs.size) "set" := ⟨_, at0, rfl⟩
      have i1 := PySem.F.called_set.init.lookup
      have i2 := PySem.F.called_set.init.bind (.ref s.heap.objs.size)
      repeat (any_goals (first | assumption | wp_step))
      refine codeAny_mono (codeAny_call_builtin (R := wants (fun r s₂ => r = .none ∧ ∃ h' tk, s₂ = { s with heap := h', toks := tk } ∧ SetT P w h' s.heap.objs.size (memT xs) xs.length ∧ (∀ b o, s.heap.get? b = some o → h'.get? b = some o)) E) PySem.F.called_set.init.plain PySem.F.entry_set_init (check_set_init_1 ty ?_)) fun r₂ s₂ hr₂ => ?_
      · obtain ⟨⟨oc, od, odt, osl⟩, ol, cl, nl, dl⟩ := hl
        simp only at cl dl
        subst cl
        subst dl
        have ol' : (s.heap.push (emptyT w)).get? l = some { cls := .type "list", dict := od, data := .seq items nl, slots := osl } := Heap.get?_push_of_some _ ol
        have a1 := PySem.F.sub_list_set
        have a2 := PySem.F.sub_list_frozenset
        have a3 : (Value.type "list" == Value.type "dict") = false := by decide
        have isl : (s.heap.push (emptyT w)).IsList l items := ⟨_, ol', rfl, nl, rfl⟩
        unfold Builtin.«set.__init__»
        unfold noKeywords
        unfold Builtin.Frozenset.updateFrom
        generalize hPI : pyIter = PI
        wp_walk
        subst hPI
        refine wpAny_pyIter_list isl ?_
        refine wpAny_bind (wpAny_runValue ?_)
        have ls : l < s.heap.objs.size := Heap.lt_size ol
        have hd3 : A.in1.in1.in1.handled = none := by simp [hh]
        have szp : (s.heap.push (emptyT w)).objs.size = s.heap.objs.size + 1 := Heap.size_push ..
        have nI : l ≠ (s.heap.push (emptyT w)).objs.size := by rw [szp]; exact Nat.ne_of_lt (Nat.lt_succ_of_lt ls)
        have nT : s.heap.objs.size ∉ [(s.heap.push (emptyT w)).objs.size, l] := by
          rw [szp]
          intro z
          rcases List.mem_cons.mp z with z | z
          · exact absurd z (Nat.ne_of_lt (Nat.lt_succ_self _))
          · exact absurd (List.mem_singleton.mp z) (Nat.ne_of_gt ls)
        have sz : xs.length = items.size := by rw [← StrsAre.len_eq hi, Array.length_toList]
        have vals : ∀ (i : Nat) (v : Value), items[i]? = some v → ∃ t, v = .str (xs.getD i Str.empty) t := fun i v hv => SS.strs_at hi i v (by rw [Array.getElem?_toList]; exact hv)
        refine fill ((Walks.list hd3 _ l nI items).toS) s.heap.objs.size nT xs sz (by rw [← sz]; exact hn) vals (items.size - 0) 0 _ (by omega) (Nat.zero_le _) ⟨⟨_, Heap.get?_push_size _ rfl, rfl, rfl⟩, (isl.push _)⟩ ?begin ?fin
        case begin => exact freshT (Heap.get?_push_of_some _ at0)
        case fin =>
          intro s' mv S'
          obtain ⟨h', g', d', tk', os'⟩ := s'
          obtain rfl : g' = s.gens := mv.gens
          obtain rfl : d' = s.drawn := mv.drawn
          obtain rfl : os' = s.os := mv.os
          show wpAny _ _ _ _ _ _
          refine wpAny_pure ?_
          show wpAny _ _ (ret Value.none) _ _ _
          refine wpAny_pure ⟨rfl, h', tk', rfl, by rw [← sz, List.take_length] at S'; exact S', fun b o e => ?_⟩
          have bl := Heap.lt_size e
          refine mv.heap b o (fun z => ?_) (Heap.get?_push_of_some _ (Heap.get?_push_of_some _ e))
          rcases List.mem_cons.mp z with z | z
          · exact absurd z (Nat.ne_of_lt bl)
          · have z' := List.mem_singleton.mp z
            rw [szp] at z'
            exact absurd z' (Nat.ne_of_lt (Nat.lt_succ_of_lt bl))
      · cases r₂ with
        | error e => exact hr₂
        | ok fl₂ =>
          cases fl₂ with
          | ret r =>
            obtain ⟨rfl, h', tk, rfl, hS', hk'⟩ := hr₂
            repeat (any_goals (first | assumption | wp_step))
            exact h _ _ hS' hk'
          | _ => exact hr₂.elim
    | _ => exact hr.elim
end
end FvB


set_option maxHeartbeats 4000000
namespace FvB
open PySem PySem.Spec PyProof.Rows L2
/-- a set of texts at a, tracked -/
def SetTO (P : Program) (w : World) (a : Addr) (S : Str → Bool) (m : Nat) : HO := .ext fun h => SetT P w h a S m
theorem setTO_ok {P : Program} {w : World} {H : Hp} {h : Heap} {a : Addr} {S : Str → Bool} {m : Nat} (x : SetT P w h a S m) : ObjOk P w H h a (SetTO P w a S m) :=
  ⟨x, let ⟨o, _, _, _, ho, _⟩ := x.ex; ⟨o, ho⟩, fun _ _ y k => y.at k⟩
section
variable {X : Cx}
theorem cr_setT (hc : X.calm = true) : CallR X (.type "set") (fun xs H Q => ∃ (l : Addr) (zs : List Str), xs = [.ref l] ∧ SqL X.K H l (zs.map V.str) ∧ zs.length ≤ 3000 ∧ ∀ p, H p = none → Q (.ref p) (upd H p (SetTO X.prog X.w p (memT zs) zs.length))) := by
  intro pins s σ H xs us Q I r h
  obtain ⟨l, zs, rfl, hl, hz, q⟩ := h
  obtain ⟨u, rfl, rx⟩ := r.one
  cases rx
  obtain ⟨its, rv, ht, _⟩ := I.list hl
  refine set_of_list (xs := zs) (I.ok.hd hc) ht.isList (by simpa using rv.strs) (by unfold scanBound; omega) fun h' tk S' k => ?_
  exact ⟨.ref s.heap.objs.size, _, I.laid (t' := tk) (o := SetTO X.prog X.w s.heap.objs.size (memT zs) zs.length) k (Nat.le_refl _) (setTO_ok S'), rfl, q _ (I.hok.fresh (Nat.le_refl _))⟩
theorem strs_of : ∀ (l : List Value), (∀ v ∈ l, ∃ x tk, v = Value.str x tk) → ∃ xs, StrsAre l xs ∧ xs = l.map (fun v => keyS (0, v))
  | [], _ => ⟨[], .nil, rfl⟩
  | v :: l, h => by
    obtain ⟨x, tk, rfl⟩ := h v List.mem_cons_self
    obtain ⟨xs, a, b⟩ := strs_of l fun u hu => h u (List.mem_cons_of_mem _ hu)
    exact ⟨x :: xs, .cons x tk a, by rw [List.map_cons, ← b]; rfl⟩
theorem cr_sortedSetT (hc : X.calm = true) : CallR X (.builtin "sorted") (fun vs H Q => ∃ (a : Addr) (S : Str → Bool) (m : Nat), vs = [.ref a] ∧ H a = some (SetTO X.prog X.w a S m) ∧ (∀ U : List Str, U.Nodup → (∀ k ∈ U, S k = true) → U.length < 64) ∧
    ∀ (ys : List Str) (p : Addr), sortedS ys = true → ys.Nodup → (∀ k, k ∈ ys ↔ S k = true) → H p = none → Q (.ref p) (upd H p (.lst (ys.map V.str)))) := by
  intro pins s σ H vs us Q I r h
  obtain ⟨a, S, m, rfl, ha, few, q⟩ := h
  obtain ⟨u, rfl, rx⟩ := r.one
  cases rx
  obtain ⟨R, _, _⟩ := I.hok a _ ha
  obtain ⟨o, es, ep, t, ho, hex, hd, g, nd, hm, hb, hf, hn, hr, hl⟩ := SetT.ex R
  refine Calls.call_function_entry kind_sorted plain_sorted entry_sorted (args_sorted1 _) ?_
  unfold Builtin.«sorted»
  refine wpAny_bind (m := checkCount "sorted" 1 1 _) (wpAny_pure ?_)
  refine wpAny_bind (collect_set (A := X.A.in1) (I.ok.hd hc) ⟨o, ho, hex.1, hd⟩ hf hb hr hl fun s1 out k1 hz g1 o1 pm => ?_)
  obtain ⟨xs, sx, ex⟩ := strs_of out fun v hv => by
    obtain ⟨e, he, z⟩ := List.mem_map.mp (pm.mem_iff.mp hv)
    obtain ⟨x, tk, h1, _⟩ := g e he
    exact ⟨x, tk, by rw [← z]; exact h1⟩
  have pk : xs.Perm (es.toList.map keyS) := by
    rw [ex]
    have z := pm.map fun v => keyS (0, v)
    rw [List.map_map] at z
    exact z
  have nx : xs.Nodup := pk.nodup_iff.mpr nd
  have mx : ∀ k, k ∈ xs ↔ S k = true := fun k => by rw [pk.mem_iff, hm k]
  have h64 : xs.length < 64 := few xs nx fun k hk => (mx k).mp hk
  have lo : out.length = xs.length := StrsAre.len_eq sx
  have I1 : Inv X pins σ H s1 := by
    obtain ⟨h1, gs, dr, tk, os⟩ := s1
    obtain rfl : gs = s.gens := g1
    obtain rfl : os = s.os := o1
    exact I.call (h' := h1) (g' := s.gens) (t' := tk) (d' := dr) (ch := []) (Un.kept k1) (I.hok.kept k1) I.bare fun _ z => nomatch z
  refine wpAny_bind (wpAny_newList ?_ (by rw [lo, sizeLine_eq]; omega))
  have hoL : (s1.heap.push (seqObj "list" out.toArray 0)).get? s1.heap.objs.size = some (seqObj "list" out.toArray 0) := Heap.get?_push_size _ rfl
  refine wpAny_bind (wpAny_holding (wpAny_call_entry slot_list_sort ⟨_, hoL, rfl⟩ entry_list_sort (list_sort_treeK strKind_oneLt (s := { s1 with heap := s1.heap.push (seqObj "list" out.toArray 0) }) hoL sx.keysOf (fun v₁ v₂ rest e => keyKind_strs (by rw [← e]; exact sx)) (by rw [lo]; exact h64) fun st' hp hs => ⟨_, rfl, ?_⟩) (args_list_sort _)))
  obtain ⟨ys, y1, y2, y3⟩ := sorted_out_str sx hp hs
  obtain ⟨ep', he'⟩ := sortedHeap_at (vs := out) (out := (arrOf st').map (·.2)) hoL
  have hlen : (ys.map V.str).length ≤ sizeLine := by
    rw [List.length_map, y2.length_eq]
    exact Nat.le_trans (Nat.le_of_lt h64) (by decide)
  refine wpAny_pure ⟨_, rfl, .ref s1.heap.objs.size, upd H s1.heap.objs.size (.lst (ys.map V.str)), I1.laid (t' := s1.toks) (fun b v e => ?_) (Nat.le_refl _) (show ObjOk X.prog X.w _ _ _ (.lst (ys.map V.str)) from ⟨hlen, ((arrOf st').map (·.2)).toList, ep', vals_of_strs y1, by rw [Array.toArray_toList]; exact he'⟩), rfl,
    q ys _ y3 (y2.nodup_iff.mpr nx) (fun k => by rw [y2.mem_iff, mx k]) (I1.hok.fresh (Nat.le_refl _))⟩
  have bl := Heap.lt_size e
  rw [sortedHeap_old (Nat.ne_of_lt bl) (by rw [size_push']; exact Nat.lt_succ_of_lt bl)]
  exact Heap.get?_push_of_some _ e
end
end FvB


namespace Fv
open PySem PySem.Spec PyProof.Rows L2 FvD FvG FvB
/-! ### what stands in a walk -/
theorem pre_tk : ∀ (n : Nat) (d : PyData), 1 ≤ lmeas n d → Tk d → ∀ e ∈ pre d, Tk e
  | 0, d, h, _ => by simp only [lmeas] at h; omega
  | n + 1, d, h, t => by
    intro e he
    rw [pre_eq] at he
    rcases List.mem_cons.mp he with z | z
    · rw [z]; exact t
    · rcases t.inv with ⟨x, rfl, _⟩ | ⟨o, ds, rfl, hc, _, all, _⟩
      · rw [str_isCd] at z; cases z
      · rw [if_pos hc] at z
        obtain ⟨y, hy, hz⟩ := List.mem_flatMap.mp z
        have hy' : y ∈ ds := hy
        rcases lmeas_inv h with ⟨x, hx, _⟩ | ⟨o', ds', hd, _, _, _, all1, _⟩
        · cases hx
        · cases hd
          exact pre_tk n y (all1 y hy') (all y hy') e hz
theorem Tk.pre {d : PyData} (t : Tk d) : ∀ e ∈ pre d, Tk e := pre_tk 9 d t.one t
theorem once_sub : ∀ (l : List PyData), ∀ e ∈ onceD l, e ∈ l := by
  have gen : ∀ (l acc : List PyData), ∀ e ∈ l.foldl addD acc, e ∈ acc ∨ e ∈ l := by
    intro l
    induction l with
    | nil => intro acc e he; exact .inl he
    | cons d r ih =>
      intro acc e he
      rcases ih (addD acc d) e he with z | z
      · unfold addD at z
        split at z
        · exact .inl z
        · rcases List.mem_append.mp z with z | z
          · exact .inl z
          · rw [List.mem_singleton.mp z]; exact .inr List.mem_cons_self
      · exact .inr (List.mem_cons_of_mem _ z)
  intro l e he
  rcases gen l [] e he with z | z
  · cases z
  · exact z
theorem shaped_tk {d : PyData} (t : Tk d) : SeqAt.shaped d = true := gd_shaped t.gd (by decide)
theorem shaped_list {l : List PyData} (h : ∀ d ∈ l, gd 20 d = true) : SeqAt.shaped (.list l) = true := by
  have q := gdAll_lay 20 l (gdAll_iff.mpr h)
  show ((PyData.list l).canLay0 && decide ((PyData.list l).depth ≤ 64)) = true
  rw [Bool.and_eq_true]
  refine ⟨by simpa [PyData.canLay0] using q.1, decide_eq_true ?_⟩
  simp only [PyData.depth]
  omega
/-! ### == of keys -/
mutual
theorem eqv_iff : ∀ (n m : Nat) (z d : PyData), kd n z = true → kd m d = true → (PyData.eqv z d = true ↔ nk z = nk d)
  | n, m, .str x, .str y, _, _ => by
    simp only [nk, PyData.eqv]
    rw [beq_iff_eq]
    exact ⟨fun h => by rw [h], fun h => by injection h⟩
  | n + 1, m + 1, .tuple ds, .tuple es, hd, he => by
    simp only [nk, PyData.eqv]
    rw [eqvs_iff n m ds es (by simpa [kd] using hd) (by simpa [kd] using he)]
    exact ⟨fun h => by rw [h], fun h => by injection h⟩
  | n, m, .str x, .tuple es, _, _ => by
    simp only [nk, PyData.eqv]
    exact ⟨(fun h => nomatch h), (fun h => by cases h)⟩
  | n, m, .tuple es, .str x, _, _ => by
    simp only [nk, PyData.eqv]
    exact ⟨(fun h => nomatch h), (fun h => by cases h)⟩
  | 0, m, .tuple es, e, hd, _ => by simp [kd] at hd
  | n, 0, d, .tuple es, _, he => by simp [kd] at he
  | n, m, .none, e, hd, _ => by cases n <;> simp [kd] at hd
  | n, m, .bool _, e, hd, _ => by cases n <;> simp [kd] at hd
  | n, m, .int _, e, hd, _ => by cases n <;> simp [kd] at hd
  | n, m, .list _, e, hd, _ => by cases n <;> simp [kd] at hd
  | n, m, .dict _, e, hd, _ => by cases n <;> simp [kd] at hd
  | n, m, d, .none, _, he => by cases m <;> simp [kd] at he
  | n, m, d, .bool _, _, he => by cases m <;> simp [kd] at he
  | n, m, d, .int _, _, he => by cases m <;> simp [kd] at he
  | n, m, d, .list _, _, he => by cases m <;> simp [kd] at he
  | n, m, d, .dict _, _, he => by cases m <;> simp [kd] at he
theorem eqvs_iff : ∀ (n m : Nat) (ds es : List PyData), kdAll n ds = true → kdAll m es = true → (PyData.eqvAll ds es = true ↔ nks ds = nks es)
  | n, m, [], [], _, _ => by simp [PyData.eqvAll, nks]
  | n, m, d :: ds, e :: es, hd, he => by
    simp only [kdAll, Bool.and_eq_true] at hd he
    simp only [PyData.eqvAll, nks, Bool.and_eq_true]
    rw [eqv_iff n m d e hd.1 he.1, eqvs_iff n m ds es hd.2 he.2]
    exact ⟨fun h => by rw [h.1, h.2], fun h => by injection h with h1 h2; exact ⟨h1, h2⟩⟩
  | n, m, [], e :: es, _, _ => by simp [PyData.eqvAll, nks]
  | n, m, d :: ds, [], _, _ => by simp [PyData.eqvAll, nks]
end
theorem eqv_nk {n m : Nat} {z d : PyData} (hz : kd n z = true) (hd : kd m d = true) : PyData.eqv z d = decide (nk z = nk d) := by
  rw [Bool.eq_iff_iff, decide_eq_true_eq]
  exact eqv_iff n m z d hz hd
theorem any_eqv {l : List PyData} {d : PyData} (hl : ∀ z ∈ l, kd 8 z = true) (hd : kd 8 d = true) : (l.any fun z => PyData.eqv z d) = l.any fun e => decide (nk e = nk d) := by
  rw [Bool.eq_iff_iff, List.any_eq_true, List.any_eq_true]
  exact ⟨fun ⟨z, hz, e⟩ => ⟨z, hz, by rw [← eqv_nk (hl z hz) hd]; exact e⟩, fun ⟨z, hz, e⟩ => ⟨z, hz, by rw [eqv_nk (hl z hz) hd]; exact e⟩⟩
/-- a key is among those once told exactly if it is told -/
theorem once_any (l : List PyData) (k : NestedKey) : ((onceD l).any fun e => decide (nk e = k)) = l.any fun e => decide (nk e = k) := by
  have gen : ∀ (l acc : List PyData), ((l.foldl addD acc).any fun e => decide (nk e = k)) = (acc.any (fun e => decide (nk e = k)) || l.any fun e => decide (nk e = k)) := by
    intro l
    induction l with
    | nil => intro acc; simp
    | cons d r ih =>
      intro acc
      rw [List.foldl_cons, ih, List.any_cons, ← Bool.or_assoc]
      congr 1
      unfold addD
      by_cases c : (acc.any fun e => decide (nk e = nk d)) = true
      · rw [if_pos c]
        by_cases e : nk d = k
        · rw [e] at c
          rw [c]; rfl
        · rw [decide_eq_false e, Bool.or_false]
      · rw [if_neg c, List.any_append]
        simp
  have := gen l []
  simpa [onceD] using this
/-! ### the letters -/
def abc : List Str := ["a", "b", "c", "d", "e", "f", "g", "h"]
/-- the letters of a term, ascending -/
def lts (d : PyData) : List Str := abc.filter fun x => (pre d).any fun e => decide (nk e = .text x)
theorem nk_text {n : Nat} {e : PyData} {x : Str} (hk : kd n e = true) (h : nk e = .text x) : e = .str x := nk_inj n n e (.str x) hk kd_str (by rw [h]; rfl)
theorem lt_trans_abc : (abc.Pairwise fun a b => ltCps a.cps.toList b.cps.toList = true) ∧ abc.Nodup := by decide +kernel
theorem rising_all : ∀ (ls : List Str), ls.Pairwise (fun a b => ltCps a.cps.toList b.cps.toList = true ∧ ltCps b.cps.toList a.cps.toList = false) → ∀ (ys : List Str), sortedS ys = true → ys.Nodup → (∀ y ∈ ys, y ∈ ls) → ys = ls.filter fun x => decide (x ∈ ys)
  | [], _, ys, _, _, h => by
    cases ys with
    | nil => rfl
    | cons y r => exact absurd (h y List.mem_cons_self) (by simp)
  | a :: ls, hp, ys, hs, hn, h => by
    rw [List.pairwise_cons] at hp
    have tail : ∀ (p : Str) (r : List Str), risingS p r = true → sortedS r = true := fun p r z => by
      cases r with
      | nil => rfl
      | cons q r' =>
        simp only [risingS, Bool.and_eq_true] at z
        exact z.2
    by_cases ha : a ∈ ys
    · -- a is the first one
      have first : ∀ (r : List Str) (p : Str), risingS p r = true → (∀ y ∈ p :: r, y ∈ a :: ls) → a ∈ p :: r → (p :: r).Nodup → p = a := by
        intro r
        induction r with
        | nil =>
          intro p _ _ m _
          exact (List.mem_singleton.mp m).symm
        | cons q r ih =>
          intro p hr hm m nd
          rcases List.mem_cons.mp m with z | z
          · exact z.symm
          · simp only [risingS, Bool.and_eq_true] at hr
            have eq := ih q hr.2 (fun y hy => hm y (List.mem_cons_of_mem _ hy)) z (List.nodup_cons.mp nd).2
            rcases List.mem_cons.mp (hm p List.mem_cons_self) with w | w
            · exact w
            · have lt := (hp.1 p w).1
              rw [eq] at hr
              rw [lt] at hr
              cases hr.1
      cases ys with
      | nil => cases ha
      | cons y r =>
        have ey := first r y hs h ha hn
        subst ey
        have nr := List.nodup_cons.mp hn
        have rest : ∀ z ∈ r, z ∈ ls := fun z hz => by
          rcases List.mem_cons.mp (h z (List.mem_cons_of_mem _ hz)) with e | e
          · rw [e] at hz; exact absurd hz nr.1
          · exact e
        have q := rising_all ls hp.2 r (tail y r hs) nr.2 rest
        rw [List.filter_cons, if_pos (by simp)]
        congr 1
        rw [q]
        refine (List.filter_congr fun z hz => ?_).symm
        have ne : z ≠ y := fun e => by
          have := (hp.1 z hz)
          rw [e] at this
          rw [this.1] at this
          cases this.2
        rw [← q]
        simp [ne]
    · have rest : ∀ z ∈ ys, z ∈ ls := fun z hz => by
        rcases List.mem_cons.mp (h z hz) with e | e
        · rw [e] at hz; exact absurd hz ha
        · exact e
      rw [List.filter_cons, if_neg (by simpa using ha)]
      exact rising_all ls hp.2 ys hs hn rest
theorem abc_pair : abc.Pairwise (fun a b => ltCps a.cps.toList b.cps.toList = true ∧ ltCps b.cps.toList a.cps.toList = false) := by decide +kernel
theorem sorted_abc {ys : List Str} (hs : sortedS ys = true) (hn : ys.Nodup) (h : ∀ y ∈ ys, y ∈ abc) : ys = abc.filter fun x => decide (x ∈ ys) := rising_all abc abc_pair ys hs hn h
/-! ### depths -/
def maxI (l : List Int) : Int := l.foldl (fun a b => if b > a then b else a) 0
def ldp : Nat → PyData → Int
  | 0, _ => 0
  | n + 1, d => 1 + maxI ((if isCd d = true then parts d else []).map (ldp n))
theorem fold_max (l : List Int) : ∀ a : Int, a ≤ l.foldl (fun a b => if b > a then b else a) a ∧ (∀ y ∈ l, y ≤ l.foldl (fun a b => if b > a then b else a) a) ∧ (l.foldl (fun a b => if b > a then b else a) a = a ∨ l.foldl (fun a b => if b > a then b else a) a ∈ l) := by
  induction l with
  | nil => intro a; exact ⟨Int.le_refl _, (fun y hy => nomatch hy), .inl rfl⟩
  | cons x r ih =>
    intro a
    rw [List.foldl_cons]
    obtain ⟨h1, h2, h3⟩ := ih (if x > a then x else a)
    refine ⟨?_, fun y hy => ?_, ?_⟩
    · have z : a ≤ (if x > a then x else a) := by split <;> omega
      omega
    · rcases List.mem_cons.mp hy with z | z
      · have w : x ≤ (if x > a then x else a) := by split <;> omega
        rw [z]
        omega
      · exact h2 y z
    · rcases h3 with z | z
      · rw [z]
        split
        · exact .inr List.mem_cons_self
        · exact .inl rfl
      · exact .inr (List.mem_cons_of_mem _ z)
theorem max_is {l : List Int} {m : Int} (hm : m ∈ (0 : Int) :: l) (h : ∀ y ∈ (0 : Int) :: l, y ≤ m) : m = maxI l := by
  obtain ⟨h1, h2, h3⟩ := fold_max l 0
  unfold maxI
  have a : l.foldl (fun a b => if b > a then b else a) 0 ≤ m := by
    rcases h3 with z | z
    · rw [z]; exact h 0 List.mem_cons_self
    · exact h _ (List.mem_cons_of_mem _ z)
  have b : m ≤ l.foldl (fun a b => if b > a then b else a) 0 := by
    rcases List.mem_cons.mp hm with z | z
    · rw [z]; exact h1
    · exact h2 m z
  omega
theorem measL_dp {f : PyData → Int → Option (Int × Int)} {g : PyData → Int} (hf : ∀ d ms dp sz, f d ms = some (dp, sz) → dp = g d) : ∀ (ds : List PyData) (ms dp tot a b : Int), measL f ds ms dp tot = some (a, b) → a = 1 + (ds.map g).foldl (fun a b => if b > a then b else a) dp
  | [], ms, dp, tot, a, b, h => by
    simp only [measL, Option.some.injEq, Prod.mk.injEq] at h
    simp
    omega
  | d :: ds, ms, dp, tot, a, b, h => by
    simp only [measL] at h
    cases hd : f d (ms - tot) with
    | none => rw [hd] at h; cases h
    | some p =>
      obtain ⟨x, y⟩ := p
      rw [hd] at h
      dsimp only at h
      have e := hf d _ x y hd
      have q := measL_dp hf ds ms _ _ a b h
      rw [List.map_cons, List.foldl_cons, ← e]
      exact q
theorem meas_dp : ∀ (n : Nat) (d : PyData) (ms dp sz : Int), meas n d ms = some (dp, sz) → dp = ldp n d
  | 0, d, ms, dp, sz, h => by simp [meas] at h
  | n + 1, d, ms, dp, sz, h => by
    unfold meas at h
    unfold ldp
    by_cases h1 : ms < 1
    · rw [if_pos h1] at h; cases h
    · rw [if_neg h1] at h
      by_cases h2 : isLd d = true
      · rw [if_pos h2] at h
        cases h
        have hc : isCd d = false := by
          cases d with
          | str x => rfl
          | _ => simp [isLd] at h2
        rw [hc]
        rfl
      · rw [if_neg h2] at h
        by_cases h3 : isCd d = true
        · rw [if_pos h3] at h
          rw [if_pos h3]
          exact measL_dp (fun d ms dp sz e => meas_dp n d ms dp sz e) _ _ _ _ _ _ h
        · rw [if_neg h3] at h; cases h
end Fv


namespace Fv
open PySem PySem.Spec PyProof.Rows L2 GenW FvX FvD FvG FvB
-- top 28  slots: 0:_law_word
abbrev s_law_parts : Stmt := topS 28
abbrev N_law_parts : List Str := ["_law_word"]
theorem sc_law_parts : FnScope N_law_parts ["_law_word"] (defScope s_law_parts) := ⟨rfl, rfl, rfl, by decide +kernel, rfl, by decide +kernel, by decide +kernel⟩

-- top 29  slots: 0:_law_word 1:_law_one
abbrev s_law_deep : Stmt := topS 29
abbrev N_law_deep : List Str := ["_law_word", "_law_one"]
theorem sc_law_deep : FnScope N_law_deep ["_law_word"] (defScope s_law_deep) := ⟨rfl, rfl, rfl, by decide +kernel, rfl, by decide +kernel, by decide +kernel⟩

-- top 31  slots: 0:_law_word 1:_law_found 2:_law_one
abbrev s_law_walk : Stmt := topS 31
abbrev N_law_walk : List Str := ["_law_word", "_law_found", "_law_one"]
theorem sc_law_walk : FnScope N_law_walk ["_law_word"] (defScope s_law_walk) := ⟨rfl, rfl, rfl, by decide +kernel, rfl, by decide +kernel, by decide +kernel⟩

-- top 32  slots: 0:_law_row 1:_law_found 2:_law_one
abbrev s_law_once : Stmt := topS 32
abbrev N_law_once : List Str := ["_law_row", "_law_found", "_law_one"]
theorem sc_law_once : FnScope N_law_once ["_law_row"] (defScope s_law_once) := ⟨rfl, rfl, rfl, by decide +kernel, rfl, by decide +kernel, by decide +kernel⟩

-- top 33  slots: 0:_law_word 1:_law_one
abbrev s_law_signs_in : Stmt := topS 33
abbrev N_law_signs_in : List Str := ["_law_word", "_law_one"]
theorem sc_law_signs_in : FnScope N_law_signs_in ["_law_word"] (defScope s_law_signs_in) := ⟨rfl, rfl, rfl, by decide +kernel, rfl, by decide +kernel, by decide +kernel⟩

theorem op_inDK {X : Cx} {K : PySem.W.Frag} (hK : X.K = K) (hu : X.A.units + 65 < cLine) : OpR X (compareOp .In) (rInD K) := by
  subst hK
  exact op_inD hu
/-- a new list of data -/
def newL (K : PySem.W.Frag) (ds : List PyData) (H : Hp) (Q : VK) : Prop := ∀ (H' : Hp) (p : Addr) (vs : List V), Same H H' → H p = none → H' p = some (.lst vs) → DpAll K H' vs ds → Q (.ref p) H'
/-- a new list of letters -/
def newLt (xs : List Str) (H : Hp) (Q : VK) : Prop := ∀ (H' : Hp) (p : Addr), Same H H' → H p = none → H' p = some (.lst (xs.map V.str)) → Q (.ref p) H'
theorem none_back {H H1 : Hp} {p : Addr} (s : Same H H1) (h : H1 p = none) : H p = none := by
  cases e : H p with
  | none => rfl
  | some o => rw [s p o e] at h; cases h
theorem take_filter {α : Type} (l : List α) (p : α → Bool) (i : Nat) (x : α) (h : l[i]? = some x) : (l.take (i + 1)).filter p = (l.take i).filter p ++ (if p x = true then [x] else []) := by
  rw [List.take_add_one, h, List.filter_append]
  congr 1
  show [x].filter p = _
  rw [List.filter_cons, List.filter_nil]
theorem abc_cps : (tl8 : List Nat) → tl8 = [97, 98, 99, 100, 101, 102, 103, 104] → abc = tl8.map fun c => (⟨#[c]⟩ : Str) := by
  intro tl8 e
  subst e
  decide +kernel
theorem abc_at (i : Nat) (c : Nat) (h : ("abcdefgh" : Str).cps[i]? = some c) : abc[i]? = some ⟨#[c]⟩ := by
  have e : ("abcdefgh" : Str).cps = #[97, 98, 99, 100, 101, 102, 103, 104] := by decide +kernel
  rw [e] at h
  rw [abc_cps _ rfl, List.getElem?_map]
  have h' : ([97, 98, 99, 100, 101, 102, 103, 104] : List Nat)[i]? = some c := by simpa using h
  rw [h']
  rfl
theorem abc_shaped : ∀ x ∈ abc, SeqAt.shaped (.str x) = true := by decide +kernel
section
variable {P : Program} {w : World} {K : PySem.W.Frag} {mg : Str → Option Value} {base : Heap} {CT : Addr}
theorem ok_letters {f : Addr} {fd : FuncData} {k : Nat} {t8 : Tok} (F : Fun K "letters" "letters" s_letters f fd) (g_LETTERS : mg "LETTERS" = some (.str "abcdefgh" t8)) (C_subterms : OwnR P w K mg base k "subterms" (spLg K CT (gSubt K))) :
    FnOk P w K mg base (L2.CX P w) (k + 1) f fd ["term"] (spLg K CT fun _ d H Q => newLt (lts d) H Q) := by
  refine F.okX sc_letters (fun vs H Q E h => ?_) (fun cdv A outer s H vs Q E hr h => ?_)
  · obtain ⟨v, d, rfl, _⟩ := h
    rfl
  · obtain ⟨v, d, rfl, hd, hg, good, bad⟩ := h
    refine ⟨_, (pss_cons (ps_set (i := 1) sc_letters.nd rfl (by first | exact .inl rfl | exact .inr rfl) (pe_ownR C_subterms (hr.mono (by omega)) (by rfl) passX (pa_cons (pv 0) pa_nil)))
      (pss_one (ps_ret (pe_lc (own := [("letter", 2)]) (g := gName 2) (by rfl) sc_letters.nd (pi_str (pe_glob (v := .str "abcdefgh") (by rfl) g_LETTERS (⟨_, rfl⟩))) (blkOk_by (own := [("letter", 2)]) (N := N_letters) (sc := defScope s_letters) (by decide +kernel)) (fun _ _ _ _ _ => pg_name (i := 2) sc_letters.nd rfl (Or.inl rfl)) (fun _ _ _ _ _ => pts_one (pt_cmpR (op_inDK (K := K) rfl (hu65 hr)) (pv 2) (pv 1) (by rfl))) (fun _ _ _ _ _ => (pv 2)))))), ?_⟩
    refine ⟨_, rfl, v, d, rfl, hd, hg, fun hm H1 p vs s1 np hp hv => ?_, bad⟩
    have t := tk_of hm hg
    have subs : ∀ e ∈ onceD (pre d), Tk e := fun e he => Tk.pre t e (once_sub _ e he)
    refine ⟨_, rfl, fun D nD => lc_it (walk_str (z := "abcdefgh")) (fun i H2 => Same H1 H2 ∧ H2 D = some (.lst (((abc.take i).filter fun x => (pre d).any fun e => decide (nk e = .text x)).map V.str))) ?_ ?_ ?_ ?_⟩
    · exact ⟨same_upd nD, by rw [upd_same]; rfl⟩
    · exact fun _ _ _ _ => trivial
    · rintro i y H2 H3 hi ⟨sm, e⟩ ⟨rfl, c, hc, rfl⟩
      have hx := abc_at i c hc
      refine ⟨rfl, _, rfl, _, rfl, .str ⟨#[c]⟩, onceD (pre d), .str _, .lst (SqL.of (sm _ _ hp)) (dpAll_same sm _ _ hv), ?_, shaped_list fun z hz => (subs z hz).gd, _, rfl, ?_⟩
      · exact abc_shaped _ (List.mem_of_getElem? hx)
      · show if ((onceD (pre d)).any fun z => PyData.eqv z (.str ⟨#[c]⟩)) = true then _ else _
        rw [any_eqv (fun z hz => (subs z hz).kd) kd_str, show nk (.str ⟨#[c]⟩) = NestedKey.text ⟨#[c]⟩ from rfl, once_any]
        have st := take_filter abc (fun x => (pre d).any fun e => decide (nk e = .text x)) i _ hx
        refine ite2 (fun q => ?_) (fun q => ?_)
        · refine ⟨_, rfl, _, e, ?_, fun b o eb => ?_, ?_⟩
          · rw [List.length_map]
            exact Nat.lt_of_le_of_lt (Nat.le_trans (List.length_filter_le _ _) (List.length_take_le' _ _)) (show abc.length < sizeLine by rw [sizeLine_eq]; decide)
          · rw [upd_ne (ne_of_none eb nD)]
            exact sm b o eb
          · rw [upd_same, st, if_pos q, List.map_append]
            rfl
        · refine ⟨sm, ?_⟩
          rw [e, st, if_neg q, List.append_nil]
    · rintro H2 ⟨sm, e⟩
      have npD : H D = none := none_back s1 nD
      refine good hm H2 D (s1.trans sm) npD ?_
      rw [e]
      rfl
/-! ### the law's own -/
def spParts (K : PySem.W.Frag) : Sp := fun vs H Q _ => ∃ (v : V) (d : PyData), vs = [v] ∧ Dp K H v d ∧ Tk d ∧ newL K (if isCd d = true then parts d else []) H Q
theorem ok_lparts {f : Addr} {fd : FuncData} {k : Nat} (F : Fun K "_law_parts" "_law_parts" s_law_parts f fd) (m_isinstance : mg "isinstance" = none) (m_str : mg "str" = none) (m_list : mg "list" = none) : FnOk P w K mg base CX0 (k + 1) f fd ["_law_word"] (spParts K) := by
  refine F.ok sc_law_parts (fun vs H Q E h => ?_) (fun cdv A outer s H vs Q E hr h => ?_)
  · obtain ⟨v, d, rfl, _⟩ := h
    rfl
  · obtain ⟨v, d, rfl, hd, t, q⟩ := h
    refine ⟨_, (pss_one (ps_ret (pe_ifExp (pt_val (pe_isD (T := "str") (by rfl) m_isinstance (by rfl) m_str (pv 0))) (pe_lst pa_nil) (pe_callTy call_list_of (by rfl) m_list (by decide +kernel) (pa_cons (pe_slice sl_tup (pv 0) (po_some pe_int) po_none) pa_nil))))), ?_⟩
    rcases t.inv with ⟨x, rfl, _⟩ | ⟨o, ds, rfl, hc, h2, tds, _⟩
    · cases hd
      refine ⟨_, rfl, _, _, _, rfl, by decide, .str x, _, rfl, iteT ⟨Nat.zero_le _, fun p np => ?_⟩⟩
      exact q _ p [] (same_upd np) np upd_same .nil
    · rw [if_pos hc] at q
      cases hd with
      | @tup a xs _ hs ha =>
        cases ha with
        | @cons x0 xr _ _ h1 hA =>
        cases h1
        refine ⟨_, rfl, _, _, .tuple (.str o :: ds), rfl, by decide, .tup hs (.cons (.str o) hA), _, rfl, iteF ?_⟩
        refine ⟨_, rfl, 1, rfl, a, _, rfl, hs, ?_, fun p np => ?_⟩
        · rw [show HT.sIx (V.str o :: xr).length 0 (some 1) = min 1 (V.str o :: xr).length from HT.sIx_nat _ 0 1, List.length_cons]
          omega
        have ex : cutV (V.str o :: xr) (some 1) none = xr := by rw [cut_drop1]; rfl
        rw [ex]
        have sp := same_upd (o := .tup xr) np
        refine ⟨p, xr, rfl, .inr (SqT.of upd_same), fun l nl => ?_⟩
        have sl := same_upd (o := .lst xr) nl
        exact q _ l xr (sp.trans sl) (none_back sp nl) upd_same (dpAll_same (sp.trans sl) _ _ hA)
/-- deep, by the law -/
def spDeep (K : PySem.W.Frag) (n : Nat) : Sp := fun vs H Q _ => ∃ (v : V) (d : PyData) (m : Nat), vs = [v] ∧ Dp K H v d ∧ Tk d ∧ m < n ∧ 1 ≤ lmeas m d ∧ ∀ H', Same H H' → Q (.int (ldp m d)) H'
theorem deep_zero {f : Addr} {fd : FuncData} {k : Nat} {ps : List Str} : FnOk P w K mg base CX0 k f fd ps (spDeep K 0) := by
  have no : ∀ vs H Q E, ¬ spDeep K 0 vs H Q E := fun vs H Q E h => by
    obtain ⟨v, d, m, _, _, _, m1, _⟩ := h
    omega
  exact ⟨fun vs H Q E h => absurd h (no vs H Q E), fun A outer s H args us vs Q E _ _ _ _ h => absurd h (no vs H Q E)⟩
theorem tk_parts {m : Nat} {d : PyData} (t : Tk d) (h : 1 ≤ lmeas (m + 1) d) : ∀ x ∈ (if isCd d = true then parts d else []), Tk x ∧ 1 ≤ lmeas m x := by
  intro x hx
  rcases t.inv with ⟨z, rfl, _⟩ | ⟨o, ds, rfl, hc, _, tds, _⟩
  · rw [str_isCd] at hx; cases hx
  · rw [if_pos hc] at hx
    have hx' : x ∈ ds := hx
    rcases lmeas_inv h with ⟨y, hy, _⟩ | ⟨o', ds', hd, _, _, _, all1, _⟩
    · cases hy
    · cases hd
      exact ⟨tds x hx', all1 x hx'⟩
theorem parts_len {d : PyData} (t : Tk d) : (if isCd d = true then parts d else []).length ≤ 1200 := by
  have z := pre_small t
  rw [pre_eq, List.length_cons] at z
  have y := flat_len (if isCd d = true then parts d else [])
  by_cases c : isCd d = true
  · rw [if_pos c] at z y ⊢; omega
  · rw [if_neg c]; simp
theorem ok_ldeep {f : Addr} {fd : FuncData} {k n : Nat} (F : Fun K "_law_deep" "_law_deep" s_law_deep f fd) (m_max : mg "max" = none) (hk : 1 ≤ k) (C_law_parts : Own P w K mg base 1 "_law_parts" ["_law_word"] (spParts K)) (C_law_deep : Own P w K mg base k "_law_deep" ["_law_word"] (spDeep K n)) :
    FnOk P w K mg base CX0 (k + 1) f fd ["_law_word"] (spDeep K (n + 1)) := by
  refine F.ok sc_law_deep (fun vs H Q E h => ?_) (fun cdv A outer s H vs Q E hr h => ?_)
  · obtain ⟨v, d, m, rfl, _⟩ := h
    rfl
  · obtain ⟨v, d, m, rfl, hd, t, hm, l1, q⟩ := h
    refine ⟨_, (pss_one (ps_ret (pe_op op_add pe_int (pe_callB (cr_max rfl) (by rfl) m_max (by decide +kernel) (pa_cons (pe_op op_cat (pe_lst (pa_cons pe_int pa_nil)) (pe_lc (own := [("_law_one", 1)]) (g := gName 1) (by rfl) sc_law_deep.nd (pi_list (pe_own C_law_parts (hr.mono (by omega)) (by rfl) (pa_cons (pv 0) pa_nil))) (blkOk_by (own := [("_law_one", 1)]) (N := N_law_deep) (sc := defScope s_law_deep) (by decide +kernel)) (fun _ _ _ _ _ => pg_name (i := 1) sc_law_deep.nd rfl (Or.inl rfl)) (fun _ _ _ _ _ => pts_nil) (fun _ _ _ _ _ => (pe_own C_law_deep (hr.mono (by omega)) (by rfl) (pa_cons (pv 1) pa_nil))))) pa_nil))))), ?_⟩
    cases m with
    | zero => simp only [lmeas] at l1; omega
    | succ m =>
    have tp := tk_parts t l1
    have pl := parts_len t
    have eq : ldp (m + 1) d = 1 + maxI ((if isCd d = true then parts d else []).map (ldp m)) := rfl
    have hnew : ∀ H0 : Hp, Dp K H0 v d → ∀ R : VK, newL K (if isCd d = true then parts d else []) H0 R → spParts K [v] H0 R E0 := fun H0 h0 R n => ⟨v, d, rfl, h0, t, n⟩
    generalize (if isCd d = true then parts d else []) = ps at tp pl eq hnew
    refine ⟨by show 1 ≤ sizeLine; decide, fun l0 n0 => ?_⟩
    have s0 := same_upd (o := .lst [V.int 0]) n0
    refine ⟨_, rfl, hnew _ (dp_same s0 d v hd) _ fun H1 p xs s1 np hp hA => ?_⟩
    have hl := dpAll_len hA
    refine ⟨p, rfl, ⟨_, SqL.of hp⟩, fun D nD => lc_list (xs := xs) (fun i H2 => Same H1 H2 ∧ H2 D = some (.lst (((ps.take i).map (ldp m)).map V.int))) ?_ ?_ ?_ ?_⟩
    · exact ⟨same_upd nD, by rw [upd_same]; rfl⟩
    · rintro i H2 hi ⟨sm, e1⟩
      exact SqL.of (sm _ _ hp)
    · rintro i x H2 hx ⟨sm, e1⟩
      obtain ⟨d', hd', hD'⟩ := dpAll_get hA hx
      have md : d' ∈ ps := List.mem_of_getElem? hd'
      refine ⟨rfl, ?_⟩
      dsimp only [tYes]
      rw [if_pos rfl]
      refine ⟨_, rfl, x, d', m, rfl, dp_same sm d' x hD', (tp d' md).1, by omega, (tp d' md).2, fun H3 s3 => ?_⟩
      refine ⟨_, s3 _ _ e1, ?_, fun b o' eb => ?_, ?_⟩
      · rw [List.length_map, List.length_map, List.length_take]
        exact Nat.lt_of_le_of_lt (by omega : min i ps.length ≤ 1200) (by rw [sizeLine_eq]; decide)
      · rw [upd_ne (ne_of_none eb nD)]
        exact s3 _ _ (sm _ _ eb)
      · rw [upd_same, List.take_add_one, hd']
        simp
    · rintro H2 ⟨sm, e1⟩
      have et : ps.take xs.length = ps := List.take_of_length_le (by omega)
      rw [et] at e1
      have e0 : H2 l0 = some (.lst [V.int 0]) := sm _ _ (s1 _ _ upd_same)
      refine ⟨l0, D, _, _, rfl, rfl, e0, e1, ?_, fun cc ncc => ?_⟩
      · rw [List.length_map, List.length_map]
        exact Nat.le_trans (by show 1 + ps.length ≤ 1201; omega) (by rw [sizeLine_eq]; decide)
      have sc := same_upd (o := .lst ([V.int 0] ++ (ps.map (ldp m)).map V.int)) ncc
      refine ⟨cc, 0 :: ps.map (ldp m), rfl, SqL.of upd_same, Nat.succ_pos _, fun mm h1 h2 => ⟨_, _, rfl, rfl, ?_⟩⟩
      have z := q _ (s0.trans (s1.trans (sm.trans sc)))
      rw [eq, ← max_is h1 h2] at z
      exact z
/-! ### the law's walk, each one once, its letters -/
def spLWalk (K : PySem.W.Frag) (n : Nat) : Sp := fun vs H Q _ => ∃ (v : V) (d : PyData) (m : Nat), vs = [v] ∧ Dp K H v d ∧ Tk d ∧ m < n ∧ 1 ≤ lmeas m d ∧ newL K (pre d) H Q
theorem lwalk_zero {f : Addr} {fd : FuncData} {k : Nat} {ps : List Str} : FnOk P w K mg base CX0 k f fd ps (spLWalk K 0) := by
  have no : ∀ vs H Q E, ¬ spLWalk K 0 vs H Q E := fun vs H Q E h => by
    obtain ⟨v, d, m, _, _, _, m1, _⟩ := h
    omega
  exact ⟨fun vs H Q E h => absurd h (no vs H Q E), fun A outer s H args us vs Q E _ _ _ _ h => absurd h (no vs H Q E)⟩
theorem flat_take_len (l : List PyData) (i : Nat) : ((l.take i).flatMap pre).length ≤ (l.flatMap pre).length := by
  have e : l.flatMap pre = (l.take i).flatMap pre ++ (l.drop i).flatMap pre := by rw [← List.flatMap_append, List.take_append_drop]
  rw [e, List.length_append]
  omega
theorem ok_lwalk {f : Addr} {fd : FuncData} {k n : Nat} (F : Fun K "_law_walk" "_law_walk" s_law_walk f fd) (hk : 1 ≤ k) (C_law_parts : Own P w K mg base 1 "_law_parts" ["_law_word"] (spParts K)) (C_law_walk : Own P w K mg base k "_law_walk" ["_law_word"] (spLWalk K n)) :
    FnOk P w K mg base CX0 (k + 1) f fd ["_law_word"] (spLWalk K (n + 1)) := by
  refine F.ok sc_law_walk (fun vs H Q E h => ?_) (fun cdv A outer s H vs Q E hr h => ?_)
  · obtain ⟨v, d, m, rfl, _⟩ := h
    rfl
  · obtain ⟨v, d, m, rfl, hd, t, hm, l1, q⟩ := h
    refine ⟨_, (pss_cons (ps_set (i := 1) sc_law_walk.nd rfl (by first | exact .inl rfl | exact .inr rfl) (pe_lst (pa_cons (pv 0) pa_nil)))
      (pss_cons (ps_for PassesOwn.never rfl (pi_list (pe_own C_law_parts (hr.mono (by omega)) (by rfl) (pa_cons (pv 0) pa_nil))) (pg_name (i := 2) sc_law_walk.nd rfl (by first | exact .inl rfl | exact .inr rfl))
        (pss_one (ps_set (i := 1) sc_law_walk.nd rfl (by first | exact .inl rfl | exact .inr rfl) (pe_op op_cat (pv 1) (pe_own C_law_walk (hr.mono (by omega)) (by rfl) (pa_cons (pv 2) pa_nil))))))
      (pss_one (ps_ret (pv 1))))), ?_⟩
    cases m with
    | zero => simp only [lmeas] at l1; omega
    | succ m =>
    have tp := tk_parts t l1
    have pl := pre_small t
    have eq : pre d = d :: (if isCd d = true then parts d else []).flatMap pre := by
      rw [pre_eq]
      split <;> rfl
    have hnew : ∀ H0 : Hp, Dp K H0 v d → ∀ R : VK, newL K (if isCd d = true then parts d else []) H0 R → spParts K [v] H0 R E0 := fun H0 h0 R n => ⟨v, d, rfl, h0, t, n⟩
    generalize (if isCd d = true then parts d else []) = ps at tp eq hnew
    refine ⟨_, rfl, by show 1 ≤ sizeLine; decide, fun l0 n0 => ?_⟩
    have s0 := same_upd (o := .lst [v]) n0
    refine ⟨_, rfl, hnew _ (dp_same s0 d v hd) _ fun H1 p xs s1 np hp hA => ?_⟩
    have hl := dpAll_len hA
    refine ⟨p, rfl, ⟨_, SqL.of hp⟩, for_list (xs := xs) (fun i σ H2 => ∃ (fo : Addr) (ys : List V) (o : Option V), σ = [some v, some (.ref fo), o] ∧ Same H1 H2 ∧ H fo = none ∧ H2 fo = some (.lst ys) ∧ DpAll K H2 ys (d :: (ps.take i).flatMap pre)) ?_ ?_ ?_ ?_⟩
    · exact ⟨l0, [v], _, rfl, Same.refl _, n0, s1 _ _ upd_same, .cons (dp_same (s0.trans s1) d v hd) .nil⟩
    · rintro i σ H2 hi ⟨fo, ys, o, rfl, sm, _⟩
      exact SqL.of (sm _ _ hp)
    · rintro i x σ H2 hx ⟨fo, ys, o, rfl, sm, nfo, hfo, hys⟩
      obtain ⟨d', hd', hD'⟩ := dpAll_get hA hx
      have md : d' ∈ ps := List.mem_of_getElem? hd'
      refine ⟨_, rfl, _, rfl, x, d', m, rfl, dp_same sm d' x hD', (tp d' md).1, by omega, (tp d' md).2, fun H3 p3 zs s3 np3 hp3 hz => ?_⟩
      have ly := dpAll_len hys
      have lz := dpAll_len hz
      have est : (ps.take (i + 1)).flatMap pre = (ps.take i).flatMap pre ++ pre d' := by
        rw [List.take_add_one, hd', List.flatMap_append]
        simp
      have lens : ys.length + zs.length ≤ 1200 := by
        have z1 := flat_take_len ps (i + 1)
        rw [est, List.length_append] at z1
        rw [eq, List.length_cons] at pl
        rw [List.length_cons] at ly
        omega
      refine ⟨fo, p3, ys, zs, rfl, rfl, s3 _ _ hfo, hp3, Nat.le_trans lens (by rw [sizeLine_eq]; decide), fun cc ncc => ?_⟩
      have sc := same_upd (o := .lst (ys ++ zs)) ncc
      have sall := (s0.trans (s1.trans (sm.trans s3)))
      refine ⟨cc, ys ++ zs, _, rfl, sm.trans (s3.trans sc), none_back sall ncc, upd_same, ?_⟩
      rw [est, ← List.cons_append]
      exact dpAll_app (dpAll_same (s3.trans sc) _ _ hys) (dpAll_same sc _ _ hz)
    · rintro σ H2 ⟨fo, ys, o, rfl, sm, nfo, hfo, hys⟩
      have et : ps.take xs.length = ps := List.take_of_length_le (by omega)
      rw [et, ← eq] at hys
      exact ⟨_, rfl, q H2 fo ys (s0.trans (s1.trans sm)) nfo hfo hys⟩
end
end Fv


namespace Fv
open PySem PySem.Spec PyProof.Rows L2 GenW FvX FvD FvG FvB
def spOnce (K : PySem.W.Frag) : Sp := fun vs H Q _ => ∃ (r : Addr) (xs : List V) (ds : List PyData), vs = [.ref r] ∧ SqL K H r xs ∧ DpAll K H xs ds ∧ (∀ d ∈ ds, Tk d) ∧ ds.length ≤ 1200 ∧ newL K (onceD ds) H Q
def spSignsIn (K : PySem.W.Frag) : Sp := fun vs H Q _ => ∃ (v : V) (d : PyData), vs = [v] ∧ Dp K H v d ∧ Tk d ∧ newLt (lts d) H Q
theorem isL_abc {x : Str} (h : isL x = true) : x ∈ abc := by
  exact isL_one h
/-- the texts among data -/
def txs : List PyData → List Str
  | [] => []
  | .str x :: r => x :: txs r
  | _ :: r => txs r
theorem txs_app : ∀ (a b : List PyData), txs (a ++ b) = txs a ++ txs b
  | [], b => rfl
  | .str x :: r, b => by simp [txs, txs_app r b]
  | .none :: r, b => by simp [txs, txs_app r b]
  | .bool _ :: r, b => by simp [txs, txs_app r b]
  | .int _ :: r, b => by simp [txs, txs_app r b]
  | .list _ :: r, b => by simp [txs, txs_app r b]
  | .tuple _ :: r, b => by simp [txs, txs_app r b]
  | .dict _ :: r, b => by simp [txs, txs_app r b]
theorem txs_mem : ∀ (l : List PyData) (x : Str), x ∈ txs l ↔ .str x ∈ l
  | [], x => by simp [txs]
  | .str y :: r, x => by simp [txs, txs_mem r x]
  | .none :: r, x => by simp [txs, txs_mem r x]
  | .bool _ :: r, x => by simp [txs, txs_mem r x]
  | .int _ :: r, x => by simp [txs, txs_mem r x]
  | .list _ :: r, x => by simp [txs, txs_mem r x]
  | .tuple _ :: r, x => by simp [txs, txs_mem r x]
  | .dict _ :: r, x => by simp [txs, txs_mem r x]
theorem txs_len (l : List PyData) : (txs l).length ≤ l.length := by
  induction l with
  | nil => simp [txs]
  | cons d r ih => cases d <;> simp [txs] <;> omega
theorem nodup_len {α : Type} [DecidableEq α] : ∀ (l m : List α), l.Nodup → (∀ x ∈ l, x ∈ m) → l.length ≤ m.length
  | [], m, _, _ => Nat.zero_le _
  | a :: l, m, hn, h => by
    have hn' := List.nodup_cons.mp hn
    have ha := h a List.mem_cons_self
    have sub : ∀ x ∈ l, x ∈ m.erase a := fun x hx => (List.mem_erase_of_ne (fun e => hn'.1 (by rw [← e]; exact hx))).mpr (h x (List.mem_cons_of_mem _ hx))
    have := nodup_len l (m.erase a) hn'.2 sub
    rw [List.length_erase_of_mem ha] at this
    have := List.length_pos_of_mem ha
    rw [List.length_cons]
    omega
theorem lts_mem {d : PyData} (t : Tk d) (x : Str) : ((pre d).any fun e => decide (nk e = .text x)) = true ↔ .str x ∈ pre d := by
  rw [List.any_eq_true]
  constructor
  · rintro ⟨e, he, z⟩
    have := nk_text (Tk.pre t e he).kd (of_decide_eq_true z)
    rw [← this]; exact he
  · intro h
    exact ⟨_, h, decide_eq_true rfl⟩
theorem lts_sorted {d : PyData} (t : Tk d) {ys : List Str} (hs : sortedS ys = true) (hn : ys.Nodup) (hm : ∀ k, k ∈ ys ↔ k ∈ txs (pre d)) : ys = lts d := by
  have sub : ∀ y ∈ ys, y ∈ abc := fun y hy => by
    have h1 := (txs_mem _ _).mp ((hm y).mp hy)
    rcases (Tk.pre t _ h1).inv with ⟨x, e, hx⟩ | ⟨o, ds, e, _⟩
    · cases e; exact isL_abc hx
    · cases e
  rw [sorted_abc hs hn sub]
  unfold lts
  refine List.filter_congr fun x _ => ?_
  rw [Bool.eq_iff_iff, lts_mem t x, decide_eq_true_eq]
  exact (hm x).trans (txs_mem _ _)
section
variable {P : Program} {w : World} {K : PySem.W.Frag} {mg : Str → Option Value} {base : Heap} {CT : Addr}
theorem ok_lonce {f : Addr} {fd : FuncData} {k : Nat} (F : Fun K "_law_once" "_law_once" s_law_once f fd) : FnOk P w K mg base CX0 (k + 1) f fd ["_law_row"] (spOnce K) := by
  refine F.ok sc_law_once (fun vs H Q E h => ?_) (fun cdv A outer s H vs Q E hr h => ?_)
  · obtain ⟨r, xs, ds, rfl, _⟩ := h
    rfl
  · obtain ⟨r, xs, ds, rfl, hr0, hA, ht, hl, q⟩ := h
    refine ⟨_, (pss_cons (ps_set (i := 1) sc_law_once.nd rfl (by first | exact .inl rfl | exact .inr rfl) (pe_lst pa_nil))
      (pss_cons (ps_for PassesOwn.never rfl (pi_list (pv 0)) (pg_name (i := 2) sc_law_once.nd rfl (by first | exact .inl rfl | exact .inr rfl))
        (pss_one (ps_if (pt_cmpR (op_notInD (hu65 hr)) (pv 2) (pv 1) (by rfl))
          (pss_one (ps_expr (pe_bm PySem.F.plainAttrs_list PySem.F.slot_list_append PySem.F.type_list_append mt_append (pv 1) (pa_cons (pv 2) pa_nil))))
          pss_nil)))
      (pss_one (ps_ret (pv 1))))), ?_⟩
    refine ⟨Nat.zero_le _, fun l0 n0 => ?_⟩
    have hlx := dpAll_len hA
    refine ⟨_, rfl, r, rfl, ⟨xs, (same_upd n0).seq hr0⟩, for_list (xs := xs) (fun i σ H2 => ∃ (ys : List V) (o : Option V), σ = [some (.ref r), some (.ref l0), o] ∧ Same H H2 ∧ H2 l0 = some (.lst ys) ∧ DpAll K H2 ys (onceD (ds.take i))) ?_ ?_ ?_ ?_⟩
    · exact ⟨[], _, rfl, same_upd n0, upd_same, .nil⟩
    · rintro i σ H2 hi ⟨ys, o, rfl, sm, _⟩
      exact sm.seq hr0
    · rintro i x σ H2 hx ⟨ys, o, rfl, sm, hl0, hys⟩
      obtain ⟨d', hd', hD'⟩ := dpAll_get hA hx
      have md : d' ∈ ds := List.mem_of_getElem? hd'
      have tks : ∀ z ∈ onceD (ds.take i), Tk z := fun z hz => ht z (List.mem_of_mem_take (once_sub _ z hz))
      have ot := once_take hd'
      have lo := once_len (ds.take i)
      rw [List.length_take] at lo
      have ly := dpAll_len hys
      refine ⟨_, rfl, _, rfl, d', onceD (ds.take i), dp_same sm d' x hD', .lst (SqL.of hl0) hys, shaped_tk (ht d' md), shaped_list fun z hz => (tks z hz).gd, _, rfl, ?_⟩
      rw [any_eqv (fun z hz => (tks z hz).kd) (ht d' md).kd]
      refine ite2 (fun c => ?_) (fun c => ?_)
      · have c' : ¬ ((onceD (ds.take i)).any fun e => decide (nk e = nk d')) = true := by simpa using c
        refine ⟨_, rfl, .inl ⟨rfl, _, SqL.of hl0⟩, _, rfl, l0, ys, x, rfl, rfl, hl0, Nat.lt_of_le_of_lt (by omega : ys.length ≤ 1200) (by rw [sizeLine_eq]; decide), ?_⟩
        have sx : Same H (upd H2 l0 (.lst (ys ++ [x]))) := fun b o eb => by
          rw [upd_ne (ne_of_none eb n0)]
          exact sm b o eb
        have st : Stay H2 (upd H2 l0 (.lst (ys ++ [x]))) := stay_lst hl0
        refine ⟨ys ++ [x], _, rfl, sx, upd_same, ?_⟩
        rw [ot]
        unfold addD
        rw [if_neg c']
        exact dpAll_app (tkAll_stay st tks hys) (.cons (dp_same sx d' x hD') .nil)
      · have c' : ((onceD (ds.take i)).any fun e => decide (nk e = nk d')) = true := by simpa using c
        refine ⟨ys, _, rfl, sm, hl0, ?_⟩
        rw [ot]
        unfold addD
        rw [if_pos c']
        exact hys
    · rintro σ H2 ⟨ys, o, rfl, sm, hl0, hys⟩
      have et : ds.take xs.length = ds := List.take_of_length_le (by omega)
      rw [et] at hys
      exact ⟨_, rfl, q H2 l0 ys sm n0 hl0 hys⟩
theorem ok_lsigns {f : Addr} {fd : FuncData} {k : Nat} (F : Fun K "_law_signs_in" "_law_signs_in" s_law_signs_in f fd) (m_isinstance : mg "isinstance" = none) (m_str : mg "str" = none) (m_set : mg "set" = none) (m_sorted : mg "sorted" = none) (C_law_walk : Own P w K mg base k "_law_walk" ["_law_word"] (spLWalk K 10)) :
    FnOk P w K mg base CX0 (k + 1) f fd ["_law_word"] (spSignsIn K) := by
  refine F.ok sc_law_signs_in (fun vs H Q E h => ?_) (fun cdv A outer s H vs Q E hr h => ?_)
  · obtain ⟨v, d, rfl, _⟩ := h
    rfl
  · obtain ⟨v, d, rfl, hd, t, q⟩ := h
    refine ⟨_, (pss_one (ps_ret (pe_callB (cr_sortedSetT rfl) (by rfl) m_sorted (by decide +kernel) (pa_cons (pe_callTy (cr_setT rfl) (by rfl) m_set (by decide +kernel) (pa_cons (pe_lc (own := [("_law_one", 1)]) (g := gName 1) (by rfl) sc_law_signs_in.nd (pi_list (pe_own C_law_walk (hr.mono (by omega)) (by rfl) (pa_cons (pv 0) pa_nil))) (blkOk_by (own := [("_law_one", 1)]) (N := N_law_signs_in) (sc := defScope s_law_signs_in) (by decide +kernel)) (fun _ _ _ _ _ => pg_name (i := 1) sc_law_signs_in.nd rfl (Or.inl rfl)) (fun _ _ _ _ _ => pts_one (pt_val (pe_isDc (K := K) (T := "str") rfl (by rfl) m_isinstance (by rfl) m_str (pv 1)))) (fun _ _ _ _ _ => (pv 1))) pa_nil)) pa_nil)))), ?_⟩
    refine ⟨_, rfl, v, d, 9, rfl, hd, t, by decide, t.one, fun H1 p xs s1 np hp hA => ?_⟩
    have hl := dpAll_len hA
    have ps := pre_small t
    refine ⟨p, rfl, ⟨_, SqL.of hp⟩, fun D nD => lc_list (xs := xs) (fun i H2 => Same H1 H2 ∧ H2 D = some (.lst ((txs ((pre d).take i)).map V.str))) ?_ ?_ ?_ ?_⟩
    · exact ⟨same_upd nD, by rw [upd_same]; rfl⟩
    · rintro i H2 hi ⟨sm, e1⟩
      exact SqL.of (sm _ _ hp)
    · rintro i x H2 hx ⟨sm, e1⟩
      obtain ⟨d', hd', hD'⟩ := dpAll_get hA hx
      have md : d' ∈ pre d := List.mem_of_getElem? hd'
      have hD2 := dp_same sm d' x hD'
      have tl1 := txs_len ((pre d).take i)
      rw [List.length_take] at tl1
      refine ⟨rfl, _, rfl, _, _, d', rfl, by decide, hD2, _, rfl, ?_⟩
      rcases (Tk.pre t d' md).inv with ⟨y, rfl, _⟩ | ⟨o, ds, rfl, _⟩
      · cases hD2
        refine iteT ⟨_, rfl, _, e1, ?_, fun b o' eb => ?_, ?_⟩
        · rw [List.length_map]
          exact Nat.lt_of_le_of_lt (by omega : (txs ((pre d).take i)).length ≤ 1200) (by rw [sizeLine_eq]; decide)
        · rw [upd_ne (ne_of_none eb nD)]
          exact sm b o' eb
        · rw [upd_same, List.take_add_one, hd', txs_app]
          simp [txs]
      · refine iteF ⟨sm, ?_⟩
        rw [e1, List.take_add_one, hd', txs_app]
        simp [txs]
    · rintro H2 ⟨sm, e1⟩
      have et : (pre d).take xs.length = pre d := List.take_of_length_le (by omega)
      rw [et] at e1
      have tl1 := txs_len (pre d)
      refine ⟨D, txs (pre d), rfl, SqL.of e1, by omega, fun p2 np2 => ?_⟩
      refine ⟨p2, memT (txs (pre d)), _, rfl, upd_same, fun U nU hU => ?_, fun ys p3 hs hn hm np3 => ?_⟩
      · have sub : ∀ y ∈ U, y ∈ abc := fun y hy => by
          have h1 := (txs_mem _ _).mp (of_decide_eq_true (hU y hy))
          rcases (Tk.pre t _ h1).inv with ⟨x, e, hx⟩ | ⟨o, ds, e, _⟩
          · cases e; exact isL_abc hx
          · cases e
        have := nodup_len U abc nU sub
        exact Nat.lt_of_le_of_lt this (by decide)
      · have ey : ys = lts d := lts_sorted t hs hn fun k => by rw [hm k]; simp [memT]
        have sA := s1.trans (sm.trans (same_upd (o := SetTO P w p2 (memT (txs (pre d))) (txs (pre d)).length) np2))
        have sB := sA.trans (same_upd (o := .lst (ys.map V.str)) np3)
        refine q _ p3 sB (none_back sA np3) ?_
        rw [upd_same, ey]
end
end Fv


namespace Fv
open PySem PySem.Spec PyProof.Rows L2 GenW FvX FvD FvG FvB
/-- walk, drained at once -/
def spWalkG (K : PySem.W.Frag) (CT : Addr) : SpG := fun vs H cont E => ∃ (v : V) (d : PyData), vs = [v] ∧ Dp K H v d ∧ gd 20 d = true ∧ ((meas 9 d 600).isSome = true → ∀ (H' : Hp) (xs : List V), Same H H' → DpAll K H' xs (pre d) → cont xs H') ∧ (meas 9 d 600 = none → errAt CT "InvalidTerm" H E)
section
variable {P : Program} {w : World} {K : PySem.W.Frag} {mg : Str → Option Value} {base : Heap} {CT : Addr}
theorem ok_walkG {f : Addr} {fd : FuncData} {k : Nat} (F : Fun K "walk" "walk" s_walk f fd) (C_ml : OwnR P w K mg base k "measured_long" (spLong K CT)) (C_ic : Own P w K mg base k "is_compound" ["value"] (spIsCompound K)) :
    GFn P w K mg base (k + 1) f fd ["term"] (spWalkG K CT) := by
  obtain ⟨oc, od, kV, doc, pm, an, cdv, ct, osl, rfl, lk, hcd⟩ := F.ex
  refine gfn_of lk hcd sc_walk (fun vs H Q E h => ?_) (fun A outer s H vs cont E pn hr h => ?_)
  · obtain ⟨v, d, rfl, _⟩ := h
    rfl
  · obtain ⟨v, d, rfl, hd, hg, good, bad⟩ := h
    refine ⟨_, gss_cons (gs_ps (ps_expr (pe_ownR C_ml hr (by rfl) (passes_call takes_gcx fun _ _ _ _ h => h) (pa_cons (pv 0) pa_nil))))
      (gss_cons (gs_ps (ps_set (i := 1) sc_walk.nd rfl (.inl rfl) (pe_lst (pa_cons (pv 0) pa_nil))))
      (gss_cons (gs_while owns_gcx (pt_truth (pv 1) (fun _ => rfl)) (gss_cons (gs_ps (ps_set (i := 2) sc_walk.nd rfl (.inl rfl) (pe_bm0 PySem.F.plainAttrs_list PySem.F.slot_list_pop PySem.F.type_list_pop mt_pop (pv 1))))
        (gss_cons (gs_yield (pv 2)) (gss_cons (gs_ps (ps_if (pt_val (pe_own C_ic hr (by rfl) (pa_cons (pv 2) pa_nil))) (pss_one (ps_expr (pe_bm PySem.F.plainAttrs_list PySem.F.slot_list_extend PySem.F.type_list_extend mt_extendT (pv 1) (pa_cons (pe_backT (pv 2)) pa_nil)))) pss_nil)) gss_nil)))) gss_nil)), ?_⟩
    refine ⟨_, rfl, v, d, rfl, hd, hg, fun dp sz e H1 p s1 hp => ?_, bad⟩
    have hm : (meas 9 d 600).isSome = true := by rw [e]; rfl
    have t := tk_of hm hg
    have pl := pre_small t
    refine ⟨_, rfl, by show 1 ≤ sizeLine; decide, fun W nW => ?_⟩
    have s2 := same_upd (o := .lst [v]) nW
    refine ⟨fun m ys σ H2 => ∃ (fx : Option V) (vs : List V) (dvs : List PyData), σ = [some v, some (.ref W), fx] ∧ Same H1 (hide [W] H2) ∧ H2 W = some (.lst vs) ∧ DpAll K H2 vs dvs ∧ (∀ x ∈ dvs, Tk x) ∧ dvs.reverse.flatMap pre = (pre d).drop ys.length ∧ DpAll K H2 ys ((pre d).take ys.length) ∧ m = (pre d).length - ys.length ∧ ys.length ≤ (pre d).length,
      ⟨_, none, [v], [d], rfl, ?_, upd_same, .cons (dp_same s2 d v (dp_same s1 d v hd)) .nil, ?_, ?_, .nil, rfl, Nat.zero_le _⟩, ?_⟩
    · intro b o eb
      have ne : b ≠ W := ne_of_none eb nW
      rw [hide_ne (fun z => ne (List.mem_singleton.mp z)), upd_ne ne]
      exact eb
    · intro x hx
      rw [List.mem_singleton.mp hx]
      exact t
    · simp
    rintro m ys σ H2 ⟨fx, vs, dvs, rfl, sm, hW, hv, ht, hf, hys, rfl, hle⟩
    have sm' : Same H1 H2 := sm.trans hide_same
    refine ⟨_, rfl, _, .inl ⟨vs, SqL.of hW, rfl⟩, ?_⟩
    by_cases ne : dvs = []
    · subst ne
      cases hv
      have z : (pre d).drop ys.length = [] := hf.symm
      have le := List.drop_eq_nil_iff.mp z
      have el : ys.length = (pre d).length := by omega
      rw [el, List.take_length] at hys
      rw [if_neg (by simp)]
      exact good hm H2 ys (s1.trans sm') hys
    · obtain ⟨dvs', dx, rfl⟩ : ∃ l x, dvs = l ++ [x] := ⟨dvs.dropLast, dvs.getLast ne, (List.dropLast_concat_getLast ne).symm⟩
      obtain ⟨us, x, rfl, hus, hx⟩ := dpAll_snoc hv
      have tx : Tk dx := ht dx (List.mem_append_right _ (List.mem_singleton.mpr rfl))
      have tus : ∀ y ∈ dvs', Tk y := fun y hy => ht y (List.mem_append_left _ hy)
      have hflat : (pre d).drop ys.length = pre dx ++ dvs'.reverse.flatMap pre := by
        rw [← hf, List.reverse_append, List.reverse_singleton, List.singleton_append, List.flatMap_cons]
      have hlt : ys.length < (pre d).length := by
        have z := congrArg List.length hflat
        rw [List.length_append, List.length_drop, pre_eq dx, List.length_cons] at z
        omega
      have hit : (pre d)[ys.length]? = some dx := by
        have z : ((pre d).drop ys.length)[0]? = some dx := by rw [hflat, pre_eq dx]; rfl
        rw [List.getElem?_drop, Nat.add_zero] at z
        exact z
      have hrest : (pre d).drop (ys.length + 1) = (if isCd dx = true then (parts dx).flatMap pre else []) ++ dvs'.reverse.flatMap pre := by
        have z : (pre d).drop (ys.length + 1) = ((pre d).drop ys.length).drop 1 := by rw [List.drop_drop]
        rw [z, hflat, pre_eq dx]
        rfl
      rw [if_pos (by simp)]
      have last : (us ++ [x])[(us ++ [x]).length - 1]? = some x := by simp
      refine ⟨fun ys' σ' H' => ∃ (vs' : List V) (dvs2 : List PyData), σ' = [some v, some (.ref W), some x] ∧ ys' = ys ++ [x] ∧ Same H1 (hide [W] H') ∧ H' W = some (.lst vs') ∧ DpAll K H' vs' dvs2 ∧ (∀ y ∈ dvs2, Tk y) ∧ dvs2.reverse.flatMap pre = (pre d).drop (ys.length + 1) ∧ DpAll K H' ys' ((pre d).take (ys.length + 1)), ?_, ?_⟩
      · rintro ys' σ' H' ⟨vs', dvs2, rfl, rfl, q1, q2, q3, q4, q5, q6⟩
        refine ⟨(pre d).length - (ys.length + 1), by omega, some x, vs', dvs2, rfl, q1, q2, q3, q4, ?_, ?_, ?_, ?_⟩
        · rw [List.length_append, List.length_singleton]; exact q5
        · rw [List.length_append, List.length_singleton]; exact q6
        · rw [List.length_append, List.length_singleton]
        · rw [List.length_append, List.length_singleton]; omega
      · refine ⟨_, rfl, .inl ⟨rfl, _, SqL.of hW⟩, W, us ++ [x], x, rfl, rfl, hW, last, ?_⟩
        rw [List.dropLast_concat]
        have st1 : Stay H2 (upd H2 W (.lst us)) := stay_lst hW
        have hx1 := kdp_stay st1 8 dx x tx.kd hx
        have hus1 := tkAll_stay st1 tus hus
        have typ : ∀ y ∈ (pre d).take ys.length, Tk y := fun y hy => Tk.pre t y (List.mem_of_mem_take hy)
        have hys1 : DpAll K (upd H2 W (.lst us)) (ys ++ [x]) ((pre d).take (ys.length + 1)) := by
          rw [List.take_add_one, hit]
          exact dpAll_app (tkAll_stay st1 typ hys) (.cons hx1 .nil)
        have typ1 : ∀ y ∈ (pre d).take (ys.length + 1), Tk y := fun y hy => Tk.pre t y (List.mem_of_mem_take hy)
        have sm1 : Same H1 (hide [W] (upd H2 W (.lst us))) := fun b o eb => by
          have q := sm b o eb
          obtain ⟨m1, q1⟩ := hide_some q
          rw [hide_ne m1, upd_ne (fun z => m1 (List.mem_singleton.mpr z))]
          exact q1
        refine ⟨Nat.lt_of_lt_of_le hlt (Nat.le_trans pl (by rw [sizeLine_eq]; decide)), _, rfl, ?_⟩
        refine ⟨_, rfl, x, dx, rfl, hx1, tx.gd, _, rfl, ?_⟩
        refine ite2 (fun c => ?_) (fun c => ?_)
        · have c' : isCd dx = true := c
          rcases tx.inv with ⟨z, rfl, _⟩ | ⟨o, ds, rfl, _, h2, tds, _⟩
          · cases c'
          cases hx1 with
          | @tup ay xs _ hs ha =>
            cases ha with
            | @cons v0 vr _ _ h0 hr' =>
              refine ⟨_, rfl, .inl ⟨rfl, _, SqL.of upd_same⟩, _, rfl, ay, v0, vr, rfl, hs, fun p2 np => ?_⟩
              have lv : vr.length = ds.length := dpAll_len hr'
              have z := congrArg List.length hrest
              rw [if_pos c, List.length_append, List.length_drop] at z
              have z2 : ((parts (.tuple (.str o :: ds))).flatMap pre).length = (ds.flatMap pre).length := rfl
              have z1 := flat_len ds
              have z3 := flat_len dvs'.reverse
              rw [List.length_reverse] at z3
              have z4 := dpAll_len hus1
              have Wp : W ≠ p2 := ne_of_none upd_same np
              refine ⟨W, p2, us, vr.reverse, rfl, rfl, by rw [upd_ne Wp, upd_same], SqT.of upd_same, ?_, ?_⟩
              · rw [List.length_reverse, lv]
                exact Nat.le_trans (by omega : us.length + ds.length ≤ 2400) (by rw [sizeLine_eq]; decide)
              have sa : Stay (upd H2 W (.lst us)) (upd (upd H2 W (.lst us)) p2 (.tup vr.reverse)) := stay_new np
              have sb : Stay (upd (upd H2 W (.lst us)) p2 (.tup vr.reverse)) (upd (upd (upd H2 W (.lst us)) p2 (.tup vr.reverse)) W (.lst (us ++ vr.reverse))) := stay_lst (by rw [upd_ne Wp, upd_same])
              have st := sa.trans sb
              refine ⟨us ++ vr.reverse, dvs' ++ ds.reverse, rfl, rfl, fun b o' eb => ?_, upd_same, dpAll_app (tkAll_stay st tus hus1) (tkAll_stay st (fun y hy => tds y (List.mem_reverse.mp hy)) (dpAll_rev hr')), fun y hy => ?_, ?_, tkAll_stay st typ1 hys1⟩
              · obtain ⟨m1, q1⟩ := hide_some (sm1 b o' eb)
                have bW : b ≠ W := fun z => m1 (List.mem_singleton.mpr z)
                rw [hide_ne m1, upd_ne bW, upd_ne (ne_of_none q1 np)]
                exact q1
              · rcases List.mem_append.mp hy with z | z
                · exact tus y z
                · exact tds y (List.mem_reverse.mp z)
              · rw [hrest, if_pos c, List.reverse_append, List.reverse_reverse, List.flatMap_append]
                rfl
        · have c' : isCd dx = false := Bool.eq_false_iff.mpr c
          refine ⟨us, dvs', rfl, rfl, sm1, upd_same, hus1, tus, ?_, hys1⟩
          rw [hrest, c']
          rfl
end
end Fv


namespace Fv
open PySem PySem.Spec PyProof.Rows L2 GenW FvX FvD FvG FvB TL
-- top 40  slots: 0:_law_script 1:_law_source_here 2:_law_turn 3:_law_word 4:_law_found 5:_law_every 6:_law_odd_here 7:_law_asks 8:_law_wide
abbrev s_law : Stmt := topS 40
abbrev N_law : List Str := ["_law_script", "_law_source_here", "_law_turn", "_law_word", "_law_found", "_law_every", "_law_odd_here", "_law_asks", "_law_wide"]
theorem sc_law : FnScope N_law ["_law_script"] (defScope s_law) := ⟨rfl, rfl, rfl, by decide +kernel, rfl, by decide +kernel, by decide +kernel⟩

theorem lmeas_up9 {n : Nat} {d : PyData} (h : 1 ≤ lmeas n d) {m : Nat} (hm : n ≤ m) : lmeas m d = lmeas n d := by
  induction hm with
  | refl => rfl
  | step _ ih => rw [lmeas_up _ _ (by rw [ih]; exact h), ih]
theorem nest8 : ∀ n, n < 8 → 1 ≤ lmeas 8 (nestD n) ∧ lmeas 8 (nestD n) ≤ 9 := by decide +kernel
theorem vs1' {i : Int} {n : Nat} (h : i = (n : Nat)) : [V.int i] = [V.int (n : Nat)] := by rw [h]
theorem gd_tnd : ∀ (n m : Nat) (d : PyData), gd m d = true → 1 ≤ lmeas n d → gd m (tnd n d) = true
  | 0, _, d, _, h => by simp only [lmeas] at h; omega
  | n + 1, m, d, hg, h => by
    rcases lmeas_inv h with ⟨x, rfl, hx⟩ | ⟨o, ds, rfl, _, ho, h2, all1, e⟩
    · exact hg
    · cases m with
      | zero => simp [gd] at hg
      | succ m =>
        obtain ⟨hl, all⟩ := gd_tuple hg
        show gd (m + 1) (.tuple (.str (opT o) :: ds.map (tnd n))) = true
        refine gd_tup (fun y hy => ?_) (by simpa using hl)
        rcases List.mem_cons.mp hy with z | z
        · rw [z]
          refine gd_le (n := 0) ?_ (Nat.zero_le _)
          rcases ho with ho | ho <;> subst ho <;> decide +kernel
        · obtain ⟨d', hd', rfl⟩ := List.mem_map.mp z
          exact gd_tnd n m d' (all d' (List.mem_cons_of_mem _ hd')) (all1 d' hd')
theorem dpAll_txt {K : PySem.W.Frag} {H : Hp} : ∀ xs : List Str, DpAll K H (xs.map V.str) (xs.map PyData.str)
  | [] => .nil
  | x :: r => .cons (.str x) (dpAll_txt r)
theorem lts_gd (d : PyData) : gd 1 (.list ((lts d).map PyData.str)) = true := by
  refine gd_lst (n := 0) (fun z hz => ?_) ?_
  · obtain ⟨x, hx, rfl⟩ := List.mem_map.mp hz
    have all : ∀ x ∈ abc, gd 0 (.str x) = true := by decide +kernel
    exact all x (List.mem_filter.mp hx).1
  · rw [List.length_map]
    have h : (lts d).length ≤ abc.length := List.length_filter_le _ _
    have h8 : abc.length = 8 := rfl
    omega
theorem dpt_ldp {d : PyData} (h : (meas 9 d 600).isSome = true) : dpt d = ldp 9 d := by
  rcases meas_iff 9 d 600 with ⟨e, _⟩ | ⟨dp, e, _⟩
  · rw [e] at h; cases h
  · have := meas_dp 9 d 600 dp _ e
    unfold dpt
    rw [e]
    exact this
def badT : PyData := .tuple [.none, .str "InvalidTerm"]
/-- one that is no term, asked -/
theorem lg_bad {K : PySem.W.Frag} {CT CF : Addr} {H : Hp} {M : List Addr} {Q : VK} {tl : XK → Hp → VK → Prop} (tM : Trk M H) (exm : PySem.W.exmOne K (.ref CT) (.ref CF) = some true) (xf : XfC K CT) (fnd : PySem.W.findIn K (.ref CT) "code" = some none)
    (htl : ∀ R E, errAt CT "InvalidTerm" H E → tl E H R) (fin : ∀ p H', Same H H' → Dp K (hide M H') (.ref p) badT → Q (.ref p) H') : TCall K CF tl H Q :=
  fun R E hR hE => htl R E fun H1 dd s1 hdd => hE CT dd H1 _ _ exm xf fnd hdd rfl fun p np => by
    have s2 := same_upd (o := .tup [.non, .str "InvalidTerm"]) np
    exact fin p _ (s1.trans s2) (.tup (SqT.of (hid_at (tM.same s1) np)) (.cons .non (.cons (.str _) .nil)))
def wideD : PyData := .tuple (.str "|" :: (List.replicate 600 ("a" : Str)).map PyData.str)
theorem wide_meas : lmeas 9 wideD = 600 ∧ gd 20 wideD = true := by decide +kernel
theorem wide_more : lmeas 9 (.tuple [.str "&", .str "a", wideD]) = 601 ∧ gd 20 (.tuple [.str "&", .str "a", wideD]) = true := by decide +kernel
section
variable {P : Program} {w : World} {K : PySem.W.Frag} {mg : Str → Option Value} {base : Heap} {CT CF : Addr}
set_option maxHeartbeats 1600000 in
theorem ok_law {f c Pt gcall fw : Addr} {fdw : FuncData} {oc oc2 : Value} {od an od2 an2 : Option Addr} {osl osl2 : Array (Option Value)} {kW doc pm ct kW2 doc2 pm2 cdv2 ct2 : Value} {k : Nat} (hk : 32 ≤ k)
    (lk : K.lookup f = some ⟨oc, od, .func (PySem.W.fnOf "law" "law" (defArgs s_law) (defBody s_law) (defScope s_law) .none kW doc pm an (.ref c) ct), osl⟩) (hcd : PySem.W.codeIn K (.ref c) "law" = true) (TB : LamX.TabB base mg c Pt)
    (m_range : mg "range" = none) (m_list : mg "list" = none) (m_tuple : mg "tuple" = none)
    (l_call : K.lookup gcall = some ⟨oc2, od2, .func (PySem.W.fnOf "_law_call" "_law_call" (defArgs s_law_call) (defBody s_law_call) (defScope s_law_call) .none kW2 doc2 pm2 an2 cdv2 ct2), osl2⟩) (c_call : PySem.W.codeIn K cdv2 "_law_call" = true) (k_call : PySem.W.keepIn K (.ref gcall) = true) (g_call : mg "_law_call" = some (.ref gcall))
    (b_call : Binds K (PySem.W.fnOf "_law_call" "_law_call" (defArgs s_law_call) (defBody s_law_call) (defScope s_law_call) .none kW2 doc2 pm2 an2 cdv2 ct2) ["_law_ask"] []) (g_FE : mg "FaultError" = some (.ref CF))
    (exm : PySem.W.exmOne K (.ref CT) (.ref CF) = some true) (xf : XfC K CT) (fnd : PySem.W.findIn K (.ref CT) "code" = some none) (hstop : PySem.W.subIn K (.ref CT) (.type "StopIteration") = some false)
    (C_law_source : Own P w K mg base 1 "_law_source" ["_law_script"] (spSource K))
    (C_law_take : Own P w K mg base 1 "_law_take" ["_law_source_here", "_law_many"] spTake)
    (C_law_any_term : Own P w K mg base 8 "_law_any_term" ["_law_source_here"] (spAnyTerm K))
    (C_law_nest : Own P w K mg base 1 "_law_nest" ["_law_many"] (spNest K))
    (C_law_odd : Own P w K mg base 3 "_law_odd" ["_law_source_here", "_law_word"] (spOddN K))
    (C_law_same : Own P w K mg base 25 "_law_same" ["_law_found", "_law_due"] (spSame K 25))
    (C_law_walk : Own P w K mg base 12 "_law_walk" ["_law_word"] (spLWalk K 10))
    (C_law_deep : Own P w K mg base 12 "_law_deep" ["_law_word"] (spDeep K 10))
    (C_law_leaves : Own P w K mg base 10 "_law_leaves" ["_law_word"] (spLeaves K 10))
    (C_law_signs_in : Own P w K mg base 13 "_law_signs_in" ["_law_word"] (spSignsIn K))
    (C_law_once : Own P w K mg base 1 "_law_once" ["_law_row"] (spOnce K))
    (C_law_turned : Own P w K mg base 10 "_law_turned" ["_law_word"] (spTnd K 10))
    (C_depth : OwnR P w K mg base 27 "depth" (spLg K CT (gInt dpt))) (K_depth : OwnKR P w K mg base 27 "depth" ["term"] ["term"] (fun vs zs => vs ++ zs) (spLg K CT (gInt dpt)))
    (C_size : OwnR P w K mg base 27 "size" (spLg K CT (gInt (lmeas 9)))) (K_size : OwnKR P w K mg base 27 "size" ["term"] ["term"] (fun vs zs => vs ++ zs) (spLg K CT (gInt (lmeas 9))))
    (C_letters : OwnR P w K mg base 27 "letters" (spLg K CT fun _ d H Q => newLt (lts d) H Q)) (K_letters : OwnKR P w K mg base 27 "letters" ["term"] ["term"] (fun vs zs => vs ++ zs) (spLg K CT fun _ d H Q => newLt (lts d) H Q))
    (C_subterms : OwnR P w K mg base 27 "subterms" (spLg K CT (gSubt K))) (K_subterms : OwnKR P w K mg base 27 "subterms" ["term"] ["term"] (fun vs zs => vs ++ zs) (spLg K CT (gSubt K)))
    (C_turned : OwnR P w K mg base 27 "turned" (spLg K CT (gTnd K)))
    (G_walk : GFn P w K mg base 23 fw fdw ["term"] (spWalkG K CT)) (g_walk : mg "walk" = some (.ref fw)) (k_walk : PySem.W.keepIn K (.ref fw) = true) (b_walk : Binds K fdw ["term"] []) :
    FnOk P w K mg base CX0 (k + 1) f (PySem.W.fnOf "law" "law" (defArgs s_law) (defBody s_law) (defScope s_law) .none kW doc pm an (.ref c) ct) ["_law_script"] (spLawT K Pt) := by
  refine okC lk hcd sc_law (fun vs H Q E h => ?_) (fun A outer s H vs Q E hr h => ?_)
  · obtain ⟨a, ns, rfl, _⟩ := h
    rfl
  · obtain ⟨sc, ns, rfl, hS, h63, hPt, q⟩ := h
    refine ⟨_, (pss_cons (ps_set (i := 1) sc_law.nd rfl (by first | exact .inl rfl | exact .inr rfl) (pe_own C_law_source (hr.mono (by omega)) (by rfl) (pa_cons (pv 0) pa_nil)))
      (pss_cons (ps_for PassesOwn.never rfl (pi_range1 (by rfl) m_range (pa_cons pe_int pa_nil)) (pg_name (i := 2) sc_law.nd rfl (by first | exact .inl rfl | exact .inr rfl))
        (pss_cons (ps_set (i := 3) sc_law.nd rfl (by first | exact .inl rfl | exact .inr rfl) (pe_own C_law_any_term (hr.mono (by omega)) (by rfl) (pa_cons (pv 1) pa_nil)))
        (C8.pss_cut (ps_if (pt_cmpR op_eq (pe_own C_law_take (hr.mono (by omega)) (by rfl) (pa_cons (pv 1) (pa_cons pe_int pa_nil))) pe_int (nomark _))
          (pss_one (ps_set (i := 3) sc_law.nd rfl (by first | exact .inl rfl | exact .inr rfl) (pe_tup (pa_cons pe_str (pa_cons (pv 3) (pa_cons (pe_own C_law_nest (hr.mono (by omega)) (by rfl) (pa_cons (pe_own C_law_take (hr.mono (by omega)) (by rfl) (pa_cons (pv 1) (pa_cons pe_int pa_nil))) pa_nil)) pa_nil))))))
          pss_nil)
        (pss_cons (ps_set (i := 4) sc_law.nd rfl (by first | exact .inl rfl | exact .inr rfl) (pe_lst (pa_cons (pe_ownR C_depth (hr.mono (by omega)) (by rfl) passE0 (pa_cons (pv 3) pa_nil)) (pa_cons (pe_ownR C_size (hr.mono (by omega)) (by rfl) passE0 (pa_cons (pv 3) pa_nil)) (pa_cons (pe_ownR C_letters (hr.mono (by omega)) (by rfl) passE0 (pa_cons (pv 3) pa_nil)) (pa_cons (pe_listG (E := E0) (pgen_call G_walk (hr.mono (by omega)) (by rfl) g_walk k_walk b_walk .nil (pa_cons (pv 3) pa_nil)) passE0 (fun _ _ _ h => h.elim) (hr.mono (by omega)) (by rfl) m_list (by decide +kernel)) (pa_cons (pe_ownR C_subterms (hr.mono (by omega)) (by rfl) passE0 (pa_cons (pv 3) pa_nil)) pa_nil)))))))
        (pss_cons (ps_set (i := 5) sc_law.nd rfl (by first | exact .inl rfl | exact .inr rfl) (pe_own C_law_walk (hr.mono (by omega)) (by rfl) (pa_cons (pv 3) pa_nil)))
        (pss_cons (ps_if (pt_not (pt_val (pe_own C_law_same (hr.mono (by omega)) (by rfl) (pa_cons (pe_ownR C_turned (hr.mono (by omega)) (by rfl) passE0 (pa_cons (pv 3) pa_nil)) (pa_cons (pe_own C_law_turned (hr.mono (by omega)) (by rfl) (pa_cons (pv 3) pa_nil)) pa_nil)))))
          (pss_one (ps_ret pe_bl))
          pss_nil)
        (pss_cons (ps_if (pt_not (pt_val (pe_own C_law_same (hr.mono (by omega)) (by rfl) (pa_cons (pv 4) (pa_cons (pe_lst (pa_cons (pe_own C_law_deep (hr.mono (by omega)) (by rfl) (pa_cons (pv 3) pa_nil)) (pa_cons (pe_own C_law_leaves (hr.mono (by omega)) (by rfl) (pa_cons (pv 3) pa_nil)) (pa_cons (pe_own C_law_signs_in (hr.mono (by omega)) (by rfl) (pa_cons (pv 3) pa_nil)) (pa_cons (pv 5) (pa_cons (pe_own C_law_once (hr.mono (by omega)) (by rfl) (pa_cons (pv 5) pa_nil)) pa_nil)))))) pa_nil)))))
          (pss_one (ps_ret pe_bl))
          pss_nil)
        (pss_cons (ps_expr (pe_bm PySem.F.plainAttrs_list PySem.F.slot_list_append PySem.F.type_list_append mt_append (pe_ix ix_list (pv 4) pe_int (fun _ _ => rfl)) (pa_cons pe_str pa_nil)))
        (pss_cons (ps_expr (pe_bm0 PySem.F.plainAttrs_list PySem.F.slot_list_clear PySem.F.type_list_clear mt_clear (pe_ix ix_list (pv 4) pe_int (fun _ _ => rfl))))
        (pss_cons (ps_if (pt_not (pt_val (pe_own C_law_same (hr.mono (by omega)) (by rfl) (pa_cons (pe_lst (pa_cons (pe_ownKR0 K_depth (hr.mono (by omega)) (by rfl) passE0 (pk_cons (pv 3) pk_nil)) (pa_cons (pe_ownKR0 K_size (hr.mono (by omega)) (by rfl) passE0 (pk_cons (pv 3) pk_nil)) pa_nil))) (pa_cons (pe_lst (pa_cons (pe_own C_law_deep (hr.mono (by omega)) (by rfl) (pa_cons (pv 3) pa_nil)) (pa_cons (pe_own C_law_leaves (hr.mono (by omega)) (by rfl) (pa_cons (pv 3) pa_nil)) pa_nil))) pa_nil)))))
          (pss_one (ps_ret pe_bl))
          pss_nil)
        (pss_cons (ps_if (pt_not (pt_val (pe_own C_law_same (hr.mono (by omega)) (by rfl) (pa_cons (pe_lst (pa_cons (pe_ownKR0 K_letters (hr.mono (by omega)) (by rfl) passE0 (pk_cons (pv 3) pk_nil)) (pa_cons (pe_ownKR0 K_subterms (hr.mono (by omega)) (by rfl) passE0 (pk_cons (pv 3) pk_nil)) pa_nil))) (pa_cons (pe_lst (pa_cons (pe_own C_law_signs_in (hr.mono (by omega)) (by rfl) (pa_cons (pv 3) pa_nil)) (pa_cons (pe_own C_law_once (hr.mono (by omega)) (by rfl) (pa_cons (pv 5) pa_nil)) pa_nil))) pa_nil)))))
          (pss_one (ps_ret pe_bl))
          pss_nil)
        (pss_cons (ps_set (i := 6) sc_law.nd rfl (by first | exact .inl rfl | exact .inr rfl) (pe_own C_law_odd (hr.mono (by omega)) (by rfl) (pa_cons (pv 1) (pa_cons (pv 3) pa_nil))))
        (pss_cons (ps_set (i := 7) sc_law.nd rfl (by first | exact .inl rfl | exact .inr rfl) (pe_lst (pa_cons (pe_lamS (T := TT0 Pt) (TT := TCall K CF) (Ng := N_law_call) (k := 30) (by rfl) g_call k_call l_call c_call b_call sc_law_call rfl (.inl rfl) (call_gives g_FE) TB rfl (List.mem_singleton.mpr rfl) (fun p hp _ => by rw [List.mem_singleton.mp hp]; rfl) (hr.mono (by omega)) (LamX.lamS_by (sc := defScope s_law) (by decide +kernel)) rfl (fun _ _ _ _ _ => rfl) (fun A outer s H E lf lc hr2 => pe_ownR C_depth (hr2.mono (by omega)) (by rfl) (passes_call (takes_of rfl rfl rfl rfl) (fun _ _ _ _ h => h)) (pa_cons (pv 6) pa_nil))) (pa_cons (pe_lamS (T := TT0 Pt) (TT := TCall K CF) (Ng := N_law_call) (k := 30) (by rfl) g_call k_call l_call c_call b_call sc_law_call rfl (.inl rfl) (call_gives g_FE) TB rfl (List.mem_singleton.mpr rfl) (fun p hp _ => by rw [List.mem_singleton.mp hp]; rfl) (hr.mono (by omega)) (LamX.lamS_by (sc := defScope s_law) (by decide +kernel)) rfl (fun _ _ _ _ _ => rfl) (fun A outer s H E lf lc hr2 => pe_ownR C_size (hr2.mono (by omega)) (by rfl) (passes_call (takes_of rfl rfl rfl rfl) (fun _ _ _ _ h => h)) (pa_cons (pv 6) pa_nil))) (pa_cons (pe_lamS (T := TT0 Pt) (TT := TCall K CF) (Ng := N_law_call) (k := 30) (by rfl) g_call k_call l_call c_call b_call sc_law_call rfl (.inl rfl) (call_gives g_FE) TB rfl (List.mem_singleton.mpr rfl) (fun p hp _ => by rw [List.mem_singleton.mp hp]; rfl) (hr.mono (by omega)) (LamX.lamS_by (sc := defScope s_law) (by decide +kernel)) rfl (fun _ _ _ _ _ => rfl) (fun A outer s H E lf lc hr2 => pe_ownR C_letters (hr2.mono (by omega)) (by rfl) (passes_call (takes_of rfl rfl rfl rfl) (fun _ _ _ _ h => h)) (pa_cons (pv 6) pa_nil))) pa_nil)))))
        (pss_cons (ps_set (i := 7) sc_law.nd rfl (by first | exact .inl rfl | exact .inr rfl) (pe_op op_cat (pv 7) (pe_lst (pa_cons (pe_lamS (T := TT0 Pt) (TT := TCall K CF) (Ng := N_law_call) (k := 30) (by rfl) g_call k_call l_call c_call b_call sc_law_call rfl (.inl rfl) (call_gives g_FE) TB rfl (List.mem_singleton.mpr rfl) (fun p hp _ => by rw [List.mem_singleton.mp hp]; rfl) (hr.mono (by omega)) (LamX.lamS_by (sc := defScope s_law) (by decide +kernel)) rfl (fun _ _ _ _ _ => rfl) (fun A outer s H E lf lc hr2 => pe_listG (E := fun cls d H2 => cls = .ref CT ∧ E cls d H2) (pgen_call G_walk (hr2.mono (by omega)) (by rfl) g_walk k_walk b_walk .nil (pa_cons (pv 6) pa_nil)) (passes_call (takes_of rfl rfl rfl rfl) (fun _ _ _ _ h => h.2)) (fun cls d H2 h => by rw [h.1]; exact hstop) (hr2.mono (by omega)) (by rfl) m_list (by decide +kernel))) (pa_cons (pe_lamS (T := TT0 Pt) (TT := TCall K CF) (Ng := N_law_call) (k := 30) (by rfl) g_call k_call l_call c_call b_call sc_law_call rfl (.inl rfl) (call_gives g_FE) TB rfl (List.mem_singleton.mpr rfl) (fun p hp _ => by rw [List.mem_singleton.mp hp]; rfl) (hr.mono (by omega)) (LamX.lamS_by (sc := defScope s_law) (by decide +kernel)) rfl (fun _ _ _ _ _ => rfl) (fun A outer s H E lf lc hr2 => pe_ownR C_subterms (hr2.mono (by omega)) (by rfl) (passes_call (takes_of rfl rfl rfl rfl) (fun _ _ _ _ h => h)) (pa_cons (pv 6) pa_nil))) (pa_cons (pe_lamS (T := TT0 Pt) (TT := TCall K CF) (Ng := N_law_call) (k := 30) (by rfl) g_call k_call l_call c_call b_call sc_law_call rfl (.inl rfl) (call_gives g_FE) TB rfl (List.mem_singleton.mpr rfl) (fun p hp _ => by rw [List.mem_singleton.mp hp]; rfl) (hr.mono (by omega)) (LamX.lamS_by (sc := defScope s_law) (by decide +kernel)) rfl (fun _ _ _ _ _ => rfl) (fun A outer s H E lf lc hr2 => pe_ownR C_turned (hr2.mono (by omega)) (by rfl) (passes_call (takes_of rfl rfl rfl rfl) (fun _ _ _ _ h => h)) (pa_cons (pv 6) pa_nil))) pa_nil))))))
        (pss_one (ps_if (pt_cmpR (op_neD hr.units) (pv 7) (pe_op op_rep (pe_lst (pa_cons (pe_tup (pa_cons pe_non (pa_cons pe_str pa_nil))) pa_nil)) pe_int) (nomark _))
          (pss_one (ps_ret pe_bl))
          pss_nil))))))))))))))))
      (pss_cons (ps_set (i := 8) sc_law.nd rfl (by first | exact .inl rfl | exact .inr rfl) (pe_callTy call_tuple_of (by rfl) m_tuple (by decide +kernel) (pa_cons (pe_op op_cat (pe_lst (pa_cons pe_str pa_nil)) (pe_op op_rep (pe_lst (pa_cons pe_str pa_nil)) pe_int)) pa_nil)))
      (pss_one (ps_ret (pe_and (pe_cmpR op_eq (pe_ownR C_size (hr.mono (by omega)) (by rfl) passE0 (pa_cons (pv 8) pa_nil)) pe_int (nomark _)) (pe_one (pe_cmpR (op_eqD hr.units) (pe_lamS (T := TT0 Pt) (TT := TCall K CF) (Ng := N_law_call) (k := 30) (by rfl) g_call k_call l_call c_call b_call sc_law_call rfl (.inl rfl) (call_gives g_FE) TB rfl (List.mem_singleton.mpr rfl) (fun p hp _ => by rw [List.mem_singleton.mp hp]; rfl) (hr.mono (by omega)) (LamX.lamS_by (sc := defScope s_law) (by decide +kernel)) rfl (fun _ _ _ _ _ => rfl) (fun A outer s H E lf lc hr2 => pe_ownR C_size (hr2.mono (by omega)) (by rfl) (passes_call (takes_of rfl rfl rfl rfl) (fun _ _ _ _ h => h)) (pa_cons (pe_tup (pa_cons pe_str (pa_cons pe_str (pa_cons (pv 8) pa_nil)))) pa_nil))) (pe_tup (pa_cons pe_non (pa_cons pe_str pa_nil))) (nomark _))))))))), ?_⟩
    have tab0 : LamX.Tabs (TT0 Pt) H := fun p hp => by
      rw [List.mem_singleton.mp hp]
      exact LamX.TabS.nil hPt
    refine ⟨_, rfl, sc, ns, rfl, hS, h63, fun H0 a L s0 na nL hs0 => ?_⟩
    have ma : ∀ {a : Addr}, a ∈ [a] := List.mem_singleton.mpr rfl
    have nn : ∀ {α : Option (Int × Int)}, α.isSome = true → α = none → False := fun {α} h e => by rw [e] at h; cases h
    have u : ∀ {H : Hp} {v : V} {d : PyData}, Dp K (hide [a] H) v d → Dp K H v d := fun h => dp_same hide_same _ _ h
    refine ⟨5, rfl, by decide, by decide, for_range (lo := 0) (n := (5 : Int).toNat) (fun i σ Hi => ∃ y2 y3 y4 y5 y6 y7 : Option V, σ = [some (.ref sc), some (.ref a), y2, y3, y4, y5, y6, y7, none] ∧ Src Hi a L ns ∧ LamX.Tabs (TT0 Pt) Hi) ?_ ?_ ?_⟩
    · exact ⟨_, _, _, _, _, _, rfl, hs0, tabs_same tab0 s0⟩
    · rintro i σ Hi hi ⟨y2, y3, y4, y5, y6, y7, rfl, hsi, ti⟩
      refine ⟨_, rfl, a, L, ns, [a], rfl, hsi, ma, hsi.trk, fun H1 v0 d0 n hd0 n1 n5 l1 l24 hg0 hs1 sm1 => ?_⟩
      have t1 : LamX.Tabs (TT0 Pt) H1 := tabs_smx ti sm1 hsi.lst
      refine ⟨fun σ' H' => ∃ (v : V) (d : PyData), σ' = [some (.ref sc), some (.ref a), some (.int (0 + i)), some v, y4, y5, y6, y7, none] ∧ Dp K (hide [a] H') v d ∧ 1 ≤ lmeas 9 d ∧ lmeas 9 d ≤ 100 ∧ gd 9 d = true ∧ Src H' a L ns ∧ LamX.Tabs (TT0 Pt) H', ?_, ?_⟩
      · refine ⟨_, rfl, a, L, ns, 4, rfl, hs1, by decide, by decide, fun H2 t t0 t4 hs2 off2 => ⟨rfl, _, rfl, ?_⟩⟩
        have sm2 : SmX [a] H1 H2 := SmX.at off2 ma
        have hd2 : Dp K (hide [a] H2) v0 d0 := dp_same sm2.hid _ _ hd0
        have t2 := tabs_smx t1 sm2 hs1.lst
        refine ite2 (fun c => ?_) (fun c => ?_)
        · refine ⟨_, rfl, _, rfl, a, L, ns, 8, rfl, hs2, by decide, by decide, fun H3 u u0 u8 hs3 off3 => ?_⟩
          have sm3 : SmX [a] H2 H3 := SmX.at off3 ma
          refine ⟨u.toNat, [a], vs1' (by omega), by omega, hs3.trk, fun H4 v4 hd4 s4 => ⟨(by show 3 ≤ sizeLine; decide), fun p np => ?_⟩⟩
          have s5 := same_upd (o := .tup [.str "|", v0, v4]) np
          obtain ⟨b1, b2⟩ := nest8 u.toNat (by omega)
          have l8 : lmeas 8 d0 = lmeas n d0 := lmeas_up9 l1 (by omega)
          have e9 : lmeas 9 (.tuple (.str "|" :: [d0, nestD u.toNat])) = lmeas 8 d0 + lmeas 8 (nestD u.toNat) := lmeas_tup (by decide +kernel) (Nat.le_refl 2) (fun d hd => by
            simp only [List.mem_cons, List.not_mem_nil, or_false] at hd
            rcases hd with rfl | rfl
            · omega
            · exact b1) (by simp)
          have hs4 := hs3.same s4
          refine ⟨.ref p, .tuple [.str "|", d0, nestD u.toNat], rfl, ?_, ?_, ?_, ?_, hs4.same s5, tabs_same (tabs_smx t2 sm3 hs2.lst) (s4.trans s5)⟩
          · refine .tup (SqT.of (hid_at hs4.trk np)) (.cons (.str _) (.cons (dp_same (sm3.trans (SmX.of_same (s4.trans s5))).hid _ _ hd2) (.cons (dp_same (hid_new np) _ _ hd4) .nil)))
          · rw [e9]; omega
          · rw [e9]; omega
          · refine gd_tup (n := 8) (fun d hd => ?_) (by show 3 ≤ 1000; decide)
            simp only [List.mem_cons, List.not_mem_nil, or_false] at hd
            rcases hd with rfl | rfl | rfl
            · exact gd_le (n := 0) (by decide +kernel) (by decide)
            · exact gd_le hg0 (by omega)
            · exact gd_le (nest_gd _) (by omega)
        · have l9 : lmeas 9 d0 = lmeas n d0 := lmeas_up9 l1 (by omega)
          exact ⟨v0, d0, rfl, hd2, by omega, by omega, gd_le hg0 (by omega), hs2, t2⟩
      · rintro σ' Hw ⟨v, d, rfl, hdw, lw1, lw2, hg, hsw, tw⟩
        have hg20 : gd 20 d = true := gd_le hg (by decide)
        have ms9 : (meas 9 d 600).isSome = true := by
          rw [meas_some, decide_eq_true lw1, decide_eq_true (by omega)]
          rfl
        have tk : Tk d := tk_of ms9 hg20
        have tps := Tk.pre tk
        have lp : (pre d).length ≤ 200 := by
          have := pre_len 9 d lw1 tk
          omega
        have lo : (onceD (pre d)).length ≤ 200 := Nat.le_trans (once_len _) lp
        have gpre : gd 21 (.list (pre d)) = true := gd_lst (n := 20) (fun z hz => (tps z hz).gd) (by omega)
        have gonce : gd 21 (.list (onceD (pre d))) = true := gd_lst (n := 20) (fun z hz => (tps z (once_sub _ z hz)).gd) (by omega)
        have hD0 := u hdw
        have eI : ∀ H, Dp K H (.int (dpt d)) (.int (ldp 9 d)) := fun H => by
          rw [dpt_ldp ms9]
          exact .int _
        -- what is found
        refine ⟨_, rfl, v, d, rfl, hD0, hg20, fun _ H2 s2 => ?_, fun e => (nn ms9 e).elim⟩
        refine ⟨_, rfl, v, d, rfl, dp_same s2 _ _ hD0, hg20, fun _ H3 s3 => ?_, fun e => (nn ms9 e).elim⟩
        refine ⟨_, rfl, v, d, rfl, dp_same (s2.trans s3) _ _ hD0, hg20, fun _ H4 p4 s4 np4 hp4 => ?_, fun e => (nn ms9 e).elim⟩
        have A4 := s2.trans (s3.trans s4)
        refine ⟨_, rfl, v, d, rfl, dp_same A4 _ _ hD0, hg20, fun _ H5 xs5 s5 hx5 p5 np5 => ?_, fun e => (nn ms9 e).elim⟩
        have s5' := s5.trans (same_upd (o := .lst xs5) np5)
        have A5 := A4.trans s5'
        refine ⟨_, rfl, v, d, rfl, dp_same A5 _ _ hD0, hg20, fun _ H6 p6 vs6 s6 np6 hp6 hv6 => ?_, fun e => (nn ms9 e).elim⟩
        have A6 := A5.trans s6
        refine ⟨(by show 5 ≤ sizeLine; decide), fun pf npf => ?_⟩
        have s7 := same_upd (o := .lst [.int (dpt d), .int (lmeas 9 d), .ref p4, .ref p5, .ref p6]) npf
        have A7 := A6.trans s7
        -- every subterm, by the law
        refine ⟨_, rfl, v, d, 9, rfl, dp_same A7 _ _ hD0, tk, by decide, lw1, fun H8 pe xs8 s8 npe hpe hx8 => ?_⟩
        have A8 := A7.trans s8
        have hs8 := hsw.same A8
        -- turned
        refine ⟨_, rfl, v, d, rfl, dp_same A8 _ _ hD0, hg20, fun _ => ⟨[a], hs8.trk, fun H9 w9 s9 hw9 => ?_⟩, fun e => (nn ms9 e).elim⟩
        have A9 := A8.trans s9
        have hs9 := hsw.same A9
        refine ⟨_, rfl, v, d, 9, [a], rfl, dp_same A9 _ _ hD0, hg20, by decide, lw1, hs9.trk, fun H10 w10 s10 hw10 => ?_⟩
        refine ⟨w9, w10, tnd 9 d, 9, rfl, dp_same s10 _ _ (u hw9), u hw10, by decide, gd_tnd 9 9 d hg lw1, fun H11 s11 => ⟨_, rfl, iteF ?_⟩⟩
        have B11 := s9.trans (s10.trans s11)
        have A11 := A8.trans B11
        -- what is due
        refine ⟨_, rfl, _, rfl, v, d, 9, rfl, dp_same A11 _ _ hD0, tk, by decide, lw1, fun H12 s12 => ?_⟩
        have A12 := A11.trans s12
        refine ⟨_, rfl, v, d, 9, rfl, dp_same A12 _ _ hD0, hg20, by decide, lw1, fun H13 s13 => ?_⟩
        have A13 := A12.trans s13
        refine ⟨_, rfl, v, d, rfl, dp_same A13 _ _ hD0, tk, fun H14 p14 s14 np14 hp14 => ?_⟩
        have B14 := B11.trans (s12.trans (s13.trans s14))
        refine ⟨_, rfl, _, rfl, pe, xs8, pre d, rfl, SqL.of (B14 _ _ hpe), dpAll_same B14 _ _ hx8, tps, by omega, fun H15 p15 vs15 s15 np15 hp15 hv15 => ?_⟩
        refine ⟨(by show 5 ≤ sizeLine; decide), fun p16 np16 => ?_⟩
        have s16 := same_upd (o := .lst [.int (ldp 9 d), .int (lmeas 9 d), .ref p14, .ref pe, .ref p15]) np16
        have B16 := B14.trans (s15.trans s16)
        have C16 := s8.trans B16
        have D16 := s7.trans C16
        have E16 := s6.trans D16
        have F16 := s5'.trans E16
        refine ⟨.ref pf, .ref p16, .list [.int (ldp 9 d), .int (lmeas 9 d), .list ((lts d).map PyData.str), .list (pre d), .list (onceD (pre d))], 22, rfl, ?_, ?_, by decide, ?_, fun H17 s17 => ⟨_, rfl, iteF ?_⟩⟩
        · exact .lst (SqL.of (C16 _ _ upd_same)) (.cons (eI _) (.cons (.int _) (.cons (.lst (SqL.of (F16 _ _ hp4)) (dpAll_txt _)) (.cons (.lst (SqL.of (E16 _ _ upd_same)) (dpAll_same ((same_upd (o := .lst xs5) np5).trans E16) _ _ hx5)) (.cons (.lst (SqL.of (D16 _ _ hp6)) (dpAll_same D16 _ _ hv6)) .nil)))))
        · exact .lst (SqL.of upd_same) (.cons (.int _) (.cons (.int _) (.cons (.lst (SqL.of ((s15.trans s16) _ _ hp14)) (dpAll_txt _)) (.cons (.lst (SqL.of (B16 _ _ hpe)) (dpAll_same B16 _ _ hx8)) (.cons (.lst (SqL.of (s16 _ _ hp15)) (dpAll_same s16 _ _ hv15)) .nil)))))
        · refine gd_lst (n := 21) (fun z hz => ?_) (by show 5 ≤ 1000; decide)
          simp only [List.mem_cons, List.not_mem_nil, or_false] at hz
          rcases hz with rfl | rfl | rfl | rfl | rfl
          · rfl
          · rfl
          · exact gd_le (lts_gd d) (by decide)
          · exact gpre
          · exact gonce
        -- the lists that were given are changed
        have G17 := C16.trans s17
        have hf17 := G17 _ _ (upd_same (H := H6) (a := pf) (o := .lst [.int (dpt d), .int (lmeas 9 d), .ref p4, .ref p5, .ref p6]))
        have hp417 := (F16.trans s17) _ _ hp4
        have hp617 := (D16.trans s17) _ _ hp6
        have he17 := (B16.trans s17) _ _ hpe
        have hx17 := dpAll_same (B16.trans s17) _ _ hx8
        have A17 := A8.trans (B16.trans s17)
        have nw4 : Hw p4 = none := none_back (s2.trans s3) np4
        have nw6 : Hw p6 = none := none_back A5 np6
        have ne46 : p6 ≠ p4 := fun z => by rw [z, s5' _ _ hp4] at np6; cases np6
        have nef4 : pf ≠ p4 := fun z => by rw [z, (s5'.trans s6) _ _ hp4] at npf; cases npf
        have nee4 : pe ≠ p4 := fun z => by rw [z, (s5'.trans (s6.trans s7)) _ _ hp4] at npe; cases npe
        have nee6 : pe ≠ p6 := fun z => by rw [z, s7 _ _ hp6] at npe; cases npe
        clear hx8 hv6 hv15 hp14 hp15 hw9 hw10 B16 C16 D16 E16 F16 G17 B14 B11 A11 A12 A13 A9
        refine ⟨_, rfl, pf, _, 2, .ref p4, rfl, rfl, SqL.of hf17, rfl, .inl ⟨rfl, _, SqL.of hp417⟩, p4, _, .str "z", rfl, rfl, hp417, ?_, ?_⟩
        · rw [List.length_map]
          have h8 : (lts d).length ≤ abc.length := List.length_filter_le _ _
          exact Nat.lt_of_le_of_lt h8 (by decide)
        have st4 : Stay H17 (upd H17 p4 (.lst ((lts d).map V.str ++ [.str "z"]))) := stay_lst hp417
        have h618 : upd H17 p4 (.lst ((lts d).map V.str ++ [.str "z"])) p6 = some (.lst vs6) := by rw [upd_ne ne46]; exact hp617
        refine ⟨_, rfl, pf, _, 4, .ref p6, rfl, rfl, SqL.of (by rw [upd_ne nef4]; exact hf17), rfl, .inl ⟨rfl, _, SqL.of h618⟩, p6, vs6, rfl, rfl, h618, ?_⟩
        have st6 := st4.trans (stay_lst (ys := []) h618)
        have he18 : upd (upd H17 p4 (.lst ((lts d).map V.str ++ [.str "z"]))) p6 (.lst []) pe = some (.lst xs8) := by rw [upd_ne nee6, upd_ne nee4]; exact he17
        have hx18 := tkAll_stay st6 tps hx17
        have A18 : Same Hw (upd (upd H17 p4 (.lst ((lts d).map V.str ++ [.str "z"]))) p6 (.lst [])) := fun b o e => by
          rw [upd_ne (ne_of_none e nw6), upd_ne (ne_of_none e nw4)]
          exact A17 b o e
        generalize upd (upd H17 p4 (.lst ((lts d).map V.str ++ [.str "z"]))) p6 (.lst []) = H18 at *
        clear st4 st6 h618 hf17 hp417 hp617 he17 hx17 A17
        -- the measures once more
        refine ⟨_, rfl, rfl, rfl, v, d, rfl, dp_same A18 _ _ hD0, hg20, fun _ H19 s19 => ?_, fun e => (nn ms9 e).elim⟩
        have A19 := A18.trans s19
        refine ⟨_, rfl, rfl, rfl, v, d, rfl, dp_same A19 _ _ hD0, hg20, fun _ H20 s20 => ?_, fun e => (nn ms9 e).elim⟩
        refine ⟨(by show 2 ≤ sizeLine; decide), fun pA npA => ?_⟩
        have s21 := same_upd (o := .lst [.int (dpt d), .int (lmeas 9 d)]) npA
        have A21 := A19.trans (s20.trans s21)
        refine ⟨_, rfl, v, d, 9, rfl, dp_same A21 _ _ hD0, tk, by decide, lw1, fun H22 s22 => ?_⟩
        have A22 := A21.trans s22
        refine ⟨_, rfl, v, d, 9, rfl, dp_same A22 _ _ hD0, hg20, by decide, lw1, fun H23 s23 => ?_⟩
        refine ⟨(by show 2 ≤ sizeLine; decide), fun pB npB => ?_⟩
        have s24 := same_upd (o := .lst [.int (ldp 9 d), .int (lmeas 9 d)]) npB
        have B24 := s22.trans (s23.trans s24)
        refine ⟨.ref pA, .ref pB, .list [.int (ldp 9 d), .int (lmeas 9 d)], 1, rfl, .lst (SqL.of (B24 _ _ upd_same)) (.cons (eI _) (.cons (.int _) .nil)), .lst (SqL.of upd_same) (.cons (.int _) (.cons (.int _) .nil)), by decide, rfl, fun H25 s25 => ⟨_, rfl, iteF ?_⟩⟩
        have C25 := s19.trans (s20.trans (s21.trans (B24.trans s25)))
        have A25 := A18.trans C25
        have he25 := C25 _ _ he18
        have hx25 := dpAll_same C25 _ _ hx18
        clear A19 A21 A22 B24 C25 he18 hx18
        -- letters and subterms once more
        refine ⟨_, rfl, rfl, rfl, v, d, rfl, dp_same A25 _ _ hD0, hg20, fun _ H26 p26 s26 np26 hp26 => ?_, fun e => (nn ms9 e).elim⟩
        have A26 := A25.trans s26
        refine ⟨_, rfl, rfl, rfl, v, d, rfl, dp_same A26 _ _ hD0, hg20, fun _ H27 p27 vs27 s27 np27 hp27 hv27 => ?_, fun e => (nn ms9 e).elim⟩
        refine ⟨(by show 2 ≤ sizeLine; decide), fun pC npC => ?_⟩
        have s28 := same_upd (o := .lst [.ref p26, .ref p27]) npC
        have A28 := A26.trans (s27.trans s28)
        refine ⟨_, rfl, v, d, rfl, dp_same A28 _ _ hD0, tk, fun H29 p29 s29 np29 hp29 => ?_⟩
        have B29 := s26.trans (s27.trans (s28.trans s29))
        refine ⟨_, rfl, pe, xs8, pre d, rfl, SqL.of (B29 _ _ he25), dpAll_same B29 _ _ hx25, tps, by omega, fun H30 p30 vs30 s30 np30 hp30 hv30 => ?_⟩
        refine ⟨(by show 2 ≤ sizeLine; decide), fun pD npD => ?_⟩
        have s31 := same_upd (o := .lst [.ref p29, .ref p30]) npD
        have C31 := s29.trans (s30.trans s31)
        have D31 := s28.trans C31
        refine ⟨.ref pC, .ref pD, .list [.list ((lts d).map PyData.str), .list (onceD (pre d))], 22, rfl, ?_, ?_, by decide, ?_, fun H32 s32 => ⟨_, rfl, iteF ?_⟩⟩
        · exact .lst (SqL.of (C31 _ _ upd_same)) (.cons (.lst (SqL.of ((s27.trans D31) _ _ hp26)) (dpAll_txt _)) (.cons (.lst (SqL.of (D31 _ _ hp27)) (dpAll_same D31 _ _ hv27)) .nil))
        · exact .lst (SqL.of upd_same) (.cons (.lst (SqL.of ((s30.trans s31) _ _ hp29)) (dpAll_txt _)) (.cons (.lst (SqL.of (s31 _ _ hp30)) (dpAll_same s31 _ _ hv30)) .nil))
        · refine gd_lst (n := 21) (fun z hz => ?_) (by show 2 ≤ 1000; decide)
          simp only [List.mem_cons, List.not_mem_nil, or_false] at hz
          rcases hz with rfl | rfl
          · exact gd_le (lts_gd d) (by decide)
          · exact gonce
        have A32 := A28.trans (C31.trans s32)
        have hs32 := hsw.same A32
        have hd32 : Dp K (hide [a] H32) v d := dp_same (SmX.of_same A32).hid _ _ hdw
        have t32 := tabs_same tw A32
        clear hv27 hv30 hp26 hp27 hp29 hp30 C31 D31 B29 A26 A28 A25 A18 hx25 he25
        -- an odd value
        refine ⟨_, rfl, _, rfl, a, L, ns, v, [a], rfl, hs32, ⟨d, hd32, hg⟩, ma, hs32.trk, fun H33 vo gn hs33 sm33 => ?_⟩
        obtain ⟨dn, hn1, hn2, hn3⟩ := gn
        have t33 := tabs_smx t32 sm33 hs32.lst
        have go : gd 20 dn = true := gd_le hn2 (by decide)
        have noL : meas 9 dn 600 = none := by
          rcases meas_iff 9 dn 600 with ⟨e, _⟩ | ⟨_, _, e, _⟩
          · exact e
          · omega
        clear hs32 hd32 t32 sm33
        refine ⟨t33, fun H34 e34 T34 => ?_⟩
        have hs34 := hs33.ext e34
        have ho34 := dp_ext (ext_hide e34) _ _ hn1
        refine lg_bad hs34.trk exm xf fnd (fun R E h => ⟨_, rfl, vo, dn, rfl, u ho34, go, fun z => (nn z noL).elim, fun _ => h⟩) fun q1 H35 s35 hq1 => ?_
        have hs35 := hs34.same s35
        have ho35 := dp_same (SmX.of_same (M := [a]) s35).hid _ _ ho34
        refine ⟨tabs_same T34 s35, fun H36 e36 T36 => ?_⟩
        have hs36 := hs35.ext e36
        have ho36 := dp_ext (ext_hide e36) _ _ ho35
        have hq1 := dp_ext (ext_hide e36) _ _ hq1
        refine lg_bad hs36.trk exm xf fnd (fun R E h => ⟨_, rfl, vo, dn, rfl, u ho36, go, fun z => (nn z noL).elim, fun _ => h⟩) fun q2 H37 s37 hq2 => ?_
        have hs37 := hs36.same s37
        have ho37 := dp_same (SmX.of_same (M := [a]) s37).hid _ _ ho36
        have hq1 := dp_same (SmX.of_same (M := [a]) s37).hid _ _ hq1
        refine ⟨tabs_same T36 s37, fun H38 e38 T38 => ?_⟩
        have hs38 := hs37.ext e38
        have ho38 := dp_ext (ext_hide e38) _ _ ho37
        have hq1 := dp_ext (ext_hide e38) _ _ hq1
        have hq2 := dp_ext (ext_hide e38) _ _ hq2
        refine lg_bad hs38.trk exm xf fnd (fun R E h => ⟨_, rfl, vo, dn, rfl, u ho38, go, fun z => (nn z noL).elim, fun _ => h⟩) fun q3 H39 s39 hq3 => ?_
        refine ⟨(by show 3 ≤ sizeLine; decide), fun pa npa => ?_⟩
        have s40 := same_upd (o := .lst [.ref q1, .ref q2, .ref q3]) npa
        have A40 := s39.trans s40
        have hs40 := hs38.same A40
        have ho40 := dp_same (SmX.of_same (M := [a]) A40).hid _ _ ho38
        have hq1 := dp_same (SmX.of_same (M := [a]) A40).hid _ _ hq1
        have hq2 := dp_same (SmX.of_same (M := [a]) A40).hid _ _ hq2
        have hq3 := dp_same (SmX.of_same (M := [a]) s40).hid _ _ hq3
        have T40 := tabs_same T38 A40
        have hpa : upd H39 pa (.lst [.ref q1, .ref q2, .ref q3]) pa = some (.lst [.ref q1, .ref q2, .ref q3]) := upd_same
        generalize upd H39 pa (.lst [.ref q1, .ref q2, .ref q3]) = H40 at *
        clear s35 s37 s39 s40 A40 hs33 hs34 hs35 hs36 hs37 hs38 ho34 ho35 ho36 ho37 ho38 T34 T36 T38 e34 e36 e38 npa
        refine ⟨_, rfl, T40, fun H41 e41 T41 => ?_⟩
        have hs41 := hs40.ext e41
        have ho41 := dp_ext (ext_hide e41) _ _ ho40
        have hq1 := dp_ext (ext_hide e41) _ _ hq1
        have hq2 := dp_ext (ext_hide e41) _ _ hq2
        have hq3 := dp_ext (ext_hide e41) _ _ hq3
        have hpa := e41 _ _ hpa (fun ps z => by cases z)
        refine lg_bad hs41.trk exm xf fnd (fun R E h => ⟨_, rfl, vo, dn, rfl, u ho41, go, fun z => (nn z noL).elim, fun _ H' dd s' e' => ⟨rfl, h H' dd s' e'⟩⟩) fun q4 H42 s42 hq4 => ?_
        have hs42 := hs41.same s42
        have ho42 := dp_same (SmX.of_same (M := [a]) s42).hid _ _ ho41
        have hq1 := dp_same (SmX.of_same (M := [a]) s42).hid _ _ hq1
        have hq2 := dp_same (SmX.of_same (M := [a]) s42).hid _ _ hq2
        have hq3 := dp_same (SmX.of_same (M := [a]) s42).hid _ _ hq3
        have hpa := s42 _ _ hpa
        refine ⟨tabs_same T41 s42, fun H43 e43 T43 => ?_⟩
        have hs43 := hs42.ext e43
        have ho43 := dp_ext (ext_hide e43) _ _ ho42
        have hq1 := dp_ext (ext_hide e43) _ _ hq1
        have hq2 := dp_ext (ext_hide e43) _ _ hq2
        have hq3 := dp_ext (ext_hide e43) _ _ hq3
        have hq4 := dp_ext (ext_hide e43) _ _ hq4
        have hpa := e43 _ _ hpa (fun ps z => by cases z)
        refine lg_bad hs43.trk exm xf fnd (fun R E h => ⟨_, rfl, vo, dn, rfl, u ho43, go, fun z => (nn z noL).elim, fun _ => h⟩) fun q5 H44 s44 hq5 => ?_
        have hs44 := hs43.same s44
        have ho44 := dp_same (SmX.of_same (M := [a]) s44).hid _ _ ho43
        have hq1 := dp_same (SmX.of_same (M := [a]) s44).hid _ _ hq1
        have hq2 := dp_same (SmX.of_same (M := [a]) s44).hid _ _ hq2
        have hq3 := dp_same (SmX.of_same (M := [a]) s44).hid _ _ hq3
        have hq4 := dp_same (SmX.of_same (M := [a]) s44).hid _ _ hq4
        have hpa := s44 _ _ hpa
        refine ⟨tabs_same T43 s44, fun H45 e45 T45 => ?_⟩
        have hs45 := hs44.ext e45
        have ho45 := dp_ext (ext_hide e45) _ _ ho44
        have hq1 := dp_ext (ext_hide e45) _ _ hq1
        have hq2 := dp_ext (ext_hide e45) _ _ hq2
        have hq3 := dp_ext (ext_hide e45) _ _ hq3
        have hq4 := dp_ext (ext_hide e45) _ _ hq4
        have hq5 := dp_ext (ext_hide e45) _ _ hq5
        have hpa := e45 _ _ hpa (fun ps z => by cases z)
        refine lg_bad hs45.trk exm xf fnd (fun R E h => ⟨_, rfl, vo, dn, rfl, u ho45, go, fun z => (nn z noL).elim, fun _ => h⟩) fun q6 H46 s46 hq6 => ?_
        refine ⟨(by show 3 ≤ sizeLine; decide), fun pb npb => ?_⟩
        have s47 := same_upd (o := .lst [.ref q4, .ref q5, .ref q6]) npb
        refine ⟨pa, pb, [.ref q1, .ref q2, .ref q3], [.ref q4, .ref q5, .ref q6], rfl, rfl, (s46.trans s47) _ _ hpa, upd_same, (by show 6 ≤ sizeLine; decide), fun pc npc => ?_⟩
        have s48 := same_upd (o := .lst [.ref q1, .ref q2, .ref q3, .ref q4, .ref q5, .ref q6]) npc
        refine ⟨_, rfl, (by show 2 ≤ sizeLine; decide), fun pt npt => ?_⟩
        have s49 := same_upd (o := .tup [.non, .str "InvalidTerm"]) npt
        refine ⟨(by show 1 ≤ sizeLine; decide), fun pl npl => ?_⟩
        have s50 := same_upd (o := .lst [.ref pt]) npl
        refine ⟨pl, 6, _, rfl, rfl, upd_same, by decide, by decide, (by show 6 ≤ sizeLine; decide), fun pr npr => ?_⟩
        have s51 := same_upd (o := .lst [.ref pt, .ref pt, .ref pt, .ref pt, .ref pt, .ref pt]) npr
        have B48 := s49.trans (s50.trans s51)
        have B47 := s47.trans (s48.trans B48)
        have B46 := s46.trans B47
        have hpt : Dp K _ (.ref pt) badT := .tup (SqT.of ((s50.trans s51) _ _ upd_same)) (.cons .non (.cons (.str _) .nil))
        refine ⟨.list [badT, badT, badT, badT, badT, badT], .list [badT, badT, badT, badT, badT, badT], .lst (SqL.of (B48 _ _ upd_same)) (.cons (dp_same B46 _ _ (u hq1)) (.cons (dp_same B46 _ _ (u hq2)) (.cons (dp_same B46 _ _ (u hq3)) (.cons (dp_same B46 _ _ (u hq4)) (.cons (dp_same B46 _ _ (u hq5)) (.cons (dp_same B47 _ _ (u hq6)) .nil)))))), .lst (SqL.of upd_same) (.cons hpt (.cons hpt (.cons hpt (.cons hpt (.cons hpt (.cons hpt .nil)))))), by decide +kernel, by decide +kernel, _, rfl, ?_⟩
        rw [show (!PyData.eqv (.list [badT, badT, badT, badT, badT, badT]) (.list [badT, badT, badT, badT, badT, badT])) = false from by decide +kernel]
        exact iteF ⟨_, _, _, _, _, _, rfl, hs45.same B46, tabs_same T45 B46⟩
    · rintro σ Hi ⟨y2, y3, y4, y5, y6, y7, rfl, hsi, ti⟩
      -- a wide one
      refine ⟨(by show 1 ≤ sizeLine; decide), fun p1 np1 => ⟨(by show 1 ≤ sizeLine; decide), fun p2 np2 => ⟨p2, 600, _, rfl, rfl, upd_same, by decide, by decide, (by show 1 * 600 ≤ sizeLine; decide), fun p3 np3 => ?_⟩⟩⟩
      have e6 : (List.replicate (600 : Int).toNat [V.str "a"]).flatten = (List.replicate 600 ("a" : Str)).map V.str := by
        rw [List.flatten_replicate_singleton, List.map_replicate]
        rfl
      rw [e6]
      have s1 := same_upd (o := .lst [.str "|"]) np1
      have s2 := same_upd (o := .lst [.str "a"]) np2
      have s3 := same_upd (o := .lst ((List.replicate 600 ("a" : Str)).map V.str)) np3
      refine ⟨p1, p3, _, _, rfl, rfl, (s2.trans s3) _ _ upd_same, upd_same, ?_, fun p4 np4 => ?_⟩
      · rw [List.length_map, List.length_replicate]
        show 1 + 600 ≤ sizeLine
        decide
      have s4 := same_upd (o := .lst ([.str "|"] ++ (List.replicate 600 ("a" : Str)).map V.str)) np4
      refine ⟨p4, _, rfl, .inl ⟨SqL.of upd_same, fun p5 np5 => ?_⟩⟩
      have s5 := same_upd (o := .tup ([.str "|"] ++ (List.replicate 600 ("a" : Str)).map V.str)) np5
      have hw : Dp K (hide [a] _) (.ref p5) wideD := .tup (SqT.of (hid_at ((hsi.same (s1.trans (s2.trans (s3.trans s4)))).trk) np5)) (.cons (.str _) (dpAll_txt _))
      have A5 := s1.trans (s2.trans (s3.trans (s4.trans s5)))
      have hs5 := hsi.same A5
      have t5 := tabs_same ti A5
      have mw : (meas 9 wideD 600).isSome = true := by
        rw [meas_some, wide_meas.1]
        rfl
      refine ⟨_, rfl, .ref p5, wideD, rfl, u hw, wide_meas.2, fun _ H6 s6 => ?_, fun e => (nn mw e).elim⟩
      rw [wide_meas.1]
      refine ⟨rfl, true, rfl, ?_⟩
      rw [if_pos rfl]
      have hs6 := hs5.same s6
      have hw6 := dp_same (SmX.of_same (M := [a]) s6).hid _ _ hw
      refine ⟨tabs_same t5 s6, fun H7 e7 T7 => ?_⟩
      have hs7 := hs6.ext e7
      have hw7 := dp_ext (ext_hide e7) _ _ hw6
      have noW : meas 9 (.tuple [.str "&", .str "a", wideD]) 600 = none := by
        rcases meas_iff 9 (.tuple [.str "&", .str "a", wideD]) 600 with ⟨e, _⟩ | ⟨_, _, _, e⟩
        · exact e
        · rw [wide_more.1] at e
          omega
      refine lg_bad hs7.trk exm xf fnd (fun R E h => ⟨_, rfl, (by show 3 ≤ sizeLine; decide), fun p8 np8 => ?_⟩) fun q1 H9 s9 hq1 => ?_
      · have s8 := same_upd (o := .tup [.str "&", .str "a", .ref p5]) np8
        exact ⟨.ref p8, _, rfl, .tup (SqT.of upd_same) (.cons (.str _) (.cons (.str _) (.cons (dp_same s8 _ _ (u hw7)) .nil))), wide_more.2, fun z => (nn z noW).elim, fun _ => h.mono s8⟩
      · refine ⟨(by show 2 ≤ sizeLine; decide), fun p10 np10 => ?_⟩
        have s10 := same_upd (o := .tup [.non, .str "InvalidTerm"]) np10
        refine ⟨badT, badT, dp_same s10 _ _ (u hq1), .tup (SqT.of upd_same) (.cons .non (.cons (.str _) .nil)), by decide +kernel, by decide +kernel, ?_⟩
        rw [show PyData.eqv badT badT = true from by decide +kernel]
        exact q _
end
end Fv


namespace Fv
open PySem PySem.Spec PyProof.Rows L2 FvX
abbrev s_InvalidTerm : Stmt := inClass (topS 2) 0
def q_InvalidTerm : ErrPos := { p0 := ⟨7, 8, 7, 13⟩, p1 := ⟨7, 8, 7, 15⟩, p2 := ⟨7, 8, 7, 24⟩, p3 := ⟨7, 25, 7, 45⟩, p4 := ⟨7, 8, 7, 46⟩, p5 := ⟨7, 8, 7, 46⟩, p6 := ⟨8, 8, 8, 12⟩, p7 := ⟨8, 8, 8, 17⟩, p8 := ⟨8, 20, 8, 33⟩, p9 := ⟨8, 8, 8, 33⟩, pp := ⟨6, 17, 6, 21⟩ }
theorem kw_all {K : PySem.W.Frag} {D : Addr} {kws : List (Str × V)} (h : ∀ q ∈ kws, ∃ u, PySem.W.nsIn K D q.1 = some (some u) ∧ RelV q.2 u) : ∀ q ∈ kws, ∃ u, PySem.W.nsIn K D q.1 = some (some u) ∧ RelV q.2 u := h
set_option maxHeartbeats 8000000 in
theorem all_mk {l : PySem.W.OpenLaw} {w : World} {K : PySem.W.Frag} {h : Heap} {mg : Str → Option Value} {fa : Addr} (X : K.In h) (G : h.Ns mainGlobals mg) (hfa : mg "law" = some (.ref fa))
    {f1 : Addr} {od1 an1 : Option Addr} {sl1 : Array (Option Value)} {oc1 dc1 pm1 cd1 ct1 : Value}
    {kV1 : Value}
    {f2 : Addr} {od2 an2 : Option Addr} {sl2 : Array (Option Value)} {oc2 dc2 pm2 cd2 ct2 : Value}
    {kV2 : Value}
    {f3 : Addr} {od3 an3 : Option Addr} {sl3 : Array (Option Value)} {oc3 dc3 pm3 cd3 ct3 : Value}
    {kV3 : Value}
    {f4 : Addr} {od4 an4 : Option Addr} {sl4 : Array (Option Value)} {oc4 dc4 pm4 cd4 ct4 : Value}
    {kV4 : Value}
    {f5 : Addr} {od5 an5 : Option Addr} {sl5 : Array (Option Value)} {oc5 dc5 pm5 cd5 ct5 : Value}
    {kV5 : Value}
    {f6 : Addr} {od6 an6 : Option Addr} {sl6 : Array (Option Value)} {oc6 dc6 pm6 cd6 ct6 : Value}
    {kV6 : Value}
    {f7 : Addr} {od7 an7 : Option Addr} {sl7 : Array (Option Value)} {oc7 dc7 pm7 cd7 ct7 : Value}
    {kV7 : Value}
    {f8 : Addr} {od8 an8 : Option Addr} {sl8 : Array (Option Value)} {oc8 dc8 pm8 cd8 ct8 : Value}
    {kV8 : Value}
    {f9 : Addr} {od9 an9 : Option Addr} {sl9 : Array (Option Value)} {oc9 dc9 pm9 cd9 ct9 : Value}
    {kV9 : Value}
    {f10 : Addr} {od10 an10 : Option Addr} {sl10 : Array (Option Value)} {oc10 dc10 pm10 cd10 ct10 : Value}
    {kV10 : Value}
    {f11 : Addr} {od11 an11 : Option Addr} {sl11 : Array (Option Value)} {oc11 dc11 pm11 cd11 ct11 : Value}
    {kV11 : Value}
    {f12 : Addr} {od12 an12 : Option Addr} {sl12 : Array (Option Value)} {oc12 dc12 pm12 cd12 ct12 : Value}
    {kV12 : Value}
    {f13 : Addr} {od13 an13 : Option Addr} {sl13 : Array (Option Value)} {oc13 dc13 pm13 cd13 ct13 : Value}
    {kV13 : Value}
    {f14 : Addr} {od14 an14 : Option Addr} {sl14 : Array (Option Value)} {oc14 dc14 pm14 cd14 ct14 : Value}
    {kV14 : Value}
    {f15 : Addr} {od15 an15 : Option Addr} {sl15 : Array (Option Value)} {oc15 dc15 pm15 cd15 ct15 : Value}
    {kV15 : Value}
    {f16 : Addr} {od16 an16 : Option Addr} {sl16 : Array (Option Value)} {oc16 dc16 pm16 cd16 ct16 : Value}
    {kV16 : Value}
    {f17 : Addr} {od17 an17 : Option Addr} {sl17 : Array (Option Value)} {oc17 dc17 pm17 cd17 ct17 : Value}
    {kV17 : Value}
    {f18 : Addr} {od18 an18 : Option Addr} {sl18 : Array (Option Value)} {oc18 dc18 pm18 cd18 ct18 : Value}
    {kV18 : Value}
    {f19 : Addr} {od19 an19 : Option Addr} {sl19 : Array (Option Value)} {oc19 dc19 pm19 cd19 ct19 : Value}
    {kV19 : Value}
    {f20 : Addr} {od20 an20 : Option Addr} {sl20 : Array (Option Value)} {oc20 dc20 pm20 cd20 ct20 : Value}
    {kV20 : Value}
    {f21 : Addr} {od21 an21 : Option Addr} {sl21 : Array (Option Value)} {oc21 dc21 pm21 cd21 ct21 : Value}
    {kV21 : Value}
    {f22 : Addr} {od22 an22 : Option Addr} {sl22 : Array (Option Value)} {oc22 dc22 pm22 cd22 ct22 : Value}
    {kV22 : Value}
    {f23 : Addr} {od23 an23 : Option Addr} {sl23 : Array (Option Value)} {oc23 dc23 pm23 cd23 ct23 : Value}
    {kV23 : Value}
    {f24 : Addr} {od24 an24 : Option Addr} {sl24 : Array (Option Value)} {oc24 dc24 pm24 cd24 ct24 : Value}
    {kV24 : Value}
    {f25 : Addr} {od25 an25 : Option Addr} {sl25 : Array (Option Value)} {oc25 dc25 pm25 cd25 ct25 : Value}
    {kV25 : Value}
    {f26 : Addr} {od26 an26 : Option Addr} {sl26 : Array (Option Value)} {oc26 dc26 pm26 cd26 ct26 : Value}
    {kV26 : Value}
    {f27 : Addr} {od27 an27 : Option Addr} {sl27 : Array (Option Value)} {oc27 dc27 pm27 cd27 ct27 : Value}
    {kV27 : Value}
    {f28 : Addr} {od28 an28 : Option Addr} {sl28 : Array (Option Value)} {oc28 dc28 pm28 cd28 ct28 : Value}
    {kV28 : Value}
    {f29 : Addr} {od29 an29 : Option Addr} {sl29 : Array (Option Value)} {oc29 dc29 pm29 cd29 ct29 : Value}
    {kV29 : Value}
    {f30 : Addr} {od30 an30 : Option Addr} {sl30 : Array (Option Value)} {oc30 dc30 pm30 cd30 ct30 : Value}
    {kV30 : Value}
    {ctLETTERS : Tok}
    {oA1 : Addr} {ob1 : Option Addr} {on1 : Nat} {os1 : Array (Option Value)} {ot1_0 : Tok} {ot1_1 : Tok}
    {ctLONG_DEPTH : Tok}
    {ctLONG_SIZE : Tok}
    {CF : Addr}
    {C_InvalidTerm f_InvalidTerm : Addr} {eoc_InvalidTerm : Value} {eod_InvalidTerm ean_InvalidTerm : Option Addr} {eosl_InvalidTerm : Array (Option Value)} {ekV_InvalidTerm edoc_InvalidTerm epm_InvalidTerm ect_InvalidTerm : Value} {cda_InvalidTerm ecc_InvalidTerm : Addr} {eccl_InvalidTerm ecl_InvalidTerm : Value} {ecdd_InvalidTerm ecld_InvalidTerm : Option Addr} {evs_InvalidTerm : Array Value} {eccs_InvalidTerm ecsl_InvalidTerm : Array (Option Value)} {efile_InvalidTerm : Str} {etf_InvalidTerm : Tok}
    {nm_InvalidTerm eq_InvalidTerm : Str} {eN_InvalidTerm : Addr} {ebs_InvalidTerm ebm_InvalidTerm : List Value} {esn_InvalidTerm : List Str} {esub_InvalidTerm : List Value} {eab_InvalidTerm : Bool} {ecol_InvalidTerm : Option Bool} {edd_InvalidTerm : Option Addr} {ek0_InvalidTerm ek1_InvalidTerm ek2_InvalidTerm ek3_InvalidTerm ek5_InvalidTerm : Option Value}
    (a1 : PySem.W.nsIn K mainGlobals "is_letter" = some (some (.ref f1))) (l1 : K.lookup f1 = some ⟨oc1, od1, .func (PySem.W.fnOf "is_letter" "is_letter" (defArgs s_is_letter) (defBody s_is_letter) (defScope s_is_letter) .none kV1 dc1 pm1 an1 cd1 ct1), sl1⟩) (c1 : PySem.W.codeIn K cd1 "is_letter" = true) (k1 : PySem.W.keepIn K (.ref f1) = true)
    (a2 : PySem.W.nsIn K mainGlobals "is_compound" = some (some (.ref f2))) (l2 : K.lookup f2 = some ⟨oc2, od2, .func (PySem.W.fnOf "is_compound" "is_compound" (defArgs s_is_compound) (defBody s_is_compound) (defScope s_is_compound) .none kV2 dc2 pm2 an2 cd2 ct2), sl2⟩) (c2 : PySem.W.codeIn K cd2 "is_compound" = true) (k2 : PySem.W.keepIn K (.ref f2) = true)
    (a3 : PySem.W.nsIn K mainGlobals "measured" = some (some (.ref f3))) (l3 : K.lookup f3 = some ⟨oc3, od3, .func (PySem.W.fnOf "measured" "measured" (defArgs s_measured) (defBody s_measured) (defScope s_measured) .none kV3 dc3 pm3 an3 cd3 ct3), sl3⟩) (c3 : PySem.W.codeIn K cd3 "measured" = true) (k3 : PySem.W.keepIn K (.ref f3) = true)
    (a4 : PySem.W.nsIn K mainGlobals "measured_long" = some (some (.ref f4))) (l4 : K.lookup f4 = some ⟨oc4, od4, .func (PySem.W.fnOf "measured_long" "measured_long" (defArgs s_measured_long) (defBody s_measured_long) (defScope s_measured_long) .none kV4 dc4 pm4 an4 cd4 ct4), sl4⟩) (c4 : PySem.W.codeIn K cd4 "measured_long" = true) (k4 : PySem.W.keepIn K (.ref f4) = true)
    (a5 : PySem.W.nsIn K mainGlobals "depth" = some (some (.ref f5))) (l5 : K.lookup f5 = some ⟨oc5, od5, .func (PySem.W.fnOf "depth" "depth" (defArgs s_depth) (defBody s_depth) (defScope s_depth) .none kV5 dc5 pm5 an5 cd5 ct5), sl5⟩) (c5 : PySem.W.codeIn K cd5 "depth" = true) (k5 : PySem.W.keepIn K (.ref f5) = true)
    (a6 : PySem.W.nsIn K mainGlobals "size" = some (some (.ref f6))) (l6 : K.lookup f6 = some ⟨oc6, od6, .func (PySem.W.fnOf "size" "size" (defArgs s_size) (defBody s_size) (defScope s_size) .none kV6 dc6 pm6 an6 cd6 ct6), sl6⟩) (c6 : PySem.W.codeIn K cd6 "size" = true) (k6 : PySem.W.keepIn K (.ref f6) = true)
    (a7 : PySem.W.nsIn K mainGlobals "letters" = some (some (.ref f7))) (l7 : K.lookup f7 = some ⟨oc7, od7, .func (PySem.W.fnOf "letters" "letters" (defArgs s_letters) (defBody s_letters) (defScope s_letters) .none kV7 dc7 pm7 an7 cd7 ct7), sl7⟩) (c7 : PySem.W.codeIn K cd7 "letters" = true) (k7 : PySem.W.keepIn K (.ref f7) = true)
    (a8 : PySem.W.nsIn K mainGlobals "walk" = some (some (.ref f8))) (l8 : K.lookup f8 = some ⟨oc8, od8, .func (PySem.W.fnOf "walk" "walk" (defArgs s_walk) (defBody s_walk) (defScope s_walk) .none kV8 dc8 pm8 an8 cd8 ct8), sl8⟩) (c8 : PySem.W.codeIn K cd8 "walk" = true) (k8 : PySem.W.keepIn K (.ref f8) = true)
    (a9 : PySem.W.nsIn K mainGlobals "subterms" = some (some (.ref f9))) (l9 : K.lookup f9 = some ⟨oc9, od9, .func (PySem.W.fnOf "subterms" "subterms" (defArgs s_subterms) (defBody s_subterms) (defScope s_subterms) .none kV9 dc9 pm9 an9 cd9 ct9), sl9⟩) (c9 : PySem.W.codeIn K cd9 "subterms" = true) (k9 : PySem.W.keepIn K (.ref f9) = true)
    (a10 : PySem.W.nsIn K mainGlobals "turned" = some (some (.ref f10))) (l10 : K.lookup f10 = some ⟨oc10, od10, .func (PySem.W.fnOf "turned" "turned" (defArgs s_turned) (defBody s_turned) (defScope s_turned) .none kV10 dc10 pm10 an10 cd10 ct10), sl10⟩) (c10 : PySem.W.codeIn K cd10 "turned" = true) (k10 : PySem.W.keepIn K (.ref f10) = true)
    (a11 : PySem.W.nsIn K mainGlobals "with_turned_operators" = some (some (.ref f11))) (l11 : K.lookup f11 = some ⟨oc11, od11, .func (PySem.W.fnOf "with_turned_operators" "with_turned_operators" (defArgs s_with_turned_operators) (defBody s_with_turned_operators) (defScope s_with_turned_operators) .none kV11 dc11 pm11 an11 cd11 ct11), sl11⟩) (c11 : PySem.W.codeIn K cd11 "with_turned_operators" = true) (k11 : PySem.W.keepIn K (.ref f11) = true)
    (a12 : PySem.W.nsIn K mainGlobals "_law_source" = some (some (.ref f12))) (l12 : K.lookup f12 = some ⟨oc12, od12, .func (PySem.W.fnOf "_law_source" "_law_source" (defArgs s_law_source) (defBody s_law_source) (defScope s_law_source) .none kV12 dc12 pm12 an12 cd12 ct12), sl12⟩) (c12 : PySem.W.codeIn K cd12 "_law_source" = true) (k12 : PySem.W.keepIn K (.ref f12) = true)
    (a13 : PySem.W.nsIn K mainGlobals "_law_take" = some (some (.ref f13))) (l13 : K.lookup f13 = some ⟨oc13, od13, .func (PySem.W.fnOf "_law_take" "_law_take" (defArgs s_law_take) (defBody s_law_take) (defScope s_law_take) .none kV13 dc13 pm13 an13 cd13 ct13), sl13⟩) (c13 : PySem.W.codeIn K cd13 "_law_take" = true) (k13 : PySem.W.keepIn K (.ref f13) = true)
    (a14 : PySem.W.nsIn K mainGlobals "_law_pick" = some (some (.ref f14))) (l14 : K.lookup f14 = some ⟨oc14, od14, .func (PySem.W.fnOf "_law_pick" "_law_pick" (defArgs s_law_pick) (defBody s_law_pick) (defScope s_law_pick) .none kV14 dc14 pm14 an14 cd14 ct14), sl14⟩) (c14 : PySem.W.codeIn K cd14 "_law_pick" = true) (k14 : PySem.W.keepIn K (.ref f14) = true)
    (a15 : PySem.W.nsIn K mainGlobals "_law_mixed" = some (some (.ref f15))) (l15 : K.lookup f15 = some ⟨oc15, od15, .func (PySem.W.fnOf "_law_mixed" "_law_mixed" (defArgs s_law_mixed) (defBody s_law_mixed) (defScope s_law_mixed) .none kV15 dc15 pm15 an15 cd15 ct15), sl15⟩) (c15 : PySem.W.codeIn K cd15 "_law_mixed" = true) (k15 : PySem.W.keepIn K (.ref f15) = true)
    (a16 : PySem.W.nsIn K mainGlobals "_law_same" = some (some (.ref f16))) (l16 : K.lookup f16 = some ⟨oc16, od16, .func (PySem.W.fnOf "_law_same" "_law_same" (defArgs s_law_same) (defBody s_law_same) (defScope s_law_same) .none kV16 dc16 pm16 an16 cd16 ct16), sl16⟩) (c16 : PySem.W.codeIn K cd16 "_law_same" = true) (k16 : PySem.W.keepIn K (.ref f16) = true)
    (a17 : PySem.W.nsIn K mainGlobals "_law_call" = some (some (.ref f17))) (l17 : K.lookup f17 = some ⟨oc17, od17, .func (PySem.W.fnOf "_law_call" "_law_call" (defArgs s_law_call) (defBody s_law_call) (defScope s_law_call) .none kV17 dc17 pm17 an17 cd17 ct17), sl17⟩) (c17 : PySem.W.codeIn K cd17 "_law_call" = true) (k17 : PySem.W.keepIn K (.ref f17) = true)
    (a18 : PySem.W.nsIn K mainGlobals "_law_parts" = some (some (.ref f18))) (l18 : K.lookup f18 = some ⟨oc18, od18, .func (PySem.W.fnOf "_law_parts" "_law_parts" (defArgs s_law_parts) (defBody s_law_parts) (defScope s_law_parts) .none kV18 dc18 pm18 an18 cd18 ct18), sl18⟩) (c18 : PySem.W.codeIn K cd18 "_law_parts" = true) (k18 : PySem.W.keepIn K (.ref f18) = true)
    (a19 : PySem.W.nsIn K mainGlobals "_law_deep" = some (some (.ref f19))) (l19 : K.lookup f19 = some ⟨oc19, od19, .func (PySem.W.fnOf "_law_deep" "_law_deep" (defArgs s_law_deep) (defBody s_law_deep) (defScope s_law_deep) .none kV19 dc19 pm19 an19 cd19 ct19), sl19⟩) (c19 : PySem.W.codeIn K cd19 "_law_deep" = true) (k19 : PySem.W.keepIn K (.ref f19) = true)
    (a20 : PySem.W.nsIn K mainGlobals "_law_leaves" = some (some (.ref f20))) (l20 : K.lookup f20 = some ⟨oc20, od20, .func (PySem.W.fnOf "_law_leaves" "_law_leaves" (defArgs s_law_leaves) (defBody s_law_leaves) (defScope s_law_leaves) .none kV20 dc20 pm20 an20 cd20 ct20), sl20⟩) (c20 : PySem.W.codeIn K cd20 "_law_leaves" = true) (k20 : PySem.W.keepIn K (.ref f20) = true)
    (a21 : PySem.W.nsIn K mainGlobals "_law_walk" = some (some (.ref f21))) (l21 : K.lookup f21 = some ⟨oc21, od21, .func (PySem.W.fnOf "_law_walk" "_law_walk" (defArgs s_law_walk) (defBody s_law_walk) (defScope s_law_walk) .none kV21 dc21 pm21 an21 cd21 ct21), sl21⟩) (c21 : PySem.W.codeIn K cd21 "_law_walk" = true) (k21 : PySem.W.keepIn K (.ref f21) = true)
    (a22 : PySem.W.nsIn K mainGlobals "_law_once" = some (some (.ref f22))) (l22 : K.lookup f22 = some ⟨oc22, od22, .func (PySem.W.fnOf "_law_once" "_law_once" (defArgs s_law_once) (defBody s_law_once) (defScope s_law_once) .none kV22 dc22 pm22 an22 cd22 ct22), sl22⟩) (c22 : PySem.W.codeIn K cd22 "_law_once" = true) (k22 : PySem.W.keepIn K (.ref f22) = true)
    (a23 : PySem.W.nsIn K mainGlobals "_law_signs_in" = some (some (.ref f23))) (l23 : K.lookup f23 = some ⟨oc23, od23, .func (PySem.W.fnOf "_law_signs_in" "_law_signs_in" (defArgs s_law_signs_in) (defBody s_law_signs_in) (defScope s_law_signs_in) .none kV23 dc23 pm23 an23 cd23 ct23), sl23⟩) (c23 : PySem.W.codeIn K cd23 "_law_signs_in" = true) (k23 : PySem.W.keepIn K (.ref f23) = true)
    (a24 : PySem.W.nsIn K mainGlobals "_law_turned" = some (some (.ref f24))) (l24 : K.lookup f24 = some ⟨oc24, od24, .func (PySem.W.fnOf "_law_turned" "_law_turned" (defArgs s_law_turned) (defBody s_law_turned) (defScope s_law_turned) .none kV24 dc24 pm24 an24 cd24 ct24), sl24⟩) (c24 : PySem.W.codeIn K cd24 "_law_turned" = true) (k24 : PySem.W.keepIn K (.ref f24) = true)
    (a25 : PySem.W.nsIn K mainGlobals "_law_term" = some (some (.ref f25))) (l25 : K.lookup f25 = some ⟨oc25, od25, .func (PySem.W.fnOf "_law_term" "_law_term" (defArgs s_law_term) (defBody s_law_term) (defScope s_law_term) .none kV25 dc25 pm25 an25 cd25 ct25), sl25⟩) (c25 : PySem.W.codeIn K cd25 "_law_term" = true) (k25 : PySem.W.keepIn K (.ref f25) = true)
    (a26 : PySem.W.nsIn K mainGlobals "_law_any_term" = some (some (.ref f26))) (l26 : K.lookup f26 = some ⟨oc26, od26, .func (PySem.W.fnOf "_law_any_term" "_law_any_term" (defArgs s_law_any_term) (defBody s_law_any_term) (defScope s_law_any_term) .none kV26 dc26 pm26 an26 cd26 ct26), sl26⟩) (c26 : PySem.W.codeIn K cd26 "_law_any_term" = true) (k26 : PySem.W.keepIn K (.ref f26) = true)
    (a27 : PySem.W.nsIn K mainGlobals "_law_signs" = some (some (.ref f27))) (l27 : K.lookup f27 = some ⟨oc27, od27, .func (PySem.W.fnOf "_law_signs" "_law_signs" (defArgs s_law_signs) (defBody s_law_signs) (defScope s_law_signs) .none kV27 dc27 pm27 an27 cd27 ct27), sl27⟩) (c27 : PySem.W.codeIn K cd27 "_law_signs" = true) (k27 : PySem.W.keepIn K (.ref f27) = true)
    (a28 : PySem.W.nsIn K mainGlobals "_law_odd" = some (some (.ref f28))) (l28 : K.lookup f28 = some ⟨oc28, od28, .func (PySem.W.fnOf "_law_odd" "_law_odd" (defArgs s_law_odd) (defBody s_law_odd) (defScope s_law_odd) .none kV28 dc28 pm28 an28 cd28 ct28), sl28⟩) (c28 : PySem.W.codeIn K cd28 "_law_odd" = true) (k28 : PySem.W.keepIn K (.ref f28) = true)
    (a29 : PySem.W.nsIn K mainGlobals "_law_nest" = some (some (.ref f29))) (l29 : K.lookup f29 = some ⟨oc29, od29, .func (PySem.W.fnOf "_law_nest" "_law_nest" (defArgs s_law_nest) (defBody s_law_nest) (defScope s_law_nest) .none kV29 dc29 pm29 an29 cd29 ct29), sl29⟩) (c29 : PySem.W.codeIn K cd29 "_law_nest" = true) (k29 : PySem.W.keepIn K (.ref f29) = true)
    (a30 : PySem.W.nsIn K mainGlobals "law" = some (some (.ref f30))) (l30 : K.lookup f30 = some ⟨oc30, od30, .func (PySem.W.fnOf "law" "law" (defArgs s_law) (defBody s_law) (defScope s_law) .none kV30 dc30 pm30 an30 cd30 ct30), sl30⟩) (c30 : PySem.W.codeIn K cd30 "law" = true) (k30 : PySem.W.keepIn K (.ref f30) = true)
    (y0 : PySem.W.nsIn K mainGlobals "LETTERS" = some (some (.str "abcdefgh" ctLETTERS)))
    (y1 : PySem.W.nsIn K mainGlobals "OPERATORS" = some (some (.ref oA1))) (yl1 : K.lookup oA1 = some ⟨.type "tuple", ob1, .seq #[.str "&" ot1_0, .str "|" ot1_1] on1, os1⟩)
    (y2 : PySem.W.nsIn K mainGlobals "LONG_DEPTH" = some (some (.int 9 ctLONG_DEPTH)))
    (y3 : PySem.W.nsIn K mainGlobals "LONG_SIZE" = some (some (.int 600 ctLONG_SIZE)))
    (z_len : PySem.W.nsIn K mainGlobals "len" = some none)
    (z_int : PySem.W.nsIn K mainGlobals "int" = some none)
    (z_list : PySem.W.nsIn K mainGlobals "list" = some none)
    (z_str : PySem.W.nsIn K mainGlobals "str" = some none)
    (z_tuple : PySem.W.nsIn K mainGlobals "tuple" = some none)
    (z_isinstance : PySem.W.nsIn K mainGlobals "isinstance" = some none)
    (z_bool : PySem.W.nsIn K mainGlobals "bool" = some none)
    (z_dict : PySem.W.nsIn K mainGlobals "dict" = some none)
    (z_all : PySem.W.nsIn K mainGlobals "all" = some none)
    (z_zip : PySem.W.nsIn K mainGlobals "zip" = some none)
    (z_sum : PySem.W.nsIn K mainGlobals "sum" = some none)
    (z_max : PySem.W.nsIn K mainGlobals "max" = some none)
    (z_range : PySem.W.nsIn K mainGlobals "range" = some none)
    (z_super : PySem.W.nsIn K mainGlobals "super" = some none)
    (z_sorted : PySem.W.nsIn K mainGlobals "sorted" = some none)
    (z_set : PySem.W.nsIn K mainGlobals "set" = some none)
    (e1 : PySem.W.nsIn K mainGlobals "FaultError" = some (some (.ref CF)))
    (e23a : PySem.W.subIn K (.ref CF) (.type "BaseException") = some true)
    (e23b : PySem.W.isClsIn K CF = true)
    (e23c : PySem.W.typeIn K (.ref CF) = some (.type "type"))
    (e20 : PySem.W.nsIn K cStatics "thirdparty.any" = some none)
    (e27 : (l.prog.main.scope.names.lookup ("super" : Str)).isSome = false)
    (e2_InvalidTerm : PySem.W.nsIn K mainGlobals "InvalidTerm" = some (some (.ref C_InvalidTerm)))
    (e3_InvalidTerm : K.lookup C_InvalidTerm = some (excClassObj nm_InvalidTerm eq_InvalidTerm C_InvalidTerm eN_InvalidTerm ebs_InvalidTerm ebm_InvalidTerm true esn_InvalidTerm esub_InvalidTerm eab_InvalidTerm ecol_InvalidTerm edd_InvalidTerm ek0_InvalidTerm ek1_InvalidTerm ek2_InvalidTerm ek3_InvalidTerm ek5_InvalidTerm "ValueError.__new__"))
    (e4_InvalidTerm : PySem.HandSPX.refsVE ebm_InvalidTerm = true)
    (e5_InvalidTerm : PySem.W.findIn K (.ref C_InvalidTerm) "__setattr__" = some (some (.builtin "object.__setattr__")))
    (e6_InvalidTerm : PySem.W.subIn K (.ref C_InvalidTerm) (.type "BaseException") = some true)
    (e7_InvalidTerm : PySem.W.typeIn K (.ref C_InvalidTerm) = some (.type "type"))
    (e8_InvalidTerm : PySem.W.keepIn K (.ref C_InvalidTerm) = true)
    (e13_InvalidTerm : PySem.W.findIn K (.ref C_InvalidTerm) "__init__" = some (some (.ref f_InvalidTerm)))
    (e9_InvalidTerm : K.lookup f_InvalidTerm = some ⟨eoc_InvalidTerm, eod_InvalidTerm, .func (PySem.W.ksFn "__init__" "InvalidTerm.__init__" (defArgs s_InvalidTerm) (defBody s_InvalidTerm) (defScope s_InvalidTerm) .none ekV_InvalidTerm edoc_InvalidTerm epm_InvalidTerm ean_InvalidTerm (.ref cda_InvalidTerm) ect_InvalidTerm ecc_InvalidTerm), eosl_InvalidTerm⟩)
    (e10_InvalidTerm : PySem.W.codeIn K (.ref cda_InvalidTerm) "InvalidTerm.__init__" = true)
    (e11_InvalidTerm : K.lookup cda_InvalidTerm = some ⟨eccl_InvalidTerm, ecdd_InvalidTerm, .fields evs_InvalidTerm, eccs_InvalidTerm⟩)
    (e12_InvalidTerm : evs_InvalidTerm[2]? = some (.str efile_InvalidTerm etf_InvalidTerm))
    (e14_InvalidTerm : (l.prog.main.file == efile_InvalidTerm) = true)
    (e15_InvalidTerm : K.lookup ecc_InvalidTerm = some ⟨ecl_InvalidTerm, ecld_InvalidTerm, .cell (some (.ref C_InvalidTerm)), ecsl_InvalidTerm⟩)
    (e16_InvalidTerm : PySem.W.ks_superIn K C_InvalidTerm C_InvalidTerm "__init__" = some (some (.builtin "ValueError.__init__")))
    (e17_InvalidTerm : PySem.W.mroIn K C_InvalidTerm (.ref C_InvalidTerm) = some true)
    (e18_InvalidTerm : PySem.W.subIn K (.ref C_InvalidTerm) (.type "ValueError") = some true)
    (e19t_InvalidTerm : PySem.W.excTail FvX.veTail4 ebm_InvalidTerm = true)
    (e21_InvalidTerm : PySem.W.findIn K (.ref C_InvalidTerm) "code" = some none)
    (e22_InvalidTerm : PySem.W.typeIn K (.ref f_InvalidTerm) = some (.type "function"))
    (e23d_InvalidTerm : PySem.W.subIn K (.ref C_InvalidTerm) (.ref CF) = some true)
    (e24_InvalidTerm : PySem.W.findIn K (.ref C_InvalidTerm) "__getattribute__" = some (some (.builtin "BaseException.__getattribute__")))
    (e25_InvalidTerm : PySem.W.findIn K (.ref C_InvalidTerm) "__getattr__" = some none)
    (e26_InvalidTerm : PySem.W.hasDictIn K C_InvalidTerm = true)
    (e31_InvalidTerm : PySem.W.subIn K (.ref C_InvalidTerm) (.type "StopIteration") = some false)
    {ccl : Value} {ccd : Option Addr} {cvs : Array Value} {ccs : Array (Option Value)} {cL Pt : Addr} (ecd : cd30 = .ref cL) (tlc : K.lookup cL = some ⟨ccl, ccd, .fields cvs, ccs⟩) (t11 : cvs[11]? = some (.ref Pt)) (tPt : K.lookup Pt = none)
    : ∃ (fd : FuncData) (c Pt : Addr), PySem.W.tabIn K "law" = some (c, Pt) ∧ K.lookup Pt = none ∧ (∀ (s : Shared) (v : Value), BindsTo s fd ⟨[v], []⟩ [("_law_script", v)]) ∧ ∀ base : Heap, K.In base → base.Ns mainGlobals mg → LamX.TabB base mg c Pt → FnOk l.prog w K mg base CX0 33 fa fd ["_law_script"] (spLawT K Pt) := by
  have e := hfa.symm.trans (PySem.W.mg_of X G a30)
  cases e
  have F1 := fun_mk (st := s_is_letter) l1 c1 k1
  have g1 := PySem.W.mg_of X G a1
  have b1 := F1.binds (ps := ["value"]) fun _ _ _ _ _ _ us hl => match us, hl with | [_], _ => rfl
  have F2 := fun_mk (st := s_is_compound) l2 c2 k2
  have g2 := PySem.W.mg_of X G a2
  have b2 := F2.binds (ps := ["value"]) fun _ _ _ _ _ _ us hl => match us, hl with | [_], _ => rfl
  have F3 := fun_mk (st := s_measured) l3 c3 k3
  have g3 := PySem.W.mg_of X G a3
  have b3 := F3.binds (ps := ["value", "max_depth", "max_size"]) fun _ _ _ _ _ _ us hl => match us, hl with | [_, _, _], _ => rfl
  have F4 := fun_mk (st := s_measured_long) l4 c4 k4
  have g4 := PySem.W.mg_of X G a4
  have b4 := F4.binds (ps := ["value"]) fun _ _ _ _ _ _ us hl => match us, hl with | [_], _ => rfl
  have F5 := fun_mk (st := s_depth) l5 c5 k5
  have g5 := PySem.W.mg_of X G a5
  have b5 := F5.binds (ps := ["term"]) fun _ _ _ _ _ _ us hl => match us, hl with | [_], _ => rfl
  have F6 := fun_mk (st := s_size) l6 c6 k6
  have g6 := PySem.W.mg_of X G a6
  have b6 := F6.binds (ps := ["term"]) fun _ _ _ _ _ _ us hl => match us, hl with | [_], _ => rfl
  have F7 := fun_mk (st := s_letters) l7 c7 k7
  have g7 := PySem.W.mg_of X G a7
  have b7 := F7.binds (ps := ["term"]) fun _ _ _ _ _ _ us hl => match us, hl with | [_], _ => rfl
  have F8 := fun_mk (st := s_walk) l8 c8 k8
  have g8 := PySem.W.mg_of X G a8
  have b8 := F8.binds (ps := ["term"]) fun _ _ _ _ _ _ us hl => match us, hl with | [_], _ => rfl
  have F9 := fun_mk (st := s_subterms) l9 c9 k9
  have g9 := PySem.W.mg_of X G a9
  have b9 := F9.binds (ps := ["term"]) fun _ _ _ _ _ _ us hl => match us, hl with | [_], _ => rfl
  have F10 := fun_mk (st := s_turned) l10 c10 k10
  have g10 := PySem.W.mg_of X G a10
  have b10 := F10.binds (ps := ["term"]) fun _ _ _ _ _ _ us hl => match us, hl with | [_], _ => rfl
  have F11 := fun_mk (st := s_with_turned_operators) l11 c11 k11
  have g11 := PySem.W.mg_of X G a11
  have b11 := F11.binds (ps := ["term"]) fun _ _ _ _ _ _ us hl => match us, hl with | [_], _ => rfl
  have F12 := fun_mk (st := s_law_source) l12 c12 k12
  have g12 := PySem.W.mg_of X G a12
  have b12 := F12.binds (ps := ["_law_script"]) fun _ _ _ _ _ _ us hl => match us, hl with | [_], _ => rfl
  have F13 := fun_mk (st := s_law_take) l13 c13 k13
  have g13 := PySem.W.mg_of X G a13
  have b13 := F13.binds (ps := ["_law_source_here", "_law_many"]) fun _ _ _ _ _ _ us hl => match us, hl with | [_, _], _ => rfl
  have F14 := fun_mk (st := s_law_pick) l14 c14 k14
  have g14 := PySem.W.mg_of X G a14
  have b14 := F14.binds (ps := ["_law_source_here", "_law_row"]) fun _ _ _ _ _ _ us hl => match us, hl with | [_, _], _ => rfl
  have F15 := fun_mk (st := s_law_mixed) l15 c15 k15
  have g15 := PySem.W.mg_of X G a15
  have b15 := F15.binds (ps := ["_law_source_here", "_law_row"]) fun _ _ _ _ _ _ us hl => match us, hl with | [_, _], _ => rfl
  have F16 := fun_mk (st := s_law_same) l16 c16 k16
  have g16 := PySem.W.mg_of X G a16
  have b16 := F16.binds (ps := ["_law_found", "_law_due"]) fun _ _ _ _ _ _ us hl => match us, hl with | [_, _], _ => rfl
  have F17 := fun_mk (st := s_law_call) l17 c17 k17
  have g17 := PySem.W.mg_of X G a17
  have b17 := F17.binds (ps := ["_law_ask"]) fun _ _ _ _ _ _ us hl => match us, hl with | [_], _ => rfl
  have F18 := fun_mk (st := s_law_parts) l18 c18 k18
  have g18 := PySem.W.mg_of X G a18
  have b18 := F18.binds (ps := ["_law_word"]) fun _ _ _ _ _ _ us hl => match us, hl with | [_], _ => rfl
  have F19 := fun_mk (st := s_law_deep) l19 c19 k19
  have g19 := PySem.W.mg_of X G a19
  have b19 := F19.binds (ps := ["_law_word"]) fun _ _ _ _ _ _ us hl => match us, hl with | [_], _ => rfl
  have F20 := fun_mk (st := s_law_leaves) l20 c20 k20
  have g20 := PySem.W.mg_of X G a20
  have b20 := F20.binds (ps := ["_law_word"]) fun _ _ _ _ _ _ us hl => match us, hl with | [_], _ => rfl
  have F21 := fun_mk (st := s_law_walk) l21 c21 k21
  have g21 := PySem.W.mg_of X G a21
  have b21 := F21.binds (ps := ["_law_word"]) fun _ _ _ _ _ _ us hl => match us, hl with | [_], _ => rfl
  have F22 := fun_mk (st := s_law_once) l22 c22 k22
  have g22 := PySem.W.mg_of X G a22
  have b22 := F22.binds (ps := ["_law_row"]) fun _ _ _ _ _ _ us hl => match us, hl with | [_], _ => rfl
  have F23 := fun_mk (st := s_law_signs_in) l23 c23 k23
  have g23 := PySem.W.mg_of X G a23
  have b23 := F23.binds (ps := ["_law_word"]) fun _ _ _ _ _ _ us hl => match us, hl with | [_], _ => rfl
  have F24 := fun_mk (st := s_law_turned) l24 c24 k24
  have g24 := PySem.W.mg_of X G a24
  have b24 := F24.binds (ps := ["_law_word"]) fun _ _ _ _ _ _ us hl => match us, hl with | [_], _ => rfl
  have F25 := fun_mk (st := s_law_term) l25 c25 k25
  have g25 := PySem.W.mg_of X G a25
  have b25 := F25.binds (ps := ["_law_source_here", "_law_signs_here", "_law_deep_here", "_law_room"]) fun _ _ _ _ _ _ us hl => match us, hl with | [_, _, _, _], _ => rfl
  have F26 := fun_mk (st := s_law_any_term) l26 c26 k26
  have g26 := PySem.W.mg_of X G a26
  have b26 := F26.binds (ps := ["_law_source_here"]) fun _ _ _ _ _ _ us hl => match us, hl with | [_], _ => rfl
  have F27 := fun_mk (st := s_law_signs) l27 c27 k27
  have g27 := PySem.W.mg_of X G a27
  have b27 := F27.binds (ps := ["_law_source_here", "_law_most"]) fun _ _ _ _ _ _ us hl => match us, hl with | [_, _], _ => rfl
  have F28 := fun_mk (st := s_law_odd) l28 c28 k28
  have g28 := PySem.W.mg_of X G a28
  have b28 := F28.binds (ps := ["_law_source_here", "_law_word"]) fun _ _ _ _ _ _ us hl => match us, hl with | [_, _], _ => rfl
  have F29 := fun_mk (st := s_law_nest) l29 c29 k29
  have g29 := PySem.W.mg_of X G a29
  have b29 := F29.binds (ps := ["_law_many"]) fun _ _ _ _ _ _ us hl => match us, hl with | [_], _ => rfl
  have F30 := fun_mk (st := s_law) l30 c30 k30
  have g30 := PySem.W.mg_of X G a30
  have g_LETTERS := PySem.W.mg_of X G y0
  have h_OPERATORS : ∀ H, SqT K H oA1 [.str "&", .str "|"] := fun H => .inr ⟨_, _, _, yl1, rfl, rfl, (Nat.le_of_ble_eq_true rfl), (.cons ⟨_, rfl⟩ (.cons ⟨_, rfl⟩ .nil))⟩
  have g_OPERATORS := PySem.W.mg_of X G y1
  have g_LONG_DEPTH := PySem.W.mg_of X G y2
  have g_LONG_SIZE := PySem.W.mg_of X G y3
  have m_len := PySem.W.mg_none_of X G z_len
  have m_int := PySem.W.mg_none_of X G z_int
  have m_list := PySem.W.mg_none_of X G z_list
  have m_str := PySem.W.mg_none_of X G z_str
  have m_tuple := PySem.W.mg_none_of X G z_tuple
  have m_isinstance := PySem.W.mg_none_of X G z_isinstance
  have m_bool := PySem.W.mg_none_of X G z_bool
  have m_dict := PySem.W.mg_none_of X G z_dict
  have m_all := PySem.W.mg_none_of X G z_all
  have m_zip := PySem.W.mg_none_of X G z_zip
  have m_sum := PySem.W.mg_none_of X G z_sum
  have m_max := PySem.W.mg_none_of X G z_max
  have m_range := PySem.W.mg_none_of X G z_range
  have m_super := PySem.W.mg_none_of X G z_super
  have m_sorted := PySem.W.mg_none_of X G z_sorted
  have m_set := PySem.W.mg_none_of X G z_set
  have g_FE := PySem.W.mg_of X G e1
  have e19_InvalidTerm : PySem.W.excInitIn K C_InvalidTerm FvX.veTail4 "ValueError.__new__" = true := by
    unfold PySem.W.excInitIn
    rw [e3_InvalidTerm]
    simp [excClassObj, e19t_InvalidTerm]
  have ex23_InvalidTerm : PySem.W.exmOne K (.ref C_InvalidTerm) (.ref CF) = some true := by
    unfold PySem.W.exmOne PySem.W.kitCls
    simp [e23a, show (PySem.W.clsIn K CF).isSome = true from e23b, e23c, e23d_InvalidTerm]
  have g_E_InvalidTerm := PySem.W.mg_of X G e2_InvalidTerm
  have OX_InvalidTerm : L2.OexC K C_InvalidTerm := ⟨⟨_, _, _, _, _, _, _, _, _, _, _, _, _, _, _, e3_InvalidTerm, e4_InvalidTerm⟩, e5_InvalidTerm, e6_InvalidTerm, e7_InvalidTerm, e8_InvalidTerm⟩
  have TI_InvalidTerm : FvX.ErrC l.prog.main.file K C_InvalidTerm f_InvalidTerm "InvalidTerm.__init__" q_InvalidTerm "this is not a term" "InvalidTerm" 0 0 := ⟨OX_InvalidTerm, ⟨_, _, _, _, _, _, _, _, _, _, _, _, _, _, _, _, _, _, _, e9_InvalidTerm, e10_InvalidTerm, e11_InvalidTerm, e12_InvalidTerm, e14_InvalidTerm, e15_InvalidTerm⟩, e16_InvalidTerm, e17_InvalidTerm, e18_InvalidTerm, e19_InvalidTerm, e20, e21_InvalidTerm, e13_InvalidTerm, e22_InvalidTerm⟩
  have LI_InvalidTerm : FvX.LineOk q_InvalidTerm "this is not a term" 0 := fun env => ⟨_, rfl⟩
  have XF_InvalidTerm : XfC K C_InvalidTerm := ⟨e24_InvalidTerm, e25_InvalidTerm, e6_InvalidTerm, e26_InvalidTerm⟩
  subst ecd
  have htab : PySem.W.tabIn K "law" = some (cL, Pt) := by
    unfold PySem.W.tabIn
    simp only [a30, l30, tlc, t11, PySem.W.fnOf]
  refine ⟨PySem.W.fnOf "law" "law" (defArgs s_law) (defBody s_law) (defScope s_law) .none kV30 dc30 pm30 an30 (.ref cL) ct30, cL, Pt, htab, tPt, fun s v => .of_eq rfl, fun base _ _ TB => ?_⟩
  have own : ∀ {k : Nat} {x : Str} {f : Addr} {fd : FuncData} {ps : List Str} {sp : Sp}, mg x = some (.ref f) → PySem.W.keepIn K (.ref f) = true → Binds K fd ps [] → FnOk l.prog w K mg base CX0 k f fd ps sp → Own l.prog w K mg base k x ps sp := fun a b c d => ⟨_, _, a, b, c, d⟩
  have ownR : ∀ {k : Nat} {x : Str} {f : Addr} {sp : Sp}, mg x = some (.ref f) → PySem.W.keepIn K (.ref f) = true → FnR l.prog w K mg base (L2.CX l.prog w) k f sp → OwnR l.prog w K mg base k x sp := fun a b c => ⟨_, a, b, c⟩
  have raw : ∀ {k : Nat} {f : Addr} {fd : FuncData} {ps : List Str} {sp : Sp}, FnOk l.prog w K mg base (L2.CX l.prog w) k f fd ps sp → Binds K fd ps [] → FnR l.prog w K mg base (L2.CX l.prog w) k f sp := fun F b => (FnOk.raw F b .nil).imp fun vs H Q E h => by rw [List.append_nil]; exact h
  have Csource := own g12 k12 b12 (ok_source (k := 0) F12 m_list)
  have Ctake := own g13 k13 b13 (ok_take (k := 0) F13 m_len m_int)
  have Cpick := own g14 k14 b14 (ok_pick (k := 1) F14 m_len Ctake)
  have Cmixed := own g15 k15 b15 (ok_mixed (k := 1) F15 m_len Ctake)
  have Ctake2 : Own l.prog w K mg base 2 _ _ spTake := own g13 k13 b13 (ok_take (k := 1) F13 m_len m_int)
  have Csigns := own g27 k27 b27 (ok_signs (k := 2) F27 m_list Ctake2 Cmixed)
  have Tn : ∀ n : Nat, FnOk l.prog w K mg base CX0 (2 + n) f25 _ _ (spTerm K n) := fun n => by
    induction n with
    | zero => exact term_zero
    | succ n ih => exact ok_term F25 m_tuple m_range (Nat.le_add_right 2 n) Ctake Cpick (own g25 k25 b25 ih)
  have Cterm := own g25 k25 b25 (Tn 5)
  have Cany := own g26 k26 b26 (ok_any_term (k := 7) F26 (by decide) Ctake Cpick Csigns Cterm)
  have Cnest := own g29 k29 b29 (ok_nest (k := 0) F29 m_range m_int)
  have Codd := own g28 k28 b28 (ok_oddN (k := 2) F28 (by decide) Cpick Cnest)
  have Sn : ∀ n : Nat, FnOk l.prog w K mg base CX0 (n) f16 _ _ (spSame K n) := fun n => by
    induction n with
    | zero => exact same_zero
    | succ n ih => exact ok_same F16 m_isinstance m_bool m_int m_str m_dict m_list m_tuple m_len m_all m_zip (own g16 k16 b16 ih)
  have Csame := own g16 k16 b16 (Sn 25)
  have Clet := own g1 k1 b1 (ok_is_letter (k := 0) F1 m_isinstance m_str m_len g_LETTERS)
  have Ccom := own g2 k2 b2 (ok_is_compound (k := 0) F2 m_isinstance m_tuple m_len g_OPERATORS h_OPERATORS)
  have Dn : ∀ n : Nat, FnOk l.prog w K mg base CX0 (1 + n) f3 _ _ (spMeas K n) := fun n => by
    induction n with
    | zero => exact meas_zero
    | succ n ih => exact ok_measured F3 m_max (Nat.le_add_right 1 n) Clet Ccom (own g3 k3 b3 ih)
  have Cmeasd := own g3 k3 b3 (Dn 20)
  have Clong := ownR g4 k4 (raw (ok_measured_long (k := 21) F4 g_LONG_DEPTH g_LONG_SIZE (by decide) TI_InvalidTerm LI_InvalidTerm e27 m_super g_E_InvalidTerm Cmeasd) b4)
  have Vn : ∀ n : Nat, FnOk l.prog w K mg base CX0 (n) f20 _ _ (spLeaves K n) := fun n => by
    induction n with
    | zero => exact leaves_zero
    | succ n ih => exact ok_leaves F20 m_isinstance m_str m_sum (own g20 k20 b20 ih)
  have Cleaves := own g20 k20 b20 (Vn 6)
  have Un : ∀ n : Nat, FnOk l.prog w K mg base CX0 (1 + n) f11 _ _ (spTnd K n) := fun n => by
    induction n with
    | zero => exact tnd_zero
    | succ n ih => exact ok_turned_ops (k := 1 + n) F11 (by omega) Clet (own g11 k11 b11 ih)
  have Ln : ∀ n : Nat, FnOk l.prog w K mg base CX0 (n) f24 _ _ (spTnd K n) := fun n => by
    induction n with
    | zero => exact tnd_zero
    | succ n ih => exact ok_lturned F24 m_isinstance m_str m_tuple m_int (own g24 k24 b24 ih)
  have Cparts := own g18 k18 b18 (ok_lparts (k := 0) F18 m_isinstance m_str m_list)
  have Qn : ∀ n : Nat, FnOk l.prog w K mg base CX0 (1 + n) f19 _ _ (spDeep K n) := fun n => by
    induction n with
    | zero => exact deep_zero
    | succ n ih => exact ok_ldeep (k := 1 + n) F19 m_max (by omega) Cparts (own g19 k19 b19 ih)
  have Wn : ∀ n : Nat, FnOk l.prog w K mg base CX0 (1 + n) f21 _ _ (spLWalk K n) := fun n => by
    induction n with
    | zero => exact lwalk_zero
    | succ n ih => exact ok_lwalk (k := 1 + n) F21 (by omega) Cparts (own g21 k21 b21 ih)
  have Cw := own g21 k21 b21 ((Wn 10).mono (k := 12) (by decide))
  have Csg := own g23 k23 b23 (ok_lsigns (k := 12) F23 m_isinstance m_str m_set m_sorted Cw)
  have Con := own g22 k22 b22 (ok_lonce (k := 0) F22)
  have Cic := own g2 k2 b2 ((ok_is_compound (k := 0) F2 m_isinstance m_tuple m_len g_OPERATORS h_OPERATORS).mono (k := 22) (by decide))
  have Fsu := ok_subterms (k := 22) F9 F8 g8 m_list e31_InvalidTerm Clong Cic
  have Fs7 := Fsu.mono (k := 27) (by decide)
  have Fle := ok_letters (k := 26) F7 g_LETTERS (ownR g9 k9 (raw Fsu b9))
  have Fde := (ok_depth (k := 22) F5 Clong).mono (k := 27) (by decide)
  have Fsi := (ok_size (k := 22) F6 Clong).mono (k := 27) (by decide)
  have Ftu := (ok_turnedE (k := 22) F10 Clong (own g11 k11 b11 ((Un 10).mono (k := 22) (by decide)))).mono (k := 27) (by decide)
  have Gw := ok_walkG (k := 22) F8 Clong Cic
  exact ok_law (k := 32) (by decide) l30 c30 TB m_range m_list m_tuple l17 c17 k17 g17 b17 g_FE
    ex23_InvalidTerm XF_InvalidTerm e21_InvalidTerm e31_InvalidTerm Csource Ctake Cany Cnest Codd Csame Cw (own g19 k19 b19 ((Qn 10).mono (k := 12) (by decide))) (own g20 k20 b20 (Vn 10)) Csg Con (own g24 k24 b24 (Ln 10))
    (ownR g5 k5 (raw Fde b5)) ⟨_, _, _, g5, k5, ⟨fun s us ws _ h1 h2 => match us, ws, h1, h2 with | [], [_], _, _ => .of_eq rfl, fun r rz => r.append rz⟩, Fde⟩ (ownR g6 k6 (raw Fsi b6)) ⟨_, _, _, g6, k6, ⟨fun s us ws _ h1 h2 => match us, ws, h1, h2 with | [], [_], _, _ => .of_eq rfl, fun r rz => r.append rz⟩, Fsi⟩
    (ownR g7 k7 (raw Fle b7)) ⟨_, _, _, g7, k7, ⟨fun s us ws _ h1 h2 => match us, ws, h1, h2 with | [], [_], _, _ => .of_eq rfl, fun r rz => r.append rz⟩, Fle⟩ (ownR g9 k9 (raw Fs7 b9)) ⟨_, _, _, g9, k9, ⟨fun s us ws _ h1 h2 => match us, ws, h1, h2 with | [], [_], _, _ => .of_eq rfl, fun r rz => r.append rz⟩, Fs7⟩
    (ownR g10 k10 (raw Ftu b10)) Gw g8 k8 b8
theorem walk {l : PySem.W.OpenLaw} {q : Program} {loose : List Str} {XP : (Str → Option Value) → Heap → Prop} {YP : World → Heap → Prop} {d : DefRec} {K : Params → PySem.W.Frag} (hn : l.most = some 63) (hdf : d.params.defaults = [])
    (hY : ∀ (w : World) (h : Heap), YP w h → (K w.params).In h) (hrec : ∃ d', (PyProof.Rows.recsOf q).find? (fun e => e.name == ("law" : Str)) = some d')
    (F : ∀ (w : World) (mg : Str → Option Value) (fa : Addr) (h : Heap), (K w.params).In h → h.Ns mainGlobals mg → mg d.name = some (.ref fa) →
      ∃ (fd : FuncData) (c Pt : Addr), PySem.W.tabIn (K w.params) "law" = some (c, Pt) ∧ (K w.params).lookup Pt = none ∧ (∀ (s : Shared) (v : Value), BindsTo s fd ⟨[v], []⟩ [("_law_script", v)]) ∧
        ∀ base : Heap, (K w.params).In base → base.Ns mainGlobals mg → LamX.TabB base mg c Pt → FnOk l.prog w (K w.params) mg base CX0 33 fa fd ["_law_script"] (spLawT (K w.params) Pt)) :
    PySem.W.WalkO q loose XP YP l.row.toRowW d [] (fun f vs => PySem.call f vs) := by
  refine Att.attach_callB hn hdf fun w s₀ s₁ mg mb fa o pm cd doc a vs ns G Y ho hd hcd hmg hobj hints hlen hbits hg => ?_
  have KX := hY w _ Y
  obtain ⟨fd, c, Pt, ht, hno, hb, hF⟩ := F w mg fa _ KX G.T.g hmg
  obtain ⟨d', hrec⟩ := hrec
  obtain ⟨hC, hT⟩ := PySem.W.tab_of G.T KX hrec ht
  refine LamX.law_callTs (cs := [(c, Pt)]) (k := 33) (CX := CX0) (sp := spLawT (K w.params) Pt) KX G.T.g G.T.b G.T.builtins G.T.nolimit hg ?_ ?_ ?_ G.T.bmain hobj hints (Nat.le_trans hlen (by decide)) ⟨rfl, by decide, by decide⟩ (fun base k1 k2 tb => hF base k1 k2 (tb (c, Pt) (List.mem_singleton.mpr rfl))) hb (fun H hH hS => ⟨a, ns, rfl, hS, hlen, hH (c, Pt) (List.mem_singleton.mpr rfl), fun _ => rfl⟩) fun _ _ _ z => z
  · intro p hp
    rw [List.mem_singleton.mp hp]
    exact hT
  · intro p hp
    rw [List.mem_singleton.mp hp]
    exact hno
  · intro p hp
    rw [List.mem_singleton.mp hp]
    exact hC
end Fv
open PySem PySem.W PyProof.Rows
set_option maxRecDepth 100000 in
set_option maxHeartbeats 0 in
theorem PySem.Challenge.cw_fivefault_k02_measures_and_subterms_holds : PySem.Challenge.rw_fivefault_k02_measures_and_subterms.Holds := by
  w_on; o_law; k_head; (case hw => w_witness2)
  k_fill
  refine Fv.walk (l := PySem.Challenge.rw_fivefault_k02_measures_and_subterms) rfl rfl (fun w h Y => PySem.W.km_in_of Y) ?R ?F
  case R => exact ⟨_, rfl⟩
  case F =>
    intro w mg fa h KX G hmg
    refine' Fv.all_mk KX G hmg ?a1 ?l1 ?c1 ?k1 ?a2 ?l2 ?c2 ?k2 ?a3 ?l3 ?c3 ?k3 ?a4 ?l4 ?c4 ?k4 ?a5 ?l5 ?c5 ?k5 ?a6 ?l6 ?c6 ?k6 ?a7 ?l7 ?c7 ?k7 ?a8 ?l8 ?c8 ?k8 ?a9 ?l9 ?c9 ?k9 ?a10 ?l10 ?c10 ?k10 ?a11 ?l11 ?c11 ?k11 ?a12 ?l12 ?c12 ?k12 ?a13 ?l13 ?c13 ?k13 ?a14 ?l14 ?c14 ?k14 ?a15 ?l15 ?c15 ?k15 ?a16 ?l16 ?c16 ?k16 ?a17 ?l17 ?c17 ?k17 ?a18 ?l18 ?c18 ?k18 ?a19 ?l19 ?c19 ?k19 ?a20 ?l20 ?c20 ?k20 ?a21 ?l21 ?c21 ?k21 ?a22 ?l22 ?c22 ?k22 ?a23 ?l23 ?c23 ?k23 ?a24 ?l24 ?c24 ?k24 ?a25 ?l25 ?c25 ?k25 ?a26 ?l26 ?c26 ?k26 ?a27 ?l27 ?c27 ?k27 ?a28 ?l28 ?c28 ?k28 ?a29 ?l29 ?c29 ?k29 ?a30 ?l30 ?c30 ?k30 ?y0 ?y1 ?yl1 ?y2 ?y3 ?z_len ?z_int ?z_list ?z_str ?z_tuple ?z_isinstance ?z_bool ?z_dict ?z_all ?z_zip ?z_sum ?z_max ?z_range ?z_super ?z_sorted ?z_set ?e1 ?e23a ?e23b ?e23c ?e20 ?e27 ?e2_InvalidTerm ?e3_InvalidTerm ?e4_InvalidTerm ?e5_InvalidTerm ?e6_InvalidTerm ?e7_InvalidTerm ?e8_InvalidTerm ?e13_InvalidTerm ?e9_InvalidTerm ?e10_InvalidTerm ?e11_InvalidTerm ?e12_InvalidTerm ?e14_InvalidTerm ?e15_InvalidTerm ?e16_InvalidTerm ?e17_InvalidTerm ?e18_InvalidTerm ?e19t_InvalidTerm ?e21_InvalidTerm ?e22_InvalidTerm ?e23d_InvalidTerm ?e24_InvalidTerm ?e25_InvalidTerm ?e26_InvalidTerm ?e31_InvalidTerm ?ecd ?tlc ?t11 ?tPt
    (case a1 => k_is)
    (case l1 => k_is)
    (case c1 => k_is)
    (case k1 => k_is)
    (case a2 => k_is)
    (case l2 => k_is)
    (case c2 => k_is)
    (case k2 => k_is)
    (case a3 => k_is)
    (case l3 => k_is)
    (case c3 => k_is)
    (case k3 => k_is)
    (case a4 => k_is)
    (case l4 => k_is)
    (case c4 => k_is)
    (case k4 => k_is)
    (case a5 => k_is)
    (case l5 => k_is)
    (case c5 => k_is)
    (case k5 => k_is)
    (case a6 => k_is)
    (case l6 => k_is)
    (case c6 => k_is)
    (case k6 => k_is)
    (case a7 => k_is)
    (case l7 => k_is)
    (case c7 => k_is)
    (case k7 => k_is)
    (case a8 => k_is)
    (case l8 => k_is)
    (case c8 => k_is)
    (case k8 => k_is)
    (case a9 => k_is)
    (case l9 => k_is)
    (case c9 => k_is)
    (case k9 => k_is)
    (case a10 => k_is)
    (case l10 => k_is)
    (case c10 => k_is)
    (case k10 => k_is)
    (case a11 => k_is)
    (case l11 => k_is)
    (case c11 => k_is)
    (case k11 => k_is)
    (case a12 => k_is)
    (case l12 => k_is)
    (case c12 => k_is)
    (case k12 => k_is)
    (case a13 => k_is)
    (case l13 => k_is)
    (case c13 => k_is)
    (case k13 => k_is)
    (case a14 => k_is)
    (case l14 => k_is)
    (case c14 => k_is)
    (case k14 => k_is)
    (case a15 => k_is)
    (case l15 => k_is)
    (case c15 => k_is)
    (case k15 => k_is)
    (case a16 => k_is)
    (case l16 => k_is)
    (case c16 => k_is)
    (case k16 => k_is)
    (case a17 => k_is)
    (case l17 => k_is)
    (case c17 => k_is)
    (case k17 => k_is)
    (case a18 => k_is)
    (case l18 => k_is)
    (case c18 => k_is)
    (case k18 => k_is)
    (case a19 => k_is)
    (case l19 => k_is)
    (case c19 => k_is)
    (case k19 => k_is)
    (case a20 => k_is)
    (case l20 => k_is)
    (case c20 => k_is)
    (case k20 => k_is)
    (case a21 => k_is)
    (case l21 => k_is)
    (case c21 => k_is)
    (case k21 => k_is)
    (case a22 => k_is)
    (case l22 => k_is)
    (case c22 => k_is)
    (case k22 => k_is)
    (case a23 => k_is)
    (case l23 => k_is)
    (case c23 => k_is)
    (case k23 => k_is)
    (case a24 => k_is)
    (case l24 => k_is)
    (case c24 => k_is)
    (case k24 => k_is)
    (case a25 => k_is)
    (case l25 => k_is)
    (case c25 => k_is)
    (case k25 => k_is)
    (case a26 => k_is)
    (case l26 => k_is)
    (case c26 => k_is)
    (case k26 => k_is)
    (case a27 => k_is)
    (case l27 => k_is)
    (case c27 => k_is)
    (case k27 => k_is)
    (case a28 => k_is)
    (case l28 => k_is)
    (case c28 => k_is)
    (case k28 => k_is)
    (case a29 => k_is)
    (case l29 => k_is)
    (case c29 => k_is)
    (case k29 => k_is)
    (case a30 => k_is)
    (case l30 => k_is)
    (case c30 => k_is)
    (case k30 => k_is)
    (case y0 => k_is)
    (case y1 => k_is)
    (case yl1 => k_is)
    (case y2 => k_is)
    (case y3 => k_is)
    (case z_len => k_is)
    (case z_int => k_is)
    (case z_list => k_is)
    (case z_str => k_is)
    (case z_tuple => k_is)
    (case z_isinstance => k_is)
    (case z_bool => k_is)
    (case z_dict => k_is)
    (case z_all => k_is)
    (case z_zip => k_is)
    (case z_sum => k_is)
    (case z_max => k_is)
    (case z_range => k_is)
    (case z_super => k_is)
    (case z_sorted => k_is)
    (case z_set => k_is)
    (case e1 => k_is)
    (case e23a => k_is)
    (case e23b => k_is)
    (case e23c => k_is)
    (case e20 => k_is)
    (case e27 => decide +kernel)
    (case e2_InvalidTerm => k_is)
    (case e3_InvalidTerm => k_is)
    (case e4_InvalidTerm => decide +kernel)
    (case e5_InvalidTerm => k_is)
    (case e6_InvalidTerm => k_is)
    (case e7_InvalidTerm => k_is)
    (case e8_InvalidTerm => k_is)
    (case e13_InvalidTerm => k_is)
    (case e9_InvalidTerm => k_is)
    (case e10_InvalidTerm => k_is)
    (case e11_InvalidTerm => k_is)
    (case e12_InvalidTerm => exact rfl)
    (case e14_InvalidTerm => decide +kernel)
    (case e15_InvalidTerm => k_is)
    (case e16_InvalidTerm => ks_is)
    (case e17_InvalidTerm => k_is)
    (case e18_InvalidTerm => k_is)
    (case e19t_InvalidTerm => decide +kernel)
    (case e21_InvalidTerm => k_is)
    (case e22_InvalidTerm => k_is)
    (case e23d_InvalidTerm => k_is)
    (case e24_InvalidTerm => k_is)
    (case e25_InvalidTerm => k_is)
    (case e26_InvalidTerm => k_is)
    (case e31_InvalidTerm => k_is)
    (case ecd => exact rfl)
    (case tlc => k_is)
    (case t11 => exact rfl)
    (case tPt => kernel_rfl)
