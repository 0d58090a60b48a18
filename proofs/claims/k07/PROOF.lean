import PyProof.Rows.All
import Wide.All
import OpenK.AllK
import Wide.FinOn
import HandS.ForMost
import HandS.Codes
import HandS.Walk
import HandS.Wide
import HandS.IsInst
import HandS.Style
import HandS.Exc
import HandS.TryOnly
import HandS.ExcOwn
import HandS.WordsExc
import HandS.Defaults
import HandS.Steps
import HandS.Property
import HandS.StrMore
import HandS.TupLe
import HandS.ExcInit
import HandS.ExcField
import HandS.RaiseMore
import PyProof.Rows.ReprR
import PyProof.StrLawsRepr
import KE.GoesEnum
import KE.GoesMore
import HandS.MakeKw
import HandS.MakeKwOnly
import HandS.ExcIs
import HandS.FStr
import KE.KExcIs
import HandS.Star
import HandS.ClsMeth
import PyProof.ListStr
import PySem.Challenge.RW_workerworlds_k07_whole_runs_of_boxes
set_option Elab.async false
set_option linter.all false
set_option maxRecDepth 100000
set_option maxHeartbeats 4000000
namespace WB
open PySem L2
/-! ### marks -/
def mk : List Nat := List.range' 65 26 ++ List.range' 97 26
abbrev S (l : List Nat) : Str := ⟨l.toArray⟩
def sb (p : Nat → Bool) : Str := S (mk.filter p)
def mem (z : Str) (c : Nat) : Bool := decide (c ∈ z.cps.toList)
def IsC (z : Str) : Prop := ∃ p, z = sb p
theorem marks_eq : ("ABCDEFGHIJKLMNOPQRSTUVWXYZabcdefghijklmnopqrstuvwxyz" : Str) = S mk := by decide +kernel
theorem mem_sb (p : Nat → Bool) (c : Nat) : mem (sb p) c = (decide (c ∈ mk) && p c) := by
  unfold mem sb
  simp [List.mem_filter]
theorem sb_ext {p q : Nat → Bool} (h : ∀ c ∈ mk, p c = q c) : sb p = sb q := by
  unfold sb
  rw [List.filter_congr h]
theorem IsC.eq {z : Str} (h : IsC z) : z = sb (mem z) := by
  obtain ⟨p, rfl⟩ := h
  exact sb_ext fun c hc => by rw [mem_sb, decide_eq_true hc, Bool.true_and]
theorem sb_len (p : Nat → Bool) : (sb p).length ≤ 52 := by
  show (mk.filter p).toArray.size ≤ 52
  rw [List.size_toArray]
  exact List.length_filter_le p mk
/-! ### heaps -/
/-- all that was tracked is as it was, but what stands at p -/
def Bar (p : Addr) (H H' : Hp) : Prop := ∀ b o, b ≠ p → H b = some o → H' b = some o
theorem Bar.refl (p : Addr) (H : Hp) : Bar p H H := fun _ _ _ h => h
theorem Bar.trans {p : Addr} {H H1 H2 : Hp} (a : Bar p H H1) (b : Bar p H1 H2) : Bar p H H2 := fun c o n h => b c o n (a c o n h)
theorem bar_of {p : Addr} {H H' : Hp} (a : Same H H') : Bar p H H' := fun c o _ h => a c o h
theorem same_new {H : Hp} {p : Addr} {o : HO} (h : H p = none) : Same H (upd H p o) := fun b u e => by
  rw [upd_ne (ne_of_none e h)]
  exact e
theorem bar_upd {p : Addr} {H : Hp} {o : HO} : Bar p H (upd H p o) := fun b u n e => by
  rw [upd_ne n]
  exact e
theorem bar_new {p q : Addr} {H : Hp} {o : HO} (h : H q = none) : Bar p H (upd H q o) := fun b u _ e => same_new h b u e
/-! ### readings: the joining of two ways -/
theorem ite_val {c : Bool} {te1 te2 : TE} {σ : L2.St} {H : Hp} {Q : VK} (C : V → Hp → Prop) (h1 : c = true → ∀ Q' : VK, (∀ v H', C v H' → Q' v H') → te1 σ H Q')
    (h2 : c = false → ∀ Q' : VK, (∀ v H', C v H' → Q' v H') → te2 σ H Q') (h : ∀ v H', C v H' → Q v H') : if c = true then te1 σ H Q else te2 σ H Q := by
  cases c with
  | true => exact iteT (h1 rfl Q h)
  | false => exact iteF (h2 rfl Q h)
theorem ite_b {c : Bool} {A B : Prop} (h1 : c = true → A) (h2 : c = false → B) : if c = true then A else B := by
  cases c with
  | true => exact iteT (h1 rfl)
  | false => exact iteF (h2 rfl)
theorem ints_at {ns : List Int} {i : Nat} (h : i < ns.length) : (ns.map V.int)[i]? = some (V.int (ns[i]'h)) := by
  rw [List.getElem?_map, List.getElem?_eq_getElem h]
  rfl
theorem abs_nonneg (n : Int) : 0 ≤ (if n < 0 then -n else n) := by
  split <;> omega
theorem cut_to (xs : List V) (k : Nat) : cutV xs none (some (k : Int)) = xs.take k := by
  unfold cutV
  rw [HT.sIx_none, HT.sIx_nat, List.drop_zero, Nat.sub_zero]
  by_cases h : k ≤ xs.length
  · rw [Nat.min_eq_left h]
  · rw [Nat.min_eq_right (by omega), List.take_of_length_le (Nat.le_refl _), List.take_of_length_le (by omega)]
theorem cdw {i j : Int} (h : 0 < j) (h2 : j < 2 ^ 200) : CDivW i j := by
  refine ⟨h, ?_⟩
  have e : (j.natAbs : Int) = j := Int.natAbs_of_nonneg (by omega)
  have h3 : j.natAbs < 2 ^ 200 := by
    have : (j.natAbs : Int) < ((2 ^ 200 : Nat) : Int) := by
      rw [e]
      exact h2
    exact Int.ofNat_lt.mp this
  exact Nat.lt_trans ((Nat.log2_lt (by omega)).mpr h3) (by decide)
/-! ### data -/
theorem dp_all_ints {K : PySem.W.Frag} {H : Hp} : ∀ ns : List Int, DpAll K H (ns.map V.int) (ns.map PyData.int)
  | [] => .nil
  | n :: r => .cons (.int n) (dp_all_ints r)
theorem dp_ints {K : PySem.W.Frag} {H : Hp} {a : Addr} {ns : List Int} (h : SqL K H a (ns.map V.int)) : Dp K H (.ref a) (.list (ns.map PyData.int)) := .lst h (dp_all_ints ns)
theorem lay_ints : ∀ ns : List Int, PyData.canLayAll0 (ns.map PyData.int) = true ∧ PyData.depthAll (ns.map PyData.int) = 0
  | [] => ⟨rfl, rfl⟩
  | n :: r => by
    obtain ⟨h1, h2⟩ := lay_ints r
    refine ⟨?_, ?_⟩
    · show (PyData.canLay0 (.int n) && PyData.canLayAll0 (r.map PyData.int)) = true
      rw [h1]
      rfl
    · show max (PyData.depth (.int n)) (PyData.depthAll (r.map PyData.int)) = 0
      rw [h2]
      rfl
theorem shaped_ints (ns : List Int) : SeqAt.shaped (.list (ns.map PyData.int)) = true := by
  obtain ⟨h1, h2⟩ := lay_ints ns
  have e1 : PyData.canLay0 (.list (ns.map PyData.int)) = true := h1
  have e2 : PyData.depth (.list (ns.map PyData.int)) ≤ 64 := by
    show PyData.depthAll (ns.map PyData.int) + 1 ≤ 64
    omega
  unfold SeqAt.shaped
  rw [e1, decide_eq_true e2]
  rfl
theorem eqv_nil_ints (ns : List Int) : PyData.eqv (.list (ns.map PyData.int)) (.list []) = decide (ns = []) := by
  cases ns with
  | nil => rfl
  | cons n r =>
    rw [decide_eq_false (by simp)]
    rfl
/-! ### the bag of draws -/
def BagAt (H : Hp) (p q : Addr) : Prop := ∃ (c s i : Int) (ns : List Int),
  H p = some (.lst [.int c, .int s, .int i, .ref q]) ∧ H q = some (.lst (ns.map V.int)) ∧ ns.length ≤ 63 ∧ 0 ≤ c ∧ 0 ≤ s ∧ s < 2 ^ 40 ∧ 0 ≤ i
theorem BagAt.same {H H' : Hp} {p q : Addr} (h : BagAt H p q) (e : Same H H') : BagAt H' p q := by
  obtain ⟨c, s, i, ns, h1, h2, h3⟩ := h
  exact ⟨c, s, i, ns, e _ _ h1, e _ _ h2, h3⟩
theorem BagAt.bar {H H' : Hp} {p q x : Addr} (h : BagAt H p q) (e : Bar x H H') (n : p ≠ x) (m : q ≠ x) : BagAt H' p q := by
  obtain ⟨c, s, i, ns, h1, h2, h3⟩ := h
  exact ⟨c, s, i, ns, e _ _ n h1, e _ _ m h2, h3⟩
theorem BagAt.pq {H : Hp} {p q : Addr} (h : BagAt H p q) : q ≠ p := fun e => by
  obtain ⟨c, s, i, ns, h1, h2, _⟩ := h
  rw [e, h1] at h2
  have e2 := congrArg (fun l : List V => l[3]?) (HO.lst.inj (Option.some.inj h2))
  have e3 : (some (V.ref q) : Option V) = (ns.map V.int)[3]? := e2
  rw [List.getElem?_map] at e3
  cases e4 : ns[3]? <;> rw [e4] at e3 <;> cases e3
theorem BagAt.there {H : Hp} {p q l : Addr} (h : BagAt H p q) (hl : H l = none) : l ≠ p := by
  obtain ⟨c, s, i, ns, h1, _⟩ := h
  exact (ne_of_none h1 hl).symm
theorem BagAt.there2 {H : Hp} {p q l : Addr} (h : BagAt H p q) (hl : H l = none) : l ≠ q := by
  obtain ⟨c, s, i, ns, _, h1, _⟩ := h
  exact (ne_of_none h1 hl).symm
def spBag (K : PySem.W.Frag) : Sp := fun vs H Q _ => ∃ (a : Addr) (ns : List Int) (j : Nat), vs = [.ref a, .int (j : Int)] ∧ SqL K H a (ns.map V.int) ∧ ns.length ≤ 63 ∧ j < 63 ∧
  ∀ H' p q, Same H H' → H p = none → H q = none → BagAt H' p q → Q (.ref p) H'
def spTake : Sp := fun vs H Q _ => ∃ (p q : Addr) (m : Int), vs = [.ref p, .int m] ∧ BagAt H p q ∧ 0 < m ∧ m < 2 ^ 200 ∧
  ∀ H' (d : Int), Bar p H H' → BagAt H' p q → 0 ≤ d → d < m → Q (.int d) H'
/-! ### parts of the marks -/
theorem sub_filter {m l : List Nat} (h : l.Sublist m) : m.Nodup → l = m.filter (fun c => decide (c ∈ l)) := by
  induction h with
  | slnil => intro _; rfl
  | @cons l m a h ih =>
    intro hn
    have hn2 := List.nodup_cons.mp hn
    have ha : a ∉ l := fun q => hn2.1 (h.subset q)
    rw [List.filter_cons_of_neg (by simp [ha])]
    exact ih hn2.2
  | @cons_cons l m a h ih =>
    intro hn
    have hn2 := List.nodup_cons.mp hn
    rw [List.filter_cons_of_pos (by simp)]
    have e := ih hn2.2
    have e2 : m.filter (fun c => decide (c ∈ a :: l)) = m.filter (fun c => decide (c ∈ l)) := List.filter_congr fun c hc => by
      have hca : c ≠ a := fun q => hn2.1 (q ▸ hc)
      simp [hca]
    rw [e2, ← e]
theorem mk_nodup : mk.Nodup := by decide +kernel
theorem mk_len : mk.length = 52 := by decide +kernel
theorem isC_of {l : List Nat} (h : l.Sublist mk) : IsC (S l) := ⟨fun c => decide (c ∈ l), congrArg S (sub_filter h mk_nodup)⟩
theorem sub_step {l : List Nat} {i c : Nat} (h : l.Sublist (mk.take i)) (hc : mk[i]? = some c) : (l ++ [c]).Sublist (mk.take (i + 1)) ∧ l.Sublist (mk.take (i + 1)) := by
  have e : mk.take (i + 1) = mk.take i ++ [c] := by
    rw [List.take_add_one, hc]
    rfl
  rw [e]
  exact ⟨List.Sublist.append h (List.Sublist.refl _), h.trans (List.sublist_append_left _ _)⟩
def sg (c : Nat) : V := .str ⟨#[c]⟩
theorem joinL_one : ∀ l : List Nat, TL.joinL [] (l.map fun c => [c]) = l
  | [] => rfl
  | [c] => rfl
  | c :: d :: r => by
    have ih := joinL_one (d :: r)
    show [c] ++ [] ++ TL.joinL [] ((d :: r).map fun c => [c]) = c :: d :: r
    rw [ih]
    rfl
theorem join_signs (l : List Nat) : Txt.join (S []) (l.map fun c => S [c]) = S l := by
  have e := SX.join_S [] (l.map fun c => [c])
  rw [List.map_map] at e
  rw [joinL_one] at e
  exact e
def spOf : Sp := fun vs H Q _ => ∃ (p q : Addr) (y : V), vs = [.ref p, y] ∧ BagAt H p q ∧
  ((∃ l xs, y = .ref l ∧ l ≠ p ∧ H l = some (.lst xs) ∧ 0 < xs.length ∧ xs.length < 1000 ∧ ∀ H' x, Bar p H H' → BagAt H' p q → x ∈ xs → Q x H') ∨
   (∃ z : List Nat, y = .str (S z) ∧ 0 < z.length ∧ z.length < 1000 ∧ ∀ H' c, Bar p H H' → BagAt H' p q → c ∈ z → Q (sg c) H'))
def spContents : Sp := fun vs H Q _ => ∃ p q : Addr, vs = [.ref p] ∧ BagAt H p q ∧ ∀ H' z, Bar p H H' → BagAt H' p q → IsC z → Q (.str z) H'
theorem mk_at {i c : Nat} (h : (("ABCDEFGHIJKLMNOPQRSTUVWXYZabcdefghijklmnopqrstuvwxyz" : Str)).cps[i]? = some c) : mk[i]? = some c := by
  rw [marks_eq] at h
  rw [← List.getElem?_toArray]
  exact h
theorem arr_at {z : Str} {i c : Nat} (h : z.cps[i]? = some c) : z.cps.toList[i]? = some c := by
  rw [Array.getElem?_toList]
  exact h
/-- the signs of the first i that keep t -/
def filt (z : List Nat) (t : Nat → Bool) (i : Nat) : List V := ((z.take i).filter t).map sg
theorem filt_yes {z : List Nat} {t : Nat → Bool} {i c : Nat} (h : z[i]? = some c) (ht : t c = true) : filt z t (i + 1) = filt z t i ++ [sg c] := by
  unfold filt
  rw [List.take_add_one, h]
  show ((z.take i ++ [c]).filter t).map sg = _
  rw [List.filter_append, List.filter_cons_of_pos ht, List.filter_nil, List.map_append]
  rfl
theorem filt_no {z : List Nat} {t : Nat → Bool} {i c : Nat} (h : z[i]? = some c) (ht : t c = false) : filt z t (i + 1) = filt z t i := by
  unfold filt
  rw [List.take_add_one, h]
  show ((z.take i ++ [c]).filter t).map sg = _
  rw [List.filter_append, List.filter_cons_of_neg (by rw [ht]; exact Bool.false_ne_true), List.filter_nil, List.append_nil]
theorem filt_len {z : List Nat} {t : Nat → Bool} {i : Nat} : (filt z t i).length ≤ z.length := by
  unfold filt
  rw [List.length_map]
  exact Nat.le_trans (List.length_filter_le _ _) (by rw [List.length_take]; omega)
theorem filt_end {z : List Nat} {t : Nat → Bool} {n : Nat} (h : z.length ≤ n) : filt z t n = (z.filter t).map sg := by
  unfold filt
  rw [List.take_of_length_le h]
theorem sum_ones : ∀ l : List Nat, ((l.map fun c => S [c]).map (·.length)).sum = l.length
  | [] => rfl
  | c :: r => by
    have ih := sum_ones r
    show 1 + ((r.map fun c => S [c]).map (·.length)).sum = r.length + 1
    rw [ih]
    omega
theorem join_ok {K : PySem.W.Frag} {H : Hp} {p : Addr} {Q : VK} (l : List Nat) (hl : l.length ≤ 1000000) (hp : H p = some (.lst (l.map sg))) (q : Q (.str (S l)) H) :
    ∃ (a : Str) (p' : Addr) (ys : List Str), V.str "" = .str a ∧ [V.ref p] = [.ref p'] ∧ (SqL K H p' (ys.map V.str) ∨ SqT K H p' (ys.map V.str)) ∧ (ys.map (·.length)).sum + ys.length * a.length ≤ 16777216 ∧ Q (.str (Txt.join a ys)) H := by
  have e : ("" : Str) = S [] := by decide +kernel
  refine ⟨S [], p, l.map fun c => S [c], by rw [e], rfl, .inl (SqL.of ?_), ?_, ?_⟩
  · rw [List.map_map]
    exact hp
  · rw [sum_ones]
    show l.length + _ * 0 ≤ _
    omega
  · rw [join_signs]
    exact q
theorem mk_size : ("ABCDEFGHIJKLMNOPQRSTUVWXYZabcdefghijklmnopqrstuvwxyz" : Str).cps.size = 52 := by decide +kernel
/-! ### strings of marks -/
def spEither : Sp := fun vs H Q _ => ∃ a b : Str, vs = [.str a, .str b] ∧ ∀ H', Same H H' → Q (.str (sb fun c => mem a c || mem b c)) H'
def spBoth : Sp := fun vs H Q _ => ∃ a b : Str, vs = [.str a, .str b] ∧ a.length ≤ 1000000 ∧ ∀ H', Same H H' → Q (.str (S (a.cps.toList.filter fun c => mem b c))) H'
def spWithout : Sp := fun vs H Q _ => ∃ a b : Str, vs = [.str a, .str b] ∧ a.length ≤ 1000000 ∧ ∀ H', Same H H' → Q (.str (S (a.cps.toList.filter fun c => !mem b c))) H'
def spExactly : Sp := fun vs H Q _ => ∃ a b : Str, vs = [.str a, .str b] ∧ IsC a ∧ IsC b ∧ ∀ H', Same H H' → Q (.str (sb fun c => mem a c != mem b c)) H'
/-! ### own classes: is it the same object; the signs -/
structure EqC (K : PySem.W.Frag) (C : Addr) : Prop where
  ex : ∃ nm q N bs hdct sn sub ab col dd k0 k1 k2 k3 k5 newId, K.lookup C = some (excClassObj nm q C N bs [.type "object"] hdct sn sub ab col dd k0 k1 k2 k3 k5 newId) ∧
    PySem.W.nsOkIn K N = true ∧ PySem.W.nsIn K N "__eq__" = some none ∧ PySem.W.nsIn K N "__ne__" = some none
theorem EqC.inst {K : PySem.W.Frag} {C a dx : Addr} {h : Heap} (E : EqC K C) (X : K.In h) (e : h.get? a = some (PySem.W.instObj C dx)) : h.CmpInst a C [.type "object"] := by
  obtain ⟨nm, q, N, bs, hdct, sn, sub, ab, col, dd, k0, k1, k2, k3, k5, newId, h1, h2, h3, h4⟩ := E.ex
  exact ⟨_, nm, q, N, bs, hdct, sn, sub, ab, col, dd, k0, k1, k2, k3, k5, newId, h.nsMap N, e, rfl, X _ _ h1, .of_isNs (PySem.W.isNs_of_in X h2), PySem.W.nsMap_none_of_in X h2 h3, PySem.W.nsMap_none_of_in X h2 h4⟩
section
variable {X : Cx} {C : Addr}
theorem ins_at {pins : List (Addr × Obj)} {σ : L2.St} {H : Hp} {s : Shared} {a dx : Addr} {fs : List (Str × V)} (I : Inv X pins σ H s) (e : H a = some (.ins C dx fs)) : s.heap.get? a = some (PySem.W.instObj C dx) := by
  obtain ⟨_, _, _, e2, _⟩ := (show ObjOk X.prog X.w H s.heap a (.ins C dx fs) from I.hok a _ e)
  exact e2
def rSame (C : Addr) (f : Bool → Bool) : R2 := fun x y H Q => ∃ a b dx fs dx' fs', x = .ref a ∧ y = .ref b ∧ H a = some (.ins C dx fs) ∧ H b = some (.ins C dx' fs') ∧ Q (.bl (f (decide (a = b)))) H
theorem op_eqO (E : EqC X.K C) (hu : X.A.units + 1 < cLine) : OpR X (compareOp .Eq) (rSame C id) := by
  intro pins s σ H x y v u Q I rx ry h
  obtain ⟨a, b, dx, fs, dx', fs', rfl, rfl, ha, hb, q⟩ := h
  obtain rfl : v = Value.ref a := rx
  obtain rfl : u = Value.ref b := ry
  have e1 := E.inst I.kIn (ins_at I ha)
  have e2 := E.inst I.kIn (ins_at I hb)
  obtain ⟨hh, g, d, t, os⟩ := s
  by_cases c : a = b
  · subst c
    refine compareOp_eq_same PySem.F.cmp_object e1 (by omega) ⟨.bl true, H, I, rfl, ?_⟩
    rw [decide_eq_true rfl] at q
    exact q
  · refine compareOp_eq_other PySem.F.cmp_object PySem.F.cmp_object e1 e2 c (by omega) ⟨.bl false, H, I, rfl, ?_⟩
    rw [decide_eq_false c] at q
    exact q
theorem op_neO (E : EqC X.K C) (hu : X.A.units + 1 < cLine) : OpR X (compareOp .NotEq) (rSame C not) := by
  intro pins s σ H x y v u Q I rx ry h
  obtain ⟨a, b, dx, fs, dx', fs', rfl, rfl, ha, hb, q⟩ := h
  obtain rfl : v = Value.ref a := rx
  obtain rfl : u = Value.ref b := ry
  have e1 := E.inst I.kIn (ins_at I ha)
  have e2 := E.inst I.kIn (ins_at I hb)
  obtain ⟨hh, g, d, t, os⟩ := s
  by_cases c : a = b
  · subst c
    refine compareOp_ne_same PySem.F.cmp_object e1 hu ⟨.bl false, H, I, rfl, ?_⟩
    rw [decide_eq_true rfl] at q
    exact q
  · refine compareOp_ne_other PySem.F.cmp_object PySem.F.cmp_object e1 e2 c hu ⟨.bl true, H, I, rfl, ?_⟩
    rw [decide_eq_false c] at q
    exact q
/-- one sign of an own class: x op y, by its method -/
structure SignC (K : PySem.W.Frag) (C : Addr) (nm : Str) (f : Addr) : Prop where
  first : PySem.W.selfFirst K C = true
  at_ : PySem.W.findIn K (.ref C) nm = some (some (.ref f))
  fn : PySem.W.isFn K (.ref f) = true
def rSign (C : Addr) (sp : Sp) (E : XK) : R2 := fun x y H Q => ∃ a b dx fs dx' fs', x = .ref a ∧ y = .ref b ∧ H a = some (.ins C dx fs) ∧ H b = some (.ins C dx' fs') ∧ sp [.ref a, .ref b] H (fun v H' => (∃ c, v = .ref c) ∧ Q v H') E
theorem op_sign {CX : CXT} {k : Nat} {f : Addr} {fd : FuncData} {ps : List Str} {sp : Sp} {E : XK} {op : Operator} (S : SignC X.K C (PySem.dunder op.info.2) f) (F : FnOk X.prog X.w X.K X.mg X.base CX k f fd ps sp) (hr : Room k X.A) (hb : Binds X.K fd ps []) (hx : Passes CX X E) :
    OpR X (binaryOp op) (rSign C sp E) := by
  intro pins s σ H x y v u Q I rx ry h
  obtain ⟨a, b, dx, fs, dx', fs', rfl, rfl, ha, hb2, q⟩ := h
  obtain rfl : v = Value.ref a := rx
  obtain rfl : u = Value.ref b := ry
  obtain ⟨m, Fm⟩ := I.fr
  obtain ⟨mA, O, _, _, _, _⟩ := ins_get I.hok ha
  obtain ⟨od, J, _⟩ := O.look
  obtain ⟨mB, O2, _, _, _, _⟩ := ins_get I.hok hb2
  obtain ⟨od2, J2, _⟩ := O2.look
  refine PySem.W.binop_K Fm I.mod.kin J J2.type S.first S.at_ S.fn ?_
  refine wpAny_mono (run_fn F hr hb .nil hx I (us := [.ref a, .ref b]) (vs := [.ref a, .ref b]) (.cons rfl (.cons rfl .nil)) q) (fun r s' hq => ?_) fun _ _ e => e
  obtain ⟨z, H', I', rz, ⟨c, rfl⟩, q'⟩ := hq
  obtain rfl : r = Value.ref c := rz
  exact ⟨.ref c, H', I', rfl, q'⟩
end
/-! ### boxes -/
def boxF (z : Str) : List (Str × V) := [("contents", .str z)]
def BoxAt (C : Addr) (H : Hp) (a : Addr) (z : Str) : Prop := ∃ dx, H a = some (.ins C dx (boxF z))
theorem boxF_lk (z : Str) : (boxF z).lookup ("contents" : Str) = some (.str z) := by simp [boxF, List.lookup]
theorem boxF_put (z y : Str) : putF "contents" (.str y) (boxF z) = boxF y := by
  show (if ("contents" : Str) = "contents" then _ else _) = _
  rw [if_pos rfl]
  rfl
theorem boxF_new (y : Str) : putF "contents" (.str y) [] = boxF y := rfl
theorem boxF_no (z : Str) {m : Str} (h : ¬ m = "contents") : (boxF z).lookup m = none := by
  have e : (m == ("contents" : Str)) = false := by simpa using h
  simp [boxF, List.lookup, e]
theorem BoxAt.same {C a : Addr} {H H' : Hp} {z : Str} (h : BoxAt C H a z) (e : Same H H') : BoxAt C H' a z := by
  obtain ⟨dx, h⟩ := h
  exact ⟨dx, e _ _ h⟩
theorem BoxAt.bar {C a p : Addr} {H H' : Hp} {z : Str} (h : BoxAt C H a z) (e : Bar p H H') (n : a ≠ p) : BoxAt C H' a z := by
  obtain ⟨dx, h⟩ := h
  exact ⟨dx, e _ _ n h⟩
theorem BoxAt.ne {C a b : Addr} {H : Hp} {z : Str} (h : BoxAt C H a z) (hb : H b = none) : a ≠ b := by
  obtain ⟨dx, h⟩ := h
  exact ne_of_none h hb
theorem BoxAt.one {C a : Addr} {H : Hp} {y z : Str} (h : BoxAt C H a z) (h2 : BoxAt C H a y) : z = y := by
  obtain ⟨dx, h⟩ := h
  obtain ⟨dy, h2⟩ := h2
  rw [h] at h2
  have e := Option.some.inj h2
  injection e with _ _ e
  have e3 := congrArg (fun l : List (Str × V) => l.lookup ("contents" : Str)) e
  rw [boxF_lk, boxF_lk] at e3
  injection e3 with e3
  injection e3
theorem BoxAt.bag {C a p q : Addr} {H : Hp} {z : Str} (h : BoxAt C H a z) (hb : BagAt H p q) : a ≠ p := by
  obtain ⟨dx, h⟩ := h
  obtain ⟨c, s, i, ns, h1, _⟩ := hb
  exact ne_of h h1 (by intro e; cases e)
theorem BoxAt.bag2 {C a p q : Addr} {H : Hp} {z : Str} (h : BoxAt C H a z) (hb : BagAt H p q) : a ≠ q := by
  obtain ⟨dx, h⟩ := h
  obtain ⟨c, s, i, ns, _, h1, _⟩ := hb
  exact ne_of h h1 (by intro e; cases e)
/-- what the top says of Box -/
structure BoxC (K : PySem.W.Frag) (mg : Str → Option Value) (C : Addr) : Prop where
  cl : Cls K C
  nC : NoAttr K C "contents"
  gB : ∃ u, mg "Box" = some u ∧ RelV (.ref C) u
  eq : EqC K C
  ca : PySem.W.findIn K (.ref C) "__class__" = some (some (.builtin "object.__class__"))
  cn : PySem.W.specialIn K (.builtin "object.__class__") "__get__" = some (some (.builtin "getset_descriptor.__get__"))
  ct : PySem.W.takesIn K (.builtin "object.__class__") = some true
  cm : PySem.W.mroIn K C (.type "object") = some true
  kit : PySem.W.kitOne K (.ref C) (.ref C) = some true
theorem BoxC.ty {K : PySem.W.Frag} {mg : Str → Option Value} {C a dx : Addr} {H : Hp} {fs : List (Str × V)} (B : BoxC K mg C) (h : H a = some (.ins C dx fs)) : TyX K H (.ref a) (.ref C) :=
  .base (.ins h B.cl B.ca B.cn B.ct B.cm)
def spInit (C : Addr) : Sp := fun vs H Q _ => ∃ (a dx : Addr) (z : Str), vs = [.ref a, .str z] ∧ H a = some (.ins C dx []) ∧ IsC z ∧ ∀ H', Bar a H H' → BoxAt C H' a z → Q .non H'
def spBecome (C : Addr) : Sp := fun vs H Q _ => ∃ (a : Addr) (y z : Str), vs = [.ref a, .str z] ∧ BoxAt C H a y ∧ IsC z ∧ ∀ H', Bar a H H' → BoxAt C H' a z → Q .non H'
def spSign (C : Addr) (g : Bool → Bool → Bool) : Sp := fun vs H Q _ => ∃ (a b : Addr) (y z : Str), vs = [.ref a, .ref b] ∧ BoxAt C H a y ∧ BoxAt C H b z ∧ IsC y ∧ IsC z ∧
  ∀ H' c, Same H H' → H c = none → BoxAt C H' c (sb fun m => g (mem y m) (mem z m)) → Q (.ref c) H'
def spAre (K : PySem.W.Frag) : Sp := fun vs H Q _ => ∃ x : V, vs = [x] ∧ ((∃ z, x = .str z ∧ ∀ H', Same H H' → Q (.bl (decide (z = sb (mem z)))) H') ∨ (∃ t, TyX K H x (.type t) ∧ kitB t "str" = some false ∧ Q (.bl false) H))
def spChecked : Sp := fun vs H Q _ => ∃ z : Str, vs = [.str z] ∧ IsC z ∧ ∀ H', Same H H' → Q (.str z) H'
theorem isC_sb (p : Nat → Bool) : IsC (sb p) := ⟨p, rfl⟩
theorem IsC.len {z : Str} (h : IsC z) : z.length ≤ 52 := by
  obtain ⟨p, rfl⟩ := h
  exact sb_len p
/-- a part of contents is contents again -/
theorem IsC.filt {z : Str} (h : IsC z) (t : Nat → Bool) : S (z.cps.toList.filter t) = sb fun c => mem z c && t c := by
  obtain ⟨p, rfl⟩ := h
  show S ((mk.filter p).filter t) = S (mk.filter _)
  rw [List.filter_filter]
  refine congrArg S (List.filter_congr fun c hc => ?_)
  rw [mem_sb, decide_eq_true hc, Bool.true_and, Bool.and_comm]
/-! ### signs, by their method, in short -/
structure Sgn (P : Program) (w : World) (K : PySem.W.Frag) (mg : Str → Option Value) (base : Heap) (k : Nat) (C : Addr) (op : Operator) (sp : Sp) : Prop where
  ex : ∃ (f : Addr) (fd : FuncData) (ps : List Str), SignC K C (PySem.dunder op.info.2) f ∧ FnOk P w K mg base CX0 k f fd ps sp ∧ Binds K fd ps []
theorem op_sgn {X : Cx} {k j : Nat} {C : Addr} {op : Operator} {sp : Sp} (S : Sgn X.prog X.w X.K X.mg X.base k C op sp) (hr : Room j X.A) (hk : k ≤ j) : OpR X (binaryOp op) (rSign C sp E0) := by
  obtain ⟨f, fd, ps, h1, h2, h3⟩ := S.ex
  exact op_sign h1 h2 (hr.mono hk) h3 pass0
section
variable {σ : L2.St} {H : Hp} {t u c : TT} {a b : Bool} {D : Ends} {t1 t2 : TS}
theorem ans_orB (h1 : Ans t σ H a) (h2 : Ans u σ H b) : Ans (tOr t u) σ H (a || b) := fun Q q => h1 _ (by
  cases a with
  | true => exact iteT q
  | false => exact iteF (h2 _ q))
theorem st_if (h : Ans c σ H b) (q : if b = true then t1 D σ H else t2 D σ H) : tIfS c t1 t2 D σ H := h _ q
end
/-! ### what is due -/
def gs (s : Nat) (x y : Bool) : Bool := if s = 124 then x || y else if s = 38 then x && y else if s = 94 then x != y else x && !y
def isSign (s : Nat) : Prop := s = 124 ∨ s = 38 ∨ s = 94 ∨ s = 45
def spDue : Sp := fun vs H Q _ => ∃ (s : Nat) (a b : Str), vs = [.str (S [s]), .str a, .str b] ∧ isSign s ∧ Q (.str (sb fun c => gs s (mem a c) (mem b c))) H
def spSigned (C : Addr) : Sp := fun vs H Q _ => ∃ (s : Nat) (a b : Addr) (y z : Str), vs = [.str (S [s]), .ref a, .ref b] ∧ isSign s ∧ BoxAt C H a y ∧ BoxAt C H b z ∧ IsC y ∧ IsC z ∧
  ∀ H' c, Same H H' → H c = none → BoxAt C H' c (sb fun m => gs s (mem y m) (mem z m)) → Q (.ref c) H'
theorem due_bool {s : Nat} (hs : isSign s) (x y : Bool) :
    (((decide (V.str (S [s]) = V.str "|") && decide ((0 : Int) < (if x then 1 else 0) + (if y then 1 else 0))) || ((decide (V.str (S [s]) = V.str "&") && decide (V.int ((if x then 1 else 0) + (if y then 1 else 0)) = V.int 2)) || (decide (V.str (S [s]) = V.str "^") && decide (V.int ((if x then 1 else 0) + (if y then 1 else 0)) = V.int 1)))) = (gs s x y && !decide (s = 45))) ∧
    ((decide (V.str (S [s]) = V.str "-") && (x && !y)) = (gs s x y && decide (s = 45))) := by
  rcases hs with rfl | rfl | rfl | rfl <;> cases x <;> cases y <;> decide +kernel
def spRight (C : Addr) : Sp := fun vs H Q _ => ∃ (s : Nat) (a b : Addr) (y z l : Str), vs = [.str (S [s]), .ref a, .ref b, .str l] ∧ isSign s ∧ BoxAt C H a y ∧ BoxAt C H b z ∧ IsC y ∧ IsC z ∧ IsC l ∧
  ∀ H', (∀ x o, x ≠ a → x ≠ b → H x = some o → H' x = some o) → BoxAt C H' a y → BoxAt C H' b z → Q (.bl true) H'
theorem scal_str (a b : Str) : scal (.str a) (.str b) = true := rfl
theorem dec_str_same (z : Str) : decide (V.str z = V.str z) = true := decide_eq_true rfl
theorem if_join {b : Bool} {t1 t2 : TS} {D : Ends} {σ : L2.St} {H : Hp} (C : L2.St → Hp → Prop) (h1 : b = true → ∀ nx' : L2.St → Hp → Prop, (∀ σ' H', C σ' H' → nx' σ' H') → t1 { D with nx := nx' } σ H)
    (h2 : b = false → ∀ nx' : L2.St → Hp → Prop, (∀ σ' H', C σ' H' → nx' σ' H') → t2 { D with nx := nx' } σ H) (h : ∀ σ' H', C σ' H' → D.nx σ' H') : if b = true then t1 D σ H else t2 D σ H := by
  cases b with
  | true => exact iteT (h1 rfl D.nx h)
  | false => exact iteF (h2 rfl D.nx h)
theorem same_made {H H' : Hp} {x dx : Addr} {o o' : HO} (nx : H x = none) (nd : H dx = none) (b : Bar x (upd (upd H dx o) x o') H') : Same H H' := fun c u e => by
  have n1 : c ≠ x := ne_of_none e nx
  refine b c u n1 ?_
  rw [upd_ne n1, upd_ne (ne_of_none e nd)]
  exact e
/-- a change at a place that H0 does not know -/
theorem same_bar {H0 H H' : Hp} {p : Addr} (s : Same H0 H) (n : H0 p = none) (b : Bar p H H') : Same H0 H' := fun c u e => b c u (ne_of_none e n) (s c u e)
def spLaw (K : PySem.W.Frag) : Sp := fun vs H Q _ => ∃ (a : Addr) (ns : List Int), vs = [.ref a] ∧ SqL K H a (ns.map V.int) ∧ ns.length ≤ 63 ∧ ∀ H', Q (.bl true) H'
theorem calOf {P : Program} {w : World} {K : PySem.W.Frag} {mg : Str → Option Value} {base : Heap} {k : Nat} {x q : Str} {st : Stmt} {f : Addr} {fd : FuncData} {ps : List Str} {sp : Sp} (F : L2.Fun K x q st f fd) (g : mg x = some (.ref f)) (b : Binds K fd ps [])
    (ok : FnOk P w K mg base CX0 k f fd ps sp) : C8.Cal P w K mg base k x sp [] := ⟨f, fd, ps, [], ok, g, F.kp, b, .nil⟩
theorem kit_self {K : PySem.W.Frag} {C : Addr} : PySem.W.kitOne K (.ref C) (.ref C) = some true := by
  unfold PySem.W.kitOne
  rw [if_pos (beq_self_eq_true _)]
theorem nsOk_of {K : PySem.W.Frag} {N : Addr} {c : Value} {d : Option Addr} {es : Array DictEntry} {n : Nat} {sl : Array (Option Value)} (l : K.lookup N = some ⟨c, d, .dict es n, sl⟩)
    (h : (es.toList.all fun e => match e.key with | .str _ _ => true | _ => false) = true) : PySem.W.nsOkIn K N = true := by
  unfold PySem.W.nsOkIn
  rw [l]
  show es.all _ = true
  rw [← Array.all_toList]
  exact h
section
open PySem.W PyProof.Rows PySem.Calls
variable {K : PySem.W.Frag} {C f : Addr}
theorem fills_in {M : Model} {h : Heap} {nm : String} {add : Bool} {cd : ClassData} {rest : List Value} (X : K.In h) (hc : clsIn K C = some cd) (hm : cd.mro = .ref C :: rest)
    (hs : findIn K (.ref C) (dunderI nm) = some (some (.ref f))) : Looks M h (fillsInplaceSlot (.ref C) nm add) true := by
  intro A Q E s k q
  unfold fillsInplaceSlot
  refine wpAny_bind ((looks_clsIn X hc).andThen (f := fun cd => pure cd.mro) .now A _ E s k ?_)
  rw [hm, List.anyM_cons]
  refine wpAny_bind (wpAny_bind (looks_findIn X hs A _ E s k ?_))
  dsimp only
  have own : (!ownNameWrapper (.ref f) (dunderI nm)) = true := rfl
  rw [if_pos own]
  exact wpAny_pure (by
    rw [if_pos rfl]
    exact wpAny_pure q)
theorem inplace_own {prog : Program} {w : World} {A : Around} {E : Value → Shared → Prop} {s : Shared} {x : Addr} {ox : Obj} {od : Option Obj} {op : Operator} {b : Value} {Q : Value → Shared → Prop} (X : K.In s.heap) (I : PySem.W.InstAt s.heap x ox C od) (hc : selfFirst K C = true)
    (hs : findIn K (.ref C) (dunderI op.info.2) = some (some (.ref f))) (hf : isFn K (.ref f) = true)
    (h : wpAny (model prog w) A (call (.ref f) [.ref x, b]) (PySem.W.CmpBack Q) E s) : wpAny (model prog w) A (inplaceOp op (.ref x) b) Q E s := by
  obtain ⟨cd, hcd, hm⟩ := any_some hc
  obtain ⟨rest, hm⟩ : ∃ rest, cd.mro = .ref C :: rest := by
    cases q : cd.mro with
    | nil =>
      rw [q] at hm
      cases hm
    | cons a r =>
      rw [q, List.head?_cons] at hm
      cases beq_iff_eq.mp hm
      exact ⟨r, rfl⟩
  unfold inplaceOp
  refine wpAny_holding ?_
  dsimp only
  refine wpAny_bind (I.type.here ?_)
  refine wpAny_bind ((fills_in X hcd hm hs).here ?_)
  rw [if_pos rfl]
  refine wpAny_bind (m := tryMethod (.ref x) _ b) ?_
  unfold tryMethod
  refine wpAny_bind (special_fn X I hs (beq_iff_eq.mp hf) (wpAny_mono h (fun v s' hv => ?_) fun _ _ e => e))
  cases v <;> first | exact hv.elim | exact wpAny_pure (wpAny_bind (wpAny_rule (wpAny_pure hv)))
end
/-- x op= y, by the class's own method -/
structure ISgn (P : Program) (w : World) (K : PySem.W.Frag) (mg : Str → Option Value) (base : Heap) (k : Nat) (C : Addr) (op : Operator) (sp : Sp) : Prop where
  ex : ∃ (f : Addr) (fd : FuncData) (ps : List Str), SignC K C (PySem.dunderI op.info.2) f ∧ FnOk P w K mg base CX0 k f fd ps sp ∧ Binds K fd ps []
theorem ip_sgn {X : Cx} {k j : Nat} {C : Addr} {op : Operator} {sp : Sp} (S : ISgn X.prog X.w X.K X.mg X.base k C op sp) (hr : Room j X.A) (hk : k ≤ j) : PIp X op (rSign C sp E0) := by
  obtain ⟨f, fd, ps, h1, h2, h3⟩ := S.ex
  intro pins s σ H x y v u Q I rx ry h
  obtain ⟨a, b, dx, fs, dx', fs', rfl, rfl, ha, hb2, q⟩ := h
  obtain rfl : v = Value.ref a := rx
  obtain rfl : u = Value.ref b := ry
  obtain ⟨mA, O, _, _, _, _⟩ := ins_get I.hok ha
  obtain ⟨od, J, _⟩ := O.look
  refine inplace_own I.kIn J h1.first h1.at_ h1.fn ?_
  refine wpAny_mono (run_fn h2 (hr.mono hk) h3 .nil pass0 I (us := [.ref a, .ref b]) (vs := [.ref a, .ref b]) (.cons rfl (.cons rfl .nil)) q) (fun r s' hq => ?_) fun _ _ e => e
  obtain ⟨z, H', I', rz, ⟨c, rfl⟩, q'⟩ := hq
  obtain rfl : r = Value.ref c := rz
  exact ⟨.ref c, H', I', rfl, q'⟩
def spISign (C : Addr) (g : Bool → Bool → Bool) : Sp := fun vs H Q _ => ∃ (a b : Addr) (y z : Str), vs = [.ref a, .ref b] ∧ BoxAt C H a y ∧ BoxAt C H b z ∧ IsC y ∧ IsC z ∧
  ∀ H', Bar a H H' → BoxAt C H' a (sb fun m => g (mem y m) (mem z m)) → Q (.ref a) H'
/-- rows[j] in rows[j] op= .. -/
def rGetL (K : PySem.W.Frag) : V → V → Hp → VK → Prop := fun x y H Q => ∃ (p : Addr) (xs : List V) (j : Nat) (v : V), x = .ref p ∧ y = .int (j : Int) ∧ SqL K H p xs ∧ xs[j]? = some v ∧ Q v H
theorem get_list {X : Cx} : PGet X (rGetL X.K) := by
  intro pins s σ H o i ov iv Q I ro ri h
  obtain ⟨p, xs, j, v, rfl, rfl, hq, he, q⟩ := h
  obtain rfl : ov = Value.ref p := ro
  obtain ⟨t, rfl⟩ := ri
  obtain ⟨its, r, pl, hz⟩ := I.list hq
  obtain ⟨w, ew, rw'⟩ := r.get he
  have hl := r.length
  have hn := line63
  have hj : j < xs.length := (List.getElem?_eq_some_iff.mp he).1
  refine wpAny_getItem_list pl.isList (by omega) (by omega) (by rw [Int.toNat_natCast]; simpa using ew) ⟨v, H, I, rw', q⟩
def spChanged (C : Addr) : Sp := fun vs H Q _ => ∃ (s : Nat) (a b : Addr) (y z : Str), vs = [.str (S [s]), .ref a, .ref b] ∧ isSign s ∧ BoxAt C H a y ∧ BoxAt C H b z ∧ IsC y ∧ IsC z ∧
  ∀ H', Bar a H H' → BoxAt C H' a (sb fun m => gs s (mem y m) (mem z m)) → Q (.ref a) H'
theorem ixN_nat {n j : Nat} (h : j < n) : ixN n (j : Int) = some j := by
  unfold ixN
  rw [if_pos (by omega), if_pos (by omega), Int.toNat_natCast]
theorem set_same {α : Type} {xs : List α} {k : Nat} {v : α} (h : xs[k]? = some v) : xs.set k v = xs := by
  refine List.ext_getElem? fun j => ?_
  rw [List.getElem?_set]
  obtain ⟨hk, e⟩ := List.getElem?_eq_some_iff.mp h
  by_cases c : k = j
  · subst c
    rw [if_pos rfl, if_pos hk, h]
  · rw [if_neg c]
def spChangeItem (C : Addr) : Sp := fun vs H Q _ => ∃ (s : Nat) (r a b : Addr) (k : Nat) (xs : List V) (y z : Str), vs = [.str (S [s]), .ref r, .int (k : Int), .ref b] ∧ isSign s ∧ H r = some (.lst xs) ∧ xs[k]? = some (.ref a) ∧ BoxAt C H a y ∧ BoxAt C H b z ∧ IsC y ∧ IsC z ∧
  ∀ H', Bar a H H' → BoxAt C H' a (sb fun m => gs s (mem y m) (mem z m)) → Q .non H'
/-- boxes and their contents, by place -/
def Boxes (C : Addr) (H : Hp) (bs : List Addr) (zs : List Str) : Prop := bs.length = zs.length ∧ ∀ (i : Nat) b z, bs[i]? = some b → zs[i]? = some z → BoxAt C H b z
theorem Boxes.same {C : Addr} {H H' : Hp} {bs : List Addr} {zs : List Str} (h : Boxes C H bs zs) (e : Same H H') : Boxes C H' bs zs := ⟨h.1, fun i b z h1 h2 => (h.2 i b z h1 h2).same e⟩
theorem Boxes.bar {C p : Addr} {H H' : Hp} {bs : List Addr} {zs : List Str} (h : Boxes C H bs zs) (e : Bar p H H') (n : p ∉ bs) : Boxes C H' bs zs :=
  ⟨h.1, fun i b z h1 h2 => (h.2 i b z h1 h2).bar e fun q => n (q ▸ List.mem_of_getElem? h1)⟩
theorem Boxes.set {C b : Addr} {H H' : Hp} {bs : List Addr} {zs : List Str} {i : Nat} {z : Str} (h : Boxes C H bs zs) (nd : bs.Nodup) (hb : bs[i]? = some b) (e : Bar b H H') (n : BoxAt C H' b z) : Boxes C H' bs (zs.set i z) := by
  refine ⟨by rw [List.length_set]; exact h.1, fun j c y h1 h2 => ?_⟩
  rw [List.getElem?_set] at h2
  by_cases q : i = j
  · subst q
    rw [if_pos rfl] at h2
    split at h2
    · rw [hb] at h1
      cases h1
      cases h2
      exact n
    · cases h2
  · rw [if_neg q] at h2
    refine (h.2 j c y h1 h2).bar e fun r => q ?_
    rw [r] at h1
    obtain ⟨hi, ei⟩ := List.getElem?_eq_some_iff.mp hb
    obtain ⟨hj, ej⟩ := List.getElem?_eq_some_iff.mp h1
    exact (List.getElem_inj nd).mp (ei.trans ej.symm)
theorem Boxes.at_ {C : Addr} {H : Hp} {bs : List Addr} {zs : List Str} {i : Nat} (h : Boxes C H bs zs) (hi : i < bs.length) : ∃ b z, bs[i]? = some b ∧ zs[i]? = some z ∧ BoxAt C H b z := by
  have hj : i < zs.length := h.1 ▸ hi
  exact ⟨bs[i], zs[i], List.getElem?_eq_getElem hi, List.getElem?_eq_getElem hj, h.2 i _ _ (List.getElem?_eq_getElem hi) (List.getElem?_eq_getElem hj)⟩
theorem get_snoc {α : Type} {l : List α} {x y : α} {i : Nat} (h : (l ++ [x])[i]? = some y) : l[i]? = some y ∨ (i = l.length ∧ y = x) := by
  by_cases c : i < l.length
  · rw [List.getElem?_append_left c] at h
    exact .inl h
  · rw [List.getElem?_append_right (by omega)] at h
    have e : i - l.length = 0 := by
      cases q : i - l.length with
      | zero => rfl
      | succ n =>
        rw [q] at h
        cases h
    rw [e] at h
    exact .inr ⟨by omega, (Option.some.inj h).symm⟩
theorem Boxes.snoc {C b : Addr} {H : Hp} {bs : List Addr} {zs : List Str} {z : Str} (h : Boxes C H bs zs) (n : BoxAt C H b z) : Boxes C H (bs ++ [b]) (zs ++ [z]) := by
  refine ⟨by rw [List.length_append, List.length_append, h.1]; rfl, fun j c y h1 h2 => ?_⟩
  rcases get_snoc h1 with h1 | ⟨e1, rfl⟩
  · rcases get_snoc h2 with h2 | ⟨e2, rfl⟩
    · exact h.2 j c y h1 h2
    · have := (List.getElem?_eq_some_iff.mp h1).1
      have := h.1
      omega
  · rcases get_snoc h2 with h2 | ⟨e2, rfl⟩
    · have := (List.getElem?_eq_some_iff.mp h2).1
      have := h.1
      omega
    · exact n
theorem Boxes.mem {C b : Addr} {H : Hp} {bs : List Addr} {zs : List Str} (h : Boxes C H bs zs) (hb : b ∈ bs) : ∃ z, BoxAt C H b z := by
  obtain ⟨i, hi, rfl⟩ := List.getElem_of_mem hb
  obtain ⟨b', z, h1, h2, h3⟩ := h.at_ hi
  rw [List.getElem?_eq_getElem hi] at h1
  cases h1
  exact ⟨z, h3⟩
theorem map_at {α β : Type} {f : α → β} {l : List α} {i : Nat} {x : α} (h : l[i]? = some x) : (l.map f)[i]? = some (f x) := by
  rw [List.getElem?_map, h]
  rfl
theorem map_from {α β : Type} {f : α → β} {l : List α} {i : Nat} {y : β} (h : (l.map f)[i]? = some y) : ∃ x, l[i]? = some x ∧ y = f x := by
  rw [List.getElem?_map] at h
  cases e : l[i]? with
  | none =>
    rw [e] at h
    cases h
  | some x =>
    rw [e] at h
    exact ⟨x, rfl, (Option.some.inj h).symm⟩
theorem take_snoc {α : Type} {l : List α} {i : Nat} {x : α} (h : l[i]? = some x) : l.take (i + 1) = l.take i ++ [x] := by
  rw [List.take_add_one, h]
  rfl
theorem Boxes.notin {C l : Addr} {H : Hp} {bs : List Addr} {zs : List Str} {xs : List V} (h : Boxes C H bs zs) (hl : H l = some (.lst xs)) : l ∉ bs := fun m => by
  obtain ⟨z, dx, e⟩ := h.mem m
  rw [hl] at e
  cases e
theorem Boxes.notin2 {C p q : Addr} {H : Hp} {bs : List Addr} {zs : List Str} (h : Boxes C H bs zs) (hB : BagAt H p q) : p ∉ bs ∧ q ∉ bs := by
  obtain ⟨c, s, i, ns, h1, h2, _⟩ := hB
  exact ⟨h.notin h1, h.notin h2⟩
/-- the state of a law with boxes and their due contents, in two lists -/
structure Two (C : Addr) (H0 : Hp) (p q tl bl : Addr) (bs : List Addr) : Prop where
  np : H0 p = none
  nt : H0 tl = none
  nb : H0 bl = none
  nbs : ∀ b ∈ bs, H0 b = none
  tp : tl ≠ p
  tq : tl ≠ q
  bp : bl ≠ p
  bq : bl ≠ q
  tb : tl ≠ bl
  nd : bs.Nodup
structure TwoAt (C : Addr) (H0 : Hp) (p q tl bl : Addr) (bs : List Addr) (zs : List Str) (H : Hp) : Prop where
  sm : Same H0 H
  bag : BagAt H p q
  t : H tl = some (.lst (zs.map V.str))
  b : H bl = some (.lst (bs.map V.ref))
  bx : Boxes C H bs zs
  ic : ∀ z ∈ zs, IsC z
theorem TwoAt.draw {C : Addr} {H0 H H' : Hp} {p q tl bl : Addr} {bs : List Addr} {zs : List Str} (h : TwoAt C H0 p q tl bl bs zs H) (w : Two C H0 p q tl bl bs) (b : Bar p H H') (hB : BagAt H' p q) : TwoAt C H0 p q tl bl bs zs H' :=
  ⟨same_bar h.sm w.np b, hB, b _ _ w.tp h.t, b _ _ w.bp h.b, h.bx.bar b (h.bx.notin2 h.bag).1, h.ic⟩
theorem TwoAt.same {C : Addr} {H0 H H' : Hp} {p q tl bl : Addr} {bs : List Addr} {zs : List Str} (h : TwoAt C H0 p q tl bl bs zs H) (s : Same H H') : TwoAt C H0 p q tl bl bs zs H' :=
  ⟨h.sm.trans s, h.bag.same s, s _ _ h.t, s _ _ h.b, h.bx.same s, h.ic⟩
theorem lc_yes {A B : Hp → Prop} {σ : L2.St} {H : Hp} (h : A H) : tYes σ H (fun b H3 => if b = true then A H3 else B H3) := @iteT (A H) (B H) h
theorem TwoAt.change {C : Addr} {H0 H H' : Hp} {p q tl bl b : Addr} {bs : List Addr} {zs : List Str} {m : Nat} {z : Str} (w : Two C H0 p q tl bl bs) (sm : Same H0 H) (bag : BagAt H p q) (t : H tl = some (.lst ((zs.set m z).map V.str))) (hb : H bl = some (.lst (bs.map V.ref)))
    (bx : Boxes C H bs zs) (ic : ∀ z ∈ zs, IsC z) (hz : IsC z) (hm : bs[m]? = some b) (e : Bar b H H') (n : BoxAt C H' b z) : TwoAt C H0 p q tl bl bs (zs.set m z) H' := by
  have mb := List.mem_of_getElem? hm
  have ne : ∀ {x}, x ∉ bs → x ≠ b := fun h q => h (q ▸ mb)
  have n2 := bx.notin2 bag
  refine ⟨same_bar sm (w.nbs b mb) e, bag.bar e (ne n2.1) (ne n2.2), e _ _ (ne (bx.notin t)) t, e _ _ (ne (bx.notin hb)) hb, bx.set w.nd hm e n, fun y hy => ?_⟩
  rcases List.mem_or_eq_of_mem_set hy with h | h
  · exact ic y h
  · rw [h]
    exact hz
theorem sign_of {y : V} (h : y ∈ [V.str "|", V.str "&", V.str "-", V.str "^"]) : ∃ s, y = .str (S [s]) ∧ isSign s := by
  simp only [List.mem_cons, List.not_mem_nil, or_false] at h
  rcases h with rfl | rfl | rfl | rfl
  · exact ⟨124, rfl, .inl rfl⟩
  · exact ⟨38, rfl, .inr (.inl rfl)⟩
  · exact ⟨45, rfl, .inr (.inr (.inr rfl))⟩
  · exact ⟨94, rfl, .inr (.inr (.inl rfl))⟩
end WB

set_option Elab.async false
set_option linter.all false
set_option maxRecDepth 100000
set_option maxHeartbeats 4000000
namespace WB
open PySem L2 PyProof.Rows
theorem vals_one {x : V} {us : List Value} (r : Vals [x] us) : ∃ u, us = [u] ∧ RelV x u := by
  cases r with
  | cons r1 r2 =>
    cases r2
    exact ⟨_, rfl, r1⟩
section
variable {X : Cx} {CX : CXT} {k j : Nat} {f C : Addr} {fd : FuncData} {ps : List Str} {sp : Sp} {E : XK}
theorem run_below {A : Around} {pins : List (Addr × Obj)} {σ : L2.St} {H : Hp} {s : Shared} {Q : VK} {us : List Value} {vs : List V} (F : FnOk X.prog X.w X.K X.mg X.base CX k f fd ps sp) (hr : Room k A) (e0 : Env0 X.prog X.w X.K X.mg X.base A X.stack s H)
    (hb : Binds X.K fd ps []) (hx : Passes CX X E) (I : Inv X pins σ H s) (r : Vals vs us) (h : sp vs H Q E) : wpAny (model X.prog X.w) A (call (.ref f) us) (EP X pins σ Q) X.xe s := by
  have hl : (us ++ ([] : List Value)).length = ps.length := by
    rw [List.append_nil, ← r.length]
    exact F.len _ _ _ _ h
  have hb2 := hb s us I.kIn hl
  rw [List.append_nil] at hb2
  refine wpAny_call (codeAny_mono (F.run A X.stack s H ⟨us, []⟩ us vs Q E hr e0 hb2 r h) fun r s' hq => ?_)
  cases r with
  | error er => exact hx pins σ H s er s' I hq
  | ok fl =>
    cases fl with
    | ret u => exact I.after hq
    | next => exact hq.elim
    | brk => exact hq.elim
    | cont => exact hq.elim
/-- what the class has under a name: a def that keeps its promise -/
structure Own (P : Program) (w : World) (K : PySem.W.Frag) (mg : Str → Option Value) (base : Heap) (k : Nat) (C : Addr) (nm : Str) (sp : Sp) : Prop where
  ex : ∃ (f : Addr) (fd : FuncData) (ps : List Str), PySem.W.findIn K (.ref C) nm = some (some (.ref f)) ∧ PySem.W.isFn K (.ref f) = true ∧ FnOk P w K mg base CX0 k f fd ps sp ∧ Binds K fd ps []
def rLenO (C : Addr) (sp : Sp) (E : XK) : List V → Hp → VK → Prop := fun xs H Q => ∃ a dx fs, xs = [.ref a] ∧ H a = some (.ins C dx fs) ∧ sp [.ref a] H (fun v H' => ∃ n : Nat, v = .int n ∧ n < 1000000 ∧ Q v H') E
theorem call_lenO (O : Own X.prog X.w X.K X.mg X.base k C "__len__" sp) (hr0 : Room j X.A) (hk : k + 1 ≤ j) : CallR X (.builtin "len") (rLenO C sp E0) := by
  obtain ⟨f, fd, ps, h1, h2, F, hb⟩ := O.ex
  have hr := hr0.mono hk
  intro pins s σ H xs us Q I r h
  obtain ⟨a, dx, fs, rfl, ha, q⟩ := h
  obtain ⟨u, rfl, r1⟩ := vals_one r
  obtain rfl : u = Value.ref a := r1
  obtain ⟨m, Fm⟩ := I.fr
  obtain ⟨mA, O', _, _, _, _⟩ := ins_get I.hok ha
  obtain ⟨od, J, _⟩ := O'.look
  refine PySem.W.len_K Fm I.mod.kin J h1 h2 ?_
  refine wpAny_mono (run_below F hr.in1 I.env0.in1 hb pass0 I (us := [.ref a]) (.cons (show RelV (.ref a) (.ref a) from rfl) .nil) q) (fun v s' hq => ?_) fun _ _ e => e
  obtain ⟨z, H', I', rz, ⟨n, rfl, hn, q'⟩⟩ := hq
  obtain ⟨t, rfl⟩ := rz
  exact ⟨⟨by omega, by omega⟩, ⟨.int n, H', I'.tok _, ⟨_, rfl⟩, q'⟩⟩
def rReprO (C : Addr) (sp : Sp) (E : XK) : List V → Hp → VK → Prop := fun xs H Q => ∃ a dx fs, xs = [.ref a] ∧ H a = some (.ins C dx fs) ∧ sp [.ref a] H (fun v H' => (∃ z, v = .str z) ∧ Q v H') E
theorem call_reprO (O : Own X.prog X.w X.K X.mg X.base k C "__repr__" sp) (hr0 : Room j X.A) (hk : k + 1 ≤ j) : CallR X (.builtin "repr") (rReprO C sp E0) := by
  obtain ⟨f, fd, ps, h1, h2, F, hb⟩ := O.ex
  have hr := hr0.mono hk
  intro pins s σ H xs us Q I r h
  obtain ⟨a, dx, fs, rfl, ha, q⟩ := h
  obtain ⟨u, rfl, r1⟩ := vals_one r
  obtain rfl : u = Value.ref a := r1
  obtain ⟨m, Fm⟩ := I.fr
  obtain ⟨mA, O', _, _, _, _⟩ := ins_get I.hok ha
  obtain ⟨od, J, _⟩ := O'.look
  refine PySem.W.repr_K (hr.in1).units0 Fm I.mod.kin J h1 h2 ?_
  refine wpAny_mono (run_below F hr.in1 I.env0.in1 hb pass0 I (us := [.ref a]) (.cons (show RelV (.ref a) (.ref a) from rfl) .nil) q) (fun v s' hq => ?_) fun _ _ e => e
  obtain ⟨z, H', I', rz, ⟨⟨y, rfl⟩, q'⟩⟩ := hq
  obtain ⟨t, rfl⟩ := rz
  exact ⟨.str y, H', I', ⟨_, rfl⟩, q'⟩
theorem call_strO (O : Own X.prog X.w X.K X.mg X.base k C "__str__" sp) (hr0 : Room j X.A) (hk : k + 2 ≤ j) : CallR X (.type "str") (rReprO C sp E0) := by
  obtain ⟨f, fd, ps, h1, h2, F, hb⟩ := O.ex
  have hr := hr0.mono hk
  intro pins s σ H xs us Q I r h
  obtain ⟨a, dx, fs, rfl, ha, q⟩ := h
  obtain ⟨u, rfl, r1⟩ := vals_one r
  obtain rfl : u = Value.ref a := r1
  obtain ⟨mA, O', _, _, _, _⟩ := ins_get I.hok ha
  obtain ⟨od, J, _⟩ := O'.look
  refine PySem.W.kso_call (hr.in1.in1).units0 I.kIn J h1 h2 ?_
  refine wpAny_mono (run_below F hr.in1.in1 I.env0.in1.in1 hb pass0 I (us := [.ref a]) (.cons (show RelV (.ref a) (.ref a) from rfl) .nil) q) (fun v s' hq => ?_) fun _ _ e => e
  obtain ⟨z, H', I', rz, ⟨⟨y, rfl⟩, q'⟩⟩ := hq
  obtain ⟨t, rfl⟩ := rz
  exact ⟨.str y, H', I', ⟨_, rfl⟩, q'⟩
def rInO (C : Addr) (sp : Sp) (E : XK) (g : Bool → Bool) : R2 := fun x y H Q => ∃ a dx fs, y = .ref a ∧ H a = some (.ins C dx fs) ∧ sp [.ref a, x] H (fun v H' => ∃ b, v = .bl b ∧ Q (.bl (g b)) H') E
theorem op_inO (O : Own X.prog X.w X.K X.mg X.base k C "__contains__" sp) (hr0 : Room j X.A) (hk : k ≤ j) : OpR X (compareOp .In) (rInO C sp E0 id) := by
  obtain ⟨f, fd, ps, h1, h2, F, hb⟩ := O.ex
  have hr := hr0.mono hk
  intro pins s σ H x y v u Q I rx ry h
  obtain ⟨a, dx, fs, rfl, ha, q⟩ := h
  obtain rfl : u = Value.ref a := ry
  obtain ⟨m, Fm⟩ := I.fr
  obtain ⟨mA, O', _, _, _, _⟩ := ins_get I.hok ha
  obtain ⟨od, J, _⟩ := O'.look
  refine PySem.W.in_K Fm I.mod.kin J h1 h2 ?_
  refine wpAny_mono (run_below F hr I.env0 hb pass0 I (us := [.ref a, v]) (.cons (show RelV (.ref a) (.ref a) from rfl) (.cons rx .nil)) q) (fun v s' hq => ?_) fun _ _ e => e
  obtain ⟨z, H', I', rz, ⟨b, rfl, q'⟩⟩ := hq
  obtain rfl : v = Value.bool b := rz
  exact wpAny_truthy_bool ⟨.bl b, H', I', rfl, q'⟩
theorem op_ninO (O : Own X.prog X.w X.K X.mg X.base k C "__contains__" sp) (hr0 : Room j X.A) (hk : k ≤ j) : OpR X (compareOp .NotIn) (rInO C sp E0 not) := by
  obtain ⟨f, fd, ps, h1, h2, F, hb⟩ := O.ex
  have hr := hr0.mono hk
  intro pins s σ H x y v u Q I rx ry h
  obtain ⟨a, dx, fs, rfl, ha, q⟩ := h
  obtain rfl : u = Value.ref a := ry
  obtain ⟨m, Fm⟩ := I.fr
  obtain ⟨mA, O', _, _, _, _⟩ := ins_get I.hok ha
  obtain ⟨od, J, _⟩ := O'.look
  refine PySem.W.notIn_K Fm I.mod.kin J h1 h2 ?_
  refine wpAny_mono (run_below F hr I.env0 hb pass0 I (us := [.ref a, v]) (.cons (show RelV (.ref a) (.ref a) from rfl) (.cons rx .nil)) q) (fun v s' hq => ?_) fun _ _ e => e
  obtain ⟨z, H', I', rz, ⟨b, rfl, q'⟩⟩ := hq
  obtain rfl : v = Value.bool b := rz
  exact wpAny_truthy_bool ⟨.bl (!b), H', I', rfl, q'⟩
/-- a property of the class -/
structure OwnProp (P : Program) (w : World) (K : PySem.W.Frag) (mg : Str → Option Value) (base : Heap) (k : Nat) (C : Addr) (nm : Str) (sp : Sp) : Prop where
  ex : ∃ (p g : Addr) (fd : FuncData) (ps : List Str), PropOf K C nm p g ∧ FnOk P w K mg base CX0 k g fd ps sp ∧ Binds K fd ps []
theorem pe_propO {nm : Str} {e : Expr} {ta : TE} {pos : Pos} (O : OwnProp X.prog X.w X.K X.mg X.base k C nm sp) (c : Cls X.K C) (hr : Room j X.A) (hk : k + 1 ≤ j) (he : PE X e ta)
    (hab : attributeBase e nm X.env (eval e X.env) = eval e X.env) : PE X (.Attribute e nm pos) (tProp C sp [] E0 ta) := by
  obtain ⟨p, g, fd, ps, h1, F, hb⟩ := O.ex
  exact pe_prop he c h1 F (hr.mono hk) hb .nil pass0 hab
end
/-! ### any value -/
def NoStr (K : PySem.W.Frag) (H : Hp) (x : V) : Prop := ∃ t, TyX K H x (.type t) ∧ kitB t "str" = some false
def Thing (K : PySem.W.Frag) (H : Hp) (x : V) : Prop := (∃ z : Str, x = .str z ∧ z.length ≤ 1000) ∨ NoStr K H x
theorem noStr_non {K : PySem.W.Frag} {H : Hp} : NoStr K H .non := ⟨_, .base .non, by decide +kernel⟩
theorem noStr_bl {K : PySem.W.Frag} {H : Hp} {b : Bool} : NoStr K H (.bl b) := ⟨_, .base (.bl b), by decide +kernel⟩
theorem noStr_int {K : PySem.W.Frag} {H : Hp} {i : Int} : NoStr K H (.int i) := ⟨_, .base (.int i), by decide +kernel⟩
theorem noStr_lst {K : PySem.W.Frag} {H : Hp} {a : Addr} {xs : List V} (h : H a = some (.lst xs)) : NoStr K H (.ref a) := ⟨_, .base (.lst h), by decide +kernel⟩
theorem noStr_tup {K : PySem.W.Frag} {H : Hp} {a : Addr} {xs : List V} (h : H a = some (.tup xs)) : NoStr K H (.ref a) := ⟨_, .base (.tup h), by decide +kernel⟩
/-- one of the marks, as a value -/
def hasV (z : Str) : V → Bool
  | .str y => match y.cps.toList with
    | [c] => mem z c
    | _ => false
  | _ => false
theorem hasV_noStr {K : PySem.W.Frag} {H : Hp} {x : V} (h : NoStr K H x) (z : Str) : hasV z x = false := by
  cases x with
  | str y =>
    obtain ⟨t, ty, k⟩ := h
    cases ty with
    | base b =>
      cases b
      exact absurd k (by decide +kernel)
  | non => rfl
  | bl b => rfl
  | int i => rfl
  | byt b => rfl
  | flt b => rfl
  | ref a => rfl
  | ty n => rfl
def spLen (C : Addr) : Sp := fun vs H Q _ => ∃ (a : Addr) (z : Str), vs = [.ref a] ∧ BoxAt C H a z ∧ z.length ≤ 1000 ∧ Q (.int (z.length : Nat)) H
def spHas (K : PySem.W.Frag) (C : Addr) : Sp := fun vs H Q _ => ∃ (a : Addr) (z : Str) (x : V), vs = [.ref a, x] ∧ BoxAt C H a z ∧ Thing K H x ∧ Q (.bl (hasV z x)) H
def plainB (z : Str) : Bool := z.cps.toList.all fun c => decide (97 ≤ c)
def spCross (C : Addr) : Sp := fun vs H Q _ => ∃ (a : Addr) (z : Str), vs = [.ref a] ∧ BoxAt C H a z ∧ IsC z ∧ ∀ H', Same H H' → Q (.bl (plainB z)) H'
def spWithin (C : Addr) : Sp := fun vs H Q _ => ∃ (a b : Addr) (y z : Str), vs = [.ref a, .ref b] ∧ BoxAt C H a y ∧ BoxAt C H b z ∧ IsC y ∧ ∀ H', Same H H' → Q (.bl (y.cps.toList.all fun c => mem z c)) H'
theorem isC_sub {z : Str} (h : IsC z) {c : Nat} (hc : c ∈ z.cps.toList) : c ∈ mk := by
  obtain ⟨p, rfl⟩ := h
  exact (List.mem_filter.mp hc).1
theorem upper_mk : ∀ c ∈ mk, Txt.isupper (S [c]) = !decide (97 ≤ c) := by decide +kernel
theorem filter_nil_all {z : List Nat} {t : Nat → Bool} : decide (z.filter (fun c => !t c) = []) = z.all t := by
  induction z with
  | nil => rfl
  | cons c r ih =>
    cases h : t c with
    | true =>
      rw [List.filter_cons_of_neg (by rw [h]; decide), List.all_cons, h, ih]
      rfl
    | false =>
      rw [List.filter_cons_of_pos (by rw [h]; rfl), List.all_cons, h, decide_eq_false (by simp)]
      rfl
theorem NoStr.mono {K : PySem.W.Frag} {H H' : Hp} {x : V} (h : NoStr K H x) (e : ∀ a o, x = .ref a → H a = some o → H' a = some o) : NoStr K H' x := by
  obtain ⟨t, ty, k⟩ := h
  refine ⟨t, ?_, k⟩
  generalize hT : Value.type t = T at ty
  cases ty with
  | base b =>
    cases b with
    | non => exact .base .non
    | bl b => exact .base (.bl b)
    | int i => exact .base (.int i)
    | str z => exact .base (.str z)
    | flt z => exact .base (.flt z)
    | lst h => exact .base (.lst (e _ _ rfl h))
    | frz h => exact .base (.frz (e _ _ rfl h))
    | tup h => exact .base (.tup (e _ _ rfl h))
    | dK h => exact .base (.dK (e _ _ rfl h))
    | dT h => exact .base (.dT (e _ _ rfl h))
    | ins h a b c d f => exact .base (.ins (e _ _ rfl h) a b c d f)
  | byt b => exact .byt b
  | set h => exact .set (e _ _ rfl h)
  | kList h c => exact .kList h c
  | kTuple h c => exact .kTuple h c
  | kDict h c => exact .kDict h c
  | fTuple h => exact .fTuple (e _ _ rfl h)
  | fDict h => exact .fDict (e _ _ rfl h)
theorem Thing.mono {K : PySem.W.Frag} {H H' : Hp} {x : V} (h : Thing K H x) (e : ∀ a o, x = .ref a → H a = some o → H' a = some o) : Thing K H' x := by
  rcases h with h | h
  · exact .inl h
  · exact .inr (h.mono e)
theorem cut_len {z : Str} {lo hi : Option Int} {n : Nat} (h : z.length ≤ n) : (cutS z lo hi).length ≤ n := Nat.le_trans (cutS_length z lo hi) h
def spPlus : Sp := fun vs H Q _ => ∃ (p q : Addr) (t : Str), vs = [.ref p, .str t] ∧ BagAt H p q ∧ IsC t ∧ ∀ H' z, Bar p H H' → BagAt H' p q → IsC z → Q (.str z) H'
def spAsked (K : PySem.W.Frag) : Sp := fun vs H Q _ => ∃ (p q : Addr) (t : Str), vs = [.ref p, .str t] ∧ BagAt H p q ∧ IsC t ∧ ∀ H' x, Bar p H H' → BagAt H' p q → Thing K H' x → Q x H'
def spHolds (K : PySem.W.Frag) : Sp := fun vs H Q _ => ∃ (t : Str) (x : V), vs = [.str t, x] ∧ IsC t ∧ Thing K H x ∧ Q (.bl (hasV t x)) H
def spRight4 (C : Addr) : Sp := fun vs H Q _ => ∃ (p q b : Addr) (t : Str), vs = [.ref p, .ref b, .str t] ∧ BagAt H p q ∧ BoxAt C H b t ∧ IsC t ∧ ∀ H', Bar p H H' → BagAt H' p q → Q (.bl true) H'
/-- the mark at a place is asked for -/
theorem hasV_sg {z : Str} {c : Nat} : hasV z (sg c) = mem z c := rfl
theorem hasV_none {z : Str} {x : V} (h : ∀ c ∈ z.cps.toList, x ≠ sg c) : hasV z x = false := by
  cases x with
  | str y =>
    unfold hasV
    simp only
    split
    · rename_i c hc
      have ey : y = ⟨#[c]⟩ := by
        rw [← SX.S_tl y, hc]
      cases q : mem z c with
      | false => rfl
      | true => exact absurd (show V.str y = sg c by rw [ey]; rfl) (h c (of_decide_eq_true q))
    · rfl
  | non => rfl
  | bl b => rfl
  | int i => rfl
  | byt b => rfl
  | flt b => rfl
  | ref a => rfl
  | ty n => rfl
theorem lay_strs : ∀ ns : List Nat, (∀ c ∈ ns, c < 1000) → PyData.canLayAll0 (ns.map fun c => PyData.str (S [c])) = true ∧ PyData.depthAll (ns.map fun c => PyData.str (S [c])) = 0
  | [], _ => ⟨rfl, rfl⟩
  | n :: r, h => by
    obtain ⟨h1, h2⟩ := lay_strs r fun c hc => h c (List.mem_cons_of_mem _ hc)
    refine ⟨?_, ?_⟩
    · show (PyData.canLay0 (.str (S [n])) && PyData.canLayAll0 (r.map _)) = true
      rw [h1, Bool.and_true]
      show (#[n] : Array Nat).all (fun c => decide (c < 0x110000)) = true
      have := h n List.mem_cons_self
      simp
      omega
    · show max (PyData.depth (.str (S [n]))) (PyData.depthAll (r.map _)) = 0
      rw [h2]
      rfl
theorem dp_strs {K : PySem.W.Frag} {H : Hp} : ∀ ns : List Nat, DpAll K H (ns.map sg) (ns.map fun c => PyData.str (S [c]))
  | [] => .nil
  | n :: r => .cons (.str _) (dp_strs r)
theorem shaped_strs {ns : List Nat} (h : ∀ c ∈ ns, c < 1000) : SeqAt.shaped (.list (ns.map fun c => PyData.str (S [c]))) = true := by
  obtain ⟨h1, h2⟩ := lay_strs ns h
  have e1 : PyData.canLay0 (.list (ns.map fun c => PyData.str (S [c]))) = true := h1
  have e2 : PyData.depth (.list (ns.map fun c => PyData.str (S [c]))) ≤ 64 := by
    show PyData.depthAll (ns.map _) + 1 ≤ 64
    omega
  unfold SeqAt.shaped
  rw [e1, decide_eq_true e2]
  rfl
theorem eqv_nil_strs (ns : List Nat) : PyData.eqv (.list (ns.map fun c => PyData.str (S [c]))) (.list []) = decide (ns = []) := by
  cases ns with
  | nil => rfl
  | cons n r =>
    rw [decide_eq_false (by simp)]
    rfl
theorem mk_small : ∀ c ∈ mk, c < 1000 := by decide +kernel
end WB

set_option Elab.async false
set_option linter.all false
set_option maxRecDepth 100000
set_option maxHeartbeats 4000000
namespace WB
open PySem L2 PyProof.Rows
/-! ### a def that is called where no repr is under way -/
structure FnG (P : Program) (w : World) (K : PySem.W.Frag) (mg : Str → Option Value) (base : Heap) (CX : CXT) (k : Nat) (f : Addr) (fd : FuncData) (ps : List Str) (sp : Sp) : Prop where
  len : ∀ vs H Q E, sp vs H Q E → vs.length = ps.length
  run : ∀ (A : Around) (outer : List Env) (s : Shared) (H : Hp) (args : Args) (us : List Value) (vs : List V) (Q : VK) (E : XK), A.guards = some [] → Room k A → Env0 P w K mg base A outer s H → BindsTo s fd args (ps.zip us) → Vals vs us → sp vs H Q E →
    codeAny (model P w) A (.call (.ref f) args) (CR CX outer P w H s Q E) s
section
variable {P : Program} {w : World} {K : PySem.W.Frag} {mg : Str → Option Value} {base : Heap}
theorem fn_g {x qual : Str} {st : Stmt} {f : Addr} {fd : FuncData} {N ps : List Str} {k : Nat} {sp : Sp} (F : Fun K x qual st f fd) (S : FnScope N ps (defScope st)) (len : ∀ vs H Q E, sp vs H Q E → vs.length = ps.length)
    (body : ∀ (cdv : Value) (A : Around) (outer : List Env) (s : Shared) (H : Hp) (vs : List V) (Q : VK) (E : XK), (A.deeper (envOfC qual (defScope st) s.heap.objs.size f cdv)).guards = some [] → Room k (A.deeper (envOfC qual (defScope st) s.heap.objs.size f cdv)) → sp vs H Q E →
      ∃ t, PSs (cxOf C8.CX0 P w K mg base N qual (defScope st) f cdv A outer s H E).nox (defBody st) t ∧ t { nx := fun _ H' => Q .non H', rt := Q } (start N vs) H) : FnG P w K mg base C8.CX0 (k + 1) f fd ps sp := by
  obtain ⟨oc, od, kV, doc, pm, an, cdv, ct, osl, rfl, lk, hcd⟩ := F.ex
  refine ⟨len, fun A outer s H args us vs Q E gd hr e0 hb r hsp => ?_⟩
  have hl := len _ _ _ _ hsp
  have under : ∀ b o, base.get? b = some o → s.heap.get? b = some o := fun b o e => (e0.bs b o e).1
  have KX : K.In s.heap := e0.mod.kin.keeps under
  have lim : s.heap.NoLimit := e0.mod.nolimit.keeps under
  have kind : ∀ y ∈ ps.zip us, (defScope st).names.lookup y.1 = some .local ∨ ((defScope st).names.lookup y.1 = some .cell ∧ ((cellsFrom (s.heap.objs.size + 1) (defScope st).names []).lookup y.1).isSome = true) := fun ⟨n, v⟩ hy =>
    (S.par n (List.of_mem_zip hy).1).imp id fun q => ⟨q, PySem.W.cellsFrom_some _ _ _ (.inl q)⟩
  refine codeAny_call_function hr.depth (KX _ _ lk) rfl S.co S.gen rfl (PySem.W.codeRec_of KX hcd) (hb _ _ _ _ ?_)
  refine wpAny_newFunctionEnv_cells S.kind kind fun env he s1 x => ?_
  subst he
  refine ⟨lim.keeps x.toInCall.keep, codeAny_func ?_⟩
  obtain ⟨t, ht, hq⟩ := body cdv A outer s H vs Q E gd (hr.deeper _) hsp
  have I : Inv (cxOf C8.CX0 P w K mg base N qual (defScope st) f cdv A outer s H E) [] (start N vs) H s1 := inv_start S hr.hd e0 hl r x
  refine wpAny_mono (ht.nox.run [] s1 (start N vs) H _ I hq) (fun fl s' hs => ?_) fun e s' hs => hs
  cases fl with
  | ret u =>
    obtain ⟨v, σ', H', J, rv, q⟩ := hs
    exact ⟨v, H', J.os, J.bare, J.base, J.hok, rv, q⟩
  | next =>
    obtain ⟨σ', H', J, q⟩ := hs
    exact ⟨.non, H', J.os, J.bare, J.base, J.hok, rfl, q⟩
  | brk =>
    obtain ⟨_, _, _, q⟩ := hs
    exact q.elim
  | cont =>
    obtain ⟨_, _, _, q⟩ := hs
    exact q.elim
end
/-- the law's own call, no repr under way -/
theorem law_g {P : Program} {w : World} {K : PySem.W.Frag} {mg mb : Str → Option Value} {k : Nat} {fa a : Addr} {fd : FuncData} {x : Str} {sp : Sp} {s₁ : Shared} {vs : List Value} {ns : List Int}
    (KX : K.In s₁.heap) (hns : s₁.heap.Ns mainGlobals mg) (hb : s₁.heap.Ns builtinsNs mb) (hbb : ∀ x : Str, x ≠ "__name__" → mb x = bootBuiltins x) (hlim : s₁.heap.NoLimit) (hg : s₁.gens = #[])
    (ha : s₁.heap.get? a = some { cls := .type "list", data := .seq vs.toArray }) (hi : IntsAre vs ns) (hl : ns.length ≤ sizeLine) (hr : Room k callerA)
    (F : ∀ base : Heap, K.In base → base.Ns mainGlobals mg → FnG P w K mg base C8.CX0 k fa fd [x] sp) (hbind : ∀ (s : Shared) (u : Value), BindsTo s fd ⟨[u], []⟩ [(x, u)])
    (hsp : ∀ H : Hp, Only H → SqL K H a (ns.map V.int) → sp [.ref a] H (fun v _ => v = .bl true) fun _ _ _ => False) :
    codeAny (model P w) callerA (.call (.ref fa) ⟨[.ref a], []⟩) (fun r s' => r = .ok (.ret (.bool true)) ∧ OldK s₁.heap s'.heap ∧ s'.os = s₁.os ∧ AllBare s'.gens) s₁ := by
  have rv := vals_ints hi
  have lenV := hi.length
  have core : ∀ H : Hp, SqL K H a (ns.map V.int) → HOk P w H s₁.heap → (H = (fun _ => none) ∨ (K.lookup a = none ∧ ∃ ob xs, H = fun b => if b = a then some (.frz ob (.lst xs)) else none)) →
      codeAny (model P w) callerA (.call (.ref fa) ⟨[.ref a], []⟩) (fun r s' => r = .ok (.ret (.bool true)) ∧ OldK s₁.heap s'.heap ∧ s'.os = s₁.os ∧ AllBare s'.gens) s₁ := by
    intro H hS hok hH
    have only : Only H := fun b => by
      rcases hH with rfl | ⟨_, ob, xs, rfl⟩
      · exact .inl rfl
      · by_cases c : b = a
        · exact .inr ⟨ob, xs, if_pos c⟩
        · exact .inl (if_neg c)
    have off : ∀ {b : Addr}, b ≠ a → H b = none := fun {b} n => by
      rcases hH with rfl | ⟨_, ob, xs, rfl⟩
      · rfl
      · exact if_neg n
    have low : ∀ {b : Addr} {o : Obj}, s₁.heap.get? b = some o → H b = none → (hidT s₁.heap H).get? b = some o := fun e n => hidT_get e n
    have isD : ∀ {b : Addr} {o : Obj} {es : Array DictEntry} {ep : Nat}, s₁.heap.get? b = some o → o.data = .dict es ep → b ≠ a := fun {b o es ep} e d z => by
      rw [z, ha] at e
      cases e
      have d' : Data.seq vs.toArray _ = Data.dict es ep := d
      cases d'
    have nsK : ∀ {b : Addr} {m : Str → Option Value}, s₁.heap.Ns b m → (hidT s₁.heap H).Ns b m := fun {b m} ⟨o, es, ep, e, d, r⟩ => ⟨o, es, ep, low e (off (isD e d)), d, r⟩
    have inB : K.In (hidT s₁.heap H) := fun b o e => low (KX b o e) (by
      rcases hH with rfl | ⟨n, _⟩
      · rfl
      · exact off fun z => by
          rw [z, n] at e
          cases e)
    have hM : Mod K mg (hidT s₁.heap H) := ⟨inB, nsK hns, ⟨mb, nsK hb, hbb⟩, let ⟨mc, h1, h2⟩ := hlim; ⟨mc, nsK h1, h2⟩⟩
    have e0 : Env0 P w K mg (hidT s₁.heap H) callerA [] s₁ H := ⟨rfl, hM, fun b o e => of_hidT e, Nat.le_of_eq (hidT_size _ _), trivial, fun b hb => absurd hb (List.not_mem_nil), hok, .of_eq hg⟩
    refine codeAny_mono ((F _ inB (nsK hns)).run callerA [] s₁ H ⟨[.ref a], []⟩ [.ref a] [.ref a] _ _ rfl hr e0 (hbind s₁ (.ref a)) (.cons rfl .nil) (hsp H only hS)) fun r s' h => ?_
    cases r with
    | error e => exact False.elim h
    | ok fl =>
      cases fl with
      | next => exact False.elim h
      | brk => exact False.elim h
      | cont => exact False.elim h
      | ret u =>
        obtain ⟨v, H', os, bare, un, hok', r', q⟩ := h
        obtain rfl : v = V.bl true := q
        obtain rfl : u = Value.bool true := r'
        refine ⟨rfl, OldK.of_keep fun b o e => ?_, os, bare⟩
        rcases only b with n | ⟨ob, xs, z⟩
        · exact un.keep b o e n (List.not_mem_nil) (List.not_mem_nil)
        · have z2 := un.frzs b ob _ z
          obtain ⟨e1, _⟩ := hok b _ z
          obtain ⟨e2, _⟩ := hok' b _ z2
          rw [e] at e1
          cases e1
          exact e2
  cases hk : K.lookup a with
  | some o =>
    have e := KX a o hk
    rw [ha] at e
    cases e
    exact core (fun _ => none) (.inr ⟨_, vs.toArray, _, hk, rfl, rfl, rfl, by rw [List.size_toArray, lenV]; exact hl, by simpa using rv⟩) (fun b u z => by cases z) (.inl rfl)
  | none =>
    refine core (fun b => if b = a then some (.frz { cls := .type "list", data := .seq vs.toArray } (.lst (ns.map V.int))) else none) (.inl (.inr ⟨{ cls := .type "list", data := .seq vs.toArray }, if_pos rfl⟩)) (fun b u z => ?_) (.inr ⟨hk, _, _, rfl⟩)
    by_cases hb : b = a
    · have z' := (if_pos hb).symm.trans z
      cases z'
      subst hb
      exact ⟨ha, by rw [List.length_map]; exact hl, vs, _, rv, ha⟩
    · have z' := (if_neg hb).symm.trans z
      cases z'
theorem walk_g {l : PySem.W.OpenLaw} {n k : Nat} {q : Program} {loose : List Str} {XP : (Str → Option Value) → Heap → Prop} {YP : World → Heap → Prop} {d : DefRec} {K : Params → PySem.W.Frag} {sp : World → Sp} {x : Str}
    (hn : l.most = some n) (hn2 : n ≤ sizeLine) (hdf : d.params.defaults = []) (hr : Room k callerA)
    (hY : ∀ (w : World) (h : Heap), YP w h → (K w.params).In h)
    (F : ∀ (w : World) (mg : Str → Option Value) (fa : Addr) (h : Heap), (K w.params).In h → h.Ns mainGlobals mg → mg d.name = some (.ref fa) →
      ∃ fd : FuncData, (∀ (s : Shared) (u : Value), BindsTo s fd ⟨[u], []⟩ [(x, u)]) ∧
        ∀ base : Heap, (K w.params).In base → base.Ns mainGlobals mg → FnG l.prog w (K w.params) mg base C8.CX0 k fa fd [x] (sp w))
    (hsp : ∀ (w : World) (H : Hp) (a : Addr) (ns : List Int), ns.length ≤ n → Only H → SqL (K w.params) H a (ns.map V.int) → sp w [.ref a] H (fun v _ => v = .bl true) fun _ _ _ => False) :
    PySem.W.WalkO q loose XP YP l.row.toRowW d [] (fun f vs => PySem.call f vs) := by
  refine Att.attach_call hn hdf fun w s₀ s₁ mg mb fa o pm cd doc a vs ns G Y ho hd hcd hmg hobj hints hlen hg => ?_
  have KX := hY w _ Y
  obtain ⟨fd, hb, hF⟩ := F w mg fa _ KX G.T.g hmg
  exact law_g KX G.T.g G.T.b G.T.builtins G.T.nolimit hg hobj hints (Nat.le_trans hlen hn2) hr hF hb fun H hO hS => hsp w H a ns hlen hO hS
/-! ### repr of data -/
structure OkD (d : PyData) : Prop where
  sh : d.showable = true
  nd : d.hasDict = false
  dp : d.depth ≤ 64
  sz : (∃ i, d = .int i) ∨ d.shown.length ≤ sizeLine
theorem OkD.len {d : PyData} (h : OkD d) (n : ∀ i, d ≠ .int i := by intro _ z; cases z) : d.shown.length ≤ sizeLine := h.sz.resolve_left fun ⟨i, e⟩ => n i e
def rReprD (K : PySem.W.Frag) : List V → Hp → VK → Prop := fun xs H Q => ∃ x d, xs = [x] ∧ Dp K H x d ∧ OkD d ∧ Q (.str d.shown) H
theorem call_reprD {X : Cx} (gd : X.A.guards = some []) (hu : X.A.units + 70 < cLine) : CallR X (.builtin "repr") (rReprD X.K) := by
  intro pins s σ H xs us Q I r h
  obtain ⟨x, d, rfl, hd, ok, q⟩ := h
  obtain ⟨u, rfl, r1⟩ := vals_one r
  obtain ⟨as, rd⟩ := Dp.reads I d x u hd r1
  cases hd with
  | non =>
    obtain rfl : u = Value.none := r1
    exact PySem.P.repr_of_none ⟨.str _, H, I.tok _, ⟨_, rfl⟩, q⟩
  | bl b =>
    obtain rfl : u = Value.bool b := r1
    exact PySem.P.repr_of_bool ⟨.str _, H, I.tok _, ⟨_, rfl⟩, q⟩
  | int i =>
    obtain ⟨t, rfl⟩ := r1
    exact PySem.P.repr_of_int (of_decide_eq_true ok.sh) ⟨.str _, H, I.tok _, ⟨_, rfl⟩, q⟩
  | str z =>
    obtain ⟨t, rfl⟩ := r1
    exact PySem.P.repr_of_str ⟨.str _, H, I.tok _, ⟨_, rfl⟩, q⟩ ok.len
  | lst h1 h2 =>
    rename_i a xs ds
    obtain rfl : u = Value.ref a := r1
    refine repr_of_reads' rd ok.sh (PyData.noDict_hsm ok.nd) gd (by have := ok.dp; omega) (fun _ _ e => e) (fun h' u tk hk => ⟨.str _, H, I.kept hk, ⟨_, rfl⟩, q⟩) ok.len
  | tup h1 h2 =>
    rename_i a xs ds
    obtain rfl : u = Value.ref a := r1
    refine repr_of_reads' rd ok.sh (PyData.noDict_hsm ok.nd) gd (by have := ok.dp; omega) (fun _ _ e => e) (fun h' u tk hk => ⟨.str _, H, I.kept hk, ⟨_, rfl⟩, q⟩) ok.len
end WB

set_option Elab.async false
set_option linter.all false
set_option maxRecDepth 100000
set_option maxHeartbeats 4000000
namespace WB
open PySem L2 PyProof.Rows
/-! ### for i, c in enumerate(text) -/
theorem new_enum_text {x : Str} {t : Tok} :
    Meets (Builtin.«enumerate.__new__» ⟨[.type "enumerate", .str x t], []⟩) (fun _ R s =>
      R (.ok (.ret (.ref (s.heap.push { cls := .type (strIterType x), data := .fields #[.str x t, .int 0 0] }).objs.size))) { s with heap := (s.heap.push { cls := .type (strIterType x), data := .fields #[.str x t, .int 0 0] }).push { cls := .type "enumerate", data := .fields #[.none, .bool false, .ref s.heap.objs.size, rawInt 0, .none, .none] } }) :=
  .of_wp fun prog w A R s h => by
    obtain ⟨hp, g, d, tk, os⟩ := s
    have hsub := sub_enumerate
    have B := begins_text x t
    have q1 : ∀ {A' : Around} {E : Value → Shared → Prop} {Q : Value → Shared → Prop}, Q (.ref hp.objs.size) ⟨hp.push { cls := .type (strIterType x), data := .fields #[.str x t, .int 0 0] }, g, d, tk, os⟩ → wpAny (model prog w) A' (pyIter (.str x t)) Q E ⟨hp, g, d, tk, os⟩ :=
      fun q => B.iter prog w _ _ ⟨hp, g, d, tk, os⟩ _ trivial q
    wp_walk using q1
    refine wpAny_stack_any fun st => wpAny_pure ?_
    split
    · rename_i c _ _ _ _ _
      cases (c == Value.type "enumerate")
      · wp_walk using q1
        exact ⟨_, rfl, h⟩
      · wp_walk using q1
        exact ⟨_, rfl, h⟩
    · wp_walk using q1
      exact ⟨_, rfl, h⟩
theorem call_enum_text {prog : Program} {w : World} {A : Around} {E : Value → Shared → Prop} {s : Shared} {x : Str} {t : Tok} {Q : Value → Shared → Prop}
    (h : ∀ h', IsEnum h' (s.heap.objs.size + 1) s.heap.objs.size 0 .none → h'.IsStrIter s.heap.objs.size (strIterType x) x t 0 →
      (∀ b o, s.heap.get? b = some o → h'.get? b = some o) → Q (.ref (s.heap.objs.size + 1)) { s with heap := h' }) :
    wpAny (model prog w) A (call (.type "enumerate") [.str x t]) Q E s := by
  refine callType_new F.called_enumerate (by decide) (F.typeCall_enumerate_1 _) (F.newCall_enumerate_1 _) (fun obj => F.args_object_init_2 obj _) F.entry_enumerate_new new_enum_text ?_
  have hz : (s.heap.push { cls := .type (strIterType x), data := .fields #[.str x t, .int 0 0] }).objs.size = s.heap.objs.size + 1 := Heap.size_push ..
  show _ ∧ _
  rw [hz]
  have he : IsEnum ((s.heap.push { cls := .type (strIterType x), data := .fields #[.str x t, .int 0 0] }).push { cls := .type "enumerate", data := .fields #[.none, .bool false, .ref s.heap.objs.size, rawInt 0, .none, .none] }) (s.heap.objs.size + 1) s.heap.objs.size 0 .none := by
    have := Heap.get?_push_size (s.heap.push { cls := .type (strIterType x), data := .fields #[.str x t, .int 0 0] }) (o := { cls := .type "enumerate", data := .fields #[.none, .bool false, .ref s.heap.objs.size, rawInt 0, .none, .none] }) rfl
    rw [hz] at this
    exact this
  refine ⟨⟨_, he, rfl⟩, h _ he ⟨_, Heap.get?_push_of_some _ (Heap.get?_push_size _ rfl), rfl, rfl⟩ fun b o y => Heap.get?_push_of_some _ (Heap.get?_push_of_some _ y)⟩
def Ites (x : Str) : It :=
  ⟨fun i _ => i < x.cps.size, fun i H v H' => ∃ T c, v = .ref T ∧ H T = none ∧ H' = upd H T (.tup [.int (i : Nat), .str ⟨#[c]⟩]) ∧ x.cps[i]? = some c, fun i _ => i = x.cps.size⟩
theorem turn_enumS {P : Program} {w : World} {K : PySem.W.Frag} {elts : List Expr} {kk : Nat} {tpos : Pos} (x : Str) (t : Tok) (e it : Addr) :
    Turn P w K (.Tuple elts kk tpos) (Ites x) [e, it] e (fun i h => (∃ old, IsEnum h e it ((i : Nat) : Int) old) ∧ h.IsStrIter it (strIterType x) x t i ∧ e ≠ it) where
  mem := by simp
  obj := fun i h st b hb => by
    obtain ⟨⟨old, he⟩, ⟨o, ho, hc, hd⟩, _⟩ := st
    have e' : b = e ∨ b = it := by simpa using hb
    rcases e' with z | z
    · rw [z]
      exact ⟨_, he, fun v q => nomatch q⟩
    · rw [z]
      exact ⟨o, ho, fun v q => by rw [hd] at q; cases q⟩
  keep := fun i h h' st k => by
    obtain ⟨⟨old, he⟩, ⟨o, ho, r⟩, hne⟩ := st
    exact ⟨⟨old, k e (by simp) _ he⟩, ⟨o, k it (by simp) o ho, r⟩, hne⟩
  item := by
    intro X hP hw hK hc i pins s σ H E I hf st hg
    subst hP hw hK
    obtain ⟨⟨old, he⟩, hit, hne⟩ := st
    have hel : e < s.heap.objs.size := Heap.lt_size he
    have hil : it < s.heap.objs.size := by
      obtain ⟨_, q, _⟩ := hit
      exact Heap.lt_size q
    have D := Draws.text (prog := X.prog) (w := X.w) (A := X.A.in1) (I.ok.hd hc) it x t
    refine wpAny_pyNext_enum_itemD D he hit hg hne (by simpa using hne) fun v h' tk hv ho hit' hT hsz hk => ?_
    obtain ⟨c, u, hcx, rfl⟩ := hv
    refine ⟨_, rfl, wpAny_letOwnedTupleGo_enum (s := { s with heap := h', toks := tk + 1 }) ho fun h'' he' sb => ?_⟩
    have hT2 : h''.get? s.heap.objs.size = some { cls := .type "tuple", data := .seq #[.int i tk, .str ⟨#[c]⟩ u] } := (sb.2 _ (Nat.ne_of_gt hel)).trans hT
    have new : ObjOk X.prog X.w (upd H s.heap.objs.size (.tup [.int (i : Nat), .str ⟨#[c]⟩])) h'' s.heap.objs.size (.tup [.int (i : Nat), .str ⟨#[c]⟩]) :=
      ⟨by show 2 ≤ sizeLine; decide, [.int i tk, .str ⟨#[c]⟩ u], .cons ⟨_, rfl⟩ (.cons ⟨u, rfl⟩ .nil), ⟨_, hT2, rfl, _, rfl⟩⟩
    have I1 : Inv X pins σ (upd H s.heap.objs.size (.tup [.int (i : Nat), .str ⟨#[c]⟩])) { s with heap := h'', toks := tk + 1 } :=
      I.turnedNew (ch := [e, it]) (fun b ob hb q => (sb.2 b (fun z => hb (by simp [z]))).trans (hk b ob (fun z => hb (by simp [z])) (fun z => hb (by simp [z])) q)) hf (Nat.le_refl _) new
    refine ⟨.ref s.heap.objs.size, _, I1, rfl, ⟨_, c, rfl, I.hok.fresh (Nat.le_refl _), rfl, hcx⟩, ⟨⟨.str ⟨#[c]⟩ u, ?_⟩, ?_, hne⟩, fun b hb => ?_⟩
    · have e1 : ((i + 1 : Nat) : Int) = (i : Int) + 1 := by omega
      rw [e1]
      exact he'
    · obtain ⟨o, q1, q2⟩ := hit'
      exact ⟨o, (sb.2 it (Ne.symm hne)).trans q1, q2⟩
    · have hb' : b < s.heap.objs.size := by
        have e' : b = e ∨ b = it := by simpa using hb
        rcases e' with z | z
        · rw [z]
          exact hel
        · rw [z]
          exact hil
      rw [upd_ne (Nat.ne_of_lt hb')]
      exact (hf b hb).1
  done := by
    intro X hP hw hK hc i pins s σ H E I hf st hg
    subst hP hw hK
    obtain ⟨⟨old, he⟩, hit, hne⟩ := st
    obtain ⟨f0, f1, f2, f3, f4, f5⟩ := hf it (by simp)
    have D := Draws.text (prog := X.prog) (w := X.w) (A := X.A.in1) (I.ok.hd hc) it x t
    have hg : i = x.cps.size := hg
    rw [hg] at hit
    exact wpAny_pyNext_enum_endD D he hit fun h' eb => ⟨rfl, I.turned (t' := s.toks) (fun b o hb q => eb b o hb q) f0 f1 f3 f4 f5⟩
  self := fun A i s Q E st h => by
    obtain ⟨⟨_, he⟩, _⟩ := st
    exact wpAny_pyIter_enum he h
def iEnumS (te : TE) : TI := fun σ H R => te σ H fun v H1 => ∃ x, v = .str x ∧ R (Ites x) H1
theorem pi_enumS {X : Cx} {e : Expr} {te : TE} {p pos tpos : Pos} {elts : List Expr} {kk : Nat} (hg : Gl X "enumerate") (hm : X.mg "enumerate" = none) (he : PE X e te) (hs : starEach [e] X.env = [(false, eval e X.env)] := by rfl) :
    PI X (.Tuple elts kk tpos) (.Call (.Name "enumerate" p) [e] [] pos) (iEnumS te) := by
  refine ⟨fun pins s σ H R I h => ?_⟩
  refine Call_ (ld_blt I hg hm boot_enumerate (PyProof.Rows.callWith_type1 (thn ((pa_cons he pa_nil hs).run pos pins s σ H (fun vs H1 => ∃ x, vs = [V.str x] ∧ R (Ites x) H1) I ?_) fun us s1 ⟨vs, H1, I1, r1, q1⟩ => ?_) hs rfl))
  · show te σ H _
    have e : (fun v H1 => tNil σ H1 fun vs H2 => ∃ x, v :: vs = [V.str x] ∧ R (Ites x) H2) = fun (v : V) H1 => ∃ x, v = .str x ∧ R (Ites x) H1 := by
      funext v H1
      refine propext ⟨fun ⟨x, e, q⟩ => ?_, fun ⟨x, e, q⟩ => ⟨x, by rw [e], q⟩⟩
      cases e
      exact ⟨x, rfl, q⟩
    exact e ▸ h
  · obtain ⟨x, ex, q⟩ := q1
    subst ex
    obtain ⟨u, rfl, t, rfl⟩ := vals_one r1
    refine call_enum_text fun h' he hit hk => wpAny_pyIter_enum he ?_
    have I2 : Inv X pins σ H1 { s1 with heap := h' } := I1.kept (t' := s1.toks) hk
    refine ⟨s1.heap.objs.size + 1, [s1.heap.objs.size + 1, s1.heap.objs.size], _, _, H1, rfl, I2, turn_enumS x t (s1.heap.objs.size + 1) s1.heap.objs.size, ⟨⟨.none, he⟩, hit, Nat.succ_ne_self _⟩, fun b hb => ?_, q⟩
    have hle : s1.heap.objs.size ≤ b := by
      have e' : b = s1.heap.objs.size + 1 ∨ b = s1.heap.objs.size := by simpa using hb
      rcases e' with z | z
      · rw [z]
        exact Nat.le_succ _
      · rw [z]
        exact Nat.le_refl _
    exact I1.fpOk hle (I1.hok.fresh hle)
theorem walk_enumS {z : Str} : Walk (Ites z) z.cps.size (fun _ => True) (fun i H v H' => ∃ T c, v = .ref T ∧ H T = none ∧ H' = upd H T (.tup [.int (i : Nat), sg c]) ∧ z.cps[i]? = some c) :=
  ⟨fun _ _ hi _ => hi, fun _ _ => rfl, fun _ _ _ _ _ _ y => y⟩
end WB

set_option Elab.async false
set_option linter.all false
set_option maxRecDepth 100000
set_option maxHeartbeats 4000000
namespace WB
open PySem L2 PyProof.Rows
section
variable {X : Cx} {CX : CXT} {k j : Nat} {f C : Addr} {fd : FuncData} {ps : List Str} {sp : Sp} {E : L2.St → XK} {x m : Str} {p pos apos : Pos} {e o : Expr} {es : List Expr} {ta : TE} {t : TA}
/-! ### calls within try: what they let out is told at the slots -/
def tMethS (C : Addr) (m : Str) (sp : Sp) (E : L2.St → XK) (ta : TE) (t : TA) : TE := fun σ H Q => ta σ H fun x H1 => ∃ a dx fs, x = .ref a ∧ H1 a = some (.ins C dx fs) ∧ fs.lookup m = none ∧ t σ H1 fun vs H2 => sp (x :: vs) H2 Q (E σ)
theorem pe_methS {pl : Sem Bool} (he : PE X o ta) (c : Cls X.K C) (hm : Meth X.K C m f) (F : FnOk X.prog X.w X.K X.mg X.base CX k f fd ps sp) (hr : Room k X.A) (hb : Binds X.K fd ps []) (hx : ∀ σ, PassesAt CX X σ (E σ)) (ha : PA X (e :: es) t)
    (hst : starEach (e :: es) X.env = (false, eval e X.env) :: starEach es X.env := by rfl) (hpl : (backTo pos (starEach es X.env)).any (·.1) = false := by rfl)
    (ht : eval (.Call (.Attribute o m apos) (e :: es) [] pos) X.env = (do
      let ov ← eval o X.env
      standAt apos.atName
      let (f, first) ← holding [ov] (getMethod ov m pl)
      callWith pos f first (backTo pos (starEach (e :: es) X.env)) (backToKw pos (keywordEach [] X.env))) := by rfl) :
    PE X (.Call (.Attribute o m apos) (e :: es) [] pos) (tMethS C m sp E ta t) := by
  refine ⟨fun pins s σ H Q I h => ?_⟩
  refine PySem.W.methodCall_KW (pl := pl) (thn (he.run pins s σ H _ I h) fun u s1 ⟨y, H1, I1, ry, a, dx, fs, ey, ea, l, q⟩ => ?_) ht
  subst ey
  obtain rfl : u = Value.ref a := ry
  refine getmeth_ok I1 ea c hm l (PySem.W.callWith_K (first := [.ref a]) (h₀ := X.base) I.ok.mod.kin hm.kp (thn (ha.run pos pins s1 σ H1 _ I1 q) fun us s2 ⟨vs, H2, I2, r, q2⟩ => ⟨I2.kIn, ?_⟩) hst hpl)
  exact run_fnS (us := .ref a :: us) (vs := .ref a :: vs) F hr hb (hx σ) I2 (.cons rfl r) q2
def tMakeS (C : Addr) (sp : Sp) (E : L2.St → XK) (t : TA) : TE := fun σ H Q => t σ H fun vs H1 => ∀ x dx, H1 x = none → H1 dx = none → dx ≠ x →
  sp (.ref x :: vs) (upd (upd H1 dx (.own x)) x (.ins C dx [])) (fun v H2 => v = .non ∧ Q (.ref x) H2) (E σ)
theorem pe_makeS (M : Mk X.K C f) (F : FnOk X.prog X.w X.K X.mg X.base CX k f fd ps sp) (hr : Room (k + 1) X.A) (hg : Gl X x) (hm : X.mg x = some (.ref C)) (hb : Binds X.K fd ps []) (hx : ∀ σ, PassesAt CX X σ (E σ)) (ha : PA X (e :: es) t)
    (hdb : (x == ("__debug__" : Str)) = false := by decide) (he : starEach (e :: es) X.env = (false, eval e X.env) :: starEach es X.env := by rfl) (hpl : (backTo pos (starEach es X.env)).any (·.1) = false := by rfl) :
    PE X (.Call (.Name x p) (e :: es) [] pos) (tMakeS C sp E t) := by
  refine ⟨fun pins s σ H Q I h => ?_⟩
  refine wpAny_Call_Name_kw (ld_glob I hg hm ?_ hdb)
  refine PySem.W.callWith_K (h₀ := X.base) I.ok.mod.kin M.kp (thn (ha.run pos pins s σ H _ I h) fun us s1 ⟨vs, H1, I1, r, q⟩ => ⟨I1.kIn, ?_⟩) he hpl
  have n := s1.heap.objs.size
  have q2 := q (s1.heap.objs.size + 1) s1.heap.objs.size (I1.hok.fresh (Nat.le_succ _)) (I1.hok.fresh (Nat.le_refl _)) (Nat.ne_of_lt (Nat.lt_succ_self _))
  have I2 := Inv.made (C := C) I1
  have r2 : Vals (V.ref (s1.heap.objs.size + 1) :: vs) (Value.ref (s1.heap.objs.size + 1) :: us) := .cons rfl r
  have hl : (Value.ref (s1.heap.objs.size + 1) :: us).length = ps.length := r2.length.symm.trans (F.len _ _ _ _ q2)
  have b := hb _ (Value.ref (s1.heap.objs.size + 1) :: us) I2.kIn (by rw [List.append_nil]; exact hl)
  rw [List.append_nil] at b
  refine wpAny_call (make_map (f := f) I1.kIn M.makes M.init (beq_iff_eq.mp M.fn) (codeAny_mono (F.run _ X.stack _ _ ⟨Value.ref (s1.heap.objs.size + 1) :: us, []⟩ (Value.ref (s1.heap.objs.size + 1) :: us) _ _ (E σ) (hr.make C us []) (I2.env0.make C us []) b r2 q2) fun r s' hq' => ?_))
  cases r with
  | error er => exact hx σ pins _ _ er s' I2 hq'
  | ok fl =>
    cases fl with
    | ret u =>
      obtain ⟨v, H', I3, rv, ev, q3⟩ := I2.after hq'
      subst ev
      exact ⟨rv, ⟨V.ref (s1.heap.objs.size + 1), H', I3, rfl, q3⟩⟩
    | next => exact hq'.elim
    | brk => exact hq'.elim
    | cont => exact hq'.elim
end
/-! ### what may raise, by its name -/
structure CalX (P : Program) (w : World) (K : PySem.W.Frag) (mg : Str → Option Value) (base : Heap) (k : Nat) (x : Str) (sp : Sp) : Prop where
  ex : ∃ (f : Addr) (fd : FuncData) (ps : List Str), FnOk P w K mg base (L2.CX P w) k f fd ps sp ∧ mg x = some (.ref f) ∧ PySem.W.keepIn K (.ref f) = true ∧ Binds K fd ps []
structure MetX (P : Program) (w : World) (K : PySem.W.Frag) (mg : Str → Option Value) (base : Heap) (k : Nat) (C : Addr) (m : Str) (sp : Sp) (kn : Str) : Prop where
  ex : ∃ (f : Addr) (fd : FuncData) (ps : List Str), Cls K C ∧ Meth K C m f ∧ FnOk P w K mg base (L2.CX P w) k f fd ps sp ∧ Binds K fd ps [] ∧ KBn K fd ps 1 [kn] (fun us ws => us ++ ws) (fun vs zs => vs ++ zs)
structure MakX (P : Program) (w : World) (K : PySem.W.Frag) (mg : Str → Option Value) (base : Heap) (k : Nat) (x : Str) (C : Addr) (sp : Sp) (dv : V) (kn : Str) : Prop where
  ex : ∃ (f : Addr) (fd : FuncData) (ps : List Str) (ds : List Value), Mk K C f ∧ FnOk P w K mg base (L2.CX P w) k f fd ps sp ∧ mg x = some (.ref C) ∧ Binds K fd ps [] ∧ Binds K fd ps ds ∧ Vals [dv] ds ∧ KBn K fd ps 1 [kn] (fun us ws => us ++ ws) (fun vs zs => vs ++ zs)
section
variable {X : Cx} {k j : Nat} {C : Addr} {x m kn : Str} {sp : Sp} {p pos apos kpos : Pos} {e o : Expr} {es : List Expr} {ta : TE} {t : TA} {W : WX} {E : XK}
theorem pe_cX (c : CalX X.prog X.w X.K X.mg X.base k x sp) (tk : Takes X (fun cls d _ H => E cls d H)) (hr : Room j X.A) (hk : k ≤ j) (hg : Gl X x) (ha : PA X (e :: es) t)
    (hdb : (x == ("__debug__" : Str)) = false := by decide) (he : starEach (e :: es) X.env = (false, eval e X.env) :: starEach es X.env := by rfl) (hpl : (backTo pos (starEach es X.env)).any (·.1) = false := by rfl) :
    PE X (.Call (.Name x p) (e :: es) [] pos) (tCall sp [] E t) := by
  obtain ⟨f, fd, ps, F, hm, kp, b⟩ := c.ex
  exact pe_call F (hr.mono hk) hg hm kp b .nil (passes_call tk fun _ _ _ _ h => h) ha hdb he hpl
/-- where nothing is let out -/
theorem pe_mtX {pl : Sem Bool} (c : MetX X.prog X.w X.K X.mg X.base k C m sp kn) (hr : Room j X.A) (hk : k ≤ j) (he : PE X o ta) (ha : PA X (e :: es) t)
    (hst : starEach (e :: es) X.env = (false, eval e X.env) :: starEach es X.env := by rfl) (hpl : (backTo pos (starEach es X.env)).any (·.1) = false := by rfl)
    (ht : eval (.Call (.Attribute o m apos) (e :: es) [] pos) X.env = (do
      let ov ← eval o X.env
      standAt apos.atName
      let (f, first) ← holding [ov] (getMethod ov m pl)
      callWith pos f first (backTo pos (starEach (e :: es) X.env)) (backToKw pos (keywordEach [] X.env))) := by rfl) :
    PE X (.Call (.Attribute o m apos) (e :: es) [] pos) (tMeth C m sp [] E0 ta t) := by
  obtain ⟨f, fd, ps, hc, hm, F, b, _⟩ := c.ex
  exact pe_meth (pl := pl) he hc hm F (hr.mono hk) b .nil passL ha hst hpl ht
theorem pe_mkX {dv : V} (c : MakX X.prog X.w X.K X.mg X.base k x C sp dv kn) (hr : Room j X.A) (hk : k + 1 ≤ j) (hg : Gl X x) (ha : PA X (e :: es) t)
    (hdb : (x == ("__debug__" : Str)) = false := by decide) (he : starEach (e :: es) X.env = (false, eval e X.env) :: starEach es X.env := by rfl) (hpl : (backTo pos (starEach es X.env)).any (·.1) = false := by rfl) :
    PE X (.Call (.Name x p) (e :: es) [] pos) (tMake C sp [] E0 t) := by
  obtain ⟨f, fd, ps, ds, M, F, hm, b, _⟩ := c.ex
  exact pe_make M F (hr.mono hk) hg hm b .nil passL ha hdb he hpl
theorem pe_mkX0 {dv : V} (c : MakX X.prog X.w X.K X.mg X.base k x C sp dv kn) (hr : Room j X.A) (hk : k + 1 ≤ j) (hg : Gl X x) (hdb : (x == ("__debug__" : Str)) = false := by decide) :
    PE X (.Call (.Name x p) [] [] pos) (tMake C sp [dv] E0 tNil) := by
  obtain ⟨f, fd, ps, ds, M, F, hm, _, b, d, _⟩ := c.ex
  exact pe_make0 M F (hr.mono hk) hg hm b d passL hdb
/-- o.m(k = e) -/
def tMethK (C : Addr) (m : Str) (sp : Sp) (ta te : TE) : TE := fun σ H Q => ta σ H fun x H1 => ∃ a dx fs, x = .ref a ∧ H1 a = some (.ins C dx fs) ∧ fs.lookup m = none ∧ te σ H1 fun y H2 => sp [x, y] H2 Q E0
theorem pe_mtK {pl : Sem Bool} (c : MetX X.prog X.w X.K X.mg X.base k C m sp kn) (hr : Room j X.A) (hk : k ≤ j) (he : PE X o ta) {te : TE} (ha : PE X e te)
    (hall : (backToKw pos (keywordEach [⟨some kn, e, kpos⟩] X.env)).all (·.1.isSome) = true := by rfl) (hks : (backToKw pos (keywordEach [⟨some kn, e, kpos⟩] X.env)).filterMap (·.1) = [kn] := by rfl)
    (hpl : ((backTo pos (starEach [] X.env)).any (·.1) || (backToKw pos (keywordEach [⟨some kn, e, kpos⟩] X.env)).any (·.1.isNone)) = false := by rfl)
    (ht : eval (.Call (.Attribute o m apos) [] [⟨some kn, e, kpos⟩] pos) X.env = (do
      let ov ← eval o X.env
      standAt apos.atName
      let (f, first) ← holding [ov] (getMethod ov m pl)
      callWith pos f first (backTo pos (starEach [] X.env)) (backToKw pos (keywordEach [⟨some kn, e, kpos⟩] X.env))) := by rfl) :
    PE X (.Call (.Attribute o m apos) [] [⟨some kn, e, kpos⟩] pos) (tMethK C m sp ta te) := by
  obtain ⟨f, fd, ps, hc, hm, F, _, kb⟩ := c.ex
  have hr2 := hr.mono hk
  refine ⟨fun pins s σ H Q I h => ?_⟩
  refine PySem.W.methodCall_KW (pl := pl) (thn (he.run pins s σ H _ I h) fun u s1 ⟨y, H1, I1, ry, a, dx, fs, ey, ea, l, q⟩ => ?_) ht
  subst ey
  obtain rfl : u = Value.ref a := ry
  refine getmeth_ok I1 ea hc hm l (PySem.W.callWith_KW0 (first := [.ref a]) (h₀ := X.base) I1.ok.mod.kin hm.kp hall ?_ hpl)
  refine thn ((pk_cons ha pk_nil).run pos pins s1 σ H1 (fun zs H2 => ∃ z, zs = [z] ∧ sp [.ref a, z] H2 Q E0) I1 ?_) fun ws s2 ⟨zs, H2, I2, rz, z, ez, q2⟩ => ⟨I2.kIn, ?_⟩
  · have e : (fun v H1 => tNil σ H1 fun vs H2 => ∃ z, v :: vs = [z] ∧ sp [.ref a, z] H2 Q E0) = fun (y : V) H2 => sp [.ref a, y] H2 Q E0 := by
      funext v H1
      refine propext ⟨fun ⟨x, e, q⟩ => ?_, fun q => ⟨v, rfl, q⟩⟩
      cases e
      exact q
    show te σ H1 (fun v H1 => tNil σ H1 fun vs H2 => ∃ z, v :: vs = [z] ∧ sp [.ref a, z] H2 Q E0)
    rw [e]
    exact q
  · subst ez
    rw [hks]
    have r2 : Vals [V.ref a, z] (Value.ref a :: ws) := .cons rfl rz
    have hb := kb.to s2 [.ref a] ws I2.kIn rfl rz.length.symm
    refine wpAny_call (codeAny_mono (F.run X.A X.stack s2 H2 ⟨[.ref a], [kn].zip ws⟩ (Value.ref a :: ws) [.ref a, z] Q E0 hr2 I2.env0 hb r2 q2) fun r s' hq => ?_)
    cases r with
    | error er => exact passL pins σ H2 s2 er s' I2 hq
    | ok fl =>
      cases fl with
      | ret u => exact I2.after hq
      | next => exact hq.elim
      | brk => exact hq.elim
      | cont => exact hq.elim
/-- within try -/
theorem pe_mtS {pl : Sem Bool} (c : MetX X.prog X.w X.K X.mg X.base k C m sp kn) (tk : Takes X W) (hr : Room j X.A) (hk : k ≤ j) (he : PE X o ta) (ha : PA X (e :: es) t)
    (hst : starEach (e :: es) X.env = (false, eval e X.env) :: starEach es X.env := by rfl) (hpl : (backTo pos (starEach es X.env)).any (·.1) = false := by rfl)
    (ht : eval (.Call (.Attribute o m apos) (e :: es) [] pos) X.env = (do
      let ov ← eval o X.env
      standAt apos.atName
      let (f, first) ← holding [ov] (getMethod ov m pl)
      callWith pos f first (backTo pos (starEach (e :: es) X.env)) (backToKw pos (keywordEach [] X.env))) := by rfl) :
    PE X (.Call (.Attribute o m apos) (e :: es) [] pos) (tMethS C m sp (WE W) ta t) := by
  obtain ⟨f, fd, ps, hc, hm, F, b, _⟩ := c.ex
  exact pe_methS (pl := pl) he hc hm F (hr.mono hk) b (fun σ => passAt tk σ) ha hst hpl ht
theorem pe_mkS {dv : V} (c : MakX X.prog X.w X.K X.mg X.base k x C sp dv kn) (tk : Takes X W) (hr : Room j X.A) (hk : k + 1 ≤ j) (hg : Gl X x) (ha : PA X (e :: es) t)
    (hdb : (x == ("__debug__" : Str)) = false := by decide) (he : starEach (e :: es) X.env = (false, eval e X.env) :: starEach es X.env := by rfl) (hpl : (backTo pos (starEach es X.env)).any (·.1) = false := by rfl) :
    PE X (.Call (.Name x p) (e :: es) [] pos) (tMakeS C sp (WE W) t) := by
  obtain ⟨f, fd, ps, ds, M, F, hm, b, _⟩ := c.ex
  exact pe_makeS M F (hr.mono hk) hg hm b (fun σ => passAt tk σ) ha hdb he hpl
end
/-! ### BadBox -/
def spBad (C : Addr) : Sp := fun vs H Q _ => ∃ (a : Addr) (y : V), vs = [.ref a, y] ∧ H a = some (exo a C none) ∧ ∀ d, H d = none → d ≠ a → Q .non (upd (upd H d (exd d [("contents", y)])) a (exo a C (some d)))
structure BadT (K : PySem.W.Frag) (mg : Str → Option Value) (C : Addr) : Prop where
  ox : OexC K C
  xf : XfC K C
  no : PySem.W.findIn K (.ref C) "contents" = some none
  g : mg "BadBox" = some (.ref C)
  te : PySem.W.exmOne K (.ref C) (.ref C) = some true
structure BadC (P : Program) (w : World) (K : PySem.W.Frag) (mg : Str → Option Value) (base : Heap) (C : Addr) : Prop where
  t : BadT K mg C
  ini : ∃ (f : Addr) (fd : FuncData), PySem.W.findIn K (.ref C) "__init__" = some (some (.ref f)) ∧ PySem.W.typeIn K (.ref f) = some (.type "function") ∧ FnOk P w K mg base C8.CX0 1 f fd ["self", "contents"] (spBad C) ∧ Binds K fd ["self", "contents"] []
theorem exm_me {K : PySem.W.Frag} {C : Addr} (h1 : PySem.W.subIn K (.ref C) (.type "BaseException") = some true) (h2 : PySem.W.isClsIn K C = true) (h3 : PySem.W.typeIn K (.ref C) = some (.type "type")) (h4 : PySem.W.subIn K (.ref C) (.ref C) = some true) :
    PySem.W.exmOne K (.ref C) (.ref C) = some true := by
  unfold PySem.W.exmOne
  rw [h1, if_pos (by decide)]
  have h2' : (PySem.W.clsIn K C).isSome = true := h2
  unfold PySem.W.kitCls
  dsimp only
  rw [h2', h3]
  exact h4
theorem pmk_bad {X : Cx} {C : Addr} {j : Nat} {e : Expr} {ta : TA} {p pos : Pos} (B : BadC X.prog X.w X.K X.mg X.base C) (hr : Room j X.A) (hk : 2 ≤ j) (hg : Gl X "BadBox") (ha : PA X [e] ta)
    (he : starEach [e] X.env = (false, eval e X.env) :: starEach [] X.env := by rfl) (hpl : (backTo pos (starEach [] X.env)).any (·.1) = false := by rfl) :
    PMk X (.Call (.Name "BadBox" p) [e] [] pos) (tMkO C (spBad C) [] ta) := by
  obtain ⟨f, fd, h1, h2, F, b⟩ := B.ini
  exact pmk_oex B.t.ox h1 h2 F (hr.mono hk) b .nil (fun _ _ _ _ _ _ _ z => z.elim) hg B.t.g ha (by decide) he hpl
theorem bad_ok {C a : Addr} {y : V} {H1 : Hp} {Q E : XK} (na : H1 a = none) (h : ∀ H' d, Same H1 H' → H1 d = none → H' d = some (.xd [("contents", y)]) → Q (.ref C) (some d) H') :
    spBad C [.ref a, y] (upd H1 a (exo a C none)) (fun v H2 => v = .non ∧ ∃ (d : Addr) (fs : List (Str × V)), H2 a = some (exo a C (some d)) ∧ H2 d = some (exd d fs) ∧ H1 d = none ∧ Q (.ref C) (some d) (upd (del H2 a) d (.xd fs))) E := by
  refine ⟨a, y, rfl, upd_same, fun d hd hda => ⟨rfl, d, [("contents", y)], upd_same, (upd_ne hda).trans upd_same, ?_, ?_⟩⟩
  · rw [upd_ne hda] at hd
    exact hd
  · rw [upd_ne hda] at hd
    refine h _ d (fun b o e => ?_) hd upd_same
    have n1 : b ≠ a := ne_of_none e na
    have n2 : b ≠ d := ne_of_none e hd
    rw [upd_ne n2, del_ne n1, upd_ne n1, upd_ne n2, upd_ne n1]
    exact e
def conB : V → Bool
  | .str z => decide (z = sb (mem z))
  | _ => false
theorem conB_str {z : Str} (h : conB (.str z) = true) : IsC z := ⟨_, of_decide_eq_true h⟩
theorem conB_isC {z : Str} (h : IsC z) : conB (.str z) = true := decide_eq_true h.eq
def spCheckX (K : PySem.W.Frag) (C : Addr) : Sp := fun vs H Q E => ∃ x : V, vs = [x] ∧ Thing K H x ∧ (conB x = true → ∀ H', Same H H' → Q x H') ∧
  (conB x = false → ∀ H' d, Same H H' → H d = none → H' d = some (.xd [("contents", x)]) → E (.ref C) (some d) H')
def spBecomeX (K : PySem.W.Frag) (CB C : Addr) : Sp := fun vs H Q E => ∃ (a : Addr) (y : Str) (x : V), vs = [.ref a, x] ∧ BoxAt CB H a y ∧ Thing K H x ∧ (∀ z, x = .str z → IsC z → ∀ H', Bar a H H' → BoxAt CB H' a z → Q .non H') ∧
  (conB x = false → ∀ H' d, Same H H' → H d = none → H' d = some (.xd [("contents", x)]) → E (.ref C) (some d) H')
def spInitX (K : PySem.W.Frag) (CB C : Addr) : Sp := fun vs H Q E => ∃ (a dx : Addr) (x : V), vs = [.ref a, x] ∧ H a = some (.ins CB dx []) ∧ Thing K H x ∧ (∀ z, x = .str z → IsC z → ∀ H', Bar a H H' → BoxAt CB H' a z → Q .non H') ∧
  (conB x = false → ∀ H' d, Same H H' → H d = none → H' d = some (.xd [("contents", x)]) → E (.ref C) (some d) H')
theorem thing_isC {K : PySem.W.Frag} {H : Hp} {z : Str} (h : IsC z) : Thing K H (.str z) := .inl ⟨z, rfl, Nat.le_trans h.len (by decide)⟩
theorem fund_okX {P : Program} {w : World} {K : PySem.W.Frag} {mg : Str → Option Value} {base : Heap} {x qual : Str} {params : Arguments} {body : List Stmt} {scope : Scope} {dvs : List V} {kws : List (Str × V)} {f : Addr} {fd : FuncData} {N ps : List Str} {k : Nat} {sp : Sp}
    (F : FunD K x qual params body scope dvs kws f fd) (S : FnScope N ps scope) (len : ∀ vs H Q E, sp vs H Q E → vs.length = ps.length)
    (hbody : ∀ (cdv : Value) (A : Around) (outer : List Env) (s : Shared) (H : Hp) (vs : List V) (Q : VK) (E : XK), Room k (A.deeper (envOfC qual scope s.heap.objs.size f cdv)) → sp vs H Q E →
      ∃ t, PSs (cxOf (L2.CX P w) P w K mg base N qual scope f cdv A outer s H E) body t ∧ t { nx := fun _ H' => Q .non H', rt := Q } (start N vs) H) : FnOk P w K mg base (L2.CX P w) (k + 1) f fd ps sp := by
  obtain ⟨oc, od, dV, kV, doc, pm, an, cdv, ct, osl, rfl, lk, hcd, _⟩ := F.ex
  exact fn_of lk hcd S len fun A outer s H vs Q E hr hsp => hbody cdv A outer s H vs Q E hr hsp
theorem fun_kb {K : PySem.W.Frag} {x qual : Str} {st : Stmt} {f : Addr} {fd : FuncData} {ps ks : List Str} (F : L2.Fun K x qual st f fd)
    (h : ∀ (kV doc pm : Value) (an : Option Addr) (cdv ct : Value) (us ws : List Value), us.length = 1 → ws.length = ks.length → bindArgs (PySem.W.fnOf x qual (defArgs st) (defBody st) (defScope st) .none kV doc pm an cdv ct) ⟨us, ks.zip ws⟩ = pure (ps.zip (us ++ ws))) :
    KBn K fd ps 1 ks (fun us ws => us ++ ws) (fun vs zs => vs ++ zs) := by
  obtain ⟨oc, od, kV, doc, pm, an, cdv, ct, osl, rfl, lk, hcd⟩ := F.ex
  exact ⟨fun s us ws X l1 l2 => BindsTo.of_eq (h kV doc pm an cdv ct us ws l1 l2), fun r1 r2 => r1.append r2⟩
end WB

set_option Elab.async false
set_option linter.all false
set_option maxRecDepth 100000
set_option maxHeartbeats 4000000
namespace WB
open PySem L2 PyProof.Rows
/-! ### contents, sign by sign -/
theorem sorted_eq : ∀ {l m : List Nat}, l.Pairwise (· < ·) → m.Pairwise (· < ·) → (∀ c, c ∈ l ↔ c ∈ m) → l = m
  | [], [], _, _, _ => rfl
  | [], b :: m, _, _, h => absurd ((h b).mpr List.mem_cons_self) List.not_mem_nil
  | a :: l, [], _, _, h => absurd ((h a).mp List.mem_cons_self) List.not_mem_nil
  | a :: l, b :: m, h1, h2, h => by
    obtain ⟨a1, a2⟩ := List.pairwise_cons.mp h1
    obtain ⟨b1, b2⟩ := List.pairwise_cons.mp h2
    have e : a = b := by
      rcases List.mem_cons.mp ((h a).mp List.mem_cons_self) with e | q
      · exact e
      · rcases List.mem_cons.mp ((h b).mpr List.mem_cons_self) with e | r
        · exact e.symm
        · have := b1 a q
          have := a1 b r
          omega
    subst e
    refine congrArg (a :: ·) (sorted_eq a2 b2 fun c => ⟨fun hc => ?_, fun hc => ?_⟩)
    · rcases List.mem_cons.mp ((h c).mp (List.mem_cons_of_mem _ hc)) with e | q
      · have := a1 c hc
        omega
      · exact q
    · rcases List.mem_cons.mp ((h c).mpr (List.mem_cons_of_mem _ hc)) with e | q
      · have := b1 c hc
        omega
      · exact q
theorem mk_sorted : mk.Pairwise (· < ·) := by decide +kernel
/-- the sign at i is a mark, and it comes behind the one ahead of it -/
def GoodAt (l : List Nat) (i : Nat) : Prop := ∃ c, l[i]? = some c ∧ c ∈ mk ∧ (0 < i → ∃ b, l[i - 1]? = some b ∧ b < c)
theorem good_sorted : ∀ {l : List Nat}, (∀ i, i < l.length → GoodAt l i) → l.Pairwise (· < ·) := by
  intro l h
  rw [List.pairwise_iff_getElem]
  intro i j hi hj hij
  induction j with
  | zero => omega
  | succ j ih =>
    obtain ⟨c, h1, _, h2⟩ := h (j + 1) hj
    obtain ⟨b, h3, h4⟩ := h2 (Nat.succ_pos _)
    have hj' : j < l.length := Nat.lt_of_succ_lt hj
    have e1 : l[j + 1] = c := (List.getElem?_eq_some_iff.mp h1).2
    have e2 : l[j] = b := by
      have : l[j]? = some b := h3
      exact (List.getElem?_eq_some_iff.mp this).2
    by_cases q : i = j
    · subst q
      rw [e1, e2]
      exact h4
    · have := ih hj' (by omega)
      omega
theorem conB_yes {z : Str} (h : ∀ i, i < z.cps.toList.length → GoodAt z.cps.toList i) : conB (.str z) = true := by
  have e : z.cps.toList = mk.filter (mem z) := sorted_eq (good_sorted h) (mk_sorted.filter _) fun c => by
    rw [List.mem_filter]
    refine ⟨fun hc => ⟨?_, decide_eq_true hc⟩, fun hc => of_decide_eq_true hc.2⟩
    obtain ⟨i, hi, e⟩ := List.getElem_of_mem hc
    obtain ⟨d, h1, h2, _⟩ := h i hi
    rw [List.getElem?_eq_getElem hi, e] at h1
    cases h1
    exact h2
  exact decide_eq_true ((SX.S_tl z).symm.trans (congrArg S e))
theorem conB_good {z : Str} (h : conB (.str z) = true) {i : Nat} (hi : i < z.cps.toList.length) : GoodAt z.cps.toList i := by
  have hz := conB_str h
  have hs : z.cps.toList.Pairwise (· < ·) := by
    obtain ⟨p, rfl⟩ := hz
    exact mk_sorted.filter _
  refine ⟨z.cps.toList[i], List.getElem?_eq_getElem hi, isC_sub hz (List.getElem_mem hi), fun h0 => ?_⟩
  have hi' : i - 1 < z.cps.toList.length := by omega
  exact ⟨z.cps.toList[i - 1], List.getElem?_eq_getElem hi', List.pairwise_iff_getElem.mp hs _ _ hi' hi (by omega)⟩
theorem conB_noStr {K : PySem.W.Frag} {H : Hp} {x : V} (h : NoStr K H x) : conB x = false := by
  cases x with
  | str y =>
    obtain ⟨t, ty, k⟩ := h
    cases ty with
    | base b =>
      cases b
      exact absurd k (by decide +kernel)
  | non => rfl
  | bl b => rfl
  | int i => rfl
  | byt b => rfl
  | flt b => rfl
  | ref a => rfl
  | ty n => rfl
/-! ### plain values -/
def SmallS (z : Str) : Prop := z.length ≤ 300 ∧ ∀ c ∈ z.cps.toList, c < 1000
theorem small_cut {z : Str} {lo hi : Option Int} (h : SmallS z) : SmallS (cutS z lo hi) := ⟨cut_len h.1, fun c hc => h.2 c (List.mem_of_mem_drop (List.mem_of_mem_take hc))⟩
theorem small_isC {z : Str} (h : IsC z) : SmallS z := ⟨Nat.le_trans h.len (by decide), fun c hc => mk_small c (isC_sub h hc)⟩
def PlainAt (p : Addr) (H : Hp) (x : V) : Prop :=
  (x = .non ∨ (∃ b, x = .bl b) ∨ (∃ i, x = .int i ∧ i.natAbs.log2 < 1000)) ∨ (∃ z, x = .str z ∧ SmallS z) ∨
  (∃ (l : Addr) (zs : List Str), x = .ref l ∧ l ≠ p ∧ (H l = some (.lst (zs.map V.str)) ∨ H l = some (.tup (zs.map V.str))) ∧ zs.length ≤ 2 ∧ ∀ z ∈ zs, SmallS z)
theorem PlainAt.mono {p : Addr} {H H' : Hp} {x : V} (h : PlainAt p H x) (k : ∀ l o, x = .ref l → l ≠ p → H l = some o → (∀ C dx fs, o ≠ .ins C dx fs) → H' l = some o) : PlainAt p H' x := by
  rcases h with h | h | ⟨l, zs, e, n, q, h⟩
  · exact .inl h
  · exact .inr (.inl h)
  · refine .inr (.inr ⟨l, zs, e, n, ?_, h⟩)
    rcases q with q | q
    · exact .inl (k l _ e n q fun _ _ _ z => by cases z)
    · exact .inr (k l _ e n q fun _ _ _ z => by cases z)
theorem PlainAt.same {p : Addr} {H H' : Hp} {x : V} (h : PlainAt p H x) (s : Same H H') : PlainAt p H' x := h.mono fun l o _ _ e _ => s l o e
theorem PlainAt.bag {p : Addr} {H H' : Hp} {x : V} (h : PlainAt p H x) (s : Bar p H H') : PlainAt p H' x := h.mono fun l o _ n e _ => s l o n e
theorem PlainAt.box {p b C : Addr} {H H' : Hp} {x : V} {z : Str} (h : PlainAt p H x) (s : Bar b H H') (hb : BoxAt C H b z) : PlainAt p H' x := h.mono fun l o _ _ e no => s l o (fun q => by
  obtain ⟨dx, hb⟩ := hb
  rw [q, hb] at e
  exact no _ _ _ (Option.some.inj e).symm) e
theorem PlainAt.thing {K : PySem.W.Frag} {p : Addr} {H : Hp} {x : V} (h : PlainAt p H x) : Thing K H x := by
  rcases h with (rfl | ⟨b, rfl⟩ | ⟨i, rfl, _⟩) | ⟨z, rfl, hz⟩ | ⟨l, zs, rfl, _, q | q, _⟩
  · exact .inr noStr_non
  · exact .inr noStr_bl
  · exact .inr noStr_int
  · exact .inl ⟨z, rfl, Nat.le_trans hz.1 (by decide)⟩
  · exact .inr (noStr_lst q)
  · exact .inr (noStr_tup q)
theorem repr_len {z : Str} (h : SmallS z) : (reprText z).length ≤ 3002 := by
  have := StrLaws.reprText_len z fun c hc => Nat.lt_trans (h.2 c hc) (by decide)
  have := h.1
  omega
theorem showAll_strs : ∀ zs : List Str, PyData.showableAll (zs.map PyData.str) = true ∧ PyData.hasDictAll (zs.map PyData.str) = false ∧ PyData.depthAll (zs.map PyData.str) = 0 ∧ PyData.shownAll (zs.map PyData.str) = zs.map reprText
  | [] => ⟨rfl, rfl, rfl, rfl⟩
  | z :: r => by
    obtain ⟨h1, h2, h3, h4⟩ := showAll_strs r
    refine ⟨?_, ?_, ?_, ?_⟩
    · show (true && PyData.showableAll (r.map _)) = true
      rw [h1]
      rfl
    · show (false || PyData.hasDictAll (r.map _)) = false
      rw [h2]
      rfl
    · show max 0 (PyData.depthAll (r.map _)) = 0
      rw [h3]
      rfl
    · show reprText z :: PyData.shownAll (r.map _) = _
      rw [h4]
      rfl
theorem dp_all_strs {K : PySem.W.Frag} {H : Hp} : ∀ zs : List Str, DpAll K H (zs.map V.str) (zs.map PyData.str)
  | [] => .nil
  | z :: r => .cons (.str _) (dp_all_strs r)
theorem line_big : 20000 ≤ sizeLine := by decide
theorem textFrom_le : ∀ (ts : List Str) (k : Nat) (acc : Str), (textFrom k acc ts).length ≤ acc.length + piled ts
  | [], k, acc => Nat.le_refl _
  | t :: r, k, acc => by
    have ih := textFrom_le r (k + 1) (acc ++ (if k > 0 then ", " else "" : String) ++ t)
    rw [piled_cons]
    refine Nat.le_trans ih ?_
    rw [Str.length_append, Str.length_append]
    have : (Str.ofString (if k > 0 then ", " else "" : String)).length ≤ 2 := by
      split
      · decide +kernel
      · decide +kernel
    omega
theorem piled2 {ts : List Str} (h : ts.length ≤ 2) (hs : ∀ t ∈ ts, t.length ≤ 3002) : piled ts ≤ 6008 := by
  match ts, h, hs with
  | [], _, _ => exact Nat.zero_le _
  | [a], _, hs =>
    have := hs a List.mem_cons_self
    rw [piled_cons, piled_nil]
    omega
  | [a, b], _, hs =>
    have := hs a List.mem_cons_self
    have := hs b (List.mem_cons_of_mem _ List.mem_cons_self)
    rw [piled_cons, piled_cons, piled_nil]
    omega
theorem sum_piled : ∀ ts : List Str, (ts.map (·.length)).sum + ts.length * 2 ≤ piled ts
  | [] => Nat.le_refl _
  | t :: r => by
    have ih := sum_piled r
    rw [piled_cons]
    show (t.length + (r.map (·.length)).sum) + (r.length + 1) * 2 ≤ _
    omega
theorem text_len2 {ts : List Str} (h : ts.length ≤ 2) (hs : ∀ t ∈ ts, t.length ≤ 3002) : (listText ts).length ≤ sizeLine ∧ (tupleText ts).length ≤ sizeLine := by
  have hb := line_big
  have pl := piled2 h hs
  constructor
  · unfold listText
    rw [Str.length_append]
    have h1 := textFrom_le ts 0 "["
    have h2 : ("[" : Str).length = 1 := by decide +kernel
    have h3 : ("]" : Str).length = 1 := by decide +kernel
    omega
  · unfold tupleText
    rw [Str.length_append, Str.length_append]
    have h1 := StrLaws.join_length_le ", " ts
    have h2 : (", " : Str).length = 2 := by decide +kernel
    rw [h2] at h1
    have h3 := sum_piled ts
    have h4 : ("(" : Str).length = 1 := by decide +kernel
    have h5 : (Str.ofString (if ts.length == 1 then ",)" else ")" : String)).length ≤ 2 := by
      split
      · decide +kernel
      · decide +kernel
    omega
theorem PlainAt.data {K : PySem.W.Frag} {p : Addr} {H : Hp} {x : V} (h : PlainAt p H x) : ∃ d, Dp K H x d ∧ OkD d := by
  have two : ∀ {zs : List Str}, zs.length ≤ 2 → (∀ z ∈ zs, SmallS z) → OkD (.list (zs.map PyData.str)) ∧ OkD (.tuple (zs.map PyData.str)) := by
    intro zs hl hs
    obtain ⟨h1, h2, h3, h4⟩ := showAll_strs zs
    have tl := text_len2 (ts := zs.map reprText) (by rw [List.length_map]; exact hl) (fun t ht => by
      obtain ⟨z, hz, rfl⟩ := List.mem_map.mp ht
      exact repr_len (hs z hz))
    refine ⟨⟨h1, h2, ?_, .inr ?_⟩, ⟨h1, h2, ?_, .inr ?_⟩⟩
    · show PyData.depthAll _ + 1 ≤ 64
      rw [h3]
      decide
    · show (listText (PyData.shownAll _)).length ≤ _
      rw [h4]
      exact tl.1
    · show PyData.depthAll _ + 1 ≤ 64
      rw [h3]
      decide
    · show (tupleText (PyData.shownAll _)).length ≤ _
      rw [h4]
      exact tl.2
  rcases h with (rfl | ⟨b, rfl⟩ | ⟨i, rfl, hi⟩) | ⟨z, rfl, hz⟩ | ⟨l, zs, rfl, _, q | q, hl, hs⟩
  · exact ⟨_, .non, rfl, rfl, by decide, .inr (by decide +kernel)⟩
  · exact ⟨_, .bl b, rfl, rfl, by show 0 ≤ 64; decide, .inr (by cases b <;> decide +kernel)⟩
  · exact ⟨_, .int i, decide_eq_true (Nat.lt_trans hi (by decide)), rfl, by show 0 ≤ 64; decide, .inl ⟨i, rfl⟩⟩
  · exact ⟨_, .str z, rfl, rfl, by show 0 ≤ 64; decide, .inr (Nat.le_trans (repr_len hz) (by decide))⟩
  · exact ⟨_, .lst (SqL.of q) (dp_all_strs zs), (two hl hs).1⟩
  · exact ⟨_, .tup (SqT.of q) (dp_all_strs zs), (two hl hs).2⟩
end WB
namespace WB
open PySem L2 PyProof.Rows
theorem conB_ex {x : V} (h : conB x = true) : ∃ z, x = .str z ∧ IsC z := by
  cases x with
  | str y => exact ⟨y, rfl, conB_str h⟩
  | non => cases h
  | bl b => cases h
  | int i => cases h
  | byt b => cases h
  | flt b => cases h
  | ref a => cases h
  | ty n => cases h
def spStr (C : Addr) : Sp := fun vs H Q _ => ∃ (a : Addr) (z : Str), vs = [.ref a] ∧ BoxAt C H a z ∧ Q (.str z) H
def spThing : Sp := fun vs H Q _ => ∃ p q : Addr, vs = [.ref p] ∧ BagAt H p q ∧ ∀ H' x, Bar p H H' → BagAt H' p q → PlainAt p H' x → Q x H'
def spIsC (K : PySem.W.Frag) : Sp := fun vs H Q _ => ∃ x : V, vs = [x] ∧ Thing K H x ∧ ∀ H', Same H H' → Q (.bl (conB x)) H'
def spRaised (K : PySem.W.Frag) (C : Addr) : Sp := fun vs H Q _ => ∃ (a : Addr) (y : Str) (x : V), vs = [.ref a, x] ∧ BoxAt C H a y ∧ Thing K H x ∧
  ∀ H' l ts, H l = none → H' l = some (.lst ts) → ((∃ z, x = .str z ∧ IsC z ∧ ts = [] ∧ Bar a H H' ∧ BoxAt C H' a z) ∨ (conB x = false ∧ ts = [x] ∧ Same H H')) → Q (.ref l) H'
theorem isC_empty : IsC "" := ⟨fun _ => false, by decide +kernel⟩
theorem room70 {k : Nat} {A : Around} (r : Room k A) : A.units + 70 < cLine := by
  have := r.un
  omega
theorem init_ok {K : PySem.W.Frag} {C CB x dx : Addr} {z : Str} {H : Hp} {Q : VK} {E : XK} (hz : IsC z) (h : H x = some (.ins C dx [])) (q : ∀ H', Bar x H H' → BoxAt C H' x z → Q .non H') : spInitX K C CB [.ref x, .str z] H Q E :=
  ⟨x, dx, .str z, rfl, h, thing_isC hz, fun y e _ H' b hb => q H' b (by cases e; exact hb), fun hc => by rw [conB_isC hz] at hc; cases hc⟩
theorem become_ok {K : PySem.W.Frag} {C CB a : Addr} {y z : Str} {H : Hp} {Q : VK} {E : XK} (h : BoxAt C H a y) (hz : IsC z) (q : ∀ H', Bar a H H' → BoxAt C H' a z → Q .non H') : spBecomeX K C CB [.ref a, .str z] H Q E :=
  ⟨a, y, .str z, rfl, h, thing_isC hz, fun y e _ H' b hb => q H' b (by cases e; exact hb), fun hc => by rw [conB_isC hz] at hc; cases hc⟩
theorem seq_join {t1 t2 : TS} {D : Ends} {σ : L2.St} {H : Hp} (C : L2.St → Hp → Prop) (h1 : ∀ nx' : L2.St → Hp → Prop, (∀ σ' H', C σ' H' → nx' σ' H') → t1 { D with nx := nx' } σ H) (h2 : ∀ σ' H', C σ' H' → t2 D σ' H') : tSeq t1 t2 D σ H := h1 (t2 D) h2
end WB
namespace WB
open PySem L2 PyProof.Rows
def Sm (n : Nat) (z : Str) : Prop := z.length ≤ n ∧ ∀ c ∈ z.cps.toList, c < 1000
theorem Sm.cat {m n : Nat} {a b : Str} (ha : Sm m a) (hb : Sm n b) : Sm (m + n) (a ++ b) := by
  refine ⟨?_, fun c hc => ?_⟩
  · rw [Str.length_append]
    exact Nat.add_le_add ha.1 hb.1
  · have e : (a ++ b).cps.toList = a.cps.toList ++ b.cps.toList := by rw [Str.cps_append, Array.toList_append]
    rw [e] at hc
    rcases List.mem_append.mp hc with h | h
    · exact ha.2 c h
    · exact hb.2 c h
theorem Sm.line {m n : Nat} {a b : Str} (ha : Sm m a) (hb : Sm n b) (h : m + n ≤ 20000 := by decide) : a.length + b.length ≤ sizeLine := Nat.le_trans (Nat.add_le_add ha.1 hb.1) (Nat.le_trans h line_big)
theorem Sm.small {n : Nat} {z : Str} (h : Sm n z) (hn : n ≤ 300 := by decide) : SmallS z := ⟨Nat.le_trans h.1 hn, h.2⟩
theorem Sm.cut {n : Nat} {z : Str} {lo hi : Option Int} (h : Sm n z) : Sm n (cutS z lo hi) := ⟨cut_len h.1, fun c hc => h.2 c (List.mem_of_mem_drop (List.mem_of_mem_take hc))⟩
theorem IsC.sm {z : Str} (h : IsC z) : Sm 52 z := ⟨h.len, (small_isC h).2⟩
theorem conB_bad {z : Str} {i : Nat} (hi : i < z.cps.toList.length) (h : ¬ GoodAt z.cps.toList i) : conB (.str z) = false := by
  cases c : conB (.str z) with
  | false => rfl
  | true => exact absurd (conB_good c hi) h
theorem lt_one {b c : Nat} : ([b] < [c]) ↔ b < c := by
  simp [List.cons_lt_cons_iff]
theorem letters : ("ABCDEFGHIJKLMNOPQRSTUVWXYZabcdefghijklmnopqrstuvwxyz" : Str).cps.toList = mk := by decide +kernel
end WB

set_option Elab.async false
set_option linter.all false
set_option maxRecDepth 100000
set_option maxHeartbeats 4000000
namespace WB
open PySem L2 PyProof.Rows
section
variable {X : Cx} {k j : Nat} {C : Addr} {x kn : Str} {sp : Sp} {p pos kpos : Pos} {e : Expr}
theorem pe_mkXK {dv : V} {te : TE} (c : MakX X.prog X.w X.K X.mg X.base k x C sp dv kn) (hr : Room j X.A) (hk : k + 1 ≤ j) (hg : Gl X x) (ha : PE X e te)
    (hall : (backToKw pos (keywordEach [⟨some kn, e, kpos⟩] X.env)).all (·.1.isSome) = true := by rfl) (hks : (backToKw pos (keywordEach [⟨some kn, e, kpos⟩] X.env)).filterMap (·.1) = [kn] := by rfl) (hdb : (x == ("__debug__" : Str)) = false := by decide)
    (hpl : ((backTo pos (starEach [] X.env)).any (·.1) || (backToKw pos (keywordEach [⟨some kn, e, kpos⟩] X.env)).any (·.1.isNone)) = false := by rfl) :
    PE X (.Call (.Name x p) [] [⟨some kn, e, kpos⟩] pos) (tMakeK C 0 1 sp (fun vs zs => vs ++ zs) E0 tNil (tCons te tNil)) := by
  obtain ⟨f, fd, ps, ds, M, F, hm, _, _, _, kb⟩ := c.ex
  exact pe_makeK0 M F (hr.mono hk) hg hm kb passL (pk_cons ha pk_nil) hall hks hdb hpl
end
/-! ### isinstance of a caught error that has its dict -/
def rIsEd (K : PySem.W.Frag) (D a : Addr) (cls : Value) (d : Option Addr) : List V → Hp → VK → Prop := fun xs H Q => ∃ (c : V) (cv : Value) (b : Bool) (dd : Addr) (fs : List (Str × V)), xs = [.ref a, c] ∧ cls = .ref D ∧ d = some dd ∧ H dd = some (.xd fs) ∧ (∀ u, RelV c u → u = cv) ∧ PySem.W.kitOne K (.ref D) cv = some b ∧ Q (.bl b) H
theorem call_isEd {X : Cx} {a D : Addr} {oe : Obj} {cls : Value} {d : Option Addr} {pn : List (Addr × Obj)} (T : ExcC X.K D) (hcl : (PySem.W.clsIn X.K D).isSome = true) (hz : Zc cls d oe) (hf : ∃ vs, oe.data = .fields vs) : CallR (X.suite a ((a, oe) :: pn)) (.builtin "isinstance") (rIsEd X.K D a cls d) := by
  intro pins s σ H xs us Q I r h
  obtain ⟨c, cv, b, dd, fs, rfl, rfl, rfl, ed, hcv, e, q⟩ := h
  cases r with
  | cons rx rr =>
    obtain ⟨u2, rfl, rt⟩ := vals_one rr
    cases rx
    obtain rfl := hcv _ rt
    obtain ⟨hget, _⟩ := I.pin (a, oe) (List.mem_append_left _ List.mem_cons_self)
    obtain ⟨vs, hv⟩ := hf
    obtain ⟨mA, hns, _⟩ := (show ObjOk X.prog X.w H s.heap dd (.xd fs) from I.hok dd _ ed)
    obtain ⟨od, ho, _⟩ := lookIn_ns hns
    have J : PySem.W.InstAt s.heap a oe D (some od) := ⟨hget, hz.1, by unfold PySem.W.notCls; rw [hv] <;> rfl, by rw [hz.2]; exact ho⟩
    exact PySem.W.kia_one (PySem.W.kitx_exc hcl T.hg T.hk T.hs T.ha T.hn T.ht T.hm) I.kIn J e (fun z => nomatch z) fun tk => ⟨.bl b, H, I.kept (t' := tk) fun _ _ z => z, rfl, q⟩
theorem kit_up {K : PySem.W.Frag} {C D : Addr} (h2 : PySem.W.isClsIn K D = true) (h3 : PySem.W.typeIn K (.ref D) = some (.type "type")) (h4 : PySem.W.subIn K (.ref C) (.ref D) = some true) : PySem.W.kitOne K (.ref C) (.ref D) = some true := by
  unfold PySem.W.kitOne
  split
  · rfl
  · have h2' : (PySem.W.clsIn K D).isSome = true := h2
    unfold PySem.W.kitCls
    dsimp only
    rw [h2', h3]
    exact h4
theorem kit_upT {K : PySem.W.Frag} {C : Addr} (h4 : PySem.W.subIn K (.ref C) (.type "ValueError") = some true) : PySem.W.kitOne K (.ref C) (.type "ValueError") = some true := by
  unfold PySem.W.kitOne
  rw [if_neg (by intro z; cases (beq_iff_eq.mp z))]
  unfold PySem.W.kitCls
  dsimp only
  rw [if_pos (by decide +kernel)]
  exact h4
theorem rel_ref {D : Addr} : ∀ u, RelV (.ref D) u → u = .ref D := fun _ r => r
theorem rel_ty {n : String} : ∀ u, RelV (.ty n) u → u = .type n := fun _ r => r
/-- what isinstance asks of BadBox -/
structure BadIs (K : PySem.W.Frag) (mg : Str → Option Value) (C W : Addr) : Prop where
  ex : ExcC K C
  cl : (PySem.W.clsIn K C).isSome = true
  gW : ∃ u, mg "WorkerworldsError" = some u ∧ RelV (.ref W) u
  kW : PySem.W.kitOne K (.ref C) (.ref W) = some true
  kV : PySem.W.kitOne K (.ref C) (.type "ValueError") = some true
def spRepr (C : Addr) : Sp := fun vs H Q _ => ∃ (a : Addr) (z : Str), vs = [.ref a] ∧ BoxAt C H a z ∧ z.length ≤ 1000 ∧ Q (.str ("Box(" ++ z ++ ")")) H
def spMade (K : PySem.W.Frag) (C : Addr) : Sp := fun vs H Q _ => ∃ x : V, vs = [x] ∧ Thing K H x ∧
  ∀ H' l ts, H l = none → H' l = some (.lst ts) → ((∃ z b, x = .str z ∧ IsC z ∧ ts = [.ref b] ∧ Same H H' ∧ BoxAt C H' b z) ∨ (conB x = false ∧ ts = [.non, x, .bl true] ∧ Same H H')) → Q (.ref l) H'
def spShows (C : Addr) : Sp := fun vs H Q _ => ∃ (b : Addr) (z : Str), vs = [.ref b, .str z] ∧ BoxAt C H b z ∧ IsC z ∧ Q (.bl true) H
end WB

set_option Elab.async false
set_option linter.all false
set_option maxRecDepth 100000
set_option maxHeartbeats 4000000
namespace WB
open PySem L2 PyProof.Rows
/-! ### C.m(..), m a static method -/
structure StatC (K : PySem.W.Frag) (mg : Str → Option Value) (Cn : Str) (C : Addr) (m : Str) (g : Addr) : Prop where
  gC : mg Cn = some (.ref C)
  rd : PySem.W.readsIn K C (.type "type") = true
  ga : PySem.W.specialIn K (.ref C) "__getattribute__" = some (some (.builtin "type.__getattribute__"))
  ex : ∃ (p : Addr) (rest : List Value), PySem.W.findCls K (.ref C) (.type "type") m = some (.get (.builtin "staticmethod.__get__") (.ref p) .none (.ref C)) ∧ PySem.W.recIn K p "staticmethod" = some (.ref g :: rest)
  kp : PySem.W.keepIn K (.ref g) = true
section
variable {X : Cx} {k j : Nat} {g C : Addr} {sp : Sp} {Cn m : Str} {e : Expr} {es : List Expr} {t : TA} {p1 apos pos : Pos}
theorem static_meth {pins : List (Addr × Obj)} {σ : L2.St} {H : Hp} {s : Shared} {pl : Sem Bool} {A : Around} {E : Value → Shared → Prop} {Q : Value × List Value → Shared → Prop} (sc : StatC X.K X.mg Cn C m g) (I : Inv X pins σ H s) (h : ∀ s', Inv X pins σ H s' → Q (.ref g, []) s') :
    wpAny (model X.prog X.w) A (getMethod (.ref C) m pl) Q E s := by
  obtain ⟨p, rest, h1, h2⟩ := sc.ex
  exact PySem.W.method_cls I.kIn sc.ga (PySem.W.cls_bind I.kIn sc.rd h1 (wpAny_call (PySem.W.sm_get (s := { s with toks := s.toks + 1 }) I.kIn h2 (PySem.W.handed_on rfl (h _ (I.tok _))))))
theorem pe_stat {pl : Sem Bool} (sc : StatC X.K X.mg Cn C m g) (F : FnR X.prog X.w X.K X.mg X.base CX0 k g sp) (hr : Room j X.A) (hk : k ≤ j) (hg : Gl X Cn) (ha : PA X (e :: es) t) (hdb : (Cn == ("__debug__" : Str)) = false := by decide)
    (hst : starEach (e :: es) X.env = (false, eval e X.env) :: starEach es X.env := by rfl) (hpl : (backTo pos (starEach es X.env)).any (·.1) = false := by rfl)
    (ht : eval (.Call (.Attribute (.Name Cn p1) m apos) (e :: es) [] pos) X.env = (do
      let ov ← eval (.Name Cn p1) X.env
      standAt apos.atName
      let (f, first) ← holding [ov] (getMethod ov m pl)
      callWith pos f first (backTo pos (starEach (e :: es) X.env)) (backToKw pos (keywordEach [] X.env))) := by rfl) :
    PE X (.Call (.Attribute (.Name Cn p1) m apos) (e :: es) [] pos) (fun σ H Q => t σ H fun vs H1 => sp vs H1 Q E0) := by
  refine ⟨fun pins s σ H Q I h => ?_⟩
  refine PySem.W.methodCall_KW (pl := pl) (ld_glob I hg sc.gC ?_ hdb) ht
  refine static_meth sc I fun s1 I1 => ?_
  refine PySem.W.callWith_K (first := []) (h₀ := X.base) I1.ok.mod.kin sc.kp (thn (ha.run pos pins s1 σ H _ I1 h) fun us s2 ⟨vs, H1, I2, r, q⟩ => ⟨I2.kIn, ?_⟩) hst hpl
  exact wpAny_call (run_fnR F (hr.mono hk) pass0 I2 r q)
theorem pe_stat0 {pl : Sem Bool} (sc : StatC X.K X.mg Cn C m g) (F : FnR X.prog X.w X.K X.mg X.base CX0 k g sp) (hr : Room j X.A) (hk : k ≤ j) (hg : Gl X Cn) (hdb : (Cn == ("__debug__" : Str)) = false := by decide)
    (ht : eval (.Call (.Attribute (.Name Cn p1) m apos) [] [] pos) X.env = (do
      let ov ← eval (.Name Cn p1) X.env
      standAt apos.atName
      let (f, first) ← holding [ov] (getMethod ov m pl)
      callWith pos f first (backTo pos (starEach [] X.env)) (backToKw pos (keywordEach [] X.env))) := by rfl) :
    PE X (.Call (.Attribute (.Name Cn p1) m apos) [] [] pos) (fun σ H Q => sp [] H Q E0) := by
  refine ⟨fun pins s σ H Q I h => ?_⟩
  refine PySem.W.methodCall_KW (pl := pl) (ld_glob I hg sc.gC ?_ hdb) ht
  refine static_meth sc I fun s1 I1 => ?_
  exact PySem.W.callWith_K0 (first := []) I1.kIn sc.kp (wpAny_call (run_fnR F (hr.mono hk) pass0 I1 .nil h))
end
/-! ### boxes joined -/
def joinC (zs : List Str) : Str := sb fun c => zs.any fun z => mem z c
def spJoin (C : Addr) : Sp := fun vs H Q _ => ∃ (p : Addr) (bs : List Addr) (zs : List Str), vs = [.ref p] ∧ H p = some (.tup (bs.map V.ref)) ∧ bs.length ≤ 1000 ∧ Boxes C H bs zs ∧ ∀ H' b, Same H H' → H b = none → BoxAt C H' b (joinC zs) → Q (.ref b) H'
def spJoinR (C : Addr) : Sp := fun vs H Q E => ∃ ws rest, vs = ws ++ rest ∧ ws.length = ([] : List Str).length ∧ rest.length ≤ sizeLine ∧ ∀ p, H p = none → spJoin C (ws ++ [V.ref p]) (upd H p (.tup rest)) Q E
theorem joinR_ok {C : Addr} {H : Hp} {Q : VK} {E : XK} {bs : List Addr} {zs : List Str} (hb : Boxes C H bs zs) (hl : bs.length ≤ 1000) (q : ∀ H' b, Same H H' → H b = none → BoxAt C H' b (joinC zs) → Q (.ref b) H') : spJoinR C (bs.map V.ref) H Q E := by
  refine ⟨[], bs.map V.ref, rfl, rfl, by rw [List.length_map]; exact Nat.le_trans hl (by decide), fun p hp => ?_⟩
  have s := same_new (o := .tup (bs.map V.ref)) hp
  exact ⟨p, bs, zs, rfl, upd_same, hl, hb.same s, fun H' b s' nb h => q H' b (s.trans s') (s.free nb) h⟩
def spJoinL (C : Addr) : Sp := fun vs H Q _ => ∃ (l : Addr) (bs : List Addr) (zs : List Str), vs = [.ref l] ∧ H l = some (.lst (bs.map V.ref)) ∧ bs.length ≤ 6 ∧ Boxes C H bs zs ∧ ∀ H' b, Same H H' → H b = none → BoxAt C H' b (joinC zs) → Q (.ref b) H'
def spCopied (C : Addr) : Sp := fun vs H Q _ => ∃ (a : Addr) (z : Str), vs = [.ref a] ∧ BoxAt C H a z ∧ IsC z ∧ ∀ H' b, Same H H' → H b = none → BoxAt C H' b z → Q (.ref b) H'
def spDueJ : Sp := fun vs H Q _ => ∃ (l : Addr) (zs : List Str), vs = [.ref l] ∧ H l = some (.lst (zs.map V.str)) ∧ zs.length ≤ 1000 ∧ ∀ H', Same H H' → Q (.str (joinC zs)) H'
theorem inV_bools {α : Type} (f : α → Bool) (zs : List α) : inV (.bl true) (zs.map fun z => V.bl (f z)) = zs.any f := by
  unfold inV
  rw [List.any_map]
  refine congrArg (fun g => zs.any g) (funext fun z => ?_)
  show eqV (V.bl (f z)) (V.bl true) = f z
  cases f z <;> decide +kernel
theorem flat_bools {α : Type} (f : α → Bool) (zs : List α) : (zs.map fun z => V.bl (f z)).all flatV = true := by
  rw [List.all_map]
  exact List.all_eq_true.mpr fun _ _ => rfl
theorem upd_snoc {H : Hp} {D : Addr} {ys : List V} {j : Nat} {y : V} (h : ys[j]? = some y) : upd (upd H D (.lst (ys.take j))) D (.lst (ys.take j ++ [y])) = upd H D (.lst (ys.take (j + 1))) := by
  rw [upd_upd, take_snoc h]
theorem take_small {ys : List V} {j n : Nat} (h : ys.length ≤ n) (hn : n ≤ 1000 := by decide) : (ys.take j).length < sizeLine := Nat.lt_of_le_of_lt (show (ys.take j).length ≤ ys.length by rw [List.length_take]; exact Nat.min_le_right _ _) (Nat.lt_of_le_of_lt (Nat.le_trans h hn) (by decide))
theorem join_step {zs : List Str} {i : Nat} {z : Str} (h : zs[i]? = some z) : (sb fun c => mem (sb fun c => (zs.take i).any fun z => mem z c) c || mem z c) = sb fun c => (zs.take (i + 1)).any fun z => mem z c := sb_ext fun c hc => by
  rw [mem_sb, decide_eq_true hc, Bool.true_and, take_snoc h, List.any_append, List.any_cons, List.any_nil, Bool.or_false]
theorem join_none : (sb fun c => (([] : List Str)).any fun z => mem z c) = "" := by decide +kernel
theorem lay_texts : ∀ zs : List Str, (∀ z ∈ zs, ∀ c ∈ z.cps.toList, c < 1000) → PyData.canLayAll0 (zs.map PyData.str) = true
  | [], _ => rfl
  | z :: r, h => by
    have ih := lay_texts r fun y hy => h y (List.mem_cons_of_mem _ hy)
    show (PyData.canLay0 (.str z) && PyData.canLayAll0 (r.map _)) = true
    rw [ih, Bool.and_true]
    show z.cps.all (fun c => decide (c < 0x110000)) = true
    rw [← Array.all_toList]
    exact List.all_eq_true.mpr fun c hc => decide_eq_true (Nat.lt_trans (h z List.mem_cons_self c hc) (by decide))
theorem shaped_texts {zs : List Str} (h : ∀ z ∈ zs, IsC z) : SeqAt.shaped (.list (zs.map PyData.str)) = true := by
  have e1 : PyData.canLay0 (.list (zs.map PyData.str)) = true := lay_texts zs fun z hz => (small_isC (h z hz)).2
  obtain ⟨_, _, h3, _⟩ := showAll_strs zs
  have e2 : PyData.depth (.list (zs.map PyData.str)) ≤ 64 := by
    show PyData.depthAll (zs.map _) + 1 ≤ 64
    rw [h3]
    decide
  unfold SeqAt.shaped
  rw [e1, decide_eq_true e2]
  rfl
theorem eqv_texts : ∀ zs : List Str, PyData.eqv (.list (zs.map PyData.str)) (.list (zs.map PyData.str)) = true := by
  have key : ∀ zs : List Str, PyData.eqvAll (zs.map PyData.str) (zs.map PyData.str) = true := by
    intro zs
    induction zs with
    | nil => rfl
    | cons z r ih =>
      show (PyData.eqv (.str z) (.str z) && PyData.eqvAll (r.map _) (r.map _)) = true
      rw [ih, Bool.and_true]
      show (z == z) = true
      exact beq_self_eq_true z
  exact key
theorem TwoAt.off {C : Addr} {H0 H : Hp} {p q tl bl x : Addr} {bs : List Addr} {zs : List Str} (h : TwoAt C H0 p q tl bl bs zs H) (nx : H x = none) : p ≠ x ∧ q ≠ x ∧ tl ≠ x ∧ bl ≠ x ∧ x ∉ bs ∧ H0 x = none := by
  refine ⟨(h.bag.there nx).symm, (h.bag.there2 nx).symm, ne_of_none h.t nx, ne_of_none h.b nx, ?_, h.sm.free nx⟩
  intro m
  obtain ⟨z, dx, e⟩ := h.bx.mem m
  rw [nx] at e
  cases e
theorem TwoAt.other {C : Addr} {H0 H H' : Hp} {p q tl bl x : Addr} {bs : List Addr} {zs : List Str} (h : TwoAt C H0 p q tl bl bs zs H) (e : Bar x H H') (n : p ≠ x ∧ q ≠ x ∧ tl ≠ x ∧ bl ≠ x ∧ x ∉ bs ∧ H0 x = none) : TwoAt C H0 p q tl bl bs zs H' :=
  ⟨same_bar h.sm n.2.2.2.2.2 e, h.bag.bar e n.1 n.2.1, e _ _ n.2.2.1 h.t, e _ _ n.2.2.2.1 h.b, h.bx.bar e n.2.2.2.2.1, h.ic⟩
theorem TwoAt.news {C : Addr} {H0 H H' : Hp} {p q tl bl x : Addr} {bs : List Addr} {zs : List Str} (h : TwoAt C H0 p q tl bl bs zs H) (w : Two C H0 p q tl bl bs) (n : p ≠ x ∧ q ≠ x ∧ tl ≠ x ∧ bl ≠ x ∧ x ∉ bs ∧ H0 x = none)
    (fr : ∀ b o, b ≠ x → b ∉ bs → H b = some o → H' b = some o) (hb : Boxes C H' bs zs) : TwoAt C H0 p q tl bl bs zs H' := by
  obtain ⟨n1, n2⟩ := h.bx.notin2 h.bag
  refine ⟨fun b o e => fr b o (ne_of_none e n.2.2.2.2.2) (fun m => ?_) (h.sm b o e), ?_, fr _ _ n.2.2.1 (h.bx.notin h.t) h.t, fr _ _ n.2.2.2.1 (h.bx.notin h.b) h.b, hb, h.ic⟩
  · rw [w.nbs b m] at e
    cases e
  · obtain ⟨c, s, i, ns, h1, h2, h3⟩ := h.bag
    exact ⟨c, s, i, ns, fr _ _ n.1 n1 h1, fr _ _ n.2.1 n2 h2, h3⟩
theorem getD_at {α : Type} {l : List α} {k : Nat} {d : α} (h : k < l.length) : l[k]? = some (l.getD k d) := by
  rw [List.getD_eq_getElem?_getD, List.getElem?_eq_getElem h]
  rfl
theorem Boxes.pick {C : Addr} {H : Hp} {bs : List Addr} {zs : List Str} (h : Boxes C H bs zs) {ks : List Nat} (hk : ∀ k ∈ ks, k < bs.length) : Boxes C H (ks.map fun k => bs.getD k 0) (ks.map fun k => zs.getD k "") := by
  refine ⟨by rw [List.length_map, List.length_map], fun i b z h1 h2 => ?_⟩
  obtain ⟨k, hki, rfl⟩ := map_from h1
  obtain ⟨k', hki', rfl⟩ := map_from h2
  rw [hki] at hki'
  cases hki'
  have hl := hk k (List.mem_of_getElem? hki)
  exact h.2 k _ _ (getD_at hl) (getD_at (by rw [← h.1]; exact hl))
end WB

set_option Elab.async false
set_option linter.all false
set_option maxRecDepth 100000
set_option maxHeartbeats 4000000
namespace WB
open PySem L2 PyProof.Rows
/-! ### a def that may raise, where it does not -/
theorem fnok_quiet {P : Program} {w : World} {K : PySem.W.Frag} {mg : Str → Option Value} {base : Heap} {k : Nat} {f : Addr} {fd : FuncData} {ps : List Str} {sp sp' : Sp} (F : FnOk P w K mg base (L2.CX P w) k f fd ps sp) (h : ∀ vs H Q E, sp' vs H Q E → sp vs H Q E0) :
    FnOk P w K mg base CX0 k f fd ps sp' := by
  refine ⟨fun vs H Q E q => F.len vs H Q E0 (h vs H Q E q), fun A outer s H args us vs Q E hr e0 hb r q => ?_⟩
  refine codeAny_mono (F.run A outer s H args us vs Q E0 hr e0 hb r (h vs H Q E q)) fun x s' hq => ?_
  cases x with
  | error e =>
    obtain ⟨_, _, _, _, _, _, _, _, _, _, _, _, z⟩ := (show L2.CX P w outer H s E0 e s' from hq)
    exact z.elim
  | ok fl =>
    cases fl with
    | ret u => exact hq
    | next => exact hq
    | brk => exact hq
    | cont => exact hq
theorem init_quiet {K : PySem.W.Frag} {C CB : Addr} (vs : List V) (H : Hp) (Q : VK) (E : XK) (h : spInit C vs H Q E) : spInitX K C CB vs H Q E0 := by
  obtain ⟨a, dx, z, rfl, ha, hz, k⟩ := h
  exact init_ok hz ha k
theorem become_quiet {K : PySem.W.Frag} {C CB : Addr} (vs : List V) (H : Hp) (Q : VK) (E : XK) (h : spBecome C vs H Q E) : spBecomeX K C CB vs H Q E0 := by
  obtain ⟨a, y, z, rfl, hb, hz, k⟩ := h
  exact become_ok hb hz k
/-! ### some of the marks -/
/-- contents out of the marks ms -/
def InM (ms : List Nat) (z : Str) : Prop := ∃ f : Nat → Bool, z = S (ms.filter f)
theorem InM.isC {ms : List Nat} {z : Str} (h : InM ms z) (hs : ms.Sublist mk) : IsC z := by
  obtain ⟨f, rfl⟩ := h
  exact isC_of (List.filter_sublist.trans hs)
def spMarks : Sp := fun vs H Q _ => ∃ p q : Addr, vs = [.ref p] ∧ BagAt H p q ∧ ∀ (H' : Hp) (l : Addr) (ms : List Nat), Bar p H H' → BagAt H' p q → H l = none → H' l = some (.lst (ms.map sg)) → ms.Sublist mk → ms.length ≤ 52 → Q (.ref l) H'
def spContM : Sp := fun vs H Q _ => ∃ (p q l : Addr) (ms : List Nat), vs = [.ref p, .ref l] ∧ BagAt H p q ∧ H l = some (.lst (ms.map sg)) ∧ ms.Sublist mk ∧ l ≠ p ∧ ∀ H' z, Bar p H H' → BagAt H' p q → InM ms z → Q (.str z) H'
/-- the signs 0, 1, 2, 3 -/
def gn (s : Nat) (x y : Bool) : Bool := if s = 0 then x || y else if s = 1 then x && y else if s = 2 then x && !y else x != y
def spDueM : Sp := fun vs H Q _ => ∃ (s : Nat) (a b : Str) (l : Addr) (ms : List Nat), vs = [.int (s : Nat), .str a, .str b, .ref l] ∧ s < 4 ∧ H l = some (.lst (ms.map sg)) ∧ ms.length ≤ 52 ∧ Q (.str (S (ms.filter fun c => gn s (mem a c) (mem b c)))) H
def spSignedN (C : Addr) : Sp := fun vs H Q _ => ∃ (s : Nat) (a b : Addr) (y z : Str), vs = [.int (s : Nat), .ref a, .ref b] ∧ s < 4 ∧ BoxAt C H a y ∧ BoxAt C H b z ∧ IsC y ∧ IsC z ∧
  ∀ H' c, Same H H' → H c = none → BoxAt C H' c (sb fun m => gn s (mem y m) (mem z m)) → Q (.ref c) H'
def spChangeN (C : Addr) : Sp := fun vs H Q _ => ∃ (s : Nat) (r a b : Addr) (k : Nat) (xs : List V) (y z : Str), vs = [.int (s : Nat), .ref r, .int (k : Nat), .ref b] ∧ s < 4 ∧ H r = some (.lst xs) ∧ xs[k]? = some (.ref a) ∧ BoxAt C H a y ∧ BoxAt C H b z ∧ IsC y ∧ IsC z ∧
  ∀ H', Bar a H H' → BoxAt C H' a (sb fun m => gn s (mem y m) (mem z m)) → Q .non H'
def spRefused (C : Addr) : Sp := fun vs H Q _ => ∃ (a : Addr) (y : Str), vs = [.ref a] ∧ BoxAt C H a y ∧ ∀ H', Same H H' → Q (.bl true) H'
/-- what is within ms, told over all the marks -/
theorem sb_in {ms : List Nat} (hs : ms.Sublist mk) {s : Nat} {y z : Str} (hy : InM ms y) (hz : InM ms z) : (sb fun c => gn s (mem y c) (mem z c)) = S (ms.filter fun c => gn s (mem y c) (mem z c)) := by
  unfold sb
  refine congrArg S ?_
  have e : ms = mk.filter fun c => decide (c ∈ ms) := sub_filter hs mk_nodup
  have out : ∀ c, c ∉ ms → mem y c = false ∧ mem z c = false := fun c hc => by
    obtain ⟨f, rfl⟩ := hy
    obtain ⟨g, rfl⟩ := hz
    exact ⟨decide_eq_false fun h => hc (List.mem_filter.mp h).1, decide_eq_false fun h => hc (List.mem_filter.mp h).1⟩
  have e2 : ms.filter (fun c => gn s (mem y c) (mem z c)) = mk.filter fun c => decide (c ∈ ms) && gn s (mem y c) (mem z c) := by
    conv => lhs; rw [e]
    rw [List.filter_filter]
    exact List.filter_congr fun c _ => Bool.and_comm _ _
  rw [e2]
  refine List.filter_congr fun c _ => ?_
  by_cases hc : c ∈ ms
  · rw [decide_eq_true hc, Bool.true_and]
  · rw [decide_eq_false hc, Bool.false_and, (out c hc).1, (out c hc).2]
    unfold gn
    split
    · rfl
    · split
      · rfl
      · split <;> rfl
theorem due_boolN {s : Nat} (hs : s < 4) (x y : Bool) :
    (((decide (V.int (s : Nat) = V.int 0) && decide ((0 : Int) < (if x then 1 else 0) + (if y then 1 else 0))) || ((decide (V.int (s : Nat) = V.int 1) && decide (V.int ((if x then 1 else 0) + (if y then 1 else 0)) = V.int 2)) || (decide (V.int (s : Nat) = V.int 3) && decide (V.int ((if x then 1 else 0) + (if y then 1 else 0)) = V.int 1)))) = (gn s x y && !decide (s = 2))) ∧
    ((decide (V.int (s : Nat) = V.int 2) && (x && !y)) = (gn s x y && decide (s = 2))) := by
  match s, hs with
  | 0, _ => cases x <;> cases y <;> decide +kernel
  | 1, _ => cases x <;> cases y <;> decide +kernel
  | 2, _ => cases x <;> cases y <;> decide +kernel
  | 3, _ => cases x <;> cases y <;> decide +kernel
end WB

set_option Elab.async false
set_option linter.all false
set_option maxRecDepth 100000
set_option maxHeartbeats 4000000
namespace WB
open PySem L2 PyProof.Rows
/-! ### a run of boxes under several names: who owns which text -/
structure Lay (H0 : Hp) (p q bl hl tl ml : Addr) : Prop where
  np : H0 p = none
  nb : H0 bl = none
  nh : H0 hl = none
  nt : H0 tl = none
  pb : bl ≠ p
  ph : hl ≠ p
  pt : tl ≠ p
  pm : ml ≠ p
  qb : bl ≠ q
  qh : hl ≠ q
  qt : tl ≠ q
  bh : bl ≠ hl
  bt : bl ≠ tl
  ht : hl ≠ tl
  mb : ml ≠ bl
  mh : ml ≠ hl
  mt : ml ≠ tl
structure Run (C : Addr) (H0 : Hp) (ms : List Nat) (p q bl hl tl ml : Addr) (ow : List Addr) (hs : List Nat) (zs : List Str) (H : Hp) : Prop where
  sm : Same H0 H
  bag : BagAt H p q
  b : H bl = some (.lst (hs.map fun h => V.ref (ow.getD h 0)))
  h : H hl = some (.lst (hs.map fun h => V.int (h : Nat)))
  t : H tl = some (.lst (zs.map V.str))
  m : H ml = some (.lst (ms.map sg))
  bx : Boxes C H ow zs
  ic : ∀ z ∈ zs, InM ms z
  hk : hs.length = 5
  hz : ∀ h ∈ hs, h < zs.length
  nd : ow.Nodup
  no : ∀ b ∈ ow, H0 b = none
section
variable {C : Addr} {H0 H H' : Hp} {ms : List Nat} {p q bl hl tl ml : Addr} {ow : List Addr} {hs : List Nat} {zs : List Str}
theorem Run.draw (r : Run C H0 ms p q bl hl tl ml ow hs zs H) (w : Lay H0 p q bl hl tl ml) (e : Bar p H H') (hB : BagAt H' p q) : Run C H0 ms p q bl hl tl ml ow hs zs H' :=
  ⟨same_bar r.sm w.np e, hB, e _ _ w.pb r.b, e _ _ w.ph r.h, e _ _ w.pt r.t, e _ _ w.pm r.m, r.bx.bar e (r.bx.notin2 r.bag).1, r.ic, r.hk, r.hz, r.nd, r.no⟩
theorem Run.same (r : Run C H0 ms p q bl hl tl ml ow hs zs H) (s : Same H H') : Run C H0 ms p q bl hl tl ml ow hs zs H' :=
  ⟨r.sm.trans s, r.bag.same s, s _ _ r.b, s _ _ r.h, s _ _ r.t, s _ _ r.m, r.bx.same s, r.ic, r.hk, r.hz, r.nd, r.no⟩
theorem Run.at_ (r : Run C H0 ms p q bl hl tl ml ow hs zs H) {j : Nat} (hj : j < zs.length) : ow[j]? = some (ow.getD j 0) ∧ zs[j]? = some (zs.getD j "") ∧ BoxAt C H (ow.getD j 0) (zs.getD j "") ∧ InM ms (zs.getD j "") := by
  have h1 := getD_at (l := ow) (d := 0) (k := j) (by rw [r.bx.1]; exact hj)
  have h2 := getD_at (l := zs) (d := ("" : Str)) hj
  exact ⟨h1, h2, r.bx.2 j _ _ h1 h2, r.ic _ (List.mem_of_getElem? h2)⟩
theorem Run.held (r : Run C H0 ms p q bl hl tl ml ow hs zs H) {k : Nat} (hk : k < 5) : hs[k]? = some (hs.getD k 0) ∧ hs.getD k 0 < zs.length := by
  have h1 := getD_at (l := hs) (d := 0) (k := k) (by rw [r.hk]; exact hk)
  exact ⟨h1, r.hz _ (List.mem_of_getElem? h1)⟩
/-- the box at j and its text are changed -/
theorem Run.changed (r : Run C H0 ms p q bl hl tl ml ow hs zs H) (w : Lay H0 p q bl hl tl ml) {j : Nat} {z : Str} (hj : j < zs.length) (e : Bar (ow.getD j 0) H H') (n : BoxAt C H' (ow.getD j 0) z) (hz : InM ms z) :
    H' bl = some (.lst (hs.map fun h => V.ref (ow.getD h 0))) ∧ H' hl = some (.lst (hs.map fun h => V.int (h : Nat))) ∧ H' tl = some (.lst (zs.map V.str)) ∧ H' ml = some (.lst (ms.map sg)) ∧ BagAt H' p q ∧
      Run C H0 ms p q bl hl tl ml ow hs (zs.set j z) (upd H' tl (.lst ((zs.set j z).map V.str))) := by
  obtain ⟨h1, h2, h3, h4⟩ := r.at_ hj
  have mo := List.mem_of_getElem? h1
  have ne : ∀ {x : Addr}, x ∉ ow → x ≠ ow.getD j 0 := fun h q => h (q ▸ mo)
  have n2 := r.bx.notin2 r.bag
  have nt := r.bx.notin r.t
  have eb := e _ _ (ne (r.bx.notin r.b)) r.b
  have eh := e _ _ (ne (r.bx.notin r.h)) r.h
  have et := e _ _ (ne nt) r.t
  have em := e _ _ (ne (r.bx.notin r.m)) r.m
  have hB := r.bag.bar e (ne n2.1) (ne n2.2)
  have hx := r.bx.set r.nd h1 e n
  refine ⟨eb, eh, et, em, hB, same_bar (same_bar r.sm (r.no _ mo) e) w.nt bar_upd, hB.bar bar_upd w.pt.symm w.qt.symm, (upd_ne w.bt).trans eb, (upd_ne w.ht).trans eh, upd_same, (upd_ne w.mt).trans em, hx.bar bar_upd nt, fun y hy => ?_, r.hk, fun h hh => by rw [List.length_set]; exact r.hz h hh, r.nd, r.no⟩
  rcases List.mem_or_eq_of_mem_set hy with h | h
  · exact r.ic y h
  · rw [h]
    exact hz
/-- the name at k takes what the name at j holds -/
theorem Run.rebind (r : Run C H0 ms p q bl hl tl ml ow hs zs H) (w : Lay H0 p q bl hl tl ml) {k h : Nat} (hh : h < zs.length) :
    Run C H0 ms p q bl hl tl ml ow (hs.set k h) zs (upd (upd H bl (.lst ((hs.map fun h => V.ref (ow.getD h 0)).set k (.ref (ow.getD h 0))))) hl (.lst ((hs.map fun h => V.int (h : Nat)).set k (.int (h : Nat))))) := by
  have s1 : Bar bl H (upd H bl (.lst ((hs.map fun h => V.ref (ow.getD h 0)).set k (.ref (ow.getD h 0))))) := bar_upd
  have nb := r.bx.notin r.b
  have nh := r.bx.notin r.h
  refine ⟨same_bar (same_bar r.sm w.nb s1) w.nh bar_upd, (r.bag.bar s1 w.pb.symm w.qb.symm).bar bar_upd w.ph.symm w.qh.symm, ?_, ?_, (upd_ne w.ht.symm).trans ((upd_ne w.bt.symm).trans r.t), (upd_ne w.mh).trans ((upd_ne w.mb).trans r.m), (r.bx.bar s1 nb).bar bar_upd nh, r.ic, by rw [List.length_set]; exact r.hk, fun x hx => ?_, r.nd, r.no⟩
  · rw [upd_ne w.bh, upd_same, List.map_set]
  · rw [upd_same, List.map_set]
  · rcases List.mem_or_eq_of_mem_set hx with hx | hx
    · exact r.hz x hx
    · rw [hx]
      exact hh
/-- a new box at c under the name at k -/
theorem Run.fresh (r : Run C H0 ms p q bl hl tl ml ow hs zs H) (w : Lay H0 p q bl hl tl ml) {k : Nat} {c : Addr} {z : Str} (nc : H0 c = none) (ic : c ∉ ow) (hc : BoxAt C H c z) (hz : InM ms z) :
    Run C H0 ms p q bl hl tl ml (ow ++ [c]) (hs.set k zs.length) (zs ++ [z]) (upd (upd (upd H bl (.lst ((hs.map fun h => V.ref (ow.getD h 0)).set k (.ref c)))) tl (.lst (zs.map V.str ++ [.str z]))) hl (.lst ((hs.map fun h => V.int (h : Nat)).set k (.int (zs.length : Nat))))) := by
  have lo : ow.length = zs.length := r.bx.1
  have nb := r.bx.notin r.b
  have nh := r.bx.notin r.h
  have nt := r.bx.notin r.t
  have ncb : ∀ {l : Addr} {xs : List V}, H l = some (.lst xs) → c ≠ l := fun e q => by
    obtain ⟨dx, hc⟩ := hc
    rw [← q, hc] at e
    cases e
  have s1 : Bar bl H (upd H bl (.lst ((hs.map fun h => V.ref (ow.getD h 0)).set k (.ref c)))) := bar_upd
  have hx : Boxes C H (ow ++ [c]) (zs ++ [z]) := r.bx.snoc hc
  have no3 : ∀ {l : Addr} {xs : List V}, H l = some (.lst xs) → l ∉ ow ++ [c] := fun {l xs} e m => by
    rcases List.mem_append.mp m with m | m
    · exact r.bx.notin e m
    · exact ncb e (List.mem_singleton.mp m).symm
  refine ⟨same_bar (same_bar (same_bar r.sm w.nb s1) w.nt bar_upd) w.nh bar_upd, ((r.bag.bar s1 w.pb.symm w.qb.symm).bar bar_upd w.pt.symm w.qt.symm).bar bar_upd w.ph.symm w.qh.symm, ?_, ?_, ?_, (upd_ne w.mh).trans ((upd_ne w.mt).trans ((upd_ne w.mb).trans r.m)), ((hx.bar s1 (no3 r.b)).bar bar_upd (no3 r.t)).bar bar_upd (no3 r.h), fun y hy => ?_, by rw [List.length_set]; exact r.hk, fun x hx => ?_, ?_, fun b hb => ?_⟩
  · rw [upd_ne w.bh, upd_ne w.bt, upd_same, List.map_set]
    refine congrArg (fun l => some (HO.lst l)) ?_
    have e1 : (ow ++ [c]).getD zs.length 0 = c := by
      rw [List.getD_eq_getElem?_getD, List.getElem?_append_right (by omega), lo, Nat.sub_self]
      rfl
    rw [e1]
    refine congrArg (fun l => List.set l k (V.ref c)) (List.map_congr_left fun h hh => ?_)
    have := r.hz h hh
    rw [List.getD_eq_getElem?_getD, List.getD_eq_getElem?_getD, List.getElem?_append_left (by omega)]
  · rw [upd_same, List.map_set]
  · rw [upd_ne w.ht.symm, upd_same, List.map_append]
    rfl
  · rcases List.mem_append.mp hy with hy | hy
    · exact r.ic y hy
    · rw [List.mem_singleton.mp hy]
      exact hz
  · rw [List.length_append]
    rcases List.mem_or_eq_of_mem_set hx with hx | hx
    · exact Nat.lt_of_lt_of_le (r.hz x hx) (Nat.le_add_right _ _)
    · rw [hx]
      exact Nat.lt_succ_self _
  · exact List.nodup_append.mpr ⟨r.nd, by simp, fun x hx y hy e => ic (by rw [List.mem_singleton.mp hy] at e; exact e ▸ hx)⟩
  · rcases List.mem_append.mp hb with hb | hb
    · exact r.no b hb
    · rw [List.mem_singleton.mp hb]
      exact nc
end
def spDeed (C : Addr) : Sp := fun vs H Q _ => ∃ (H0 : Hp) (ms : List Nat) (p q bl hl tl ml : Addr) (ow : List Addr) (hs : List Nat) (zs : List Str), vs = [.ref p, .ref bl, .ref hl, .ref tl, .ref ml] ∧ Lay H0 p q bl hl tl ml ∧ ms.Sublist mk ∧ Run C H0 ms p q bl hl tl ml ow hs zs H ∧ zs.length ≤ 1000 ∧
  ∀ H' ow' hs' zs', Run C H0 ms p q bl hl tl ml ow' hs' zs' H' → zs'.length ≤ zs.length + 1 → Q (.bl true) H'
end WB

set_option Elab.async false
set_option linter.all false
set_option maxRecDepth 100000
set_option maxHeartbeats 4000000
namespace W7
open PySem L2 WB
open C8 (pe_c pe_mk pe_mt pe_mt0 Cal Mak Met)
def top (i : Nat) : Stmt := PySem.Challenge.pw_workerworlds_k07_whole_runs_of_boxes.main.body.getD i (.Pass ⟨0, 0, 0, 0⟩)
abbrev s_bag : Stmt := top 14
abbrev n_bag : List Str := ["_law_script", "_law_at", "_law_cell"]
theorem sc_bag : FnScope n_bag ["_law_script", "_law_at"] (defScope s_bag) := ⟨rfl, rfl, rfl, by decide +kernel, rfl, by decide +kernel, by decide +kernel⟩
abbrev s_take : Stmt := top 15
abbrev n_take : List Str := ["_law_bag_here", "_law_many", "_law_digit", "_law_cell", "_law_added"]
theorem sc_take : FnScope n_take ["_law_bag_here", "_law_many"] (defScope s_take) := ⟨rfl, rfl, rfl, by decide +kernel, rfl, by decide +kernel, by decide +kernel⟩
abbrev s_either : Stmt := top 6
abbrev n_either : List Str := ["one", "other", "mark"]
theorem sc_either : FnScope n_either ["one", "other"] (defScope s_either) := ⟨rfl, rfl, rfl, by decide +kernel, rfl, by decide +kernel, by decide +kernel⟩
abbrev s_both : Stmt := top 7
abbrev n_both : List Str := ["one", "other", "mark"]
theorem sc_both : FnScope n_both ["one", "other"] (defScope s_both) := ⟨rfl, rfl, rfl, by decide +kernel, rfl, by decide +kernel, by decide +kernel⟩
abbrev s_without : Stmt := top 8
abbrev n_without : List Str := ["one", "other", "mark"]
theorem sc_without : FnScope n_without ["one", "other"] (defScope s_without) := ⟨rfl, rfl, rfl, by decide +kernel, rfl, by decide +kernel, by decide +kernel⟩
abbrev s_exactly_one : Stmt := top 9
abbrev n_exactly_one : List Str := ["one", "other"]
theorem sc_exactly_one : FnScope n_exactly_one ["one", "other"] (defScope s_exactly_one) := ⟨rfl, rfl, rfl, by decide +kernel, rfl, by decide +kernel, by decide +kernel⟩
abbrev s_are_contents : Stmt := top 10
abbrev n_are_contents : List Str := ["thing"]
theorem sc_are_contents : FnScope n_are_contents ["thing"] (defScope s_are_contents) := ⟨rfl, rfl, rfl, by decide +kernel, rfl, by decide +kernel, by decide +kernel⟩
abbrev s_checked : Stmt := top 11
abbrev n_checked : List Str := ["contents"]
theorem sc_checked : FnScope n_checked ["contents"] (defScope s_checked) := ⟨rfl, rfl, rfl, by decide +kernel, rfl, by decide +kernel, by decide +kernel⟩
abbrev s_marks : Stmt := top 16
abbrev n_marks : List Str := ["_law_bag_here", "_law_letters", "_law_found", "_law_k", "_law_mark"]
theorem sc_marks : FnScope n_marks ["_law_bag_here"] (defScope s_marks) := ⟨rfl, rfl, rfl, by decide +kernel, rfl, by decide +kernel, by decide +kernel⟩
abbrev s_contents : Stmt := top 17
abbrev n_contents : List Str := ["_law_bag_here", "_law_marks_here", "_law_share", "_law_found", "_law_mark"]
theorem sc_contents : FnScope n_contents ["_law_bag_here", "_law_marks_here"] (defScope s_contents) := ⟨rfl, rfl, rfl, by decide +kernel, rfl, by decide +kernel, by decide +kernel⟩
abbrev s_due : Stmt := top 18
abbrev n_due : List Str := ["_law_sign", "_law_one", "_law_other", "_law_marks_here", "_law_found", "_law_mark", "_law_many"]
theorem sc_due : FnScope n_due ["_law_sign", "_law_one", "_law_other", "_law_marks_here"] (defScope s_due) := ⟨rfl, rfl, rfl, by decide +kernel, rfl, by decide +kernel, by decide +kernel⟩
abbrev s_signed : Stmt := top 19
abbrev n_signed : List Str := ["_law_sign", "_law_one", "_law_other"]
theorem sc_signed : FnScope n_signed ["_law_sign", "_law_one", "_law_other"] (defScope s_signed) := ⟨rfl, rfl, rfl, by decide +kernel, rfl, by decide +kernel, by decide +kernel⟩
abbrev s_change : Stmt := top 20
abbrev n_change : List Str := ["_law_sign", "_law_boxes", "_law_k", "_law_other"]
theorem sc_change : FnScope n_change ["_law_sign", "_law_boxes", "_law_k", "_law_other"] (defScope s_change) := ⟨rfl, rfl, rfl, by decide +kernel, rfl, by decide +kernel, by decide +kernel⟩
abbrev s_is_refused : Stmt := top 21
abbrev n_is_refused : List Str := ["_law_box", "e"]
theorem sc_is_refused : FnScope n_is_refused ["_law_box"] (defScope s_is_refused) := ⟨rfl, rfl, rfl, by decide +kernel, rfl, by decide +kernel, by decide +kernel⟩
abbrev s_deed : Stmt := top 22
abbrev n_deed : List Str := ["_law_bag_here", "_law_boxes", "_law_held", "_law_texts", "_law_marks_here", "_law_way", "_law_k", "_law_one", "_law_other", "_law_sign", "_law_left", "_law_right", "_law_text", "_law_due_here"]
theorem sc_deed : FnScope n_deed ["_law_bag_here", "_law_boxes", "_law_held", "_law_texts", "_law_marks_here"] (defScope s_deed) := ⟨rfl, rfl, rfl, by decide +kernel, rfl, by decide +kernel, by decide +kernel⟩
abbrev s_is_right : Stmt := top 23
abbrev n_is_right : List Str := ["_law_boxes", "_law_held", "_law_texts", "_law_marks_here", "_law_k", "_law_box", "_law_due_here", "_law_mark", "_law_other", "_law_number"]
theorem sc_is_right : FnScope n_is_right ["_law_boxes", "_law_held", "_law_texts", "_law_marks_here"] (defScope s_is_right) := ⟨rfl, rfl, rfl, by decide +kernel, rfl, by decide +kernel, by decide +kernel⟩
abbrev s_law : Stmt := top 24
abbrev n_law : List Str := ["_law_script", "_law_at", "_law_bag_here", "_law_marks_here", "_law_texts", "_law_boxes", "_law_held", "_law_turn", "_law_k", "_law_text"]
theorem sc_law : FnScope n_law ["_law_script"] (defScope s_law) := ⟨rfl, rfl, rfl, by decide +kernel, rfl, by decide +kernel, by decide +kernel⟩
abbrev s_Box__init : Stmt := inClass (top 12) 0
abbrev n_Box__init : List Str := ["self", "contents"]
theorem sc_Box__init : FnScope n_Box__init ["self", "contents"] (defScope s_Box__init) := ⟨rfl, rfl, rfl, by decide +kernel, rfl, by decide +kernel, by decide +kernel⟩
abbrev s_Box__len : Stmt := inClass (top 12) 3
abbrev n_Box__len : List Str := ["self"]
theorem sc_Box__len : FnScope n_Box__len ["self"] (defScope s_Box__len) := ⟨rfl, rfl, rfl, by decide +kernel, rfl, by decide +kernel, by decide +kernel⟩
abbrev s_Box__str : Stmt := inClass (top 12) 1
abbrev n_Box__str : List Str := ["self"]
theorem sc_Box__str : FnScope n_Box__str ["self"] (defScope s_Box__str) := ⟨rfl, rfl, rfl, by decide +kernel, rfl, by decide +kernel, by decide +kernel⟩
abbrev s_Box__contains : Stmt := inClass (top 12) 4
abbrev n_Box__contains : List Str := ["self", "thing"]
theorem sc_Box__contains : FnScope n_Box__contains ["self", "thing"] (defScope s_Box__contains) := ⟨rfl, rfl, rfl, by decide +kernel, rfl, by decide +kernel, by decide +kernel⟩
abbrev s_Box__or : Stmt := inClass (top 12) 5
abbrev n_Box__or : List Str := ["self", "other"]
theorem sc_Box__or : FnScope n_Box__or ["self", "other"] (defScope s_Box__or) := ⟨rfl, rfl, rfl, by decide +kernel, rfl, by decide +kernel, by decide +kernel⟩
abbrev s_Box__and : Stmt := inClass (top 12) 6
abbrev n_Box__and : List Str := ["self", "other"]
theorem sc_Box__and : FnScope n_Box__and ["self", "other"] (defScope s_Box__and) := ⟨rfl, rfl, rfl, by decide +kernel, rfl, by decide +kernel, by decide +kernel⟩
abbrev s_Box__sub : Stmt := inClass (top 12) 7
abbrev n_Box__sub : List Str := ["self", "other"]
theorem sc_Box__sub : FnScope n_Box__sub ["self", "other"] (defScope s_Box__sub) := ⟨rfl, rfl, rfl, by decide +kernel, rfl, by decide +kernel, by decide +kernel⟩
abbrev s_Box__xor : Stmt := inClass (top 12) 8
abbrev n_Box__xor : List Str := ["self", "other"]
theorem sc_Box__xor : FnScope n_Box__xor ["self", "other"] (defScope s_Box__xor) := ⟨rfl, rfl, rfl, by decide +kernel, rfl, by decide +kernel, by decide +kernel⟩
abbrev s_Box__ior : Stmt := inClass (top 12) 9
abbrev n_Box__ior : List Str := ["self", "other"]
theorem sc_Box__ior : FnScope n_Box__ior ["self", "other"] (defScope s_Box__ior) := ⟨rfl, rfl, rfl, by decide +kernel, rfl, by decide +kernel, by decide +kernel⟩
abbrev s_Box__iand : Stmt := inClass (top 12) 10
abbrev n_Box__iand : List Str := ["self", "other"]
theorem sc_Box__iand : FnScope n_Box__iand ["self", "other"] (defScope s_Box__iand) := ⟨rfl, rfl, rfl, by decide +kernel, rfl, by decide +kernel, by decide +kernel⟩
abbrev s_Box__isub : Stmt := inClass (top 12) 11
abbrev n_Box__isub : List Str := ["self", "other"]
theorem sc_Box__isub : FnScope n_Box__isub ["self", "other"] (defScope s_Box__isub) := ⟨rfl, rfl, rfl, by decide +kernel, rfl, by decide +kernel, by decide +kernel⟩
abbrev s_Box__ixor : Stmt := inClass (top 12) 12
abbrev n_Box__ixor : List Str := ["self", "other"]
theorem sc_Box__ixor : FnScope n_Box__ixor ["self", "other"] (defScope s_Box__ixor) := ⟨rfl, rfl, rfl, by decide +kernel, rfl, by decide +kernel, by decide +kernel⟩
abbrev s_Box_crosses : Stmt := inClass (top 12) 13
abbrev n_Box_crosses : List Str := ["self", "mark"]
theorem sc_Box_crosses : FnScope n_Box_crosses ["self"] (defScope s_Box_crosses) := ⟨rfl, rfl, rfl, by decide +kernel, rfl, by decide +kernel, by decide +kernel⟩
abbrev s_Box_become : Stmt := inClass (top 12) 14
abbrev n_Box_become : List Str := ["self", "contents"]
theorem sc_Box_become : FnScope n_Box_become ["self", "contents"] (defScope s_Box_become) := ⟨rfl, rfl, rfl, by decide +kernel, rfl, by decide +kernel, by decide +kernel⟩
abbrev s_Box_copied : Stmt := inClass (top 12) 16
abbrev n_Box_copied : List Str := ["self"]
theorem sc_Box_copied : FnScope n_Box_copied ["self"] (defScope s_Box_copied) := ⟨rfl, rfl, rfl, by decide +kernel, rfl, by decide +kernel, by decide +kernel⟩
abbrev s_Box_joined : Stmt := inClass (top 12) 17
abbrev n_Box_joined : List Str := ["boxes", "marks", "box"]
theorem sc_Box_joined : FnScope n_Box_joined ["boxes"] (defScope s_Box_joined) := ⟨rfl, rfl, rfl, by decide +kernel, rfl, by decide +kernel, by decide +kernel⟩
abbrev s_BadBox__init : Stmt := inClass (top 3) 0
abbrev n_BadBox__init : List Str := ["self", "contents"]
theorem sc_BadBox__init : FnScope n_BadBox__init ["self", "contents"] (defScope s_BadBox__init) := ⟨rfl, rfl, rfl, by decide +kernel, rfl, by decide +kernel, by decide +kernel⟩
structure Top (K : PySem.W.Frag) (mg : Str → Option Value) : Prop where
  z_len : mg "len" = none
  z_abs : mg "abs" = none
  z_list : mg "list" = none
  z_int : mg "int" = none
  z_isinstance : mg "isinstance" = none
  z_str : mg "str" = none
  z_range : mg "range" = none
  z_max : mg "max" = none
  z_min : mg "min" = none
  z_any : mg "any" = none
  z_enumerate : mg "enumerate" = none
  g_MARKS : ∃ u, mg "MARKS" = some u ∧ RelV (.str "ABCDEFGHIJKLMNOPQRSTUVWXYZabcdefghijklmnopqrstuvwxyz") u
section
variable {P : Program} {w : World} {K : PySem.W.Frag} {mg : Str → Option Value} {base : Heap}
theorem ok_bag {f : Addr} {fd : FuncData} (F : Fun K "_law_bag" "_law_bag" s_bag f fd) (T : Top K mg) : FnOk P w K mg base CX0 1 f fd ["_law_script", "_law_at"] (spBag K) := by
  refine F.ok sc_bag (fun vs H Q E h => ?_) (fun cdv A outer s H vs Q E hr h => ?_)
  · obtain ⟨a, ns, j, rfl, _⟩ := h
    rfl
  · obtain ⟨a, ns, j, rfl, hS, hlen, hj, k⟩ := h
    refine ⟨_, (pss_cons (ps_set (i := 2) sc_bag.nd rfl (Or.inl rfl) (pe_ifExp (pt_cmpR op_lt (pv 1) (pe_callB call_len_seq (by rfl) T.z_len (by decide +kernel) (pa_cons (pv 0) pa_nil)) (nomark _)) (pe_callB call_abs (by rfl) T.z_abs (by decide +kernel) (pa_cons (pe_ix ix_list (pv 0) (pv 1) (fun _ _ => rfl)) pa_nil)) pe_int))
(pss_one (ps_ret (pe_lst (pa_cons (pe_ifExp (pt_cmpR op_ge (pv 2) (pe_op op_pow pe_int pe_int) (nomark _)) (pv 2) pe_int) (pa_cons (pe_op op_add pe_int (pe_op op_mul pe_int (pv 1))) (pa_cons (pv 1) (pa_cons (pe_callTy call_list_of (by rfl) T.z_list (by decide +kernel) (pa_cons (pe_slice sl_list (pv 0) po_none (po_some pe_int)) pa_nil)) pa_nil)))))))), ?_⟩
    refine ⟨_, rfl, _, rfl, a, _, rfl, .inl hS, _, _, rfl, rfl, _, rfl, ?_⟩
    refine ite_val (C := fun v H' => ∃ c : Int, v = .int c ∧ 0 ≤ c ∧ H' = H) (fun hc Q' q => ?_) (fun _ Q' q => q _ _ ⟨0, rfl, Int.le_refl _, rfl⟩) ?_
    · have hj2 : j < ns.length := by
        have e := of_decide_eq_true hc
        rw [List.length_map] at e
        omega
      refine ⟨_, rfl, _, rfl, a, _, _, _, rfl, rfl, hS, atI_nat (ints_at hj2), _, rfl, ?_⟩
      exact q _ _ ⟨_, rfl, abs_nonneg _, rfl⟩
    · rintro v H' ⟨c, rfl, hc, rfl⟩
      refine ⟨_, rfl, _, _, rfl, rfl, ⟨by decide, by decide, by decide⟩, _, _, rfl, rfl, _, rfl, ?_⟩
      refine ite_val (C := fun v H2 => ∃ c : Int, v = .int c ∧ 0 ≤ c ∧ H2 = H') (fun _ Q' q => ⟨_, rfl, q _ _ ⟨c, rfl, hc, rfl⟩⟩) (fun _ Q' q => q _ _ ⟨0, rfl, Int.le_refl _, rfl⟩) ?_
      rintro v H2 ⟨c2, rfl, hc2, rfl⟩
      refine ⟨_, rfl, _, _, rfl, rfl, .inl ⟨by decide, by decide⟩, _, _, rfl, rfl, _, rfl, _, rfl, ?_⟩
      refine ⟨_, rfl, a, _, rfl, hS, fun p hp => ?_⟩
      refine ⟨p, _, rfl, .inl (SqL.of upd_same), fun l hl => ?_⟩
      refine ⟨by show 4 ≤ sizeLine; decide, fun b hb => ?_⟩
      have e : cutV (ns.map V.int) none (some 63) = (ns.take 63).map V.int := (cut_to _ 63).trans (List.map_take ..).symm
      have nlb : l ≠ b := fun q => by
        rw [← q, upd_same] at hb
        cases hb
      have hb1 : upd H2 p (.lst (cutV (ns.map V.int) none (some 63))) b = none := by
        rw [upd_ne nlb.symm] at hb
        exact hb
      have hb2 : H2 b = none := (same_new hp).free hb1
      refine k _ b l (((same_new hp).trans (same_new hl)).trans (same_new hb)) hb2 ((same_new hp).free hl) ?_
      refine ⟨c2, _, _, ns.take 63, upd_same, ?_, ?_, hc2, ?_, ?_, ?_⟩
      · rw [upd_ne nlb, upd_same, e]
      · rw [List.length_take]
        omega
      · omega
      · omega
      · omega
theorem ok_take {f : Addr} {fd : FuncData} (F : Fun K "_law_take" "_law_take" s_take f fd) (T : Top K mg) : FnOk P w K mg base CX0 1 f fd ["_law_bag_here", "_law_many"] spTake := by
  refine F.ok sc_take (fun vs H Q E h => ?_) (fun cdv A outer s H vs Q E hr h => ?_)
  · obtain ⟨p, q, m, rfl, _⟩ := h
    rfl
  · obtain ⟨p, q, m, rfl, hBB, hm, hm2, k⟩ := h
    have npq : q ≠ p := hBB.pq
    obtain ⟨c, z, i, ns, hp, hq, hlen, hc, hz, hz2, hi⟩ := hBB
    refine ⟨_, (pss_cons (ps_if (pt_cmpR op_gt (pe_ix ix_list (pv 0) pe_int (fun _ _ => rfl)) pe_int (nomark _))
(pss_cons (ps_set (i := 2) sc_take.nd rfl (Or.inl rfl) (pe_op op_mod (pe_callTy call_int1 (by rfl) T.z_int (by decide +kernel) (pa_cons (pe_ix ix_list (pv 0) pe_int (fun _ _ => rfl)) pa_nil)) (pv 1)))
(pss_cons (ps_asg (pe_op op_fdivW (pe_ix ix_list (pv 0) pe_int (fun _ _ => rfl)) (pv 1)) (pg_sub (pv 0) pe_int set_list))
(pss_one (ps_ret (pv 2)))))
pss_nil)
(pss_cons (ps_asg (pe_op op_add (pe_ix ix_list (pv 0) pe_int (fun _ _ => rfl)) pe_int) (pg_sub (pv 0) pe_int set_list))
(pss_cons (ps_set (i := 3) sc_take.nd rfl (Or.inl rfl) (pe_ifExp (pt_cmpR (op_neD hr.units) (pe_ix ix_list (pv 0) pe_int (fun _ _ => rfl)) (pe_lst pa_nil) (nomark _)) (pe_ix ix_list (pe_ix ix_list (pv 0) pe_int (fun _ _ => rfl)) (pe_op op_mod (pe_ix ix_list (pv 0) pe_int (fun _ _ => rfl)) (pe_callB call_len_seq (by rfl) T.z_len (by decide +kernel) (pa_cons (pe_ix ix_list (pv 0) pe_int (fun _ _ => rfl)) pa_nil))) (fun _ _ => rfl)) pe_int))
(pss_cons (ps_set (i := 4) sc_take.nd rfl (Or.inl rfl) (pe_op op_mod (pe_callTy call_int1 (by rfl) T.z_int (by decide +kernel) (pa_cons (pv 3) pa_nil)) pe_int))
(pss_cons (ps_asg (pe_op op_mod (pe_callTy call_int1 (by rfl) T.z_int (by decide +kernel) (pa_cons (pe_op op_add (pe_op op_add (pe_op op_add (pe_op op_mul (pe_ix ix_list (pv 0) pe_int (fun _ _ => rfl)) pe_int) (pv 4)) (pe_op op_mul pe_int (pe_ix ix_list (pv 0) pe_int (fun _ _ => rfl)))) pe_int) pa_nil)) pe_int) (pg_sub (pv 0) pe_int set_list))
(pss_one (ps_ret (pe_op op_mod (pe_op op_fdivW (pe_op op_mod (pe_callTy call_int1 (by rfl) T.z_int (by decide +kernel) (pa_cons (pe_op op_mul (pe_op op_fdivW (pe_ix ix_list (pv 0) pe_int (fun _ _ => rfl)) pe_int) pe_int) pa_nil)) pe_int) pe_int) (pv 1))))))))), ?_⟩
    refine ⟨_, rfl, p, _, _, _, rfl, rfl, SqL.of hp, rfl, _, _, rfl, rfl, _, rfl, ?_⟩
    refine ite_b (fun hc0 => ?_) (fun _ => ?_)
    · have hc1 : 0 < c := of_decide_eq_true hc0
      refine ⟨_, rfl, p, _, _, _, rfl, rfl, SqL.of hp, rfl, .inl ⟨_, rfl, ?_⟩⟩
      refine ⟨_, rfl, _, _, rfl, rfl, hm, ?_⟩
      refine ⟨_, rfl, p, _, _, _, rfl, rfl, SqL.of hp, rfl, _, rfl, _, _, rfl, rfl, cdw hm hm2, ?_⟩
      · refine ⟨_, rfl, p, _, _, _, rfl, rfl, hp, rfl, ?_⟩
        refine ⟨_, rfl, ?_⟩
        refine k _ _ bar_upd ⟨c / m, z, i, ns, upd_same, by rw [upd_ne npq]; exact hq, hlen, Int.ediv_nonneg hc (by omega), hz, hz2, hi⟩ (Int.emod_nonneg _ (by omega)) (Int.emod_lt_of_pos _ hm)
    · show tSeq _ _ _ _ _
      refine ⟨_, rfl, p, _, _, _, rfl, rfl, SqL.of hp, rfl, _, _, rfl, rfl, ?_⟩
      refine ⟨_, rfl, p, _, _, _, rfl, rfl, hp, rfl, ?_⟩
      have hp1 : upd H p (.lst [V.int c, V.int z, V.int (i + 1), V.ref q]) p = some (.lst [V.int c, V.int z, V.int (i + 1), V.ref q]) := upd_same
      have hq1 : upd H p (.lst [V.int c, V.int z, V.int (i + 1), V.ref q]) q = some (.lst (ns.map V.int)) := (upd_ne npq).trans hq
      refine ⟨_, rfl, p, _, _, _, rfl, rfl, SqL.of hp1, rfl, Nat.zero_le _, fun l hl => ?_⟩
      have npl : p ≠ l := ne_of_none hp1 hl
      have nql : q ≠ l := ne_of_none hq1 hl
      have hp2 := (upd_ne npl (o := HO.lst [])).trans hp1
      have hq2 := (upd_ne nql (o := HO.lst [])).trans hq1
      refine ⟨_, _, dp_ints (SqL.of hq2), .lst (SqL.of upd_same) .nil, shaped_ints ns, by decide, _, rfl, ?_⟩
      refine ite_val (C := fun v H' => ∃ n : Int, v = .int n ∧ H' = _) (fun hne Q' qq => ?_) (fun _ Q' qq => qq _ _ ⟨0, rfl, rfl⟩) ?_
      · have hn : ns ≠ [] := fun e => by
          rw [eqv_nil_ints, decide_eq_true e] at hne
          cases hne
        have hl0 : 0 < (ns.map V.int).length := by
          rw [List.length_map]
          exact List.length_pos_iff.mpr hn
        refine ⟨_, rfl, p, _, _, _, rfl, rfl, SqL.of hp2, rfl, _, rfl, p, _, _, _, rfl, rfl, SqL.of hp2, rfl, _, rfl, p, _, _, _, rfl, rfl, SqL.of hp2, rfl, q, _, rfl, .inl (SqL.of hq2), _, _, rfl, rfl, by omega, ?_⟩
        have h0 : 0 ≤ (i + 1) % ((ns.map V.int).length : Int) := Int.emod_nonneg _ (by omega)
        have h1 : (i + 1) % ((ns.map V.int).length : Int) < ((ns.map V.int).length : Int) := Int.emod_lt_of_pos _ (by omega)
        obtain ⟨j, hj⟩ := Int.eq_ofNat_of_zero_le h0
        have hj2 : j < ns.length := by
          rw [hj, List.length_map] at h1
          omega
        refine ⟨q, _, _, _, rfl, rfl, SqL.of hq2, ?_, qq _ _ ⟨ns[j], rfl, rfl⟩⟩
        rw [hj]
        exact atI_nat (ints_at hj2)
      · rintro v H' ⟨n, rfl, rfl⟩
        refine ⟨_, rfl, .inl ⟨_, rfl, ?_⟩⟩
        refine ⟨_, _, rfl, rfl, (by show (0 : Int) < _; decide), ?_⟩
        refine ⟨_, rfl, p, _, _, _, rfl, rfl, SqL.of hp2, rfl, _, _, rfl, rfl, .inr ⟨by decide, by decide⟩, _, rfl, _, _, rfl, rfl, _, rfl, p, _, _, _, rfl, rfl, SqL.of hp2, rfl, _, _, rfl, rfl, .inl ⟨by decide, by decide⟩, _, _, rfl, rfl, _, _, rfl, rfl, .inl ⟨_, rfl, ?_⟩⟩
        refine ⟨_, _, rfl, rfl, (by show (0 : Int) < _; decide), ?_⟩
        refine ⟨_, rfl, p, _, _, _, rfl, rfl, hp2, rfl, ?_⟩
        refine ⟨_, rfl, p, _, _, _, rfl, rfl, SqL.of upd_same, rfl, _, _, rfl, rfl, cdw (by decide) (by decide), _, _, rfl, rfl, .inr ⟨by decide, by decide⟩, .inl ⟨_, rfl, ?_⟩⟩
        refine ⟨_, _, rfl, rfl, (by show (0 : Int) < _; decide), _, _, rfl, rfl, cdw (by decide) (by decide), _, rfl, _, _, rfl, rfl, hm, ?_⟩
        refine k _ _ ?_ ⟨c, _, i + 1, ns, upd_same, ?_, hlen, hc, Int.emod_nonneg _ (by decide), ?_, by omega⟩ (Int.emod_nonneg _ (by omega)) (Int.emod_lt_of_pos _ hm)
        · exact (bar_upd.trans (bar_new hl)).trans bar_upd
        · exact (upd_ne npq).trans hq2
        · exact Int.lt_trans (Int.emod_lt_of_pos _ (by decide)) (by decide)
theorem ok_either {f : Addr} {fd : FuncData} (F : Fun K "either" "either" s_either f fd) (T : Top K mg) : FnOk P w K mg base CX0 1 f fd ["one", "other"] spEither := by
  refine F.ok sc_either (fun vs H Q E h => ?_) (fun cdv A outer s H vs Q E hr h => ?_)
  · obtain ⟨a, b, rfl, _⟩ := h
    rfl
  · obtain ⟨a, b, rfl, k⟩ := h
    refine ⟨_, (pss_one (ps_ret (pe_join pe_str (pe_lc (own := [("mark", 2)]) rfl sc_either.nd (pi_str (C8.pe_gc (by rfl) T.g_MARKS)) (blkOk_by (own := [("mark", 2)]) (N := n_either) (sc := defScope s_either) (by decide +kernel)) (fun _ _ _ _ _ => (pg_name (i := 2) sc_either.nd rfl (Or.inl rfl))) (fun _ _ _ _ _ => (pts_one (PW.pt (pw_or (pt_cmpR op_in_sign (pv 2) (pv 0) rfl) (pw_or1 (pt_cmpR op_in_sign (pv 2) (pv 1) rfl)))))) (fun _ _ _ _ _ => (pv 2)))))), ?_⟩
    refine ⟨⟨_, rfl⟩, _, rfl, fun D hD => lc_it walk_str (fun i H' => H' = upd H D (.lst (filt mk (fun c => mem a c || mem b c) i))) rfl (fun _ _ _ _ => trivial) ?_ ?_⟩
    · rintro i x H2 H' hi rfl ⟨rfl, c, hc, rfl⟩
      have hc := mk_at hc
      have hl : (filt mk (fun c => mem a c || mem b c) i).length < sizeLine := Nat.lt_of_le_of_lt filt_len (by rw [mk_len]; decide)
      have yes : (mem a c || mem b c) = true → upd (upd H D (.lst (filt mk (fun c => mem a c || mem b c) i))) D (.lst (filt mk (fun c => mem a c || mem b c) i ++ [sg c])) = upd H D (.lst (filt mk (fun c => mem a c || mem b c) (i + 1))) := fun h => by
        rw [upd_upd, filt_yes (t := fun c => mem a c || mem b c) hc h]
      refine ⟨rfl, ?_⟩
      refine ⟨_, rfl, _, rfl, c, a, rfl, rfl, _, rfl, ?_⟩
      refine ite_b (fun h1 => ?_) (fun h1 => ?_)
      · have h1 : mem a c = true := h1
        refine iteT ⟨_, rfl, _, upd_same, hl, yes (by rw [h1]; rfl)⟩
      · have h1 : mem a c = false := h1
        refine ⟨_, rfl, _, rfl, c, b, rfl, rfl, _, rfl, ?_⟩
        refine ite_b (fun h2 => ?_) (fun h2 => ?_)
        · have h2 : mem b c = true := h2
          exact ⟨_, rfl, _, upd_same, hl, yes (by rw [h1, h2]; rfl)⟩
        · have h2 : mem b c = false := h2
          show upd H D _ = upd H D _
          rw [filt_no hc (t := fun c => mem a c || mem b c) (by rw [h1, h2]; rfl)]
    · rintro H' rfl
      refine join_ok (mk.filter fun c => mem a c || mem b c) ?_ ?_ ?_
      · exact Nat.le_trans (List.length_filter_le _ _) (by rw [mk_len]; decide)
      · rw [upd_same, filt_end (by rw [mk_len, mk_size]; exact Nat.le_refl _)]
      · exact k _ (same_new hD)
theorem ok_both {f : Addr} {fd : FuncData} (F : Fun K "both" "both" s_both f fd) (T : Top K mg) : FnOk P w K mg base CX0 1 f fd ["one", "other"] spBoth := by
  refine F.ok sc_both (fun vs H Q E h => ?_) (fun cdv A outer s H vs Q E hr h => ?_)
  · obtain ⟨a, b, rfl, _⟩ := h
    rfl
  · obtain ⟨a, b, rfl, hal, k⟩ := h
    have hal2 : a.cps.toList.length ≤ 1000000 := hal
    refine ⟨_, (pss_one (ps_ret (pe_join pe_str (pe_lc (own := [("mark", 2)]) rfl sc_both.nd (pi_str (pv 0)) (blkOk_by (own := [("mark", 2)]) (N := n_both) (sc := defScope s_both) (by decide +kernel)) (fun _ _ _ _ _ => (pg_name (i := 2) sc_both.nd rfl (Or.inl rfl))) (fun _ _ _ _ _ => (pts_one (pt_cmpR op_in_sign (pv 2) (pv 1) rfl))) (fun _ _ _ _ _ => (pv 2)))))), ?_⟩
    refine ⟨⟨_, rfl⟩, _, rfl, a, rfl, fun D hD => lc_it walk_str (fun i H' => H' = upd H D (.lst (filt a.cps.toList (fun c => mem b c) i))) rfl (fun _ _ _ _ => trivial) ?_ ?_⟩
    · rintro i x H2 H' hi rfl ⟨rfl, c, hc, rfl⟩
      have hc := arr_at hc
      have hl : (filt a.cps.toList (fun c => mem b c) i).length < sizeLine := Nat.lt_of_le_of_lt filt_len (Nat.lt_of_le_of_lt hal2 (by decide))
      refine ⟨rfl, _, rfl, _, rfl, c, b, rfl, rfl, _, rfl, ?_⟩
      refine ite_b (fun h2 => ?_) (fun h2 => ?_)
      · have h2 : mem b c = true := h2
        refine ⟨_, rfl, _, upd_same, hl, ?_⟩
        rw [upd_upd, filt_yes (t := fun c => mem b c) hc h2]
        rfl
      · have h2 : mem b c = false := h2
        rw [filt_no hc (t := fun c => mem b c) h2]
    · rintro H' rfl
      refine join_ok (a.cps.toList.filter fun c => mem b c) (Nat.le_trans (List.length_filter_le _ _) hal2) ?_ (k _ (same_new hD))
      rw [upd_same, filt_end (by rw [Array.length_toList]; exact Nat.le_refl _)]
theorem ok_without {f : Addr} {fd : FuncData} (F : Fun K "without" "without" s_without f fd) (T : Top K mg) : FnOk P w K mg base CX0 1 f fd ["one", "other"] spWithout := by
  refine F.ok sc_without (fun vs H Q E h => ?_) (fun cdv A outer s H vs Q E hr h => ?_)
  · obtain ⟨a, b, rfl, _⟩ := h
    rfl
  · obtain ⟨a, b, rfl, hal, k⟩ := h
    have hal2 : a.cps.toList.length ≤ 1000000 := hal
    refine ⟨_, (pss_one (ps_ret (pe_join pe_str (pe_lc (own := [("mark", 2)]) rfl sc_without.nd (pi_str (pv 0)) (blkOk_by (own := [("mark", 2)]) (N := n_without) (sc := defScope s_without) (by decide +kernel)) (fun _ _ _ _ _ => (pg_name (i := 2) sc_without.nd rfl (Or.inl rfl))) (fun _ _ _ _ _ => (pts_one (pt_cmpR op_notIn_sign (pv 2) (pv 1) rfl))) (fun _ _ _ _ _ => (pv 2)))))), ?_⟩
    refine ⟨⟨_, rfl⟩, _, rfl, a, rfl, fun D hD => lc_it walk_str (fun i H' => H' = upd H D (.lst (filt a.cps.toList (fun c => !mem b c) i))) rfl (fun _ _ _ _ => trivial) ?_ ?_⟩
    · rintro i x H2 H' hi rfl ⟨rfl, c, hc, rfl⟩
      have hc := arr_at hc
      have hl : (filt a.cps.toList (fun c => !mem b c) i).length < sizeLine := Nat.lt_of_le_of_lt filt_len (Nat.lt_of_le_of_lt hal2 (by decide))
      refine ⟨rfl, _, rfl, _, rfl, c, b, rfl, rfl, _, rfl, ?_⟩
      refine ite_b (fun h2 => ?_) (fun h2 => ?_)
      · refine ⟨_, rfl, _, upd_same, hl, ?_⟩
        rw [upd_upd, filt_yes (t := fun c => !mem b c) hc h2]
        rfl
      · rw [filt_no hc (t := fun c => !mem b c) h2]
    · rintro H' rfl
      refine join_ok (a.cps.toList.filter fun c => !mem b c) (Nat.le_trans (List.length_filter_le _ _) hal2) ?_ (k _ (same_new hD))
      rw [upd_same, filt_end (by rw [Array.length_toList]; exact Nat.le_refl _)]
theorem ok_exactly {f : Addr} {fd : FuncData} (F : Fun K "exactly_one" "exactly_one" s_exactly_one f fd) (T_either : Cal P w K mg base 1 "either" spEither []) (T_without : Cal P w K mg base 1 "without" spWithout []) :
    FnOk P w K mg base CX0 2 f fd ["one", "other"] spExactly := by
  refine F.ok sc_exactly_one (fun vs H Q E h => ?_) (fun cdv A outer s H vs Q E hr h => ?_)
  · obtain ⟨a, b, rfl, _⟩ := h
    rfl
  · obtain ⟨a, b, rfl, ha, hb, k⟩ := h
    refine ⟨_, (pss_one (ps_ret (pe_c T_either hr (by decide) (by rfl) (pa_cons (pe_c T_without hr (by decide) (by rfl) (pa_cons (pv 0) (pa_cons (pv 1) pa_nil))) (pa_cons (pe_c T_without hr (by decide) (by rfl) (pa_cons (pv 1) (pa_cons (pv 0) pa_nil))) pa_nil))))), ?_⟩
    refine ⟨_, rfl, _, rfl, a, b, rfl, Nat.le_trans ha.len (by decide), fun H1 s1 => ⟨_, rfl, _, rfl, b, a, rfl, Nat.le_trans hb.len (by decide), fun H2 s2 => ⟨_, _, rfl, fun H3 s3 => ?_⟩⟩⟩
    have e := k H3 ((s1.trans s2).trans s3)
    have e2 : (sb fun c => mem (S (a.cps.toList.filter fun c => !mem b c)) c || mem (S (b.cps.toList.filter fun c => !mem a c)) c) = sb fun c => mem a c != mem b c := by
      rw [ha.filt, hb.filt]
      refine sb_ext fun c hc => ?_
      rw [mem_sb, mem_sb, decide_eq_true hc]
      cases mem a c <;> cases mem b c <;> rfl
    show Q (V.str (sb fun c => mem (S (a.cps.toList.filter fun c => !mem b c)) c || mem (S (b.cps.toList.filter fun c => !mem a c)) c)) H3
    rw [e2]
    exact e
theorem ok_are {f : Addr} {fd : FuncData} (F : Fun K "are_contents" "are_contents" s_are_contents f fd) (T : Top K mg) (T_either : Cal P w K mg base 1 "either" spEither []) :
    FnOk P w K mg base CX0 2 f fd ["thing"] (spAre K) := by
  refine F.ok sc_are_contents (fun vs H Q E h => ?_) (fun cdv A outer s H vs Q E hr h => ?_)
  · obtain ⟨x, rfl, _⟩ := h
    rfl
  · obtain ⟨x, rfl, k⟩ := h
    refine ⟨_, (pss_one (ps_ret (pe_and (pe_callB call_isi (by rfl) T.z_isinstance (by decide +kernel) (pa_cons (pv 0) (pa_cons (pe_bltn (v := .ty "str") (u := .type "str") (by rfl) T.z_str (by decide +kernel) rfl) pa_nil))) (pe_one (pe_cmpR op_eq (pv 0) (pe_c T_either hr (by decide) (by rfl) (pa_cons (pv 0) (pa_cons pe_str pa_nil))) (nomark _)))))), ?_⟩
    rcases k with ⟨z, rfl, k⟩ | ⟨t, ht, hk, k⟩
    · refine ⟨_, rfl, _, _, _, _, true, rfl, .ty "str", .base (.str z), kit_ty (by decide +kernel), true, rfl, iteT ?_⟩
      refine ⟨_, rfl, _, rfl, z, _, rfl, fun H1 s1 => ⟨rfl, ?_⟩⟩
      have e : (sb fun c => mem z c || mem "" c) = sb (mem z) := sb_ext fun c _ => by
        have e0 : mem "" c = false := by
          unfold mem
          have e1 : ("" : Str).cps.toList = [] := by decide +kernel
          rw [e1]
          rfl
        rw [e0, Bool.or_false]
      show Q (V.bl (decide (V.str z = V.str (sb fun c => mem z c || mem "" c)))) H1
      rw [e]
      have e2 : decide (V.str z = V.str (sb (mem z))) = decide (z = sb (mem z)) := by
        by_cases c : z = sb (mem z)
        · rw [decide_eq_true c, decide_eq_true (congrArg V.str c)]
        · rw [decide_eq_false c, decide_eq_false fun q => c (V.str.inj q)]
      rw [e2]
      exact k H1 s1
    · refine ⟨_, rfl, _, _, _, _, false, rfl, .ty "str", ht, kit_ty hk, false, rfl, iteF k⟩
theorem ok_bad {f C : Addr} {fd : FuncData} (F : Fun K "__init__" "BadBox.__init__" s_BadBox__init f fd) (T : BadT K mg C) : FnOk P w K mg base CX0 1 f fd ["self", "contents"] (spBad C) := by
  refine F.ok sc_BadBox__init (fun vs H Q E h => ?_) (fun cdv A outer s H vs Q E hr h => ?_)
  · obtain ⟨a, y, rfl, _⟩ := h
    rfl
  · obtain ⟨a, y, rfl, ha, k⟩ := h
    refine ⟨_, (pss_one (ps_ost (pv 0) (pv 1))), ?_⟩
    exact ⟨_, rfl, _, rfl, a, C, rfl, T.ox, T.no, .inl ⟨ha, fun d hd hda => k d hd hda⟩⟩
theorem ok_checkX {f CB : Addr} {fd : FuncData} (F : Fun K "checked" "checked" s_checked f fd) (T_are_contents : Cal P w K mg base 2 "are_contents" (spAre K) []) (BB : BadC P w K mg base CB) :
    FnOk P w K mg base (L2.CX P w) 3 f fd ["contents"] (spCheckX K CB) := by
  refine F.okX sc_checked (fun vs H Q E h => ?_) (fun cdv A outer s H vs Q E hr h => ?_)
  · obtain ⟨x, rfl, _⟩ := h
    rfl
  · obtain ⟨x, rfl, hx, ky, kn⟩ := h
    refine ⟨_, (pss_cons (ps_if (pt_not (pt_val (pe_c T_are_contents hr (by decide) (by rfl) (pa_cons (pv 0) pa_nil))))
(pss_one (ps_raise rfl (takes_of (E := E) rfl rfl rfl rfl) (pmk_bad BB hr (by decide) (by rfl) (pa_cons (pv 0) pa_nil))))
pss_nil)
(pss_one (ps_ret (pv 0)))), ?_⟩
    rcases hx with ⟨z, rfl, hz⟩ | ⟨t, hty, hk⟩
    · refine ⟨_, rfl, _, rfl, .inl ⟨z, rfl, fun H1 s1 => ⟨_, rfl, ?_⟩⟩⟩
      have e : decide (z = sb (mem z)) = conB (.str z) := rfl
      rw [e]
      cases hc : conB (.str z) with
      | true => exact ⟨_, rfl, ky hc H1 s1⟩
      | false => exact ⟨_, rfl, by show 1 ≤ 1000; decide, fun a na => bad_ok na fun H' d s2 hd hv => kn hc H' d (s1.trans s2) (s1.free hd) hv⟩
    · have hc := conB_noStr ⟨t, hty, hk⟩
      exact ⟨_, rfl, _, rfl, .inr ⟨t, hty, hk, _, rfl, _, rfl, by show 1 ≤ 1000; decide, fun a na => bad_ok na fun H' d s2 hd hv => kn hc H' d s2 hd hv⟩⟩
theorem ok_initX {f C CB : Addr} {fd : FuncData} (F : FunD K "__init__" "Box.__init__" (defArgs s_Box__init) (defBody s_Box__init) (defScope s_Box__init) [.str ""] [] f fd) (B : BoxC K mg C) (T_checked : CalX P w K mg base 3 "checked" (spCheckX K CB)) :
    FnOk P w K mg base (L2.CX P w) 4 f fd ["self", "contents"] (spInitX K C CB) := by
  refine fund_okX F sc_Box__init (fun vs H Q E h => ?_) (fun cdv A outer s H vs Q E hr h => ?_)
  · obtain ⟨a, dx, x, rfl, _⟩ := h
    rfl
  · obtain ⟨a, dx, x, rfl, ha, hx, ky, kn⟩ := h
    refine ⟨_, (pss_one (ps_fld (pv 0) (pe_cX T_checked (E := E) (takes_of rfl rfl rfl rfl) hr (by decide) (by rfl) (pa_cons (pv 1) pa_nil)) rfl)), ?_⟩
    refine ⟨_, rfl, x, rfl, hx, fun hc H1 s1 => ⟨_, rfl, a, C, dx, [], rfl, s1 _ _ ha, B.cl, B.nC, by decide, ?_⟩, fun hc H1 d s1 hd hv => kn hc H1 d s1 hd hv⟩
    obtain ⟨z, rfl, hz⟩ := conB_ex hc
    refine ky z rfl hz _ (fun b o n e => ?_) ⟨dx, upd_same⟩
    rw [upd_ne n]
    exact s1 _ _ e
theorem ok_becomeX {f C CB : Addr} {fd : FuncData} (F : Fun K "become" "Box.become" s_Box_become f fd) (B : BoxC K mg C) (T_checked : CalX P w K mg base 3 "checked" (spCheckX K CB)) :
    FnOk P w K mg base (L2.CX P w) 4 f fd ["self", "contents"] (spBecomeX K C CB) := by
  refine F.okX sc_Box_become (fun vs H Q E h => ?_) (fun cdv A outer s H vs Q E hr h => ?_)
  · obtain ⟨a, y, x, rfl, _⟩ := h
    rfl
  · obtain ⟨a, y, x, rfl, ⟨dx, ha⟩, hx, ky, kn⟩ := h
    refine ⟨_, (pss_one (ps_fld (pv 0) (pe_cX T_checked (E := E) (takes_of rfl rfl rfl rfl) hr (by decide) (by rfl) (pa_cons (pv 1) pa_nil)) rfl)), ?_⟩
    refine ⟨_, rfl, x, rfl, hx, fun hc H1 s1 => ⟨_, rfl, a, C, dx, _, rfl, s1 _ _ ha, B.cl, B.nC, by show 1 < 1000; decide, ?_⟩, fun hc H1 d s1 hd hv => kn hc H1 d s1 hd hv⟩
    obtain ⟨z, rfl, hz⟩ := conB_ex hc
    rw [boxF_put]
    refine ky z rfl hz _ (fun b o n e => ?_) ⟨dx, upd_same⟩
    rw [upd_ne n]
    exact s1 _ _ e
theorem ok_len {f C : Addr} {fd : FuncData} (F : Fun K "__len__" "Box.__len__" s_Box__len f fd) (T : Top K mg) (B : BoxC K mg C) : FnOk P w K mg base CX0 1 f fd ["self"] (spLen C) := by
  refine F.ok sc_Box__len (fun vs H Q E h => ?_) (fun cdv A outer s H vs Q E hr h => ?_)
  · obtain ⟨a, z, rfl, _⟩ := h
    rfl
  · obtain ⟨a, z, rfl, ⟨dx, ha⟩, hl, k⟩ := h
    refine ⟨_, (pss_one (ps_ret (pe_callB call_len_str (by rfl) T.z_len (by decide +kernel) (pa_cons (pe_fld (pv 0) rfl) pa_nil)))), ?_⟩
    exact ⟨_, rfl, a, C, dx, _, _, rfl, ha, B.cl, B.nC, boxF_lk z, _, rfl, Nat.le_of_lt (small1000 hl), k⟩
theorem ok_str {f C : Addr} {fd : FuncData} (F : Fun K "__str__" "Box.__str__" s_Box__str f fd) (T : Top K mg) (B : BoxC K mg C) : FnOk P w K mg base CX0 1 f fd ["self"] (spStr C) := by
  refine F.ok sc_Box__str (fun vs H Q E h => ?_) (fun cdv A outer s H vs Q E hr h => ?_)
  · obtain ⟨a, z, rfl, _⟩ := h
    rfl
  · obtain ⟨a, z, rfl, ⟨dx, ha⟩, k⟩ := h
    refine ⟨_, (pss_one (ps_ret (pe_callTy SkE.call_str_str (by rfl) T.z_str (by decide +kernel) (pa_cons (pe_fld (pv 0) rfl) pa_nil)))), ?_⟩
    exact ⟨_, rfl, a, C, dx, _, _, rfl, ha, B.cl, B.nC, boxF_lk z, z, rfl, k⟩
theorem ok_has {f C : Addr} {fd : FuncData} (F : Fun K "__contains__" "Box.__contains__" s_Box__contains f fd) (T : Top K mg) (B : BoxC K mg C) : FnOk P w K mg base CX0 1 f fd ["self", "thing"] (spHas K C) := by
  refine F.ok sc_Box__contains (fun vs H Q E h => ?_) (fun cdv A outer s H vs Q E hr h => ?_)
  · obtain ⟨a, z, x, rfl, _⟩ := h
    rfl
  · obtain ⟨a, z, x, rfl, ⟨dx, ha⟩, hx, k⟩ := h
    refine ⟨_, (pss_one (ps_ret (pe_and (pe_callB call_isi (by rfl) T.z_isinstance (by decide +kernel) (pa_cons (pv 1) (pa_cons (pe_bltn (v := .ty "str") (u := .type "str") (by rfl) T.z_str (by decide +kernel) rfl) pa_nil))) (pe_and (pe_cmpR op_eq (pe_callB call_len_str (by rfl) T.z_len (by decide +kernel) (pa_cons (pv 1) pa_nil)) pe_int (nomark _)) (pe_one (pe_cmpR op_in_sign (pv 1) (pe_fld (pv 0) rfl) rfl)))))), ?_⟩
    rcases hx with ⟨y, rfl, hy⟩ | hn
    · refine ⟨_, rfl, _, _, _, _, true, rfl, .ty "str", .base (.str y), kit_ty (by decide +kernel), true, rfl, iteT ?_⟩
      refine ⟨_, rfl, _, rfl, Nat.le_of_lt (small1000 hy), rfl, _, rfl, ite_b (fun h1 => ?_) (fun h1 => ?_)⟩
      · have h2 : V.int (y.length : Nat) = V.int 1 := of_decide_eq_true h1
        have h3 : y.cps.toList.length = 1 := by
          injection h2 with h2
          have : y.length = 1 := by omega
          exact this
        obtain ⟨c, hc⟩ := List.length_eq_one_iff.mp h3
        have ey : y = ⟨#[c]⟩ := by
          rw [← SX.S_tl y, hc]
        have e4 : hasV z (.str y) = mem z c := by
          unfold hasV
          simp only [hc]
        rw [e4] at k
        refine ⟨_, rfl, _, rfl, a, C, dx, _, _, rfl, ha, B.cl, B.nC, boxF_lk z, c, z, by rw [ey], rfl, k⟩
      · have h2 : ¬ V.int (y.length : Nat) = V.int 1 := of_decide_eq_false h1
        have e4 : hasV z (.str y) = false := by
          unfold hasV
          simp only
          split
          · rename_i c hc
            refine absurd ?_ h2
            have : y.length = 1 := by
              show y.cps.toList.length = 1
              rw [hc]
              rfl
            rw [this]
            rfl
          · rfl
        rw [e4] at k
        exact k
    · obtain ⟨t, ht, hk⟩ := id hn
      rw [hasV_noStr hn] at k
      exact ⟨_, rfl, _, _, _, _, false, rfl, .ty "str", ht, kit_ty hk, false, rfl, iteF k⟩
theorem ok_cross {f C : Addr} {fd : FuncData} (F : Fun K "crosses" "Box.crosses" s_Box_crosses f fd) (T : Top K mg) (B : BoxC K mg C) : FnOk P w K mg base CX0 1 f fd ["self"] (spCross C) := by
  refine F.ok sc_Box_crosses (fun vs H Q E h => ?_) (fun cdv A outer s H vs Q E hr h => ?_)
  · obtain ⟨a, z, rfl, _⟩ := h
    rfl
  · obtain ⟨a, z, rfl, ⟨dx, ha⟩, hz, k⟩ := h
    refine ⟨_, (pss_one (ps_ret (pe_not (pe_callB (cr_any rfl) (by rfl) T.z_any (by decide +kernel) (pa_cons (pe_lc (own := [("mark", 1)]) rfl sc_Box_crosses.nd (pi_str (pe_fld (pv 0) rfl)) (blkOk_by (own := [("mark", 1)]) (N := n_Box_crosses) (sc := defScope s_Box_crosses) (by decide +kernel)) (fun _ _ _ _ _ => (pg_name (i := 1) sc_Box_crosses.nd rfl (Or.inl rfl))) (fun _ _ _ _ _ => pts_nil) (fun _ _ _ _ _ => (pe_m0 PySem.F.slot_str_isupper PySem.F.type_str_isupper mt_isupper (pv 1)))) pa_nil))))), ?_⟩
    refine ⟨_, rfl, a, C, dx, _, _, rfl, ha, B.cl, B.nC, boxF_lk z, z, rfl, fun D hD => lc_it walk_str (fun i H' => H' = upd H D (.lst ((z.cps.toList.take i).map fun c => V.bl (!decide (97 ≤ c))))) rfl (fun _ _ _ _ => trivial) ?_ ?_⟩
    · rintro i x H2 H' hi rfl ⟨rfl, c, hc, rfl⟩
      have hc := arr_at hc
      have hz2 : z.cps.toList.length ≤ 52 := hz.len
      have hl : (z.cps.toList.take i).length ≤ 52 := by
        rw [List.length_take]
        omega
      refine ⟨rfl, lc_yes ⟨_, rfl, ⟨_, rfl⟩, _, rfl, rfl, trivial, _, upd_same, ?_, ?_⟩⟩
      · rw [List.length_map]
        exact small1000 (by omega)
      · rw [upd_upd, take_snoc hc, List.map_append]
        show upd H D (.lst (_ ++ [V.bl (Txt.isupper (S [c]))])) = _
        rw [upper_mk c (isC_sub hz (List.mem_of_getElem? hc))]
        rfl
    · rintro H' rfl
      have e : (z.cps.toList.take z.cps.size).map (fun c => V.bl (!decide (97 ≤ c))) = (z.cps.toList.map fun c => !decide (97 ≤ c)).map V.bl := by
        rw [List.take_of_length_le (by rw [Array.length_toList]; exact Nat.le_refl _), List.map_map]
        rfl
      refine ⟨_, _, rfl, SqL.of (by rw [upd_same, e]), _, rfl, ?_⟩
      have e2 : (!((z.cps.toList.map fun c => !decide (97 ≤ c)).any id)) = plainB z := by
        unfold plainB
        rw [List.any_map, List.all_eq_not_any_not]
        rfl
      show Q (V.bl (!((z.cps.toList.map fun c => !decide (97 ≤ c)).any id))) _
      rw [e2]
      exact k _ (same_new hD)
theorem ok_copied {f C : Addr} {fd : FuncData} (F : Fun K "copied" "Box.copied" s_Box_copied f fd) (B : BoxC K mg C) (T_Box : Mak P w K mg base 4 "Box" C (spInit C) []) :
    FnOk P w K mg base CX0 6 f fd ["self"] (spCopied C) := by
  refine F.ok sc_Box_copied (fun vs H Q E h => ?_) (fun cdv A outer s H vs Q E hr h => ?_)
  · obtain ⟨a, z, rfl, _⟩ := h
    rfl
  · obtain ⟨a, z, rfl, ⟨dx, ha⟩, hz, k⟩ := h
    refine ⟨_, (pss_one (ps_ret (pe_mk T_Box hr (by decide) (by rfl) (pa_cons (pe_fld (pv 0) rfl) pa_nil)))), ?_⟩
    exact ⟨_, rfl, a, C, dx, _, _, rfl, ha, B.cl, B.nC, boxF_lk z, fun x d nx nd nxd => ⟨x, d, z, rfl, upd_same, hz, fun H1 b1 h1 => ⟨rfl, k H1 x (same_made nx nd b1) nx h1⟩⟩⟩
theorem ok_joinedS {f C : Addr} {fd : FuncData} (F : Fun K "joined" "Box.joined" s_Box_joined f fd) (B : BoxC K mg C) (T_either : Cal P w K mg base 1 "either" spEither []) (T_Box : Mak P w K mg base 4 "Box" C (spInit C) []) :
    FnR P w K mg base CX0 6 f (spJoinR C) := by
  obtain ⟨oc, od, kV, doc, pm, an, cdv, ct, osl, rfl, lk, hcd⟩ := F.ex
  refine StX.fn_star (ps := []) (pv := "boxes") lk hcd sc_Box_joined StX.cxUp_none (fun us rest hu => ?_) fun A outer s H vs Q E hr h => ?_
  · match us, hu, rest with
    | [], _, [] => rfl
    | [], _, r :: rs => rfl
  · obtain ⟨p, bs, zs, rfl, hp, hl, hb, k⟩ := h
    refine ⟨_, PSs.nox (pss_cons (ps_set (i := 1) sc_Box_joined.nd rfl (Or.inl rfl) pe_str)
(pss_cons (ps_for PassesOwn.never rfl (pi_tup (pv 0)) (pg_name (i := 2) sc_Box_joined.nd rfl (Or.inl rfl))
(pss_one (ps_set (i := 1) sc_Box_joined.nd rfl (Or.inl rfl) (pe_c T_either hr (by decide) (by rfl) (pa_cons (pv 1) (pa_cons (pe_fld (pv 2) rfl) pa_nil))))))
(pss_one (ps_ret (pe_mk T_Box hr (by decide) (by rfl) (pa_cons (pv 1) pa_nil)))))), ?_⟩
    have lz : zs.length = bs.length := hb.1.symm
    refine ⟨_, rfl, p, rfl, ⟨_, SqT.of hp⟩, for_it (walk_tup (xs := bs.map V.ref)) (fun i σ H' => ∃ v, σ = [some (.ref p), some (.str (sb fun c => (zs.take i).any fun z => mem z c)), v] ∧ Same H H')
      ⟨none, by rw [List.take_zero, join_none]; rfl, Same.refl H⟩ (fun i σ H' _ ⟨v, _, s1⟩ => SqT.of (s1 _ _ hp)) ?_ ?_⟩
    · rintro i x σ H1 H1' hi ⟨v, rfl, s1⟩ ⟨rfl, hx⟩
      obtain ⟨b, hbi, rfl⟩ := map_from hx
      have hi' : i < bs.length := (List.getElem?_eq_some_iff.mp hbi).1
      have hz : zs[i]? = some zs[i] := List.getElem?_eq_getElem (by omega)
      have h1 := (hb.2 i b _ hbi hz).same s1
      obtain ⟨dx, e⟩ := h1
      refine ⟨_, rfl, _, rfl, b, C, dx, _, _, rfl, e, B.cl, B.nC, boxF_lk _, _, _, rfl, fun H2 s2 => ⟨some (.ref b), ?_, s1.trans s2⟩⟩
      rw [join_step hz]
      rfl
    · rintro σ H1 ⟨v, rfl, s1⟩
      rw [List.length_map, List.take_of_length_le (by omega)]
      exact ⟨_, rfl, fun x d nx nd nxd => ⟨x, d, _, rfl, upd_same, isC_sb _, fun H2 b2 h2 => ⟨rfl, k H2 x (s1.trans (same_made nx nd b2)) (s1.free nx) h2⟩⟩⟩
theorem ok_or {f C : Addr} {fd : FuncData} (F : Fun K "__or__" "Box.__or__" s_Box__or f fd) (B : BoxC K mg C) (T_either : Cal P w K mg base 1 "either" spEither []) (T_Box : Mak P w K mg base 4 "Box" C (spInit C) []) :
    FnOk P w K mg base CX0 6 f fd ["self", "other"] (spSign C or) := by
  refine F.ok sc_Box__or (fun vs H Q E h => ?_) (fun cdv A outer s H vs Q E hr h => ?_)
  · obtain ⟨a, b, y, z, rfl, _⟩ := h
    rfl
  · obtain ⟨a, b, y, z, rfl, ⟨dx, ha⟩, ⟨dy, hb⟩, hy, hz, k⟩ := h
    refine ⟨_, (pss_one (ps_ret (pe_mk T_Box hr (by decide) (by rfl) (pa_cons (pe_c T_either hr (by decide) (by rfl) (pa_cons (pe_fld (pv 0) rfl) (pa_cons (pe_fld (pv 1) rfl) pa_nil))) pa_nil)))), ?_⟩
    refine ⟨_, rfl, a, C, dx, _, _, rfl, ha, B.cl, B.nC, boxF_lk y, _, rfl, b, C, dy, _, _, rfl, hb, B.cl, B.nC, boxF_lk z, y, z, rfl, fun H1 s1 => ?_⟩
    intro x dz nx nd nxd
    refine ⟨x, dz, _, rfl, upd_same, isC_sb _, fun H2 b2 hx => ⟨rfl, ?_⟩⟩
    have sm : Same H H2 := fun c o e => by
      have e1 := s1 _ _ e
      have n1 : c ≠ x := ne_of_none e1 nx
      refine b2 c o n1 ?_
      rw [upd_ne n1, upd_ne (ne_of_none e1 nd)]
      exact e1
    refine k H2 x sm (s1.free nx) ?_
    exact hx
theorem ok_and {f C : Addr} {fd : FuncData} (F : Fun K "__and__" "Box.__and__" s_Box__and f fd) (B : BoxC K mg C) (T_both : Cal P w K mg base 1 "both" spBoth []) (T_Box : Mak P w K mg base 4 "Box" C (spInit C) []) :
    FnOk P w K mg base CX0 6 f fd ["self", "other"] (spSign C and) := by
  refine F.ok sc_Box__and (fun vs H Q E h => ?_) (fun cdv A outer s H vs Q E hr h => ?_)
  · obtain ⟨a, b, y, z, rfl, _⟩ := h
    rfl
  · obtain ⟨a, b, y, z, rfl, ⟨dx, ha⟩, ⟨dy, hb⟩, hy, hz, k⟩ := h
    refine ⟨_, (pss_one (ps_ret (pe_mk T_Box hr (by decide) (by rfl) (pa_cons (pe_c T_both hr (by decide) (by rfl) (pa_cons (pe_fld (pv 0) rfl) (pa_cons (pe_fld (pv 1) rfl) pa_nil))) pa_nil)))), ?_⟩
    refine ⟨_, rfl, a, C, dx, _, _, rfl, ha, B.cl, B.nC, boxF_lk y, _, rfl, b, C, dy, _, _, rfl, hb, B.cl, B.nC, boxF_lk z, y, z, rfl, Nat.le_trans hy.len (by decide), fun H1 s1 => ?_⟩
    intro x dz nx nd nxd
    refine ⟨x, dz, _, rfl, upd_same, (by rw [hy.filt]; exact isC_sb _), fun H2 b2 hx => ⟨rfl, ?_⟩⟩
    have sm : Same H H2 := fun c o e => by
      have e1 := s1 _ _ e
      have n1 : c ≠ x := ne_of_none e1 nx
      refine b2 c o n1 ?_
      rw [upd_ne n1, upd_ne (ne_of_none e1 nd)]
      exact e1
    refine k H2 x sm (s1.free nx) ?_
    rw [hy.filt] at hx
    exact hx
theorem ok_sub {f C : Addr} {fd : FuncData} (F : Fun K "__sub__" "Box.__sub__" s_Box__sub f fd) (B : BoxC K mg C) (T_without : Cal P w K mg base 1 "without" spWithout []) (T_Box : Mak P w K mg base 4 "Box" C (spInit C) []) :
    FnOk P w K mg base CX0 6 f fd ["self", "other"] (spSign C (fun p q => p && !q)) := by
  refine F.ok sc_Box__sub (fun vs H Q E h => ?_) (fun cdv A outer s H vs Q E hr h => ?_)
  · obtain ⟨a, b, y, z, rfl, _⟩ := h
    rfl
  · obtain ⟨a, b, y, z, rfl, ⟨dx, ha⟩, ⟨dy, hb⟩, hy, hz, k⟩ := h
    refine ⟨_, (pss_one (ps_ret (pe_mk T_Box hr (by decide) (by rfl) (pa_cons (pe_c T_without hr (by decide) (by rfl) (pa_cons (pe_fld (pv 0) rfl) (pa_cons (pe_fld (pv 1) rfl) pa_nil))) pa_nil)))), ?_⟩
    refine ⟨_, rfl, a, C, dx, _, _, rfl, ha, B.cl, B.nC, boxF_lk y, _, rfl, b, C, dy, _, _, rfl, hb, B.cl, B.nC, boxF_lk z, y, z, rfl, Nat.le_trans hy.len (by decide), fun H1 s1 => ?_⟩
    intro x dz nx nd nxd
    refine ⟨x, dz, _, rfl, upd_same, (by rw [hy.filt]; exact isC_sb _), fun H2 b2 hx => ⟨rfl, ?_⟩⟩
    have sm : Same H H2 := fun c o e => by
      have e1 := s1 _ _ e
      have n1 : c ≠ x := ne_of_none e1 nx
      refine b2 c o n1 ?_
      rw [upd_ne n1, upd_ne (ne_of_none e1 nd)]
      exact e1
    refine k H2 x sm (s1.free nx) ?_
    rw [hy.filt] at hx
    exact hx
theorem ok_xor {f C : Addr} {fd : FuncData} (F : Fun K "__xor__" "Box.__xor__" s_Box__xor f fd) (B : BoxC K mg C) (T_exactly_one : Cal P w K mg base 2 "exactly_one" spExactly []) (T_Box : Mak P w K mg base 4 "Box" C (spInit C) []) :
    FnOk P w K mg base CX0 6 f fd ["self", "other"] (spSign C (fun p q => p != q)) := by
  refine F.ok sc_Box__xor (fun vs H Q E h => ?_) (fun cdv A outer s H vs Q E hr h => ?_)
  · obtain ⟨a, b, y, z, rfl, _⟩ := h
    rfl
  · obtain ⟨a, b, y, z, rfl, ⟨dx, ha⟩, ⟨dy, hb⟩, hy, hz, k⟩ := h
    refine ⟨_, (pss_one (ps_ret (pe_mk T_Box hr (by decide) (by rfl) (pa_cons (pe_c T_exactly_one hr (by decide) (by rfl) (pa_cons (pe_fld (pv 0) rfl) (pa_cons (pe_fld (pv 1) rfl) pa_nil))) pa_nil)))), ?_⟩
    refine ⟨_, rfl, a, C, dx, _, _, rfl, ha, B.cl, B.nC, boxF_lk y, _, rfl, b, C, dy, _, _, rfl, hb, B.cl, B.nC, boxF_lk z, y, z, rfl, hy, hz, fun H1 s1 => ?_⟩
    intro x dz nx nd nxd
    refine ⟨x, dz, _, rfl, upd_same, isC_sb _, fun H2 b2 hx => ⟨rfl, ?_⟩⟩
    have sm : Same H H2 := fun c o e => by
      have e1 := s1 _ _ e
      have n1 : c ≠ x := ne_of_none e1 nx
      refine b2 c o n1 ?_
      rw [upd_ne n1, upd_ne (ne_of_none e1 nd)]
      exact e1
    refine k H2 x sm (s1.free nx) ?_
    exact hx
theorem ok_ior {f C : Addr} {fd : FuncData} (F : Fun K "__ior__" "Box.__ior__" s_Box__ior f fd) (B : BoxC K mg C) (T_either : Cal P w K mg base 1 "either" spEither []) :
    FnOk P w K mg base CX0 4 f fd ["self", "other"] (spISign C or) := by
  refine F.ok sc_Box__ior (fun vs H Q E h => ?_) (fun cdv A outer s H vs Q E hr h => ?_)
  · obtain ⟨a, b, y, z, rfl, _⟩ := h
    rfl
  · obtain ⟨a, b, y, z, rfl, ⟨dx, ha⟩, ⟨dy, hb⟩, hy, hz, k⟩ := h
    refine ⟨_, (pss_cons (ps_fld (pv 0) (pe_c T_either hr (by decide) (by rfl) (pa_cons (pe_fld (pv 0) rfl) (pa_cons (pe_fld (pv 1) rfl) pa_nil))) rfl)
(pss_one (ps_ret (pv 0)))), ?_⟩
    refine ⟨_, rfl, a, C, dx, _, _, rfl, ha, B.cl, B.nC, boxF_lk y, _, rfl, b, C, dy, _, _, rfl, hb, B.cl, B.nC, boxF_lk z, y, z, rfl, fun H1 s1 => ?_⟩
    refine ⟨_, rfl, a, C, dx, _, rfl, s1 _ _ ha, B.cl, B.nC, by show 1 < 1000; decide, _, rfl, ?_⟩
    rw [boxF_put]
    refine k _ (fun b o n e => ?_) ⟨dx, ?_⟩
    · rw [upd_ne n]
      exact s1 _ _ e
    · exact upd_same
theorem ok_iand {f C : Addr} {fd : FuncData} (F : Fun K "__iand__" "Box.__iand__" s_Box__iand f fd) (B : BoxC K mg C) (T_both : Cal P w K mg base 1 "both" spBoth []) :
    FnOk P w K mg base CX0 4 f fd ["self", "other"] (spISign C and) := by
  refine F.ok sc_Box__iand (fun vs H Q E h => ?_) (fun cdv A outer s H vs Q E hr h => ?_)
  · obtain ⟨a, b, y, z, rfl, _⟩ := h
    rfl
  · obtain ⟨a, b, y, z, rfl, ⟨dx, ha⟩, ⟨dy, hb⟩, hy, hz, k⟩ := h
    refine ⟨_, (pss_cons (ps_fld (pv 0) (pe_c T_both hr (by decide) (by rfl) (pa_cons (pe_fld (pv 0) rfl) (pa_cons (pe_fld (pv 1) rfl) pa_nil))) rfl)
(pss_one (ps_ret (pv 0)))), ?_⟩
    refine ⟨_, rfl, a, C, dx, _, _, rfl, ha, B.cl, B.nC, boxF_lk y, _, rfl, b, C, dy, _, _, rfl, hb, B.cl, B.nC, boxF_lk z, y, z, rfl, Nat.le_trans hy.len (by decide), fun H1 s1 => ?_⟩
    refine ⟨_, rfl, a, C, dx, _, rfl, s1 _ _ ha, B.cl, B.nC, by show 1 < 1000; decide, _, rfl, ?_⟩
    rw [boxF_put]
    refine k _ (fun b o n e => ?_) ⟨dx, ?_⟩
    · rw [upd_ne n]
      exact s1 _ _ e
    · rw [hy.filt]
      exact upd_same
theorem ok_isub {f C : Addr} {fd : FuncData} (F : Fun K "__isub__" "Box.__isub__" s_Box__isub f fd) (B : BoxC K mg C) (T_without : Cal P w K mg base 1 "without" spWithout []) :
    FnOk P w K mg base CX0 4 f fd ["self", "other"] (spISign C (fun p q => p && !q)) := by
  refine F.ok sc_Box__isub (fun vs H Q E h => ?_) (fun cdv A outer s H vs Q E hr h => ?_)
  · obtain ⟨a, b, y, z, rfl, _⟩ := h
    rfl
  · obtain ⟨a, b, y, z, rfl, ⟨dx, ha⟩, ⟨dy, hb⟩, hy, hz, k⟩ := h
    refine ⟨_, (pss_cons (ps_fld (pv 0) (pe_c T_without hr (by decide) (by rfl) (pa_cons (pe_fld (pv 0) rfl) (pa_cons (pe_fld (pv 1) rfl) pa_nil))) rfl)
(pss_one (ps_ret (pv 0)))), ?_⟩
    refine ⟨_, rfl, a, C, dx, _, _, rfl, ha, B.cl, B.nC, boxF_lk y, _, rfl, b, C, dy, _, _, rfl, hb, B.cl, B.nC, boxF_lk z, y, z, rfl, Nat.le_trans hy.len (by decide), fun H1 s1 => ?_⟩
    refine ⟨_, rfl, a, C, dx, _, rfl, s1 _ _ ha, B.cl, B.nC, by show 1 < 1000; decide, _, rfl, ?_⟩
    rw [boxF_put]
    refine k _ (fun b o n e => ?_) ⟨dx, ?_⟩
    · rw [upd_ne n]
      exact s1 _ _ e
    · rw [hy.filt]
      exact upd_same
theorem ok_ixor {f C : Addr} {fd : FuncData} (F : Fun K "__ixor__" "Box.__ixor__" s_Box__ixor f fd) (B : BoxC K mg C) (T_exactly_one : Cal P w K mg base 2 "exactly_one" spExactly []) :
    FnOk P w K mg base CX0 4 f fd ["self", "other"] (spISign C (fun p q => p != q)) := by
  refine F.ok sc_Box__ixor (fun vs H Q E h => ?_) (fun cdv A outer s H vs Q E hr h => ?_)
  · obtain ⟨a, b, y, z, rfl, _⟩ := h
    rfl
  · obtain ⟨a, b, y, z, rfl, ⟨dx, ha⟩, ⟨dy, hb⟩, hy, hz, k⟩ := h
    refine ⟨_, (pss_cons (ps_fld (pv 0) (pe_c T_exactly_one hr (by decide) (by rfl) (pa_cons (pe_fld (pv 0) rfl) (pa_cons (pe_fld (pv 1) rfl) pa_nil))) rfl)
(pss_one (ps_ret (pv 0)))), ?_⟩
    refine ⟨_, rfl, a, C, dx, _, _, rfl, ha, B.cl, B.nC, boxF_lk y, _, rfl, b, C, dy, _, _, rfl, hb, B.cl, B.nC, boxF_lk z, y, z, rfl, hy, hz, fun H1 s1 => ?_⟩
    refine ⟨_, rfl, a, C, dx, _, rfl, s1 _ _ ha, B.cl, B.nC, by show 1 < 1000; decide, _, rfl, ?_⟩
    rw [boxF_put]
    refine k _ (fun b o n e => ?_) ⟨dx, ?_⟩
    · rw [upd_ne n]
      exact s1 _ _ e
    · exact upd_same
theorem ok_due {f : Addr} {fd : FuncData} (F : Fun K "_law_due" "_law_due" s_due f fd) (T : Top K mg) : FnOk P w K mg base CX0 1 f fd ["_law_sign", "_law_one", "_law_other", "_law_marks_here"] spDueM := by
  refine F.ok sc_due (fun vs H Q E h => ?_) (fun cdv A outer s H vs Q E hr h => ?_)
  · obtain ⟨s, a, b, l, ms, rfl, _⟩ := h
    rfl
  · obtain ⟨s, a, b, l, ms, rfl, hs, hl, hn, k⟩ := h
    refine ⟨_, (pss_cons (ps_set (i := 4) sc_due.nd rfl (Or.inl rfl) pe_str)
(pss_cons (ps_for PassesOwn.never rfl (pi_list (pv 3)) (pg_name (i := 5) sc_due.nd rfl (Or.inl rfl))
(pss_cons (ps_set (i := 6) sc_due.nd rfl (Or.inl rfl) (pe_op op_add (pe_callTy call_int1 (by rfl) T.z_int (by decide +kernel) (pa_cons (pe_cmpR op_in_sign (pv 5) (pv 1) rfl) pa_nil)) (pe_callTy call_int1 (by rfl) T.z_int (by decide +kernel) (pa_cons (pe_cmpR op_in_sign (pv 5) (pv 2) rfl) pa_nil))))
(pss_cons (ps_if (PW.pt (pw_or (PW.pt (pw_and (pt_cmpR op_eq (pv 0) pe_int (nomark _)) (pw_and1 (pt_cmpR op_gt (pv 6) pe_int (nomark _))))) (pw_or (PW.pt (pw_and (pt_cmpR op_eq (pv 0) pe_int (nomark _)) (pw_and1 (pt_cmpR op_eq (pv 6) pe_int (nomark _))))) (pw_or1 (PW.pt (pw_and (pt_cmpR op_eq (pv 0) pe_int (nomark _)) (pw_and1 (pt_cmpR op_eq (pv 6) pe_int (nomark _)))))))))
(pss_one (ps_set (i := 4) sc_due.nd rfl (Or.inl rfl) (pe_op op_add_str (pv 4) (pv 5))))
pss_nil)
(pss_one (ps_if (PW.pt (pw_and (pt_cmpR op_eq (pv 0) pe_int (nomark _)) (pw_and (pt_cmpR op_in_sign (pv 5) (pv 1) rfl) (pw_and1 (pt_cmpR op_notIn_sign (pv 5) (pv 2) rfl)))))
(pss_one (ps_set (i := 4) sc_due.nd rfl (Or.inl rfl) (pe_op op_add_str (pv 4) (pv 5))))
pss_nil)))))
(pss_one (ps_ret (pv 4))))), ?_⟩
    refine ⟨_, rfl, l, rfl, ⟨_, SqL.of hl⟩, for_it (walk_list (xs := ms.map sg)) (fun i σ H' => ∃ v m, σ = [some (.int (s : Nat)), some (.str a), some (.str b), some (.ref l), some (.str (S ((ms.take i).filter fun c => gn s (mem a c) (mem b c)))), v, m] ∧ H' = H)
      ⟨none, none, rfl, rfl⟩ (fun _ _ _ _ ⟨_, _, _, h⟩ => by rw [h]; exact SqL.of hl) ?_ ?_⟩
    · rintro i x σ H2 H' hi ⟨v, m, rfl, rfl⟩ ⟨rfl, hx⟩
      obtain ⟨c, hc, rfl⟩ := map_from hx
      obtain ⟨e1, e2⟩ := due_boolN hs (mem a c) (mem b c)
      have st : (ms.take (i + 1)).filter (fun c => gn s (mem a c) (mem b c)) = (ms.take i).filter (fun c => gn s (mem a c) (mem b c)) ++ (if gn s (mem a c) (mem b c) then [c] else []) := by
        rw [List.take_add_one, hc]
        show (ms.take i ++ [c]).filter _ = _
        rw [List.filter_append]
        cases hg : gn s (mem a c) (mem b c) with
        | true => rw [List.filter_cons_of_pos (p := fun c => gn s (mem a c) (mem b c)) hg, if_pos rfl, List.filter_nil]
        | false => rw [List.filter_cons_of_neg (p := fun c => gn s (mem a c) (mem b c)) (by rw [hg]; exact Bool.false_ne_true), if_neg Bool.false_ne_true, List.filter_nil]
      have hm : ((ms.take i).filter fun c => gn s (mem a c) (mem b c)).length ≤ 52 := Nat.le_trans (List.length_filter_le _ _) (Nat.le_trans (by rw [List.length_take]; exact Nat.min_le_right _ _) hn)
      refine ⟨_, rfl, _, rfl, c, a, rfl, rfl, .inr ⟨_, rfl, _, rfl, _, rfl, c, b, rfl, rfl, .inr ⟨_, rfl, _, _, rfl, rfl, ?_⟩⟩⟩
      dsimp only [gName]
      refine st_seq ?_
      refine st_if (b := gn s (mem a c) (mem b c) && !decide (s = 2)) ?_ ?_
      · rw [← e1]
        refine ans_orB (ans_and2 ?_ ?_) (ans_orB (ans_and2 ?_ ?_) (ans_and2 ?_ ?_))
        · exact ans_eq (val_var rfl) val_c rfl rfl
        · exact ans_cmp (val_var rfl) val_c fun Q q => ⟨_, _, rfl, rfl, q⟩
        · exact ans_eq (val_var rfl) val_c rfl rfl
        · exact ans_eq (val_var rfl) val_c rfl rfl
        · exact ans_eq (val_var rfl) val_c rfl rfl
        · exact ans_eq (val_var rfl) val_c rfl rfl
      have fin : ∀ (σ' : L2.St), σ' = [some (.int (s : Nat)), some (.str a), some (.str b), some (.ref l), some (.str (S ((ms.take (i + 1)).filter fun c => gn s (mem a c) (mem b c)))), some (sg c), some (.int ((if mem a c then 1 else 0) + (if mem b c then 1 else 0)))] →
          ∃ v m, σ' = [some (.int (s : Nat)), some (.str a), some (.str b), some (.ref l), some (.str (S ((ms.take (i + 1)).filter fun c => gn s (mem a c) (mem b c)))), v, m] ∧ H' = H' := fun _ e => ⟨_, _, e, rfl⟩
      have cat : ∀ l : List Nat, S l ++ (⟨#[c]⟩ : Str) = S (l ++ [c]) := fun l => SX.S_cat l [c]
      have size : (S ((ms.take i).filter fun c => gn s (mem a c) (mem b c))).length + (⟨#[c]⟩ : Str).length ≤ sizeLine := by
        rw [SX.S_len]
        exact Nat.le_trans (Nat.add_le_add hm (Nat.le_refl 1)) (by decide)
      refine ite_b (fun h1 => ?_) (fun h1 => ?_)
      · refine ⟨_, rfl, _, rfl, _, _, rfl, rfl, size, ?_⟩
        dsimp only [gName, tNext]
        refine st_if (b := gn s (mem a c) (mem b c) && decide (s = 2)) ?_ ?_
        · rw [← e2]
          refine ans_and2 ?_ (ans_and2 ?_ ?_)
          · exact ans_eq (val_var rfl) val_c rfl rfl
          · exact ans_cmp (val_var rfl) (val_var rfl) fun Q q => ⟨c, a, rfl, rfl, q⟩
          · exact ans_cmp (val_var rfl) (val_var rfl) fun Q q => ⟨c, b, rfl, rfl, q⟩
        have g1 : gn s (mem a c) (mem b c) = true := by
          cases h : gn s (mem a c) (mem b c) <;> rw [h] at h1 <;> simp at h1 ⊢
        have g2 : decide (s = 2) = false := by
          cases h : decide (s = 2) <;> rw [g1, h] at h1 <;> simp at h1 ⊢
        rw [g1, g2]
        refine iteF (fin _ ?_)
        rw [st, g1, if_pos rfl, ← cat]
        rfl
      · dsimp only [gName, tNext]
        refine st_if (b := gn s (mem a c) (mem b c) && decide (s = 2)) ?_ ?_
        · rw [← e2]
          refine ans_and2 ?_ (ans_and2 ?_ ?_)
          · exact ans_eq (val_var rfl) val_c rfl rfl
          · exact ans_cmp (val_var rfl) (val_var rfl) fun Q q => ⟨c, a, rfl, rfl, q⟩
          · exact ans_cmp (val_var rfl) (val_var rfl) fun Q q => ⟨c, b, rfl, rfl, q⟩
        refine ite_b (fun h2 => ?_) (fun h2 => ?_)
        · refine ⟨_, rfl, _, rfl, _, _, rfl, rfl, size, fin _ ?_⟩
          have g1 : gn s (mem a c) (mem b c) = true := by
            cases h : gn s (mem a c) (mem b c) <;> rw [h] at h2 <;> simp at h2 ⊢
          rw [st, g1, if_pos rfl, ← cat]
          rfl
        · refine fin _ ?_
          have g1 : gn s (mem a c) (mem b c) = false := by
            cases h : gn s (mem a c) (mem b c) <;> cases h3 : decide (s = 2) <;> rw [h, h3] at h1 h2 <;> simp at h1 h2 ⊢
          rw [st, g1, if_neg Bool.false_ne_true, List.append_nil]
          rfl
    · rintro σ H' ⟨v, m, rfl, rfl⟩
      refine ⟨_, rfl, ?_⟩
      rw [List.take_of_length_le (by rw [List.length_map]; exact Nat.le_refl _)]
      exact k
theorem ok_marks {f : Addr} {fd : FuncData} (F : Fun K "_law_marks" "_law_marks" s_marks f fd) (T : Top K mg) (T_take : Cal P w K mg base 1 "_law_take" spTake []) : FnOk P w K mg base CX0 2 f fd ["_law_bag_here"] spMarks := by
  refine F.ok sc_marks (fun vs H Q E h => ?_) (fun cdv A outer s H vs Q E hr h => ?_)
  · obtain ⟨p, q, rfl, _⟩ := h
    rfl
  · obtain ⟨p, q, rfl, hB, k⟩ := h
    refine ⟨_, (pss_cons (ps_set (i := 1) sc_marks.nd rfl (Or.inr rfl) pe_str)
(pss_cons (ps_set (i := 2) sc_marks.nd rfl (Or.inr rfl) (pe_lc (own := [("_law_k", 3)]) rfl sc_marks.nd (pi_range1 rfl T.z_range (pa_cons pe_int pa_nil)) (blkOk_by (own := [("_law_k", 3)]) (N := n_marks) (sc := defScope s_marks) (by decide +kernel)) (fun _ _ _ _ _ => (pg_name (i := 3) sc_marks.nd rfl (Or.inl rfl))) (fun _ _ _ _ _ => pts_nil) (fun _ _ _ _ _ => (pe_ix ix_str (pv 1) (pe_c T_take hr (by decide) (by rfl) (pa_cons (pv 0) (pa_cons pe_int pa_nil))) (fun _ _ => rfl)))))
(pss_one (ps_ret (pe_lc (own := [("_law_mark", 4)]) rfl sc_marks.nd (pi_str (pv 1)) (blkOk_by (own := [("_law_mark", 4)]) (N := n_marks) (sc := defScope s_marks) (by decide +kernel)) (fun _ _ _ _ _ => (pg_name (i := 4) sc_marks.nd rfl (Or.inl rfl))) (fun _ _ _ _ _ => (pts_one (show PT _ _ (tTest (tOp (rIn K false) (tVar 4) (tVar 2))) from (pt_cmpR op_in_seq (pv 4) (pv 2) rfl)))) (fun _ _ _ _ _ => (pv 4))))))), ?_⟩
    refine ⟨_, rfl, by decide, by decide, fun fl hfl => lc_it walk_range (fun j H' => ∃ cs : List Nat, cs.length = j ∧ H' fl = some (.lst (cs.map sg)) ∧ BagAt H' p q ∧ Bar p H H') ?_ (fun _ _ _ _ => trivial) ?_ ?_⟩
    · exact ⟨[], rfl, upd_same, hB.same (same_new hfl), bar_new hfl⟩
    · rintro j x H1 H1' hj ⟨cs, hcs, hF, hB1, b1⟩ ⟨rfl, rfl⟩
      have nfp : fl ≠ p := hB.there hfl
      have hj6 : j < 6 := hj
      refine ⟨rfl, lc_yes ⟨_, rfl, _, rfl, p, q, 52, rfl, hB1, by decide, by decide, fun H2 d b2 hB2 d0 d1 => ?_⟩⟩
      obtain ⟨k1, rfl⟩ := Int.eq_ofNat_of_zero_le d0
      have hk1 : k1 < mk.length := by
        rw [mk_len]
        omega
      refine ⟨_, (k1 : Int), mk[k1], rfl, rfl, by decide +kernel, by rw [letters]; exact atI_nat (List.getElem?_eq_getElem hk1), _, b2 _ _ nfp hF, ?_, cs ++ [mk[k1]], ?_, ?_, ?_, ?_⟩
      · rw [List.length_map, hcs]
        exact small1000 (by omega)
      · rw [List.length_append, hcs]
        rfl
      · rw [upd_same, List.map_append]
        rfl
      · exact hB2.bar bar_upd nfp.symm (hB.there2 hfl).symm
      · exact fun b o n e => by
          have e2 := b2 b o n (b1 b o n e)
          rw [upd_ne (ne_of_none e hfl)]
          exact e2
    rintro H1 ⟨cs, hcs, hF, hB1, b1⟩
    refine ⟨_, rfl, _, rfl, fun ml hml => lc_it walk_str (fun i H' => H' = upd H1 ml (.lst (filt mk (fun c => inV (sg c) (cs.map sg)) i))) rfl (fun _ _ _ _ => trivial) ?_ ?_⟩
    · rintro i x H2 H' hi rfl ⟨rfl, c, hc, rfl⟩
      have hc := mk_at hc
      have hl : (filt mk (fun c => inV (sg c) (cs.map sg)) i).length < sizeLine := Nat.lt_of_le_of_lt filt_len (by rw [mk_len]; decide)
      have fl2 : (cs.map sg).all flatV = true := by
        rw [List.all_map]
        exact List.all_eq_true.mpr fun _ _ => rfl
      refine ⟨rfl, _, rfl, _, rfl, fl, _, rfl, .inl (SqL.of (same_new hml _ _ hF)), rfl, fl2, _, rfl, ?_⟩
      refine ite_b (fun h2 => ?_) (fun h2 => ?_)
      · refine ⟨_, rfl, _, upd_same, hl, ?_⟩
        rw [upd_upd, filt_yes (t := fun c => inV (sg c) (cs.map sg)) hc h2]
        rfl
      · rw [filt_no hc (t := fun c => inV (sg c) (cs.map sg)) h2]
    · rintro H' rfl
      rw [filt_end (by rw [mk_len, mk_size]; exact Nat.le_refl _)]
      have nf : H ml = none := by
        cases q2 : H ml with
        | none => rfl
        | some o =>
          by_cases c : ml = p
          · exact absurd c (hB1.there hml)
          · rw [b1 ml o c q2] at hml
            cases hml
      exact k _ ml (mk.filter fun c => inV (sg c) (cs.map sg)) (b1.trans (bar_new hml)) (hB1.same (same_new hml)) nf upd_same List.filter_sublist (Nat.le_trans (List.length_filter_le _ _) (by rw [mk_len]; exact Nat.le_refl _))
theorem ok_contM {f : Addr} {fd : FuncData} (F : Fun K "_law_contents" "_law_contents" s_contents f fd) (T : Top K mg) (T_take : Cal P w K mg base 1 "_law_take" spTake []) : FnOk P w K mg base CX0 2 f fd ["_law_bag_here", "_law_marks_here"] spContM := by
  refine F.ok sc_contents (fun vs H Q E h => ?_) (fun cdv A outer s H vs Q E hr h => ?_)
  · obtain ⟨p, q, l, ms, rfl, _⟩ := h
    rfl
  · obtain ⟨p, q, l, ms, rfl, hB, hl, hsub, nlp, k⟩ := h
    have hn : ms.length ≤ 52 := Nat.le_trans hsub.length_le (by rw [mk_len]; exact Nat.le_refl _)
    refine ⟨_, (pss_cons (ps_par (i := 2) (j := 3) rfl sc_contents.nd rfl rfl (by decide) rfl rfl (by exact (pa_cons (pe_op op_add pe_int (pe_c T_take hr (by decide) (by rfl) (pa_cons (pv 0) (pa_cons pe_int pa_nil)))) (pa_cons pe_str pa_nil))) rfl)
(pss_cons (ps_for PassesOwn.never rfl (pi_list (pv 1)) (pg_name (i := 4) sc_contents.nd rfl (Or.inl rfl))
(pss_one (ps_if (pt_cmpR op_eq (pe_c T_take hr (by decide) (by rfl) (pa_cons (pv 0) (pa_cons (pv 2) pa_nil))) pe_int (nomark _))
(pss_one (ps_set (i := 3) sc_contents.nd rfl (Or.inl rfl) (pe_op op_add_str (pv 3) (pv 4))))
pss_nil)))
(pss_one (ps_ret (pv 3))))), ?_⟩
    refine ⟨_, rfl, p, q, 4, rfl, hB, by decide, by decide, fun H1 d b1 hB1 d0 d1 => ⟨_, _, rfl, rfl, _, _, rfl, ?_⟩⟩
    have hl1 := b1 _ _ nlp hl
    refine ⟨_, rfl, l, rfl, ⟨_, SqL.of hl1⟩, for_it (walk_list (xs := ms.map sg)) (fun i σ H' => ∃ zs v, σ = [some (.ref p), some (.ref l), some (.int (1 + d)), some (.str (S zs)), v] ∧ zs.Sublist (ms.take i) ∧ BagAt H' p q ∧ H' l = some (.lst (ms.map sg)) ∧ Bar p H H')
      ⟨[], none, rfl, List.nil_sublist _, hB1, hl1, b1⟩ (fun _ _ _ _ ⟨_, _, _, _, _, h, _⟩ => SqL.of h) ?_ ?_⟩
    · rintro i x σ H2 H2' hi ⟨zs, v, rfl, hs, hB2, hl2, b2⟩ ⟨rfl, hx⟩
      obtain ⟨c, hc, rfl⟩ := map_from hx
      have st := take_snoc hc
      have hm : zs.length ≤ 52 := Nat.le_trans hs.length_le (Nat.le_trans (by rw [List.length_take]; exact Nat.min_le_right _ _) hn)
      refine ⟨_, rfl, _, rfl, p, q, 1 + d, rfl, hB2, by omega, Int.lt_trans (by omega : 1 + d < 100) (by decide), fun H3 e b3 hB3 e0 e1 => ⟨rfl, _, rfl, ?_⟩⟩
      have hl3 := b3 _ _ nlp hl2
      refine ite_b (fun _ => ?_) (fun _ => ?_)
      · refine ⟨_, rfl, _, rfl, _, _, rfl, rfl, ?_, zs ++ [c], some (sg c), ?_, ?_, hB3, hl3, b2.trans b3⟩
        · rw [SX.S_len]
          exact Nat.le_trans (Nat.add_le_add hm (Nat.le_refl 1)) (by decide)
        · rw [show S zs ++ (⟨#[c]⟩ : Str) = S (zs ++ [c]) from SX.S_cat zs [c]]
          rfl
        · rw [st]
          exact List.Sublist.append hs (List.Sublist.refl _)
      · refine ⟨zs, some (sg c), rfl, ?_, hB3, hl3, b2.trans b3⟩
        rw [st]
        exact hs.trans (List.sublist_append_left _ _)
    · rintro σ H2 ⟨zs, v, rfl, hs, hB2, hl2, b2⟩
      have hs2 : zs.Sublist ms := hs.trans (List.take_sublist _ _)
      exact ⟨_, rfl, k _ _ b2 hB2 ⟨fun c => decide (c ∈ zs), congrArg S (sub_filter hs2 (mk_nodup.sublist hsub))⟩⟩
theorem ok_refused {f C CB : Addr} {fd : FuncData} (F : Fun K "_law_is_refused" "_law_is_refused" s_is_refused f fd) (BB : BadC P w K mg base CB) (T_becomeX : MetX P w K mg base 4 C "become" (spBecomeX K C CB) "contents") :
    FnOk P w K mg base CX0 5 f fd ["_law_box"] (spRefused C) := by
  refine F.ok sc_is_refused (fun vs H Q E h => ?_) (fun cdv A outer s H vs Q E hr h => ?_)
  · obtain ⟨a, y, rfl, _⟩ := h
    rfl
  · obtain ⟨a, y, rfl, hb, k⟩ := h
    refine ⟨_, (pss_cons (ps_try_as (i := 1) (tb := fun W => tDrop (tMethS C "become" (spBecomeX K C CB) (WE W) (tVar 0) (tCons (tC (.str "ba")) tNil))) (ts := fun a cls d => tRet (tOp rEq (tXf a cls d CB "contents" (tVar 1)) (tC (.str "ba")))) (Wout := fun _ _ _ _ => False)
      rfl rfl sc_is_refused.nd rfl rfl ⟨rfl, by decide, Or.inl BB.t.g⟩ takes0
      (fun W pn xe tk _ => pss_one (ps_expr (pe_mtS T_becomeX tk hr (by decide) (pv 0) (by exact (pa_cons pe_str pa_nil)))))
      (fun a oe cls d pn hz hf => pss_one (ps_ret (pe_cmpR op_eq (pe_xf BB.t.xf BB.t.no hz hf (pv 1)) pe_str (nomark _)))))
(pss_one (ps_ret pe_bl))), ?_⟩
    obtain ⟨dx, hb'⟩ := id hb
    have nc : conB (.str "ba") = false := by decide +kernel
    refine ⟨_, rfl, a, dx, _, rfl, hb', boxF_no _ (by decide +kernel), a, y, .str "ba", rfl, hb, .inl ⟨_, rfl, by decide +kernel⟩, fun z e hz => ?_, fun hc H1 d s1 hd hv => ?_⟩
    · cases e
      rw [conB_isC hz] at nc
      cases nc
    · refine ⟨true, BB.t.te, fun _ a0 _ => ⟨_, rfl, rfl, rfl, d, _, .str "ba", rfl, hv, by simp [List.lookup], rfl, ?_⟩, fun q => Bool.noConfusion q⟩
      rw [dec_str_same]
      exact k H1 s1
theorem ok_signedN {f C : Addr} {fd : FuncData} (F : Fun K "_law_signed" "_law_signed" s_signed f fd)
    (T_or : Sgn P w K mg base 6 C .BitOr (spSign C or)) (T_and : Sgn P w K mg base 6 C .BitAnd (spSign C and)) (T_sub : Sgn P w K mg base 6 C .Sub (spSign C fun p q => p && !q)) (T_xor : Sgn P w K mg base 6 C .BitXor (spSign C fun p q => p != q)) :
    FnOk P w K mg base CX0 7 f fd ["_law_sign", "_law_one", "_law_other"] (spSignedN C) := by
  refine F.ok sc_signed (fun vs H Q E h => ?_) (fun cdv A outer s H vs Q E hr h => ?_)
  · obtain ⟨s, a, b, y, z, rfl, _⟩ := h
    rfl
  · obtain ⟨s, a, b, y, z, rfl, hs, ha, hb, hy, hz, k⟩ := h
    refine ⟨_, (pss_cons (ps_if (pt_cmpR op_eq (pv 0) pe_int (nomark _))
(pss_one (ps_ret (pe_op (op_sgn T_or hr (by decide)) (pv 1) (pv 2))))
pss_nil)
(pss_cons (ps_if (pt_cmpR op_eq (pv 0) pe_int (nomark _))
(pss_one (ps_ret (pe_op (op_sgn T_and hr (by decide)) (pv 1) (pv 2))))
pss_nil)
(pss_cons (ps_if (pt_cmpR op_eq (pv 0) pe_int (nomark _))
(pss_one (ps_ret (pe_op (op_sgn T_sub hr (by decide)) (pv 1) (pv 2))))
pss_nil)
(pss_one (ps_ret (pe_op (op_sgn T_xor hr (by decide)) (pv 1) (pv 2))))))), ?_⟩
    obtain ⟨dx, ha'⟩ := id ha
    obtain ⟨dy, hb'⟩ := id hb
    have fin : ∀ (g : Bool → Bool → Bool) (Q' : VK), (∀ p q, gn s p q = g p q) → (∀ H' c, Same H H' → H c = none → BoxAt C H' c (sb fun m => gn s (mem y m) (mem z m)) → Q' (.ref c) H') → rSign C (spSign C g) E0 (.ref a) (.ref b) H Q' := fun g Q' e q =>
      ⟨a, b, dx, _, dy, _, rfl, rfl, ha', hb', a, b, y, z, rfl, ha, hb, hy, hz, fun H' c s1 nc hB => ⟨⟨c, rfl⟩, q H' c s1 nc (by
        have e2 : (fun m => gn s (mem y m) (mem z m)) = fun m => g (mem y m) (mem z m) := funext fun m => e _ _
        rw [e2]
        exact hB)⟩⟩
    match s, hs with
    | 0, _ => exact ⟨_, rfl, rfl, _, rfl, iteT ⟨_, rfl, _, rfl, fin or _ (by decide) k⟩⟩
    | 1, _ => exact ⟨_, rfl, rfl, _, rfl, iteF ⟨_, rfl, rfl, _, rfl, iteT ⟨_, rfl, _, rfl, fin and _ (by decide) k⟩⟩⟩
    | 2, _ => exact ⟨_, rfl, rfl, _, rfl, iteF ⟨_, rfl, rfl, _, rfl, iteF ⟨_, rfl, rfl, _, rfl, iteT ⟨_, rfl, _, rfl, fin (fun p q => p && !q) _ (by decide) k⟩⟩⟩⟩
    | 3, _ => exact ⟨_, rfl, rfl, _, rfl, iteF ⟨_, rfl, rfl, _, rfl, iteF ⟨_, rfl, rfl, _, rfl, iteF ⟨_, rfl, _, rfl, fin (fun p q => p != q) _ (by decide) k⟩⟩⟩⟩
theorem ok_changeN {f C : Addr} {fd : FuncData} (F : Fun K "_law_change" "_law_change" s_change f fd)
    (T_ior : ISgn P w K mg base 4 C .BitOr (spISign C or)) (T_iand : ISgn P w K mg base 4 C .BitAnd (spISign C and)) (T_isub : ISgn P w K mg base 4 C .Sub (spISign C fun p q => p && !q)) (T_ixor : ISgn P w K mg base 4 C .BitXor (spISign C fun p q => p != q)) :
    FnOk P w K mg base CX0 5 f fd ["_law_sign", "_law_boxes", "_law_k", "_law_other"] (spChangeN C) := by
  refine F.ok sc_change (fun vs H Q E h => ?_) (fun cdv A outer s H vs Q E hr h => ?_)
  · obtain ⟨s, r, a, b, k, xs, y, z, rfl, _⟩ := h
    rfl
  · obtain ⟨s, r, a, b, j, xs, y, z, rfl, hs, hl, hx, ha, hb, hy, hz, k⟩ := h
    refine ⟨_, (pss_one (ps_if (pt_cmpR op_eq (pv 0) pe_int (nomark _))
(pss_one (ps_augS (pv 1) (pv 2) get_list (pv 3) (ip_sgn T_ior hr (by decide)) set_list))
(pss_one (ps_if (pt_cmpR op_eq (pv 0) pe_int (nomark _))
(pss_one (ps_augS (pv 1) (pv 2) get_list (pv 3) (ip_sgn T_iand hr (by decide)) set_list))
(pss_one (ps_if (pt_cmpR op_eq (pv 0) pe_int (nomark _))
(pss_one (ps_augS (pv 1) (pv 2) get_list (pv 3) (ip_sgn T_isub hr (by decide)) set_list))
(pss_one (ps_augS (pv 1) (pv 2) get_list (pv 3) (ip_sgn T_ixor hr (by decide)) set_list)))))))), ?_⟩
    obtain ⟨dx, ha'⟩ := id ha
    obtain ⟨dy, hb'⟩ := id hb
    have nra : r ≠ a := ne_of hl ha' (by intro e; cases e)
    have hj : j < xs.length := (List.getElem?_eq_some_iff.mp hx).1
    have fin : ∀ (g : Bool → Bool → Bool) (Q' : VK), (∀ p q, gn s p q = g p q) → (∀ H', Bar a H H' → BoxAt C H' a (sb fun m => gn s (mem y m) (mem z m)) → Q' (.ref a) H') → rSign C (spISign C g) E0 (.ref a) (.ref b) H Q' := fun g Q' e q =>
      ⟨a, b, dx, _, dy, _, rfl, rfl, ha', hb', a, b, y, z, rfl, ha, hb, hy, hz, fun H' b1 hB => ⟨⟨a, rfl⟩, q H' b1 (by
        have e2 : (fun m => gn s (mem y m) (mem z m)) = fun m => g (mem y m) (mem z m) := funext fun m => e _ _
        rw [e2]
        exact hB)⟩⟩
    have sto : ∀ H', Bar a H H' → BoxAt C H' a (sb fun m => gn s (mem y m) (mem z m)) → rSetL (.ref r) (.int (j : Int)) (.ref a) H' fun H6 => Q .non H6 := fun H' b1 hB => by
      refine ⟨r, xs, j, j, rfl, rfl, b1 _ _ nra hl, ixN_nat hj, ?_⟩
      rw [set_same hx]
      refine k _ (fun x u n e => ?_) (hB.bar bar_upd nra.symm)
      by_cases c : x = r
      · subst c
        rw [upd_same, ← hl, e]
      · rw [upd_ne c]
        exact b1 _ _ n e
    match s, hs with
    | 0, _ => exact ⟨_, rfl, rfl, _, rfl, iteT ⟨_, rfl, _, rfl, r, xs, j, _, rfl, rfl, SqL.of hl, hx, _, rfl, fin or _ (by decide) sto⟩⟩
    | 1, _ => exact ⟨_, rfl, rfl, _, rfl, iteF ⟨_, rfl, rfl, _, rfl, iteT ⟨_, rfl, _, rfl, r, xs, j, _, rfl, rfl, SqL.of hl, hx, _, rfl, fin and _ (by decide) sto⟩⟩⟩
    | 2, _ => exact ⟨_, rfl, rfl, _, rfl, iteF ⟨_, rfl, rfl, _, rfl, iteF ⟨_, rfl, rfl, _, rfl, iteT ⟨_, rfl, _, rfl, r, xs, j, _, rfl, rfl, SqL.of hl, hx, _, rfl, fin (fun p q => p && !q) _ (by decide) sto⟩⟩⟩⟩
    | 3, _ => exact ⟨_, rfl, rfl, _, rfl, iteF ⟨_, rfl, rfl, _, rfl, iteF ⟨_, rfl, rfl, _, rfl, iteF ⟨_, rfl, _, rfl, r, xs, j, _, rfl, rfl, SqL.of hl, hx, _, rfl, fin (fun p q => p != q) _ (by decide) sto⟩⟩⟩⟩
theorem ok_deed {f g C : Addr} {fd : FuncData} (F : Fun K "_law_deed" "_law_deed" s_deed f fd) (T : Top K mg) (B : BoxC K mg C) (T_take : Cal P w K mg base 1 "_law_take" spTake []) (T_contents : Cal P w K mg base 2 "_law_contents" spContM []) (T_due : Cal P w K mg base 1 "_law_due" spDueM [])
    (T_signed : Cal P w K mg base 7 "_law_signed" (spSignedN C) []) (T_change : Cal P w K mg base 5 "_law_change" (spChangeN C) []) (T_is_refused : Cal P w K mg base 5 "_law_is_refused" (spRefused C) []) (ST : StatC K mg "Box" C "joined" g) (FJ : FnR P w K mg base CX0 6 g (spJoinR C))
    (T_Box_become : Met P w K mg base 4 C "become" (spBecome C) []) (T_Box_copied : Met P w K mg base 6 C "copied" (spCopied C) []) :
    FnOk P w K mg base CX0 8 f fd ["_law_bag_here", "_law_boxes", "_law_held", "_law_texts", "_law_marks_here"] (spDeed C) := by
  refine F.ok sc_deed (fun vs H Q E h => ?_) (fun cdv A outer s H vs Q E hr h => ?_)
  · obtain ⟨H0, ms, p, q, bl, hl, tl, ml, ow, hs, zs, rfl, _⟩ := h
    rfl
  · obtain ⟨H0, ms, p, q, bl, hl, tl, ml, ow, hs, zs, rfl, wl, hsub, r, hn, fin⟩ := h
    refine ⟨_, (pss_cons (ps_asg (pe_tup (pa_cons (pe_c T_take hr (by decide) (by rfl) (pa_cons (pv 0) (pa_cons pe_int pa_nil))) (pa_cons (pe_c T_take hr (by decide) (by rfl) (pa_cons (pv 0) (pa_cons pe_int pa_nil))) (pa_cons (pe_c T_take hr (by decide) (by rfl) (pa_cons (pv 0) (pa_cons pe_int pa_nil))) (pa_cons (pe_c T_take hr (by decide) (by rfl) (pa_cons (pv 0) (pa_cons pe_int pa_nil))) pa_nil))))) (pg_tup rfl (pgs_cons (pg_name (i := 5) sc_deed.nd rfl (Or.inl rfl)) (pgs_cons (pg_name (i := 6) sc_deed.nd rfl (Or.inl rfl)) (pgs_cons (pg_name (i := 7) sc_deed.nd rfl (Or.inl rfl)) (pgs_cons (pg_name (i := 8) sc_deed.nd rfl (Or.inl rfl)) pgs_nil))))))
(pss_cons (ps_par3 (i := 9) (j := 10) (l := 11) rfl sc_deed.nd rfl rfl rfl (by decide) (by decide) (by decide) rfl rfl rfl (by exact (pa_cons (pe_c T_take hr (by decide) (by rfl) (pa_cons (pv 0) (pa_cons pe_int pa_nil))) (pa_cons (pe_ix ix_list (pv 3) (pe_ix ix_list (pv 2) (pv 7) (fun _ _ => rfl)) (fun _ _ => rfl)) (pa_cons (pe_ix ix_list (pv 3) (pe_ix ix_list (pv 2) (pv 8) (fun _ _ => rfl)) (fun _ _ => rfl)) pa_nil)))) rfl)
(pss_cons (ps_if (pt_cmpR op_eq (pv 5) pe_int (nomark _))
(pss_cons (ps_asg (pe_ix ix_list (pv 1) (pv 7) (fun _ _ => rfl)) (pg_sub (pv 1) (pv 6) set_list))
(pss_one (ps_asg (pe_ix ix_list (pv 2) (pv 7) (fun _ _ => rfl)) (pg_sub (pv 2) (pv 6) set_list))))
(pss_one (ps_if (pt_cmpR op_lt (pv 5) pe_int (nomark _))
(pss_cons (ps_expr (pe_c T_change hr (by decide) (by rfl) (pa_cons (pv 9) (pa_cons (pv 1) (pa_cons (pv 6) (pa_cons (pe_ix ix_list (pv 1) (pv 7) (fun _ _ => rfl)) pa_nil))))))
(pss_one (ps_asg (pe_c T_due hr (by decide) (by rfl) (pa_cons (pv 9) (pa_cons (pe_ix ix_list (pv 3) (pe_ix ix_list (pv 2) (pv 6) (fun _ _ => rfl)) (fun _ _ => rfl)) (pa_cons (pv 10) (pa_cons (pv 4) pa_nil))))) (pg_sub (pv 3) (pe_ix ix_list (pv 2) (pv 6) (fun _ _ => rfl)) set_list))))
(pss_one (ps_if (pt_cmpR op_eq (pv 5) pe_int (nomark _))
(pss_cons (ps_set (i := 12) sc_deed.nd rfl (Or.inl rfl) (pe_c T_contents hr (by decide) (by rfl) (pa_cons (pv 0) (pa_cons (pv 4) pa_nil))))
(pss_cons (ps_expr (pe_mt T_Box_become hr (by decide) (pe_ix ix_list (pv 1) (pv 6) (fun _ _ => rfl)) (pa_cons (pv 12) pa_nil)))
(pss_one (ps_asg (pv 12) (pg_sub (pv 3) (pe_ix ix_list (pv 2) (pv 6) (fun _ _ => rfl)) set_list)))))
(pss_one (ps_if (pt_cmpR op_eq (pv 5) pe_int (nomark _))
(pss_one (ps_ret (pe_c T_is_refused hr (by decide) (by rfl) (pa_cons (pe_ix ix_list (pv 1) (pv 6) (fun _ _ => rfl)) pa_nil))))
(pss_cons (ps_set (i := 13) sc_deed.nd rfl (Or.inl rfl) (pe_ifExp (pt_cmpR op_eq (pv 5) pe_int (nomark _)) (pe_c T_due hr (by decide) (by rfl) (pa_cons (pv 9) (pa_cons (pv 10) (pa_cons (pv 11) (pa_cons (pv 4) pa_nil))))) (pv 10)))
(pss_cons (ps_if (pt_cmpR op_eq (pv 5) pe_int (nomark _))
(pss_one (ps_asg (pe_c T_signed hr (by decide) (by rfl) (pa_cons (pv 9) (pa_cons (pe_ix ix_list (pv 1) (pv 7) (fun _ _ => rfl)) (pa_cons (pe_ix ix_list (pv 1) (pv 8) (fun _ _ => rfl)) pa_nil)))) (pg_sub (pv 1) (pv 6) set_list)))
(pss_one (ps_if (pt_cmpR op_eq (pv 9) pe_int (nomark _))
(pss_cons (ps_set (i := 13) sc_deed.nd rfl (Or.inl rfl) (pe_c T_due hr (by decide) (by rfl) (pa_cons pe_int (pa_cons (pv 10) (pa_cons (pv 11) (pa_cons (pv 4) pa_nil))))))
(pss_one (ps_asg (pe_stat ST FJ hr (by decide) (by rfl) (pa_cons (pe_ix ix_list (pv 1) (pv 7) (fun _ _ => rfl)) (pa_cons (pe_ix ix_list (pv 1) (pv 8) (fun _ _ => rfl)) pa_nil))) (pg_sub (pv 1) (pv 6) set_list))))
(pss_one (ps_asg (pe_mt0 T_Box_copied hr (by decide) (pe_ix ix_list (pv 1) (pv 7) (fun _ _ => rfl))) (pg_sub (pv 1) (pv 6) set_list))))))
(pss_cons (ps_expr (pe_bm PySem.F.plainAttrs_list PySem.F.slot_list_append PySem.F.type_list_append mt_append (pv 3) (pa_cons (pv 13) pa_nil)))
(pss_one (ps_asg (pe_op op_sub (pe_callB call_len_seq (by rfl) T.z_len (by decide +kernel) (pa_cons (pv 3) pa_nil)) pe_int) (pg_sub (pv 2) (pv 6) set_list)))))))))))))
(pss_one (ps_ret pe_bl))))), ?_⟩
    refine ⟨_, rfl, p, q, 8, rfl, r.bag, by decide, by decide, fun H1 way b1 hB1 w0 w1 => ?_⟩
    have r1 := r.draw wl b1 hB1
    refine ⟨_, rfl, p, q, 5, rfl, hB1, by decide, by decide, fun H2 dk b2 hB2 k0 k1 => ?_⟩
    have r2 := r1.draw wl b2 hB2
    refine ⟨_, rfl, p, q, 5, rfl, hB2, by decide, by decide, fun H3 d1 b3 hB3 x0 x1 => ?_⟩
    have r3 := r2.draw wl b3 hB3
    refine ⟨_, rfl, p, q, 5, rfl, hB3, by decide, by decide, fun H4 d2 b4 hB4 y0 y1 => ?_⟩
    have r4 := r3.draw wl b4 hB4
    refine ⟨by show 4 ≤ sizeLine; decide, fun tt htt => ⟨tt, _, rfl, SqT.of upd_same, rfl, _, _, rfl, _, _, rfl, _, _, rfl, _, _, rfl, rfl, ?_⟩⟩
    have r5 := r4.same (same_new (o := .tup [.int way, .int dk, .int d1, .int d2]) htt)
    obtain ⟨k, rfl⟩ := Int.eq_ofNat_of_zero_le k0
    obtain ⟨i1, rfl⟩ := Int.eq_ofNat_of_zero_le x0
    obtain ⟨i2, rfl⟩ := Int.eq_ofNat_of_zero_le y0
    have hk5 : k < 5 := by omega
    obtain ⟨g1, l1⟩ := r5.held (k := i1) (by omega)
    obtain ⟨g2, l2⟩ := r5.held (k := i2) (by omega)
    obtain ⟨g0, l0⟩ := r5.held hk5
    have hlen : ∀ {α : Type} (f : Nat → α), k < (hs.map f).length := fun f => by
      rw [List.length_map, r.hk]
      exact hk5
    have msl : ms.length ≤ 52 := Nat.le_trans hsub.length_le (by rw [mk_len]; exact Nat.le_refl _)
    have bx0 := map_at (f := fun h => V.ref (ow.getD h 0)) g0
    have bx1 := map_at (f := fun h => V.ref (ow.getD h 0)) g1
    have bx2 := map_at (f := fun h => V.ref (ow.getD h 0)) g2
    have hx0 := map_at (f := fun h => V.int (h : Nat)) g0
    have hx1 := map_at (f := fun h => V.int (h : Nat)) g1
    have hx2 := map_at (f := fun h => V.int (h : Nat)) g2
    have tx0 := map_at (f := V.str) (r5.at_ l0).2.1
    have tx1 := map_at (f := V.str) (r5.at_ l1).2.1
    have tx2 := map_at (f := V.str) (r5.at_ l2).2.1
    have i0 := (r5.at_ l0).2.2.2
    have i1' := (r5.at_ l1).2.2.2
    have i2' := (r5.at_ l2).2.2.2
    refine ⟨_, rfl, p, q, 4, rfl, r5.bag, by decide, by decide, fun H6 ds b6 hB6 s0 s3 => ?_⟩
    have r6 := r5.draw wl b6 hB6
    obtain ⟨s, rfl⟩ := Int.eq_ofNat_of_zero_le s0
    have hs4 : s < 4 := by omega
    refine ⟨_, rfl, _, rfl, _, rfl, hl, _, _, _, rfl, rfl, SqL.of r6.h, atI_nat hx1, tl, _, _, _, rfl, rfl, SqL.of r6.t, atI_nat tx1, ?_⟩
    refine ⟨_, rfl, _, rfl, _, rfl, hl, _, _, _, rfl, rfl, SqL.of r6.h, atI_nat hx2, tl, _, _, _, rfl, rfl, SqL.of r6.t, atI_nat tx2, _, _, _, rfl, ?_⟩
    refine ⟨_, rfl, rfl, _, rfl, ite_b (fun c0 => ?_) (fun c0 => ?_)⟩
    · -- another name for the same box
      refine ⟨_, rfl, _, rfl, bl, _, _, _, rfl, rfl, SqL.of r6.b, atI_nat bx1, _, rfl, _, rfl, bl, _, k, k, rfl, rfl, r6.b, ixN_nat (hlen _), ?_⟩
      refine ⟨_, rfl, _, rfl, hl, _, _, _, rfl, rfl, SqL.of ((upd_ne wl.bh.symm).trans r6.h), atI_nat hx1, _, rfl, _, rfl, hl, _, k, k, rfl, rfl, (upd_ne wl.bh.symm).trans r6.h, ixN_nat (hlen _), ?_⟩
      exact fin _ _ _ _ (r6.rebind wl l1) (Nat.le_succ _)
    refine ⟨_, rfl, _, _, rfl, rfl, _, rfl, ite_b (fun c1 => ?_) (fun c1 => ?_)⟩
    · -- changed in place
      obtain ⟨_, _, hA, _⟩ := r6.at_ l0
      obtain ⟨_, _, hA1, _⟩ := r6.at_ l1
      refine ⟨_, rfl, _, rfl, _, rfl, _, rfl, _, rfl, bl, _, _, _, rfl, rfl, SqL.of r6.b, atI_nat bx1, s, bl, _, _, k, _, _, _, rfl, hs4, r6.b, bx0, hA, hA1, i0.isC hsub, i1'.isC hsub, fun H7 b7 h7 => ?_⟩
      rw [sb_in hsub i0 i1'] at h7
      obtain ⟨eb, eh, et, em, hB7, r7⟩ := r6.changed wl l0 b7 h7 ⟨_, rfl⟩
      refine ⟨_, rfl, _, rfl, _, rfl, _, rfl, hl, _, _, _, rfl, rfl, SqL.of eh, atI_nat hx0, tl, _, _, _, rfl, rfl, SqL.of et, atI_nat tx0, _, rfl, _, rfl, s, _, _, ml, ms, rfl, hs4, em, msl, ?_⟩
      refine ⟨_, rfl, _, rfl, _, rfl, hl, _, _, _, rfl, rfl, SqL.of eh, atI_nat hx0, tl, _, _, _, rfl, rfl, et, ixN_nat (by rw [List.length_map]; exact l0), ?_⟩
      rw [← List.map_set]
      exact fin _ _ _ _ r7 (by rw [List.length_set]; exact Nat.le_succ _)
    refine ⟨_, rfl, rfl, _, rfl, ite_b (fun c2 => ?_) (fun c2 => ?_)⟩
    · -- become
      refine ⟨_, rfl, _, rfl, p, q, ml, ms, rfl, r6.bag, r6.m, hsub, wl.pm, fun H7 z b7 hB7 hz => ?_⟩
      have r7 := r6.draw wl b7 hB7
      obtain ⟨_, _, hA, _⟩ := r7.at_ l0
      obtain ⟨dx, e⟩ := id hA
      refine ⟨_, rfl, _, rfl, bl, _, _, _, rfl, rfl, SqL.of r7.b, atI_nat bx0, _, dx, _, rfl, e, boxF_no _ (by decide +kernel), _, rfl, _, _, z, rfl, hA, hz.isC hsub, fun H8 b8 h8 => ?_⟩
      obtain ⟨eb, eh, et, em, hB8, r8⟩ := r7.changed wl l0 b8 h8 hz
      refine ⟨_, rfl, _, rfl, _, rfl, _, rfl, hl, _, _, _, rfl, rfl, SqL.of eh, atI_nat hx0, tl, _, _, _, rfl, rfl, et, ixN_nat (by rw [List.length_map]; exact l0), ?_⟩
      rw [← List.map_set]
      exact fin _ _ _ _ r8 (by rw [List.length_set]; exact Nat.le_succ _)
    refine ⟨_, rfl, rfl, _, rfl, ite_b (fun c3 => ?_) (fun c3 => ?_)⟩
    · -- refused
      obtain ⟨_, _, hA, _⟩ := r6.at_ l0
      exact ⟨_, rfl, _, rfl, bl, _, _, _, rfl, rfl, SqL.of r6.b, atI_nat bx0, _, _, rfl, hA, fun H7 s7 => fin _ _ _ _ (r6.same s7) (Nat.le_succ _)⟩
    obtain ⟨_, _, hA1, _⟩ := r6.at_ l1
    obtain ⟨_, _, hA2, _⟩ := r6.at_ l2
    by_cases h6 : way = 6
    · subst h6
      refine ⟨_, rfl, rfl, _, rfl, iteT ⟨_, rfl, _, rfl, _, rfl, _, rfl, s, _, _, ml, ms, rfl, hs4, r6.m, msl, ?_⟩⟩
      refine ⟨_, rfl, rfl, _, rfl, iteT ⟨_, rfl, _, rfl, _, rfl, bl, _, _, _, rfl, rfl, SqL.of r6.b, atI_nat bx1, _, rfl, _, rfl, bl, _, _, _, rfl, rfl, SqL.of r6.b, atI_nat bx2, s, _, _, _, _, rfl, hs4, hA1, hA2, i1'.isC hsub, i2'.isC hsub, fun H7 c s7 nc hc => ⟨_, rfl, _, rfl, bl, _, k, k, rfl, rfl, (r6.same s7).b, ixN_nat (hlen _), ?_⟩⟩⟩
      rw [sb_in hsub i1' i2'] at hc
      have r7 := r6.same s7
      have nbm := r7.bx
      have hcs : c ∉ ow := fun m => by
        obtain ⟨z', dx', e'⟩ := r6.bx.mem m
        rw [nc] at e'
        cases e'
      have n0 : H0 c = none := r6.sm.free nc
      have t8 : upd H7 bl (.lst ((hs.map fun h => V.ref (ow.getD h 0)).set k (.ref c))) tl = some (.lst (zs.map V.str)) := (upd_ne wl.bt.symm).trans r7.t
      have len8 : (zs.map V.str).length < 1000000 := by
        rw [List.length_map]
        omega
      refine ⟨_, rfl, .inl ⟨rfl, _, SqL.of t8⟩, _, rfl, tl, _, _, rfl, rfl, t8, ?_, ?_⟩
      · rw [List.length_map]
        exact Nat.lt_of_le_of_lt hn (by decide)
      refine ⟨_, rfl, tl, _, rfl, .inl (SqL.of upd_same), _, _, rfl, rfl, _, rfl, _, rfl, hl, _, k, k, rfl, rfl, (upd_ne wl.ht).trans ((upd_ne wl.bh.symm).trans r7.h), ixN_nat (hlen _), ?_⟩
      have e9 : (((zs.map V.str ++ [V.str (S (ms.filter fun c => gn s (mem (zs.getD (hs.getD i1 0) "") c) (mem (zs.getD (hs.getD i2 0) "") c)))]).length : Nat) : Int) - 1 = (zs.length : Nat) := by
        rw [List.length_append, List.length_map]
        show ((zs.length + 1 : Nat) : Int) - 1 = _
        omega
      dsimp only
      rw [e9]
      exact fin _ _ _ _ (r7.fresh wl (k := k) n0 hcs hc ⟨_, rfl⟩) (by rw [List.length_append]; exact Nat.le_refl _)
    · have hne : decide (V.int way = V.int 6) = false := decide_eq_false fun e => h6 (V.int.inj e)
      refine ⟨_, rfl, rfl, _, rfl, ?_⟩
      rw [hne]
      refine iteF ⟨_, rfl, ?_⟩
      refine ⟨_, rfl, rfl, _, rfl, ?_⟩
      rw [hne]
      refine iteF ?_
      by_cases hs0 : s = 0
      · subst hs0
        refine ⟨_, rfl, rfl, _, rfl, iteT ⟨_, rfl, _, rfl, _, rfl, 0, _, _, ml, ms, rfl, by decide, r6.m, msl, ?_⟩⟩
        refine ⟨_, rfl, _, rfl, bl, _, _, _, rfl, rfl, SqL.of r6.b, atI_nat bx1, _, rfl, _, rfl, bl, _, _, _, rfl, rfl, SqL.of r6.b, atI_nat bx2, ?_⟩
        refine joinR_ok (bs := [ow.getD (hs.getD i1 0) 0, ow.getD (hs.getD i2 0) 0]) (zs := [zs.getD (hs.getD i1 0) "", zs.getD (hs.getD i2 0) ""]) ?_ (by show 2 ≤ 1000; decide) fun H7 c s7 nc hc => ⟨_, rfl, _, rfl, bl, _, k, k, rfl, rfl, (r6.same s7).b, ixN_nat (hlen _), ?_⟩
        · refine ⟨rfl, fun i b z h1 h2 => ?_⟩
          match i, h1, h2 with
          | 0, h1, h2 =>
            cases h1
            cases h2
            exact hA1
          | 1, h1, h2 =>
            cases h1
            cases h2
            exact hA2
          | n + 2, h1, _ => cases h1
        have ej : joinC [zs.getD (hs.getD i1 0) "", zs.getD (hs.getD i2 0) ""] = S (ms.filter fun c => gn 0 (mem (zs.getD (hs.getD i1 0) "") c) (mem (zs.getD (hs.getD i2 0) "") c)) := by
          rw [← sb_in hsub i1' i2']
          refine sb_ext fun c _ => ?_
          rw [List.any_cons, List.any_cons, List.any_nil, Bool.or_false]
          rfl
        rw [ej] at hc
        have r7 := r6.same s7
        have nbm := r7.bx
        have hcs : c ∉ ow := fun m => by
          obtain ⟨z', dx', e'⟩ := r6.bx.mem m
          rw [nc] at e'
          cases e'
        have n0 : H0 c = none := r6.sm.free nc
        have t8 : upd H7 bl (.lst ((hs.map fun h => V.ref (ow.getD h 0)).set k (.ref c))) tl = some (.lst (zs.map V.str)) := (upd_ne wl.bt.symm).trans r7.t
        have len8 : (zs.map V.str).length < 1000000 := by
          rw [List.length_map]
          omega
        refine ⟨_, rfl, .inl ⟨rfl, _, SqL.of t8⟩, _, rfl, tl, _, _, rfl, rfl, t8, ?_, ?_⟩
        · rw [List.length_map]
          exact Nat.lt_of_le_of_lt hn (by decide)
        refine ⟨_, rfl, tl, _, rfl, .inl (SqL.of upd_same), _, _, rfl, rfl, _, rfl, _, rfl, hl, _, k, k, rfl, rfl, (upd_ne wl.ht).trans ((upd_ne wl.bh.symm).trans r7.h), ixN_nat (hlen _), ?_⟩
        have e9 : (((zs.map V.str ++ [V.str (S (ms.filter fun c => gn 0 (mem (zs.getD (hs.getD i1 0) "") c) (mem (zs.getD (hs.getD i2 0) "") c)))]).length : Nat) : Int) - 1 = (zs.length : Nat) := by
          rw [List.length_append, List.length_map]
          show ((zs.length + 1 : Nat) : Int) - 1 = _
          omega
        dsimp only
        rw [e9]
        exact fin _ _ _ _ (r7.fresh wl (k := k) n0 hcs hc ⟨_, rfl⟩) (by rw [List.length_append]; exact Nat.le_refl _)

      · have hsn : decide (V.int (s : Nat) = V.int 0) = false := decide_eq_false fun e => hs0 (by
          have := V.int.inj e
          omega)
        refine ⟨_, rfl, rfl, _, rfl, ?_⟩
        rw [hsn]
        obtain ⟨dx1, ex1⟩ := id hA1
        refine iteF ⟨_, rfl, _, rfl, bl, _, _, _, rfl, rfl, SqL.of r6.b, atI_nat bx1, _, dx1, _, rfl, ex1, boxF_no _ (by decide +kernel), _, _, rfl, hA1, i1'.isC hsub, fun H7 c s7 nc hc => ⟨_, rfl, _, rfl, bl, _, k, k, rfl, rfl, (r6.same s7).b, ixN_nat (hlen _), ?_⟩⟩
        have r7 := r6.same s7
        have nbm := r7.bx
        have hcs : c ∉ ow := fun m => by
          obtain ⟨z', dx', e'⟩ := r6.bx.mem m
          rw [nc] at e'
          cases e'
        have n0 : H0 c = none := r6.sm.free nc
        have t8 : upd H7 bl (.lst ((hs.map fun h => V.ref (ow.getD h 0)).set k (.ref c))) tl = some (.lst (zs.map V.str)) := (upd_ne wl.bt.symm).trans r7.t
        have len8 : (zs.map V.str).length < 1000000 := by
          rw [List.length_map]
          omega
        refine ⟨_, rfl, .inl ⟨rfl, _, SqL.of t8⟩, _, rfl, tl, _, _, rfl, rfl, t8, ?_, ?_⟩
        · rw [List.length_map]
          exact Nat.lt_of_le_of_lt hn (by decide)
        refine ⟨_, rfl, tl, _, rfl, .inl (SqL.of upd_same), _, _, rfl, rfl, _, rfl, _, rfl, hl, _, k, k, rfl, rfl, (upd_ne wl.ht).trans ((upd_ne wl.bh.symm).trans r7.h), ixN_nat (hlen _), ?_⟩
        have e9 : (((zs.map V.str ++ [V.str (zs.getD (hs.getD i1 0) "")]).length : Nat) : Int) - 1 = (zs.length : Nat) := by
          rw [List.length_append, List.length_map]
          show ((zs.length + 1 : Nat) : Int) - 1 = _
          omega
        dsimp only
        rw [e9]
        exact fin _ _ _ _ (r7.fresh wl (k := k) n0 hcs hc i1') (by rw [List.length_append]; exact Nat.le_refl _)
end
end W7

set_option Elab.async false
set_option linter.all false
set_option maxRecDepth 100000
set_option maxHeartbeats 4000000
namespace WB
open PySem L2 PyProof.Rows
theorem vals_of : ∀ {l : List V} {us : List Value}, l.length = us.length → (∀ (j : Nat) v u, l[j]? = some v → us[j]? = some u → RelV v u) → Vals l us
  | [], [], _, _ => .nil
  | v :: l, u :: us, h, r => .cons (r 0 v u rfl rfl) (vals_of (Nat.succ.inj h) fun j v u h1 h2 => r (j + 1) v u h1 h2)
  | [], _ :: _, h, _ => by cases h
  | _ :: _, [], h, _ => by cases h
/-- list(text) -/
def rListS : List V → Hp → VK → Prop := fun xs H Q => ∃ x : Str, xs = [.str x] ∧ x.length ≤ sizeLine ∧ ∀ l, H l = none → Q (.ref l) (upd H l (.lst (x.cps.toList.map sg)))
theorem call_listS {X : Cx} (hh : X.A.handled = none) : CallR X (.type "list") rListS := by
  intro pins s σ H xs us Q I r h
  obtain ⟨x, rfl, hz, q⟩ := h
  obtain ⟨u, rfl, t, rfl⟩ := vals_one r
  refine call_list_str hh x t (hn := hz) fun h' tk acc' c' hk hS' hacc => ?_
  have hv : Vals (x.cps.toList.map sg) acc'.toList := vals_of (by rw [List.length_map, Array.length_toList, Array.length_toList, hacc.1]) fun j v u h1 h2 => by
    obtain ⟨c, hc, rfl⟩ := map_from h1
    obtain ⟨c', u', h3, rfl⟩ := hacc.2 j u (by rw [← Array.getElem?_toList]; exact h2)
    rw [Array.getElem?_toList] at hc
    rw [hc] at h3
    cases h3
    exact ⟨u', rfl⟩
  have new : ObjOk X.prog X.w (upd H s.heap.objs.size (.lst (x.cps.toList.map sg))) h' s.heap.objs.size (.lst (x.cps.toList.map sg)) := ⟨by rw [List.length_map]; exact hz, acc'.toList, c', hv, by simpa using hS'⟩
  exact ⟨.ref s.heap.objs.size, _, I.laid (t' := tk) hk (Nat.le_refl _) new, rfl, q _ (I.hok.fresh (Nat.le_refl _))⟩
theorem dp_all_bools {K : PySem.W.Frag} {H : Hp} : ∀ bs : List Bool, DpAll K H (bs.map V.bl) (bs.map PyData.bool)
  | [] => .nil
  | b :: r => .cons (.bl b) (dp_all_bools r)
theorem lay_bools : ∀ bs : List Bool, PyData.canLayAll0 (bs.map PyData.bool) = true ∧ PyData.depthAll (bs.map PyData.bool) = 0 ∧ PyData.eqvAll (bs.map PyData.bool) (bs.map PyData.bool) = true
  | [] => ⟨rfl, rfl, rfl⟩
  | b :: r => by
    obtain ⟨h1, h2, h3⟩ := lay_bools r
    refine ⟨?_, ?_, ?_⟩
    · show (true && PyData.canLayAll0 (r.map _)) = true
      rw [h1]
      rfl
    · show max 0 (PyData.depthAll (r.map _)) = 0
      rw [h2]
      rfl
    · show ((b == b) && PyData.eqvAll (r.map _) (r.map _)) = true
      rw [h3, beq_self_eq_true]
      rfl
theorem shaped_bools (bs : List Bool) : SeqAt.shaped (.list (bs.map PyData.bool)) = true := by
  obtain ⟨h1, h2, _⟩ := lay_bools bs
  have e1 : PyData.canLay0 (.list (bs.map PyData.bool)) = true := h1
  have e2 : PyData.depth (.list (bs.map PyData.bool)) ≤ 64 := by
    show PyData.depthAll (bs.map _) + 1 ≤ 64
    omega
  unfold SeqAt.shaped
  rw [e1, decide_eq_true e2]
  rfl
theorem eqv_bools (bs : List Bool) : PyData.eqv (.list (bs.map PyData.bool)) (.list (bs.map PyData.bool)) = true := (lay_bools bs).2.2
theorem eqv_signs (ns : List Nat) : PyData.eqv (.list (ns.map fun c => PyData.str (S [c]))) (.list (ns.map fun c => PyData.str (S [c]))) = true := by
  have := eqv_texts (ns.map fun c => S [c])
  rw [List.map_map] at this
  exact this
/-- the marks of ms that stand in z, z out of ms -/
theorem inM_list {ms : List Nat} {z : Str} (h : InM ms z) : ms.filter (fun c => mem z c) = z.cps.toList := by
  obtain ⟨f, rfl⟩ := h
  show ms.filter _ = ms.filter f
  refine List.filter_congr fun c hc => ?_
  unfold mem
  cases q : f c with
  | true => exact decide_eq_true (List.mem_filter.mpr ⟨hc, q⟩)
  | false =>
    refine decide_eq_false fun m => ?_
    have h2 := (List.mem_filter.mp (show c ∈ ms.filter f from m)).2
    rw [q] at h2
    cases h2
theorem owner_eq {ow : List Addr} (nd : ow.Nodup) {a b : Nat} (ha : a < ow.length) (hb : b < ow.length) : decide (ow.getD a 0 = ow.getD b 0) = decide (V.int (a : Nat) = V.int (b : Nat)) := by
  by_cases c : a = b
  · subst c
    rw [decide_eq_true rfl, decide_eq_true rfl]
  · rw [decide_eq_false, decide_eq_false]
    · intro e
      have := V.int.inj e
      omega
    · intro e
      have h1 := getD_at (l := ow) (d := 0) ha
      have h2 := getD_at (l := ow) (d := 0) hb
      obtain ⟨i1, e1⟩ := List.getElem?_eq_some_iff.mp h1
      obtain ⟨i2, e2⟩ := List.getElem?_eq_some_iff.mp h2
      exact c ((List.getElem_inj nd).mp (e1.trans (e.trans e2.symm)))
end WB

set_option Elab.async false
set_option linter.all false
set_option maxRecDepth 100000
set_option maxHeartbeats 4000000
namespace W7
open PySem L2 WB
open C8 (pe_c pe_mk pe_mt pe_mt0 Cal Mak Met)
section
variable {P : Program} {w : World} {K : PySem.W.Frag} {mg : Str → Option Value} {base : Heap}
def spRightN (C : Addr) : Sp := fun vs H Q _ => ∃ (H0 : Hp) (ms : List Nat) (p q bl hl tl ml : Addr) (ow : List Addr) (hs : List Nat) (zs : List Str), vs = [.ref bl, .ref hl, .ref tl, .ref ml] ∧ ms.Sublist mk ∧ WB.Run C H0 ms p q bl hl tl ml ow hs zs H ∧ ∀ H', Same H H' → Q (.bl true) H'
theorem ok_is_right {f C : Addr} {fd : FuncData} (F : Fun K "_law_is_right" "_law_is_right" s_is_right f fd) (T : Top K mg) (B : BoxC K mg C) (O_contains : Own P w K mg base 1 C "__contains__" (spHas K C)) (O_len : Own P w K mg base 1 C "__len__" (spLen C)) (O_str : Own P w K mg base 1 C "__str__" (spStr C)) (O_crosses : OwnProp P w K mg base 1 C "crosses" (spCross C)) :
    FnOk P w K mg base CX0 4 f fd ["_law_boxes", "_law_held", "_law_texts", "_law_marks_here"] (spRightN C) := by
  refine F.ok sc_is_right (fun vs H Q E h => ?_) (fun cdv A outer s H vs Q E hr h => ?_)
  · obtain ⟨H0, ms, p, q, bl, hl, tl, ml, ow, hs, zs, rfl, _⟩ := h
    rfl
  · obtain ⟨H0, ms, p, q, bl, hl, tl, ml, ow, hs, zs, rfl, hsub, r, fin⟩ := h
    refine ⟨_, (pss_cons (ps_for PassesOwn.never rfl (pi_enum (by rfl) T.z_enumerate (pa_cons (pv 0) pa_nil)) (pg_tup rfl (pgs_cons (pg_name (i := 4) sc_is_right.nd rfl (Or.inr rfl)) (pgs_cons (pg_name (i := 5) sc_is_right.nd rfl (Or.inr rfl)) pgs_nil)))
(pss_cons (ps_set (i := 6) sc_is_right.nd rfl (Or.inl rfl) (pe_ix ix_list (pv 2) (show PE _ _ (tOp (rIxL K) (tVar 1) (tVar 4)) from (pe_ix ix_list (pv 1) (pv 4) (fun _ _ => rfl))) (fun _ _ => rfl)))
(pss_cons (ps_if (PW.pt (pw_or (pt_not (pt_val (pe_callB call_isi (by rfl) T.z_isinstance (by decide +kernel) (pa_cons (pv 5) (pa_cons (C8.pe_gc (by rfl) B.gB) pa_nil))))) (pw_or (pt_cmpR op_ne (pe_fld (pv 5) rfl) (pv 6) (nomark _)) (pw_or (pt_cmpR op_ne (pe_callB (call_lenO O_len hr (by decide)) (by rfl) T.z_len (by decide +kernel) (pa_cons (pv 5) pa_nil)) (pe_callB call_len_str (by rfl) T.z_len (by decide +kernel) (pa_cons (pv 6) pa_nil)) (nomark _)) (pw_or1 (pt_cmpR op_ne (pe_callTy (call_strO O_str hr (by decide)) (by rfl) T.z_str (by decide +kernel) (pa_cons (pv 5) pa_nil)) (pv 6) (nomark _)))))))
(pss_one (ps_ret pe_bl))
pss_nil)
(pss_cons (ps_if (pt_cmpR (op_neD hr.units) (pe_lc (own := [("_law_mark", 7)]) rfl sc_is_right.nd (pi_list (pv 3)) (blkOk_by (own := [("_law_mark", 7)]) (N := n_is_right) (sc := defScope s_is_right) (by decide +kernel)) (fun _ _ _ _ _ => (pg_name (i := 7) sc_is_right.nd rfl (Or.inl rfl))) (fun _ _ _ _ _ => (pts_one (show PT _ _ (tTest (tOp (rInO C (spHas K C) E0 id) (tVar 7) (tVar 5))) from (pt_cmpR (by exact op_inO O_contains hr (by decide)) (pv 7) (pv 5) rfl)))) (fun _ _ _ _ _ => (pv 7))) (pe_callTy (call_listS hr.hd) (by rfl) T.z_list (by decide +kernel) (pa_cons (pv 6) pa_nil)) (nomark _))
(pss_one (ps_ret pe_bl))
pss_nil)
(pss_cons (ps_if (pt_cmpR op_ne (pe_propO O_crosses B.cl hr (by decide) (pv 5) rfl) (pe_cmpR (op_eqD hr.units) (pe_lc (own := [("_law_mark", 7)]) rfl sc_is_right.nd (pi_str (pv 6)) (blkOk_by (own := [("_law_mark", 7)]) (N := n_is_right) (sc := defScope s_is_right) (by decide +kernel)) (fun _ _ _ _ _ => (pg_name (i := 7) sc_is_right.nd rfl (Or.inl rfl))) (fun _ _ _ _ _ => (pts_one (pt_cmpR op_in_sign (pv 7) pe_str rfl))) (fun _ _ _ _ _ => (pv 7))) (pe_lst pa_nil) (nomark _)) (nomark _))
(pss_one (ps_ret pe_bl))
pss_nil)
(pss_one (ps_if (pt_cmpR (op_neD hr.units) (pe_lc (own := [("_law_other", 8)]) rfl sc_is_right.nd (pi_list (pv 0)) (blkOk_by (own := [("_law_other", 8)]) (N := n_is_right) (sc := defScope s_is_right) (by decide +kernel)) (fun _ _ _ _ _ => (pg_name (i := 8) sc_is_right.nd rfl (Or.inl rfl))) (fun _ _ _ _ _ => pts_nil) (fun _ _ _ _ _ => (pe_cmpR (by exact op_eqO B.eq (hu_of hr)) (pv 5) (pv 8) (nomark _)))) (pe_lc (own := [("_law_number", 9)]) rfl sc_is_right.nd (pi_list (pv 1)) (blkOk_by (own := [("_law_number", 9)]) (N := n_is_right) (sc := defScope s_is_right) (by decide +kernel)) (fun _ _ _ _ _ => (pg_name (i := 9) sc_is_right.nd rfl (Or.inl rfl))) (fun _ _ _ _ _ => pts_nil) (fun _ _ _ _ _ => (pe_cmpR op_eq (show PE _ _ (tOp (rIxL K) (tVar 1) (tVar 4)) from (pe_ix ix_list (pv 1) (pv 4) (fun _ _ => rfl))) (pv 9) (nomark _)))) (nomark _))
(pss_one (ps_ret pe_bl))
pss_nil)))))))
(pss_one (ps_ret pe_bl))), ?_⟩
    refine ⟨_, rfl, bl, _, rfl, SqL.of r.b, for_it (walk_enum (xs := hs.map fun h => V.ref (ow.getD h 0))) (fun i σ H' => ∃ v4 v5 v6 v7 v8 v9, σ = [some (.ref bl), some (.ref hl), some (.ref tl), some (.ref ml), v4, v5, v6, v7, v8, v9] ∧ Same H H')
      ⟨none, none, none, none, none, none, rfl, Same.refl H⟩ (fun _ _ _ _ ⟨_, _, _, _, _, _, _, s⟩ => SqL.of (s _ _ r.b)) ?_ ?_⟩
    · rintro i x σ H1 H1' hi ⟨v4, v5, v6, v7, v8, v9, rfl, s1⟩ ⟨T1, x1, x2, rfl, nT, rfl, hx1, hx2⟩
      obtain ⟨h, hhi, rfl⟩ := map_from hx2
      cases hx1
      have sT := same_new (o := .tup [V.int (i : Nat), V.ref (ow.getD h 0)]) nT
      have rT := (r.same s1).same sT
      have lh := r.hz h (List.mem_of_getElem? hhi)
      obtain ⟨o1, o2, o3, o4⟩ := rT.at_ lh
      obtain ⟨dx, e⟩ := id o3
      have icz := o4.isC hsub
      have l52 := icz.len
      refine ⟨T1, _, rfl, SqT.of upd_same, rfl, _, _, rfl, _, _, rfl, rfl, ?_⟩
      refine ⟨_, rfl, _, rfl, _, rfl, hl, _, _, _, rfl, rfl, SqL.of rT.h, atI_nat (map_at (f := fun h => V.int (h : Nat)) hhi), tl, _, _, _, rfl, rfl, SqL.of rT.t, atI_nat (map_at (f := V.str) o2), ?_⟩
      refine ⟨_, rfl, _, _, _, _, true, rfl, .own C, B.ty e, B.kit, true, rfl, iteF ?_⟩
      refine ⟨_, rfl, _, C, dx, _, _, rfl, e, B.cl, B.nC, boxF_lk _, _, rfl, rfl, _, rfl, ?_⟩
      rw [dec_str_same]
      refine iteF ⟨_, rfl, _, dx, _, rfl, e, _, _, rfl, o3, Nat.le_trans l52 (by decide), ⟨_, rfl, by omega, _, rfl, _, rfl, Nat.le_trans l52 (by decide), rfl, _, rfl, ?_⟩⟩
      rw [decide_eq_true rfl]
      refine iteF ⟨_, rfl, _, dx, _, rfl, e, _, _, rfl, o3, ⟨⟨_, rfl⟩, _, rfl, rfl, _, rfl, ?_⟩⟩
      rw [dec_str_same]
      refine iteF ?_
      dsimp only [tNext]
      -- the marks that are in the box
      refine ⟨_, rfl, ml, rfl, ⟨_, SqL.of rT.m⟩, fun D hD => lc_it (walk_list (xs := ms.map sg)) (fun j H' => H' = upd (upd H1 T1 (.tup [V.int (i : Nat), V.ref (ow.getD h 0)])) D (.lst (filt ms (fun c => mem (zs.getD h "") c) j))) rfl (fun _ _ _ h => by rw [h]; exact SqL.of (same_new hD _ _ rT.m)) ?_ ?_⟩
      · rintro j x H3 H3' hj rfl ⟨rfl, hx⟩
        obtain ⟨c, hc, rfl⟩ := map_from hx
        have hl : (filt ms (fun c => mem (zs.getD h "") c) j).length < sizeLine := Nat.lt_of_le_of_lt filt_len (Nat.lt_of_le_of_lt hsub.length_le (by rw [mk_len]; decide))
        refine ⟨rfl, _, rfl, _, rfl, _, dx, _, rfl, same_new hD _ _ e, _, _, _, rfl, o3.same (same_new hD), .inl ⟨_, rfl, by show 1 ≤ 1000; decide⟩, _, rfl, _, rfl, ?_⟩
        refine ite_b (fun h2 => ?_) (fun h2 => ?_)
        · refine ⟨_, rfl, _, upd_same, hl, ?_⟩
          rw [upd_upd, filt_yes (t := fun c => mem (zs.getD h "") c) hc h2]
        · rw [filt_no hc (t := fun c => mem (zs.getD h "") c) h2]
      rintro H3 rfl
      rw [filt_end (by rw [List.length_map]; exact Nat.le_refl _), inM_list o4]
      have sD := same_new (o := .lst ((zs.getD h "").cps.toList.map sg)) hD
      refine ⟨_, rfl, _, rfl, Nat.le_trans l52 (by decide), fun l2 hl2 => ?_⟩
      have nDl : D ≠ l2 := ne_of_none upd_same hl2
      refine ⟨_, _, .lst (SqL.of ((upd_ne nDl).trans upd_same)) (dp_strs _), .lst (SqL.of upd_same) (dp_strs _), shaped_strs (fun c hc => mk_small c (isC_sub icz hc)), shaped_strs (fun c hc => mk_small c (isC_sub icz hc)), _, rfl, ?_⟩
      rw [eqv_signs]
      refine iteF ?_
      dsimp only [tNext]
      have rL := (rT.same sD).same (same_new (o := .lst ((zs.getD h "").cps.toList.map sg)) hl2)
      have sL := ((s1.trans sT).trans sD).trans (same_new (o := .lst ((zs.getD h "").cps.toList.map sg)) hl2)
      revert rL sL
      generalize upd (upd (upd H1 T1 (.tup [V.int (i : Nat), V.ref (ow.getD h 0)])) D (.lst ((zs.getD h "").cps.toList.map sg))) l2 (.lst ((zs.getD h "").cps.toList.map sg)) = HL
      intro rL sL
      obtain ⟨_, _, p3, _⟩ := rL.at_ lh
      obtain ⟨dxL, eL⟩ := id p3
      -- does it cross
      refine ⟨_, rfl, _, dxL, _, rfl, eL, _, _, rfl, p3, icz, fun H4 s4 => ?_⟩
      refine ⟨_, rfl, _, rfl, fun D2 hD2 => lc_it walk_str (fun i H' => H' = upd H4 D2 (.lst (filt (zs.getD h "").cps.toList (fun c => decide (c ∈ (SX.S (List.range' 65 26)).cps.toList)) i))) rfl (fun _ _ _ _ => trivial) ?_ ?_⟩
      · rintro i x H2 H' hi rfl ⟨rfl, c, hc, rfl⟩
        have hc := arr_at hc
        have hl : (filt (zs.getD h "").cps.toList (fun c => decide (c ∈ (SX.S (List.range' 65 26)).cps.toList)) i).length < sizeLine := Nat.lt_of_le_of_lt filt_len (Nat.lt_of_le_of_lt (show (zs.getD h "").cps.toList.length ≤ 52 from l52) (by decide))
        refine ⟨rfl, _, rfl, _, _, rfl, rfl, _, rfl, ?_⟩
        have eC : ("ABCDEFGHIJKLMNOPQRSTUVWXYZ" : Str) = SX.S (List.range' 65 26) := by decide +kernel
        rw [eC]
        refine ite_b (fun h2 => ?_) (fun h2 => ?_)
        · refine ⟨_, rfl, _, upd_same, hl, ?_⟩
          rw [upd_upd, filt_yes (t := fun c => decide (c ∈ (SX.S (List.range' 65 26)).cps.toList)) hc h2]
          rfl
        · rw [filt_no hc (t := fun c => decide (c ∈ (SX.S (List.range' 65 26)).cps.toList)) h2]
      rintro H' rfl
      rw [filt_end (by rw [Array.length_toList]; exact Nat.le_refl _)]
      refine ⟨Nat.zero_le _, fun l3 hl3 => ?_⟩
      have nD3 : D2 ≠ l3 := ne_of_none upd_same hl3
      have eP : decide ((zs.getD h "").cps.toList.filter (fun c => decide (c ∈ (SX.S (List.range' 65 26)).cps.toList)) = []) = plainB (zs.getD h "") := by
        unfold plainB
        rw [← filter_nil_all]
        refine congrArg (fun l : List Nat => decide (l = [])) (List.filter_congr fun c hc => ?_)
        have : ∀ c ∈ mk, decide (c ∈ (SX.S (List.range' 65 26)).cps.toList) = !decide (97 ≤ c) := by decide +kernel
        exact this c (isC_sub icz hc)
      refine ⟨_, _, .lst (SqL.of ((upd_ne nD3).trans upd_same)) (dp_strs _), .lst (SqL.of upd_same) .nil, shaped_strs (fun c hc => mk_small c (isC_sub icz (List.mem_filter.mp hc).1)), by decide, ?_⟩
      rw [eqv_nil_strs, eP]
      refine ⟨rfl, _, rfl, ?_⟩
      rw [decide_eq_true rfl]
      refine iteF ?_
      dsimp only [tNext]
      have s5 := (same_new (o := .lst (((zs.getD h "").cps.toList.filter (fun c => decide (c ∈ (SX.S (List.range' 65 26)).cps.toList))).map sg)) hD2).trans (same_new (o := .lst []) hl3)
      have sM := (sL.trans s4).trans s5
      have rM := (rL.same s4).same s5
      revert rM sM
      generalize upd (upd H4 D2 (.lst (((zs.getD h "").cps.toList.filter (fun c => decide (c ∈ (SX.S (List.range' 65 26)).cps.toList))).map sg))) l3 (.lst []) = HM
      intro sM rM
      obtain ⟨_, _, q3, _⟩ := rM.at_ lh
      obtain ⟨dxM, eM⟩ := id q3
      have lo : ow.length = zs.length := rM.bx.1
      -- which of the names stand for the same box
      refine ⟨_, rfl, bl, rfl, ⟨_, SqL.of rM.b⟩, fun E1 hE1 => lc_it (walk_list (xs := hs.map fun h => V.ref (ow.getD h 0))) (fun j H' => H' = upd HM E1 (.lst ((hs.map fun h' => V.bl (decide (ow.getD h 0 = ow.getD h' 0))).take j))) rfl (fun _ _ _ h => by rw [h]; exact SqL.of (same_new hE1 _ _ rM.b)) ?_ ?_⟩
      · rintro j x H5 H5' hj rfl ⟨rfl, hx⟩
        obtain ⟨h', hh', rfl⟩ := map_from hx
        obtain ⟨_, _, y3, _⟩ := (rM.same (same_new (o := .lst ((hs.map fun h' => V.bl (decide (ow.getD h 0 = ow.getD h' 0))).take j)) hE1)).at_ (rM.hz h' (List.mem_of_getElem? hh'))
        obtain ⟨dy, ey⟩ := y3
        refine ⟨rfl, lc_yes ⟨_, rfl, _, rfl, _, _, dxM, _, dy, _, rfl, rfl, same_new hE1 _ _ eM, ey, _, upd_same, take_small (n := 6) (by rw [List.length_map, rM.hk]; decide), ?_⟩⟩
        exact upd_snoc (map_at (f := fun h' => V.bl (decide (ow.getD h 0 = ow.getD h' 0))) hh')
      rintro H5 rfl
      rw [List.take_of_length_le (by rw [List.length_map, List.length_map]; exact Nat.le_refl _)]
      have sE := same_new (o := .lst (hs.map fun h' => V.bl (decide (ow.getD h 0 = ow.getD h' 0)))) hE1
      have rE := rM.same sE
      refine ⟨_, rfl, hl, rfl, ⟨_, SqL.of rE.h⟩, fun E2 hE2 => lc_it (walk_list (xs := hs.map fun h => V.int (h : Nat))) (fun j H' => H' = upd (upd HM E1 (.lst (hs.map fun h' => V.bl (decide (ow.getD h 0 = ow.getD h' 0))))) E2 (.lst ((hs.map fun h' => V.bl (decide (V.int (h : Nat) = V.int (h' : Nat)))).take j))) rfl (fun _ _ _ h => by rw [h]; exact SqL.of (same_new hE2 _ _ rE.h)) ?_ ?_⟩
      · rintro j x H6 H6' hj rfl ⟨rfl, hx⟩
        obtain ⟨h', hh', rfl⟩ := map_from hx
        refine ⟨rfl, lc_yes ⟨_, rfl, _, rfl, hl, _, _, _, rfl, rfl, SqL.of (same_new hE2 _ _ rE.h), atI_nat (map_at (f := fun h => V.int (h : Nat)) hhi), _, rfl, rfl, _, upd_same, take_small (n := 6) (by rw [List.length_map, rM.hk]; decide), ?_⟩⟩
        exact upd_snoc (map_at (f := fun h' => V.bl (decide (V.int (h : Nat) = V.int (h' : Nat)))) hh')
      rintro H6 rfl
      rw [List.take_of_length_le (by rw [List.length_map, List.length_map]; exact Nat.le_refl _)]
      have nE : E1 ≠ E2 := ne_of_none upd_same hE2
      have eB : (hs.map fun h' => V.bl (decide (ow.getD h 0 = ow.getD h' 0))) = (hs.map fun h' => decide (V.int (h : Nat) = V.int (h' : Nat))).map V.bl := by
        rw [List.map_map]
        refine List.map_congr_left fun h' hm => ?_
        show V.bl _ = V.bl _
        rw [owner_eq rM.nd (by rw [lo]; exact lh) (by rw [lo]; exact rM.hz h' hm)]
      have eB2 : (hs.map fun h' => V.bl (decide (V.int (h : Nat) = V.int (h' : Nat)))) = (hs.map fun h' => decide (V.int (h : Nat) = V.int (h' : Nat))).map V.bl := by
        rw [List.map_map]
        rfl
      refine ⟨_, _, .lst (SqL.of ((upd_ne nE).trans (upd_same.trans (congrArg (fun l => some (HO.lst l)) eB)))) (dp_all_bools _), .lst (SqL.of (upd_same.trans (congrArg (fun l => some (HO.lst l)) eB2))) (dp_all_bools _), shaped_bools _, shaped_bools _, _, rfl, ?_⟩
      rw [eqv_bools]
      exact iteF ⟨_, _, _, _, _, _, rfl, (sM.trans sE).trans (same_new hE2)⟩
    · rintro σ H1 ⟨v4, v5, v6, v7, v8, v9, rfl, s1⟩
      exact fin H1 s1
end
end W7

set_option Elab.async false
set_option linter.all false
set_option maxRecDepth 100000
set_option maxHeartbeats 4000000
namespace W7
open PySem L2 WB
open C8 (pe_c pe_mk pe_mt pe_mt0 Cal Mak Met)
section
variable {P : Program} {w : World} {K : PySem.W.Frag} {mg : Str → Option Value} {base : Heap}
theorem ok_law {f C : Addr} {fd : FuncData} (F : Fun K "law" "law" s_law f fd) (T : Top K mg) (B : BoxC K mg C)
    (T_bag : Cal P w K mg base 1 "_law_bag" (spBag K) []) (T_take : Cal P w K mg base 1 "_law_take" spTake []) (T_marks : Cal P w K mg base 2 "_law_marks" spMarks []) (T_contents : Cal P w K mg base 2 "_law_contents" spContM [])
    (T_Box : Mak P w K mg base 4 "Box" C (spInit C) []) (T_deed : Cal P w K mg base 8 "_law_deed" (spDeed C) []) (T_is_right : Cal P w K mg base 4 "_law_is_right" (spRightN C) []) :
    FnOk P w K mg base CX0 9 f fd ["_law_script"] (spLaw K) := by
  refine F.ok sc_law (fun vs H Q E h => ?_) (fun cdv A outer s H vs Q E hr h => ?_)
  · obtain ⟨a, ns, rfl, _⟩ := h
    rfl
  · obtain ⟨a, ns, rfl, hS, hlen, k⟩ := h
    refine ⟨_, (pss_cons (ps_for PassesOwn.never rfl (pi_range1 rfl T.z_range (pa_cons (pe_callB (call_max2 rfl) (by rfl) T.z_max (by decide +kernel) (pa_cons pe_int (pa_cons (pe_callB (call_min2 rfl) (by rfl) T.z_min (by decide +kernel) (pa_cons pe_int (pa_cons (pe_callB call_len_seq (by rfl) T.z_len (by decide +kernel) (pa_cons (pv 0) pa_nil)) pa_nil))) pa_nil))) pa_nil)) (pg_name (i := 1) sc_law.nd rfl (Or.inl rfl))
(pss_cons (ps_set (i := 2) sc_law.nd rfl (Or.inr rfl) (pe_c T_bag hr (by decide) (by rfl) (pa_cons (pv 0) (pa_cons (pv 1) pa_nil))))
(pss_cons (ps_set (i := 3) sc_law.nd rfl (Or.inr rfl) (pe_c T_marks hr (by decide) (by rfl) (pa_cons (pv 2) pa_nil)))
(pss_cons (ps_setLc (i := 4) (own := [("_law_k", 8)]) rfl sc_law.nd rfl rfl (sw_true rfl rfl rfl (by decide +kernel)) (pi_range1 rfl T.z_range (pa_cons pe_int pa_nil)) (blkOk_by (own := [("_law_k", 8)]) (N := n_law) (sc := defScope s_law) (by decide +kernel)) (fun _ _ _ _ _ => (pg_name (i := 8) sc_law.nd rfl (Or.inl rfl))) (fun _ _ _ _ _ => pts_nil) (fun _ _ _ _ _ => (pe_c T_contents hr (by decide) (by rfl) (pa_cons (pv 2) (pa_cons (pv 3) pa_nil)))))
(pss_cons (ps_par (i := 5) (j := 6) rfl sc_law.nd rfl rfl (by decide) rfl rfl (by exact (pa_cons (pe_lc (own := [("_law_text", 9)]) rfl sc_law.nd (pi_list (pv 4)) (blkOk_by (own := [("_law_text", 9)]) (N := n_law) (sc := defScope s_law) (by decide +kernel)) (fun _ _ _ _ _ => (pg_name (i := 9) sc_law.nd rfl (Or.inl rfl))) (fun _ _ _ _ _ => pts_nil) (fun _ _ _ _ _ => (pe_mk T_Box hr (by decide) (by rfl) (pa_cons (pv 9) pa_nil)))) (pa_cons (pe_lst (pa_cons pe_int (pa_cons pe_int (pa_cons pe_int (pa_cons pe_int (pa_cons pe_int pa_nil)))))) pa_nil))) rfl)
(pss_one (ps_for PassesOwn.never rfl (pi_range1 rfl T.z_range (pa_cons (pe_op op_add pe_int (pe_c T_take hr (by decide) (by rfl) (pa_cons (pv 2) (pa_cons pe_int pa_nil)))) pa_nil)) (pg_name (i := 7) sc_law.nd rfl (Or.inl rfl))
(pss_one (ps_if (PW.pt (pw_or (pt_not (pt_val (pe_c T_deed hr (by decide) (by rfl) (pa_cons (pv 2) (pa_cons (pv 5) (pa_cons (pv 6) (pa_cons (pv 4) (pa_cons (pv 3) pa_nil)))))))) (pw_or1 (pt_not (pt_val (pe_c T_is_right hr (by decide) (by rfl) (pa_cons (pv 5) (pa_cons (pv 6) (pa_cons (pv 4) (pa_cons (pv 3) pa_nil))))))))))
(pss_one (ps_ret pe_bl))
pss_nil)))))))))
(pss_one (ps_ret pe_bl))), ?_⟩
    refine ⟨_, rfl, a, _, rfl, .inl hS, _, _, rfl, _, _, rfl, _, rfl, ?_, ?_, for_it walk_range (fun i σ H' => ∃ v1 v2 v3 v4 v5 v6 v7 v8 v9, σ = [some (.ref a), v1, v2, v3, v4, v5, v6, v7, v8, v9] ∧ Same H H')
      ⟨none, none, none, none, none, none, none, none, none, rfl, Same.refl H⟩ (fun _ _ _ _ _ => trivial) ?_ ?_⟩
    · split <;> split <;> omega
    · split <;> split <;> omega
    · rintro i x σ H1 H1' hi ⟨v1, v2, v3, v4, v5, v6, v7, v8, v9, rfl, s1⟩ ⟨rfl, rfl⟩
      have hi2 : i < 63 := by
        revert hi
        split <;> split <;> omega
      refine ⟨_, rfl, _, rfl, a, ns, i, by show [V.ref a, V.int (0 + (i : Int))] = _; rw [Int.zero_add], s1.seq hS, hlen, hi2, fun H2 p q s2 np nq hB => ?_⟩
      have nHp : H p = none := s1.free np
      have s12 := s1.trans s2
      refine ⟨_, rfl, p, q, rfl, hB, fun H3 ml ms b3 hB3 nml hM hsub hms => ?_⟩
      have s13 := same_bar s12 nHp b3
      have nmp : ml ≠ p := hB.there nml
      -- the five texts
      refine ⟨_, rfl, by decide, by decide, fun tl htl => lc_it walk_range (fun j H' => ∃ zs : List Str, zs.length = j ∧ (∀ z ∈ zs, InM ms z) ∧ H' tl = some (.lst (zs.map V.str)) ∧ BagAt H' p q ∧ H' ml = some (.lst (ms.map sg)) ∧ Same H H') ?_ (fun _ _ _ _ => trivial) ?_ ?_⟩
      · exact ⟨[], rfl, fun _ h => (List.not_mem_nil h).elim, upd_same, hB3.same (same_new htl), same_new htl _ _ hM, s13.trans (same_new htl)⟩
      · rintro j x H4 H4' hj ⟨zs, hz, hzc, hD, hB4, hM4, s4⟩ ⟨rfl, rfl⟩
        have ntm : tl ≠ ml := (ne_of_none hM htl).symm
        refine ⟨rfl, ?_⟩
        refine lc_yes ⟨_, rfl, _, rfl, p, q, ml, ms, rfl, hB4, hM4, hsub, nmp, fun H5 z b5 hB5 hzz => ⟨_, b5 _ _ (hB3.there htl) hD, ?_, zs ++ [z], ?_, ?_, ?_, ?_, ?_, ?_⟩⟩
        · rw [List.length_map, hz]
          have : j < 5 := hj
          exact small1000 (by omega)
        · rw [List.length_append, hz]
          rfl
        · intro y hy
          rcases List.mem_append.mp hy with hy | hy
          · exact hzc y hy
          · rw [List.mem_singleton.mp hy]
            exact hzz
        · rw [upd_same, List.map_append]
          rfl
        · exact hB5.bar bar_upd (hB3.there htl).symm (hB3.there2 htl).symm
        · exact (upd_ne ntm.symm).trans (b5 _ _ nmp hM4)
        · exact same_bar (same_bar s4 nHp b5) (s13.free htl) bar_upd
      · rintro H4 ⟨zs, hz, hzc, hT, hB4, hM4, s4⟩
        have hz5 : zs.length = 5 := hz
        have nt : H tl = none := s13.free htl
        -- the five boxes
        refine ⟨_, rfl, tl, rfl, ⟨_, SqL.of hT⟩, fun bl hbl => lc_it (walk_list (xs := zs.map V.str)) (fun j H' => ∃ bs : List Addr, bs.length = j ∧ H' bl = some (.lst (bs.map V.ref)) ∧ Boxes C H' bs (zs.take j) ∧ bs.Nodup ∧ (∀ b ∈ bs, H b = none) ∧
          H' tl = some (.lst (zs.map V.str)) ∧ BagAt H' p q ∧ H' ml = some (.lst (ms.map sg)) ∧ Same H H') ?_ (fun _ _ _ h => by obtain ⟨_, _, _, _, _, _, h, _⟩ := h; exact SqL.of h) ?_ ?_⟩
        · exact ⟨[], rfl, upd_same, ⟨rfl, fun i b z h => by cases h⟩, List.nodup_nil, fun _ h => (List.not_mem_nil h).elim, same_new hbl _ _ hT, hB4.same (same_new hbl), same_new hbl _ _ hM4, s4.trans (same_new hbl)⟩
        · rintro j x H5 H5' hj ⟨bs, hbs, hL, hX, nd, nbs, hT5, hB5, hM5, s5⟩ ⟨rfl, hx⟩
          obtain ⟨z, hzj, rfl⟩ := map_from hx
          have hj5 : j < 5 := by
            have := (List.getElem?_eq_some_iff.mp hzj).1
            omega
          refine ⟨rfl, ?_⟩
          refine lc_yes ⟨_, rfl, fun b db nb ndb nbd => ⟨b, db, z, rfl, upd_same, (hzc z (List.mem_of_getElem? hzj)).isC hsub, fun H6 b6 hb6 => ⟨rfl, ?_⟩⟩⟩
          have t6 := same_made nb ndb b6
          have nbl : bl ≠ b := ne_of_none hL nb
          have nbH : H b = none := s5.free nb
          have nin : b ∉ bs := fun m => by
            obtain ⟨z', dx', e⟩ := hX.mem m
            rw [nb] at e
            cases e
          refine ⟨_, t6 _ _ hL, ?_, bs ++ [b], ?_, ?_, ?_, ?_, ?_, ?_, ?_, ?_, ?_⟩
          · rw [List.length_map, hbs]
            exact small1000 (by omega)
          · rw [List.length_append, hbs]
            rfl
          · rw [upd_same, List.map_append]
            rfl
          · rw [take_snoc hzj]
            exact ((hX.same t6).bar bar_upd (hX.notin hL)).snoc (hb6.bar bar_upd nbl.symm)
          · exact List.nodup_append.mpr ⟨nd, by simp, fun x hx y hy e => nin (by rw [List.mem_singleton.mp hy] at e; exact e ▸ hx)⟩
          · intro y hy
            rcases List.mem_append.mp hy with hy | hy
            · exact nbs y hy
            · rw [List.mem_singleton.mp hy]
              exact nbH
          · exact (upd_ne (ne_of_none hT hbl)).trans (t6 _ _ hT5)
          · exact (hB5.same t6).bar bar_upd (hB4.there hbl).symm (hB4.there2 hbl).symm
          · exact (upd_ne (ne_of_none hM4 hbl)).trans (t6 _ _ hM5)
          · exact same_bar (s5.trans t6) (s4.free hbl) bar_upd
        · rintro H5 ⟨bs, hbs, hL, hX, nd, nbs, hT5, hB5, hM5, s5⟩
          have hb5 : bs.length = 5 := by rw [hbs, List.length_map, hz5]
          have hX5 : Boxes C H5 bs zs := by
            rw [List.take_of_length_le (by rw [List.length_map]; exact Nat.le_refl _)] at hX
            exact hX
          refine ⟨by show 5 ≤ sizeLine; decide, fun hl hhl => ⟨_, _, rfl, ?_⟩⟩
          have W : Lay H p q bl hl tl ml := ⟨nHp, s4.free hbl, s5.free hhl, nt, hB4.there hbl, hB5.there hhl, hB3.there htl, nmp, hB4.there2 hbl, hB5.there2 hhl, hB3.there2 htl, ne_of_none hL hhl, (ne_of_none hT hbl).symm, (ne_of_none hT5 hhl).symm, ne_of_none hM4 hbl, ne_of_none hM5 hhl, ne_of_none hM htl⟩
          have sh := same_new (o := .lst [.int 0, .int 1, .int 2, .int 3, .int 4]) hhl
          have eL : bs.map V.ref = [0, 1, 2, 3, 4].map fun h => V.ref (bs.getD h 0) := by
            match bs, hb5 with
            | [_, _, _, _, _], _ => rfl
          have r6 : WB.Run C H ms p q bl hl tl ml bs [0, 1, 2, 3, 4] zs (upd H5 hl (.lst [.int 0, .int 1, .int 2, .int 3, .int 4])) :=
            ⟨s5.trans sh, hB5.same sh, (sh _ _ hL).trans (congrArg (fun l => some (HO.lst l)) eL), upd_same, sh _ _ hT5, sh _ _ hM5, hX5.same sh, hzc, rfl, fun h hh => by
              rw [hz5]
              simp only [List.mem_cons, List.not_mem_nil, or_false] at hh
              omega, nd, nbs⟩
          refine ⟨_, rfl, p, q, 12, rfl, r6.bag, by decide, by decide, fun H7 d b7 hB7 d0 d1 => ⟨_, _, rfl, rfl, _, rfl, Int.le_trans (by decide : (-2 ^ 62 : Int) ≤ 0) (by omega), Int.lt_trans (by omega : 1 + d < 100) (by decide), for_it walk_range (fun j σ' H' => ∃ ow hs zs v7 v8 v9, σ' = [some (.ref a), some (.int (0 + i)), some (.ref p), some (.ref ml), some (.ref tl), some (.ref bl), some (.ref hl), v7, v8, v9] ∧ WB.Run C H ms p q bl hl tl ml ow hs zs H' ∧ zs.length ≤ 5 + j)
            ⟨bs, _, zs, _, _, _, rfl, r6.draw W b7 hB7, by omega⟩ (fun _ _ _ _ _ => trivial) ?_ ?_⟩⟩
          · rintro j x σ' H8 H8' hj ⟨ow, hs, ys, v7, v8, v9, rfl, r8, l8⟩ ⟨rfl, rfl⟩
            have hj13 : j < 13 := by omega
            exact ⟨_, rfl, _, rfl, _, rfl, _, rfl, _, rfl, H, ms, p, q, bl, hl, tl, ml, ow, hs, ys, rfl, W, hsub, r8, by omega, fun H9 ow' hs' zs' r9 l9 => ⟨true, rfl, iteF ⟨_, rfl, _, rfl, _, rfl, _, rfl, H, ms, p, q, bl, hl, tl, ml, ow', hs', zs', rfl, hsub, r9, fun H10 s10 => ⟨true, rfl, iteF ⟨ow', hs', zs', _, _, _, rfl, r9.same s10, by omega⟩⟩⟩⟩⟩
          · rintro σ' H8 ⟨ow, hs, ys, v7, v8, v9, rfl, r8, l8⟩
            exact ⟨_, _, _, _, _, _, _, _, _, rfl, r8.sm⟩
    · rintro σ H1 ⟨v1, v2, v3, v4, v5, v6, v7, v8, v9, rfl, s1⟩
      exact k H1
end
end W7

set_option Elab.async false
set_option linter.all false
set_option maxRecDepth 100000
set_option maxHeartbeats 4000000
namespace W7
open PySem L2 WB
open C8 (pe_c pe_mk pe_mt pe_mt0 Cal Mak Met)
theorem all_mk {l : PySem.W.OpenLaw} {w : World} {K : PySem.W.Frag} {h : Heap} {mg : Str → Option Value} {fa C_Box C_BadBox f_bag f_take f_either f_both f_without f_exactly_one f_are_contents f_checked f_marks f_contents f_due f_signed f_change f_is_refused f_deed f_is_right f_law f_Box__init T_Box__init f_Box__len f_Box__str f_Box__contains f_Box__or f_Box__and f_Box__sub f_Box__xor f_Box__ior f_Box__iand f_Box__isub f_Box__ixor f_Box_crosses f_Box_become f_Box_copied f_Box_joined f_BadBox__init : Addr} (X : K.In h) (G : h.Ns mainGlobals mg) (hfa : mg "law" = some (.ref fa))
    {od_bag an_bag od_take an_take od_either an_either od_both an_both od_without an_without od_exactly_one an_exactly_one od_are_contents an_are_contents od_checked an_checked od_marks an_marks od_contents an_contents od_due an_due od_signed an_signed od_change an_change od_is_refused an_is_refused od_deed an_deed od_is_right an_is_right od_law an_law od_Box__init an_Box__init od_Box__len an_Box__len od_Box__str an_Box__str od_Box__contains an_Box__contains od_Box__or an_Box__or od_Box__and an_Box__and od_Box__sub an_Box__sub od_Box__xor an_Box__xor od_Box__ior an_Box__ior od_Box__iand an_Box__iand od_Box__isub an_Box__isub od_Box__ixor an_Box__ixor od_Box_crosses an_Box_crosses od_Box_become an_Box_become od_Box_copied an_Box_copied od_Box_joined an_Box_joined od_BadBox__init an_BadBox__init : Option Addr} {sl_bag sl_take sl_either sl_both sl_without sl_exactly_one sl_are_contents sl_checked sl_marks sl_contents sl_due sl_signed sl_change sl_is_refused sl_deed sl_is_right sl_law sl_Box__init sl_Box__len sl_Box__str sl_Box__contains sl_Box__or sl_Box__and sl_Box__sub sl_Box__xor sl_Box__ior sl_Box__iand sl_Box__isub sl_Box__ixor sl_Box_crosses sl_Box_become sl_Box_copied sl_Box_joined sl_BadBox__init : Array (Option Value)} {oc_bag kV_bag dc_bag pm_bag cd_bag ct_bag oc_take kV_take dc_take pm_take cd_take ct_take oc_either kV_either dc_either pm_either cd_either ct_either oc_both kV_both dc_both pm_both cd_both ct_both oc_without kV_without dc_without pm_without cd_without ct_without oc_exactly_one kV_exactly_one dc_exactly_one pm_exactly_one cd_exactly_one ct_exactly_one oc_are_contents kV_are_contents dc_are_contents pm_are_contents cd_are_contents ct_are_contents oc_checked kV_checked dc_checked pm_checked cd_checked ct_checked oc_marks kV_marks dc_marks pm_marks cd_marks ct_marks oc_contents kV_contents dc_contents pm_contents cd_contents ct_contents oc_due kV_due dc_due pm_due cd_due ct_due oc_signed kV_signed dc_signed pm_signed cd_signed ct_signed oc_change kV_change dc_change pm_change cd_change ct_change oc_is_refused kV_is_refused dc_is_refused pm_is_refused cd_is_refused ct_is_refused oc_deed kV_deed dc_deed pm_deed cd_deed ct_deed oc_is_right kV_is_right dc_is_right pm_is_right cd_is_right ct_is_right oc_law kV_law dc_law pm_law cd_law ct_law oc_Box__init kV_Box__init dc_Box__init pm_Box__init cd_Box__init ct_Box__init oc_Box__len kV_Box__len dc_Box__len pm_Box__len cd_Box__len ct_Box__len oc_Box__str kV_Box__str dc_Box__str pm_Box__str cd_Box__str ct_Box__str oc_Box__contains kV_Box__contains dc_Box__contains pm_Box__contains cd_Box__contains ct_Box__contains oc_Box__or kV_Box__or dc_Box__or pm_Box__or cd_Box__or ct_Box__or oc_Box__and kV_Box__and dc_Box__and pm_Box__and cd_Box__and ct_Box__and oc_Box__sub kV_Box__sub dc_Box__sub pm_Box__sub cd_Box__sub ct_Box__sub oc_Box__xor kV_Box__xor dc_Box__xor pm_Box__xor cd_Box__xor ct_Box__xor oc_Box__ior kV_Box__ior dc_Box__ior pm_Box__ior cd_Box__ior ct_Box__ior oc_Box__iand kV_Box__iand dc_Box__iand pm_Box__iand cd_Box__iand ct_Box__iand oc_Box__isub kV_Box__isub dc_Box__isub pm_Box__isub cd_Box__isub ct_Box__isub oc_Box__ixor kV_Box__ixor dc_Box__ixor pm_Box__ixor cd_Box__ixor ct_Box__ixor oc_Box_crosses kV_Box_crosses dc_Box_crosses pm_Box_crosses cd_Box_crosses ct_Box_crosses oc_Box_become kV_Box_become dc_Box_become pm_Box_become cd_Box_become ct_Box_become oc_Box_copied kV_Box_copied dc_Box_copied pm_Box_copied cd_Box_copied ct_Box_copied oc_Box_joined kV_Box_joined dc_Box_joined pm_Box_joined cd_Box_joined ct_Box_joined oc_BadBox__init kV_BadBox__init dc_BadBox__init pm_BadBox__init cd_BadBox__init ct_BadBox__init : Value}  {nmB qB : Str} {NB : Addr} {bsB : List Value} {hdB abB : Bool} {snB : List Str} {subB : List Value} {colB : Option Bool} {ddB : Option Addr} {b0 b1 b2 b3 b5 : Option Value} {nidB : String} {tkM : Tok} {oDT : Option Addr} {nT : Nat} {tkD : Tok} {slT : Array (Option Value)} {cNB : Value} {dNB : Option Addr} {eNB : Array DictEntry} {nNB : Nat} {slNB : Array (Option Value)} {C_WE : Addr} {nmE qE : Str} {NE : Addr} {bsE : List Value} {snE : List Str} {subE : List Value} {abE : Bool} {colE : Option Bool} {ddE : Option Addr} {e0 e1 e2 e3 e5 : Option Value} {pX pJ : Addr} {restX restJ : List Value}
    (aC_Box : PySem.W.nsIn K mainGlobals "Box" = some (some (.ref C_Box)))
    (aC_BadBox : PySem.W.nsIn K mainGlobals "BadBox" = some (some (.ref C_BadBox)))
    (a_bag : PySem.W.nsIn K mainGlobals "_law_bag" = some (some (.ref f_bag)))
    (l_bag : K.lookup f_bag = some ⟨oc_bag, od_bag, .func (PySem.W.fnOf "_law_bag" "_law_bag" (defArgs s_bag) (defBody s_bag) (defScope s_bag) .none kV_bag dc_bag pm_bag an_bag cd_bag ct_bag), sl_bag⟩)
    (c_bag : PySem.W.codeIn K cd_bag "_law_bag" = true)
    (k_bag : PySem.W.keepIn K (.ref f_bag) = true)
    (a_take : PySem.W.nsIn K mainGlobals "_law_take" = some (some (.ref f_take)))
    (l_take : K.lookup f_take = some ⟨oc_take, od_take, .func (PySem.W.fnOf "_law_take" "_law_take" (defArgs s_take) (defBody s_take) (defScope s_take) .none kV_take dc_take pm_take an_take cd_take ct_take), sl_take⟩)
    (c_take : PySem.W.codeIn K cd_take "_law_take" = true)
    (k_take : PySem.W.keepIn K (.ref f_take) = true)
    (a_either : PySem.W.nsIn K mainGlobals "either" = some (some (.ref f_either)))
    (l_either : K.lookup f_either = some ⟨oc_either, od_either, .func (PySem.W.fnOf "either" "either" (defArgs s_either) (defBody s_either) (defScope s_either) .none kV_either dc_either pm_either an_either cd_either ct_either), sl_either⟩)
    (c_either : PySem.W.codeIn K cd_either "either" = true)
    (k_either : PySem.W.keepIn K (.ref f_either) = true)
    (a_both : PySem.W.nsIn K mainGlobals "both" = some (some (.ref f_both)))
    (l_both : K.lookup f_both = some ⟨oc_both, od_both, .func (PySem.W.fnOf "both" "both" (defArgs s_both) (defBody s_both) (defScope s_both) .none kV_both dc_both pm_both an_both cd_both ct_both), sl_both⟩)
    (c_both : PySem.W.codeIn K cd_both "both" = true)
    (k_both : PySem.W.keepIn K (.ref f_both) = true)
    (a_without : PySem.W.nsIn K mainGlobals "without" = some (some (.ref f_without)))
    (l_without : K.lookup f_without = some ⟨oc_without, od_without, .func (PySem.W.fnOf "without" "without" (defArgs s_without) (defBody s_without) (defScope s_without) .none kV_without dc_without pm_without an_without cd_without ct_without), sl_without⟩)
    (c_without : PySem.W.codeIn K cd_without "without" = true)
    (k_without : PySem.W.keepIn K (.ref f_without) = true)
    (a_exactly_one : PySem.W.nsIn K mainGlobals "exactly_one" = some (some (.ref f_exactly_one)))
    (l_exactly_one : K.lookup f_exactly_one = some ⟨oc_exactly_one, od_exactly_one, .func (PySem.W.fnOf "exactly_one" "exactly_one" (defArgs s_exactly_one) (defBody s_exactly_one) (defScope s_exactly_one) .none kV_exactly_one dc_exactly_one pm_exactly_one an_exactly_one cd_exactly_one ct_exactly_one), sl_exactly_one⟩)
    (c_exactly_one : PySem.W.codeIn K cd_exactly_one "exactly_one" = true)
    (k_exactly_one : PySem.W.keepIn K (.ref f_exactly_one) = true)
    (a_are_contents : PySem.W.nsIn K mainGlobals "are_contents" = some (some (.ref f_are_contents)))
    (l_are_contents : K.lookup f_are_contents = some ⟨oc_are_contents, od_are_contents, .func (PySem.W.fnOf "are_contents" "are_contents" (defArgs s_are_contents) (defBody s_are_contents) (defScope s_are_contents) .none kV_are_contents dc_are_contents pm_are_contents an_are_contents cd_are_contents ct_are_contents), sl_are_contents⟩)
    (c_are_contents : PySem.W.codeIn K cd_are_contents "are_contents" = true)
    (k_are_contents : PySem.W.keepIn K (.ref f_are_contents) = true)
    (a_checked : PySem.W.nsIn K mainGlobals "checked" = some (some (.ref f_checked)))
    (l_checked : K.lookup f_checked = some ⟨oc_checked, od_checked, .func (PySem.W.fnOf "checked" "checked" (defArgs s_checked) (defBody s_checked) (defScope s_checked) .none kV_checked dc_checked pm_checked an_checked cd_checked ct_checked), sl_checked⟩)
    (c_checked : PySem.W.codeIn K cd_checked "checked" = true)
    (k_checked : PySem.W.keepIn K (.ref f_checked) = true)
    (a_marks : PySem.W.nsIn K mainGlobals "_law_marks" = some (some (.ref f_marks)))
    (l_marks : K.lookup f_marks = some ⟨oc_marks, od_marks, .func (PySem.W.fnOf "_law_marks" "_law_marks" (defArgs s_marks) (defBody s_marks) (defScope s_marks) .none kV_marks dc_marks pm_marks an_marks cd_marks ct_marks), sl_marks⟩)
    (c_marks : PySem.W.codeIn K cd_marks "_law_marks" = true)
    (k_marks : PySem.W.keepIn K (.ref f_marks) = true)
    (a_contents : PySem.W.nsIn K mainGlobals "_law_contents" = some (some (.ref f_contents)))
    (l_contents : K.lookup f_contents = some ⟨oc_contents, od_contents, .func (PySem.W.fnOf "_law_contents" "_law_contents" (defArgs s_contents) (defBody s_contents) (defScope s_contents) .none kV_contents dc_contents pm_contents an_contents cd_contents ct_contents), sl_contents⟩)
    (c_contents : PySem.W.codeIn K cd_contents "_law_contents" = true)
    (k_contents : PySem.W.keepIn K (.ref f_contents) = true)
    (a_due : PySem.W.nsIn K mainGlobals "_law_due" = some (some (.ref f_due)))
    (l_due : K.lookup f_due = some ⟨oc_due, od_due, .func (PySem.W.fnOf "_law_due" "_law_due" (defArgs s_due) (defBody s_due) (defScope s_due) .none kV_due dc_due pm_due an_due cd_due ct_due), sl_due⟩)
    (c_due : PySem.W.codeIn K cd_due "_law_due" = true)
    (k_due : PySem.W.keepIn K (.ref f_due) = true)
    (a_signed : PySem.W.nsIn K mainGlobals "_law_signed" = some (some (.ref f_signed)))
    (l_signed : K.lookup f_signed = some ⟨oc_signed, od_signed, .func (PySem.W.fnOf "_law_signed" "_law_signed" (defArgs s_signed) (defBody s_signed) (defScope s_signed) .none kV_signed dc_signed pm_signed an_signed cd_signed ct_signed), sl_signed⟩)
    (c_signed : PySem.W.codeIn K cd_signed "_law_signed" = true)
    (k_signed : PySem.W.keepIn K (.ref f_signed) = true)
    (a_change : PySem.W.nsIn K mainGlobals "_law_change" = some (some (.ref f_change)))
    (l_change : K.lookup f_change = some ⟨oc_change, od_change, .func (PySem.W.fnOf "_law_change" "_law_change" (defArgs s_change) (defBody s_change) (defScope s_change) .none kV_change dc_change pm_change an_change cd_change ct_change), sl_change⟩)
    (c_change : PySem.W.codeIn K cd_change "_law_change" = true)
    (k_change : PySem.W.keepIn K (.ref f_change) = true)
    (a_is_refused : PySem.W.nsIn K mainGlobals "_law_is_refused" = some (some (.ref f_is_refused)))
    (l_is_refused : K.lookup f_is_refused = some ⟨oc_is_refused, od_is_refused, .func (PySem.W.fnOf "_law_is_refused" "_law_is_refused" (defArgs s_is_refused) (defBody s_is_refused) (defScope s_is_refused) .none kV_is_refused dc_is_refused pm_is_refused an_is_refused cd_is_refused ct_is_refused), sl_is_refused⟩)
    (c_is_refused : PySem.W.codeIn K cd_is_refused "_law_is_refused" = true)
    (k_is_refused : PySem.W.keepIn K (.ref f_is_refused) = true)
    (a_deed : PySem.W.nsIn K mainGlobals "_law_deed" = some (some (.ref f_deed)))
    (l_deed : K.lookup f_deed = some ⟨oc_deed, od_deed, .func (PySem.W.fnOf "_law_deed" "_law_deed" (defArgs s_deed) (defBody s_deed) (defScope s_deed) .none kV_deed dc_deed pm_deed an_deed cd_deed ct_deed), sl_deed⟩)
    (c_deed : PySem.W.codeIn K cd_deed "_law_deed" = true)
    (k_deed : PySem.W.keepIn K (.ref f_deed) = true)
    (a_is_right : PySem.W.nsIn K mainGlobals "_law_is_right" = some (some (.ref f_is_right)))
    (l_is_right : K.lookup f_is_right = some ⟨oc_is_right, od_is_right, .func (PySem.W.fnOf "_law_is_right" "_law_is_right" (defArgs s_is_right) (defBody s_is_right) (defScope s_is_right) .none kV_is_right dc_is_right pm_is_right an_is_right cd_is_right ct_is_right), sl_is_right⟩)
    (c_is_right : PySem.W.codeIn K cd_is_right "_law_is_right" = true)
    (k_is_right : PySem.W.keepIn K (.ref f_is_right) = true)
    (a_law : PySem.W.nsIn K mainGlobals "law" = some (some (.ref f_law)))
    (l_law : K.lookup f_law = some ⟨oc_law, od_law, .func (PySem.W.fnOf "law" "law" (defArgs s_law) (defBody s_law) (defScope s_law) .none kV_law dc_law pm_law an_law cd_law ct_law), sl_law⟩)
    (c_law : PySem.W.codeIn K cd_law "law" = true)
    (k_law : PySem.W.keepIn K (.ref f_law) = true)
    (a_Box__init : PySem.W.findIn K (.ref C_Box) "__init__" = some (some (.ref f_Box__init)))
    (i_Box__init : PySem.W.isFn K (.ref f_Box__init) = true)
    (l_Box__init : K.lookup f_Box__init = some ⟨oc_Box__init, od_Box__init, .func (PySem.W.fnOf "__init__" "Box.__init__" (defArgs s_Box__init) (defBody s_Box__init) (defScope s_Box__init) (.ref T_Box__init) kV_Box__init dc_Box__init pm_Box__init an_Box__init cd_Box__init ct_Box__init), sl_Box__init⟩)
    (c_Box__init : PySem.W.codeIn K cd_Box__init "Box.__init__" = true)
    (k_Box__init : PySem.W.keepIn K (.ref f_Box__init) = true)
    (d_Box__init : K.lookup T_Box__init = some ⟨.type "tuple", oDT, .seq #[.str "" tkD] nT, slT⟩)
    (a_Box__len : PySem.W.findIn K (.ref C_Box) "__len__" = some (some (.ref f_Box__len)))
    (i_Box__len : PySem.W.isFn K (.ref f_Box__len) = true)
    (l_Box__len : K.lookup f_Box__len = some ⟨oc_Box__len, od_Box__len, .func (PySem.W.fnOf "__len__" "Box.__len__" (defArgs s_Box__len) (defBody s_Box__len) (defScope s_Box__len) .none kV_Box__len dc_Box__len pm_Box__len an_Box__len cd_Box__len ct_Box__len), sl_Box__len⟩)
    (c_Box__len : PySem.W.codeIn K cd_Box__len "Box.__len__" = true)
    (k_Box__len : PySem.W.keepIn K (.ref f_Box__len) = true)
    (a_Box__str : PySem.W.findIn K (.ref C_Box) "__str__" = some (some (.ref f_Box__str)))
    (i_Box__str : PySem.W.isFn K (.ref f_Box__str) = true)
    (l_Box__str : K.lookup f_Box__str = some ⟨oc_Box__str, od_Box__str, .func (PySem.W.fnOf "__str__" "Box.__str__" (defArgs s_Box__str) (defBody s_Box__str) (defScope s_Box__str) .none kV_Box__str dc_Box__str pm_Box__str an_Box__str cd_Box__str ct_Box__str), sl_Box__str⟩)
    (c_Box__str : PySem.W.codeIn K cd_Box__str "Box.__str__" = true)
    (k_Box__str : PySem.W.keepIn K (.ref f_Box__str) = true)
    (a_Box__contains : PySem.W.findIn K (.ref C_Box) "__contains__" = some (some (.ref f_Box__contains)))
    (i_Box__contains : PySem.W.isFn K (.ref f_Box__contains) = true)
    (l_Box__contains : K.lookup f_Box__contains = some ⟨oc_Box__contains, od_Box__contains, .func (PySem.W.fnOf "__contains__" "Box.__contains__" (defArgs s_Box__contains) (defBody s_Box__contains) (defScope s_Box__contains) .none kV_Box__contains dc_Box__contains pm_Box__contains an_Box__contains cd_Box__contains ct_Box__contains), sl_Box__contains⟩)
    (c_Box__contains : PySem.W.codeIn K cd_Box__contains "Box.__contains__" = true)
    (k_Box__contains : PySem.W.keepIn K (.ref f_Box__contains) = true)
    (a_Box__or : PySem.W.findIn K (.ref C_Box) "__or__" = some (some (.ref f_Box__or)))
    (i_Box__or : PySem.W.isFn K (.ref f_Box__or) = true)
    (l_Box__or : K.lookup f_Box__or = some ⟨oc_Box__or, od_Box__or, .func (PySem.W.fnOf "__or__" "Box.__or__" (defArgs s_Box__or) (defBody s_Box__or) (defScope s_Box__or) .none kV_Box__or dc_Box__or pm_Box__or an_Box__or cd_Box__or ct_Box__or), sl_Box__or⟩)
    (c_Box__or : PySem.W.codeIn K cd_Box__or "Box.__or__" = true)
    (k_Box__or : PySem.W.keepIn K (.ref f_Box__or) = true)
    (a_Box__and : PySem.W.findIn K (.ref C_Box) "__and__" = some (some (.ref f_Box__and)))
    (i_Box__and : PySem.W.isFn K (.ref f_Box__and) = true)
    (l_Box__and : K.lookup f_Box__and = some ⟨oc_Box__and, od_Box__and, .func (PySem.W.fnOf "__and__" "Box.__and__" (defArgs s_Box__and) (defBody s_Box__and) (defScope s_Box__and) .none kV_Box__and dc_Box__and pm_Box__and an_Box__and cd_Box__and ct_Box__and), sl_Box__and⟩)
    (c_Box__and : PySem.W.codeIn K cd_Box__and "Box.__and__" = true)
    (k_Box__and : PySem.W.keepIn K (.ref f_Box__and) = true)
    (a_Box__sub : PySem.W.findIn K (.ref C_Box) "__sub__" = some (some (.ref f_Box__sub)))
    (i_Box__sub : PySem.W.isFn K (.ref f_Box__sub) = true)
    (l_Box__sub : K.lookup f_Box__sub = some ⟨oc_Box__sub, od_Box__sub, .func (PySem.W.fnOf "__sub__" "Box.__sub__" (defArgs s_Box__sub) (defBody s_Box__sub) (defScope s_Box__sub) .none kV_Box__sub dc_Box__sub pm_Box__sub an_Box__sub cd_Box__sub ct_Box__sub), sl_Box__sub⟩)
    (c_Box__sub : PySem.W.codeIn K cd_Box__sub "Box.__sub__" = true)
    (k_Box__sub : PySem.W.keepIn K (.ref f_Box__sub) = true)
    (a_Box__xor : PySem.W.findIn K (.ref C_Box) "__xor__" = some (some (.ref f_Box__xor)))
    (i_Box__xor : PySem.W.isFn K (.ref f_Box__xor) = true)
    (l_Box__xor : K.lookup f_Box__xor = some ⟨oc_Box__xor, od_Box__xor, .func (PySem.W.fnOf "__xor__" "Box.__xor__" (defArgs s_Box__xor) (defBody s_Box__xor) (defScope s_Box__xor) .none kV_Box__xor dc_Box__xor pm_Box__xor an_Box__xor cd_Box__xor ct_Box__xor), sl_Box__xor⟩)
    (c_Box__xor : PySem.W.codeIn K cd_Box__xor "Box.__xor__" = true)
    (k_Box__xor : PySem.W.keepIn K (.ref f_Box__xor) = true)
    (a_Box__ior : PySem.W.findIn K (.ref C_Box) "__ior__" = some (some (.ref f_Box__ior)))
    (i_Box__ior : PySem.W.isFn K (.ref f_Box__ior) = true)
    (l_Box__ior : K.lookup f_Box__ior = some ⟨oc_Box__ior, od_Box__ior, .func (PySem.W.fnOf "__ior__" "Box.__ior__" (defArgs s_Box__ior) (defBody s_Box__ior) (defScope s_Box__ior) .none kV_Box__ior dc_Box__ior pm_Box__ior an_Box__ior cd_Box__ior ct_Box__ior), sl_Box__ior⟩)
    (c_Box__ior : PySem.W.codeIn K cd_Box__ior "Box.__ior__" = true)
    (k_Box__ior : PySem.W.keepIn K (.ref f_Box__ior) = true)
    (a_Box__iand : PySem.W.findIn K (.ref C_Box) "__iand__" = some (some (.ref f_Box__iand)))
    (i_Box__iand : PySem.W.isFn K (.ref f_Box__iand) = true)
    (l_Box__iand : K.lookup f_Box__iand = some ⟨oc_Box__iand, od_Box__iand, .func (PySem.W.fnOf "__iand__" "Box.__iand__" (defArgs s_Box__iand) (defBody s_Box__iand) (defScope s_Box__iand) .none kV_Box__iand dc_Box__iand pm_Box__iand an_Box__iand cd_Box__iand ct_Box__iand), sl_Box__iand⟩)
    (c_Box__iand : PySem.W.codeIn K cd_Box__iand "Box.__iand__" = true)
    (k_Box__iand : PySem.W.keepIn K (.ref f_Box__iand) = true)
    (a_Box__isub : PySem.W.findIn K (.ref C_Box) "__isub__" = some (some (.ref f_Box__isub)))
    (i_Box__isub : PySem.W.isFn K (.ref f_Box__isub) = true)
    (l_Box__isub : K.lookup f_Box__isub = some ⟨oc_Box__isub, od_Box__isub, .func (PySem.W.fnOf "__isub__" "Box.__isub__" (defArgs s_Box__isub) (defBody s_Box__isub) (defScope s_Box__isub) .none kV_Box__isub dc_Box__isub pm_Box__isub an_Box__isub cd_Box__isub ct_Box__isub), sl_Box__isub⟩)
    (c_Box__isub : PySem.W.codeIn K cd_Box__isub "Box.__isub__" = true)
    (k_Box__isub : PySem.W.keepIn K (.ref f_Box__isub) = true)
    (a_Box__ixor : PySem.W.findIn K (.ref C_Box) "__ixor__" = some (some (.ref f_Box__ixor)))
    (i_Box__ixor : PySem.W.isFn K (.ref f_Box__ixor) = true)
    (l_Box__ixor : K.lookup f_Box__ixor = some ⟨oc_Box__ixor, od_Box__ixor, .func (PySem.W.fnOf "__ixor__" "Box.__ixor__" (defArgs s_Box__ixor) (defBody s_Box__ixor) (defScope s_Box__ixor) .none kV_Box__ixor dc_Box__ixor pm_Box__ixor an_Box__ixor cd_Box__ixor ct_Box__ixor), sl_Box__ixor⟩)
    (c_Box__ixor : PySem.W.codeIn K cd_Box__ixor "Box.__ixor__" = true)
    (k_Box__ixor : PySem.W.keepIn K (.ref f_Box__ixor) = true)
    (aX : PySem.W.findIn K (.ref C_Box) "crosses" = some (some (.ref pX)))
    (gX : PySem.W.specialIn K (.ref pX) "__get__" = some (some (.builtin "property.__get__")))
    (tX : PySem.W.takesIn K (.ref pX) = some true)
    (rX : PySem.W.recIn K pX "property" = some (.ref f_Box_crosses :: restX))
    (l_Box_crosses : K.lookup f_Box_crosses = some ⟨oc_Box_crosses, od_Box_crosses, .func (PySem.W.fnOf "crosses" "Box.crosses" (defArgs s_Box_crosses) (defBody s_Box_crosses) (defScope s_Box_crosses) .none kV_Box_crosses dc_Box_crosses pm_Box_crosses an_Box_crosses cd_Box_crosses ct_Box_crosses), sl_Box_crosses⟩)
    (c_Box_crosses : PySem.W.codeIn K cd_Box_crosses "Box.crosses" = true)
    (k_Box_crosses : PySem.W.keepIn K (.ref f_Box_crosses) = true)
    (a_Box_become : PySem.W.findIn K (.ref C_Box) "become" = some (some (.ref f_Box_become)))
    (i_Box_become : PySem.W.isFn K (.ref f_Box_become) = true)
    (l_Box_become : K.lookup f_Box_become = some ⟨oc_Box_become, od_Box_become, .func (PySem.W.fnOf "become" "Box.become" (defArgs s_Box_become) (defBody s_Box_become) (defScope s_Box_become) .none kV_Box_become dc_Box_become pm_Box_become an_Box_become cd_Box_become ct_Box_become), sl_Box_become⟩)
    (c_Box_become : PySem.W.codeIn K cd_Box_become "Box.become" = true)
    (k_Box_become : PySem.W.keepIn K (.ref f_Box_become) = true)
    (a_Box_copied : PySem.W.findIn K (.ref C_Box) "copied" = some (some (.ref f_Box_copied)))
    (i_Box_copied : PySem.W.isFn K (.ref f_Box_copied) = true)
    (l_Box_copied : K.lookup f_Box_copied = some ⟨oc_Box_copied, od_Box_copied, .func (PySem.W.fnOf "copied" "Box.copied" (defArgs s_Box_copied) (defBody s_Box_copied) (defScope s_Box_copied) .none kV_Box_copied dc_Box_copied pm_Box_copied an_Box_copied cd_Box_copied ct_Box_copied), sl_Box_copied⟩)
    (c_Box_copied : PySem.W.codeIn K cd_Box_copied "Box.copied" = true)
    (k_Box_copied : PySem.W.keepIn K (.ref f_Box_copied) = true)
    (stJ : PySem.W.findCls K (.ref C_Box) (.type "type") "joined" = some (.get (.builtin "staticmethod.__get__") (.ref pJ) .none (.ref C_Box)))
    (rcJ : PySem.W.recIn K pJ "staticmethod" = some (.ref f_Box_joined :: restJ))
    (rdB : PySem.W.readsIn K C_Box (.type "type") = true)
    (tgB : PySem.W.specialIn K (.ref C_Box) "__getattribute__" = some (some (.builtin "type.__getattribute__")))
    (l_Box_joined : K.lookup f_Box_joined = some ⟨oc_Box_joined, od_Box_joined, .func (PySem.W.fnOf "joined" "Box.joined" (defArgs s_Box_joined) (defBody s_Box_joined) (defScope s_Box_joined) .none kV_Box_joined dc_Box_joined pm_Box_joined an_Box_joined cd_Box_joined ct_Box_joined), sl_Box_joined⟩)
    (c_Box_joined : PySem.W.codeIn K cd_Box_joined "Box.joined" = true)
    (k_Box_joined : PySem.W.keepIn K (.ref f_Box_joined) = true)
    (a_BadBox__init : PySem.W.findIn K (.ref C_BadBox) "__init__" = some (some (.ref f_BadBox__init)))
    (i_BadBox__init : PySem.W.isFn K (.ref f_BadBox__init) = true)
    (l_BadBox__init : K.lookup f_BadBox__init = some ⟨oc_BadBox__init, od_BadBox__init, .func (PySem.W.fnOf "__init__" "BadBox.__init__" (defArgs s_BadBox__init) (defBody s_BadBox__init) (defScope s_BadBox__init) .none kV_BadBox__init dc_BadBox__init pm_BadBox__init an_BadBox__init cd_BadBox__init ct_BadBox__init), sl_BadBox__init⟩)
    (c_BadBox__init : PySem.W.codeIn K cd_BadBox__init "BadBox.__init__" = true)
    (k_BadBox__init : PySem.W.keepIn K (.ref f_BadBox__init) = true)
    (gM : PySem.W.nsIn K mainGlobals "MARKS" = some (some (.str "ABCDEFGHIJKLMNOPQRSTUVWXYZabcdefghijklmnopqrstuvwxyz" tkM)))
    (z_len : PySem.W.nsIn K mainGlobals "len" = some none)
    (z_abs : PySem.W.nsIn K mainGlobals "abs" = some none)
    (z_list : PySem.W.nsIn K mainGlobals "list" = some none)
    (z_int : PySem.W.nsIn K mainGlobals "int" = some none)
    (z_isinstance : PySem.W.nsIn K mainGlobals "isinstance" = some none)
    (z_str : PySem.W.nsIn K mainGlobals "str" = some none)
    (z_range : PySem.W.nsIn K mainGlobals "range" = some none)
    (z_max : PySem.W.nsIn K mainGlobals "max" = some none)
    (z_min : PySem.W.nsIn K mainGlobals "min" = some none)
    (z_any : PySem.W.nsIn K mainGlobals "any" = some none)
    (z_enumerate : PySem.W.nsIn K mainGlobals "enumerate" = some none)
    (pgB : PySem.W.plainGet K C_Box Str.empty = true)
    (hdB_ : PySem.W.hasDictIn K C_Box = true)
    (poB : PySem.W.plainOver K C_Box = true)
    (saB : PySem.W.findIn K (.ref C_Box) "__setattr__" = some (some (.builtin "object.__setattr__")))
    (mkB : PySem.W.makesIn K C_Box = true)
    (kcB : PySem.W.keepIn K (.ref C_Box) = true)
    (nCB : PySem.W.findIn K (.ref C_Box) "contents" = some none)
    (xLB : K.lookup C_Box = some (excClassObj nmB qB C_Box NB bsB [.type "object"] hdB snB subB abB colB ddB b0 b1 b2 b3 b5 nidB))
    (lNB : K.lookup NB = some ⟨cNB, dNB, .dict eNB nNB, slNB⟩)
    (okNB : (eNB.toList.all fun e => match e.key with | .str _ _ => true | _ => false) = true)
    (neqB : PySem.W.nsIn K NB "__eq__" = some none)
    (nneB : PySem.W.nsIn K NB "__ne__" = some none)
    (caB : PySem.W.findIn K (.ref C_Box) "__class__" = some (some (.builtin "object.__class__")))
    (cnB : PySem.W.specialIn K (.builtin "object.__class__") "__get__" = some (some (.builtin "getset_descriptor.__get__")))
    (ctB : PySem.W.takesIn K (.builtin "object.__class__") = some true)
    (cmB : PySem.W.mroIn K C_Box (.type "object") = some true)
    (sfB : PySem.W.selfFirst K C_Box = true)
    (xLE : K.lookup C_BadBox = some (excClassObj nmE qE C_BadBox NE bsE [.ref C_WE, .type "ValueError", .type "Exception", .type "BaseException", .type "object"] true snE subE abE colE ddE e0 e1 e2 e3 e5 "ValueError.__new__"))
    (saE : PySem.W.findIn K (.ref C_BadBox) "__setattr__" = some (some (.builtin "object.__setattr__")))
    (exE : PySem.W.subIn K (.ref C_BadBox) (.type "BaseException") = some true)
    (tyE : PySem.W.typeIn K (.ref C_BadBox) = some (.type "type"))
    (kcE : PySem.W.keepIn K (.ref C_BadBox) = true)
    (gaE : PySem.W.findIn K (.ref C_BadBox) "__getattribute__" = some (some (.builtin "BaseException.__getattribute__")))
    (ggE : PySem.W.findIn K (.ref C_BadBox) "__getattr__" = some none)
    (hdE_ : PySem.W.hasDictIn K C_BadBox = true)
    (nCE : PySem.W.findIn K (.ref C_BadBox) "contents" = some none)
    (icE : PySem.W.isClsIn K C_BadBox = true)
    (scE : PySem.W.subIn K (.ref C_BadBox) (.ref C_BadBox) = some true)
    : ∃ fd : FuncData, (∀ (s : Shared) (v : Value), BindsTo s fd ⟨[v], []⟩ [("_law_script", v)]) ∧ ∀ base : Heap, K.In base → base.Ns mainGlobals mg → FnOk l.prog w K mg base CX0 9 fa fd ["_law_script"] (spLaw K) := by
  have e := hfa.symm.trans (PySem.W.mg_of X G a_law)
  cases e
  have F_bag := fun_mk (st := s_bag) l_bag c_bag k_bag
  have b_bag := F_bag.binds (ps := ["_law_script", "_law_at"]) fun _ _ _ _ _ _ us hl => match us, hl with | [_, _], _ => rfl
  have g_bag := PySem.W.mg_of X G a_bag
  have F_take := fun_mk (st := s_take) l_take c_take k_take
  have b_take := F_take.binds (ps := ["_law_bag_here", "_law_many"]) fun _ _ _ _ _ _ us hl => match us, hl with | [_, _], _ => rfl
  have g_take := PySem.W.mg_of X G a_take
  have F_either := fun_mk (st := s_either) l_either c_either k_either
  have b_either := F_either.binds (ps := ["one", "other"]) fun _ _ _ _ _ _ us hl => match us, hl with | [_, _], _ => rfl
  have g_either := PySem.W.mg_of X G a_either
  have F_both := fun_mk (st := s_both) l_both c_both k_both
  have b_both := F_both.binds (ps := ["one", "other"]) fun _ _ _ _ _ _ us hl => match us, hl with | [_, _], _ => rfl
  have g_both := PySem.W.mg_of X G a_both
  have F_without := fun_mk (st := s_without) l_without c_without k_without
  have b_without := F_without.binds (ps := ["one", "other"]) fun _ _ _ _ _ _ us hl => match us, hl with | [_, _], _ => rfl
  have g_without := PySem.W.mg_of X G a_without
  have F_exactly_one := fun_mk (st := s_exactly_one) l_exactly_one c_exactly_one k_exactly_one
  have b_exactly_one := F_exactly_one.binds (ps := ["one", "other"]) fun _ _ _ _ _ _ us hl => match us, hl with | [_, _], _ => rfl
  have g_exactly_one := PySem.W.mg_of X G a_exactly_one
  have F_are_contents := fun_mk (st := s_are_contents) l_are_contents c_are_contents k_are_contents
  have b_are_contents := F_are_contents.binds (ps := ["thing"]) fun _ _ _ _ _ _ us hl => match us, hl with | [_], _ => rfl
  have g_are_contents := PySem.W.mg_of X G a_are_contents
  have F_checked := fun_mk (st := s_checked) l_checked c_checked k_checked
  have b_checked := F_checked.binds (ps := ["contents"]) fun _ _ _ _ _ _ us hl => match us, hl with | [_], _ => rfl
  have g_checked := PySem.W.mg_of X G a_checked
  have F_marks := fun_mk (st := s_marks) l_marks c_marks k_marks
  have b_marks := F_marks.binds (ps := ["_law_bag_here"]) fun _ _ _ _ _ _ us hl => match us, hl with | [_], _ => rfl
  have g_marks := PySem.W.mg_of X G a_marks
  have F_contents := fun_mk (st := s_contents) l_contents c_contents k_contents
  have b_contents := F_contents.binds (ps := ["_law_bag_here", "_law_marks_here"]) fun _ _ _ _ _ _ us hl => match us, hl with | [_, _], _ => rfl
  have g_contents := PySem.W.mg_of X G a_contents
  have F_due := fun_mk (st := s_due) l_due c_due k_due
  have b_due := F_due.binds (ps := ["_law_sign", "_law_one", "_law_other", "_law_marks_here"]) fun _ _ _ _ _ _ us hl => match us, hl with | [_, _, _, _], _ => rfl
  have g_due := PySem.W.mg_of X G a_due
  have F_signed := fun_mk (st := s_signed) l_signed c_signed k_signed
  have b_signed := F_signed.binds (ps := ["_law_sign", "_law_one", "_law_other"]) fun _ _ _ _ _ _ us hl => match us, hl with | [_, _, _], _ => rfl
  have g_signed := PySem.W.mg_of X G a_signed
  have F_change := fun_mk (st := s_change) l_change c_change k_change
  have b_change := F_change.binds (ps := ["_law_sign", "_law_boxes", "_law_k", "_law_other"]) fun _ _ _ _ _ _ us hl => match us, hl with | [_, _, _, _], _ => rfl
  have g_change := PySem.W.mg_of X G a_change
  have F_is_refused := fun_mk (st := s_is_refused) l_is_refused c_is_refused k_is_refused
  have b_is_refused := F_is_refused.binds (ps := ["_law_box"]) fun _ _ _ _ _ _ us hl => match us, hl with | [_], _ => rfl
  have g_is_refused := PySem.W.mg_of X G a_is_refused
  have F_deed := fun_mk (st := s_deed) l_deed c_deed k_deed
  have b_deed := F_deed.binds (ps := ["_law_bag_here", "_law_boxes", "_law_held", "_law_texts", "_law_marks_here"]) fun _ _ _ _ _ _ us hl => match us, hl with | [_, _, _, _, _], _ => rfl
  have g_deed := PySem.W.mg_of X G a_deed
  have F_is_right := fun_mk (st := s_is_right) l_is_right c_is_right k_is_right
  have b_is_right := F_is_right.binds (ps := ["_law_boxes", "_law_held", "_law_texts", "_law_marks_here"]) fun _ _ _ _ _ _ us hl => match us, hl with | [_, _, _, _], _ => rfl
  have g_is_right := PySem.W.mg_of X G a_is_right
  have F_law := fun_mk (st := s_law) l_law c_law k_law
  have b_law := F_law.binds (ps := ["_law_script"]) fun _ _ _ _ _ _ us hl => match us, hl with | [_], _ => rfl
  have g_law := PySem.W.mg_of X G a_law
  have F_Box__len := fun_mk (st := s_Box__len) l_Box__len c_Box__len k_Box__len
  have b_Box__len := F_Box__len.binds (ps := ["self"]) fun _ _ _ _ _ _ us hl => match us, hl with | [_], _ => rfl
  have F_Box__str := fun_mk (st := s_Box__str) l_Box__str c_Box__str k_Box__str
  have b_Box__str := F_Box__str.binds (ps := ["self"]) fun _ _ _ _ _ _ us hl => match us, hl with | [_], _ => rfl
  have F_Box__contains := fun_mk (st := s_Box__contains) l_Box__contains c_Box__contains k_Box__contains
  have b_Box__contains := F_Box__contains.binds (ps := ["self", "thing"]) fun _ _ _ _ _ _ us hl => match us, hl with | [_, _], _ => rfl
  have F_Box__or := fun_mk (st := s_Box__or) l_Box__or c_Box__or k_Box__or
  have b_Box__or := F_Box__or.binds (ps := ["self", "other"]) fun _ _ _ _ _ _ us hl => match us, hl with | [_, _], _ => rfl
  have F_Box__and := fun_mk (st := s_Box__and) l_Box__and c_Box__and k_Box__and
  have b_Box__and := F_Box__and.binds (ps := ["self", "other"]) fun _ _ _ _ _ _ us hl => match us, hl with | [_, _], _ => rfl
  have F_Box__sub := fun_mk (st := s_Box__sub) l_Box__sub c_Box__sub k_Box__sub
  have b_Box__sub := F_Box__sub.binds (ps := ["self", "other"]) fun _ _ _ _ _ _ us hl => match us, hl with | [_, _], _ => rfl
  have F_Box__xor := fun_mk (st := s_Box__xor) l_Box__xor c_Box__xor k_Box__xor
  have b_Box__xor := F_Box__xor.binds (ps := ["self", "other"]) fun _ _ _ _ _ _ us hl => match us, hl with | [_, _], _ => rfl
  have F_Box__ior := fun_mk (st := s_Box__ior) l_Box__ior c_Box__ior k_Box__ior
  have b_Box__ior := F_Box__ior.binds (ps := ["self", "other"]) fun _ _ _ _ _ _ us hl => match us, hl with | [_, _], _ => rfl
  have F_Box__iand := fun_mk (st := s_Box__iand) l_Box__iand c_Box__iand k_Box__iand
  have b_Box__iand := F_Box__iand.binds (ps := ["self", "other"]) fun _ _ _ _ _ _ us hl => match us, hl with | [_, _], _ => rfl
  have F_Box__isub := fun_mk (st := s_Box__isub) l_Box__isub c_Box__isub k_Box__isub
  have b_Box__isub := F_Box__isub.binds (ps := ["self", "other"]) fun _ _ _ _ _ _ us hl => match us, hl with | [_, _], _ => rfl
  have F_Box__ixor := fun_mk (st := s_Box__ixor) l_Box__ixor c_Box__ixor k_Box__ixor
  have b_Box__ixor := F_Box__ixor.binds (ps := ["self", "other"]) fun _ _ _ _ _ _ us hl => match us, hl with | [_, _], _ => rfl
  have F_Box_crosses := fun_mk (st := s_Box_crosses) l_Box_crosses c_Box_crosses k_Box_crosses
  have b_Box_crosses := F_Box_crosses.binds (ps := ["self"]) fun _ _ _ _ _ _ us hl => match us, hl with | [_], _ => rfl
  have F_Box_become := fun_mk (st := s_Box_become) l_Box_become c_Box_become k_Box_become
  have b_Box_become := F_Box_become.binds (ps := ["self", "contents"]) fun _ _ _ _ _ _ us hl => match us, hl with | [_, _], _ => rfl
  have F_Box_copied := fun_mk (st := s_Box_copied) l_Box_copied c_Box_copied k_Box_copied
  have b_Box_copied := F_Box_copied.binds (ps := ["self"]) fun _ _ _ _ _ _ us hl => match us, hl with | [_], _ => rfl
  have F_Box_joined := fun_mk (st := s_Box_joined) l_Box_joined c_Box_joined k_Box_joined
  have F_BadBox__init := fun_mk (st := s_BadBox__init) l_BadBox__init c_BadBox__init k_BadBox__init
  have b_BadBox__init := F_BadBox__init.binds (ps := ["self", "contents"]) fun _ _ _ _ _ _ us hl => match us, hl with | [_, _], _ => rfl
  have T : Top K mg := { z_len := PySem.W.mg_none_of X G z_len, z_abs := PySem.W.mg_none_of X G z_abs, z_list := PySem.W.mg_none_of X G z_list, z_int := PySem.W.mg_none_of X G z_int, z_isinstance := PySem.W.mg_none_of X G z_isinstance, z_str := PySem.W.mg_none_of X G z_str, z_range := PySem.W.mg_none_of X G z_range, z_max := PySem.W.mg_none_of X G z_max, z_min := PySem.W.mg_none_of X G z_min, z_any := PySem.W.mg_none_of X G z_any, z_enumerate := PySem.W.mg_none_of X G z_enumerate, g_MARKS := ⟨_, PySem.W.mg_of X G gM, ⟨_, rfl⟩⟩ }
  have B : BoxC K mg C_Box := { cl := ⟨pgB, hdB_, poB, saB⟩, nC := nCB, gB := ⟨_, PySem.W.mg_of X G aC_Box, rfl⟩, eq := ⟨nmB, qB, NB, bsB, hdB, snB, subB, abB, colB, ddB, b0, b1, b2, b3, b5, nidB, xLB, nsOk_of lNB okNB, neqB, nneB⟩, ca := caB, cn := cnB, ct := ctB, cm := cmB, kit := kit_self }
  have FI : FunD K "__init__" "Box.__init__" (defArgs s_Box__init) (defBody s_Box__init) (defScope s_Box__init) [.str ""] [] f_Box__init _ :=
    ⟨⟨_, _, _, _, _, _, _, _, _, _, rfl, l_Box__init, c_Box__init, .inr ⟨by simp, _, _, [.str "" tkD], _, rfl, d_Box__init, rfl, .cons ⟨_, rfl⟩ .nil⟩, .inl rfl⟩, k_Box__init⟩
  obtain ⟨ds2, dr2, bI2⟩ := FI.binds1 (ps := ["self", "contents"]) 2 1 (by simp) rfl (fun T kV doc pm an cdv ct us its hl hi => match us, hl, its, hi with | [_, _], _, [_], _ => ⟨_, rfl, rfl⟩)
  refine ⟨PySem.W.fnOf "law" "law" (defArgs s_law) (defBody s_law) (defScope s_law) .none kV_law dc_law pm_law an_law cd_law ct_law, fun s v => .of_eq rfl, fun base KB GB => ?_⟩
  have T_take := calOf F_take g_take b_take (ok_take (P := l.prog) (w := w) (base := base) F_take T)
  have T_bag := calOf F_bag g_bag b_bag (ok_bag (P := l.prog) (w := w) (base := base) F_bag T)
  have T_either := calOf F_either g_either b_either (ok_either (P := l.prog) (w := w) (base := base) F_either T)
  have T_both := calOf F_both g_both b_both (ok_both (P := l.prog) (w := w) (base := base) F_both T)
  have T_without := calOf F_without g_without b_without (ok_without (P := l.prog) (w := w) (base := base) F_without T)
  have T_exactly_one := calOf F_exactly_one g_exactly_one b_exactly_one (ok_exactly (P := l.prog) (w := w) (base := base) F_exactly_one T_either T_without)
  have T_are_contents := calOf F_are_contents g_are_contents b_are_contents (ok_are (P := l.prog) (w := w) (base := base) F_are_contents T T_either)
  have BT : BadT K mg C_BadBox := { ox := { cls := ⟨nmE, qE, NE, bsE, _, snE, subE, abE, colE, ddE, e0, e1, e2, e3, e5, xLE, by show PySem.HandSPX.refsVE [.type "ValueError", .type "Exception", .type "BaseException", .type "object"] = true; decide +kernel⟩, sa := saE, exC := exE, tyC := tyE, kC := kcE }, xf := ⟨gaE, ggE, exE, hdE_⟩, no := nCE, g := PySem.W.mg_of X G aC_BadBox, te := exm_me exE icE tyE scE }
  have BB : BadC l.prog w K mg base C_BadBox := ⟨BT, ⟨f_BadBox__init, _, a_BadBox__init, beq_iff_eq.mp i_BadBox__init, ok_bad F_BadBox__init BT, b_BadBox__init⟩⟩
  cases dr2
  have T_checked : CalX l.prog w K mg base 3 "checked" (spCheckX K C_BadBox) := ⟨f_checked, _, _, ok_checkX F_checked T_are_contents BB, g_checked, F_checked.kp, b_checked⟩
  have G_initX := ok_initX (P := l.prog) (w := w) (base := base) FI B T_checked
  have T_Box : Mak l.prog w K mg base 4 "Box" C_Box (spInit C_Box) [] := ⟨f_Box__init, _, _, [], ⟨mkB, a_Box__init, i_Box__init, kcB⟩, fnok_quiet G_initX init_quiet, PySem.W.mg_of X G aC_Box, bI2, .nil⟩
  have G_becomeX := ok_becomeX (P := l.prog) (w := w) (base := base) F_Box_become B T_checked
  have T_becomeX : MetX l.prog w K mg base 4 C_Box "become" (spBecomeX K C_Box C_BadBox) "contents" := ⟨_, _, _, B.cl, ⟨a_Box_become, i_Box_become, k_Box_become⟩, ok_becomeX F_Box_become B T_checked, b_Box_become, fun_kb F_Box_become (ks := ["contents"]) (ps := ["self", "contents"]) fun _ _ _ _ _ _ us ws h1 h2 => match us, h1, ws, h2 with | [_], _, [_], _ => rfl⟩
  have T_Box_become : Met l.prog w K mg base 4 C_Box "become" (spBecome C_Box) [] := ⟨_, _, _, [], B.cl, ⟨a_Box_become, i_Box_become, k_Box_become⟩, fnok_quiet G_becomeX become_quiet, b_Box_become, .nil⟩
  have O_len : Own l.prog w K mg base 1 C_Box "__len__" (spLen C_Box) := ⟨_, _, _, a_Box__len, i_Box__len, ok_len F_Box__len T B, b_Box__len⟩
  have O_str : Own l.prog w K mg base 1 C_Box "__str__" (spStr C_Box) := ⟨_, _, _, a_Box__str, i_Box__str, ok_str F_Box__str T B, b_Box__str⟩
  have O_contains : Own l.prog w K mg base 1 C_Box "__contains__" (spHas K C_Box) := ⟨_, _, _, a_Box__contains, i_Box__contains, ok_has F_Box__contains T B, b_Box__contains⟩
  have O_crosses : OwnProp l.prog w K mg base 1 C_Box "crosses" (spCross C_Box) := ⟨pX, _, _, _, ⟨aX, gX, tX, ⟨restX, rX⟩⟩, ok_cross F_Box_crosses T B, b_Box_crosses⟩
  have T_Box_copied : Met l.prog w K mg base 6 C_Box "copied" (spCopied C_Box) [] := ⟨_, _, _, [], B.cl, ⟨a_Box_copied, i_Box_copied, k_Box_copied⟩, ok_copied F_Box_copied B T_Box, b_Box_copied, .nil⟩
  have ST : StatC K mg "Box" C_Box "joined" f_Box_joined := ⟨PySem.W.mg_of X G aC_Box, rdB, tgB, ⟨pJ, restJ, stJ, rcJ⟩, k_Box_joined⟩
  have FJ := ok_joinedS (P := l.prog) (w := w) (base := base) F_Box_joined B T_either T_Box
  have T_or : Sgn l.prog w K mg base 6 C_Box .BitOr (spSign C_Box or) := ⟨_, _, _, ⟨sfB, a_Box__or, i_Box__or⟩, ok_or F_Box__or B T_either T_Box, b_Box__or⟩
  have T_and : Sgn l.prog w K mg base 6 C_Box .BitAnd (spSign C_Box and) := ⟨_, _, _, ⟨sfB, a_Box__and, i_Box__and⟩, ok_and F_Box__and B T_both T_Box, b_Box__and⟩
  have T_sub : Sgn l.prog w K mg base 6 C_Box .Sub (spSign C_Box fun p q => p && !q) := ⟨_, _, _, ⟨sfB, a_Box__sub, i_Box__sub⟩, ok_sub F_Box__sub B T_without T_Box, b_Box__sub⟩
  have T_xor : Sgn l.prog w K mg base 6 C_Box .BitXor (spSign C_Box fun p q => p != q) := ⟨_, _, _, ⟨sfB, a_Box__xor, i_Box__xor⟩, ok_xor F_Box__xor B T_exactly_one T_Box, b_Box__xor⟩
  have T_ior : ISgn l.prog w K mg base 4 C_Box .BitOr (spISign C_Box or) := ⟨_, _, _, ⟨sfB, a_Box__ior, i_Box__ior⟩, ok_ior F_Box__ior B T_either, b_Box__ior⟩
  have T_iand : ISgn l.prog w K mg base 4 C_Box .BitAnd (spISign C_Box and) := ⟨_, _, _, ⟨sfB, a_Box__iand, i_Box__iand⟩, ok_iand F_Box__iand B T_both, b_Box__iand⟩
  have T_isub : ISgn l.prog w K mg base 4 C_Box .Sub (spISign C_Box fun p q => p && !q) := ⟨_, _, _, ⟨sfB, a_Box__isub, i_Box__isub⟩, ok_isub F_Box__isub B T_without, b_Box__isub⟩
  have T_ixor : ISgn l.prog w K mg base 4 C_Box .BitXor (spISign C_Box fun p q => p != q) := ⟨_, _, _, ⟨sfB, a_Box__ixor, i_Box__ixor⟩, ok_ixor F_Box__ixor B T_exactly_one, b_Box__ixor⟩
  have T_due := calOf F_due g_due b_due (ok_due (P := l.prog) (w := w) (base := base) F_due T)
  have T_marks := calOf F_marks g_marks b_marks (ok_marks (P := l.prog) (w := w) (base := base) F_marks T T_take)
  have T_contents := calOf F_contents g_contents b_contents (ok_contM (P := l.prog) (w := w) (base := base) F_contents T T_take)
  have T_signed := calOf F_signed g_signed b_signed (ok_signedN (P := l.prog) (w := w) (base := base) F_signed T_or T_and T_sub T_xor)
  have T_change := calOf F_change g_change b_change (ok_changeN (P := l.prog) (w := w) (base := base) F_change T_ior T_iand T_isub T_ixor)
  have T_is_refused := calOf F_is_refused g_is_refused b_is_refused (ok_refused (P := l.prog) (w := w) (base := base) F_is_refused BB T_becomeX)
  have T_deed := calOf F_deed g_deed b_deed (ok_deed (P := l.prog) (w := w) (base := base) F_deed T B T_take T_contents T_due T_signed T_change T_is_refused ST FJ T_Box_become T_Box_copied)
  have T_is_right := calOf F_is_right g_is_right b_is_right (ok_is_right (P := l.prog) (w := w) (base := base) F_is_right T B O_contains O_len O_str O_crosses)
  exact ok_law F_law T B T_bag T_take T_marks T_contents T_Box T_deed T_is_right

theorem walk {l : PySem.W.OpenLaw} {q : Program} {loose : List Str} {XP : (Str → Option Value) → Heap → Prop} {YP : World → Heap → Prop} {d : DefRec} {K : Params → PySem.W.Frag} (hn : l.most = some 63) (hdf : d.params.defaults = [])
    (hY : ∀ (w : World) (h : Heap), YP w h → (K w.params).In h)
    (F : ∀ (w : World) (mg : Str → Option Value) (fa : Addr) (h : Heap), (K w.params).In h → h.Ns mainGlobals mg → mg d.name = some (.ref fa) →
      ∃ fd : FuncData, (∀ (s : Shared) (u : Value), BindsTo s fd ⟨[u], []⟩ [("_law_script", u)]) ∧ ∀ base : Heap, (K w.params).In base → base.Ns mainGlobals mg → FnOk l.prog w (K w.params) mg base CX0 9 fa fd ["_law_script"] (spLaw (K w.params))) :
    PySem.W.WalkO q loose XP YP l.row.toRowW d [] (fun f vs => PySem.call f vs) :=
  L2.walk_of (n := 63) (k := 9) (x := "_law_script") (CX := fun _ => CX0) (sp := fun w => spLaw (K w.params)) hn (by decide) hdf ⟨rfl, by decide, by decide⟩ hY F (fun _ _ a ns hl _ hS => ⟨a, ns, rfl, hS, hl, fun _ => rfl⟩) fun _ _ _ _ _ z => z
-- 63

end W7
open PySem PySem.W PyProof.Rows in
set_option maxRecDepth 100000 in
set_option maxHeartbeats 0 in
theorem PySem.Challenge.cw_workerworlds_k07_whole_runs_of_boxes_holds : PySem.Challenge.rw_workerworlds_k07_whole_runs_of_boxes.Holds := by
  w_on; o_law; k_head; (case hw => w_witness2)
  k_fill
  refine W7.walk (l := PySem.Challenge.rw_workerworlds_k07_whole_runs_of_boxes) rfl rfl (fun w h Y => PySem.W.kIn_of Y) ?F
  case F =>
    intro w mg fa h KX G hmg
    refine' W7.all_mk KX G hmg ?aC_Box ?aC_BadBox ?a_bag ?l_bag ?c_bag ?k_bag ?a_take ?l_take ?c_take ?k_take ?a_either ?l_either ?c_either ?k_either ?a_both ?l_both ?c_both ?k_both ?a_without ?l_without ?c_without ?k_without ?a_exactly_one ?l_exactly_one ?c_exactly_one ?k_exactly_one ?a_are_contents ?l_are_contents ?c_are_contents ?k_are_contents ?a_checked ?l_checked ?c_checked ?k_checked ?a_marks ?l_marks ?c_marks ?k_marks ?a_contents ?l_contents ?c_contents ?k_contents ?a_due ?l_due ?c_due ?k_due ?a_signed ?l_signed ?c_signed ?k_signed ?a_change ?l_change ?c_change ?k_change ?a_is_refused ?l_is_refused ?c_is_refused ?k_is_refused ?a_deed ?l_deed ?c_deed ?k_deed ?a_is_right ?l_is_right ?c_is_right ?k_is_right ?a_law ?l_law ?c_law ?k_law ?a_Box__init ?i_Box__init ?l_Box__init ?c_Box__init ?k_Box__init ?d_Box__init ?a_Box__len ?i_Box__len ?l_Box__len ?c_Box__len ?k_Box__len ?a_Box__str ?i_Box__str ?l_Box__str ?c_Box__str ?k_Box__str ?a_Box__contains ?i_Box__contains ?l_Box__contains ?c_Box__contains ?k_Box__contains ?a_Box__or ?i_Box__or ?l_Box__or ?c_Box__or ?k_Box__or ?a_Box__and ?i_Box__and ?l_Box__and ?c_Box__and ?k_Box__and ?a_Box__sub ?i_Box__sub ?l_Box__sub ?c_Box__sub ?k_Box__sub ?a_Box__xor ?i_Box__xor ?l_Box__xor ?c_Box__xor ?k_Box__xor ?a_Box__ior ?i_Box__ior ?l_Box__ior ?c_Box__ior ?k_Box__ior ?a_Box__iand ?i_Box__iand ?l_Box__iand ?c_Box__iand ?k_Box__iand ?a_Box__isub ?i_Box__isub ?l_Box__isub ?c_Box__isub ?k_Box__isub ?a_Box__ixor ?i_Box__ixor ?l_Box__ixor ?c_Box__ixor ?k_Box__ixor ?aX ?gX ?tX ?rX ?l_Box_crosses ?c_Box_crosses ?k_Box_crosses ?a_Box_become ?i_Box_become ?l_Box_become ?c_Box_become ?k_Box_become ?a_Box_copied ?i_Box_copied ?l_Box_copied ?c_Box_copied ?k_Box_copied ?stJ ?rcJ ?rdB ?tgB ?l_Box_joined ?c_Box_joined ?k_Box_joined ?a_BadBox__init ?i_BadBox__init ?l_BadBox__init ?c_BadBox__init ?k_BadBox__init ?gM ?z_len ?z_abs ?z_list ?z_int ?z_isinstance ?z_str ?z_range ?z_max ?z_min ?z_any ?z_enumerate ?pgB ?hdB_ ?poB ?saB ?mkB ?kcB ?nCB ?xLB ?lNB ?okNB ?neqB ?nneB ?caB ?cnB ?ctB ?cmB ?sfB ?xLE ?saE ?exE ?tyE ?kcE ?gaE ?ggE ?hdE_ ?nCE ?icE ?scE
    (case aC_Box => k_is)
    (case aC_BadBox => k_is)
    (case a_bag => k_is)
    (case l_bag => k_is)
    (case c_bag => k_is)
    (case k_bag => k_is)
    (case a_take => k_is)
    (case l_take => k_is)
    (case c_take => k_is)
    (case k_take => k_is)
    (case a_either => k_is)
    (case l_either => k_is)
    (case c_either => k_is)
    (case k_either => k_is)
    (case a_both => k_is)
    (case l_both => k_is)
    (case c_both => k_is)
    (case k_both => k_is)
    (case a_without => k_is)
    (case l_without => k_is)
    (case c_without => k_is)
    (case k_without => k_is)
    (case a_exactly_one => k_is)
    (case l_exactly_one => k_is)
    (case c_exactly_one => k_is)
    (case k_exactly_one => k_is)
    (case a_are_contents => k_is)
    (case l_are_contents => k_is)
    (case c_are_contents => k_is)
    (case k_are_contents => k_is)
    (case a_checked => k_is)
    (case l_checked => k_is)
    (case c_checked => k_is)
    (case k_checked => k_is)
    (case a_marks => k_is)
    (case l_marks => k_is)
    (case c_marks => k_is)
    (case k_marks => k_is)
    (case a_contents => k_is)
    (case l_contents => k_is)
    (case c_contents => k_is)
    (case k_contents => k_is)
    (case a_due => k_is)
    (case l_due => k_is)
    (case c_due => k_is)
    (case k_due => k_is)
    (case a_signed => k_is)
    (case l_signed => k_is)
    (case c_signed => k_is)
    (case k_signed => k_is)
    (case a_change => k_is)
    (case l_change => k_is)
    (case c_change => k_is)
    (case k_change => k_is)
    (case a_is_refused => k_is)
    (case l_is_refused => k_is)
    (case c_is_refused => k_is)
    (case k_is_refused => k_is)
    (case a_deed => k_is)
    (case l_deed => k_is)
    (case c_deed => k_is)
    (case k_deed => k_is)
    (case a_is_right => k_is)
    (case l_is_right => k_is)
    (case c_is_right => k_is)
    (case k_is_right => k_is)
    (case a_law => k_is)
    (case l_law => k_is)
    (case c_law => k_is)
    (case k_law => k_is)
    (case a_Box__init => k_is)
    (case i_Box__init => k_is)
    (case l_Box__init => k_is)
    (case c_Box__init => k_is)
    (case k_Box__init => k_is)
    (case d_Box__init => k_is)
    (case a_Box__len => k_is)
    (case i_Box__len => k_is)
    (case l_Box__len => k_is)
    (case c_Box__len => k_is)
    (case k_Box__len => k_is)
    (case a_Box__str => k_is)
    (case i_Box__str => k_is)
    (case l_Box__str => k_is)
    (case c_Box__str => k_is)
    (case k_Box__str => k_is)
    (case a_Box__contains => k_is)
    (case i_Box__contains => k_is)
    (case l_Box__contains => k_is)
    (case c_Box__contains => k_is)
    (case k_Box__contains => k_is)
    (case a_Box__or => k_is)
    (case i_Box__or => k_is)
    (case l_Box__or => k_is)
    (case c_Box__or => k_is)
    (case k_Box__or => k_is)
    (case a_Box__and => k_is)
    (case i_Box__and => k_is)
    (case l_Box__and => k_is)
    (case c_Box__and => k_is)
    (case k_Box__and => k_is)
    (case a_Box__sub => k_is)
    (case i_Box__sub => k_is)
    (case l_Box__sub => k_is)
    (case c_Box__sub => k_is)
    (case k_Box__sub => k_is)
    (case a_Box__xor => k_is)
    (case i_Box__xor => k_is)
    (case l_Box__xor => k_is)
    (case c_Box__xor => k_is)
    (case k_Box__xor => k_is)
    (case a_Box__ior => k_is)
    (case i_Box__ior => k_is)
    (case l_Box__ior => k_is)
    (case c_Box__ior => k_is)
    (case k_Box__ior => k_is)
    (case a_Box__iand => k_is)
    (case i_Box__iand => k_is)
    (case l_Box__iand => k_is)
    (case c_Box__iand => k_is)
    (case k_Box__iand => k_is)
    (case a_Box__isub => k_is)
    (case i_Box__isub => k_is)
    (case l_Box__isub => k_is)
    (case c_Box__isub => k_is)
    (case k_Box__isub => k_is)
    (case a_Box__ixor => k_is)
    (case i_Box__ixor => k_is)
    (case l_Box__ixor => k_is)
    (case c_Box__ixor => k_is)
    (case k_Box__ixor => k_is)
    (case aX => k_is)
    (case gX => k_is)
    (case tX => k_is)
    (case rX => k_is)
    (case l_Box_crosses => k_is)
    (case c_Box_crosses => k_is)
    (case k_Box_crosses => k_is)
    (case a_Box_become => k_is)
    (case i_Box_become => k_is)
    (case l_Box_become => k_is)
    (case c_Box_become => k_is)
    (case k_Box_become => k_is)
    (case a_Box_copied => k_is)
    (case i_Box_copied => k_is)
    (case l_Box_copied => k_is)
    (case c_Box_copied => k_is)
    (case k_Box_copied => k_is)
    (case stJ => k_is)
    (case rcJ => k_is)
    (case rdB => k_is)
    (case tgB => k_is)
    (case l_Box_joined => k_is)
    (case c_Box_joined => k_is)
    (case k_Box_joined => k_is)
    (case a_BadBox__init => k_is)
    (case i_BadBox__init => k_is)
    (case l_BadBox__init => k_is)
    (case c_BadBox__init => k_is)
    (case k_BadBox__init => k_is)
    (case gM => k_is)
    (case z_len => k_is)
    (case z_abs => k_is)
    (case z_list => k_is)
    (case z_int => k_is)
    (case z_isinstance => k_is)
    (case z_str => k_is)
    (case z_range => k_is)
    (case z_max => k_is)
    (case z_min => k_is)
    (case z_any => k_is)
    (case z_enumerate => k_is)
    (case pgB => k_is)
    (case hdB_ => k_is)
    (case poB => k_is)
    (case saB => k_is)
    (case mkB => k_is)
    (case kcB => k_is)
    (case nCB => k_is)
    (case xLB => k_is)
    (case lNB => k_is)
    (case okNB => rfl)
    (case neqB => k_is)
    (case nneB => k_is)
    (case caB => k_is)
    (case cnB => k_is)
    (case ctB => k_is)
    (case cmB => k_is)
    (case sfB => k_is)
    (case xLE => k_is)
    (case saE => k_is)
    (case exE => k_is)
    (case tyE => k_is)
    (case kcE => k_is)
    (case gaE => k_is)
    (case ggE => k_is)
    (case hdE_ => k_is)
    (case nCE => k_is)
    (case icE => k_is)
    (case scE => first | rfl | k_is)

