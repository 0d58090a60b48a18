import PyProof.Rows.All
import Wide.All
import OpenK.AllK
import Wide.FinOn
import HandS.ForMost
import HandS.Codes
import HandS.Walk
import HandS.Wide
import HandS.IsInst
import HandS.Style
import HandS.Exc
import HandS.TryOnly
import HandS.ExcOwn
import HandS.WordsExc
import HandS.Defaults
import HandS.Steps
import HandS.Property
import HandS.StrMore
import HandS.TupLe
import HandS.ExcInit
import HandS.ExcField
import HandS.RaiseMore
import PyProof.Rows.ReprR
import PyProof.StrLawsRepr
import KE.GoesEnum
import KE.GoesMore
import HandS.MakeKw
import HandS.MakeKwOnly
import HandS.Star
import HandS.ClsMeth
import PySem.Challenge.RW_workerworlds_k06_boxes_joined_and_copied
set_option Elab.async false
set_option linter.all false
set_option maxRecDepth 100000
set_option maxHeartbeats 4000000
namespace WB
open PySem L2
/-! ### marks -/
def mk : List Nat := List.range' 65 26 ++ List.range' 97 26
abbrev S (l : List Nat) : Str := ⟨l.toArray⟩
def sb (p : Nat → Bool) : Str := S (mk.filter p)
def mem (z : Str) (c : Nat) : Bool := decide (c ∈ z.cps.toList)
def IsC (z : Str) : Prop := ∃ p, z = sb p
theorem marks_eq : ("ABCDEFGHIJKLMNOPQRSTUVWXYZabcdefghijklmnopqrstuvwxyz" : Str) = S mk := by decide +kernel
theorem mem_sb (p : Nat → Bool) (c : Nat) : mem (sb p) c = (decide (c ∈ mk) && p c) := by
  unfold mem sb
  simp [List.mem_filter]
theorem sb_ext {p q : Nat → Bool} (h : ∀ c ∈ mk, p c = q c) : sb p = sb q := by
  unfold sb
  rw [List.filter_congr h]
theorem IsC.eq {z : Str} (h : IsC z) : z = sb (mem z) := by
  obtain ⟨p, rfl⟩ := h
  exact sb_ext fun c hc => by rw [mem_sb, decide_eq_true hc, Bool.true_and]
theorem sb_len (p : Nat → Bool) : (sb p).length ≤ 52 := by
  show (mk.filter p).toArray.size ≤ 52
  rw [List.size_toArray]
  exact List.length_filter_le p mk
/-! ### heaps -/
/-- all that was tracked is as it was, but what stands at p -/
def Bar (p : Addr) (H H' : Hp) : Prop := ∀ b o, b ≠ p → H b = some o → H' b = some o
theorem Bar.refl (p : Addr) (H : Hp) : Bar p H H := fun _ _ _ h => h
theorem Bar.trans {p : Addr} {H H1 H2 : Hp} (a : Bar p H H1) (b : Bar p H1 H2) : Bar p H H2 := fun c o n h => b c o n (a c o n h)
theorem bar_of {p : Addr} {H H' : Hp} (a : Same H H') : Bar p H H' := fun c o _ h => a c o h
theorem same_new {H : Hp} {p : Addr} {o : HO} (h : H p = none) : Same H (upd H p o) := fun b u e => by
  rw [upd_ne (ne_of_none e h)]
  exact e
theorem bar_upd {p : Addr} {H : Hp} {o : HO} : Bar p H (upd H p o) := fun b u n e => by
  rw [upd_ne n]
  exact e
theorem bar_new {p q : Addr} {H : Hp} {o : HO} (h : H q = none) : Bar p H (upd H q o) := fun b u _ e => same_new h b u e
/-! ### readings: the joining of two ways -/
theorem ite_val {c : Bool} {te1 te2 : TE} {σ : L2.St} {H : Hp} {Q : VK} (C : V → Hp → Prop) (h1 : c = true → ∀ Q' : VK, (∀ v H', C v H' → Q' v H') → te1 σ H Q')
    (h2 : c = false → ∀ Q' : VK, (∀ v H', C v H' → Q' v H') → te2 σ H Q') (h : ∀ v H', C v H' → Q v H') : if c = true then te1 σ H Q else te2 σ H Q := by
  cases c with
  | true => exact iteT (h1 rfl Q h)
  | false => exact iteF (h2 rfl Q h)
theorem ite_b {c : Bool} {A B : Prop} (h1 : c = true → A) (h2 : c = false → B) : if c = true then A else B := by
  cases c with
  | true => exact iteT (h1 rfl)
  | false => exact iteF (h2 rfl)
theorem ints_at {ns : List Int} {i : Nat} (h : i < ns.length) : (ns.map V.int)[i]? = some (V.int (ns[i]'h)) := by
  rw [List.getElem?_map, List.getElem?_eq_getElem h]
  rfl
theorem abs_nonneg (n : Int) : 0 ≤ (if n < 0 then -n else n) := by
  split <;> omega
theorem cut_to (xs : List V) (k : Nat) : cutV xs none (some (k : Int)) = xs.take k := by
  unfold cutV
  rw [HT.sIx_none, HT.sIx_nat, List.drop_zero, Nat.sub_zero]
  by_cases h : k ≤ xs.length
  · rw [Nat.min_eq_left h]
  · rw [Nat.min_eq_right (by omega), List.take_of_length_le (Nat.le_refl _), List.take_of_length_le (by omega)]
theorem cdw {i j : Int} (h : 0 < j) (h2 : j < 2 ^ 200) : CDivW i j := by
  refine ⟨h, ?_⟩
  have e : (j.natAbs : Int) = j := Int.natAbs_of_nonneg (by omega)
  have h3 : j.natAbs < 2 ^ 200 := by
    have : (j.natAbs : Int) < ((2 ^ 200 : Nat) : Int) := by
      rw [e]
      exact h2
    exact Int.ofNat_lt.mp this
  exact Nat.lt_trans ((Nat.log2_lt (by omega)).mpr h3) (by decide)
/-! ### data -/
theorem dp_all_ints {K : PySem.W.Frag} {H : Hp} : ∀ ns : List Int, DpAll K H (ns.map V.int) (ns.map PyData.int)
  | [] => .nil
  | n :: r => .cons (.int n) (dp_all_ints r)
theorem dp_ints {K : PySem.W.Frag} {H : Hp} {a : Addr} {ns : List Int} (h : SqL K H a (ns.map V.int)) : Dp K H (.ref a) (.list (ns.map PyData.int)) := .lst h (dp_all_ints ns)
theorem lay_ints : ∀ ns : List Int, PyData.canLayAll0 (ns.map PyData.int) = true ∧ PyData.depthAll (ns.map PyData.int) = 0
  | [] => ⟨rfl, rfl⟩
  | n :: r => by
    obtain ⟨h1, h2⟩ := lay_ints r
    refine ⟨?_, ?_⟩
    · show (PyData.canLay0 (.int n) && PyData.canLayAll0 (r.map PyData.int)) = true
      rw [h1]
      rfl
    · show max (PyData.depth (.int n)) (PyData.depthAll (r.map PyData.int)) = 0
      rw [h2]
      rfl
theorem shaped_ints (ns : List Int) : SeqAt.shaped (.list (ns.map PyData.int)) = true := by
  obtain ⟨h1, h2⟩ := lay_ints ns
  have e1 : PyData.canLay0 (.list (ns.map PyData.int)) = true := h1
  have e2 : PyData.depth (.list (ns.map PyData.int)) ≤ 64 := by
    show PyData.depthAll (ns.map PyData.int) + 1 ≤ 64
    omega
  unfold SeqAt.shaped
  rw [e1, decide_eq_true e2]
  rfl
theorem eqv_nil_ints (ns : List Int) : PyData.eqv (.list (ns.map PyData.int)) (.list []) = decide (ns = []) := by
  cases ns with
  | nil => rfl
  | cons n r =>
    rw [decide_eq_false (by simp)]
    rfl
/-! ### the bag of draws -/
def BagAt (H : Hp) (p q : Addr) : Prop := ∃ (c s i : Int) (ns : List Int),
  H p = some (.lst [.int c, .int s, .int i, .ref q]) ∧ H q = some (.lst (ns.map V.int)) ∧ ns.length ≤ 63 ∧ 0 ≤ c ∧ 0 ≤ s ∧ s < 2 ^ 40 ∧ 0 ≤ i
theorem BagAt.same {H H' : Hp} {p q : Addr} (h : BagAt H p q) (e : Same H H') : BagAt H' p q := by
  obtain ⟨c, s, i, ns, h1, h2, h3⟩ := h
  exact ⟨c, s, i, ns, e _ _ h1, e _ _ h2, h3⟩
theorem BagAt.bar {H H' : Hp} {p q x : Addr} (h : BagAt H p q) (e : Bar x H H') (n : p ≠ x) (m : q ≠ x) : BagAt H' p q := by
  obtain ⟨c, s, i, ns, h1, h2, h3⟩ := h
  exact ⟨c, s, i, ns, e _ _ n h1, e _ _ m h2, h3⟩
theorem BagAt.pq {H : Hp} {p q : Addr} (h : BagAt H p q) : q ≠ p := fun e => by
  obtain ⟨c, s, i, ns, h1, h2, _⟩ := h
  rw [e, h1] at h2
  have e2 := congrArg (fun l : List V => l[3]?) (HO.lst.inj (Option.some.inj h2))
  have e3 : (some (V.ref q) : Option V) = (ns.map V.int)[3]? := e2
  rw [List.getElem?_map] at e3
  cases e4 : ns[3]? <;> rw [e4] at e3 <;> cases e3
theorem BagAt.there {H : Hp} {p q l : Addr} (h : BagAt H p q) (hl : H l = none) : l ≠ p := by
  obtain ⟨c, s, i, ns, h1, _⟩ := h
  exact (ne_of_none h1 hl).symm
theorem BagAt.there2 {H : Hp} {p q l : Addr} (h : BagAt H p q) (hl : H l = none) : l ≠ q := by
  obtain ⟨c, s, i, ns, _, h1, _⟩ := h
  exact (ne_of_none h1 hl).symm
def spBag (K : PySem.W.Frag) : Sp := fun vs H Q _ => ∃ (a : Addr) (ns : List Int) (j : Nat), vs = [.ref a, .int (j : Int)] ∧ SqL K H a (ns.map V.int) ∧ ns.length ≤ 63 ∧ j < 63 ∧
  ∀ H' p q, Same H H' → H p = none → H q = none → BagAt H' p q → Q (.ref p) H'
def spTake : Sp := fun vs H Q _ => ∃ (p q : Addr) (m : Int), vs = [.ref p, .int m] ∧ BagAt H p q ∧ 0 < m ∧ m < 2 ^ 200 ∧
  ∀ H' (d : Int), Bar p H H' → BagAt H' p q → 0 ≤ d → d < m → Q (.int d) H'
/-! ### parts of the marks -/
theorem sub_filter {m l : List Nat} (h : l.Sublist m) : m.Nodup → l = m.filter (fun c => decide (c ∈ l)) := by
  induction h with
  | slnil => intro _; rfl
  | @cons l m a h ih =>
    intro hn
    have hn2 := List.nodup_cons.mp hn
    have ha : a ∉ l := fun q => hn2.1 (h.subset q)
    rw [List.filter_cons_of_neg (by simp [ha])]
    exact ih hn2.2
  | @cons_cons l m a h ih =>
    intro hn
    have hn2 := List.nodup_cons.mp hn
    rw [List.filter_cons_of_pos (by simp)]
    have e := ih hn2.2
    have e2 : m.filter (fun c => decide (c ∈ a :: l)) = m.filter (fun c => decide (c ∈ l)) := List.filter_congr fun c hc => by
      have hca : c ≠ a := fun q => hn2.1 (q ▸ hc)
      simp [hca]
    rw [e2, ← e]
theorem mk_nodup : mk.Nodup := by decide +kernel
theorem mk_len : mk.length = 52 := by decide +kernel
theorem isC_of {l : List Nat} (h : l.Sublist mk) : IsC (S l) := ⟨fun c => decide (c ∈ l), congrArg S (sub_filter h mk_nodup)⟩
theorem sub_step {l : List Nat} {i c : Nat} (h : l.Sublist (mk.take i)) (hc : mk[i]? = some c) : (l ++ [c]).Sublist (mk.take (i + 1)) ∧ l.Sublist (mk.take (i + 1)) := by
  have e : mk.take (i + 1) = mk.take i ++ [c] := by
    rw [List.take_add_one, hc]
    rfl
  rw [e]
  exact ⟨List.Sublist.append h (List.Sublist.refl _), h.trans (List.sublist_append_left _ _)⟩
def sg (c : Nat) : V := .str ⟨#[c]⟩
theorem joinL_one : ∀ l : List Nat, TL.joinL [] (l.map fun c => [c]) = l
  | [] => rfl
  | [c] => rfl
  | c :: d :: r => by
    have ih := joinL_one (d :: r)
    show [c] ++ [] ++ TL.joinL [] ((d :: r).map fun c => [c]) = c :: d :: r
    rw [ih]
    rfl
theorem join_signs (l : List Nat) : Txt.join (S []) (l.map fun c => S [c]) = S l := by
  have e := SX.join_S [] (l.map fun c => [c])
  rw [List.map_map] at e
  rw [joinL_one] at e
  exact e
def spOf : Sp := fun vs H Q _ => ∃ (p q : Addr) (y : V), vs = [.ref p, y] ∧ BagAt H p q ∧
  ((∃ l xs, y = .ref l ∧ l ≠ p ∧ H l = some (.lst xs) ∧ 0 < xs.length ∧ xs.length < 1000 ∧ ∀ H' x, Bar p H H' → BagAt H' p q → x ∈ xs → Q x H') ∨
   (∃ z : List Nat, y = .str (S z) ∧ 0 < z.length ∧ z.length < 1000 ∧ ∀ H' c, Bar p H H' → BagAt H' p q → c ∈ z → Q (sg c) H'))
def spContents : Sp := fun vs H Q _ => ∃ p q : Addr, vs = [.ref p] ∧ BagAt H p q ∧ ∀ H' z, Bar p H H' → BagAt H' p q → IsC z → Q (.str z) H'
theorem mk_at {i c : Nat} (h : (("ABCDEFGHIJKLMNOPQRSTUVWXYZabcdefghijklmnopqrstuvwxyz" : Str)).cps[i]? = some c) : mk[i]? = some c := by
  rw [marks_eq] at h
  rw [← List.getElem?_toArray]
  exact h
theorem arr_at {z : Str} {i c : Nat} (h : z.cps[i]? = some c) : z.cps.toList[i]? = some c := by
  rw [Array.getElem?_toList]
  exact h
/-- the signs of the first i that keep t -/
def filt (z : List Nat) (t : Nat → Bool) (i : Nat) : List V := ((z.take i).filter t).map sg
theorem filt_yes {z : List Nat} {t : Nat → Bool} {i c : Nat} (h : z[i]? = some c) (ht : t c = true) : filt z t (i + 1) = filt z t i ++ [sg c] := by
  unfold filt
  rw [List.take_add_one, h]
  show ((z.take i ++ [c]).filter t).map sg = _
  rw [List.filter_append, List.filter_cons_of_pos ht, List.filter_nil, List.map_append]
  rfl
theorem filt_no {z : List Nat} {t : Nat → Bool} {i c : Nat} (h : z[i]? = some c) (ht : t c = false) : filt z t (i + 1) = filt z t i := by
  unfold filt
  rw [List.take_add_one, h]
  show ((z.take i ++ [c]).filter t).map sg = _
  rw [List.filter_append, List.filter_cons_of_neg (by rw [ht]; exact Bool.false_ne_true), List.filter_nil, List.append_nil]
theorem filt_len {z : List Nat} {t : Nat → Bool} {i : Nat} : (filt z t i).length ≤ z.length := by
  unfold filt
  rw [List.length_map]
  exact Nat.le_trans (List.length_filter_le _ _) (by rw [List.length_take]; omega)
theorem filt_end {z : List Nat} {t : Nat → Bool} {n : Nat} (h : z.length ≤ n) : filt z t n = (z.filter t).map sg := by
  unfold filt
  rw [List.take_of_length_le h]
theorem sum_ones : ∀ l : List Nat, ((l.map fun c => S [c]).map (·.length)).sum = l.length
  | [] => rfl
  | c :: r => by
    have ih := sum_ones r
    show 1 + ((r.map fun c => S [c]).map (·.length)).sum = r.length + 1
    rw [ih]
    omega
theorem join_ok {K : PySem.W.Frag} {H : Hp} {p : Addr} {Q : VK} (l : List Nat) (hl : l.length ≤ 1000000) (hp : H p = some (.lst (l.map sg))) (q : Q (.str (S l)) H) :
    ∃ (a : Str) (p' : Addr) (ys : List Str), V.str "" = .str a ∧ [V.ref p] = [.ref p'] ∧ (SqL K H p' (ys.map V.str) ∨ SqT K H p' (ys.map V.str)) ∧ (ys.map (·.length)).sum + ys.length * a.length ≤ 16777216 ∧ Q (.str (Txt.join a ys)) H := by
  have e : ("" : Str) = S [] := by decide +kernel
  refine ⟨S [], p, l.map fun c => S [c], by rw [e], rfl, .inl (SqL.of ?_), ?_, ?_⟩
  · rw [List.map_map]
    exact hp
  · rw [sum_ones]
    show l.length + _ * 0 ≤ _
    omega
  · rw [join_signs]
    exact q
theorem mk_size : ("ABCDEFGHIJKLMNOPQRSTUVWXYZabcdefghijklmnopqrstuvwxyz" : Str).cps.size = 52 := by decide +kernel
/-! ### strings of marks -/
def spEither : Sp := fun vs H Q _ => ∃ a b : Str, vs = [.str a, .str b] ∧ ∀ H', Same H H' → Q (.str (sb fun c => mem a c || mem b c)) H'
def spBoth : Sp := fun vs H Q _ => ∃ a b : Str, vs = [.str a, .str b] ∧ a.length ≤ 1000000 ∧ ∀ H', Same H H' → Q (.str (S (a.cps.toList.filter fun c => mem b c))) H'
def spWithout : Sp := fun vs H Q _ => ∃ a b : Str, vs = [.str a, .str b] ∧ a.length ≤ 1000000 ∧ ∀ H', Same H H' → Q (.str (S (a.cps.toList.filter fun c => !mem b c))) H'
def spExactly : Sp := fun vs H Q _ => ∃ a b : Str, vs = [.str a, .str b] ∧ IsC a ∧ IsC b ∧ ∀ H', Same H H' → Q (.str (sb fun c => mem a c != mem b c)) H'
/-! ### own classes: is it the same object; the signs -/
structure EqC (K : PySem.W.Frag) (C : Addr) : Prop where
  ex : ∃ nm q N bs hdct sn sub ab col dd k0 k1 k2 k3 k5 newId, K.lookup C = some (excClassObj nm q C N bs [.type "object"] hdct sn sub ab col dd k0 k1 k2 k3 k5 newId) ∧
    PySem.W.nsOkIn K N = true ∧ PySem.W.nsIn K N "__eq__" = some none ∧ PySem.W.nsIn K N "__ne__" = some none
theorem EqC.inst {K : PySem.W.Frag} {C a dx : Addr} {h : Heap} (E : EqC K C) (X : K.In h) (e : h.get? a = some (PySem.W.instObj C dx)) : h.CmpInst a C [.type "object"] := by
  obtain ⟨nm, q, N, bs, hdct, sn, sub, ab, col, dd, k0, k1, k2, k3, k5, newId, h1, h2, h3, h4⟩ := E.ex
  exact ⟨_, nm, q, N, bs, hdct, sn, sub, ab, col, dd, k0, k1, k2, k3, k5, newId, h.nsMap N, e, rfl, X _ _ h1, .of_isNs (PySem.W.isNs_of_in X h2), PySem.W.nsMap_none_of_in X h2 h3, PySem.W.nsMap_none_of_in X h2 h4⟩
section
variable {X : Cx} {C : Addr}
theorem ins_at {pins : List (Addr × Obj)} {σ : L2.St} {H : Hp} {s : Shared} {a dx : Addr} {fs : List (Str × V)} (I : Inv X pins σ H s) (e : H a = some (.ins C dx fs)) : s.heap.get? a = some (PySem.W.instObj C dx) := by
  obtain ⟨_, _, _, e2, _⟩ := (show ObjOk X.prog X.w H s.heap a (.ins C dx fs) from I.hok a _ e)
  exact e2
def rSame (C : Addr) (f : Bool → Bool) : R2 := fun x y H Q => ∃ a b dx fs dx' fs', x = .ref a ∧ y = .ref b ∧ H a = some (.ins C dx fs) ∧ H b = some (.ins C dx' fs') ∧ Q (.bl (f (decide (a = b)))) H
theorem op_eqO (E : EqC X.K C) (hu : X.A.units + 1 < cLine) : OpR X (compareOp .Eq) (rSame C id) := by
  intro pins s σ H x y v u Q I rx ry h
  obtain ⟨a, b, dx, fs, dx', fs', rfl, rfl, ha, hb, q⟩ := h
  obtain rfl : v = Value.ref a := rx
  obtain rfl : u = Value.ref b := ry
  have e1 := E.inst I.kIn (ins_at I ha)
  have e2 := E.inst I.kIn (ins_at I hb)
  obtain ⟨hh, g, d, t, os⟩ := s
  by_cases c : a = b
  · subst c
    refine compareOp_eq_same PySem.F.cmp_object e1 (by omega) ⟨.bl true, H, I, rfl, ?_⟩
    rw [decide_eq_true rfl] at q
    exact q
  · refine compareOp_eq_other PySem.F.cmp_object PySem.F.cmp_object e1 e2 c (by omega) ⟨.bl false, H, I, rfl, ?_⟩
    rw [decide_eq_false c] at q
    exact q
theorem op_neO (E : EqC X.K C) (hu : X.A.units + 1 < cLine) : OpR X (compareOp .NotEq) (rSame C not) := by
  intro pins s σ H x y v u Q I rx ry h
  obtain ⟨a, b, dx, fs, dx', fs', rfl, rfl, ha, hb, q⟩ := h
  obtain rfl : v = Value.ref a := rx
  obtain rfl : u = Value.ref b := ry
  have e1 := E.inst I.kIn (ins_at I ha)
  have e2 := E.inst I.kIn (ins_at I hb)
  obtain ⟨hh, g, d, t, os⟩ := s
  by_cases c : a = b
  · subst c
    refine compareOp_ne_same PySem.F.cmp_object e1 hu ⟨.bl false, H, I, rfl, ?_⟩
    rw [decide_eq_true rfl] at q
    exact q
  · refine compareOp_ne_other PySem.F.cmp_object PySem.F.cmp_object e1 e2 c hu ⟨.bl true, H, I, rfl, ?_⟩
    rw [decide_eq_false c] at q
    exact q
/-- one sign of an own class: x op y, by its method -/
structure SignC (K : PySem.W.Frag) (C : Addr) (nm : Str) (f : Addr) : Prop where
  first : PySem.W.selfFirst K C = true
  at_ : PySem.W.findIn K (.ref C) nm = some (some (.ref f))
  fn : PySem.W.isFn K (.ref f) = true
def rSign (C : Addr) (sp : Sp) (E : XK) : R2 := fun x y H Q => ∃ a b dx fs dx' fs', x = .ref a ∧ y = .ref b ∧ H a = some (.ins C dx fs) ∧ H b = some (.ins C dx' fs') ∧ sp [.ref a, .ref b] H (fun v H' => (∃ c, v = .ref c) ∧ Q v H') E
theorem op_sign {CX : CXT} {k : Nat} {f : Addr} {fd : FuncData} {ps : List Str} {sp : Sp} {E : XK} {op : Operator} (S : SignC X.K C (PySem.dunder op.info.2) f) (F : FnOk X.prog X.w X.K X.mg X.base CX k f fd ps sp) (hr : Room k X.A) (hb : Binds X.K fd ps []) (hx : Passes CX X E) :
    OpR X (binaryOp op) (rSign C sp E) := by
  intro pins s σ H x y v u Q I rx ry h
  obtain ⟨a, b, dx, fs, dx', fs', rfl, rfl, ha, hb2, q⟩ := h
  obtain rfl : v = Value.ref a := rx
  obtain rfl : u = Value.ref b := ry
  obtain ⟨m, Fm⟩ := I.fr
  obtain ⟨mA, O, _, _, _, _⟩ := ins_get I.hok ha
  obtain ⟨od, J, _⟩ := O.look
  obtain ⟨mB, O2, _, _, _, _⟩ := ins_get I.hok hb2
  obtain ⟨od2, J2, _⟩ := O2.look
  refine PySem.W.binop_K Fm I.mod.kin J J2.type S.first S.at_ S.fn ?_
  refine wpAny_mono (run_fn F hr hb .nil hx I (us := [.ref a, .ref b]) (vs := [.ref a, .ref b]) (.cons rfl (.cons rfl .nil)) q) (fun r s' hq => ?_) fun _ _ e => e
  obtain ⟨z, H', I', rz, ⟨c, rfl⟩, q'⟩ := hq
  obtain rfl : r = Value.ref c := rz
  exact ⟨.ref c, H', I', rfl, q'⟩
end
/-! ### boxes -/
def boxF (z : Str) : List (Str × V) := [("contents", .str z)]
def BoxAt (C : Addr) (H : Hp) (a : Addr) (z : Str) : Prop := ∃ dx, H a = some (.ins C dx (boxF z))
theorem boxF_lk (z : Str) : (boxF z).lookup ("contents" : Str) = some (.str z) := by simp [boxF, List.lookup]
theorem boxF_put (z y : Str) : putF "contents" (.str y) (boxF z) = boxF y := by
  show (if ("contents" : Str) = "contents" then _ else _) = _
  rw [if_pos rfl]
  rfl
theorem boxF_new (y : Str) : putF "contents" (.str y) [] = boxF y := rfl
theorem boxF_no (z : Str) {m : Str} (h : ¬ m = "contents") : (boxF z).lookup m = none := by
  have e : (m == ("contents" : Str)) = false := by simpa using h
  simp [boxF, List.lookup, e]
theorem BoxAt.same {C a : Addr} {H H' : Hp} {z : Str} (h : BoxAt C H a z) (e : Same H H') : BoxAt C H' a z := by
  obtain ⟨dx, h⟩ := h
  exact ⟨dx, e _ _ h⟩
theorem BoxAt.bar {C a p : Addr} {H H' : Hp} {z : Str} (h : BoxAt C H a z) (e : Bar p H H') (n : a ≠ p) : BoxAt C H' a z := by
  obtain ⟨dx, h⟩ := h
  exact ⟨dx, e _ _ n h⟩
theorem BoxAt.ne {C a b : Addr} {H : Hp} {z : Str} (h : BoxAt C H a z) (hb : H b = none) : a ≠ b := by
  obtain ⟨dx, h⟩ := h
  exact ne_of_none h hb
theorem BoxAt.one {C a : Addr} {H : Hp} {y z : Str} (h : BoxAt C H a z) (h2 : BoxAt C H a y) : z = y := by
  obtain ⟨dx, h⟩ := h
  obtain ⟨dy, h2⟩ := h2
  rw [h] at h2
  have e := Option.some.inj h2
  injection e with _ _ e
  have e3 := congrArg (fun l : List (Str × V) => l.lookup ("contents" : Str)) e
  rw [boxF_lk, boxF_lk] at e3
  injection e3 with e3
  injection e3
theorem BoxAt.bag {C a p q : Addr} {H : Hp} {z : Str} (h : BoxAt C H a z) (hb : BagAt H p q) : a ≠ p := by
  obtain ⟨dx, h⟩ := h
  obtain ⟨c, s, i, ns, h1, _⟩ := hb
  exact ne_of h h1 (by intro e; cases e)
theorem BoxAt.bag2 {C a p q : Addr} {H : Hp} {z : Str} (h : BoxAt C H a z) (hb : BagAt H p q) : a ≠ q := by
  obtain ⟨dx, h⟩ := h
  obtain ⟨c, s, i, ns, _, h1, _⟩ := hb
  exact ne_of h h1 (by intro e; cases e)
/-- what the top says of Box -/
structure BoxC (K : PySem.W.Frag) (mg : Str → Option Value) (C : Addr) : Prop where
  cl : Cls K C
  nC : NoAttr K C "contents"
  gB : ∃ u, mg "Box" = some u ∧ RelV (.ref C) u
  eq : EqC K C
  ca : PySem.W.findIn K (.ref C) "__class__" = some (some (.builtin "object.__class__"))
  cn : PySem.W.specialIn K (.builtin "object.__class__") "__get__" = some (some (.builtin "getset_descriptor.__get__"))
  ct : PySem.W.takesIn K (.builtin "object.__class__") = some true
  cm : PySem.W.mroIn K C (.type "object") = some true
  kit : PySem.W.kitOne K (.ref C) (.ref C) = some true
theorem BoxC.ty {K : PySem.W.Frag} {mg : Str → Option Value} {C a dx : Addr} {H : Hp} {fs : List (Str × V)} (B : BoxC K mg C) (h : H a = some (.ins C dx fs)) : TyX K H (.ref a) (.ref C) :=
  .base (.ins h B.cl B.ca B.cn B.ct B.cm)
def spInit (C : Addr) : Sp := fun vs H Q _ => ∃ (a dx : Addr) (z : Str), vs = [.ref a, .str z] ∧ H a = some (.ins C dx []) ∧ IsC z ∧ ∀ H', Bar a H H' → BoxAt C H' a z → Q .non H'
def spBecome (C : Addr) : Sp := fun vs H Q _ => ∃ (a : Addr) (y z : Str), vs = [.ref a, .str z] ∧ BoxAt C H a y ∧ IsC z ∧ ∀ H', Bar a H H' → BoxAt C H' a z → Q .non H'
def spSign (C : Addr) (g : Bool → Bool → Bool) : Sp := fun vs H Q _ => ∃ (a b : Addr) (y z : Str), vs = [.ref a, .ref b] ∧ BoxAt C H a y ∧ BoxAt C H b z ∧ IsC y ∧ IsC z ∧
  ∀ H' c, Same H H' → H c = none → BoxAt C H' c (sb fun m => g (mem y m) (mem z m)) → Q (.ref c) H'
def spAre (K : PySem.W.Frag) : Sp := fun vs H Q _ => ∃ x : V, vs = [x] ∧ ((∃ z, x = .str z ∧ ∀ H', Same H H' → Q (.bl (decide (z = sb (mem z)))) H') ∨ (∃ t, TyX K H x (.type t) ∧ kitB t "str" = some false ∧ Q (.bl false) H))
def spChecked : Sp := fun vs H Q _ => ∃ z : Str, vs = [.str z] ∧ IsC z ∧ ∀ H', Same H H' → Q (.str z) H'
theorem isC_sb (p : Nat → Bool) : IsC (sb p) := ⟨p, rfl⟩
theorem IsC.len {z : Str} (h : IsC z) : z.length ≤ 52 := by
  obtain ⟨p, rfl⟩ := h
  exact sb_len p
/-- a part of contents is contents again -/
theorem IsC.filt {z : Str} (h : IsC z) (t : Nat → Bool) : S (z.cps.toList.filter t) = sb fun c => mem z c && t c := by
  obtain ⟨p, rfl⟩ := h
  show S ((mk.filter p).filter t) = S (mk.filter _)
  rw [List.filter_filter]
  refine congrArg S (List.filter_congr fun c hc => ?_)
  rw [mem_sb, decide_eq_true hc, Bool.true_and, Bool.and_comm]
/-! ### signs, by their method, in short -/
structure Sgn (P : Program) (w : World) (K : PySem.W.Frag) (mg : Str → Option Value) (base : Heap) (k : Nat) (C : Addr) (op : Operator) (sp : Sp) : Prop where
  ex : ∃ (f : Addr) (fd : FuncData) (ps : List Str), SignC K C (PySem.dunder op.info.2) f ∧ FnOk P w K mg base CX0 k f fd ps sp ∧ Binds K fd ps []
theorem op_sgn {X : Cx} {k j : Nat} {C : Addr} {op : Operator} {sp : Sp} (S : Sgn X.prog X.w X.K X.mg X.base k C op sp) (hr : Room j X.A) (hk : k ≤ j) : OpR X (binaryOp op) (rSign C sp E0) := by
  obtain ⟨f, fd, ps, h1, h2, h3⟩ := S.ex
  exact op_sign h1 h2 (hr.mono hk) h3 pass0
section
variable {σ : L2.St} {H : Hp} {t u c : TT} {a b : Bool} {D : Ends} {t1 t2 : TS}
theorem ans_orB (h1 : Ans t σ H a) (h2 : Ans u σ H b) : Ans (tOr t u) σ H (a || b) := fun Q q => h1 _ (by
  cases a with
  | true => exact iteT q
  | false => exact iteF (h2 _ q))
theorem st_if (h : Ans c σ H b) (q : if b = true then t1 D σ H else t2 D σ H) : tIfS c t1 t2 D σ H := h _ q
end
/-! ### what is due -/
def gs (s : Nat) (x y : Bool) : Bool := if s = 124 then x || y else if s = 38 then x && y else if s = 94 then x != y else x && !y
def isSign (s : Nat) : Prop := s = 124 ∨ s = 38 ∨ s = 94 ∨ s = 45
def spDue : Sp := fun vs H Q _ => ∃ (s : Nat) (a b : Str), vs = [.str (S [s]), .str a, .str b] ∧ isSign s ∧ Q (.str (sb fun c => gs s (mem a c) (mem b c))) H
def spSigned (C : Addr) : Sp := fun vs H Q _ => ∃ (s : Nat) (a b : Addr) (y z : Str), vs = [.str (S [s]), .ref a, .ref b] ∧ isSign s ∧ BoxAt C H a y ∧ BoxAt C H b z ∧ IsC y ∧ IsC z ∧
  ∀ H' c, Same H H' → H c = none → BoxAt C H' c (sb fun m => gs s (mem y m) (mem z m)) → Q (.ref c) H'
theorem due_bool {s : Nat} (hs : isSign s) (x y : Bool) :
    (((decide (V.str (S [s]) = V.str "|") && decide ((0 : Int) < (if x then 1 else 0) + (if y then 1 else 0))) || ((decide (V.str (S [s]) = V.str "&") && decide (V.int ((if x then 1 else 0) + (if y then 1 else 0)) = V.int 2)) || (decide (V.str (S [s]) = V.str "^") && decide (V.int ((if x then 1 else 0) + (if y then 1 else 0)) = V.int 1)))) = (gs s x y && !decide (s = 45))) ∧
    ((decide (V.str (S [s]) = V.str "-") && (x && !y)) = (gs s x y && decide (s = 45))) := by
  rcases hs with rfl | rfl | rfl | rfl <;> cases x <;> cases y <;> decide +kernel
def spRight (C : Addr) : Sp := fun vs H Q _ => ∃ (s : Nat) (a b : Addr) (y z l : Str), vs = [.str (S [s]), .ref a, .ref b, .str l] ∧ isSign s ∧ BoxAt C H a y ∧ BoxAt C H b z ∧ IsC y ∧ IsC z ∧ IsC l ∧
  ∀ H', (∀ x o, x ≠ a → x ≠ b → H x = some o → H' x = some o) → BoxAt C H' a y → BoxAt C H' b z → Q (.bl true) H'
theorem scal_str (a b : Str) : scal (.str a) (.str b) = true := rfl
theorem dec_str_same (z : Str) : decide (V.str z = V.str z) = true := decide_eq_true rfl
theorem if_join {b : Bool} {t1 t2 : TS} {D : Ends} {σ : L2.St} {H : Hp} (C : L2.St → Hp → Prop) (h1 : b = true → ∀ nx' : L2.St → Hp → Prop, (∀ σ' H', C σ' H' → nx' σ' H') → t1 { D with nx := nx' } σ H)
    (h2 : b = false → ∀ nx' : L2.St → Hp → Prop, (∀ σ' H', C σ' H' → nx' σ' H') → t2 { D with nx := nx' } σ H) (h : ∀ σ' H', C σ' H' → D.nx σ' H') : if b = true then t1 D σ H else t2 D σ H := by
  cases b with
  | true => exact iteT (h1 rfl D.nx h)
  | false => exact iteF (h2 rfl D.nx h)
theorem same_made {H H' : Hp} {x dx : Addr} {o o' : HO} (nx : H x = none) (nd : H dx = none) (b : Bar x (upd (upd H dx o) x o') H') : Same H H' := fun c u e => by
  have n1 : c ≠ x := ne_of_none e nx
  refine b c u n1 ?_
  rw [upd_ne n1, upd_ne (ne_of_none e nd)]
  exact e
/-- a change at a place that H0 does not know -/
theorem same_bar {H0 H H' : Hp} {p : Addr} (s : Same H0 H) (n : H0 p = none) (b : Bar p H H') : Same H0 H' := fun c u e => b c u (ne_of_none e n) (s c u e)
def spLaw (K : PySem.W.Frag) : Sp := fun vs H Q _ => ∃ (a : Addr) (ns : List Int), vs = [.ref a] ∧ SqL K H a (ns.map V.int) ∧ ns.length ≤ 63 ∧ ∀ H', Q (.bl true) H'
theorem calOf {P : Program} {w : World} {K : PySem.W.Frag} {mg : Str → Option Value} {base : Heap} {k : Nat} {x q : Str} {st : Stmt} {f : Addr} {fd : FuncData} {ps : List Str} {sp : Sp} (F : L2.Fun K x q st f fd) (g : mg x = some (.ref f)) (b : Binds K fd ps [])
    (ok : FnOk P w K mg base CX0 k f fd ps sp) : C8.Cal P w K mg base k x sp [] := ⟨f, fd, ps, [], ok, g, F.kp, b, .nil⟩
theorem kit_self {K : PySem.W.Frag} {C : Addr} : PySem.W.kitOne K (.ref C) (.ref C) = some true := by
  unfold PySem.W.kitOne
  rw [if_pos (beq_self_eq_true _)]
theorem nsOk_of {K : PySem.W.Frag} {N : Addr} {c : Value} {d : Option Addr} {es : Array DictEntry} {n : Nat} {sl : Array (Option Value)} (l : K.lookup N = some ⟨c, d, .dict es n, sl⟩)
    (h : (es.toList.all fun e => match e.key with | .str _ _ => true | _ => false) = true) : PySem.W.nsOkIn K N = true := by
  unfold PySem.W.nsOkIn
  rw [l]
  show es.all _ = true
  rw [← Array.all_toList]
  exact h
section
open PySem.W PyProof.Rows PySem.Calls
variable {K : PySem.W.Frag} {C f : Addr}
theorem fills_in {M : Model} {h : Heap} {nm : String} {add : Bool} {cd : ClassData} {rest : List Value} (X : K.In h) (hc : clsIn K C = some cd) (hm : cd.mro = .ref C :: rest)
    (hs : findIn K (.ref C) (dunderI nm) = some (some (.ref f))) : Looks M h (fillsInplaceSlot (.ref C) nm add) true := by
  intro A Q E s k q
  unfold fillsInplaceSlot
  refine wpAny_bind ((looks_clsIn X hc).andThen (f := fun cd => pure cd.mro) .now A _ E s k ?_)
  rw [hm, List.anyM_cons]
  refine wpAny_bind (wpAny_bind (looks_findIn X hs A _ E s k ?_))
  dsimp only
  have own : (!ownNameWrapper (.ref f) (dunderI nm)) = true := rfl
  rw [if_pos own]
  exact wpAny_pure (by
    rw [if_pos rfl]
    exact wpAny_pure q)
theorem inplace_own {prog : Program} {w : World} {A : Around} {E : Value → Shared → Prop} {s : Shared} {x : Addr} {ox : Obj} {od : Option Obj} {op : Operator} {b : Value} {Q : Value → Shared → Prop} (X : K.In s.heap) (I : PySem.W.InstAt s.heap x ox C od) (hc : selfFirst K C = true)
    (hs : findIn K (.ref C) (dunderI op.info.2) = some (some (.ref f))) (hf : isFn K (.ref f) = true)
    (h : wpAny (model prog w) A (call (.ref f) [.ref x, b]) (PySem.W.CmpBack Q) E s) : wpAny (model prog w) A (inplaceOp op (.ref x) b) Q E s := by
  obtain ⟨cd, hcd, hm⟩ := any_some hc
  obtain ⟨rest, hm⟩ : ∃ rest, cd.mro = .ref C :: rest := by
    cases q : cd.mro with
    | nil =>
      rw [q] at hm
      cases hm
    | cons a r =>
      rw [q, List.head?_cons] at hm
      cases beq_iff_eq.mp hm
      exact ⟨r, rfl⟩
  unfold inplaceOp
  refine wpAny_holding ?_
  dsimp only
  refine wpAny_bind (I.type.here ?_)
  refine wpAny_bind ((fills_in X hcd hm hs).here ?_)
  rw [if_pos rfl]
  refine wpAny_bind (m := tryMethod (.ref x) _ b) ?_
  unfold tryMethod
  refine wpAny_bind (special_fn X I hs (beq_iff_eq.mp hf) (wpAny_mono h (fun v s' hv => ?_) fun _ _ e => e))
  cases v <;> first | exact hv.elim | exact wpAny_pure (wpAny_bind (wpAny_rule (wpAny_pure hv)))
end
/-- x op= y, by the class's own method -/
structure ISgn (P : Program) (w : World) (K : PySem.W.Frag) (mg : Str → Option Value) (base : Heap) (k : Nat) (C : Addr) (op : Operator) (sp : Sp) : Prop where
  ex : ∃ (f : Addr) (fd : FuncData) (ps : List Str), SignC K C (PySem.dunderI op.info.2) f ∧ FnOk P w K mg base CX0 k f fd ps sp ∧ Binds K fd ps []
theorem ip_sgn {X : Cx} {k j : Nat} {C : Addr} {op : Operator} {sp : Sp} (S : ISgn X.prog X.w X.K X.mg X.base k C op sp) (hr : Room j X.A) (hk : k ≤ j) : PIp X op (rSign C sp E0) := by
  obtain ⟨f, fd, ps, h1, h2, h3⟩ := S.ex
  intro pins s σ H x y v u Q I rx ry h
  obtain ⟨a, b, dx, fs, dx', fs', rfl, rfl, ha, hb2, q⟩ := h
  obtain rfl : v = Value.ref a := rx
  obtain rfl : u = Value.ref b := ry
  obtain ⟨mA, O, _, _, _, _⟩ := ins_get I.hok ha
  obtain ⟨od, J, _⟩ := O.look
  refine inplace_own I.kIn J h1.first h1.at_ h1.fn ?_
  refine wpAny_mono (run_fn h2 (hr.mono hk) h3 .nil pass0 I (us := [.ref a, .ref b]) (vs := [.ref a, .ref b]) (.cons rfl (.cons rfl .nil)) q) (fun r s' hq => ?_) fun _ _ e => e
  obtain ⟨z, H', I', rz, ⟨c, rfl⟩, q'⟩ := hq
  obtain rfl : r = Value.ref c := rz
  exact ⟨.ref c, H', I', rfl, q'⟩
def spISign (C : Addr) (g : Bool → Bool → Bool) : Sp := fun vs H Q _ => ∃ (a b : Addr) (y z : Str), vs = [.ref a, .ref b] ∧ BoxAt C H a y ∧ BoxAt C H b z ∧ IsC y ∧ IsC z ∧
  ∀ H', Bar a H H' → BoxAt C H' a (sb fun m => g (mem y m) (mem z m)) → Q (.ref a) H'
/-- rows[j] in rows[j] op= .. -/
def rGetL (K : PySem.W.Frag) : V → V → Hp → VK → Prop := fun x y H Q => ∃ (p : Addr) (xs : List V) (j : Nat) (v : V), x = .ref p ∧ y = .int (j : Int) ∧ SqL K H p xs ∧ xs[j]? = some v ∧ Q v H
theorem get_list {X : Cx} : PGet X (rGetL X.K) := by
  intro pins s σ H o i ov iv Q I ro ri h
  obtain ⟨p, xs, j, v, rfl, rfl, hq, he, q⟩ := h
  obtain rfl : ov = Value.ref p := ro
  obtain ⟨t, rfl⟩ := ri
  obtain ⟨its, r, pl, hz⟩ := I.list hq
  obtain ⟨w, ew, rw'⟩ := r.get he
  have hl := r.length
  have hn := line63
  have hj : j < xs.length := (List.getElem?_eq_some_iff.mp he).1
  refine wpAny_getItem_list pl.isList (by omega) (by omega) (by rw [Int.toNat_natCast]; simpa using ew) ⟨v, H, I, rw', q⟩
def spChanged (C : Addr) : Sp := fun vs H Q _ => ∃ (s : Nat) (a b : Addr) (y z : Str), vs = [.str (S [s]), .ref a, .ref b] ∧ isSign s ∧ BoxAt C H a y ∧ BoxAt C H b z ∧ IsC y ∧ IsC z ∧
  ∀ H', Bar a H H' → BoxAt C H' a (sb fun m => gs s (mem y m) (mem z m)) → Q (.ref a) H'
theorem ixN_nat {n j : Nat} (h : j < n) : ixN n (j : Int) = some j := by
  unfold ixN
  rw [if_pos (by omega), if_pos (by omega), Int.toNat_natCast]
theorem set_same {α : Type} {xs : List α} {k : Nat} {v : α} (h : xs[k]? = some v) : xs.set k v = xs := by
  refine List.ext_getElem? fun j => ?_
  rw [List.getElem?_set]
  obtain ⟨hk, e⟩ := List.getElem?_eq_some_iff.mp h
  by_cases c : k = j
  · subst c
    rw [if_pos rfl, if_pos hk, h]
  · rw [if_neg c]
def spChangeItem (C : Addr) : Sp := fun vs H Q _ => ∃ (s : Nat) (r a b : Addr) (k : Nat) (xs : List V) (y z : Str), vs = [.str (S [s]), .ref r, .int (k : Int), .ref b] ∧ isSign s ∧ H r = some (.lst xs) ∧ xs[k]? = some (.ref a) ∧ BoxAt C H a y ∧ BoxAt C H b z ∧ IsC y ∧ IsC z ∧
  ∀ H', Bar a H H' → BoxAt C H' a (sb fun m => gs s (mem y m) (mem z m)) → Q .non H'
/-- boxes and their contents, by place -/
def Boxes (C : Addr) (H : Hp) (bs : List Addr) (zs : List Str) : Prop := bs.length = zs.length ∧ ∀ (i : Nat) b z, bs[i]? = some b → zs[i]? = some z → BoxAt C H b z
theorem Boxes.same {C : Addr} {H H' : Hp} {bs : List Addr} {zs : List Str} (h : Boxes C H bs zs) (e : Same H H') : Boxes C H' bs zs := ⟨h.1, fun i b z h1 h2 => (h.2 i b z h1 h2).same e⟩
theorem Boxes.bar {C p : Addr} {H H' : Hp} {bs : List Addr} {zs : List Str} (h : Boxes C H bs zs) (e : Bar p H H') (n : p ∉ bs) : Boxes C H' bs zs :=
  ⟨h.1, fun i b z h1 h2 => (h.2 i b z h1 h2).bar e fun q => n (q ▸ List.mem_of_getElem? h1)⟩
theorem Boxes.set {C b : Addr} {H H' : Hp} {bs : List Addr} {zs : List Str} {i : Nat} {z : Str} (h : Boxes C H bs zs) (nd : bs.Nodup) (hb : bs[i]? = some b) (e : Bar b H H') (n : BoxAt C H' b z) : Boxes C H' bs (zs.set i z) := by
  refine ⟨by rw [List.length_set]; exact h.1, fun j c y h1 h2 => ?_⟩
  rw [List.getElem?_set] at h2
  by_cases q : i = j
  · subst q
    rw [if_pos rfl] at h2
    split at h2
    · rw [hb] at h1
      cases h1
      cases h2
      exact n
    · cases h2
  · rw [if_neg q] at h2
    refine (h.2 j c y h1 h2).bar e fun r => q ?_
    rw [r] at h1
    obtain ⟨hi, ei⟩ := List.getElem?_eq_some_iff.mp hb
    obtain ⟨hj, ej⟩ := List.getElem?_eq_some_iff.mp h1
    exact (List.getElem_inj nd).mp (ei.trans ej.symm)
theorem Boxes.at_ {C : Addr} {H : Hp} {bs : List Addr} {zs : List Str} {i : Nat} (h : Boxes C H bs zs) (hi : i < bs.length) : ∃ b z, bs[i]? = some b ∧ zs[i]? = some z ∧ BoxAt C H b z := by
  have hj : i < zs.length := h.1 ▸ hi
  exact ⟨bs[i], zs[i], List.getElem?_eq_getElem hi, List.getElem?_eq_getElem hj, h.2 i _ _ (List.getElem?_eq_getElem hi) (List.getElem?_eq_getElem hj)⟩
theorem get_snoc {α : Type} {l : List α} {x y : α} {i : Nat} (h : (l ++ [x])[i]? = some y) : l[i]? = some y ∨ (i = l.length ∧ y = x) := by
  by_cases c : i < l.length
  · rw [List.getElem?_append_left c] at h
    exact .inl h
  · rw [List.getElem?_append_right (by omega)] at h
    have e : i - l.length = 0 := by
      cases q : i - l.length with
      | zero => rfl
      | succ n =>
        rw [q] at h
        cases h
    rw [e] at h
    exact .inr ⟨by omega, (Option.some.inj h).symm⟩
theorem Boxes.snoc {C b : Addr} {H : Hp} {bs : List Addr} {zs : List Str} {z : Str} (h : Boxes C H bs zs) (n : BoxAt C H b z) : Boxes C H (bs ++ [b]) (zs ++ [z]) := by
  refine ⟨by rw [List.length_append, List.length_append, h.1]; rfl, fun j c y h1 h2 => ?_⟩
  rcases get_snoc h1 with h1 | ⟨e1, rfl⟩
  · rcases get_snoc h2 with h2 | ⟨e2, rfl⟩
    · exact h.2 j c y h1 h2
    · have := (List.getElem?_eq_some_iff.mp h1).1
      have := h.1
      omega
  · rcases get_snoc h2 with h2 | ⟨e2, rfl⟩
    · have := (List.getElem?_eq_some_iff.mp h2).1
      have := h.1
      omega
    · exact n
theorem Boxes.mem {C b : Addr} {H : Hp} {bs : List Addr} {zs : List Str} (h : Boxes C H bs zs) (hb : b ∈ bs) : ∃ z, BoxAt C H b z := by
  obtain ⟨i, hi, rfl⟩ := List.getElem_of_mem hb
  obtain ⟨b', z, h1, h2, h3⟩ := h.at_ hi
  rw [List.getElem?_eq_getElem hi] at h1
  cases h1
  exact ⟨z, h3⟩
theorem map_at {α β : Type} {f : α → β} {l : List α} {i : Nat} {x : α} (h : l[i]? = some x) : (l.map f)[i]? = some (f x) := by
  rw [List.getElem?_map, h]
  rfl
theorem map_from {α β : Type} {f : α → β} {l : List α} {i : Nat} {y : β} (h : (l.map f)[i]? = some y) : ∃ x, l[i]? = some x ∧ y = f x := by
  rw [List.getElem?_map] at h
  cases e : l[i]? with
  | none =>
    rw [e] at h
    cases h
  | some x =>
    rw [e] at h
    exact ⟨x, rfl, (Option.some.inj h).symm⟩
theorem take_snoc {α : Type} {l : List α} {i : Nat} {x : α} (h : l[i]? = some x) : l.take (i + 1) = l.take i ++ [x] := by
  rw [List.take_add_one, h]
  rfl
theorem Boxes.notin {C l : Addr} {H : Hp} {bs : List Addr} {zs : List Str} {xs : List V} (h : Boxes C H bs zs) (hl : H l = some (.lst xs)) : l ∉ bs := fun m => by
  obtain ⟨z, dx, e⟩ := h.mem m
  rw [hl] at e
  cases e
theorem Boxes.notin2 {C p q : Addr} {H : Hp} {bs : List Addr} {zs : List Str} (h : Boxes C H bs zs) (hB : BagAt H p q) : p ∉ bs ∧ q ∉ bs := by
  obtain ⟨c, s, i, ns, h1, h2, _⟩ := hB
  exact ⟨h.notin h1, h.notin h2⟩
/-- the state of a law with boxes and their due contents, in two lists -/
structure Two (C : Addr) (H0 : Hp) (p q tl bl : Addr) (bs : List Addr) : Prop where
  np : H0 p = none
  nt : H0 tl = none
  nb : H0 bl = none
  nbs : ∀ b ∈ bs, H0 b = none
  tp : tl ≠ p
  tq : tl ≠ q
  bp : bl ≠ p
  bq : bl ≠ q
  tb : tl ≠ bl
  nd : bs.Nodup
structure TwoAt (C : Addr) (H0 : Hp) (p q tl bl : Addr) (bs : List Addr) (zs : List Str) (H : Hp) : Prop where
  sm : Same H0 H
  bag : BagAt H p q
  t : H tl = some (.lst (zs.map V.str))
  b : H bl = some (.lst (bs.map V.ref))
  bx : Boxes C H bs zs
  ic : ∀ z ∈ zs, IsC z
theorem TwoAt.draw {C : Addr} {H0 H H' : Hp} {p q tl bl : Addr} {bs : List Addr} {zs : List Str} (h : TwoAt C H0 p q tl bl bs zs H) (w : Two C H0 p q tl bl bs) (b : Bar p H H') (hB : BagAt H' p q) : TwoAt C H0 p q tl bl bs zs H' :=
  ⟨same_bar h.sm w.np b, hB, b _ _ w.tp h.t, b _ _ w.bp h.b, h.bx.bar b (h.bx.notin2 h.bag).1, h.ic⟩
theorem TwoAt.same {C : Addr} {H0 H H' : Hp} {p q tl bl : Addr} {bs : List Addr} {zs : List Str} (h : TwoAt C H0 p q tl bl bs zs H) (s : Same H H') : TwoAt C H0 p q tl bl bs zs H' :=
  ⟨h.sm.trans s, h.bag.same s, s _ _ h.t, s _ _ h.b, h.bx.same s, h.ic⟩
theorem lc_yes {A B : Hp → Prop} {σ : L2.St} {H : Hp} (h : A H) : tYes σ H (fun b H3 => if b = true then A H3 else B H3) := @iteT (A H) (B H) h
theorem TwoAt.change {C : Addr} {H0 H H' : Hp} {p q tl bl b : Addr} {bs : List Addr} {zs : List Str} {m : Nat} {z : Str} (w : Two C H0 p q tl bl bs) (sm : Same H0 H) (bag : BagAt H p q) (t : H tl = some (.lst ((zs.set m z).map V.str))) (hb : H bl = some (.lst (bs.map V.ref)))
    (bx : Boxes C H bs zs) (ic : ∀ z ∈ zs, IsC z) (hz : IsC z) (hm : bs[m]? = some b) (e : Bar b H H') (n : BoxAt C H' b z) : TwoAt C H0 p q tl bl bs (zs.set m z) H' := by
  have mb := List.mem_of_getElem? hm
  have ne : ∀ {x}, x ∉ bs → x ≠ b := fun h q => h (q ▸ mb)
  have n2 := bx.notin2 bag
  refine ⟨same_bar sm (w.nbs b mb) e, bag.bar e (ne n2.1) (ne n2.2), e _ _ (ne (bx.notin t)) t, e _ _ (ne (bx.notin hb)) hb, bx.set w.nd hm e n, fun y hy => ?_⟩
  rcases List.mem_or_eq_of_mem_set hy with h | h
  · exact ic y h
  · rw [h]
    exact hz
theorem sign_of {y : V} (h : y ∈ [V.str "|", V.str "&", V.str "-", V.str "^"]) : ∃ s, y = .str (S [s]) ∧ isSign s := by
  simp only [List.mem_cons, List.not_mem_nil, or_false] at h
  rcases h with rfl | rfl | rfl | rfl
  · exact ⟨124, rfl, .inl rfl⟩
  · exact ⟨38, rfl, .inr (.inl rfl)⟩
  · exact ⟨45, rfl, .inr (.inr (.inr rfl))⟩
  · exact ⟨94, rfl, .inr (.inr (.inl rfl))⟩
end WB

set_option Elab.async false
set_option linter.all false
set_option maxRecDepth 100000
set_option maxHeartbeats 4000000
namespace WB
open PySem L2 PyProof.Rows
theorem vals_one {x : V} {us : List Value} (r : Vals [x] us) : ∃ u, us = [u] ∧ RelV x u := by
  cases r with
  | cons r1 r2 =>
    cases r2
    exact ⟨_, rfl, r1⟩
section
variable {X : Cx} {CX : CXT} {k j : Nat} {f C : Addr} {fd : FuncData} {ps : List Str} {sp : Sp} {E : XK}
theorem run_below {A : Around} {pins : List (Addr × Obj)} {σ : L2.St} {H : Hp} {s : Shared} {Q : VK} {us : List Value} {vs : List V} (F : FnOk X.prog X.w X.K X.mg X.base CX k f fd ps sp) (hr : Room k A) (e0 : Env0 X.prog X.w X.K X.mg X.base A X.stack s H)
    (hb : Binds X.K fd ps []) (hx : Passes CX X E) (I : Inv X pins σ H s) (r : Vals vs us) (h : sp vs H Q E) : wpAny (model X.prog X.w) A (call (.ref f) us) (EP X pins σ Q) X.xe s := by
  have hl : (us ++ ([] : List Value)).length = ps.length := by
    rw [List.append_nil, ← r.length]
    exact F.len _ _ _ _ h
  have hb2 := hb s us I.kIn hl
  rw [List.append_nil] at hb2
  refine wpAny_call (codeAny_mono (F.run A X.stack s H ⟨us, []⟩ us vs Q E hr e0 hb2 r h) fun r s' hq => ?_)
  cases r with
  | error er => exact hx pins σ H s er s' I hq
  | ok fl =>
    cases fl with
    | ret u => exact I.after hq
    | next => exact hq.elim
    | brk => exact hq.elim
    | cont => exact hq.elim
/-- what the class has under a name: a def that keeps its promise -/
structure Own (P : Program) (w : World) (K : PySem.W.Frag) (mg : Str → Option Value) (base : Heap) (k : Nat) (C : Addr) (nm : Str) (sp : Sp) : Prop where
  ex : ∃ (f : Addr) (fd : FuncData) (ps : List Str), PySem.W.findIn K (.ref C) nm = some (some (.ref f)) ∧ PySem.W.isFn K (.ref f) = true ∧ FnOk P w K mg base CX0 k f fd ps sp ∧ Binds K fd ps []
def rLenO (C : Addr) (sp : Sp) (E : XK) : List V → Hp → VK → Prop := fun xs H Q => ∃ a dx fs, xs = [.ref a] ∧ H a = some (.ins C dx fs) ∧ sp [.ref a] H (fun v H' => ∃ n : Nat, v = .int n ∧ n < 1000000 ∧ Q v H') E
theorem call_lenO (O : Own X.prog X.w X.K X.mg X.base k C "__len__" sp) (hr0 : Room j X.A) (hk : k + 1 ≤ j) : CallR X (.builtin "len") (rLenO C sp E0) := by
  obtain ⟨f, fd, ps, h1, h2, F, hb⟩ := O.ex
  have hr := hr0.mono hk
  intro pins s σ H xs us Q I r h
  obtain ⟨a, dx, fs, rfl, ha, q⟩ := h
  obtain ⟨u, rfl, r1⟩ := vals_one r
  obtain rfl : u = Value.ref a := r1
  obtain ⟨m, Fm⟩ := I.fr
  obtain ⟨mA, O', _, _, _, _⟩ := ins_get I.hok ha
  obtain ⟨od, J, _⟩ := O'.look
  refine PySem.W.len_K Fm I.mod.kin J h1 h2 ?_
  refine wpAny_mono (run_below F hr.in1 I.env0.in1 hb pass0 I (us := [.ref a]) (.cons (show RelV (.ref a) (.ref a) from rfl) .nil) q) (fun v s' hq => ?_) fun _ _ e => e
  obtain ⟨z, H', I', rz, ⟨n, rfl, hn, q'⟩⟩ := hq
  obtain ⟨t, rfl⟩ := rz
  exact ⟨⟨by omega, by omega⟩, ⟨.int n, H', I'.tok _, ⟨_, rfl⟩, q'⟩⟩
def rReprO (C : Addr) (sp : Sp) (E : XK) : List V → Hp → VK → Prop := fun xs H Q => ∃ a dx fs, xs = [.ref a] ∧ H a = some (.ins C dx fs) ∧ sp [.ref a] H (fun v H' => (∃ z, v = .str z) ∧ Q v H') E
theorem call_reprO (O : Own X.prog X.w X.K X.mg X.base k C "__repr__" sp) (hr0 : Room j X.A) (hk : k + 1 ≤ j) : CallR X (.builtin "repr") (rReprO C sp E0) := by
  obtain ⟨f, fd, ps, h1, h2, F, hb⟩ := O.ex
  have hr := hr0.mono hk
  intro pins s σ H xs us Q I r h
  obtain ⟨a, dx, fs, rfl, ha, q⟩ := h
  obtain ⟨u, rfl, r1⟩ := vals_one r
  obtain rfl : u = Value.ref a := r1
  obtain ⟨m, Fm⟩ := I.fr
  obtain ⟨mA, O', _, _, _, _⟩ := ins_get I.hok ha
  obtain ⟨od, J, _⟩ := O'.look
  refine PySem.W.repr_K (hr.in1).units0 Fm I.mod.kin J h1 h2 ?_
  refine wpAny_mono (run_below F hr.in1 I.env0.in1 hb pass0 I (us := [.ref a]) (.cons (show RelV (.ref a) (.ref a) from rfl) .nil) q) (fun v s' hq => ?_) fun _ _ e => e
  obtain ⟨z, H', I', rz, ⟨⟨y, rfl⟩, q'⟩⟩ := hq
  obtain ⟨t, rfl⟩ := rz
  exact ⟨.str y, H', I', ⟨_, rfl⟩, q'⟩
theorem call_strO (O : Own X.prog X.w X.K X.mg X.base k C "__str__" sp) (hr0 : Room j X.A) (hk : k + 2 ≤ j) : CallR X (.type "str") (rReprO C sp E0) := by
  obtain ⟨f, fd, ps, h1, h2, F, hb⟩ := O.ex
  have hr := hr0.mono hk
  intro pins s σ H xs us Q I r h
  obtain ⟨a, dx, fs, rfl, ha, q⟩ := h
  obtain ⟨u, rfl, r1⟩ := vals_one r
  obtain rfl : u = Value.ref a := r1
  obtain ⟨mA, O', _, _, _, _⟩ := ins_get I.hok ha
  obtain ⟨od, J, _⟩ := O'.look
  refine PySem.W.kso_call (hr.in1.in1).units0 I.kIn J h1 h2 ?_
  refine wpAny_mono (run_below F hr.in1.in1 I.env0.in1.in1 hb pass0 I (us := [.ref a]) (.cons (show RelV (.ref a) (.ref a) from rfl) .nil) q) (fun v s' hq => ?_) fun _ _ e => e
  obtain ⟨z, H', I', rz, ⟨⟨y, rfl⟩, q'⟩⟩ := hq
  obtain ⟨t, rfl⟩ := rz
  exact ⟨.str y, H', I', ⟨_, rfl⟩, q'⟩
def rInO (C : Addr) (sp : Sp) (E : XK) (g : Bool → Bool) : R2 := fun x y H Q => ∃ a dx fs, y = .ref a ∧ H a = some (.ins C dx fs) ∧ sp [.ref a, x] H (fun v H' => ∃ b, v = .bl b ∧ Q (.bl (g b)) H') E
theorem op_inO (O : Own X.prog X.w X.K X.mg X.base k C "__contains__" sp) (hr0 : Room j X.A) (hk : k ≤ j) : OpR X (compareOp .In) (rInO C sp E0 id) := by
  obtain ⟨f, fd, ps, h1, h2, F, hb⟩ := O.ex
  have hr := hr0.mono hk
  intro pins s σ H x y v u Q I rx ry h
  obtain ⟨a, dx, fs, rfl, ha, q⟩ := h
  obtain rfl : u = Value.ref a := ry
  obtain ⟨m, Fm⟩ := I.fr
  obtain ⟨mA, O', _, _, _, _⟩ := ins_get I.hok ha
  obtain ⟨od, J, _⟩ := O'.look
  refine PySem.W.in_K Fm I.mod.kin J h1 h2 ?_
  refine wpAny_mono (run_below F hr I.env0 hb pass0 I (us := [.ref a, v]) (.cons (show RelV (.ref a) (.ref a) from rfl) (.cons rx .nil)) q) (fun v s' hq => ?_) fun _ _ e => e
  obtain ⟨z, H', I', rz, ⟨b, rfl, q'⟩⟩ := hq
  obtain rfl : v = Value.bool b := rz
  exact wpAny_truthy_bool ⟨.bl b, H', I', rfl, q'⟩
theorem op_ninO (O : Own X.prog X.w X.K X.mg X.base k C "__contains__" sp) (hr0 : Room j X.A) (hk : k ≤ j) : OpR X (compareOp .NotIn) (rInO C sp E0 not) := by
  obtain ⟨f, fd, ps, h1, h2, F, hb⟩ := O.ex
  have hr := hr0.mono hk
  intro pins s σ H x y v u Q I rx ry h
  obtain ⟨a, dx, fs, rfl, ha, q⟩ := h
  obtain rfl : u = Value.ref a := ry
  obtain ⟨m, Fm⟩ := I.fr
  obtain ⟨mA, O', _, _, _, _⟩ := ins_get I.hok ha
  obtain ⟨od, J, _⟩ := O'.look
  refine PySem.W.notIn_K Fm I.mod.kin J h1 h2 ?_
  refine wpAny_mono (run_below F hr I.env0 hb pass0 I (us := [.ref a, v]) (.cons (show RelV (.ref a) (.ref a) from rfl) (.cons rx .nil)) q) (fun v s' hq => ?_) fun _ _ e => e
  obtain ⟨z, H', I', rz, ⟨b, rfl, q'⟩⟩ := hq
  obtain rfl : v = Value.bool b := rz
  exact wpAny_truthy_bool ⟨.bl (!b), H', I', rfl, q'⟩
/-- a property of the class -/
structure OwnProp (P : Program) (w : World) (K : PySem.W.Frag) (mg : Str → Option Value) (base : Heap) (k : Nat) (C : Addr) (nm : Str) (sp : Sp) : Prop where
  ex : ∃ (p g : Addr) (fd : FuncData) (ps : List Str), PropOf K C nm p g ∧ FnOk P w K mg base CX0 k g fd ps sp ∧ Binds K fd ps []
theorem pe_propO {nm : Str} {e : Expr} {ta : TE} {pos : Pos} (O : OwnProp X.prog X.w X.K X.mg X.base k C nm sp) (c : Cls X.K C) (hr : Room j X.A) (hk : k + 1 ≤ j) (he : PE X e ta)
    (hab : attributeBase e nm X.env (eval e X.env) = eval e X.env) : PE X (.Attribute e nm pos) (tProp C sp [] E0 ta) := by
  obtain ⟨p, g, fd, ps, h1, F, hb⟩ := O.ex
  exact pe_prop he c h1 F (hr.mono hk) hb .nil pass0 hab
end
/-! ### any value -/
def NoStr (K : PySem.W.Frag) (H : Hp) (x : V) : Prop := ∃ t, TyX K H x (.type t) ∧ kitB t "str" = some false
def Thing (K : PySem.W.Frag) (H : Hp) (x : V) : Prop := (∃ z : Str, x = .str z ∧ z.length ≤ 1000) ∨ NoStr K H x
theorem noStr_non {K : PySem.W.Frag} {H : Hp} : NoStr K H .non := ⟨_, .base .non, by decide +kernel⟩
theorem noStr_bl {K : PySem.W.Frag} {H : Hp} {b : Bool} : NoStr K H (.bl b) := ⟨_, .base (.bl b), by decide +kernel⟩
theorem noStr_int {K : PySem.W.Frag} {H : Hp} {i : Int} : NoStr K H (.int i) := ⟨_, .base (.int i), by decide +kernel⟩
theorem noStr_lst {K : PySem.W.Frag} {H : Hp} {a : Addr} {xs : List V} (h : H a = some (.lst xs)) : NoStr K H (.ref a) := ⟨_, .base (.lst h), by decide +kernel⟩
theorem noStr_tup {K : PySem.W.Frag} {H : Hp} {a : Addr} {xs : List V} (h : H a = some (.tup xs)) : NoStr K H (.ref a) := ⟨_, .base (.tup h), by decide +kernel⟩
/-- one of the marks, as a value -/
def hasV (z : Str) : V → Bool
  | .str y => match y.cps.toList with
    | [c] => mem z c
    | _ => false
  | _ => false
theorem hasV_noStr {K : PySem.W.Frag} {H : Hp} {x : V} (h : NoStr K H x) (z : Str) : hasV z x = false := by
  cases x with
  | str y =>
    obtain ⟨t, ty, k⟩ := h
    cases ty with
    | base b =>
      cases b
      exact absurd k (by decide +kernel)
  | non => rfl
  | bl b => rfl
  | int i => rfl
  | byt b => rfl
  | flt b => rfl
  | ref a => rfl
  | ty n => rfl
def spLen (C : Addr) : Sp := fun vs H Q _ => ∃ (a : Addr) (z : Str), vs = [.ref a] ∧ BoxAt C H a z ∧ z.length ≤ 1000 ∧ Q (.int (z.length : Nat)) H
def spHas (K : PySem.W.Frag) (C : Addr) : Sp := fun vs H Q _ => ∃ (a : Addr) (z : Str) (x : V), vs = [.ref a, x] ∧ BoxAt C H a z ∧ Thing K H x ∧ Q (.bl (hasV z x)) H
def plainB (z : Str) : Bool := z.cps.toList.all fun c => decide (97 ≤ c)
def spCross (C : Addr) : Sp := fun vs H Q _ => ∃ (a : Addr) (z : Str), vs = [.ref a] ∧ BoxAt C H a z ∧ IsC z ∧ ∀ H', Same H H' → Q (.bl (plainB z)) H'
def spWithin (C : Addr) : Sp := fun vs H Q _ => ∃ (a b : Addr) (y z : Str), vs = [.ref a, .ref b] ∧ BoxAt C H a y ∧ BoxAt C H b z ∧ IsC y ∧ ∀ H', Same H H' → Q (.bl (y.cps.toList.all fun c => mem z c)) H'
theorem isC_sub {z : Str} (h : IsC z) {c : Nat} (hc : c ∈ z.cps.toList) : c ∈ mk := by
  obtain ⟨p, rfl⟩ := h
  exact (List.mem_filter.mp hc).1
theorem upper_mk : ∀ c ∈ mk, Txt.isupper (S [c]) = !decide (97 ≤ c) := by decide +kernel
theorem filter_nil_all {z : List Nat} {t : Nat → Bool} : decide (z.filter (fun c => !t c) = []) = z.all t := by
  induction z with
  | nil => rfl
  | cons c r ih =>
    cases h : t c with
    | true =>
      rw [List.filter_cons_of_neg (by rw [h]; decide), List.all_cons, h, ih]
      rfl
    | false =>
      rw [List.filter_cons_of_pos (by rw [h]; rfl), List.all_cons, h, decide_eq_false (by simp)]
      rfl
theorem NoStr.mono {K : PySem.W.Frag} {H H' : Hp} {x : V} (h : NoStr K H x) (e : ∀ a o, x = .ref a → H a = some o → H' a = some o) : NoStr K H' x := by
  obtain ⟨t, ty, k⟩ := h
  refine ⟨t, ?_, k⟩
  generalize hT : Value.type t = T at ty
  cases ty with
  | base b =>
    cases b with
    | non => exact .base .non
    | bl b => exact .base (.bl b)
    | int i => exact .base (.int i)
    | str z => exact .base (.str z)
    | flt z => exact .base (.flt z)
    | lst h => exact .base (.lst (e _ _ rfl h))
    | frz h => exact .base (.frz (e _ _ rfl h))
    | tup h => exact .base (.tup (e _ _ rfl h))
    | dK h => exact .base (.dK (e _ _ rfl h))
    | dT h => exact .base (.dT (e _ _ rfl h))
    | ins h a b c d f => exact .base (.ins (e _ _ rfl h) a b c d f)
  | byt b => exact .byt b
  | set h => exact .set (e _ _ rfl h)
  | kList h c => exact .kList h c
  | kTuple h c => exact .kTuple h c
  | kDict h c => exact .kDict h c
  | fTuple h => exact .fTuple (e _ _ rfl h)
  | fDict h => exact .fDict (e _ _ rfl h)
theorem Thing.mono {K : PySem.W.Frag} {H H' : Hp} {x : V} (h : Thing K H x) (e : ∀ a o, x = .ref a → H a = some o → H' a = some o) : Thing K H' x := by
  rcases h with h | h
  · exact .inl h
  · exact .inr (h.mono e)
theorem cut_len {z : Str} {lo hi : Option Int} {n : Nat} (h : z.length ≤ n) : (cutS z lo hi).length ≤ n := Nat.le_trans (cutS_length z lo hi) h
def spPlus : Sp := fun vs H Q _ => ∃ (p q : Addr) (t : Str), vs = [.ref p, .str t] ∧ BagAt H p q ∧ IsC t ∧ ∀ H' z, Bar p H H' → BagAt H' p q → IsC z → Q (.str z) H'
def spAsked (K : PySem.W.Frag) : Sp := fun vs H Q _ => ∃ (p q : Addr) (t : Str), vs = [.ref p, .str t] ∧ BagAt H p q ∧ IsC t ∧ ∀ H' x, Bar p H H' → BagAt H' p q → Thing K H' x → Q x H'
def spHolds (K : PySem.W.Frag) : Sp := fun vs H Q _ => ∃ (t : Str) (x : V), vs = [.str t, x] ∧ IsC t ∧ Thing K H x ∧ Q (.bl (hasV t x)) H
def spRight4 (C : Addr) : Sp := fun vs H Q _ => ∃ (p q b : Addr) (t : Str), vs = [.ref p, .ref b, .str t] ∧ BagAt H p q ∧ BoxAt C H b t ∧ IsC t ∧ ∀ H', Bar p H H' → BagAt H' p q → Q (.bl true) H'
/-- the mark at a place is asked for -/
theorem hasV_sg {z : Str} {c : Nat} : hasV z (sg c) = mem z c := rfl
theorem hasV_none {z : Str} {x : V} (h : ∀ c ∈ z.cps.toList, x ≠ sg c) : hasV z x = false := by
  cases x with
  | str y =>
    unfold hasV
    simp only
    split
    · rename_i c hc
      have ey : y = ⟨#[c]⟩ := by
        rw [← SX.S_tl y, hc]
      cases q : mem z c with
      | false => rfl
      | true => exact absurd (show V.str y = sg c by rw [ey]; rfl) (h c (of_decide_eq_true q))
    · rfl
  | non => rfl
  | bl b => rfl
  | int i => rfl
  | byt b => rfl
  | flt b => rfl
  | ref a => rfl
  | ty n => rfl
theorem lay_strs : ∀ ns : List Nat, (∀ c ∈ ns, c < 1000) → PyData.canLayAll0 (ns.map fun c => PyData.str (S [c])) = true ∧ PyData.depthAll (ns.map fun c => PyData.str (S [c])) = 0
  | [], _ => ⟨rfl, rfl⟩
  | n :: r, h => by
    obtain ⟨h1, h2⟩ := lay_strs r fun c hc => h c (List.mem_cons_of_mem _ hc)
    refine ⟨?_, ?_⟩
    · show (PyData.canLay0 (.str (S [n])) && PyData.canLayAll0 (r.map _)) = true
      rw [h1, Bool.and_true]
      show (#[n] : Array Nat).all (fun c => decide (c < 0x110000)) = true
      have := h n List.mem_cons_self
      simp
      omega
    · show max (PyData.depth (.str (S [n]))) (PyData.depthAll (r.map _)) = 0
      rw [h2]
      rfl
theorem dp_strs {K : PySem.W.Frag} {H : Hp} : ∀ ns : List Nat, DpAll K H (ns.map sg) (ns.map fun c => PyData.str (S [c]))
  | [] => .nil
  | n :: r => .cons (.str _) (dp_strs r)
theorem shaped_strs {ns : List Nat} (h : ∀ c ∈ ns, c < 1000) : SeqAt.shaped (.list (ns.map fun c => PyData.str (S [c]))) = true := by
  obtain ⟨h1, h2⟩ := lay_strs ns h
  have e1 : PyData.canLay0 (.list (ns.map fun c => PyData.str (S [c]))) = true := h1
  have e2 : PyData.depth (.list (ns.map fun c => PyData.str (S [c]))) ≤ 64 := by
    show PyData.depthAll (ns.map _) + 1 ≤ 64
    omega
  unfold SeqAt.shaped
  rw [e1, decide_eq_true e2]
  rfl
theorem eqv_nil_strs (ns : List Nat) : PyData.eqv (.list (ns.map fun c => PyData.str (S [c]))) (.list []) = decide (ns = []) := by
  cases ns with
  | nil => rfl
  | cons n r =>
    rw [decide_eq_false (by simp)]
    rfl
theorem mk_small : ∀ c ∈ mk, c < 1000 := by decide +kernel
end WB

set_option Elab.async false
set_option linter.all false
set_option maxRecDepth 100000
set_option maxHeartbeats 4000000
namespace WB
open PySem L2 PyProof.Rows
/-! ### a def that is called where no repr is under way -/
structure FnG (P : Program) (w : World) (K : PySem.W.Frag) (mg : Str → Option Value) (base : Heap) (CX : CXT) (k : Nat) (f : Addr) (fd : FuncData) (ps : List Str) (sp : Sp) : Prop where
  len : ∀ vs H Q E, sp vs H Q E → vs.length = ps.length
  run : ∀ (A : Around) (outer : List Env) (s : Shared) (H : Hp) (args : Args) (us : List Value) (vs : List V) (Q : VK) (E : XK), A.guards = some [] → Room k A → Env0 P w K mg base A outer s H → BindsTo s fd args (ps.zip us) → Vals vs us → sp vs H Q E →
    codeAny (model P w) A (.call (.ref f) args) (CR CX outer P w H s Q E) s
section
variable {P : Program} {w : World} {K : PySem.W.Frag} {mg : Str → Option Value} {base : Heap}
theorem fn_g {x qual : Str} {st : Stmt} {f : Addr} {fd : FuncData} {N ps : List Str} {k : Nat} {sp : Sp} (F : Fun K x qual st f fd) (S : FnScope N ps (defScope st)) (len : ∀ vs H Q E, sp vs H Q E → vs.length = ps.length)
    (body : ∀ (cdv : Value) (A : Around) (outer : List Env) (s : Shared) (H : Hp) (vs : List V) (Q : VK) (E : XK), (A.deeper (envOfC qual (defScope st) s.heap.objs.size f cdv)).guards = some [] → Room k (A.deeper (envOfC qual (defScope st) s.heap.objs.size f cdv)) → sp vs H Q E →
      ∃ t, PSs (cxOf C8.CX0 P w K mg base N qual (defScope st) f cdv A outer s H E).nox (defBody st) t ∧ t { nx := fun _ H' => Q .non H', rt := Q } (start N vs) H) : FnG P w K mg base C8.CX0 (k + 1) f fd ps sp := by
  obtain ⟨oc, od, kV, doc, pm, an, cdv, ct, osl, rfl, lk, hcd⟩ := F.ex
  refine ⟨len, fun A outer s H args us vs Q E gd hr e0 hb r hsp => ?_⟩
  have hl := len _ _ _ _ hsp
  have under : ∀ b o, base.get? b = some o → s.heap.get? b = some o := fun b o e => (e0.bs b o e).1
  have KX : K.In s.heap := e0.mod.kin.keeps under
  have lim : s.heap.NoLimit := e0.mod.nolimit.keeps under
  have kind : ∀ y ∈ ps.zip us, (defScope st).names.lookup y.1 = some .local ∨ ((defScope st).names.lookup y.1 = some .cell ∧ ((cellsFrom (s.heap.objs.size + 1) (defScope st).names []).lookup y.1).isSome = true) := fun ⟨n, v⟩ hy =>
    (S.par n (List.of_mem_zip hy).1).imp id fun q => ⟨q, PySem.W.cellsFrom_some _ _ _ (.inl q)⟩
  refine codeAny_call_function hr.depth (KX _ _ lk) rfl S.co S.gen rfl (PySem.W.codeRec_of KX hcd) (hb _ _ _ _ ?_)
  refine wpAny_newFunctionEnv_cells S.kind kind fun env he s1 x => ?_
  subst he
  refine ⟨lim.keeps x.toInCall.keep, codeAny_func ?_⟩
  obtain ⟨t, ht, hq⟩ := body cdv A outer s H vs Q E gd (hr.deeper _) hsp
  have I : Inv (cxOf C8.CX0 P w K mg base N qual (defScope st) f cdv A outer s H E) [] (start N vs) H s1 := inv_start S hr.hd e0 hl r x
  refine wpAny_mono (ht.nox.run [] s1 (start N vs) H _ I hq) (fun fl s' hs => ?_) fun e s' hs => hs
  cases fl with
  | ret u =>
    obtain ⟨v, σ', H', J, rv, q⟩ := hs
    exact ⟨v, H', J.os, J.bare, J.base, J.hok, rv, q⟩
  | next =>
    obtain ⟨σ', H', J, q⟩ := hs
    exact ⟨.non, H', J.os, J.bare, J.base, J.hok, rfl, q⟩
  | brk =>
    obtain ⟨_, _, _, q⟩ := hs
    exact q.elim
  | cont =>
    obtain ⟨_, _, _, q⟩ := hs
    exact q.elim
end
/-- the law's own call, no repr under way -/
theorem law_g {P : Program} {w : World} {K : PySem.W.Frag} {mg mb : Str → Option Value} {k : Nat} {fa a : Addr} {fd : FuncData} {x : Str} {sp : Sp} {s₁ : Shared} {vs : List Value} {ns : List Int}
    (KX : K.In s₁.heap) (hns : s₁.heap.Ns mainGlobals mg) (hb : s₁.heap.Ns builtinsNs mb) (hbb : ∀ x : Str, x ≠ "__name__" → mb x = bootBuiltins x) (hlim : s₁.heap.NoLimit) (hg : s₁.gens = #[])
    (ha : s₁.heap.get? a = some { cls := .type "list", data := .seq vs.toArray }) (hi : IntsAre vs ns) (hl : ns.length ≤ sizeLine) (hr : Room k callerA)
    (F : ∀ base : Heap, K.In base → base.Ns mainGlobals mg → FnG P w K mg base C8.CX0 k fa fd [x] sp) (hbind : ∀ (s : Shared) (u : Value), BindsTo s fd ⟨[u], []⟩ [(x, u)])
    (hsp : ∀ H : Hp, Only H → SqL K H a (ns.map V.int) → sp [.ref a] H (fun v _ => v = .bl true) fun _ _ _ => False) :
    codeAny (model P w) callerA (.call (.ref fa) ⟨[.ref a], []⟩) (fun r s' => r = .ok (.ret (.bool true)) ∧ OldK s₁.heap s'.heap ∧ s'.os = s₁.os ∧ AllBare s'.gens) s₁ := by
  have rv := vals_ints hi
  have lenV := hi.length
  have core : ∀ H : Hp, SqL K H a (ns.map V.int) → HOk P w H s₁.heap → (H = (fun _ => none) ∨ (K.lookup a = none ∧ ∃ ob xs, H = fun b => if b = a then some (.frz ob (.lst xs)) else none)) →
      codeAny (model P w) callerA (.call (.ref fa) ⟨[.ref a], []⟩) (fun r s' => r = .ok (.ret (.bool true)) ∧ OldK s₁.heap s'.heap ∧ s'.os = s₁.os ∧ AllBare s'.gens) s₁ := by
    intro H hS hok hH
    have only : Only H := fun b => by
      rcases hH with rfl | ⟨_, ob, xs, rfl⟩
      · exact .inl rfl
      · by_cases c : b = a
        · exact .inr ⟨ob, xs, if_pos c⟩
        · exact .inl (if_neg c)
    have off : ∀ {b : Addr}, b ≠ a → H b = none := fun {b} n => by
      rcases hH with rfl | ⟨_, ob, xs, rfl⟩
      · rfl
      · exact if_neg n
    have low : ∀ {b : Addr} {o : Obj}, s₁.heap.get? b = some o → H b = none → (hidT s₁.heap H).get? b = some o := fun e n => hidT_get e n
    have isD : ∀ {b : Addr} {o : Obj} {es : Array DictEntry} {ep : Nat}, s₁.heap.get? b = some o → o.data = .dict es ep → b ≠ a := fun {b o es ep} e d z => by
      rw [z, ha] at e
      cases e
      have d' : Data.seq vs.toArray _ = Data.dict es ep := d
      cases d'
    have nsK : ∀ {b : Addr} {m : Str → Option Value}, s₁.heap.Ns b m → (hidT s₁.heap H).Ns b m := fun {b m} ⟨o, es, ep, e, d, r⟩ => ⟨o, es, ep, low e (off (isD e d)), d, r⟩
    have inB : K.In (hidT s₁.heap H) := fun b o e => low (KX b o e) (by
      rcases hH with rfl | ⟨n, _⟩
      · rfl
      · exact off fun z => by
          rw [z, n] at e
          cases e)
    have hM : Mod K mg (hidT s₁.heap H) := ⟨inB, nsK hns, ⟨mb, nsK hb, hbb⟩, let ⟨mc, h1, h2⟩ := hlim; ⟨mc, nsK h1, h2⟩⟩
    have e0 : Env0 P w K mg (hidT s₁.heap H) callerA [] s₁ H := ⟨rfl, hM, fun b o e => of_hidT e, Nat.le_of_eq (hidT_size _ _), trivial, fun b hb => absurd hb (List.not_mem_nil), hok, .of_eq hg⟩
    refine codeAny_mono ((F _ inB (nsK hns)).run callerA [] s₁ H ⟨[.ref a], []⟩ [.ref a] [.ref a] _ _ rfl hr e0 (hbind s₁ (.ref a)) (.cons rfl .nil) (hsp H only hS)) fun r s' h => ?_
    cases r with
    | error e => exact False.elim h
    | ok fl =>
      cases fl with
      | next => exact False.elim h
      | brk => exact False.elim h
      | cont => exact False.elim h
      | ret u =>
        obtain ⟨v, H', os, bare, un, hok', r', q⟩ := h
        obtain rfl : v = V.bl true := q
        obtain rfl : u = Value.bool true := r'
        refine ⟨rfl, OldK.of_keep fun b o e => ?_, os, bare⟩
        rcases only b with n | ⟨ob, xs, z⟩
        · exact un.keep b o e n (List.not_mem_nil) (List.not_mem_nil)
        · have z2 := un.frzs b ob _ z
          obtain ⟨e1, _⟩ := hok b _ z
          obtain ⟨e2, _⟩ := hok' b _ z2
          rw [e] at e1
          cases e1
          exact e2
  cases hk : K.lookup a with
  | some o =>
    have e := KX a o hk
    rw [ha] at e
    cases e
    exact core (fun _ => none) (.inr ⟨_, vs.toArray, _, hk, rfl, rfl, rfl, by rw [List.size_toArray, lenV]; exact hl, by simpa using rv⟩) (fun b u z => by cases z) (.inl rfl)
  | none =>
    refine core (fun b => if b = a then some (.frz { cls := .type "list", data := .seq vs.toArray } (.lst (ns.map V.int))) else none) (.inl (.inr ⟨{ cls := .type "list", data := .seq vs.toArray }, if_pos rfl⟩)) (fun b u z => ?_) (.inr ⟨hk, _, _, rfl⟩)
    by_cases hb : b = a
    · have z' := (if_pos hb).symm.trans z
      cases z'
      subst hb
      exact ⟨ha, by rw [List.length_map]; exact hl, vs, _, rv, ha⟩
    · have z' := (if_neg hb).symm.trans z
      cases z'
theorem walk_g {l : PySem.W.OpenLaw} {n k : Nat} {q : Program} {loose : List Str} {XP : (Str → Option Value) → Heap → Prop} {YP : World → Heap → Prop} {d : DefRec} {K : Params → PySem.W.Frag} {sp : World → Sp} {x : Str}
    (hn : l.most = some n) (hn2 : n ≤ sizeLine) (hdf : d.params.defaults = []) (hr : Room k callerA)
    (hY : ∀ (w : World) (h : Heap), YP w h → (K w.params).In h)
    (F : ∀ (w : World) (mg : Str → Option Value) (fa : Addr) (h : Heap), (K w.params).In h → h.Ns mainGlobals mg → mg d.name = some (.ref fa) →
      ∃ fd : FuncData, (∀ (s : Shared) (u : Value), BindsTo s fd ⟨[u], []⟩ [(x, u)]) ∧
        ∀ base : Heap, (K w.params).In base → base.Ns mainGlobals mg → FnG l.prog w (K w.params) mg base C8.CX0 k fa fd [x] (sp w))
    (hsp : ∀ (w : World) (H : Hp) (a : Addr) (ns : List Int), ns.length ≤ n → Only H → SqL (K w.params) H a (ns.map V.int) → sp w [.ref a] H (fun v _ => v = .bl true) fun _ _ _ => False) :
    PySem.W.WalkO q loose XP YP l.row.toRowW d [] (fun f vs => PySem.call f vs) := by
  refine Att.attach_call hn hdf fun w s₀ s₁ mg mb fa o pm cd doc a vs ns G Y ho hd hcd hmg hobj hints hlen hg => ?_
  have KX := hY w _ Y
  obtain ⟨fd, hb, hF⟩ := F w mg fa _ KX G.T.g hmg
  exact law_g KX G.T.g G.T.b G.T.builtins G.T.nolimit hg hobj hints (Nat.le_trans hlen hn2) hr hF hb fun H hO hS => hsp w H a ns hlen hO hS
/-! ### repr of data -/
structure OkD (d : PyData) : Prop where
  sh : d.showable = true
  nd : d.hasDict = false
  dp : d.depth ≤ 64
  sz : (∃ i, d = .int i) ∨ d.shown.length ≤ sizeLine
theorem OkD.len {d : PyData} (h : OkD d) (n : ∀ i, d ≠ .int i := by intro _ z; cases z) : d.shown.length ≤ sizeLine := h.sz.resolve_left fun ⟨i, e⟩ => n i e
def rReprD (K : PySem.W.Frag) : List V → Hp → VK → Prop := fun xs H Q => ∃ x d, xs = [x] ∧ Dp K H x d ∧ OkD d ∧ Q (.str d.shown) H
theorem call_reprD {X : Cx} (gd : X.A.guards = some []) (hu : X.A.units + 70 < cLine) : CallR X (.builtin "repr") (rReprD X.K) := by
  intro pins s σ H xs us Q I r h
  obtain ⟨x, d, rfl, hd, ok, q⟩ := h
  obtain ⟨u, rfl, r1⟩ := vals_one r
  obtain ⟨as, rd⟩ := Dp.reads I d x u hd r1
  cases hd with
  | non =>
    obtain rfl : u = Value.none := r1
    exact PySem.P.repr_of_none ⟨.str _, H, I.tok _, ⟨_, rfl⟩, q⟩
  | bl b =>
    obtain rfl : u = Value.bool b := r1
    exact PySem.P.repr_of_bool ⟨.str _, H, I.tok _, ⟨_, rfl⟩, q⟩
  | int i =>
    obtain ⟨t, rfl⟩ := r1
    exact PySem.P.repr_of_int (of_decide_eq_true ok.sh) ⟨.str _, H, I.tok _, ⟨_, rfl⟩, q⟩
  | str z =>
    obtain ⟨t, rfl⟩ := r1
    exact PySem.P.repr_of_str ⟨.str _, H, I.tok _, ⟨_, rfl⟩, q⟩ ok.len
  | lst h1 h2 =>
    rename_i a xs ds
    obtain rfl : u = Value.ref a := r1
    refine repr_of_reads' rd ok.sh (PyData.noDict_hsm ok.nd) gd (by have := ok.dp; omega) (fun _ _ e => e) (fun h' u tk hk => ⟨.str _, H, I.kept hk, ⟨_, rfl⟩, q⟩) ok.len
  | tup h1 h2 =>
    rename_i a xs ds
    obtain rfl : u = Value.ref a := r1
    refine repr_of_reads' rd ok.sh (PyData.noDict_hsm ok.nd) gd (by have := ok.dp; omega) (fun _ _ e => e) (fun h' u tk hk => ⟨.str _, H, I.kept hk, ⟨_, rfl⟩, q⟩) ok.len
end WB

set_option Elab.async false
set_option linter.all false
set_option maxRecDepth 100000
set_option maxHeartbeats 4000000
namespace WB
open PySem L2 PyProof.Rows
/-! ### for i, c in enumerate(text) -/
theorem new_enum_text {x : Str} {t : Tok} :
    Meets (Builtin.«enumerate.__new__» ⟨[.type "enumerate", .str x t], []⟩) (fun _ R s =>
      R (.ok (.ret (.ref (s.heap.push { cls := .type (strIterType x), data := .fields #[.str x t, .int 0 0] }).objs.size))) { s with heap := (s.heap.push { cls := .type (strIterType x), data := .fields #[.str x t, .int 0 0] }).push { cls := .type "enumerate", data := .fields #[.none, .bool false, .ref s.heap.objs.size, rawInt 0, .none, .none] } }) :=
  .of_wp fun prog w A R s h => by
    obtain ⟨hp, g, d, tk, os⟩ := s
    have hsub := sub_enumerate
    have B := begins_text x t
    have q1 : ∀ {A' : Around} {E : Value → Shared → Prop} {Q : Value → Shared → Prop}, Q (.ref hp.objs.size) ⟨hp.push { cls := .type (strIterType x), data := .fields #[.str x t, .int 0 0] }, g, d, tk, os⟩ → wpAny (model prog w) A' (pyIter (.str x t)) Q E ⟨hp, g, d, tk, os⟩ :=
      fun q => B.iter prog w _ _ ⟨hp, g, d, tk, os⟩ _ trivial q
    wp_walk using q1
    refine wpAny_stack_any fun st => wpAny_pure ?_
    split
    · rename_i c _ _ _ _ _
      cases (c == Value.type "enumerate")
      · wp_walk using q1
        exact ⟨_, rfl, h⟩
      · wp_walk using q1
        exact ⟨_, rfl, h⟩
    · wp_walk using q1
      exact ⟨_, rfl, h⟩
theorem call_enum_text {prog : Program} {w : World} {A : Around} {E : Value → Shared → Prop} {s : Shared} {x : Str} {t : Tok} {Q : Value → Shared → Prop}
    (h : ∀ h', IsEnum h' (s.heap.objs.size + 1) s.heap.objs.size 0 .none → h'.IsStrIter s.heap.objs.size (strIterType x) x t 0 →
      (∀ b o, s.heap.get? b = some o → h'.get? b = some o) → Q (.ref (s.heap.objs.size + 1)) { s with heap := h' }) :
    wpAny (model prog w) A (call (.type "enumerate") [.str x t]) Q E s := by
  refine callType_new F.called_enumerate (by decide) (F.typeCall_enumerate_1 _) (F.newCall_enumerate_1 _) (fun obj => F.args_object_init_2 obj _) F.entry_enumerate_new new_enum_text ?_
  have hz : (s.heap.push { cls := .type (strIterType x), data := .fields #[.str x t, .int 0 0] }).objs.size = s.heap.objs.size + 1 := Heap.size_push ..
  show _ ∧ _
  rw [hz]
  have he : IsEnum ((s.heap.push { cls := .type (strIterType x), data := .fields #[.str x t, .int 0 0] }).push { cls := .type "enumerate", data := .fields #[.none, .bool false, .ref s.heap.objs.size, rawInt 0, .none, .none] }) (s.heap.objs.size + 1) s.heap.objs.size 0 .none := by
    have := Heap.get?_push_size (s.heap.push { cls := .type (strIterType x), data := .fields #[.str x t, .int 0 0] }) (o := { cls := .type "enumerate", data := .fields #[.none, .bool false, .ref s.heap.objs.size, rawInt 0, .none, .none] }) rfl
    rw [hz] at this
    exact this
  refine ⟨⟨_, he, rfl⟩, h _ he ⟨_, Heap.get?_push_of_some _ (Heap.get?_push_size _ rfl), rfl, rfl⟩ fun b o y => Heap.get?_push_of_some _ (Heap.get?_push_of_some _ y)⟩
def Ites (x : Str) : It :=
  ⟨fun i _ => i < x.cps.size, fun i H v H' => ∃ T c, v = .ref T ∧ H T = none ∧ H' = upd H T (.tup [.int (i : Nat), .str ⟨#[c]⟩]) ∧ x.cps[i]? = some c, fun i _ => i = x.cps.size⟩
theorem turn_enumS {P : Program} {w : World} {K : PySem.W.Frag} {elts : List Expr} {kk : Nat} {tpos : Pos} (x : Str) (t : Tok) (e it : Addr) :
    Turn P w K (.Tuple elts kk tpos) (Ites x) [e, it] e (fun i h => (∃ old, IsEnum h e it ((i : Nat) : Int) old) ∧ h.IsStrIter it (strIterType x) x t i ∧ e ≠ it) where
  mem := by simp
  obj := fun i h st b hb => by
    obtain ⟨⟨old, he⟩, ⟨o, ho, hc, hd⟩, _⟩ := st
    have e' : b = e ∨ b = it := by simpa using hb
    rcases e' with z | z
    · rw [z]
      exact ⟨_, he, fun v q => nomatch q⟩
    · rw [z]
      exact ⟨o, ho, fun v q => by rw [hd] at q; cases q⟩
  keep := fun i h h' st k => by
    obtain ⟨⟨old, he⟩, ⟨o, ho, r⟩, hne⟩ := st
    exact ⟨⟨old, k e (by simp) _ he⟩, ⟨o, k it (by simp) o ho, r⟩, hne⟩
  item := by
    intro X hP hw hK hc i pins s σ H E I hf st hg
    subst hP hw hK
    obtain ⟨⟨old, he⟩, hit, hne⟩ := st
    have hel : e < s.heap.objs.size := Heap.lt_size he
    have hil : it < s.heap.objs.size := by
      obtain ⟨_, q, _⟩ := hit
      exact Heap.lt_size q
    have D := Draws.text (prog := X.prog) (w := X.w) (A := X.A.in1) (I.ok.hd hc) it x t
    refine wpAny_pyNext_enum_itemD D he hit hg hne (by simpa using hne) fun v h' tk hv ho hit' hT hsz hk => ?_
    obtain ⟨c, u, hcx, rfl⟩ := hv
    refine ⟨_, rfl, wpAny_letOwnedTupleGo_enum (s := { s with heap := h', toks := tk + 1 }) ho fun h'' he' sb => ?_⟩
    have hT2 : h''.get? s.heap.objs.size = some { cls := .type "tuple", data := .seq #[.int i tk, .str ⟨#[c]⟩ u] } := (sb.2 _ (Nat.ne_of_gt hel)).trans hT
    have new : ObjOk X.prog X.w (upd H s.heap.objs.size (.tup [.int (i : Nat), .str ⟨#[c]⟩])) h'' s.heap.objs.size (.tup [.int (i : Nat), .str ⟨#[c]⟩]) :=
      ⟨by show 2 ≤ sizeLine; decide, [.int i tk, .str ⟨#[c]⟩ u], .cons ⟨_, rfl⟩ (.cons ⟨u, rfl⟩ .nil), ⟨_, hT2, rfl, _, rfl⟩⟩
    have I1 : Inv X pins σ (upd H s.heap.objs.size (.tup [.int (i : Nat), .str ⟨#[c]⟩])) { s with heap := h'', toks := tk + 1 } :=
      I.turnedNew (ch := [e, it]) (fun b ob hb q => (sb.2 b (fun z => hb (by simp [z]))).trans (hk b ob (fun z => hb (by simp [z])) (fun z => hb (by simp [z])) q)) hf (Nat.le_refl _) new
    refine ⟨.ref s.heap.objs.size, _, I1, rfl, ⟨_, c, rfl, I.hok.fresh (Nat.le_refl _), rfl, hcx⟩, ⟨⟨.str ⟨#[c]⟩ u, ?_⟩, ?_, hne⟩, fun b hb => ?_⟩
    · have e1 : ((i + 1 : Nat) : Int) = (i : Int) + 1 := by omega
      rw [e1]
      exact he'
    · obtain ⟨o, q1, q2⟩ := hit'
      exact ⟨o, (sb.2 it (Ne.symm hne)).trans q1, q2⟩
    · have hb' : b < s.heap.objs.size := by
        have e' : b = e ∨ b = it := by simpa using hb
        rcases e' with z | z
        · rw [z]
          exact hel
        · rw [z]
          exact hil
      rw [upd_ne (Nat.ne_of_lt hb')]
      exact (hf b hb).1
  done := by
    intro X hP hw hK hc i pins s σ H E I hf st hg
    subst hP hw hK
    obtain ⟨⟨old, he⟩, hit, hne⟩ := st
    obtain ⟨f0, f1, f2, f3, f4, f5⟩ := hf it (by simp)
    have D := Draws.text (prog := X.prog) (w := X.w) (A := X.A.in1) (I.ok.hd hc) it x t
    have hg : i = x.cps.size := hg
    rw [hg] at hit
    exact wpAny_pyNext_enum_endD D he hit fun h' eb => ⟨rfl, I.turned (t' := s.toks) (fun b o hb q => eb b o hb q) f0 f1 f3 f4 f5⟩
  self := fun A i s Q E st h => by
    obtain ⟨⟨_, he⟩, _⟩ := st
    exact wpAny_pyIter_enum he h
def iEnumS (te : TE) : TI := fun σ H R => te σ H fun v H1 => ∃ x, v = .str x ∧ R (Ites x) H1
theorem pi_enumS {X : Cx} {e : Expr} {te : TE} {p pos tpos : Pos} {elts : List Expr} {kk : Nat} (hg : Gl X "enumerate") (hm : X.mg "enumerate" = none) (he : PE X e te) (hs : starEach [e] X.env = [(false, eval e X.env)] := by rfl) :
    PI X (.Tuple elts kk tpos) (.Call (.Name "enumerate" p) [e] [] pos) (iEnumS te) := by
  refine ⟨fun pins s σ H R I h => ?_⟩
  refine Call_ (ld_blt I hg hm boot_enumerate (PyProof.Rows.callWith_type1 (thn ((pa_cons he pa_nil hs).run pos pins s σ H (fun vs H1 => ∃ x, vs = [V.str x] ∧ R (Ites x) H1) I ?_) fun us s1 ⟨vs, H1, I1, r1, q1⟩ => ?_) hs rfl))
  · show te σ H _
    have e : (fun v H1 => tNil σ H1 fun vs H2 => ∃ x, v :: vs = [V.str x] ∧ R (Ites x) H2) = fun (v : V) H1 => ∃ x, v = .str x ∧ R (Ites x) H1 := by
      funext v H1
      refine propext ⟨fun ⟨x, e, q⟩ => ?_, fun ⟨x, e, q⟩ => ⟨x, by rw [e], q⟩⟩
      cases e
      exact ⟨x, rfl, q⟩
    exact e ▸ h
  · obtain ⟨x, ex, q⟩ := q1
    subst ex
    obtain ⟨u, rfl, t, rfl⟩ := vals_one r1
    refine call_enum_text fun h' he hit hk => wpAny_pyIter_enum he ?_
    have I2 : Inv X pins σ H1 { s1 with heap := h' } := I1.kept (t' := s1.toks) hk
    refine ⟨s1.heap.objs.size + 1, [s1.heap.objs.size + 1, s1.heap.objs.size], _, _, H1, rfl, I2, turn_enumS x t (s1.heap.objs.size + 1) s1.heap.objs.size, ⟨⟨.none, he⟩, hit, Nat.succ_ne_self _⟩, fun b hb => ?_, q⟩
    have hle : s1.heap.objs.size ≤ b := by
      have e' : b = s1.heap.objs.size + 1 ∨ b = s1.heap.objs.size := by simpa using hb
      rcases e' with z | z
      · rw [z]
        exact Nat.le_succ _
      · rw [z]
        exact Nat.le_refl _
    exact I1.fpOk hle (I1.hok.fresh hle)
theorem walk_enumS {z : Str} : Walk (Ites z) z.cps.size (fun _ => True) (fun i H v H' => ∃ T c, v = .ref T ∧ H T = none ∧ H' = upd H T (.tup [.int (i : Nat), sg c]) ∧ z.cps[i]? = some c) :=
  ⟨fun _ _ hi _ => hi, fun _ _ => rfl, fun _ _ _ _ _ _ y => y⟩
end WB

set_option Elab.async false
set_option linter.all false
set_option maxRecDepth 100000
set_option maxHeartbeats 4000000
namespace WB
open PySem L2 PyProof.Rows
section
variable {X : Cx} {CX : CXT} {k j : Nat} {f C : Addr} {fd : FuncData} {ps : List Str} {sp : Sp} {E : L2.St → XK} {x m : Str} {p pos apos : Pos} {e o : Expr} {es : List Expr} {ta : TE} {t : TA}
/-! ### calls within try: what they let out is told at the slots -/
def tMethS (C : Addr) (m : Str) (sp : Sp) (E : L2.St → XK) (ta : TE) (t : TA) : TE := fun σ H Q => ta σ H fun x H1 => ∃ a dx fs, x = .ref a ∧ H1 a = some (.ins C dx fs) ∧ fs.lookup m = none ∧ t σ H1 fun vs H2 => sp (x :: vs) H2 Q (E σ)
theorem pe_methS {pl : Sem Bool} (he : PE X o ta) (c : Cls X.K C) (hm : Meth X.K C m f) (F : FnOk X.prog X.w X.K X.mg X.base CX k f fd ps sp) (hr : Room k X.A) (hb : Binds X.K fd ps []) (hx : ∀ σ, PassesAt CX X σ (E σ)) (ha : PA X (e :: es) t)
    (hst : starEach (e :: es) X.env = (false, eval e X.env) :: starEach es X.env := by rfl) (hpl : (backTo pos (starEach es X.env)).any (·.1) = false := by rfl)
    (ht : eval (.Call (.Attribute o m apos) (e :: es) [] pos) X.env = (do
      let ov ← eval o X.env
      standAt apos.atName
      let (f, first) ← holding [ov] (getMethod ov m pl)
      callWith pos f first (backTo pos (starEach (e :: es) X.env)) (backToKw pos (keywordEach [] X.env))) := by rfl) :
    PE X (.Call (.Attribute o m apos) (e :: es) [] pos) (tMethS C m sp E ta t) := by
  refine ⟨fun pins s σ H Q I h => ?_⟩
  refine PySem.W.methodCall_KW (pl := pl) (thn (he.run pins s σ H _ I h) fun u s1 ⟨y, H1, I1, ry, a, dx, fs, ey, ea, l, q⟩ => ?_) ht
  subst ey
  obtain rfl : u = Value.ref a := ry
  refine getmeth_ok I1 ea c hm l (PySem.W.callWith_K (first := [.ref a]) (h₀ := X.base) I.ok.mod.kin hm.kp (thn (ha.run pos pins s1 σ H1 _ I1 q) fun us s2 ⟨vs, H2, I2, r, q2⟩ => ⟨I2.kIn, ?_⟩) hst hpl)
  exact run_fnS (us := .ref a :: us) (vs := .ref a :: vs) F hr hb (hx σ) I2 (.cons rfl r) q2
def tMakeS (C : Addr) (sp : Sp) (E : L2.St → XK) (t : TA) : TE := fun σ H Q => t σ H fun vs H1 => ∀ x dx, H1 x = none → H1 dx = none → dx ≠ x →
  sp (.ref x :: vs) (upd (upd H1 dx (.own x)) x (.ins C dx [])) (fun v H2 => v = .non ∧ Q (.ref x) H2) (E σ)
theorem pe_makeS (M : Mk X.K C f) (F : FnOk X.prog X.w X.K X.mg X.base CX k f fd ps sp) (hr : Room (k + 1) X.A) (hg : Gl X x) (hm : X.mg x = some (.ref C)) (hb : Binds X.K fd ps []) (hx : ∀ σ, PassesAt CX X σ (E σ)) (ha : PA X (e :: es) t)
    (hdb : (x == ("__debug__" : Str)) = false := by decide) (he : starEach (e :: es) X.env = (false, eval e X.env) :: starEach es X.env := by rfl) (hpl : (backTo pos (starEach es X.env)).any (·.1) = false := by rfl) :
    PE X (.Call (.Name x p) (e :: es) [] pos) (tMakeS C sp E t) := by
  refine ⟨fun pins s σ H Q I h => ?_⟩
  refine wpAny_Call_Name_kw (ld_glob I hg hm ?_ hdb)
  refine PySem.W.callWith_K (h₀ := X.base) I.ok.mod.kin M.kp (thn (ha.run pos pins s σ H _ I h) fun us s1 ⟨vs, H1, I1, r, q⟩ => ⟨I1.kIn, ?_⟩) he hpl
  have n := s1.heap.objs.size
  have q2 := q (s1.heap.objs.size + 1) s1.heap.objs.size (I1.hok.fresh (Nat.le_succ _)) (I1.hok.fresh (Nat.le_refl _)) (Nat.ne_of_lt (Nat.lt_succ_self _))
  have I2 := Inv.made (C := C) I1
  have r2 : Vals (V.ref (s1.heap.objs.size + 1) :: vs) (Value.ref (s1.heap.objs.size + 1) :: us) := .cons rfl r
  have hl : (Value.ref (s1.heap.objs.size + 1) :: us).length = ps.length := r2.length.symm.trans (F.len _ _ _ _ q2)
  have b := hb _ (Value.ref (s1.heap.objs.size + 1) :: us) I2.kIn (by rw [List.append_nil]; exact hl)
  rw [List.append_nil] at b
  refine wpAny_call (make_map (f := f) I1.kIn M.makes M.init (beq_iff_eq.mp M.fn) (codeAny_mono (F.run _ X.stack _ _ ⟨Value.ref (s1.heap.objs.size + 1) :: us, []⟩ (Value.ref (s1.heap.objs.size + 1) :: us) _ _ (E σ) (hr.make C us []) (I2.env0.make C us []) b r2 q2) fun r s' hq' => ?_))
  cases r with
  | error er => exact hx σ pins _ _ er s' I2 hq'
  | ok fl =>
    cases fl with
    | ret u =>
      obtain ⟨v, H', I3, rv, ev, q3⟩ := I2.after hq'
      subst ev
      exact ⟨rv, ⟨V.ref (s1.heap.objs.size + 1), H', I3, rfl, q3⟩⟩
    | next => exact hq'.elim
    | brk => exact hq'.elim
    | cont => exact hq'.elim
end
/-! ### what may raise, by its name -/
structure CalX (P : Program) (w : World) (K : PySem.W.Frag) (mg : Str → Option Value) (base : Heap) (k : Nat) (x : Str) (sp : Sp) : Prop where
  ex : ∃ (f : Addr) (fd : FuncData) (ps : List Str), FnOk P w K mg base (L2.CX P w) k f fd ps sp ∧ mg x = some (.ref f) ∧ PySem.W.keepIn K (.ref f) = true ∧ Binds K fd ps []
structure MetX (P : Program) (w : World) (K : PySem.W.Frag) (mg : Str → Option Value) (base : Heap) (k : Nat) (C : Addr) (m : Str) (sp : Sp) (kn : Str) : Prop where
  ex : ∃ (f : Addr) (fd : FuncData) (ps : List Str), Cls K C ∧ Meth K C m f ∧ FnOk P w K mg base (L2.CX P w) k f fd ps sp ∧ Binds K fd ps [] ∧ KBn K fd ps 1 [kn] (fun us ws => us ++ ws) (fun vs zs => vs ++ zs)
structure MakX (P : Program) (w : World) (K : PySem.W.Frag) (mg : Str → Option Value) (base : Heap) (k : Nat) (x : Str) (C : Addr) (sp : Sp) (dv : V) (kn : Str) : Prop where
  ex : ∃ (f : Addr) (fd : FuncData) (ps : List Str) (ds : List Value), Mk K C f ∧ FnOk P w K mg base (L2.CX P w) k f fd ps sp ∧ mg x = some (.ref C) ∧ Binds K fd ps [] ∧ Binds K fd ps ds ∧ Vals [dv] ds ∧ KBn K fd ps 1 [kn] (fun us ws => us ++ ws) (fun vs zs => vs ++ zs)
section
variable {X : Cx} {k j : Nat} {C : Addr} {x m kn : Str} {sp : Sp} {p pos apos kpos : Pos} {e o : Expr} {es : List Expr} {ta : TE} {t : TA} {W : WX} {E : XK}
theorem pe_cX (c : CalX X.prog X.w X.K X.mg X.base k x sp) (tk : Takes X (fun cls d _ H => E cls d H)) (hr : Room j X.A) (hk : k ≤ j) (hg : Gl X x) (ha : PA X (e :: es) t)
    (hdb : (x == ("__debug__" : Str)) = false := by decide) (he : starEach (e :: es) X.env = (false, eval e X.env) :: starEach es X.env := by rfl) (hpl : (backTo pos (starEach es X.env)).any (·.1) = false := by rfl) :
    PE X (.Call (.Name x p) (e :: es) [] pos) (tCall sp [] E t) := by
  obtain ⟨f, fd, ps, F, hm, kp, b⟩ := c.ex
  exact pe_call F (hr.mono hk) hg hm kp b .nil (passes_call tk fun _ _ _ _ h => h) ha hdb he hpl
/-- where nothing is let out -/
theorem pe_mtX {pl : Sem Bool} (c : MetX X.prog X.w X.K X.mg X.base k C m sp kn) (hr : Room j X.A) (hk : k ≤ j) (he : PE X o ta) (ha : PA X (e :: es) t)
    (hst : starEach (e :: es) X.env = (false, eval e X.env) :: starEach es X.env := by rfl) (hpl : (backTo pos (starEach es X.env)).any (·.1) = false := by rfl)
    (ht : eval (.Call (.Attribute o m apos) (e :: es) [] pos) X.env = (do
      let ov ← eval o X.env
      standAt apos.atName
      let (f, first) ← holding [ov] (getMethod ov m pl)
      callWith pos f first (backTo pos (starEach (e :: es) X.env)) (backToKw pos (keywordEach [] X.env))) := by rfl) :
    PE X (.Call (.Attribute o m apos) (e :: es) [] pos) (tMeth C m sp [] E0 ta t) := by
  obtain ⟨f, fd, ps, hc, hm, F, b, _⟩ := c.ex
  exact pe_meth (pl := pl) he hc hm F (hr.mono hk) b .nil passL ha hst hpl ht
theorem pe_mkX {dv : V} (c : MakX X.prog X.w X.K X.mg X.base k x C sp dv kn) (hr : Room j X.A) (hk : k + 1 ≤ j) (hg : Gl X x) (ha : PA X (e :: es) t)
    (hdb : (x == ("__debug__" : Str)) = false := by decide) (he : starEach (e :: es) X.env = (false, eval e X.env) :: starEach es X.env := by rfl) (hpl : (backTo pos (starEach es X.env)).any (·.1) = false := by rfl) :
    PE X (.Call (.Name x p) (e :: es) [] pos) (tMake C sp [] E0 t) := by
  obtain ⟨f, fd, ps, ds, M, F, hm, b, _⟩ := c.ex
  exact pe_make M F (hr.mono hk) hg hm b .nil passL ha hdb he hpl
theorem pe_mkX0 {dv : V} (c : MakX X.prog X.w X.K X.mg X.base k x C sp dv kn) (hr : Room j X.A) (hk : k + 1 ≤ j) (hg : Gl X x) (hdb : (x == ("__debug__" : Str)) = false := by decide) :
    PE X (.Call (.Name x p) [] [] pos) (tMake C sp [dv] E0 tNil) := by
  obtain ⟨f, fd, ps, ds, M, F, hm, _, b, d, _⟩ := c.ex
  exact pe_make0 M F (hr.mono hk) hg hm b d passL hdb
/-- o.m(k = e) -/
def tMethK (C : Addr) (m : Str) (sp : Sp) (ta te : TE) : TE := fun σ H Q => ta σ H fun x H1 => ∃ a dx fs, x = .ref a ∧ H1 a = some (.ins C dx fs) ∧ fs.lookup m = none ∧ te σ H1 fun y H2 => sp [x, y] H2 Q E0
theorem pe_mtK {pl : Sem Bool} (c : MetX X.prog X.w X.K X.mg X.base k C m sp kn) (hr : Room j X.A) (hk : k ≤ j) (he : PE X o ta) {te : TE} (ha : PE X e te)
    (hall : (backToKw pos (keywordEach [⟨some kn, e, kpos⟩] X.env)).all (·.1.isSome) = true := by rfl) (hks : (backToKw pos (keywordEach [⟨some kn, e, kpos⟩] X.env)).filterMap (·.1) = [kn] := by rfl)
    (hpl : ((backTo pos (starEach [] X.env)).any (·.1) || (backToKw pos (keywordEach [⟨some kn, e, kpos⟩] X.env)).any (·.1.isNone)) = false := by rfl)
    (ht : eval (.Call (.Attribute o m apos) [] [⟨some kn, e, kpos⟩] pos) X.env = (do
      let ov ← eval o X.env
      standAt apos.atName
      let (f, first) ← holding [ov] (getMethod ov m pl)
      callWith pos f first (backTo pos (starEach [] X.env)) (backToKw pos (keywordEach [⟨some kn, e, kpos⟩] X.env))) := by rfl) :
    PE X (.Call (.Attribute o m apos) [] [⟨some kn, e, kpos⟩] pos) (tMethK C m sp ta te) := by
  obtain ⟨f, fd, ps, hc, hm, F, _, kb⟩ := c.ex
  have hr2 := hr.mono hk
  refine ⟨fun pins s σ H Q I h => ?_⟩
  refine PySem.W.methodCall_KW (pl := pl) (thn (he.run pins s σ H _ I h) fun u s1 ⟨y, H1, I1, ry, a, dx, fs, ey, ea, l, q⟩ => ?_) ht
  subst ey
  obtain rfl : u = Value.ref a := ry
  refine getmeth_ok I1 ea hc hm l (PySem.W.callWith_KW0 (first := [.ref a]) (h₀ := X.base) I1.ok.mod.kin hm.kp hall ?_ hpl)
  refine thn ((pk_cons ha pk_nil).run pos pins s1 σ H1 (fun zs H2 => ∃ z, zs = [z] ∧ sp [.ref a, z] H2 Q E0) I1 ?_) fun ws s2 ⟨zs, H2, I2, rz, z, ez, q2⟩ => ⟨I2.kIn, ?_⟩
  · have e : (fun v H1 => tNil σ H1 fun vs H2 => ∃ z, v :: vs = [z] ∧ sp [.ref a, z] H2 Q E0) = fun (y : V) H2 => sp [.ref a, y] H2 Q E0 := by
      funext v H1
      refine propext ⟨fun ⟨x, e, q⟩ => ?_, fun q => ⟨v, rfl, q⟩⟩
      cases e
      exact q
    show te σ H1 (fun v H1 => tNil σ H1 fun vs H2 => ∃ z, v :: vs = [z] ∧ sp [.ref a, z] H2 Q E0)
    rw [e]
    exact q
  · subst ez
    rw [hks]
    have r2 : Vals [V.ref a, z] (Value.ref a :: ws) := .cons rfl rz
    have hb := kb.to s2 [.ref a] ws I2.kIn rfl rz.length.symm
    refine wpAny_call (codeAny_mono (F.run X.A X.stack s2 H2 ⟨[.ref a], [kn].zip ws⟩ (Value.ref a :: ws) [.ref a, z] Q E0 hr2 I2.env0 hb r2 q2) fun r s' hq => ?_)
    cases r with
    | error er => exact passL pins σ H2 s2 er s' I2 hq
    | ok fl =>
      cases fl with
      | ret u => exact I2.after hq
      | next => exact hq.elim
      | brk => exact hq.elim
      | cont => exact hq.elim
/-- within try -/
theorem pe_mtS {pl : Sem Bool} (c : MetX X.prog X.w X.K X.mg X.base k C m sp kn) (tk : Takes X W) (hr : Room j X.A) (hk : k ≤ j) (he : PE X o ta) (ha : PA X (e :: es) t)
    (hst : starEach (e :: es) X.env = (false, eval e X.env) :: starEach es X.env := by rfl) (hpl : (backTo pos (starEach es X.env)).any (·.1) = false := by rfl)
    (ht : eval (.Call (.Attribute o m apos) (e :: es) [] pos) X.env = (do
      let ov ← eval o X.env
      standAt apos.atName
      let (f, first) ← holding [ov] (getMethod ov m pl)
      callWith pos f first (backTo pos (starEach (e :: es) X.env)) (backToKw pos (keywordEach [] X.env))) := by rfl) :
    PE X (.Call (.Attribute o m apos) (e :: es) [] pos) (tMethS C m sp (WE W) ta t) := by
  obtain ⟨f, fd, ps, hc, hm, F, b, _⟩ := c.ex
  exact pe_methS (pl := pl) he hc hm F (hr.mono hk) b (fun σ => passAt tk σ) ha hst hpl ht
theorem pe_mkS {dv : V} (c : MakX X.prog X.w X.K X.mg X.base k x C sp dv kn) (tk : Takes X W) (hr : Room j X.A) (hk : k + 1 ≤ j) (hg : Gl X x) (ha : PA X (e :: es) t)
    (hdb : (x == ("__debug__" : Str)) = false := by decide) (he : starEach (e :: es) X.env = (false, eval e X.env) :: starEach es X.env := by rfl) (hpl : (backTo pos (starEach es X.env)).any (·.1) = false := by rfl) :
    PE X (.Call (.Name x p) (e :: es) [] pos) (tMakeS C sp (WE W) t) := by
  obtain ⟨f, fd, ps, ds, M, F, hm, b, _⟩ := c.ex
  exact pe_makeS M F (hr.mono hk) hg hm b (fun σ => passAt tk σ) ha hdb he hpl
end
/-! ### BadBox -/
def spBad (C : Addr) : Sp := fun vs H Q _ => ∃ (a : Addr) (y : V), vs = [.ref a, y] ∧ H a = some (exo a C none) ∧ ∀ d, H d = none → d ≠ a → Q .non (upd (upd H d (exd d [("contents", y)])) a (exo a C (some d)))
structure BadT (K : PySem.W.Frag) (mg : Str → Option Value) (C : Addr) : Prop where
  ox : OexC K C
  xf : XfC K C
  no : PySem.W.findIn K (.ref C) "contents" = some none
  g : mg "BadBox" = some (.ref C)
  te : PySem.W.exmOne K (.ref C) (.ref C) = some true
structure BadC (P : Program) (w : World) (K : PySem.W.Frag) (mg : Str → Option Value) (base : Heap) (C : Addr) : Prop where
  t : BadT K mg C
  ini : ∃ (f : Addr) (fd : FuncData), PySem.W.findIn K (.ref C) "__init__" = some (some (.ref f)) ∧ PySem.W.typeIn K (.ref f) = some (.type "function") ∧ FnOk P w K mg base C8.CX0 1 f fd ["self", "contents"] (spBad C) ∧ Binds K fd ["self", "contents"] []
theorem exm_me {K : PySem.W.Frag} {C : Addr} (h1 : PySem.W.subIn K (.ref C) (.type "BaseException") = some true) (h2 : PySem.W.isClsIn K C = true) (h3 : PySem.W.typeIn K (.ref C) = some (.type "type")) (h4 : PySem.W.subIn K (.ref C) (.ref C) = some true) :
    PySem.W.exmOne K (.ref C) (.ref C) = some true := by
  unfold PySem.W.exmOne
  rw [h1, if_pos (by decide)]
  have h2' : (PySem.W.clsIn K C).isSome = true := h2
  unfold PySem.W.kitCls
  dsimp only
  rw [h2', h3]
  exact h4
theorem pmk_bad {X : Cx} {C : Addr} {j : Nat} {e : Expr} {ta : TA} {p pos : Pos} (B : BadC X.prog X.w X.K X.mg X.base C) (hr : Room j X.A) (hk : 2 ≤ j) (hg : Gl X "BadBox") (ha : PA X [e] ta)
    (he : starEach [e] X.env = (false, eval e X.env) :: starEach [] X.env := by rfl) (hpl : (backTo pos (starEach [] X.env)).any (·.1) = false := by rfl) :
    PMk X (.Call (.Name "BadBox" p) [e] [] pos) (tMkO C (spBad C) [] ta) := by
  obtain ⟨f, fd, h1, h2, F, b⟩ := B.ini
  exact pmk_oex B.t.ox h1 h2 F (hr.mono hk) b .nil (fun _ _ _ _ _ _ _ z => z.elim) hg B.t.g ha (by decide) he hpl
theorem bad_ok {C a : Addr} {y : V} {H1 : Hp} {Q E : XK} (na : H1 a = none) (h : ∀ H' d, Same H1 H' → H1 d = none → H' d = some (.xd [("contents", y)]) → Q (.ref C) (some d) H') :
    spBad C [.ref a, y] (upd H1 a (exo a C none)) (fun v H2 => v = .non ∧ ∃ (d : Addr) (fs : List (Str × V)), H2 a = some (exo a C (some d)) ∧ H2 d = some (exd d fs) ∧ H1 d = none ∧ Q (.ref C) (some d) (upd (del H2 a) d (.xd fs))) E := by
  refine ⟨a, y, rfl, upd_same, fun d hd hda => ⟨rfl, d, [("contents", y)], upd_same, (upd_ne hda).trans upd_same, ?_, ?_⟩⟩
  · rw [upd_ne hda] at hd
    exact hd
  · rw [upd_ne hda] at hd
    refine h _ d (fun b o e => ?_) hd upd_same
    have n1 : b ≠ a := ne_of_none e na
    have n2 : b ≠ d := ne_of_none e hd
    rw [upd_ne n2, del_ne n1, upd_ne n1, upd_ne n2, upd_ne n1]
    exact e
def conB : V → Bool
  | .str z => decide (z = sb (mem z))
  | _ => false
theorem conB_str {z : Str} (h : conB (.str z) = true) : IsC z := ⟨_, of_decide_eq_true h⟩
theorem conB_isC {z : Str} (h : IsC z) : conB (.str z) = true := decide_eq_true h.eq
def spCheckX (K : PySem.W.Frag) (C : Addr) : Sp := fun vs H Q E => ∃ x : V, vs = [x] ∧ Thing K H x ∧ (conB x = true → ∀ H', Same H H' → Q x H') ∧
  (conB x = false → ∀ H' d, Same H H' → H d = none → H' d = some (.xd [("contents", x)]) → E (.ref C) (some d) H')
def spBecomeX (K : PySem.W.Frag) (CB C : Addr) : Sp := fun vs H Q E => ∃ (a : Addr) (y : Str) (x : V), vs = [.ref a, x] ∧ BoxAt CB H a y ∧ Thing K H x ∧ (∀ z, x = .str z → IsC z → ∀ H', Bar a H H' → BoxAt CB H' a z → Q .non H') ∧
  (conB x = false → ∀ H' d, Same H H' → H d = none → H' d = some (.xd [("contents", x)]) → E (.ref C) (some d) H')
def spInitX (K : PySem.W.Frag) (CB C : Addr) : Sp := fun vs H Q E => ∃ (a dx : Addr) (x : V), vs = [.ref a, x] ∧ H a = some (.ins CB dx []) ∧ Thing K H x ∧ (∀ z, x = .str z → IsC z → ∀ H', Bar a H H' → BoxAt CB H' a z → Q .non H') ∧
  (conB x = false → ∀ H' d, Same H H' → H d = none → H' d = some (.xd [("contents", x)]) → E (.ref C) (some d) H')
theorem thing_isC {K : PySem.W.Frag} {H : Hp} {z : Str} (h : IsC z) : Thing K H (.str z) := .inl ⟨z, rfl, Nat.le_trans h.len (by decide)⟩
theorem fund_okX {P : Program} {w : World} {K : PySem.W.Frag} {mg : Str → Option Value} {base : Heap} {x qual : Str} {params : Arguments} {body : List Stmt} {scope : Scope} {dvs : List V} {kws : List (Str × V)} {f : Addr} {fd : FuncData} {N ps : List Str} {k : Nat} {sp : Sp}
    (F : FunD K x qual params body scope dvs kws f fd) (S : FnScope N ps scope) (len : ∀ vs H Q E, sp vs H Q E → vs.length = ps.length)
    (hbody : ∀ (cdv : Value) (A : Around) (outer : List Env) (s : Shared) (H : Hp) (vs : List V) (Q : VK) (E : XK), Room k (A.deeper (envOfC qual scope s.heap.objs.size f cdv)) → sp vs H Q E →
      ∃ t, PSs (cxOf (L2.CX P w) P w K mg base N qual scope f cdv A outer s H E) body t ∧ t { nx := fun _ H' => Q .non H', rt := Q } (start N vs) H) : FnOk P w K mg base (L2.CX P w) (k + 1) f fd ps sp := by
  obtain ⟨oc, od, dV, kV, doc, pm, an, cdv, ct, osl, rfl, lk, hcd, _⟩ := F.ex
  exact fn_of lk hcd S len fun A outer s H vs Q E hr hsp => hbody cdv A outer s H vs Q E hr hsp
theorem fun_kb {K : PySem.W.Frag} {x qual : Str} {st : Stmt} {f : Addr} {fd : FuncData} {ps ks : List Str} (F : L2.Fun K x qual st f fd)
    (h : ∀ (kV doc pm : Value) (an : Option Addr) (cdv ct : Value) (us ws : List Value), us.length = 1 → ws.length = ks.length → bindArgs (PySem.W.fnOf x qual (defArgs st) (defBody st) (defScope st) .none kV doc pm an cdv ct) ⟨us, ks.zip ws⟩ = pure (ps.zip (us ++ ws))) :
    KBn K fd ps 1 ks (fun us ws => us ++ ws) (fun vs zs => vs ++ zs) := by
  obtain ⟨oc, od, kV, doc, pm, an, cdv, ct, osl, rfl, lk, hcd⟩ := F.ex
  exact ⟨fun s us ws X l1 l2 => BindsTo.of_eq (h kV doc pm an cdv ct us ws l1 l2), fun r1 r2 => r1.append r2⟩
end WB

set_option Elab.async false
set_option linter.all false
set_option maxRecDepth 100000
set_option maxHeartbeats 4000000
namespace WB
open PySem L2 PyProof.Rows
/-! ### contents, sign by sign -/
theorem sorted_eq : ∀ {l m : List Nat}, l.Pairwise (· < ·) → m.Pairwise (· < ·) → (∀ c, c ∈ l ↔ c ∈ m) → l = m
  | [], [], _, _, _ => rfl
  | [], b :: m, _, _, h => absurd ((h b).mpr List.mem_cons_self) List.not_mem_nil
  | a :: l, [], _, _, h => absurd ((h a).mp List.mem_cons_self) List.not_mem_nil
  | a :: l, b :: m, h1, h2, h => by
    obtain ⟨a1, a2⟩ := List.pairwise_cons.mp h1
    obtain ⟨b1, b2⟩ := List.pairwise_cons.mp h2
    have e : a = b := by
      rcases List.mem_cons.mp ((h a).mp List.mem_cons_self) with e | q
      · exact e
      · rcases List.mem_cons.mp ((h b).mpr List.mem_cons_self) with e | r
        · exact e.symm
        · have := b1 a q
          have := a1 b r
          omega
    subst e
    refine congrArg (a :: ·) (sorted_eq a2 b2 fun c => ⟨fun hc => ?_, fun hc => ?_⟩)
    · rcases List.mem_cons.mp ((h c).mp (List.mem_cons_of_mem _ hc)) with e | q
      · have := a1 c hc
        omega
      · exact q
    · rcases List.mem_cons.mp ((h c).mpr (List.mem_cons_of_mem _ hc)) with e | q
      · have := b1 c hc
        omega
      · exact q
theorem mk_sorted : mk.Pairwise (· < ·) := by decide +kernel
/-- the sign at i is a mark, and it comes behind the one ahead of it -/
def GoodAt (l : List Nat) (i : Nat) : Prop := ∃ c, l[i]? = some c ∧ c ∈ mk ∧ (0 < i → ∃ b, l[i - 1]? = some b ∧ b < c)
theorem good_sorted : ∀ {l : List Nat}, (∀ i, i < l.length → GoodAt l i) → l.Pairwise (· < ·) := by
  intro l h
  rw [List.pairwise_iff_getElem]
  intro i j hi hj hij
  induction j with
  | zero => omega
  | succ j ih =>
    obtain ⟨c, h1, _, h2⟩ := h (j + 1) hj
    obtain ⟨b, h3, h4⟩ := h2 (Nat.succ_pos _)
    have hj' : j < l.length := Nat.lt_of_succ_lt hj
    have e1 : l[j + 1] = c := (List.getElem?_eq_some_iff.mp h1).2
    have e2 : l[j] = b := by
      have : l[j]? = some b := h3
      exact (List.getElem?_eq_some_iff.mp this).2
    by_cases q : i = j
    · subst q
      rw [e1, e2]
      exact h4
    · have := ih hj' (by omega)
      omega
theorem conB_yes {z : Str} (h : ∀ i, i < z.cps.toList.length → GoodAt z.cps.toList i) : conB (.str z) = true := by
  have e : z.cps.toList = mk.filter (mem z) := sorted_eq (good_sorted h) (mk_sorted.filter _) fun c => by
    rw [List.mem_filter]
    refine ⟨fun hc => ⟨?_, decide_eq_true hc⟩, fun hc => of_decide_eq_true hc.2⟩
    obtain ⟨i, hi, e⟩ := List.getElem_of_mem hc
    obtain ⟨d, h1, h2, _⟩ := h i hi
    rw [List.getElem?_eq_getElem hi, e] at h1
    cases h1
    exact h2
  exact decide_eq_true ((SX.S_tl z).symm.trans (congrArg S e))
theorem conB_good {z : Str} (h : conB (.str z) = true) {i : Nat} (hi : i < z.cps.toList.length) : GoodAt z.cps.toList i := by
  have hz := conB_str h
  have hs : z.cps.toList.Pairwise (· < ·) := by
    obtain ⟨p, rfl⟩ := hz
    exact mk_sorted.filter _
  refine ⟨z.cps.toList[i], List.getElem?_eq_getElem hi, isC_sub hz (List.getElem_mem hi), fun h0 => ?_⟩
  have hi' : i - 1 < z.cps.toList.length := by omega
  exact ⟨z.cps.toList[i - 1], List.getElem?_eq_getElem hi', List.pairwise_iff_getElem.mp hs _ _ hi' hi (by omega)⟩
theorem conB_noStr {K : PySem.W.Frag} {H : Hp} {x : V} (h : NoStr K H x) : conB x = false := by
  cases x with
  | str y =>
    obtain ⟨t, ty, k⟩ := h
    cases ty with
    | base b =>
      cases b
      exact absurd k (by decide +kernel)
  | non => rfl
  | bl b => rfl
  | int i => rfl
  | byt b => rfl
  | flt b => rfl
  | ref a => rfl
  | ty n => rfl
/-! ### plain values -/
def SmallS (z : Str) : Prop := z.length ≤ 300 ∧ ∀ c ∈ z.cps.toList, c < 1000
theorem small_cut {z : Str} {lo hi : Option Int} (h : SmallS z) : SmallS (cutS z lo hi) := ⟨cut_len h.1, fun c hc => h.2 c (List.mem_of_mem_drop (List.mem_of_mem_take hc))⟩
theorem small_isC {z : Str} (h : IsC z) : SmallS z := ⟨Nat.le_trans h.len (by decide), fun c hc => mk_small c (isC_sub h hc)⟩
def PlainAt (p : Addr) (H : Hp) (x : V) : Prop :=
  (x = .non ∨ (∃ b, x = .bl b) ∨ (∃ i, x = .int i ∧ i.natAbs.log2 < 1000)) ∨ (∃ z, x = .str z ∧ SmallS z) ∨
  (∃ (l : Addr) (zs : List Str), x = .ref l ∧ l ≠ p ∧ (H l = some (.lst (zs.map V.str)) ∨ H l = some (.tup (zs.map V.str))) ∧ zs.length ≤ 2 ∧ ∀ z ∈ zs, SmallS z)
theorem PlainAt.mono {p : Addr} {H H' : Hp} {x : V} (h : PlainAt p H x) (k : ∀ l o, x = .ref l → l ≠ p → H l = some o → (∀ C dx fs, o ≠ .ins C dx fs) → H' l = some o) : PlainAt p H' x := by
  rcases h with h | h | ⟨l, zs, e, n, q, h⟩
  · exact .inl h
  · exact .inr (.inl h)
  · refine .inr (.inr ⟨l, zs, e, n, ?_, h⟩)
    rcases q with q | q
    · exact .inl (k l _ e n q fun _ _ _ z => by cases z)
    · exact .inr (k l _ e n q fun _ _ _ z => by cases z)
theorem PlainAt.same {p : Addr} {H H' : Hp} {x : V} (h : PlainAt p H x) (s : Same H H') : PlainAt p H' x := h.mono fun l o _ _ e _ => s l o e
theorem PlainAt.bag {p : Addr} {H H' : Hp} {x : V} (h : PlainAt p H x) (s : Bar p H H') : PlainAt p H' x := h.mono fun l o _ n e _ => s l o n e
theorem PlainAt.box {p b C : Addr} {H H' : Hp} {x : V} {z : Str} (h : PlainAt p H x) (s : Bar b H H') (hb : BoxAt C H b z) : PlainAt p H' x := h.mono fun l o _ _ e no => s l o (fun q => by
  obtain ⟨dx, hb⟩ := hb
  rw [q, hb] at e
  exact no _ _ _ (Option.some.inj e).symm) e
theorem PlainAt.thing {K : PySem.W.Frag} {p : Addr} {H : Hp} {x : V} (h : PlainAt p H x) : Thing K H x := by
  rcases h with (rfl | ⟨b, rfl⟩ | ⟨i, rfl, _⟩) | ⟨z, rfl, hz⟩ | ⟨l, zs, rfl, _, q | q, _⟩
  · exact .inr noStr_non
  · exact .inr noStr_bl
  · exact .inr noStr_int
  · exact .inl ⟨z, rfl, Nat.le_trans hz.1 (by decide)⟩
  · exact .inr (noStr_lst q)
  · exact .inr (noStr_tup q)
theorem repr_len {z : Str} (h : SmallS z) : (reprText z).length ≤ 3002 := by
  have := StrLaws.reprText_len z fun c hc => Nat.lt_trans (h.2 c hc) (by decide)
  have := h.1
  omega
theorem showAll_strs : ∀ zs : List Str, PyData.showableAll (zs.map PyData.str) = true ∧ PyData.hasDictAll (zs.map PyData.str) = false ∧ PyData.depthAll (zs.map PyData.str) = 0 ∧ PyData.shownAll (zs.map PyData.str) = zs.map reprText
  | [] => ⟨rfl, rfl, rfl, rfl⟩
  | z :: r => by
    obtain ⟨h1, h2, h3, h4⟩ := showAll_strs r
    refine ⟨?_, ?_, ?_, ?_⟩
    · show (true && PyData.showableAll (r.map _)) = true
      rw [h1]
      rfl
    · show (false || PyData.hasDictAll (r.map _)) = false
      rw [h2]
      rfl
    · show max 0 (PyData.depthAll (r.map _)) = 0
      rw [h3]
      rfl
    · show reprText z :: PyData.shownAll (r.map _) = _
      rw [h4]
      rfl
theorem dp_all_strs {K : PySem.W.Frag} {H : Hp} : ∀ zs : List Str, DpAll K H (zs.map V.str) (zs.map PyData.str)
  | [] => .nil
  | z :: r => .cons (.str _) (dp_all_strs r)
theorem line_big : 20000 ≤ sizeLine := by decide
theorem textFrom_le : ∀ (ts : List Str) (k : Nat) (acc : Str), (textFrom k acc ts).length ≤ acc.length + piled ts
  | [], k, acc => Nat.le_refl _
  | t :: r, k, acc => by
    have ih := textFrom_le r (k + 1) (acc ++ (if k > 0 then ", " else "" : String) ++ t)
    rw [piled_cons]
    refine Nat.le_trans ih ?_
    rw [Str.length_append, Str.length_append]
    have : (Str.ofString (if k > 0 then ", " else "" : String)).length ≤ 2 := by
      split
      · decide +kernel
      · decide +kernel
    omega
theorem piled2 {ts : List Str} (h : ts.length ≤ 2) (hs : ∀ t ∈ ts, t.length ≤ 3002) : piled ts ≤ 6008 := by
  match ts, h, hs with
  | [], _, _ => exact Nat.zero_le _
  | [a], _, hs =>
    have := hs a List.mem_cons_self
    rw [piled_cons, piled_nil]
    omega
  | [a, b], _, hs =>
    have := hs a List.mem_cons_self
    have := hs b (List.mem_cons_of_mem _ List.mem_cons_self)
    rw [piled_cons, piled_cons, piled_nil]
    omega
theorem sum_piled : ∀ ts : List Str, (ts.map (·.length)).sum + ts.length * 2 ≤ piled ts
  | [] => Nat.le_refl _
  | t :: r => by
    have ih := sum_piled r
    rw [piled_cons]
    show (t.length + (r.map (·.length)).sum) + (r.length + 1) * 2 ≤ _
    omega
theorem text_len2 {ts : List Str} (h : ts.length ≤ 2) (hs : ∀ t ∈ ts, t.length ≤ 3002) : (listText ts).length ≤ sizeLine ∧ (tupleText ts).length ≤ sizeLine := by
  have hb := line_big
  have pl := piled2 h hs
  constructor
  · unfold listText
    rw [Str.length_append]
    have h1 := textFrom_le ts 0 "["
    have h2 : ("[" : Str).length = 1 := by decide +kernel
    have h3 : ("]" : Str).length = 1 := by decide +kernel
    omega
  · unfold tupleText
    rw [Str.length_append, Str.length_append]
    have h1 := StrLaws.join_length_le ", " ts
    have h2 : (", " : Str).length = 2 := by decide +kernel
    rw [h2] at h1
    have h3 := sum_piled ts
    have h4 : ("(" : Str).length = 1 := by decide +kernel
    have h5 : (Str.ofString (if ts.length == 1 then ",)" else ")" : String)).length ≤ 2 := by
      split
      · decide +kernel
      · decide +kernel
    omega
theorem PlainAt.data {K : PySem.W.Frag} {p : Addr} {H : Hp} {x : V} (h : PlainAt p H x) : ∃ d, Dp K H x d ∧ OkD d := by
  have two : ∀ {zs : List Str}, zs.length ≤ 2 → (∀ z ∈ zs, SmallS z) → OkD (.list (zs.map PyData.str)) ∧ OkD (.tuple (zs.map PyData.str)) := by
    intro zs hl hs
    obtain ⟨h1, h2, h3, h4⟩ := showAll_strs zs
    have tl := text_len2 (ts := zs.map reprText) (by rw [List.length_map]; exact hl) (fun t ht => by
      obtain ⟨z, hz, rfl⟩ := List.mem_map.mp ht
      exact repr_len (hs z hz))
    refine ⟨⟨h1, h2, ?_, .inr ?_⟩, ⟨h1, h2, ?_, .inr ?_⟩⟩
    · show PyData.depthAll _ + 1 ≤ 64
      rw [h3]
      decide
    · show (listText (PyData.shownAll _)).length ≤ _
      rw [h4]
      exact tl.1
    · show PyData.depthAll _ + 1 ≤ 64
      rw [h3]
      decide
    · show (tupleText (PyData.shownAll _)).length ≤ _
      rw [h4]
      exact tl.2
  rcases h with (rfl | ⟨b, rfl⟩ | ⟨i, rfl, hi⟩) | ⟨z, rfl, hz⟩ | ⟨l, zs, rfl, _, q | q, hl, hs⟩
  · exact ⟨_, .non, rfl, rfl, by decide, .inr (by decide +kernel)⟩
  · exact ⟨_, .bl b, rfl, rfl, by show 0 ≤ 64; decide, .inr (by cases b <;> decide +kernel)⟩
  · exact ⟨_, .int i, decide_eq_true (Nat.lt_trans hi (by decide)), rfl, by show 0 ≤ 64; decide, .inl ⟨i, rfl⟩⟩
  · exact ⟨_, .str z, rfl, rfl, by show 0 ≤ 64; decide, .inr (Nat.le_trans (repr_len hz) (by decide))⟩
  · exact ⟨_, .lst (SqL.of q) (dp_all_strs zs), (two hl hs).1⟩
  · exact ⟨_, .tup (SqT.of q) (dp_all_strs zs), (two hl hs).2⟩
end WB
namespace WB
open PySem L2 PyProof.Rows
theorem conB_ex {x : V} (h : conB x = true) : ∃ z, x = .str z ∧ IsC z := by
  cases x with
  | str y => exact ⟨y, rfl, conB_str h⟩
  | non => cases h
  | bl b => cases h
  | int i => cases h
  | byt b => cases h
  | flt b => cases h
  | ref a => cases h
  | ty n => cases h
def spStr (C : Addr) : Sp := fun vs H Q _ => ∃ (a : Addr) (z : Str), vs = [.ref a] ∧ BoxAt C H a z ∧ Q (.str z) H
def spThing : Sp := fun vs H Q _ => ∃ p q : Addr, vs = [.ref p] ∧ BagAt H p q ∧ ∀ H' x, Bar p H H' → BagAt H' p q → PlainAt p H' x → Q x H'
def spIsC (K : PySem.W.Frag) : Sp := fun vs H Q _ => ∃ x : V, vs = [x] ∧ Thing K H x ∧ ∀ H', Same H H' → Q (.bl (conB x)) H'
def spRaised (K : PySem.W.Frag) (C : Addr) : Sp := fun vs H Q _ => ∃ (a : Addr) (y : Str) (x : V), vs = [.ref a, x] ∧ BoxAt C H a y ∧ Thing K H x ∧
  ∀ H' l ts, H l = none → H' l = some (.lst ts) → ((∃ z, x = .str z ∧ IsC z ∧ ts = [] ∧ Bar a H H' ∧ BoxAt C H' a z) ∨ (conB x = false ∧ ts = [x] ∧ Same H H')) → Q (.ref l) H'
theorem isC_empty : IsC "" := ⟨fun _ => false, by decide +kernel⟩
theorem room70 {k : Nat} {A : Around} (r : Room k A) : A.units + 70 < cLine := by
  have := r.un
  omega
theorem init_ok {K : PySem.W.Frag} {C CB x dx : Addr} {z : Str} {H : Hp} {Q : VK} {E : XK} (hz : IsC z) (h : H x = some (.ins C dx [])) (q : ∀ H', Bar x H H' → BoxAt C H' x z → Q .non H') : spInitX K C CB [.ref x, .str z] H Q E :=
  ⟨x, dx, .str z, rfl, h, thing_isC hz, fun y e _ H' b hb => q H' b (by cases e; exact hb), fun hc => by rw [conB_isC hz] at hc; cases hc⟩
theorem become_ok {K : PySem.W.Frag} {C CB a : Addr} {y z : Str} {H : Hp} {Q : VK} {E : XK} (h : BoxAt C H a y) (hz : IsC z) (q : ∀ H', Bar a H H' → BoxAt C H' a z → Q .non H') : spBecomeX K C CB [.ref a, .str z] H Q E :=
  ⟨a, y, .str z, rfl, h, thing_isC hz, fun y e _ H' b hb => q H' b (by cases e; exact hb), fun hc => by rw [conB_isC hz] at hc; cases hc⟩
theorem seq_join {t1 t2 : TS} {D : Ends} {σ : L2.St} {H : Hp} (C : L2.St → Hp → Prop) (h1 : ∀ nx' : L2.St → Hp → Prop, (∀ σ' H', C σ' H' → nx' σ' H') → t1 { D with nx := nx' } σ H) (h2 : ∀ σ' H', C σ' H' → t2 D σ' H') : tSeq t1 t2 D σ H := h1 (t2 D) h2
end WB
namespace WB
open PySem L2 PyProof.Rows
def Sm (n : Nat) (z : Str) : Prop := z.length ≤ n ∧ ∀ c ∈ z.cps.toList, c < 1000
theorem Sm.cat {m n : Nat} {a b : Str} (ha : Sm m a) (hb : Sm n b) : Sm (m + n) (a ++ b) := by
  refine ⟨?_, fun c hc => ?_⟩
  · rw [Str.length_append]
    exact Nat.add_le_add ha.1 hb.1
  · have e : (a ++ b).cps.toList = a.cps.toList ++ b.cps.toList := by rw [Str.cps_append, Array.toList_append]
    rw [e] at hc
    rcases List.mem_append.mp hc with h | h
    · exact ha.2 c h
    · exact hb.2 c h
theorem Sm.line {m n : Nat} {a b : Str} (ha : Sm m a) (hb : Sm n b) (h : m + n ≤ 20000 := by decide) : a.length + b.length ≤ sizeLine := Nat.le_trans (Nat.add_le_add ha.1 hb.1) (Nat.le_trans h line_big)
theorem Sm.small {n : Nat} {z : Str} (h : Sm n z) (hn : n ≤ 300 := by decide) : SmallS z := ⟨Nat.le_trans h.1 hn, h.2⟩
theorem Sm.cut {n : Nat} {z : Str} {lo hi : Option Int} (h : Sm n z) : Sm n (cutS z lo hi) := ⟨cut_len h.1, fun c hc => h.2 c (List.mem_of_mem_drop (List.mem_of_mem_take hc))⟩
theorem IsC.sm {z : Str} (h : IsC z) : Sm 52 z := ⟨h.len, (small_isC h).2⟩
theorem conB_bad {z : Str} {i : Nat} (hi : i < z.cps.toList.length) (h : ¬ GoodAt z.cps.toList i) : conB (.str z) = false := by
  cases c : conB (.str z) with
  | false => rfl
  | true => exact absurd (conB_good c hi) h
theorem lt_one {b c : Nat} : ([b] < [c]) ↔ b < c := by
  simp [List.cons_lt_cons_iff]
theorem letters : ("ABCDEFGHIJKLMNOPQRSTUVWXYZabcdefghijklmnopqrstuvwxyz" : Str).cps.toList = mk := by decide +kernel
end WB

set_option Elab.async false
set_option linter.all false
set_option maxRecDepth 100000
set_option maxHeartbeats 4000000
namespace WB
open PySem L2 PyProof.Rows
/-! ### C.m(..), m a static method -/
structure StatC (K : PySem.W.Frag) (mg : Str → Option Value) (Cn : Str) (C : Addr) (m : Str) (g : Addr) : Prop where
  gC : mg Cn = some (.ref C)
  rd : PySem.W.readsIn K C (.type "type") = true
  ga : PySem.W.specialIn K (.ref C) "__getattribute__" = some (some (.builtin "type.__getattribute__"))
  ex : ∃ (p : Addr) (rest : List Value), PySem.W.findCls K (.ref C) (.type "type") m = some (.get (.builtin "staticmethod.__get__") (.ref p) .none (.ref C)) ∧ PySem.W.recIn K p "staticmethod" = some (.ref g :: rest)
  kp : PySem.W.keepIn K (.ref g) = true
section
variable {X : Cx} {k j : Nat} {g C : Addr} {sp : Sp} {Cn m : Str} {e : Expr} {es : List Expr} {t : TA} {p1 apos pos : Pos}
theorem static_meth {pins : List (Addr × Obj)} {σ : L2.St} {H : Hp} {s : Shared} {pl : Sem Bool} {A : Around} {E : Value → Shared → Prop} {Q : Value × List Value → Shared → Prop} (sc : StatC X.K X.mg Cn C m g) (I : Inv X pins σ H s) (h : ∀ s', Inv X pins σ H s' → Q (.ref g, []) s') :
    wpAny (model X.prog X.w) A (getMethod (.ref C) m pl) Q E s := by
  obtain ⟨p, rest, h1, h2⟩ := sc.ex
  exact PySem.W.method_cls I.kIn sc.ga (PySem.W.cls_bind I.kIn sc.rd h1 (wpAny_call (PySem.W.sm_get (s := { s with toks := s.toks + 1 }) I.kIn h2 (PySem.W.handed_on rfl (h _ (I.tok _))))))
theorem pe_stat {pl : Sem Bool} (sc : StatC X.K X.mg Cn C m g) (F : FnR X.prog X.w X.K X.mg X.base CX0 k g sp) (hr : Room j X.A) (hk : k ≤ j) (hg : Gl X Cn) (ha : PA X (e :: es) t) (hdb : (Cn == ("__debug__" : Str)) = false := by decide)
    (hst : starEach (e :: es) X.env = (false, eval e X.env) :: starEach es X.env := by rfl) (hpl : (backTo pos (starEach es X.env)).any (·.1) = false := by rfl)
    (ht : eval (.Call (.Attribute (.Name Cn p1) m apos) (e :: es) [] pos) X.env = (do
      let ov ← eval (.Name Cn p1) X.env
      standAt apos.atName
      let (f, first) ← holding [ov] (getMethod ov m pl)
      callWith pos f first (backTo pos (starEach (e :: es) X.env)) (backToKw pos (keywordEach [] X.env))) := by rfl) :
    PE X (.Call (.Attribute (.Name Cn p1) m apos) (e :: es) [] pos) (fun σ H Q => t σ H fun vs H1 => sp vs H1 Q E0) := by
  refine ⟨fun pins s σ H Q I h => ?_⟩
  refine PySem.W.methodCall_KW (pl := pl) (ld_glob I hg sc.gC ?_ hdb) ht
  refine static_meth sc I fun s1 I1 => ?_
  refine PySem.W.callWith_K (first := []) (h₀ := X.base) I1.ok.mod.kin sc.kp (thn (ha.run pos pins s1 σ H _ I1 h) fun us s2 ⟨vs, H1, I2, r, q⟩ => ⟨I2.kIn, ?_⟩) hst hpl
  exact wpAny_call (run_fnR F (hr.mono hk) pass0 I2 r q)
theorem pe_stat0 {pl : Sem Bool} (sc : StatC X.K X.mg Cn C m g) (F : FnR X.prog X.w X.K X.mg X.base CX0 k g sp) (hr : Room j X.A) (hk : k ≤ j) (hg : Gl X Cn) (hdb : (Cn == ("__debug__" : Str)) = false := by decide)
    (ht : eval (.Call (.Attribute (.Name Cn p1) m apos) [] [] pos) X.env = (do
      let ov ← eval (.Name Cn p1) X.env
      standAt apos.atName
      let (f, first) ← holding [ov] (getMethod ov m pl)
      callWith pos f first (backTo pos (starEach [] X.env)) (backToKw pos (keywordEach [] X.env))) := by rfl) :
    PE X (.Call (.Attribute (.Name Cn p1) m apos) [] [] pos) (fun σ H Q => sp [] H Q E0) := by
  refine ⟨fun pins s σ H Q I h => ?_⟩
  refine PySem.W.methodCall_KW (pl := pl) (ld_glob I hg sc.gC ?_ hdb) ht
  refine static_meth sc I fun s1 I1 => ?_
  exact PySem.W.callWith_K0 (first := []) I1.kIn sc.kp (wpAny_call (run_fnR F (hr.mono hk) pass0 I1 .nil h))
end
/-! ### boxes joined -/
def joinC (zs : List Str) : Str := sb fun c => zs.any fun z => mem z c
def spJoin (C : Addr) : Sp := fun vs H Q _ => ∃ (p : Addr) (bs : List Addr) (zs : List Str), vs = [.ref p] ∧ H p = some (.tup (bs.map V.ref)) ∧ bs.length ≤ 1000 ∧ Boxes C H bs zs ∧ ∀ H' b, Same H H' → H b = none → BoxAt C H' b (joinC zs) → Q (.ref b) H'
def spJoinR (C : Addr) : Sp := fun vs H Q E => ∃ ws rest, vs = ws ++ rest ∧ ws.length = ([] : List Str).length ∧ rest.length ≤ sizeLine ∧ ∀ p, H p = none → spJoin C (ws ++ [V.ref p]) (upd H p (.tup rest)) Q E
theorem joinR_ok {C : Addr} {H : Hp} {Q : VK} {E : XK} {bs : List Addr} {zs : List Str} (hb : Boxes C H bs zs) (hl : bs.length ≤ 1000) (q : ∀ H' b, Same H H' → H b = none → BoxAt C H' b (joinC zs) → Q (.ref b) H') : spJoinR C (bs.map V.ref) H Q E := by
  refine ⟨[], bs.map V.ref, rfl, rfl, by rw [List.length_map]; exact Nat.le_trans hl (by decide), fun p hp => ?_⟩
  have s := same_new (o := .tup (bs.map V.ref)) hp
  exact ⟨p, bs, zs, rfl, upd_same, hl, hb.same s, fun H' b s' nb h => q H' b (s.trans s') (s.free nb) h⟩
def spJoinL (C : Addr) : Sp := fun vs H Q _ => ∃ (l : Addr) (bs : List Addr) (zs : List Str), vs = [.ref l] ∧ H l = some (.lst (bs.map V.ref)) ∧ bs.length ≤ 6 ∧ Boxes C H bs zs ∧ ∀ H' b, Same H H' → H b = none → BoxAt C H' b (joinC zs) → Q (.ref b) H'
def spCopied (C : Addr) : Sp := fun vs H Q _ => ∃ (a : Addr) (z : Str), vs = [.ref a] ∧ BoxAt C H a z ∧ IsC z ∧ ∀ H' b, Same H H' → H b = none → BoxAt C H' b z → Q (.ref b) H'
def spDueJ : Sp := fun vs H Q _ => ∃ (l : Addr) (zs : List Str), vs = [.ref l] ∧ H l = some (.lst (zs.map V.str)) ∧ zs.length ≤ 1000 ∧ ∀ H', Same H H' → Q (.str (joinC zs)) H'
theorem inV_bools {α : Type} (f : α → Bool) (zs : List α) : inV (.bl true) (zs.map fun z => V.bl (f z)) = zs.any f := by
  unfold inV
  rw [List.any_map]
  refine congrArg (fun g => zs.any g) (funext fun z => ?_)
  show eqV (V.bl (f z)) (V.bl true) = f z
  cases f z <;> decide +kernel
theorem flat_bools {α : Type} (f : α → Bool) (zs : List α) : (zs.map fun z => V.bl (f z)).all flatV = true := by
  rw [List.all_map]
  exact List.all_eq_true.mpr fun _ _ => rfl
theorem upd_snoc {H : Hp} {D : Addr} {ys : List V} {j : Nat} {y : V} (h : ys[j]? = some y) : upd (upd H D (.lst (ys.take j))) D (.lst (ys.take j ++ [y])) = upd H D (.lst (ys.take (j + 1))) := by
  rw [upd_upd, take_snoc h]
theorem take_small {ys : List V} {j n : Nat} (h : ys.length ≤ n) (hn : n ≤ 1000 := by decide) : (ys.take j).length < sizeLine := Nat.lt_of_le_of_lt (show (ys.take j).length ≤ ys.length by rw [List.length_take]; exact Nat.min_le_right _ _) (Nat.lt_of_le_of_lt (Nat.le_trans h hn) (by decide))
theorem join_step {zs : List Str} {i : Nat} {z : Str} (h : zs[i]? = some z) : (sb fun c => mem (sb fun c => (zs.take i).any fun z => mem z c) c || mem z c) = sb fun c => (zs.take (i + 1)).any fun z => mem z c := sb_ext fun c hc => by
  rw [mem_sb, decide_eq_true hc, Bool.true_and, take_snoc h, List.any_append, List.any_cons, List.any_nil, Bool.or_false]
theorem join_none : (sb fun c => (([] : List Str)).any fun z => mem z c) = "" := by decide +kernel
theorem lay_texts : ∀ zs : List Str, (∀ z ∈ zs, ∀ c ∈ z.cps.toList, c < 1000) → PyData.canLayAll0 (zs.map PyData.str) = true
  | [], _ => rfl
  | z :: r, h => by
    have ih := lay_texts r fun y hy => h y (List.mem_cons_of_mem _ hy)
    show (PyData.canLay0 (.str z) && PyData.canLayAll0 (r.map _)) = true
    rw [ih, Bool.and_true]
    show z.cps.all (fun c => decide (c < 0x110000)) = true
    rw [← Array.all_toList]
    exact List.all_eq_true.mpr fun c hc => decide_eq_true (Nat.lt_trans (h z List.mem_cons_self c hc) (by decide))
theorem shaped_texts {zs : List Str} (h : ∀ z ∈ zs, IsC z) : SeqAt.shaped (.list (zs.map PyData.str)) = true := by
  have e1 : PyData.canLay0 (.list (zs.map PyData.str)) = true := lay_texts zs fun z hz => (small_isC (h z hz)).2
  obtain ⟨_, _, h3, _⟩ := showAll_strs zs
  have e2 : PyData.depth (.list (zs.map PyData.str)) ≤ 64 := by
    show PyData.depthAll (zs.map _) + 1 ≤ 64
    rw [h3]
    decide
  unfold SeqAt.shaped
  rw [e1, decide_eq_true e2]
  rfl
theorem eqv_texts : ∀ zs : List Str, PyData.eqv (.list (zs.map PyData.str)) (.list (zs.map PyData.str)) = true := by
  have key : ∀ zs : List Str, PyData.eqvAll (zs.map PyData.str) (zs.map PyData.str) = true := by
    intro zs
    induction zs with
    | nil => rfl
    | cons z r ih =>
      show (PyData.eqv (.str z) (.str z) && PyData.eqvAll (r.map _) (r.map _)) = true
      rw [ih, Bool.and_true]
      show (z == z) = true
      exact beq_self_eq_true z
  exact key
theorem TwoAt.off {C : Addr} {H0 H : Hp} {p q tl bl x : Addr} {bs : List Addr} {zs : List Str} (h : TwoAt C H0 p q tl bl bs zs H) (nx : H x = none) : p ≠ x ∧ q ≠ x ∧ tl ≠ x ∧ bl ≠ x ∧ x ∉ bs ∧ H0 x = none := by
  refine ⟨(h.bag.there nx).symm, (h.bag.there2 nx).symm, ne_of_none h.t nx, ne_of_none h.b nx, ?_, h.sm.free nx⟩
  intro m
  obtain ⟨z, dx, e⟩ := h.bx.mem m
  rw [nx] at e
  cases e
theorem TwoAt.other {C : Addr} {H0 H H' : Hp} {p q tl bl x : Addr} {bs : List Addr} {zs : List Str} (h : TwoAt C H0 p q tl bl bs zs H) (e : Bar x H H') (n : p ≠ x ∧ q ≠ x ∧ tl ≠ x ∧ bl ≠ x ∧ x ∉ bs ∧ H0 x = none) : TwoAt C H0 p q tl bl bs zs H' :=
  ⟨same_bar h.sm n.2.2.2.2.2 e, h.bag.bar e n.1 n.2.1, e _ _ n.2.2.1 h.t, e _ _ n.2.2.2.1 h.b, h.bx.bar e n.2.2.2.2.1, h.ic⟩
theorem TwoAt.news {C : Addr} {H0 H H' : Hp} {p q tl bl x : Addr} {bs : List Addr} {zs : List Str} (h : TwoAt C H0 p q tl bl bs zs H) (w : Two C H0 p q tl bl bs) (n : p ≠ x ∧ q ≠ x ∧ tl ≠ x ∧ bl ≠ x ∧ x ∉ bs ∧ H0 x = none)
    (fr : ∀ b o, b ≠ x → b ∉ bs → H b = some o → H' b = some o) (hb : Boxes C H' bs zs) : TwoAt C H0 p q tl bl bs zs H' := by
  obtain ⟨n1, n2⟩ := h.bx.notin2 h.bag
  refine ⟨fun b o e => fr b o (ne_of_none e n.2.2.2.2.2) (fun m => ?_) (h.sm b o e), ?_, fr _ _ n.2.2.1 (h.bx.notin h.t) h.t, fr _ _ n.2.2.2.1 (h.bx.notin h.b) h.b, hb, h.ic⟩
  · rw [w.nbs b m] at e
    cases e
  · obtain ⟨c, s, i, ns, h1, h2, h3⟩ := h.bag
    exact ⟨c, s, i, ns, fr _ _ n.1 n1 h1, fr _ _ n.2.1 n2 h2, h3⟩
theorem getD_at {α : Type} {l : List α} {k : Nat} {d : α} (h : k < l.length) : l[k]? = some (l.getD k d) := by
  rw [List.getD_eq_getElem?_getD, List.getElem?_eq_getElem h]
  rfl
theorem Boxes.pick {C : Addr} {H : Hp} {bs : List Addr} {zs : List Str} (h : Boxes C H bs zs) {ks : List Nat} (hk : ∀ k ∈ ks, k < bs.length) : Boxes C H (ks.map fun k => bs.getD k 0) (ks.map fun k => zs.getD k "") := by
  refine ⟨by rw [List.length_map, List.length_map], fun i b z h1 h2 => ?_⟩
  obtain ⟨k, hki, rfl⟩ := map_from h1
  obtain ⟨k', hki', rfl⟩ := map_from h2
  rw [hki] at hki'
  cases hki'
  have hl := hk k (List.mem_of_getElem? hki)
  exact h.2 k _ _ (getD_at hl) (getD_at (by rw [← h.1]; exact hl))
end WB

set_option Elab.async false
set_option linter.all false
set_option maxRecDepth 100000
set_option maxHeartbeats 4000000
namespace W6
open PySem L2 WB
open C8 (pe_c pe_mk pe_mt pe_mt0 Cal Mak Met)
def top (i : Nat) : Stmt := PySem.Challenge.pw_workerworlds_k06_boxes_joined_and_copied.main.body.getD i (.Pass ⟨0, 0, 0, 0⟩)
abbrev s_bag : Stmt := top 14
abbrev n_bag : List Str := ["_law_script", "_law_at", "_law_cell"]
theorem sc_bag : FnScope n_bag ["_law_script", "_law_at"] (defScope s_bag) := ⟨rfl, rfl, rfl, by decide +kernel, rfl, by decide +kernel, by decide +kernel⟩
abbrev s_take : Stmt := top 15
abbrev n_take : List Str := ["_law_bag_here", "_law_many", "_law_digit", "_law_cell", "_law_added"]
theorem sc_take : FnScope n_take ["_law_bag_here", "_law_many"] (defScope s_take) := ⟨rfl, rfl, rfl, by decide +kernel, rfl, by decide +kernel, by decide +kernel⟩
abbrev s_of : Stmt := top 16
abbrev n_of : List Str := ["_law_bag_here", "_law_some"]
theorem sc_of : FnScope n_of ["_law_bag_here", "_law_some"] (defScope s_of) := ⟨rfl, rfl, rfl, by decide +kernel, rfl, by decide +kernel, by decide +kernel⟩
abbrev s_contents : Stmt := top 17
abbrev n_contents : List Str := ["_law_bag_here", "_law_share", "_law_found", "_law_mark"]
theorem sc_contents : FnScope n_contents ["_law_bag_here"] (defScope s_contents) := ⟨rfl, rfl, rfl, by decide +kernel, rfl, by decide +kernel, by decide +kernel⟩
abbrev s_either : Stmt := top 6
abbrev n_either : List Str := ["one", "other", "mark"]
theorem sc_either : FnScope n_either ["one", "other"] (defScope s_either) := ⟨rfl, rfl, rfl, by decide +kernel, rfl, by decide +kernel, by decide +kernel⟩
abbrev s_are_contents : Stmt := top 10
abbrev n_are_contents : List Str := ["thing"]
theorem sc_are_contents : FnScope n_are_contents ["thing"] (defScope s_are_contents) := ⟨rfl, rfl, rfl, by decide +kernel, rfl, by decide +kernel, by decide +kernel⟩
abbrev s_checked : Stmt := top 11
abbrev n_checked : List Str := ["contents"]
theorem sc_checked : FnScope n_checked ["contents"] (defScope s_checked) := ⟨rfl, rfl, rfl, by decide +kernel, rfl, by decide +kernel, by decide +kernel⟩
abbrev s_joined : Stmt := top 18
abbrev n_joined : List Str := ["_law_rows"]
theorem sc_joined : FnScope n_joined ["_law_rows"] (defScope s_joined) := ⟨rfl, rfl, rfl, by decide +kernel, rfl, by decide +kernel, by decide +kernel⟩
abbrev s_due : Stmt := top 19
abbrev n_due : List Str := ["_law_texts", "_law_found", "_law_mark", "_law_text"]
theorem sc_due : FnScope n_due ["_law_texts"] (defScope s_due) := ⟨rfl, rfl, rfl, by decide +kernel, rfl, by decide +kernel, by decide +kernel⟩
abbrev s_is_new : Stmt := top 20
abbrev n_is_new : List Str := ["_law_made", "_law_due_here", "_law_boxes", "_law_texts", "_law_last", "_law_box", "_law_is_kept", "_law_text"]
theorem sc_is_new : FnScope n_is_new ["_law_made", "_law_due_here", "_law_boxes", "_law_texts", "_law_last"] (defScope s_is_new) := ⟨rfl, rfl, rfl, by decide +kernel, rfl, by decide +kernel, by decide +kernel⟩
abbrev s_law : Stmt := top 21
abbrev n_law : List Str := ["_law_script", "_law_at", "_law_bag_here", "_law_texts", "_law_boxes", "_law_last", "_law_chosen", "_law_made", "_law_k", "_law_text"]
theorem sc_law : FnScope n_law ["_law_script"] (defScope s_law) := ⟨rfl, rfl, rfl, by decide +kernel, rfl, by decide +kernel, by decide +kernel⟩
abbrev s_Box__init : Stmt := inClass (top 12) 0
abbrev n_Box__init : List Str := ["self", "contents"]
theorem sc_Box__init : FnScope n_Box__init ["self", "contents"] (defScope s_Box__init) := ⟨rfl, rfl, rfl, by decide +kernel, rfl, by decide +kernel, by decide +kernel⟩
abbrev s_Box_become : Stmt := inClass (top 12) 14
abbrev n_Box_become : List Str := ["self", "contents"]
theorem sc_Box_become : FnScope n_Box_become ["self", "contents"] (defScope s_Box_become) := ⟨rfl, rfl, rfl, by decide +kernel, rfl, by decide +kernel, by decide +kernel⟩
abbrev s_Box_copied : Stmt := inClass (top 12) 16
abbrev n_Box_copied : List Str := ["self"]
theorem sc_Box_copied : FnScope n_Box_copied ["self"] (defScope s_Box_copied) := ⟨rfl, rfl, rfl, by decide +kernel, rfl, by decide +kernel, by decide +kernel⟩
abbrev s_Box_joined : Stmt := inClass (top 12) 17
abbrev n_Box_joined : List Str := ["boxes", "marks", "box"]
theorem sc_Box_joined : FnScope n_Box_joined ["boxes"] (defScope s_Box_joined) := ⟨rfl, rfl, rfl, by decide +kernel, rfl, by decide +kernel, by decide +kernel⟩
structure Top (K : PySem.W.Frag) (mg : Str → Option Value) : Prop where
  z_len : mg "len" = none
  z_abs : mg "abs" = none
  z_list : mg "list" = none
  z_int : mg "int" = none
  z_isinstance : mg "isinstance" = none
  z_str : mg "str" = none
  z_range : mg "range" = none
  z_max : mg "max" = none
  z_min : mg "min" = none
  z_zip : mg "zip" = none
  g_MARKS : ∃ u, mg "MARKS" = some u ∧ RelV (.str "ABCDEFGHIJKLMNOPQRSTUVWXYZabcdefghijklmnopqrstuvwxyz") u
section
variable {P : Program} {w : World} {K : PySem.W.Frag} {mg : Str → Option Value} {base : Heap}
theorem ok_bag {f : Addr} {fd : FuncData} (F : Fun K "_law_bag" "_law_bag" s_bag f fd) (T : Top K mg) : FnOk P w K mg base CX0 1 f fd ["_law_script", "_law_at"] (spBag K) := by
  refine F.ok sc_bag (fun vs H Q E h => ?_) (fun cdv A outer s H vs Q E hr h => ?_)
  · obtain ⟨a, ns, j, rfl, _⟩ := h
    rfl
  · obtain ⟨a, ns, j, rfl, hS, hlen, hj, k⟩ := h
    refine ⟨_, (pss_cons (ps_set (i := 2) sc_bag.nd rfl (Or.inl rfl) (pe_ifExp (pt_cmpR op_lt (pv 1) (pe_callB call_len_seq (by rfl) T.z_len (by decide +kernel) (pa_cons (pv 0) pa_nil)) (nomark _)) (pe_callB call_abs (by rfl) T.z_abs (by decide +kernel) (pa_cons (pe_ix ix_list (pv 0) (pv 1) (fun _ _ => rfl)) pa_nil)) pe_int))
(pss_one (ps_ret (pe_lst (pa_cons (pe_ifExp (pt_cmpR op_ge (pv 2) (pe_op op_pow pe_int pe_int) (nomark _)) (pv 2) pe_int) (pa_cons (pe_op op_add pe_int (pe_op op_mul pe_int (pv 1))) (pa_cons (pv 1) (pa_cons (pe_callTy call_list_of (by rfl) T.z_list (by decide +kernel) (pa_cons (pe_slice sl_list (pv 0) po_none (po_some pe_int)) pa_nil)) pa_nil)))))))), ?_⟩
    refine ⟨_, rfl, _, rfl, a, _, rfl, .inl hS, _, _, rfl, rfl, _, rfl, ?_⟩
    refine ite_val (C := fun v H' => ∃ c : Int, v = .int c ∧ 0 ≤ c ∧ H' = H) (fun hc Q' q => ?_) (fun _ Q' q => q _ _ ⟨0, rfl, Int.le_refl _, rfl⟩) ?_
    · have hj2 : j < ns.length := by
        have e := of_decide_eq_true hc
        rw [List.length_map] at e
        omega
      refine ⟨_, rfl, _, rfl, a, _, _, _, rfl, rfl, hS, atI_nat (ints_at hj2), _, rfl, ?_⟩
      exact q _ _ ⟨_, rfl, abs_nonneg _, rfl⟩
    · rintro v H' ⟨c, rfl, hc, rfl⟩
      refine ⟨_, rfl, _, _, rfl, rfl, ⟨by decide, by decide, by decide⟩, _, _, rfl, rfl, _, rfl, ?_⟩
      refine ite_val (C := fun v H2 => ∃ c : Int, v = .int c ∧ 0 ≤ c ∧ H2 = H') (fun _ Q' q => ⟨_, rfl, q _ _ ⟨c, rfl, hc, rfl⟩⟩) (fun _ Q' q => q _ _ ⟨0, rfl, Int.le_refl _, rfl⟩) ?_
      rintro v H2 ⟨c2, rfl, hc2, rfl⟩
      refine ⟨_, rfl, _, _, rfl, rfl, .inl ⟨by decide, by decide⟩, _, _, rfl, rfl, _, rfl, _, rfl, ?_⟩
      refine ⟨_, rfl, a, _, rfl, hS, fun p hp => ?_⟩
      refine ⟨p, _, rfl, .inl (SqL.of upd_same), fun l hl => ?_⟩
      refine ⟨by show 4 ≤ sizeLine; decide, fun b hb => ?_⟩
      have e : cutV (ns.map V.int) none (some 63) = (ns.take 63).map V.int := (cut_to _ 63).trans (List.map_take ..).symm
      have nlb : l ≠ b := fun q => by
        rw [← q, upd_same] at hb
        cases hb
      have hb1 : upd H2 p (.lst (cutV (ns.map V.int) none (some 63))) b = none := by
        rw [upd_ne nlb.symm] at hb
        exact hb
      have hb2 : H2 b = none := (same_new hp).free hb1
      refine k _ b l (((same_new hp).trans (same_new hl)).trans (same_new hb)) hb2 ((same_new hp).free hl) ?_
      refine ⟨c2, _, _, ns.take 63, upd_same, ?_, ?_, hc2, ?_, ?_, ?_⟩
      · rw [upd_ne nlb, upd_same, e]
      · rw [List.length_take]
        omega
      · omega
      · omega
      · omega
theorem ok_take {f : Addr} {fd : FuncData} (F : Fun K "_law_take" "_law_take" s_take f fd) (T : Top K mg) : FnOk P w K mg base CX0 1 f fd ["_law_bag_here", "_law_many"] spTake := by
  refine F.ok sc_take (fun vs H Q E h => ?_) (fun cdv A outer s H vs Q E hr h => ?_)
  · obtain ⟨p, q, m, rfl, _⟩ := h
    rfl
  · obtain ⟨p, q, m, rfl, hBB, hm, hm2, k⟩ := h
    have npq : q ≠ p := hBB.pq
    obtain ⟨c, z, i, ns, hp, hq, hlen, hc, hz, hz2, hi⟩ := hBB
    refine ⟨_, (pss_cons (ps_if (pt_cmpR op_gt (pe_ix ix_list (pv 0) pe_int (fun _ _ => rfl)) pe_int (nomark _))
(pss_cons (ps_set (i := 2) sc_take.nd rfl (Or.inl rfl) (pe_op op_mod (pe_callTy call_int1 (by rfl) T.z_int (by decide +kernel) (pa_cons (pe_ix ix_list (pv 0) pe_int (fun _ _ => rfl)) pa_nil)) (pv 1)))
(pss_cons (ps_asg (pe_op op_fdivW (pe_ix ix_list (pv 0) pe_int (fun _ _ => rfl)) (pv 1)) (pg_sub (pv 0) pe_int set_list))
(pss_one (ps_ret (pv 2)))))
pss_nil)
(pss_cons (ps_asg (pe_op op_add (pe_ix ix_list (pv 0) pe_int (fun _ _ => rfl)) pe_int) (pg_sub (pv 0) pe_int set_list))
(pss_cons (ps_set (i := 3) sc_take.nd rfl (Or.inl rfl) (pe_ifExp (pt_cmpR (op_neD hr.units) (pe_ix ix_list (pv 0) pe_int (fun _ _ => rfl)) (pe_lst pa_nil) (nomark _)) (pe_ix ix_list (pe_ix ix_list (pv 0) pe_int (fun _ _ => rfl)) (pe_op op_mod (pe_ix ix_list (pv 0) pe_int (fun _ _ => rfl)) (pe_callB call_len_seq (by rfl) T.z_len (by decide +kernel) (pa_cons (pe_ix ix_list (pv 0) pe_int (fun _ _ => rfl)) pa_nil))) (fun _ _ => rfl)) pe_int))
(pss_cons (ps_set (i := 4) sc_take.nd rfl (Or.inl rfl) (pe_op op_mod (pe_callTy call_int1 (by rfl) T.z_int (by decide +kernel) (pa_cons (pv 3) pa_nil)) pe_int))
(pss_cons (ps_asg (pe_op op_mod (pe_callTy call_int1 (by rfl) T.z_int (by decide +kernel) (pa_cons (pe_op op_add (pe_op op_add (pe_op op_add (pe_op op_mul (pe_ix ix_list (pv 0) pe_int (fun _ _ => rfl)) pe_int) (pv 4)) (pe_op op_mul pe_int (pe_ix ix_list (pv 0) pe_int (fun _ _ => rfl)))) pe_int) pa_nil)) pe_int) (pg_sub (pv 0) pe_int set_list))
(pss_one (ps_ret (pe_op op_mod (pe_op op_fdivW (pe_op op_mod (pe_callTy call_int1 (by rfl) T.z_int (by decide +kernel) (pa_cons (pe_op op_mul (pe_op op_fdivW (pe_ix ix_list (pv 0) pe_int (fun _ _ => rfl)) pe_int) pe_int) pa_nil)) pe_int) pe_int) (pv 1))))))))), ?_⟩
    refine ⟨_, rfl, p, _, _, _, rfl, rfl, SqL.of hp, rfl, _, _, rfl, rfl, _, rfl, ?_⟩
    refine ite_b (fun hc0 => ?_) (fun _ => ?_)
    · have hc1 : 0 < c := of_decide_eq_true hc0
      refine ⟨_, rfl, p, _, _, _, rfl, rfl, SqL.of hp, rfl, .inl ⟨_, rfl, ?_⟩⟩
      refine ⟨_, rfl, _, _, rfl, rfl, hm, ?_⟩
      refine ⟨_, rfl, p, _, _, _, rfl, rfl, SqL.of hp, rfl, _, rfl, _, _, rfl, rfl, cdw hm hm2, ?_⟩
      · refine ⟨_, rfl, p, _, _, _, rfl, rfl, hp, rfl, ?_⟩
        refine ⟨_, rfl, ?_⟩
        refine k _ _ bar_upd ⟨c / m, z, i, ns, upd_same, by rw [upd_ne npq]; exact hq, hlen, Int.ediv_nonneg hc (by omega), hz, hz2, hi⟩ (Int.emod_nonneg _ (by omega)) (Int.emod_lt_of_pos _ hm)
    · show tSeq _ _ _ _ _
      refine ⟨_, rfl, p, _, _, _, rfl, rfl, SqL.of hp, rfl, _, _, rfl, rfl, ?_⟩
      refine ⟨_, rfl, p, _, _, _, rfl, rfl, hp, rfl, ?_⟩
      have hp1 : upd H p (.lst [V.int c, V.int z, V.int (i + 1), V.ref q]) p = some (.lst [V.int c, V.int z, V.int (i + 1), V.ref q]) := upd_same
      have hq1 : upd H p (.lst [V.int c, V.int z, V.int (i + 1), V.ref q]) q = some (.lst (ns.map V.int)) := (upd_ne npq).trans hq
      refine ⟨_, rfl, p, _, _, _, rfl, rfl, SqL.of hp1, rfl, Nat.zero_le _, fun l hl => ?_⟩
      have npl : p ≠ l := ne_of_none hp1 hl
      have nql : q ≠ l := ne_of_none hq1 hl
      have hp2 := (upd_ne npl (o := HO.lst [])).trans hp1
      have hq2 := (upd_ne nql (o := HO.lst [])).trans hq1
      refine ⟨_, _, dp_ints (SqL.of hq2), .lst (SqL.of upd_same) .nil, shaped_ints ns, by decide, _, rfl, ?_⟩
      refine ite_val (C := fun v H' => ∃ n : Int, v = .int n ∧ H' = _) (fun hne Q' qq => ?_) (fun _ Q' qq => qq _ _ ⟨0, rfl, rfl⟩) ?_
      · have hn : ns ≠ [] := fun e => by
          rw [eqv_nil_ints, decide_eq_true e] at hne
          cases hne
        have hl0 : 0 < (ns.map V.int).length := by
          rw [List.length_map]
          exact List.length_pos_iff.mpr hn
        refine ⟨_, rfl, p, _, _, _, rfl, rfl, SqL.of hp2, rfl, _, rfl, p, _, _, _, rfl, rfl, SqL.of hp2, rfl, _, rfl, p, _, _, _, rfl, rfl, SqL.of hp2, rfl, q, _, rfl, .inl (SqL.of hq2), _, _, rfl, rfl, by omega, ?_⟩
        have h0 : 0 ≤ (i + 1) % ((ns.map V.int).length : Int) := Int.emod_nonneg _ (by omega)
        have h1 : (i + 1) % ((ns.map V.int).length : Int) < ((ns.map V.int).length : Int) := Int.emod_lt_of_pos _ (by omega)
        obtain ⟨j, hj⟩ := Int.eq_ofNat_of_zero_le h0
        have hj2 : j < ns.length := by
          rw [hj, List.length_map] at h1
          omega
        refine ⟨q, _, _, _, rfl, rfl, SqL.of hq2, ?_, qq _ _ ⟨ns[j], rfl, rfl⟩⟩
        rw [hj]
        exact atI_nat (ints_at hj2)
      · rintro v H' ⟨n, rfl, rfl⟩
        refine ⟨_, rfl, .inl ⟨_, rfl, ?_⟩⟩
        refine ⟨_, _, rfl, rfl, (by show (0 : Int) < _; decide), ?_⟩
        refine ⟨_, rfl, p, _, _, _, rfl, rfl, SqL.of hp2, rfl, _, _, rfl, rfl, .inr ⟨by decide, by decide⟩, _, rfl, _, _, rfl, rfl, _, rfl, p, _, _, _, rfl, rfl, SqL.of hp2, rfl, _, _, rfl, rfl, .inl ⟨by decide, by decide⟩, _, _, rfl, rfl, _, _, rfl, rfl, .inl ⟨_, rfl, ?_⟩⟩
        refine ⟨_, _, rfl, rfl, (by show (0 : Int) < _; decide), ?_⟩
        refine ⟨_, rfl, p, _, _, _, rfl, rfl, hp2, rfl, ?_⟩
        refine ⟨_, rfl, p, _, _, _, rfl, rfl, SqL.of upd_same, rfl, _, _, rfl, rfl, cdw (by decide) (by decide), _, _, rfl, rfl, .inr ⟨by decide, by decide⟩, .inl ⟨_, rfl, ?_⟩⟩
        refine ⟨_, _, rfl, rfl, (by show (0 : Int) < _; decide), _, _, rfl, rfl, cdw (by decide) (by decide), _, rfl, _, _, rfl, rfl, hm, ?_⟩
        refine k _ _ ?_ ⟨c, _, i + 1, ns, upd_same, ?_, hlen, hc, Int.emod_nonneg _ (by decide), ?_, by omega⟩ (Int.emod_nonneg _ (by omega)) (Int.emod_lt_of_pos _ hm)
        · exact (bar_upd.trans (bar_new hl)).trans bar_upd
        · exact (upd_ne npq).trans hq2
        · exact Int.lt_trans (Int.emod_lt_of_pos _ (by decide)) (by decide)
theorem ok_of {f : Addr} {fd : FuncData} (F : Fun K "_law_of" "_law_of" s_of f fd) (T : Top K mg) (T_take : Cal P w K mg base 1 "_law_take" spTake []) : FnOk P w K mg base CX0 2 f fd ["_law_bag_here", "_law_some"] spOf := by
  refine F.ok sc_of (fun vs H Q E h => ?_) (fun cdv A outer s H vs Q E hr h => ?_)
  · obtain ⟨p, q, y, rfl, _⟩ := h
    rfl
  · obtain ⟨p, q, y, rfl, hB, k⟩ := h
    refine ⟨_, (pss_one (ps_ret (pe_ix (IxR.or ix_list ix_str) (pv 1) (pe_c T_take hr (by decide) (by rfl) (pa_cons (pv 0) (pa_cons (pe_callB (CallR.or call_len_seq call_len_str) (by rfl) T.z_len (by decide +kernel) (pa_cons (pv 1) pa_nil)) pa_nil))) (fun _ _ => rfl)))), ?_⟩
    rcases k with ⟨l, xs, rfl, hlp, hl, h0, h1, k⟩ | ⟨z, rfl, h0, h1, k⟩
    · refine ⟨_, rfl, _, rfl, _, rfl, .inl ⟨l, _, rfl, .inl (SqL.of hl), ?_⟩⟩
      refine ⟨p, q, _, rfl, hB, by omega, by omega, fun H1 d b1 hB1 d0 d1 => ?_⟩
      obtain ⟨j, rfl⟩ := Int.eq_ofNat_of_zero_le d0
      have hj : j < xs.length := by omega
      refine .inl ⟨l, xs, _, xs[j], rfl, rfl, SqL.of (b1 _ _ hlp hl), atI_nat (List.getElem?_eq_getElem hj), ?_⟩
      exact k _ _ b1 hB1 (List.getElem_mem hj)
    · refine ⟨_, rfl, _, rfl, _, rfl, .inr ⟨_, rfl, ?_, ?_⟩⟩
      · rw [SX.S_len]
        exact Nat.le_of_lt (small1000 (Nat.le_of_lt h1))
      rw [SX.S_len]
      refine ⟨p, q, _, rfl, hB, by omega, by omega, fun H1 d b1 hB1 d0 d1 => ?_⟩
      obtain ⟨j, rfl⟩ := Int.eq_ofNat_of_zero_le d0
      have hj : j < z.length := by omega
      refine .inr ⟨S z, _, z[j], rfl, rfl, ?_, atI_nat (List.getElem?_eq_getElem hj), ?_⟩
      · rw [SX.S_len]
        exact Nat.le_of_lt (small1000 (Nat.le_of_lt h1))
      exact k _ _ b1 hB1 (List.getElem_mem hj)
theorem ok_contents {f : Addr} {fd : FuncData} (F : Fun K "_law_contents" "_law_contents" s_contents f fd) (T : Top K mg) (T_take : Cal P w K mg base 1 "_law_take" spTake []) (T_of : Cal P w K mg base 2 "_law_of" spOf []) :
    FnOk P w K mg base CX0 3 f fd ["_law_bag_here"] spContents := by
  refine F.ok sc_contents (fun vs H Q E h => ?_) (fun cdv A outer s H vs Q E hr h => ?_)
  · obtain ⟨p, q, rfl, _⟩ := h
    rfl
  · obtain ⟨p, q, rfl, hB, k⟩ := h
    refine ⟨_, (pss_cons (ps_par (i := 1) (j := 2) rfl sc_contents.nd rfl rfl (by decide) rfl rfl (by exact (pa_cons (pe_c T_of hr (by decide) (by rfl) (pa_cons (pv 0) (pa_cons (pe_lst (pa_cons pe_int (pa_cons pe_int (pa_cons pe_int (pa_cons pe_int (pa_cons pe_int pa_nil)))))) pa_nil))) (pa_cons pe_str pa_nil))) rfl)
(pss_cons (ps_for PassesOwn.never rfl (pi_str pe_str) (pg_name (i := 3) sc_contents.nd rfl (Or.inl rfl))
(pss_one (ps_if (pt_cmpR op_eq (pe_c T_take hr (by decide) (by rfl) (pa_cons (pv 0) (pa_cons (pv 1) pa_nil))) pe_int (nomark _))
(pss_one (ps_set (i := 2) sc_contents.nd rfl (Or.inl rfl) (pe_op op_add_str (pv 2) (pv 3))))
pss_nil)))
(pss_one (ps_ret (pv 2))))), ?_⟩
    refine ⟨_, rfl, by show 5 ≤ sizeLine; decide, fun l hl => ?_⟩
    refine ⟨p, q, _, rfl, hB.same (same_new hl), .inl ⟨l, _, rfl, hB.there hl, upd_same, by decide, by decide, fun H1 x b1 hB1 hx => ?_⟩⟩
    obtain ⟨n, rfl, hn0, hn1⟩ : ∃ n : Int, x = .int n ∧ 0 < n ∧ n < 2 ^ 200 := by
      simp only [List.mem_cons, List.not_mem_nil, or_false] at hx
      rcases hx with rfl | rfl | rfl | rfl | rfl <;> exact ⟨_, rfl, by decide, by decide⟩
    refine ⟨_, _, rfl, ?_⟩
    refine ⟨_, rfl, for_it walk_str (fun i σ H' => ∃ ms v, σ = [some (.ref p), some (.int n), some (.str (S ms)), v] ∧ ms.Sublist (mk.take i) ∧ Bar p H H' ∧ BagAt H' p q)
      ⟨[], none, rfl, List.nil_sublist _, (bar_new hl).trans b1, hB1⟩ (fun _ _ _ _ _ => trivial) ?_ ?_⟩
    · rintro i x σ H2 H' hi ⟨ms, v, rfl, hs, b2, hB2⟩ ⟨rfl, c, hc, rfl⟩
      have hc := mk_at hc
      have hm : ms.length ≤ 52 := Nat.le_trans hs.length_le (by rw [List.length_take, mk_len]; omega)
      refine ⟨_, rfl, _, rfl, p, q, _, rfl, hB2, hn0, hn1, fun H3 d b3 hB3 d0 d1 => ?_⟩
      refine ⟨rfl, _, rfl, ?_⟩
      refine ite_b (fun _ => ?_) (fun _ => ?_)
      · refine ⟨_, rfl, _, rfl, _, _, rfl, rfl, ?_, ?_⟩
        · rw [SX.S_len]
          exact Nat.le_trans (Nat.add_le_add hm (Nat.le_refl 1)) (by decide)
        · refine ⟨ms ++ [c], some (sg c), ?_, (sub_step hs hc).1, b2.trans b3, hB3⟩
          rw [show S ms ++ (⟨#[c]⟩ : Str) = S (ms ++ [c]) from SX.S_cat ms [c]]
          rfl
      · exact ⟨ms, _, rfl, (sub_step hs hc).2, b2.trans b3, hB3⟩
    · rintro σ H' ⟨ms, v, rfl, hs, b2, hB2⟩
      exact ⟨_, rfl, k _ _ b2 hB2 (isC_of (hs.trans (List.take_sublist _ _)))⟩
theorem ok_either {f : Addr} {fd : FuncData} (F : Fun K "either" "either" s_either f fd) (T : Top K mg) : FnOk P w K mg base CX0 1 f fd ["one", "other"] spEither := by
  refine F.ok sc_either (fun vs H Q E h => ?_) (fun cdv A outer s H vs Q E hr h => ?_)
  · obtain ⟨a, b, rfl, _⟩ := h
    rfl
  · obtain ⟨a, b, rfl, k⟩ := h
    refine ⟨_, (pss_one (ps_ret (pe_join pe_str (pe_lc (own := [("mark", 2)]) rfl sc_either.nd (pi_str (C8.pe_gc (by rfl) T.g_MARKS)) (blkOk_by (own := [("mark", 2)]) (N := n_either) (sc := defScope s_either) (by decide +kernel)) (fun _ _ _ _ _ => (pg_name (i := 2) sc_either.nd rfl (Or.inl rfl))) (fun _ _ _ _ _ => (pts_one (PW.pt (pw_or (pt_cmpR op_in_sign (pv 2) (pv 0) rfl) (pw_or1 (pt_cmpR op_in_sign (pv 2) (pv 1) rfl)))))) (fun _ _ _ _ _ => (pv 2)))))), ?_⟩
    refine ⟨⟨_, rfl⟩, _, rfl, fun D hD => lc_it walk_str (fun i H' => H' = upd H D (.lst (filt mk (fun c => mem a c || mem b c) i))) rfl (fun _ _ _ _ => trivial) ?_ ?_⟩
    · rintro i x H2 H' hi rfl ⟨rfl, c, hc, rfl⟩
      have hc := mk_at hc
      have hl : (filt mk (fun c => mem a c || mem b c) i).length < sizeLine := Nat.lt_of_le_of_lt filt_len (by rw [mk_len]; decide)
      have yes : (mem a c || mem b c) = true → upd (upd H D (.lst (filt mk (fun c => mem a c || mem b c) i))) D (.lst (filt mk (fun c => mem a c || mem b c) i ++ [sg c])) = upd H D (.lst (filt mk (fun c => mem a c || mem b c) (i + 1))) := fun h => by
        rw [upd_upd, filt_yes (t := fun c => mem a c || mem b c) hc h]
      refine ⟨rfl, ?_⟩
      refine ⟨_, rfl, _, rfl, c, a, rfl, rfl, _, rfl, ?_⟩
      refine ite_b (fun h1 => ?_) (fun h1 => ?_)
      · have h1 : mem a c = true := h1
        refine iteT ⟨_, rfl, _, upd_same, hl, yes (by rw [h1]; rfl)⟩
      · have h1 : mem a c = false := h1
        refine ⟨_, rfl, _, rfl, c, b, rfl, rfl, _, rfl, ?_⟩
        refine ite_b (fun h2 => ?_) (fun h2 => ?_)
        · have h2 : mem b c = true := h2
          exact ⟨_, rfl, _, upd_same, hl, yes (by rw [h1, h2]; rfl)⟩
        · have h2 : mem b c = false := h2
          show upd H D _ = upd H D _
          rw [filt_no hc (t := fun c => mem a c || mem b c) (by rw [h1, h2]; rfl)]
    · rintro H' rfl
      refine join_ok (mk.filter fun c => mem a c || mem b c) ?_ ?_ ?_
      · exact Nat.le_trans (List.length_filter_le _ _) (by rw [mk_len]; decide)
      · rw [upd_same, filt_end (by rw [mk_len, mk_size]; exact Nat.le_refl _)]
      · exact k _ (same_new hD)
theorem ok_are {f : Addr} {fd : FuncData} (F : Fun K "are_contents" "are_contents" s_are_contents f fd) (T : Top K mg) (T_either : Cal P w K mg base 1 "either" spEither []) :
    FnOk P w K mg base CX0 2 f fd ["thing"] (spAre K) := by
  refine F.ok sc_are_contents (fun vs H Q E h => ?_) (fun cdv A outer s H vs Q E hr h => ?_)
  · obtain ⟨x, rfl, _⟩ := h
    rfl
  · obtain ⟨x, rfl, k⟩ := h
    refine ⟨_, (pss_one (ps_ret (pe_and (pe_callB call_isi (by rfl) T.z_isinstance (by decide +kernel) (pa_cons (pv 0) (pa_cons (pe_bltn (v := .ty "str") (u := .type "str") (by rfl) T.z_str (by decide +kernel) rfl) pa_nil))) (pe_one (pe_cmpR op_eq (pv 0) (pe_c T_either hr (by decide) (by rfl) (pa_cons (pv 0) (pa_cons pe_str pa_nil))) (nomark _)))))), ?_⟩
    rcases k with ⟨z, rfl, k⟩ | ⟨t, ht, hk, k⟩
    · refine ⟨_, rfl, _, _, _, _, true, rfl, .ty "str", .base (.str z), kit_ty (by decide +kernel), true, rfl, iteT ?_⟩
      refine ⟨_, rfl, _, rfl, z, _, rfl, fun H1 s1 => ⟨rfl, ?_⟩⟩
      have e : (sb fun c => mem z c || mem "" c) = sb (mem z) := sb_ext fun c _ => by
        have e0 : mem "" c = false := by
          unfold mem
          have e1 : ("" : Str).cps.toList = [] := by decide +kernel
          rw [e1]
          rfl
        rw [e0, Bool.or_false]
      show Q (V.bl (decide (V.str z = V.str (sb fun c => mem z c || mem "" c)))) H1
      rw [e]
      have e2 : decide (V.str z = V.str (sb (mem z))) = decide (z = sb (mem z)) := by
        by_cases c : z = sb (mem z)
        · rw [decide_eq_true c, decide_eq_true (congrArg V.str c)]
        · rw [decide_eq_false c, decide_eq_false fun q => c (V.str.inj q)]
      rw [e2]
      exact k H1 s1
    · refine ⟨_, rfl, _, _, _, _, false, rfl, .ty "str", ht, kit_ty hk, false, rfl, iteF k⟩
theorem ok_checked {f : Addr} {fd : FuncData} (F : Fun K "checked" "checked" s_checked f fd) (T_are_contents : Cal P w K mg base 2 "are_contents" (spAre K) []) :
    FnOk P w K mg base CX0 3 f fd ["contents"] spChecked := by
  refine F.ok sc_checked (fun vs H Q E h => ?_) (fun cdv A outer s H vs Q E hr h => ?_)
  · obtain ⟨x, rfl, _⟩ := h
    rfl
  · obtain ⟨z, rfl, hz, k⟩ := h
    refine ⟨_, (pss_cons (ps_if (pt_not (pt_val (pe_c T_are_contents hr (by decide) (by rfl) (pa_cons (pv 0) pa_nil))))
(pss_one ps_never)
pss_nil)
(pss_one (ps_ret (pv 0)))), ?_⟩
    refine ⟨_, rfl, _, rfl, .inl ⟨z, rfl, fun H1 s1 => ⟨_, rfl, ?_⟩⟩⟩
    rw [decide_eq_true hz.eq]
    exact ⟨_, rfl, k H1 s1⟩
theorem ok_init {f C : Addr} {fd : FuncData} (F : FunD K "__init__" "Box.__init__" (defArgs s_Box__init) (defBody s_Box__init) (defScope s_Box__init) [.str ""] [] f fd) (B : BoxC K mg C) (T_checked : Cal P w K mg base 3 "checked" spChecked []) :
    FnOk P w K mg base CX0 4 f fd ["self", "contents"] (spInit C) := by
  refine F.ok sc_Box__init (fun vs H Q E h => ?_) (fun cdv A outer s H vs Q E hr h => ?_)
  · obtain ⟨a, dx, z, rfl, _⟩ := h
    rfl
  · obtain ⟨a, dx, z, rfl, ha, hz, k⟩ := h
    refine ⟨_, PSs.nox (pss_one (ps_fld (pv 0) (pe_c T_checked hr (by decide) (by rfl) (pa_cons (pv 1) pa_nil)) rfl)), ?_⟩
    refine ⟨_, rfl, z, rfl, hz, fun H1 s1 => ⟨_, rfl, a, C, dx, [], rfl, s1 _ _ ha, B.cl, B.nC, by decide, ?_⟩⟩
    refine k _ (fun b o n e => ?_) ⟨dx, upd_same⟩
    rw [upd_ne n]
    exact s1 _ _ e
theorem ok_become {f C : Addr} {fd : FuncData} (F : Fun K "become" "Box.become" s_Box_become f fd) (B : BoxC K mg C) (T_checked : Cal P w K mg base 3 "checked" spChecked []) :
    FnOk P w K mg base CX0 4 f fd ["self", "contents"] (spBecome C) := by
  refine F.ok sc_Box_become (fun vs H Q E h => ?_) (fun cdv A outer s H vs Q E hr h => ?_)
  · obtain ⟨a, y, z, rfl, _⟩ := h
    rfl
  · obtain ⟨a, y, z, rfl, ⟨dx, ha⟩, hz, k⟩ := h
    refine ⟨_, (pss_one (ps_fld (pv 0) (pe_c T_checked hr (by decide) (by rfl) (pa_cons (pv 1) pa_nil)) rfl)), ?_⟩
    refine ⟨_, rfl, z, rfl, hz, fun H1 s1 => ⟨_, rfl, a, C, dx, _, rfl, s1 _ _ ha, B.cl, B.nC, by show 1 < 1000; decide, ?_⟩⟩
    rw [boxF_put]
    refine k _ (fun b o n e => ?_) ⟨dx, upd_same⟩
    rw [upd_ne n]
    exact s1 _ _ e
theorem ok_copied {f C : Addr} {fd : FuncData} (F : Fun K "copied" "Box.copied" s_Box_copied f fd) (B : BoxC K mg C) (T_Box : Mak P w K mg base 4 "Box" C (spInit C) []) :
    FnOk P w K mg base CX0 6 f fd ["self"] (spCopied C) := by
  refine F.ok sc_Box_copied (fun vs H Q E h => ?_) (fun cdv A outer s H vs Q E hr h => ?_)
  · obtain ⟨a, z, rfl, _⟩ := h
    rfl
  · obtain ⟨a, z, rfl, ⟨dx, ha⟩, hz, k⟩ := h
    refine ⟨_, (pss_one (ps_ret (pe_mk T_Box hr (by decide) (by rfl) (pa_cons (pe_fld (pv 0) rfl) pa_nil)))), ?_⟩
    exact ⟨_, rfl, a, C, dx, _, _, rfl, ha, B.cl, B.nC, boxF_lk z, fun x d nx nd nxd => ⟨x, d, z, rfl, upd_same, hz, fun H1 b1 h1 => ⟨rfl, k H1 x (same_made nx nd b1) nx h1⟩⟩⟩
theorem ok_joinedS {f C : Addr} {fd : FuncData} (F : Fun K "joined" "Box.joined" s_Box_joined f fd) (B : BoxC K mg C) (T_either : Cal P w K mg base 1 "either" spEither []) (T_Box : Mak P w K mg base 4 "Box" C (spInit C) []) :
    FnR P w K mg base CX0 6 f (spJoinR C) := by
  obtain ⟨oc, od, kV, doc, pm, an, cdv, ct, osl, rfl, lk, hcd⟩ := F.ex
  refine StX.fn_star (ps := []) (pv := "boxes") lk hcd sc_Box_joined StX.cxUp_none (fun us rest hu => ?_) fun A outer s H vs Q E hr h => ?_
  · match us, hu, rest with
    | [], _, [] => rfl
    | [], _, r :: rs => rfl
  · obtain ⟨p, bs, zs, rfl, hp, hl, hb, k⟩ := h
    refine ⟨_, PSs.nox (pss_cons (ps_set (i := 1) sc_Box_joined.nd rfl (Or.inl rfl) pe_str)
(pss_cons (ps_for PassesOwn.never rfl (pi_tup (pv 0)) (pg_name (i := 2) sc_Box_joined.nd rfl (Or.inl rfl))
(pss_one (ps_set (i := 1) sc_Box_joined.nd rfl (Or.inl rfl) (pe_c T_either hr (by decide) (by rfl) (pa_cons (pv 1) (pa_cons (pe_fld (pv 2) rfl) pa_nil))))))
(pss_one (ps_ret (pe_mk T_Box hr (by decide) (by rfl) (pa_cons (pv 1) pa_nil)))))), ?_⟩
    have lz : zs.length = bs.length := hb.1.symm
    refine ⟨_, rfl, p, rfl, ⟨_, SqT.of hp⟩, for_it (walk_tup (xs := bs.map V.ref)) (fun i σ H' => ∃ v, σ = [some (.ref p), some (.str (sb fun c => (zs.take i).any fun z => mem z c)), v] ∧ Same H H')
      ⟨none, by rw [List.take_zero, join_none]; rfl, Same.refl H⟩ (fun i σ H' _ ⟨v, _, s1⟩ => SqT.of (s1 _ _ hp)) ?_ ?_⟩
    · rintro i x σ H1 H1' hi ⟨v, rfl, s1⟩ ⟨rfl, hx⟩
      obtain ⟨b, hbi, rfl⟩ := map_from hx
      have hi' : i < bs.length := (List.getElem?_eq_some_iff.mp hbi).1
      have hz : zs[i]? = some zs[i] := List.getElem?_eq_getElem (by omega)
      have h1 := (hb.2 i b _ hbi hz).same s1
      obtain ⟨dx, e⟩ := h1
      refine ⟨_, rfl, _, rfl, b, C, dx, _, _, rfl, e, B.cl, B.nC, boxF_lk _, _, _, rfl, fun H2 s2 => ⟨some (.ref b), ?_, s1.trans s2⟩⟩
      rw [join_step hz]
      rfl
    · rintro σ H1 ⟨v, rfl, s1⟩
      rw [List.length_map, List.take_of_length_le (by omega)]
      exact ⟨_, rfl, fun x d nx nd nxd => ⟨x, d, _, rfl, upd_same, isC_sb _, fun H2 b2 h2 => ⟨rfl, k H2 x (s1.trans (same_made nx nd b2)) (s1.free nx) h2⟩⟩⟩
theorem ok_joinedL {f g C : Addr} {fd : FuncData} (F : Fun K "_law_joined" "_law_joined" s_joined f fd) (T : Top K mg) (ST : StatC K mg "Box" C "joined" g) (FJ : FnR P w K mg base CX0 6 g (spJoinR C)) :
    FnOk P w K mg base CX0 7 f fd ["_law_rows"] (spJoinL C) := by
  refine F.ok sc_joined (fun vs H Q E h => ?_) (fun cdv A outer s H vs Q E hr h => ?_)
  · obtain ⟨l, bs, zs, rfl, _⟩ := h
    rfl
  · obtain ⟨l, bs, zs, rfl, hl, hn, hb, k⟩ := h
    refine ⟨_, (pss_cons (ps_if (pt_cmpR op_eq (pe_callB call_len_seq (by rfl) T.z_len (by decide +kernel) (pa_cons (pv 0) pa_nil)) pe_int (nomark _))
(pss_one (ps_ret (pe_stat0 ST FJ hr (by decide) (by rfl))))
pss_nil)
(pss_cons (ps_if (pt_cmpR op_eq (pe_callB call_len_seq (by rfl) T.z_len (by decide +kernel) (pa_cons (pv 0) pa_nil)) pe_int (nomark _))
(pss_one (ps_ret (pe_stat ST FJ hr (by decide) (by rfl) (pa_cons (pe_ix ix_list (pv 0) pe_int (fun _ _ => rfl)) pa_nil))))
pss_nil)
(pss_cons (ps_if (pt_cmpR op_eq (pe_callB call_len_seq (by rfl) T.z_len (by decide +kernel) (pa_cons (pv 0) pa_nil)) pe_int (nomark _))
(pss_one (ps_ret (pe_stat ST FJ hr (by decide) (by rfl) (pa_cons (pe_ix ix_list (pv 0) pe_int (fun _ _ => rfl)) (pa_cons (pe_ix ix_list (pv 0) pe_int (fun _ _ => rfl)) pa_nil)))))
pss_nil)
(pss_cons (ps_if (pt_cmpR op_eq (pe_callB call_len_seq (by rfl) T.z_len (by decide +kernel) (pa_cons (pv 0) pa_nil)) pe_int (nomark _))
(pss_one (ps_ret (pe_stat ST FJ hr (by decide) (by rfl) (pa_cons (pe_ix ix_list (pv 0) pe_int (fun _ _ => rfl)) (pa_cons (pe_ix ix_list (pv 0) pe_int (fun _ _ => rfl)) (pa_cons (pe_ix ix_list (pv 0) pe_int (fun _ _ => rfl)) pa_nil))))))
pss_nil)
(pss_cons (ps_if (pt_cmpR op_eq (pe_callB call_len_seq (by rfl) T.z_len (by decide +kernel) (pa_cons (pv 0) pa_nil)) pe_int (nomark _))
(pss_one (ps_ret (pe_stat ST FJ hr (by decide) (by rfl) (pa_cons (pe_ix ix_list (pv 0) pe_int (fun _ _ => rfl)) (pa_cons (pe_ix ix_list (pv 0) pe_int (fun _ _ => rfl)) (pa_cons (pe_ix ix_list (pv 0) pe_int (fun _ _ => rfl)) (pa_cons (pe_ix ix_list (pv 0) pe_int (fun _ _ => rfl)) pa_nil)))))))
pss_nil)
(pss_cons (ps_if (pt_cmpR op_eq (pe_callB call_len_seq (by rfl) T.z_len (by decide +kernel) (pa_cons (pv 0) pa_nil)) pe_int (nomark _))
(pss_one (ps_ret (pe_stat ST FJ hr (by decide) (by rfl) (pa_cons (pe_ix ix_list (pv 0) pe_int (fun _ _ => rfl)) (pa_cons (pe_ix ix_list (pv 0) pe_int (fun _ _ => rfl)) (pa_cons (pe_ix ix_list (pv 0) pe_int (fun _ _ => rfl)) (pa_cons (pe_ix ix_list (pv 0) pe_int (fun _ _ => rfl)) (pa_cons (pe_ix ix_list (pv 0) pe_int (fun _ _ => rfl)) pa_nil))))))))
pss_nil)
(pss_one (ps_ret (pe_stat ST FJ hr (by decide) (by rfl) (pa_cons (pe_ix ix_list (pv 0) pe_int (fun _ _ => rfl)) (pa_cons (pe_ix ix_list (pv 0) pe_int (fun _ _ => rfl)) (pa_cons (pe_ix ix_list (pv 0) pe_int (fun _ _ => rfl)) (pa_cons (pe_ix ix_list (pv 0) pe_int (fun _ _ => rfl)) (pa_cons (pe_ix ix_list (pv 0) pe_int (fun _ _ => rfl)) (pa_cons (pe_ix ix_list (pv 0) pe_int (fun _ _ => rfl)) pa_nil))))))))))))))), ?_⟩
    match bs, hn, hl, hb with
    | [], _, hl, hb =>
      refine ⟨_, rfl, l, _, rfl, .inl (SqL.of hl), rfl, _, rfl, iteT ?_⟩
      exact joinR_ok (bs := []) hb (by show 0 ≤ 1000; decide) k
    | [b0], _, hl, hb =>
      refine ⟨_, rfl, l, _, rfl, .inl (SqL.of hl), rfl, _, rfl, iteF ?_⟩
      dsimp only [tNext]
      refine ⟨_, rfl, l, _, rfl, .inl (SqL.of hl), rfl, _, rfl, iteT ?_⟩
      refine ⟨_, rfl, l, _, 0, _, rfl, rfl, SqL.of hl, rfl, ?_⟩
      exact joinR_ok (bs := [b0]) hb (by show 1 ≤ 1000; decide) k
    | [b0, b1], _, hl, hb =>
      refine ⟨_, rfl, l, _, rfl, .inl (SqL.of hl), rfl, _, rfl, iteF ?_⟩
      dsimp only [tNext]
      refine ⟨_, rfl, l, _, rfl, .inl (SqL.of hl), rfl, _, rfl, iteF ?_⟩
      dsimp only [tNext]
      refine ⟨_, rfl, l, _, rfl, .inl (SqL.of hl), rfl, _, rfl, iteT ?_⟩
      refine ⟨_, rfl, l, _, 0, _, rfl, rfl, SqL.of hl, rfl, ?_⟩
      refine ⟨_, rfl, l, _, 1, _, rfl, rfl, SqL.of hl, rfl, ?_⟩
      exact joinR_ok (bs := [b0, b1]) hb (by show 2 ≤ 1000; decide) k
    | [b0, b1, b2], _, hl, hb =>
      refine ⟨_, rfl, l, _, rfl, .inl (SqL.of hl), rfl, _, rfl, iteF ?_⟩
      dsimp only [tNext]
      refine ⟨_, rfl, l, _, rfl, .inl (SqL.of hl), rfl, _, rfl, iteF ?_⟩
      dsimp only [tNext]
      refine ⟨_, rfl, l, _, rfl, .inl (SqL.of hl), rfl, _, rfl, iteF ?_⟩
      dsimp only [tNext]
      refine ⟨_, rfl, l, _, rfl, .inl (SqL.of hl), rfl, _, rfl, iteT ?_⟩
      refine ⟨_, rfl, l, _, 0, _, rfl, rfl, SqL.of hl, rfl, ?_⟩
      refine ⟨_, rfl, l, _, 1, _, rfl, rfl, SqL.of hl, rfl, ?_⟩
      refine ⟨_, rfl, l, _, 2, _, rfl, rfl, SqL.of hl, rfl, ?_⟩
      exact joinR_ok (bs := [b0, b1, b2]) hb (by show 3 ≤ 1000; decide) k
    | [b0, b1, b2, b3], _, hl, hb =>
      refine ⟨_, rfl, l, _, rfl, .inl (SqL.of hl), rfl, _, rfl, iteF ?_⟩
      dsimp only [tNext]
      refine ⟨_, rfl, l, _, rfl, .inl (SqL.of hl), rfl, _, rfl, iteF ?_⟩
      dsimp only [tNext]
      refine ⟨_, rfl, l, _, rfl, .inl (SqL.of hl), rfl, _, rfl, iteF ?_⟩
      dsimp only [tNext]
      refine ⟨_, rfl, l, _, rfl, .inl (SqL.of hl), rfl, _, rfl, iteF ?_⟩
      dsimp only [tNext]
      refine ⟨_, rfl, l, _, rfl, .inl (SqL.of hl), rfl, _, rfl, iteT ?_⟩
      refine ⟨_, rfl, l, _, 0, _, rfl, rfl, SqL.of hl, rfl, ?_⟩
      refine ⟨_, rfl, l, _, 1, _, rfl, rfl, SqL.of hl, rfl, ?_⟩
      refine ⟨_, rfl, l, _, 2, _, rfl, rfl, SqL.of hl, rfl, ?_⟩
      refine ⟨_, rfl, l, _, 3, _, rfl, rfl, SqL.of hl, rfl, ?_⟩
      exact joinR_ok (bs := [b0, b1, b2, b3]) hb (by show 4 ≤ 1000; decide) k
    | [b0, b1, b2, b3, b4], _, hl, hb =>
      refine ⟨_, rfl, l, _, rfl, .inl (SqL.of hl), rfl, _, rfl, iteF ?_⟩
      dsimp only [tNext]
      refine ⟨_, rfl, l, _, rfl, .inl (SqL.of hl), rfl, _, rfl, iteF ?_⟩
      dsimp only [tNext]
      refine ⟨_, rfl, l, _, rfl, .inl (SqL.of hl), rfl, _, rfl, iteF ?_⟩
      dsimp only [tNext]
      refine ⟨_, rfl, l, _, rfl, .inl (SqL.of hl), rfl, _, rfl, iteF ?_⟩
      dsimp only [tNext]
      refine ⟨_, rfl, l, _, rfl, .inl (SqL.of hl), rfl, _, rfl, iteF ?_⟩
      dsimp only [tNext]
      refine ⟨_, rfl, l, _, rfl, .inl (SqL.of hl), rfl, _, rfl, iteT ?_⟩
      refine ⟨_, rfl, l, _, 0, _, rfl, rfl, SqL.of hl, rfl, ?_⟩
      refine ⟨_, rfl, l, _, 1, _, rfl, rfl, SqL.of hl, rfl, ?_⟩
      refine ⟨_, rfl, l, _, 2, _, rfl, rfl, SqL.of hl, rfl, ?_⟩
      refine ⟨_, rfl, l, _, 3, _, rfl, rfl, SqL.of hl, rfl, ?_⟩
      refine ⟨_, rfl, l, _, 4, _, rfl, rfl, SqL.of hl, rfl, ?_⟩
      exact joinR_ok (bs := [b0, b1, b2, b3, b4]) hb (by show 5 ≤ 1000; decide) k
    | [b0, b1, b2, b3, b4, b5], _, hl, hb =>
      refine ⟨_, rfl, l, _, rfl, .inl (SqL.of hl), rfl, _, rfl, iteF ?_⟩
      dsimp only [tNext]
      refine ⟨_, rfl, l, _, rfl, .inl (SqL.of hl), rfl, _, rfl, iteF ?_⟩
      dsimp only [tNext]
      refine ⟨_, rfl, l, _, rfl, .inl (SqL.of hl), rfl, _, rfl, iteF ?_⟩
      dsimp only [tNext]
      refine ⟨_, rfl, l, _, rfl, .inl (SqL.of hl), rfl, _, rfl, iteF ?_⟩
      dsimp only [tNext]
      refine ⟨_, rfl, l, _, rfl, .inl (SqL.of hl), rfl, _, rfl, iteF ?_⟩
      dsimp only [tNext]
      refine ⟨_, rfl, l, _, rfl, .inl (SqL.of hl), rfl, _, rfl, iteF ?_⟩
      dsimp only [tNext]
      refine ⟨_, rfl, l, _, 0, _, rfl, rfl, SqL.of hl, rfl, ?_⟩
      refine ⟨_, rfl, l, _, 1, _, rfl, rfl, SqL.of hl, rfl, ?_⟩
      refine ⟨_, rfl, l, _, 2, _, rfl, rfl, SqL.of hl, rfl, ?_⟩
      refine ⟨_, rfl, l, _, 3, _, rfl, rfl, SqL.of hl, rfl, ?_⟩
      refine ⟨_, rfl, l, _, 4, _, rfl, rfl, SqL.of hl, rfl, ?_⟩
      refine ⟨_, rfl, l, _, 5, _, rfl, rfl, SqL.of hl, rfl, ?_⟩
      exact joinR_ok (bs := [b0, b1, b2, b3, b4, b5]) hb (by show 6 ≤ 1000; decide) k
    | _ :: _ :: _ :: _ :: _ :: _ :: _ :: _, hn, _, _ =>
      simp only [List.length_cons] at hn
      omega
theorem ok_due {f : Addr} {fd : FuncData} (F : Fun K "_law_due" "_law_due" s_due f fd) (T : Top K mg) : FnOk P w K mg base CX0 1 f fd ["_law_texts"] spDueJ := by
  refine F.ok sc_due (fun vs H Q E h => ?_) (fun cdv A outer s H vs Q E hr h => ?_)
  · obtain ⟨l, zs, rfl, _⟩ := h
    rfl
  · obtain ⟨l, zs, rfl, hl, hn, k⟩ := h
    refine ⟨_, (pss_cons (ps_set (i := 1) sc_due.nd rfl (Or.inl rfl) pe_str)
(pss_cons (ps_for PassesOwn.never rfl (pi_str pe_str) (pg_name (i := 2) sc_due.nd rfl (Or.inr rfl))
(pss_one (ps_if (pt_cmpR op_in_seq pe_bl (pe_lc (own := [("_law_text", 3)]) rfl sc_due.nd (pi_list (pv 0)) (blkOk_by (own := [("_law_text", 3)]) (N := n_due) (sc := defScope s_due) (by decide +kernel)) (fun _ _ _ _ _ => (pg_name (i := 3) sc_due.nd rfl (Or.inl rfl))) (fun _ _ _ _ _ => pts_nil) (fun _ _ _ _ _ => (pe_cmpR op_in_sign (pv 2) (pv 3) rfl))) rfl)
(pss_one (ps_set (i := 1) sc_due.nd rfl (Or.inl rfl) (pe_op op_add_str (pv 1) (pv 2))))
pss_nil)))
(pss_one (ps_ret (pv 1))))), ?_⟩
    refine ⟨_, rfl, for_it walk_str (fun i σ H' => ∃ v v2, σ = [some (.ref l), some (.str (S ((mk.take i).filter fun c => zs.any fun z => mem z c))), v, v2] ∧ Same H H')
      ⟨none, none, rfl, Same.refl H⟩ (fun _ _ _ _ _ => trivial) ?_ ?_⟩
    · rintro i x σ H1 H1' hi ⟨v, v2, rfl, s1⟩ ⟨rfl, c, hc, rfl⟩
      have hc := mk_at hc
      have hl1 := s1 _ _ hl
      refine ⟨_, rfl, l, rfl, ⟨_, SqL.of hl1⟩, fun D hD => lc_it (walk_list (xs := zs.map V.str)) (fun j H' => H' = upd H1' D (.lst ((zs.map fun z => V.bl (mem z c)).take j))) rfl (fun _ _ _ h => by rw [h]; exact SqL.of (same_new hD _ _ hl1)) ?_ ?_⟩
      · rintro j x H3 H3' hj rfl ⟨rfl, hx⟩
        obtain ⟨z, hz, rfl⟩ := map_from hx
        refine ⟨rfl, lc_yes ⟨_, rfl, _, rfl, c, z, rfl, rfl, _, upd_same, take_small (n := 1000) (by rw [List.length_map]; exact hn), ?_⟩⟩
        exact upd_snoc (map_at (f := fun z => V.bl (mem z c)) hz)
      · rintro H' rfl
        rw [List.take_of_length_le (by rw [List.length_map, List.length_map]; exact Nat.le_refl _)]
        have s2 := s1.trans (same_new (o := .lst (zs.map fun z => V.bl (mem z c))) hD)
        refine ⟨D, _, rfl, .inl (SqL.of upd_same), rfl, flat_bools _ zs, _, rfl, ?_⟩
        rw [inV_bools]
        have st : mk.take (i + 1) = mk.take i ++ [c] := take_snoc hc
        refine ite_b (fun h1 => ?_) (fun h1 => ?_)
        · have h1 : (zs.any fun z => mem z c) = true := h1
          have lm : ((mk.take i).filter fun c => zs.any fun z => mem z c).length ≤ 52 := Nat.le_trans (List.length_filter_le _ _) (by rw [List.length_take, mk_len]; exact Nat.min_le_right _ _)
          refine ⟨_, rfl, _, rfl, _, _, rfl, rfl, ?_, some (.str ⟨#[c]⟩), v2, ?_, s2⟩
          · rw [SX.S_len]
            exact Nat.le_trans (Nat.add_le_add lm (Nat.le_refl 1)) (by decide)
          · rw [show S ((mk.take i).filter fun c => zs.any fun z => mem z c) ++ (⟨#[c]⟩ : Str) = S (((mk.take i).filter fun c => zs.any fun z => mem z c) ++ [c]) from SX.S_cat _ [c]]
            rw [st, List.filter_append, List.filter_cons_of_pos (p := fun c => zs.any fun z => mem z c) h1, List.filter_nil]
            rfl
        · have h1 : (zs.any fun z => mem z c) = false := h1
          refine ⟨some (.str ⟨#[c]⟩), v2, ?_, s2⟩
          rw [st, List.filter_append, List.filter_cons_of_neg (p := fun c => zs.any fun z => mem z c) (by rw [h1]; exact Bool.false_ne_true), List.filter_nil, List.append_nil]
          rfl
    · rintro σ H1 ⟨v, v2, rfl, s1⟩
      rw [mk_size, List.take_of_length_le (by rw [mk_len]; exact Nat.le_refl _)]
      exact ⟨_, rfl, k _ s1⟩
/-- the boxes stand with the texts of zs -/
def spNew (C : Addr) : Sp := fun vs H Q _ => ∃ (m bl tl : Addr) (bs : List Addr) (zs : List Str) (y l : Str), vs = [.ref m, .str y, .ref bl, .ref tl, .str l] ∧ BoxAt C H m y ∧ IsC y ∧ IsC l ∧ H bl = some (.lst (bs.map V.ref)) ∧ H tl = some (.lst (zs.map V.str)) ∧ bs.length ≤ 6 ∧ Boxes C H bs zs ∧ (∀ z ∈ zs, IsC z) ∧ bs.Nodup ∧ m ∉ bs ∧
  ∀ H', (∀ b o, b ≠ m → b ∉ bs → H b = some o → H' b = some o) → BoxAt C H' m y → Boxes C H' bs zs → Q (.bl true) H'
theorem ok_is_new {f C : Addr} {fd : FuncData} (F : Fun K "_law_is_new" "_law_is_new" s_is_new f fd) (T : Top K mg) (B : BoxC K mg C) (T_Box_become : Met P w K mg base 4 C "become" (spBecome C) []) :
    FnOk P w K mg base CX0 5 f fd ["_law_made", "_law_due_here", "_law_boxes", "_law_texts", "_law_last"] (spNew C) := by
  refine F.ok sc_is_new (fun vs H Q E h => ?_) (fun cdv A outer s H vs Q E hr h => ?_)
  · obtain ⟨m, bl, tl, bs, zs, y, l, rfl, _⟩ := h
    rfl
  · obtain ⟨m, bl, tl, bs, zs, y, l, rfl, hm, hy, hl, hbl, htl, hn, hb, hz, nd, nm, k⟩ := h
    refine ⟨_, (pss_cons (ps_if (PW.pt (pw_or (pt_not (pt_val (pe_callB call_isi (by rfl) T.z_isinstance (by decide +kernel) (pa_cons (pv 0) (pa_cons (C8.pe_gc (by rfl) B.gB) pa_nil))))) (pw_or (pt_not (pt_val (pe_callB call_isi (by rfl) T.z_isinstance (by decide +kernel) (pa_cons (pe_fld (pv 0) rfl) (pa_cons (pe_bltn (v := .ty "str") (u := .type "str") (by rfl) T.z_str (by decide +kernel) rfl) pa_nil))))) (pw_or1 (pt_cmpR op_ne (pe_fld (pv 0) rfl) (pv 1) (nomark _))))))
(pss_one (ps_ret pe_bl))
pss_nil)
(pss_cons (ps_if (pt_cmpR op_in_seq pe_bl (pe_lc (own := [("_law_box", 5)]) rfl sc_is_new.nd (pi_list (pv 2)) (blkOk_by (own := [("_law_box", 5)]) (N := n_is_new) (sc := defScope s_is_new) (by decide +kernel)) (fun _ _ _ _ _ => (pg_name (i := 5) sc_is_new.nd rfl (Or.inl rfl))) (fun _ _ _ _ _ => pts_nil) (fun _ _ _ _ _ => (pe_cmpR (by exact op_eqO B.eq (hu_of hr)) (pv 0) (pv 5) (nomark _)))) rfl)
(pss_one (ps_ret pe_bl))
pss_nil)
(pss_cons (ps_expr (pe_mt T_Box_become hr (by decide) (pv 0) (pa_cons (pv 4) pa_nil)))
(pss_cons (ps_if (pt_cmpR (op_neD hr.units) (pe_lc (own := [("_law_box", 5)]) rfl sc_is_new.nd (pi_list (pv 2)) (blkOk_by (own := [("_law_box", 5)]) (N := n_is_new) (sc := defScope s_is_new) (by decide +kernel)) (fun _ _ _ _ _ => (pg_name (i := 5) sc_is_new.nd rfl (Or.inl rfl))) (fun _ _ _ _ _ => pts_nil) (fun _ _ _ _ _ => (show PE _ _ (tFld K (tVar 5) "contents") from (pe_fld (pv 5) rfl)))) (pv 3) (nomark _))
(pss_one (ps_ret pe_bl))
pss_nil)
(pss_cons (ps_expr (pe_mt T_Box_become hr (by decide) (pv 0) (pa_cons (pv 1) pa_nil)))
(pss_cons (ps_for PassesOwn.never rfl (pi_list (pv 2)) (pg_name (i := 5) sc_is_new.nd rfl (Or.inl rfl))
(pss_one (ps_expr (pe_mt T_Box_become hr (by decide) (pv 5) (pa_cons (pv 4) pa_nil)))))
(pss_cons (ps_set (i := 6) sc_is_new.nd rfl (Or.inl rfl) (pe_cmpR op_eq (pe_fld (pv 0) rfl) (pv 1) (nomark _)))
(pss_cons (ps_for PassesOwn.never rfl (pi_zip (by rfl) T.z_zip (pa_cons (pv 2) (pa_cons (pv 3) pa_nil))) (pg_tup rfl (pgs_cons (pg_name (i := 5) sc_is_new.nd rfl (Or.inl rfl)) (pgs_cons (pg_name (i := 7) sc_is_new.nd rfl (Or.inl rfl)) pgs_nil)))
(pss_one (ps_expr (pe_mt T_Box_become hr (by decide) (pv 5) (pa_cons (pv 7) pa_nil)))))
(pss_one (ps_ret (pv 6))))))))))), ?_⟩
    obtain ⟨dm, em⟩ := id hm
    refine ⟨_, rfl, _, _, _, _, true, rfl, .own C, B.ty em, B.kit, true, rfl, iteF ?_⟩
    refine ⟨_, rfl, m, C, dm, _, _, rfl, em, B.cl, B.nC, boxF_lk _, _, _, _, _, true, rfl, .ty "str", .base (.str _), kit_ty (by decide +kernel), true, rfl, iteF ?_⟩
    refine ⟨_, rfl, m, C, dm, _, _, rfl, em, B.cl, B.nC, boxF_lk _, _, rfl, rfl, _, rfl, ?_⟩
    rw [dec_str_same]
    refine iteF ?_
    dsimp only [tNext]
    have lbz := hb.1
    have at_ : ∀ {H' : Hp} {j : Nat} {b : Addr} {ws : List Str}, Boxes C H' bs ws → bs[j]? = some b → ∃ w, ws[j]? = some w ∧ BoxAt C H' b w := fun {H' j b ws} h hj => by
      have hj' : j < ws.length := h.1 ▸ (List.getElem?_eq_some_iff.mp hj).1
      exact ⟨ws[j], List.getElem?_eq_getElem hj', h.2 j b _ hj (List.getElem?_eq_getElem hj')⟩
    -- is it one of the boxes
    refine ⟨_, rfl, bl, rfl, ⟨_, SqL.of hbl⟩, fun D hD => lc_it (walk_list (xs := bs.map V.ref)) (fun j H' => H' = upd H D (.lst ((bs.map fun b => V.bl (decide (m = b))).take j))) rfl (fun _ _ _ h => by rw [h]; exact SqL.of (same_new hD _ _ hbl)) ?_ ?_⟩
    · rintro j x H3 H3' hj rfl ⟨rfl, hx⟩
      obtain ⟨b, hbj, rfl⟩ := map_from hx
      obtain ⟨w, _, hw⟩ := at_ (hb.same (same_new (o := .lst ((bs.map fun b => V.bl (decide (m = b))).take j)) hD)) hbj
      obtain ⟨dx, e⟩ := hw
      refine ⟨rfl, lc_yes ⟨_, rfl, _, rfl, m, b, dm, _, dx, _, rfl, rfl, same_new hD _ _ em, e, _, upd_same, take_small (n := 6) (by rw [List.length_map]; exact hn), ?_⟩⟩
      exact upd_snoc (map_at (f := fun b => V.bl (decide (m = b))) hbj)
    rintro H' rfl
    rw [List.take_of_length_le (by rw [List.length_map, List.length_map]; exact Nat.le_refl _)]
    have s2 := same_new (o := .lst (bs.map fun b => V.bl (decide (m = b)))) hD
    refine ⟨D, _, rfl, .inl (SqL.of upd_same), rfl, flat_bools _ bs, _, rfl, ?_⟩
    rw [inV_bools]
    have no : (bs.any fun b => decide (m = b)) = false := List.any_eq_false.mpr fun b hb' => by
      rw [decide_eq_true_iff]
      exact fun e => nm (e ▸ hb')
    refine ite_b (fun h1 => absurd (show (bs.any fun b => decide (m = b)) = true from h1) (by rw [no]; decide)) (fun _ => ?_)
    dsimp only [tNext]
    have em2 := s2 _ _ em
    have hb2 := hb.same s2
    have nbl : bl ≠ m := fun e => by
      rw [e, em] at hbl
      cases hbl
    have ntl : tl ≠ m := fun e => by
      rw [e, em] at htl
      cases htl
    -- made.become(last)
    refine ⟨_, rfl, m, dm, _, rfl, em2, boxF_no _ (by decide +kernel), _, rfl, m, y, l, rfl, hm.same s2, hl, fun H4 b4 hm4 => ?_⟩
    have hb4 := hb2.bar b4 nm
    have hbl4 := b4 _ _ nbl (s2 _ _ hbl)
    have htl4 := b4 _ _ ntl (s2 _ _ htl)
    -- the texts of the boxes
    refine ⟨_, rfl, bl, rfl, ⟨_, SqL.of hbl4⟩, fun D2 hD2 => lc_it (walk_list (xs := bs.map V.ref)) (fun j H' => H' = upd H4 D2 (.lst ((zs.map V.str).take j))) rfl (fun _ _ _ h => by rw [h]; exact SqL.of (same_new hD2 _ _ hbl4)) ?_ ?_⟩
    · rintro j x H5 H5' hj rfl ⟨rfl, hx⟩
      obtain ⟨b, hbj, rfl⟩ := map_from hx
      obtain ⟨w, hwj, dx, e⟩ := at_ (hb4.same (same_new (o := .lst ((zs.map V.str).take j)) hD2)) hbj
      refine ⟨rfl, lc_yes ⟨_, rfl, b, C, dx, _, _, rfl, e, B.cl, B.nC, boxF_lk w, _, upd_same, take_small (n := 6) (by rw [List.length_map, ← lbz]; exact hn), ?_⟩⟩
      exact upd_snoc (map_at (f := V.str) hwj)
    rintro H5 rfl
    rw [List.take_of_length_le (by rw [List.length_map, List.length_map, lbz]; exact Nat.le_refl _)]
    have s5 := same_new (o := .lst (zs.map V.str)) hD2
    refine ⟨_, rfl, _, _, .lst (SqL.of upd_same) (dp_all_strs zs), .lst (SqL.of (s5 _ _ htl4)) (dp_all_strs zs), shaped_texts hz, shaped_texts hz, _, rfl, ?_⟩
    rw [eqv_texts]
    refine iteF ?_
    dsimp only [tNext]
    have hm5 := hm4.same s5
    obtain ⟨dm5, em5⟩ := id hm5
    -- made.become(due)
    refine ⟨_, rfl, m, dm5, _, rfl, em5, boxF_no _ (by decide +kernel), _, rfl, m, l, y, rfl, hm5, hy, fun H6 b6 hm6 => ?_⟩
    have hb6 := (hb4.same s5).bar b6 nm
    have hbl6 := b6 _ _ nbl (s5 _ _ hbl4)
    have htl6 := b6 _ _ ntl (s5 _ _ htl4)
    have fr6 : ∀ b o, b ≠ m → H b = some o → H6 b = some o := fun b o n e => b6 _ _ n (s5 _ _ (b4 _ _ n (s2 _ _ e)))
    have ibl := hb.notin hbl
    have itl := hb.notin htl
    refine ⟨_, rfl, bl, rfl, ⟨_, SqL.of hbl6⟩, for_it (walk_list (xs := bs.map V.ref)) (fun i σ H' => ∃ v ws, σ = [some (.ref m), some (.str y), some (.ref bl), some (.ref tl), some (.str l), v, none, none] ∧ Boxes C H' bs ws ∧ BoxAt C H' m y ∧ H' bl = some (.lst (bs.map V.ref)) ∧ H' tl = some (.lst (zs.map V.str)) ∧ ∀ b o, b ≠ m → b ∉ bs → H b = some o → H' b = some o)
      ⟨none, zs, rfl, hb6, hm6, hbl6, htl6, fun b o n _ e => fr6 b o n e⟩ (fun i σ H' _ ⟨_, _, _, _, _, h, _⟩ => SqL.of h) ?_ ?_⟩
    · rintro i x σ H7 H7' hi ⟨v, ws, rfl, h7, m7, bl7, tl7, f7⟩ ⟨rfl, hx⟩
      obtain ⟨b, hbi, rfl⟩ := map_from hx
      obtain ⟨w, hw, h⟩ := at_ h7 hbi
      obtain ⟨dx, e⟩ := id h
      have mb := List.mem_of_getElem? hbi
      have bm : b ≠ m := fun e => nm (e ▸ mb)
      refine ⟨_, rfl, b, dx, _, rfl, e, boxF_no _ (by decide +kernel), _, rfl, b, w, l, rfl, h, hl, fun H8 b8 h8 => ?_⟩
      exact ⟨_, _, rfl, h7.set nd hbi b8 h8, m7.bar b8 bm.symm, b8 _ _ (fun q => ibl (q ▸ mb)) bl7, b8 _ _ (fun q => itl (q ▸ mb)) tl7, fun c o n1 n2 e => b8 _ _ (fun q => n2 (q ▸ mb)) (f7 c o n1 n2 e)⟩
    rintro σ H7 ⟨v, ws, rfl, h7, m7, bl7, tl7, f7⟩
    obtain ⟨dm7, em7⟩ := id m7
    refine ⟨_, rfl, m, C, dm7, _, _, rfl, em7, B.cl, B.nC, boxF_lk y, _, rfl, rfl, ?_⟩
    rw [dec_str_same]
    refine ⟨_, rfl, _, rfl, bl, tl, _, _, rfl, SqL.of bl7, SqL.of tl7, for_it (walk_zip (xs := bs.map V.ref) (ys := zs.map V.str) (n := bs.length) (by rw [List.length_map, List.length_map, ← lbz, Nat.min_self])) (fun i σ H' => ∃ v v2 ws, σ = [some (.ref m), some (.str y), some (.ref bl), some (.ref tl), some (.str l), v, some (.bl true), v2] ∧ Boxes C H' bs ws ∧ (∀ j, j < i → ws[j]? = zs[j]?) ∧ BoxAt C H' m y ∧ H' bl = some (.lst (bs.map V.ref)) ∧ H' tl = some (.lst (zs.map V.str)) ∧ ∀ b o, b ≠ m → b ∉ bs → H b = some o → H' b = some o)
      ⟨_, _, ws, rfl, h7, fun j hj => absurd hj (Nat.not_lt_zero j), m7, bl7, tl7, f7⟩ (fun i σ H' _ ⟨_, _, _, _, _, _, _, h, h', _⟩ => ⟨SqL.of h, SqL.of h'⟩) ?_ ?_⟩
    · rintro i x σ H8 H8' hi ⟨v, v2, ws, rfl, h8, p8, m8, bl8, tl8, f8⟩ ⟨T1, x1, x2, rfl, nT, rfl, hx1, hx2⟩
      obtain ⟨b, hbi, rfl⟩ := map_from hx1
      obtain ⟨z, hzi, rfl⟩ := map_from hx2
      have sT := same_new (o := .tup [V.ref b, V.str z]) nT
      have h8' := h8.same sT
      obtain ⟨w, hw, h⟩ := at_ h8' hbi
      obtain ⟨dx, e⟩ := id h
      have mb := List.mem_of_getElem? hbi
      have bm : b ≠ m := fun e => nm (e ▸ mb)
      refine ⟨T1, _, rfl, SqT.of upd_same, rfl, _, _, rfl, _, _, rfl, rfl, ?_⟩
      refine ⟨_, rfl, b, dx, _, rfl, e, boxF_no _ (by decide +kernel), _, rfl, b, w, z, rfl, h, hz z (List.mem_of_getElem? hzi), fun H9 b9 h9 => ?_⟩
      refine ⟨_, _, ws.set i z, rfl, h8'.set nd hbi b9 h9, fun j hj => ?_, (m8.same sT).bar b9 bm.symm, b9 _ _ (fun q => ibl (q ▸ mb)) (sT _ _ bl8), b9 _ _ (fun q => itl (q ▸ mb)) (sT _ _ tl8), fun c o n1 n2 e => b9 _ _ (fun q => n2 (q ▸ mb)) (sT _ _ (f8 c o n1 n2 e))⟩
      by_cases c : i = j
      · subst c
        have hi' : i < ws.length := (List.getElem?_eq_some_iff.mp hw).1
        rw [List.getElem?_set_self hi', hzi]
      · rw [List.getElem?_set_ne c]
        exact p8 j (by omega)
    · rintro σ H8 ⟨v, v2, ws, rfl, h8, p8, m8, bl8, tl8, f8⟩
      have e : ws = zs := List.ext_getElem? fun j => by
        by_cases c : j < bs.length
        · exact p8 j c
        · rw [List.getElem?_eq_none (by rw [← h8.1]; omega), List.getElem?_eq_none (by rw [← lbz]; omega)]
      subst e
      exact ⟨_, rfl, k H8 f8 m8 h8⟩
theorem ok_law {f C : Addr} {fd : FuncData} (F : Fun K "law" "law" s_law f fd) (T : Top K mg) (B : BoxC K mg C)
    (T_bag : Cal P w K mg base 1 "_law_bag" (spBag K) []) (T_take : Cal P w K mg base 1 "_law_take" spTake []) (T_contents : Cal P w K mg base 3 "_law_contents" spContents [])
    (T_Box : Mak P w K mg base 4 "Box" C (spInit C) []) (T_joined : Cal P w K mg base 7 "_law_joined" (spJoinL C) []) (T_due : Cal P w K mg base 1 "_law_due" spDueJ []) (T_is_new : Cal P w K mg base 5 "_law_is_new" (spNew C) []) (T_Box_copied : Met P w K mg base 6 C "copied" (spCopied C) []) :
    FnOk P w K mg base CX0 8 f fd ["_law_script"] (spLaw K) := by
  refine F.ok sc_law (fun vs H Q E h => ?_) (fun cdv A outer s H vs Q E hr h => ?_)
  · obtain ⟨a, ns, rfl, _⟩ := h
    rfl
  · obtain ⟨a, ns, rfl, hS, hlen, k⟩ := h
    refine ⟨_, (pss_cons (ps_for PassesOwn.never rfl (pi_range1 rfl T.z_range (pa_cons (pe_callB (call_max2 rfl) (by rfl) T.z_max (by decide +kernel) (pa_cons pe_int (pa_cons (pe_callB (call_min2 rfl) (by rfl) T.z_min (by decide +kernel) (pa_cons pe_int (pa_cons (pe_callB call_len_seq (by rfl) T.z_len (by decide +kernel) (pa_cons (pv 0) pa_nil)) pa_nil))) pa_nil))) pa_nil)) (pg_name (i := 1) sc_law.nd rfl (Or.inl rfl))
(pss_cons (ps_set (i := 2) sc_law.nd rfl (Or.inr rfl) (pe_c T_bag hr (by decide) (by rfl) (pa_cons (pv 0) (pa_cons (pv 1) pa_nil))))
(pss_cons (ps_set (i := 3) sc_law.nd rfl (Or.inr rfl) (pe_lc (own := [("_law_k", 8)]) rfl sc_law.nd (pi_range1 rfl T.z_range (pa_cons pe_int pa_nil)) (blkOk_by (own := [("_law_k", 8)]) (N := n_law) (sc := defScope s_law) (by decide +kernel)) (fun _ _ _ _ _ => (pg_name (i := 8) sc_law.nd rfl (Or.inl rfl))) (fun _ _ _ _ _ => pts_nil) (fun _ _ _ _ _ => (pe_c T_contents hr (by decide) (by rfl) (pa_cons (pv 2) pa_nil)))))
(pss_cons (ps_asg (pe_tup (pa_cons (pe_lc (own := [("_law_text", 9)]) rfl sc_law.nd (pi_list (pv 3)) (blkOk_by (own := [("_law_text", 9)]) (N := n_law) (sc := defScope s_law) (by decide +kernel)) (fun _ _ _ _ _ => (pg_name (i := 9) sc_law.nd rfl (Or.inl rfl))) (fun _ _ _ _ _ => pts_nil) (fun _ _ _ _ _ => (pe_mk T_Box hr (by decide) (by rfl) (pa_cons (pv 9) pa_nil)))) (pa_cons (pe_c T_contents hr (by decide) (by rfl) (pa_cons (pv 2) pa_nil)) pa_nil))) (pg_tup rfl (pgs_cons (pg_name (i := 4) sc_law.nd rfl (Or.inr rfl)) (pgs_cons (pg_name (i := 5) sc_law.nd rfl (Or.inl rfl)) pgs_nil))))
(pss_cons (ps_setLc (i := 6) (own := [("_law_k", 8)]) rfl sc_law.nd rfl rfl (sw_true rfl rfl rfl (by decide +kernel)) (pi_range1 rfl T.z_range (pa_cons (pe_c T_take hr (by decide) (by rfl) (pa_cons (pv 2) (pa_cons pe_int pa_nil))) pa_nil)) (blkOk_by (own := [("_law_k", 8)]) (N := n_law) (sc := defScope s_law) (by decide +kernel)) (fun _ _ _ _ _ => (pg_name (i := 8) sc_law.nd rfl (Or.inl rfl))) (fun _ _ _ _ _ => pts_nil) (fun _ _ _ _ _ => (pe_c T_take hr (by decide) (by rfl) (pa_cons (pv 2) (pa_cons pe_int pa_nil)))))
(pss_cons (ps_set (i := 7) sc_law.nd rfl (Or.inl rfl) (pe_c T_joined hr (by decide) (by rfl) (pa_cons (pe_lc (own := [("_law_k", 8)]) rfl sc_law.nd (pi_list (pv 6)) (blkOk_by (own := [("_law_k", 8)]) (N := n_law) (sc := defScope s_law) (by decide +kernel)) (fun _ _ _ _ _ => (pg_name (i := 8) sc_law.nd rfl (Or.inl rfl))) (fun _ _ _ _ _ => pts_nil) (fun _ _ _ _ _ => (show PE _ _ (tOp (rIxL K) (tVar 4) (tVar 8)) from (pe_ix ix_list (pv 4) (pv 8) (fun _ _ => rfl))))) pa_nil)))
(pss_cons (ps_if (pt_not (pt_val (pe_c T_is_new hr (by decide) (by rfl) (pa_cons (pv 7) (pa_cons (pe_c T_due hr (by decide) (by rfl) (pa_cons (pe_lc (own := [("_law_k", 8)]) rfl sc_law.nd (pi_list (pv 6)) (blkOk_by (own := [("_law_k", 8)]) (N := n_law) (sc := defScope s_law) (by decide +kernel)) (fun _ _ _ _ _ => (pg_name (i := 8) sc_law.nd rfl (Or.inl rfl))) (fun _ _ _ _ _ => pts_nil) (fun _ _ _ _ _ => (show PE _ _ (tOp (rIxL K) (tVar 3) (tVar 8)) from (pe_ix ix_list (pv 3) (pv 8) (fun _ _ => rfl))))) pa_nil)) (pa_cons (pv 4) (pa_cons (pv 3) (pa_cons (pv 5) pa_nil))))))))
(pss_one (ps_ret pe_bl))
pss_nil)
(pss_cons (ps_set (i := 8) sc_law.nd rfl (Or.inl rfl) (pe_c T_take hr (by decide) (by rfl) (pa_cons (pv 2) (pa_cons pe_int pa_nil))))
(pss_cons (ps_if (pt_not (pt_val (pe_c T_is_new hr (by decide) (by rfl) (pa_cons (pe_mt0 T_Box_copied hr (by decide) (show PE _ _ (tOp (rIxL K) (tVar 4) (tVar 8)) from (pe_ix ix_list (pv 4) (pv 8) (fun _ _ => rfl)))) (pa_cons (show PE _ _ (tOp (rIxL K) (tVar 3) (tVar 8)) from (pe_ix ix_list (pv 3) (pv 8) (fun _ _ => rfl))) (pa_cons (pv 4) (pa_cons (pv 3) (pa_cons (pv 5) pa_nil))))))))
(pss_one (ps_ret pe_bl))
pss_nil)
(pss_one (ps_if (pt_cmpR (by exact op_eqO B.eq (hu_of hr)) (pe_mt0 T_Box_copied hr (by decide) (show PE _ _ (tOp (rIxL K) (tVar 4) (tVar 8)) from (pe_ix ix_list (pv 4) (pv 8) (fun _ _ => rfl)))) (pe_mt0 T_Box_copied hr (by decide) (show PE _ _ (tOp (rIxL K) (tVar 4) (tVar 8)) from (pe_ix ix_list (pv 4) (pv 8) (fun _ _ => rfl)))) (nomark _))
(pss_one (ps_ret pe_bl))
pss_nil)))))))))))
(pss_one (ps_ret pe_bl))), ?_⟩
    refine ⟨_, rfl, a, _, rfl, .inl hS, _, _, rfl, _, _, rfl, _, rfl, ?_, ?_, for_it walk_range (fun i σ H' => ∃ v1 v2 v3 v4 v5 v6 v7 v8 v9, σ = [some (.ref a), v1, v2, v3, v4, v5, v6, v7, v8, v9] ∧ Same H H')
      ⟨none, none, none, none, none, none, none, none, none, rfl, Same.refl H⟩ (fun _ _ _ _ _ => trivial) ?_ ?_⟩
    · split <;> split <;> omega
    · split <;> split <;> omega
    · rintro i x σ H1 H1' hi ⟨v1, v2, v3, v4, v5, v6, v7, v8, v9, rfl, s1⟩ ⟨rfl, rfl⟩
      have hi2 : i < 63 := by
        revert hi
        split <;> split <;> omega
      refine ⟨_, rfl, _, rfl, a, ns, i, by show [V.ref a, V.int (0 + (i : Int))] = _; rw [Int.zero_add], s1.seq hS, hlen, hi2, fun H2 p q s2 np nq hB => ?_⟩
      have nHp : H p = none := s1.free np
      have s12 := s1.trans s2
      -- the three texts
      refine ⟨_, rfl, by decide, by decide, fun tl htl => lc_it walk_range (fun j H' => ∃ zs : List Str, zs.length = j ∧ (∀ z ∈ zs, IsC z) ∧ H' tl = some (.lst (zs.map V.str)) ∧ BagAt H' p q ∧ Same H H') ?_ (fun _ _ _ _ => trivial) ?_ ?_⟩
      · exact ⟨[], rfl, fun _ h => (List.not_mem_nil h).elim, upd_same, hB.same (same_new htl), s12.trans (same_new htl)⟩
      · rintro j x H3 H3' hj ⟨zs, hz, hzc, hD, hB3, s3⟩ ⟨rfl, rfl⟩
        refine ⟨rfl, ?_⟩
        refine lc_yes ⟨_, rfl, p, q, rfl, hB3, fun H4 z b4 hB4 hzz => ⟨_, b4 _ _ (hB.there htl) hD, ?_, zs ++ [z], ?_, ?_, ?_, ?_, ?_⟩⟩
        · rw [List.length_map, hz]
          have : j < 3 := hj
          exact small1000 (by omega)
        · rw [List.length_append, hz]
          rfl
        · intro y hy
          rcases List.mem_append.mp hy with hy | hy
          · exact hzc y hy
          · rw [List.mem_singleton.mp hy]
            exact hzz
        · rw [upd_same, List.map_append]
          rfl
        · exact hB4.bar bar_upd (hB.there htl).symm (hB.there2 htl).symm
        · exact same_bar (same_bar s3 nHp b4) (s12.free htl) bar_upd
      · rintro H3 ⟨zs, hz, hzc, hT, hB3, s3⟩
        have hz3 : zs.length = 3 := hz
        have nt : H tl = none := s12.free htl
        -- the three boxes
        refine ⟨_, rfl, tl, rfl, ⟨_, SqL.of hT⟩, fun bl hbl => lc_it (walk_list (xs := zs.map V.str)) (fun j H' => ∃ bs : List Addr, bs.length = j ∧ H' bl = some (.lst (bs.map V.ref)) ∧ Boxes C H' bs (zs.take j) ∧ bs.Nodup ∧ (∀ b ∈ bs, H b = none) ∧
          H' tl = some (.lst (zs.map V.str)) ∧ BagAt H' p q ∧ Same H H') ?_ (fun _ _ _ h => by obtain ⟨_, _, _, _, _, _, h, _⟩ := h; exact SqL.of h) ?_ ?_⟩
        · exact ⟨[], rfl, upd_same, ⟨rfl, fun i b z h => by cases h⟩, List.nodup_nil, fun _ h => (List.not_mem_nil h).elim, same_new hbl _ _ hT, hB3.same (same_new hbl), s3.trans (same_new hbl)⟩
        · rintro j x H4 H4' hj ⟨bs, hbs, hL, hX, nd, nbs, hT4, hB4, s4⟩ ⟨rfl, hx⟩
          obtain ⟨z, hzj, rfl⟩ := map_from hx
          have hj3 : j < 3 := by
            have := (List.getElem?_eq_some_iff.mp hzj).1
            omega
          refine ⟨rfl, ?_⟩
          refine lc_yes ⟨_, rfl, fun b db nb ndb nbd => ⟨b, db, z, rfl, upd_same, hzc z (List.mem_of_getElem? hzj), fun H5 b5 hb5 => ⟨rfl, ?_⟩⟩⟩
          have t5 := same_made nb ndb b5
          have nbl : bl ≠ b := ne_of_none hL nb
          have nbH : H b = none := s4.free nb
          have nin : b ∉ bs := fun m => by
            obtain ⟨z', dx', e⟩ := hX.mem m
            rw [nb] at e
            cases e
          refine ⟨_, t5 _ _ hL, ?_, bs ++ [b], ?_, ?_, ?_, ?_, ?_, ?_, ?_, ?_⟩
          · rw [List.length_map, hbs]
            exact small1000 (by omega)
          · rw [List.length_append, hbs]
            rfl
          · rw [upd_same, List.map_append]
            rfl
          · rw [take_snoc hzj]
            exact ((hX.same t5).bar bar_upd (hX.notin hL)).snoc (hb5.bar bar_upd nbl.symm)
          · exact List.nodup_append.mpr ⟨nd, by simp, fun x hx y hy e => nin (by rw [List.mem_singleton.mp hy] at e; exact e ▸ hx)⟩
          · intro y hy
            rcases List.mem_append.mp hy with hy | hy
            · exact nbs y hy
            · rw [List.mem_singleton.mp hy]
              exact nbH
          · exact (upd_ne (ne_of_none hT hbl)).trans (t5 _ _ hT4)
          · exact (hB4.same t5).bar bar_upd (hB3.there hbl).symm (hB3.there2 hbl).symm
          · exact same_bar (s4.trans t5) (s3.free hbl) bar_upd
        · rintro H4 ⟨bs, hbs, hL, hX, nd, nbs, hT4, hB4, s4⟩
          have hb3 : bs.length = 3 := by rw [hbs, List.length_map, hz3]
          have hX4 : Boxes C H4 bs zs := by
            rw [List.take_of_length_le (by rw [List.length_map]; exact Nat.le_refl _)] at hX
            exact hX
          have W : Two C H p q tl bl bs := ⟨nHp, nt, s3.free hbl, nbs, hB.there htl, hB.there2 htl, hB3.there hbl, hB3.there2 hbl, ne_of_none hT hbl, nd⟩
          have A4 : TwoAt C H p q tl bl bs zs H4 := ⟨s4, hB4, hT4, hL, hX4, hzc⟩
          refine ⟨_, rfl, p, q, rfl, hB4, fun H5 last b5 hB5 hlast => ⟨by show 2 ≤ sizeLine; decide, fun tt htt => ⟨tt, _, rfl, SqT.of upd_same, rfl, _, _, rfl, _, _, rfl, rfl, ?_⟩⟩⟩
          have A5 := (A4.draw W b5 hB5).same (same_new (o := .tup [.ref bl, .str last]) htt)
          refine ⟨_, rfl, p, q, 7, rfl, A5.bag, by decide, by decide, fun H6 d b6 hB6 d0 d1 => ?_⟩
          have A6 := A5.draw W b6 hB6
          have hz3' : zs.length = 3 := hz3
          -- what is chosen
          refine ⟨_, rfl, Int.le_trans (by decide : (-2 ^ 62 : Int) ≤ 0) d0, Int.lt_trans d1 (by decide), fun cl hcl => lc_it walk_range (fun j H' => ∃ ks : List Nat, ks.length = j ∧ (∀ k ∈ ks, k < 3) ∧ H' cl = some (.lst (ks.map fun k => V.int (k : Nat))) ∧ TwoAt C H p q tl bl bs zs H') ?_ (fun _ _ _ _ => trivial) ?_ ?_⟩
          · exact ⟨[], rfl, fun _ h => (List.not_mem_nil h).elim, upd_same, A6.same (same_new hcl)⟩
          · rintro j x H7 H7' hj ⟨ks, hk, hks, hC7, A7⟩ ⟨rfl, rfl⟩
            have off := A6.off hcl
            refine ⟨rfl, lc_yes ⟨_, rfl, p, q, 3, rfl, A7.bag, by decide, by decide, fun H8 e b8 hB8 e0 e1 => ?_⟩⟩
            obtain ⟨k1, rfl⟩ := Int.eq_ofNat_of_zero_le e0
            refine ⟨_, b8 _ _ off.1.symm hC7, ?_, ks ++ [k1], ?_, ?_, ?_, ?_⟩
            · rw [List.length_map, hk]
              exact small1000 (by omega)
            · rw [List.length_append, hk]
              rfl
            · intro y hy
              rcases List.mem_append.mp hy with hy | hy
              · exact hks y hy
              · rw [List.mem_singleton.mp hy]
                omega
            · rw [upd_same, List.map_append]
              rfl
            · exact (A7.draw W b8 hB8).other bar_upd off
          rintro H7 ⟨ks, hk, hks, hC7, A7⟩
          have hk6 : ks.length ≤ 6 := by
            rw [hk]
            omega
          have offc := A6.off hcl
          have hkb : ∀ k ∈ ks, k < bs.length := fun k h => by
            have := hks k h
            omega
          have hkz : ∀ k ∈ ks, k < zs.length := fun k h => by
            have := hks k h
            omega
          -- the boxes that are chosen, joined
          refine ⟨_, rfl, cl, rfl, ⟨_, SqL.of hC7⟩, fun jl hjl => lc_it (walk_list (xs := ks.map fun k => V.int (k : Nat))) (fun j H' => H' = upd H7 jl (.lst (((ks.map fun k => bs.getD k 0).map V.ref).take j))) rfl (fun _ _ _ h => by rw [h]; exact SqL.of (same_new hjl _ _ hC7)) ?_ ?_⟩
          · rintro j x H8 H8' hj rfl ⟨rfl, hx⟩
            obtain ⟨k1, hkj, rfl⟩ := map_from hx
            have hl := hkb k1 (List.mem_of_getElem? hkj)
            refine ⟨rfl, lc_yes ⟨_, rfl, _, rfl, bl, _, _, _, rfl, rfl, SqL.of (same_new hjl _ _ A7.b), atI_nat (map_at (f := V.ref) (getD_at (l := bs) (d := 0) hl)), _, upd_same, take_small (n := 6) (by rw [List.length_map, List.length_map]; exact hk6), ?_⟩⟩
            exact upd_snoc (map_at (f := V.ref) (map_at (f := fun k => bs.getD k 0) hkj))
          rintro H8 rfl
          rw [List.take_of_length_le (by rw [List.length_map, List.length_map, List.length_map]; exact Nat.le_refl _)]
          have s8 := same_new (o := .lst ((ks.map fun k => bs.getD k 0).map V.ref)) hjl
          have A8 := A7.same s8
          refine ⟨jl, _, _, rfl, upd_same, by rw [List.length_map]; exact hk6, A8.bx.pick hkb, fun H9 m s9 nm hm => ?_⟩
          have offm := A8.off nm
          have A9 := A8.same s9
          have hC9 := s9 _ _ (s8 _ _ hC7)
          refine ⟨_, rfl, _, rfl, cl, rfl, ⟨_, SqL.of hC9⟩, fun dl hdl => lc_it (walk_list (xs := ks.map fun k => V.int (k : Nat))) (fun j H' => H' = upd H9 dl (.lst (((ks.map fun k => zs.getD k "").map V.str).take j))) rfl (fun _ _ _ h => by rw [h]; exact SqL.of (same_new hdl _ _ hC9)) ?_ ?_⟩
          · rintro j x H10 H10' hj rfl ⟨rfl, hx⟩
            obtain ⟨k1, hkj, rfl⟩ := map_from hx
            have hl := hkz k1 (List.mem_of_getElem? hkj)
            refine ⟨rfl, lc_yes ⟨_, rfl, _, rfl, tl, _, _, _, rfl, rfl, SqL.of (same_new hdl _ _ A9.t), atI_nat (map_at (f := V.str) (getD_at (l := zs) (d := ("" : Str)) hl)), _, upd_same, take_small (n := 6) (by rw [List.length_map, List.length_map]; exact hk6), ?_⟩⟩
            exact upd_snoc (map_at (f := V.str) (map_at (f := fun k => zs.getD k "") hkj))
          rintro H10 rfl
          rw [List.take_of_length_le (by rw [List.length_map, List.length_map, List.length_map]; exact Nat.le_refl _)]
          have s10 := same_new (o := .lst ((ks.map fun k => zs.getD k "").map V.str)) hdl
          refine ⟨dl, _, rfl, upd_same, by rw [List.length_map]; exact Nat.le_trans hk6 (by decide), fun H11 s11 => ?_⟩
          have A11 := (A9.same s10).same s11
          have hm11 := (hm.same s10).same s11
          refine ⟨_, rfl, _, rfl, _, rfl, m, bl, tl, bs, zs, _, last, rfl, hm11, isC_sb _, hlast, A11.b, A11.t, by omega, A11.bx, A11.ic, W.nd, offm.2.2.2.2.1, fun H12 fr hm12 hb12 => ⟨true, rfl, iteF ?_⟩⟩
          have A12 := A11.news W offm fr hb12
          dsimp only [tNext]
          -- one of them, copied
          refine ⟨_, rfl, p, q, 3, rfl, A12.bag, by decide, by decide, fun H13 e b13 hB13 e0 e1 => ?_⟩
          obtain ⟨k1, rfl⟩ := Int.eq_ofNat_of_zero_le e0
          have A13 := A12.draw W b13 hB13
          have kb : k1 < bs.length := by omega
          have kz : k1 < zs.length := by omega
          have gb := getD_at (l := bs) (d := 0) kb
          have gz := getD_at (l := zs) (d := ("" : Str)) kz
          have icz := A13.ic _ (List.mem_of_getElem? gz)
          have hbk := A13.bx.2 k1 _ _ gb gz
          obtain ⟨dx, ek⟩ := id hbk
          refine ⟨_, rfl, _, rfl, bl, _, _, _, rfl, rfl, SqL.of A13.b, atI_nat (map_at (f := V.ref) gb), _, dx, _, rfl, ek, boxF_no _ (by decide +kernel), _, _, rfl, hbk, icz, fun H14 m2 s14 nm2 hm2 => ?_⟩
          have A14 := A13.same s14
          have off2 := A13.off nm2
          refine ⟨_, rfl, _, rfl, tl, _, _, _, rfl, rfl, SqL.of A14.t, atI_nat (map_at (f := V.str) gz), _, rfl, _, rfl, _, rfl, m2, bl, tl, bs, zs, _, last, rfl, hm2, icz, hlast, A14.b, A14.t, by omega, A14.bx, A14.ic, W.nd, off2.2.2.2.2.1, fun H15 fr2 hm15 hb15 => ⟨true, rfl, iteF ?_⟩⟩
          have A15 := A14.news W off2 fr2 hb15
          dsimp only [tNext]
          -- two copies
          have hbk5 := A15.bx.2 k1 _ _ gb gz
          obtain ⟨dx5, ek5⟩ := id hbk5
          refine ⟨_, rfl, _, rfl, bl, _, _, _, rfl, rfl, SqL.of A15.b, atI_nat (map_at (f := V.ref) gb), _, dx5, _, rfl, ek5, boxF_no _ (by decide +kernel), _, _, rfl, hbk5, icz, fun H16 m3 s16 nm3 hm3 => ?_⟩
          have A16 := A15.same s16
          have hbk6 := hbk5.same s16
          obtain ⟨dx6, ek6⟩ := id hbk6
          refine ⟨_, rfl, _, rfl, bl, _, _, _, rfl, rfl, SqL.of A16.b, atI_nat (map_at (f := V.ref) gb), _, dx6, _, rfl, ek6, boxF_no _ (by decide +kernel), _, _, rfl, hbk6, icz, fun H17 m4 s17 nm4 hm4 => ?_⟩
          obtain ⟨d3, e3⟩ := hm3.same s17
          obtain ⟨d4, e4⟩ := id hm4
          refine ⟨m3, m4, d3, _, d4, _, rfl, rfl, e3, e4, _, rfl, ?_⟩
          rw [decide_eq_false (hm3.ne nm4)]
          exact iteF ⟨_, _, _, _, _, _, _, _, _, rfl, (A16.same s17).sm⟩
    · rintro σ H1 ⟨v1, v2, v3, v4, v5, v6, v7, v8, v9, rfl, s1⟩
      exact k H1
end
theorem all_mk {l : PySem.W.OpenLaw} {w : World} {K : PySem.W.Frag} {h : Heap} {mg : Str → Option Value} {fa C_Box f_bag f_take f_of f_contents f_either f_are_contents f_checked f_joined f_due f_is_new f_law f_Box__init T_Box__init f_Box_become f_Box_copied f_Box_joined : Addr} (X : K.In h) (G : h.Ns mainGlobals mg) (hfa : mg "law" = some (.ref fa))
    {od_bag an_bag od_take an_take od_of an_of od_contents an_contents od_either an_either od_are_contents an_are_contents od_checked an_checked od_joined an_joined od_due an_due od_is_new an_is_new od_law an_law od_Box__init an_Box__init od_Box_become an_Box_become od_Box_copied an_Box_copied od_Box_joined an_Box_joined : Option Addr} {sl_bag sl_take sl_of sl_contents sl_either sl_are_contents sl_checked sl_joined sl_due sl_is_new sl_law sl_Box__init sl_Box_become sl_Box_copied sl_Box_joined : Array (Option Value)} {oc_bag kV_bag dc_bag pm_bag cd_bag ct_bag oc_take kV_take dc_take pm_take cd_take ct_take oc_of kV_of dc_of pm_of cd_of ct_of oc_contents kV_contents dc_contents pm_contents cd_contents ct_contents oc_either kV_either dc_either pm_either cd_either ct_either oc_are_contents kV_are_contents dc_are_contents pm_are_contents cd_are_contents ct_are_contents oc_checked kV_checked dc_checked pm_checked cd_checked ct_checked oc_joined kV_joined dc_joined pm_joined cd_joined ct_joined oc_due kV_due dc_due pm_due cd_due ct_due oc_is_new kV_is_new dc_is_new pm_is_new cd_is_new ct_is_new oc_law kV_law dc_law pm_law cd_law ct_law oc_Box__init kV_Box__init dc_Box__init pm_Box__init cd_Box__init ct_Box__init oc_Box_become kV_Box_become dc_Box_become pm_Box_become cd_Box_become ct_Box_become oc_Box_copied kV_Box_copied dc_Box_copied pm_Box_copied cd_Box_copied ct_Box_copied oc_Box_joined kV_Box_joined dc_Box_joined pm_Box_joined cd_Box_joined ct_Box_joined : Value}  {nmB qB : Str} {NB : Addr} {bsB : List Value} {hdB abB : Bool} {snB : List Str} {subB : List Value} {colB : Option Bool} {ddB : Option Addr} {b0 b1 b2 b3 b5 : Option Value} {nidB : String} {tkM : Tok} {oDT : Option Addr} {nT : Nat} {tkD : Tok} {slT : Array (Option Value)} {cNB : Value} {dNB : Option Addr} {eNB : Array DictEntry} {nNB : Nat} {slNB : Array (Option Value)} {pJ : Addr} {restJ : List Value}
    (aC_Box : PySem.W.nsIn K mainGlobals "Box" = some (some (.ref C_Box)))
    (a_bag : PySem.W.nsIn K mainGlobals "_law_bag" = some (some (.ref f_bag)))
    (l_bag : K.lookup f_bag = some ⟨oc_bag, od_bag, .func (PySem.W.fnOf "_law_bag" "_law_bag" (defArgs s_bag) (defBody s_bag) (defScope s_bag) .none kV_bag dc_bag pm_bag an_bag cd_bag ct_bag), sl_bag⟩)
    (c_bag : PySem.W.codeIn K cd_bag "_law_bag" = true)
    (k_bag : PySem.W.keepIn K (.ref f_bag) = true)
    (a_take : PySem.W.nsIn K mainGlobals "_law_take" = some (some (.ref f_take)))
    (l_take : K.lookup f_take = some ⟨oc_take, od_take, .func (PySem.W.fnOf "_law_take" "_law_take" (defArgs s_take) (defBody s_take) (defScope s_take) .none kV_take dc_take pm_take an_take cd_take ct_take), sl_take⟩)
    (c_take : PySem.W.codeIn K cd_take "_law_take" = true)
    (k_take : PySem.W.keepIn K (.ref f_take) = true)
    (a_of : PySem.W.nsIn K mainGlobals "_law_of" = some (some (.ref f_of)))
    (l_of : K.lookup f_of = some ⟨oc_of, od_of, .func (PySem.W.fnOf "_law_of" "_law_of" (defArgs s_of) (defBody s_of) (defScope s_of) .none kV_of dc_of pm_of an_of cd_of ct_of), sl_of⟩)
    (c_of : PySem.W.codeIn K cd_of "_law_of" = true)
    (k_of : PySem.W.keepIn K (.ref f_of) = true)
    (a_contents : PySem.W.nsIn K mainGlobals "_law_contents" = some (some (.ref f_contents)))
    (l_contents : K.lookup f_contents = some ⟨oc_contents, od_contents, .func (PySem.W.fnOf "_law_contents" "_law_contents" (defArgs s_contents) (defBody s_contents) (defScope s_contents) .none kV_contents dc_contents pm_contents an_contents cd_contents ct_contents), sl_contents⟩)
    (c_contents : PySem.W.codeIn K cd_contents "_law_contents" = true)
    (k_contents : PySem.W.keepIn K (.ref f_contents) = true)
    (a_either : PySem.W.nsIn K mainGlobals "either" = some (some (.ref f_either)))
    (l_either : K.lookup f_either = some ⟨oc_either, od_either, .func (PySem.W.fnOf "either" "either" (defArgs s_either) (defBody s_either) (defScope s_either) .none kV_either dc_either pm_either an_either cd_either ct_either), sl_either⟩)
    (c_either : PySem.W.codeIn K cd_either "either" = true)
    (k_either : PySem.W.keepIn K (.ref f_either) = true)
    (a_are_contents : PySem.W.nsIn K mainGlobals "are_contents" = some (some (.ref f_are_contents)))
    (l_are_contents : K.lookup f_are_contents = some ⟨oc_are_contents, od_are_contents, .func (PySem.W.fnOf "are_contents" "are_contents" (defArgs s_are_contents) (defBody s_are_contents) (defScope s_are_contents) .none kV_are_contents dc_are_contents pm_are_contents an_are_contents cd_are_contents ct_are_contents), sl_are_contents⟩)
    (c_are_contents : PySem.W.codeIn K cd_are_contents "are_contents" = true)
    (k_are_contents : PySem.W.keepIn K (.ref f_are_contents) = true)
    (a_checked : PySem.W.nsIn K mainGlobals "checked" = some (some (.ref f_checked)))
    (l_checked : K.lookup f_checked = some ⟨oc_checked, od_checked, .func (PySem.W.fnOf "checked" "checked" (defArgs s_checked) (defBody s_checked) (defScope s_checked) .none kV_checked dc_checked pm_checked an_checked cd_checked ct_checked), sl_checked⟩)
    (c_checked : PySem.W.codeIn K cd_checked "checked" = true)
    (k_checked : PySem.W.keepIn K (.ref f_checked) = true)
    (a_joined : PySem.W.nsIn K mainGlobals "_law_joined" = some (some (.ref f_joined)))
    (l_joined : K.lookup f_joined = some ⟨oc_joined, od_joined, .func (PySem.W.fnOf "_law_joined" "_law_joined" (defArgs s_joined) (defBody s_joined) (defScope s_joined) .none kV_joined dc_joined pm_joined an_joined cd_joined ct_joined), sl_joined⟩)
    (c_joined : PySem.W.codeIn K cd_joined "_law_joined" = true)
    (k_joined : PySem.W.keepIn K (.ref f_joined) = true)
    (a_due : PySem.W.nsIn K mainGlobals "_law_due" = some (some (.ref f_due)))
    (l_due : K.lookup f_due = some ⟨oc_due, od_due, .func (PySem.W.fnOf "_law_due" "_law_due" (defArgs s_due) (defBody s_due) (defScope s_due) .none kV_due dc_due pm_due an_due cd_due ct_due), sl_due⟩)
    (c_due : PySem.W.codeIn K cd_due "_law_due" = true)
    (k_due : PySem.W.keepIn K (.ref f_due) = true)
    (a_is_new : PySem.W.nsIn K mainGlobals "_law_is_new" = some (some (.ref f_is_new)))
    (l_is_new : K.lookup f_is_new = some ⟨oc_is_new, od_is_new, .func (PySem.W.fnOf "_law_is_new" "_law_is_new" (defArgs s_is_new) (defBody s_is_new) (defScope s_is_new) .none kV_is_new dc_is_new pm_is_new an_is_new cd_is_new ct_is_new), sl_is_new⟩)
    (c_is_new : PySem.W.codeIn K cd_is_new "_law_is_new" = true)
    (k_is_new : PySem.W.keepIn K (.ref f_is_new) = true)
    (a_law : PySem.W.nsIn K mainGlobals "law" = some (some (.ref f_law)))
    (l_law : K.lookup f_law = some ⟨oc_law, od_law, .func (PySem.W.fnOf "law" "law" (defArgs s_law) (defBody s_law) (defScope s_law) .none kV_law dc_law pm_law an_law cd_law ct_law), sl_law⟩)
    (c_law : PySem.W.codeIn K cd_law "law" = true)
    (k_law : PySem.W.keepIn K (.ref f_law) = true)
    (a_Box__init : PySem.W.findIn K (.ref C_Box) "__init__" = some (some (.ref f_Box__init)))
    (i_Box__init : PySem.W.isFn K (.ref f_Box__init) = true)
    (l_Box__init : K.lookup f_Box__init = some ⟨oc_Box__init, od_Box__init, .func (PySem.W.fnOf "__init__" "Box.__init__" (defArgs s_Box__init) (defBody s_Box__init) (defScope s_Box__init) (.ref T_Box__init) kV_Box__init dc_Box__init pm_Box__init an_Box__init cd_Box__init ct_Box__init), sl_Box__init⟩)
    (c_Box__init : PySem.W.codeIn K cd_Box__init "Box.__init__" = true)
    (k_Box__init : PySem.W.keepIn K (.ref f_Box__init) = true)
    (d_Box__init : K.lookup T_Box__init = some ⟨.type "tuple", oDT, .seq #[.str "" tkD] nT, slT⟩)
    (a_Box_become : PySem.W.findIn K (.ref C_Box) "become" = some (some (.ref f_Box_become)))
    (i_Box_become : PySem.W.isFn K (.ref f_Box_become) = true)
    (l_Box_become : K.lookup f_Box_become = some ⟨oc_Box_become, od_Box_become, .func (PySem.W.fnOf "become" "Box.become" (defArgs s_Box_become) (defBody s_Box_become) (defScope s_Box_become) .none kV_Box_become dc_Box_become pm_Box_become an_Box_become cd_Box_become ct_Box_become), sl_Box_become⟩)
    (c_Box_become : PySem.W.codeIn K cd_Box_become "Box.become" = true)
    (k_Box_become : PySem.W.keepIn K (.ref f_Box_become) = true)
    (a_Box_copied : PySem.W.findIn K (.ref C_Box) "copied" = some (some (.ref f_Box_copied)))
    (i_Box_copied : PySem.W.isFn K (.ref f_Box_copied) = true)
    (l_Box_copied : K.lookup f_Box_copied = some ⟨oc_Box_copied, od_Box_copied, .func (PySem.W.fnOf "copied" "Box.copied" (defArgs s_Box_copied) (defBody s_Box_copied) (defScope s_Box_copied) .none kV_Box_copied dc_Box_copied pm_Box_copied an_Box_copied cd_Box_copied ct_Box_copied), sl_Box_copied⟩)
    (c_Box_copied : PySem.W.codeIn K cd_Box_copied "Box.copied" = true)
    (k_Box_copied : PySem.W.keepIn K (.ref f_Box_copied) = true)
    (stJ : PySem.W.findCls K (.ref C_Box) (.type "type") "joined" = some (.get (.builtin "staticmethod.__get__") (.ref pJ) .none (.ref C_Box)))
    (rcJ : PySem.W.recIn K pJ "staticmethod" = some (.ref f_Box_joined :: restJ))
    (rdB : PySem.W.readsIn K C_Box (.type "type") = true)
    (tgB : PySem.W.specialIn K (.ref C_Box) "__getattribute__" = some (some (.builtin "type.__getattribute__")))
    (l_Box_joined : K.lookup f_Box_joined = some ⟨oc_Box_joined, od_Box_joined, .func (PySem.W.fnOf "joined" "Box.joined" (defArgs s_Box_joined) (defBody s_Box_joined) (defScope s_Box_joined) .none kV_Box_joined dc_Box_joined pm_Box_joined an_Box_joined cd_Box_joined ct_Box_joined), sl_Box_joined⟩)
    (c_Box_joined : PySem.W.codeIn K cd_Box_joined "Box.joined" = true)
    (k_Box_joined : PySem.W.keepIn K (.ref f_Box_joined) = true)
    (gM : PySem.W.nsIn K mainGlobals "MARKS" = some (some (.str "ABCDEFGHIJKLMNOPQRSTUVWXYZabcdefghijklmnopqrstuvwxyz" tkM)))
    (z_len : PySem.W.nsIn K mainGlobals "len" = some none)
    (z_abs : PySem.W.nsIn K mainGlobals "abs" = some none)
    (z_list : PySem.W.nsIn K mainGlobals "list" = some none)
    (z_int : PySem.W.nsIn K mainGlobals "int" = some none)
    (z_isinstance : PySem.W.nsIn K mainGlobals "isinstance" = some none)
    (z_str : PySem.W.nsIn K mainGlobals "str" = some none)
    (z_range : PySem.W.nsIn K mainGlobals "range" = some none)
    (z_max : PySem.W.nsIn K mainGlobals "max" = some none)
    (z_min : PySem.W.nsIn K mainGlobals "min" = some none)
    (z_zip : PySem.W.nsIn K mainGlobals "zip" = some none)
    (pgB : PySem.W.plainGet K C_Box Str.empty = true)
    (hdB_ : PySem.W.hasDictIn K C_Box = true)
    (poB : PySem.W.plainOver K C_Box = true)
    (saB : PySem.W.findIn K (.ref C_Box) "__setattr__" = some (some (.builtin "object.__setattr__")))
    (mkB : PySem.W.makesIn K C_Box = true)
    (kcB : PySem.W.keepIn K (.ref C_Box) = true)
    (nCB : PySem.W.findIn K (.ref C_Box) "contents" = some none)
    (xLB : K.lookup C_Box = some (excClassObj nmB qB C_Box NB bsB [.type "object"] hdB snB subB abB colB ddB b0 b1 b2 b3 b5 nidB))
    (lNB : K.lookup NB = some ⟨cNB, dNB, .dict eNB nNB, slNB⟩)
    (okNB : (eNB.toList.all fun e => match e.key with | .str _ _ => true | _ => false) = true)
    (neqB : PySem.W.nsIn K NB "__eq__" = some none)
    (nneB : PySem.W.nsIn K NB "__ne__" = some none)
    (caB : PySem.W.findIn K (.ref C_Box) "__class__" = some (some (.builtin "object.__class__")))
    (cnB : PySem.W.specialIn K (.builtin "object.__class__") "__get__" = some (some (.builtin "getset_descriptor.__get__")))
    (ctB : PySem.W.takesIn K (.builtin "object.__class__") = some true)
    (cmB : PySem.W.mroIn K C_Box (.type "object") = some true)
    (sfB : PySem.W.selfFirst K C_Box = true)
    : ∃ fd : FuncData, (∀ (s : Shared) (v : Value), BindsTo s fd ⟨[v], []⟩ [("_law_script", v)]) ∧ ∀ base : Heap, K.In base → base.Ns mainGlobals mg → FnOk l.prog w K mg base CX0 8 fa fd ["_law_script"] (spLaw K) := by
  have e := hfa.symm.trans (PySem.W.mg_of X G a_law)
  cases e
  have F_bag := fun_mk (st := s_bag) l_bag c_bag k_bag
  have b_bag := F_bag.binds (ps := ["_law_script", "_law_at"]) fun _ _ _ _ _ _ us hl => match us, hl with | [_, _], _ => rfl
  have g_bag := PySem.W.mg_of X G a_bag
  have F_take := fun_mk (st := s_take) l_take c_take k_take
  have b_take := F_take.binds (ps := ["_law_bag_here", "_law_many"]) fun _ _ _ _ _ _ us hl => match us, hl with | [_, _], _ => rfl
  have g_take := PySem.W.mg_of X G a_take
  have F_of := fun_mk (st := s_of) l_of c_of k_of
  have b_of := F_of.binds (ps := ["_law_bag_here", "_law_some"]) fun _ _ _ _ _ _ us hl => match us, hl with | [_, _], _ => rfl
  have g_of := PySem.W.mg_of X G a_of
  have F_contents := fun_mk (st := s_contents) l_contents c_contents k_contents
  have b_contents := F_contents.binds (ps := ["_law_bag_here"]) fun _ _ _ _ _ _ us hl => match us, hl with | [_], _ => rfl
  have g_contents := PySem.W.mg_of X G a_contents
  have F_either := fun_mk (st := s_either) l_either c_either k_either
  have b_either := F_either.binds (ps := ["one", "other"]) fun _ _ _ _ _ _ us hl => match us, hl with | [_, _], _ => rfl
  have g_either := PySem.W.mg_of X G a_either
  have F_are_contents := fun_mk (st := s_are_contents) l_are_contents c_are_contents k_are_contents
  have b_are_contents := F_are_contents.binds (ps := ["thing"]) fun _ _ _ _ _ _ us hl => match us, hl with | [_], _ => rfl
  have g_are_contents := PySem.W.mg_of X G a_are_contents
  have F_checked := fun_mk (st := s_checked) l_checked c_checked k_checked
  have b_checked := F_checked.binds (ps := ["contents"]) fun _ _ _ _ _ _ us hl => match us, hl with | [_], _ => rfl
  have g_checked := PySem.W.mg_of X G a_checked
  have F_joined := fun_mk (st := s_joined) l_joined c_joined k_joined
  have b_joined := F_joined.binds (ps := ["_law_rows"]) fun _ _ _ _ _ _ us hl => match us, hl with | [_], _ => rfl
  have g_joined := PySem.W.mg_of X G a_joined
  have F_due := fun_mk (st := s_due) l_due c_due k_due
  have b_due := F_due.binds (ps := ["_law_texts"]) fun _ _ _ _ _ _ us hl => match us, hl with | [_], _ => rfl
  have g_due := PySem.W.mg_of X G a_due
  have F_is_new := fun_mk (st := s_is_new) l_is_new c_is_new k_is_new
  have b_is_new := F_is_new.binds (ps := ["_law_made", "_law_due_here", "_law_boxes", "_law_texts", "_law_last"]) fun _ _ _ _ _ _ us hl => match us, hl with | [_, _, _, _, _], _ => rfl
  have g_is_new := PySem.W.mg_of X G a_is_new
  have F_law := fun_mk (st := s_law) l_law c_law k_law
  have b_law := F_law.binds (ps := ["_law_script"]) fun _ _ _ _ _ _ us hl => match us, hl with | [_], _ => rfl
  have g_law := PySem.W.mg_of X G a_law
  have F_Box_become := fun_mk (st := s_Box_become) l_Box_become c_Box_become k_Box_become
  have b_Box_become := F_Box_become.binds (ps := ["self", "contents"]) fun _ _ _ _ _ _ us hl => match us, hl with | [_, _], _ => rfl
  have F_Box_copied := fun_mk (st := s_Box_copied) l_Box_copied c_Box_copied k_Box_copied
  have b_Box_copied := F_Box_copied.binds (ps := ["self"]) fun _ _ _ _ _ _ us hl => match us, hl with | [_], _ => rfl
  have F_Box_joined := fun_mk (st := s_Box_joined) l_Box_joined c_Box_joined k_Box_joined
  have T : Top K mg := { z_len := PySem.W.mg_none_of X G z_len, z_abs := PySem.W.mg_none_of X G z_abs, z_list := PySem.W.mg_none_of X G z_list, z_int := PySem.W.mg_none_of X G z_int, z_isinstance := PySem.W.mg_none_of X G z_isinstance, z_str := PySem.W.mg_none_of X G z_str, z_range := PySem.W.mg_none_of X G z_range, z_max := PySem.W.mg_none_of X G z_max, z_min := PySem.W.mg_none_of X G z_min, z_zip := PySem.W.mg_none_of X G z_zip, g_MARKS := ⟨_, PySem.W.mg_of X G gM, ⟨_, rfl⟩⟩ }
  have B : BoxC K mg C_Box := { cl := ⟨pgB, hdB_, poB, saB⟩, nC := nCB, gB := ⟨_, PySem.W.mg_of X G aC_Box, rfl⟩, eq := ⟨nmB, qB, NB, bsB, hdB, snB, subB, abB, colB, ddB, b0, b1, b2, b3, b5, nidB, xLB, nsOk_of lNB okNB, neqB, nneB⟩, ca := caB, cn := cnB, ct := ctB, cm := cmB, kit := kit_self }
  have FI : FunD K "__init__" "Box.__init__" (defArgs s_Box__init) (defBody s_Box__init) (defScope s_Box__init) [.str ""] [] f_Box__init _ :=
    ⟨⟨_, _, _, _, _, _, _, _, _, _, rfl, l_Box__init, c_Box__init, .inr ⟨by simp, _, _, [.str "" tkD], _, rfl, d_Box__init, rfl, .cons ⟨_, rfl⟩ .nil⟩, .inl rfl⟩, k_Box__init⟩
  obtain ⟨ds2, dr2, bI2⟩ := FI.binds1 (ps := ["self", "contents"]) 2 1 (by simp) rfl (fun T kV doc pm an cdv ct us its hl hi => match us, hl, its, hi with | [_, _], _, [_], _ => ⟨_, rfl, rfl⟩)
  refine ⟨PySem.W.fnOf "law" "law" (defArgs s_law) (defBody s_law) (defScope s_law) .none kV_law dc_law pm_law an_law cd_law ct_law, fun s v => .of_eq rfl, fun base KB GB => ?_⟩
  have T_take := calOf F_take g_take b_take (ok_take (P := l.prog) (w := w) (base := base) F_take T)
  have T_of := calOf F_of g_of b_of (ok_of (P := l.prog) (w := w) (base := base) F_of T T_take)
  have T_contents := calOf F_contents g_contents b_contents (ok_contents (P := l.prog) (w := w) (base := base) F_contents T T_take T_of)
  have T_bag := calOf F_bag g_bag b_bag (ok_bag (P := l.prog) (w := w) (base := base) F_bag T)
  have T_either := calOf F_either g_either b_either (ok_either (P := l.prog) (w := w) (base := base) F_either T)
  have T_are_contents := calOf F_are_contents g_are_contents b_are_contents (ok_are (P := l.prog) (w := w) (base := base) F_are_contents T T_either)
  have T_checked := calOf F_checked g_checked b_checked (ok_checked (P := l.prog) (w := w) (base := base) F_checked T_are_contents)
  have G_init := ok_init (P := l.prog) (w := w) (base := base) FI B T_checked
  have T_Box : Mak l.prog w K mg base 4 "Box" C_Box (spInit C_Box) [] := ⟨f_Box__init, _, _, ds2, ⟨mkB, a_Box__init, i_Box__init, kcB⟩, G_init, PySem.W.mg_of X G aC_Box, bI2, dr2⟩
  have T_Box_become : Met l.prog w K mg base 4 C_Box "become" (spBecome C_Box) [] := ⟨_, _, _, [], B.cl, ⟨a_Box_become, i_Box_become, k_Box_become⟩, ok_become F_Box_become B T_checked, b_Box_become, .nil⟩
  have T_Box_copied : Met l.prog w K mg base 6 C_Box "copied" (spCopied C_Box) [] := ⟨_, _, _, [], B.cl, ⟨a_Box_copied, i_Box_copied, k_Box_copied⟩, ok_copied F_Box_copied B T_Box, b_Box_copied, .nil⟩
  have ST : StatC K mg "Box" C_Box "joined" f_Box_joined := ⟨PySem.W.mg_of X G aC_Box, rdB, tgB, ⟨pJ, restJ, stJ, rcJ⟩, k_Box_joined⟩
  have FJ := ok_joinedS (P := l.prog) (w := w) (base := base) F_Box_joined B T_either T_Box
  have T_joined := calOf F_joined g_joined b_joined (ok_joinedL (P := l.prog) (w := w) (base := base) F_joined T ST FJ)
  have T_due := calOf F_due g_due b_due (ok_due (P := l.prog) (w := w) (base := base) F_due T)
  have T_is_new := calOf F_is_new g_is_new b_is_new (ok_is_new (P := l.prog) (w := w) (base := base) F_is_new T B T_Box_become)
  exact ok_law F_law T B T_bag T_take T_contents T_Box T_joined T_due T_is_new T_Box_copied

theorem walk {l : PySem.W.OpenLaw} {q : Program} {loose : List Str} {XP : (Str → Option Value) → Heap → Prop} {YP : World → Heap → Prop} {d : DefRec} {K : Params → PySem.W.Frag} (hn : l.most = some 63) (hdf : d.params.defaults = [])
    (hY : ∀ (w : World) (h : Heap), YP w h → (K w.params).In h)
    (F : ∀ (w : World) (mg : Str → Option Value) (fa : Addr) (h : Heap), (K w.params).In h → h.Ns mainGlobals mg → mg d.name = some (.ref fa) →
      ∃ fd : FuncData, (∀ (s : Shared) (u : Value), BindsTo s fd ⟨[u], []⟩ [("_law_script", u)]) ∧ ∀ base : Heap, (K w.params).In base → base.Ns mainGlobals mg → FnOk l.prog w (K w.params) mg base CX0 8 fa fd ["_law_script"] (spLaw (K w.params))) :
    PySem.W.WalkO q loose XP YP l.row.toRowW d [] (fun f vs => PySem.call f vs) :=
  L2.walk_of (n := 63) (k := 8) (x := "_law_script") (CX := fun _ => CX0) (sp := fun w => spLaw (K w.params)) hn (by decide) hdf ⟨rfl, by decide, by decide⟩ hY F (fun _ _ a ns hl _ hS => ⟨a, ns, rfl, hS, hl, fun _ => rfl⟩) fun _ _ _ _ _ z => z
-- 63

end W6
open PySem PySem.W PyProof.Rows in
set_option maxRecDepth 100000 in
set_option maxHeartbeats 0 in
theorem PySem.Challenge.cw_workerworlds_k06_boxes_joined_and_copied_holds : PySem.Challenge.rw_workerworlds_k06_boxes_joined_and_copied.Holds := by
  w_on; o_law; k_head; (case hw => w_witness2)
  k_fill
  refine W6.walk (l := PySem.Challenge.rw_workerworlds_k06_boxes_joined_and_copied) rfl rfl (fun w h Y => PySem.W.kIn_of Y) ?F
  case F =>
    intro w mg fa h KX G hmg
    refine' W6.all_mk KX G hmg ?aC_Box ?a_bag ?l_bag ?c_bag ?k_bag ?a_take ?l_take ?c_take ?k_take ?a_of ?l_of ?c_of ?k_of ?a_contents ?l_contents ?c_contents ?k_contents ?a_either ?l_either ?c_either ?k_either ?a_are_contents ?l_are_contents ?c_are_contents ?k_are_contents ?a_checked ?l_checked ?c_checked ?k_checked ?a_joined ?l_joined ?c_joined ?k_joined ?a_due ?l_due ?c_due ?k_due ?a_is_new ?l_is_new ?c_is_new ?k_is_new ?a_law ?l_law ?c_law ?k_law ?a_Box__init ?i_Box__init ?l_Box__init ?c_Box__init ?k_Box__init ?d_Box__init ?a_Box_become ?i_Box_become ?l_Box_become ?c_Box_become ?k_Box_become ?a_Box_copied ?i_Box_copied ?l_Box_copied ?c_Box_copied ?k_Box_copied ?stJ ?rcJ ?rdB ?tgB ?l_Box_joined ?c_Box_joined ?k_Box_joined ?gM ?z_len ?z_abs ?z_list ?z_int ?z_isinstance ?z_str ?z_range ?z_max ?z_min ?z_zip ?pgB ?hdB_ ?poB ?saB ?mkB ?kcB ?nCB ?xLB ?lNB ?okNB ?neqB ?nneB ?caB ?cnB ?ctB ?cmB ?sfB
    (case aC_Box => k_is)
    (case a_bag => k_is)
    (case l_bag => k_is)
    (case c_bag => k_is)
    (case k_bag => k_is)
    (case a_take => k_is)
    (case l_take => k_is)
    (case c_take => k_is)
    (case k_take => k_is)
    (case a_of => k_is)
    (case l_of => k_is)
    (case c_of => k_is)
    (case k_of => k_is)
    (case a_contents => k_is)
    (case l_contents => k_is)
    (case c_contents => k_is)
    (case k_contents => k_is)
    (case a_either => k_is)
    (case l_either => k_is)
    (case c_either => k_is)
    (case k_either => k_is)
    (case a_are_contents => k_is)
    (case l_are_contents => k_is)
    (case c_are_contents => k_is)
    (case k_are_contents => k_is)
    (case a_checked => k_is)
    (case l_checked => k_is)
    (case c_checked => k_is)
    (case k_checked => k_is)
    (case a_joined => k_is)
    (case l_joined => k_is)
    (case c_joined => k_is)
    (case k_joined => k_is)
    (case a_due => k_is)
    (case l_due => k_is)
    (case c_due => k_is)
    (case k_due => k_is)
    (case a_is_new => k_is)
    (case l_is_new => k_is)
    (case c_is_new => k_is)
    (case k_is_new => k_is)
    (case a_law => k_is)
    (case l_law => k_is)
    (case c_law => k_is)
    (case k_law => k_is)
    (case a_Box__init => k_is)
    (case i_Box__init => k_is)
    (case l_Box__init => k_is)
    (case c_Box__init => k_is)
    (case k_Box__init => k_is)
    (case d_Box__init => k_is)
    (case a_Box_become => k_is)
    (case i_Box_become => k_is)
    (case l_Box_become => k_is)
    (case c_Box_become => k_is)
    (case k_Box_become => k_is)
    (case a_Box_copied => k_is)
    (case i_Box_copied => k_is)
    (case l_Box_copied => k_is)
    (case c_Box_copied => k_is)
    (case k_Box_copied => k_is)
    (case stJ => k_is)
    (case rcJ => k_is)
    (case rdB => k_is)
    (case tgB => k_is)
    (case l_Box_joined => k_is)
    (case c_Box_joined => k_is)
    (case k_Box_joined => k_is)
    (case gM => k_is)
    (case z_len => k_is)
    (case z_abs => k_is)
    (case z_list => k_is)
    (case z_int => k_is)
    (case z_isinstance => k_is)
    (case z_str => k_is)
    (case z_range => k_is)
    (case z_max => k_is)
    (case z_min => k_is)
    (case z_zip => k_is)
    (case pgB => k_is)
    (case hdB_ => k_is)
    (case poB => k_is)
    (case saB => k_is)
    (case mkB => k_is)
    (case kcB => k_is)
    (case nCB => k_is)
    (case xLB => k_is)
    (case lNB => k_is)
    (case okNB => rfl)
    (case neqB => k_is)
    (case nneB => k_is)
    (case caB => k_is)
    (case cnB => k_is)
    (case ctB => k_is)
    (case cmB => k_is)
    (case sfB => k_is)


