import PyProof.Rows.All
import Wide.All
import OpenK.AllK
import Wide.FinOn
import HandS.ForMost
import HandS.Codes
import HandS.Walk
import HandS.Wide
import HandS.IsInst
import HandS.Style
import HandS.Exc
import HandS.TryOnly
import HandS.ExcOwn
import HandS.WordsExc
import HandS.Defaults
import HandS.Steps
import HandS.Property
import HandS.StrMore
import HandS.TupLe
import PySem.Challenge.RW_workerworlds_k04_marks_in_boxes
set_option Elab.async false
set_option linter.all false
set_option maxRecDepth 100000
set_option maxHeartbeats 4000000
namespace WB
open PySem L2
/-! ### marks -/
def mk : List Nat := List.range' 65 26 ++ List.range' 97 26
abbrev S (l : List Nat) : Str := ⟨l.toArray⟩
def sb (p : Nat → Bool) : Str := S (mk.filter p)
def mem (z : Str) (c : Nat) : Bool := decide (c ∈ z.cps.toList)
def IsC (z : Str) : Prop := ∃ p, z = sb p
theorem marks_eq : ("ABCDEFGHIJKLMNOPQRSTUVWXYZabcdefghijklmnopqrstuvwxyz" : Str) = S mk := by decide +kernel
theorem mem_sb (p : Nat → Bool) (c : Nat) : mem (sb p) c = (decide (c ∈ mk) && p c) := by
  unfold mem sb
  simp [List.mem_filter]
theorem sb_ext {p q : Nat → Bool} (h : ∀ c ∈ mk, p c = q c) : sb p = sb q := by
  unfold sb
  rw [List.filter_congr h]
theorem IsC.eq {z : Str} (h : IsC z) : z = sb (mem z) := by
  obtain ⟨p, rfl⟩ := h
  exact sb_ext fun c hc => by rw [mem_sb, decide_eq_true hc, Bool.true_and]
theorem sb_len (p : Nat → Bool) : (sb p).length ≤ 52 := by
  show (mk.filter p).toArray.size ≤ 52
  rw [List.size_toArray]
  exact List.length_filter_le p mk
/-! ### heaps -/
/-- all that was tracked is as it was, but what stands at p -/
def Bar (p : Addr) (H H' : Hp) : Prop := ∀ b o, b ≠ p → H b = some o → H' b = some o
theorem Bar.refl (p : Addr) (H : Hp) : Bar p H H := fun _ _ _ h => h
theorem Bar.trans {p : Addr} {H H1 H2 : Hp} (a : Bar p H H1) (b : Bar p H1 H2) : Bar p H H2 := fun c o n h => b c o n (a c o n h)
theorem bar_of {p : Addr} {H H' : Hp} (a : Same H H') : Bar p H H' := fun c o _ h => a c o h
theorem same_new {H : Hp} {p : Addr} {o : HO} (h : H p = none) : Same H (upd H p o) := fun b u e => by
  rw [upd_ne (ne_of_none e h)]
  exact e
theorem bar_upd {p : Addr} {H : Hp} {o : HO} : Bar p H (upd H p o) := fun b u n e => by
  rw [upd_ne n]
  exact e
theorem bar_new {p q : Addr} {H : Hp} {o : HO} (h : H q = none) : Bar p H (upd H q o) := fun b u _ e => same_new h b u e
/-! ### readings: the joining of two ways -/
theorem ite_val {c : Bool} {te1 te2 : TE} {σ : L2.St} {H : Hp} {Q : VK} (C : V → Hp → Prop) (h1 : c = true → ∀ Q' : VK, (∀ v H', C v H' → Q' v H') → te1 σ H Q')
    (h2 : c = false → ∀ Q' : VK, (∀ v H', C v H' → Q' v H') → te2 σ H Q') (h : ∀ v H', C v H' → Q v H') : if c = true then te1 σ H Q else te2 σ H Q := by
  cases c with
  | true => exact iteT (h1 rfl Q h)
  | false => exact iteF (h2 rfl Q h)
theorem ite_b {c : Bool} {A B : Prop} (h1 : c = true → A) (h2 : c = false → B) : if c = true then A else B := by
  cases c with
  | true => exact iteT (h1 rfl)
  | false => exact iteF (h2 rfl)
theorem ints_at {ns : List Int} {i : Nat} (h : i < ns.length) : (ns.map V.int)[i]? = some (V.int (ns[i]'h)) := by
  rw [List.getElem?_map, List.getElem?_eq_getElem h]
  rfl
theorem abs_nonneg (n : Int) : 0 ≤ (if n < 0 then -n else n) := by
  split <;> omega
theorem cut_to (xs : List V) (k : Nat) : cutV xs none (some (k : Int)) = xs.take k := by
  unfold cutV
  rw [HT.sIx_none, HT.sIx_nat, List.drop_zero, Nat.sub_zero]
  by_cases h : k ≤ xs.length
  · rw [Nat.min_eq_left h]
  · rw [Nat.min_eq_right (by omega), List.take_of_length_le (Nat.le_refl _), List.take_of_length_le (by omega)]
theorem cdw {i j : Int} (h : 0 < j) (h2 : j < 2 ^ 200) : CDivW i j := by
  refine ⟨h, ?_⟩
  have e : (j.natAbs : Int) = j := Int.natAbs_of_nonneg (by omega)
  have h3 : j.natAbs < 2 ^ 200 := by
    have : (j.natAbs : Int) < ((2 ^ 200 : Nat) : Int) := by
      rw [e]
      exact h2
    exact Int.ofNat_lt.mp this
  exact Nat.lt_trans ((Nat.log2_lt (by omega)).mpr h3) (by decide)
/-! ### data -/
theorem dp_all_ints {K : PySem.W.Frag} {H : Hp} : ∀ ns : List Int, DpAll K H (ns.map V.int) (ns.map PyData.int)
  | [] => .nil
  | n :: r => .cons (.int n) (dp_all_ints r)
theorem dp_ints {K : PySem.W.Frag} {H : Hp} {a : Addr} {ns : List Int} (h : SqL K H a (ns.map V.int)) : Dp K H (.ref a) (.list (ns.map PyData.int)) := .lst h (dp_all_ints ns)
theorem lay_ints : ∀ ns : List Int, PyData.canLayAll0 (ns.map PyData.int) = true ∧ PyData.depthAll (ns.map PyData.int) = 0
  | [] => ⟨rfl, rfl⟩
  | n :: r => by
    obtain ⟨h1, h2⟩ := lay_ints r
    refine ⟨?_, ?_⟩
    · show (PyData.canLay0 (.int n) && PyData.canLayAll0 (r.map PyData.int)) = true
      rw [h1]
      rfl
    · show max (PyData.depth (.int n)) (PyData.depthAll (r.map PyData.int)) = 0
      rw [h2]
      rfl
theorem shaped_ints (ns : List Int) : SeqAt.shaped (.list (ns.map PyData.int)) = true := by
  obtain ⟨h1, h2⟩ := lay_ints ns
  have e1 : PyData.canLay0 (.list (ns.map PyData.int)) = true := h1
  have e2 : PyData.depth (.list (ns.map PyData.int)) ≤ 64 := by
    show PyData.depthAll (ns.map PyData.int) + 1 ≤ 64
    omega
  unfold SeqAt.shaped
  rw [e1, decide_eq_true e2]
  rfl
theorem eqv_nil_ints (ns : List Int) : PyData.eqv (.list (ns.map PyData.int)) (.list []) = decide (ns = []) := by
  cases ns with
  | nil => rfl
  | cons n r =>
    rw [decide_eq_false (by simp)]
    rfl
/-! ### the bag of draws -/
def BagAt (H : Hp) (p q : Addr) : Prop := ∃ (c s i : Int) (ns : List Int),
  H p = some (.lst [.int c, .int s, .int i, .ref q]) ∧ H q = some (.lst (ns.map V.int)) ∧ ns.length ≤ 63 ∧ 0 ≤ c ∧ 0 ≤ s ∧ s < 2 ^ 40 ∧ 0 ≤ i
theorem BagAt.same {H H' : Hp} {p q : Addr} (h : BagAt H p q) (e : Same H H') : BagAt H' p q := by
  obtain ⟨c, s, i, ns, h1, h2, h3⟩ := h
  exact ⟨c, s, i, ns, e _ _ h1, e _ _ h2, h3⟩
theorem BagAt.bar {H H' : Hp} {p q x : Addr} (h : BagAt H p q) (e : Bar x H H') (n : p ≠ x) (m : q ≠ x) : BagAt H' p q := by
  obtain ⟨c, s, i, ns, h1, h2, h3⟩ := h
  exact ⟨c, s, i, ns, e _ _ n h1, e _ _ m h2, h3⟩
theorem BagAt.pq {H : Hp} {p q : Addr} (h : BagAt H p q) : q ≠ p := fun e => by
  obtain ⟨c, s, i, ns, h1, h2, _⟩ := h
  rw [e, h1] at h2
  have e2 := congrArg (fun l : List V => l[3]?) (HO.lst.inj (Option.some.inj h2))
  have e3 : (some (V.ref q) : Option V) = (ns.map V.int)[3]? := e2
  rw [List.getElem?_map] at e3
  cases e4 : ns[3]? <;> rw [e4] at e3 <;> cases e3
theorem BagAt.there {H : Hp} {p q l : Addr} (h : BagAt H p q) (hl : H l = none) : l ≠ p := by
  obtain ⟨c, s, i, ns, h1, _⟩ := h
  exact (ne_of_none h1 hl).symm
theorem BagAt.there2 {H : Hp} {p q l : Addr} (h : BagAt H p q) (hl : H l = none) : l ≠ q := by
  obtain ⟨c, s, i, ns, _, h1, _⟩ := h
  exact (ne_of_none h1 hl).symm
def spBag (K : PySem.W.Frag) : Sp := fun vs H Q _ => ∃ (a : Addr) (ns : List Int) (j : Nat), vs = [.ref a, .int (j : Int)] ∧ SqL K H a (ns.map V.int) ∧ ns.length ≤ 63 ∧ j < 63 ∧
  ∀ H' p q, Same H H' → H p = none → H q = none → BagAt H' p q → Q (.ref p) H'
def spTake : Sp := fun vs H Q _ => ∃ (p q : Addr) (m : Int), vs = [.ref p, .int m] ∧ BagAt H p q ∧ 0 < m ∧ m < 2 ^ 200 ∧
  ∀ H' (d : Int), Bar p H H' → BagAt H' p q → 0 ≤ d → d < m → Q (.int d) H'
/-! ### parts of the marks -/
theorem sub_filter {m l : List Nat} (h : l.Sublist m) : m.Nodup → l = m.filter (fun c => decide (c ∈ l)) := by
  induction h with
  | slnil => intro _; rfl
  | @cons l m a h ih =>
    intro hn
    have hn2 := List.nodup_cons.mp hn
    have ha : a ∉ l := fun q => hn2.1 (h.subset q)
    rw [List.filter_cons_of_neg (by simp [ha])]
    exact ih hn2.2
  | @cons_cons l m a h ih =>
    intro hn
    have hn2 := List.nodup_cons.mp hn
    rw [List.filter_cons_of_pos (by simp)]
    have e := ih hn2.2
    have e2 : m.filter (fun c => decide (c ∈ a :: l)) = m.filter (fun c => decide (c ∈ l)) := List.filter_congr fun c hc => by
      have hca : c ≠ a := fun q => hn2.1 (q ▸ hc)
      simp [hca]
    rw [e2, ← e]
theorem mk_nodup : mk.Nodup := by decide +kernel
theorem mk_len : mk.length = 52 := by decide +kernel
theorem isC_of {l : List Nat} (h : l.Sublist mk) : IsC (S l) := ⟨fun c => decide (c ∈ l), congrArg S (sub_filter h mk_nodup)⟩
theorem sub_step {l : List Nat} {i c : Nat} (h : l.Sublist (mk.take i)) (hc : mk[i]? = some c) : (l ++ [c]).Sublist (mk.take (i + 1)) ∧ l.Sublist (mk.take (i + 1)) := by
  have e : mk.take (i + 1) = mk.take i ++ [c] := by
    rw [List.take_add_one, hc]
    rfl
  rw [e]
  exact ⟨List.Sublist.append h (List.Sublist.refl _), h.trans (List.sublist_append_left _ _)⟩
def sg (c : Nat) : V := .str ⟨#[c]⟩
theorem joinL_one : ∀ l : List Nat, TL.joinL [] (l.map fun c => [c]) = l
  | [] => rfl
  | [c] => rfl
  | c :: d :: r => by
    have ih := joinL_one (d :: r)
    show [c] ++ [] ++ TL.joinL [] ((d :: r).map fun c => [c]) = c :: d :: r
    rw [ih]
    rfl
theorem join_signs (l : List Nat) : Txt.join (S []) (l.map fun c => S [c]) = S l := by
  have e := SX.join_S [] (l.map fun c => [c])
  rw [List.map_map] at e
  rw [joinL_one] at e
  exact e
def spOf : Sp := fun vs H Q _ => ∃ (p q : Addr) (y : V), vs = [.ref p, y] ∧ BagAt H p q ∧
  ((∃ l xs, y = .ref l ∧ l ≠ p ∧ H l = some (.lst xs) ∧ 0 < xs.length ∧ xs.length < 1000 ∧ ∀ H' x, Bar p H H' → BagAt H' p q → x ∈ xs → Q x H') ∨
   (∃ z : List Nat, y = .str (S z) ∧ 0 < z.length ∧ z.length < 1000 ∧ ∀ H' c, Bar p H H' → BagAt H' p q → c ∈ z → Q (sg c) H'))
def spContents : Sp := fun vs H Q _ => ∃ p q : Addr, vs = [.ref p] ∧ BagAt H p q ∧ ∀ H' z, Bar p H H' → BagAt H' p q → IsC z → Q (.str z) H'
theorem mk_at {i c : Nat} (h : (("ABCDEFGHIJKLMNOPQRSTUVWXYZabcdefghijklmnopqrstuvwxyz" : Str)).cps[i]? = some c) : mk[i]? = some c := by
  rw [marks_eq] at h
  rw [← List.getElem?_toArray]
  exact h
theorem arr_at {z : Str} {i c : Nat} (h : z.cps[i]? = some c) : z.cps.toList[i]? = some c := by
  rw [Array.getElem?_toList]
  exact h
/-- the signs of the first i that keep t -/
def filt (z : List Nat) (t : Nat → Bool) (i : Nat) : List V := ((z.take i).filter t).map sg
theorem filt_yes {z : List Nat} {t : Nat → Bool} {i c : Nat} (h : z[i]? = some c) (ht : t c = true) : filt z t (i + 1) = filt z t i ++ [sg c] := by
  unfold filt
  rw [List.take_add_one, h]
  show ((z.take i ++ [c]).filter t).map sg = _
  rw [List.filter_append, List.filter_cons_of_pos ht, List.filter_nil, List.map_append]
  rfl
theorem filt_no {z : List Nat} {t : Nat → Bool} {i c : Nat} (h : z[i]? = some c) (ht : t c = false) : filt z t (i + 1) = filt z t i := by
  unfold filt
  rw [List.take_add_one, h]
  show ((z.take i ++ [c]).filter t).map sg = _
  rw [List.filter_append, List.filter_cons_of_neg (by rw [ht]; exact Bool.false_ne_true), List.filter_nil, List.append_nil]
theorem filt_len {z : List Nat} {t : Nat → Bool} {i : Nat} : (filt z t i).length ≤ z.length := by
  unfold filt
  rw [List.length_map]
  exact Nat.le_trans (List.length_filter_le _ _) (by rw [List.length_take]; omega)
theorem filt_end {z : List Nat} {t : Nat → Bool} {n : Nat} (h : z.length ≤ n) : filt z t n = (z.filter t).map sg := by
  unfold filt
  rw [List.take_of_length_le h]
theorem sum_ones : ∀ l : List Nat, ((l.map fun c => S [c]).map (·.length)).sum = l.length
  | [] => rfl
  | c :: r => by
    have ih := sum_ones r
    show 1 + ((r.map fun c => S [c]).map (·.length)).sum = r.length + 1
    rw [ih]
    omega
theorem join_ok {K : PySem.W.Frag} {H : Hp} {p : Addr} {Q : VK} (l : List Nat) (hl : l.length ≤ 1000000) (hp : H p = some (.lst (l.map sg))) (q : Q (.str (S l)) H) :
    ∃ (a : Str) (p' : Addr) (ys : List Str), V.str "" = .str a ∧ [V.ref p] = [.ref p'] ∧ (SqL K H p' (ys.map V.str) ∨ SqT K H p' (ys.map V.str)) ∧ (ys.map (·.length)).sum + ys.length * a.length ≤ 16777216 ∧ Q (.str (Txt.join a ys)) H := by
  have e : ("" : Str) = S [] := by decide +kernel
  refine ⟨S [], p, l.map fun c => S [c], by rw [e], rfl, .inl (SqL.of ?_), ?_, ?_⟩
  · rw [List.map_map]
    exact hp
  · rw [sum_ones]
    show l.length + _ * 0 ≤ _
    omega
  · rw [join_signs]
    exact q
theorem mk_size : ("ABCDEFGHIJKLMNOPQRSTUVWXYZabcdefghijklmnopqrstuvwxyz" : Str).cps.size = 52 := by decide +kernel
/-! ### strings of marks -/
def spEither : Sp := fun vs H Q _ => ∃ a b : Str, vs = [.str a, .str b] ∧ ∀ H', Same H H' → Q (.str (sb fun c => mem a c || mem b c)) H'
def spBoth : Sp := fun vs H Q _ => ∃ a b : Str, vs = [.str a, .str b] ∧ a.length ≤ 1000000 ∧ ∀ H', Same H H' → Q (.str (S (a.cps.toList.filter fun c => mem b c))) H'
def spWithout : Sp := fun vs H Q _ => ∃ a b : Str, vs = [.str a, .str b] ∧ a.length ≤ 1000000 ∧ ∀ H', Same H H' → Q (.str (S (a.cps.toList.filter fun c => !mem b c))) H'
def spExactly : Sp := fun vs H Q _ => ∃ a b : Str, vs = [.str a, .str b] ∧ IsC a ∧ IsC b ∧ ∀ H', Same H H' → Q (.str (sb fun c => mem a c != mem b c)) H'
/-! ### own classes: is it the same object; the signs -/
structure EqC (K : PySem.W.Frag) (C : Addr) : Prop where
  ex : ∃ nm q N bs hdct sn sub ab col dd k0 k1 k2 k3 k5 newId, K.lookup C = some (excClassObj nm q C N bs [.type "object"] hdct sn sub ab col dd k0 k1 k2 k3 k5 newId) ∧
    PySem.W.nsOkIn K N = true ∧ PySem.W.nsIn K N "__eq__" = some none ∧ PySem.W.nsIn K N "__ne__" = some none
theorem EqC.inst {K : PySem.W.Frag} {C a dx : Addr} {h : Heap} (E : EqC K C) (X : K.In h) (e : h.get? a = some (PySem.W.instObj C dx)) : h.CmpInst a C [.type "object"] := by
  obtain ⟨nm, q, N, bs, hdct, sn, sub, ab, col, dd, k0, k1, k2, k3, k5, newId, h1, h2, h3, h4⟩ := E.ex
  exact ⟨_, nm, q, N, bs, hdct, sn, sub, ab, col, dd, k0, k1, k2, k3, k5, newId, h.nsMap N, e, rfl, X _ _ h1, .of_isNs (PySem.W.isNs_of_in X h2), PySem.W.nsMap_none_of_in X h2 h3, PySem.W.nsMap_none_of_in X h2 h4⟩
section
variable {X : Cx} {C : Addr}
theorem ins_at {pins : List (Addr × Obj)} {σ : L2.St} {H : Hp} {s : Shared} {a dx : Addr} {fs : List (Str × V)} (I : Inv X pins σ H s) (e : H a = some (.ins C dx fs)) : s.heap.get? a = some (PySem.W.instObj C dx) := by
  obtain ⟨_, _, _, e2, _⟩ := (show ObjOk X.prog X.w H s.heap a (.ins C dx fs) from I.hok a _ e)
  exact e2
def rSame (C : Addr) (f : Bool → Bool) : R2 := fun x y H Q => ∃ a b dx fs dx' fs', x = .ref a ∧ y = .ref b ∧ H a = some (.ins C dx fs) ∧ H b = some (.ins C dx' fs') ∧ Q (.bl (f (decide (a = b)))) H
theorem op_eqO (E : EqC X.K C) (hu : X.A.units + 1 < cLine) : OpR X (compareOp .Eq) (rSame C id) := by
  intro pins s σ H x y v u Q I rx ry h
  obtain ⟨a, b, dx, fs, dx', fs', rfl, rfl, ha, hb, q⟩ := h
  obtain rfl : v = Value.ref a := rx
  obtain rfl : u = Value.ref b := ry
  have e1 := E.inst I.kIn (ins_at I ha)
  have e2 := E.inst I.kIn (ins_at I hb)
  obtain ⟨hh, g, d, t, os⟩ := s
  by_cases c : a = b
  · subst c
    refine compareOp_eq_same PySem.F.cmp_object e1 (by omega) ⟨.bl true, H, I, rfl, ?_⟩
    rw [decide_eq_true rfl] at q
    exact q
  · refine compareOp_eq_other PySem.F.cmp_object PySem.F.cmp_object e1 e2 c (by omega) ⟨.bl false, H, I, rfl, ?_⟩
    rw [decide_eq_false c] at q
    exact q
theorem op_neO (E : EqC X.K C) (hu : X.A.units + 1 < cLine) : OpR X (compareOp .NotEq) (rSame C not) := by
  intro pins s σ H x y v u Q I rx ry h
  obtain ⟨a, b, dx, fs, dx', fs', rfl, rfl, ha, hb, q⟩ := h
  obtain rfl : v = Value.ref a := rx
  obtain rfl : u = Value.ref b := ry
  have e1 := E.inst I.kIn (ins_at I ha)
  have e2 := E.inst I.kIn (ins_at I hb)
  obtain ⟨hh, g, d, t, os⟩ := s
  by_cases c : a = b
  · subst c
    refine compareOp_ne_same PySem.F.cmp_object e1 hu ⟨.bl false, H, I, rfl, ?_⟩
    rw [decide_eq_true rfl] at q
    exact q
  · refine compareOp_ne_other PySem.F.cmp_object PySem.F.cmp_object e1 e2 c hu ⟨.bl true, H, I, rfl, ?_⟩
    rw [decide_eq_false c] at q
    exact q
/-- one sign of an own class: x op y, by its method -/
structure SignC (K : PySem.W.Frag) (C : Addr) (nm : Str) (f : Addr) : Prop where
  first : PySem.W.selfFirst K C = true
  at_ : PySem.W.findIn K (.ref C) nm = some (some (.ref f))
  fn : PySem.W.isFn K (.ref f) = true
def rSign (C : Addr) (sp : Sp) (E : XK) : R2 := fun x y H Q => ∃ a b dx fs dx' fs', x = .ref a ∧ y = .ref b ∧ H a = some (.ins C dx fs) ∧ H b = some (.ins C dx' fs') ∧ sp [.ref a, .ref b] H (fun v H' => (∃ c, v = .ref c) ∧ Q v H') E
theorem op_sign {CX : CXT} {k : Nat} {f : Addr} {fd : FuncData} {ps : List Str} {sp : Sp} {E : XK} {op : Operator} (S : SignC X.K C (PySem.dunder op.info.2) f) (F : FnOk X.prog X.w X.K X.mg X.base CX k f fd ps sp) (hr : Room k X.A) (hb : Binds X.K fd ps []) (hx : Passes CX X E) :
    OpR X (binaryOp op) (rSign C sp E) := by
  intro pins s σ H x y v u Q I rx ry h
  obtain ⟨a, b, dx, fs, dx', fs', rfl, rfl, ha, hb2, q⟩ := h
  obtain rfl : v = Value.ref a := rx
  obtain rfl : u = Value.ref b := ry
  obtain ⟨m, Fm⟩ := I.fr
  obtain ⟨mA, O, _, _, _, _⟩ := ins_get I.hok ha
  obtain ⟨od, J, _⟩ := O.look
  obtain ⟨mB, O2, _, _, _, _⟩ := ins_get I.hok hb2
  obtain ⟨od2, J2, _⟩ := O2.look
  refine PySem.W.binop_K Fm I.mod.kin J J2.type S.first S.at_ S.fn ?_
  refine wpAny_mono (run_fn F hr hb .nil hx I (us := [.ref a, .ref b]) (vs := [.ref a, .ref b]) (.cons rfl (.cons rfl .nil)) q) (fun r s' hq => ?_) fun _ _ e => e
  obtain ⟨z, H', I', rz, ⟨c, rfl⟩, q'⟩ := hq
  obtain rfl : r = Value.ref c := rz
  exact ⟨.ref c, H', I', rfl, q'⟩
end
/-! ### boxes -/
def boxF (z : Str) : List (Str × V) := [("contents", .str z)]
def BoxAt (C : Addr) (H : Hp) (a : Addr) (z : Str) : Prop := ∃ dx, H a = some (.ins C dx (boxF z))
theorem boxF_lk (z : Str) : (boxF z).lookup ("contents" : Str) = some (.str z) := by simp [boxF, List.lookup]
theorem boxF_put (z y : Str) : putF "contents" (.str y) (boxF z) = boxF y := by
  show (if ("contents" : Str) = "contents" then _ else _) = _
  rw [if_pos rfl]
  rfl
theorem boxF_new (y : Str) : putF "contents" (.str y) [] = boxF y := rfl
theorem boxF_no (z : Str) {m : Str} (h : ¬ m = "contents") : (boxF z).lookup m = none := by
  have e : (m == ("contents" : Str)) = false := by simpa using h
  simp [boxF, List.lookup, e]
theorem BoxAt.same {C a : Addr} {H H' : Hp} {z : Str} (h : BoxAt C H a z) (e : Same H H') : BoxAt C H' a z := by
  obtain ⟨dx, h⟩ := h
  exact ⟨dx, e _ _ h⟩
theorem BoxAt.bar {C a p : Addr} {H H' : Hp} {z : Str} (h : BoxAt C H a z) (e : Bar p H H') (n : a ≠ p) : BoxAt C H' a z := by
  obtain ⟨dx, h⟩ := h
  exact ⟨dx, e _ _ n h⟩
theorem BoxAt.ne {C a b : Addr} {H : Hp} {z : Str} (h : BoxAt C H a z) (hb : H b = none) : a ≠ b := by
  obtain ⟨dx, h⟩ := h
  exact ne_of_none h hb
theorem BoxAt.one {C a : Addr} {H : Hp} {y z : Str} (h : BoxAt C H a z) (h2 : BoxAt C H a y) : z = y := by
  obtain ⟨dx, h⟩ := h
  obtain ⟨dy, h2⟩ := h2
  rw [h] at h2
  have e := Option.some.inj h2
  injection e with _ _ e
  have e3 := congrArg (fun l : List (Str × V) => l.lookup ("contents" : Str)) e
  rw [boxF_lk, boxF_lk] at e3
  injection e3 with e3
  injection e3
theorem BoxAt.bag {C a p q : Addr} {H : Hp} {z : Str} (h : BoxAt C H a z) (hb : BagAt H p q) : a ≠ p := by
  obtain ⟨dx, h⟩ := h
  obtain ⟨c, s, i, ns, h1, _⟩ := hb
  exact ne_of h h1 (by intro e; cases e)
theorem BoxAt.bag2 {C a p q : Addr} {H : Hp} {z : Str} (h : BoxAt C H a z) (hb : BagAt H p q) : a ≠ q := by
  obtain ⟨dx, h⟩ := h
  obtain ⟨c, s, i, ns, _, h1, _⟩ := hb
  exact ne_of h h1 (by intro e; cases e)
/-- what the top says of Box -/
structure BoxC (K : PySem.W.Frag) (mg : Str → Option Value) (C : Addr) : Prop where
  cl : Cls K C
  nC : NoAttr K C "contents"
  gB : ∃ u, mg "Box" = some u ∧ RelV (.ref C) u
  eq : EqC K C
  ca : PySem.W.findIn K (.ref C) "__class__" = some (some (.builtin "object.__class__"))
  cn : PySem.W.specialIn K (.builtin "object.__class__") "__get__" = some (some (.builtin "getset_descriptor.__get__"))
  ct : PySem.W.takesIn K (.builtin "object.__class__") = some true
  cm : PySem.W.mroIn K C (.type "object") = some true
  kit : PySem.W.kitOne K (.ref C) (.ref C) = some true
theorem BoxC.ty {K : PySem.W.Frag} {mg : Str → Option Value} {C a dx : Addr} {H : Hp} {fs : List (Str × V)} (B : BoxC K mg C) (h : H a = some (.ins C dx fs)) : TyX K H (.ref a) (.ref C) :=
  .base (.ins h B.cl B.ca B.cn B.ct B.cm)
def spInit (C : Addr) : Sp := fun vs H Q _ => ∃ (a dx : Addr) (z : Str), vs = [.ref a, .str z] ∧ H a = some (.ins C dx []) ∧ IsC z ∧ ∀ H', Bar a H H' → BoxAt C H' a z → Q .non H'
def spBecome (C : Addr) : Sp := fun vs H Q _ => ∃ (a : Addr) (y z : Str), vs = [.ref a, .str z] ∧ BoxAt C H a y ∧ IsC z ∧ ∀ H', Bar a H H' → BoxAt C H' a z → Q .non H'
def spSign (C : Addr) (g : Bool → Bool → Bool) : Sp := fun vs H Q _ => ∃ (a b : Addr) (y z : Str), vs = [.ref a, .ref b] ∧ BoxAt C H a y ∧ BoxAt C H b z ∧ IsC y ∧ IsC z ∧
  ∀ H' c, Same H H' → H c = none → BoxAt C H' c (sb fun m => g (mem y m) (mem z m)) → Q (.ref c) H'
def spAre (K : PySem.W.Frag) : Sp := fun vs H Q _ => ∃ x : V, vs = [x] ∧ ((∃ z, x = .str z ∧ ∀ H', Same H H' → Q (.bl (decide (z = sb (mem z)))) H') ∨ (∃ t, TyX K H x (.type t) ∧ kitB t "str" = some false ∧ Q (.bl false) H))
def spChecked : Sp := fun vs H Q _ => ∃ z : Str, vs = [.str z] ∧ IsC z ∧ ∀ H', Same H H' → Q (.str z) H'
theorem isC_sb (p : Nat → Bool) : IsC (sb p) := ⟨p, rfl⟩
theorem IsC.len {z : Str} (h : IsC z) : z.length ≤ 52 := by
  obtain ⟨p, rfl⟩ := h
  exact sb_len p
/-- a part of contents is contents again -/
theorem IsC.filt {z : Str} (h : IsC z) (t : Nat → Bool) : S (z.cps.toList.filter t) = sb fun c => mem z c && t c := by
  obtain ⟨p, rfl⟩ := h
  show S ((mk.filter p).filter t) = S (mk.filter _)
  rw [List.filter_filter]
  refine congrArg S (List.filter_congr fun c hc => ?_)
  rw [mem_sb, decide_eq_true hc, Bool.true_and, Bool.and_comm]
/-! ### signs, by their method, in short -/
structure Sgn (P : Program) (w : World) (K : PySem.W.Frag) (mg : Str → Option Value) (base : Heap) (k : Nat) (C : Addr) (op : Operator) (sp : Sp) : Prop where
  ex : ∃ (f : Addr) (fd : FuncData) (ps : List Str), SignC K C (PySem.dunder op.info.2) f ∧ FnOk P w K mg base CX0 k f fd ps sp ∧ Binds K fd ps []
theorem op_sgn {X : Cx} {k j : Nat} {C : Addr} {op : Operator} {sp : Sp} (S : Sgn X.prog X.w X.K X.mg X.base k C op sp) (hr : Room j X.A) (hk : k ≤ j) : OpR X (binaryOp op) (rSign C sp E0) := by
  obtain ⟨f, fd, ps, h1, h2, h3⟩ := S.ex
  exact op_sign h1 h2 (hr.mono hk) h3 pass0
section
variable {σ : L2.St} {H : Hp} {t u c : TT} {a b : Bool} {D : Ends} {t1 t2 : TS}
theorem ans_orB (h1 : Ans t σ H a) (h2 : Ans u σ H b) : Ans (tOr t u) σ H (a || b) := fun Q q => h1 _ (by
  cases a with
  | true => exact iteT q
  | false => exact iteF (h2 _ q))
theorem st_if (h : Ans c σ H b) (q : if b = true then t1 D σ H else t2 D σ H) : tIfS c t1 t2 D σ H := h _ q
end
/-! ### what is due -/
def gs (s : Nat) (x y : Bool) : Bool := if s = 124 then x || y else if s = 38 then x && y else if s = 94 then x != y else x && !y
def isSign (s : Nat) : Prop := s = 124 ∨ s = 38 ∨ s = 94 ∨ s = 45
def spDue : Sp := fun vs H Q _ => ∃ (s : Nat) (a b : Str), vs = [.str (S [s]), .str a, .str b] ∧ isSign s ∧ Q (.str (sb fun c => gs s (mem a c) (mem b c))) H
def spSigned (C : Addr) : Sp := fun vs H Q _ => ∃ (s : Nat) (a b : Addr) (y z : Str), vs = [.str (S [s]), .ref a, .ref b] ∧ isSign s ∧ BoxAt C H a y ∧ BoxAt C H b z ∧ IsC y ∧ IsC z ∧
  ∀ H' c, Same H H' → H c = none → BoxAt C H' c (sb fun m => gs s (mem y m) (mem z m)) → Q (.ref c) H'
theorem due_bool {s : Nat} (hs : isSign s) (x y : Bool) :
    (((decide (V.str (S [s]) = V.str "|") && decide ((0 : Int) < (if x then 1 else 0) + (if y then 1 else 0))) || ((decide (V.str (S [s]) = V.str "&") && decide (V.int ((if x then 1 else 0) + (if y then 1 else 0)) = V.int 2)) || (decide (V.str (S [s]) = V.str "^") && decide (V.int ((if x then 1 else 0) + (if y then 1 else 0)) = V.int 1)))) = (gs s x y && !decide (s = 45))) ∧
    ((decide (V.str (S [s]) = V.str "-") && (x && !y)) = (gs s x y && decide (s = 45))) := by
  rcases hs with rfl | rfl | rfl | rfl <;> cases x <;> cases y <;> decide +kernel
def spRight (C : Addr) : Sp := fun vs H Q _ => ∃ (s : Nat) (a b : Addr) (y z l : Str), vs = [.str (S [s]), .ref a, .ref b, .str l] ∧ isSign s ∧ BoxAt C H a y ∧ BoxAt C H b z ∧ IsC y ∧ IsC z ∧ IsC l ∧
  ∀ H', (∀ x o, x ≠ a → x ≠ b → H x = some o → H' x = some o) → BoxAt C H' a y → BoxAt C H' b z → Q (.bl true) H'
theorem scal_str (a b : Str) : scal (.str a) (.str b) = true := rfl
theorem dec_str_same (z : Str) : decide (V.str z = V.str z) = true := decide_eq_true rfl
theorem if_join {b : Bool} {t1 t2 : TS} {D : Ends} {σ : L2.St} {H : Hp} (C : L2.St → Hp → Prop) (h1 : b = true → ∀ nx' : L2.St → Hp → Prop, (∀ σ' H', C σ' H' → nx' σ' H') → t1 { D with nx := nx' } σ H)
    (h2 : b = false → ∀ nx' : L2.St → Hp → Prop, (∀ σ' H', C σ' H' → nx' σ' H') → t2 { D with nx := nx' } σ H) (h : ∀ σ' H', C σ' H' → D.nx σ' H') : if b = true then t1 D σ H else t2 D σ H := by
  cases b with
  | true => exact iteT (h1 rfl D.nx h)
  | false => exact iteF (h2 rfl D.nx h)
theorem same_made {H H' : Hp} {x dx : Addr} {o o' : HO} (nx : H x = none) (nd : H dx = none) (b : Bar x (upd (upd H dx o) x o') H') : Same H H' := fun c u e => by
  have n1 : c ≠ x := ne_of_none e nx
  refine b c u n1 ?_
  rw [upd_ne n1, upd_ne (ne_of_none e nd)]
  exact e
/-- a change at a place that H0 does not know -/
theorem same_bar {H0 H H' : Hp} {p : Addr} (s : Same H0 H) (n : H0 p = none) (b : Bar p H H') : Same H0 H' := fun c u e => b c u (ne_of_none e n) (s c u e)
def spLaw (K : PySem.W.Frag) : Sp := fun vs H Q _ => ∃ (a : Addr) (ns : List Int), vs = [.ref a] ∧ SqL K H a (ns.map V.int) ∧ ns.length ≤ 63 ∧ ∀ H', Q (.bl true) H'
theorem calOf {P : Program} {w : World} {K : PySem.W.Frag} {mg : Str → Option Value} {base : Heap} {k : Nat} {x q : Str} {st : Stmt} {f : Addr} {fd : FuncData} {ps : List Str} {sp : Sp} (F : L2.Fun K x q st f fd) (g : mg x = some (.ref f)) (b : Binds K fd ps [])
    (ok : FnOk P w K mg base CX0 k f fd ps sp) : C8.Cal P w K mg base k x sp [] := ⟨f, fd, ps, [], ok, g, F.kp, b, .nil⟩
theorem kit_self {K : PySem.W.Frag} {C : Addr} : PySem.W.kitOne K (.ref C) (.ref C) = some true := by
  unfold PySem.W.kitOne
  rw [if_pos (beq_self_eq_true _)]
theorem nsOk_of {K : PySem.W.Frag} {N : Addr} {c : Value} {d : Option Addr} {es : Array DictEntry} {n : Nat} {sl : Array (Option Value)} (l : K.lookup N = some ⟨c, d, .dict es n, sl⟩)
    (h : (es.toList.all fun e => match e.key with | .str _ _ => true | _ => false) = true) : PySem.W.nsOkIn K N = true := by
  unfold PySem.W.nsOkIn
  rw [l]
  show es.all _ = true
  rw [← Array.all_toList]
  exact h
section
open PySem.W PyProof.Rows PySem.Calls
variable {K : PySem.W.Frag} {C f : Addr}
theorem fills_in {M : Model} {h : Heap} {nm : String} {add : Bool} {cd : ClassData} {rest : List Value} (X : K.In h) (hc : clsIn K C = some cd) (hm : cd.mro = .ref C :: rest)
    (hs : findIn K (.ref C) (dunderI nm) = some (some (.ref f))) : Looks M h (fillsInplaceSlot (.ref C) nm add) true := by
  intro A Q E s k q
  unfold fillsInplaceSlot
  refine wpAny_bind ((looks_clsIn X hc).andThen (f := fun cd => pure cd.mro) .now A _ E s k ?_)
  rw [hm, List.anyM_cons]
  refine wpAny_bind (wpAny_bind (looks_findIn X hs A _ E s k ?_))
  dsimp only
  have own : (!ownNameWrapper (.ref f) (dunderI nm)) = true := rfl
  rw [if_pos own]
  exact wpAny_pure (by
    rw [if_pos rfl]
    exact wpAny_pure q)
theorem inplace_own {prog : Program} {w : World} {A : Around} {E : Value → Shared → Prop} {s : Shared} {x : Addr} {ox : Obj} {od : Option Obj} {op : Operator} {b : Value} {Q : Value → Shared → Prop} (X : K.In s.heap) (I : PySem.W.InstAt s.heap x ox C od) (hc : selfFirst K C = true)
    (hs : findIn K (.ref C) (dunderI op.info.2) = some (some (.ref f))) (hf : isFn K (.ref f) = true)
    (h : wpAny (model prog w) A (call (.ref f) [.ref x, b]) (PySem.W.CmpBack Q) E s) : wpAny (model prog w) A (inplaceOp op (.ref x) b) Q E s := by
  obtain ⟨cd, hcd, hm⟩ := any_some hc
  obtain ⟨rest, hm⟩ : ∃ rest, cd.mro = .ref C :: rest := by
    cases q : cd.mro with
    | nil =>
      rw [q] at hm
      cases hm
    | cons a r =>
      rw [q, List.head?_cons] at hm
      cases beq_iff_eq.mp hm
      exact ⟨r, rfl⟩
  unfold inplaceOp
  refine wpAny_holding ?_
  dsimp only
  refine wpAny_bind (I.type.here ?_)
  refine wpAny_bind ((fills_in X hcd hm hs).here ?_)
  rw [if_pos rfl]
  refine wpAny_bind (m := tryMethod (.ref x) _ b) ?_
  unfold tryMethod
  refine wpAny_bind (special_fn X I hs (beq_iff_eq.mp hf) (wpAny_mono h (fun v s' hv => ?_) fun _ _ e => e))
  cases v <;> first | exact hv.elim | exact wpAny_pure (wpAny_bind (wpAny_rule (wpAny_pure hv)))
end
/-- x op= y, by the class's own method -/
structure ISgn (P : Program) (w : World) (K : PySem.W.Frag) (mg : Str → Option Value) (base : Heap) (k : Nat) (C : Addr) (op : Operator) (sp : Sp) : Prop where
  ex : ∃ (f : Addr) (fd : FuncData) (ps : List Str), SignC K C (PySem.dunderI op.info.2) f ∧ FnOk P w K mg base CX0 k f fd ps sp ∧ Binds K fd ps []
theorem ip_sgn {X : Cx} {k j : Nat} {C : Addr} {op : Operator} {sp : Sp} (S : ISgn X.prog X.w X.K X.mg X.base k C op sp) (hr : Room j X.A) (hk : k ≤ j) : PIp X op (rSign C sp E0) := by
  obtain ⟨f, fd, ps, h1, h2, h3⟩ := S.ex
  intro pins s σ H x y v u Q I rx ry h
  obtain ⟨a, b, dx, fs, dx', fs', rfl, rfl, ha, hb2, q⟩ := h
  obtain rfl : v = Value.ref a := rx
  obtain rfl : u = Value.ref b := ry
  obtain ⟨mA, O, _, _, _, _⟩ := ins_get I.hok ha
  obtain ⟨od, J, _⟩ := O.look
  refine inplace_own I.kIn J h1.first h1.at_ h1.fn ?_
  refine wpAny_mono (run_fn h2 (hr.mono hk) h3 .nil pass0 I (us := [.ref a, .ref b]) (vs := [.ref a, .ref b]) (.cons rfl (.cons rfl .nil)) q) (fun r s' hq => ?_) fun _ _ e => e
  obtain ⟨z, H', I', rz, ⟨c, rfl⟩, q'⟩ := hq
  obtain rfl : r = Value.ref c := rz
  exact ⟨.ref c, H', I', rfl, q'⟩
def spISign (C : Addr) (g : Bool → Bool → Bool) : Sp := fun vs H Q _ => ∃ (a b : Addr) (y z : Str), vs = [.ref a, .ref b] ∧ BoxAt C H a y ∧ BoxAt C H b z ∧ IsC y ∧ IsC z ∧
  ∀ H', Bar a H H' → BoxAt C H' a (sb fun m => g (mem y m) (mem z m)) → Q (.ref a) H'
/-- rows[j] in rows[j] op= .. -/
def rGetL (K : PySem.W.Frag) : V → V → Hp → VK → Prop := fun x y H Q => ∃ (p : Addr) (xs : List V) (j : Nat) (v : V), x = .ref p ∧ y = .int (j : Int) ∧ SqL K H p xs ∧ xs[j]? = some v ∧ Q v H
theorem get_list {X : Cx} : PGet X (rGetL X.K) := by
  intro pins s σ H o i ov iv Q I ro ri h
  obtain ⟨p, xs, j, v, rfl, rfl, hq, he, q⟩ := h
  obtain rfl : ov = Value.ref p := ro
  obtain ⟨t, rfl⟩ := ri
  obtain ⟨its, r, pl, hz⟩ := I.list hq
  obtain ⟨w, ew, rw'⟩ := r.get he
  have hl := r.length
  have hn := line63
  have hj : j < xs.length := (List.getElem?_eq_some_iff.mp he).1
  refine wpAny_getItem_list pl.isList (by omega) (by omega) (by rw [Int.toNat_natCast]; simpa using ew) ⟨v, H, I, rw', q⟩
def spChanged (C : Addr) : Sp := fun vs H Q _ => ∃ (s : Nat) (a b : Addr) (y z : Str), vs = [.str (S [s]), .ref a, .ref b] ∧ isSign s ∧ BoxAt C H a y ∧ BoxAt C H b z ∧ IsC y ∧ IsC z ∧
  ∀ H', Bar a H H' → BoxAt C H' a (sb fun m => gs s (mem y m) (mem z m)) → Q (.ref a) H'
theorem ixN_nat {n j : Nat} (h : j < n) : ixN n (j : Int) = some j := by
  unfold ixN
  rw [if_pos (by omega), if_pos (by omega), Int.toNat_natCast]
theorem set_same {α : Type} {xs : List α} {k : Nat} {v : α} (h : xs[k]? = some v) : xs.set k v = xs := by
  refine List.ext_getElem? fun j => ?_
  rw [List.getElem?_set]
  obtain ⟨hk, e⟩ := List.getElem?_eq_some_iff.mp h
  by_cases c : k = j
  · subst c
    rw [if_pos rfl, if_pos hk, h]
  · rw [if_neg c]
def spChangeItem (C : Addr) : Sp := fun vs H Q _ => ∃ (s : Nat) (r a b : Addr) (k : Nat) (xs : List V) (y z : Str), vs = [.str (S [s]), .ref r, .int (k : Int), .ref b] ∧ isSign s ∧ H r = some (.lst xs) ∧ xs[k]? = some (.ref a) ∧ BoxAt C H a y ∧ BoxAt C H b z ∧ IsC y ∧ IsC z ∧
  ∀ H', Bar a H H' → BoxAt C H' a (sb fun m => gs s (mem y m) (mem z m)) → Q .non H'
/-- boxes and their contents, by place -/
def Boxes (C : Addr) (H : Hp) (bs : List Addr) (zs : List Str) : Prop := bs.length = zs.length ∧ ∀ (i : Nat) b z, bs[i]? = some b → zs[i]? = some z → BoxAt C H b z
theorem Boxes.same {C : Addr} {H H' : Hp} {bs : List Addr} {zs : List Str} (h : Boxes C H bs zs) (e : Same H H') : Boxes C H' bs zs := ⟨h.1, fun i b z h1 h2 => (h.2 i b z h1 h2).same e⟩
theorem Boxes.bar {C p : Addr} {H H' : Hp} {bs : List Addr} {zs : List Str} (h : Boxes C H bs zs) (e : Bar p H H') (n : p ∉ bs) : Boxes C H' bs zs :=
  ⟨h.1, fun i b z h1 h2 => (h.2 i b z h1 h2).bar e fun q => n (q ▸ List.mem_of_getElem? h1)⟩
theorem Boxes.set {C b : Addr} {H H' : Hp} {bs : List Addr} {zs : List Str} {i : Nat} {z : Str} (h : Boxes C H bs zs) (nd : bs.Nodup) (hb : bs[i]? = some b) (e : Bar b H H') (n : BoxAt C H' b z) : Boxes C H' bs (zs.set i z) := by
  refine ⟨by rw [List.length_set]; exact h.1, fun j c y h1 h2 => ?_⟩
  rw [List.getElem?_set] at h2
  by_cases q : i = j
  · subst q
    rw [if_pos rfl] at h2
    split at h2
    · rw [hb] at h1
      cases h1
      cases h2
      exact n
    · cases h2
  · rw [if_neg q] at h2
    refine (h.2 j c y h1 h2).bar e fun r => q ?_
    rw [r] at h1
    obtain ⟨hi, ei⟩ := List.getElem?_eq_some_iff.mp hb
    obtain ⟨hj, ej⟩ := List.getElem?_eq_some_iff.mp h1
    exact (List.getElem_inj nd).mp (ei.trans ej.symm)
theorem Boxes.at_ {C : Addr} {H : Hp} {bs : List Addr} {zs : List Str} {i : Nat} (h : Boxes C H bs zs) (hi : i < bs.length) : ∃ b z, bs[i]? = some b ∧ zs[i]? = some z ∧ BoxAt C H b z := by
  have hj : i < zs.length := h.1 ▸ hi
  exact ⟨bs[i], zs[i], List.getElem?_eq_getElem hi, List.getElem?_eq_getElem hj, h.2 i _ _ (List.getElem?_eq_getElem hi) (List.getElem?_eq_getElem hj)⟩
theorem get_snoc {α : Type} {l : List α} {x y : α} {i : Nat} (h : (l ++ [x])[i]? = some y) : l[i]? = some y ∨ (i = l.length ∧ y = x) := by
  by_cases c : i < l.length
  · rw [List.getElem?_append_left c] at h
    exact .inl h
  · rw [List.getElem?_append_right (by omega)] at h
    have e : i - l.length = 0 := by
      cases q : i - l.length with
      | zero => rfl
      | succ n =>
        rw [q] at h
        cases h
    rw [e] at h
    exact .inr ⟨by omega, (Option.some.inj h).symm⟩
theorem Boxes.snoc {C b : Addr} {H : Hp} {bs : List Addr} {zs : List Str} {z : Str} (h : Boxes C H bs zs) (n : BoxAt C H b z) : Boxes C H (bs ++ [b]) (zs ++ [z]) := by
  refine ⟨by rw [List.length_append, List.length_append, h.1]; rfl, fun j c y h1 h2 => ?_⟩
  rcases get_snoc h1 with h1 | ⟨e1, rfl⟩
  · rcases get_snoc h2 with h2 | ⟨e2, rfl⟩
    · exact h.2 j c y h1 h2
    · have := (List.getElem?_eq_some_iff.mp h1).1
      have := h.1
      omega
  · rcases get_snoc h2 with h2 | ⟨e2, rfl⟩
    · have := (List.getElem?_eq_some_iff.mp h2).1
      have := h.1
      omega
    · exact n
theorem Boxes.mem {C b : Addr} {H : Hp} {bs : List Addr} {zs : List Str} (h : Boxes C H bs zs) (hb : b ∈ bs) : ∃ z, BoxAt C H b z := by
  obtain ⟨i, hi, rfl⟩ := List.getElem_of_mem hb
  obtain ⟨b', z, h1, h2, h3⟩ := h.at_ hi
  rw [List.getElem?_eq_getElem hi] at h1
  cases h1
  exact ⟨z, h3⟩
theorem map_at {α β : Type} {f : α → β} {l : List α} {i : Nat} {x : α} (h : l[i]? = some x) : (l.map f)[i]? = some (f x) := by
  rw [List.getElem?_map, h]
  rfl
theorem map_from {α β : Type} {f : α → β} {l : List α} {i : Nat} {y : β} (h : (l.map f)[i]? = some y) : ∃ x, l[i]? = some x ∧ y = f x := by
  rw [List.getElem?_map] at h
  cases e : l[i]? with
  | none =>
    rw [e] at h
    cases h
  | some x =>
    rw [e] at h
    exact ⟨x, rfl, (Option.some.inj h).symm⟩
theorem take_snoc {α : Type} {l : List α} {i : Nat} {x : α} (h : l[i]? = some x) : l.take (i + 1) = l.take i ++ [x] := by
  rw [List.take_add_one, h]
  rfl
theorem Boxes.notin {C l : Addr} {H : Hp} {bs : List Addr} {zs : List Str} {xs : List V} (h : Boxes C H bs zs) (hl : H l = some (.lst xs)) : l ∉ bs := fun m => by
  obtain ⟨z, dx, e⟩ := h.mem m
  rw [hl] at e
  cases e
theorem Boxes.notin2 {C p q : Addr} {H : Hp} {bs : List Addr} {zs : List Str} (h : Boxes C H bs zs) (hB : BagAt H p q) : p ∉ bs ∧ q ∉ bs := by
  obtain ⟨c, s, i, ns, h1, h2, _⟩ := hB
  exact ⟨h.notin h1, h.notin h2⟩
/-- the state of a law with boxes and their due contents, in two lists -/
structure Two (C : Addr) (H0 : Hp) (p q tl bl : Addr) (bs : List Addr) : Prop where
  np : H0 p = none
  nt : H0 tl = none
  nb : H0 bl = none
  nbs : ∀ b ∈ bs, H0 b = none
  tp : tl ≠ p
  tq : tl ≠ q
  bp : bl ≠ p
  bq : bl ≠ q
  tb : tl ≠ bl
  nd : bs.Nodup
structure TwoAt (C : Addr) (H0 : Hp) (p q tl bl : Addr) (bs : List Addr) (zs : List Str) (H : Hp) : Prop where
  sm : Same H0 H
  bag : BagAt H p q
  t : H tl = some (.lst (zs.map V.str))
  b : H bl = some (.lst (bs.map V.ref))
  bx : Boxes C H bs zs
  ic : ∀ z ∈ zs, IsC z
theorem TwoAt.draw {C : Addr} {H0 H H' : Hp} {p q tl bl : Addr} {bs : List Addr} {zs : List Str} (h : TwoAt C H0 p q tl bl bs zs H) (w : Two C H0 p q tl bl bs) (b : Bar p H H') (hB : BagAt H' p q) : TwoAt C H0 p q tl bl bs zs H' :=
  ⟨same_bar h.sm w.np b, hB, b _ _ w.tp h.t, b _ _ w.bp h.b, h.bx.bar b (h.bx.notin2 h.bag).1, h.ic⟩
theorem TwoAt.same {C : Addr} {H0 H H' : Hp} {p q tl bl : Addr} {bs : List Addr} {zs : List Str} (h : TwoAt C H0 p q tl bl bs zs H) (s : Same H H') : TwoAt C H0 p q tl bl bs zs H' :=
  ⟨h.sm.trans s, h.bag.same s, s _ _ h.t, s _ _ h.b, h.bx.same s, h.ic⟩
theorem lc_yes {A B : Hp → Prop} {σ : L2.St} {H : Hp} (h : A H) : tYes σ H (fun b H3 => if b = true then A H3 else B H3) := @iteT (A H) (B H) h
theorem TwoAt.change {C : Addr} {H0 H H' : Hp} {p q tl bl b : Addr} {bs : List Addr} {zs : List Str} {m : Nat} {z : Str} (w : Two C H0 p q tl bl bs) (sm : Same H0 H) (bag : BagAt H p q) (t : H tl = some (.lst ((zs.set m z).map V.str))) (hb : H bl = some (.lst (bs.map V.ref)))
    (bx : Boxes C H bs zs) (ic : ∀ z ∈ zs, IsC z) (hz : IsC z) (hm : bs[m]? = some b) (e : Bar b H H') (n : BoxAt C H' b z) : TwoAt C H0 p q tl bl bs (zs.set m z) H' := by
  have mb := List.mem_of_getElem? hm
  have ne : ∀ {x}, x ∉ bs → x ≠ b := fun h q => h (q ▸ mb)
  have n2 := bx.notin2 bag
  refine ⟨same_bar sm (w.nbs b mb) e, bag.bar e (ne n2.1) (ne n2.2), e _ _ (ne (bx.notin t)) t, e _ _ (ne (bx.notin hb)) hb, bx.set w.nd hm e n, fun y hy => ?_⟩
  rcases List.mem_or_eq_of_mem_set hy with h | h
  · exact ic y h
  · rw [h]
    exact hz
theorem sign_of {y : V} (h : y ∈ [V.str "|", V.str "&", V.str "-", V.str "^"]) : ∃ s, y = .str (S [s]) ∧ isSign s := by
  simp only [List.mem_cons, List.not_mem_nil, or_false] at h
  rcases h with rfl | rfl | rfl | rfl
  · exact ⟨124, rfl, .inl rfl⟩
  · exact ⟨38, rfl, .inr (.inl rfl)⟩
  · exact ⟨45, rfl, .inr (.inr (.inr rfl))⟩
  · exact ⟨94, rfl, .inr (.inr (.inl rfl))⟩
end WB

set_option Elab.async false
set_option linter.all false
set_option maxRecDepth 100000
set_option maxHeartbeats 4000000
namespace WB
open PySem L2 PyProof.Rows
theorem vals_one {x : V} {us : List Value} (r : Vals [x] us) : ∃ u, us = [u] ∧ RelV x u := by
  cases r with
  | cons r1 r2 =>
    cases r2
    exact ⟨_, rfl, r1⟩
section
variable {X : Cx} {CX : CXT} {k j : Nat} {f C : Addr} {fd : FuncData} {ps : List Str} {sp : Sp} {E : XK}
theorem run_below {A : Around} {pins : List (Addr × Obj)} {σ : L2.St} {H : Hp} {s : Shared} {Q : VK} {us : List Value} {vs : List V} (F : FnOk X.prog X.w X.K X.mg X.base CX k f fd ps sp) (hr : Room k A) (e0 : Env0 X.prog X.w X.K X.mg X.base A X.stack s H)
    (hb : Binds X.K fd ps []) (hx : Passes CX X E) (I : Inv X pins σ H s) (r : Vals vs us) (h : sp vs H Q E) : wpAny (model X.prog X.w) A (call (.ref f) us) (EP X pins σ Q) X.xe s := by
  have hl : (us ++ ([] : List Value)).length = ps.length := by
    rw [List.append_nil, ← r.length]
    exact F.len _ _ _ _ h
  have hb2 := hb s us I.kIn hl
  rw [List.append_nil] at hb2
  refine wpAny_call (codeAny_mono (F.run A X.stack s H ⟨us, []⟩ us vs Q E hr e0 hb2 r h) fun r s' hq => ?_)
  cases r with
  | error er => exact hx pins σ H s er s' I hq
  | ok fl =>
    cases fl with
    | ret u => exact I.after hq
    | next => exact hq.elim
    | brk => exact hq.elim
    | cont => exact hq.elim
/-- what the class has under a name: a def that keeps its promise -/
structure Own (P : Program) (w : World) (K : PySem.W.Frag) (mg : Str → Option Value) (base : Heap) (k : Nat) (C : Addr) (nm : Str) (sp : Sp) : Prop where
  ex : ∃ (f : Addr) (fd : FuncData) (ps : List Str), PySem.W.findIn K (.ref C) nm = some (some (.ref f)) ∧ PySem.W.isFn K (.ref f) = true ∧ FnOk P w K mg base CX0 k f fd ps sp ∧ Binds K fd ps []
def rLenO (C : Addr) (sp : Sp) (E : XK) : List V → Hp → VK → Prop := fun xs H Q => ∃ a dx fs, xs = [.ref a] ∧ H a = some (.ins C dx fs) ∧ sp [.ref a] H (fun v H' => ∃ n : Nat, v = .int n ∧ n < 1000000 ∧ Q v H') E
theorem call_lenO (O : Own X.prog X.w X.K X.mg X.base k C "__len__" sp) (hr0 : Room j X.A) (hk : k + 1 ≤ j) : CallR X (.builtin "len") (rLenO C sp E0) := by
  obtain ⟨f, fd, ps, h1, h2, F, hb⟩ := O.ex
  have hr := hr0.mono hk
  intro pins s σ H xs us Q I r h
  obtain ⟨a, dx, fs, rfl, ha, q⟩ := h
  obtain ⟨u, rfl, r1⟩ := vals_one r
  obtain rfl : u = Value.ref a := r1
  obtain ⟨m, Fm⟩ := I.fr
  obtain ⟨mA, O', _, _, _, _⟩ := ins_get I.hok ha
  obtain ⟨od, J, _⟩ := O'.look
  refine PySem.W.len_K Fm I.mod.kin J h1 h2 ?_
  refine wpAny_mono (run_below F hr.in1 I.env0.in1 hb pass0 I (us := [.ref a]) (.cons (show RelV (.ref a) (.ref a) from rfl) .nil) q) (fun v s' hq => ?_) fun _ _ e => e
  obtain ⟨z, H', I', rz, ⟨n, rfl, hn, q'⟩⟩ := hq
  obtain ⟨t, rfl⟩ := rz
  exact ⟨⟨by omega, by omega⟩, ⟨.int n, H', I'.tok _, ⟨_, rfl⟩, q'⟩⟩
def rReprO (C : Addr) (sp : Sp) (E : XK) : List V → Hp → VK → Prop := fun xs H Q => ∃ a dx fs, xs = [.ref a] ∧ H a = some (.ins C dx fs) ∧ sp [.ref a] H (fun v H' => (∃ z, v = .str z) ∧ Q v H') E
theorem call_reprO (O : Own X.prog X.w X.K X.mg X.base k C "__repr__" sp) (hr0 : Room j X.A) (hk : k + 1 ≤ j) : CallR X (.builtin "repr") (rReprO C sp E0) := by
  obtain ⟨f, fd, ps, h1, h2, F, hb⟩ := O.ex
  have hr := hr0.mono hk
  intro pins s σ H xs us Q I r h
  obtain ⟨a, dx, fs, rfl, ha, q⟩ := h
  obtain ⟨u, rfl, r1⟩ := vals_one r
  obtain rfl : u = Value.ref a := r1
  obtain ⟨m, Fm⟩ := I.fr
  obtain ⟨mA, O', _, _, _, _⟩ := ins_get I.hok ha
  obtain ⟨od, J, _⟩ := O'.look
  refine PySem.W.repr_K (hr.in1).units0 Fm I.mod.kin J h1 h2 ?_
  refine wpAny_mono (run_below F hr.in1 I.env0.in1 hb pass0 I (us := [.ref a]) (.cons (show RelV (.ref a) (.ref a) from rfl) .nil) q) (fun v s' hq => ?_) fun _ _ e => e
  obtain ⟨z, H', I', rz, ⟨⟨y, rfl⟩, q'⟩⟩ := hq
  obtain ⟨t, rfl⟩ := rz
  exact ⟨.str y, H', I', ⟨_, rfl⟩, q'⟩
theorem call_strO (O : Own X.prog X.w X.K X.mg X.base k C "__str__" sp) (hr0 : Room j X.A) (hk : k + 2 ≤ j) : CallR X (.type "str") (rReprO C sp E0) := by
  obtain ⟨f, fd, ps, h1, h2, F, hb⟩ := O.ex
  have hr := hr0.mono hk
  intro pins s σ H xs us Q I r h
  obtain ⟨a, dx, fs, rfl, ha, q⟩ := h
  obtain ⟨u, rfl, r1⟩ := vals_one r
  obtain rfl : u = Value.ref a := r1
  obtain ⟨mA, O', _, _, _, _⟩ := ins_get I.hok ha
  obtain ⟨od, J, _⟩ := O'.look
  refine PySem.W.kso_call (hr.in1.in1).units0 I.kIn J h1 h2 ?_
  refine wpAny_mono (run_below F hr.in1.in1 I.env0.in1.in1 hb pass0 I (us := [.ref a]) (.cons (show RelV (.ref a) (.ref a) from rfl) .nil) q) (fun v s' hq => ?_) fun _ _ e => e
  obtain ⟨z, H', I', rz, ⟨⟨y, rfl⟩, q'⟩⟩ := hq
  obtain ⟨t, rfl⟩ := rz
  exact ⟨.str y, H', I', ⟨_, rfl⟩, q'⟩
def rInO (C : Addr) (sp : Sp) (E : XK) (g : Bool → Bool) : R2 := fun x y H Q => ∃ a dx fs, y = .ref a ∧ H a = some (.ins C dx fs) ∧ sp [.ref a, x] H (fun v H' => ∃ b, v = .bl b ∧ Q (.bl (g b)) H') E
theorem op_inO (O : Own X.prog X.w X.K X.mg X.base k C "__contains__" sp) (hr0 : Room j X.A) (hk : k ≤ j) : OpR X (compareOp .In) (rInO C sp E0 id) := by
  obtain ⟨f, fd, ps, h1, h2, F, hb⟩ := O.ex
  have hr := hr0.mono hk
  intro pins s σ H x y v u Q I rx ry h
  obtain ⟨a, dx, fs, rfl, ha, q⟩ := h
  obtain rfl : u = Value.ref a := ry
  obtain ⟨m, Fm⟩ := I.fr
  obtain ⟨mA, O', _, _, _, _⟩ := ins_get I.hok ha
  obtain ⟨od, J, _⟩ := O'.look
  refine PySem.W.in_K Fm I.mod.kin J h1 h2 ?_
  refine wpAny_mono (run_below F hr I.env0 hb pass0 I (us := [.ref a, v]) (.cons (show RelV (.ref a) (.ref a) from rfl) (.cons rx .nil)) q) (fun v s' hq => ?_) fun _ _ e => e
  obtain ⟨z, H', I', rz, ⟨b, rfl, q'⟩⟩ := hq
  obtain rfl : v = Value.bool b := rz
  exact wpAny_truthy_bool ⟨.bl b, H', I', rfl, q'⟩
theorem op_ninO (O : Own X.prog X.w X.K X.mg X.base k C "__contains__" sp) (hr0 : Room j X.A) (hk : k ≤ j) : OpR X (compareOp .NotIn) (rInO C sp E0 not) := by
  obtain ⟨f, fd, ps, h1, h2, F, hb⟩ := O.ex
  have hr := hr0.mono hk
  intro pins s σ H x y v u Q I rx ry h
  obtain ⟨a, dx, fs, rfl, ha, q⟩ := h
  obtain rfl : u = Value.ref a := ry
  obtain ⟨m, Fm⟩ := I.fr
  obtain ⟨mA, O', _, _, _, _⟩ := ins_get I.hok ha
  obtain ⟨od, J, _⟩ := O'.look
  refine PySem.W.notIn_K Fm I.mod.kin J h1 h2 ?_
  refine wpAny_mono (run_below F hr I.env0 hb pass0 I (us := [.ref a, v]) (.cons (show RelV (.ref a) (.ref a) from rfl) (.cons rx .nil)) q) (fun v s' hq => ?_) fun _ _ e => e
  obtain ⟨z, H', I', rz, ⟨b, rfl, q'⟩⟩ := hq
  obtain rfl : v = Value.bool b := rz
  exact wpAny_truthy_bool ⟨.bl (!b), H', I', rfl, q'⟩
/-- a property of the class -/
structure OwnProp (P : Program) (w : World) (K : PySem.W.Frag) (mg : Str → Option Value) (base : Heap) (k : Nat) (C : Addr) (nm : Str) (sp : Sp) : Prop where
  ex : ∃ (p g : Addr) (fd : FuncData) (ps : List Str), PropOf K C nm p g ∧ FnOk P w K mg base CX0 k g fd ps sp ∧ Binds K fd ps []
theorem pe_propO {nm : Str} {e : Expr} {ta : TE} {pos : Pos} (O : OwnProp X.prog X.w X.K X.mg X.base k C nm sp) (c : Cls X.K C) (hr : Room j X.A) (hk : k + 1 ≤ j) (he : PE X e ta)
    (hab : attributeBase e nm X.env (eval e X.env) = eval e X.env) : PE X (.Attribute e nm pos) (tProp C sp [] E0 ta) := by
  obtain ⟨p, g, fd, ps, h1, F, hb⟩ := O.ex
  exact pe_prop he c h1 F (hr.mono hk) hb .nil pass0 hab
end
/-! ### any value -/
def NoStr (K : PySem.W.Frag) (H : Hp) (x : V) : Prop := ∃ t, TyX K H x (.type t) ∧ kitB t "str" = some false
def Thing (K : PySem.W.Frag) (H : Hp) (x : V) : Prop := (∃ z : Str, x = .str z ∧ z.length ≤ 1000) ∨ NoStr K H x
theorem noStr_non {K : PySem.W.Frag} {H : Hp} : NoStr K H .non := ⟨_, .base .non, by decide +kernel⟩
theorem noStr_bl {K : PySem.W.Frag} {H : Hp} {b : Bool} : NoStr K H (.bl b) := ⟨_, .base (.bl b), by decide +kernel⟩
theorem noStr_int {K : PySem.W.Frag} {H : Hp} {i : Int} : NoStr K H (.int i) := ⟨_, .base (.int i), by decide +kernel⟩
theorem noStr_lst {K : PySem.W.Frag} {H : Hp} {a : Addr} {xs : List V} (h : H a = some (.lst xs)) : NoStr K H (.ref a) := ⟨_, .base (.lst h), by decide +kernel⟩
theorem noStr_tup {K : PySem.W.Frag} {H : Hp} {a : Addr} {xs : List V} (h : H a = some (.tup xs)) : NoStr K H (.ref a) := ⟨_, .base (.tup h), by decide +kernel⟩
/-- one of the marks, as a value -/
def hasV (z : Str) : V → Bool
  | .str y => match y.cps.toList with
    | [c] => mem z c
    | _ => false
  | _ => false
theorem hasV_noStr {K : PySem.W.Frag} {H : Hp} {x : V} (h : NoStr K H x) (z : Str) : hasV z x = false := by
  cases x with
  | str y =>
    obtain ⟨t, ty, k⟩ := h
    cases ty with
    | base b =>
      cases b
      exact absurd k (by decide +kernel)
  | non => rfl
  | bl b => rfl
  | int i => rfl
  | byt b => rfl
  | flt b => rfl
  | ref a => rfl
  | ty n => rfl
def spLen (C : Addr) : Sp := fun vs H Q _ => ∃ (a : Addr) (z : Str), vs = [.ref a] ∧ BoxAt C H a z ∧ z.length ≤ 1000 ∧ Q (.int (z.length : Nat)) H
def spHas (K : PySem.W.Frag) (C : Addr) : Sp := fun vs H Q _ => ∃ (a : Addr) (z : Str) (x : V), vs = [.ref a, x] ∧ BoxAt C H a z ∧ Thing K H x ∧ Q (.bl (hasV z x)) H
def plainB (z : Str) : Bool := z.cps.toList.all fun c => decide (97 ≤ c)
def spCross (C : Addr) : Sp := fun vs H Q _ => ∃ (a : Addr) (z : Str), vs = [.ref a] ∧ BoxAt C H a z ∧ IsC z ∧ ∀ H', Same H H' → Q (.bl (plainB z)) H'
def spWithin (C : Addr) : Sp := fun vs H Q _ => ∃ (a b : Addr) (y z : Str), vs = [.ref a, .ref b] ∧ BoxAt C H a y ∧ BoxAt C H b z ∧ IsC y ∧ ∀ H', Same H H' → Q (.bl (y.cps.toList.all fun c => mem z c)) H'
theorem isC_sub {z : Str} (h : IsC z) {c : Nat} (hc : c ∈ z.cps.toList) : c ∈ mk := by
  obtain ⟨p, rfl⟩ := h
  exact (List.mem_filter.mp hc).1
theorem upper_mk : ∀ c ∈ mk, Txt.isupper (S [c]) = !decide (97 ≤ c) := by decide +kernel
theorem filter_nil_all {z : List Nat} {t : Nat → Bool} : decide (z.filter (fun c => !t c) = []) = z.all t := by
  induction z with
  | nil => rfl
  | cons c r ih =>
    cases h : t c with
    | true =>
      rw [List.filter_cons_of_neg (by rw [h]; decide), List.all_cons, h, ih]
      rfl
    | false =>
      rw [List.filter_cons_of_pos (by rw [h]; rfl), List.all_cons, h, decide_eq_false (by simp)]
      rfl
theorem NoStr.mono {K : PySem.W.Frag} {H H' : Hp} {x : V} (h : NoStr K H x) (e : ∀ a o, x = .ref a → H a = some o → H' a = some o) : NoStr K H' x := by
  obtain ⟨t, ty, k⟩ := h
  refine ⟨t, ?_, k⟩
  generalize hT : Value.type t = T at ty
  cases ty with
  | base b =>
    cases b with
    | non => exact .base .non
    | bl b => exact .base (.bl b)
    | int i => exact .base (.int i)
    | str z => exact .base (.str z)
    | flt z => exact .base (.flt z)
    | lst h => exact .base (.lst (e _ _ rfl h))
    | frz h => exact .base (.frz (e _ _ rfl h))
    | tup h => exact .base (.tup (e _ _ rfl h))
    | dK h => exact .base (.dK (e _ _ rfl h))
    | dT h => exact .base (.dT (e _ _ rfl h))
    | ins h a b c d f => exact .base (.ins (e _ _ rfl h) a b c d f)
  | byt b => exact .byt b
  | set h => exact .set (e _ _ rfl h)
  | kList h c => exact .kList h c
  | kTuple h c => exact .kTuple h c
  | kDict h c => exact .kDict h c
  | fTuple h => exact .fTuple (e _ _ rfl h)
  | fDict h => exact .fDict (e _ _ rfl h)
theorem Thing.mono {K : PySem.W.Frag} {H H' : Hp} {x : V} (h : Thing K H x) (e : ∀ a o, x = .ref a → H a = some o → H' a = some o) : Thing K H' x := by
  rcases h with h | h
  · exact .inl h
  · exact .inr (h.mono e)
theorem cut_len {z : Str} {lo hi : Option Int} {n : Nat} (h : z.length ≤ n) : (cutS z lo hi).length ≤ n := Nat.le_trans (cutS_length z lo hi) h
def spPlus : Sp := fun vs H Q _ => ∃ (p q : Addr) (t : Str), vs = [.ref p, .str t] ∧ BagAt H p q ∧ IsC t ∧ ∀ H' z, Bar p H H' → BagAt H' p q → IsC z → Q (.str z) H'
def spAsked (K : PySem.W.Frag) : Sp := fun vs H Q _ => ∃ (p q : Addr) (t : Str), vs = [.ref p, .str t] ∧ BagAt H p q ∧ IsC t ∧ ∀ H' x, Bar p H H' → BagAt H' p q → Thing K H' x → Q x H'
def spHolds (K : PySem.W.Frag) : Sp := fun vs H Q _ => ∃ (t : Str) (x : V), vs = [.str t, x] ∧ IsC t ∧ Thing K H x ∧ Q (.bl (hasV t x)) H
def spRight4 (C : Addr) : Sp := fun vs H Q _ => ∃ (p q b : Addr) (t : Str), vs = [.ref p, .ref b, .str t] ∧ BagAt H p q ∧ BoxAt C H b t ∧ IsC t ∧ ∀ H', Bar p H H' → BagAt H' p q → Q (.bl true) H'
/-- the mark at a place is asked for -/
theorem hasV_sg {z : Str} {c : Nat} : hasV z (sg c) = mem z c := rfl
theorem hasV_none {z : Str} {x : V} (h : ∀ c ∈ z.cps.toList, x ≠ sg c) : hasV z x = false := by
  cases x with
  | str y =>
    unfold hasV
    simp only
    split
    · rename_i c hc
      have ey : y = ⟨#[c]⟩ := by
        rw [← SX.S_tl y, hc]
      cases q : mem z c with
      | false => rfl
      | true => exact absurd (show V.str y = sg c by rw [ey]; rfl) (h c (of_decide_eq_true q))
    · rfl
  | non => rfl
  | bl b => rfl
  | int i => rfl
  | byt b => rfl
  | flt b => rfl
  | ref a => rfl
  | ty n => rfl
theorem lay_strs : ∀ ns : List Nat, (∀ c ∈ ns, c < 1000) → PyData.canLayAll0 (ns.map fun c => PyData.str (S [c])) = true ∧ PyData.depthAll (ns.map fun c => PyData.str (S [c])) = 0
  | [], _ => ⟨rfl, rfl⟩
  | n :: r, h => by
    obtain ⟨h1, h2⟩ := lay_strs r fun c hc => h c (List.mem_cons_of_mem _ hc)
    refine ⟨?_, ?_⟩
    · show (PyData.canLay0 (.str (S [n])) && PyData.canLayAll0 (r.map _)) = true
      rw [h1, Bool.and_true]
      show (#[n] : Array Nat).all (fun c => decide (c < 0x110000)) = true
      have := h n List.mem_cons_self
      simp
      omega
    · show max (PyData.depth (.str (S [n]))) (PyData.depthAll (r.map _)) = 0
      rw [h2]
      rfl
theorem dp_strs {K : PySem.W.Frag} {H : Hp} : ∀ ns : List Nat, DpAll K H (ns.map sg) (ns.map fun c => PyData.str (S [c]))
  | [] => .nil
  | n :: r => .cons (.str _) (dp_strs r)
theorem shaped_strs {ns : List Nat} (h : ∀ c ∈ ns, c < 1000) : SeqAt.shaped (.list (ns.map fun c => PyData.str (S [c]))) = true := by
  obtain ⟨h1, h2⟩ := lay_strs ns h
  have e1 : PyData.canLay0 (.list (ns.map fun c => PyData.str (S [c]))) = true := h1
  have e2 : PyData.depth (.list (ns.map fun c => PyData.str (S [c]))) ≤ 64 := by
    show PyData.depthAll (ns.map _) + 1 ≤ 64
    omega
  unfold SeqAt.shaped
  rw [e1, decide_eq_true e2]
  rfl
theorem eqv_nil_strs (ns : List Nat) : PyData.eqv (.list (ns.map fun c => PyData.str (S [c]))) (.list []) = decide (ns = []) := by
  cases ns with
  | nil => rfl
  | cons n r =>
    rw [decide_eq_false (by simp)]
    rfl
theorem mk_small : ∀ c ∈ mk, c < 1000 := by decide +kernel
end WB

set_option Elab.async false
set_option linter.all false
set_option maxRecDepth 100000
set_option maxHeartbeats 4000000
namespace W4
open PySem L2 WB
open C8 (pe_c pe_mk pe_mt pe_mt0 Cal Mak Met)
def top (i : Nat) : Stmt := PySem.Challenge.pw_workerworlds_k04_marks_in_boxes.main.body.getD i (.Pass ⟨0, 0, 0, 0⟩)
abbrev s_bag : Stmt := top 14
abbrev n_bag : List Str := ["_law_script", "_law_at", "_law_cell"]
theorem sc_bag : FnScope n_bag ["_law_script", "_law_at"] (defScope s_bag) := ⟨rfl, rfl, rfl, by decide +kernel, rfl, by decide +kernel, by decide +kernel⟩
abbrev s_take : Stmt := top 15
abbrev n_take : List Str := ["_law_bag_here", "_law_many", "_law_digit", "_law_cell", "_law_added"]
theorem sc_take : FnScope n_take ["_law_bag_here", "_law_many"] (defScope s_take) := ⟨rfl, rfl, rfl, by decide +kernel, rfl, by decide +kernel, by decide +kernel⟩
abbrev s_of : Stmt := top 16
abbrev n_of : List Str := ["_law_bag_here", "_law_some"]
theorem sc_of : FnScope n_of ["_law_bag_here", "_law_some"] (defScope s_of) := ⟨rfl, rfl, rfl, by decide +kernel, rfl, by decide +kernel, by decide +kernel⟩
abbrev s_contents : Stmt := top 17
abbrev n_contents : List Str := ["_law_bag_here", "_law_share", "_law_found", "_law_first", "_law_mark"]
theorem sc_contents : FnScope n_contents ["_law_bag_here"] (defScope s_contents) := ⟨rfl, rfl, rfl, by decide +kernel, rfl, by decide +kernel, by decide +kernel⟩
abbrev s_either : Stmt := top 6
abbrev n_either : List Str := ["one", "other", "mark"]
theorem sc_either : FnScope n_either ["one", "other"] (defScope s_either) := ⟨rfl, rfl, rfl, by decide +kernel, rfl, by decide +kernel, by decide +kernel⟩
abbrev s_without : Stmt := top 8
abbrev n_without : List Str := ["one", "other", "mark"]
theorem sc_without : FnScope n_without ["one", "other"] (defScope s_without) := ⟨rfl, rfl, rfl, by decide +kernel, rfl, by decide +kernel, by decide +kernel⟩
abbrev s_are_contents : Stmt := top 10
abbrev n_are_contents : List Str := ["thing"]
theorem sc_are_contents : FnScope n_are_contents ["thing"] (defScope s_are_contents) := ⟨rfl, rfl, rfl, by decide +kernel, rfl, by decide +kernel, by decide +kernel⟩
abbrev s_checked : Stmt := top 11
abbrev n_checked : List Str := ["contents"]
theorem sc_checked : FnScope n_checked ["contents"] (defScope s_checked) := ⟨rfl, rfl, rfl, by decide +kernel, rfl, by decide +kernel, by decide +kernel⟩
abbrev s_plus : Stmt := top 18
abbrev n_plus : List Str := ["_law_bag_here", "_law_text", "_law_few", "_law_found", "_law_k", "_law_mark"]
theorem sc_plus : FnScope n_plus ["_law_bag_here", "_law_text"] (defScope s_plus) := ⟨rfl, rfl, rfl, by decide +kernel, rfl, by decide +kernel, by decide +kernel⟩
abbrev s_asked : Stmt := top 19
abbrev n_asked : List Str := ["_law_bag_here", "_law_text", "_law_k", "_law_way"]
theorem sc_asked : FnScope n_asked ["_law_bag_here", "_law_text"] (defScope s_asked) := ⟨rfl, rfl, rfl, by decide +kernel, rfl, by decide +kernel, by decide +kernel⟩
abbrev s_holds : Stmt := top 20
abbrev n_holds : List Str := ["_law_text", "_law_thing", "_law_mark"]
theorem sc_holds : FnScope n_holds ["_law_text", "_law_thing"] (defScope s_holds) := ⟨rfl, rfl, rfl, by decide +kernel, rfl, by decide +kernel, by decide +kernel⟩
abbrev s_is_right : Stmt := top 21
abbrev n_is_right : List Str := ["_law_bag_here", "_law_box", "_law_text", "_law_turn", "_law_thing", "_law_is_plain", "_law_mark"]
theorem sc_is_right : FnScope n_is_right ["_law_bag_here", "_law_box", "_law_text"] (defScope s_is_right) := ⟨rfl, rfl, rfl, by decide +kernel, rfl, by decide +kernel, by decide +kernel⟩
abbrev s_law : Stmt := top 22
abbrev n_law : List Str := ["_law_script", "_law_at", "_law_bag_here", "_law_text", "_law_more", "_law_one", "_law_other", "_law_turn", "_law_is_within", "_law_told", "_law_mark"]
theorem sc_law : FnScope n_law ["_law_script"] (defScope s_law) := ⟨rfl, rfl, rfl, by decide +kernel, rfl, by decide +kernel, by decide +kernel⟩
abbrev s_Box__init : Stmt := inClass (top 12) 0
abbrev n_Box__init : List Str := ["self", "contents"]
theorem sc_Box__init : FnScope n_Box__init ["self", "contents"] (defScope s_Box__init) := ⟨rfl, rfl, rfl, by decide +kernel, rfl, by decide +kernel, by decide +kernel⟩
abbrev s_Box__len : Stmt := inClass (top 12) 3
abbrev n_Box__len : List Str := ["self"]
theorem sc_Box__len : FnScope n_Box__len ["self"] (defScope s_Box__len) := ⟨rfl, rfl, rfl, by decide +kernel, rfl, by decide +kernel, by decide +kernel⟩
abbrev s_Box__contains : Stmt := inClass (top 12) 4
abbrev n_Box__contains : List Str := ["self", "thing"]
theorem sc_Box__contains : FnScope n_Box__contains ["self", "thing"] (defScope s_Box__contains) := ⟨rfl, rfl, rfl, by decide +kernel, rfl, by decide +kernel, by decide +kernel⟩
abbrev s_Box_crosses : Stmt := inClass (top 12) 13
abbrev n_Box_crosses : List Str := ["self", "mark"]
theorem sc_Box_crosses : FnScope n_Box_crosses ["self"] (defScope s_Box_crosses) := ⟨rfl, rfl, rfl, by decide +kernel, rfl, by decide +kernel, by decide +kernel⟩
abbrev s_Box_become : Stmt := inClass (top 12) 14
abbrev n_Box_become : List Str := ["self", "contents"]
theorem sc_Box_become : FnScope n_Box_become ["self", "contents"] (defScope s_Box_become) := ⟨rfl, rfl, rfl, by decide +kernel, rfl, by decide +kernel, by decide +kernel⟩
abbrev s_Box_within : Stmt := inClass (top 12) 15
abbrev n_Box_within : List Str := ["self", "other"]
theorem sc_Box_within : FnScope n_Box_within ["self", "other"] (defScope s_Box_within) := ⟨rfl, rfl, rfl, by decide +kernel, rfl, by decide +kernel, by decide +kernel⟩
structure Top (K : PySem.W.Frag) (mg : Str → Option Value) : Prop where
  z_len : mg "len" = none
  z_abs : mg "abs" = none
  z_list : mg "list" = none
  z_int : mg "int" = none
  z_isinstance : mg "isinstance" = none
  z_str : mg "str" = none
  z_range : mg "range" = none
  z_max : mg "max" = none
  z_min : mg "min" = none
  z_any : mg "any" = none
  z_bool : mg "bool" = none
  g_MARKS : ∃ u, mg "MARKS" = some u ∧ RelV (.str "ABCDEFGHIJKLMNOPQRSTUVWXYZabcdefghijklmnopqrstuvwxyz") u
section
variable {P : Program} {w : World} {K : PySem.W.Frag} {mg : Str → Option Value} {base : Heap}
theorem ok_bag {f : Addr} {fd : FuncData} (F : Fun K "_law_bag" "_law_bag" s_bag f fd) (T : Top K mg) : FnOk P w K mg base CX0 1 f fd ["_law_script", "_law_at"] (spBag K) := by
  refine F.ok sc_bag (fun vs H Q E h => ?_) (fun cdv A outer s H vs Q E hr h => ?_)
  · obtain ⟨a, ns, j, rfl, _⟩ := h
    rfl
  · obtain ⟨a, ns, j, rfl, hS, hlen, hj, k⟩ := h
    refine ⟨_, (pss_cons (ps_set (i := 2) sc_bag.nd rfl (Or.inl rfl) (pe_ifExp (pt_cmpR op_lt (pv 1) (pe_callB call_len_seq (by rfl) T.z_len (by decide +kernel) (pa_cons (pv 0) pa_nil)) (nomark _)) (pe_callB call_abs (by rfl) T.z_abs (by decide +kernel) (pa_cons (pe_ix ix_list (pv 0) (pv 1) (fun _ _ => rfl)) pa_nil)) pe_int))
(pss_one (ps_ret (pe_lst (pa_cons (pe_ifExp (pt_cmpR op_ge (pv 2) (pe_op op_pow pe_int pe_int) (nomark _)) (pv 2) pe_int) (pa_cons (pe_op op_add pe_int (pe_op op_mul pe_int (pv 1))) (pa_cons (pv 1) (pa_cons (pe_callTy call_list_of (by rfl) T.z_list (by decide +kernel) (pa_cons (pe_slice sl_list (pv 0) po_none (po_some pe_int)) pa_nil)) pa_nil)))))))), ?_⟩
    refine ⟨_, rfl, _, rfl, a, _, rfl, .inl hS, _, _, rfl, rfl, _, rfl, ?_⟩
    refine ite_val (C := fun v H' => ∃ c : Int, v = .int c ∧ 0 ≤ c ∧ H' = H) (fun hc Q' q => ?_) (fun _ Q' q => q _ _ ⟨0, rfl, Int.le_refl _, rfl⟩) ?_
    · have hj2 : j < ns.length := by
        have e := of_decide_eq_true hc
        rw [List.length_map] at e
        omega
      refine ⟨_, rfl, _, rfl, a, _, _, _, rfl, rfl, hS, atI_nat (ints_at hj2), _, rfl, ?_⟩
      exact q _ _ ⟨_, rfl, abs_nonneg _, rfl⟩
    · rintro v H' ⟨c, rfl, hc, rfl⟩
      refine ⟨_, rfl, _, _, rfl, rfl, ⟨by decide, by decide, by decide⟩, _, _, rfl, rfl, _, rfl, ?_⟩
      refine ite_val (C := fun v H2 => ∃ c : Int, v = .int c ∧ 0 ≤ c ∧ H2 = H') (fun _ Q' q => ⟨_, rfl, q _ _ ⟨c, rfl, hc, rfl⟩⟩) (fun _ Q' q => q _ _ ⟨0, rfl, Int.le_refl _, rfl⟩) ?_
      rintro v H2 ⟨c2, rfl, hc2, rfl⟩
      refine ⟨_, rfl, _, _, rfl, rfl, .inl ⟨by decide, by decide⟩, _, _, rfl, rfl, _, rfl, _, rfl, ?_⟩
      refine ⟨_, rfl, a, _, rfl, hS, fun p hp => ?_⟩
      refine ⟨p, _, rfl, .inl (SqL.of upd_same), fun l hl => ?_⟩
      refine ⟨by show 4 ≤ sizeLine; decide, fun b hb => ?_⟩
      have e : cutV (ns.map V.int) none (some 63) = (ns.take 63).map V.int := (cut_to _ 63).trans (List.map_take ..).symm
      have nlb : l ≠ b := fun q => by
        rw [← q, upd_same] at hb
        cases hb
      have hb1 : upd H2 p (.lst (cutV (ns.map V.int) none (some 63))) b = none := by
        rw [upd_ne nlb.symm] at hb
        exact hb
      have hb2 : H2 b = none := (same_new hp).free hb1
      refine k _ b l (((same_new hp).trans (same_new hl)).trans (same_new hb)) hb2 ((same_new hp).free hl) ?_
      refine ⟨c2, _, _, ns.take 63, upd_same, ?_, ?_, hc2, ?_, ?_, ?_⟩
      · rw [upd_ne nlb, upd_same, e]
      · rw [List.length_take]
        omega
      · omega
      · omega
      · omega
theorem ok_take {f : Addr} {fd : FuncData} (F : Fun K "_law_take" "_law_take" s_take f fd) (T : Top K mg) : FnOk P w K mg base CX0 1 f fd ["_law_bag_here", "_law_many"] spTake := by
  refine F.ok sc_take (fun vs H Q E h => ?_) (fun cdv A outer s H vs Q E hr h => ?_)
  · obtain ⟨p, q, m, rfl, _⟩ := h
    rfl
  · obtain ⟨p, q, m, rfl, hBB, hm, hm2, k⟩ := h
    have npq : q ≠ p := hBB.pq
    obtain ⟨c, z, i, ns, hp, hq, hlen, hc, hz, hz2, hi⟩ := hBB
    refine ⟨_, (pss_cons (ps_if (pt_cmpR op_gt (pe_ix ix_list (pv 0) pe_int (fun _ _ => rfl)) pe_int (nomark _))
(pss_cons (ps_set (i := 2) sc_take.nd rfl (Or.inl rfl) (pe_op op_mod (pe_callTy call_int1 (by rfl) T.z_int (by decide +kernel) (pa_cons (pe_ix ix_list (pv 0) pe_int (fun _ _ => rfl)) pa_nil)) (pv 1)))
(pss_cons (ps_asg (pe_op op_fdivW (pe_ix ix_list (pv 0) pe_int (fun _ _ => rfl)) (pv 1)) (pg_sub (pv 0) pe_int set_list))
(pss_one (ps_ret (pv 2)))))
pss_nil)
(pss_cons (ps_asg (pe_op op_add (pe_ix ix_list (pv 0) pe_int (fun _ _ => rfl)) pe_int) (pg_sub (pv 0) pe_int set_list))
(pss_cons (ps_set (i := 3) sc_take.nd rfl (Or.inl rfl) (pe_ifExp (pt_cmpR (op_neD hr.units) (pe_ix ix_list (pv 0) pe_int (fun _ _ => rfl)) (pe_lst pa_nil) (nomark _)) (pe_ix ix_list (pe_ix ix_list (pv 0) pe_int (fun _ _ => rfl)) (pe_op op_mod (pe_ix ix_list (pv 0) pe_int (fun _ _ => rfl)) (pe_callB call_len_seq (by rfl) T.z_len (by decide +kernel) (pa_cons (pe_ix ix_list (pv 0) pe_int (fun _ _ => rfl)) pa_nil))) (fun _ _ => rfl)) pe_int))
(pss_cons (ps_set (i := 4) sc_take.nd rfl (Or.inl rfl) (pe_op op_mod (pe_callTy call_int1 (by rfl) T.z_int (by decide +kernel) (pa_cons (pv 3) pa_nil)) pe_int))
(pss_cons (ps_asg (pe_op op_mod (pe_callTy call_int1 (by rfl) T.z_int (by decide +kernel) (pa_cons (pe_op op_add (pe_op op_add (pe_op op_add (pe_op op_mul (pe_ix ix_list (pv 0) pe_int (fun _ _ => rfl)) pe_int) (pv 4)) (pe_op op_mul pe_int (pe_ix ix_list (pv 0) pe_int (fun _ _ => rfl)))) pe_int) pa_nil)) pe_int) (pg_sub (pv 0) pe_int set_list))
(pss_one (ps_ret (pe_op op_mod (pe_op op_fdivW (pe_op op_mod (pe_callTy call_int1 (by rfl) T.z_int (by decide +kernel) (pa_cons (pe_op op_mul (pe_op op_fdivW (pe_ix ix_list (pv 0) pe_int (fun _ _ => rfl)) pe_int) pe_int) pa_nil)) pe_int) pe_int) (pv 1))))))))), ?_⟩
    refine ⟨_, rfl, p, _, _, _, rfl, rfl, SqL.of hp, rfl, _, _, rfl, rfl, _, rfl, ?_⟩
    refine ite_b (fun hc0 => ?_) (fun _ => ?_)
    · have hc1 : 0 < c := of_decide_eq_true hc0
      refine ⟨_, rfl, p, _, _, _, rfl, rfl, SqL.of hp, rfl, .inl ⟨_, rfl, ?_⟩⟩
      refine ⟨_, rfl, _, _, rfl, rfl, hm, ?_⟩
      refine ⟨_, rfl, p, _, _, _, rfl, rfl, SqL.of hp, rfl, _, rfl, _, _, rfl, rfl, cdw hm hm2, ?_⟩
      · refine ⟨_, rfl, p, _, _, _, rfl, rfl, hp, rfl, ?_⟩
        refine ⟨_, rfl, ?_⟩
        refine k _ _ bar_upd ⟨c / m, z, i, ns, upd_same, by rw [upd_ne npq]; exact hq, hlen, Int.ediv_nonneg hc (by omega), hz, hz2, hi⟩ (Int.emod_nonneg _ (by omega)) (Int.emod_lt_of_pos _ hm)
    · show tSeq _ _ _ _ _
      refine ⟨_, rfl, p, _, _, _, rfl, rfl, SqL.of hp, rfl, _, _, rfl, rfl, ?_⟩
      refine ⟨_, rfl, p, _, _, _, rfl, rfl, hp, rfl, ?_⟩
      have hp1 : upd H p (.lst [V.int c, V.int z, V.int (i + 1), V.ref q]) p = some (.lst [V.int c, V.int z, V.int (i + 1), V.ref q]) := upd_same
      have hq1 : upd H p (.lst [V.int c, V.int z, V.int (i + 1), V.ref q]) q = some (.lst (ns.map V.int)) := (upd_ne npq).trans hq
      refine ⟨_, rfl, p, _, _, _, rfl, rfl, SqL.of hp1, rfl, Nat.zero_le _, fun l hl => ?_⟩
      have npl : p ≠ l := ne_of_none hp1 hl
      have nql : q ≠ l := ne_of_none hq1 hl
      have hp2 := (upd_ne npl (o := HO.lst [])).trans hp1
      have hq2 := (upd_ne nql (o := HO.lst [])).trans hq1
      refine ⟨_, _, dp_ints (SqL.of hq2), .lst (SqL.of upd_same) .nil, shaped_ints ns, by decide, _, rfl, ?_⟩
      refine ite_val (C := fun v H' => ∃ n : Int, v = .int n ∧ H' = _) (fun hne Q' qq => ?_) (fun _ Q' qq => qq _ _ ⟨0, rfl, rfl⟩) ?_
      · have hn : ns ≠ [] := fun e => by
          rw [eqv_nil_ints, decide_eq_true e] at hne
          cases hne
        have hl0 : 0 < (ns.map V.int).length := by
          rw [List.length_map]
          exact List.length_pos_iff.mpr hn
        refine ⟨_, rfl, p, _, _, _, rfl, rfl, SqL.of hp2, rfl, _, rfl, p, _, _, _, rfl, rfl, SqL.of hp2, rfl, _, rfl, p, _, _, _, rfl, rfl, SqL.of hp2, rfl, q, _, rfl, .inl (SqL.of hq2), _, _, rfl, rfl, by omega, ?_⟩
        have h0 : 0 ≤ (i + 1) % ((ns.map V.int).length : Int) := Int.emod_nonneg _ (by omega)
        have h1 : (i + 1) % ((ns.map V.int).length : Int) < ((ns.map V.int).length : Int) := Int.emod_lt_of_pos _ (by omega)
        obtain ⟨j, hj⟩ := Int.eq_ofNat_of_zero_le h0
        have hj2 : j < ns.length := by
          rw [hj, List.length_map] at h1
          omega
        refine ⟨q, _, _, _, rfl, rfl, SqL.of hq2, ?_, qq _ _ ⟨ns[j], rfl, rfl⟩⟩
        rw [hj]
        exact atI_nat (ints_at hj2)
      · rintro v H' ⟨n, rfl, rfl⟩
        refine ⟨_, rfl, .inl ⟨_, rfl, ?_⟩⟩
        refine ⟨_, _, rfl, rfl, (by show (0 : Int) < _; decide), ?_⟩
        refine ⟨_, rfl, p, _, _, _, rfl, rfl, SqL.of hp2, rfl, _, _, rfl, rfl, .inr ⟨by decide, by decide⟩, _, rfl, _, _, rfl, rfl, _, rfl, p, _, _, _, rfl, rfl, SqL.of hp2, rfl, _, _, rfl, rfl, .inl ⟨by decide, by decide⟩, _, _, rfl, rfl, _, _, rfl, rfl, .inl ⟨_, rfl, ?_⟩⟩
        refine ⟨_, _, rfl, rfl, (by show (0 : Int) < _; decide), ?_⟩
        refine ⟨_, rfl, p, _, _, _, rfl, rfl, hp2, rfl, ?_⟩
        refine ⟨_, rfl, p, _, _, _, rfl, rfl, SqL.of upd_same, rfl, _, _, rfl, rfl, cdw (by decide) (by decide), _, _, rfl, rfl, .inr ⟨by decide, by decide⟩, .inl ⟨_, rfl, ?_⟩⟩
        refine ⟨_, _, rfl, rfl, (by show (0 : Int) < _; decide), _, _, rfl, rfl, cdw (by decide) (by decide), _, rfl, _, _, rfl, rfl, hm, ?_⟩
        refine k _ _ ?_ ⟨c, _, i + 1, ns, upd_same, ?_, hlen, hc, Int.emod_nonneg _ (by decide), ?_, by omega⟩ (Int.emod_nonneg _ (by omega)) (Int.emod_lt_of_pos _ hm)
        · exact (bar_upd.trans (bar_new hl)).trans bar_upd
        · exact (upd_ne npq).trans hq2
        · exact Int.lt_trans (Int.emod_lt_of_pos _ (by decide)) (by decide)
theorem ok_of {f : Addr} {fd : FuncData} (F : Fun K "_law_of" "_law_of" s_of f fd) (T : Top K mg) (T_take : Cal P w K mg base 1 "_law_take" spTake []) : FnOk P w K mg base CX0 2 f fd ["_law_bag_here", "_law_some"] spOf := by
  refine F.ok sc_of (fun vs H Q E h => ?_) (fun cdv A outer s H vs Q E hr h => ?_)
  · obtain ⟨p, q, y, rfl, _⟩ := h
    rfl
  · obtain ⟨p, q, y, rfl, hB, k⟩ := h
    refine ⟨_, (pss_one (ps_ret (pe_ix (IxR.or ix_list ix_str) (pv 1) (pe_c T_take hr (by decide) (by rfl) (pa_cons (pv 0) (pa_cons (pe_callB (CallR.or call_len_seq call_len_str) (by rfl) T.z_len (by decide +kernel) (pa_cons (pv 1) pa_nil)) pa_nil))) (fun _ _ => rfl)))), ?_⟩
    rcases k with ⟨l, xs, rfl, hlp, hl, h0, h1, k⟩ | ⟨z, rfl, h0, h1, k⟩
    · refine ⟨_, rfl, _, rfl, _, rfl, .inl ⟨l, _, rfl, .inl (SqL.of hl), ?_⟩⟩
      refine ⟨p, q, _, rfl, hB, by omega, by omega, fun H1 d b1 hB1 d0 d1 => ?_⟩
      obtain ⟨j, rfl⟩ := Int.eq_ofNat_of_zero_le d0
      have hj : j < xs.length := by omega
      refine .inl ⟨l, xs, _, xs[j], rfl, rfl, SqL.of (b1 _ _ hlp hl), atI_nat (List.getElem?_eq_getElem hj), ?_⟩
      exact k _ _ b1 hB1 (List.getElem_mem hj)
    · refine ⟨_, rfl, _, rfl, _, rfl, .inr ⟨_, rfl, ?_, ?_⟩⟩
      · rw [SX.S_len]
        exact Nat.le_of_lt (small1000 (Nat.le_of_lt h1))
      rw [SX.S_len]
      refine ⟨p, q, _, rfl, hB, by omega, by omega, fun H1 d b1 hB1 d0 d1 => ?_⟩
      obtain ⟨j, rfl⟩ := Int.eq_ofNat_of_zero_le d0
      have hj : j < z.length := by omega
      refine .inr ⟨S z, _, z[j], rfl, rfl, ?_, atI_nat (List.getElem?_eq_getElem hj), ?_⟩
      · rw [SX.S_len]
        exact Nat.le_of_lt (small1000 (Nat.le_of_lt h1))
      exact k _ _ b1 hB1 (List.getElem_mem hj)
theorem ok_contents {f : Addr} {fd : FuncData} (F : Fun K "_law_contents" "_law_contents" s_contents f fd) (T : Top K mg) (T_take : Cal P w K mg base 1 "_law_take" spTake []) (T_of : Cal P w K mg base 2 "_law_of" spOf []) :
    FnOk P w K mg base CX0 3 f fd ["_law_bag_here"] spContents := by
  refine F.ok sc_contents (fun vs H Q E h => ?_) (fun cdv A outer s H vs Q E hr h => ?_)
  · obtain ⟨p, q, rfl, _⟩ := h
    rfl
  · obtain ⟨p, q, rfl, hB, k⟩ := h
    refine ⟨_, (pss_cons (ps_par (i := 1) (j := 2) rfl sc_contents.nd rfl rfl (by decide) rfl rfl (by exact (pa_cons (pe_c T_of hr (by decide) (by rfl) (pa_cons (pv 0) (pa_cons (pe_lst (pa_cons pe_int (pa_cons pe_int (pa_cons pe_int (pa_cons pe_int (pa_cons pe_int pa_nil)))))) pa_nil))) (pa_cons pe_str pa_nil))) rfl)
(pss_cons (ps_set (i := 3) sc_contents.nd rfl (Or.inl rfl) (pe_op op_mul pe_int (pe_c T_take hr (by decide) (by rfl) (pa_cons (pv 0) (pa_cons pe_int pa_nil)))))
(pss_cons (ps_for PassesOwn.never rfl (pi_str (pe_slice sl_str pe_str (po_some (pv 3)) po_none)) (pg_name (i := 4) sc_contents.nd rfl (Or.inl rfl))
(pss_one (ps_if (pt_cmpR op_eq (pe_c T_take hr (by decide) (by rfl) (pa_cons (pv 0) (pa_cons (pv 1) pa_nil))) pe_int (nomark _))
(pss_one (ps_set (i := 2) sc_contents.nd rfl (Or.inl rfl) (pe_op op_add_str (pv 2) (pv 4))))
pss_nil)))
(pss_one (ps_ret (pv 2)))))), ?_⟩
    refine ⟨_, rfl, by show 5 ≤ sizeLine; decide, fun l hl => ?_⟩
    refine ⟨p, q, _, rfl, hB.same (same_new hl), .inl ⟨l, _, rfl, hB.there hl, upd_same, by decide, by decide, fun H1 x b1 hB1 hx => ?_⟩⟩
    obtain ⟨n, rfl, hn0, hn1⟩ : ∃ n : Int, x = .int n ∧ 0 < n ∧ n < 2 ^ 200 := by
      simp only [List.mem_cons, List.not_mem_nil, or_false] at hx
      rcases hx with rfl | rfl | rfl | rfl | rfl <;> exact ⟨_, rfl, by decide, by decide⟩
    refine ⟨_, _, rfl, ?_⟩
    refine ⟨_, rfl, p, q, 2, rfl, hB1, by decide, by decide, fun H1' fi b1' hB1' f0 f1 => ⟨_, _, rfl, rfl, .inl ⟨by decide, by decide⟩, ?_⟩⟩
    obtain ⟨m, rfl⟩ := Int.eq_ofNat_of_zero_le f0
    have e : cutS "ABCDEFGHIJKLMNOPQRSTUVWXYZabcdefghijklmnopqrstuvwxyz" (some (26 * (m : Int))) none = S (mk.drop (26 * m)) := by
      have hm : m = 0 ∨ m = 1 := by omega
      rcases hm with rfl | rfl <;> decide +kernel
    refine ⟨_, rfl, _, rfl, _, rfl, by decide +kernel, _, rfl, ?_⟩
    rw [e]
    refine for_it (walk_str (z := S (mk.drop (26 * m)))) (fun i σ H' => ∃ ms v, σ = [some (.ref p), some (.int n), some (.str (S ms)), some (.int (26 * (m : Int))), v] ∧ ms.Sublist ((mk.drop (26 * m)).take i) ∧ Bar p H H' ∧ BagAt H' p q)
      ⟨[], none, rfl, List.nil_sublist _, ((bar_new hl).trans b1).trans b1', hB1'⟩ (fun _ _ _ _ _ => trivial) ?_ ?_
    · rintro i x σ H2 H' hi ⟨ms, v, rfl, hs, b2, hB2⟩ ⟨rfl, c, hc, rfl⟩
      have hc : (mk.drop (26 * m))[i]? = some c := arr_at hc
      have hm : ms.length ≤ 52 := Nat.le_trans hs.length_le (by rw [List.length_take, List.length_drop, mk_len]; omega)
      have st : ((mk.drop (26 * m)).take (i + 1)) = (mk.drop (26 * m)).take i ++ [c] := take_snoc hc
      refine ⟨_, rfl, _, rfl, p, q, _, rfl, hB2, hn0, hn1, fun H3 d b3 hB3 d0 d1 => ?_⟩
      refine ⟨rfl, _, rfl, ?_⟩
      refine ite_b (fun _ => ?_) (fun _ => ?_)
      · refine ⟨_, rfl, _, rfl, _, _, rfl, rfl, ?_, ?_⟩
        · rw [SX.S_len]
          exact Nat.le_trans (Nat.add_le_add hm (Nat.le_refl 1)) (by decide)
        · refine ⟨ms ++ [c], some (sg c), ?_, ?_, b2.trans b3, hB3⟩
          · rw [show S ms ++ (⟨#[c]⟩ : Str) = S (ms ++ [c]) from SX.S_cat ms [c]]
            rfl
          · rw [st]
            exact List.Sublist.append hs (List.Sublist.refl _)
      · refine ⟨ms, _, rfl, ?_, b2.trans b3, hB3⟩
        rw [st]
        exact hs.trans (List.sublist_append_left _ _)
    · rintro σ H' ⟨ms, v, rfl, hs, b2, hB2⟩
      exact ⟨_, rfl, k _ _ b2 hB2 (isC_of ((hs.trans (List.take_sublist _ _)).trans (List.drop_sublist _ _)))⟩
theorem ok_either {f : Addr} {fd : FuncData} (F : Fun K "either" "either" s_either f fd) (T : Top K mg) : FnOk P w K mg base CX0 1 f fd ["one", "other"] spEither := by
  refine F.ok sc_either (fun vs H Q E h => ?_) (fun cdv A outer s H vs Q E hr h => ?_)
  · obtain ⟨a, b, rfl, _⟩ := h
    rfl
  · obtain ⟨a, b, rfl, k⟩ := h
    refine ⟨_, (pss_one (ps_ret (pe_join pe_str (pe_lc (own := [("mark", 2)]) rfl sc_either.nd (pi_str (C8.pe_gc (by rfl) T.g_MARKS)) (blkOk_by (own := [("mark", 2)]) (N := n_either) (sc := defScope s_either) (by decide +kernel)) (fun _ _ _ _ _ => (pg_name (i := 2) sc_either.nd rfl (Or.inl rfl))) (fun _ _ _ _ _ => (pts_one (PW.pt (pw_or (pt_cmpR op_in_sign (pv 2) (pv 0) rfl) (pw_or1 (pt_cmpR op_in_sign (pv 2) (pv 1) rfl)))))) (fun _ _ _ _ _ => (pv 2)))))), ?_⟩
    refine ⟨⟨_, rfl⟩, _, rfl, fun D hD => lc_it walk_str (fun i H' => H' = upd H D (.lst (filt mk (fun c => mem a c || mem b c) i))) rfl (fun _ _ _ _ => trivial) ?_ ?_⟩
    · rintro i x H2 H' hi rfl ⟨rfl, c, hc, rfl⟩
      have hc := mk_at hc
      have hl : (filt mk (fun c => mem a c || mem b c) i).length < sizeLine := Nat.lt_of_le_of_lt filt_len (by rw [mk_len]; decide)
      have yes : (mem a c || mem b c) = true → upd (upd H D (.lst (filt mk (fun c => mem a c || mem b c) i))) D (.lst (filt mk (fun c => mem a c || mem b c) i ++ [sg c])) = upd H D (.lst (filt mk (fun c => mem a c || mem b c) (i + 1))) := fun h => by
        rw [upd_upd, filt_yes (t := fun c => mem a c || mem b c) hc h]
      refine ⟨rfl, ?_⟩
      refine ⟨_, rfl, _, rfl, c, a, rfl, rfl, _, rfl, ?_⟩
      refine ite_b (fun h1 => ?_) (fun h1 => ?_)
      · have h1 : mem a c = true := h1
        refine iteT ⟨_, rfl, _, upd_same, hl, yes (by rw [h1]; rfl)⟩
      · have h1 : mem a c = false := h1
        refine ⟨_, rfl, _, rfl, c, b, rfl, rfl, _, rfl, ?_⟩
        refine ite_b (fun h2 => ?_) (fun h2 => ?_)
        · have h2 : mem b c = true := h2
          exact ⟨_, rfl, _, upd_same, hl, yes (by rw [h1, h2]; rfl)⟩
        · have h2 : mem b c = false := h2
          show upd H D _ = upd H D _
          rw [filt_no hc (t := fun c => mem a c || mem b c) (by rw [h1, h2]; rfl)]
    · rintro H' rfl
      refine join_ok (mk.filter fun c => mem a c || mem b c) ?_ ?_ ?_
      · exact Nat.le_trans (List.length_filter_le _ _) (by rw [mk_len]; decide)
      · rw [upd_same, filt_end (by rw [mk_len, mk_size]; exact Nat.le_refl _)]
      · exact k _ (same_new hD)
theorem ok_without {f : Addr} {fd : FuncData} (F : Fun K "without" "without" s_without f fd) (T : Top K mg) : FnOk P w K mg base CX0 1 f fd ["one", "other"] spWithout := by
  refine F.ok sc_without (fun vs H Q E h => ?_) (fun cdv A outer s H vs Q E hr h => ?_)
  · obtain ⟨a, b, rfl, _⟩ := h
    rfl
  · obtain ⟨a, b, rfl, hal, k⟩ := h
    have hal2 : a.cps.toList.length ≤ 1000000 := hal
    refine ⟨_, (pss_one (ps_ret (pe_join pe_str (pe_lc (own := [("mark", 2)]) rfl sc_without.nd (pi_str (pv 0)) (blkOk_by (own := [("mark", 2)]) (N := n_without) (sc := defScope s_without) (by decide +kernel)) (fun _ _ _ _ _ => (pg_name (i := 2) sc_without.nd rfl (Or.inl rfl))) (fun _ _ _ _ _ => (pts_one (pt_cmpR op_notIn_sign (pv 2) (pv 1) rfl))) (fun _ _ _ _ _ => (pv 2)))))), ?_⟩
    refine ⟨⟨_, rfl⟩, _, rfl, a, rfl, fun D hD => lc_it walk_str (fun i H' => H' = upd H D (.lst (filt a.cps.toList (fun c => !mem b c) i))) rfl (fun _ _ _ _ => trivial) ?_ ?_⟩
    · rintro i x H2 H' hi rfl ⟨rfl, c, hc, rfl⟩
      have hc := arr_at hc
      have hl : (filt a.cps.toList (fun c => !mem b c) i).length < sizeLine := Nat.lt_of_le_of_lt filt_len (Nat.lt_of_le_of_lt hal2 (by decide))
      refine ⟨rfl, _, rfl, _, rfl, c, b, rfl, rfl, _, rfl, ?_⟩
      refine ite_b (fun h2 => ?_) (fun h2 => ?_)
      · refine ⟨_, rfl, _, upd_same, hl, ?_⟩
        rw [upd_upd, filt_yes (t := fun c => !mem b c) hc h2]
        rfl
      · rw [filt_no hc (t := fun c => !mem b c) h2]
    · rintro H' rfl
      refine join_ok (a.cps.toList.filter fun c => !mem b c) (Nat.le_trans (List.length_filter_le _ _) hal2) ?_ (k _ (same_new hD))
      rw [upd_same, filt_end (by rw [Array.length_toList]; exact Nat.le_refl _)]
theorem ok_are {f : Addr} {fd : FuncData} (F : Fun K "are_contents" "are_contents" s_are_contents f fd) (T : Top K mg) (T_either : Cal P w K mg base 1 "either" spEither []) :
    FnOk P w K mg base CX0 2 f fd ["thing"] (spAre K) := by
  refine F.ok sc_are_contents (fun vs H Q E h => ?_) (fun cdv A outer s H vs Q E hr h => ?_)
  · obtain ⟨x, rfl, _⟩ := h
    rfl
  · obtain ⟨x, rfl, k⟩ := h
    refine ⟨_, (pss_one (ps_ret (pe_and (pe_callB call_isi (by rfl) T.z_isinstance (by decide +kernel) (pa_cons (pv 0) (pa_cons (pe_bltn (v := .ty "str") (u := .type "str") (by rfl) T.z_str (by decide +kernel) rfl) pa_nil))) (pe_one (pe_cmpR op_eq (pv 0) (pe_c T_either hr (by decide) (by rfl) (pa_cons (pv 0) (pa_cons pe_str pa_nil))) (nomark _)))))), ?_⟩
    rcases k with ⟨z, rfl, k⟩ | ⟨t, ht, hk, k⟩
    · refine ⟨_, rfl, _, _, _, _, true, rfl, .ty "str", .base (.str z), kit_ty (by decide +kernel), true, rfl, iteT ?_⟩
      refine ⟨_, rfl, _, rfl, z, _, rfl, fun H1 s1 => ⟨rfl, ?_⟩⟩
      have e : (sb fun c => mem z c || mem "" c) = sb (mem z) := sb_ext fun c _ => by
        have e0 : mem "" c = false := by
          unfold mem
          have e1 : ("" : Str).cps.toList = [] := by decide +kernel
          rw [e1]
          rfl
        rw [e0, Bool.or_false]
      show Q (V.bl (decide (V.str z = V.str (sb fun c => mem z c || mem "" c)))) H1
      rw [e]
      have e2 : decide (V.str z = V.str (sb (mem z))) = decide (z = sb (mem z)) := by
        by_cases c : z = sb (mem z)
        · rw [decide_eq_true c, decide_eq_true (congrArg V.str c)]
        · rw [decide_eq_false c, decide_eq_false fun q => c (V.str.inj q)]
      rw [e2]
      exact k H1 s1
    · refine ⟨_, rfl, _, _, _, _, false, rfl, .ty "str", ht, kit_ty hk, false, rfl, iteF k⟩
theorem ok_checked {f : Addr} {fd : FuncData} (F : Fun K "checked" "checked" s_checked f fd) (T_are_contents : Cal P w K mg base 2 "are_contents" (spAre K) []) :
    FnOk P w K mg base CX0 3 f fd ["contents"] spChecked := by
  refine F.ok sc_checked (fun vs H Q E h => ?_) (fun cdv A outer s H vs Q E hr h => ?_)
  · obtain ⟨x, rfl, _⟩ := h
    rfl
  · obtain ⟨z, rfl, hz, k⟩ := h
    refine ⟨_, (pss_cons (ps_if (pt_not (pt_val (pe_c T_are_contents hr (by decide) (by rfl) (pa_cons (pv 0) pa_nil))))
(pss_one ps_never)
pss_nil)
(pss_one (ps_ret (pv 0)))), ?_⟩
    refine ⟨_, rfl, _, rfl, .inl ⟨z, rfl, fun H1 s1 => ⟨_, rfl, ?_⟩⟩⟩
    rw [decide_eq_true hz.eq]
    exact ⟨_, rfl, k H1 s1⟩
theorem ok_init {f C : Addr} {fd : FuncData} (F : FunD K "__init__" "Box.__init__" (defArgs s_Box__init) (defBody s_Box__init) (defScope s_Box__init) [.str ""] [] f fd) (B : BoxC K mg C) (T_checked : Cal P w K mg base 3 "checked" spChecked []) :
    FnOk P w K mg base CX0 4 f fd ["self", "contents"] (spInit C) := by
  refine F.ok sc_Box__init (fun vs H Q E h => ?_) (fun cdv A outer s H vs Q E hr h => ?_)
  · obtain ⟨a, dx, z, rfl, _⟩ := h
    rfl
  · obtain ⟨a, dx, z, rfl, ha, hz, k⟩ := h
    refine ⟨_, PSs.nox (pss_one (ps_fld (pv 0) (pe_c T_checked hr (by decide) (by rfl) (pa_cons (pv 1) pa_nil)) rfl)), ?_⟩
    refine ⟨_, rfl, z, rfl, hz, fun H1 s1 => ⟨_, rfl, a, C, dx, [], rfl, s1 _ _ ha, B.cl, B.nC, by decide, ?_⟩⟩
    refine k _ (fun b o n e => ?_) ⟨dx, upd_same⟩
    rw [upd_ne n]
    exact s1 _ _ e
theorem ok_become {f C : Addr} {fd : FuncData} (F : Fun K "become" "Box.become" s_Box_become f fd) (B : BoxC K mg C) (T_checked : Cal P w K mg base 3 "checked" spChecked []) :
    FnOk P w K mg base CX0 4 f fd ["self", "contents"] (spBecome C) := by
  refine F.ok sc_Box_become (fun vs H Q E h => ?_) (fun cdv A outer s H vs Q E hr h => ?_)
  · obtain ⟨a, y, z, rfl, _⟩ := h
    rfl
  · obtain ⟨a, y, z, rfl, ⟨dx, ha⟩, hz, k⟩ := h
    refine ⟨_, (pss_one (ps_fld (pv 0) (pe_c T_checked hr (by decide) (by rfl) (pa_cons (pv 1) pa_nil)) rfl)), ?_⟩
    refine ⟨_, rfl, z, rfl, hz, fun H1 s1 => ⟨_, rfl, a, C, dx, _, rfl, s1 _ _ ha, B.cl, B.nC, by show 1 < 1000; decide, ?_⟩⟩
    rw [boxF_put]
    refine k _ (fun b o n e => ?_) ⟨dx, upd_same⟩
    rw [upd_ne n]
    exact s1 _ _ e
theorem ok_len {f C : Addr} {fd : FuncData} (F : Fun K "__len__" "Box.__len__" s_Box__len f fd) (T : Top K mg) (B : BoxC K mg C) : FnOk P w K mg base CX0 1 f fd ["self"] (spLen C) := by
  refine F.ok sc_Box__len (fun vs H Q E h => ?_) (fun cdv A outer s H vs Q E hr h => ?_)
  · obtain ⟨a, z, rfl, _⟩ := h
    rfl
  · obtain ⟨a, z, rfl, ⟨dx, ha⟩, hl, k⟩ := h
    refine ⟨_, (pss_one (ps_ret (pe_callB call_len_str (by rfl) T.z_len (by decide +kernel) (pa_cons (pe_fld (pv 0) rfl) pa_nil)))), ?_⟩
    exact ⟨_, rfl, a, C, dx, _, _, rfl, ha, B.cl, B.nC, boxF_lk z, _, rfl, Nat.le_of_lt (small1000 hl), k⟩
theorem ok_has {f C : Addr} {fd : FuncData} (F : Fun K "__contains__" "Box.__contains__" s_Box__contains f fd) (T : Top K mg) (B : BoxC K mg C) : FnOk P w K mg base CX0 1 f fd ["self", "thing"] (spHas K C) := by
  refine F.ok sc_Box__contains (fun vs H Q E h => ?_) (fun cdv A outer s H vs Q E hr h => ?_)
  · obtain ⟨a, z, x, rfl, _⟩ := h
    rfl
  · obtain ⟨a, z, x, rfl, ⟨dx, ha⟩, hx, k⟩ := h
    refine ⟨_, (pss_one (ps_ret (pe_and (pe_callB call_isi (by rfl) T.z_isinstance (by decide +kernel) (pa_cons (pv 1) (pa_cons (pe_bltn (v := .ty "str") (u := .type "str") (by rfl) T.z_str (by decide +kernel) rfl) pa_nil))) (pe_and (pe_cmpR op_eq (pe_callB call_len_str (by rfl) T.z_len (by decide +kernel) (pa_cons (pv 1) pa_nil)) pe_int (nomark _)) (pe_one (pe_cmpR op_in_sign (pv 1) (pe_fld (pv 0) rfl) rfl)))))), ?_⟩
    rcases hx with ⟨y, rfl, hy⟩ | hn
    · refine ⟨_, rfl, _, _, _, _, true, rfl, .ty "str", .base (.str y), kit_ty (by decide +kernel), true, rfl, iteT ?_⟩
      refine ⟨_, rfl, _, rfl, Nat.le_of_lt (small1000 hy), rfl, _, rfl, ite_b (fun h1 => ?_) (fun h1 => ?_)⟩
      · have h2 : V.int (y.length : Nat) = V.int 1 := of_decide_eq_true h1
        have h3 : y.cps.toList.length = 1 := by
          injection h2 with h2
          have : y.length = 1 := by omega
          exact this
        obtain ⟨c, hc⟩ := List.length_eq_one_iff.mp h3
        have ey : y = ⟨#[c]⟩ := by
          rw [← SX.S_tl y, hc]
        have e4 : hasV z (.str y) = mem z c := by
          unfold hasV
          simp only [hc]
        rw [e4] at k
        refine ⟨_, rfl, _, rfl, a, C, dx, _, _, rfl, ha, B.cl, B.nC, boxF_lk z, c, z, by rw [ey], rfl, k⟩
      · have h2 : ¬ V.int (y.length : Nat) = V.int 1 := of_decide_eq_false h1
        have e4 : hasV z (.str y) = false := by
          unfold hasV
          simp only
          split
          · rename_i c hc
            refine absurd ?_ h2
            have : y.length = 1 := by
              show y.cps.toList.length = 1
              rw [hc]
              rfl
            rw [this]
            rfl
          · rfl
        rw [e4] at k
        exact k
    · obtain ⟨t, ht, hk⟩ := id hn
      rw [hasV_noStr hn] at k
      exact ⟨_, rfl, _, _, _, _, false, rfl, .ty "str", ht, kit_ty hk, false, rfl, iteF k⟩
theorem ok_cross {f C : Addr} {fd : FuncData} (F : Fun K "crosses" "Box.crosses" s_Box_crosses f fd) (T : Top K mg) (B : BoxC K mg C) : FnOk P w K mg base CX0 1 f fd ["self"] (spCross C) := by
  refine F.ok sc_Box_crosses (fun vs H Q E h => ?_) (fun cdv A outer s H vs Q E hr h => ?_)
  · obtain ⟨a, z, rfl, _⟩ := h
    rfl
  · obtain ⟨a, z, rfl, ⟨dx, ha⟩, hz, k⟩ := h
    refine ⟨_, (pss_one (ps_ret (pe_not (pe_callB (cr_any rfl) (by rfl) T.z_any (by decide +kernel) (pa_cons (pe_lc (own := [("mark", 1)]) rfl sc_Box_crosses.nd (pi_str (pe_fld (pv 0) rfl)) (blkOk_by (own := [("mark", 1)]) (N := n_Box_crosses) (sc := defScope s_Box_crosses) (by decide +kernel)) (fun _ _ _ _ _ => (pg_name (i := 1) sc_Box_crosses.nd rfl (Or.inl rfl))) (fun _ _ _ _ _ => pts_nil) (fun _ _ _ _ _ => (pe_m0 PySem.F.slot_str_isupper PySem.F.type_str_isupper mt_isupper (pv 1)))) pa_nil))))), ?_⟩
    refine ⟨_, rfl, a, C, dx, _, _, rfl, ha, B.cl, B.nC, boxF_lk z, z, rfl, fun D hD => lc_it walk_str (fun i H' => H' = upd H D (.lst ((z.cps.toList.take i).map fun c => V.bl (!decide (97 ≤ c))))) rfl (fun _ _ _ _ => trivial) ?_ ?_⟩
    · rintro i x H2 H' hi rfl ⟨rfl, c, hc, rfl⟩
      have hc := arr_at hc
      have hz2 : z.cps.toList.length ≤ 52 := hz.len
      have hl : (z.cps.toList.take i).length ≤ 52 := by
        rw [List.length_take]
        omega
      refine ⟨rfl, lc_yes ⟨_, rfl, ⟨_, rfl⟩, _, rfl, rfl, trivial, _, upd_same, ?_, ?_⟩⟩
      · rw [List.length_map]
        exact small1000 (by omega)
      · rw [upd_upd, take_snoc hc, List.map_append]
        show upd H D (.lst (_ ++ [V.bl (Txt.isupper (S [c]))])) = _
        rw [upper_mk c (isC_sub hz (List.mem_of_getElem? hc))]
        rfl
    · rintro H' rfl
      have e : (z.cps.toList.take z.cps.size).map (fun c => V.bl (!decide (97 ≤ c))) = (z.cps.toList.map fun c => !decide (97 ≤ c)).map V.bl := by
        rw [List.take_of_length_le (by rw [Array.length_toList]; exact Nat.le_refl _), List.map_map]
        rfl
      refine ⟨_, _, rfl, SqL.of (by rw [upd_same, e]), _, rfl, ?_⟩
      have e2 : (!((z.cps.toList.map fun c => !decide (97 ≤ c)).any id)) = plainB z := by
        unfold plainB
        rw [List.any_map, List.all_eq_not_any_not]
        rfl
      show Q (V.bl (!((z.cps.toList.map fun c => !decide (97 ≤ c)).any id))) _
      rw [e2]
      exact k _ (same_new hD)
theorem ok_within {f C : Addr} {fd : FuncData} (F : Fun K "within" "Box.within" s_Box_within f fd) (B : BoxC K mg C) (T_without : Cal P w K mg base 1 "without" spWithout []) : FnOk P w K mg base CX0 2 f fd ["self", "other"] (spWithin C) := by
  refine F.ok sc_Box_within (fun vs H Q E h => ?_) (fun cdv A outer s H vs Q E hr h => ?_)
  · obtain ⟨a, b, y, z, rfl, _⟩ := h
    rfl
  · obtain ⟨a, b, y, z, rfl, ⟨dx, ha⟩, ⟨dy, hb⟩, hy, k⟩ := h
    refine ⟨_, (pss_one (ps_ret (pe_cmpR op_eq (pe_c T_without hr (by decide) (by rfl) (pa_cons (pe_fld (pv 0) rfl) (pa_cons (pe_fld (pv 1) rfl) pa_nil))) pe_str (nomark _)))), ?_⟩
    refine ⟨_, rfl, a, C, dx, _, _, rfl, ha, B.cl, B.nC, boxF_lk y, _, rfl, b, C, dy, _, _, rfl, hb, B.cl, B.nC, boxF_lk z, y, z, rfl, Nat.le_trans hy.len (by decide), fun H1 s1 => ⟨rfl, ?_⟩⟩
    have e : decide (V.str (S (y.cps.toList.filter fun c => !mem z c)) = V.str "") = y.cps.toList.all fun c => mem z c := by
      rw [← filter_nil_all]
      have e0 : ("" : Str) = S [] := by decide +kernel
      rw [e0]
      by_cases c : y.cps.toList.filter (fun c => !mem z c) = []
      · rw [decide_eq_true c, c]
        exact decide_eq_true rfl
      · rw [decide_eq_false c]
        exact decide_eq_false fun q => c (SX.S_inj (V.str.inj q))
    show Q (V.bl (decide (V.str (S (y.cps.toList.filter fun c => !mem z c)) = V.str ""))) H1
    rw [e]
    exact k H1 s1
theorem ok_plus {f : Addr} {fd : FuncData} (F : Fun K "_law_plus" "_law_plus" s_plus f fd) (T : Top K mg) (T_take : Cal P w K mg base 1 "_law_take" spTake []) (T_contents : Cal P w K mg base 3 "_law_contents" spContents []) :
    FnOk P w K mg base CX0 4 f fd ["_law_bag_here", "_law_text"] spPlus := by
  refine F.ok sc_plus (fun vs H Q E h => ?_) (fun cdv A outer s H vs Q E hr h => ?_)
  · obtain ⟨p, q, t, rfl, _⟩ := h
    rfl
  · obtain ⟨p, q, t, rfl, hB, ht, k⟩ := h
    refine ⟨_, (pss_cons (ps_par (i := 2) (j := 3) rfl sc_plus.nd rfl rfl (by decide) rfl rfl (by exact (pa_cons (pe_c T_contents hr (by decide) (by rfl) (pa_cons (pv 0) pa_nil)) (pa_cons pe_str pa_nil))) rfl)
(pss_cons (ps_set (i := 4) sc_plus.nd rfl (Or.inl rfl) (pe_c T_take hr (by decide) (by rfl) (pa_cons (pv 0) (pa_cons (pe_op op_add (pe_op op_mul pe_int (pe_callB call_len_str (by rfl) T.z_len (by decide +kernel) (pa_cons (pv 1) pa_nil))) pe_int) pa_nil))))
(pss_cons (ps_for PassesOwn.never rfl (pi_str pe_str) (pg_name (i := 5) sc_plus.nd rfl (Or.inl rfl))
(pss_one (ps_if (PW.pt (pw_and (PW.pt (pw_or (pt_cmpR op_in_sign (pv 5) (pv 1) rfl) (pw_or1 (pt_cmpR op_in_sign (pv 5) (pv 2) rfl)))) (pw_and1 (pt_cmpR op_ne (pv 5) (pe_slice sl_str (pv 1) (po_some (pv 4)) (po_some (pe_op op_add (pv 4) pe_int))) (nomark _)))))
(pss_one (ps_set (i := 3) sc_plus.nd rfl (Or.inl rfl) (pe_op op_add_str (pv 3) (pv 5))))
pss_nil)))
(pss_one (ps_ret (pv 3)))))), ?_⟩
    have ht52 := ht.len
    refine ⟨_, rfl, p, q, rfl, hB, fun H1 z1 b1 hB1 hz1 => ⟨_, _, rfl, ?_⟩⟩
    refine ⟨_, rfl, _, rfl, _, rfl, Nat.le_trans ht52 (by decide), _, _, rfl, rfl, .inl ⟨by decide, by decide⟩, _, _, rfl, rfl, p, q, _, rfl, hB1, by omega, by omega, fun H2 d b2 hB2 d0 d1 => ?_⟩
    refine ⟨_, rfl, for_it walk_str (fun i σ H' => ∃ ms v, σ = [some (.ref p), some (.str t), some (.str z1), some (.str (S ms)), some (.int d), v] ∧ ms.Sublist (mk.take i) ∧ H' = H2)
      ⟨[], none, rfl, List.nil_sublist _, rfl⟩ (fun _ _ _ _ _ => trivial) ?_ ?_⟩
    · rintro i x σ H3 H' hi ⟨ms, v, rfl, hs, rfl⟩ ⟨rfl, c, hc, rfl⟩
      have hc := mk_at hc
      have hm : ms.length ≤ 52 := Nat.le_trans hs.length_le (by rw [List.length_take, mk_len]; omega)
      dsimp only [gName]
      refine st_if (b := (mem t c || mem z1 c) && !decide (V.str (S [c]) = V.str (cutS t (some d) (some (d + 1))))) ?_ (ite_b (fun _ => ?_) (fun _ => ?_))
      · refine ans_and2 (ans_orB ?_ ?_) ?_
        · exact ans_cmp (val_var rfl) (val_var rfl) fun Q q => ⟨c, t, rfl, rfl, q⟩
        · exact ans_cmp (val_var rfl) (val_var rfl) fun Q q => ⟨c, z1, rfl, rfl, q⟩
        · exact fun Q qq => ⟨_, rfl, _, rfl, _, rfl, _, rfl, _, rfl, _, _, rfl, rfl, _, rfl, t, rfl, Nat.le_trans ht52 (by decide), rfl, _, rfl, qq⟩
      · refine ⟨_, rfl, _, rfl, _, _, rfl, rfl, ?_, ?_⟩
        · rw [SX.S_len]
          exact Nat.le_trans (Nat.add_le_add hm (Nat.le_refl 1)) (by decide)
        · refine ⟨ms ++ [c], some (sg c), ?_, (sub_step hs hc).1, rfl⟩
          rw [show S ms ++ (⟨#[c]⟩ : Str) = S (ms ++ [c]) from SX.S_cat ms [c]]
          rfl
      · exact ⟨ms, _, rfl, (sub_step hs hc).2, rfl⟩
    · rintro σ H' ⟨ms, v, rfl, hs, rfl⟩
      exact ⟨_, rfl, k _ _ (b1.trans b2) hB2 (isC_of (hs.trans (List.take_sublist _ _)))⟩
theorem ok_asked {f : Addr} {fd : FuncData} (F : Fun K "_law_asked" "_law_asked" s_asked f fd) (T : Top K mg) (T_take : Cal P w K mg base 1 "_law_take" spTake []) (T_of : Cal P w K mg base 2 "_law_of" spOf []) :
    FnOk P w K mg base CX0 3 f fd ["_law_bag_here", "_law_text"] (spAsked K) := by
  refine F.ok sc_asked (fun vs H Q E h => ?_) (fun cdv A outer s H vs Q E hr h => ?_)
  · obtain ⟨p, q, t, rfl, _⟩ := h
    rfl
  · obtain ⟨p, q, t, rfl, hB, ht, k⟩ := h
    refine ⟨_, (pss_cons (ps_par (i := 2) (j := 3) rfl sc_asked.nd rfl rfl (by decide) rfl rfl (by exact (pa_cons (pe_c T_take hr (by decide) (by rfl) (pa_cons (pv 0) (pa_cons (pe_op op_add (pe_callB call_len_str (by rfl) T.z_len (by decide +kernel) (pa_cons (pv 1) pa_nil)) pe_int) pa_nil))) (pa_cons (pe_c T_take hr (by decide) (by rfl) (pa_cons (pv 0) (pa_cons pe_int pa_nil))) pa_nil))) rfl)
(pss_cons (ps_if (pt_cmpR op_eq (pv 3) pe_int (nomark _))
(pss_one (ps_ret (pe_slice sl_str (pv 1) (po_some (pv 2)) (po_some (pe_op op_add (pv 2) pe_int)))))
pss_nil)
(pss_cons (ps_if (pt_cmpR op_eq (pv 3) pe_int (nomark _))
(pss_one (ps_ret (pe_c T_of hr (by decide) (by rfl) (pa_cons (pv 0) (pa_cons (pe_lst (pa_cons pe_non (pa_cons pe_bl (pa_cons pe_int (pa_cons pe_int (pa_cons (pe_op op_pow pe_int pe_int) (pa_cons (pe_lst (pa_cons (pe_slice sl_str (pv 1) (po_some (pv 2)) (po_some (pe_op op_add (pv 2) pe_int))) pa_nil)) (pa_cons (pe_tup (pa_cons (pe_slice sl_str (pv 1) (po_some (pv 2)) (po_some (pe_op op_add (pv 2) pe_int))) pa_nil)) (pa_cons (pe_lst pa_nil) (pa_cons pe_str (pa_cons pe_str (pa_cons (pv 1) pa_nil)))))))))))) pa_nil)))))
pss_nil)
(pss_cons (ps_if (pt_cmpR op_eq (pv 3) pe_int (nomark _))
(pss_one (ps_ret (pe_slice sl_str (pv 1) (po_some (pv 2)) (po_some (pe_op op_add (pv 2) pe_int)))))
pss_nil)
(pss_one (ps_ret (pe_c T_of hr (by decide) (by rfl) (pa_cons (pv 0) (pa_cons pe_str pa_nil))))))))), ?_⟩
    have ht52 := ht.len
    have sz : t.length ≤ sizeLine := Nat.le_trans ht52 (by decide)
    refine ⟨_, rfl, _, rfl, _, rfl, sz, _, _, rfl, rfl, p, q, _, rfl, hB, by omega, by omega, fun H1 d b1 hB1 d0 d1 => ⟨_, rfl, p, q, 6, rfl, hB1, by decide, by decide, fun H2 way b2 hB2 w0 w1 => ⟨_, _, rfl, ?_⟩⟩⟩
    have str : ∀ lo hi H', Thing K H' (.str (cutS t lo hi)) := fun lo hi H' => .inl ⟨_, rfl, cut_len (Nat.le_trans ht52 (by decide))⟩
    refine ⟨_, rfl, rfl, _, rfl, ite_b (fun _ => ?_) (fun _ => ?_)⟩
    · exact ⟨_, rfl, _, rfl, _, rfl, _, rfl, _, _, rfl, rfl, _, rfl, t, rfl, sz, k _ _ (b1.trans b2) hB2 (str _ _ _)⟩
    dsimp only [tNext]
    refine ⟨_, rfl, rfl, _, rfl, ite_b (fun _ => ?_) (fun _ => ?_)⟩
    · refine ⟨_, rfl, _, _, rfl, rfl, ⟨by decide, by decide, by decide⟩, _, rfl, _, rfl, _, rfl, _, rfl, _, _, rfl, rfl, _, rfl, t, rfl, sz, by show 1 ≤ sizeLine; decide, fun l1 hl1 => ?_⟩
      refine ⟨_, rfl, _, rfl, _, rfl, _, rfl, _, _, rfl, rfl, _, rfl, t, rfl, sz, by show 1 ≤ sizeLine; decide, fun l2 hl2 => ?_⟩
      refine ⟨Nat.zero_le _, fun l3 hl3 => ⟨_, rfl, by show 11 ≤ sizeLine; decide, fun l4 hl4 => ?_⟩⟩
      have s1 := same_new (o := .lst [.str (cutS t (some d) (some (d + 1)))]) hl1
      have s2 := same_new (o := .tup [.str (cutS t (some d) (some (d + 1)))]) hl2
      have s3 := same_new (o := .lst []) hl3
      refine ⟨p, q, _, rfl, (((hB2.same s1).same s2).same s3).same (same_new hl4), .inl ⟨l4, _, rfl, (((hB2.same s1).same s2).same s3).there hl4, upd_same, by show 0 < 11; decide, by show 11 < 1000; decide, fun H' x b hB' hx => ?_⟩⟩
      have b' : Bar p H H' := (((((b1.trans b2).trans (bar_of s1)).trans (bar_of s2)).trans (bar_of s3)).trans (bar_new hl4)).trans b
      refine k _ _ b' hB' ?_
      have n1 : l1 ≠ p := hB2.there hl1
      have n2 : l2 ≠ p := (hB2.same s1).there hl2
      have n3 : l3 ≠ p := ((hB2.same s1).same s2).there hl3
      have s4 := same_new (o := .lst [V.non, .bl true, .int 0, .int 1, .int (10 ^ 29), .ref l1, .ref l2, .ref l3, .str "", .str " ", .str t]) hl4
      simp only [List.mem_cons, List.not_mem_nil, or_false] at hx
      rcases hx with rfl | rfl | rfl | rfl | rfl | rfl | rfl | rfl | rfl | rfl | rfl
      · exact .inr noStr_non
      · exact .inr noStr_bl
      · exact .inr noStr_int
      · exact .inr noStr_int
      · exact .inr noStr_int
      · exact .inr (noStr_lst (b _ _ n1 (s4 _ _ (s3 _ _ (s2 _ _ upd_same)))))
      · exact .inr (noStr_tup (b _ _ n2 (s4 _ _ (s3 _ _ upd_same))))
      · exact .inr (noStr_lst (b _ _ n3 (s4 _ _ upd_same)))
      · exact .inl ⟨_, rfl, by decide +kernel⟩
      · exact .inl ⟨_, rfl, by decide +kernel⟩
      · exact .inl ⟨_, rfl, Nat.le_trans ht52 (by decide)⟩
    dsimp only [tNext]
    refine ⟨_, rfl, rfl, _, rfl, ite_b (fun _ => ?_) (fun _ => ?_)⟩
    · exact ⟨_, rfl, _, rfl, _, rfl, _, rfl, _, _, rfl, rfl, _, rfl, t, rfl, sz, k _ _ (b1.trans b2) hB2 (str _ _ _)⟩
    dsimp only [tNext]
    refine ⟨_, rfl, p, q, _, rfl, hB2, .inr ⟨mk, by rw [← marks_eq], by rw [mk_len]; decide, by rw [mk_len]; decide, fun H' c b hB' hc => ?_⟩⟩
    exact k _ _ ((b1.trans b2).trans b) hB' (.inl ⟨_, rfl, by show 1 ≤ 1000; decide⟩)
theorem ok_holds {f : Addr} {fd : FuncData} (F : Fun K "_law_holds" "_law_holds" s_holds f fd) (T : Top K mg) : FnOk P w K mg base CX0 1 f fd ["_law_text", "_law_thing"] (spHolds K) := by
  refine F.ok sc_holds (fun vs H Q E h => ?_) (fun cdv A outer s H vs Q E hr h => ?_)
  · obtain ⟨t, x, rfl, _⟩ := h
    rfl
  · obtain ⟨t, x, rfl, ht, hx, k⟩ := h
    refine ⟨_, (pss_cons (ps_for PassesOwn.never rfl (pi_str (pv 0)) (pg_name (i := 2) sc_holds.nd rfl (Or.inl rfl))
(pss_one (ps_if (PW.pt (pw_and (pt_val (pe_callB call_isi (by rfl) T.z_isinstance (by decide +kernel) (pa_cons (pv 1) (pa_cons (pe_bltn (v := .ty "str") (u := .type "str") (by rfl) T.z_str (by decide +kernel) rfl) pa_nil)))) (pw_and1 (pt_cmpR op_eq (pv 1) (pv 2) (nomark _)))))
(pss_one (ps_ret pe_bl))
pss_nil)))
(pss_one (ps_ret pe_bl))), ?_⟩
    refine ⟨_, rfl, t, rfl, for_it walk_str (fun i σ H' => ∃ v, σ = [some (.str t), some x, v] ∧ H' = H ∧ ∀ c ∈ t.cps.toList.take i, x ≠ sg c)
      ⟨none, rfl, rfl, fun c hc => by rw [List.take_zero] at hc; cases hc⟩ (fun _ _ _ _ _ => trivial) ?_ ?_⟩
    · rintro i y σ H2 H' hi ⟨v, rfl, rfl, hn⟩ ⟨rfl, c, hc, rfl⟩
      have hc := arr_at hc
      have go : x ≠ sg c → ∀ d ∈ t.cps.toList.take (i + 1), x ≠ sg d := fun h d hd => by
        rw [take_snoc hc] at hd
        rcases List.mem_append.mp hd with hd | hd
        · exact hn d hd
        · rw [List.mem_singleton.mp hd]
          exact h
      rcases hx with ⟨z, rfl, hz⟩ | hns
      · refine ⟨_, rfl, _, _, _, _, true, rfl, .ty "str", .base (.str z), kit_ty (by decide +kernel), true, rfl, iteT ?_⟩
        refine ⟨_, rfl, _, rfl, rfl, _, rfl, ite_b (fun h1 => ?_) (fun h1 => ?_)⟩
        · have e : V.str z = sg c := of_decide_eq_true h1
          rw [e, hasV_sg, show mem t c = true from decide_eq_true (List.mem_of_getElem? hc)] at k
          exact k
        · exact ⟨_, rfl, rfl, go (of_decide_eq_false h1)⟩
      · obtain ⟨tt, hty, hk⟩ := id hns
        refine ⟨_, rfl, _, _, _, _, false, rfl, .ty "str", hty, kit_ty hk, false, rfl, iteF ?_⟩
        refine ⟨_, rfl, rfl, go fun e => ?_⟩
        rw [e] at hns
        obtain ⟨t2, ty2, k2⟩ := hns
        cases ty2 with
        | base b =>
          cases b
          exact absurd k2 (by decide +kernel)
    · rintro σ H' ⟨v, rfl, rfl, hn⟩
      rw [List.take_of_length_le (by rw [Array.length_toList]; exact Nat.le_refl _)] at hn
      rw [hasV_none hn] at k
      exact k
theorem ok_right {f C : Addr} {fd : FuncData} (F : Fun K "_law_is_right" "_law_is_right" s_is_right f fd) (T : Top K mg) (B : BoxC K mg C) (T_asked : Cal P w K mg base 3 "_law_asked" (spAsked K) []) (T_holds : Cal P w K mg base 1 "_law_holds" (spHolds K) [])
    (O_contains : Own P w K mg base 1 C "__contains__" (spHas K C)) (O_len : Own P w K mg base 1 C "__len__" (spLen C)) (O_crosses : OwnProp P w K mg base 1 C "crosses" (spCross C)) :
    FnOk P w K mg base CX0 4 f fd ["_law_bag_here", "_law_box", "_law_text"] (spRight4 C) := by
  refine F.ok sc_is_right (fun vs H Q E h => ?_) (fun cdv A outer s H vs Q E hr h => ?_)
  · obtain ⟨p, q, b, t, rfl, _⟩ := h
    rfl
  · obtain ⟨p, q, b, t, rfl, hB, hb, ht, k⟩ := h
    refine ⟨_, (pss_cons (ps_for PassesOwn.never rfl (pi_range1 rfl T.z_range (pa_cons pe_int pa_nil)) (pg_name (i := 3) sc_is_right.nd rfl (Or.inl rfl))
(pss_cons (ps_set (i := 4) sc_is_right.nd rfl (Or.inl rfl) (pe_c T_asked hr (by decide) (by rfl) (pa_cons (pv 0) (pa_cons (pv 2) pa_nil))))
(pss_one (ps_if (PW.pt (pw_or (pt_cmpR op_ne (pe_cmpR (op_inO O_contains hr (by decide)) (pv 4) (pv 1) rfl) (pe_c T_holds hr (by decide) (by rfl) (pa_cons (pv 2) (pa_cons (pv 4) pa_nil))) (nomark _)) (pw_or1 (pt_cmpR op_eq (pe_cmpR (op_ninO O_contains hr (by decide)) (pv 4) (pv 1) rfl) (pe_c T_holds hr (by decide) (by rfl) (pa_cons (pv 2) (pa_cons (pv 4) pa_nil))) (nomark _)))))
(pss_one (ps_ret pe_bl))
pss_nil))))
(pss_cons (ps_set (i := 5) sc_is_right.nd rfl (Or.inl rfl) (pe_cmpR (op_eqD hr.units) (pe_lc (own := [("_law_mark", 6)]) rfl sc_is_right.nd (pi_str (pv 2)) (blkOk_by (own := [("_law_mark", 6)]) (N := n_is_right) (sc := defScope s_is_right) (by decide +kernel)) (fun _ _ _ _ _ => (pg_name (i := 6) sc_is_right.nd rfl (Or.inl rfl))) (fun _ _ _ _ _ => (pts_one (pt_cmpR op_in_sign (pv 6) pe_str rfl))) (fun _ _ _ _ _ => (pv 6))) (pe_lst pa_nil) (nomark _)))
(pss_cons (ps_if (PW.pt (pw_or (pt_not (pt_val (pe_callB call_isi (by rfl) T.z_isinstance (by decide +kernel) (pa_cons (pe_propO O_crosses B.cl hr (by decide) (pv 1) rfl) (pa_cons (pe_bltn (v := .ty "bool") (u := .type "bool") (by rfl) T.z_bool (by decide +kernel) rfl) pa_nil))))) (pw_or1 (pt_cmpR op_ne (pe_propO O_crosses B.cl hr (by decide) (pv 1) rfl) (pv 5) (nomark _)))))
(pss_one (ps_ret pe_bl))
pss_nil)
(pss_one (ps_ret (pe_and (pe_cmpR op_eq (pe_callB (call_lenO O_len hr (by decide)) (by rfl) T.z_len (by decide +kernel) (pa_cons (pv 1) pa_nil)) (pe_callB call_len_str (by rfl) T.z_len (by decide +kernel) (pa_cons (pv 2) pa_nil)) (nomark _)) (pe_one (pe_cmpR op_eq (pe_fld (pv 1) rfl) (pv 2) (nomark _))))))))), ?_⟩
    have ht52 := ht.len
    have nbp : b ≠ p := hb.bag hB
    refine ⟨_, rfl, by decide, by decide, for_it walk_range (fun i σ H' => ∃ v1 v2 v3 v4, σ = [some (.ref p), some (.ref b), some (.str t), v1, v2, v3, v4] ∧ Bar p H H' ∧ BagAt H' p q)
      ⟨none, none, none, none, rfl, Bar.refl _ _, hB⟩ (fun _ _ _ _ _ => trivial) ?_ ?_⟩
    · rintro i x σ H1 H1' hi ⟨v1, v2, v3, v4, rfl, b1, hB1⟩ ⟨rfl, rfl⟩
      refine ⟨_, rfl, _, rfl, p, q, t, rfl, hB1, ht, fun H2 x b2 hB2 hx => ?_⟩
      have hb2 := hb.bar (b1.trans b2) nbp
      obtain ⟨dx, hb2'⟩ := id hb2
      refine ⟨_, rfl, _, rfl, b, dx, _, rfl, hb2', b, t, x, rfl, hb2, hx, _, rfl, _, rfl, _, rfl, t, x, rfl, ht, hx, rfl, _, rfl, ?_⟩
      have e1 : (!decide (V.bl (id (hasV t x)) = V.bl (hasV t x))) = false := by
        cases hasV t x <;> rfl
      have e2 : decide (V.bl (!(hasV t x)) = V.bl (hasV t x)) = false := by
        cases hasV t x <;> rfl
      rw [e1]
      refine iteF ⟨_, rfl, _, rfl, b, dx, _, rfl, hb2', b, t, x, rfl, hb2, hx, _, rfl, _, rfl, _, rfl, t, x, rfl, ht, hx, rfl, _, rfl, ?_⟩
      rw [e2]
      exact iteF ⟨_, _, _, _, rfl, b1.trans b2, hB2⟩
    · rintro σ H1 ⟨v1, v2, v3, v4, rfl, b1, hB1⟩
      have hb1 := hb.bar b1 nbp
      -- is_plain
      refine ⟨_, rfl, t, rfl, fun D hD => lc_it walk_str (fun i H' => H' = upd H1 D (.lst (filt t.cps.toList (fun c => decide (c ∈ (SX.S (List.range' 65 26)).cps.toList)) i))) rfl (fun _ _ _ _ => trivial) ?_ ?_⟩
      · rintro i x H2 H' hi rfl ⟨rfl, c, hc, rfl⟩
        have hc := arr_at hc
        have hl : (filt t.cps.toList (fun c => decide (c ∈ (SX.S (List.range' 65 26)).cps.toList)) i).length < sizeLine := Nat.lt_of_le_of_lt filt_len (Nat.lt_of_le_of_lt (show t.cps.toList.length ≤ 52 from ht52) (by decide))
        refine ⟨rfl, _, rfl, _, _, rfl, rfl, _, rfl, ?_⟩
        have eC : ("ABCDEFGHIJKLMNOPQRSTUVWXYZ" : Str) = SX.S (List.range' 65 26) := by decide +kernel
        rw [eC]
        refine ite_b (fun h2 => ?_) (fun h2 => ?_)
        · refine ⟨_, rfl, _, upd_same, hl, ?_⟩
          rw [upd_upd, filt_yes (t := fun c => decide (c ∈ (SX.S (List.range' 65 26)).cps.toList)) hc h2]
          rfl
        · rw [filt_no hc (t := fun c => decide (c ∈ (SX.S (List.range' 65 26)).cps.toList)) h2]
      · rintro H' rfl
        rw [filt_end (by rw [Array.length_toList]; exact Nat.le_refl _)]
        refine ⟨Nat.zero_le _, fun l hl => ?_⟩
        have nDl : D ≠ l := ne_of_none upd_same hl
        have eP : decide (t.cps.toList.filter (fun c => decide (c ∈ (SX.S (List.range' 65 26)).cps.toList)) = []) = plainB t := by
          unfold plainB
          rw [← filter_nil_all]
          refine congrArg (fun l : List Nat => decide (l = [])) (List.filter_congr fun c hc => ?_)
          have : ∀ c ∈ mk, decide (c ∈ (SX.S (List.range' 65 26)).cps.toList) = !decide (97 ≤ c) := by decide +kernel
          exact this c (isC_sub ht hc)
        refine ⟨_, _, .lst (SqL.of ((upd_ne nDl).trans upd_same)) (dp_strs _), .lst (SqL.of upd_same) .nil, shaped_strs (fun c hc => mk_small c (isC_sub ht (List.mem_filter.mp hc).1)), by decide, ?_⟩
        rw [eqv_nil_strs, eP]
        have s2 : Same H1 (upd (upd H1 D (.lst ((t.cps.toList.filter (fun c => decide (c ∈ (SX.S (List.range' 65 26)).cps.toList))).map sg))) l (.lst [])) := (same_new hD).trans (same_new hl)
        have hb2 := hb1.same s2
        obtain ⟨dx, hb2'⟩ := id hb2
        refine ⟨_, rfl, b, dx, _, rfl, hb2', b, t, rfl, hb2, ht, fun H3 s3 => ⟨_, _, _, _, true, rfl, .ty "bool", .base (.bl _), kit_ty (by decide +kernel), true, rfl, iteF ?_⟩⟩
        have hb3 := hb2.same s3
        obtain ⟨dx3, hb3'⟩ := id hb3
        refine ⟨_, rfl, b, dx3, _, rfl, hb3', b, t, rfl, hb3, ht, fun H4 s4 => ⟨_, rfl, rfl, _, rfl, ?_⟩⟩
        rw [decide_eq_true rfl]
        refine iteF ?_
        have hb4 := hb3.same s4
        obtain ⟨dx4, hb4'⟩ := id hb4
        refine ⟨_, rfl, b, dx4, _, rfl, hb4', b, t, rfl, hb4, Nat.le_trans ht52 (by decide), ⟨_, rfl, by omega, _, rfl, _, rfl, Nat.le_trans ht52 (by decide), rfl, _, rfl, ?_⟩⟩
        rw [decide_eq_true rfl]
        refine iteT ⟨_, rfl, b, C, dx4, _, _, rfl, hb4', B.cl, B.nC, boxF_lk t, _, rfl, rfl, ?_⟩
        rw [dec_str_same]
        have sA := (s2.trans s3).trans s4
        exact k H4 (b1.trans (bar_of sA)) (hB1.same sA)
theorem ok_law {f C : Addr} {fd : FuncData} (F : Fun K "law" "law" s_law f fd) (T : Top K mg) (B : BoxC K mg C)
    (T_bag : Cal P w K mg base 1 "_law_bag" (spBag K) []) (T_take : Cal P w K mg base 1 "_law_take" spTake []) (T_contents : Cal P w K mg base 3 "_law_contents" spContents []) (T_plus : Cal P w K mg base 4 "_law_plus" spPlus [])
    (T_Box : Mak P w K mg base 4 "Box" C (spInit C) []) (T_is_right : Cal P w K mg base 4 "_law_is_right" (spRight4 C) []) (T_Box_within : Met P w K mg base 2 C "within" (spWithin C) []) (T_Box_become : Met P w K mg base 4 C "become" (spBecome C) []) :
    FnOk P w K mg base CX0 6 f fd ["_law_script"] (spLaw K) := by
  refine F.ok sc_law (fun vs H Q E h => ?_) (fun cdv A outer s H vs Q E hr h => ?_)
  · obtain ⟨a, ns, rfl, _⟩ := h
    rfl
  · obtain ⟨a, ns, rfl, hS, hlen, k⟩ := h
    refine ⟨_, (pss_cons (ps_for PassesOwn.never rfl (pi_range1 rfl T.z_range (pa_cons (pe_callB (call_max2 rfl) (by rfl) T.z_max (by decide +kernel) (pa_cons pe_int (pa_cons (pe_callB (call_min2 rfl) (by rfl) T.z_min (by decide +kernel) (pa_cons pe_int (pa_cons (pe_callB call_len_seq (by rfl) T.z_len (by decide +kernel) (pa_cons (pv 0) pa_nil)) pa_nil))) pa_nil))) pa_nil)) (pg_name (i := 1) sc_law.nd rfl (Or.inl rfl))
(pss_cons (ps_set (i := 2) sc_law.nd rfl (Or.inl rfl) (pe_c T_bag hr (by decide) (by rfl) (pa_cons (pv 0) (pa_cons (pv 1) pa_nil))))
(pss_cons (ps_set (i := 3) sc_law.nd rfl (Or.inl rfl) (pe_c T_contents hr (by decide) (by rfl) (pa_cons (pv 2) pa_nil)))
(pss_cons (ps_set (i := 4) sc_law.nd rfl (Or.inr rfl) (pe_ifExp (pt_cmpR op_eq (pe_c T_take hr (by decide) (by rfl) (pa_cons (pv 2) (pa_cons pe_int pa_nil))) pe_int (nomark _)) (pe_c T_plus hr (by decide) (by rfl) (pa_cons (pv 2) (pa_cons (pv 3) pa_nil))) (pe_c T_contents hr (by decide) (by rfl) (pa_cons (pv 2) pa_nil))))
(pss_cons (ps_par (i := 5) (j := 6) rfl sc_law.nd rfl rfl (by decide) rfl rfl (by exact (pa_cons (pe_mk T_Box hr (by decide) (by rfl) (pa_cons (pv 3) pa_nil)) (pa_cons (pe_mk T_Box hr (by decide) (by rfl) (pa_cons (pv 4) pa_nil)) pa_nil))) rfl)
(pss_one (ps_for PassesOwn.never rfl (pi_range1 rfl T.z_range (pa_cons pe_int pa_nil)) (pg_name (i := 7) sc_law.nd rfl (Or.inl rfl))
(pss_cons (ps_set (i := 8) sc_law.nd rfl (Or.inl rfl) (pe_cmpR (op_eqD hr.units) (pe_lc (own := [("_law_mark", 10)]) rfl sc_law.nd (pi_str (pv 3)) (blkOk_by (own := [("_law_mark", 10)]) (N := n_law) (sc := defScope s_law) (by decide +kernel)) (fun _ _ _ _ _ => (pg_name (i := 10) sc_law.nd rfl (Or.inl rfl))) (fun _ _ _ _ _ => (pts_one (pt_cmpR op_notIn_sign (pv 10) (pv 4) rfl))) (fun _ _ _ _ _ => (pv 10))) (pe_lst pa_nil) (nomark _)))
(pss_cons (ps_set (i := 9) sc_law.nd rfl (Or.inl rfl) (pe_mt T_Box_within hr (by decide) (pv 5) (pa_cons (pv 6) pa_nil)))
(pss_cons (ps_if (PW.pt (pw_or (pt_not (pt_val (pe_callB call_isi (by rfl) T.z_isinstance (by decide +kernel) (pa_cons (pv 9) (pa_cons (pe_bltn (v := .ty "bool") (u := .type "bool") (by rfl) T.z_bool (by decide +kernel) rfl) pa_nil))))) (pw_or (pt_cmpR op_ne (pv 9) (pv 8) (nomark _)) (pw_or1 (pt_cmpR op_isnot_bl (pe_mt T_Box_within hr (by decide) (pv 5) (pa_cons (pv 5) pa_nil)) pe_bl (nomark _))))))
(pss_one (ps_ret pe_bl))
pss_nil)
(pss_cons (ps_if (PW.pt (pw_or (pt_not (pt_val (pe_c T_is_right hr (by decide) (by rfl) (pa_cons (pv 2) (pa_cons (pv 5) (pa_cons (pv 3) pa_nil)))))) (pw_or1 (pt_not (pt_val (pe_c T_is_right hr (by decide) (by rfl) (pa_cons (pv 2) (pa_cons (pv 6) (pa_cons (pv 4) pa_nil)))))))))
(pss_one (ps_ret pe_bl))
pss_nil)
(pss_cons (ps_asg (pe_tup (pa_cons (pv 4) (pa_cons (pv 3) pa_nil))) (pg_tup rfl (pgs_cons (pg_name (i := 3) sc_law.nd rfl (Or.inl rfl)) (pgs_cons (pg_name (i := 4) sc_law.nd rfl (Or.inr rfl)) pgs_nil))))
(pss_cons (ps_expr (pe_mt T_Box_become hr (by decide) (pv 5) (pa_cons (pv 3) pa_nil)))
(pss_one (ps_expr (pe_mt T_Box_become hr (by decide) (pv 6) (pa_cons (pv 4) pa_nil)))))))))))))))))
(pss_one (ps_ret pe_bl))), ?_⟩
    refine ⟨_, rfl, a, _, rfl, .inl hS, _, _, rfl, _, _, rfl, _, rfl, ?_, ?_, for_it walk_range (fun i σ H' => ∃ v1 v2 v3 v4 v5 v6 v7 v8 v9 v10, σ = [some (.ref a), v1, v2, v3, v4, v5, v6, v7, v8, v9, v10] ∧ Same H H')
      ⟨none, none, none, none, none, none, none, none, none, none, rfl, Same.refl H⟩ (fun _ _ _ _ _ => trivial) ?_ ?_⟩
    · split <;> split <;> omega
    · split <;> split <;> omega
    · rintro i x σ H1 H1' hi ⟨v1, v2, v3, v4, v5, v6, v7, v8, v9, v10, rfl, s1⟩ ⟨rfl, rfl⟩
      have hi2 : i < 63 := by
        revert hi
        split <;> split <;> omega
      refine ⟨_, rfl, _, rfl, a, ns, i, by show [V.ref a, V.int (0 + (i : Int))] = _; rw [Int.zero_add], s1.seq hS, hlen, hi2, fun H2 p q s2 np nq hB => ?_⟩
      have nHp : H p = none := s1.free np
      have s12 := s1.trans s2
      refine ⟨_, rfl, p, q, rfl, hB, fun H3 z b3 hB3 hz => ?_⟩
      refine ⟨_, rfl, p, q, 2, rfl, hB3, by decide, by decide, fun H4 d b4 hB4 d0 d1 => ⟨rfl, _, rfl, ?_⟩⟩
      refine ite_val (C := fun v H' => ∃ z2, v = .str z2 ∧ IsC z2 ∧ Bar p H4 H' ∧ BagAt H' p q) (fun _ Q' qq => ⟨_, rfl, _, rfl, p, q, z, rfl, hB4, hz, fun H' z2 b hB' hz2 => qq _ _ ⟨z2, rfl, hz2, b, hB'⟩⟩)
        (fun _ Q' qq => ⟨_, rfl, p, q, rfl, hB4, fun H' z2 b hB' hz2 => qq _ _ ⟨z2, rfl, hz2, b, hB'⟩⟩) ?_
      rintro v H5 ⟨z2, rfl, hz2, b5, hB5⟩
      have s5 : Same H H5 := same_bar (same_bar (same_bar s12 nHp b3) nHp b4) nHp b5
      refine ⟨_, rfl, fun x1 dx1 nx1 nd1 nxd1 => ⟨x1, dx1, z, rfl, upd_same, hz, fun H6 b6 hx1 => ⟨rfl, _, rfl, fun x2 dx2 nx2 nd2 nxd2 => ⟨x2, dx2, z2, rfl, upd_same, hz2, fun H7 b7 hx2 => ⟨rfl, _, _, rfl, ?_⟩⟩⟩⟩⟩
      have t6 := same_made nx1 nd1 b6
      have t7 := same_made nx2 nd2 b7
      have n1 : H x1 = none := s5.free nx1
      have n2 : H x2 = none := (s5.trans t6).free nx2
      have n12 : x1 ≠ x2 := hx1.ne nx2
      have hx1' := hx1.same t7
      have hB7 := (hB5.same t6).same t7
      have s7 := (s5.trans t6).trans t7
      refine ⟨_, rfl, by decide, by decide, for_it walk_range (fun j σ' H' => ∃ t1 t2 v7 v8 v9 v10, σ' = [some (.ref a), some (.int (0 + i)), some (.ref p), some (.str t1), some (.str t2), some (.ref x1), some (.ref x2), v7, v8, v9, v10] ∧ IsC t1 ∧ IsC t2 ∧ BoxAt C H' x1 t1 ∧ BoxAt C H' x2 t2 ∧ BagAt H' p q ∧ Same H H')
        ⟨z, z2, _, _, _, _, rfl, hz, hz2, hx1', hx2, hB7, s7⟩ (fun _ _ _ _ _ => trivial) ?_ ?_⟩
      · rintro j x σ' H8 H8' hj ⟨t1, t2, v7, v8, v9, v10, rfl, ht1, ht2, h1, h2, hB8, s8⟩ ⟨rfl, rfl⟩
        -- is_within
        refine ⟨_, rfl, t1, rfl, fun D hD => lc_it walk_str (fun i H' => H' = upd H8' D (.lst (filt t1.cps.toList (fun c => !mem t2 c) i))) rfl (fun _ _ _ _ => trivial) ?_ ?_⟩
        · rintro i x H9 H' hi rfl ⟨rfl, c, hc, rfl⟩
          have hc := arr_at hc
          have hl : (filt t1.cps.toList (fun c => !mem t2 c) i).length < sizeLine := Nat.lt_of_le_of_lt filt_len (Nat.lt_of_le_of_lt (show t1.cps.toList.length ≤ 52 from ht1.len) (by decide))
          refine ⟨rfl, _, rfl, _, rfl, c, t2, rfl, rfl, _, rfl, ?_⟩
          refine ite_b (fun h2 => ?_) (fun h2 => ?_)
          · refine ⟨_, rfl, _, upd_same, hl, ?_⟩
            rw [upd_upd, filt_yes (t := fun c => !mem t2 c) hc h2]
            rfl
          · rw [filt_no hc (t := fun c => !mem t2 c) h2]
        · rintro H' rfl
          rw [filt_end (by rw [Array.length_toList]; exact Nat.le_refl _)]
          refine ⟨Nat.zero_le _, fun l hl => ?_⟩
          have nDl : D ≠ l := ne_of_none upd_same hl
          refine ⟨_, _, .lst (SqL.of ((upd_ne nDl).trans upd_same)) (dp_strs _), .lst (SqL.of upd_same) .nil, shaped_strs (fun c hc => mk_small c (isC_sub ht1 (List.mem_filter.mp hc).1)), by decide, ?_⟩
          rw [eqv_nil_strs, filter_nil_all]
          have s9 : Same H8' (upd (upd H8' D (.lst ((t1.cps.toList.filter (fun c => !mem t2 c)).map sg))) l (.lst [])) := (same_new hD).trans (same_new hl)
          have h1' := h1.same s9
          have h2' := h2.same s9
          obtain ⟨d1', e1'⟩ := id h1'
          refine ⟨_, rfl, x1, d1', _, rfl, e1', boxF_no _ (by decide +kernel), _, rfl, x1, x2, t1, t2, rfl, h1', h2', ht1, fun H10 s10 => ?_⟩
          refine ⟨_, rfl, _, _, _, _, true, rfl, .ty "bool", .base (.bl _), kit_ty (by decide +kernel), true, rfl, iteF ?_⟩
          refine ⟨_, rfl, _, rfl, rfl, _, rfl, ?_⟩
          rw [decide_eq_true rfl]
          have h1a := h1'.same s10
          have h2a := h2'.same s10
          obtain ⟨d1a, e1a⟩ := id h1a
          refine iteF ⟨_, rfl, x1, d1a, _, rfl, e1a, boxF_no _ (by decide +kernel), _, rfl, x1, x1, t1, t1, rfl, h1a, h1a, ht1, fun H11 s11 => ⟨_, _, rfl, rfl, _, rfl, ?_⟩⟩
          have eT : (t1.cps.toList.all fun c => mem t1 c) = true := List.all_eq_true.mpr fun c hc => decide_eq_true hc
          rw [eT]
          have sA := (s9.trans s10).trans s11
          have hB11 := hB8.same sA
          have h1b := h1a.same s11
          have h2b := h2a.same s11
          refine iteF ⟨_, rfl, _, rfl, _, rfl, p, q, x1, t1, rfl, hB11, h1b, ht1, fun H12 b12 hB12 => ⟨true, rfl, iteF ?_⟩⟩
          have h1c := h1b.bar b12 (h1b.bag hB11)
          have h2c := h2b.bar b12 (h2b.bag hB11)
          refine ⟨_, rfl, _, rfl, _, rfl, p, q, x2, t2, rfl, hB12, h2c, ht2, fun H13 b13 hB13 => ⟨true, rfl, iteF ?_⟩⟩
          have h1d := h1c.bar b13 (h1c.bag hB12)
          have h2d := h2c.bar b13 (h2c.bag hB12)
          have s13 : Same H H13 := same_bar (same_bar (s8.trans sA) nHp b12) nHp b13
          refine ⟨_, rfl, _, rfl, by show 2 ≤ sizeLine; decide, fun tt htt => ⟨tt, _, rfl, SqT.of upd_same, rfl, _, _, rfl, _, _, rfl, rfl, ?_⟩⟩
          have st := same_new (o := .tup [.str t2, .str t1]) htt
          have h1e := h1d.same st
          have h2e := h2d.same st
          obtain ⟨d1e, e1e⟩ := id h1e
          refine ⟨_, rfl, x1, d1e, _, rfl, e1e, boxF_no _ (by decide +kernel), _, rfl, x1, _, t2, rfl, h1e, ht2, fun H14 b14 h1f => ?_⟩
          have h2f := h2e.bar b14 n12.symm
          obtain ⟨d2f, e2f⟩ := id h2f
          refine ⟨_, rfl, x2, d2f, _, rfl, e2f, boxF_no _ (by decide +kernel), _, rfl, x2, _, t1, rfl, h2f, ht1, fun H15 b15 h2g => ?_⟩
          have hBt := hB13.same st
          have hB14 := hBt.bar b14 (h1e.bag hBt).symm (h1e.bag2 hBt).symm
          have hB15 := hB14.bar b15 (h2f.bag hB14).symm (h2f.bag2 hB14).symm
          exact ⟨t2, t1, _, _, _, _, rfl, ht2, ht1, h1f.bar b15 n12, h2g, hB15, same_bar (same_bar (s13.trans st) n1 b14) n2 b15⟩
      · rintro σ' H' ⟨t1, t2, v7, v8, v9, v10, rfl, _, _, _, _, _, s8⟩
        exact ⟨_, _, _, _, _, _, _, _, _, _, rfl, s8⟩
    · rintro σ H' ⟨v1, v2, v3, v4, v5, v6, v7, v8, v9, v10, rfl, s1⟩
      exact k H'
end
theorem all_mk {l : PySem.W.OpenLaw} {w : World} {K : PySem.W.Frag} {h : Heap} {mg : Str → Option Value} {fa C_Box f_bag f_take f_of f_contents f_either f_without f_are_contents f_checked f_plus f_asked f_holds f_is_right f_law f_Box__init T_Box__init f_Box__len f_Box__contains f_Box_crosses f_Box_become f_Box_within : Addr} (X : K.In h) (G : h.Ns mainGlobals mg) (hfa : mg "law" = some (.ref fa))
    {od_bag an_bag od_take an_take od_of an_of od_contents an_contents od_either an_either od_without an_without od_are_contents an_are_contents od_checked an_checked od_plus an_plus od_asked an_asked od_holds an_holds od_is_right an_is_right od_law an_law od_Box__init an_Box__init od_Box__len an_Box__len od_Box__contains an_Box__contains od_Box_crosses an_Box_crosses od_Box_become an_Box_become od_Box_within an_Box_within : Option Addr} {sl_bag sl_take sl_of sl_contents sl_either sl_without sl_are_contents sl_checked sl_plus sl_asked sl_holds sl_is_right sl_law sl_Box__init sl_Box__len sl_Box__contains sl_Box_crosses sl_Box_become sl_Box_within : Array (Option Value)} {oc_bag kV_bag dc_bag pm_bag cd_bag ct_bag oc_take kV_take dc_take pm_take cd_take ct_take oc_of kV_of dc_of pm_of cd_of ct_of oc_contents kV_contents dc_contents pm_contents cd_contents ct_contents oc_either kV_either dc_either pm_either cd_either ct_either oc_without kV_without dc_without pm_without cd_without ct_without oc_are_contents kV_are_contents dc_are_contents pm_are_contents cd_are_contents ct_are_contents oc_checked kV_checked dc_checked pm_checked cd_checked ct_checked oc_plus kV_plus dc_plus pm_plus cd_plus ct_plus oc_asked kV_asked dc_asked pm_asked cd_asked ct_asked oc_holds kV_holds dc_holds pm_holds cd_holds ct_holds oc_is_right kV_is_right dc_is_right pm_is_right cd_is_right ct_is_right oc_law kV_law dc_law pm_law cd_law ct_law oc_Box__init kV_Box__init dc_Box__init pm_Box__init cd_Box__init ct_Box__init oc_Box__len kV_Box__len dc_Box__len pm_Box__len cd_Box__len ct_Box__len oc_Box__contains kV_Box__contains dc_Box__contains pm_Box__contains cd_Box__contains ct_Box__contains oc_Box_crosses kV_Box_crosses dc_Box_crosses pm_Box_crosses cd_Box_crosses ct_Box_crosses oc_Box_become kV_Box_become dc_Box_become pm_Box_become cd_Box_become ct_Box_become oc_Box_within kV_Box_within dc_Box_within pm_Box_within cd_Box_within ct_Box_within : Value}  {nmB qB : Str} {NB : Addr} {bsB : List Value} {hdB abB : Bool} {snB : List Str} {subB : List Value} {colB : Option Bool} {ddB : Option Addr} {b0 b1 b2 b3 b5 : Option Value} {nidB : String} {tkM : Tok} {oDT : Option Addr} {nT : Nat} {tkD : Tok} {slT : Array (Option Value)} {cNB : Value} {dNB : Option Addr} {eNB : Array DictEntry} {nNB : Nat} {slNB : Array (Option Value)} {pX : Addr} {restX : List Value}
    (aC_Box : PySem.W.nsIn K mainGlobals "Box" = some (some (.ref C_Box)))
    (a_bag : PySem.W.nsIn K mainGlobals "_law_bag" = some (some (.ref f_bag)))
    (l_bag : K.lookup f_bag = some ⟨oc_bag, od_bag, .func (PySem.W.fnOf "_law_bag" "_law_bag" (defArgs s_bag) (defBody s_bag) (defScope s_bag) .none kV_bag dc_bag pm_bag an_bag cd_bag ct_bag), sl_bag⟩)
    (c_bag : PySem.W.codeIn K cd_bag "_law_bag" = true)
    (k_bag : PySem.W.keepIn K (.ref f_bag) = true)
    (a_take : PySem.W.nsIn K mainGlobals "_law_take" = some (some (.ref f_take)))
    (l_take : K.lookup f_take = some ⟨oc_take, od_take, .func (PySem.W.fnOf "_law_take" "_law_take" (defArgs s_take) (defBody s_take) (defScope s_take) .none kV_take dc_take pm_take an_take cd_take ct_take), sl_take⟩)
    (c_take : PySem.W.codeIn K cd_take "_law_take" = true)
    (k_take : PySem.W.keepIn K (.ref f_take) = true)
    (a_of : PySem.W.nsIn K mainGlobals "_law_of" = some (some (.ref f_of)))
    (l_of : K.lookup f_of = some ⟨oc_of, od_of, .func (PySem.W.fnOf "_law_of" "_law_of" (defArgs s_of) (defBody s_of) (defScope s_of) .none kV_of dc_of pm_of an_of cd_of ct_of), sl_of⟩)
    (c_of : PySem.W.codeIn K cd_of "_law_of" = true)
    (k_of : PySem.W.keepIn K (.ref f_of) = true)
    (a_contents : PySem.W.nsIn K mainGlobals "_law_contents" = some (some (.ref f_contents)))
    (l_contents : K.lookup f_contents = some ⟨oc_contents, od_contents, .func (PySem.W.fnOf "_law_contents" "_law_contents" (defArgs s_contents) (defBody s_contents) (defScope s_contents) .none kV_contents dc_contents pm_contents an_contents cd_contents ct_contents), sl_contents⟩)
    (c_contents : PySem.W.codeIn K cd_contents "_law_contents" = true)
    (k_contents : PySem.W.keepIn K (.ref f_contents) = true)
    (a_either : PySem.W.nsIn K mainGlobals "either" = some (some (.ref f_either)))
    (l_either : K.lookup f_either = some ⟨oc_either, od_either, .func (PySem.W.fnOf "either" "either" (defArgs s_either) (defBody s_either) (defScope s_either) .none kV_either dc_either pm_either an_either cd_either ct_either), sl_either⟩)
    (c_either : PySem.W.codeIn K cd_either "either" = true)
    (k_either : PySem.W.keepIn K (.ref f_either) = true)
    (a_without : PySem.W.nsIn K mainGlobals "without" = some (some (.ref f_without)))
    (l_without : K.lookup f_without = some ⟨oc_without, od_without, .func (PySem.W.fnOf "without" "without" (defArgs s_without) (defBody s_without) (defScope s_without) .none kV_without dc_without pm_without an_without cd_without ct_without), sl_without⟩)
    (c_without : PySem.W.codeIn K cd_without "without" = true)
    (k_without : PySem.W.keepIn K (.ref f_without) = true)
    (a_are_contents : PySem.W.nsIn K mainGlobals "are_contents" = some (some (.ref f_are_contents)))
    (l_are_contents : K.lookup f_are_contents = some ⟨oc_are_contents, od_are_contents, .func (PySem.W.fnOf "are_contents" "are_contents" (defArgs s_are_contents) (defBody s_are_contents) (defScope s_are_contents) .none kV_are_contents dc_are_contents pm_are_contents an_are_contents cd_are_contents ct_are_contents), sl_are_contents⟩)
    (c_are_contents : PySem.W.codeIn K cd_are_contents "are_contents" = true)
    (k_are_contents : PySem.W.keepIn K (.ref f_are_contents) = true)
    (a_checked : PySem.W.nsIn K mainGlobals "checked" = some (some (.ref f_checked)))
    (l_checked : K.lookup f_checked = some ⟨oc_checked, od_checked, .func (PySem.W.fnOf "checked" "checked" (defArgs s_checked) (defBody s_checked) (defScope s_checked) .none kV_checked dc_checked pm_checked an_checked cd_checked ct_checked), sl_checked⟩)
    (c_checked : PySem.W.codeIn K cd_checked "checked" = true)
    (k_checked : PySem.W.keepIn K (.ref f_checked) = true)
    (a_plus : PySem.W.nsIn K mainGlobals "_law_plus" = some (some (.ref f_plus)))
    (l_plus : K.lookup f_plus = some ⟨oc_plus, od_plus, .func (PySem.W.fnOf "_law_plus" "_law_plus" (defArgs s_plus) (defBody s_plus) (defScope s_plus) .none kV_plus dc_plus pm_plus an_plus cd_plus ct_plus), sl_plus⟩)
    (c_plus : PySem.W.codeIn K cd_plus "_law_plus" = true)
    (k_plus : PySem.W.keepIn K (.ref f_plus) = true)
    (a_asked : PySem.W.nsIn K mainGlobals "_law_asked" = some (some (.ref f_asked)))
    (l_asked : K.lookup f_asked = some ⟨oc_asked, od_asked, .func (PySem.W.fnOf "_law_asked" "_law_asked" (defArgs s_asked) (defBody s_asked) (defScope s_asked) .none kV_asked dc_asked pm_asked an_asked cd_asked ct_asked), sl_asked⟩)
    (c_asked : PySem.W.codeIn K cd_asked "_law_asked" = true)
    (k_asked : PySem.W.keepIn K (.ref f_asked) = true)
    (a_holds : PySem.W.nsIn K mainGlobals "_law_holds" = some (some (.ref f_holds)))
    (l_holds : K.lookup f_holds = some ⟨oc_holds, od_holds, .func (PySem.W.fnOf "_law_holds" "_law_holds" (defArgs s_holds) (defBody s_holds) (defScope s_holds) .none kV_holds dc_holds pm_holds an_holds cd_holds ct_holds), sl_holds⟩)
    (c_holds : PySem.W.codeIn K cd_holds "_law_holds" = true)
    (k_holds : PySem.W.keepIn K (.ref f_holds) = true)
    (a_is_right : PySem.W.nsIn K mainGlobals "_law_is_right" = some (some (.ref f_is_right)))
    (l_is_right : K.lookup f_is_right = some ⟨oc_is_right, od_is_right, .func (PySem.W.fnOf "_law_is_right" "_law_is_right" (defArgs s_is_right) (defBody s_is_right) (defScope s_is_right) .none kV_is_right dc_is_right pm_is_right an_is_right cd_is_right ct_is_right), sl_is_right⟩)
    (c_is_right : PySem.W.codeIn K cd_is_right "_law_is_right" = true)
    (k_is_right : PySem.W.keepIn K (.ref f_is_right) = true)
    (a_law : PySem.W.nsIn K mainGlobals "law" = some (some (.ref f_law)))
    (l_law : K.lookup f_law = some ⟨oc_law, od_law, .func (PySem.W.fnOf "law" "law" (defArgs s_law) (defBody s_law) (defScope s_law) .none kV_law dc_law pm_law an_law cd_law ct_law), sl_law⟩)
    (c_law : PySem.W.codeIn K cd_law "law" = true)
    (k_law : PySem.W.keepIn K (.ref f_law) = true)
    (a_Box__init : PySem.W.findIn K (.ref C_Box) "__init__" = some (some (.ref f_Box__init)))
    (i_Box__init : PySem.W.isFn K (.ref f_Box__init) = true)
    (l_Box__init : K.lookup f_Box__init = some ⟨oc_Box__init, od_Box__init, .func (PySem.W.fnOf "__init__" "Box.__init__" (defArgs s_Box__init) (defBody s_Box__init) (defScope s_Box__init) (.ref T_Box__init) kV_Box__init dc_Box__init pm_Box__init an_Box__init cd_Box__init ct_Box__init), sl_Box__init⟩)
    (c_Box__init : PySem.W.codeIn K cd_Box__init "Box.__init__" = true)
    (k_Box__init : PySem.W.keepIn K (.ref f_Box__init) = true)
    (d_Box__init : K.lookup T_Box__init = some ⟨.type "tuple", oDT, .seq #[.str "" tkD] nT, slT⟩)
    (a_Box__len : PySem.W.findIn K (.ref C_Box) "__len__" = some (some (.ref f_Box__len)))
    (i_Box__len : PySem.W.isFn K (.ref f_Box__len) = true)
    (l_Box__len : K.lookup f_Box__len = some ⟨oc_Box__len, od_Box__len, .func (PySem.W.fnOf "__len__" "Box.__len__" (defArgs s_Box__len) (defBody s_Box__len) (defScope s_Box__len) .none kV_Box__len dc_Box__len pm_Box__len an_Box__len cd_Box__len ct_Box__len), sl_Box__len⟩)
    (c_Box__len : PySem.W.codeIn K cd_Box__len "Box.__len__" = true)
    (k_Box__len : PySem.W.keepIn K (.ref f_Box__len) = true)
    (a_Box__contains : PySem.W.findIn K (.ref C_Box) "__contains__" = some (some (.ref f_Box__contains)))
    (i_Box__contains : PySem.W.isFn K (.ref f_Box__contains) = true)
    (l_Box__contains : K.lookup f_Box__contains = some ⟨oc_Box__contains, od_Box__contains, .func (PySem.W.fnOf "__contains__" "Box.__contains__" (defArgs s_Box__contains) (defBody s_Box__contains) (defScope s_Box__contains) .none kV_Box__contains dc_Box__contains pm_Box__contains an_Box__contains cd_Box__contains ct_Box__contains), sl_Box__contains⟩)
    (c_Box__contains : PySem.W.codeIn K cd_Box__contains "Box.__contains__" = true)
    (k_Box__contains : PySem.W.keepIn K (.ref f_Box__contains) = true)
    (aX : PySem.W.findIn K (.ref C_Box) "crosses" = some (some (.ref pX)))
    (gX : PySem.W.specialIn K (.ref pX) "__get__" = some (some (.builtin "property.__get__")))
    (tX : PySem.W.takesIn K (.ref pX) = some true)
    (rX : PySem.W.recIn K pX "property" = some (.ref f_Box_crosses :: restX))
    (l_Box_crosses : K.lookup f_Box_crosses = some ⟨oc_Box_crosses, od_Box_crosses, .func (PySem.W.fnOf "crosses" "Box.crosses" (defArgs s_Box_crosses) (defBody s_Box_crosses) (defScope s_Box_crosses) .none kV_Box_crosses dc_Box_crosses pm_Box_crosses an_Box_crosses cd_Box_crosses ct_Box_crosses), sl_Box_crosses⟩)
    (c_Box_crosses : PySem.W.codeIn K cd_Box_crosses "Box.crosses" = true)
    (k_Box_crosses : PySem.W.keepIn K (.ref f_Box_crosses) = true)
    (a_Box_become : PySem.W.findIn K (.ref C_Box) "become" = some (some (.ref f_Box_become)))
    (i_Box_become : PySem.W.isFn K (.ref f_Box_become) = true)
    (l_Box_become : K.lookup f_Box_become = some ⟨oc_Box_become, od_Box_become, .func (PySem.W.fnOf "become" "Box.become" (defArgs s_Box_become) (defBody s_Box_become) (defScope s_Box_become) .none kV_Box_become dc_Box_become pm_Box_become an_Box_become cd_Box_become ct_Box_become), sl_Box_become⟩)
    (c_Box_become : PySem.W.codeIn K cd_Box_become "Box.become" = true)
    (k_Box_become : PySem.W.keepIn K (.ref f_Box_become) = true)
    (a_Box_within : PySem.W.findIn K (.ref C_Box) "within" = some (some (.ref f_Box_within)))
    (i_Box_within : PySem.W.isFn K (.ref f_Box_within) = true)
    (l_Box_within : K.lookup f_Box_within = some ⟨oc_Box_within, od_Box_within, .func (PySem.W.fnOf "within" "Box.within" (defArgs s_Box_within) (defBody s_Box_within) (defScope s_Box_within) .none kV_Box_within dc_Box_within pm_Box_within an_Box_within cd_Box_within ct_Box_within), sl_Box_within⟩)
    (c_Box_within : PySem.W.codeIn K cd_Box_within "Box.within" = true)
    (k_Box_within : PySem.W.keepIn K (.ref f_Box_within) = true)
    (gM : PySem.W.nsIn K mainGlobals "MARKS" = some (some (.str "ABCDEFGHIJKLMNOPQRSTUVWXYZabcdefghijklmnopqrstuvwxyz" tkM)))
    (z_len : PySem.W.nsIn K mainGlobals "len" = some none)
    (z_abs : PySem.W.nsIn K mainGlobals "abs" = some none)
    (z_list : PySem.W.nsIn K mainGlobals "list" = some none)
    (z_int : PySem.W.nsIn K mainGlobals "int" = some none)
    (z_isinstance : PySem.W.nsIn K mainGlobals "isinstance" = some none)
    (z_str : PySem.W.nsIn K mainGlobals "str" = some none)
    (z_range : PySem.W.nsIn K mainGlobals "range" = some none)
    (z_max : PySem.W.nsIn K mainGlobals "max" = some none)
    (z_min : PySem.W.nsIn K mainGlobals "min" = some none)
    (z_any : PySem.W.nsIn K mainGlobals "any" = some none)
    (z_bool : PySem.W.nsIn K mainGlobals "bool" = some none)
    (pgB : PySem.W.plainGet K C_Box Str.empty = true)
    (hdB_ : PySem.W.hasDictIn K C_Box = true)
    (poB : PySem.W.plainOver K C_Box = true)
    (saB : PySem.W.findIn K (.ref C_Box) "__setattr__" = some (some (.builtin "object.__setattr__")))
    (mkB : PySem.W.makesIn K C_Box = true)
    (kcB : PySem.W.keepIn K (.ref C_Box) = true)
    (nCB : PySem.W.findIn K (.ref C_Box) "contents" = some none)
    (xLB : K.lookup C_Box = some (excClassObj nmB qB C_Box NB bsB [.type "object"] hdB snB subB abB colB ddB b0 b1 b2 b3 b5 nidB))
    (lNB : K.lookup NB = some ⟨cNB, dNB, .dict eNB nNB, slNB⟩)
    (okNB : (eNB.toList.all fun e => match e.key with | .str _ _ => true | _ => false) = true)
    (neqB : PySem.W.nsIn K NB "__eq__" = some none)
    (nneB : PySem.W.nsIn K NB "__ne__" = some none)
    (caB : PySem.W.findIn K (.ref C_Box) "__class__" = some (some (.builtin "object.__class__")))
    (cnB : PySem.W.specialIn K (.builtin "object.__class__") "__get__" = some (some (.builtin "getset_descriptor.__get__")))
    (ctB : PySem.W.takesIn K (.builtin "object.__class__") = some true)
    (cmB : PySem.W.mroIn K C_Box (.type "object") = some true)
    (sfB : PySem.W.selfFirst K C_Box = true)
    : ∃ fd : FuncData, (∀ (s : Shared) (v : Value), BindsTo s fd ⟨[v], []⟩ [("_law_script", v)]) ∧ ∀ base : Heap, K.In base → base.Ns mainGlobals mg → FnOk l.prog w K mg base CX0 6 fa fd ["_law_script"] (spLaw K) := by
  have e := hfa.symm.trans (PySem.W.mg_of X G a_law)
  cases e
  have F_bag := fun_mk (st := s_bag) l_bag c_bag k_bag
  have b_bag := F_bag.binds (ps := ["_law_script", "_law_at"]) fun _ _ _ _ _ _ us hl => match us, hl with | [_, _], _ => rfl
  have g_bag := PySem.W.mg_of X G a_bag
  have F_take := fun_mk (st := s_take) l_take c_take k_take
  have b_take := F_take.binds (ps := ["_law_bag_here", "_law_many"]) fun _ _ _ _ _ _ us hl => match us, hl with | [_, _], _ => rfl
  have g_take := PySem.W.mg_of X G a_take
  have F_of := fun_mk (st := s_of) l_of c_of k_of
  have b_of := F_of.binds (ps := ["_law_bag_here", "_law_some"]) fun _ _ _ _ _ _ us hl => match us, hl with | [_, _], _ => rfl
  have g_of := PySem.W.mg_of X G a_of
  have F_contents := fun_mk (st := s_contents) l_contents c_contents k_contents
  have b_contents := F_contents.binds (ps := ["_law_bag_here"]) fun _ _ _ _ _ _ us hl => match us, hl with | [_], _ => rfl
  have g_contents := PySem.W.mg_of X G a_contents
  have F_either := fun_mk (st := s_either) l_either c_either k_either
  have b_either := F_either.binds (ps := ["one", "other"]) fun _ _ _ _ _ _ us hl => match us, hl with | [_, _], _ => rfl
  have g_either := PySem.W.mg_of X G a_either
  have F_without := fun_mk (st := s_without) l_without c_without k_without
  have b_without := F_without.binds (ps := ["one", "other"]) fun _ _ _ _ _ _ us hl => match us, hl with | [_, _], _ => rfl
  have g_without := PySem.W.mg_of X G a_without
  have F_are_contents := fun_mk (st := s_are_contents) l_are_contents c_are_contents k_are_contents
  have b_are_contents := F_are_contents.binds (ps := ["thing"]) fun _ _ _ _ _ _ us hl => match us, hl with | [_], _ => rfl
  have g_are_contents := PySem.W.mg_of X G a_are_contents
  have F_checked := fun_mk (st := s_checked) l_checked c_checked k_checked
  have b_checked := F_checked.binds (ps := ["contents"]) fun _ _ _ _ _ _ us hl => match us, hl with | [_], _ => rfl
  have g_checked := PySem.W.mg_of X G a_checked
  have F_plus := fun_mk (st := s_plus) l_plus c_plus k_plus
  have b_plus := F_plus.binds (ps := ["_law_bag_here", "_law_text"]) fun _ _ _ _ _ _ us hl => match us, hl with | [_, _], _ => rfl
  have g_plus := PySem.W.mg_of X G a_plus
  have F_asked := fun_mk (st := s_asked) l_asked c_asked k_asked
  have b_asked := F_asked.binds (ps := ["_law_bag_here", "_law_text"]) fun _ _ _ _ _ _ us hl => match us, hl with | [_, _], _ => rfl
  have g_asked := PySem.W.mg_of X G a_asked
  have F_holds := fun_mk (st := s_holds) l_holds c_holds k_holds
  have b_holds := F_holds.binds (ps := ["_law_text", "_law_thing"]) fun _ _ _ _ _ _ us hl => match us, hl with | [_, _], _ => rfl
  have g_holds := PySem.W.mg_of X G a_holds
  have F_is_right := fun_mk (st := s_is_right) l_is_right c_is_right k_is_right
  have b_is_right := F_is_right.binds (ps := ["_law_bag_here", "_law_box", "_law_text"]) fun _ _ _ _ _ _ us hl => match us, hl with | [_, _, _], _ => rfl
  have g_is_right := PySem.W.mg_of X G a_is_right
  have F_law := fun_mk (st := s_law) l_law c_law k_law
  have b_law := F_law.binds (ps := ["_law_script"]) fun _ _ _ _ _ _ us hl => match us, hl with | [_], _ => rfl
  have g_law := PySem.W.mg_of X G a_law
  have F_Box__len := fun_mk (st := s_Box__len) l_Box__len c_Box__len k_Box__len
  have b_Box__len := F_Box__len.binds (ps := ["self"]) fun _ _ _ _ _ _ us hl => match us, hl with | [_], _ => rfl
  have F_Box__contains := fun_mk (st := s_Box__contains) l_Box__contains c_Box__contains k_Box__contains
  have b_Box__contains := F_Box__contains.binds (ps := ["self", "thing"]) fun _ _ _ _ _ _ us hl => match us, hl with | [_, _], _ => rfl
  have F_Box_crosses := fun_mk (st := s_Box_crosses) l_Box_crosses c_Box_crosses k_Box_crosses
  have b_Box_crosses := F_Box_crosses.binds (ps := ["self"]) fun _ _ _ _ _ _ us hl => match us, hl with | [_], _ => rfl
  have F_Box_become := fun_mk (st := s_Box_become) l_Box_become c_Box_become k_Box_become
  have b_Box_become := F_Box_become.binds (ps := ["self", "contents"]) fun _ _ _ _ _ _ us hl => match us, hl with | [_, _], _ => rfl
  have F_Box_within := fun_mk (st := s_Box_within) l_Box_within c_Box_within k_Box_within
  have b_Box_within := F_Box_within.binds (ps := ["self", "other"]) fun _ _ _ _ _ _ us hl => match us, hl with | [_, _], _ => rfl
  have T : Top K mg := { z_len := PySem.W.mg_none_of X G z_len, z_abs := PySem.W.mg_none_of X G z_abs, z_list := PySem.W.mg_none_of X G z_list, z_int := PySem.W.mg_none_of X G z_int, z_isinstance := PySem.W.mg_none_of X G z_isinstance, z_str := PySem.W.mg_none_of X G z_str, z_range := PySem.W.mg_none_of X G z_range, z_max := PySem.W.mg_none_of X G z_max, z_min := PySem.W.mg_none_of X G z_min, z_any := PySem.W.mg_none_of X G z_any, z_bool := PySem.W.mg_none_of X G z_bool, g_MARKS := ⟨_, PySem.W.mg_of X G gM, ⟨_, rfl⟩⟩ }
  have B : BoxC K mg C_Box := { cl := ⟨pgB, hdB_, poB, saB⟩, nC := nCB, gB := ⟨_, PySem.W.mg_of X G aC_Box, rfl⟩, eq := ⟨nmB, qB, NB, bsB, hdB, snB, subB, abB, colB, ddB, b0, b1, b2, b3, b5, nidB, xLB, nsOk_of lNB okNB, neqB, nneB⟩, ca := caB, cn := cnB, ct := ctB, cm := cmB, kit := kit_self }
  have FI : FunD K "__init__" "Box.__init__" (defArgs s_Box__init) (defBody s_Box__init) (defScope s_Box__init) [.str ""] [] f_Box__init _ :=
    ⟨⟨_, _, _, _, _, _, _, _, _, _, rfl, l_Box__init, c_Box__init, .inr ⟨by simp, _, _, [.str "" tkD], _, rfl, d_Box__init, rfl, .cons ⟨_, rfl⟩ .nil⟩, .inl rfl⟩, k_Box__init⟩
  obtain ⟨ds2, dr2, bI2⟩ := FI.binds1 (ps := ["self", "contents"]) 2 1 (by simp) rfl (fun T kV doc pm an cdv ct us its hl hi => match us, hl, its, hi with | [_, _], _, [_], _ => ⟨_, rfl, rfl⟩)
  refine ⟨PySem.W.fnOf "law" "law" (defArgs s_law) (defBody s_law) (defScope s_law) .none kV_law dc_law pm_law an_law cd_law ct_law, fun s v => .of_eq rfl, fun base KB GB => ?_⟩
  have T_take := calOf F_take g_take b_take (ok_take (P := l.prog) (w := w) (base := base) F_take T)
  have T_of := calOf F_of g_of b_of (ok_of (P := l.prog) (w := w) (base := base) F_of T T_take)
  have T_contents := calOf F_contents g_contents b_contents (ok_contents (P := l.prog) (w := w) (base := base) F_contents T T_take T_of)
  have T_bag := calOf F_bag g_bag b_bag (ok_bag (P := l.prog) (w := w) (base := base) F_bag T)
  have T_either := calOf F_either g_either b_either (ok_either (P := l.prog) (w := w) (base := base) F_either T)
  have T_without := calOf F_without g_without b_without (ok_without (P := l.prog) (w := w) (base := base) F_without T)
  have T_are_contents := calOf F_are_contents g_are_contents b_are_contents (ok_are (P := l.prog) (w := w) (base := base) F_are_contents T T_either)
  have T_checked := calOf F_checked g_checked b_checked (ok_checked (P := l.prog) (w := w) (base := base) F_checked T_are_contents)
  have G_init := ok_init (P := l.prog) (w := w) (base := base) FI B T_checked
  have T_Box : Mak l.prog w K mg base 4 "Box" C_Box (spInit C_Box) [] := ⟨f_Box__init, _, _, ds2, ⟨mkB, a_Box__init, i_Box__init, kcB⟩, G_init, PySem.W.mg_of X G aC_Box, bI2, dr2⟩
  have T_Box_become : Met l.prog w K mg base 4 C_Box "become" (spBecome C_Box) [] := ⟨_, _, _, [], B.cl, ⟨a_Box_become, i_Box_become, k_Box_become⟩, ok_become F_Box_become B T_checked, b_Box_become, .nil⟩
  have T_Box_within : Met l.prog w K mg base 2 C_Box "within" (spWithin C_Box) [] := ⟨_, _, _, [], B.cl, ⟨a_Box_within, i_Box_within, k_Box_within⟩, ok_within F_Box_within B T_without, b_Box_within, .nil⟩
  have O_len : Own l.prog w K mg base 1 C_Box "__len__" (spLen C_Box) := ⟨_, _, _, a_Box__len, i_Box__len, ok_len F_Box__len T B, b_Box__len⟩
  have O_contains : Own l.prog w K mg base 1 C_Box "__contains__" (spHas K C_Box) := ⟨_, _, _, a_Box__contains, i_Box__contains, ok_has F_Box__contains T B, b_Box__contains⟩
  have O_crosses : OwnProp l.prog w K mg base 1 C_Box "crosses" (spCross C_Box) := ⟨pX, _, _, _, ⟨aX, gX, tX, ⟨restX, rX⟩⟩, ok_cross F_Box_crosses T B, b_Box_crosses⟩
  have T_plus := calOf F_plus g_plus b_plus (ok_plus (P := l.prog) (w := w) (base := base) F_plus T T_take T_contents)
  have T_asked := calOf F_asked g_asked b_asked (ok_asked (P := l.prog) (w := w) (base := base) F_asked T T_take T_of)
  have T_holds := calOf F_holds g_holds b_holds (ok_holds (P := l.prog) (w := w) (base := base) F_holds T)
  have T_is_right := calOf F_is_right g_is_right b_is_right (ok_right (P := l.prog) (w := w) (base := base) F_is_right T B T_asked T_holds O_contains O_len O_crosses)
  exact ok_law F_law T B T_bag T_take T_contents T_plus T_Box T_is_right T_Box_within T_Box_become

theorem walk {l : PySem.W.OpenLaw} {q : Program} {loose : List Str} {XP : (Str → Option Value) → Heap → Prop} {YP : World → Heap → Prop} {d : DefRec} {K : Params → PySem.W.Frag} (hn : l.most = some 63) (hdf : d.params.defaults = [])
    (hY : ∀ (w : World) (h : Heap), YP w h → (K w.params).In h)
    (F : ∀ (w : World) (mg : Str → Option Value) (fa : Addr) (h : Heap), (K w.params).In h → h.Ns mainGlobals mg → mg d.name = some (.ref fa) →
      ∃ fd : FuncData, (∀ (s : Shared) (u : Value), BindsTo s fd ⟨[u], []⟩ [("_law_script", u)]) ∧ ∀ base : Heap, (K w.params).In base → base.Ns mainGlobals mg → FnOk l.prog w (K w.params) mg base CX0 6 fa fd ["_law_script"] (spLaw (K w.params))) :
    PySem.W.WalkO q loose XP YP l.row.toRowW d [] (fun f vs => PySem.call f vs) :=
  L2.walk_of (n := 63) (k := 6) (x := "_law_script") (CX := fun _ => CX0) (sp := fun w => spLaw (K w.params)) hn (by decide) hdf ⟨rfl, by decide, by decide⟩ hY F (fun _ _ a ns hl _ hS => ⟨a, ns, rfl, hS, hl, fun _ => rfl⟩) fun _ _ _ _ _ z => z
-- 63

end W4
open PySem PySem.W PyProof.Rows in
set_option maxRecDepth 100000 in
set_option maxHeartbeats 0 in
theorem PySem.Challenge.cw_workerworlds_k04_marks_in_boxes_holds : PySem.Challenge.rw_workerworlds_k04_marks_in_boxes.Holds := by
  w_on; o_law; k_head; (case hw => w_witness2)
  k_fill
  refine W4.walk (l := PySem.Challenge.rw_workerworlds_k04_marks_in_boxes) rfl rfl (fun w h Y => PySem.W.kIn_of Y) ?F
  case F =>
    intro w mg fa h KX G hmg
    refine' W4.all_mk KX G hmg ?aC_Box ?a_bag ?l_bag ?c_bag ?k_bag ?a_take ?l_take ?c_take ?k_take ?a_of ?l_of ?c_of ?k_of ?a_contents ?l_contents ?c_contents ?k_contents ?a_either ?l_either ?c_either ?k_either ?a_without ?l_without ?c_without ?k_without ?a_are_contents ?l_are_contents ?c_are_contents ?k_are_contents ?a_checked ?l_checked ?c_checked ?k_checked ?a_plus ?l_plus ?c_plus ?k_plus ?a_asked ?l_asked ?c_asked ?k_asked ?a_holds ?l_holds ?c_holds ?k_holds ?a_is_right ?l_is_right ?c_is_right ?k_is_right ?a_law ?l_law ?c_law ?k_law ?a_Box__init ?i_Box__init ?l_Box__init ?c_Box__init ?k_Box__init ?d_Box__init ?a_Box__len ?i_Box__len ?l_Box__len ?c_Box__len ?k_Box__len ?a_Box__contains ?i_Box__contains ?l_Box__contains ?c_Box__contains ?k_Box__contains ?aX ?gX ?tX ?rX ?l_Box_crosses ?c_Box_crosses ?k_Box_crosses ?a_Box_become ?i_Box_become ?l_Box_become ?c_Box_become ?k_Box_become ?a_Box_within ?i_Box_within ?l_Box_within ?c_Box_within ?k_Box_within ?gM ?z_len ?z_abs ?z_list ?z_int ?z_isinstance ?z_str ?z_range ?z_max ?z_min ?z_any ?z_bool ?pgB ?hdB_ ?poB ?saB ?mkB ?kcB ?nCB ?xLB ?lNB ?okNB ?neqB ?nneB ?caB ?cnB ?ctB ?cmB ?sfB
    (case aC_Box => k_is)
    (case a_bag => k_is)
    (case l_bag => k_is)
    (case c_bag => k_is)
    (case k_bag => k_is)
    (case a_take => k_is)
    (case l_take => k_is)
    (case c_take => k_is)
    (case k_take => k_is)
    (case a_of => k_is)
    (case l_of => k_is)
    (case c_of => k_is)
    (case k_of => k_is)
    (case a_contents => k_is)
    (case l_contents => k_is)
    (case c_contents => k_is)
    (case k_contents => k_is)
    (case a_either => k_is)
    (case l_either => k_is)
    (case c_either => k_is)
    (case k_either => k_is)
    (case a_without => k_is)
    (case l_without => k_is)
    (case c_without => k_is)
    (case k_without => k_is)
    (case a_are_contents => k_is)
    (case l_are_contents => k_is)
    (case c_are_contents => k_is)
    (case k_are_contents => k_is)
    (case a_checked => k_is)
    (case l_checked => k_is)
    (case c_checked => k_is)
    (case k_checked => k_is)
    (case a_plus => k_is)
    (case l_plus => k_is)
    (case c_plus => k_is)
    (case k_plus => k_is)
    (case a_asked => k_is)
    (case l_asked => k_is)
    (case c_asked => k_is)
    (case k_asked => k_is)
    (case a_holds => k_is)
    (case l_holds => k_is)
    (case c_holds => k_is)
    (case k_holds => k_is)
    (case a_is_right => k_is)
    (case l_is_right => k_is)
    (case c_is_right => k_is)
    (case k_is_right => k_is)
    (case a_law => k_is)
    (case l_law => k_is)
    (case c_law => k_is)
    (case k_law => k_is)
    (case a_Box__init => k_is)
    (case i_Box__init => k_is)
    (case l_Box__init => k_is)
    (case c_Box__init => k_is)
    (case k_Box__init => k_is)
    (case d_Box__init => k_is)
    (case a_Box__len => k_is)
    (case i_Box__len => k_is)
    (case l_Box__len => k_is)
    (case c_Box__len => k_is)
    (case k_Box__len => k_is)
    (case a_Box__contains => k_is)
    (case i_Box__contains => k_is)
    (case l_Box__contains => k_is)
    (case c_Box__contains => k_is)
    (case k_Box__contains => k_is)
    (case aX => k_is)
    (case gX => k_is)
    (case tX => k_is)
    (case rX => k_is)
    (case l_Box_crosses => k_is)
    (case c_Box_crosses => k_is)
    (case k_Box_crosses => k_is)
    (case a_Box_become => k_is)
    (case i_Box_become => k_is)
    (case l_Box_become => k_is)
    (case c_Box_become => k_is)
    (case k_Box_become => k_is)
    (case a_Box_within => k_is)
    (case i_Box_within => k_is)
    (case l_Box_within => k_is)
    (case c_Box_within => k_is)
    (case k_Box_within => k_is)
    (case gM => k_is)
    (case z_len => k_is)
    (case z_abs => k_is)
    (case z_list => k_is)
    (case z_int => k_is)
    (case z_isinstance => k_is)
    (case z_str => k_is)
    (case z_range => k_is)
    (case z_max => k_is)
    (case z_min => k_is)
    (case z_any => k_is)
    (case z_bool => k_is)
    (case pgB => k_is)
    (case hdB_ => k_is)
    (case poB => k_is)
    (case saB => k_is)
    (case mkB => k_is)
    (case kcB => k_is)
    (case nCB => k_is)
    (case xLB => k_is)
    (case lNB => k_is)
    (case okNB => rfl)
    (case neqB => k_is)
    (case nneB => k_is)
    (case caB => k_is)
    (case cnB => k_is)
    (case ctB => k_is)
    (case cmB => k_is)
    (case sfB => k_is)

