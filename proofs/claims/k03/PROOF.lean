import PyProof.Rows.All
import Wide.All
import OpenK.AllK
import Wide.FinOn
import HandS.ForMost
import HandS.Codes
import HandS.Walk
import HandS.Wide
import HandS.IsInst
import HandS.Style
import HandS.Exc
import HandS.TryOnly
import HandS.ExcOwn
import HandS.WordsExc
import HandS.Defaults
import HandS.Steps
import PySem.Challenge.RW_workerworlds_k03_boxes_in_place
set_option Elab.async false
set_option linter.all false
set_option maxRecDepth 100000
set_option maxHeartbeats 4000000
namespace WB
open PySem L2
/-! ### marks -/
def mk : List Nat := List.range' 65 26 ++ List.range' 97 26
abbrev S (l : List Nat) : Str := ⟨l.toArray⟩
def sb (p : Nat → Bool) : Str := S (mk.filter p)
def mem (z : Str) (c : Nat) : Bool := decide (c ∈ z.cps.toList)
def IsC (z : Str) : Prop := ∃ p, z = sb p
theorem marks_eq : ("ABCDEFGHIJKLMNOPQRSTUVWXYZabcdefghijklmnopqrstuvwxyz" : Str) = S mk := by decide +kernel
theorem mem_sb (p : Nat → Bool) (c : Nat) : mem (sb p) c = (decide (c ∈ mk) && p c) := by
  unfold mem sb
  simp [List.mem_filter]
theorem sb_ext {p q : Nat → Bool} (h : ∀ c ∈ mk, p c = q c) : sb p = sb q := by
  unfold sb
  rw [List.filter_congr h]
theorem IsC.eq {z : Str} (h : IsC z) : z = sb (mem z) := by
  obtain ⟨p, rfl⟩ := h
  exact sb_ext fun c hc => by rw [mem_sb, decide_eq_true hc, Bool.true_and]
theorem sb_len (p : Nat → Bool) : (sb p).length ≤ 52 := by
  show (mk.filter p).toArray.size ≤ 52
  rw [List.size_toArray]
  exact List.length_filter_le p mk
/-! ### heaps -/
/-- all that was tracked is as it was, but what stands at p -/
def Bar (p : Addr) (H H' : Hp) : Prop := ∀ b o, b ≠ p → H b = some o → H' b = some o
theorem Bar.refl (p : Addr) (H : Hp) : Bar p H H := fun _ _ _ h => h
theorem Bar.trans {p : Addr} {H H1 H2 : Hp} (a : Bar p H H1) (b : Bar p H1 H2) : Bar p H H2 := fun c o n h => b c o n (a c o n h)
theorem bar_of {p : Addr} {H H' : Hp} (a : Same H H') : Bar p H H' := fun c o _ h => a c o h
theorem same_new {H : Hp} {p : Addr} {o : HO} (h : H p = none) : Same H (upd H p o) := fun b u e => by
  rw [upd_ne (ne_of_none e h)]
  exact e
theorem bar_upd {p : Addr} {H : Hp} {o : HO} : Bar p H (upd H p o) := fun b u n e => by
  rw [upd_ne n]
  exact e
theorem bar_new {p q : Addr} {H : Hp} {o : HO} (h : H q = none) : Bar p H (upd H q o) := fun b u _ e => same_new h b u e
/-! ### readings: the joining of two ways -/
theorem ite_val {c : Bool} {te1 te2 : TE} {σ : L2.St} {H : Hp} {Q : VK} (C : V → Hp → Prop) (h1 : c = true → ∀ Q' : VK, (∀ v H', C v H' → Q' v H') → te1 σ H Q')
    (h2 : c = false → ∀ Q' : VK, (∀ v H', C v H' → Q' v H') → te2 σ H Q') (h : ∀ v H', C v H' → Q v H') : if c = true then te1 σ H Q else te2 σ H Q := by
  cases c with
  | true => exact iteT (h1 rfl Q h)
  | false => exact iteF (h2 rfl Q h)
theorem ite_b {c : Bool} {A B : Prop} (h1 : c = true → A) (h2 : c = false → B) : if c = true then A else B := by
  cases c with
  | true => exact iteT (h1 rfl)
  | false => exact iteF (h2 rfl)
theorem ints_at {ns : List Int} {i : Nat} (h : i < ns.length) : (ns.map V.int)[i]? = some (V.int (ns[i]'h)) := by
  rw [List.getElem?_map, List.getElem?_eq_getElem h]
  rfl
theorem abs_nonneg (n : Int) : 0 ≤ (if n < 0 then -n else n) := by
  split <;> omega
theorem cut_to (xs : List V) (k : Nat) : cutV xs none (some (k : Int)) = xs.take k := by
  unfold cutV
  rw [HT.sIx_none, HT.sIx_nat, List.drop_zero, Nat.sub_zero]
  by_cases h : k ≤ xs.length
  · rw [Nat.min_eq_left h]
  · rw [Nat.min_eq_right (by omega), List.take_of_length_le (Nat.le_refl _), List.take_of_length_le (by omega)]
theorem cdw {i j : Int} (h : 0 < j) (h2 : j < 2 ^ 200) : CDivW i j := by
  refine ⟨h, ?_⟩
  have e : (j.natAbs : Int) = j := Int.natAbs_of_nonneg (by omega)
  have h3 : j.natAbs < 2 ^ 200 := by
    have : (j.natAbs : Int) < ((2 ^ 200 : Nat) : Int) := by
      rw [e]
      exact h2
    exact Int.ofNat_lt.mp this
  exact Nat.lt_trans ((Nat.log2_lt (by omega)).mpr h3) (by decide)
/-! ### data -/
theorem dp_all_ints {K : PySem.W.Frag} {H : Hp} : ∀ ns : List Int, DpAll K H (ns.map V.int) (ns.map PyData.int)
  | [] => .nil
  | n :: r => .cons (.int n) (dp_all_ints r)
theorem dp_ints {K : PySem.W.Frag} {H : Hp} {a : Addr} {ns : List Int} (h : SqL K H a (ns.map V.int)) : Dp K H (.ref a) (.list (ns.map PyData.int)) := .lst h (dp_all_ints ns)
theorem lay_ints : ∀ ns : List Int, PyData.canLayAll0 (ns.map PyData.int) = true ∧ PyData.depthAll (ns.map PyData.int) = 0
  | [] => ⟨rfl, rfl⟩
  | n :: r => by
    obtain ⟨h1, h2⟩ := lay_ints r
    refine ⟨?_, ?_⟩
    · show (PyData.canLay0 (.int n) && PyData.canLayAll0 (r.map PyData.int)) = true
      rw [h1]
      rfl
    · show max (PyData.depth (.int n)) (PyData.depthAll (r.map PyData.int)) = 0
      rw [h2]
      rfl
theorem shaped_ints (ns : List Int) : SeqAt.shaped (.list (ns.map PyData.int)) = true := by
  obtain ⟨h1, h2⟩ := lay_ints ns
  have e1 : PyData.canLay0 (.list (ns.map PyData.int)) = true := h1
  have e2 : PyData.depth (.list (ns.map PyData.int)) ≤ 64 := by
    show PyData.depthAll (ns.map PyData.int) + 1 ≤ 64
    omega
  unfold SeqAt.shaped
  rw [e1, decide_eq_true e2]
  rfl
theorem eqv_nil_ints (ns : List Int) : PyData.eqv (.list (ns.map PyData.int)) (.list []) = decide (ns = []) := by
  cases ns with
  | nil => rfl
  | cons n r =>
    rw [decide_eq_false (by simp)]
    rfl
/-! ### the bag of draws -/
def BagAt (H : Hp) (p q : Addr) : Prop := ∃ (c s i : Int) (ns : List Int),
  H p = some (.lst [.int c, .int s, .int i, .ref q]) ∧ H q = some (.lst (ns.map V.int)) ∧ ns.length ≤ 63 ∧ 0 ≤ c ∧ 0 ≤ s ∧ s < 2 ^ 40 ∧ 0 ≤ i
theorem BagAt.same {H H' : Hp} {p q : Addr} (h : BagAt H p q) (e : Same H H') : BagAt H' p q := by
  obtain ⟨c, s, i, ns, h1, h2, h3⟩ := h
  exact ⟨c, s, i, ns, e _ _ h1, e _ _ h2, h3⟩
theorem BagAt.bar {H H' : Hp} {p q x : Addr} (h : BagAt H p q) (e : Bar x H H') (n : p ≠ x) (m : q ≠ x) : BagAt H' p q := by
  obtain ⟨c, s, i, ns, h1, h2, h3⟩ := h
  exact ⟨c, s, i, ns, e _ _ n h1, e _ _ m h2, h3⟩
theorem BagAt.pq {H : Hp} {p q : Addr} (h : BagAt H p q) : q ≠ p := fun e => by
  obtain ⟨c, s, i, ns, h1, h2, _⟩ := h
  rw [e, h1] at h2
  have e2 := congrArg (fun l : List V => l[3]?) (HO.lst.inj (Option.some.inj h2))
  have e3 : (some (V.ref q) : Option V) = (ns.map V.int)[3]? := e2
  rw [List.getElem?_map] at e3
  cases e4 : ns[3]? <;> rw [e4] at e3 <;> cases e3
theorem BagAt.there {H : Hp} {p q l : Addr} (h : BagAt H p q) (hl : H l = none) : l ≠ p := by
  obtain ⟨c, s, i, ns, h1, _⟩ := h
  exact (ne_of_none h1 hl).symm
theorem BagAt.there2 {H : Hp} {p q l : Addr} (h : BagAt H p q) (hl : H l = none) : l ≠ q := by
  obtain ⟨c, s, i, ns, _, h1, _⟩ := h
  exact (ne_of_none h1 hl).symm
def spBag (K : PySem.W.Frag) : Sp := fun vs H Q _ => ∃ (a : Addr) (ns : List Int) (j : Nat), vs = [.ref a, .int (j : Int)] ∧ SqL K H a (ns.map V.int) ∧ ns.length ≤ 63 ∧ j < 63 ∧
  ∀ H' p q, Same H H' → H p = none → H q = none → BagAt H' p q → Q (.ref p) H'
def spTake : Sp := fun vs H Q _ => ∃ (p q : Addr) (m : Int), vs = [.ref p, .int m] ∧ BagAt H p q ∧ 0 < m ∧ m < 2 ^ 200 ∧
  ∀ H' (d : Int), Bar p H H' → BagAt H' p q → 0 ≤ d → d < m → Q (.int d) H'
/-! ### parts of the marks -/
theorem sub_filter {m l : List Nat} (h : l.Sublist m) : m.Nodup → l = m.filter (fun c => decide (c ∈ l)) := by
  induction h with
  | slnil => intro _; rfl
  | @cons l m a h ih =>
    intro hn
    have hn2 := List.nodup_cons.mp hn
    have ha : a ∉ l := fun q => hn2.1 (h.subset q)
    rw [List.filter_cons_of_neg (by simp [ha])]
    exact ih hn2.2
  | @cons_cons l m a h ih =>
    intro hn
    have hn2 := List.nodup_cons.mp hn
    rw [List.filter_cons_of_pos (by simp)]
    have e := ih hn2.2
    have e2 : m.filter (fun c => decide (c ∈ a :: l)) = m.filter (fun c => decide (c ∈ l)) := List.filter_congr fun c hc => by
      have hca : c ≠ a := fun q => hn2.1 (q ▸ hc)
      simp [hca]
    rw [e2, ← e]
theorem mk_nodup : mk.Nodup := by decide +kernel
theorem mk_len : mk.length = 52 := by decide +kernel
theorem isC_of {l : List Nat} (h : l.Sublist mk) : IsC (S l) := ⟨fun c => decide (c ∈ l), congrArg S (sub_filter h mk_nodup)⟩
theorem sub_step {l : List Nat} {i c : Nat} (h : l.Sublist (mk.take i)) (hc : mk[i]? = some c) : (l ++ [c]).Sublist (mk.take (i + 1)) ∧ l.Sublist (mk.take (i + 1)) := by
  have e : mk.take (i + 1) = mk.take i ++ [c] := by
    rw [List.take_add_one, hc]
    rfl
  rw [e]
  exact ⟨List.Sublist.append h (List.Sublist.refl _), h.trans (List.sublist_append_left _ _)⟩
def sg (c : Nat) : V := .str ⟨#[c]⟩
theorem joinL_one : ∀ l : List Nat, TL.joinL [] (l.map fun c => [c]) = l
  | [] => rfl
  | [c] => rfl
  | c :: d :: r => by
    have ih := joinL_one (d :: r)
    show [c] ++ [] ++ TL.joinL [] ((d :: r).map fun c => [c]) = c :: d :: r
    rw [ih]
    rfl
theorem join_signs (l : List Nat) : Txt.join (S []) (l.map fun c => S [c]) = S l := by
  have e := SX.join_S [] (l.map fun c => [c])
  rw [List.map_map] at e
  rw [joinL_one] at e
  exact e
def spOf : Sp := fun vs H Q _ => ∃ (p q : Addr) (y : V), vs = [.ref p, y] ∧ BagAt H p q ∧
  ((∃ l xs, y = .ref l ∧ l ≠ p ∧ H l = some (.lst xs) ∧ 0 < xs.length ∧ xs.length < 1000 ∧ ∀ H' x, Bar p H H' → BagAt H' p q → x ∈ xs → Q x H') ∨
   (∃ z : List Nat, y = .str (S z) ∧ 0 < z.length ∧ z.length < 1000 ∧ ∀ H' c, Bar p H H' → BagAt H' p q → c ∈ z → Q (sg c) H'))
def spContents : Sp := fun vs H Q _ => ∃ p q : Addr, vs = [.ref p] ∧ BagAt H p q ∧ ∀ H' z, Bar p H H' → BagAt H' p q → IsC z → Q (.str z) H'
theorem mk_at {i c : Nat} (h : (("ABCDEFGHIJKLMNOPQRSTUVWXYZabcdefghijklmnopqrstuvwxyz" : Str)).cps[i]? = some c) : mk[i]? = some c := by
  rw [marks_eq] at h
  rw [← List.getElem?_toArray]
  exact h
theorem arr_at {z : Str} {i c : Nat} (h : z.cps[i]? = some c) : z.cps.toList[i]? = some c := by
  rw [Array.getElem?_toList]
  exact h
/-- the signs of the first i that keep t -/
def filt (z : List Nat) (t : Nat → Bool) (i : Nat) : List V := ((z.take i).filter t).map sg
theorem filt_yes {z : List Nat} {t : Nat → Bool} {i c : Nat} (h : z[i]? = some c) (ht : t c = true) : filt z t (i + 1) = filt z t i ++ [sg c] := by
  unfold filt
  rw [List.take_add_one, h]
  show ((z.take i ++ [c]).filter t).map sg = _
  rw [List.filter_append, List.filter_cons_of_pos ht, List.filter_nil, List.map_append]
  rfl
theorem filt_no {z : List Nat} {t : Nat → Bool} {i c : Nat} (h : z[i]? = some c) (ht : t c = false) : filt z t (i + 1) = filt z t i := by
  unfold filt
  rw [List.take_add_one, h]
  show ((z.take i ++ [c]).filter t).map sg = _
  rw [List.filter_append, List.filter_cons_of_neg (by rw [ht]; exact Bool.false_ne_true), List.filter_nil, List.append_nil]
theorem filt_len {z : List Nat} {t : Nat → Bool} {i : Nat} : (filt z t i).length ≤ z.length := by
  unfold filt
  rw [List.length_map]
  exact Nat.le_trans (List.length_filter_le _ _) (by rw [List.length_take]; omega)
theorem filt_end {z : List Nat} {t : Nat → Bool} {n : Nat} (h : z.length ≤ n) : filt z t n = (z.filter t).map sg := by
  unfold filt
  rw [List.take_of_length_le h]
theorem sum_ones : ∀ l : List Nat, ((l.map fun c => S [c]).map (·.length)).sum = l.length
  | [] => rfl
  | c :: r => by
    have ih := sum_ones r
    show 1 + ((r.map fun c => S [c]).map (·.length)).sum = r.length + 1
    rw [ih]
    omega
theorem join_ok {K : PySem.W.Frag} {H : Hp} {p : Addr} {Q : VK} (l : List Nat) (hl : l.length ≤ 1000000) (hp : H p = some (.lst (l.map sg))) (q : Q (.str (S l)) H) :
    ∃ (a : Str) (p' : Addr) (ys : List Str), V.str "" = .str a ∧ [V.ref p] = [.ref p'] ∧ (SqL K H p' (ys.map V.str) ∨ SqT K H p' (ys.map V.str)) ∧ (ys.map (·.length)).sum + ys.length * a.length ≤ 16777216 ∧ Q (.str (Txt.join a ys)) H := by
  have e : ("" : Str) = S [] := by decide +kernel
  refine ⟨S [], p, l.map fun c => S [c], by rw [e], rfl, .inl (SqL.of ?_), ?_, ?_⟩
  · rw [List.map_map]
    exact hp
  · rw [sum_ones]
    show l.length + _ * 0 ≤ _
    omega
  · rw [join_signs]
    exact q
theorem mk_size : ("ABCDEFGHIJKLMNOPQRSTUVWXYZabcdefghijklmnopqrstuvwxyz" : Str).cps.size = 52 := by decide +kernel
/-! ### strings of marks -/
def spEither : Sp := fun vs H Q _ => ∃ a b : Str, vs = [.str a, .str b] ∧ ∀ H', Same H H' → Q (.str (sb fun c => mem a c || mem b c)) H'
def spBoth : Sp := fun vs H Q _ => ∃ a b : Str, vs = [.str a, .str b] ∧ a.length ≤ 1000000 ∧ ∀ H', Same H H' → Q (.str (S (a.cps.toList.filter fun c => mem b c))) H'
def spWithout : Sp := fun vs H Q _ => ∃ a b : Str, vs = [.str a, .str b] ∧ a.length ≤ 1000000 ∧ ∀ H', Same H H' → Q (.str (S (a.cps.toList.filter fun c => !mem b c))) H'
def spExactly : Sp := fun vs H Q _ => ∃ a b : Str, vs = [.str a, .str b] ∧ IsC a ∧ IsC b ∧ ∀ H', Same H H' → Q (.str (sb fun c => mem a c != mem b c)) H'
/-! ### own classes: is it the same object; the signs -/
structure EqC (K : PySem.W.Frag) (C : Addr) : Prop where
  ex : ∃ nm q N bs hdct sn sub ab col dd k0 k1 k2 k3 k5 newId, K.lookup C = some (excClassObj nm q C N bs [.type "object"] hdct sn sub ab col dd k0 k1 k2 k3 k5 newId) ∧
    PySem.W.nsOkIn K N = true ∧ PySem.W.nsIn K N "__eq__" = some none ∧ PySem.W.nsIn K N "__ne__" = some none
theorem EqC.inst {K : PySem.W.Frag} {C a dx : Addr} {h : Heap} (E : EqC K C) (X : K.In h) (e : h.get? a = some (PySem.W.instObj C dx)) : h.CmpInst a C [.type "object"] := by
  obtain ⟨nm, q, N, bs, hdct, sn, sub, ab, col, dd, k0, k1, k2, k3, k5, newId, h1, h2, h3, h4⟩ := E.ex
  exact ⟨_, nm, q, N, bs, hdct, sn, sub, ab, col, dd, k0, k1, k2, k3, k5, newId, h.nsMap N, e, rfl, X _ _ h1, .of_isNs (PySem.W.isNs_of_in X h2), PySem.W.nsMap_none_of_in X h2 h3, PySem.W.nsMap_none_of_in X h2 h4⟩
section
variable {X : Cx} {C : Addr}
theorem ins_at {pins : List (Addr × Obj)} {σ : L2.St} {H : Hp} {s : Shared} {a dx : Addr} {fs : List (Str × V)} (I : Inv X pins σ H s) (e : H a = some (.ins C dx fs)) : s.heap.get? a = some (PySem.W.instObj C dx) := by
  obtain ⟨_, _, _, e2, _⟩ := (show ObjOk X.prog X.w H s.heap a (.ins C dx fs) from I.hok a _ e)
  exact e2
def rSame (C : Addr) (f : Bool → Bool) : R2 := fun x y H Q => ∃ a b dx fs dx' fs', x = .ref a ∧ y = .ref b ∧ H a = some (.ins C dx fs) ∧ H b = some (.ins C dx' fs') ∧ Q (.bl (f (decide (a = b)))) H
theorem op_eqO (E : EqC X.K C) (hu : X.A.units + 1 < cLine) : OpR X (compareOp .Eq) (rSame C id) := by
  intro pins s σ H x y v u Q I rx ry h
  obtain ⟨a, b, dx, fs, dx', fs', rfl, rfl, ha, hb, q⟩ := h
  obtain rfl : v = Value.ref a := rx
  obtain rfl : u = Value.ref b := ry
  have e1 := E.inst I.kIn (ins_at I ha)
  have e2 := E.inst I.kIn (ins_at I hb)
  obtain ⟨hh, g, d, t, os⟩ := s
  by_cases c : a = b
  · subst c
    refine compareOp_eq_same PySem.F.cmp_object e1 (by omega) ⟨.bl true, H, I, rfl, ?_⟩
    rw [decide_eq_true rfl] at q
    exact q
  · refine compareOp_eq_other PySem.F.cmp_object PySem.F.cmp_object e1 e2 c (by omega) ⟨.bl false, H, I, rfl, ?_⟩
    rw [decide_eq_false c] at q
    exact q
theorem op_neO (E : EqC X.K C) (hu : X.A.units + 1 < cLine) : OpR X (compareOp .NotEq) (rSame C not) := by
  intro pins s σ H x y v u Q I rx ry h
  obtain ⟨a, b, dx, fs, dx', fs', rfl, rfl, ha, hb, q⟩ := h
  obtain rfl : v = Value.ref a := rx
  obtain rfl : u = Value.ref b := ry
  have e1 := E.inst I.kIn (ins_at I ha)
  have e2 := E.inst I.kIn (ins_at I hb)
  obtain ⟨hh, g, d, t, os⟩ := s
  by_cases c : a = b
  · subst c
    refine compareOp_ne_same PySem.F.cmp_object e1 hu ⟨.bl false, H, I, rfl, ?_⟩
    rw [decide_eq_true rfl] at q
    exact q
  · refine compareOp_ne_other PySem.F.cmp_object PySem.F.cmp_object e1 e2 c hu ⟨.bl true, H, I, rfl, ?_⟩
    rw [decide_eq_false c] at q
    exact q
/-- one sign of an own class: x op y, by its method -/
structure SignC (K : PySem.W.Frag) (C : Addr) (nm : Str) (f : Addr) : Prop where
  first : PySem.W.selfFirst K C = true
  at_ : PySem.W.findIn K (.ref C) nm = some (some (.ref f))
  fn : PySem.W.isFn K (.ref f) = true
def rSign (C : Addr) (sp : Sp) (E : XK) : R2 := fun x y H Q => ∃ a b dx fs dx' fs', x = .ref a ∧ y = .ref b ∧ H a = some (.ins C dx fs) ∧ H b = some (.ins C dx' fs') ∧ sp [.ref a, .ref b] H (fun v H' => (∃ c, v = .ref c) ∧ Q v H') E
theorem op_sign {CX : CXT} {k : Nat} {f : Addr} {fd : FuncData} {ps : List Str} {sp : Sp} {E : XK} {op : Operator} (S : SignC X.K C (PySem.dunder op.info.2) f) (F : FnOk X.prog X.w X.K X.mg X.base CX k f fd ps sp) (hr : Room k X.A) (hb : Binds X.K fd ps []) (hx : Passes CX X E) :
    OpR X (binaryOp op) (rSign C sp E) := by
  intro pins s σ H x y v u Q I rx ry h
  obtain ⟨a, b, dx, fs, dx', fs', rfl, rfl, ha, hb2, q⟩ := h
  obtain rfl : v = Value.ref a := rx
  obtain rfl : u = Value.ref b := ry
  obtain ⟨m, Fm⟩ := I.fr
  obtain ⟨mA, O, _, _, _, _⟩ := ins_get I.hok ha
  obtain ⟨od, J, _⟩ := O.look
  obtain ⟨mB, O2, _, _, _, _⟩ := ins_get I.hok hb2
  obtain ⟨od2, J2, _⟩ := O2.look
  refine PySem.W.binop_K Fm I.mod.kin J J2.type S.first S.at_ S.fn ?_
  refine wpAny_mono (run_fn F hr hb .nil hx I (us := [.ref a, .ref b]) (vs := [.ref a, .ref b]) (.cons rfl (.cons rfl .nil)) q) (fun r s' hq => ?_) fun _ _ e => e
  obtain ⟨z, H', I', rz, ⟨c, rfl⟩, q'⟩ := hq
  obtain rfl : r = Value.ref c := rz
  exact ⟨.ref c, H', I', rfl, q'⟩
end
/-! ### boxes -/
def boxF (z : Str) : List (Str × V) := [("contents", .str z)]
def BoxAt (C : Addr) (H : Hp) (a : Addr) (z : Str) : Prop := ∃ dx, H a = some (.ins C dx (boxF z))
theorem boxF_lk (z : Str) : (boxF z).lookup ("contents" : Str) = some (.str z) := by simp [boxF, List.lookup]
theorem boxF_put (z y : Str) : putF "contents" (.str y) (boxF z) = boxF y := by
  show (if ("contents" : Str) = "contents" then _ else _) = _
  rw [if_pos rfl]
  rfl
theorem boxF_new (y : Str) : putF "contents" (.str y) [] = boxF y := rfl
theorem boxF_no (z : Str) {m : Str} (h : ¬ m = "contents") : (boxF z).lookup m = none := by
  have e : (m == ("contents" : Str)) = false := by simpa using h
  simp [boxF, List.lookup, e]
theorem BoxAt.same {C a : Addr} {H H' : Hp} {z : Str} (h : BoxAt C H a z) (e : Same H H') : BoxAt C H' a z := by
  obtain ⟨dx, h⟩ := h
  exact ⟨dx, e _ _ h⟩
theorem BoxAt.bar {C a p : Addr} {H H' : Hp} {z : Str} (h : BoxAt C H a z) (e : Bar p H H') (n : a ≠ p) : BoxAt C H' a z := by
  obtain ⟨dx, h⟩ := h
  exact ⟨dx, e _ _ n h⟩
theorem BoxAt.ne {C a b : Addr} {H : Hp} {z : Str} (h : BoxAt C H a z) (hb : H b = none) : a ≠ b := by
  obtain ⟨dx, h⟩ := h
  exact ne_of_none h hb
theorem BoxAt.one {C a : Addr} {H : Hp} {y z : Str} (h : BoxAt C H a z) (h2 : BoxAt C H a y) : z = y := by
  obtain ⟨dx, h⟩ := h
  obtain ⟨dy, h2⟩ := h2
  rw [h] at h2
  have e := Option.some.inj h2
  injection e with _ _ e
  have e3 := congrArg (fun l : List (Str × V) => l.lookup ("contents" : Str)) e
  rw [boxF_lk, boxF_lk] at e3
  injection e3 with e3
  injection e3
theorem BoxAt.bag {C a p q : Addr} {H : Hp} {z : Str} (h : BoxAt C H a z) (hb : BagAt H p q) : a ≠ p := by
  obtain ⟨dx, h⟩ := h
  obtain ⟨c, s, i, ns, h1, _⟩ := hb
  exact ne_of h h1 (by intro e; cases e)
theorem BoxAt.bag2 {C a p q : Addr} {H : Hp} {z : Str} (h : BoxAt C H a z) (hb : BagAt H p q) : a ≠ q := by
  obtain ⟨dx, h⟩ := h
  obtain ⟨c, s, i, ns, _, h1, _⟩ := hb
  exact ne_of h h1 (by intro e; cases e)
/-- what the top says of Box -/
structure BoxC (K : PySem.W.Frag) (mg : Str → Option Value) (C : Addr) : Prop where
  cl : Cls K C
  nC : NoAttr K C "contents"
  gB : ∃ u, mg "Box" = some u ∧ RelV (.ref C) u
  eq : EqC K C
  ca : PySem.W.findIn K (.ref C) "__class__" = some (some (.builtin "object.__class__"))
  cn : PySem.W.specialIn K (.builtin "object.__class__") "__get__" = some (some (.builtin "getset_descriptor.__get__"))
  ct : PySem.W.takesIn K (.builtin "object.__class__") = some true
  cm : PySem.W.mroIn K C (.type "object") = some true
  kit : PySem.W.kitOne K (.ref C) (.ref C) = some true
theorem BoxC.ty {K : PySem.W.Frag} {mg : Str → Option Value} {C a dx : Addr} {H : Hp} {fs : List (Str × V)} (B : BoxC K mg C) (h : H a = some (.ins C dx fs)) : TyX K H (.ref a) (.ref C) :=
  .base (.ins h B.cl B.ca B.cn B.ct B.cm)
def spInit (C : Addr) : Sp := fun vs H Q _ => ∃ (a dx : Addr) (z : Str), vs = [.ref a, .str z] ∧ H a = some (.ins C dx []) ∧ IsC z ∧ ∀ H', Bar a H H' → BoxAt C H' a z → Q .non H'
def spBecome (C : Addr) : Sp := fun vs H Q _ => ∃ (a : Addr) (y z : Str), vs = [.ref a, .str z] ∧ BoxAt C H a y ∧ IsC z ∧ ∀ H', Bar a H H' → BoxAt C H' a z → Q .non H'
def spSign (C : Addr) (g : Bool → Bool → Bool) : Sp := fun vs H Q _ => ∃ (a b : Addr) (y z : Str), vs = [.ref a, .ref b] ∧ BoxAt C H a y ∧ BoxAt C H b z ∧ IsC y ∧ IsC z ∧
  ∀ H' c, Same H H' → H c = none → BoxAt C H' c (sb fun m => g (mem y m) (mem z m)) → Q (.ref c) H'
def spAre (K : PySem.W.Frag) : Sp := fun vs H Q _ => ∃ x : V, vs = [x] ∧ ((∃ z, x = .str z ∧ ∀ H', Same H H' → Q (.bl (decide (z = sb (mem z)))) H') ∨ (∃ t, TyX K H x (.type t) ∧ kitB t "str" = some false ∧ Q (.bl false) H))
def spChecked : Sp := fun vs H Q _ => ∃ z : Str, vs = [.str z] ∧ IsC z ∧ ∀ H', Same H H' → Q (.str z) H'
theorem isC_sb (p : Nat → Bool) : IsC (sb p) := ⟨p, rfl⟩
theorem IsC.len {z : Str} (h : IsC z) : z.length ≤ 52 := by
  obtain ⟨p, rfl⟩ := h
  exact sb_len p
/-- a part of contents is contents again -/
theorem IsC.filt {z : Str} (h : IsC z) (t : Nat → Bool) : S (z.cps.toList.filter t) = sb fun c => mem z c && t c := by
  obtain ⟨p, rfl⟩ := h
  show S ((mk.filter p).filter t) = S (mk.filter _)
  rw [List.filter_filter]
  refine congrArg S (List.filter_congr fun c hc => ?_)
  rw [mem_sb, decide_eq_true hc, Bool.true_and, Bool.and_comm]
/-! ### signs, by their method, in short -/
structure Sgn (P : Program) (w : World) (K : PySem.W.Frag) (mg : Str → Option Value) (base : Heap) (k : Nat) (C : Addr) (op : Operator) (sp : Sp) : Prop where
  ex : ∃ (f : Addr) (fd : FuncData) (ps : List Str), SignC K C (PySem.dunder op.info.2) f ∧ FnOk P w K mg base CX0 k f fd ps sp ∧ Binds K fd ps []
theorem op_sgn {X : Cx} {k j : Nat} {C : Addr} {op : Operator} {sp : Sp} (S : Sgn X.prog X.w X.K X.mg X.base k C op sp) (hr : Room j X.A) (hk : k ≤ j) : OpR X (binaryOp op) (rSign C sp E0) := by
  obtain ⟨f, fd, ps, h1, h2, h3⟩ := S.ex
  exact op_sign h1 h2 (hr.mono hk) h3 pass0
section
variable {σ : L2.St} {H : Hp} {t u c : TT} {a b : Bool} {D : Ends} {t1 t2 : TS}
theorem ans_orB (h1 : Ans t σ H a) (h2 : Ans u σ H b) : Ans (tOr t u) σ H (a || b) := fun Q q => h1 _ (by
  cases a with
  | true => exact iteT q
  | false => exact iteF (h2 _ q))
theorem st_if (h : Ans c σ H b) (q : if b = true then t1 D σ H else t2 D σ H) : tIfS c t1 t2 D σ H := h _ q
end
/-! ### what is due -/
def gs (s : Nat) (x y : Bool) : Bool := if s = 124 then x || y else if s = 38 then x && y else if s = 94 then x != y else x && !y
def isSign (s : Nat) : Prop := s = 124 ∨ s = 38 ∨ s = 94 ∨ s = 45
def spDue : Sp := fun vs H Q _ => ∃ (s : Nat) (a b : Str), vs = [.str (S [s]), .str a, .str b] ∧ isSign s ∧ Q (.str (sb fun c => gs s (mem a c) (mem b c))) H
def spSigned (C : Addr) : Sp := fun vs H Q _ => ∃ (s : Nat) (a b : Addr) (y z : Str), vs = [.str (S [s]), .ref a, .ref b] ∧ isSign s ∧ BoxAt C H a y ∧ BoxAt C H b z ∧ IsC y ∧ IsC z ∧
  ∀ H' c, Same H H' → H c = none → BoxAt C H' c (sb fun m => gs s (mem y m) (mem z m)) → Q (.ref c) H'
theorem due_bool {s : Nat} (hs : isSign s) (x y : Bool) :
    (((decide (V.str (S [s]) = V.str "|") && decide ((0 : Int) < (if x then 1 else 0) + (if y then 1 else 0))) || ((decide (V.str (S [s]) = V.str "&") && decide (V.int ((if x then 1 else 0) + (if y then 1 else 0)) = V.int 2)) || (decide (V.str (S [s]) = V.str "^") && decide (V.int ((if x then 1 else 0) + (if y then 1 else 0)) = V.int 1)))) = (gs s x y && !decide (s = 45))) ∧
    ((decide (V.str (S [s]) = V.str "-") && (x && !y)) = (gs s x y && decide (s = 45))) := by
  rcases hs with rfl | rfl | rfl | rfl <;> cases x <;> cases y <;> decide +kernel
def spRight (C : Addr) : Sp := fun vs H Q _ => ∃ (s : Nat) (a b : Addr) (y z l : Str), vs = [.str (S [s]), .ref a, .ref b, .str l] ∧ isSign s ∧ BoxAt C H a y ∧ BoxAt C H b z ∧ IsC y ∧ IsC z ∧ IsC l ∧
  ∀ H', (∀ x o, x ≠ a → x ≠ b → H x = some o → H' x = some o) → BoxAt C H' a y → BoxAt C H' b z → Q (.bl true) H'
theorem scal_str (a b : Str) : scal (.str a) (.str b) = true := rfl
theorem dec_str_same (z : Str) : decide (V.str z = V.str z) = true := decide_eq_true rfl
theorem if_join {b : Bool} {t1 t2 : TS} {D : Ends} {σ : L2.St} {H : Hp} (C : L2.St → Hp → Prop) (h1 : b = true → ∀ nx' : L2.St → Hp → Prop, (∀ σ' H', C σ' H' → nx' σ' H') → t1 { D with nx := nx' } σ H)
    (h2 : b = false → ∀ nx' : L2.St → Hp → Prop, (∀ σ' H', C σ' H' → nx' σ' H') → t2 { D with nx := nx' } σ H) (h : ∀ σ' H', C σ' H' → D.nx σ' H') : if b = true then t1 D σ H else t2 D σ H := by
  cases b with
  | true => exact iteT (h1 rfl D.nx h)
  | false => exact iteF (h2 rfl D.nx h)
theorem same_made {H H' : Hp} {x dx : Addr} {o o' : HO} (nx : H x = none) (nd : H dx = none) (b : Bar x (upd (upd H dx o) x o') H') : Same H H' := fun c u e => by
  have n1 : c ≠ x := ne_of_none e nx
  refine b c u n1 ?_
  rw [upd_ne n1, upd_ne (ne_of_none e nd)]
  exact e
/-- a change at a place that H0 does not know -/
theorem same_bar {H0 H H' : Hp} {p : Addr} (s : Same H0 H) (n : H0 p = none) (b : Bar p H H') : Same H0 H' := fun c u e => b c u (ne_of_none e n) (s c u e)
def spLaw (K : PySem.W.Frag) : Sp := fun vs H Q _ => ∃ (a : Addr) (ns : List Int), vs = [.ref a] ∧ SqL K H a (ns.map V.int) ∧ ns.length ≤ 63 ∧ ∀ H', Q (.bl true) H'
theorem calOf {P : Program} {w : World} {K : PySem.W.Frag} {mg : Str → Option Value} {base : Heap} {k : Nat} {x q : Str} {st : Stmt} {f : Addr} {fd : FuncData} {ps : List Str} {sp : Sp} (F : L2.Fun K x q st f fd) (g : mg x = some (.ref f)) (b : Binds K fd ps [])
    (ok : FnOk P w K mg base CX0 k f fd ps sp) : C8.Cal P w K mg base k x sp [] := ⟨f, fd, ps, [], ok, g, F.kp, b, .nil⟩
theorem kit_self {K : PySem.W.Frag} {C : Addr} : PySem.W.kitOne K (.ref C) (.ref C) = some true := by
  unfold PySem.W.kitOne
  rw [if_pos (beq_self_eq_true _)]
theorem nsOk_of {K : PySem.W.Frag} {N : Addr} {c : Value} {d : Option Addr} {es : Array DictEntry} {n : Nat} {sl : Array (Option Value)} (l : K.lookup N = some ⟨c, d, .dict es n, sl⟩)
    (h : (es.toList.all fun e => match e.key with | .str _ _ => true | _ => false) = true) : PySem.W.nsOkIn K N = true := by
  unfold PySem.W.nsOkIn
  rw [l]
  show es.all _ = true
  rw [← Array.all_toList]
  exact h
section
open PySem.W PyProof.Rows PySem.Calls
variable {K : PySem.W.Frag} {C f : Addr}
theorem fills_in {M : Model} {h : Heap} {nm : String} {add : Bool} {cd : ClassData} {rest : List Value} (X : K.In h) (hc : clsIn K C = some cd) (hm : cd.mro = .ref C :: rest)
    (hs : findIn K (.ref C) (dunderI nm) = some (some (.ref f))) : Looks M h (fillsInplaceSlot (.ref C) nm add) true := by
  intro A Q E s k q
  unfold fillsInplaceSlot
  refine wpAny_bind ((looks_clsIn X hc).andThen (f := fun cd => pure cd.mro) .now A _ E s k ?_)
  rw [hm, List.anyM_cons]
  refine wpAny_bind (wpAny_bind (looks_findIn X hs A _ E s k ?_))
  dsimp only
  have own : (!ownNameWrapper (.ref f) (dunderI nm)) = true := rfl
  rw [if_pos own]
  exact wpAny_pure (by
    rw [if_pos rfl]
    exact wpAny_pure q)
theorem inplace_own {prog : Program} {w : World} {A : Around} {E : Value → Shared → Prop} {s : Shared} {x : Addr} {ox : Obj} {od : Option Obj} {op : Operator} {b : Value} {Q : Value → Shared → Prop} (X : K.In s.heap) (I : PySem.W.InstAt s.heap x ox C od) (hc : selfFirst K C = true)
    (hs : findIn K (.ref C) (dunderI op.info.2) = some (some (.ref f))) (hf : isFn K (.ref f) = true)
    (h : wpAny (model prog w) A (call (.ref f) [.ref x, b]) (PySem.W.CmpBack Q) E s) : wpAny (model prog w) A (inplaceOp op (.ref x) b) Q E s := by
  obtain ⟨cd, hcd, hm⟩ := any_some hc
  obtain ⟨rest, hm⟩ : ∃ rest, cd.mro = .ref C :: rest := by
    cases q : cd.mro with
    | nil =>
      rw [q] at hm
      cases hm
    | cons a r =>
      rw [q, List.head?_cons] at hm
      cases beq_iff_eq.mp hm
      exact ⟨r, rfl⟩
  unfold inplaceOp
  refine wpAny_holding ?_
  dsimp only
  refine wpAny_bind (I.type.here ?_)
  refine wpAny_bind ((fills_in X hcd hm hs).here ?_)
  rw [if_pos rfl]
  refine wpAny_bind (m := tryMethod (.ref x) _ b) ?_
  unfold tryMethod
  refine wpAny_bind (special_fn X I hs (beq_iff_eq.mp hf) (wpAny_mono h (fun v s' hv => ?_) fun _ _ e => e))
  cases v <;> first | exact hv.elim | exact wpAny_pure (wpAny_bind (wpAny_rule (wpAny_pure hv)))
end
/-- x op= y, by the class's own method -/
structure ISgn (P : Program) (w : World) (K : PySem.W.Frag) (mg : Str → Option Value) (base : Heap) (k : Nat) (C : Addr) (op : Operator) (sp : Sp) : Prop where
  ex : ∃ (f : Addr) (fd : FuncData) (ps : List Str), SignC K C (PySem.dunderI op.info.2) f ∧ FnOk P w K mg base CX0 k f fd ps sp ∧ Binds K fd ps []
theorem ip_sgn {X : Cx} {k j : Nat} {C : Addr} {op : Operator} {sp : Sp} (S : ISgn X.prog X.w X.K X.mg X.base k C op sp) (hr : Room j X.A) (hk : k ≤ j) : PIp X op (rSign C sp E0) := by
  obtain ⟨f, fd, ps, h1, h2, h3⟩ := S.ex
  intro pins s σ H x y v u Q I rx ry h
  obtain ⟨a, b, dx, fs, dx', fs', rfl, rfl, ha, hb2, q⟩ := h
  obtain rfl : v = Value.ref a := rx
  obtain rfl : u = Value.ref b := ry
  obtain ⟨mA, O, _, _, _, _⟩ := ins_get I.hok ha
  obtain ⟨od, J, _⟩ := O.look
  refine inplace_own I.kIn J h1.first h1.at_ h1.fn ?_
  refine wpAny_mono (run_fn h2 (hr.mono hk) h3 .nil pass0 I (us := [.ref a, .ref b]) (vs := [.ref a, .ref b]) (.cons rfl (.cons rfl .nil)) q) (fun r s' hq => ?_) fun _ _ e => e
  obtain ⟨z, H', I', rz, ⟨c, rfl⟩, q'⟩ := hq
  obtain rfl : r = Value.ref c := rz
  exact ⟨.ref c, H', I', rfl, q'⟩
def spISign (C : Addr) (g : Bool → Bool → Bool) : Sp := fun vs H Q _ => ∃ (a b : Addr) (y z : Str), vs = [.ref a, .ref b] ∧ BoxAt C H a y ∧ BoxAt C H b z ∧ IsC y ∧ IsC z ∧
  ∀ H', Bar a H H' → BoxAt C H' a (sb fun m => g (mem y m) (mem z m)) → Q (.ref a) H'
/-- rows[j] in rows[j] op= .. -/
def rGetL (K : PySem.W.Frag) : V → V → Hp → VK → Prop := fun x y H Q => ∃ (p : Addr) (xs : List V) (j : Nat) (v : V), x = .ref p ∧ y = .int (j : Int) ∧ SqL K H p xs ∧ xs[j]? = some v ∧ Q v H
theorem get_list {X : Cx} : PGet X (rGetL X.K) := by
  intro pins s σ H o i ov iv Q I ro ri h
  obtain ⟨p, xs, j, v, rfl, rfl, hq, he, q⟩ := h
  obtain rfl : ov = Value.ref p := ro
  obtain ⟨t, rfl⟩ := ri
  obtain ⟨its, r, pl, hz⟩ := I.list hq
  obtain ⟨w, ew, rw'⟩ := r.get he
  have hl := r.length
  have hn := line63
  have hj : j < xs.length := (List.getElem?_eq_some_iff.mp he).1
  refine wpAny_getItem_list pl.isList (by omega) (by omega) (by rw [Int.toNat_natCast]; simpa using ew) ⟨v, H, I, rw', q⟩
def spChanged (C : Addr) : Sp := fun vs H Q _ => ∃ (s : Nat) (a b : Addr) (y z : Str), vs = [.str (S [s]), .ref a, .ref b] ∧ isSign s ∧ BoxAt C H a y ∧ BoxAt C H b z ∧ IsC y ∧ IsC z ∧
  ∀ H', Bar a H H' → BoxAt C H' a (sb fun m => gs s (mem y m) (mem z m)) → Q (.ref a) H'
theorem ixN_nat {n j : Nat} (h : j < n) : ixN n (j : Int) = some j := by
  unfold ixN
  rw [if_pos (by omega), if_pos (by omega), Int.toNat_natCast]
theorem set_same {α : Type} {xs : List α} {k : Nat} {v : α} (h : xs[k]? = some v) : xs.set k v = xs := by
  refine List.ext_getElem? fun j => ?_
  rw [List.getElem?_set]
  obtain ⟨hk, e⟩ := List.getElem?_eq_some_iff.mp h
  by_cases c : k = j
  · subst c
    rw [if_pos rfl, if_pos hk, h]
  · rw [if_neg c]
def spChangeItem (C : Addr) : Sp := fun vs H Q _ => ∃ (s : Nat) (r a b : Addr) (k : Nat) (xs : List V) (y z : Str), vs = [.str (S [s]), .ref r, .int (k : Int), .ref b] ∧ isSign s ∧ H r = some (.lst xs) ∧ xs[k]? = some (.ref a) ∧ BoxAt C H a y ∧ BoxAt C H b z ∧ IsC y ∧ IsC z ∧
  ∀ H', Bar a H H' → BoxAt C H' a (sb fun m => gs s (mem y m) (mem z m)) → Q .non H'
/-- boxes and their contents, by place -/
def Boxes (C : Addr) (H : Hp) (bs : List Addr) (zs : List Str) : Prop := bs.length = zs.length ∧ ∀ (i : Nat) b z, bs[i]? = some b → zs[i]? = some z → BoxAt C H b z
theorem Boxes.same {C : Addr} {H H' : Hp} {bs : List Addr} {zs : List Str} (h : Boxes C H bs zs) (e : Same H H') : Boxes C H' bs zs := ⟨h.1, fun i b z h1 h2 => (h.2 i b z h1 h2).same e⟩
theorem Boxes.bar {C p : Addr} {H H' : Hp} {bs : List Addr} {zs : List Str} (h : Boxes C H bs zs) (e : Bar p H H') (n : p ∉ bs) : Boxes C H' bs zs :=
  ⟨h.1, fun i b z h1 h2 => (h.2 i b z h1 h2).bar e fun q => n (q ▸ List.mem_of_getElem? h1)⟩
theorem Boxes.set {C b : Addr} {H H' : Hp} {bs : List Addr} {zs : List Str} {i : Nat} {z : Str} (h : Boxes C H bs zs) (nd : bs.Nodup) (hb : bs[i]? = some b) (e : Bar b H H') (n : BoxAt C H' b z) : Boxes C H' bs (zs.set i z) := by
  refine ⟨by rw [List.length_set]; exact h.1, fun j c y h1 h2 => ?_⟩
  rw [List.getElem?_set] at h2
  by_cases q : i = j
  · subst q
    rw [if_pos rfl] at h2
    split at h2
    · rw [hb] at h1
      cases h1
      cases h2
      exact n
    · cases h2
  · rw [if_neg q] at h2
    refine (h.2 j c y h1 h2).bar e fun r => q ?_
    rw [r] at h1
    obtain ⟨hi, ei⟩ := List.getElem?_eq_some_iff.mp hb
    obtain ⟨hj, ej⟩ := List.getElem?_eq_some_iff.mp h1
    exact (List.getElem_inj nd).mp (ei.trans ej.symm)
theorem Boxes.at_ {C : Addr} {H : Hp} {bs : List Addr} {zs : List Str} {i : Nat} (h : Boxes C H bs zs) (hi : i < bs.length) : ∃ b z, bs[i]? = some b ∧ zs[i]? = some z ∧ BoxAt C H b z := by
  have hj : i < zs.length := h.1 ▸ hi
  exact ⟨bs[i], zs[i], List.getElem?_eq_getElem hi, List.getElem?_eq_getElem hj, h.2 i _ _ (List.getElem?_eq_getElem hi) (List.getElem?_eq_getElem hj)⟩
theorem get_snoc {α : Type} {l : List α} {x y : α} {i : Nat} (h : (l ++ [x])[i]? = some y) : l[i]? = some y ∨ (i = l.length ∧ y = x) := by
  by_cases c : i < l.length
  · rw [List.getElem?_append_left c] at h
    exact .inl h
  · rw [List.getElem?_append_right (by omega)] at h
    have e : i - l.length = 0 := by
      cases q : i - l.length with
      | zero => rfl
      | succ n =>
        rw [q] at h
        cases h
    rw [e] at h
    exact .inr ⟨by omega, (Option.some.inj h).symm⟩
theorem Boxes.snoc {C b : Addr} {H : Hp} {bs : List Addr} {zs : List Str} {z : Str} (h : Boxes C H bs zs) (n : BoxAt C H b z) : Boxes C H (bs ++ [b]) (zs ++ [z]) := by
  refine ⟨by rw [List.length_append, List.length_append, h.1]; rfl, fun j c y h1 h2 => ?_⟩
  rcases get_snoc h1 with h1 | ⟨e1, rfl⟩
  · rcases get_snoc h2 with h2 | ⟨e2, rfl⟩
    · exact h.2 j c y h1 h2
    · have := (List.getElem?_eq_some_iff.mp h1).1
      have := h.1
      omega
  · rcases get_snoc h2 with h2 | ⟨e2, rfl⟩
    · have := (List.getElem?_eq_some_iff.mp h2).1
      have := h.1
      omega
    · exact n
theorem Boxes.mem {C b : Addr} {H : Hp} {bs : List Addr} {zs : List Str} (h : Boxes C H bs zs) (hb : b ∈ bs) : ∃ z, BoxAt C H b z := by
  obtain ⟨i, hi, rfl⟩ := List.getElem_of_mem hb
  obtain ⟨b', z, h1, h2, h3⟩ := h.at_ hi
  rw [List.getElem?_eq_getElem hi] at h1
  cases h1
  exact ⟨z, h3⟩
theorem map_at {α β : Type} {f : α → β} {l : List α} {i : Nat} {x : α} (h : l[i]? = some x) : (l.map f)[i]? = some (f x) := by
  rw [List.getElem?_map, h]
  rfl
theorem map_from {α β : Type} {f : α → β} {l : List α} {i : Nat} {y : β} (h : (l.map f)[i]? = some y) : ∃ x, l[i]? = some x ∧ y = f x := by
  rw [List.getElem?_map] at h
  cases e : l[i]? with
  | none =>
    rw [e] at h
    cases h
  | some x =>
    rw [e] at h
    exact ⟨x, rfl, (Option.some.inj h).symm⟩
theorem take_snoc {α : Type} {l : List α} {i : Nat} {x : α} (h : l[i]? = some x) : l.take (i + 1) = l.take i ++ [x] := by
  rw [List.take_add_one, h]
  rfl
theorem Boxes.notin {C l : Addr} {H : Hp} {bs : List Addr} {zs : List Str} {xs : List V} (h : Boxes C H bs zs) (hl : H l = some (.lst xs)) : l ∉ bs := fun m => by
  obtain ⟨z, dx, e⟩ := h.mem m
  rw [hl] at e
  cases e
theorem Boxes.notin2 {C p q : Addr} {H : Hp} {bs : List Addr} {zs : List Str} (h : Boxes C H bs zs) (hB : BagAt H p q) : p ∉ bs ∧ q ∉ bs := by
  obtain ⟨c, s, i, ns, h1, h2, _⟩ := hB
  exact ⟨h.notin h1, h.notin h2⟩
/-- the state of a law with boxes and their due contents, in two lists -/
structure Two (C : Addr) (H0 : Hp) (p q tl bl : Addr) (bs : List Addr) : Prop where
  np : H0 p = none
  nt : H0 tl = none
  nb : H0 bl = none
  nbs : ∀ b ∈ bs, H0 b = none
  tp : tl ≠ p
  tq : tl ≠ q
  bp : bl ≠ p
  bq : bl ≠ q
  tb : tl ≠ bl
  nd : bs.Nodup
structure TwoAt (C : Addr) (H0 : Hp) (p q tl bl : Addr) (bs : List Addr) (zs : List Str) (H : Hp) : Prop where
  sm : Same H0 H
  bag : BagAt H p q
  t : H tl = some (.lst (zs.map V.str))
  b : H bl = some (.lst (bs.map V.ref))
  bx : Boxes C H bs zs
  ic : ∀ z ∈ zs, IsC z
theorem TwoAt.draw {C : Addr} {H0 H H' : Hp} {p q tl bl : Addr} {bs : List Addr} {zs : List Str} (h : TwoAt C H0 p q tl bl bs zs H) (w : Two C H0 p q tl bl bs) (b : Bar p H H') (hB : BagAt H' p q) : TwoAt C H0 p q tl bl bs zs H' :=
  ⟨same_bar h.sm w.np b, hB, b _ _ w.tp h.t, b _ _ w.bp h.b, h.bx.bar b (h.bx.notin2 h.bag).1, h.ic⟩
theorem TwoAt.same {C : Addr} {H0 H H' : Hp} {p q tl bl : Addr} {bs : List Addr} {zs : List Str} (h : TwoAt C H0 p q tl bl bs zs H) (s : Same H H') : TwoAt C H0 p q tl bl bs zs H' :=
  ⟨h.sm.trans s, h.bag.same s, s _ _ h.t, s _ _ h.b, h.bx.same s, h.ic⟩
theorem lc_yes {A B : Hp → Prop} {σ : L2.St} {H : Hp} (h : A H) : tYes σ H (fun b H3 => if b = true then A H3 else B H3) := @iteT (A H) (B H) h
theorem TwoAt.change {C : Addr} {H0 H H' : Hp} {p q tl bl b : Addr} {bs : List Addr} {zs : List Str} {m : Nat} {z : Str} (w : Two C H0 p q tl bl bs) (sm : Same H0 H) (bag : BagAt H p q) (t : H tl = some (.lst ((zs.set m z).map V.str))) (hb : H bl = some (.lst (bs.map V.ref)))
    (bx : Boxes C H bs zs) (ic : ∀ z ∈ zs, IsC z) (hz : IsC z) (hm : bs[m]? = some b) (e : Bar b H H') (n : BoxAt C H' b z) : TwoAt C H0 p q tl bl bs (zs.set m z) H' := by
  have mb := List.mem_of_getElem? hm
  have ne : ∀ {x}, x ∉ bs → x ≠ b := fun h q => h (q ▸ mb)
  have n2 := bx.notin2 bag
  refine ⟨same_bar sm (w.nbs b mb) e, bag.bar e (ne n2.1) (ne n2.2), e _ _ (ne (bx.notin t)) t, e _ _ (ne (bx.notin hb)) hb, bx.set w.nd hm e n, fun y hy => ?_⟩
  rcases List.mem_or_eq_of_mem_set hy with h | h
  · exact ic y h
  · rw [h]
    exact hz
theorem sign_of {y : V} (h : y ∈ [V.str "|", V.str "&", V.str "-", V.str "^"]) : ∃ s, y = .str (S [s]) ∧ isSign s := by
  simp only [List.mem_cons, List.not_mem_nil, or_false] at h
  rcases h with rfl | rfl | rfl | rfl
  · exact ⟨124, rfl, .inl rfl⟩
  · exact ⟨38, rfl, .inr (.inl rfl)⟩
  · exact ⟨45, rfl, .inr (.inr (.inr rfl))⟩
  · exact ⟨94, rfl, .inr (.inr (.inl rfl))⟩
end WB

set_option Elab.async false
set_option linter.all false
set_option maxRecDepth 100000
set_option maxHeartbeats 4000000
namespace W3
open PySem L2 WB
open C8 (pe_c pe_mk pe_mt pe_mt0 Cal Mak Met)
def top (i : Nat) : Stmt := PySem.Challenge.pw_workerworlds_k03_boxes_in_place.main.body.getD i (.Pass ⟨0, 0, 0, 0⟩)
abbrev s_bag : Stmt := top 14
abbrev n_bag : List Str := ["_law_script", "_law_at", "_law_cell"]
theorem sc_bag : FnScope n_bag ["_law_script", "_law_at"] (defScope s_bag) := ⟨rfl, rfl, rfl, by decide +kernel, rfl, by decide +kernel, by decide +kernel⟩
abbrev s_take : Stmt := top 15
abbrev n_take : List Str := ["_law_bag_here", "_law_many", "_law_digit", "_law_cell", "_law_added"]
theorem sc_take : FnScope n_take ["_law_bag_here", "_law_many"] (defScope s_take) := ⟨rfl, rfl, rfl, by decide +kernel, rfl, by decide +kernel, by decide +kernel⟩
abbrev s_of : Stmt := top 16
abbrev n_of : List Str := ["_law_bag_here", "_law_some"]
theorem sc_of : FnScope n_of ["_law_bag_here", "_law_some"] (defScope s_of) := ⟨rfl, rfl, rfl, by decide +kernel, rfl, by decide +kernel, by decide +kernel⟩
abbrev s_contents : Stmt := top 17
abbrev n_contents : List Str := ["_law_bag_here", "_law_share", "_law_found", "_law_mark"]
theorem sc_contents : FnScope n_contents ["_law_bag_here"] (defScope s_contents) := ⟨rfl, rfl, rfl, by decide +kernel, rfl, by decide +kernel, by decide +kernel⟩
abbrev s_either : Stmt := top 6
abbrev n_either : List Str := ["one", "other", "mark"]
theorem sc_either : FnScope n_either ["one", "other"] (defScope s_either) := ⟨rfl, rfl, rfl, by decide +kernel, rfl, by decide +kernel, by decide +kernel⟩
abbrev s_both : Stmt := top 7
abbrev n_both : List Str := ["one", "other", "mark"]
theorem sc_both : FnScope n_both ["one", "other"] (defScope s_both) := ⟨rfl, rfl, rfl, by decide +kernel, rfl, by decide +kernel, by decide +kernel⟩
abbrev s_without : Stmt := top 8
abbrev n_without : List Str := ["one", "other", "mark"]
theorem sc_without : FnScope n_without ["one", "other"] (defScope s_without) := ⟨rfl, rfl, rfl, by decide +kernel, rfl, by decide +kernel, by decide +kernel⟩
abbrev s_exactly_one : Stmt := top 9
abbrev n_exactly_one : List Str := ["one", "other"]
theorem sc_exactly_one : FnScope n_exactly_one ["one", "other"] (defScope s_exactly_one) := ⟨rfl, rfl, rfl, by decide +kernel, rfl, by decide +kernel, by decide +kernel⟩
abbrev s_are_contents : Stmt := top 10
abbrev n_are_contents : List Str := ["thing"]
theorem sc_are_contents : FnScope n_are_contents ["thing"] (defScope s_are_contents) := ⟨rfl, rfl, rfl, by decide +kernel, rfl, by decide +kernel, by decide +kernel⟩
abbrev s_checked : Stmt := top 11
abbrev n_checked : List Str := ["contents"]
theorem sc_checked : FnScope n_checked ["contents"] (defScope s_checked) := ⟨rfl, rfl, rfl, by decide +kernel, rfl, by decide +kernel, by decide +kernel⟩
abbrev s_due : Stmt := top 18
abbrev n_due : List Str := ["_law_sign", "_law_one", "_law_other", "_law_found", "_law_mark", "_law_many"]
theorem sc_due : FnScope n_due ["_law_sign", "_law_one", "_law_other"] (defScope s_due) := ⟨rfl, rfl, rfl, by decide +kernel, rfl, by decide +kernel, by decide +kernel⟩
abbrev s_changed : Stmt := top 19
abbrev n_changed : List Str := ["_law_sign", "_law_box", "_law_other"]
theorem sc_changed : FnScope n_changed ["_law_sign", "_law_box", "_law_other"] (defScope s_changed) := ⟨rfl, rfl, rfl, by decide +kernel, rfl, by decide +kernel, by decide +kernel⟩
abbrev s_change_item : Stmt := top 20
abbrev n_change_item : List Str := ["_law_sign", "_law_rows", "_law_k", "_law_other"]
theorem sc_change_item : FnScope n_change_item ["_law_sign", "_law_rows", "_law_k", "_law_other"] (defScope s_change_item) := ⟨rfl, rfl, rfl, by decide +kernel, rfl, by decide +kernel, by decide +kernel⟩
abbrev s_law : Stmt := top 21
abbrev n_law : List Str := ["_law_script", "_law_at", "_law_bag_here", "_law_texts", "_law_boxes", "_law_turn", "_law_one", "_law_other", "_law_sign", "_law_rows", "_law_k", "_law_text"]
theorem sc_law : FnScope n_law ["_law_script"] (defScope s_law) := ⟨rfl, rfl, rfl, by decide +kernel, rfl, by decide +kernel, by decide +kernel⟩
abbrev s_Box__init : Stmt := inClass (top 12) 0
abbrev n_Box__init : List Str := ["self", "contents"]
theorem sc_Box__init : FnScope n_Box__init ["self", "contents"] (defScope s_Box__init) := ⟨rfl, rfl, rfl, by decide +kernel, rfl, by decide +kernel, by decide +kernel⟩
abbrev s_Box__ior : Stmt := inClass (top 12) 9
abbrev n_Box__ior : List Str := ["self", "other"]
theorem sc_Box__ior : FnScope n_Box__ior ["self", "other"] (defScope s_Box__ior) := ⟨rfl, rfl, rfl, by decide +kernel, rfl, by decide +kernel, by decide +kernel⟩
abbrev s_Box__iand : Stmt := inClass (top 12) 10
abbrev n_Box__iand : List Str := ["self", "other"]
theorem sc_Box__iand : FnScope n_Box__iand ["self", "other"] (defScope s_Box__iand) := ⟨rfl, rfl, rfl, by decide +kernel, rfl, by decide +kernel, by decide +kernel⟩
abbrev s_Box__isub : Stmt := inClass (top 12) 11
abbrev n_Box__isub : List Str := ["self", "other"]
theorem sc_Box__isub : FnScope n_Box__isub ["self", "other"] (defScope s_Box__isub) := ⟨rfl, rfl, rfl, by decide +kernel, rfl, by decide +kernel, by decide +kernel⟩
abbrev s_Box__ixor : Stmt := inClass (top 12) 12
abbrev n_Box__ixor : List Str := ["self", "other"]
theorem sc_Box__ixor : FnScope n_Box__ixor ["self", "other"] (defScope s_Box__ixor) := ⟨rfl, rfl, rfl, by decide +kernel, rfl, by decide +kernel, by decide +kernel⟩
structure Top (K : PySem.W.Frag) (mg : Str → Option Value) : Prop where
  z_len : mg "len" = none
  z_abs : mg "abs" = none
  z_list : mg "list" = none
  z_int : mg "int" = none
  z_isinstance : mg "isinstance" = none
  z_str : mg "str" = none
  z_range : mg "range" = none
  z_max : mg "max" = none
  z_min : mg "min" = none
  g_MARKS : ∃ u, mg "MARKS" = some u ∧ RelV (.str "ABCDEFGHIJKLMNOPQRSTUVWXYZabcdefghijklmnopqrstuvwxyz") u
section
variable {P : Program} {w : World} {K : PySem.W.Frag} {mg : Str → Option Value} {base : Heap}
theorem ok_bag {f : Addr} {fd : FuncData} (F : Fun K "_law_bag" "_law_bag" s_bag f fd) (T : Top K mg) : FnOk P w K mg base CX0 1 f fd ["_law_script", "_law_at"] (spBag K) := by
  refine F.ok sc_bag (fun vs H Q E h => ?_) (fun cdv A outer s H vs Q E hr h => ?_)
  · obtain ⟨a, ns, j, rfl, _⟩ := h
    rfl
  · obtain ⟨a, ns, j, rfl, hS, hlen, hj, k⟩ := h
    refine ⟨_, (pss_cons (ps_set (i := 2) sc_bag.nd rfl (Or.inl rfl) (pe_ifExp (pt_cmpR op_lt (pv 1) (pe_callB call_len_seq (by rfl) T.z_len (by decide +kernel) (pa_cons (pv 0) pa_nil)) (nomark _)) (pe_callB call_abs (by rfl) T.z_abs (by decide +kernel) (pa_cons (pe_ix ix_list (pv 0) (pv 1) (fun _ _ => rfl)) pa_nil)) pe_int))
(pss_one (ps_ret (pe_lst (pa_cons (pe_ifExp (pt_cmpR op_ge (pv 2) (pe_op op_pow pe_int pe_int) (nomark _)) (pv 2) pe_int) (pa_cons (pe_op op_add pe_int (pe_op op_mul pe_int (pv 1))) (pa_cons (pv 1) (pa_cons (pe_callTy call_list_of (by rfl) T.z_list (by decide +kernel) (pa_cons (pe_slice sl_list (pv 0) po_none (po_some pe_int)) pa_nil)) pa_nil)))))))), ?_⟩
    refine ⟨_, rfl, _, rfl, a, _, rfl, .inl hS, _, _, rfl, rfl, _, rfl, ?_⟩
    refine ite_val (C := fun v H' => ∃ c : Int, v = .int c ∧ 0 ≤ c ∧ H' = H) (fun hc Q' q => ?_) (fun _ Q' q => q _ _ ⟨0, rfl, Int.le_refl _, rfl⟩) ?_
    · have hj2 : j < ns.length := by
        have e := of_decide_eq_true hc
        rw [List.length_map] at e
        omega
      refine ⟨_, rfl, _, rfl, a, _, _, _, rfl, rfl, hS, atI_nat (ints_at hj2), _, rfl, ?_⟩
      exact q _ _ ⟨_, rfl, abs_nonneg _, rfl⟩
    · rintro v H' ⟨c, rfl, hc, rfl⟩
      refine ⟨_, rfl, _, _, rfl, rfl, ⟨by decide, by decide, by decide⟩, _, _, rfl, rfl, _, rfl, ?_⟩
      refine ite_val (C := fun v H2 => ∃ c : Int, v = .int c ∧ 0 ≤ c ∧ H2 = H') (fun _ Q' q => ⟨_, rfl, q _ _ ⟨c, rfl, hc, rfl⟩⟩) (fun _ Q' q => q _ _ ⟨0, rfl, Int.le_refl _, rfl⟩) ?_
      rintro v H2 ⟨c2, rfl, hc2, rfl⟩
      refine ⟨_, rfl, _, _, rfl, rfl, .inl ⟨by decide, by decide⟩, _, _, rfl, rfl, _, rfl, _, rfl, ?_⟩
      refine ⟨_, rfl, a, _, rfl, hS, fun p hp => ?_⟩
      refine ⟨p, _, rfl, .inl (SqL.of upd_same), fun l hl => ?_⟩
      refine ⟨by show 4 ≤ sizeLine; decide, fun b hb => ?_⟩
      have e : cutV (ns.map V.int) none (some 63) = (ns.take 63).map V.int := (cut_to _ 63).trans (List.map_take ..).symm
      have nlb : l ≠ b := fun q => by
        rw [← q, upd_same] at hb
        cases hb
      have hb1 : upd H2 p (.lst (cutV (ns.map V.int) none (some 63))) b = none := by
        rw [upd_ne nlb.symm] at hb
        exact hb
      have hb2 : H2 b = none := (same_new hp).free hb1
      refine k _ b l (((same_new hp).trans (same_new hl)).trans (same_new hb)) hb2 ((same_new hp).free hl) ?_
      refine ⟨c2, _, _, ns.take 63, upd_same, ?_, ?_, hc2, ?_, ?_, ?_⟩
      · rw [upd_ne nlb, upd_same, e]
      · rw [List.length_take]
        omega
      · omega
      · omega
      · omega
theorem ok_take {f : Addr} {fd : FuncData} (F : Fun K "_law_take" "_law_take" s_take f fd) (T : Top K mg) : FnOk P w K mg base CX0 1 f fd ["_law_bag_here", "_law_many"] spTake := by
  refine F.ok sc_take (fun vs H Q E h => ?_) (fun cdv A outer s H vs Q E hr h => ?_)
  · obtain ⟨p, q, m, rfl, _⟩ := h
    rfl
  · obtain ⟨p, q, m, rfl, hBB, hm, hm2, k⟩ := h
    have npq : q ≠ p := hBB.pq
    obtain ⟨c, z, i, ns, hp, hq, hlen, hc, hz, hz2, hi⟩ := hBB
    refine ⟨_, (pss_cons (ps_if (pt_cmpR op_gt (pe_ix ix_list (pv 0) pe_int (fun _ _ => rfl)) pe_int (nomark _))
(pss_cons (ps_set (i := 2) sc_take.nd rfl (Or.inl rfl) (pe_op op_mod (pe_callTy call_int1 (by rfl) T.z_int (by decide +kernel) (pa_cons (pe_ix ix_list (pv 0) pe_int (fun _ _ => rfl)) pa_nil)) (pv 1)))
(pss_cons (ps_asg (pe_op op_fdivW (pe_ix ix_list (pv 0) pe_int (fun _ _ => rfl)) (pv 1)) (pg_sub (pv 0) pe_int set_list))
(pss_one (ps_ret (pv 2)))))
pss_nil)
(pss_cons (ps_asg (pe_op op_add (pe_ix ix_list (pv 0) pe_int (fun _ _ => rfl)) pe_int) (pg_sub (pv 0) pe_int set_list))
(pss_cons (ps_set (i := 3) sc_take.nd rfl (Or.inl rfl) (pe_ifExp (pt_cmpR (op_neD hr.units) (pe_ix ix_list (pv 0) pe_int (fun _ _ => rfl)) (pe_lst pa_nil) (nomark _)) (pe_ix ix_list (pe_ix ix_list (pv 0) pe_int (fun _ _ => rfl)) (pe_op op_mod (pe_ix ix_list (pv 0) pe_int (fun _ _ => rfl)) (pe_callB call_len_seq (by rfl) T.z_len (by decide +kernel) (pa_cons (pe_ix ix_list (pv 0) pe_int (fun _ _ => rfl)) pa_nil))) (fun _ _ => rfl)) pe_int))
(pss_cons (ps_set (i := 4) sc_take.nd rfl (Or.inl rfl) (pe_op op_mod (pe_callTy call_int1 (by rfl) T.z_int (by decide +kernel) (pa_cons (pv 3) pa_nil)) pe_int))
(pss_cons (ps_asg (pe_op op_mod (pe_callTy call_int1 (by rfl) T.z_int (by decide +kernel) (pa_cons (pe_op op_add (pe_op op_add (pe_op op_add (pe_op op_mul (pe_ix ix_list (pv 0) pe_int (fun _ _ => rfl)) pe_int) (pv 4)) (pe_op op_mul pe_int (pe_ix ix_list (pv 0) pe_int (fun _ _ => rfl)))) pe_int) pa_nil)) pe_int) (pg_sub (pv 0) pe_int set_list))
(pss_one (ps_ret (pe_op op_mod (pe_op op_fdivW (pe_op op_mod (pe_callTy call_int1 (by rfl) T.z_int (by decide +kernel) (pa_cons (pe_op op_mul (pe_op op_fdivW (pe_ix ix_list (pv 0) pe_int (fun _ _ => rfl)) pe_int) pe_int) pa_nil)) pe_int) pe_int) (pv 1))))))))), ?_⟩
    refine ⟨_, rfl, p, _, _, _, rfl, rfl, SqL.of hp, rfl, _, _, rfl, rfl, _, rfl, ?_⟩
    refine ite_b (fun hc0 => ?_) (fun _ => ?_)
    · have hc1 : 0 < c := of_decide_eq_true hc0
      refine ⟨_, rfl, p, _, _, _, rfl, rfl, SqL.of hp, rfl, .inl ⟨_, rfl, ?_⟩⟩
      refine ⟨_, rfl, _, _, rfl, rfl, hm, ?_⟩
      refine ⟨_, rfl, p, _, _, _, rfl, rfl, SqL.of hp, rfl, _, rfl, _, _, rfl, rfl, cdw hm hm2, ?_⟩
      · refine ⟨_, rfl, p, _, _, _, rfl, rfl, hp, rfl, ?_⟩
        refine ⟨_, rfl, ?_⟩
        refine k _ _ bar_upd ⟨c / m, z, i, ns, upd_same, by rw [upd_ne npq]; exact hq, hlen, Int.ediv_nonneg hc (by omega), hz, hz2, hi⟩ (Int.emod_nonneg _ (by omega)) (Int.emod_lt_of_pos _ hm)
    · show tSeq _ _ _ _ _
      refine ⟨_, rfl, p, _, _, _, rfl, rfl, SqL.of hp, rfl, _, _, rfl, rfl, ?_⟩
      refine ⟨_, rfl, p, _, _, _, rfl, rfl, hp, rfl, ?_⟩
      have hp1 : upd H p (.lst [V.int c, V.int z, V.int (i + 1), V.ref q]) p = some (.lst [V.int c, V.int z, V.int (i + 1), V.ref q]) := upd_same
      have hq1 : upd H p (.lst [V.int c, V.int z, V.int (i + 1), V.ref q]) q = some (.lst (ns.map V.int)) := (upd_ne npq).trans hq
      refine ⟨_, rfl, p, _, _, _, rfl, rfl, SqL.of hp1, rfl, Nat.zero_le _, fun l hl => ?_⟩
      have npl : p ≠ l := ne_of_none hp1 hl
      have nql : q ≠ l := ne_of_none hq1 hl
      have hp2 := (upd_ne npl (o := HO.lst [])).trans hp1
      have hq2 := (upd_ne nql (o := HO.lst [])).trans hq1
      refine ⟨_, _, dp_ints (SqL.of hq2), .lst (SqL.of upd_same) .nil, shaped_ints ns, by decide, _, rfl, ?_⟩
      refine ite_val (C := fun v H' => ∃ n : Int, v = .int n ∧ H' = _) (fun hne Q' qq => ?_) (fun _ Q' qq => qq _ _ ⟨0, rfl, rfl⟩) ?_
      · have hn : ns ≠ [] := fun e => by
          rw [eqv_nil_ints, decide_eq_true e] at hne
          cases hne
        have hl0 : 0 < (ns.map V.int).length := by
          rw [List.length_map]
          exact List.length_pos_iff.mpr hn
        refine ⟨_, rfl, p, _, _, _, rfl, rfl, SqL.of hp2, rfl, _, rfl, p, _, _, _, rfl, rfl, SqL.of hp2, rfl, _, rfl, p, _, _, _, rfl, rfl, SqL.of hp2, rfl, q, _, rfl, .inl (SqL.of hq2), _, _, rfl, rfl, by omega, ?_⟩
        have h0 : 0 ≤ (i + 1) % ((ns.map V.int).length : Int) := Int.emod_nonneg _ (by omega)
        have h1 : (i + 1) % ((ns.map V.int).length : Int) < ((ns.map V.int).length : Int) := Int.emod_lt_of_pos _ (by omega)
        obtain ⟨j, hj⟩ := Int.eq_ofNat_of_zero_le h0
        have hj2 : j < ns.length := by
          rw [hj, List.length_map] at h1
          omega
        refine ⟨q, _, _, _, rfl, rfl, SqL.of hq2, ?_, qq _ _ ⟨ns[j], rfl, rfl⟩⟩
        rw [hj]
        exact atI_nat (ints_at hj2)
      · rintro v H' ⟨n, rfl, rfl⟩
        refine ⟨_, rfl, .inl ⟨_, rfl, ?_⟩⟩
        refine ⟨_, _, rfl, rfl, (by show (0 : Int) < _; decide), ?_⟩
        refine ⟨_, rfl, p, _, _, _, rfl, rfl, SqL.of hp2, rfl, _, _, rfl, rfl, .inr ⟨by decide, by decide⟩, _, rfl, _, _, rfl, rfl, _, rfl, p, _, _, _, rfl, rfl, SqL.of hp2, rfl, _, _, rfl, rfl, .inl ⟨by decide, by decide⟩, _, _, rfl, rfl, _, _, rfl, rfl, .inl ⟨_, rfl, ?_⟩⟩
        refine ⟨_, _, rfl, rfl, (by show (0 : Int) < _; decide), ?_⟩
        refine ⟨_, rfl, p, _, _, _, rfl, rfl, hp2, rfl, ?_⟩
        refine ⟨_, rfl, p, _, _, _, rfl, rfl, SqL.of upd_same, rfl, _, _, rfl, rfl, cdw (by decide) (by decide), _, _, rfl, rfl, .inr ⟨by decide, by decide⟩, .inl ⟨_, rfl, ?_⟩⟩
        refine ⟨_, _, rfl, rfl, (by show (0 : Int) < _; decide), _, _, rfl, rfl, cdw (by decide) (by decide), _, rfl, _, _, rfl, rfl, hm, ?_⟩
        refine k _ _ ?_ ⟨c, _, i + 1, ns, upd_same, ?_, hlen, hc, Int.emod_nonneg _ (by decide), ?_, by omega⟩ (Int.emod_nonneg _ (by omega)) (Int.emod_lt_of_pos _ hm)
        · exact (bar_upd.trans (bar_new hl)).trans bar_upd
        · exact (upd_ne npq).trans hq2
        · exact Int.lt_trans (Int.emod_lt_of_pos _ (by decide)) (by decide)
theorem ok_of {f : Addr} {fd : FuncData} (F : Fun K "_law_of" "_law_of" s_of f fd) (T : Top K mg) (T_take : Cal P w K mg base 1 "_law_take" spTake []) : FnOk P w K mg base CX0 2 f fd ["_law_bag_here", "_law_some"] spOf := by
  refine F.ok sc_of (fun vs H Q E h => ?_) (fun cdv A outer s H vs Q E hr h => ?_)
  · obtain ⟨p, q, y, rfl, _⟩ := h
    rfl
  · obtain ⟨p, q, y, rfl, hB, k⟩ := h
    refine ⟨_, (pss_one (ps_ret (pe_ix (IxR.or ix_list ix_str) (pv 1) (pe_c T_take hr (by decide) (by rfl) (pa_cons (pv 0) (pa_cons (pe_callB (CallR.or call_len_seq call_len_str) (by rfl) T.z_len (by decide +kernel) (pa_cons (pv 1) pa_nil)) pa_nil))) (fun _ _ => rfl)))), ?_⟩
    rcases k with ⟨l, xs, rfl, hlp, hl, h0, h1, k⟩ | ⟨z, rfl, h0, h1, k⟩
    · refine ⟨_, rfl, _, rfl, _, rfl, .inl ⟨l, _, rfl, .inl (SqL.of hl), ?_⟩⟩
      refine ⟨p, q, _, rfl, hB, by omega, by omega, fun H1 d b1 hB1 d0 d1 => ?_⟩
      obtain ⟨j, rfl⟩ := Int.eq_ofNat_of_zero_le d0
      have hj : j < xs.length := by omega
      refine .inl ⟨l, xs, _, xs[j], rfl, rfl, SqL.of (b1 _ _ hlp hl), atI_nat (List.getElem?_eq_getElem hj), ?_⟩
      exact k _ _ b1 hB1 (List.getElem_mem hj)
    · refine ⟨_, rfl, _, rfl, _, rfl, .inr ⟨_, rfl, ?_, ?_⟩⟩
      · rw [SX.S_len]
        exact Nat.le_of_lt (small1000 (Nat.le_of_lt h1))
      rw [SX.S_len]
      refine ⟨p, q, _, rfl, hB, by omega, by omega, fun H1 d b1 hB1 d0 d1 => ?_⟩
      obtain ⟨j, rfl⟩ := Int.eq_ofNat_of_zero_le d0
      have hj : j < z.length := by omega
      refine .inr ⟨S z, _, z[j], rfl, rfl, ?_, atI_nat (List.getElem?_eq_getElem hj), ?_⟩
      · rw [SX.S_len]
        exact Nat.le_of_lt (small1000 (Nat.le_of_lt h1))
      exact k _ _ b1 hB1 (List.getElem_mem hj)
theorem ok_contents {f : Addr} {fd : FuncData} (F : Fun K "_law_contents" "_law_contents" s_contents f fd) (T : Top K mg) (T_take : Cal P w K mg base 1 "_law_take" spTake []) (T_of : Cal P w K mg base 2 "_law_of" spOf []) :
    FnOk P w K mg base CX0 3 f fd ["_law_bag_here"] spContents := by
  refine F.ok sc_contents (fun vs H Q E h => ?_) (fun cdv A outer s H vs Q E hr h => ?_)
  · obtain ⟨p, q, rfl, _⟩ := h
    rfl
  · obtain ⟨p, q, rfl, hB, k⟩ := h
    refine ⟨_, (pss_cons (ps_par (i := 1) (j := 2) rfl sc_contents.nd rfl rfl (by decide) rfl rfl (by exact (pa_cons (pe_c T_of hr (by decide) (by rfl) (pa_cons (pv 0) (pa_cons (pe_lst (pa_cons pe_int (pa_cons pe_int (pa_cons pe_int (pa_cons pe_int (pa_cons pe_int pa_nil)))))) pa_nil))) (pa_cons pe_str pa_nil))) rfl)
(pss_cons (ps_for PassesOwn.never rfl (pi_str pe_str) (pg_name (i := 3) sc_contents.nd rfl (Or.inl rfl))
(pss_one (ps_if (pt_cmpR op_eq (pe_c T_take hr (by decide) (by rfl) (pa_cons (pv 0) (pa_cons (pv 1) pa_nil))) pe_int (nomark _))
(pss_one (ps_set (i := 2) sc_contents.nd rfl (Or.inl rfl) (pe_op op_add_str (pv 2) (pv 3))))
pss_nil)))
(pss_one (ps_ret (pv 2))))), ?_⟩
    refine ⟨_, rfl, by show 5 ≤ sizeLine; decide, fun l hl => ?_⟩
    refine ⟨p, q, _, rfl, hB.same (same_new hl), .inl ⟨l, _, rfl, hB.there hl, upd_same, by decide, by decide, fun H1 x b1 hB1 hx => ?_⟩⟩
    obtain ⟨n, rfl, hn0, hn1⟩ : ∃ n : Int, x = .int n ∧ 0 < n ∧ n < 2 ^ 200 := by
      simp only [List.mem_cons, List.not_mem_nil, or_false] at hx
      rcases hx with rfl | rfl | rfl | rfl | rfl <;> exact ⟨_, rfl, by decide, by decide⟩
    refine ⟨_, _, rfl, ?_⟩
    refine ⟨_, rfl, for_it walk_str (fun i σ H' => ∃ ms v, σ = [some (.ref p), some (.int n), some (.str (S ms)), v] ∧ ms.Sublist (mk.take i) ∧ Bar p H H' ∧ BagAt H' p q)
      ⟨[], none, rfl, List.nil_sublist _, (bar_new hl).trans b1, hB1⟩ (fun _ _ _ _ _ => trivial) ?_ ?_⟩
    · rintro i x σ H2 H' hi ⟨ms, v, rfl, hs, b2, hB2⟩ ⟨rfl, c, hc, rfl⟩
      have hc := mk_at hc
      have hm : ms.length ≤ 52 := Nat.le_trans hs.length_le (by rw [List.length_take, mk_len]; omega)
      refine ⟨_, rfl, _, rfl, p, q, _, rfl, hB2, hn0, hn1, fun H3 d b3 hB3 d0 d1 => ?_⟩
      refine ⟨rfl, _, rfl, ?_⟩
      refine ite_b (fun _ => ?_) (fun _ => ?_)
      · refine ⟨_, rfl, _, rfl, _, _, rfl, rfl, ?_, ?_⟩
        · rw [SX.S_len]
          exact Nat.le_trans (Nat.add_le_add hm (Nat.le_refl 1)) (by decide)
        · refine ⟨ms ++ [c], some (sg c), ?_, (sub_step hs hc).1, b2.trans b3, hB3⟩
          rw [show S ms ++ (⟨#[c]⟩ : Str) = S (ms ++ [c]) from SX.S_cat ms [c]]
          rfl
      · exact ⟨ms, _, rfl, (sub_step hs hc).2, b2.trans b3, hB3⟩
    · rintro σ H' ⟨ms, v, rfl, hs, b2, hB2⟩
      exact ⟨_, rfl, k _ _ b2 hB2 (isC_of (hs.trans (List.take_sublist _ _)))⟩
theorem ok_either {f : Addr} {fd : FuncData} (F : Fun K "either" "either" s_either f fd) (T : Top K mg) : FnOk P w K mg base CX0 1 f fd ["one", "other"] spEither := by
  refine F.ok sc_either (fun vs H Q E h => ?_) (fun cdv A outer s H vs Q E hr h => ?_)
  · obtain ⟨a, b, rfl, _⟩ := h
    rfl
  · obtain ⟨a, b, rfl, k⟩ := h
    refine ⟨_, (pss_one (ps_ret (pe_join pe_str (pe_lc (own := [("mark", 2)]) rfl sc_either.nd (pi_str (C8.pe_gc (by rfl) T.g_MARKS)) (blkOk_by (own := [("mark", 2)]) (N := n_either) (sc := defScope s_either) (by decide +kernel)) (fun _ _ _ _ _ => (pg_name (i := 2) sc_either.nd rfl (Or.inl rfl))) (fun _ _ _ _ _ => (pts_one (PW.pt (pw_or (pt_cmpR op_in_sign (pv 2) (pv 0) rfl) (pw_or1 (pt_cmpR op_in_sign (pv 2) (pv 1) rfl)))))) (fun _ _ _ _ _ => (pv 2)))))), ?_⟩
    refine ⟨⟨_, rfl⟩, _, rfl, fun D hD => lc_it walk_str (fun i H' => H' = upd H D (.lst (filt mk (fun c => mem a c || mem b c) i))) rfl (fun _ _ _ _ => trivial) ?_ ?_⟩
    · rintro i x H2 H' hi rfl ⟨rfl, c, hc, rfl⟩
      have hc := mk_at hc
      have hl : (filt mk (fun c => mem a c || mem b c) i).length < sizeLine := Nat.lt_of_le_of_lt filt_len (by rw [mk_len]; decide)
      have yes : (mem a c || mem b c) = true → upd (upd H D (.lst (filt mk (fun c => mem a c || mem b c) i))) D (.lst (filt mk (fun c => mem a c || mem b c) i ++ [sg c])) = upd H D (.lst (filt mk (fun c => mem a c || mem b c) (i + 1))) := fun h => by
        rw [upd_upd, filt_yes (t := fun c => mem a c || mem b c) hc h]
      refine ⟨rfl, ?_⟩
      refine ⟨_, rfl, _, rfl, c, a, rfl, rfl, _, rfl, ?_⟩
      refine ite_b (fun h1 => ?_) (fun h1 => ?_)
      · have h1 : mem a c = true := h1
        refine iteT ⟨_, rfl, _, upd_same, hl, yes (by rw [h1]; rfl)⟩
      · have h1 : mem a c = false := h1
        refine ⟨_, rfl, _, rfl, c, b, rfl, rfl, _, rfl, ?_⟩
        refine ite_b (fun h2 => ?_) (fun h2 => ?_)
        · have h2 : mem b c = true := h2
          exact ⟨_, rfl, _, upd_same, hl, yes (by rw [h1, h2]; rfl)⟩
        · have h2 : mem b c = false := h2
          show upd H D _ = upd H D _
          rw [filt_no hc (t := fun c => mem a c || mem b c) (by rw [h1, h2]; rfl)]
    · rintro H' rfl
      refine join_ok (mk.filter fun c => mem a c || mem b c) ?_ ?_ ?_
      · exact Nat.le_trans (List.length_filter_le _ _) (by rw [mk_len]; decide)
      · rw [upd_same, filt_end (by rw [mk_len, mk_size]; exact Nat.le_refl _)]
      · exact k _ (same_new hD)
theorem ok_both {f : Addr} {fd : FuncData} (F : Fun K "both" "both" s_both f fd) (T : Top K mg) : FnOk P w K mg base CX0 1 f fd ["one", "other"] spBoth := by
  refine F.ok sc_both (fun vs H Q E h => ?_) (fun cdv A outer s H vs Q E hr h => ?_)
  · obtain ⟨a, b, rfl, _⟩ := h
    rfl
  · obtain ⟨a, b, rfl, hal, k⟩ := h
    have hal2 : a.cps.toList.length ≤ 1000000 := hal
    refine ⟨_, (pss_one (ps_ret (pe_join pe_str (pe_lc (own := [("mark", 2)]) rfl sc_both.nd (pi_str (pv 0)) (blkOk_by (own := [("mark", 2)]) (N := n_both) (sc := defScope s_both) (by decide +kernel)) (fun _ _ _ _ _ => (pg_name (i := 2) sc_both.nd rfl (Or.inl rfl))) (fun _ _ _ _ _ => (pts_one (pt_cmpR op_in_sign (pv 2) (pv 1) rfl))) (fun _ _ _ _ _ => (pv 2)))))), ?_⟩
    refine ⟨⟨_, rfl⟩, _, rfl, a, rfl, fun D hD => lc_it walk_str (fun i H' => H' = upd H D (.lst (filt a.cps.toList (fun c => mem b c) i))) rfl (fun _ _ _ _ => trivial) ?_ ?_⟩
    · rintro i x H2 H' hi rfl ⟨rfl, c, hc, rfl⟩
      have hc := arr_at hc
      have hl : (filt a.cps.toList (fun c => mem b c) i).length < sizeLine := Nat.lt_of_le_of_lt filt_len (Nat.lt_of_le_of_lt hal2 (by decide))
      refine ⟨rfl, _, rfl, _, rfl, c, b, rfl, rfl, _, rfl, ?_⟩
      refine ite_b (fun h2 => ?_) (fun h2 => ?_)
      · have h2 : mem b c = true := h2
        refine ⟨_, rfl, _, upd_same, hl, ?_⟩
        rw [upd_upd, filt_yes (t := fun c => mem b c) hc h2]
        rfl
      · have h2 : mem b c = false := h2
        rw [filt_no hc (t := fun c => mem b c) h2]
    · rintro H' rfl
      refine join_ok (a.cps.toList.filter fun c => mem b c) (Nat.le_trans (List.length_filter_le _ _) hal2) ?_ (k _ (same_new hD))
      rw [upd_same, filt_end (by rw [Array.length_toList]; exact Nat.le_refl _)]
theorem ok_without {f : Addr} {fd : FuncData} (F : Fun K "without" "without" s_without f fd) (T : Top K mg) : FnOk P w K mg base CX0 1 f fd ["one", "other"] spWithout := by
  refine F.ok sc_without (fun vs H Q E h => ?_) (fun cdv A outer s H vs Q E hr h => ?_)
  · obtain ⟨a, b, rfl, _⟩ := h
    rfl
  · obtain ⟨a, b, rfl, hal, k⟩ := h
    have hal2 : a.cps.toList.length ≤ 1000000 := hal
    refine ⟨_, (pss_one (ps_ret (pe_join pe_str (pe_lc (own := [("mark", 2)]) rfl sc_without.nd (pi_str (pv 0)) (blkOk_by (own := [("mark", 2)]) (N := n_without) (sc := defScope s_without) (by decide +kernel)) (fun _ _ _ _ _ => (pg_name (i := 2) sc_without.nd rfl (Or.inl rfl))) (fun _ _ _ _ _ => (pts_one (pt_cmpR op_notIn_sign (pv 2) (pv 1) rfl))) (fun _ _ _ _ _ => (pv 2)))))), ?_⟩
    refine ⟨⟨_, rfl⟩, _, rfl, a, rfl, fun D hD => lc_it walk_str (fun i H' => H' = upd H D (.lst (filt a.cps.toList (fun c => !mem b c) i))) rfl (fun _ _ _ _ => trivial) ?_ ?_⟩
    · rintro i x H2 H' hi rfl ⟨rfl, c, hc, rfl⟩
      have hc := arr_at hc
      have hl : (filt a.cps.toList (fun c => !mem b c) i).length < sizeLine := Nat.lt_of_le_of_lt filt_len (Nat.lt_of_le_of_lt hal2 (by decide))
      refine ⟨rfl, _, rfl, _, rfl, c, b, rfl, rfl, _, rfl, ?_⟩
      refine ite_b (fun h2 => ?_) (fun h2 => ?_)
      · refine ⟨_, rfl, _, upd_same, hl, ?_⟩
        rw [upd_upd, filt_yes (t := fun c => !mem b c) hc h2]
        rfl
      · rw [filt_no hc (t := fun c => !mem b c) h2]
    · rintro H' rfl
      refine join_ok (a.cps.toList.filter fun c => !mem b c) (Nat.le_trans (List.length_filter_le _ _) hal2) ?_ (k _ (same_new hD))
      rw [upd_same, filt_end (by rw [Array.length_toList]; exact Nat.le_refl _)]
theorem ok_exactly {f : Addr} {fd : FuncData} (F : Fun K "exactly_one" "exactly_one" s_exactly_one f fd) (T_either : Cal P w K mg base 1 "either" spEither []) (T_without : Cal P w K mg base 1 "without" spWithout []) :
    FnOk P w K mg base CX0 2 f fd ["one", "other"] spExactly := by
  refine F.ok sc_exactly_one (fun vs H Q E h => ?_) (fun cdv A outer s H vs Q E hr h => ?_)
  · obtain ⟨a, b, rfl, _⟩ := h
    rfl
  · obtain ⟨a, b, rfl, ha, hb, k⟩ := h
    refine ⟨_, (pss_one (ps_ret (pe_c T_either hr (by decide) (by rfl) (pa_cons (pe_c T_without hr (by decide) (by rfl) (pa_cons (pv 0) (pa_cons (pv 1) pa_nil))) (pa_cons (pe_c T_without hr (by decide) (by rfl) (pa_cons (pv 1) (pa_cons (pv 0) pa_nil))) pa_nil))))), ?_⟩
    refine ⟨_, rfl, _, rfl, a, b, rfl, Nat.le_trans ha.len (by decide), fun H1 s1 => ⟨_, rfl, _, rfl, b, a, rfl, Nat.le_trans hb.len (by decide), fun H2 s2 => ⟨_, _, rfl, fun H3 s3 => ?_⟩⟩⟩
    have e := k H3 ((s1.trans s2).trans s3)
    have e2 : (sb fun c => mem (S (a.cps.toList.filter fun c => !mem b c)) c || mem (S (b.cps.toList.filter fun c => !mem a c)) c) = sb fun c => mem a c != mem b c := by
      rw [ha.filt, hb.filt]
      refine sb_ext fun c hc => ?_
      rw [mem_sb, mem_sb, decide_eq_true hc]
      cases mem a c <;> cases mem b c <;> rfl
    show Q (V.str (sb fun c => mem (S (a.cps.toList.filter fun c => !mem b c)) c || mem (S (b.cps.toList.filter fun c => !mem a c)) c)) H3
    rw [e2]
    exact e
theorem ok_are {f : Addr} {fd : FuncData} (F : Fun K "are_contents" "are_contents" s_are_contents f fd) (T : Top K mg) (T_either : Cal P w K mg base 1 "either" spEither []) :
    FnOk P w K mg base CX0 2 f fd ["thing"] (spAre K) := by
  refine F.ok sc_are_contents (fun vs H Q E h => ?_) (fun cdv A outer s H vs Q E hr h => ?_)
  · obtain ⟨x, rfl, _⟩ := h
    rfl
  · obtain ⟨x, rfl, k⟩ := h
    refine ⟨_, (pss_one (ps_ret (pe_and (pe_callB call_isi (by rfl) T.z_isinstance (by decide +kernel) (pa_cons (pv 0) (pa_cons (pe_bltn (v := .ty "str") (u := .type "str") (by rfl) T.z_str (by decide +kernel) rfl) pa_nil))) (pe_one (pe_cmpR op_eq (pv 0) (pe_c T_either hr (by decide) (by rfl) (pa_cons (pv 0) (pa_cons pe_str pa_nil))) (nomark _)))))), ?_⟩
    rcases k with ⟨z, rfl, k⟩ | ⟨t, ht, hk, k⟩
    · refine ⟨_, rfl, _, _, _, _, true, rfl, .ty "str", .base (.str z), kit_ty (by decide +kernel), true, rfl, iteT ?_⟩
      refine ⟨_, rfl, _, rfl, z, _, rfl, fun H1 s1 => ⟨rfl, ?_⟩⟩
      have e : (sb fun c => mem z c || mem "" c) = sb (mem z) := sb_ext fun c _ => by
        have e0 : mem "" c = false := by
          unfold mem
          have e1 : ("" : Str).cps.toList = [] := by decide +kernel
          rw [e1]
          rfl
        rw [e0, Bool.or_false]
      show Q (V.bl (decide (V.str z = V.str (sb fun c => mem z c || mem "" c)))) H1
      rw [e]
      have e2 : decide (V.str z = V.str (sb (mem z))) = decide (z = sb (mem z)) := by
        by_cases c : z = sb (mem z)
        · rw [decide_eq_true c, decide_eq_true (congrArg V.str c)]
        · rw [decide_eq_false c, decide_eq_false fun q => c (V.str.inj q)]
      rw [e2]
      exact k H1 s1
    · refine ⟨_, rfl, _, _, _, _, false, rfl, .ty "str", ht, kit_ty hk, false, rfl, iteF k⟩
theorem ok_checked {f : Addr} {fd : FuncData} (F : Fun K "checked" "checked" s_checked f fd) (T_are_contents : Cal P w K mg base 2 "are_contents" (spAre K) []) :
    FnOk P w K mg base CX0 3 f fd ["contents"] spChecked := by
  refine F.ok sc_checked (fun vs H Q E h => ?_) (fun cdv A outer s H vs Q E hr h => ?_)
  · obtain ⟨x, rfl, _⟩ := h
    rfl
  · obtain ⟨z, rfl, hz, k⟩ := h
    refine ⟨_, (pss_cons (ps_if (pt_not (pt_val (pe_c T_are_contents hr (by decide) (by rfl) (pa_cons (pv 0) pa_nil))))
(pss_one ps_never)
pss_nil)
(pss_one (ps_ret (pv 0)))), ?_⟩
    refine ⟨_, rfl, _, rfl, .inl ⟨z, rfl, fun H1 s1 => ⟨_, rfl, ?_⟩⟩⟩
    rw [decide_eq_true hz.eq]
    exact ⟨_, rfl, k H1 s1⟩
theorem ok_init {f C : Addr} {fd : FuncData} (F : FunD K "__init__" "Box.__init__" (defArgs s_Box__init) (defBody s_Box__init) (defScope s_Box__init) [.str ""] [] f fd) (B : BoxC K mg C) (T_checked : Cal P w K mg base 3 "checked" spChecked []) :
    FnOk P w K mg base CX0 4 f fd ["self", "contents"] (spInit C) := by
  refine F.ok sc_Box__init (fun vs H Q E h => ?_) (fun cdv A outer s H vs Q E hr h => ?_)
  · obtain ⟨a, dx, z, rfl, _⟩ := h
    rfl
  · obtain ⟨a, dx, z, rfl, ha, hz, k⟩ := h
    refine ⟨_, PSs.nox (pss_one (ps_fld (pv 0) (pe_c T_checked hr (by decide) (by rfl) (pa_cons (pv 1) pa_nil)) rfl)), ?_⟩
    refine ⟨_, rfl, z, rfl, hz, fun H1 s1 => ⟨_, rfl, a, C, dx, [], rfl, s1 _ _ ha, B.cl, B.nC, by decide, ?_⟩⟩
    refine k _ (fun b o n e => ?_) ⟨dx, upd_same⟩
    rw [upd_ne n]
    exact s1 _ _ e
theorem ok_ior {f C : Addr} {fd : FuncData} (F : Fun K "__ior__" "Box.__ior__" s_Box__ior f fd) (B : BoxC K mg C) (T_either : Cal P w K mg base 1 "either" spEither []) :
    FnOk P w K mg base CX0 4 f fd ["self", "other"] (spISign C or) := by
  refine F.ok sc_Box__ior (fun vs H Q E h => ?_) (fun cdv A outer s H vs Q E hr h => ?_)
  · obtain ⟨a, b, y, z, rfl, _⟩ := h
    rfl
  · obtain ⟨a, b, y, z, rfl, ⟨dx, ha⟩, ⟨dy, hb⟩, hy, hz, k⟩ := h
    refine ⟨_, (pss_cons (ps_fld (pv 0) (pe_c T_either hr (by decide) (by rfl) (pa_cons (pe_fld (pv 0) rfl) (pa_cons (pe_fld (pv 1) rfl) pa_nil))) rfl)
(pss_one (ps_ret (pv 0)))), ?_⟩
    refine ⟨_, rfl, a, C, dx, _, _, rfl, ha, B.cl, B.nC, boxF_lk y, _, rfl, b, C, dy, _, _, rfl, hb, B.cl, B.nC, boxF_lk z, y, z, rfl, fun H1 s1 => ?_⟩
    refine ⟨_, rfl, a, C, dx, _, rfl, s1 _ _ ha, B.cl, B.nC, by show 1 < 1000; decide, _, rfl, ?_⟩
    rw [boxF_put]
    refine k _ (fun b o n e => ?_) ⟨dx, ?_⟩
    · rw [upd_ne n]
      exact s1 _ _ e
    · exact upd_same
theorem ok_iand {f C : Addr} {fd : FuncData} (F : Fun K "__iand__" "Box.__iand__" s_Box__iand f fd) (B : BoxC K mg C) (T_both : Cal P w K mg base 1 "both" spBoth []) :
    FnOk P w K mg base CX0 4 f fd ["self", "other"] (spISign C and) := by
  refine F.ok sc_Box__iand (fun vs H Q E h => ?_) (fun cdv A outer s H vs Q E hr h => ?_)
  · obtain ⟨a, b, y, z, rfl, _⟩ := h
    rfl
  · obtain ⟨a, b, y, z, rfl, ⟨dx, ha⟩, ⟨dy, hb⟩, hy, hz, k⟩ := h
    refine ⟨_, (pss_cons (ps_fld (pv 0) (pe_c T_both hr (by decide) (by rfl) (pa_cons (pe_fld (pv 0) rfl) (pa_cons (pe_fld (pv 1) rfl) pa_nil))) rfl)
(pss_one (ps_ret (pv 0)))), ?_⟩
    refine ⟨_, rfl, a, C, dx, _, _, rfl, ha, B.cl, B.nC, boxF_lk y, _, rfl, b, C, dy, _, _, rfl, hb, B.cl, B.nC, boxF_lk z, y, z, rfl, Nat.le_trans hy.len (by decide), fun H1 s1 => ?_⟩
    refine ⟨_, rfl, a, C, dx, _, rfl, s1 _ _ ha, B.cl, B.nC, by show 1 < 1000; decide, _, rfl, ?_⟩
    rw [boxF_put]
    refine k _ (fun b o n e => ?_) ⟨dx, ?_⟩
    · rw [upd_ne n]
      exact s1 _ _ e
    · rw [hy.filt]
      exact upd_same
theorem ok_isub {f C : Addr} {fd : FuncData} (F : Fun K "__isub__" "Box.__isub__" s_Box__isub f fd) (B : BoxC K mg C) (T_without : Cal P w K mg base 1 "without" spWithout []) :
    FnOk P w K mg base CX0 4 f fd ["self", "other"] (spISign C (fun p q => p && !q)) := by
  refine F.ok sc_Box__isub (fun vs H Q E h => ?_) (fun cdv A outer s H vs Q E hr h => ?_)
  · obtain ⟨a, b, y, z, rfl, _⟩ := h
    rfl
  · obtain ⟨a, b, y, z, rfl, ⟨dx, ha⟩, ⟨dy, hb⟩, hy, hz, k⟩ := h
    refine ⟨_, (pss_cons (ps_fld (pv 0) (pe_c T_without hr (by decide) (by rfl) (pa_cons (pe_fld (pv 0) rfl) (pa_cons (pe_fld (pv 1) rfl) pa_nil))) rfl)
(pss_one (ps_ret (pv 0)))), ?_⟩
    refine ⟨_, rfl, a, C, dx, _, _, rfl, ha, B.cl, B.nC, boxF_lk y, _, rfl, b, C, dy, _, _, rfl, hb, B.cl, B.nC, boxF_lk z, y, z, rfl, Nat.le_trans hy.len (by decide), fun H1 s1 => ?_⟩
    refine ⟨_, rfl, a, C, dx, _, rfl, s1 _ _ ha, B.cl, B.nC, by show 1 < 1000; decide, _, rfl, ?_⟩
    rw [boxF_put]
    refine k _ (fun b o n e => ?_) ⟨dx, ?_⟩
    · rw [upd_ne n]
      exact s1 _ _ e
    · rw [hy.filt]
      exact upd_same
theorem ok_ixor {f C : Addr} {fd : FuncData} (F : Fun K "__ixor__" "Box.__ixor__" s_Box__ixor f fd) (B : BoxC K mg C) (T_exactly_one : Cal P w K mg base 2 "exactly_one" spExactly []) :
    FnOk P w K mg base CX0 4 f fd ["self", "other"] (spISign C (fun p q => p != q)) := by
  refine F.ok sc_Box__ixor (fun vs H Q E h => ?_) (fun cdv A outer s H vs Q E hr h => ?_)
  · obtain ⟨a, b, y, z, rfl, _⟩ := h
    rfl
  · obtain ⟨a, b, y, z, rfl, ⟨dx, ha⟩, ⟨dy, hb⟩, hy, hz, k⟩ := h
    refine ⟨_, (pss_cons (ps_fld (pv 0) (pe_c T_exactly_one hr (by decide) (by rfl) (pa_cons (pe_fld (pv 0) rfl) (pa_cons (pe_fld (pv 1) rfl) pa_nil))) rfl)
(pss_one (ps_ret (pv 0)))), ?_⟩
    refine ⟨_, rfl, a, C, dx, _, _, rfl, ha, B.cl, B.nC, boxF_lk y, _, rfl, b, C, dy, _, _, rfl, hb, B.cl, B.nC, boxF_lk z, y, z, rfl, hy, hz, fun H1 s1 => ?_⟩
    refine ⟨_, rfl, a, C, dx, _, rfl, s1 _ _ ha, B.cl, B.nC, by show 1 < 1000; decide, _, rfl, ?_⟩
    rw [boxF_put]
    refine k _ (fun b o n e => ?_) ⟨dx, ?_⟩
    · rw [upd_ne n]
      exact s1 _ _ e
    · exact upd_same
theorem ok_due {f : Addr} {fd : FuncData} (F : Fun K "_law_due" "_law_due" s_due f fd) (T : Top K mg) : FnOk P w K mg base CX0 1 f fd ["_law_sign", "_law_one", "_law_other"] spDue := by
  refine F.ok sc_due (fun vs H Q E h => ?_) (fun cdv A outer s H vs Q E hr h => ?_)
  · obtain ⟨s, a, b, rfl, _⟩ := h
    rfl
  · obtain ⟨s, a, b, rfl, hs, k⟩ := h
    refine ⟨_, (pss_cons (ps_set (i := 3) sc_due.nd rfl (Or.inl rfl) pe_str)
(pss_cons (ps_for PassesOwn.never rfl (pi_str pe_str) (pg_name (i := 4) sc_due.nd rfl (Or.inl rfl))
(pss_cons (ps_set (i := 5) sc_due.nd rfl (Or.inl rfl) (pe_op op_add (pe_callTy call_int1 (by rfl) T.z_int (by decide +kernel) (pa_cons (pe_cmpR op_in_sign (pv 4) (pv 1) rfl) pa_nil)) (pe_callTy call_int1 (by rfl) T.z_int (by decide +kernel) (pa_cons (pe_cmpR op_in_sign (pv 4) (pv 2) rfl) pa_nil))))
(pss_cons (ps_if (PW.pt (pw_or (PW.pt (pw_and (pt_cmpR op_eq (pv 0) pe_str (nomark _)) (pw_and1 (pt_cmpR op_gt (pv 5) pe_int (nomark _))))) (pw_or (PW.pt (pw_and (pt_cmpR op_eq (pv 0) pe_str (nomark _)) (pw_and1 (pt_cmpR op_eq (pv 5) pe_int (nomark _))))) (pw_or1 (PW.pt (pw_and (pt_cmpR op_eq (pv 0) pe_str (nomark _)) (pw_and1 (pt_cmpR op_eq (pv 5) pe_int (nomark _)))))))))
(pss_one (ps_set (i := 3) sc_due.nd rfl (Or.inl rfl) (pe_op op_add_str (pv 3) (pv 4))))
pss_nil)
(pss_one (ps_if (PW.pt (pw_and (pt_cmpR op_eq (pv 0) pe_str (nomark _)) (pw_and (pt_cmpR op_in_sign (pv 4) (pv 1) rfl) (pw_and1 (pt_cmpR op_notIn_sign (pv 4) (pv 2) rfl)))))
(pss_one (ps_set (i := 3) sc_due.nd rfl (Or.inl rfl) (pe_op op_add_str (pv 3) (pv 4))))
pss_nil)))))
(pss_one (ps_ret (pv 3))))), ?_⟩
    refine ⟨_, rfl, for_it walk_str (fun i σ H' => ∃ v m, σ = [some (.str (S [s])), some (.str a), some (.str b), some (.str (S ((mk.take i).filter fun c => gs s (mem a c) (mem b c)))), v, m] ∧ H' = H)
      ⟨none, none, rfl, rfl⟩ (fun _ _ _ _ _ => trivial) ?_ ?_⟩
    · rintro i x σ H2 H' hi ⟨v, m, rfl, rfl⟩ ⟨rfl, c, hc, rfl⟩
      have hc := mk_at hc
      obtain ⟨e1, e2⟩ := due_bool hs (mem a c) (mem b c)
      have st : (mk.take (i + 1)).filter (fun c => gs s (mem a c) (mem b c)) = (mk.take i).filter (fun c => gs s (mem a c) (mem b c)) ++ (if gs s (mem a c) (mem b c) then [c] else []) := by
        rw [List.take_add_one, hc]
        show (mk.take i ++ [c]).filter _ = _
        rw [List.filter_append]
        cases hg : gs s (mem a c) (mem b c) with
        | true => rw [List.filter_cons_of_pos (p := fun c => gs s (mem a c) (mem b c)) hg, if_pos rfl, List.filter_nil]
        | false => rw [List.filter_cons_of_neg (p := fun c => gs s (mem a c) (mem b c)) (by rw [hg]; exact Bool.false_ne_true), if_neg Bool.false_ne_true, List.filter_nil]
      have hm : ((mk.take i).filter fun c => gs s (mem a c) (mem b c)).length ≤ 52 := Nat.le_trans (List.length_filter_le _ _) (by rw [List.length_take, mk_len]; omega)
      refine ⟨_, rfl, _, rfl, c, a, rfl, rfl, .inr ⟨_, rfl, _, rfl, _, rfl, c, b, rfl, rfl, .inr ⟨_, rfl, _, _, rfl, rfl, ?_⟩⟩⟩
      dsimp only [gName]
      refine st_seq ?_
      refine st_if (b := gs s (mem a c) (mem b c) && !decide (s = 45)) ?_ ?_
      · rw [← e1]
        refine ans_orB (ans_and2 ?_ ?_) (ans_orB (ans_and2 ?_ ?_) (ans_and2 ?_ ?_))
        · exact ans_eq (val_var rfl) val_c rfl rfl
        · exact ans_cmp (val_var rfl) val_c fun Q q => ⟨_, _, rfl, rfl, q⟩
        · exact ans_eq (val_var rfl) val_c rfl rfl
        · exact ans_eq (val_var rfl) val_c rfl rfl
        · exact ans_eq (val_var rfl) val_c rfl rfl
        · exact ans_eq (val_var rfl) val_c rfl rfl
      have fin : ∀ (σ' : L2.St), σ' = [some (.str (S [s])), some (.str a), some (.str b), some (.str (S ((mk.take (i + 1)).filter fun c => gs s (mem a c) (mem b c)))), some (sg c), some (.int ((if mem a c then 1 else 0) + (if mem b c then 1 else 0)))] →
          ∃ v m, σ' = [some (.str (S [s])), some (.str a), some (.str b), some (.str (S ((mk.take (i + 1)).filter fun c => gs s (mem a c) (mem b c)))), v, m] ∧ H' = H' := fun _ e => ⟨_, _, e, rfl⟩
      have cat : ∀ l : List Nat, S l ++ (⟨#[c]⟩ : Str) = S (l ++ [c]) := fun l => SX.S_cat l [c]
      have size : (S ((mk.take i).filter fun c => gs s (mem a c) (mem b c))).length + (⟨#[c]⟩ : Str).length ≤ sizeLine := by
        rw [SX.S_len]
        exact Nat.le_trans (Nat.add_le_add hm (Nat.le_refl 1)) (by decide)
      refine ite_b (fun h1 => ?_) (fun h1 => ?_)
      · refine ⟨_, rfl, _, rfl, _, _, rfl, rfl, size, ?_⟩
        dsimp only [gName, tNext]
        refine st_if (b := gs s (mem a c) (mem b c) && decide (s = 45)) ?_ ?_
        · rw [← e2]
          refine ans_and2 ?_ (ans_and2 ?_ ?_)
          · exact ans_eq (val_var rfl) val_c rfl rfl
          · exact ans_cmp (val_var rfl) (val_var rfl) fun Q q => ⟨c, a, rfl, rfl, q⟩
          · exact ans_cmp (val_var rfl) (val_var rfl) fun Q q => ⟨c, b, rfl, rfl, q⟩
        have g1 : gs s (mem a c) (mem b c) = true := by
          cases h : gs s (mem a c) (mem b c) <;> rw [h] at h1 <;> simp at h1 ⊢
        have g2 : decide (s = 45) = false := by
          cases h : decide (s = 45) <;> rw [g1, h] at h1 <;> simp at h1 ⊢
        rw [g1, g2]
        refine iteF (fin _ ?_)
        rw [st, g1, if_pos rfl, ← cat]
        rfl
      · dsimp only [gName, tNext]
        refine st_if (b := gs s (mem a c) (mem b c) && decide (s = 45)) ?_ ?_
        · rw [← e2]
          refine ans_and2 ?_ (ans_and2 ?_ ?_)
          · exact ans_eq (val_var rfl) val_c rfl rfl
          · exact ans_cmp (val_var rfl) (val_var rfl) fun Q q => ⟨c, a, rfl, rfl, q⟩
          · exact ans_cmp (val_var rfl) (val_var rfl) fun Q q => ⟨c, b, rfl, rfl, q⟩
        refine ite_b (fun h2 => ?_) (fun h2 => ?_)
        · refine ⟨_, rfl, _, rfl, _, _, rfl, rfl, size, fin _ ?_⟩
          have g1 : gs s (mem a c) (mem b c) = true := by
            cases h : gs s (mem a c) (mem b c) <;> rw [h] at h2 <;> simp at h2 ⊢
          rw [st, g1, if_pos rfl, ← cat]
          rfl
        · refine fin _ ?_
          have g1 : gs s (mem a c) (mem b c) = false := by
            cases h : gs s (mem a c) (mem b c) <;> cases h3 : decide (s = 45) <;> rw [h, h3] at h1 h2 <;> simp at h1 h2 ⊢
          rw [st, g1, if_neg Bool.false_ne_true, List.append_nil]
          rfl
    · rintro σ H' ⟨v, m, rfl, rfl⟩
      refine ⟨_, rfl, ?_⟩
      rw [List.take_of_length_le (by rw [mk_len, mk_size]; exact Nat.le_refl _)]
      exact k
theorem ok_changed {f C : Addr} {fd : FuncData} (F : Fun K "_law_changed" "_law_changed" s_changed f fd)
    (T_ior : ISgn P w K mg base 4 C .BitOr (spISign C or)) (T_iand : ISgn P w K mg base 4 C .BitAnd (spISign C and)) (T_isub : ISgn P w K mg base 4 C .Sub (spISign C fun p q => p && !q)) (T_ixor : ISgn P w K mg base 4 C .BitXor (spISign C fun p q => p != q)) :
    FnOk P w K mg base CX0 5 f fd ["_law_sign", "_law_box", "_law_other"] (spChanged C) := by
  refine F.ok sc_changed (fun vs H Q E h => ?_) (fun cdv A outer s H vs Q E hr h => ?_)
  · obtain ⟨s, a, b, y, z, rfl, _⟩ := h
    rfl
  · obtain ⟨s, a, b, y, z, rfl, hs, ha, hb, hy, hz, k⟩ := h
    refine ⟨_, (pss_cons (ps_if (pt_cmpR op_eq (pv 0) pe_str (nomark _))
(pss_one (ps_aug (i := 1) sc_changed.nd rfl (Or.inl rfl) (pv 2) (ip_sgn T_ior hr (by decide))))
(pss_one (ps_if (pt_cmpR op_eq (pv 0) pe_str (nomark _))
(pss_one (ps_aug (i := 1) sc_changed.nd rfl (Or.inl rfl) (pv 2) (ip_sgn T_iand hr (by decide))))
(pss_one (ps_if (pt_cmpR op_eq (pv 0) pe_str (nomark _))
(pss_one (ps_aug (i := 1) sc_changed.nd rfl (Or.inl rfl) (pv 2) (ip_sgn T_isub hr (by decide))))
(pss_one (ps_aug (i := 1) sc_changed.nd rfl (Or.inl rfl) (pv 2) (ip_sgn T_ixor hr (by decide)))))))))
(pss_one (ps_ret (pv 1)))), ?_⟩
    obtain ⟨dx, ha'⟩ := id ha
    obtain ⟨dy, hb'⟩ := id hb
    have fin : ∀ (g : Bool → Bool → Bool) (Q' : VK), (∀ p q, gs s p q = g p q) → (∀ H', Bar a H H' → BoxAt C H' a (sb fun m => gs s (mem y m) (mem z m)) → Q' (.ref a) H') → rSign C (spISign C g) E0 (.ref a) (.ref b) H Q' := fun g Q' e q =>
      ⟨a, b, dx, _, dy, _, rfl, rfl, ha', hb', a, b, y, z, rfl, ha, hb, hy, hz, fun H' b1 hB => ⟨⟨a, rfl⟩, q H' b1 (by
        have e2 : (fun m => gs s (mem y m) (mem z m)) = fun m => g (mem y m) (mem z m) := funext fun m => e _ _
        rw [e2]
        exact hB)⟩⟩
    refine ⟨_, rfl, rfl, _, rfl, ite_b (fun h1 => ?_) (fun h1 => ?_)⟩
    · have e : s = 124 := by rcases hs with rfl | rfl | rfl | rfl <;> first | rfl | (exact absurd h1 (by decide +kernel))
      exact ⟨_, rfl, _, rfl, fin or _ (by subst e; decide) fun H' b1 hB => ⟨_, rfl, k H' b1 hB⟩⟩
    refine ⟨_, rfl, rfl, _, rfl, ite_b (fun h2 => ?_) (fun h2 => ?_)⟩
    · have e : s = 38 := by rcases hs with rfl | rfl | rfl | rfl <;> first | rfl | (exact absurd h2 (by decide +kernel))
      exact ⟨_, rfl, _, rfl, fin and _ (by subst e; decide) fun H' b1 hB => ⟨_, rfl, k H' b1 hB⟩⟩
    refine ⟨_, rfl, rfl, _, rfl, ite_b (fun h3 => ?_) (fun h3 => ?_)⟩
    · have e : s = 45 := by rcases hs with rfl | rfl | rfl | rfl <;> first | rfl | (exact absurd h3 (by decide +kernel))
      exact ⟨_, rfl, _, rfl, fin (fun p q => p && !q) _ (by subst e; decide) fun H' b1 hB => ⟨_, rfl, k H' b1 hB⟩⟩
    have e : s = 94 := by rcases hs with rfl | rfl | rfl | rfl <;> first | rfl | (exact absurd h1 (by decide +kernel)) | (exact absurd h2 (by decide +kernel)) | (exact absurd h3 (by decide +kernel))
    exact ⟨_, rfl, _, rfl, fin (fun p q => p != q) _ (by subst e; decide) fun H' b1 hB => ⟨_, rfl, k H' b1 hB⟩⟩
theorem ok_change_item {f C : Addr} {fd : FuncData} (F : Fun K "_law_change_item" "_law_change_item" s_change_item f fd)
    (T_ior : ISgn P w K mg base 4 C .BitOr (spISign C or)) (T_iand : ISgn P w K mg base 4 C .BitAnd (spISign C and)) (T_isub : ISgn P w K mg base 4 C .Sub (spISign C fun p q => p && !q)) (T_ixor : ISgn P w K mg base 4 C .BitXor (spISign C fun p q => p != q)) :
    FnOk P w K mg base CX0 5 f fd ["_law_sign", "_law_rows", "_law_k", "_law_other"] (spChangeItem C) := by
  refine F.ok sc_change_item (fun vs H Q E h => ?_) (fun cdv A outer s H vs Q E hr h => ?_)
  · obtain ⟨s, r, a, b, k, xs, y, z, rfl, _⟩ := h
    rfl
  · obtain ⟨s, r, a, b, j, xs, y, z, rfl, hs, hl, hx, ha, hb, hy, hz, k⟩ := h
    refine ⟨_, (pss_one (ps_if (pt_cmpR op_eq (pv 0) pe_str (nomark _))
(pss_one (ps_augS (pv 1) (pv 2) get_list (pv 3) (ip_sgn T_ior hr (by decide)) set_list))
(pss_one (ps_if (pt_cmpR op_eq (pv 0) pe_str (nomark _))
(pss_one (ps_augS (pv 1) (pv 2) get_list (pv 3) (ip_sgn T_iand hr (by decide)) set_list))
(pss_one (ps_if (pt_cmpR op_eq (pv 0) pe_str (nomark _))
(pss_one (ps_augS (pv 1) (pv 2) get_list (pv 3) (ip_sgn T_isub hr (by decide)) set_list))
(pss_one (ps_augS (pv 1) (pv 2) get_list (pv 3) (ip_sgn T_ixor hr (by decide)) set_list)))))))), ?_⟩
    obtain ⟨dx, ha'⟩ := id ha
    obtain ⟨dy, hb'⟩ := id hb
    have nra : r ≠ a := ne_of hl ha' (by intro e; cases e)
    have hj : j < xs.length := (List.getElem?_eq_some_iff.mp hx).1
    have fin : ∀ (g : Bool → Bool → Bool) (Q' : VK), (∀ p q, gs s p q = g p q) → (∀ H', Bar a H H' → BoxAt C H' a (sb fun m => gs s (mem y m) (mem z m)) → Q' (.ref a) H') → rSign C (spISign C g) E0 (.ref a) (.ref b) H Q' := fun g Q' e q =>
      ⟨a, b, dx, _, dy, _, rfl, rfl, ha', hb', a, b, y, z, rfl, ha, hb, hy, hz, fun H' b1 hB => ⟨⟨a, rfl⟩, q H' b1 (by
        have e2 : (fun m => gs s (mem y m) (mem z m)) = fun m => g (mem y m) (mem z m) := funext fun m => e _ _
        rw [e2]
        exact hB)⟩⟩
    have sto : ∀ H', Bar a H H' → BoxAt C H' a (sb fun m => gs s (mem y m) (mem z m)) → rSetL (.ref r) (.int (j : Int)) (.ref a) H' fun H6 => Q .non H6 := fun H' b1 hB => by
      refine ⟨r, xs, j, j, rfl, rfl, b1 _ _ nra hl, ixN_nat hj, ?_⟩
      rw [set_same hx]
      refine k _ (fun x u n e => ?_) (hB.bar bar_upd nra.symm)
      by_cases c : x = r
      · subst c
        rw [upd_same, ← hl, e]
      · rw [upd_ne c]
        exact b1 _ _ n e
    refine ⟨_, rfl, rfl, _, rfl, ite_b (fun h1 => ?_) (fun h1 => ?_)⟩
    · have e : s = 124 := by rcases hs with rfl | rfl | rfl | rfl <;> first | rfl | (exact absurd h1 (by decide +kernel))
      exact ⟨_, rfl, _, rfl, r, xs, j, _, rfl, rfl, SqL.of hl, hx, _, rfl, fin or _ (by subst e; decide) sto⟩
    refine ⟨_, rfl, rfl, _, rfl, ite_b (fun h2 => ?_) (fun h2 => ?_)⟩
    · have e : s = 38 := by rcases hs with rfl | rfl | rfl | rfl <;> first | rfl | (exact absurd h2 (by decide +kernel))
      exact ⟨_, rfl, _, rfl, r, xs, j, _, rfl, rfl, SqL.of hl, hx, _, rfl, fin and _ (by subst e; decide) sto⟩
    refine ⟨_, rfl, rfl, _, rfl, ite_b (fun h3 => ?_) (fun h3 => ?_)⟩
    · have e : s = 45 := by rcases hs with rfl | rfl | rfl | rfl <;> first | rfl | (exact absurd h3 (by decide +kernel))
      exact ⟨_, rfl, _, rfl, r, xs, j, _, rfl, rfl, SqL.of hl, hx, _, rfl, fin (fun p q => p && !q) _ (by subst e; decide) sto⟩
    have e : s = 94 := by rcases hs with rfl | rfl | rfl | rfl <;> first | rfl | (exact absurd h1 (by decide +kernel)) | (exact absurd h2 (by decide +kernel)) | (exact absurd h3 (by decide +kernel))
    exact ⟨_, rfl, _, rfl, r, xs, j, _, rfl, rfl, SqL.of hl, hx, _, rfl, fin (fun p q => p != q) _ (by subst e; decide) sto⟩
theorem ok_law {f C : Addr} {fd : FuncData} (F : Fun K "law" "law" s_law f fd) (T : Top K mg) (B : BoxC K mg C)
    (T_bag : Cal P w K mg base 1 "_law_bag" (spBag K) []) (T_take : Cal P w K mg base 1 "_law_take" spTake []) (T_of : Cal P w K mg base 2 "_law_of" spOf []) (T_contents : Cal P w K mg base 3 "_law_contents" spContents [])
    (T_Box : Mak P w K mg base 4 "Box" C (spInit C) []) (T_due : Cal P w K mg base 1 "_law_due" spDue []) (T_changed : Cal P w K mg base 5 "_law_changed" (spChanged C) []) (T_change_item : Cal P w K mg base 5 "_law_change_item" (spChangeItem C) []) :
    FnOk P w K mg base CX0 8 f fd ["_law_script"] (spLaw K) := by
  refine F.ok sc_law (fun vs H Q E h => ?_) (fun cdv A outer s H vs Q E hr h => ?_)
  · obtain ⟨a, ns, rfl, _⟩ := h
    rfl
  · obtain ⟨a, ns, rfl, hS, hlen, k⟩ := h
    refine ⟨_, (pss_cons (ps_for PassesOwn.never rfl (pi_range1 rfl T.z_range (pa_cons (pe_callB (call_max2 rfl) (by rfl) T.z_max (by decide +kernel) (pa_cons pe_int (pa_cons (pe_callB (call_min2 rfl) (by rfl) T.z_min (by decide +kernel) (pa_cons pe_int (pa_cons (pe_callB call_len_seq (by rfl) T.z_len (by decide +kernel) (pa_cons (pv 0) pa_nil)) pa_nil))) pa_nil))) pa_nil)) (pg_name (i := 1) sc_law.nd rfl (Or.inl rfl))
(pss_cons (ps_set (i := 2) sc_law.nd rfl (Or.inr rfl) (pe_c T_bag hr (by decide) (by rfl) (pa_cons (pv 0) (pa_cons (pv 1) pa_nil))))
(pss_cons (ps_setLc (i := 3) (own := [("_law_k", 10)]) rfl sc_law.nd rfl rfl (sw_true rfl rfl rfl (by decide +kernel)) (pi_range1 rfl T.z_range (pa_cons pe_int pa_nil)) (blkOk_by (own := [("_law_k", 10)]) (N := n_law) (sc := defScope s_law) (by decide +kernel)) (fun _ _ _ _ _ => (pg_name (i := 10) sc_law.nd rfl (Or.inl rfl))) (fun _ _ _ _ _ => pts_nil) (fun _ _ _ _ _ => (pe_c T_contents hr (by decide) (by rfl) (pa_cons (pv 2) pa_nil))))
(pss_cons (ps_setLc (i := 4) (own := [("_law_text", 11)]) rfl sc_law.nd rfl rfl (sw_true rfl rfl rfl (by decide +kernel)) (pi_list (pv 3)) (blkOk_by (own := [("_law_text", 11)]) (N := n_law) (sc := defScope s_law) (by decide +kernel)) (fun _ _ _ _ _ => (pg_name (i := 11) sc_law.nd rfl (Or.inl rfl))) (fun _ _ _ _ _ => pts_nil) (fun _ _ _ _ _ => (pe_mk T_Box hr (by decide) (by rfl) (pa_cons (pv 11) pa_nil))))
(pss_one (ps_for PassesOwn.never rfl (pi_range1 rfl T.z_range (pa_cons (pe_op op_add pe_int (pe_c T_take hr (by decide) (by rfl) (pa_cons (pv 2) (pa_cons pe_int pa_nil)))) pa_nil)) (pg_name (i := 5) sc_law.nd rfl (Or.inl rfl))
(pss_cons (ps_par3 (i := 6) (j := 7) (l := 8) rfl sc_law.nd rfl rfl rfl (by decide) (by decide) (by decide) rfl rfl rfl (by exact (pa_cons (pe_c T_take hr (by decide) (by rfl) (pa_cons (pv 2) (pa_cons pe_int pa_nil))) (pa_cons (pe_c T_take hr (by decide) (by rfl) (pa_cons (pv 2) (pa_cons pe_int pa_nil))) (pa_cons (pe_c T_of hr (by decide) (by rfl) (pa_cons (pv 2) (pa_cons (pe_lst (pa_cons pe_str (pa_cons pe_str (pa_cons pe_str (pa_cons pe_str pa_nil))))) pa_nil))) pa_nil)))) rfl)
(pss_cons (ps_asg (pe_c T_due hr (by decide) (by rfl) (pa_cons (pv 8) (pa_cons (pe_ix ix_list (pv 3) (pv 6) (fun _ _ => rfl)) (pa_cons (pe_ix ix_list (pv 3) (pv 7) (fun _ _ => rfl)) pa_nil)))) (pg_sub (pv 3) (pv 6) set_list))
(pss_cons (ps_if (pt_cmpR op_eq (pe_c T_take hr (by decide) (by rfl) (pa_cons (pv 2) (pa_cons pe_int pa_nil))) pe_int (nomark _))
(pss_one (ps_if (pt_cmpR (op_neO B.eq (hu_of hr)) (pe_c T_changed hr (by decide) (by rfl) (pa_cons (pv 8) (pa_cons (pe_ix ix_list (pv 4) (pv 6) (fun _ _ => rfl)) (pa_cons (pe_ix ix_list (pv 4) (pv 7) (fun _ _ => rfl)) pa_nil)))) (pe_ix ix_list (pv 4) (pv 6) (fun _ _ => rfl)) (nomark _))
(pss_one (ps_ret pe_bl))
pss_nil))
(pss_cons (ps_set (i := 9) sc_law.nd rfl (Or.inl rfl) (pe_lst (pa_cons (pe_ix ix_list (pv 4) pe_int (fun _ _ => rfl)) (pa_cons (pe_ix ix_list (pv 4) pe_int (fun _ _ => rfl)) (pa_cons (pe_ix ix_list (pv 4) (pv 6) (fun _ _ => rfl)) pa_nil)))))
(pss_cons (ps_expr (pe_c T_change_item hr (by decide) (by rfl) (pa_cons (pv 8) (pa_cons (pv 9) (pa_cons pe_int (pa_cons (pe_ix ix_list (pv 4) (pv 7) (fun _ _ => rfl)) pa_nil))))))
(pss_one (ps_if (PW.pt (pw_or (pt_cmpR (op_neO B.eq (hu_of hr)) (pe_ix ix_list (pv 9) pe_int (fun _ _ => rfl)) (pe_ix ix_list (pv 4) (pv 6) (fun _ _ => rfl)) (nomark _)) (pw_or (pt_cmpR (op_neO B.eq (hu_of hr)) (pe_ix ix_list (pv 9) pe_int (fun _ _ => rfl)) (pe_ix ix_list (pv 4) pe_int (fun _ _ => rfl)) (nomark _)) (pw_or1 (pt_cmpR (op_neO B.eq (hu_of hr)) (pe_ix ix_list (pv 9) pe_int (fun _ _ => rfl)) (pe_ix ix_list (pv 4) pe_int (fun _ _ => rfl)) (nomark _))))))
(pss_one (ps_ret pe_bl))
pss_nil)))))
(pss_one (ps_for PassesOwn.never rfl (pi_range1 rfl T.z_range (pa_cons pe_int pa_nil)) (pg_name (i := 10) sc_law.nd rfl (Or.inl rfl))
(pss_one (ps_if (PW.pt (pw_or (pt_not (pt_val (pe_callB call_isi (by rfl) T.z_isinstance (by decide +kernel) (pa_cons (pe_fld (pe_ix ix_list (pv 4) (pv 10) (fun _ _ => rfl)) rfl) (pa_cons (pe_bltn (v := .ty "str") (u := .type "str") (by rfl) T.z_str (by decide +kernel) rfl) pa_nil))))) (pw_or1 (pt_cmpR op_ne (pe_fld (pe_ix ix_list (pv 4) (pv 10) (fun _ _ => rfl)) rfl) (pe_ix ix_list (pv 3) (pv 10) (fun _ _ => rfl)) (nomark _)))))
(pss_one (ps_ret pe_bl))
pss_nil)))))))))))))
(pss_one (ps_ret pe_bl))), ?_⟩
    refine ⟨_, rfl, a, _, rfl, .inl hS, _, _, rfl, _, _, rfl, _, rfl, ?_, ?_, for_it walk_range (fun i σ H' => ∃ v1 v2 v3 v4 v5 v6 v7 v8 v9 v10 v11, σ = [some (.ref a), v1, v2, v3, v4, v5, v6, v7, v8, v9, v10, v11] ∧ Same H H')
      ⟨none, none, none, none, none, none, none, none, none, none, none, rfl, Same.refl H⟩ (fun _ _ _ _ _ => trivial) ?_ ?_⟩
    · split <;> split <;> omega
    · split <;> split <;> omega
    · rintro i x σ H1 H1' hi ⟨v1, v2, v3, v4, v5, v6, v7, v8, v9, v10, v11, rfl, s1⟩ ⟨rfl, rfl⟩
      have hi2 : i < 63 := by
        revert hi
        split <;> split <;> omega
      refine ⟨_, rfl, _, rfl, a, ns, i, by show [V.ref a, V.int (0 + (i : Int))] = _; rw [Int.zero_add], s1.seq hS, hlen, hi2, fun H2 p q s2 np nq hB => ?_⟩
      have nHp : H p = none := s1.free np
      have s12 := s1.trans s2
      -- the three texts
      refine ⟨_, rfl, by decide, by decide, fun tl htl => lc_it walk_range (fun j H' => ∃ zs : List Str, zs.length = j ∧ (∀ z ∈ zs, IsC z) ∧ H' tl = some (.lst (zs.map V.str)) ∧ BagAt H' p q ∧ Same H H') ?_ (fun _ _ _ _ => trivial) ?_ ?_⟩
      · exact ⟨[], rfl, fun _ h => (List.not_mem_nil h).elim, upd_same, hB.same (same_new htl), s12.trans (same_new htl)⟩
      · rintro j x H3 H3' hj ⟨zs, hz, hzc, hD, hB3, s3⟩ ⟨rfl, rfl⟩
        refine ⟨rfl, ?_⟩
        refine lc_yes ⟨_, rfl, p, q, rfl, hB3, fun H4 z b4 hB4 hzz => ⟨_, b4 _ _ (hB.there htl) hD, ?_, zs ++ [z], ?_, ?_, ?_, ?_, ?_⟩⟩
        · rw [List.length_map, hz]
          have : j < 3 := hj
          exact small1000 (by omega)
        · rw [List.length_append, hz]
          rfl
        · intro y hy
          rcases List.mem_append.mp hy with hy | hy
          · exact hzc y hy
          · rw [List.mem_singleton.mp hy]
            exact hzz
        · rw [upd_same, List.map_append]
          rfl
        · exact hB4.bar bar_upd (hB.there htl).symm (hB.there2 htl).symm
        · exact same_bar (same_bar s3 nHp b4) (s12.free htl) bar_upd
      · rintro H3 ⟨zs, hz, hzc, hT, hB3, s3⟩
        have hz3 : zs.length = 3 := hz
        have nt : H tl = none := s12.free htl
        -- the three boxes
        refine ⟨_, rfl, tl, rfl, ⟨_, SqL.of hT⟩, fun bl hbl => lc_it (walk_list (xs := zs.map V.str)) (fun j H' => ∃ bs : List Addr, bs.length = j ∧ H' bl = some (.lst (bs.map V.ref)) ∧ Boxes C H' bs (zs.take j) ∧ bs.Nodup ∧ (∀ b ∈ bs, H b = none) ∧
          H' tl = some (.lst (zs.map V.str)) ∧ BagAt H' p q ∧ Same H H') ?_ (fun _ _ _ h => by obtain ⟨_, _, _, _, _, _, h, _⟩ := h; exact SqL.of h) ?_ ?_⟩
        · exact ⟨[], rfl, upd_same, ⟨rfl, fun i b z h => by cases h⟩, List.nodup_nil, fun _ h => (List.not_mem_nil h).elim, same_new hbl _ _ hT, hB3.same (same_new hbl), s3.trans (same_new hbl)⟩
        · rintro j x H4 H4' hj ⟨bs, hbs, hL, hX, nd, nbs, hT4, hB4, s4⟩ ⟨rfl, hx⟩
          obtain ⟨z, hzj, rfl⟩ := map_from hx
          have hj3 : j < 3 := by
            have := (List.getElem?_eq_some_iff.mp hzj).1
            omega
          refine ⟨rfl, ?_⟩
          refine lc_yes ⟨_, rfl, fun b db nb ndb nbd => ⟨b, db, z, rfl, upd_same, hzc z (List.mem_of_getElem? hzj), fun H5 b5 hb5 => ⟨rfl, ?_⟩⟩⟩
          have t5 := same_made nb ndb b5
          have nbl : bl ≠ b := ne_of_none hL nb
          have nbH : H b = none := s4.free nb
          have nin : b ∉ bs := fun m => by
            obtain ⟨z', dx', e⟩ := hX.mem m
            rw [nb] at e
            cases e
          refine ⟨_, t5 _ _ hL, ?_, bs ++ [b], ?_, ?_, ?_, ?_, ?_, ?_, ?_, ?_⟩
          · rw [List.length_map, hbs]
            exact small1000 (by omega)
          · rw [List.length_append, hbs]
            rfl
          · rw [upd_same, List.map_append]
            rfl
          · rw [take_snoc hzj]
            exact ((hX.same t5).bar bar_upd (hX.notin hL)).snoc (hb5.bar bar_upd nbl.symm)
          · exact List.nodup_append.mpr ⟨nd, by simp, fun x hx y hy e => nin (by rw [List.mem_singleton.mp hy] at e; exact e ▸ hx)⟩
          · intro y hy
            rcases List.mem_append.mp hy with hy | hy
            · exact nbs y hy
            · rw [List.mem_singleton.mp hy]
              exact nbH
          · exact (upd_ne (ne_of_none hT hbl)).trans (t5 _ _ hT4)
          · exact (hB4.same t5).bar bar_upd (hB3.there hbl).symm (hB3.there2 hbl).symm
          · exact same_bar (s4.trans t5) (s3.free hbl) bar_upd
        · rintro H4 ⟨bs, hbs, hL, hX, nd, nbs, hT4, hB4, s4⟩
          have hb3 : bs.length = 3 := by rw [hbs, List.length_map, hz3]
          have hX4 : Boxes C H4 bs zs := by
            rw [List.take_of_length_le (by rw [List.length_map]; exact Nat.le_refl _)] at hX
            exact hX
          have W : Two C H p q tl bl bs := ⟨nHp, nt, s3.free hbl, nbs, hB.there htl, hB.there2 htl, hB3.there hbl, hB3.there2 hbl, ne_of_none hT hbl, nd⟩
          have A4 : TwoAt C H p q tl bl bs zs H4 := ⟨s4, hB4, hT4, hL, hX4, hzc⟩
          -- the turns
          refine ⟨_, rfl, p, q, 8, rfl, hB4, by decide, by decide, fun H5 d b5 hB5 d0 d1 => ⟨_, _, rfl, rfl, _, rfl, by omega, by omega, for_it walk_range (fun j σ' H' => ∃ zs v5 v6 v7 v8 v9 v10 v11, σ' = [some (.ref a), some (.int (0 + i)), some (.ref p), some (.ref tl), some (.ref bl), v5, v6, v7, v8, v9, v10, v11] ∧ zs.length = 3 ∧ TwoAt C H p q tl bl bs zs H')
            ?_ (fun _ _ _ _ _ => trivial) ?_ ?_⟩⟩
          · exact ⟨zs, _, _, _, _, _, _, _, rfl, hz3, A4.draw W b5 hB5⟩
          · rintro j x σ' H6 H6' hj ⟨zs, v5, v6, v7, v8, v9, v10, v11, rfl, hz3, A6⟩ ⟨rfl, rfl⟩
            refine ⟨_, rfl, p, q, 3, rfl, A6.bag, by decide, by decide, fun H7 o1 b7 hB7 o10 o11 => ⟨_, rfl, p, q, 3, rfl, hB7, by decide, by decide, fun H8 o2 b8 hB8 o20 o21 =>
              ⟨_, rfl, by show 4 ≤ sizeLine; decide, fun sl hsl => ⟨p, q, _, rfl, hB8.same (same_new hsl), .inl ⟨sl, _, rfl, hB8.there hsl, upd_same, by show 0 < 4; decide, by show 4 < 1000; decide, fun H9 y b9 hB9 hy => ⟨_, _, _, rfl, ?_⟩⟩⟩⟩⟩⟩
            obtain ⟨m1, rfl⟩ := Int.eq_ofNat_of_zero_le o10
            obtain ⟨m2, rfl⟩ := Int.eq_ofNat_of_zero_le o20
            obtain ⟨s, rfl, hs⟩ := sign_of hy
            have A9 := (((A6.draw W b7 hB7).draw W b8 hB8).same (same_new hsl)).draw W b9 hB9
            obtain ⟨b1, z1, hb1, hz1, hx1⟩ := A9.bx.at_ (i := m1) (by omega)
            obtain ⟨b2, z2, hb2, hz2, hx2⟩ := A9.bx.at_ (i := m2) (by omega)
            have hc1 := A9.ic z1 (List.mem_of_getElem? hz1)
            have hc2 := A9.ic z2 (List.mem_of_getElem? hz2)
            refine ⟨_, rfl, _, rfl, _, rfl, tl, _, _, _, rfl, rfl, SqL.of A9.t, atI_nat (map_at hz1), _, rfl, _, rfl, tl, _, _, _, rfl, rfl, SqL.of A9.t, atI_nat (map_at hz2), s, z1, z2, rfl, hs, ?_⟩
            refine ⟨_, rfl, _, rfl, tl, _, _, m1, rfl, rfl, A9.t, ixN_nat (by rw [List.length_map]; omega), ?_⟩
            rw [← List.map_set]
            have hB10 := A9.bag.bar (bar_upd (p := tl) (o := .lst ((zs.set m1 (sb fun c => gs s (mem z1 c) (mem z2 c))).map V.str))) W.tp.symm W.tq.symm
            refine ⟨_, rfl, p, q, 2, rfl, hB10, by decide, by decide, fun H11 e b11 hB11 _ _ => ⟨rfl, _, rfl, ?_⟩⟩
            have sm11 : Same H H11 := same_bar (same_bar A9.sm W.nt bar_upd) W.np b11
            have t11 : H11 tl = some (.lst ((zs.set m1 (sb fun c => gs s (mem z1 c) (mem z2 c))).map V.str)) := b11 _ _ W.tp upd_same
            have l11 : H11 bl = some (.lst (bs.map V.ref)) := b11 _ _ W.bp ((upd_ne W.tb.symm).trans A9.b)
            have bx10 := A9.bx.bar (bar_upd (p := tl) (o := .lst ((zs.set m1 (sb fun c => gs s (mem z1 c) (mem z2 c))).map V.str))) (A9.bx.notin A9.t)
            have bx11 := bx10.bar b11 (bx10.notin2 hB10).1
            have y1 := bx11.2 m1 b1 z1 hb1 hz1
            have y2 := bx11.2 m2 b2 z2 hb2 hz2
            have mb1 := List.mem_of_getElem? hb1
            have hz' : (zs.set m1 (sb fun c => gs s (mem z1 c) (mem z2 c))).length = 3 := by rw [List.length_set, hz3]
            refine if_join (fun σ' H' => ∃ v9, σ' = [some (.ref a), some (.int (0 + i)), some (.ref p), some (.ref tl), some (.ref bl), some (.int (0 + (j : Int))), some (.int m1), some (.int m2), some (.str (S [s])), v9, v10, v11] ∧
              TwoAt C H p q tl bl bs (zs.set m1 (sb fun c => gs s (mem z1 c) (mem z2 c))) H') ?_ ?_ ?_
            · intro _ nx' qq
              refine ⟨_, rfl, _, rfl, _, rfl, bl, _, _, _, rfl, rfl, SqL.of l11, atI_nat (map_at hb1), _, rfl, _, rfl, bl, _, _, _, rfl, rfl, SqL.of l11, atI_nat (map_at hb2), s, b1, b2, z1, z2, rfl, hs, y1, y2, hc1, hc2, fun H12 bb hn => ?_⟩
              have A12 := TwoAt.change W sm11 hB11 t11 l11 bx11 A9.ic (isC_sb _) hb1 bb hn
              obtain ⟨dx, hn'⟩ := id hn
              refine ⟨_, rfl, _, rfl, bl, _, _, _, rfl, rfl, SqL.of A12.b, atI_nat (map_at hb1), b1, b1, dx, _, dx, _, rfl, rfl, hn', hn', _, rfl, ?_⟩
              rw [decide_eq_true rfl]
              exact iteF (qq _ _ ⟨_, rfl, A12⟩)
            · intro _ nx' qq
              obtain ⟨b0, z0, hb0, hz0, hx0⟩ := bx11.at_ (i := 0) (by omega)
              obtain ⟨c2, w2, hc2', hw2, hxc⟩ := bx11.at_ (i := 2) (by omega)
              refine ⟨_, rfl, bl, _, _, _, rfl, rfl, SqL.of l11, atI_nat (j := 2) (map_at hc2'), _, rfl, bl, _, _, _, rfl, rfl, SqL.of l11, atI_nat (j := 0) (map_at hb0), _, rfl, _, rfl, bl, _, _, _, rfl, rfl, SqL.of l11, atI_nat (map_at hb1), by show 3 ≤ sizeLine; decide, fun r hr => ?_⟩
              have hr1 : upd H11 r (.lst [.ref c2, .ref b0, .ref b1]) r = some (.lst [.ref c2, .ref b0, .ref b1]) := upd_same
              have nr := same_new (o := .lst [.ref c2, .ref b0, .ref b1]) hr
              have l12 := nr _ _ l11
              refine ⟨_, rfl, _, rfl, _, rfl, _, rfl, bl, _, _, _, rfl, rfl, SqL.of l12, atI_nat (map_at hb2), s, r, b1, b2, 2, _, z1, z2, rfl, hs, hr1, rfl, y1.same nr, y2.same nr, hc1, hc2, fun H12 bb hn => ?_⟩
              have A12 := TwoAt.change W (sm11.trans nr) (hB11.same nr) (nr _ _ t11) l12 (bx11.same nr) A9.ic (isC_sb _) hb1 bb hn
              have nrb : r ≠ b1 := (y1.ne hr).symm
              have hr2 := bb _ _ nrb hr1
              obtain ⟨dx, hn'⟩ := id hn
              obtain ⟨z0', hx0'⟩ := A12.bx.mem (List.mem_of_getElem? hb0)
              obtain ⟨z2', hx2'⟩ := A12.bx.mem (List.mem_of_getElem? hc2')
              obtain ⟨d0', e0'⟩ := id hx0'
              obtain ⟨d2', e2'⟩ := id hx2'
              refine ⟨_, rfl, r, _, _, _, rfl, rfl, SqL.of hr2, atI_nat (j := 2) rfl, _, rfl, _, rfl, bl, _, _, _, rfl, rfl, SqL.of A12.b, atI_nat (map_at hb1), b1, b1, dx, _, dx, _, rfl, rfl, hn', hn', _, rfl, ?_⟩
              rw [decide_eq_true rfl]
              refine iteF ⟨_, rfl, r, _, _, _, rfl, rfl, SqL.of hr2, atI_nat (j := 0) rfl, _, rfl, bl, _, _, _, rfl, rfl, SqL.of A12.b, atI_nat (j := 2) (map_at hc2'), c2, c2, d2', _, d2', _, rfl, rfl, e2', e2', _, rfl, ?_⟩
              rw [decide_eq_true rfl]
              refine iteF ⟨_, rfl, r, _, _, _, rfl, rfl, SqL.of hr2, atI_nat (j := 1) rfl, _, rfl, bl, _, _, _, rfl, rfl, SqL.of A12.b, atI_nat (j := 0) (map_at hb0), b0, b0, d0', _, d0', _, rfl, rfl, e0', e0', _, rfl, ?_⟩
              rw [decide_eq_true rfl]
              exact iteF (qq _ _ ⟨_, rfl, A12⟩)
            · rintro σ' H12 ⟨v9', rfl, A12⟩
              refine ⟨_, rfl, by decide, by decide, for_it walk_range (fun _ σ' H' => H' = H12 ∧ ∃ v10', σ' = [some (.ref a), some (.int (0 + i)), some (.ref p), some (.ref tl), some (.ref bl), some (.int (0 + (j : Int))), some (.int m1), some (.int m2), some (.str (S [s])), v9', v10', v11])
                ⟨rfl, _, rfl⟩ (fun _ _ _ _ _ => trivial) ?_ ?_⟩
              · rintro n x σ' H13 H13' hn ⟨rfl, v10', rfl⟩ ⟨rfl, rfl⟩
                have hn3 : n < 3 := hn
                obtain ⟨b3, z3, hb3', hz3', hx3⟩ := A12.bx.at_ (i := n) (by omega)
                obtain ⟨d3, e3⟩ := id hx3
                have en : (0 + (n : Int)) = (n : Int) := Int.zero_add _
                refine ⟨_, rfl, _, rfl, bl, _, _, _, rfl, rfl, SqL.of A12.b, by rw [en]; exact atI_nat (map_at hb3'), b3, C, d3, _, _, rfl, e3, B.cl, B.nC, boxF_lk z3, _, _, _, _, true, rfl, .ty "str", .base (.str _), kit_ty (by decide +kernel), true, rfl, iteF ?_⟩
                refine ⟨_, rfl, _, rfl, bl, _, _, _, rfl, rfl, SqL.of A12.b, by rw [en]; exact atI_nat (map_at hb3'), b3, C, d3, _, _, rfl, e3, B.cl, B.nC, boxF_lk z3, _, rfl, _, rfl, tl, _, _, _, rfl, rfl, SqL.of A12.t, by rw [en]; exact atI_nat (map_at hz3'), rfl, _, rfl, ?_⟩
                rw [dec_str_same]
                exact iteF ⟨rfl, _, rfl⟩
              · rintro σ' H13 ⟨rfl, v10', rfl⟩
                exact ⟨_, _, _, _, _, _, _, _, rfl, hz', A12⟩
          · rintro σ' H' ⟨zs, v5, v6, v7, v8, v9, v10, v11, rfl, _, A⟩
            exact ⟨_, _, _, _, _, _, _, _, _, _, _, rfl, A.sm⟩
    · rintro σ H' ⟨v1, v2, v3, v4, v5, v6, v7, v8, v9, v10, v11, rfl, s1⟩
      exact k H'
end
theorem all_mk {l : PySem.W.OpenLaw} {w : World} {K : PySem.W.Frag} {h : Heap} {mg : Str → Option Value} {fa C_Box f_bag f_take f_of f_contents f_either f_both f_without f_exactly_one f_are_contents f_checked f_due f_changed f_change_item f_law f_Box__init T_Box__init f_Box__ior f_Box__iand f_Box__isub f_Box__ixor : Addr} (X : K.In h) (G : h.Ns mainGlobals mg) (hfa : mg "law" = some (.ref fa))
    {od_bag an_bag od_take an_take od_of an_of od_contents an_contents od_either an_either od_both an_both od_without an_without od_exactly_one an_exactly_one od_are_contents an_are_contents od_checked an_checked od_due an_due od_changed an_changed od_change_item an_change_item od_law an_law od_Box__init an_Box__init od_Box__ior an_Box__ior od_Box__iand an_Box__iand od_Box__isub an_Box__isub od_Box__ixor an_Box__ixor : Option Addr} {sl_bag sl_take sl_of sl_contents sl_either sl_both sl_without sl_exactly_one sl_are_contents sl_checked sl_due sl_changed sl_change_item sl_law sl_Box__init sl_Box__ior sl_Box__iand sl_Box__isub sl_Box__ixor : Array (Option Value)} {oc_bag kV_bag dc_bag pm_bag cd_bag ct_bag oc_take kV_take dc_take pm_take cd_take ct_take oc_of kV_of dc_of pm_of cd_of ct_of oc_contents kV_contents dc_contents pm_contents cd_contents ct_contents oc_either kV_either dc_either pm_either cd_either ct_either oc_both kV_both dc_both pm_both cd_both ct_both oc_without kV_without dc_without pm_without cd_without ct_without oc_exactly_one kV_exactly_one dc_exactly_one pm_exactly_one cd_exactly_one ct_exactly_one oc_are_contents kV_are_contents dc_are_contents pm_are_contents cd_are_contents ct_are_contents oc_checked kV_checked dc_checked pm_checked cd_checked ct_checked oc_due kV_due dc_due pm_due cd_due ct_due oc_changed kV_changed dc_changed pm_changed cd_changed ct_changed oc_change_item kV_change_item dc_change_item pm_change_item cd_change_item ct_change_item oc_law kV_law dc_law pm_law cd_law ct_law oc_Box__init kV_Box__init dc_Box__init pm_Box__init cd_Box__init ct_Box__init oc_Box__ior kV_Box__ior dc_Box__ior pm_Box__ior cd_Box__ior ct_Box__ior oc_Box__iand kV_Box__iand dc_Box__iand pm_Box__iand cd_Box__iand ct_Box__iand oc_Box__isub kV_Box__isub dc_Box__isub pm_Box__isub cd_Box__isub ct_Box__isub oc_Box__ixor kV_Box__ixor dc_Box__ixor pm_Box__ixor cd_Box__ixor ct_Box__ixor : Value}  {nmB qB : Str} {NB : Addr} {bsB : List Value} {hdB abB : Bool} {snB : List Str} {subB : List Value} {colB : Option Bool} {ddB : Option Addr} {b0 b1 b2 b3 b5 : Option Value} {nidB : String} {tkM : Tok} {oDT : Option Addr} {nT : Nat} {tkD : Tok} {slT : Array (Option Value)} {cNB : Value} {dNB : Option Addr} {eNB : Array DictEntry} {nNB : Nat} {slNB : Array (Option Value)}
    (aC_Box : PySem.W.nsIn K mainGlobals "Box" = some (some (.ref C_Box)))
    (a_bag : PySem.W.nsIn K mainGlobals "_law_bag" = some (some (.ref f_bag)))
    (l_bag : K.lookup f_bag = some ⟨oc_bag, od_bag, .func (PySem.W.fnOf "_law_bag" "_law_bag" (defArgs s_bag) (defBody s_bag) (defScope s_bag) .none kV_bag dc_bag pm_bag an_bag cd_bag ct_bag), sl_bag⟩)
    (c_bag : PySem.W.codeIn K cd_bag "_law_bag" = true)
    (k_bag : PySem.W.keepIn K (.ref f_bag) = true)
    (a_take : PySem.W.nsIn K mainGlobals "_law_take" = some (some (.ref f_take)))
    (l_take : K.lookup f_take = some ⟨oc_take, od_take, .func (PySem.W.fnOf "_law_take" "_law_take" (defArgs s_take) (defBody s_take) (defScope s_take) .none kV_take dc_take pm_take an_take cd_take ct_take), sl_take⟩)
    (c_take : PySem.W.codeIn K cd_take "_law_take" = true)
    (k_take : PySem.W.keepIn K (.ref f_take) = true)
    (a_of : PySem.W.nsIn K mainGlobals "_law_of" = some (some (.ref f_of)))
    (l_of : K.lookup f_of = some ⟨oc_of, od_of, .func (PySem.W.fnOf "_law_of" "_law_of" (defArgs s_of) (defBody s_of) (defScope s_of) .none kV_of dc_of pm_of an_of cd_of ct_of), sl_of⟩)
    (c_of : PySem.W.codeIn K cd_of "_law_of" = true)
    (k_of : PySem.W.keepIn K (.ref f_of) = true)
    (a_contents : PySem.W.nsIn K mainGlobals "_law_contents" = some (some (.ref f_contents)))
    (l_contents : K.lookup f_contents = some ⟨oc_contents, od_contents, .func (PySem.W.fnOf "_law_contents" "_law_contents" (defArgs s_contents) (defBody s_contents) (defScope s_contents) .none kV_contents dc_contents pm_contents an_contents cd_contents ct_contents), sl_contents⟩)
    (c_contents : PySem.W.codeIn K cd_contents "_law_contents" = true)
    (k_contents : PySem.W.keepIn K (.ref f_contents) = true)
    (a_either : PySem.W.nsIn K mainGlobals "either" = some (some (.ref f_either)))
    (l_either : K.lookup f_either = some ⟨oc_either, od_either, .func (PySem.W.fnOf "either" "either" (defArgs s_either) (defBody s_either) (defScope s_either) .none kV_either dc_either pm_either an_either cd_either ct_either), sl_either⟩)
    (c_either : PySem.W.codeIn K cd_either "either" = true)
    (k_either : PySem.W.keepIn K (.ref f_either) = true)
    (a_both : PySem.W.nsIn K mainGlobals "both" = some (some (.ref f_both)))
    (l_both : K.lookup f_both = some ⟨oc_both, od_both, .func (PySem.W.fnOf "both" "both" (defArgs s_both) (defBody s_both) (defScope s_both) .none kV_both dc_both pm_both an_both cd_both ct_both), sl_both⟩)
    (c_both : PySem.W.codeIn K cd_both "both" = true)
    (k_both : PySem.W.keepIn K (.ref f_both) = true)
    (a_without : PySem.W.nsIn K mainGlobals "without" = some (some (.ref f_without)))
    (l_without : K.lookup f_without = some ⟨oc_without, od_without, .func (PySem.W.fnOf "without" "without" (defArgs s_without) (defBody s_without) (defScope s_without) .none kV_without dc_without pm_without an_without cd_without ct_without), sl_without⟩)
    (c_without : PySem.W.codeIn K cd_without "without" = true)
    (k_without : PySem.W.keepIn K (.ref f_without) = true)
    (a_exactly_one : PySem.W.nsIn K mainGlobals "exactly_one" = some (some (.ref f_exactly_one)))
    (l_exactly_one : K.lookup f_exactly_one = some ⟨oc_exactly_one, od_exactly_one, .func (PySem.W.fnOf "exactly_one" "exactly_one" (defArgs s_exactly_one) (defBody s_exactly_one) (defScope s_exactly_one) .none kV_exactly_one dc_exactly_one pm_exactly_one an_exactly_one cd_exactly_one ct_exactly_one), sl_exactly_one⟩)
    (c_exactly_one : PySem.W.codeIn K cd_exactly_one "exactly_one" = true)
    (k_exactly_one : PySem.W.keepIn K (.ref f_exactly_one) = true)
    (a_are_contents : PySem.W.nsIn K mainGlobals "are_contents" = some (some (.ref f_are_contents)))
    (l_are_contents : K.lookup f_are_contents = some ⟨oc_are_contents, od_are_contents, .func (PySem.W.fnOf "are_contents" "are_contents" (defArgs s_are_contents) (defBody s_are_contents) (defScope s_are_contents) .none kV_are_contents dc_are_contents pm_are_contents an_are_contents cd_are_contents ct_are_contents), sl_are_contents⟩)
    (c_are_contents : PySem.W.codeIn K cd_are_contents "are_contents" = true)
    (k_are_contents : PySem.W.keepIn K (.ref f_are_contents) = true)
    (a_checked : PySem.W.nsIn K mainGlobals "checked" = some (some (.ref f_checked)))
    (l_checked : K.lookup f_checked = some ⟨oc_checked, od_checked, .func (PySem.W.fnOf "checked" "checked" (defArgs s_checked) (defBody s_checked) (defScope s_checked) .none kV_checked dc_checked pm_checked an_checked cd_checked ct_checked), sl_checked⟩)
    (c_checked : PySem.W.codeIn K cd_checked "checked" = true)
    (k_checked : PySem.W.keepIn K (.ref f_checked) = true)
    (a_due : PySem.W.nsIn K mainGlobals "_law_due" = some (some (.ref f_due)))
    (l_due : K.lookup f_due = some ⟨oc_due, od_due, .func (PySem.W.fnOf "_law_due" "_law_due" (defArgs s_due) (defBody s_due) (defScope s_due) .none kV_due dc_due pm_due an_due cd_due ct_due), sl_due⟩)
    (c_due : PySem.W.codeIn K cd_due "_law_due" = true)
    (k_due : PySem.W.keepIn K (.ref f_due) = true)
    (a_changed : PySem.W.nsIn K mainGlobals "_law_changed" = some (some (.ref f_changed)))
    (l_changed : K.lookup f_changed = some ⟨oc_changed, od_changed, .func (PySem.W.fnOf "_law_changed" "_law_changed" (defArgs s_changed) (defBody s_changed) (defScope s_changed) .none kV_changed dc_changed pm_changed an_changed cd_changed ct_changed), sl_changed⟩)
    (c_changed : PySem.W.codeIn K cd_changed "_law_changed" = true)
    (k_changed : PySem.W.keepIn K (.ref f_changed) = true)
    (a_change_item : PySem.W.nsIn K mainGlobals "_law_change_item" = some (some (.ref f_change_item)))
    (l_change_item : K.lookup f_change_item = some ⟨oc_change_item, od_change_item, .func (PySem.W.fnOf "_law_change_item" "_law_change_item" (defArgs s_change_item) (defBody s_change_item) (defScope s_change_item) .none kV_change_item dc_change_item pm_change_item an_change_item cd_change_item ct_change_item), sl_change_item⟩)
    (c_change_item : PySem.W.codeIn K cd_change_item "_law_change_item" = true)
    (k_change_item : PySem.W.keepIn K (.ref f_change_item) = true)
    (a_law : PySem.W.nsIn K mainGlobals "law" = some (some (.ref f_law)))
    (l_law : K.lookup f_law = some ⟨oc_law, od_law, .func (PySem.W.fnOf "law" "law" (defArgs s_law) (defBody s_law) (defScope s_law) .none kV_law dc_law pm_law an_law cd_law ct_law), sl_law⟩)
    (c_law : PySem.W.codeIn K cd_law "law" = true)
    (k_law : PySem.W.keepIn K (.ref f_law) = true)
    (a_Box__init : PySem.W.findIn K (.ref C_Box) "__init__" = some (some (.ref f_Box__init)))
    (i_Box__init : PySem.W.isFn K (.ref f_Box__init) = true)
    (l_Box__init : K.lookup f_Box__init = some ⟨oc_Box__init, od_Box__init, .func (PySem.W.fnOf "__init__" "Box.__init__" (defArgs s_Box__init) (defBody s_Box__init) (defScope s_Box__init) (.ref T_Box__init) kV_Box__init dc_Box__init pm_Box__init an_Box__init cd_Box__init ct_Box__init), sl_Box__init⟩)
    (c_Box__init : PySem.W.codeIn K cd_Box__init "Box.__init__" = true)
    (k_Box__init : PySem.W.keepIn K (.ref f_Box__init) = true)
    (d_Box__init : K.lookup T_Box__init = some ⟨.type "tuple", oDT, .seq #[.str "" tkD] nT, slT⟩)
    (a_Box__ior : PySem.W.findIn K (.ref C_Box) "__ior__" = some (some (.ref f_Box__ior)))
    (i_Box__ior : PySem.W.isFn K (.ref f_Box__ior) = true)
    (l_Box__ior : K.lookup f_Box__ior = some ⟨oc_Box__ior, od_Box__ior, .func (PySem.W.fnOf "__ior__" "Box.__ior__" (defArgs s_Box__ior) (defBody s_Box__ior) (defScope s_Box__ior) .none kV_Box__ior dc_Box__ior pm_Box__ior an_Box__ior cd_Box__ior ct_Box__ior), sl_Box__ior⟩)
    (c_Box__ior : PySem.W.codeIn K cd_Box__ior "Box.__ior__" = true)
    (k_Box__ior : PySem.W.keepIn K (.ref f_Box__ior) = true)
    (a_Box__iand : PySem.W.findIn K (.ref C_Box) "__iand__" = some (some (.ref f_Box__iand)))
    (i_Box__iand : PySem.W.isFn K (.ref f_Box__iand) = true)
    (l_Box__iand : K.lookup f_Box__iand = some ⟨oc_Box__iand, od_Box__iand, .func (PySem.W.fnOf "__iand__" "Box.__iand__" (defArgs s_Box__iand) (defBody s_Box__iand) (defScope s_Box__iand) .none kV_Box__iand dc_Box__iand pm_Box__iand an_Box__iand cd_Box__iand ct_Box__iand), sl_Box__iand⟩)
    (c_Box__iand : PySem.W.codeIn K cd_Box__iand "Box.__iand__" = true)
    (k_Box__iand : PySem.W.keepIn K (.ref f_Box__iand) = true)
    (a_Box__isub : PySem.W.findIn K (.ref C_Box) "__isub__" = some (some (.ref f_Box__isub)))
    (i_Box__isub : PySem.W.isFn K (.ref f_Box__isub) = true)
    (l_Box__isub : K.lookup f_Box__isub = some ⟨oc_Box__isub, od_Box__isub, .func (PySem.W.fnOf "__isub__" "Box.__isub__" (defArgs s_Box__isub) (defBody s_Box__isub) (defScope s_Box__isub) .none kV_Box__isub dc_Box__isub pm_Box__isub an_Box__isub cd_Box__isub ct_Box__isub), sl_Box__isub⟩)
    (c_Box__isub : PySem.W.codeIn K cd_Box__isub "Box.__isub__" = true)
    (k_Box__isub : PySem.W.keepIn K (.ref f_Box__isub) = true)
    (a_Box__ixor : PySem.W.findIn K (.ref C_Box) "__ixor__" = some (some (.ref f_Box__ixor)))
    (i_Box__ixor : PySem.W.isFn K (.ref f_Box__ixor) = true)
    (l_Box__ixor : K.lookup f_Box__ixor = some ⟨oc_Box__ixor, od_Box__ixor, .func (PySem.W.fnOf "__ixor__" "Box.__ixor__" (defArgs s_Box__ixor) (defBody s_Box__ixor) (defScope s_Box__ixor) .none kV_Box__ixor dc_Box__ixor pm_Box__ixor an_Box__ixor cd_Box__ixor ct_Box__ixor), sl_Box__ixor⟩)
    (c_Box__ixor : PySem.W.codeIn K cd_Box__ixor "Box.__ixor__" = true)
    (k_Box__ixor : PySem.W.keepIn K (.ref f_Box__ixor) = true)
    (gM : PySem.W.nsIn K mainGlobals "MARKS" = some (some (.str "ABCDEFGHIJKLMNOPQRSTUVWXYZabcdefghijklmnopqrstuvwxyz" tkM)))
    (z_len : PySem.W.nsIn K mainGlobals "len" = some none)
    (z_abs : PySem.W.nsIn K mainGlobals "abs" = some none)
    (z_list : PySem.W.nsIn K mainGlobals "list" = some none)
    (z_int : PySem.W.nsIn K mainGlobals "int" = some none)
    (z_isinstance : PySem.W.nsIn K mainGlobals "isinstance" = some none)
    (z_str : PySem.W.nsIn K mainGlobals "str" = some none)
    (z_range : PySem.W.nsIn K mainGlobals "range" = some none)
    (z_max : PySem.W.nsIn K mainGlobals "max" = some none)
    (z_min : PySem.W.nsIn K mainGlobals "min" = some none)
    (pgB : PySem.W.plainGet K C_Box Str.empty = true)
    (hdB_ : PySem.W.hasDictIn K C_Box = true)
    (poB : PySem.W.plainOver K C_Box = true)
    (saB : PySem.W.findIn K (.ref C_Box) "__setattr__" = some (some (.builtin "object.__setattr__")))
    (mkB : PySem.W.makesIn K C_Box = true)
    (kcB : PySem.W.keepIn K (.ref C_Box) = true)
    (nCB : PySem.W.findIn K (.ref C_Box) "contents" = some none)
    (xLB : K.lookup C_Box = some (excClassObj nmB qB C_Box NB bsB [.type "object"] hdB snB subB abB colB ddB b0 b1 b2 b3 b5 nidB))
    (lNB : K.lookup NB = some ⟨cNB, dNB, .dict eNB nNB, slNB⟩)
    (okNB : (eNB.toList.all fun e => match e.key with | .str _ _ => true | _ => false) = true)
    (neqB : PySem.W.nsIn K NB "__eq__" = some none)
    (nneB : PySem.W.nsIn K NB "__ne__" = some none)
    (caB : PySem.W.findIn K (.ref C_Box) "__class__" = some (some (.builtin "object.__class__")))
    (cnB : PySem.W.specialIn K (.builtin "object.__class__") "__get__" = some (some (.builtin "getset_descriptor.__get__")))
    (ctB : PySem.W.takesIn K (.builtin "object.__class__") = some true)
    (cmB : PySem.W.mroIn K C_Box (.type "object") = some true)
    (sfB : PySem.W.selfFirst K C_Box = true)
    : ∃ fd : FuncData, (∀ (s : Shared) (v : Value), BindsTo s fd ⟨[v], []⟩ [("_law_script", v)]) ∧ ∀ base : Heap, K.In base → base.Ns mainGlobals mg → FnOk l.prog w K mg base CX0 8 fa fd ["_law_script"] (spLaw K) := by
  have e := hfa.symm.trans (PySem.W.mg_of X G a_law)
  cases e
  have F_bag := fun_mk (st := s_bag) l_bag c_bag k_bag
  have b_bag := F_bag.binds (ps := ["_law_script", "_law_at"]) fun _ _ _ _ _ _ us hl => match us, hl with | [_, _], _ => rfl
  have g_bag := PySem.W.mg_of X G a_bag
  have F_take := fun_mk (st := s_take) l_take c_take k_take
  have b_take := F_take.binds (ps := ["_law_bag_here", "_law_many"]) fun _ _ _ _ _ _ us hl => match us, hl with | [_, _], _ => rfl
  have g_take := PySem.W.mg_of X G a_take
  have F_of := fun_mk (st := s_of) l_of c_of k_of
  have b_of := F_of.binds (ps := ["_law_bag_here", "_law_some"]) fun _ _ _ _ _ _ us hl => match us, hl with | [_, _], _ => rfl
  have g_of := PySem.W.mg_of X G a_of
  have F_contents := fun_mk (st := s_contents) l_contents c_contents k_contents
  have b_contents := F_contents.binds (ps := ["_law_bag_here"]) fun _ _ _ _ _ _ us hl => match us, hl with | [_], _ => rfl
  have g_contents := PySem.W.mg_of X G a_contents
  have F_either := fun_mk (st := s_either) l_either c_either k_either
  have b_either := F_either.binds (ps := ["one", "other"]) fun _ _ _ _ _ _ us hl => match us, hl with | [_, _], _ => rfl
  have g_either := PySem.W.mg_of X G a_either
  have F_both := fun_mk (st := s_both) l_both c_both k_both
  have b_both := F_both.binds (ps := ["one", "other"]) fun _ _ _ _ _ _ us hl => match us, hl with | [_, _], _ => rfl
  have g_both := PySem.W.mg_of X G a_both
  have F_without := fun_mk (st := s_without) l_without c_without k_without
  have b_without := F_without.binds (ps := ["one", "other"]) fun _ _ _ _ _ _ us hl => match us, hl with | [_, _], _ => rfl
  have g_without := PySem.W.mg_of X G a_without
  have F_exactly_one := fun_mk (st := s_exactly_one) l_exactly_one c_exactly_one k_exactly_one
  have b_exactly_one := F_exactly_one.binds (ps := ["one", "other"]) fun _ _ _ _ _ _ us hl => match us, hl with | [_, _], _ => rfl
  have g_exactly_one := PySem.W.mg_of X G a_exactly_one
  have F_are_contents := fun_mk (st := s_are_contents) l_are_contents c_are_contents k_are_contents
  have b_are_contents := F_are_contents.binds (ps := ["thing"]) fun _ _ _ _ _ _ us hl => match us, hl with | [_], _ => rfl
  have g_are_contents := PySem.W.mg_of X G a_are_contents
  have F_checked := fun_mk (st := s_checked) l_checked c_checked k_checked
  have b_checked := F_checked.binds (ps := ["contents"]) fun _ _ _ _ _ _ us hl => match us, hl with | [_], _ => rfl
  have g_checked := PySem.W.mg_of X G a_checked
  have F_due := fun_mk (st := s_due) l_due c_due k_due
  have b_due := F_due.binds (ps := ["_law_sign", "_law_one", "_law_other"]) fun _ _ _ _ _ _ us hl => match us, hl with | [_, _, _], _ => rfl
  have g_due := PySem.W.mg_of X G a_due
  have F_changed := fun_mk (st := s_changed) l_changed c_changed k_changed
  have b_changed := F_changed.binds (ps := ["_law_sign", "_law_box", "_law_other"]) fun _ _ _ _ _ _ us hl => match us, hl with | [_, _, _], _ => rfl
  have g_changed := PySem.W.mg_of X G a_changed
  have F_change_item := fun_mk (st := s_change_item) l_change_item c_change_item k_change_item
  have b_change_item := F_change_item.binds (ps := ["_law_sign", "_law_rows", "_law_k", "_law_other"]) fun _ _ _ _ _ _ us hl => match us, hl with | [_, _, _, _], _ => rfl
  have g_change_item := PySem.W.mg_of X G a_change_item
  have F_law := fun_mk (st := s_law) l_law c_law k_law
  have b_law := F_law.binds (ps := ["_law_script"]) fun _ _ _ _ _ _ us hl => match us, hl with | [_], _ => rfl
  have g_law := PySem.W.mg_of X G a_law
  have F_Box__ior := fun_mk (st := s_Box__ior) l_Box__ior c_Box__ior k_Box__ior
  have b_Box__ior := F_Box__ior.binds (ps := ["self", "other"]) fun _ _ _ _ _ _ us hl => match us, hl with | [_, _], _ => rfl
  have F_Box__iand := fun_mk (st := s_Box__iand) l_Box__iand c_Box__iand k_Box__iand
  have b_Box__iand := F_Box__iand.binds (ps := ["self", "other"]) fun _ _ _ _ _ _ us hl => match us, hl with | [_, _], _ => rfl
  have F_Box__isub := fun_mk (st := s_Box__isub) l_Box__isub c_Box__isub k_Box__isub
  have b_Box__isub := F_Box__isub.binds (ps := ["self", "other"]) fun _ _ _ _ _ _ us hl => match us, hl with | [_, _], _ => rfl
  have F_Box__ixor := fun_mk (st := s_Box__ixor) l_Box__ixor c_Box__ixor k_Box__ixor
  have b_Box__ixor := F_Box__ixor.binds (ps := ["self", "other"]) fun _ _ _ _ _ _ us hl => match us, hl with | [_, _], _ => rfl
  have T : Top K mg := { z_len := PySem.W.mg_none_of X G z_len, z_abs := PySem.W.mg_none_of X G z_abs, z_list := PySem.W.mg_none_of X G z_list, z_int := PySem.W.mg_none_of X G z_int, z_isinstance := PySem.W.mg_none_of X G z_isinstance, z_str := PySem.W.mg_none_of X G z_str, z_range := PySem.W.mg_none_of X G z_range, z_max := PySem.W.mg_none_of X G z_max, z_min := PySem.W.mg_none_of X G z_min, g_MARKS := ⟨_, PySem.W.mg_of X G gM, ⟨_, rfl⟩⟩ }
  have B : BoxC K mg C_Box := { cl := ⟨pgB, hdB_, poB, saB⟩, nC := nCB, gB := ⟨_, PySem.W.mg_of X G aC_Box, rfl⟩, eq := ⟨nmB, qB, NB, bsB, hdB, snB, subB, abB, colB, ddB, b0, b1, b2, b3, b5, nidB, xLB, nsOk_of lNB okNB, neqB, nneB⟩, ca := caB, cn := cnB, ct := ctB, cm := cmB, kit := kit_self }
  have FI : FunD K "__init__" "Box.__init__" (defArgs s_Box__init) (defBody s_Box__init) (defScope s_Box__init) [.str ""] [] f_Box__init _ :=
    ⟨⟨_, _, _, _, _, _, _, _, _, _, rfl, l_Box__init, c_Box__init, .inr ⟨by simp, _, _, [.str "" tkD], _, rfl, d_Box__init, rfl, .cons ⟨_, rfl⟩ .nil⟩, .inl rfl⟩, k_Box__init⟩
  obtain ⟨ds2, dr2, bI2⟩ := FI.binds1 (ps := ["self", "contents"]) 2 1 (by simp) rfl (fun T kV doc pm an cdv ct us its hl hi => match us, hl, its, hi with | [_, _], _, [_], _ => ⟨_, rfl, rfl⟩)
  refine ⟨PySem.W.fnOf "law" "law" (defArgs s_law) (defBody s_law) (defScope s_law) .none kV_law dc_law pm_law an_law cd_law ct_law, fun s v => .of_eq rfl, fun base KB GB => ?_⟩
  have T_take := calOf F_take g_take b_take (ok_take (P := l.prog) (w := w) (base := base) F_take T)
  have T_of := calOf F_of g_of b_of (ok_of (P := l.prog) (w := w) (base := base) F_of T T_take)
  have T_contents := calOf F_contents g_contents b_contents (ok_contents (P := l.prog) (w := w) (base := base) F_contents T T_take T_of)
  have T_bag := calOf F_bag g_bag b_bag (ok_bag (P := l.prog) (w := w) (base := base) F_bag T)
  have T_either := calOf F_either g_either b_either (ok_either (P := l.prog) (w := w) (base := base) F_either T)
  have T_both := calOf F_both g_both b_both (ok_both (P := l.prog) (w := w) (base := base) F_both T)
  have T_without := calOf F_without g_without b_without (ok_without (P := l.prog) (w := w) (base := base) F_without T)
  have T_exactly_one := calOf F_exactly_one g_exactly_one b_exactly_one (ok_exactly (P := l.prog) (w := w) (base := base) F_exactly_one T_either T_without)
  have T_are_contents := calOf F_are_contents g_are_contents b_are_contents (ok_are (P := l.prog) (w := w) (base := base) F_are_contents T T_either)
  have T_checked := calOf F_checked g_checked b_checked (ok_checked (P := l.prog) (w := w) (base := base) F_checked T_are_contents)
  have G_init := ok_init (P := l.prog) (w := w) (base := base) FI B T_checked
  have T_Box : Mak l.prog w K mg base 4 "Box" C_Box (spInit C_Box) [] := ⟨f_Box__init, _, _, ds2, ⟨mkB, a_Box__init, i_Box__init, kcB⟩, G_init, PySem.W.mg_of X G aC_Box, bI2, dr2⟩
  have T_ior : ISgn l.prog w K mg base 4 C_Box .BitOr (spISign C_Box or) := ⟨_, _, _, ⟨sfB, a_Box__ior, i_Box__ior⟩, ok_ior F_Box__ior B T_either, b_Box__ior⟩
  have T_iand : ISgn l.prog w K mg base 4 C_Box .BitAnd (spISign C_Box and) := ⟨_, _, _, ⟨sfB, a_Box__iand, i_Box__iand⟩, ok_iand F_Box__iand B T_both, b_Box__iand⟩
  have T_isub : ISgn l.prog w K mg base 4 C_Box .Sub (spISign C_Box fun p q => p && !q) := ⟨_, _, _, ⟨sfB, a_Box__isub, i_Box__isub⟩, ok_isub F_Box__isub B T_without, b_Box__isub⟩
  have T_ixor : ISgn l.prog w K mg base 4 C_Box .BitXor (spISign C_Box fun p q => p != q) := ⟨_, _, _, ⟨sfB, a_Box__ixor, i_Box__ixor⟩, ok_ixor F_Box__ixor B T_exactly_one, b_Box__ixor⟩
  have T_due := calOf F_due g_due b_due (ok_due (P := l.prog) (w := w) (base := base) F_due T)
  have T_changed := calOf F_changed g_changed b_changed (ok_changed (P := l.prog) (w := w) (base := base) F_changed T_ior T_iand T_isub T_ixor)
  have T_change_item := calOf F_change_item g_change_item b_change_item (ok_change_item (P := l.prog) (w := w) (base := base) F_change_item T_ior T_iand T_isub T_ixor)
  exact ok_law F_law T B T_bag T_take T_of T_contents T_Box T_due T_changed T_change_item

theorem walk {l : PySem.W.OpenLaw} {q : Program} {loose : List Str} {XP : (Str → Option Value) → Heap → Prop} {YP : World → Heap → Prop} {d : DefRec} {K : Params → PySem.W.Frag} (hn : l.most = some 63) (hdf : d.params.defaults = [])
    (hY : ∀ (w : World) (h : Heap), YP w h → (K w.params).In h)
    (F : ∀ (w : World) (mg : Str → Option Value) (fa : Addr) (h : Heap), (K w.params).In h → h.Ns mainGlobals mg → mg d.name = some (.ref fa) →
      ∃ fd : FuncData, (∀ (s : Shared) (u : Value), BindsTo s fd ⟨[u], []⟩ [("_law_script", u)]) ∧ ∀ base : Heap, (K w.params).In base → base.Ns mainGlobals mg → FnOk l.prog w (K w.params) mg base CX0 8 fa fd ["_law_script"] (spLaw (K w.params))) :
    PySem.W.WalkO q loose XP YP l.row.toRowW d [] (fun f vs => PySem.call f vs) :=
  L2.walk_of (n := 63) (k := 8) (x := "_law_script") (CX := fun _ => CX0) (sp := fun w => spLaw (K w.params)) hn (by decide) hdf ⟨rfl, by decide, by decide⟩ hY F (fun _ _ a ns hl _ hS => ⟨a, ns, rfl, hS, hl, fun _ => rfl⟩) fun _ _ _ _ _ z => z
-- 63

end W3
open PySem PySem.W PyProof.Rows in
set_option maxRecDepth 100000 in
set_option maxHeartbeats 0 in
theorem PySem.Challenge.cw_workerworlds_k03_boxes_in_place_holds : PySem.Challenge.rw_workerworlds_k03_boxes_in_place.Holds := by
  w_on; o_law; k_head; (case hw => w_witness2)
  k_fill
  refine W3.walk (l := PySem.Challenge.rw_workerworlds_k03_boxes_in_place) rfl rfl (fun w h Y => PySem.W.kIn_of Y) ?F
  case F =>
    intro w mg fa h KX G hmg
    refine' W3.all_mk KX G hmg ?aC_Box ?a_bag ?l_bag ?c_bag ?k_bag ?a_take ?l_take ?c_take ?k_take ?a_of ?l_of ?c_of ?k_of ?a_contents ?l_contents ?c_contents ?k_contents ?a_either ?l_either ?c_either ?k_either ?a_both ?l_both ?c_both ?k_both ?a_without ?l_without ?c_without ?k_without ?a_exactly_one ?l_exactly_one ?c_exactly_one ?k_exactly_one ?a_are_contents ?l_are_contents ?c_are_contents ?k_are_contents ?a_checked ?l_checked ?c_checked ?k_checked ?a_due ?l_due ?c_due ?k_due ?a_changed ?l_changed ?c_changed ?k_changed ?a_change_item ?l_change_item ?c_change_item ?k_change_item ?a_law ?l_law ?c_law ?k_law ?a_Box__init ?i_Box__init ?l_Box__init ?c_Box__init ?k_Box__init ?d_Box__init ?a_Box__ior ?i_Box__ior ?l_Box__ior ?c_Box__ior ?k_Box__ior ?a_Box__iand ?i_Box__iand ?l_Box__iand ?c_Box__iand ?k_Box__iand ?a_Box__isub ?i_Box__isub ?l_Box__isub ?c_Box__isub ?k_Box__isub ?a_Box__ixor ?i_Box__ixor ?l_Box__ixor ?c_Box__ixor ?k_Box__ixor ?gM ?z_len ?z_abs ?z_list ?z_int ?z_isinstance ?z_str ?z_range ?z_max ?z_min ?pgB ?hdB_ ?poB ?saB ?mkB ?kcB ?nCB ?xLB ?lNB ?okNB ?neqB ?nneB ?caB ?cnB ?ctB ?cmB ?sfB
    (case aC_Box => k_is)
    (case a_bag => k_is)
    (case l_bag => k_is)
    (case c_bag => k_is)
    (case k_bag => k_is)
    (case a_take => k_is)
    (case l_take => k_is)
    (case c_take => k_is)
    (case k_take => k_is)
    (case a_of => k_is)
    (case l_of => k_is)
    (case c_of => k_is)
    (case k_of => k_is)
    (case a_contents => k_is)
    (case l_contents => k_is)
    (case c_contents => k_is)
    (case k_contents => k_is)
    (case a_either => k_is)
    (case l_either => k_is)
    (case c_either => k_is)
    (case k_either => k_is)
    (case a_both => k_is)
    (case l_both => k_is)
    (case c_both => k_is)
    (case k_both => k_is)
    (case a_without => k_is)
    (case l_without => k_is)
    (case c_without => k_is)
    (case k_without => k_is)
    (case a_exactly_one => k_is)
    (case l_exactly_one => k_is)
    (case c_exactly_one => k_is)
    (case k_exactly_one => k_is)
    (case a_are_contents => k_is)
    (case l_are_contents => k_is)
    (case c_are_contents => k_is)
    (case k_are_contents => k_is)
    (case a_checked => k_is)
    (case l_checked => k_is)
    (case c_checked => k_is)
    (case k_checked => k_is)
    (case a_due => k_is)
    (case l_due => k_is)
    (case c_due => k_is)
    (case k_due => k_is)
    (case a_changed => k_is)
    (case l_changed => k_is)
    (case c_changed => k_is)
    (case k_changed => k_is)
    (case a_change_item => k_is)
    (case l_change_item => k_is)
    (case c_change_item => k_is)
    (case k_change_item => k_is)
    (case a_law => k_is)
    (case l_law => k_is)
    (case c_law => k_is)
    (case k_law => k_is)
    (case a_Box__init => k_is)
    (case i_Box__init => k_is)
    (case l_Box__init => k_is)
    (case c_Box__init => k_is)
    (case k_Box__init => k_is)
    (case d_Box__init => k_is)
    (case a_Box__ior => k_is)
    (case i_Box__ior => k_is)
    (case l_Box__ior => k_is)
    (case c_Box__ior => k_is)
    (case k_Box__ior => k_is)
    (case a_Box__iand => k_is)
    (case i_Box__iand => k_is)
    (case l_Box__iand => k_is)
    (case c_Box__iand => k_is)
    (case k_Box__iand => k_is)
    (case a_Box__isub => k_is)
    (case i_Box__isub => k_is)
    (case l_Box__isub => k_is)
    (case c_Box__isub => k_is)
    (case k_Box__isub => k_is)
    (case a_Box__ixor => k_is)
    (case i_Box__ixor => k_is)
    (case l_Box__ixor => k_is)
    (case c_Box__ixor => k_is)
    (case k_Box__ixor => k_is)
    (case gM => k_is)
    (case z_len => k_is)
    (case z_abs => k_is)
    (case z_list => k_is)
    (case z_int => k_is)
    (case z_isinstance => k_is)
    (case z_str => k_is)
    (case z_range => k_is)
    (case z_max => k_is)
    (case z_min => k_is)
    (case pgB => k_is)
    (case hdB_ => k_is)
    (case poB => k_is)
    (case saB => k_is)
    (case mkB => k_is)
    (case kcB => k_is)
    (case nCB => k_is)
    (case xLB => k_is)
    (case lNB => k_is)
    (case okNB => rfl)
    (case neqB => k_is)
    (case nneB => k_is)
    (case caB => k_is)
    (case cnB => k_is)
    (case ctB => k_is)
    (case cmB => k_is)
    (case sfB => k_is)

