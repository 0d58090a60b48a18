import PyProof.Rows.All
import Wide.All
import OpenK.AllK
import Wide.FinOn
import HandS.ForMost
import HandS.Codes
import HandS.Walk
import HandS.Wide
import HandS.IsInst
import HandS.Style
import HandS.Exc
import HandS.TryOnly
import HandS.ExcOwn
import HandS.WordsExc
import HandS.Defaults
import HandS.Steps
import HandS.Property
import HandS.StrMore
import HandS.TupLe
import HandS.ExcInit
import HandS.ExcField
import HandS.RaiseMore
import PyProof.Rows.ReprR
import PyProof.StrLawsRepr
import KE.GoesEnum
import KE.GoesMore
import HandS.MakeKw
import HandS.MakeKwOnly
import HandS.ExcIs
import HandS.FStr
import KE.KExcIs
import HandS.Star
import HandS.ClsMeth
import PyProof.ListStr
import KE.KOpsOwn
import KE.KExcInit
import HandS.ForDict
import HandS.WordsDict
import HandS.More
import PyProof.Rows.StrPadFill
import PyProof.ListRange
import HandS.Deep
import KE.DataFind
import PyProof.StrBlock2
import PyProof.ExcClass2
import HandS.ExcValue
import PySem.Challenge.RW_workerworlds_k08_errors_by_hand
set_option Elab.async false
set_option linter.all false
set_option maxRecDepth 100000
set_option maxHeartbeats 4000000
namespace WB
open PySem L2
/-! ### marks -/
def mk : List Nat := List.range' 65 26 ++ List.range' 97 26
abbrev S (l : List Nat) : Str := ⟨l.toArray⟩
def sb (p : Nat → Bool) : Str := S (mk.filter p)
def mem (z : Str) (c : Nat) : Bool := decide (c ∈ z.cps.toList)
def IsC (z : Str) : Prop := ∃ p, z = sb p
theorem marks_eq : ("ABCDEFGHIJKLMNOPQRSTUVWXYZabcdefghijklmnopqrstuvwxyz" : Str) = S mk := by decide +kernel
theorem mem_sb (p : Nat → Bool) (c : Nat) : mem (sb p) c = (decide (c ∈ mk) && p c) := by
  unfold mem sb
  simp [List.mem_filter]
theorem sb_ext {p q : Nat → Bool} (h : ∀ c ∈ mk, p c = q c) : sb p = sb q := by
  unfold sb
  rw [List.filter_congr h]
theorem IsC.eq {z : Str} (h : IsC z) : z = sb (mem z) := by
  obtain ⟨p, rfl⟩ := h
  exact sb_ext fun c hc => by rw [mem_sb, decide_eq_true hc, Bool.true_and]
theorem sb_len (p : Nat → Bool) : (sb p).length ≤ 52 := by
  show (mk.filter p).toArray.size ≤ 52
  rw [List.size_toArray]
  exact List.length_filter_le p mk
/-! ### heaps -/
/-- all that was tracked is as it was, but what stands at p -/
def Bar (p : Addr) (H H' : Hp) : Prop := ∀ b o, b ≠ p → H b = some o → H' b = some o
theorem Bar.refl (p : Addr) (H : Hp) : Bar p H H := fun _ _ _ h => h
theorem Bar.trans {p : Addr} {H H1 H2 : Hp} (a : Bar p H H1) (b : Bar p H1 H2) : Bar p H H2 := fun c o n h => b c o n (a c o n h)
theorem bar_of {p : Addr} {H H' : Hp} (a : Same H H') : Bar p H H' := fun c o _ h => a c o h
theorem same_new {H : Hp} {p : Addr} {o : HO} (h : H p = none) : Same H (upd H p o) := fun b u e => by
  rw [upd_ne (ne_of_none e h)]
  exact e
theorem bar_upd {p : Addr} {H : Hp} {o : HO} : Bar p H (upd H p o) := fun b u n e => by
  rw [upd_ne n]
  exact e
theorem bar_new {p q : Addr} {H : Hp} {o : HO} (h : H q = none) : Bar p H (upd H q o) := fun b u _ e => same_new h b u e
/-! ### readings: the joining of two ways -/
theorem ite_val {c : Bool} {te1 te2 : TE} {σ : L2.St} {H : Hp} {Q : VK} (C : V → Hp → Prop) (h1 : c = true → ∀ Q' : VK, (∀ v H', C v H' → Q' v H') → te1 σ H Q')
    (h2 : c = false → ∀ Q' : VK, (∀ v H', C v H' → Q' v H') → te2 σ H Q') (h : ∀ v H', C v H' → Q v H') : if c = true then te1 σ H Q else te2 σ H Q := by
  cases c with
  | true => exact iteT (h1 rfl Q h)
  | false => exact iteF (h2 rfl Q h)
theorem ite_b {c : Bool} {A B : Prop} (h1 : c = true → A) (h2 : c = false → B) : if c = true then A else B := by
  cases c with
  | true => exact iteT (h1 rfl)
  | false => exact iteF (h2 rfl)
theorem ints_at {ns : List Int} {i : Nat} (h : i < ns.length) : (ns.map V.int)[i]? = some (V.int (ns[i]'h)) := by
  rw [List.getElem?_map, List.getElem?_eq_getElem h]
  rfl
theorem abs_nonneg (n : Int) : 0 ≤ (if n < 0 then -n else n) := by
  split <;> omega
theorem cut_to (xs : List V) (k : Nat) : cutV xs none (some (k : Int)) = xs.take k := by
  unfold cutV
  rw [HT.sIx_none, HT.sIx_nat, List.drop_zero, Nat.sub_zero]
  by_cases h : k ≤ xs.length
  · rw [Nat.min_eq_left h]
  · rw [Nat.min_eq_right (by omega), List.take_of_length_le (Nat.le_refl _), List.take_of_length_le (by omega)]
theorem cdw {i j : Int} (h : 0 < j) (h2 : j < 2 ^ 200) : CDivW i j := by
  refine ⟨h, ?_⟩
  have e : (j.natAbs : Int) = j := Int.natAbs_of_nonneg (by omega)
  have h3 : j.natAbs < 2 ^ 200 := by
    have : (j.natAbs : Int) < ((2 ^ 200 : Nat) : Int) := by
      rw [e]
      exact h2
    exact Int.ofNat_lt.mp this
  exact Nat.lt_trans ((Nat.log2_lt (by omega)).mpr h3) (by decide)
/-! ### data -/
theorem dp_all_ints {K : PySem.W.Frag} {H : Hp} : ∀ ns : List Int, DpAll K H (ns.map V.int) (ns.map PyData.int)
  | [] => .nil
  | n :: r => .cons (.int n) (dp_all_ints r)
theorem dp_ints {K : PySem.W.Frag} {H : Hp} {a : Addr} {ns : List Int} (h : SqL K H a (ns.map V.int)) : Dp K H (.ref a) (.list (ns.map PyData.int)) := .lst h (dp_all_ints ns)
theorem lay_ints : ∀ ns : List Int, PyData.canLayAll0 (ns.map PyData.int) = true ∧ PyData.depthAll (ns.map PyData.int) = 0
  | [] => ⟨rfl, rfl⟩
  | n :: r => by
    obtain ⟨h1, h2⟩ := lay_ints r
    refine ⟨?_, ?_⟩
    · show (PyData.canLay0 (.int n) && PyData.canLayAll0 (r.map PyData.int)) = true
      rw [h1]
      rfl
    · show max (PyData.depth (.int n)) (PyData.depthAll (r.map PyData.int)) = 0
      rw [h2]
      rfl
theorem shaped_ints (ns : List Int) : SeqAt.shaped (.list (ns.map PyData.int)) = true := by
  obtain ⟨h1, h2⟩ := lay_ints ns
  have e1 : PyData.canLay0 (.list (ns.map PyData.int)) = true := h1
  have e2 : PyData.depth (.list (ns.map PyData.int)) ≤ 64 := by
    show PyData.depthAll (ns.map PyData.int) + 1 ≤ 64
    omega
  unfold SeqAt.shaped
  rw [e1, decide_eq_true e2]
  rfl
theorem eqv_nil_ints (ns : List Int) : PyData.eqv (.list (ns.map PyData.int)) (.list []) = decide (ns = []) := by
  cases ns with
  | nil => rfl
  | cons n r =>
    rw [decide_eq_false (by simp)]
    rfl
/-! ### the bag of draws -/
def BagAt (H : Hp) (p q : Addr) : Prop := ∃ (c s i : Int) (ns : List Int),
  H p = some (.lst [.int c, .int s, .int i, .ref q]) ∧ H q = some (.lst (ns.map V.int)) ∧ ns.length ≤ 63 ∧ 0 ≤ c ∧ 0 ≤ s ∧ s < 2 ^ 40 ∧ 0 ≤ i
theorem BagAt.same {H H' : Hp} {p q : Addr} (h : BagAt H p q) (e : Same H H') : BagAt H' p q := by
  obtain ⟨c, s, i, ns, h1, h2, h3⟩ := h
  exact ⟨c, s, i, ns, e _ _ h1, e _ _ h2, h3⟩
theorem BagAt.bar {H H' : Hp} {p q x : Addr} (h : BagAt H p q) (e : Bar x H H') (n : p ≠ x) (m : q ≠ x) : BagAt H' p q := by
  obtain ⟨c, s, i, ns, h1, h2, h3⟩ := h
  exact ⟨c, s, i, ns, e _ _ n h1, e _ _ m h2, h3⟩
theorem BagAt.pq {H : Hp} {p q : Addr} (h : BagAt H p q) : q ≠ p := fun e => by
  obtain ⟨c, s, i, ns, h1, h2, _⟩ := h
  rw [e, h1] at h2
  have e2 := congrArg (fun l : List V => l[3]?) (HO.lst.inj (Option.some.inj h2))
  have e3 : (some (V.ref q) : Option V) = (ns.map V.int)[3]? := e2
  rw [List.getElem?_map] at e3
  cases e4 : ns[3]? <;> rw [e4] at e3 <;> cases e3
theorem BagAt.there {H : Hp} {p q l : Addr} (h : BagAt H p q) (hl : H l = none) : l ≠ p := by
  obtain ⟨c, s, i, ns, h1, _⟩ := h
  exact (ne_of_none h1 hl).symm
theorem BagAt.there2 {H : Hp} {p q l : Addr} (h : BagAt H p q) (hl : H l = none) : l ≠ q := by
  obtain ⟨c, s, i, ns, _, h1, _⟩ := h
  exact (ne_of_none h1 hl).symm
def spBag (K : PySem.W.Frag) : Sp := fun vs H Q _ => ∃ (a : Addr) (ns : List Int) (j : Nat), vs = [.ref a, .int (j : Int)] ∧ SqL K H a (ns.map V.int) ∧ ns.length ≤ 63 ∧ j < 63 ∧
  ∀ H' p q, Same H H' → H p = none → H q = none → BagAt H' p q → Q (.ref p) H'
def spTake : Sp := fun vs H Q _ => ∃ (p q : Addr) (m : Int), vs = [.ref p, .int m] ∧ BagAt H p q ∧ 0 < m ∧ m < 2 ^ 200 ∧
  ∀ H' (d : Int), Bar p H H' → BagAt H' p q → 0 ≤ d → d < m → Q (.int d) H'
/-! ### parts of the marks -/
theorem sub_filter {m l : List Nat} (h : l.Sublist m) : m.Nodup → l = m.filter (fun c => decide (c ∈ l)) := by
  induction h with
  | slnil => intro _; rfl
  | @cons l m a h ih =>
    intro hn
    have hn2 := List.nodup_cons.mp hn
    have ha : a ∉ l := fun q => hn2.1 (h.subset q)
    rw [List.filter_cons_of_neg (by simp [ha])]
    exact ih hn2.2
  | @cons_cons l m a h ih =>
    intro hn
    have hn2 := List.nodup_cons.mp hn
    rw [List.filter_cons_of_pos (by simp)]
    have e := ih hn2.2
    have e2 : m.filter (fun c => decide (c ∈ a :: l)) = m.filter (fun c => decide (c ∈ l)) := List.filter_congr fun c hc => by
      have hca : c ≠ a := fun q => hn2.1 (q ▸ hc)
      simp [hca]
    rw [e2, ← e]
theorem mk_nodup : mk.Nodup := by decide +kernel
theorem mk_len : mk.length = 52 := by decide +kernel
theorem isC_of {l : List Nat} (h : l.Sublist mk) : IsC (S l) := ⟨fun c => decide (c ∈ l), congrArg S (sub_filter h mk_nodup)⟩
theorem sub_step {l : List Nat} {i c : Nat} (h : l.Sublist (mk.take i)) (hc : mk[i]? = some c) : (l ++ [c]).Sublist (mk.take (i + 1)) ∧ l.Sublist (mk.take (i + 1)) := by
  have e : mk.take (i + 1) = mk.take i ++ [c] := by
    rw [List.take_add_one, hc]
    rfl
  rw [e]
  exact ⟨List.Sublist.append h (List.Sublist.refl _), h.trans (List.sublist_append_left _ _)⟩
def sg (c : Nat) : V := .str ⟨#[c]⟩
theorem joinL_one : ∀ l : List Nat, TL.joinL [] (l.map fun c => [c]) = l
  | [] => rfl
  | [c] => rfl
  | c :: d :: r => by
    have ih := joinL_one (d :: r)
    show [c] ++ [] ++ TL.joinL [] ((d :: r).map fun c => [c]) = c :: d :: r
    rw [ih]
    rfl
theorem join_signs (l : List Nat) : Txt.join (S []) (l.map fun c => S [c]) = S l := by
  have e := SX.join_S [] (l.map fun c => [c])
  rw [List.map_map] at e
  rw [joinL_one] at e
  exact e
def spOf : Sp := fun vs H Q _ => ∃ (p q : Addr) (y : V), vs = [.ref p, y] ∧ BagAt H p q ∧
  ((∃ l xs, y = .ref l ∧ l ≠ p ∧ H l = some (.lst xs) ∧ 0 < xs.length ∧ xs.length < 1000 ∧ ∀ H' x, Bar p H H' → BagAt H' p q → x ∈ xs → Q x H') ∨
   (∃ z : List Nat, y = .str (S z) ∧ 0 < z.length ∧ z.length < 1000 ∧ ∀ H' c, Bar p H H' → BagAt H' p q → c ∈ z → Q (sg c) H'))
def spContents : Sp := fun vs H Q _ => ∃ p q : Addr, vs = [.ref p] ∧ BagAt H p q ∧ ∀ H' z, Bar p H H' → BagAt H' p q → IsC z → Q (.str z) H'
theorem mk_at {i c : Nat} (h : (("ABCDEFGHIJKLMNOPQRSTUVWXYZabcdefghijklmnopqrstuvwxyz" : Str)).cps[i]? = some c) : mk[i]? = some c := by
  rw [marks_eq] at h
  rw [← List.getElem?_toArray]
  exact h
theorem arr_at {z : Str} {i c : Nat} (h : z.cps[i]? = some c) : z.cps.toList[i]? = some c := by
  rw [Array.getElem?_toList]
  exact h
/-- the signs of the first i that keep t -/
def filt (z : List Nat) (t : Nat → Bool) (i : Nat) : List V := ((z.take i).filter t).map sg
theorem filt_yes {z : List Nat} {t : Nat → Bool} {i c : Nat} (h : z[i]? = some c) (ht : t c = true) : filt z t (i + 1) = filt z t i ++ [sg c] := by
  unfold filt
  rw [List.take_add_one, h]
  show ((z.take i ++ [c]).filter t).map sg = _
  rw [List.filter_append, List.filter_cons_of_pos ht, List.filter_nil, List.map_append]
  rfl
theorem filt_no {z : List Nat} {t : Nat → Bool} {i c : Nat} (h : z[i]? = some c) (ht : t c = false) : filt z t (i + 1) = filt z t i := by
  unfold filt
  rw [List.take_add_one, h]
  show ((z.take i ++ [c]).filter t).map sg = _
  rw [List.filter_append, List.filter_cons_of_neg (by rw [ht]; exact Bool.false_ne_true), List.filter_nil, List.append_nil]
theorem filt_len {z : List Nat} {t : Nat → Bool} {i : Nat} : (filt z t i).length ≤ z.length := by
  unfold filt
  rw [List.length_map]
  exact Nat.le_trans (List.length_filter_le _ _) (by rw [List.length_take]; omega)
theorem filt_end {z : List Nat} {t : Nat → Bool} {n : Nat} (h : z.length ≤ n) : filt z t n = (z.filter t).map sg := by
  unfold filt
  rw [List.take_of_length_le h]
theorem sum_ones : ∀ l : List Nat, ((l.map fun c => S [c]).map (·.length)).sum = l.length
  | [] => rfl
  | c :: r => by
    have ih := sum_ones r
    show 1 + ((r.map fun c => S [c]).map (·.length)).sum = r.length + 1
    rw [ih]
    omega
theorem join_ok {K : PySem.W.Frag} {H : Hp} {p : Addr} {Q : VK} (l : List Nat) (hl : l.length ≤ 1000000) (hp : H p = some (.lst (l.map sg))) (q : Q (.str (S l)) H) :
    ∃ (a : Str) (p' : Addr) (ys : List Str), V.str "" = .str a ∧ [V.ref p] = [.ref p'] ∧ (SqL K H p' (ys.map V.str) ∨ SqT K H p' (ys.map V.str)) ∧ (ys.map (·.length)).sum + ys.length * a.length ≤ 16777216 ∧ Q (.str (Txt.join a ys)) H := by
  have e : ("" : Str) = S [] := by decide +kernel
  refine ⟨S [], p, l.map fun c => S [c], by rw [e], rfl, .inl (SqL.of ?_), ?_, ?_⟩
  · rw [List.map_map]
    exact hp
  · rw [sum_ones]
    show l.length + _ * 0 ≤ _
    omega
  · rw [join_signs]
    exact q
theorem mk_size : ("ABCDEFGHIJKLMNOPQRSTUVWXYZabcdefghijklmnopqrstuvwxyz" : Str).cps.size = 52 := by decide +kernel
/-! ### strings of marks -/
def spEither : Sp := fun vs H Q _ => ∃ a b : Str, vs = [.str a, .str b] ∧ ∀ H', Same H H' → Q (.str (sb fun c => mem a c || mem b c)) H'
def spBoth : Sp := fun vs H Q _ => ∃ a b : Str, vs = [.str a, .str b] ∧ a.length ≤ 1000000 ∧ ∀ H', Same H H' → Q (.str (S (a.cps.toList.filter fun c => mem b c))) H'
def spWithout : Sp := fun vs H Q _ => ∃ a b : Str, vs = [.str a, .str b] ∧ a.length ≤ 1000000 ∧ ∀ H', Same H H' → Q (.str (S (a.cps.toList.filter fun c => !mem b c))) H'
def spExactly : Sp := fun vs H Q _ => ∃ a b : Str, vs = [.str a, .str b] ∧ IsC a ∧ IsC b ∧ ∀ H', Same H H' → Q (.str (sb fun c => mem a c != mem b c)) H'
/-! ### own classes: is it the same object; the signs -/
structure EqC (K : PySem.W.Frag) (C : Addr) : Prop where
  ex : ∃ nm q N bs hdct sn sub ab col dd k0 k1 k2 k3 k5 newId, K.lookup C = some (excClassObj nm q C N bs [.type "object"] hdct sn sub ab col dd k0 k1 k2 k3 k5 newId) ∧
    PySem.W.nsOkIn K N = true ∧ PySem.W.nsIn K N "__eq__" = some none ∧ PySem.W.nsIn K N "__ne__" = some none
theorem EqC.inst {K : PySem.W.Frag} {C a dx : Addr} {h : Heap} (E : EqC K C) (X : K.In h) (e : h.get? a = some (PySem.W.instObj C dx)) : h.CmpInst a C [.type "object"] := by
  obtain ⟨nm, q, N, bs, hdct, sn, sub, ab, col, dd, k0, k1, k2, k3, k5, newId, h1, h2, h3, h4⟩ := E.ex
  exact ⟨_, nm, q, N, bs, hdct, sn, sub, ab, col, dd, k0, k1, k2, k3, k5, newId, h.nsMap N, e, rfl, X _ _ h1, .of_isNs (PySem.W.isNs_of_in X h2), PySem.W.nsMap_none_of_in X h2 h3, PySem.W.nsMap_none_of_in X h2 h4⟩
section
variable {X : Cx} {C : Addr}
theorem ins_at {pins : List (Addr × Obj)} {σ : L2.St} {H : Hp} {s : Shared} {a dx : Addr} {fs : List (Str × V)} (I : Inv X pins σ H s) (e : H a = some (.ins C dx fs)) : s.heap.get? a = some (PySem.W.instObj C dx) := by
  obtain ⟨_, _, _, e2, _⟩ := (show ObjOk X.prog X.w H s.heap a (.ins C dx fs) from I.hok a _ e)
  exact e2
def rSame (C : Addr) (f : Bool → Bool) : R2 := fun x y H Q => ∃ a b dx fs dx' fs', x = .ref a ∧ y = .ref b ∧ H a = some (.ins C dx fs) ∧ H b = some (.ins C dx' fs') ∧ Q (.bl (f (decide (a = b)))) H
theorem op_eqO (E : EqC X.K C) (hu : X.A.units + 1 < cLine) : OpR X (compareOp .Eq) (rSame C id) := by
  intro pins s σ H x y v u Q I rx ry h
  obtain ⟨a, b, dx, fs, dx', fs', rfl, rfl, ha, hb, q⟩ := h
  obtain rfl : v = Value.ref a := rx
  obtain rfl : u = Value.ref b := ry
  have e1 := E.inst I.kIn (ins_at I ha)
  have e2 := E.inst I.kIn (ins_at I hb)
  obtain ⟨hh, g, d, t, os⟩ := s
  by_cases c : a = b
  · subst c
    refine compareOp_eq_same PySem.F.cmp_object e1 (by omega) ⟨.bl true, H, I, rfl, ?_⟩
    rw [decide_eq_true rfl] at q
    exact q
  · refine compareOp_eq_other PySem.F.cmp_object PySem.F.cmp_object e1 e2 c (by omega) ⟨.bl false, H, I, rfl, ?_⟩
    rw [decide_eq_false c] at q
    exact q
theorem op_neO (E : EqC X.K C) (hu : X.A.units + 1 < cLine) : OpR X (compareOp .NotEq) (rSame C not) := by
  intro pins s σ H x y v u Q I rx ry h
  obtain ⟨a, b, dx, fs, dx', fs', rfl, rfl, ha, hb, q⟩ := h
  obtain rfl : v = Value.ref a := rx
  obtain rfl : u = Value.ref b := ry
  have e1 := E.inst I.kIn (ins_at I ha)
  have e2 := E.inst I.kIn (ins_at I hb)
  obtain ⟨hh, g, d, t, os⟩ := s
  by_cases c : a = b
  · subst c
    refine compareOp_ne_same PySem.F.cmp_object e1 hu ⟨.bl false, H, I, rfl, ?_⟩
    rw [decide_eq_true rfl] at q
    exact q
  · refine compareOp_ne_other PySem.F.cmp_object PySem.F.cmp_object e1 e2 c hu ⟨.bl true, H, I, rfl, ?_⟩
    rw [decide_eq_false c] at q
    exact q
/-- one sign of an own class: x op y, by its method -/
structure SignC (K : PySem.W.Frag) (C : Addr) (nm : Str) (f : Addr) : Prop where
  first : PySem.W.selfFirst K C = true
  at_ : PySem.W.findIn K (.ref C) nm = some (some (.ref f))
  fn : PySem.W.isFn K (.ref f) = true
def rSign (C : Addr) (sp : Sp) (E : XK) : R2 := fun x y H Q => ∃ a b dx fs dx' fs', x = .ref a ∧ y = .ref b ∧ H a = some (.ins C dx fs) ∧ H b = some (.ins C dx' fs') ∧ sp [.ref a, .ref b] H (fun v H' => (∃ c, v = .ref c) ∧ Q v H') E
theorem op_sign {CX : CXT} {k : Nat} {f : Addr} {fd : FuncData} {ps : List Str} {sp : Sp} {E : XK} {op : Operator} (S : SignC X.K C (PySem.dunder op.info.2) f) (F : FnOk X.prog X.w X.K X.mg X.base CX k f fd ps sp) (hr : Room k X.A) (hb : Binds X.K fd ps []) (hx : Passes CX X E) :
    OpR X (binaryOp op) (rSign C sp E) := by
  intro pins s σ H x y v u Q I rx ry h
  obtain ⟨a, b, dx, fs, dx', fs', rfl, rfl, ha, hb2, q⟩ := h
  obtain rfl : v = Value.ref a := rx
  obtain rfl : u = Value.ref b := ry
  obtain ⟨m, Fm⟩ := I.fr
  obtain ⟨mA, O, _, _, _, _⟩ := ins_get I.hok ha
  obtain ⟨od, J, _⟩ := O.look
  obtain ⟨mB, O2, _, _, _, _⟩ := ins_get I.hok hb2
  obtain ⟨od2, J2, _⟩ := O2.look
  refine PySem.W.binop_K Fm I.mod.kin J J2.type S.first S.at_ S.fn ?_
  refine wpAny_mono (run_fn F hr hb .nil hx I (us := [.ref a, .ref b]) (vs := [.ref a, .ref b]) (.cons rfl (.cons rfl .nil)) q) (fun r s' hq => ?_) fun _ _ e => e
  obtain ⟨z, H', I', rz, ⟨c, rfl⟩, q'⟩ := hq
  obtain rfl : r = Value.ref c := rz
  exact ⟨.ref c, H', I', rfl, q'⟩
end
/-! ### boxes -/
def boxF (z : Str) : List (Str × V) := [("contents", .str z)]
def BoxAt (C : Addr) (H : Hp) (a : Addr) (z : Str) : Prop := ∃ dx, H a = some (.ins C dx (boxF z))
theorem boxF_lk (z : Str) : (boxF z).lookup ("contents" : Str) = some (.str z) := by simp [boxF, List.lookup]
theorem boxF_put (z y : Str) : putF "contents" (.str y) (boxF z) = boxF y := by
  show (if ("contents" : Str) = "contents" then _ else _) = _
  rw [if_pos rfl]
  rfl
theorem boxF_new (y : Str) : putF "contents" (.str y) [] = boxF y := rfl
theorem boxF_no (z : Str) {m : Str} (h : ¬ m = "contents") : (boxF z).lookup m = none := by
  have e : (m == ("contents" : Str)) = false := by simpa using h
  simp [boxF, List.lookup, e]
theorem BoxAt.same {C a : Addr} {H H' : Hp} {z : Str} (h : BoxAt C H a z) (e : Same H H') : BoxAt C H' a z := by
  obtain ⟨dx, h⟩ := h
  exact ⟨dx, e _ _ h⟩
theorem BoxAt.bar {C a p : Addr} {H H' : Hp} {z : Str} (h : BoxAt C H a z) (e : Bar p H H') (n : a ≠ p) : BoxAt C H' a z := by
  obtain ⟨dx, h⟩ := h
  exact ⟨dx, e _ _ n h⟩
theorem BoxAt.ne {C a b : Addr} {H : Hp} {z : Str} (h : BoxAt C H a z) (hb : H b = none) : a ≠ b := by
  obtain ⟨dx, h⟩ := h
  exact ne_of_none h hb
theorem BoxAt.one {C a : Addr} {H : Hp} {y z : Str} (h : BoxAt C H a z) (h2 : BoxAt C H a y) : z = y := by
  obtain ⟨dx, h⟩ := h
  obtain ⟨dy, h2⟩ := h2
  rw [h] at h2
  have e := Option.some.inj h2
  injection e with _ _ e
  have e3 := congrArg (fun l : List (Str × V) => l.lookup ("contents" : Str)) e
  rw [boxF_lk, boxF_lk] at e3
  injection e3 with e3
  injection e3
theorem BoxAt.bag {C a p q : Addr} {H : Hp} {z : Str} (h : BoxAt C H a z) (hb : BagAt H p q) : a ≠ p := by
  obtain ⟨dx, h⟩ := h
  obtain ⟨c, s, i, ns, h1, _⟩ := hb
  exact ne_of h h1 (by intro e; cases e)
theorem BoxAt.bag2 {C a p q : Addr} {H : Hp} {z : Str} (h : BoxAt C H a z) (hb : BagAt H p q) : a ≠ q := by
  obtain ⟨dx, h⟩ := h
  obtain ⟨c, s, i, ns, _, h1, _⟩ := hb
  exact ne_of h h1 (by intro e; cases e)
/-- what the top says of Box -/
structure BoxC (K : PySem.W.Frag) (mg : Str → Option Value) (C : Addr) : Prop where
  cl : Cls K C
  nC : NoAttr K C "contents"
  gB : ∃ u, mg "Box" = some u ∧ RelV (.ref C) u
  eq : EqC K C
  ca : PySem.W.findIn K (.ref C) "__class__" = some (some (.builtin "object.__class__"))
  cn : PySem.W.specialIn K (.builtin "object.__class__") "__get__" = some (some (.builtin "getset_descriptor.__get__"))
  ct : PySem.W.takesIn K (.builtin "object.__class__") = some true
  cm : PySem.W.mroIn K C (.type "object") = some true
  kit : PySem.W.kitOne K (.ref C) (.ref C) = some true
theorem BoxC.ty {K : PySem.W.Frag} {mg : Str → Option Value} {C a dx : Addr} {H : Hp} {fs : List (Str × V)} (B : BoxC K mg C) (h : H a = some (.ins C dx fs)) : TyX K H (.ref a) (.ref C) :=
  .base (.ins h B.cl B.ca B.cn B.ct B.cm)
def spInit (C : Addr) : Sp := fun vs H Q _ => ∃ (a dx : Addr) (z : Str), vs = [.ref a, .str z] ∧ H a = some (.ins C dx []) ∧ IsC z ∧ ∀ H', Bar a H H' → BoxAt C H' a z → Q .non H'
def spBecome (C : Addr) : Sp := fun vs H Q _ => ∃ (a : Addr) (y z : Str), vs = [.ref a, .str z] ∧ BoxAt C H a y ∧ IsC z ∧ ∀ H', Bar a H H' → BoxAt C H' a z → Q .non H'
def spSign (C : Addr) (g : Bool → Bool → Bool) : Sp := fun vs H Q _ => ∃ (a b : Addr) (y z : Str), vs = [.ref a, .ref b] ∧ BoxAt C H a y ∧ BoxAt C H b z ∧ IsC y ∧ IsC z ∧
  ∀ H' c, Same H H' → H c = none → BoxAt C H' c (sb fun m => g (mem y m) (mem z m)) → Q (.ref c) H'
def spAre (K : PySem.W.Frag) : Sp := fun vs H Q _ => ∃ x : V, vs = [x] ∧ ((∃ z, x = .str z ∧ ∀ H', Same H H' → Q (.bl (decide (z = sb (mem z)))) H') ∨ (∃ t, TyX K H x (.type t) ∧ kitB t "str" = some false ∧ Q (.bl false) H))
def spChecked : Sp := fun vs H Q _ => ∃ z : Str, vs = [.str z] ∧ IsC z ∧ ∀ H', Same H H' → Q (.str z) H'
theorem isC_sb (p : Nat → Bool) : IsC (sb p) := ⟨p, rfl⟩
theorem IsC.len {z : Str} (h : IsC z) : z.length ≤ 52 := by
  obtain ⟨p, rfl⟩ := h
  exact sb_len p
/-- a part of contents is contents again -/
theorem IsC.filt {z : Str} (h : IsC z) (t : Nat → Bool) : S (z.cps.toList.filter t) = sb fun c => mem z c && t c := by
  obtain ⟨p, rfl⟩ := h
  show S ((mk.filter p).filter t) = S (mk.filter _)
  rw [List.filter_filter]
  refine congrArg S (List.filter_congr fun c hc => ?_)
  rw [mem_sb, decide_eq_true hc, Bool.true_and, Bool.and_comm]
/-! ### signs, by their method, in short -/
structure Sgn (P : Program) (w : World) (K : PySem.W.Frag) (mg : Str → Option Value) (base : Heap) (k : Nat) (C : Addr) (op : Operator) (sp : Sp) : Prop where
  ex : ∃ (f : Addr) (fd : FuncData) (ps : List Str), SignC K C (PySem.dunder op.info.2) f ∧ FnOk P w K mg base CX0 k f fd ps sp ∧ Binds K fd ps []
theorem op_sgn {X : Cx} {k j : Nat} {C : Addr} {op : Operator} {sp : Sp} (S : Sgn X.prog X.w X.K X.mg X.base k C op sp) (hr : Room j X.A) (hk : k ≤ j) : OpR X (binaryOp op) (rSign C sp E0) := by
  obtain ⟨f, fd, ps, h1, h2, h3⟩ := S.ex
  exact op_sign h1 h2 (hr.mono hk) h3 pass0
section
variable {σ : L2.St} {H : Hp} {t u c : TT} {a b : Bool} {D : Ends} {t1 t2 : TS}
theorem ans_orB (h1 : Ans t σ H a) (h2 : Ans u σ H b) : Ans (tOr t u) σ H (a || b) := fun Q q => h1 _ (by
  cases a with
  | true => exact iteT q
  | false => exact iteF (h2 _ q))
theorem st_if (h : Ans c σ H b) (q : if b = true then t1 D σ H else t2 D σ H) : tIfS c t1 t2 D σ H := h _ q
end
/-! ### what is due -/
def gs (s : Nat) (x y : Bool) : Bool := if s = 124 then x || y else if s = 38 then x && y else if s = 94 then x != y else x && !y
def isSign (s : Nat) : Prop := s = 124 ∨ s = 38 ∨ s = 94 ∨ s = 45
def spDue : Sp := fun vs H Q _ => ∃ (s : Nat) (a b : Str), vs = [.str (S [s]), .str a, .str b] ∧ isSign s ∧ Q (.str (sb fun c => gs s (mem a c) (mem b c))) H
def spSigned (C : Addr) : Sp := fun vs H Q _ => ∃ (s : Nat) (a b : Addr) (y z : Str), vs = [.str (S [s]), .ref a, .ref b] ∧ isSign s ∧ BoxAt C H a y ∧ BoxAt C H b z ∧ IsC y ∧ IsC z ∧
  ∀ H' c, Same H H' → H c = none → BoxAt C H' c (sb fun m => gs s (mem y m) (mem z m)) → Q (.ref c) H'
theorem due_bool {s : Nat} (hs : isSign s) (x y : Bool) :
    (((decide (V.str (S [s]) = V.str "|") && decide ((0 : Int) < (if x then 1 else 0) + (if y then 1 else 0))) || ((decide (V.str (S [s]) = V.str "&") && decide (V.int ((if x then 1 else 0) + (if y then 1 else 0)) = V.int 2)) || (decide (V.str (S [s]) = V.str "^") && decide (V.int ((if x then 1 else 0) + (if y then 1 else 0)) = V.int 1)))) = (gs s x y && !decide (s = 45))) ∧
    ((decide (V.str (S [s]) = V.str "-") && (x && !y)) = (gs s x y && decide (s = 45))) := by
  rcases hs with rfl | rfl | rfl | rfl <;> cases x <;> cases y <;> decide +kernel
def spRight (C : Addr) : Sp := fun vs H Q _ => ∃ (s : Nat) (a b : Addr) (y z l : Str), vs = [.str (S [s]), .ref a, .ref b, .str l] ∧ isSign s ∧ BoxAt C H a y ∧ BoxAt C H b z ∧ IsC y ∧ IsC z ∧ IsC l ∧
  ∀ H', (∀ x o, x ≠ a → x ≠ b → H x = some o → H' x = some o) → BoxAt C H' a y → BoxAt C H' b z → Q (.bl true) H'
theorem scal_str (a b : Str) : scal (.str a) (.str b) = true := rfl
theorem dec_str_same (z : Str) : decide (V.str z = V.str z) = true := decide_eq_true rfl
theorem if_join {b : Bool} {t1 t2 : TS} {D : Ends} {σ : L2.St} {H : Hp} (C : L2.St → Hp → Prop) (h1 : b = true → ∀ nx' : L2.St → Hp → Prop, (∀ σ' H', C σ' H' → nx' σ' H') → t1 { D with nx := nx' } σ H)
    (h2 : b = false → ∀ nx' : L2.St → Hp → Prop, (∀ σ' H', C σ' H' → nx' σ' H') → t2 { D with nx := nx' } σ H) (h : ∀ σ' H', C σ' H' → D.nx σ' H') : if b = true then t1 D σ H else t2 D σ H := by
  cases b with
  | true => exact iteT (h1 rfl D.nx h)
  | false => exact iteF (h2 rfl D.nx h)
theorem same_made {H H' : Hp} {x dx : Addr} {o o' : HO} (nx : H x = none) (nd : H dx = none) (b : Bar x (upd (upd H dx o) x o') H') : Same H H' := fun c u e => by
  have n1 : c ≠ x := ne_of_none e nx
  refine b c u n1 ?_
  rw [upd_ne n1, upd_ne (ne_of_none e nd)]
  exact e
/-- a change at a place that H0 does not know -/
theorem same_bar {H0 H H' : Hp} {p : Addr} (s : Same H0 H) (n : H0 p = none) (b : Bar p H H') : Same H0 H' := fun c u e => b c u (ne_of_none e n) (s c u e)
def spLaw (K : PySem.W.Frag) : Sp := fun vs H Q _ => ∃ (a : Addr) (ns : List Int), vs = [.ref a] ∧ SqL K H a (ns.map V.int) ∧ ns.length ≤ 63 ∧ ∀ H', Q (.bl true) H'
theorem calOf {P : Program} {w : World} {K : PySem.W.Frag} {mg : Str → Option Value} {base : Heap} {k : Nat} {x q : Str} {st : Stmt} {f : Addr} {fd : FuncData} {ps : List Str} {sp : Sp} (F : L2.Fun K x q st f fd) (g : mg x = some (.ref f)) (b : Binds K fd ps [])
    (ok : FnOk P w K mg base CX0 k f fd ps sp) : C8.Cal P w K mg base k x sp [] := ⟨f, fd, ps, [], ok, g, F.kp, b, .nil⟩
theorem kit_self {K : PySem.W.Frag} {C : Addr} : PySem.W.kitOne K (.ref C) (.ref C) = some true := by
  unfold PySem.W.kitOne
  rw [if_pos (beq_self_eq_true _)]
theorem nsOk_of {K : PySem.W.Frag} {N : Addr} {c : Value} {d : Option Addr} {es : Array DictEntry} {n : Nat} {sl : Array (Option Value)} (l : K.lookup N = some ⟨c, d, .dict es n, sl⟩)
    (h : (es.toList.all fun e => match e.key with | .str _ _ => true | _ => false) = true) : PySem.W.nsOkIn K N = true := by
  unfold PySem.W.nsOkIn
  rw [l]
  show es.all _ = true
  rw [← Array.all_toList]
  exact h
section
open PySem.W PyProof.Rows PySem.Calls
variable {K : PySem.W.Frag} {C f : Addr}
theorem fills_in {M : Model} {h : Heap} {nm : String} {add : Bool} {cd : ClassData} {rest : List Value} (X : K.In h) (hc : clsIn K C = some cd) (hm : cd.mro = .ref C :: rest)
    (hs : findIn K (.ref C) (dunderI nm) = some (some (.ref f))) : Looks M h (fillsInplaceSlot (.ref C) nm add) true := by
  intro A Q E s k q
  unfold fillsInplaceSlot
  refine wpAny_bind ((looks_clsIn X hc).andThen (f := fun cd => pure cd.mro) .now A _ E s k ?_)
  rw [hm, List.anyM_cons]
  refine wpAny_bind (wpAny_bind (looks_findIn X hs A _ E s k ?_))
  dsimp only
  have own : (!ownNameWrapper (.ref f) (dunderI nm)) = true := rfl
  rw [if_pos own]
  exact wpAny_pure (by
    rw [if_pos rfl]
    exact wpAny_pure q)
theorem inplace_own {prog : Program} {w : World} {A : Around} {E : Value → Shared → Prop} {s : Shared} {x : Addr} {ox : Obj} {od : Option Obj} {op : Operator} {b : Value} {Q : Value → Shared → Prop} (X : K.In s.heap) (I : PySem.W.InstAt s.heap x ox C od) (hc : selfFirst K C = true)
    (hs : findIn K (.ref C) (dunderI op.info.2) = some (some (.ref f))) (hf : isFn K (.ref f) = true)
    (h : wpAny (model prog w) A (call (.ref f) [.ref x, b]) (PySem.W.CmpBack Q) E s) : wpAny (model prog w) A (inplaceOp op (.ref x) b) Q E s := by
  obtain ⟨cd, hcd, hm⟩ := any_some hc
  obtain ⟨rest, hm⟩ : ∃ rest, cd.mro = .ref C :: rest := by
    cases q : cd.mro with
    | nil =>
      rw [q] at hm
      cases hm
    | cons a r =>
      rw [q, List.head?_cons] at hm
      cases beq_iff_eq.mp hm
      exact ⟨r, rfl⟩
  unfold inplaceOp
  refine wpAny_holding ?_
  dsimp only
  refine wpAny_bind (I.type.here ?_)
  refine wpAny_bind ((fills_in X hcd hm hs).here ?_)
  rw [if_pos rfl]
  refine wpAny_bind (m := tryMethod (.ref x) _ b) ?_
  unfold tryMethod
  refine wpAny_bind (special_fn X I hs (beq_iff_eq.mp hf) (wpAny_mono h (fun v s' hv => ?_) fun _ _ e => e))
  cases v <;> first | exact hv.elim | exact wpAny_pure (wpAny_bind (wpAny_rule (wpAny_pure hv)))
end
/-- x op= y, by the class's own method -/
structure ISgn (P : Program) (w : World) (K : PySem.W.Frag) (mg : Str → Option Value) (base : Heap) (k : Nat) (C : Addr) (op : Operator) (sp : Sp) : Prop where
  ex : ∃ (f : Addr) (fd : FuncData) (ps : List Str), SignC K C (PySem.dunderI op.info.2) f ∧ FnOk P w K mg base CX0 k f fd ps sp ∧ Binds K fd ps []
theorem ip_sgn {X : Cx} {k j : Nat} {C : Addr} {op : Operator} {sp : Sp} (S : ISgn X.prog X.w X.K X.mg X.base k C op sp) (hr : Room j X.A) (hk : k ≤ j) : PIp X op (rSign C sp E0) := by
  obtain ⟨f, fd, ps, h1, h2, h3⟩ := S.ex
  intro pins s σ H x y v u Q I rx ry h
  obtain ⟨a, b, dx, fs, dx', fs', rfl, rfl, ha, hb2, q⟩ := h
  obtain rfl : v = Value.ref a := rx
  obtain rfl : u = Value.ref b := ry
  obtain ⟨mA, O, _, _, _, _⟩ := ins_get I.hok ha
  obtain ⟨od, J, _⟩ := O.look
  refine inplace_own I.kIn J h1.first h1.at_ h1.fn ?_
  refine wpAny_mono (run_fn h2 (hr.mono hk) h3 .nil pass0 I (us := [.ref a, .ref b]) (vs := [.ref a, .ref b]) (.cons rfl (.cons rfl .nil)) q) (fun r s' hq => ?_) fun _ _ e => e
  obtain ⟨z, H', I', rz, ⟨c, rfl⟩, q'⟩ := hq
  obtain rfl : r = Value.ref c := rz
  exact ⟨.ref c, H', I', rfl, q'⟩
def spISign (C : Addr) (g : Bool → Bool → Bool) : Sp := fun vs H Q _ => ∃ (a b : Addr) (y z : Str), vs = [.ref a, .ref b] ∧ BoxAt C H a y ∧ BoxAt C H b z ∧ IsC y ∧ IsC z ∧
  ∀ H', Bar a H H' → BoxAt C H' a (sb fun m => g (mem y m) (mem z m)) → Q (.ref a) H'
/-- rows[j] in rows[j] op= .. -/
def rGetL (K : PySem.W.Frag) : V → V → Hp → VK → Prop := fun x y H Q => ∃ (p : Addr) (xs : List V) (j : Nat) (v : V), x = .ref p ∧ y = .int (j : Int) ∧ SqL K H p xs ∧ xs[j]? = some v ∧ Q v H
theorem get_list {X : Cx} : PGet X (rGetL X.K) := by
  intro pins s σ H o i ov iv Q I ro ri h
  obtain ⟨p, xs, j, v, rfl, rfl, hq, he, q⟩ := h
  obtain rfl : ov = Value.ref p := ro
  obtain ⟨t, rfl⟩ := ri
  obtain ⟨its, r, pl, hz⟩ := I.list hq
  obtain ⟨w, ew, rw'⟩ := r.get he
  have hl := r.length
  have hn := line63
  have hj : j < xs.length := (List.getElem?_eq_some_iff.mp he).1
  refine wpAny_getItem_list pl.isList (by omega) (by omega) (by rw [Int.toNat_natCast]; simpa using ew) ⟨v, H, I, rw', q⟩
def spChanged (C : Addr) : Sp := fun vs H Q _ => ∃ (s : Nat) (a b : Addr) (y z : Str), vs = [.str (S [s]), .ref a, .ref b] ∧ isSign s ∧ BoxAt C H a y ∧ BoxAt C H b z ∧ IsC y ∧ IsC z ∧
  ∀ H', Bar a H H' → BoxAt C H' a (sb fun m => gs s (mem y m) (mem z m)) → Q (.ref a) H'
theorem ixN_nat {n j : Nat} (h : j < n) : ixN n (j : Int) = some j := by
  unfold ixN
  rw [if_pos (by omega), if_pos (by omega), Int.toNat_natCast]
theorem set_same {α : Type} {xs : List α} {k : Nat} {v : α} (h : xs[k]? = some v) : xs.set k v = xs := by
  refine List.ext_getElem? fun j => ?_
  rw [List.getElem?_set]
  obtain ⟨hk, e⟩ := List.getElem?_eq_some_iff.mp h
  by_cases c : k = j
  · subst c
    rw [if_pos rfl, if_pos hk, h]
  · rw [if_neg c]
def spChangeItem (C : Addr) : Sp := fun vs H Q _ => ∃ (s : Nat) (r a b : Addr) (k : Nat) (xs : List V) (y z : Str), vs = [.str (S [s]), .ref r, .int (k : Int), .ref b] ∧ isSign s ∧ H r = some (.lst xs) ∧ xs[k]? = some (.ref a) ∧ BoxAt C H a y ∧ BoxAt C H b z ∧ IsC y ∧ IsC z ∧
  ∀ H', Bar a H H' → BoxAt C H' a (sb fun m => gs s (mem y m) (mem z m)) → Q .non H'
/-- boxes and their contents, by place -/
def Boxes (C : Addr) (H : Hp) (bs : List Addr) (zs : List Str) : Prop := bs.length = zs.length ∧ ∀ (i : Nat) b z, bs[i]? = some b → zs[i]? = some z → BoxAt C H b z
theorem Boxes.same {C : Addr} {H H' : Hp} {bs : List Addr} {zs : List Str} (h : Boxes C H bs zs) (e : Same H H') : Boxes C H' bs zs := ⟨h.1, fun i b z h1 h2 => (h.2 i b z h1 h2).same e⟩
theorem Boxes.bar {C p : Addr} {H H' : Hp} {bs : List Addr} {zs : List Str} (h : Boxes C H bs zs) (e : Bar p H H') (n : p ∉ bs) : Boxes C H' bs zs :=
  ⟨h.1, fun i b z h1 h2 => (h.2 i b z h1 h2).bar e fun q => n (q ▸ List.mem_of_getElem? h1)⟩
theorem Boxes.set {C b : Addr} {H H' : Hp} {bs : List Addr} {zs : List Str} {i : Nat} {z : Str} (h : Boxes C H bs zs) (nd : bs.Nodup) (hb : bs[i]? = some b) (e : Bar b H H') (n : BoxAt C H' b z) : Boxes C H' bs (zs.set i z) := by
  refine ⟨by rw [List.length_set]; exact h.1, fun j c y h1 h2 => ?_⟩
  rw [List.getElem?_set] at h2
  by_cases q : i = j
  · subst q
    rw [if_pos rfl] at h2
    split at h2
    · rw [hb] at h1
      cases h1
      cases h2
      exact n
    · cases h2
  · rw [if_neg q] at h2
    refine (h.2 j c y h1 h2).bar e fun r => q ?_
    rw [r] at h1
    obtain ⟨hi, ei⟩ := List.getElem?_eq_some_iff.mp hb
    obtain ⟨hj, ej⟩ := List.getElem?_eq_some_iff.mp h1
    exact (List.getElem_inj nd).mp (ei.trans ej.symm)
theorem Boxes.at_ {C : Addr} {H : Hp} {bs : List Addr} {zs : List Str} {i : Nat} (h : Boxes C H bs zs) (hi : i < bs.length) : ∃ b z, bs[i]? = some b ∧ zs[i]? = some z ∧ BoxAt C H b z := by
  have hj : i < zs.length := h.1 ▸ hi
  exact ⟨bs[i], zs[i], List.getElem?_eq_getElem hi, List.getElem?_eq_getElem hj, h.2 i _ _ (List.getElem?_eq_getElem hi) (List.getElem?_eq_getElem hj)⟩
theorem get_snoc {α : Type} {l : List α} {x y : α} {i : Nat} (h : (l ++ [x])[i]? = some y) : l[i]? = some y ∨ (i = l.length ∧ y = x) := by
  by_cases c : i < l.length
  · rw [List.getElem?_append_left c] at h
    exact .inl h
  · rw [List.getElem?_append_right (by omega)] at h
    have e : i - l.length = 0 := by
      cases q : i - l.length with
      | zero => rfl
      | succ n =>
        rw [q] at h
        cases h
    rw [e] at h
    exact .inr ⟨by omega, (Option.some.inj h).symm⟩
theorem Boxes.snoc {C b : Addr} {H : Hp} {bs : List Addr} {zs : List Str} {z : Str} (h : Boxes C H bs zs) (n : BoxAt C H b z) : Boxes C H (bs ++ [b]) (zs ++ [z]) := by
  refine ⟨by rw [List.length_append, List.length_append, h.1]; rfl, fun j c y h1 h2 => ?_⟩
  rcases get_snoc h1 with h1 | ⟨e1, rfl⟩
  · rcases get_snoc h2 with h2 | ⟨e2, rfl⟩
    · exact h.2 j c y h1 h2
    · have := (List.getElem?_eq_some_iff.mp h1).1
      have := h.1
      omega
  · rcases get_snoc h2 with h2 | ⟨e2, rfl⟩
    · have := (List.getElem?_eq_some_iff.mp h2).1
      have := h.1
      omega
    · exact n
theorem Boxes.mem {C b : Addr} {H : Hp} {bs : List Addr} {zs : List Str} (h : Boxes C H bs zs) (hb : b ∈ bs) : ∃ z, BoxAt C H b z := by
  obtain ⟨i, hi, rfl⟩ := List.getElem_of_mem hb
  obtain ⟨b', z, h1, h2, h3⟩ := h.at_ hi
  rw [List.getElem?_eq_getElem hi] at h1
  cases h1
  exact ⟨z, h3⟩
theorem map_at {α β : Type} {f : α → β} {l : List α} {i : Nat} {x : α} (h : l[i]? = some x) : (l.map f)[i]? = some (f x) := by
  rw [List.getElem?_map, h]
  rfl
theorem map_from {α β : Type} {f : α → β} {l : List α} {i : Nat} {y : β} (h : (l.map f)[i]? = some y) : ∃ x, l[i]? = some x ∧ y = f x := by
  rw [List.getElem?_map] at h
  cases e : l[i]? with
  | none =>
    rw [e] at h
    cases h
  | some x =>
    rw [e] at h
    exact ⟨x, rfl, (Option.some.inj h).symm⟩
theorem take_snoc {α : Type} {l : List α} {i : Nat} {x : α} (h : l[i]? = some x) : l.take (i + 1) = l.take i ++ [x] := by
  rw [List.take_add_one, h]
  rfl
theorem Boxes.notin {C l : Addr} {H : Hp} {bs : List Addr} {zs : List Str} {xs : List V} (h : Boxes C H bs zs) (hl : H l = some (.lst xs)) : l ∉ bs := fun m => by
  obtain ⟨z, dx, e⟩ := h.mem m
  rw [hl] at e
  cases e
theorem Boxes.notin2 {C p q : Addr} {H : Hp} {bs : List Addr} {zs : List Str} (h : Boxes C H bs zs) (hB : BagAt H p q) : p ∉ bs ∧ q ∉ bs := by
  obtain ⟨c, s, i, ns, h1, h2, _⟩ := hB
  exact ⟨h.notin h1, h.notin h2⟩
/-- the state of a law with boxes and their due contents, in two lists -/
structure Two (C : Addr) (H0 : Hp) (p q tl bl : Addr) (bs : List Addr) : Prop where
  np : H0 p = none
  nt : H0 tl = none
  nb : H0 bl = none
  nbs : ∀ b ∈ bs, H0 b = none
  tp : tl ≠ p
  tq : tl ≠ q
  bp : bl ≠ p
  bq : bl ≠ q
  tb : tl ≠ bl
  nd : bs.Nodup
structure TwoAt (C : Addr) (H0 : Hp) (p q tl bl : Addr) (bs : List Addr) (zs : List Str) (H : Hp) : Prop where
  sm : Same H0 H
  bag : BagAt H p q
  t : H tl = some (.lst (zs.map V.str))
  b : H bl = some (.lst (bs.map V.ref))
  bx : Boxes C H bs zs
  ic : ∀ z ∈ zs, IsC z
theorem TwoAt.draw {C : Addr} {H0 H H' : Hp} {p q tl bl : Addr} {bs : List Addr} {zs : List Str} (h : TwoAt C H0 p q tl bl bs zs H) (w : Two C H0 p q tl bl bs) (b : Bar p H H') (hB : BagAt H' p q) : TwoAt C H0 p q tl bl bs zs H' :=
  ⟨same_bar h.sm w.np b, hB, b _ _ w.tp h.t, b _ _ w.bp h.b, h.bx.bar b (h.bx.notin2 h.bag).1, h.ic⟩
theorem TwoAt.same {C : Addr} {H0 H H' : Hp} {p q tl bl : Addr} {bs : List Addr} {zs : List Str} (h : TwoAt C H0 p q tl bl bs zs H) (s : Same H H') : TwoAt C H0 p q tl bl bs zs H' :=
  ⟨h.sm.trans s, h.bag.same s, s _ _ h.t, s _ _ h.b, h.bx.same s, h.ic⟩
theorem lc_yes {A B : Hp → Prop} {σ : L2.St} {H : Hp} (h : A H) : tYes σ H (fun b H3 => if b = true then A H3 else B H3) := @iteT (A H) (B H) h
theorem TwoAt.change {C : Addr} {H0 H H' : Hp} {p q tl bl b : Addr} {bs : List Addr} {zs : List Str} {m : Nat} {z : Str} (w : Two C H0 p q tl bl bs) (sm : Same H0 H) (bag : BagAt H p q) (t : H tl = some (.lst ((zs.set m z).map V.str))) (hb : H bl = some (.lst (bs.map V.ref)))
    (bx : Boxes C H bs zs) (ic : ∀ z ∈ zs, IsC z) (hz : IsC z) (hm : bs[m]? = some b) (e : Bar b H H') (n : BoxAt C H' b z) : TwoAt C H0 p q tl bl bs (zs.set m z) H' := by
  have mb := List.mem_of_getElem? hm
  have ne : ∀ {x}, x ∉ bs → x ≠ b := fun h q => h (q ▸ mb)
  have n2 := bx.notin2 bag
  refine ⟨same_bar sm (w.nbs b mb) e, bag.bar e (ne n2.1) (ne n2.2), e _ _ (ne (bx.notin t)) t, e _ _ (ne (bx.notin hb)) hb, bx.set w.nd hm e n, fun y hy => ?_⟩
  rcases List.mem_or_eq_of_mem_set hy with h | h
  · exact ic y h
  · rw [h]
    exact hz
theorem sign_of {y : V} (h : y ∈ [V.str "|", V.str "&", V.str "-", V.str "^"]) : ∃ s, y = .str (S [s]) ∧ isSign s := by
  simp only [List.mem_cons, List.not_mem_nil, or_false] at h
  rcases h with rfl | rfl | rfl | rfl
  · exact ⟨124, rfl, .inl rfl⟩
  · exact ⟨38, rfl, .inr (.inl rfl)⟩
  · exact ⟨45, rfl, .inr (.inr (.inr rfl))⟩
  · exact ⟨94, rfl, .inr (.inr (.inl rfl))⟩
end WB

set_option Elab.async false
set_option linter.all false
set_option maxRecDepth 100000
set_option maxHeartbeats 4000000
namespace WB
open PySem L2 PyProof.Rows
theorem vals_one {x : V} {us : List Value} (r : Vals [x] us) : ∃ u, us = [u] ∧ RelV x u := by
  cases r with
  | cons r1 r2 =>
    cases r2
    exact ⟨_, rfl, r1⟩
section
variable {X : Cx} {CX : CXT} {k j : Nat} {f C : Addr} {fd : FuncData} {ps : List Str} {sp : Sp} {E : XK}
theorem run_below {A : Around} {pins : List (Addr × Obj)} {σ : L2.St} {H : Hp} {s : Shared} {Q : VK} {us : List Value} {vs : List V} (F : FnOk X.prog X.w X.K X.mg X.base CX k f fd ps sp) (hr : Room k A) (e0 : Env0 X.prog X.w X.K X.mg X.base A X.stack s H)
    (hb : Binds X.K fd ps []) (hx : Passes CX X E) (I : Inv X pins σ H s) (r : Vals vs us) (h : sp vs H Q E) : wpAny (model X.prog X.w) A (call (.ref f) us) (EP X pins σ Q) X.xe s := by
  have hl : (us ++ ([] : List Value)).length = ps.length := by
    rw [List.append_nil, ← r.length]
    exact F.len _ _ _ _ h
  have hb2 := hb s us I.kIn hl
  rw [List.append_nil] at hb2
  refine wpAny_call (codeAny_mono (F.run A X.stack s H ⟨us, []⟩ us vs Q E hr e0 hb2 r h) fun r s' hq => ?_)
  cases r with
  | error er => exact hx pins σ H s er s' I hq
  | ok fl =>
    cases fl with
    | ret u => exact I.after hq
    | next => exact hq.elim
    | brk => exact hq.elim
    | cont => exact hq.elim
/-- what the class has under a name: a def that keeps its promise -/
structure Own (P : Program) (w : World) (K : PySem.W.Frag) (mg : Str → Option Value) (base : Heap) (k : Nat) (C : Addr) (nm : Str) (sp : Sp) : Prop where
  ex : ∃ (f : Addr) (fd : FuncData) (ps : List Str), PySem.W.findIn K (.ref C) nm = some (some (.ref f)) ∧ PySem.W.isFn K (.ref f) = true ∧ FnOk P w K mg base CX0 k f fd ps sp ∧ Binds K fd ps []
def rLenO (C : Addr) (sp : Sp) (E : XK) : List V → Hp → VK → Prop := fun xs H Q => ∃ a dx fs, xs = [.ref a] ∧ H a = some (.ins C dx fs) ∧ sp [.ref a] H (fun v H' => ∃ n : Nat, v = .int n ∧ n < 1000000 ∧ Q v H') E
theorem call_lenO (O : Own X.prog X.w X.K X.mg X.base k C "__len__" sp) (hr0 : Room j X.A) (hk : k + 1 ≤ j) : CallR X (.builtin "len") (rLenO C sp E0) := by
  obtain ⟨f, fd, ps, h1, h2, F, hb⟩ := O.ex
  have hr := hr0.mono hk
  intro pins s σ H xs us Q I r h
  obtain ⟨a, dx, fs, rfl, ha, q⟩ := h
  obtain ⟨u, rfl, r1⟩ := vals_one r
  obtain rfl : u = Value.ref a := r1
  obtain ⟨m, Fm⟩ := I.fr
  obtain ⟨mA, O', _, _, _, _⟩ := ins_get I.hok ha
  obtain ⟨od, J, _⟩ := O'.look
  refine PySem.W.len_K Fm I.mod.kin J h1 h2 ?_
  refine wpAny_mono (run_below F hr.in1 I.env0.in1 hb pass0 I (us := [.ref a]) (.cons (show RelV (.ref a) (.ref a) from rfl) .nil) q) (fun v s' hq => ?_) fun _ _ e => e
  obtain ⟨z, H', I', rz, ⟨n, rfl, hn, q'⟩⟩ := hq
  obtain ⟨t, rfl⟩ := rz
  exact ⟨⟨by omega, by omega⟩, ⟨.int n, H', I'.tok _, ⟨_, rfl⟩, q'⟩⟩
def rReprO (C : Addr) (sp : Sp) (E : XK) : List V → Hp → VK → Prop := fun xs H Q => ∃ a dx fs, xs = [.ref a] ∧ H a = some (.ins C dx fs) ∧ sp [.ref a] H (fun v H' => (∃ z, v = .str z) ∧ Q v H') E
theorem call_reprO (O : Own X.prog X.w X.K X.mg X.base k C "__repr__" sp) (hr0 : Room j X.A) (hk : k + 1 ≤ j) : CallR X (.builtin "repr") (rReprO C sp E0) := by
  obtain ⟨f, fd, ps, h1, h2, F, hb⟩ := O.ex
  have hr := hr0.mono hk
  intro pins s σ H xs us Q I r h
  obtain ⟨a, dx, fs, rfl, ha, q⟩ := h
  obtain ⟨u, rfl, r1⟩ := vals_one r
  obtain rfl : u = Value.ref a := r1
  obtain ⟨m, Fm⟩ := I.fr
  obtain ⟨mA, O', _, _, _, _⟩ := ins_get I.hok ha
  obtain ⟨od, J, _⟩ := O'.look
  refine PySem.W.repr_K (hr.in1).units0 Fm I.mod.kin J h1 h2 ?_
  refine wpAny_mono (run_below F hr.in1 I.env0.in1 hb pass0 I (us := [.ref a]) (.cons (show RelV (.ref a) (.ref a) from rfl) .nil) q) (fun v s' hq => ?_) fun _ _ e => e
  obtain ⟨z, H', I', rz, ⟨⟨y, rfl⟩, q'⟩⟩ := hq
  obtain ⟨t, rfl⟩ := rz
  exact ⟨.str y, H', I', ⟨_, rfl⟩, q'⟩
theorem call_strO (O : Own X.prog X.w X.K X.mg X.base k C "__str__" sp) (hr0 : Room j X.A) (hk : k + 2 ≤ j) : CallR X (.type "str") (rReprO C sp E0) := by
  obtain ⟨f, fd, ps, h1, h2, F, hb⟩ := O.ex
  have hr := hr0.mono hk
  intro pins s σ H xs us Q I r h
  obtain ⟨a, dx, fs, rfl, ha, q⟩ := h
  obtain ⟨u, rfl, r1⟩ := vals_one r
  obtain rfl : u = Value.ref a := r1
  obtain ⟨mA, O', _, _, _, _⟩ := ins_get I.hok ha
  obtain ⟨od, J, _⟩ := O'.look
  refine PySem.W.kso_call (hr.in1.in1).units0 I.kIn J h1 h2 ?_
  refine wpAny_mono (run_below F hr.in1.in1 I.env0.in1.in1 hb pass0 I (us := [.ref a]) (.cons (show RelV (.ref a) (.ref a) from rfl) .nil) q) (fun v s' hq => ?_) fun _ _ e => e
  obtain ⟨z, H', I', rz, ⟨⟨y, rfl⟩, q'⟩⟩ := hq
  obtain ⟨t, rfl⟩ := rz
  exact ⟨.str y, H', I', ⟨_, rfl⟩, q'⟩
def rInO (C : Addr) (sp : Sp) (E : XK) (g : Bool → Bool) : R2 := fun x y H Q => ∃ a dx fs, y = .ref a ∧ H a = some (.ins C dx fs) ∧ sp [.ref a, x] H (fun v H' => ∃ b, v = .bl b ∧ Q (.bl (g b)) H') E
theorem op_inO (O : Own X.prog X.w X.K X.mg X.base k C "__contains__" sp) (hr0 : Room j X.A) (hk : k ≤ j) : OpR X (compareOp .In) (rInO C sp E0 id) := by
  obtain ⟨f, fd, ps, h1, h2, F, hb⟩ := O.ex
  have hr := hr0.mono hk
  intro pins s σ H x y v u Q I rx ry h
  obtain ⟨a, dx, fs, rfl, ha, q⟩ := h
  obtain rfl : u = Value.ref a := ry
  obtain ⟨m, Fm⟩ := I.fr
  obtain ⟨mA, O', _, _, _, _⟩ := ins_get I.hok ha
  obtain ⟨od, J, _⟩ := O'.look
  refine PySem.W.in_K Fm I.mod.kin J h1 h2 ?_
  refine wpAny_mono (run_below F hr I.env0 hb pass0 I (us := [.ref a, v]) (.cons (show RelV (.ref a) (.ref a) from rfl) (.cons rx .nil)) q) (fun v s' hq => ?_) fun _ _ e => e
  obtain ⟨z, H', I', rz, ⟨b, rfl, q'⟩⟩ := hq
  obtain rfl : v = Value.bool b := rz
  exact wpAny_truthy_bool ⟨.bl b, H', I', rfl, q'⟩
theorem op_ninO (O : Own X.prog X.w X.K X.mg X.base k C "__contains__" sp) (hr0 : Room j X.A) (hk : k ≤ j) : OpR X (compareOp .NotIn) (rInO C sp E0 not) := by
  obtain ⟨f, fd, ps, h1, h2, F, hb⟩ := O.ex
  have hr := hr0.mono hk
  intro pins s σ H x y v u Q I rx ry h
  obtain ⟨a, dx, fs, rfl, ha, q⟩ := h
  obtain rfl : u = Value.ref a := ry
  obtain ⟨m, Fm⟩ := I.fr
  obtain ⟨mA, O', _, _, _, _⟩ := ins_get I.hok ha
  obtain ⟨od, J, _⟩ := O'.look
  refine PySem.W.notIn_K Fm I.mod.kin J h1 h2 ?_
  refine wpAny_mono (run_below F hr I.env0 hb pass0 I (us := [.ref a, v]) (.cons (show RelV (.ref a) (.ref a) from rfl) (.cons rx .nil)) q) (fun v s' hq => ?_) fun _ _ e => e
  obtain ⟨z, H', I', rz, ⟨b, rfl, q'⟩⟩ := hq
  obtain rfl : v = Value.bool b := rz
  exact wpAny_truthy_bool ⟨.bl (!b), H', I', rfl, q'⟩
/-- a property of the class -/
structure OwnProp (P : Program) (w : World) (K : PySem.W.Frag) (mg : Str → Option Value) (base : Heap) (k : Nat) (C : Addr) (nm : Str) (sp : Sp) : Prop where
  ex : ∃ (p g : Addr) (fd : FuncData) (ps : List Str), PropOf K C nm p g ∧ FnOk P w K mg base CX0 k g fd ps sp ∧ Binds K fd ps []
theorem pe_propO {nm : Str} {e : Expr} {ta : TE} {pos : Pos} (O : OwnProp X.prog X.w X.K X.mg X.base k C nm sp) (c : Cls X.K C) (hr : Room j X.A) (hk : k + 1 ≤ j) (he : PE X e ta)
    (hab : attributeBase e nm X.env (eval e X.env) = eval e X.env) : PE X (.Attribute e nm pos) (tProp C sp [] E0 ta) := by
  obtain ⟨p, g, fd, ps, h1, F, hb⟩ := O.ex
  exact pe_prop he c h1 F (hr.mono hk) hb .nil pass0 hab
end
/-! ### any value -/
def NoStr (K : PySem.W.Frag) (H : Hp) (x : V) : Prop := ∃ t, TyX K H x (.type t) ∧ kitB t "str" = some false
def Thing (K : PySem.W.Frag) (H : Hp) (x : V) : Prop := (∃ z : Str, x = .str z ∧ z.length ≤ 1000) ∨ NoStr K H x
theorem noStr_non {K : PySem.W.Frag} {H : Hp} : NoStr K H .non := ⟨_, .base .non, by decide +kernel⟩
theorem noStr_bl {K : PySem.W.Frag} {H : Hp} {b : Bool} : NoStr K H (.bl b) := ⟨_, .base (.bl b), by decide +kernel⟩
theorem noStr_int {K : PySem.W.Frag} {H : Hp} {i : Int} : NoStr K H (.int i) := ⟨_, .base (.int i), by decide +kernel⟩
theorem noStr_lst {K : PySem.W.Frag} {H : Hp} {a : Addr} {xs : List V} (h : H a = some (.lst xs)) : NoStr K H (.ref a) := ⟨_, .base (.lst h), by decide +kernel⟩
theorem noStr_tup {K : PySem.W.Frag} {H : Hp} {a : Addr} {xs : List V} (h : H a = some (.tup xs)) : NoStr K H (.ref a) := ⟨_, .base (.tup h), by decide +kernel⟩
/-- one of the marks, as a value -/
def hasV (z : Str) : V → Bool
  | .str y => match y.cps.toList with
    | [c] => mem z c
    | _ => false
  | _ => false
theorem hasV_noStr {K : PySem.W.Frag} {H : Hp} {x : V} (h : NoStr K H x) (z : Str) : hasV z x = false := by
  cases x with
  | str y =>
    obtain ⟨t, ty, k⟩ := h
    cases ty with
    | base b =>
      cases b
      exact absurd k (by decide +kernel)
  | non => rfl
  | bl b => rfl
  | int i => rfl
  | byt b => rfl
  | flt b => rfl
  | ref a => rfl
  | ty n => rfl
def spLen (C : Addr) : Sp := fun vs H Q _ => ∃ (a : Addr) (z : Str), vs = [.ref a] ∧ BoxAt C H a z ∧ z.length ≤ 1000 ∧ Q (.int (z.length : Nat)) H
def spHas (K : PySem.W.Frag) (C : Addr) : Sp := fun vs H Q _ => ∃ (a : Addr) (z : Str) (x : V), vs = [.ref a, x] ∧ BoxAt C H a z ∧ Thing K H x ∧ Q (.bl (hasV z x)) H
def plainB (z : Str) : Bool := z.cps.toList.all fun c => decide (97 ≤ c)
def spCross (C : Addr) : Sp := fun vs H Q _ => ∃ (a : Addr) (z : Str), vs = [.ref a] ∧ BoxAt C H a z ∧ IsC z ∧ ∀ H', Same H H' → Q (.bl (plainB z)) H'
def spWithin (C : Addr) : Sp := fun vs H Q _ => ∃ (a b : Addr) (y z : Str), vs = [.ref a, .ref b] ∧ BoxAt C H a y ∧ BoxAt C H b z ∧ IsC y ∧ ∀ H', Same H H' → Q (.bl (y.cps.toList.all fun c => mem z c)) H'
theorem isC_sub {z : Str} (h : IsC z) {c : Nat} (hc : c ∈ z.cps.toList) : c ∈ mk := by
  obtain ⟨p, rfl⟩ := h
  exact (List.mem_filter.mp hc).1
theorem upper_mk : ∀ c ∈ mk, Txt.isupper (S [c]) = !decide (97 ≤ c) := by decide +kernel
theorem filter_nil_all {z : List Nat} {t : Nat → Bool} : decide (z.filter (fun c => !t c) = []) = z.all t := by
  induction z with
  | nil => rfl
  | cons c r ih =>
    cases h : t c with
    | true =>
      rw [List.filter_cons_of_neg (by rw [h]; decide), List.all_cons, h, ih]
      rfl
    | false =>
      rw [List.filter_cons_of_pos (by rw [h]; rfl), List.all_cons, h, decide_eq_false (by simp)]
      rfl
theorem NoStr.mono {K : PySem.W.Frag} {H H' : Hp} {x : V} (h : NoStr K H x) (e : ∀ a o, x = .ref a → H a = some o → H' a = some o) : NoStr K H' x := by
  obtain ⟨t, ty, k⟩ := h
  refine ⟨t, ?_, k⟩
  generalize hT : Value.type t = T at ty
  cases ty with
  | base b =>
    cases b with
    | non => exact .base .non
    | bl b => exact .base (.bl b)
    | int i => exact .base (.int i)
    | str z => exact .base (.str z)
    | flt z => exact .base (.flt z)
    | lst h => exact .base (.lst (e _ _ rfl h))
    | frz h => exact .base (.frz (e _ _ rfl h))
    | tup h => exact .base (.tup (e _ _ rfl h))
    | dK h => exact .base (.dK (e _ _ rfl h))
    | dT h => exact .base (.dT (e _ _ rfl h))
    | ins h a b c d f => exact .base (.ins (e _ _ rfl h) a b c d f)
  | byt b => exact .byt b
  | set h => exact .set (e _ _ rfl h)
  | kList h c => exact .kList h c
  | kTuple h c => exact .kTuple h c
  | kDict h c => exact .kDict h c
  | fTuple h => exact .fTuple (e _ _ rfl h)
  | fDict h => exact .fDict (e _ _ rfl h)
theorem Thing.mono {K : PySem.W.Frag} {H H' : Hp} {x : V} (h : Thing K H x) (e : ∀ a o, x = .ref a → H a = some o → H' a = some o) : Thing K H' x := by
  rcases h with h | h
  · exact .inl h
  · exact .inr (h.mono e)
theorem cut_len {z : Str} {lo hi : Option Int} {n : Nat} (h : z.length ≤ n) : (cutS z lo hi).length ≤ n := Nat.le_trans (cutS_length z lo hi) h
def spPlus : Sp := fun vs H Q _ => ∃ (p q : Addr) (t : Str), vs = [.ref p, .str t] ∧ BagAt H p q ∧ IsC t ∧ ∀ H' z, Bar p H H' → BagAt H' p q → IsC z → Q (.str z) H'
def spAsked (K : PySem.W.Frag) : Sp := fun vs H Q _ => ∃ (p q : Addr) (t : Str), vs = [.ref p, .str t] ∧ BagAt H p q ∧ IsC t ∧ ∀ H' x, Bar p H H' → BagAt H' p q → Thing K H' x → Q x H'
def spHolds (K : PySem.W.Frag) : Sp := fun vs H Q _ => ∃ (t : Str) (x : V), vs = [.str t, x] ∧ IsC t ∧ Thing K H x ∧ Q (.bl (hasV t x)) H
def spRight4 (C : Addr) : Sp := fun vs H Q _ => ∃ (p q b : Addr) (t : Str), vs = [.ref p, .ref b, .str t] ∧ BagAt H p q ∧ BoxAt C H b t ∧ IsC t ∧ ∀ H', Bar p H H' → BagAt H' p q → Q (.bl true) H'
/-- the mark at a place is asked for -/
theorem hasV_sg {z : Str} {c : Nat} : hasV z (sg c) = mem z c := rfl
theorem hasV_none {z : Str} {x : V} (h : ∀ c ∈ z.cps.toList, x ≠ sg c) : hasV z x = false := by
  cases x with
  | str y =>
    unfold hasV
    simp only
    split
    · rename_i c hc
      have ey : y = ⟨#[c]⟩ := by
        rw [← SX.S_tl y, hc]
      cases q : mem z c with
      | false => rfl
      | true => exact absurd (show V.str y = sg c by rw [ey]; rfl) (h c (of_decide_eq_true q))
    · rfl
  | non => rfl
  | bl b => rfl
  | int i => rfl
  | byt b => rfl
  | flt b => rfl
  | ref a => rfl
  | ty n => rfl
theorem lay_strs : ∀ ns : List Nat, (∀ c ∈ ns, c < 1000) → PyData.canLayAll0 (ns.map fun c => PyData.str (S [c])) = true ∧ PyData.depthAll (ns.map fun c => PyData.str (S [c])) = 0
  | [], _ => ⟨rfl, rfl⟩
  | n :: r, h => by
    obtain ⟨h1, h2⟩ := lay_strs r fun c hc => h c (List.mem_cons_of_mem _ hc)
    refine ⟨?_, ?_⟩
    · show (PyData.canLay0 (.str (S [n])) && PyData.canLayAll0 (r.map _)) = true
      rw [h1, Bool.and_true]
      show (#[n] : Array Nat).all (fun c => decide (c < 0x110000)) = true
      have := h n List.mem_cons_self
      simp
      omega
    · show max (PyData.depth (.str (S [n]))) (PyData.depthAll (r.map _)) = 0
      rw [h2]
      rfl
theorem dp_strs {K : PySem.W.Frag} {H : Hp} : ∀ ns : List Nat, DpAll K H (ns.map sg) (ns.map fun c => PyData.str (S [c]))
  | [] => .nil
  | n :: r => .cons (.str _) (dp_strs r)
theorem shaped_strs {ns : List Nat} (h : ∀ c ∈ ns, c < 1000) : SeqAt.shaped (.list (ns.map fun c => PyData.str (S [c]))) = true := by
  obtain ⟨h1, h2⟩ := lay_strs ns h
  have e1 : PyData.canLay0 (.list (ns.map fun c => PyData.str (S [c]))) = true := h1
  have e2 : PyData.depth (.list (ns.map fun c => PyData.str (S [c]))) ≤ 64 := by
    show PyData.depthAll (ns.map _) + 1 ≤ 64
    omega
  unfold SeqAt.shaped
  rw [e1, decide_eq_true e2]
  rfl
theorem eqv_nil_strs (ns : List Nat) : PyData.eqv (.list (ns.map fun c => PyData.str (S [c]))) (.list []) = decide (ns = []) := by
  cases ns with
  | nil => rfl
  | cons n r =>
    rw [decide_eq_false (by simp)]
    rfl
theorem mk_small : ∀ c ∈ mk, c < 1000 := by decide +kernel
end WB

set_option Elab.async false
set_option linter.all false
set_option maxRecDepth 100000
set_option maxHeartbeats 4000000
namespace WB
open PySem L2 PyProof.Rows
/-! ### a def that is called where no repr is under way -/
structure FnG (P : Program) (w : World) (K : PySem.W.Frag) (mg : Str → Option Value) (base : Heap) (CX : CXT) (k : Nat) (f : Addr) (fd : FuncData) (ps : List Str) (sp : Sp) : Prop where
  len : ∀ vs H Q E, sp vs H Q E → vs.length = ps.length
  run : ∀ (A : Around) (outer : List Env) (s : Shared) (H : Hp) (args : Args) (us : List Value) (vs : List V) (Q : VK) (E : XK), A.guards = some [] → Room k A → Env0 P w K mg base A outer s H → BindsTo s fd args (ps.zip us) → Vals vs us → sp vs H Q E →
    codeAny (model P w) A (.call (.ref f) args) (CR CX outer P w H s Q E) s
section
variable {P : Program} {w : World} {K : PySem.W.Frag} {mg : Str → Option Value} {base : Heap}
theorem fn_g {x qual : Str} {st : Stmt} {f : Addr} {fd : FuncData} {N ps : List Str} {k : Nat} {sp : Sp} (F : Fun K x qual st f fd) (S : FnScope N ps (defScope st)) (len : ∀ vs H Q E, sp vs H Q E → vs.length = ps.length)
    (body : ∀ (cdv : Value) (A : Around) (outer : List Env) (s : Shared) (H : Hp) (vs : List V) (Q : VK) (E : XK), (A.deeper (envOfC qual (defScope st) s.heap.objs.size f cdv)).guards = some [] → Room k (A.deeper (envOfC qual (defScope st) s.heap.objs.size f cdv)) → sp vs H Q E →
      ∃ t, PSs (cxOf C8.CX0 P w K mg base N qual (defScope st) f cdv A outer s H E).nox (defBody st) t ∧ t { nx := fun _ H' => Q .non H', rt := Q } (start N vs) H) : FnG P w K mg base C8.CX0 (k + 1) f fd ps sp := by
  obtain ⟨oc, od, kV, doc, pm, an, cdv, ct, osl, rfl, lk, hcd⟩ := F.ex
  refine ⟨len, fun A outer s H args us vs Q E gd hr e0 hb r hsp => ?_⟩
  have hl := len _ _ _ _ hsp
  have under : ∀ b o, base.get? b = some o → s.heap.get? b = some o := fun b o e => (e0.bs b o e).1
  have KX : K.In s.heap := e0.mod.kin.keeps under
  have lim : s.heap.NoLimit := e0.mod.nolimit.keeps under
  have kind : ∀ y ∈ ps.zip us, (defScope st).names.lookup y.1 = some .local ∨ ((defScope st).names.lookup y.1 = some .cell ∧ ((cellsFrom (s.heap.objs.size + 1) (defScope st).names []).lookup y.1).isSome = true) := fun ⟨n, v⟩ hy =>
    (S.par n (List.of_mem_zip hy).1).imp id fun q => ⟨q, PySem.W.cellsFrom_some _ _ _ (.inl q)⟩
  refine codeAny_call_function hr.depth (KX _ _ lk) rfl S.co S.gen rfl (PySem.W.codeRec_of KX hcd) (hb _ _ _ _ ?_)
  refine wpAny_newFunctionEnv_cells S.kind kind fun env he s1 x => ?_
  subst he
  refine ⟨lim.keeps x.toInCall.keep, codeAny_func ?_⟩
  obtain ⟨t, ht, hq⟩ := body cdv A outer s H vs Q E gd (hr.deeper _) hsp
  have I : Inv (cxOf C8.CX0 P w K mg base N qual (defScope st) f cdv A outer s H E) [] (start N vs) H s1 := inv_start S hr.hd e0 hl r x
  refine wpAny_mono (ht.nox.run [] s1 (start N vs) H _ I hq) (fun fl s' hs => ?_) fun e s' hs => hs
  cases fl with
  | ret u =>
    obtain ⟨v, σ', H', J, rv, q⟩ := hs
    exact ⟨v, H', J.os, J.bare, J.base, J.hok, rv, q⟩
  | next =>
    obtain ⟨σ', H', J, q⟩ := hs
    exact ⟨.non, H', J.os, J.bare, J.base, J.hok, rfl, q⟩
  | brk =>
    obtain ⟨_, _, _, q⟩ := hs
    exact q.elim
  | cont =>
    obtain ⟨_, _, _, q⟩ := hs
    exact q.elim
end
/-- the law's own call, no repr under way -/
theorem law_g {P : Program} {w : World} {K : PySem.W.Frag} {mg mb : Str → Option Value} {k : Nat} {fa a : Addr} {fd : FuncData} {x : Str} {sp : Sp} {s₁ : Shared} {vs : List Value} {ns : List Int}
    (KX : K.In s₁.heap) (hns : s₁.heap.Ns mainGlobals mg) (hb : s₁.heap.Ns builtinsNs mb) (hbb : ∀ x : Str, x ≠ "__name__" → mb x = bootBuiltins x) (hlim : s₁.heap.NoLimit) (hg : s₁.gens = #[])
    (ha : s₁.heap.get? a = some { cls := .type "list", data := .seq vs.toArray }) (hi : IntsAre vs ns) (hl : ns.length ≤ sizeLine) (hr : Room k callerA)
    (F : ∀ base : Heap, K.In base → base.Ns mainGlobals mg → FnG P w K mg base C8.CX0 k fa fd [x] sp) (hbind : ∀ (s : Shared) (u : Value), BindsTo s fd ⟨[u], []⟩ [(x, u)])
    (hsp : ∀ H : Hp, Only H → SqL K H a (ns.map V.int) → sp [.ref a] H (fun v _ => v = .bl true) fun _ _ _ => False) :
    codeAny (model P w) callerA (.call (.ref fa) ⟨[.ref a], []⟩) (fun r s' => r = .ok (.ret (.bool true)) ∧ OldK s₁.heap s'.heap ∧ s'.os = s₁.os ∧ AllBare s'.gens) s₁ := by
  have rv := vals_ints hi
  have lenV := hi.length
  have core : ∀ H : Hp, SqL K H a (ns.map V.int) → HOk P w H s₁.heap → (H = (fun _ => none) ∨ (K.lookup a = none ∧ ∃ ob xs, H = fun b => if b = a then some (.frz ob (.lst xs)) else none)) →
      codeAny (model P w) callerA (.call (.ref fa) ⟨[.ref a], []⟩) (fun r s' => r = .ok (.ret (.bool true)) ∧ OldK s₁.heap s'.heap ∧ s'.os = s₁.os ∧ AllBare s'.gens) s₁ := by
    intro H hS hok hH
    have only : Only H := fun b => by
      rcases hH with rfl | ⟨_, ob, xs, rfl⟩
      · exact .inl rfl
      · by_cases c : b = a
        · exact .inr ⟨ob, xs, if_pos c⟩
        · exact .inl (if_neg c)
    have off : ∀ {b : Addr}, b ≠ a → H b = none := fun {b} n => by
      rcases hH with rfl | ⟨_, ob, xs, rfl⟩
      · rfl
      · exact if_neg n
    have low : ∀ {b : Addr} {o : Obj}, s₁.heap.get? b = some o → H b = none → (hidT s₁.heap H).get? b = some o := fun e n => hidT_get e n
    have isD : ∀ {b : Addr} {o : Obj} {es : Array DictEntry} {ep : Nat}, s₁.heap.get? b = some o → o.data = .dict es ep → b ≠ a := fun {b o es ep} e d z => by
      rw [z, ha] at e
      cases e
      have d' : Data.seq vs.toArray _ = Data.dict es ep := d
      cases d'
    have nsK : ∀ {b : Addr} {m : Str → Option Value}, s₁.heap.Ns b m → (hidT s₁.heap H).Ns b m := fun {b m} ⟨o, es, ep, e, d, r⟩ => ⟨o, es, ep, low e (off (isD e d)), d, r⟩
    have inB : K.In (hidT s₁.heap H) := fun b o e => low (KX b o e) (by
      rcases hH with rfl | ⟨n, _⟩
      · rfl
      · exact off fun z => by
          rw [z, n] at e
          cases e)
    have hM : Mod K mg (hidT s₁.heap H) := ⟨inB, nsK hns, ⟨mb, nsK hb, hbb⟩, let ⟨mc, h1, h2⟩ := hlim; ⟨mc, nsK h1, h2⟩⟩
    have e0 : Env0 P w K mg (hidT s₁.heap H) callerA [] s₁ H := ⟨rfl, hM, fun b o e => of_hidT e, Nat.le_of_eq (hidT_size _ _), trivial, fun b hb => absurd hb (List.not_mem_nil), hok, .of_eq hg⟩
    refine codeAny_mono ((F _ inB (nsK hns)).run callerA [] s₁ H ⟨[.ref a], []⟩ [.ref a] [.ref a] _ _ rfl hr e0 (hbind s₁ (.ref a)) (.cons rfl .nil) (hsp H only hS)) fun r s' h => ?_
    cases r with
    | error e => exact False.elim h
    | ok fl =>
      cases fl with
      | next => exact False.elim h
      | brk => exact False.elim h
      | cont => exact False.elim h
      | ret u =>
        obtain ⟨v, H', os, bare, un, hok', r', q⟩ := h
        obtain rfl : v = V.bl true := q
        obtain rfl : u = Value.bool true := r'
        refine ⟨rfl, OldK.of_keep fun b o e => ?_, os, bare⟩
        rcases only b with n | ⟨ob, xs, z⟩
        · exact un.keep b o e n (List.not_mem_nil) (List.not_mem_nil)
        · have z2 := un.frzs b ob _ z
          obtain ⟨e1, _⟩ := hok b _ z
          obtain ⟨e2, _⟩ := hok' b _ z2
          rw [e] at e1
          cases e1
          exact e2
  cases hk : K.lookup a with
  | some o =>
    have e := KX a o hk
    rw [ha] at e
    cases e
    exact core (fun _ => none) (.inr ⟨_, vs.toArray, _, hk, rfl, rfl, rfl, by rw [List.size_toArray, lenV]; exact hl, by simpa using rv⟩) (fun b u z => by cases z) (.inl rfl)
  | none =>
    refine core (fun b => if b = a then some (.frz { cls := .type "list", data := .seq vs.toArray } (.lst (ns.map V.int))) else none) (.inl (.inr ⟨{ cls := .type "list", data := .seq vs.toArray }, if_pos rfl⟩)) (fun b u z => ?_) (.inr ⟨hk, _, _, rfl⟩)
    by_cases hb : b = a
    · have z' := (if_pos hb).symm.trans z
      cases z'
      subst hb
      exact ⟨ha, by rw [List.length_map]; exact hl, vs, _, rv, ha⟩
    · have z' := (if_neg hb).symm.trans z
      cases z'
theorem walk_g {l : PySem.W.OpenLaw} {n k : Nat} {q : Program} {loose : List Str} {XP : (Str → Option Value) → Heap → Prop} {YP : World → Heap → Prop} {d : DefRec} {K : Params → PySem.W.Frag} {sp : World → Sp} {x : Str}
    (hn : l.most = some n) (hn2 : n ≤ sizeLine) (hdf : d.params.defaults = []) (hr : Room k callerA)
    (hY : ∀ (w : World) (h : Heap), YP w h → (K w.params).In h)
    (F : ∀ (w : World) (mg : Str → Option Value) (fa : Addr) (h : Heap), (K w.params).In h → h.Ns mainGlobals mg → mg d.name = some (.ref fa) →
      ∃ fd : FuncData, (∀ (s : Shared) (u : Value), BindsTo s fd ⟨[u], []⟩ [(x, u)]) ∧
        ∀ base : Heap, (K w.params).In base → base.Ns mainGlobals mg → FnG l.prog w (K w.params) mg base C8.CX0 k fa fd [x] (sp w))
    (hsp : ∀ (w : World) (H : Hp) (a : Addr) (ns : List Int), ns.length ≤ n → Only H → SqL (K w.params) H a (ns.map V.int) → sp w [.ref a] H (fun v _ => v = .bl true) fun _ _ _ => False) :
    PySem.W.WalkO q loose XP YP l.row.toRowW d [] (fun f vs => PySem.call f vs) := by
  refine Att.attach_call hn hdf fun w s₀ s₁ mg mb fa o pm cd doc a vs ns G Y ho hd hcd hmg hobj hints hlen hg => ?_
  have KX := hY w _ Y
  obtain ⟨fd, hb, hF⟩ := F w mg fa _ KX G.T.g hmg
  exact law_g KX G.T.g G.T.b G.T.builtins G.T.nolimit hg hobj hints (Nat.le_trans hlen hn2) hr hF hb fun H hO hS => hsp w H a ns hlen hO hS
/-! ### repr of data -/
structure OkD (d : PyData) : Prop where
  sh : d.showable = true
  nd : d.hasDict = false
  dp : d.depth ≤ 64
  sz : (∃ i, d = .int i) ∨ d.shown.length ≤ sizeLine
theorem OkD.len {d : PyData} (h : OkD d) (n : ∀ i, d ≠ .int i := by intro _ z; cases z) : d.shown.length ≤ sizeLine := h.sz.resolve_left fun ⟨i, e⟩ => n i e
def rReprD (K : PySem.W.Frag) : List V → Hp → VK → Prop := fun xs H Q => ∃ x d, xs = [x] ∧ Dp K H x d ∧ OkD d ∧ Q (.str d.shown) H
theorem call_reprD {X : Cx} (gd : X.A.guards = some []) (hu : X.A.units + 70 < cLine) : CallR X (.builtin "repr") (rReprD X.K) := by
  intro pins s σ H xs us Q I r h
  obtain ⟨x, d, rfl, hd, ok, q⟩ := h
  obtain ⟨u, rfl, r1⟩ := vals_one r
  obtain ⟨as, rd⟩ := Dp.reads I d x u hd r1
  cases hd with
  | non =>
    obtain rfl : u = Value.none := r1
    exact PySem.P.repr_of_none ⟨.str _, H, I.tok _, ⟨_, rfl⟩, q⟩
  | bl b =>
    obtain rfl : u = Value.bool b := r1
    exact PySem.P.repr_of_bool ⟨.str _, H, I.tok _, ⟨_, rfl⟩, q⟩
  | int i =>
    obtain ⟨t, rfl⟩ := r1
    exact PySem.P.repr_of_int (of_decide_eq_true ok.sh) ⟨.str _, H, I.tok _, ⟨_, rfl⟩, q⟩
  | str z =>
    obtain ⟨t, rfl⟩ := r1
    exact PySem.P.repr_of_str ⟨.str _, H, I.tok _, ⟨_, rfl⟩, q⟩ ok.len
  | lst h1 h2 =>
    rename_i a xs ds
    obtain rfl : u = Value.ref a := r1
    refine repr_of_reads' rd ok.sh (PyData.noDict_hsm ok.nd) gd (by have := ok.dp; omega) (fun _ _ e => e) (fun h' u tk hk => ⟨.str _, H, I.kept hk, ⟨_, rfl⟩, q⟩) ok.len
  | tup h1 h2 =>
    rename_i a xs ds
    obtain rfl : u = Value.ref a := r1
    refine repr_of_reads' rd ok.sh (PyData.noDict_hsm ok.nd) gd (by have := ok.dp; omega) (fun _ _ e => e) (fun h' u tk hk => ⟨.str _, H, I.kept hk, ⟨_, rfl⟩, q⟩) ok.len
end WB

set_option Elab.async false
set_option linter.all false
set_option maxRecDepth 100000
set_option maxHeartbeats 4000000
namespace WB
open PySem L2 PyProof.Rows
/-! ### for i, c in enumerate(text) -/
theorem new_enum_text {x : Str} {t : Tok} :
    Meets (Builtin.«enumerate.__new__» ⟨[.type "enumerate", .str x t], []⟩) (fun _ R s =>
      R (.ok (.ret (.ref (s.heap.push { cls := .type (strIterType x), data := .fields #[.str x t, .int 0 0] }).objs.size))) { s with heap := (s.heap.push { cls := .type (strIterType x), data := .fields #[.str x t, .int 0 0] }).push { cls := .type "enumerate", data := .fields #[.none, .bool false, .ref s.heap.objs.size, rawInt 0, .none, .none] } }) :=
  .of_wp fun prog w A R s h => by
    obtain ⟨hp, g, d, tk, os⟩ := s
    have hsub := sub_enumerate
    have B := begins_text x t
    have q1 : ∀ {A' : Around} {E : Value → Shared → Prop} {Q : Value → Shared → Prop}, Q (.ref hp.objs.size) ⟨hp.push { cls := .type (strIterType x), data := .fields #[.str x t, .int 0 0] }, g, d, tk, os⟩ → wpAny (model prog w) A' (pyIter (.str x t)) Q E ⟨hp, g, d, tk, os⟩ :=
      fun q => B.iter prog w _ _ ⟨hp, g, d, tk, os⟩ _ trivial q
    wp_walk using q1
    refine wpAny_stack_any fun st => wpAny_pure ?_
    split
    · rename_i c _ _ _ _ _
      cases (c == Value.type "enumerate")
      · wp_walk using q1
        exact ⟨_, rfl, h⟩
      · wp_walk using q1
        exact ⟨_, rfl, h⟩
    · wp_walk using q1
      exact ⟨_, rfl, h⟩
theorem call_enum_text {prog : Program} {w : World} {A : Around} {E : Value → Shared → Prop} {s : Shared} {x : Str} {t : Tok} {Q : Value → Shared → Prop}
    (h : ∀ h', IsEnum h' (s.heap.objs.size + 1) s.heap.objs.size 0 .none → h'.IsStrIter s.heap.objs.size (strIterType x) x t 0 →
      (∀ b o, s.heap.get? b = some o → h'.get? b = some o) → Q (.ref (s.heap.objs.size + 1)) { s with heap := h' }) :
    wpAny (model prog w) A (call (.type "enumerate") [.str x t]) Q E s := by
  refine callType_new F.called_enumerate (by decide) (F.typeCall_enumerate_1 _) (F.newCall_enumerate_1 _) (fun obj => F.args_object_init_2 obj _) F.entry_enumerate_new new_enum_text ?_
  have hz : (s.heap.push { cls := .type (strIterType x), data := .fields #[.str x t, .int 0 0] }).objs.size = s.heap.objs.size + 1 := Heap.size_push ..
  show _ ∧ _
  rw [hz]
  have he : IsEnum ((s.heap.push { cls := .type (strIterType x), data := .fields #[.str x t, .int 0 0] }).push { cls := .type "enumerate", data := .fields #[.none, .bool false, .ref s.heap.objs.size, rawInt 0, .none, .none] }) (s.heap.objs.size + 1) s.heap.objs.size 0 .none := by
    have := Heap.get?_push_size (s.heap.push { cls := .type (strIterType x), data := .fields #[.str x t, .int 0 0] }) (o := { cls := .type "enumerate", data := .fields #[.none, .bool false, .ref s.heap.objs.size, rawInt 0, .none, .none] }) rfl
    rw [hz] at this
    exact this
  refine ⟨⟨_, he, rfl⟩, h _ he ⟨_, Heap.get?_push_of_some _ (Heap.get?_push_size _ rfl), rfl, rfl⟩ fun b o y => Heap.get?_push_of_some _ (Heap.get?_push_of_some _ y)⟩
def Ites (x : Str) : It :=
  ⟨fun i _ => i < x.cps.size, fun i H v H' => ∃ T c, v = .ref T ∧ H T = none ∧ H' = upd H T (.tup [.int (i : Nat), .str ⟨#[c]⟩]) ∧ x.cps[i]? = some c, fun i _ => i = x.cps.size⟩
theorem turn_enumS {P : Program} {w : World} {K : PySem.W.Frag} {elts : List Expr} {kk : Nat} {tpos : Pos} (x : Str) (t : Tok) (e it : Addr) :
    Turn P w K (.Tuple elts kk tpos) (Ites x) [e, it] e (fun i h => (∃ old, IsEnum h e it ((i : Nat) : Int) old) ∧ h.IsStrIter it (strIterType x) x t i ∧ e ≠ it) where
  mem := by simp
  obj := fun i h st b hb => by
    obtain ⟨⟨old, he⟩, ⟨o, ho, hc, hd⟩, _⟩ := st
    have e' : b = e ∨ b = it := by simpa using hb
    rcases e' with z | z
    · rw [z]
      exact ⟨_, he, fun v q => nomatch q⟩
    · rw [z]
      exact ⟨o, ho, fun v q => by rw [hd] at q; cases q⟩
  keep := fun i h h' st k => by
    obtain ⟨⟨old, he⟩, ⟨o, ho, r⟩, hne⟩ := st
    exact ⟨⟨old, k e (by simp) _ he⟩, ⟨o, k it (by simp) o ho, r⟩, hne⟩
  item := by
    intro X hP hw hK hc i pins s σ H E I hf st hg
    subst hP hw hK
    obtain ⟨⟨old, he⟩, hit, hne⟩ := st
    have hel : e < s.heap.objs.size := Heap.lt_size he
    have hil : it < s.heap.objs.size := by
      obtain ⟨_, q, _⟩ := hit
      exact Heap.lt_size q
    have D := Draws.text (prog := X.prog) (w := X.w) (A := X.A.in1) (I.ok.hd hc) it x t
    refine wpAny_pyNext_enum_itemD D he hit hg hne (by simpa using hne) fun v h' tk hv ho hit' hT hsz hk => ?_
    obtain ⟨c, u, hcx, rfl⟩ := hv
    refine ⟨_, rfl, wpAny_letOwnedTupleGo_enum (s := { s with heap := h', toks := tk + 1 }) ho fun h'' he' sb => ?_⟩
    have hT2 : h''.get? s.heap.objs.size = some { cls := .type "tuple", data := .seq #[.int i tk, .str ⟨#[c]⟩ u] } := (sb.2 _ (Nat.ne_of_gt hel)).trans hT
    have new : ObjOk X.prog X.w (upd H s.heap.objs.size (.tup [.int (i : Nat), .str ⟨#[c]⟩])) h'' s.heap.objs.size (.tup [.int (i : Nat), .str ⟨#[c]⟩]) :=
      ⟨by show 2 ≤ sizeLine; decide, [.int i tk, .str ⟨#[c]⟩ u], .cons ⟨_, rfl⟩ (.cons ⟨u, rfl⟩ .nil), ⟨_, hT2, rfl, _, rfl⟩⟩
    have I1 : Inv X pins σ (upd H s.heap.objs.size (.tup [.int (i : Nat), .str ⟨#[c]⟩])) { s with heap := h'', toks := tk + 1 } :=
      I.turnedNew (ch := [e, it]) (fun b ob hb q => (sb.2 b (fun z => hb (by simp [z]))).trans (hk b ob (fun z => hb (by simp [z])) (fun z => hb (by simp [z])) q)) hf (Nat.le_refl _) new
    refine ⟨.ref s.heap.objs.size, _, I1, rfl, ⟨_, c, rfl, I.hok.fresh (Nat.le_refl _), rfl, hcx⟩, ⟨⟨.str ⟨#[c]⟩ u, ?_⟩, ?_, hne⟩, fun b hb => ?_⟩
    · have e1 : ((i + 1 : Nat) : Int) = (i : Int) + 1 := by omega
      rw [e1]
      exact he'
    · obtain ⟨o, q1, q2⟩ := hit'
      exact ⟨o, (sb.2 it (Ne.symm hne)).trans q1, q2⟩
    · have hb' : b < s.heap.objs.size := by
        have e' : b = e ∨ b = it := by simpa using hb
        rcases e' with z | z
        · rw [z]
          exact hel
        · rw [z]
          exact hil
      rw [upd_ne (Nat.ne_of_lt hb')]
      exact (hf b hb).1
  done := by
    intro X hP hw hK hc i pins s σ H E I hf st hg
    subst hP hw hK
    obtain ⟨⟨old, he⟩, hit, hne⟩ := st
    obtain ⟨f0, f1, f2, f3, f4, f5⟩ := hf it (by simp)
    have D := Draws.text (prog := X.prog) (w := X.w) (A := X.A.in1) (I.ok.hd hc) it x t
    have hg : i = x.cps.size := hg
    rw [hg] at hit
    exact wpAny_pyNext_enum_endD D he hit fun h' eb => ⟨rfl, I.turned (t' := s.toks) (fun b o hb q => eb b o hb q) f0 f1 f3 f4 f5⟩
  self := fun A i s Q E st h => by
    obtain ⟨⟨_, he⟩, _⟩ := st
    exact wpAny_pyIter_enum he h
def iEnumS (te : TE) : TI := fun σ H R => te σ H fun v H1 => ∃ x, v = .str x ∧ R (Ites x) H1
theorem pi_enumS {X : Cx} {e : Expr} {te : TE} {p pos tpos : Pos} {elts : List Expr} {kk : Nat} (hg : Gl X "enumerate") (hm : X.mg "enumerate" = none) (he : PE X e te) (hs : starEach [e] X.env = [(false, eval e X.env)] := by rfl) :
    PI X (.Tuple elts kk tpos) (.Call (.Name "enumerate" p) [e] [] pos) (iEnumS te) := by
  refine ⟨fun pins s σ H R I h => ?_⟩
  refine Call_ (ld_blt I hg hm boot_enumerate (PyProof.Rows.callWith_type1 (thn ((pa_cons he pa_nil hs).run pos pins s σ H (fun vs H1 => ∃ x, vs = [V.str x] ∧ R (Ites x) H1) I ?_) fun us s1 ⟨vs, H1, I1, r1, q1⟩ => ?_) hs rfl))
  · show te σ H _
    have e : (fun v H1 => tNil σ H1 fun vs H2 => ∃ x, v :: vs = [V.str x] ∧ R (Ites x) H2) = fun (v : V) H1 => ∃ x, v = .str x ∧ R (Ites x) H1 := by
      funext v H1
      refine propext ⟨fun ⟨x, e, q⟩ => ?_, fun ⟨x, e, q⟩ => ⟨x, by rw [e], q⟩⟩
      cases e
      exact ⟨x, rfl, q⟩
    exact e ▸ h
  · obtain ⟨x, ex, q⟩ := q1
    subst ex
    obtain ⟨u, rfl, t, rfl⟩ := vals_one r1
    refine call_enum_text fun h' he hit hk => wpAny_pyIter_enum he ?_
    have I2 : Inv X pins σ H1 { s1 with heap := h' } := I1.kept (t' := s1.toks) hk
    refine ⟨s1.heap.objs.size + 1, [s1.heap.objs.size + 1, s1.heap.objs.size], _, _, H1, rfl, I2, turn_enumS x t (s1.heap.objs.size + 1) s1.heap.objs.size, ⟨⟨.none, he⟩, hit, Nat.succ_ne_self _⟩, fun b hb => ?_, q⟩
    have hle : s1.heap.objs.size ≤ b := by
      have e' : b = s1.heap.objs.size + 1 ∨ b = s1.heap.objs.size := by simpa using hb
      rcases e' with z | z
      · rw [z]
        exact Nat.le_succ _
      · rw [z]
        exact Nat.le_refl _
    exact I1.fpOk hle (I1.hok.fresh hle)
theorem walk_enumS {z : Str} : Walk (Ites z) z.cps.size (fun _ => True) (fun i H v H' => ∃ T c, v = .ref T ∧ H T = none ∧ H' = upd H T (.tup [.int (i : Nat), sg c]) ∧ z.cps[i]? = some c) :=
  ⟨fun _ _ hi _ => hi, fun _ _ => rfl, fun _ _ _ _ _ _ y => y⟩
end WB

set_option Elab.async false
set_option linter.all false
set_option maxRecDepth 100000
set_option maxHeartbeats 4000000
namespace WB
open PySem L2 PyProof.Rows
section
variable {X : Cx} {CX : CXT} {k j : Nat} {f C : Addr} {fd : FuncData} {ps : List Str} {sp : Sp} {E : L2.St → XK} {x m : Str} {p pos apos : Pos} {e o : Expr} {es : List Expr} {ta : TE} {t : TA}
/-! ### calls within try: what they let out is told at the slots -/
def tMethS (C : Addr) (m : Str) (sp : Sp) (E : L2.St → XK) (ta : TE) (t : TA) : TE := fun σ H Q => ta σ H fun x H1 => ∃ a dx fs, x = .ref a ∧ H1 a = some (.ins C dx fs) ∧ fs.lookup m = none ∧ t σ H1 fun vs H2 => sp (x :: vs) H2 Q (E σ)
theorem pe_methS {pl : Sem Bool} (he : PE X o ta) (c : Cls X.K C) (hm : Meth X.K C m f) (F : FnOk X.prog X.w X.K X.mg X.base CX k f fd ps sp) (hr : Room k X.A) (hb : Binds X.K fd ps []) (hx : ∀ σ, PassesAt CX X σ (E σ)) (ha : PA X (e :: es) t)
    (hst : starEach (e :: es) X.env = (false, eval e X.env) :: starEach es X.env := by rfl) (hpl : (backTo pos (starEach es X.env)).any (·.1) = false := by rfl)
    (ht : eval (.Call (.Attribute o m apos) (e :: es) [] pos) X.env = (do
      let ov ← eval o X.env
      standAt apos.atName
      let (f, first) ← holding [ov] (getMethod ov m pl)
      callWith pos f first (backTo pos (starEach (e :: es) X.env)) (backToKw pos (keywordEach [] X.env))) := by rfl) :
    PE X (.Call (.Attribute o m apos) (e :: es) [] pos) (tMethS C m sp E ta t) := by
  refine ⟨fun pins s σ H Q I h => ?_⟩
  refine PySem.W.methodCall_KW (pl := pl) (thn (he.run pins s σ H _ I h) fun u s1 ⟨y, H1, I1, ry, a, dx, fs, ey, ea, l, q⟩ => ?_) ht
  subst ey
  obtain rfl : u = Value.ref a := ry
  refine getmeth_ok I1 ea c hm l (PySem.W.callWith_K (first := [.ref a]) (h₀ := X.base) I.ok.mod.kin hm.kp (thn (ha.run pos pins s1 σ H1 _ I1 q) fun us s2 ⟨vs, H2, I2, r, q2⟩ => ⟨I2.kIn, ?_⟩) hst hpl)
  exact run_fnS (us := .ref a :: us) (vs := .ref a :: vs) F hr hb (hx σ) I2 (.cons rfl r) q2
def tMakeS (C : Addr) (sp : Sp) (E : L2.St → XK) (t : TA) : TE := fun σ H Q => t σ H fun vs H1 => ∀ x dx, H1 x = none → H1 dx = none → dx ≠ x →
  sp (.ref x :: vs) (upd (upd H1 dx (.own x)) x (.ins C dx [])) (fun v H2 => v = .non ∧ Q (.ref x) H2) (E σ)
theorem pe_makeS (M : Mk X.K C f) (F : FnOk X.prog X.w X.K X.mg X.base CX k f fd ps sp) (hr : Room (k + 1) X.A) (hg : Gl X x) (hm : X.mg x = some (.ref C)) (hb : Binds X.K fd ps []) (hx : ∀ σ, PassesAt CX X σ (E σ)) (ha : PA X (e :: es) t)
    (hdb : (x == ("__debug__" : Str)) = false := by decide) (he : starEach (e :: es) X.env = (false, eval e X.env) :: starEach es X.env := by rfl) (hpl : (backTo pos (starEach es X.env)).any (·.1) = false := by rfl) :
    PE X (.Call (.Name x p) (e :: es) [] pos) (tMakeS C sp E t) := by
  refine ⟨fun pins s σ H Q I h => ?_⟩
  refine wpAny_Call_Name_kw (ld_glob I hg hm ?_ hdb)
  refine PySem.W.callWith_K (h₀ := X.base) I.ok.mod.kin M.kp (thn (ha.run pos pins s σ H _ I h) fun us s1 ⟨vs, H1, I1, r, q⟩ => ⟨I1.kIn, ?_⟩) he hpl
  have n := s1.heap.objs.size
  have q2 := q (s1.heap.objs.size + 1) s1.heap.objs.size (I1.hok.fresh (Nat.le_succ _)) (I1.hok.fresh (Nat.le_refl _)) (Nat.ne_of_lt (Nat.lt_succ_self _))
  have I2 := Inv.made (C := C) I1
  have r2 : Vals (V.ref (s1.heap.objs.size + 1) :: vs) (Value.ref (s1.heap.objs.size + 1) :: us) := .cons rfl r
  have hl : (Value.ref (s1.heap.objs.size + 1) :: us).length = ps.length := r2.length.symm.trans (F.len _ _ _ _ q2)
  have b := hb _ (Value.ref (s1.heap.objs.size + 1) :: us) I2.kIn (by rw [List.append_nil]; exact hl)
  rw [List.append_nil] at b
  refine wpAny_call (make_map (f := f) I1.kIn M.makes M.init (beq_iff_eq.mp M.fn) (codeAny_mono (F.run _ X.stack _ _ ⟨Value.ref (s1.heap.objs.size + 1) :: us, []⟩ (Value.ref (s1.heap.objs.size + 1) :: us) _ _ (E σ) (hr.make C us []) (I2.env0.make C us []) b r2 q2) fun r s' hq' => ?_))
  cases r with
  | error er => exact hx σ pins _ _ er s' I2 hq'
  | ok fl =>
    cases fl with
    | ret u =>
      obtain ⟨v, H', I3, rv, ev, q3⟩ := I2.after hq'
      subst ev
      exact ⟨rv, ⟨V.ref (s1.heap.objs.size + 1), H', I3, rfl, q3⟩⟩
    | next => exact hq'.elim
    | brk => exact hq'.elim
    | cont => exact hq'.elim
end
/-! ### what may raise, by its name -/
structure CalX (P : Program) (w : World) (K : PySem.W.Frag) (mg : Str → Option Value) (base : Heap) (k : Nat) (x : Str) (sp : Sp) : Prop where
  ex : ∃ (f : Addr) (fd : FuncData) (ps : List Str), FnOk P w K mg base (L2.CX P w) k f fd ps sp ∧ mg x = some (.ref f) ∧ PySem.W.keepIn K (.ref f) = true ∧ Binds K fd ps []
structure MetX (P : Program) (w : World) (K : PySem.W.Frag) (mg : Str → Option Value) (base : Heap) (k : Nat) (C : Addr) (m : Str) (sp : Sp) (kn : Str) : Prop where
  ex : ∃ (f : Addr) (fd : FuncData) (ps : List Str), Cls K C ∧ Meth K C m f ∧ FnOk P w K mg base (L2.CX P w) k f fd ps sp ∧ Binds K fd ps [] ∧ KBn K fd ps 1 [kn] (fun us ws => us ++ ws) (fun vs zs => vs ++ zs)
structure MakX (P : Program) (w : World) (K : PySem.W.Frag) (mg : Str → Option Value) (base : Heap) (k : Nat) (x : Str) (C : Addr) (sp : Sp) (dv : V) (kn : Str) : Prop where
  ex : ∃ (f : Addr) (fd : FuncData) (ps : List Str) (ds : List Value), Mk K C f ∧ FnOk P w K mg base (L2.CX P w) k f fd ps sp ∧ mg x = some (.ref C) ∧ Binds K fd ps [] ∧ Binds K fd ps ds ∧ Vals [dv] ds ∧ KBn K fd ps 1 [kn] (fun us ws => us ++ ws) (fun vs zs => vs ++ zs)
section
variable {X : Cx} {k j : Nat} {C : Addr} {x m kn : Str} {sp : Sp} {p pos apos kpos : Pos} {e o : Expr} {es : List Expr} {ta : TE} {t : TA} {W : WX} {E : XK}
theorem pe_cX (c : CalX X.prog X.w X.K X.mg X.base k x sp) (tk : Takes X (fun cls d _ H => E cls d H)) (hr : Room j X.A) (hk : k ≤ j) (hg : Gl X x) (ha : PA X (e :: es) t)
    (hdb : (x == ("__debug__" : Str)) = false := by decide) (he : starEach (e :: es) X.env = (false, eval e X.env) :: starEach es X.env := by rfl) (hpl : (backTo pos (starEach es X.env)).any (·.1) = false := by rfl) :
    PE X (.Call (.Name x p) (e :: es) [] pos) (tCall sp [] E t) := by
  obtain ⟨f, fd, ps, F, hm, kp, b⟩ := c.ex
  exact pe_call F (hr.mono hk) hg hm kp b .nil (passes_call tk fun _ _ _ _ h => h) ha hdb he hpl
/-- where nothing is let out -/
theorem pe_mtX {pl : Sem Bool} (c : MetX X.prog X.w X.K X.mg X.base k C m sp kn) (hr : Room j X.A) (hk : k ≤ j) (he : PE X o ta) (ha : PA X (e :: es) t)
    (hst : starEach (e :: es) X.env = (false, eval e X.env) :: starEach es X.env := by rfl) (hpl : (backTo pos (starEach es X.env)).any (·.1) = false := by rfl)
    (ht : eval (.Call (.Attribute o m apos) (e :: es) [] pos) X.env = (do
      let ov ← eval o X.env
      standAt apos.atName
      let (f, first) ← holding [ov] (getMethod ov m pl)
      callWith pos f first (backTo pos (starEach (e :: es) X.env)) (backToKw pos (keywordEach [] X.env))) := by rfl) :
    PE X (.Call (.Attribute o m apos) (e :: es) [] pos) (tMeth C m sp [] E0 ta t) := by
  obtain ⟨f, fd, ps, hc, hm, F, b, _⟩ := c.ex
  exact pe_meth (pl := pl) he hc hm F (hr.mono hk) b .nil passL ha hst hpl ht
theorem pe_mkX {dv : V} (c : MakX X.prog X.w X.K X.mg X.base k x C sp dv kn) (hr : Room j X.A) (hk : k + 1 ≤ j) (hg : Gl X x) (ha : PA X (e :: es) t)
    (hdb : (x == ("__debug__" : Str)) = false := by decide) (he : starEach (e :: es) X.env = (false, eval e X.env) :: starEach es X.env := by rfl) (hpl : (backTo pos (starEach es X.env)).any (·.1) = false := by rfl) :
    PE X (.Call (.Name x p) (e :: es) [] pos) (tMake C sp [] E0 t) := by
  obtain ⟨f, fd, ps, ds, M, F, hm, b, _⟩ := c.ex
  exact pe_make M F (hr.mono hk) hg hm b .nil passL ha hdb he hpl
theorem pe_mkX0 {dv : V} (c : MakX X.prog X.w X.K X.mg X.base k x C sp dv kn) (hr : Room j X.A) (hk : k + 1 ≤ j) (hg : Gl X x) (hdb : (x == ("__debug__" : Str)) = false := by decide) :
    PE X (.Call (.Name x p) [] [] pos) (tMake C sp [dv] E0 tNil) := by
  obtain ⟨f, fd, ps, ds, M, F, hm, _, b, d, _⟩ := c.ex
  exact pe_make0 M F (hr.mono hk) hg hm b d passL hdb
/-- o.m(k = e) -/
def tMethK (C : Addr) (m : Str) (sp : Sp) (ta te : TE) : TE := fun σ H Q => ta σ H fun x H1 => ∃ a dx fs, x = .ref a ∧ H1 a = some (.ins C dx fs) ∧ fs.lookup m = none ∧ te σ H1 fun y H2 => sp [x, y] H2 Q E0
theorem pe_mtK {pl : Sem Bool} (c : MetX X.prog X.w X.K X.mg X.base k C m sp kn) (hr : Room j X.A) (hk : k ≤ j) (he : PE X o ta) {te : TE} (ha : PE X e te)
    (hall : (backToKw pos (keywordEach [⟨some kn, e, kpos⟩] X.env)).all (·.1.isSome) = true := by rfl) (hks : (backToKw pos (keywordEach [⟨some kn, e, kpos⟩] X.env)).filterMap (·.1) = [kn] := by rfl)
    (hpl : ((backTo pos (starEach [] X.env)).any (·.1) || (backToKw pos (keywordEach [⟨some kn, e, kpos⟩] X.env)).any (·.1.isNone)) = false := by rfl)
    (ht : eval (.Call (.Attribute o m apos) [] [⟨some kn, e, kpos⟩] pos) X.env = (do
      let ov ← eval o X.env
      standAt apos.atName
      let (f, first) ← holding [ov] (getMethod ov m pl)
      callWith pos f first (backTo pos (starEach [] X.env)) (backToKw pos (keywordEach [⟨some kn, e, kpos⟩] X.env))) := by rfl) :
    PE X (.Call (.Attribute o m apos) [] [⟨some kn, e, kpos⟩] pos) (tMethK C m sp ta te) := by
  obtain ⟨f, fd, ps, hc, hm, F, _, kb⟩ := c.ex
  have hr2 := hr.mono hk
  refine ⟨fun pins s σ H Q I h => ?_⟩
  refine PySem.W.methodCall_KW (pl := pl) (thn (he.run pins s σ H _ I h) fun u s1 ⟨y, H1, I1, ry, a, dx, fs, ey, ea, l, q⟩ => ?_) ht
  subst ey
  obtain rfl : u = Value.ref a := ry
  refine getmeth_ok I1 ea hc hm l (PySem.W.callWith_KW0 (first := [.ref a]) (h₀ := X.base) I1.ok.mod.kin hm.kp hall ?_ hpl)
  refine thn ((pk_cons ha pk_nil).run pos pins s1 σ H1 (fun zs H2 => ∃ z, zs = [z] ∧ sp [.ref a, z] H2 Q E0) I1 ?_) fun ws s2 ⟨zs, H2, I2, rz, z, ez, q2⟩ => ⟨I2.kIn, ?_⟩
  · have e : (fun v H1 => tNil σ H1 fun vs H2 => ∃ z, v :: vs = [z] ∧ sp [.ref a, z] H2 Q E0) = fun (y : V) H2 => sp [.ref a, y] H2 Q E0 := by
      funext v H1
      refine propext ⟨fun ⟨x, e, q⟩ => ?_, fun q => ⟨v, rfl, q⟩⟩
      cases e
      exact q
    show te σ H1 (fun v H1 => tNil σ H1 fun vs H2 => ∃ z, v :: vs = [z] ∧ sp [.ref a, z] H2 Q E0)
    rw [e]
    exact q
  · subst ez
    rw [hks]
    have r2 : Vals [V.ref a, z] (Value.ref a :: ws) := .cons rfl rz
    have hb := kb.to s2 [.ref a] ws I2.kIn rfl rz.length.symm
    refine wpAny_call (codeAny_mono (F.run X.A X.stack s2 H2 ⟨[.ref a], [kn].zip ws⟩ (Value.ref a :: ws) [.ref a, z] Q E0 hr2 I2.env0 hb r2 q2) fun r s' hq => ?_)
    cases r with
    | error er => exact passL pins σ H2 s2 er s' I2 hq
    | ok fl =>
      cases fl with
      | ret u => exact I2.after hq
      | next => exact hq.elim
      | brk => exact hq.elim
      | cont => exact hq.elim
/-- within try -/
theorem pe_mtS {pl : Sem Bool} (c : MetX X.prog X.w X.K X.mg X.base k C m sp kn) (tk : Takes X W) (hr : Room j X.A) (hk : k ≤ j) (he : PE X o ta) (ha : PA X (e :: es) t)
    (hst : starEach (e :: es) X.env = (false, eval e X.env) :: starEach es X.env := by rfl) (hpl : (backTo pos (starEach es X.env)).any (·.1) = false := by rfl)
    (ht : eval (.Call (.Attribute o m apos) (e :: es) [] pos) X.env = (do
      let ov ← eval o X.env
      standAt apos.atName
      let (f, first) ← holding [ov] (getMethod ov m pl)
      callWith pos f first (backTo pos (starEach (e :: es) X.env)) (backToKw pos (keywordEach [] X.env))) := by rfl) :
    PE X (.Call (.Attribute o m apos) (e :: es) [] pos) (tMethS C m sp (WE W) ta t) := by
  obtain ⟨f, fd, ps, hc, hm, F, b, _⟩ := c.ex
  exact pe_methS (pl := pl) he hc hm F (hr.mono hk) b (fun σ => passAt tk σ) ha hst hpl ht
theorem pe_mkS {dv : V} (c : MakX X.prog X.w X.K X.mg X.base k x C sp dv kn) (tk : Takes X W) (hr : Room j X.A) (hk : k + 1 ≤ j) (hg : Gl X x) (ha : PA X (e :: es) t)
    (hdb : (x == ("__debug__" : Str)) = false := by decide) (he : starEach (e :: es) X.env = (false, eval e X.env) :: starEach es X.env := by rfl) (hpl : (backTo pos (starEach es X.env)).any (·.1) = false := by rfl) :
    PE X (.Call (.Name x p) (e :: es) [] pos) (tMakeS C sp (WE W) t) := by
  obtain ⟨f, fd, ps, ds, M, F, hm, b, _⟩ := c.ex
  exact pe_makeS M F (hr.mono hk) hg hm b (fun σ => passAt tk σ) ha hdb he hpl
end
/-! ### BadBox -/
def spBad (C : Addr) : Sp := fun vs H Q _ => ∃ (a : Addr) (y : V), vs = [.ref a, y] ∧ H a = some (exo a C none) ∧ ∀ d, H d = none → d ≠ a → Q .non (upd (upd H d (exd d [("contents", y)])) a (exo a C (some d)))
structure BadT (K : PySem.W.Frag) (mg : Str → Option Value) (C : Addr) : Prop where
  ox : OexC K C
  xf : XfC K C
  no : PySem.W.findIn K (.ref C) "contents" = some none
  g : mg "BadBox" = some (.ref C)
  te : PySem.W.exmOne K (.ref C) (.ref C) = some true
structure BadC (P : Program) (w : World) (K : PySem.W.Frag) (mg : Str → Option Value) (base : Heap) (C : Addr) : Prop where
  t : BadT K mg C
  ini : ∃ (f : Addr) (fd : FuncData), PySem.W.findIn K (.ref C) "__init__" = some (some (.ref f)) ∧ PySem.W.typeIn K (.ref f) = some (.type "function") ∧ FnOk P w K mg base C8.CX0 1 f fd ["self", "contents"] (spBad C) ∧ Binds K fd ["self", "contents"] []
theorem exm_me {K : PySem.W.Frag} {C : Addr} (h1 : PySem.W.subIn K (.ref C) (.type "BaseException") = some true) (h2 : PySem.W.isClsIn K C = true) (h3 : PySem.W.typeIn K (.ref C) = some (.type "type")) (h4 : PySem.W.subIn K (.ref C) (.ref C) = some true) :
    PySem.W.exmOne K (.ref C) (.ref C) = some true := by
  unfold PySem.W.exmOne
  rw [h1, if_pos (by decide)]
  have h2' : (PySem.W.clsIn K C).isSome = true := h2
  unfold PySem.W.kitCls
  dsimp only
  rw [h2', h3]
  exact h4
theorem pmk_bad {X : Cx} {C : Addr} {j : Nat} {e : Expr} {ta : TA} {p pos : Pos} (B : BadC X.prog X.w X.K X.mg X.base C) (hr : Room j X.A) (hk : 2 ≤ j) (hg : Gl X "BadBox") (ha : PA X [e] ta)
    (he : starEach [e] X.env = (false, eval e X.env) :: starEach [] X.env := by rfl) (hpl : (backTo pos (starEach [] X.env)).any (·.1) = false := by rfl) :
    PMk X (.Call (.Name "BadBox" p) [e] [] pos) (tMkO C (spBad C) [] ta) := by
  obtain ⟨f, fd, h1, h2, F, b⟩ := B.ini
  exact pmk_oex B.t.ox h1 h2 F (hr.mono hk) b .nil (fun _ _ _ _ _ _ _ z => z.elim) hg B.t.g ha (by decide) he hpl
theorem bad_ok {C a : Addr} {y : V} {H1 : Hp} {Q E : XK} (na : H1 a = none) (h : ∀ H' d, Same H1 H' → H1 d = none → H' d = some (.xd [("contents", y)]) → Q (.ref C) (some d) H') :
    spBad C [.ref a, y] (upd H1 a (exo a C none)) (fun v H2 => v = .non ∧ ∃ (d : Addr) (fs : List (Str × V)), H2 a = some (exo a C (some d)) ∧ H2 d = some (exd d fs) ∧ H1 d = none ∧ Q (.ref C) (some d) (upd (del H2 a) d (.xd fs))) E := by
  refine ⟨a, y, rfl, upd_same, fun d hd hda => ⟨rfl, d, [("contents", y)], upd_same, (upd_ne hda).trans upd_same, ?_, ?_⟩⟩
  · rw [upd_ne hda] at hd
    exact hd
  · rw [upd_ne hda] at hd
    refine h _ d (fun b o e => ?_) hd upd_same
    have n1 : b ≠ a := ne_of_none e na
    have n2 : b ≠ d := ne_of_none e hd
    rw [upd_ne n2, del_ne n1, upd_ne n1, upd_ne n2, upd_ne n1]
    exact e
def conB : V → Bool
  | .str z => decide (z = sb (mem z))
  | _ => false
theorem conB_str {z : Str} (h : conB (.str z) = true) : IsC z := ⟨_, of_decide_eq_true h⟩
theorem conB_isC {z : Str} (h : IsC z) : conB (.str z) = true := decide_eq_true h.eq
def spCheckX (K : PySem.W.Frag) (C : Addr) : Sp := fun vs H Q E => ∃ x : V, vs = [x] ∧ Thing K H x ∧ (conB x = true → ∀ H', Same H H' → Q x H') ∧
  (conB x = false → ∀ H' d, Same H H' → H d = none → H' d = some (.xd [("contents", x)]) → E (.ref C) (some d) H')
def spBecomeX (K : PySem.W.Frag) (CB C : Addr) : Sp := fun vs H Q E => ∃ (a : Addr) (y : Str) (x : V), vs = [.ref a, x] ∧ BoxAt CB H a y ∧ Thing K H x ∧ (∀ z, x = .str z → IsC z → ∀ H', Bar a H H' → BoxAt CB H' a z → Q .non H') ∧
  (conB x = false → ∀ H' d, Same H H' → H d = none → H' d = some (.xd [("contents", x)]) → E (.ref C) (some d) H')
def spInitX (K : PySem.W.Frag) (CB C : Addr) : Sp := fun vs H Q E => ∃ (a dx : Addr) (x : V), vs = [.ref a, x] ∧ H a = some (.ins CB dx []) ∧ Thing K H x ∧ (∀ z, x = .str z → IsC z → ∀ H', Bar a H H' → BoxAt CB H' a z → Q .non H') ∧
  (conB x = false → ∀ H' d, Same H H' → H d = none → H' d = some (.xd [("contents", x)]) → E (.ref C) (some d) H')
theorem thing_isC {K : PySem.W.Frag} {H : Hp} {z : Str} (h : IsC z) : Thing K H (.str z) := .inl ⟨z, rfl, Nat.le_trans h.len (by decide)⟩
theorem fund_okX {P : Program} {w : World} {K : PySem.W.Frag} {mg : Str → Option Value} {base : Heap} {x qual : Str} {params : Arguments} {body : List Stmt} {scope : Scope} {dvs : List V} {kws : List (Str × V)} {f : Addr} {fd : FuncData} {N ps : List Str} {k : Nat} {sp : Sp}
    (F : FunD K x qual params body scope dvs kws f fd) (S : FnScope N ps scope) (len : ∀ vs H Q E, sp vs H Q E → vs.length = ps.length)
    (hbody : ∀ (cdv : Value) (A : Around) (outer : List Env) (s : Shared) (H : Hp) (vs : List V) (Q : VK) (E : XK), Room k (A.deeper (envOfC qual scope s.heap.objs.size f cdv)) → sp vs H Q E →
      ∃ t, PSs (cxOf (L2.CX P w) P w K mg base N qual scope f cdv A outer s H E) body t ∧ t { nx := fun _ H' => Q .non H', rt := Q } (start N vs) H) : FnOk P w K mg base (L2.CX P w) (k + 1) f fd ps sp := by
  obtain ⟨oc, od, dV, kV, doc, pm, an, cdv, ct, osl, rfl, lk, hcd, _⟩ := F.ex
  exact fn_of lk hcd S len fun A outer s H vs Q E hr hsp => hbody cdv A outer s H vs Q E hr hsp
theorem fun_kb {K : PySem.W.Frag} {x qual : Str} {st : Stmt} {f : Addr} {fd : FuncData} {ps ks : List Str} (F : L2.Fun K x qual st f fd)
    (h : ∀ (kV doc pm : Value) (an : Option Addr) (cdv ct : Value) (us ws : List Value), us.length = 1 → ws.length = ks.length → bindArgs (PySem.W.fnOf x qual (defArgs st) (defBody st) (defScope st) .none kV doc pm an cdv ct) ⟨us, ks.zip ws⟩ = pure (ps.zip (us ++ ws))) :
    KBn K fd ps 1 ks (fun us ws => us ++ ws) (fun vs zs => vs ++ zs) := by
  obtain ⟨oc, od, kV, doc, pm, an, cdv, ct, osl, rfl, lk, hcd⟩ := F.ex
  exact ⟨fun s us ws X l1 l2 => BindsTo.of_eq (h kV doc pm an cdv ct us ws l1 l2), fun r1 r2 => r1.append r2⟩
end WB

set_option Elab.async false
set_option linter.all false
set_option maxRecDepth 100000
set_option maxHeartbeats 4000000
namespace WB
open PySem L2 PyProof.Rows
/-! ### contents, sign by sign -/
theorem sorted_eq : ∀ {l m : List Nat}, l.Pairwise (· < ·) → m.Pairwise (· < ·) → (∀ c, c ∈ l ↔ c ∈ m) → l = m
  | [], [], _, _, _ => rfl
  | [], b :: m, _, _, h => absurd ((h b).mpr List.mem_cons_self) List.not_mem_nil
  | a :: l, [], _, _, h => absurd ((h a).mp List.mem_cons_self) List.not_mem_nil
  | a :: l, b :: m, h1, h2, h => by
    obtain ⟨a1, a2⟩ := List.pairwise_cons.mp h1
    obtain ⟨b1, b2⟩ := List.pairwise_cons.mp h2
    have e : a = b := by
      rcases List.mem_cons.mp ((h a).mp List.mem_cons_self) with e | q
      · exact e
      · rcases List.mem_cons.mp ((h b).mpr List.mem_cons_self) with e | r
        · exact e.symm
        · have := b1 a q
          have := a1 b r
          omega
    subst e
    refine congrArg (a :: ·) (sorted_eq a2 b2 fun c => ⟨fun hc => ?_, fun hc => ?_⟩)
    · rcases List.mem_cons.mp ((h c).mp (List.mem_cons_of_mem _ hc)) with e | q
      · have := a1 c hc
        omega
      · exact q
    · rcases List.mem_cons.mp ((h c).mpr (List.mem_cons_of_mem _ hc)) with e | q
      · have := b1 c hc
        omega
      · exact q
theorem mk_sorted : mk.Pairwise (· < ·) := by decide +kernel
/-- the sign at i is a mark, and it comes behind the one ahead of it -/
def GoodAt (l : List Nat) (i : Nat) : Prop := ∃ c, l[i]? = some c ∧ c ∈ mk ∧ (0 < i → ∃ b, l[i - 1]? = some b ∧ b < c)
theorem good_sorted : ∀ {l : List Nat}, (∀ i, i < l.length → GoodAt l i) → l.Pairwise (· < ·) := by
  intro l h
  rw [List.pairwise_iff_getElem]
  intro i j hi hj hij
  induction j with
  | zero => omega
  | succ j ih =>
    obtain ⟨c, h1, _, h2⟩ := h (j + 1) hj
    obtain ⟨b, h3, h4⟩ := h2 (Nat.succ_pos _)
    have hj' : j < l.length := Nat.lt_of_succ_lt hj
    have e1 : l[j + 1] = c := (List.getElem?_eq_some_iff.mp h1).2
    have e2 : l[j] = b := by
      have : l[j]? = some b := h3
      exact (List.getElem?_eq_some_iff.mp this).2
    by_cases q : i = j
    · subst q
      rw [e1, e2]
      exact h4
    · have := ih hj' (by omega)
      omega
theorem conB_yes {z : Str} (h : ∀ i, i < z.cps.toList.length → GoodAt z.cps.toList i) : conB (.str z) = true := by
  have e : z.cps.toList = mk.filter (mem z) := sorted_eq (good_sorted h) (mk_sorted.filter _) fun c => by
    rw [List.mem_filter]
    refine ⟨fun hc => ⟨?_, decide_eq_true hc⟩, fun hc => of_decide_eq_true hc.2⟩
    obtain ⟨i, hi, e⟩ := List.getElem_of_mem hc
    obtain ⟨d, h1, h2, _⟩ := h i hi
    rw [List.getElem?_eq_getElem hi, e] at h1
    cases h1
    exact h2
  exact decide_eq_true ((SX.S_tl z).symm.trans (congrArg S e))
theorem conB_good {z : Str} (h : conB (.str z) = true) {i : Nat} (hi : i < z.cps.toList.length) : GoodAt z.cps.toList i := by
  have hz := conB_str h
  have hs : z.cps.toList.Pairwise (· < ·) := by
    obtain ⟨p, rfl⟩ := hz
    exact mk_sorted.filter _
  refine ⟨z.cps.toList[i], List.getElem?_eq_getElem hi, isC_sub hz (List.getElem_mem hi), fun h0 => ?_⟩
  have hi' : i - 1 < z.cps.toList.length := by omega
  exact ⟨z.cps.toList[i - 1], List.getElem?_eq_getElem hi', List.pairwise_iff_getElem.mp hs _ _ hi' hi (by omega)⟩
theorem conB_noStr {K : PySem.W.Frag} {H : Hp} {x : V} (h : NoStr K H x) : conB x = false := by
  cases x with
  | str y =>
    obtain ⟨t, ty, k⟩ := h
    cases ty with
    | base b =>
      cases b
      exact absurd k (by decide +kernel)
  | non => rfl
  | bl b => rfl
  | int i => rfl
  | byt b => rfl
  | flt b => rfl
  | ref a => rfl
  | ty n => rfl
/-! ### plain values -/
def SmallS (z : Str) : Prop := z.length ≤ 300 ∧ ∀ c ∈ z.cps.toList, c < 1000
theorem small_cut {z : Str} {lo hi : Option Int} (h : SmallS z) : SmallS (cutS z lo hi) := ⟨cut_len h.1, fun c hc => h.2 c (List.mem_of_mem_drop (List.mem_of_mem_take hc))⟩
theorem small_isC {z : Str} (h : IsC z) : SmallS z := ⟨Nat.le_trans h.len (by decide), fun c hc => mk_small c (isC_sub h hc)⟩
def PlainAt (p : Addr) (H : Hp) (x : V) : Prop :=
  (x = .non ∨ (∃ b, x = .bl b) ∨ (∃ i, x = .int i ∧ i.natAbs.log2 < 1000)) ∨ (∃ z, x = .str z ∧ SmallS z) ∨
  (∃ (l : Addr) (zs : List Str), x = .ref l ∧ l ≠ p ∧ (H l = some (.lst (zs.map V.str)) ∨ H l = some (.tup (zs.map V.str))) ∧ zs.length ≤ 2 ∧ ∀ z ∈ zs, SmallS z)
theorem PlainAt.mono {p : Addr} {H H' : Hp} {x : V} (h : PlainAt p H x) (k : ∀ l o, x = .ref l → l ≠ p → H l = some o → (∀ C dx fs, o ≠ .ins C dx fs) → H' l = some o) : PlainAt p H' x := by
  rcases h with h | h | ⟨l, zs, e, n, q, h⟩
  · exact .inl h
  · exact .inr (.inl h)
  · refine .inr (.inr ⟨l, zs, e, n, ?_, h⟩)
    rcases q with q | q
    · exact .inl (k l _ e n q fun _ _ _ z => by cases z)
    · exact .inr (k l _ e n q fun _ _ _ z => by cases z)
theorem PlainAt.same {p : Addr} {H H' : Hp} {x : V} (h : PlainAt p H x) (s : Same H H') : PlainAt p H' x := h.mono fun l o _ _ e _ => s l o e
theorem PlainAt.bag {p : Addr} {H H' : Hp} {x : V} (h : PlainAt p H x) (s : Bar p H H') : PlainAt p H' x := h.mono fun l o _ n e _ => s l o n e
theorem PlainAt.box {p b C : Addr} {H H' : Hp} {x : V} {z : Str} (h : PlainAt p H x) (s : Bar b H H') (hb : BoxAt C H b z) : PlainAt p H' x := h.mono fun l o _ _ e no => s l o (fun q => by
  obtain ⟨dx, hb⟩ := hb
  rw [q, hb] at e
  exact no _ _ _ (Option.some.inj e).symm) e
theorem PlainAt.thing {K : PySem.W.Frag} {p : Addr} {H : Hp} {x : V} (h : PlainAt p H x) : Thing K H x := by
  rcases h with (rfl | ⟨b, rfl⟩ | ⟨i, rfl, _⟩) | ⟨z, rfl, hz⟩ | ⟨l, zs, rfl, _, q | q, _⟩
  · exact .inr noStr_non
  · exact .inr noStr_bl
  · exact .inr noStr_int
  · exact .inl ⟨z, rfl, Nat.le_trans hz.1 (by decide)⟩
  · exact .inr (noStr_lst q)
  · exact .inr (noStr_tup q)
theorem repr_len {z : Str} (h : SmallS z) : (reprText z).length ≤ 3002 := by
  have := StrLaws.reprText_len z fun c hc => Nat.lt_trans (h.2 c hc) (by decide)
  have := h.1
  omega
theorem showAll_strs : ∀ zs : List Str, PyData.showableAll (zs.map PyData.str) = true ∧ PyData.hasDictAll (zs.map PyData.str) = false ∧ PyData.depthAll (zs.map PyData.str) = 0 ∧ PyData.shownAll (zs.map PyData.str) = zs.map reprText
  | [] => ⟨rfl, rfl, rfl, rfl⟩
  | z :: r => by
    obtain ⟨h1, h2, h3, h4⟩ := showAll_strs r
    refine ⟨?_, ?_, ?_, ?_⟩
    · show (true && PyData.showableAll (r.map _)) = true
      rw [h1]
      rfl
    · show (false || PyData.hasDictAll (r.map _)) = false
      rw [h2]
      rfl
    · show max 0 (PyData.depthAll (r.map _)) = 0
      rw [h3]
      rfl
    · show reprText z :: PyData.shownAll (r.map _) = _
      rw [h4]
      rfl
theorem dp_all_strs {K : PySem.W.Frag} {H : Hp} : ∀ zs : List Str, DpAll K H (zs.map V.str) (zs.map PyData.str)
  | [] => .nil
  | z :: r => .cons (.str _) (dp_all_strs r)
theorem line_big : 20000 ≤ sizeLine := by decide
theorem textFrom_le : ∀ (ts : List Str) (k : Nat) (acc : Str), (textFrom k acc ts).length ≤ acc.length + piled ts
  | [], k, acc => Nat.le_refl _
  | t :: r, k, acc => by
    have ih := textFrom_le r (k + 1) (acc ++ (if k > 0 then ", " else "" : String) ++ t)
    rw [piled_cons]
    refine Nat.le_trans ih ?_
    rw [Str.length_append, Str.length_append]
    have : (Str.ofString (if k > 0 then ", " else "" : String)).length ≤ 2 := by
      split
      · decide +kernel
      · decide +kernel
    omega
theorem piled2 {ts : List Str} (h : ts.length ≤ 2) (hs : ∀ t ∈ ts, t.length ≤ 3002) : piled ts ≤ 6008 := by
  match ts, h, hs with
  | [], _, _ => exact Nat.zero_le _
  | [a], _, hs =>
    have := hs a List.mem_cons_self
    rw [piled_cons, piled_nil]
    omega
  | [a, b], _, hs =>
    have := hs a List.mem_cons_self
    have := hs b (List.mem_cons_of_mem _ List.mem_cons_self)
    rw [piled_cons, piled_cons, piled_nil]
    omega
theorem sum_piled : ∀ ts : List Str, (ts.map (·.length)).sum + ts.length * 2 ≤ piled ts
  | [] => Nat.le_refl _
  | t :: r => by
    have ih := sum_piled r
    rw [piled_cons]
    show (t.length + (r.map (·.length)).sum) + (r.length + 1) * 2 ≤ _
    omega
theorem text_len2 {ts : List Str} (h : ts.length ≤ 2) (hs : ∀ t ∈ ts, t.length ≤ 3002) : (listText ts).length ≤ sizeLine ∧ (tupleText ts).length ≤ sizeLine := by
  have hb := line_big
  have pl := piled2 h hs
  constructor
  · unfold listText
    rw [Str.length_append]
    have h1 := textFrom_le ts 0 "["
    have h2 : ("[" : Str).length = 1 := by decide +kernel
    have h3 : ("]" : Str).length = 1 := by decide +kernel
    omega
  · unfold tupleText
    rw [Str.length_append, Str.length_append]
    have h1 := StrLaws.join_length_le ", " ts
    have h2 : (", " : Str).length = 2 := by decide +kernel
    rw [h2] at h1
    have h3 := sum_piled ts
    have h4 : ("(" : Str).length = 1 := by decide +kernel
    have h5 : (Str.ofString (if ts.length == 1 then ",)" else ")" : String)).length ≤ 2 := by
      split
      · decide +kernel
      · decide +kernel
    omega
theorem PlainAt.data {K : PySem.W.Frag} {p : Addr} {H : Hp} {x : V} (h : PlainAt p H x) : ∃ d, Dp K H x d ∧ OkD d := by
  have two : ∀ {zs : List Str}, zs.length ≤ 2 → (∀ z ∈ zs, SmallS z) → OkD (.list (zs.map PyData.str)) ∧ OkD (.tuple (zs.map PyData.str)) := by
    intro zs hl hs
    obtain ⟨h1, h2, h3, h4⟩ := showAll_strs zs
    have tl := text_len2 (ts := zs.map reprText) (by rw [List.length_map]; exact hl) (fun t ht => by
      obtain ⟨z, hz, rfl⟩ := List.mem_map.mp ht
      exact repr_len (hs z hz))
    refine ⟨⟨h1, h2, ?_, .inr ?_⟩, ⟨h1, h2, ?_, .inr ?_⟩⟩
    · show PyData.depthAll _ + 1 ≤ 64
      rw [h3]
      decide
    · show (listText (PyData.shownAll _)).length ≤ _
      rw [h4]
      exact tl.1
    · show PyData.depthAll _ + 1 ≤ 64
      rw [h3]
      decide
    · show (tupleText (PyData.shownAll _)).length ≤ _
      rw [h4]
      exact tl.2
  rcases h with (rfl | ⟨b, rfl⟩ | ⟨i, rfl, hi⟩) | ⟨z, rfl, hz⟩ | ⟨l, zs, rfl, _, q | q, hl, hs⟩
  · exact ⟨_, .non, rfl, rfl, by decide, .inr (by decide +kernel)⟩
  · exact ⟨_, .bl b, rfl, rfl, by show 0 ≤ 64; decide, .inr (by cases b <;> decide +kernel)⟩
  · exact ⟨_, .int i, decide_eq_true (Nat.lt_trans hi (by decide)), rfl, by show 0 ≤ 64; decide, .inl ⟨i, rfl⟩⟩
  · exact ⟨_, .str z, rfl, rfl, by show 0 ≤ 64; decide, .inr (Nat.le_trans (repr_len hz) (by decide))⟩
  · exact ⟨_, .lst (SqL.of q) (dp_all_strs zs), (two hl hs).1⟩
  · exact ⟨_, .tup (SqT.of q) (dp_all_strs zs), (two hl hs).2⟩
end WB
namespace WB
open PySem L2 PyProof.Rows
theorem conB_ex {x : V} (h : conB x = true) : ∃ z, x = .str z ∧ IsC z := by
  cases x with
  | str y => exact ⟨y, rfl, conB_str h⟩
  | non => cases h
  | bl b => cases h
  | int i => cases h
  | byt b => cases h
  | flt b => cases h
  | ref a => cases h
  | ty n => cases h
def spStr (C : Addr) : Sp := fun vs H Q _ => ∃ (a : Addr) (z : Str), vs = [.ref a] ∧ BoxAt C H a z ∧ Q (.str z) H
def spThing : Sp := fun vs H Q _ => ∃ p q : Addr, vs = [.ref p] ∧ BagAt H p q ∧ ∀ H' x, Bar p H H' → BagAt H' p q → PlainAt p H' x → Q x H'
def spIsC (K : PySem.W.Frag) : Sp := fun vs H Q _ => ∃ x : V, vs = [x] ∧ Thing K H x ∧ ∀ H', Same H H' → Q (.bl (conB x)) H'
def spRaised (K : PySem.W.Frag) (C : Addr) : Sp := fun vs H Q _ => ∃ (a : Addr) (y : Str) (x : V), vs = [.ref a, x] ∧ BoxAt C H a y ∧ Thing K H x ∧
  ∀ H' l ts, H l = none → H' l = some (.lst ts) → ((∃ z, x = .str z ∧ IsC z ∧ ts = [] ∧ Bar a H H' ∧ BoxAt C H' a z) ∨ (conB x = false ∧ ts = [x] ∧ Same H H')) → Q (.ref l) H'
theorem isC_empty : IsC "" := ⟨fun _ => false, by decide +kernel⟩
theorem room70 {k : Nat} {A : Around} (r : Room k A) : A.units + 70 < cLine := by
  have := r.un
  omega
theorem init_ok {K : PySem.W.Frag} {C CB x dx : Addr} {z : Str} {H : Hp} {Q : VK} {E : XK} (hz : IsC z) (h : H x = some (.ins C dx [])) (q : ∀ H', Bar x H H' → BoxAt C H' x z → Q .non H') : spInitX K C CB [.ref x, .str z] H Q E :=
  ⟨x, dx, .str z, rfl, h, thing_isC hz, fun y e _ H' b hb => q H' b (by cases e; exact hb), fun hc => by rw [conB_isC hz] at hc; cases hc⟩
theorem become_ok {K : PySem.W.Frag} {C CB a : Addr} {y z : Str} {H : Hp} {Q : VK} {E : XK} (h : BoxAt C H a y) (hz : IsC z) (q : ∀ H', Bar a H H' → BoxAt C H' a z → Q .non H') : spBecomeX K C CB [.ref a, .str z] H Q E :=
  ⟨a, y, .str z, rfl, h, thing_isC hz, fun y e _ H' b hb => q H' b (by cases e; exact hb), fun hc => by rw [conB_isC hz] at hc; cases hc⟩
theorem seq_join {t1 t2 : TS} {D : Ends} {σ : L2.St} {H : Hp} (C : L2.St → Hp → Prop) (h1 : ∀ nx' : L2.St → Hp → Prop, (∀ σ' H', C σ' H' → nx' σ' H') → t1 { D with nx := nx' } σ H) (h2 : ∀ σ' H', C σ' H' → t2 D σ' H') : tSeq t1 t2 D σ H := h1 (t2 D) h2
end WB
namespace WB
open PySem L2 PyProof.Rows
def Sm (n : Nat) (z : Str) : Prop := z.length ≤ n ∧ ∀ c ∈ z.cps.toList, c < 1000
theorem Sm.cat {m n : Nat} {a b : Str} (ha : Sm m a) (hb : Sm n b) : Sm (m + n) (a ++ b) := by
  refine ⟨?_, fun c hc => ?_⟩
  · rw [Str.length_append]
    exact Nat.add_le_add ha.1 hb.1
  · have e : (a ++ b).cps.toList = a.cps.toList ++ b.cps.toList := by rw [Str.cps_append, Array.toList_append]
    rw [e] at hc
    rcases List.mem_append.mp hc with h | h
    · exact ha.2 c h
    · exact hb.2 c h
theorem Sm.line {m n : Nat} {a b : Str} (ha : Sm m a) (hb : Sm n b) (h : m + n ≤ 20000 := by decide) : a.length + b.length ≤ sizeLine := Nat.le_trans (Nat.add_le_add ha.1 hb.1) (Nat.le_trans h line_big)
theorem Sm.small {n : Nat} {z : Str} (h : Sm n z) (hn : n ≤ 300 := by decide) : SmallS z := ⟨Nat.le_trans h.1 hn, h.2⟩
theorem Sm.cut {n : Nat} {z : Str} {lo hi : Option Int} (h : Sm n z) : Sm n (cutS z lo hi) := ⟨cut_len h.1, fun c hc => h.2 c (List.mem_of_mem_drop (List.mem_of_mem_take hc))⟩
theorem IsC.sm {z : Str} (h : IsC z) : Sm 52 z := ⟨h.len, (small_isC h).2⟩
theorem conB_bad {z : Str} {i : Nat} (hi : i < z.cps.toList.length) (h : ¬ GoodAt z.cps.toList i) : conB (.str z) = false := by
  cases c : conB (.str z) with
  | false => rfl
  | true => exact absurd (conB_good c hi) h
theorem lt_one {b c : Nat} : ([b] < [c]) ↔ b < c := by
  simp [List.cons_lt_cons_iff]
theorem letters : ("ABCDEFGHIJKLMNOPQRSTUVWXYZabcdefghijklmnopqrstuvwxyz" : Str).cps.toList = mk := by decide +kernel
end WB

set_option Elab.async false
set_option linter.all false
set_option maxRecDepth 100000
set_option maxHeartbeats 4000000
namespace WB
open PySem L2 PyProof.Rows
section
variable {X : Cx} {k j : Nat} {C : Addr} {x kn : Str} {sp : Sp} {p pos kpos : Pos} {e : Expr}
theorem pe_mkXK {dv : V} {te : TE} (c : MakX X.prog X.w X.K X.mg X.base k x C sp dv kn) (hr : Room j X.A) (hk : k + 1 ≤ j) (hg : Gl X x) (ha : PE X e te)
    (hall : (backToKw pos (keywordEach [⟨some kn, e, kpos⟩] X.env)).all (·.1.isSome) = true := by rfl) (hks : (backToKw pos (keywordEach [⟨some kn, e, kpos⟩] X.env)).filterMap (·.1) = [kn] := by rfl) (hdb : (x == ("__debug__" : Str)) = false := by decide)
    (hpl : ((backTo pos (starEach [] X.env)).any (·.1) || (backToKw pos (keywordEach [⟨some kn, e, kpos⟩] X.env)).any (·.1.isNone)) = false := by rfl) :
    PE X (.Call (.Name x p) [] [⟨some kn, e, kpos⟩] pos) (tMakeK C 0 1 sp (fun vs zs => vs ++ zs) E0 tNil (tCons te tNil)) := by
  obtain ⟨f, fd, ps, ds, M, F, hm, _, _, _, kb⟩ := c.ex
  exact pe_makeK0 M F (hr.mono hk) hg hm kb passL (pk_cons ha pk_nil) hall hks hdb hpl
end
/-! ### isinstance of a caught error that has its dict -/
def rIsEd (K : PySem.W.Frag) (D a : Addr) (cls : Value) (d : Option Addr) : List V → Hp → VK → Prop := fun xs H Q => ∃ (c : V) (cv : Value) (b : Bool) (dd : Addr) (fs : List (Str × V)), xs = [.ref a, c] ∧ cls = .ref D ∧ d = some dd ∧ H dd = some (.xd fs) ∧ (∀ u, RelV c u → u = cv) ∧ PySem.W.kitOne K (.ref D) cv = some b ∧ Q (.bl b) H
theorem call_isEd {X : Cx} {a D : Addr} {oe : Obj} {cls : Value} {d : Option Addr} {pn : List (Addr × Obj)} (T : ExcC X.K D) (hcl : (PySem.W.clsIn X.K D).isSome = true) (hz : Zc cls d oe) (hf : ∃ vs, oe.data = .fields vs) : CallR (X.suite a ((a, oe) :: pn)) (.builtin "isinstance") (rIsEd X.K D a cls d) := by
  intro pins s σ H xs us Q I r h
  obtain ⟨c, cv, b, dd, fs, rfl, rfl, rfl, ed, hcv, e, q⟩ := h
  cases r with
  | cons rx rr =>
    obtain ⟨u2, rfl, rt⟩ := vals_one rr
    cases rx
    obtain rfl := hcv _ rt
    obtain ⟨hget, _⟩ := I.pin (a, oe) (List.mem_append_left _ List.mem_cons_self)
    obtain ⟨vs, hv⟩ := hf
    obtain ⟨mA, hns, _⟩ := (show ObjOk X.prog X.w H s.heap dd (.xd fs) from I.hok dd _ ed)
    obtain ⟨od, ho, _⟩ := lookIn_ns hns
    have J : PySem.W.InstAt s.heap a oe D (some od) := ⟨hget, hz.1, by unfold PySem.W.notCls; rw [hv] <;> rfl, by rw [hz.2]; exact ho⟩
    exact PySem.W.kia_one (PySem.W.kitx_exc hcl T.hg T.hk T.hs T.ha T.hn T.ht T.hm) I.kIn J e (fun z => nomatch z) fun tk => ⟨.bl b, H, I.kept (t' := tk) fun _ _ z => z, rfl, q⟩
theorem kit_up {K : PySem.W.Frag} {C D : Addr} (h2 : PySem.W.isClsIn K D = true) (h3 : PySem.W.typeIn K (.ref D) = some (.type "type")) (h4 : PySem.W.subIn K (.ref C) (.ref D) = some true) : PySem.W.kitOne K (.ref C) (.ref D) = some true := by
  unfold PySem.W.kitOne
  split
  · rfl
  · have h2' : (PySem.W.clsIn K D).isSome = true := h2
    unfold PySem.W.kitCls
    dsimp only
    rw [h2', h3]
    exact h4
theorem kit_upT {K : PySem.W.Frag} {C : Addr} (h4 : PySem.W.subIn K (.ref C) (.type "ValueError") = some true) : PySem.W.kitOne K (.ref C) (.type "ValueError") = some true := by
  unfold PySem.W.kitOne
  rw [if_neg (by intro z; cases (beq_iff_eq.mp z))]
  unfold PySem.W.kitCls
  dsimp only
  rw [if_pos (by decide +kernel)]
  exact h4
theorem rel_ref {D : Addr} : ∀ u, RelV (.ref D) u → u = .ref D := fun _ r => r
theorem rel_ty {n : String} : ∀ u, RelV (.ty n) u → u = .type n := fun _ r => r
/-- what isinstance asks of BadBox -/
structure BadIs (K : PySem.W.Frag) (mg : Str → Option Value) (C W : Addr) : Prop where
  ex : ExcC K C
  cl : (PySem.W.clsIn K C).isSome = true
  gW : ∃ u, mg "WorkerworldsError" = some u ∧ RelV (.ref W) u
  kW : PySem.W.kitOne K (.ref C) (.ref W) = some true
  kV : PySem.W.kitOne K (.ref C) (.type "ValueError") = some true
def spRepr (C : Addr) : Sp := fun vs H Q _ => ∃ (a : Addr) (z : Str), vs = [.ref a] ∧ BoxAt C H a z ∧ z.length ≤ 1000 ∧ Q (.str ("Box(" ++ z ++ ")")) H
def spMade (K : PySem.W.Frag) (C : Addr) : Sp := fun vs H Q _ => ∃ x : V, vs = [x] ∧ Thing K H x ∧
  ∀ H' l ts, H l = none → H' l = some (.lst ts) → ((∃ z b, x = .str z ∧ IsC z ∧ ts = [.ref b] ∧ Same H H' ∧ BoxAt C H' b z) ∨ (conB x = false ∧ ts = [.non, x, .bl true] ∧ Same H H')) → Q (.ref l) H'
def spShows (C : Addr) : Sp := fun vs H Q _ => ∃ (b : Addr) (z : Str), vs = [.ref b, .str z] ∧ BoxAt C H b z ∧ IsC z ∧ Q (.bl true) H
end WB

set_option Elab.async false
set_option linter.all false
set_option maxRecDepth 100000
set_option maxHeartbeats 4000000
namespace WB
open PySem L2 PyProof.Rows
/-! ### C.m(..), m a static method -/
structure StatC (K : PySem.W.Frag) (mg : Str → Option Value) (Cn : Str) (C : Addr) (m : Str) (g : Addr) : Prop where
  gC : mg Cn = some (.ref C)
  rd : PySem.W.readsIn K C (.type "type") = true
  ga : PySem.W.specialIn K (.ref C) "__getattribute__" = some (some (.builtin "type.__getattribute__"))
  ex : ∃ (p : Addr) (rest : List Value), PySem.W.findCls K (.ref C) (.type "type") m = some (.get (.builtin "staticmethod.__get__") (.ref p) .none (.ref C)) ∧ PySem.W.recIn K p "staticmethod" = some (.ref g :: rest)
  kp : PySem.W.keepIn K (.ref g) = true
section
variable {X : Cx} {k j : Nat} {g C : Addr} {sp : Sp} {Cn m : Str} {e : Expr} {es : List Expr} {t : TA} {p1 apos pos : Pos}
theorem static_meth {pins : List (Addr × Obj)} {σ : L2.St} {H : Hp} {s : Shared} {pl : Sem Bool} {A : Around} {E : Value → Shared → Prop} {Q : Value × List Value → Shared → Prop} (sc : StatC X.K X.mg Cn C m g) (I : Inv X pins σ H s) (h : ∀ s', Inv X pins σ H s' → Q (.ref g, []) s') :
    wpAny (model X.prog X.w) A (getMethod (.ref C) m pl) Q E s := by
  obtain ⟨p, rest, h1, h2⟩ := sc.ex
  exact PySem.W.method_cls I.kIn sc.ga (PySem.W.cls_bind I.kIn sc.rd h1 (wpAny_call (PySem.W.sm_get (s := { s with toks := s.toks + 1 }) I.kIn h2 (PySem.W.handed_on rfl (h _ (I.tok _))))))
theorem pe_stat {pl : Sem Bool} (sc : StatC X.K X.mg Cn C m g) (F : FnR X.prog X.w X.K X.mg X.base CX0 k g sp) (hr : Room j X.A) (hk : k ≤ j) (hg : Gl X Cn) (ha : PA X (e :: es) t) (hdb : (Cn == ("__debug__" : Str)) = false := by decide)
    (hst : starEach (e :: es) X.env = (false, eval e X.env) :: starEach es X.env := by rfl) (hpl : (backTo pos (starEach es X.env)).any (·.1) = false := by rfl)
    (ht : eval (.Call (.Attribute (.Name Cn p1) m apos) (e :: es) [] pos) X.env = (do
      let ov ← eval (.Name Cn p1) X.env
      standAt apos.atName
      let (f, first) ← holding [ov] (getMethod ov m pl)
      callWith pos f first (backTo pos (starEach (e :: es) X.env)) (backToKw pos (keywordEach [] X.env))) := by rfl) :
    PE X (.Call (.Attribute (.Name Cn p1) m apos) (e :: es) [] pos) (fun σ H Q => t σ H fun vs H1 => sp vs H1 Q E0) := by
  refine ⟨fun pins s σ H Q I h => ?_⟩
  refine PySem.W.methodCall_KW (pl := pl) (ld_glob I hg sc.gC ?_ hdb) ht
  refine static_meth sc I fun s1 I1 => ?_
  refine PySem.W.callWith_K (first := []) (h₀ := X.base) I1.ok.mod.kin sc.kp (thn (ha.run pos pins s1 σ H _ I1 h) fun us s2 ⟨vs, H1, I2, r, q⟩ => ⟨I2.kIn, ?_⟩) hst hpl
  exact wpAny_call (run_fnR F (hr.mono hk) pass0 I2 r q)
theorem pe_stat0 {pl : Sem Bool} (sc : StatC X.K X.mg Cn C m g) (F : FnR X.prog X.w X.K X.mg X.base CX0 k g sp) (hr : Room j X.A) (hk : k ≤ j) (hg : Gl X Cn) (hdb : (Cn == ("__debug__" : Str)) = false := by decide)
    (ht : eval (.Call (.Attribute (.Name Cn p1) m apos) [] [] pos) X.env = (do
      let ov ← eval (.Name Cn p1) X.env
      standAt apos.atName
      let (f, first) ← holding [ov] (getMethod ov m pl)
      callWith pos f first (backTo pos (starEach [] X.env)) (backToKw pos (keywordEach [] X.env))) := by rfl) :
    PE X (.Call (.Attribute (.Name Cn p1) m apos) [] [] pos) (fun σ H Q => sp [] H Q E0) := by
  refine ⟨fun pins s σ H Q I h => ?_⟩
  refine PySem.W.methodCall_KW (pl := pl) (ld_glob I hg sc.gC ?_ hdb) ht
  refine static_meth sc I fun s1 I1 => ?_
  exact PySem.W.callWith_K0 (first := []) I1.kIn sc.kp (wpAny_call (run_fnR F (hr.mono hk) pass0 I1 .nil h))
end
/-! ### boxes joined -/
def joinC (zs : List Str) : Str := sb fun c => zs.any fun z => mem z c
def spJoin (C : Addr) : Sp := fun vs H Q _ => ∃ (p : Addr) (bs : List Addr) (zs : List Str), vs = [.ref p] ∧ H p = some (.tup (bs.map V.ref)) ∧ bs.length ≤ 1000 ∧ Boxes C H bs zs ∧ ∀ H' b, Same H H' → H b = none → BoxAt C H' b (joinC zs) → Q (.ref b) H'
def spJoinR (C : Addr) : Sp := fun vs H Q E => ∃ ws rest, vs = ws ++ rest ∧ ws.length = ([] : List Str).length ∧ rest.length ≤ sizeLine ∧ ∀ p, H p = none → spJoin C (ws ++ [V.ref p]) (upd H p (.tup rest)) Q E
theorem joinR_ok {C : Addr} {H : Hp} {Q : VK} {E : XK} {bs : List Addr} {zs : List Str} (hb : Boxes C H bs zs) (hl : bs.length ≤ 1000) (q : ∀ H' b, Same H H' → H b = none → BoxAt C H' b (joinC zs) → Q (.ref b) H') : spJoinR C (bs.map V.ref) H Q E := by
  refine ⟨[], bs.map V.ref, rfl, rfl, by rw [List.length_map]; exact Nat.le_trans hl (by decide), fun p hp => ?_⟩
  have s := same_new (o := .tup (bs.map V.ref)) hp
  exact ⟨p, bs, zs, rfl, upd_same, hl, hb.same s, fun H' b s' nb h => q H' b (s.trans s') (s.free nb) h⟩
def spJoinL (C : Addr) : Sp := fun vs H Q _ => ∃ (l : Addr) (bs : List Addr) (zs : List Str), vs = [.ref l] ∧ H l = some (.lst (bs.map V.ref)) ∧ bs.length ≤ 6 ∧ Boxes C H bs zs ∧ ∀ H' b, Same H H' → H b = none → BoxAt C H' b (joinC zs) → Q (.ref b) H'
def spCopied (C : Addr) : Sp := fun vs H Q _ => ∃ (a : Addr) (z : Str), vs = [.ref a] ∧ BoxAt C H a z ∧ IsC z ∧ ∀ H' b, Same H H' → H b = none → BoxAt C H' b z → Q (.ref b) H'
def spDueJ : Sp := fun vs H Q _ => ∃ (l : Addr) (zs : List Str), vs = [.ref l] ∧ H l = some (.lst (zs.map V.str)) ∧ zs.length ≤ 1000 ∧ ∀ H', Same H H' → Q (.str (joinC zs)) H'
theorem inV_bools {α : Type} (f : α → Bool) (zs : List α) : inV (.bl true) (zs.map fun z => V.bl (f z)) = zs.any f := by
  unfold inV
  rw [List.any_map]
  refine congrArg (fun g => zs.any g) (funext fun z => ?_)
  show eqV (V.bl (f z)) (V.bl true) = f z
  cases f z <;> decide +kernel
theorem flat_bools {α : Type} (f : α → Bool) (zs : List α) : (zs.map fun z => V.bl (f z)).all flatV = true := by
  rw [List.all_map]
  exact List.all_eq_true.mpr fun _ _ => rfl
theorem upd_snoc {H : Hp} {D : Addr} {ys : List V} {j : Nat} {y : V} (h : ys[j]? = some y) : upd (upd H D (.lst (ys.take j))) D (.lst (ys.take j ++ [y])) = upd H D (.lst (ys.take (j + 1))) := by
  rw [upd_upd, take_snoc h]
theorem take_small {ys : List V} {j n : Nat} (h : ys.length ≤ n) (hn : n ≤ 1000 := by decide) : (ys.take j).length < sizeLine := Nat.lt_of_le_of_lt (show (ys.take j).length ≤ ys.length by rw [List.length_take]; exact Nat.min_le_right _ _) (Nat.lt_of_le_of_lt (Nat.le_trans h hn) (by decide))
theorem join_step {zs : List Str} {i : Nat} {z : Str} (h : zs[i]? = some z) : (sb fun c => mem (sb fun c => (zs.take i).any fun z => mem z c) c || mem z c) = sb fun c => (zs.take (i + 1)).any fun z => mem z c := sb_ext fun c hc => by
  rw [mem_sb, decide_eq_true hc, Bool.true_and, take_snoc h, List.any_append, List.any_cons, List.any_nil, Bool.or_false]
theorem join_none : (sb fun c => (([] : List Str)).any fun z => mem z c) = "" := by decide +kernel
theorem lay_texts : ∀ zs : List Str, (∀ z ∈ zs, ∀ c ∈ z.cps.toList, c < 1000) → PyData.canLayAll0 (zs.map PyData.str) = true
  | [], _ => rfl
  | z :: r, h => by
    have ih := lay_texts r fun y hy => h y (List.mem_cons_of_mem _ hy)
    show (PyData.canLay0 (.str z) && PyData.canLayAll0 (r.map _)) = true
    rw [ih, Bool.and_true]
    show z.cps.all (fun c => decide (c < 0x110000)) = true
    rw [← Array.all_toList]
    exact List.all_eq_true.mpr fun c hc => decide_eq_true (Nat.lt_trans (h z List.mem_cons_self c hc) (by decide))
theorem shaped_texts {zs : List Str} (h : ∀ z ∈ zs, IsC z) : SeqAt.shaped (.list (zs.map PyData.str)) = true := by
  have e1 : PyData.canLay0 (.list (zs.map PyData.str)) = true := lay_texts zs fun z hz => (small_isC (h z hz)).2
  obtain ⟨_, _, h3, _⟩ := showAll_strs zs
  have e2 : PyData.depth (.list (zs.map PyData.str)) ≤ 64 := by
    show PyData.depthAll (zs.map _) + 1 ≤ 64
    rw [h3]
    decide
  unfold SeqAt.shaped
  rw [e1, decide_eq_true e2]
  rfl
theorem eqv_texts : ∀ zs : List Str, PyData.eqv (.list (zs.map PyData.str)) (.list (zs.map PyData.str)) = true := by
  have key : ∀ zs : List Str, PyData.eqvAll (zs.map PyData.str) (zs.map PyData.str) = true := by
    intro zs
    induction zs with
    | nil => rfl
    | cons z r ih =>
      show (PyData.eqv (.str z) (.str z) && PyData.eqvAll (r.map _) (r.map _)) = true
      rw [ih, Bool.and_true]
      show (z == z) = true
      exact beq_self_eq_true z
  exact key
theorem TwoAt.off {C : Addr} {H0 H : Hp} {p q tl bl x : Addr} {bs : List Addr} {zs : List Str} (h : TwoAt C H0 p q tl bl bs zs H) (nx : H x = none) : p ≠ x ∧ q ≠ x ∧ tl ≠ x ∧ bl ≠ x ∧ x ∉ bs ∧ H0 x = none := by
  refine ⟨(h.bag.there nx).symm, (h.bag.there2 nx).symm, ne_of_none h.t nx, ne_of_none h.b nx, ?_, h.sm.free nx⟩
  intro m
  obtain ⟨z, dx, e⟩ := h.bx.mem m
  rw [nx] at e
  cases e
theorem TwoAt.other {C : Addr} {H0 H H' : Hp} {p q tl bl x : Addr} {bs : List Addr} {zs : List Str} (h : TwoAt C H0 p q tl bl bs zs H) (e : Bar x H H') (n : p ≠ x ∧ q ≠ x ∧ tl ≠ x ∧ bl ≠ x ∧ x ∉ bs ∧ H0 x = none) : TwoAt C H0 p q tl bl bs zs H' :=
  ⟨same_bar h.sm n.2.2.2.2.2 e, h.bag.bar e n.1 n.2.1, e _ _ n.2.2.1 h.t, e _ _ n.2.2.2.1 h.b, h.bx.bar e n.2.2.2.2.1, h.ic⟩
theorem TwoAt.news {C : Addr} {H0 H H' : Hp} {p q tl bl x : Addr} {bs : List Addr} {zs : List Str} (h : TwoAt C H0 p q tl bl bs zs H) (w : Two C H0 p q tl bl bs) (n : p ≠ x ∧ q ≠ x ∧ tl ≠ x ∧ bl ≠ x ∧ x ∉ bs ∧ H0 x = none)
    (fr : ∀ b o, b ≠ x → b ∉ bs → H b = some o → H' b = some o) (hb : Boxes C H' bs zs) : TwoAt C H0 p q tl bl bs zs H' := by
  obtain ⟨n1, n2⟩ := h.bx.notin2 h.bag
  refine ⟨fun b o e => fr b o (ne_of_none e n.2.2.2.2.2) (fun m => ?_) (h.sm b o e), ?_, fr _ _ n.2.2.1 (h.bx.notin h.t) h.t, fr _ _ n.2.2.2.1 (h.bx.notin h.b) h.b, hb, h.ic⟩
  · rw [w.nbs b m] at e
    cases e
  · obtain ⟨c, s, i, ns, h1, h2, h3⟩ := h.bag
    exact ⟨c, s, i, ns, fr _ _ n.1 n1 h1, fr _ _ n.2.1 n2 h2, h3⟩
theorem getD_at {α : Type} {l : List α} {k : Nat} {d : α} (h : k < l.length) : l[k]? = some (l.getD k d) := by
  rw [List.getD_eq_getElem?_getD, List.getElem?_eq_getElem h]
  rfl
theorem Boxes.pick {C : Addr} {H : Hp} {bs : List Addr} {zs : List Str} (h : Boxes C H bs zs) {ks : List Nat} (hk : ∀ k ∈ ks, k < bs.length) : Boxes C H (ks.map fun k => bs.getD k 0) (ks.map fun k => zs.getD k "") := by
  refine ⟨by rw [List.length_map, List.length_map], fun i b z h1 h2 => ?_⟩
  obtain ⟨k, hki, rfl⟩ := map_from h1
  obtain ⟨k', hki', rfl⟩ := map_from h2
  rw [hki] at hki'
  cases hki'
  have hl := hk k (List.mem_of_getElem? hki)
  exact h.2 k _ _ (getD_at hl) (getD_at (by rw [← h.1]; exact hl))
end WB

set_option Elab.async false
set_option linter.all false
set_option maxRecDepth 100000
set_option maxHeartbeats 4000000
namespace WB
open PySem L2 PyProof.Rows
/-! ### a def that may raise, where it does not -/
theorem fnok_quiet {P : Program} {w : World} {K : PySem.W.Frag} {mg : Str → Option Value} {base : Heap} {k : Nat} {f : Addr} {fd : FuncData} {ps : List Str} {sp sp' : Sp} (F : FnOk P w K mg base (L2.CX P w) k f fd ps sp) (h : ∀ vs H Q E, sp' vs H Q E → sp vs H Q E0) :
    FnOk P w K mg base CX0 k f fd ps sp' := by
  refine ⟨fun vs H Q E q => F.len vs H Q E0 (h vs H Q E q), fun A outer s H args us vs Q E hr e0 hb r q => ?_⟩
  refine codeAny_mono (F.run A outer s H args us vs Q E0 hr e0 hb r (h vs H Q E q)) fun x s' hq => ?_
  cases x with
  | error e =>
    obtain ⟨_, _, _, _, _, _, _, _, _, _, _, _, z⟩ := (show L2.CX P w outer H s E0 e s' from hq)
    exact z.elim
  | ok fl =>
    cases fl with
    | ret u => exact hq
    | next => exact hq
    | brk => exact hq
    | cont => exact hq
theorem init_quiet {K : PySem.W.Frag} {C CB : Addr} (vs : List V) (H : Hp) (Q : VK) (E : XK) (h : spInit C vs H Q E) : spInitX K C CB vs H Q E0 := by
  obtain ⟨a, dx, z, rfl, ha, hz, k⟩ := h
  exact init_ok hz ha k
theorem become_quiet {K : PySem.W.Frag} {C CB : Addr} (vs : List V) (H : Hp) (Q : VK) (E : XK) (h : spBecome C vs H Q E) : spBecomeX K C CB vs H Q E0 := by
  obtain ⟨a, y, z, rfl, hb, hz, k⟩ := h
  exact become_ok hb hz k
/-! ### some of the marks -/
/-- contents out of the marks ms -/
def InM (ms : List Nat) (z : Str) : Prop := ∃ f : Nat → Bool, z = S (ms.filter f)
theorem InM.isC {ms : List Nat} {z : Str} (h : InM ms z) (hs : ms.Sublist mk) : IsC z := by
  obtain ⟨f, rfl⟩ := h
  exact isC_of (List.filter_sublist.trans hs)
def spMarks : Sp := fun vs H Q _ => ∃ p q : Addr, vs = [.ref p] ∧ BagAt H p q ∧ ∀ (H' : Hp) (l : Addr) (ms : List Nat), Bar p H H' → BagAt H' p q → H l = none → H' l = some (.lst (ms.map sg)) → ms.Sublist mk → ms.length ≤ 52 → Q (.ref l) H'
def spContM : Sp := fun vs H Q _ => ∃ (p q l : Addr) (ms : List Nat), vs = [.ref p, .ref l] ∧ BagAt H p q ∧ H l = some (.lst (ms.map sg)) ∧ ms.Sublist mk ∧ l ≠ p ∧ ∀ H' z, Bar p H H' → BagAt H' p q → InM ms z → Q (.str z) H'
/-- the signs 0, 1, 2, 3 -/
def gn (s : Nat) (x y : Bool) : Bool := if s = 0 then x || y else if s = 1 then x && y else if s = 2 then x && !y else x != y
def spDueM : Sp := fun vs H Q _ => ∃ (s : Nat) (a b : Str) (l : Addr) (ms : List Nat), vs = [.int (s : Nat), .str a, .str b, .ref l] ∧ s < 4 ∧ H l = some (.lst (ms.map sg)) ∧ ms.length ≤ 52 ∧ Q (.str (S (ms.filter fun c => gn s (mem a c) (mem b c)))) H
def spSignedN (C : Addr) : Sp := fun vs H Q _ => ∃ (s : Nat) (a b : Addr) (y z : Str), vs = [.int (s : Nat), .ref a, .ref b] ∧ s < 4 ∧ BoxAt C H a y ∧ BoxAt C H b z ∧ IsC y ∧ IsC z ∧
  ∀ H' c, Same H H' → H c = none → BoxAt C H' c (sb fun m => gn s (mem y m) (mem z m)) → Q (.ref c) H'
def spChangeN (C : Addr) : Sp := fun vs H Q _ => ∃ (s : Nat) (r a b : Addr) (k : Nat) (xs : List V) (y z : Str), vs = [.int (s : Nat), .ref r, .int (k : Nat), .ref b] ∧ s < 4 ∧ H r = some (.lst xs) ∧ xs[k]? = some (.ref a) ∧ BoxAt C H a y ∧ BoxAt C H b z ∧ IsC y ∧ IsC z ∧
  ∀ H', Bar a H H' → BoxAt C H' a (sb fun m => gn s (mem y m) (mem z m)) → Q .non H'
def spRefused (C : Addr) : Sp := fun vs H Q _ => ∃ (a : Addr) (y : Str), vs = [.ref a] ∧ BoxAt C H a y ∧ ∀ H', Same H H' → Q (.bl true) H'
/-- what is within ms, told over all the marks -/
theorem sb_in {ms : List Nat} (hs : ms.Sublist mk) {s : Nat} {y z : Str} (hy : InM ms y) (hz : InM ms z) : (sb fun c => gn s (mem y c) (mem z c)) = S (ms.filter fun c => gn s (mem y c) (mem z c)) := by
  unfold sb
  refine congrArg S ?_
  have e : ms = mk.filter fun c => decide (c ∈ ms) := sub_filter hs mk_nodup
  have out : ∀ c, c ∉ ms → mem y c = false ∧ mem z c = false := fun c hc => by
    obtain ⟨f, rfl⟩ := hy
    obtain ⟨g, rfl⟩ := hz
    exact ⟨decide_eq_false fun h => hc (List.mem_filter.mp h).1, decide_eq_false fun h => hc (List.mem_filter.mp h).1⟩
  have e2 : ms.filter (fun c => gn s (mem y c) (mem z c)) = mk.filter fun c => decide (c ∈ ms) && gn s (mem y c) (mem z c) := by
    conv => lhs; rw [e]
    rw [List.filter_filter]
    exact List.filter_congr fun c _ => Bool.and_comm _ _
  rw [e2]
  refine List.filter_congr fun c _ => ?_
  by_cases hc : c ∈ ms
  · rw [decide_eq_true hc, Bool.true_and]
  · rw [decide_eq_false hc, Bool.false_and, (out c hc).1, (out c hc).2]
    unfold gn
    split
    · rfl
    · split
      · rfl
      · split <;> rfl
theorem due_boolN {s : Nat} (hs : s < 4) (x y : Bool) :
    (((decide (V.int (s : Nat) = V.int 0) && decide ((0 : Int) < (if x then 1 else 0) + (if y then 1 else 0))) || ((decide (V.int (s : Nat) = V.int 1) && decide (V.int ((if x then 1 else 0) + (if y then 1 else 0)) = V.int 2)) || (decide (V.int (s : Nat) = V.int 3) && decide (V.int ((if x then 1 else 0) + (if y then 1 else 0)) = V.int 1)))) = (gn s x y && !decide (s = 2))) ∧
    ((decide (V.int (s : Nat) = V.int 2) && (x && !y)) = (gn s x y && decide (s = 2))) := by
  match s, hs with
  | 0, _ => cases x <;> cases y <;> decide +kernel
  | 1, _ => cases x <;> cases y <;> decide +kernel
  | 2, _ => cases x <;> cases y <;> decide +kernel
  | 3, _ => cases x <;> cases y <;> decide +kernel
end WB

set_option Elab.async false
set_option linter.all false
set_option maxRecDepth 100000
set_option maxHeartbeats 4000000
namespace WB
open PySem L2 PyProof.Rows
/-! ### a run of boxes under several names: who owns which text -/
structure Lay (H0 : Hp) (p q bl hl tl ml : Addr) : Prop where
  np : H0 p = none
  nb : H0 bl = none
  nh : H0 hl = none
  nt : H0 tl = none
  pb : bl ≠ p
  ph : hl ≠ p
  pt : tl ≠ p
  pm : ml ≠ p
  qb : bl ≠ q
  qh : hl ≠ q
  qt : tl ≠ q
  bh : bl ≠ hl
  bt : bl ≠ tl
  ht : hl ≠ tl
  mb : ml ≠ bl
  mh : ml ≠ hl
  mt : ml ≠ tl
structure Run (C : Addr) (H0 : Hp) (ms : List Nat) (p q bl hl tl ml : Addr) (ow : List Addr) (hs : List Nat) (zs : List Str) (H : Hp) : Prop where
  sm : Same H0 H
  bag : BagAt H p q
  b : H bl = some (.lst (hs.map fun h => V.ref (ow.getD h 0)))
  h : H hl = some (.lst (hs.map fun h => V.int (h : Nat)))
  t : H tl = some (.lst (zs.map V.str))
  m : H ml = some (.lst (ms.map sg))
  bx : Boxes C H ow zs
  ic : ∀ z ∈ zs, InM ms z
  hk : hs.length = 5
  hz : ∀ h ∈ hs, h < zs.length
  nd : ow.Nodup
  no : ∀ b ∈ ow, H0 b = none
section
variable {C : Addr} {H0 H H' : Hp} {ms : List Nat} {p q bl hl tl ml : Addr} {ow : List Addr} {hs : List Nat} {zs : List Str}
theorem Run.draw (r : Run C H0 ms p q bl hl tl ml ow hs zs H) (w : Lay H0 p q bl hl tl ml) (e : Bar p H H') (hB : BagAt H' p q) : Run C H0 ms p q bl hl tl ml ow hs zs H' :=
  ⟨same_bar r.sm w.np e, hB, e _ _ w.pb r.b, e _ _ w.ph r.h, e _ _ w.pt r.t, e _ _ w.pm r.m, r.bx.bar e (r.bx.notin2 r.bag).1, r.ic, r.hk, r.hz, r.nd, r.no⟩
theorem Run.same (r : Run C H0 ms p q bl hl tl ml ow hs zs H) (s : Same H H') : Run C H0 ms p q bl hl tl ml ow hs zs H' :=
  ⟨r.sm.trans s, r.bag.same s, s _ _ r.b, s _ _ r.h, s _ _ r.t, s _ _ r.m, r.bx.same s, r.ic, r.hk, r.hz, r.nd, r.no⟩
theorem Run.at_ (r : Run C H0 ms p q bl hl tl ml ow hs zs H) {j : Nat} (hj : j < zs.length) : ow[j]? = some (ow.getD j 0) ∧ zs[j]? = some (zs.getD j "") ∧ BoxAt C H (ow.getD j 0) (zs.getD j "") ∧ InM ms (zs.getD j "") := by
  have h1 := getD_at (l := ow) (d := 0) (k := j) (by rw [r.bx.1]; exact hj)
  have h2 := getD_at (l := zs) (d := ("" : Str)) hj
  exact ⟨h1, h2, r.bx.2 j _ _ h1 h2, r.ic _ (List.mem_of_getElem? h2)⟩
theorem Run.held (r : Run C H0 ms p q bl hl tl ml ow hs zs H) {k : Nat} (hk : k < 5) : hs[k]? = some (hs.getD k 0) ∧ hs.getD k 0 < zs.length := by
  have h1 := getD_at (l := hs) (d := 0) (k := k) (by rw [r.hk]; exact hk)
  exact ⟨h1, r.hz _ (List.mem_of_getElem? h1)⟩
/-- the box at j and its text are changed -/
theorem Run.changed (r : Run C H0 ms p q bl hl tl ml ow hs zs H) (w : Lay H0 p q bl hl tl ml) {j : Nat} {z : Str} (hj : j < zs.length) (e : Bar (ow.getD j 0) H H') (n : BoxAt C H' (ow.getD j 0) z) (hz : InM ms z) :
    H' bl = some (.lst (hs.map fun h => V.ref (ow.getD h 0))) ∧ H' hl = some (.lst (hs.map fun h => V.int (h : Nat))) ∧ H' tl = some (.lst (zs.map V.str)) ∧ H' ml = some (.lst (ms.map sg)) ∧ BagAt H' p q ∧
      Run C H0 ms p q bl hl tl ml ow hs (zs.set j z) (upd H' tl (.lst ((zs.set j z).map V.str))) := by
  obtain ⟨h1, h2, h3, h4⟩ := r.at_ hj
  have mo := List.mem_of_getElem? h1
  have ne : ∀ {x : Addr}, x ∉ ow → x ≠ ow.getD j 0 := fun h q => h (q ▸ mo)
  have n2 := r.bx.notin2 r.bag
  have nt := r.bx.notin r.t
  have eb := e _ _ (ne (r.bx.notin r.b)) r.b
  have eh := e _ _ (ne (r.bx.notin r.h)) r.h
  have et := e _ _ (ne nt) r.t
  have em := e _ _ (ne (r.bx.notin r.m)) r.m
  have hB := r.bag.bar e (ne n2.1) (ne n2.2)
  have hx := r.bx.set r.nd h1 e n
  refine ⟨eb, eh, et, em, hB, same_bar (same_bar r.sm (r.no _ mo) e) w.nt bar_upd, hB.bar bar_upd w.pt.symm w.qt.symm, (upd_ne w.bt).trans eb, (upd_ne w.ht).trans eh, upd_same, (upd_ne w.mt).trans em, hx.bar bar_upd nt, fun y hy => ?_, r.hk, fun h hh => by rw [List.length_set]; exact r.hz h hh, r.nd, r.no⟩
  rcases List.mem_or_eq_of_mem_set hy with h | h
  · exact r.ic y h
  · rw [h]
    exact hz
/-- the name at k takes what the name at j holds -/
theorem Run.rebind (r : Run C H0 ms p q bl hl tl ml ow hs zs H) (w : Lay H0 p q bl hl tl ml) {k h : Nat} (hh : h < zs.length) :
    Run C H0 ms p q bl hl tl ml ow (hs.set k h) zs (upd (upd H bl (.lst ((hs.map fun h => V.ref (ow.getD h 0)).set k (.ref (ow.getD h 0))))) hl (.lst ((hs.map fun h => V.int (h : Nat)).set k (.int (h : Nat))))) := by
  have s1 : Bar bl H (upd H bl (.lst ((hs.map fun h => V.ref (ow.getD h 0)).set k (.ref (ow.getD h 0))))) := bar_upd
  have nb := r.bx.notin r.b
  have nh := r.bx.notin r.h
  refine ⟨same_bar (same_bar r.sm w.nb s1) w.nh bar_upd, (r.bag.bar s1 w.pb.symm w.qb.symm).bar bar_upd w.ph.symm w.qh.symm, ?_, ?_, (upd_ne w.ht.symm).trans ((upd_ne w.bt.symm).trans r.t), (upd_ne w.mh).trans ((upd_ne w.mb).trans r.m), (r.bx.bar s1 nb).bar bar_upd nh, r.ic, by rw [List.length_set]; exact r.hk, fun x hx => ?_, r.nd, r.no⟩
  · rw [upd_ne w.bh, upd_same, List.map_set]
  · rw [upd_same, List.map_set]
  · rcases List.mem_or_eq_of_mem_set hx with hx | hx
    · exact r.hz x hx
    · rw [hx]
      exact hh
/-- a new box at c under the name at k -/
theorem Run.fresh (r : Run C H0 ms p q bl hl tl ml ow hs zs H) (w : Lay H0 p q bl hl tl ml) {k : Nat} {c : Addr} {z : Str} (nc : H0 c = none) (ic : c ∉ ow) (hc : BoxAt C H c z) (hz : InM ms z) :
    Run C H0 ms p q bl hl tl ml (ow ++ [c]) (hs.set k zs.length) (zs ++ [z]) (upd (upd (upd H bl (.lst ((hs.map fun h => V.ref (ow.getD h 0)).set k (.ref c)))) tl (.lst (zs.map V.str ++ [.str z]))) hl (.lst ((hs.map fun h => V.int (h : Nat)).set k (.int (zs.length : Nat))))) := by
  have lo : ow.length = zs.length := r.bx.1
  have nb := r.bx.notin r.b
  have nh := r.bx.notin r.h
  have nt := r.bx.notin r.t
  have ncb : ∀ {l : Addr} {xs : List V}, H l = some (.lst xs) → c ≠ l := fun e q => by
    obtain ⟨dx, hc⟩ := hc
    rw [← q, hc] at e
    cases e
  have s1 : Bar bl H (upd H bl (.lst ((hs.map fun h => V.ref (ow.getD h 0)).set k (.ref c)))) := bar_upd
  have hx : Boxes C H (ow ++ [c]) (zs ++ [z]) := r.bx.snoc hc
  have no3 : ∀ {l : Addr} {xs : List V}, H l = some (.lst xs) → l ∉ ow ++ [c] := fun {l xs} e m => by
    rcases List.mem_append.mp m with m | m
    · exact r.bx.notin e m
    · exact ncb e (List.mem_singleton.mp m).symm
  refine ⟨same_bar (same_bar (same_bar r.sm w.nb s1) w.nt bar_upd) w.nh bar_upd, ((r.bag.bar s1 w.pb.symm w.qb.symm).bar bar_upd w.pt.symm w.qt.symm).bar bar_upd w.ph.symm w.qh.symm, ?_, ?_, ?_, (upd_ne w.mh).trans ((upd_ne w.mt).trans ((upd_ne w.mb).trans r.m)), ((hx.bar s1 (no3 r.b)).bar bar_upd (no3 r.t)).bar bar_upd (no3 r.h), fun y hy => ?_, by rw [List.length_set]; exact r.hk, fun x hx => ?_, ?_, fun b hb => ?_⟩
  · rw [upd_ne w.bh, upd_ne w.bt, upd_same, List.map_set]
    refine congrArg (fun l => some (HO.lst l)) ?_
    have e1 : (ow ++ [c]).getD zs.length 0 = c := by
      rw [List.getD_eq_getElem?_getD, List.getElem?_append_right (by omega), lo, Nat.sub_self]
      rfl
    rw [e1]
    refine congrArg (fun l => List.set l k (V.ref c)) (List.map_congr_left fun h hh => ?_)
    have := r.hz h hh
    rw [List.getD_eq_getElem?_getD, List.getD_eq_getElem?_getD, List.getElem?_append_left (by omega)]
  · rw [upd_same, List.map_set]
  · rw [upd_ne w.ht.symm, upd_same, List.map_append]
    rfl
  · rcases List.mem_append.mp hy with hy | hy
    · exact r.ic y hy
    · rw [List.mem_singleton.mp hy]
      exact hz
  · rw [List.length_append]
    rcases List.mem_or_eq_of_mem_set hx with hx | hx
    · exact Nat.lt_of_lt_of_le (r.hz x hx) (Nat.le_add_right _ _)
    · rw [hx]
      exact Nat.lt_succ_self _
  · exact List.nodup_append.mpr ⟨r.nd, by simp, fun x hx y hy e => ic (by rw [List.mem_singleton.mp hy] at e; exact e ▸ hx)⟩
  · rcases List.mem_append.mp hb with hb | hb
    · exact r.no b hb
    · rw [List.mem_singleton.mp hb]
      exact nc
end
def spDeed (C : Addr) : Sp := fun vs H Q _ => ∃ (H0 : Hp) (ms : List Nat) (p q bl hl tl ml : Addr) (ow : List Addr) (hs : List Nat) (zs : List Str), vs = [.ref p, .ref bl, .ref hl, .ref tl, .ref ml] ∧ Lay H0 p q bl hl tl ml ∧ ms.Sublist mk ∧ Run C H0 ms p q bl hl tl ml ow hs zs H ∧ zs.length ≤ 1000 ∧
  ∀ H' ow' hs' zs', Run C H0 ms p q bl hl tl ml ow' hs' zs' H' → zs'.length ≤ zs.length + 1 → Q (.bl true) H'
end WB

set_option Elab.async false
set_option linter.all false
set_option maxRecDepth 100000
set_option maxHeartbeats 4000000
namespace WB
open PySem L2 PyProof.Rows
theorem vals_of : ∀ {l : List V} {us : List Value}, l.length = us.length → (∀ (j : Nat) v u, l[j]? = some v → us[j]? = some u → RelV v u) → Vals l us
  | [], [], _, _ => .nil
  | v :: l, u :: us, h, r => .cons (r 0 v u rfl rfl) (vals_of (Nat.succ.inj h) fun j v u h1 h2 => r (j + 1) v u h1 h2)
  | [], _ :: _, h, _ => by cases h
  | _ :: _, [], h, _ => by cases h
/-- list(text) -/
def rListS : List V → Hp → VK → Prop := fun xs H Q => ∃ x : Str, xs = [.str x] ∧ x.length ≤ sizeLine ∧ ∀ l, H l = none → Q (.ref l) (upd H l (.lst (x.cps.toList.map sg)))
theorem call_listS {X : Cx} (hh : X.A.handled = none) : CallR X (.type "list") rListS := by
  intro pins s σ H xs us Q I r h
  obtain ⟨x, rfl, hz, q⟩ := h
  obtain ⟨u, rfl, t, rfl⟩ := vals_one r
  refine call_list_str hh x t (hn := hz) fun h' tk acc' c' hk hS' hacc => ?_
  have hv : Vals (x.cps.toList.map sg) acc'.toList := vals_of (by rw [List.length_map, Array.length_toList, Array.length_toList, hacc.1]) fun j v u h1 h2 => by
    obtain ⟨c, hc, rfl⟩ := map_from h1
    obtain ⟨c', u', h3, rfl⟩ := hacc.2 j u (by rw [← Array.getElem?_toList]; exact h2)
    rw [Array.getElem?_toList] at hc
    rw [hc] at h3
    cases h3
    exact ⟨u', rfl⟩
  have new : ObjOk X.prog X.w (upd H s.heap.objs.size (.lst (x.cps.toList.map sg))) h' s.heap.objs.size (.lst (x.cps.toList.map sg)) := ⟨by rw [List.length_map]; exact hz, acc'.toList, c', hv, by simpa using hS'⟩
  exact ⟨.ref s.heap.objs.size, _, I.laid (t' := tk) hk (Nat.le_refl _) new, rfl, q _ (I.hok.fresh (Nat.le_refl _))⟩
theorem dp_all_bools {K : PySem.W.Frag} {H : Hp} : ∀ bs : List Bool, DpAll K H (bs.map V.bl) (bs.map PyData.bool)
  | [] => .nil
  | b :: r => .cons (.bl b) (dp_all_bools r)
theorem lay_bools : ∀ bs : List Bool, PyData.canLayAll0 (bs.map PyData.bool) = true ∧ PyData.depthAll (bs.map PyData.bool) = 0 ∧ PyData.eqvAll (bs.map PyData.bool) (bs.map PyData.bool) = true
  | [] => ⟨rfl, rfl, rfl⟩
  | b :: r => by
    obtain ⟨h1, h2, h3⟩ := lay_bools r
    refine ⟨?_, ?_, ?_⟩
    · show (true && PyData.canLayAll0 (r.map _)) = true
      rw [h1]
      rfl
    · show max 0 (PyData.depthAll (r.map _)) = 0
      rw [h2]
      rfl
    · show ((b == b) && PyData.eqvAll (r.map _) (r.map _)) = true
      rw [h3, beq_self_eq_true]
      rfl
theorem shaped_bools (bs : List Bool) : SeqAt.shaped (.list (bs.map PyData.bool)) = true := by
  obtain ⟨h1, h2, _⟩ := lay_bools bs
  have e1 : PyData.canLay0 (.list (bs.map PyData.bool)) = true := h1
  have e2 : PyData.depth (.list (bs.map PyData.bool)) ≤ 64 := by
    show PyData.depthAll (bs.map _) + 1 ≤ 64
    omega
  unfold SeqAt.shaped
  rw [e1, decide_eq_true e2]
  rfl
theorem eqv_bools (bs : List Bool) : PyData.eqv (.list (bs.map PyData.bool)) (.list (bs.map PyData.bool)) = true := (lay_bools bs).2.2
theorem eqv_signs (ns : List Nat) : PyData.eqv (.list (ns.map fun c => PyData.str (S [c]))) (.list (ns.map fun c => PyData.str (S [c]))) = true := by
  have := eqv_texts (ns.map fun c => S [c])
  rw [List.map_map] at this
  exact this
/-- the marks of ms that stand in z, z out of ms -/
theorem inM_list {ms : List Nat} {z : Str} (h : InM ms z) : ms.filter (fun c => mem z c) = z.cps.toList := by
  obtain ⟨f, rfl⟩ := h
  show ms.filter _ = ms.filter f
  refine List.filter_congr fun c hc => ?_
  unfold mem
  cases q : f c with
  | true => exact decide_eq_true (List.mem_filter.mpr ⟨hc, q⟩)
  | false =>
    refine decide_eq_false fun m => ?_
    have h2 := (List.mem_filter.mp (show c ∈ ms.filter f from m)).2
    rw [q] at h2
    cases h2
theorem owner_eq {ow : List Addr} (nd : ow.Nodup) {a b : Nat} (ha : a < ow.length) (hb : b < ow.length) : decide (ow.getD a 0 = ow.getD b 0) = decide (V.int (a : Nat) = V.int (b : Nat)) := by
  by_cases c : a = b
  · subst c
    rw [decide_eq_true rfl, decide_eq_true rfl]
  · rw [decide_eq_false, decide_eq_false]
    · intro e
      have := V.int.inj e
      omega
    · intro e
      have h1 := getD_at (l := ow) (d := 0) ha
      have h2 := getD_at (l := ow) (d := 0) hb
      obtain ⟨i1, e1⟩ := List.getElem?_eq_some_iff.mp h1
      obtain ⟨i2, e2⟩ := List.getElem?_eq_some_iff.mp h2
      exact c ((List.getElem_inj nd).mp (e1.trans (e.trans e2.symm)))
end WB

set_option Elab.async false
set_option linter.all false
set_option maxRecDepth 100000
set_option maxHeartbeats 4000000
namespace WB
open PySem L2 PyProof.Rows
/-! ### x[k] and x[k] = v of an own class -/
section
variable {X : Cx} {CX : CXT} {k j : Nat} {f C : Addr} {fd : FuncData} {ps : List Str} {sp : Sp} {E : L2.St → XK} {p pos pos' : Pos} {e o i value : Expr} {to ti tv : TE}
theorem run_at {A : Around} {pins : List (Addr × Obj)} {σ : L2.St} {H : Hp} {s : Shared} {Q : VK} {E : XK} {us : List Value} {vs : List V} (F : FnOk X.prog X.w X.K X.mg X.base CX k f fd ps sp) (hr : Room k A) (e0 : Env0 X.prog X.w X.K X.mg X.base A X.stack s H)
    (hb : Binds X.K fd ps []) (hx : PassesAt CX X σ E) (I : Inv X pins σ H s) (r : Vals vs us) (h : sp vs H Q E) : wpAny (model X.prog X.w) A (call (.ref f) us) (EP X pins σ Q) X.xe s := by
  have hl : (us ++ ([] : List Value)).length = ps.length := by
    rw [List.append_nil, ← r.length]
    exact F.len _ _ _ _ h
  have hb2 := hb s us I.kIn hl
  rw [List.append_nil] at hb2
  refine wpAny_call (codeAny_mono (F.run A X.stack s H ⟨us, []⟩ us vs Q E hr e0 hb2 r h) fun r s' hq => ?_)
  cases r with
  | error er => exact hx pins H s er s' I hq
  | ok fl =>
    cases fl with
    | ret u => exact I.after hq
    | next => exact hq.elim
    | brk => exact hq.elim
    | cont => exact hq.elim
structure GetX (P : Program) (w : World) (K : PySem.W.Frag) (mg : Str → Option Value) (base : Heap) (k : Nat) (C : Addr) (sp : Sp) : Prop where
  ex : ∃ (f : Addr) (fd : FuncData) (ps : List Str), PySem.W.findIn K (.ref C) "__getitem__" = some (some (.ref f)) ∧ PySem.W.fnIn K f = true ∧ PySem.W.isFn K (.ref f) = true ∧ FnOk P w K mg base (L2.CX P w) k f fd ps sp ∧ Binds K fd ps []
structure SetX (P : Program) (w : World) (K : PySem.W.Frag) (mg : Str → Option Value) (base : Heap) (k : Nat) (C : Addr) (sp : Sp) : Prop where
  ex : ∃ (f : Addr) (fd : FuncData) (ps : List Str), PySem.W.noSeq K C = true ∧ PySem.W.findIn K (.ref C) "__setitem__" = some (some (.ref f)) ∧ PySem.W.isFn K (.ref f) = true ∧ FnOk P w K mg base (L2.CX P w) k f fd ps sp ∧ Binds K fd ps []
def tGetO (C : Addr) (sp : Sp) (E : L2.St → XK) (to ti : TE) : TE := fun σ H Q => to σ H fun x H1 => ti σ H1 fun y H2 => ∃ a dx fs, x = .ref a ∧ H2 a = some (.ins C dx fs) ∧ sp [x, y] H2 Q (E σ)
def sSetO (C : Addr) (sp : Sp) (E : L2.St → XK) (to ti tv : TE) : TS := fun D σ H => tv σ H fun v H1 => to σ H1 fun x H2 => ti σ H2 fun y H3 => ∃ a dx fs, x = .ref a ∧ H3 a = some (.ins C dx fs) ∧ sp [x, y, v] H3 (fun _ H4 => D.nx σ H4) (E σ)
/-- how a plain key is asked of an own class -/
def PlainK (i : Expr) : Prop := ∀ (x : Addr) (v : Value), subscripted i true (.ref x) v = runValue (.builtin "lifetime.subscript" ⟨[.ref x, v], []⟩)
theorem pe_getS (c : GetX X.prog X.w X.K X.mg X.base k C sp) (hx : ∀ σ, PassesAt (L2.CX X.prog X.w) X σ (E σ)) (hr0 : Room j X.A) (hk : k + 1 ≤ j) (ho : PE X o to) (hi : PE X i ti) (hs : PlainK i) : PE X (.Subscript o i pos) (tGetO C sp E to ti) := by
  obtain ⟨f, fd, ps, h1, h2, h3, F, hb⟩ := c.ex
  have hr := hr0.mono hk
  refine ⟨fun pins s σ H Q I h => Subscript_ (thn (ho.run pins s σ H _ I h) fun u s1 ⟨x, H1, I1, rx, q1⟩ => thn (hi.run pins s1 σ H1 _ I1 q1) fun v s2 ⟨y, H2, I2, ry, a, dx, fs, ex, ea, q2⟩ => ?_)⟩
  subst ex
  cases (show u = Value.ref a from rx)
  obtain ⟨m, Fm⟩ := I2.fr
  obtain ⟨mA, O', _, _, _, _⟩ := ins_get I2.hok ea
  obtain ⟨od, J, _⟩ := O'.look
  exact PySem.W.sub_K Fm I2.mod.kin J h1 h2 h3 (run_at F hr.in1 I2.env0.in1 hb (hx σ) I2 (.cons (show RelV (.ref a) (.ref a) from rfl) (.cons ry .nil)) q2) (hs a v)
theorem ps_setS (c : SetX X.prog X.w X.K X.mg X.base k C sp) (hx : ∀ σ, PassesAt (L2.CX X.prog X.w) X σ (E σ)) (hr0 : Room j X.A) (hk : k ≤ j) (ho : PE X o to) (hi : PE X i ti) (hv : PE X value tv) (hs : swapsWith value (some (.Subscript o i pos')) pos.line X.env = pure false) :
    PS X (.Assign [.Subscript o i pos'] value pos) (sSetO C sp E to ti tv) := by
  obtain ⟨f, fd, ps, h1, h2, h3, F, hb⟩ := c.ex
  have hr := hr0.mono hk
  refine ⟨fun pins s σ H D I h => wpAny_Assign_Subscript (thn (hv.run pins s σ H _ I h) fun r s1 ⟨v, H1, I1, rv, q1⟩ => thn (ho.run pins s1 σ H1 _ I1 q1) fun u s2 ⟨x, H2, I2, rx, q2⟩ => thn (hi.run pins s2 σ H2 _ I2 q2) fun iv s3 ⟨y, H3, I3, ry, a, dx, fs, ex, ea, q3⟩ => ?_) hs⟩
  subst ex
  cases (show u = Value.ref a from rx)
  obtain ⟨m, Fm⟩ := I3.fr
  obtain ⟨mA, O', _, _, _, _⟩ := ins_get I3.hok ea
  obtain ⟨od, J, _⟩ := O'.look
  refine PySem.W.ksp_setItem Fm I3.mod.kin J h1 h2 h3 ?_
  exact thn (run_at F hr I3.env0 hb (hx σ) I3 (.cons (show RelV (.ref a) (.ref a) from rfl) (.cons ry (.cons rv .nil))) q3) fun _ s4 ⟨_, H4, I4, _, q4⟩ => ⟨σ, H4, I4, q4⟩
theorem passE0 (σ : L2.St) : PassesAt (L2.CX X.prog X.w) X σ E0 := fun pins H s e s' I h => passL pins σ H s e s' I h
end
section
variable {X : Cx} {k j : Nat} {C : Addr} {sp : Sp} {W : WX} {pos pos' : Pos} {o i value : Expr} {to ti tv : TE}
/-- where nothing is let out -/
theorem pe_own (c : GetX X.prog X.w X.K X.mg X.base k C sp) (hr : Room j X.A) (hk : k + 1 ≤ j) (ho : PE X o to) (hi : PE X i ti) (hs : PlainK i) : PE X (.Subscript o i pos) (tGetO C sp (fun _ => E0) to ti) := pe_getS c passE0 hr hk ho hi hs
theorem ps_own (c : SetX X.prog X.w X.K X.mg X.base k C sp) (hr : Room j X.A) (hk : k ≤ j) (ho : PE X o to) (hi : PE X i ti) (hv : PE X value tv) (hs : swapsWith value (some (.Subscript o i pos')) pos.line X.env = pure false) :
    PS X (.Assign [.Subscript o i pos'] value pos) (sSetO C sp (fun _ => E0) to ti tv) := ps_setS c passE0 hr hk ho hi hv hs
/-- where it is taken -/
theorem pe_ownT (c : GetX X.prog X.w X.K X.mg X.base k C sp) (tk : Takes X W) (hr : Room j X.A) (hk : k + 1 ≤ j) (ho : PE X o to) (hi : PE X i ti) (hs : PlainK i) : PE X (.Subscript o i pos) (tGetO C sp (WE W) to ti) := pe_getS c (fun σ => passAt tk σ) hr hk ho hi hs
theorem ps_ownT (c : SetX X.prog X.w X.K X.mg X.base k C sp) (tk : Takes X W) (hr : Room j X.A) (hk : k ≤ j) (ho : PE X o to) (hi : PE X i ti) (hv : PE X value tv) (hs : swapsWith value (some (.Subscript o i pos')) pos.line X.env = pure false) :
    PS X (.Assign [.Subscript o i pos'] value pos) (sSetO C sp (WE W) to ti tv) := ps_setS c (fun σ => passAt tk σ) hr hk ho hi hv hs
end
theorem fnIn_of {K : PySem.W.Frag} {f : Addr} {c : Value} {d : Option Addr} {fd : FuncData} {sl : Array (Option Value)} (h : K.lookup f = some ⟨c, d, .func fd, sl⟩) : PySem.W.fnIn K f = true := by
  unfold PySem.W.fnIn
  rw [h]
end WB

set_option Elab.async false
set_option linter.all false
set_option maxRecDepth 100000
set_option maxHeartbeats 4000000
namespace WB
open PySem L2 PyProof.Rows
/-! ### exceptions of an own class over any built-in base, with an own __init__ -/
structure OexB (K : PySem.W.Frag) (C : Addr) (B newId initId : String) (bmB : List Value) : Prop where
  fb : ExcBaseFacts B newId initId bmB
  sf : StoreFacts B bmB "object.__setattr__" "object"
  cls : ∃ nm q N bs bm sn sub ab col dd k0 k1 k2 k3 k5, K.lookup C = some (excClassObj nm q C N bs bm true sn sub ab col dd k0 k1 k2 k3 k5 newId) ∧ PySem.W.excTail bmB bm = true
  sa : PySem.W.findIn K (.ref C) "__setattr__" = some (some (.builtin "object.__setattr__"))
  exC : PySem.W.subIn K (.ref C) (.type "BaseException") = some true
  tyC : PySem.W.typeIn K (.ref C) = some (.type "type")
  kC : PySem.W.keepIn K (.ref C) = true
section
variable {K : PySem.W.Frag} {C : Addr} {B newId initId : String} {bmB : List Value}
theorem OexB.cd (T : OexB K C B newId initId bmB) : ∃ cd bm, PySem.W.clsIn K C = some cd ∧ cd.mro = .ref C :: bm ∧ PySem.W.excTail bmB bm = true ∧ cd.hasDict = true := by
  obtain ⟨nm, q, N, bs, bm, sn, sub, ab, col, dd, k0, k1, k2, k3, k5, l, ht⟩ := T.cls
  have e : PySem.W.clsIn K C = some { name := nm, bases := bs, mro := .ref C :: bm, ns := N, qualname := q, hasDict := true, slotNames := sn, subclasses := sub, abstract := ab, collection := col, hasDel := false } := by
    unfold PySem.W.clsIn
    rw [l] <;> rfl
  exact ⟨_, bm, e, rfl, ht, rfl⟩
theorem OexB.over (T : OexB K C B newId initId bmB) : PySem.W.excOver K C bmB = true := by
  obtain ⟨cd, bm, e, em, ht, _⟩ := T.cd
  unfold PySem.W.excOver
  rw [e]
  show (match cd.mro with | .ref C' :: bm => C' == C && PySem.W.excTail bmB bm | _ => false) = true
  rw [em]
  show (C == C && PySem.W.excTail bmB bm) = true
  rw [ht, beq_self_eq_true]
  rfl
theorem taker_none {f : Str} (h : PySem.W.findIn K (.ref C) f = some none) : PySem.W.takerIn K C f = some none := by
  unfold PySem.W.takerIn
  rw [h]
  rfl
end
section
variable {prog : Program} {w : PySem.World} {A : Around} {E : Value → Shared → Prop} {R : Result → Shared → Prop} {h0 : Heap} {gs0 : Array GenState} {dr : Drawn} {tt : Nat} {os : OsState} {K : PySem.W.Frag} {C : Addr} {B newId initId : String} {bmB : List Value}
open PySem.Builtin.ObjectAttr in
theorem osb_new {f : Str} {tk : Tok} {v : Value} {x t1 : Addr} (T : OexB K C B newId initId bmB) (X : K.In h0) (hx : h0.get? x = some (PySem.W.excObj C t1 none .none)) (hno : PySem.W.findIn K (.ref C) f = some none)
    (hq : ∀ h' tk' dx, (∀ b o, b ≠ x → h0.get? b = some o → h'.get? b = some o) → h0.objs.size ≤ dx → dx ≠ x → h'.get? x = some (PySem.W.excObj C t1 (some dx) .none) → h'.Ns1 dx (fun y => if y = f then some v else none) → R (.ok (.ret .none)) ⟨h', gs0, dr, tk', os⟩) :
    codeAny (model prog w) A (.call (.builtin "object.__setattr__") ⟨[.ref x, .str f tk, v], []⟩) R ⟨h0, gs0, dr, tt, os⟩ := by
  obtain ⟨cd, bm, e, em, ht, hd⟩ := T.cd
  have nx : x ≠ h0.objs.size := Nat.ne_of_lt (Heap.lt_size hx)
  refine PySem.W.osa_openX (od := none) T.sf X ⟨hx, rfl, rfl, trivial⟩ T.over (taker_none hno) fun b => ?_
  refine wpAny_bind (wpAny_pure (wpAny_bind (PySem.W.instanceDict_exc hx (PySem.W.looks_clsIn X e) hd ?_)))
  have hx1 : (h0.push (PySem.W.dictOf [] 0)).get? x = some (PySem.W.excObj C t1 none .none) := Heap.get?_push_of_some _ hx
  refine PySem.HandSPX.store_in_new ⟨PySem.W.dictOf [] 0, #[], 0, (Heap.get?_update_ne _ _ _ _ nx.symm).trans (Heap.get?_push_at rfl rfl), rfl, fun e he => absurd he (by simp), fun _ => rfl⟩ fun h' tk' hn hs => ?_
  refine hq h' tk' h0.objs.size (fun c o hc ho => ?_) (Nat.le_refl _) nx.symm ((hs.2 x nx).trans (Heap.get?_update_self _ hx1 rfl)) hn
  exact (hs.2 c (Nat.ne_of_lt (Heap.lt_size ho))).trans ((Heap.get?_update_ne _ _ _ _ hc).trans (Heap.get?_push_of_some _ ho))
open PySem.Builtin.ObjectAttr in
theorem osb_old {f : Str} {tk : Tok} {v : Value} {x t1 dx : Addr} {m0 : Str → Option Value} {nl : List Str} (T : OexB K C B newId initId bmB) (X : K.In h0) (hx : h0.get? x = some (PySem.W.excObj C t1 (some dx) .none)) (hns : h0.Ns1 dx m0) (hw : Within m0 nl) (hz : nl.length ≤ 1000)
    (hno : PySem.W.findIn K (.ref C) f = some none)
    (hq : ∀ h' tk', (∀ b o, b ≠ dx → h0.get? b = some o → h'.get? b = some o) → h'.Ns1 dx (fun y => if y = f then some v else m0 y) → R (.ok (.ret .none)) ⟨h', gs0, dr, tk', os⟩) :
    codeAny (model prog w) A (.call (.builtin "object.__setattr__") ⟨[.ref x, .str f tk, v], []⟩) R ⟨h0, gs0, dr, tt, os⟩ := by
  obtain ⟨cd, bm, e, em, ht, hd⟩ := T.cd
  obtain ⟨oD, _, _, ho, _, _⟩ := hns.count hw
  refine PySem.W.osa_openX (od := some oD) T.sf X ⟨hx, rfl, rfl, ho⟩ T.over (taker_none hno) fun b => ?_
  refine wpAny_bind (wpAny_pure (wpAny_bind (wpAny_bind (wpAny_loadPart hx (wpAny_bind ((PySem.W.looks_clsIn X e).here ?_))))))
  rw [hd]
  refine wpAny_pure (a := some dx) ?_
  exact PySem.OEX.store_in_old hns hw hz fun h' tk' hn hs => hq h' tk' (fun c o hc ho => (hs.2 c hc).trans ho) hn
end
section
variable {X : Cx} {pins : List (Addr × Obj)} {σ : L2.St} {H : Hp} {s : Shared} {a C dx : Addr} {f : Str} {y : V} {u : Value} {fs : List (Str × V)} {Q : Unit → Shared → Prop} {E : Value → Shared → Prop} {A : Around} {B newId initId : String} {bmB : List Value}
theorem ostb_new (T : OexB X.K C B newId initId bmB) (I : Inv X pins σ H s) (e : H a = some (exo a C none)) (hno : PySem.W.findIn X.K (.ref C) f = some none) (ry : RelV y u)
    (h : ∀ dx s', H dx = none → dx ≠ a → Inv X pins σ (upd (upd H dx (exd dx [(f, y)])) a (exo a C (some dx))) s' → Q () s') : wpAny (model X.prog X.w) A (setAttr (.ref a) f u) Q E s := by
  obtain ⟨t1, ho⟩ := exo_at I.hok e
  obtain ⟨hp, g, d, t, os⟩ := s
  refine PySem.W.set_plain I.kIn (ox := PySem.W.excObj C t1 none .none) (od := none) ⟨ho, rfl, rfl, trivial⟩ T.sa (osb_new T I.kIn ho hno fun h' tk' dx kp dn dne hx hn => ?_)
  have fd : H dx = none := I.hok.fresh dn
  have n1 : ∀ {c : Addr} {o : Obj}, hp.get? c = some o → c ≠ dx := fun {c o} z => Nat.ne_of_lt (Nat.lt_of_lt_of_le (Heap.lt_size z) dn)
  have n2 : ∀ {c : Addr}, H c = none → c ≠ a := fun {c} z z2 => by
    rw [z2, e] at z
    cases z
  have same : ∀ {c : Addr} {o : HO}, H c = some o → (∀ d, o ≠ exo c C d) → upd (upd H dx (exd dx [(f, y)])) a (exo a C (some dx)) c = some o := fun {c o} z n => by
    rw [upd_ne (fun q => by rw [q, e] at z; exact n none (by rw [q]; exact (Option.some.inj z).symm)), upd_ne (ne_of_none z fd)]
    exact z
  have U : Un X.fs [] H (upd (upd H dx (exd dx [(f, y)])) a (exo a C (some dx))) hp h' :=
    ⟨fun c o z n _ _ => kp c o (n2 n) z, fun c o z n _ _ => ⟨o.slots, kp c o (n2 n) z⟩, fun c o z n _ => by rw [upd_ne (n2 n), upd_ne (n1 z)]; exact n,
      fun c o z _ => by
        by_cases q : c = a
        · exact ⟨_, by rw [q]; exact hx⟩
        · exact ⟨o, kp c o q z⟩,
      fun c xs z => same z fun d q => exo_tup q.symm, fun c o v z => same z fun d q => exo_frz q.symm, fun c ps z => ⟨#[], by rw [same z fun d q => exo_tbl q.symm]; simp⟩⟩
  refine h dx _ fd dne (I.un (t' := tk') U fun c o z => ?_)
  by_cases q : c = a
  · subst q
    rw [upd_same] at z
    cases z
    exact exo_ok hx
  rw [upd_ne q] at z
  by_cases q2 : c = dx
  · subst q2
    rw [upd_same] at z
    cases z
    exact exd_ok hn (relO_put (fs := []) ry fun _ => trivial)
  rw [upd_ne q2] at z
  refine (I.hok c o z).stay (fun b v hb hv => kp b v ?_ hv) (fun b hb => same hb fun d q => exo_own q.symm) (fun b xs hb => same hb fun d q => exo_tup q.symm)
  rcases hb with hb | hb
  · rw [hb]
    exact q
  · exact at_ne e hb exo_own
theorem ostb_old (T : OexB X.K C B newId initId bmB) (I : Inv X pins σ H s) (e : H a = some (exo a C (some dx))) (ed : H dx = some (exd dx fs)) (hl : fs.length ≤ 900) (hno : PySem.W.findIn X.K (.ref C) f = some none) (ry : RelV y u)
    (h : ∀ s', Inv X pins σ (upd H dx (exd dx ((f, y) :: fs))) s' → Q () s') : wpAny (model X.prog X.w) A (setAttr (.ref a) f u) Q E s := by
  obtain ⟨t1, ho⟩ := exo_at I.hok e
  obtain ⟨mA, hns, rel⟩ := exd_at I.hok ed
  have hw := within_of rel
  obtain ⟨hp, g, d, t, os⟩ := s
  obtain ⟨oD, _, _, hoD, _, _⟩ := hns.count hw
  refine PySem.W.set_plain I.kIn (ox := PySem.W.excObj C t1 (some dx) .none) (od := some oD) ⟨ho, rfl, rfl, hoD⟩ T.sa (osb_old T I.kIn ho hns hw (by rw [List.length_map]; omega) hno fun h' tk' kp hn => ?_)
  have there : ∃ o, h'.get? dx = some o := by
    obtain ⟨o, _, _, z, _⟩ := hn
    exact ⟨o, z⟩
  exact h _ (I.write (t' := tk') (x := dx) (e := dx) (o := exd dx ((f, y) :: fs)) (by rw [ed]; trivial) (.inl rfl) kp there (exd_ok hn (relO_put ry rel)))
end
/-- self.f = e -/
def tOstB (C : Addr) (f : Str) (to te : TE) : TS := fun D σ H => te σ H fun y H1 => to σ H1 fun x H2 => ∃ a : Addr, x = .ref a ∧
  ((H2 a = some (exo a C none) ∧ ∀ dx, H2 dx = none → dx ≠ a → D.nx σ (upd (upd H2 dx (exd dx [(f, y)])) a (exo a C (some dx)))) ∨
    ∃ (dx : Addr) (fs : List (Str × V)), H2 a = some (exo a C (some dx)) ∧ H2 dx = some (exd dx fs) ∧ fs.length ≤ 900 ∧ D.nx σ (upd H2 dx (exd dx ((f, y) :: fs))))
section
variable {X : Cx} {o e : Expr} {es : List Expr} {to te : TE} {ta : TA} {f : Str} {p p' pos : Pos} {C : Addr} {B newId initId : String} {bmB : List Value}
theorem ps_ostB (T : OexB X.K C B newId initId bmB) (hno : PySem.W.findIn X.K (.ref C) f = some none) (ho : PE X o to) (he : PE X e te) (hs : swapsWith e (some (.Attribute o f p')) pos.line X.env = pure false := by rfl) : PS X (.Assign [.Attribute o f p'] e pos) (tOstB C f to te) := by
  refine ⟨fun pins s σ H D I h => plainObj_wpAny_Assign_Attribute (thn (he.run pins s σ H _ I h) fun v s1 ⟨y, H1, I1, r1, q1⟩ => thn (ho.run pins s1 σ H1 _ I1 q1) fun u s2 ⟨x, H2, I2, r2, a, ex, q⟩ => ?_) hs⟩
  subst ex
  cases (show u = Value.ref a from r2)
  rcases q with ⟨ea, q⟩ | ⟨dx, fs, ea, ed, hl, q⟩
  · exact ostb_new T I2 ea hno r1 fun dx s' n ne J => ⟨σ, _, J, q dx n ne⟩
  · exact ostb_old T I2 ea ed hl hno r1 fun s' J => ⟨σ, _, J, q⟩
end
end WB

namespace WB
open PySem L2 PyProof.Rows
section
variable {X : Cx} {e : Expr} {es : List Expr} {ta : TA} {p pos : Pos} {B newId initId : String} {bmB : List Value}
/-- C(e, ..) behind raise -/
theorem pmk_oexB {CX : CXT} {x : Str} {C fI : Addr} {k : Nat} {fd : FuncData} {ps : List Str} {sp : Sp} (T : OexB X.K C B newId initId bmB) (iC : PySem.W.findIn X.K (.ref C) "__init__" = some (some (.ref fI))) (tI : PySem.W.typeIn X.K (.ref fI) = some (.type "function"))
    (F1 : FnOk X.prog X.w X.K X.mg X.base CX k fI fd ps sp) (hr : Room (k + 1) X.A) (hb : Binds X.K fd ps []) (hx : Passes CX X (fun _ _ _ => False)) (hg : Gl X x) (hm : X.mg x = some (.ref C)) (ha : PA X (e :: es) ta)
    (hdb : (x == ("__debug__" : Str)) = false := by decide) (he : starEach (e :: es) X.env = (false, eval e X.env) :: starEach es X.env := by rfl) (hpl : (backTo pos (starEach es X.env)).any (·.1) = false := by rfl) :
    PMk X (.Call (.Name x p) (e :: es) [] pos) (tMkO C sp [] ta) := by
  intro pins s σ H Q I h
  obtain ⟨nm, q, N, bs, bm, sn, sub, ab, col, dd, k0, k1, k2, k3, k5, hC, hbm⟩ := T.cls
  refine wpAny_Call_Name_kw (ld_glob I hg hm ?_ hdb)
  refine PySem.W.callWith_K (h₀ := X.base) I.ok.mod.kin T.kC (thn (ha.run pos pins s σ H _ I h) fun us s1 z => ?_) he hpl
  obtain ⟨vs, H1, I1, r1, hz, q1⟩ := z
  refine ⟨I1.kIn, ?_⟩
  obtain ⟨hp, g, dr, tk, os⟩ := s1
  have fresh : H1 (hp.objs.size + 1) = none := I1.hok.fresh (Nat.le_succ _)
  have hq := q1 (hp.objs.size + 1) fresh
  have up : ∀ b o, hp.get? b = some o → ((hp.push (PySem.W.kdv_tup us)).push (PySem.HandSPX.excO C hp.objs.size)).get? b = some o := fun b o z => Heap.get?_push_of_some _ (Heap.get?_push_of_some _ z)
  have made : ((hp.push (PySem.W.kdv_tup us)).push (PySem.HandSPX.excO C hp.objs.size)).get? (hp.objs.size + 1) = some (PySem.HandSPX.excO C hp.objs.size) := by heap_get
  have I2 := I1.laid (t' := tk) (a := hp.objs.size + 1) (o := exo (hp.objs.size + 1) C none) up (Nat.le_succ _) (exo_ok made)
  have r2 : Vals (V.ref (hp.objs.size + 1) :: (vs ++ [])) (Value.ref (hp.objs.size + 1) :: us) := by
    rw [List.append_nil]
    exact .cons rfl r1
  have hl : (Value.ref (hp.objs.size + 1) :: us ++ []).length = ps.length := by
    rw [List.append_nil]
    exact r2.length.symm.trans (F1.len _ _ _ _ hq)
  have hb2 := hb _ (Value.ref (hp.objs.size + 1) :: us) I2.kIn hl
  rw [List.append_nil] at hb2
  have hus : us.length ≤ sizeLine := by
    rw [← Paired.length r1, sizeLine_eq]
    omega
  refine wpAny_call (PySem.HandSPX.call_own T.fb (fun Y => PySem.W.excTail_contains Y bm hbm) (I1.kIn _ _ hC) (PySem.W.looks_findIn I1.kIn iC) (fun self => PySem.W.bind_fn I1.kIn self tI) hus
    (codeAny_mono (F1.run _ X.stack _ _ ⟨Value.ref (hp.objs.size + 1) :: us, []⟩ (Value.ref (hp.objs.size + 1) :: us) _ _ (fun _ _ _ => False) (hr.make C us []) (I2.env0.make C us []) hb2 r2 hq) fun r s' z => ?_))
  cases r with
  | error er => exact hx pins σ _ _ er s' I2 z
  | ok fl =>
    cases fl with
    | ret u =>
      obtain ⟨v, H2, z2, z3, z4, z5, rv, ev, d, fs, ea, ed, hd1, q2⟩ := z
      subst ev
      obtain ⟨h2, g2, d2, t2, os'⟩ := s'
      exact ⟨rv, mk_end (raises_own T.exC T.tyC) I1 (Nat.le_succ _) up z4 z5 z2 z3 ea ed hd1 q2⟩
    | next => exact z.elim
    | brk => exact z.elim
    | cont => exact z.elim
end
/-- __init__ of an exception with one field -/
def spOne (C : Addr) (f : Str) : Sp := fun vs H Q _ => ∃ (a : Addr) (y : V), vs = [.ref a, y] ∧ H a = some (exo a C none) ∧ ∀ d, H d = none → d ≠ a → Q .non (upd (upd H d (exd d [(f, y)])) a (exo a C (some d)))
/-- an own exception class of one field, by its name -/
structure ErrT (K : PySem.W.Frag) (mg : Str → Option Value) (C : Addr) (x f : Str) : Prop where
  ox : ∃ B newId initId bmB, OexB K C B newId initId bmB
  xf : XfC K C
  no : PySem.W.findIn K (.ref C) f = some none
  g : mg x = some (.ref C)
  te : PySem.W.exmOne K (.ref C) (.ref C) = some true
structure ErrC (P : Program) (w : World) (K : PySem.W.Frag) (mg : Str → Option Value) (base : Heap) (C : Addr) (x f p1 : Str) : Prop where
  t : ErrT K mg C x f
  ini : ∃ (g : Addr) (fd : FuncData), PySem.W.findIn K (.ref C) "__init__" = some (some (.ref g)) ∧ PySem.W.typeIn K (.ref g) = some (.type "function") ∧ FnOk P w K mg base C8.CX0 1 g fd ["self", p1] (spOne C f) ∧ Binds K fd ["self", p1] []
theorem pmk_err {X : Cx} {C : Addr} {j : Nat} {x f p1 : Str} {e : Expr} {ta : TA} {p pos : Pos} (B : ErrC X.prog X.w X.K X.mg X.base C x f p1) (hr : Room j X.A) (hk : 2 ≤ j) (hg : Gl X x) (ha : PA X [e] ta)
    (hdb : (x == ("__debug__" : Str)) = false := by decide) (he : starEach [e] X.env = (false, eval e X.env) :: starEach [] X.env := by rfl) (hpl : (backTo pos (starEach [] X.env)).any (·.1) = false := by rfl) :
    PMk X (.Call (.Name x p) [e] [] pos) (tMkO C (spOne C f) [] ta) := by
  obtain ⟨g, fd, h1, h2, F, b⟩ := B.ini
  obtain ⟨_, _, _, _, T⟩ := B.t.ox
  exact pmk_oexB T h1 h2 F (hr.mono hk) b (fun _ _ _ _ _ _ _ z => z.elim) hg B.t.g ha hdb he hpl
theorem err_ok {C a : Addr} {f : Str} {y : V} {H1 : Hp} {Q E : XK} (na : H1 a = none) (h : ∀ H' d, Same H1 H' → H1 d = none → H' d = some (.xd [(f, y)]) → Q (.ref C) (some d) H') :
    spOne C f [.ref a, y] (upd H1 a (exo a C none)) (fun v H2 => v = .non ∧ ∃ (d : Addr) (fs : List (Str × V)), H2 a = some (exo a C (some d)) ∧ H2 d = some (exd d fs) ∧ H1 d = none ∧ Q (.ref C) (some d) (upd (del H2 a) d (.xd fs))) E := by
  refine ⟨a, y, rfl, upd_same, fun d hd hda => ⟨rfl, d, [(f, y)], upd_same, (upd_ne hda).trans upd_same, ?_, ?_⟩⟩
  · rw [upd_ne hda] at hd
    exact hd
  · rw [upd_ne hda] at hd
    refine h _ d (fun b o e => ?_) hd upd_same
    have n1 : b ≠ a := ne_of_none e na
    have n2 : b ≠ d := ne_of_none e hd
    rw [upd_ne n2, del_ne n1, upd_ne n1, upd_ne n2, upd_ne n1]
    exact e
end WB

set_option Elab.async false
set_option linter.all false
set_option maxRecDepth 100000
set_option maxHeartbeats 4000000
namespace WB
open PySem L2 PyProof.Rows
/-! ### sorted texts: one order -/
theorem lt_tri : ∀ {a b : List Nat}, PySem.Spec.ltCps a b = false → PySem.Spec.ltCps b a = false → a = b
  | [], [], _, _ => rfl
  | [], _ :: _, h, _ => by cases h
  | _ :: _, [], _, h => by cases h
  | a :: r, b :: t, h1, h2 => by
    unfold PySem.Spec.ltCps at h1 h2
    rw [Bool.or_eq_false_iff] at h1 h2
    have n1 := of_decide_eq_false h1.1
    have n2 := of_decide_eq_false h2.1
    have e : a = b := by omega
    subst e
    have h3 := h1.2
    have h4 := h2.2
    rw [beq_self_eq_true, Bool.true_and] at h3 h4
    rw [lt_tri h3 h4]
theorem lt_trans' : ∀ {a b c : List Nat}, PySem.Spec.ltCps b a = false → PySem.Spec.ltCps c b = false → PySem.Spec.ltCps c a = false
  | [], b, c, h1, h2 => by
    cases c with
    | nil => rfl
    | cons x r => rfl
  | a :: r, [], c, h1, h2 => by cases h1
  | a :: r, b :: t, [], h1, h2 => by cases h2
  | a :: r, b :: t, c :: u, h1, h2 => by
    unfold PySem.Spec.ltCps at h1 h2 ⊢
    rw [Bool.or_eq_false_iff] at h1 h2 ⊢
    have n1 := of_decide_eq_false h1.1
    have n2 := of_decide_eq_false h2.1
    refine ⟨decide_eq_false (by omega), ?_⟩
    by_cases e : c = a
    · subst e
      have e2 : b = c := by omega
      subst e2
      have h3 := h1.2
      have h4 := h2.2
      rw [beq_self_eq_true, Bool.true_and] at h3 h4
      rw [beq_self_eq_true, Bool.true_and]
      exact lt_trans' h3 h4
    · rw [beq_eq_false_iff_ne.mpr e, Bool.false_and]
theorem rising_pw : ∀ {l : List Str} {p : Str}, risingS p l = true → (p :: l).Pairwise (fun a b => PySem.Spec.ltCps b.cps.toList a.cps.toList = false)
  | [], p, _ => List.pairwise_singleton _ _
  | x :: r, p, h => by
    have h' : (!PySem.Spec.ltCps x.cps.toList p.cps.toList && risingS x r) = true := h
    rw [Bool.and_eq_true, Bool.not_eq_true'] at h'
    have ih := rising_pw h'.2
    refine List.pairwise_cons.mpr ⟨fun y hy => ?_, ih⟩
    rcases List.mem_cons.mp hy with e | hy
    · rw [e]
      exact h'.1
    · exact lt_trans' h'.1 ((List.pairwise_cons.mp ih).1 y hy)
theorem sorted_pw {l : List Str} (h : sortedS l = true) : l.Pairwise (fun a b => PySem.Spec.ltCps b.cps.toList a.cps.toList = false) := by
  cases l with
  | nil => exact List.Pairwise.nil
  | cons x r => exact rising_pw h
theorem str_cps {a b : Str} (h : a.cps.toList = b.cps.toList) : a = b := by
  rw [← SX.S_tl a, ← SX.S_tl b, h]
theorem sorted_one {ys zs : List Str} (p : ys.Perm zs) (h1 : sortedS ys = true) (h2 : sortedS zs = true) : ys = zs :=
  p.eq_of_pairwise (fun a b _ _ h3 h4 => str_cps (lt_tri h4 h3)) (sorted_pw h1) (sorted_pw h2)
/-! ### tables by names -/
def kv (g : β → V) (p : Str × β) : Key × V := (.inr p.1, g p.2)
def putP (ps : List (Str × β)) (n : Str) (b : β) : List (Str × β) := if (ps.any fun p => decide (p.1 = n)) = true then ps.map (fun p => if p.1 = n then (p.1, b) else p) else ps ++ [(n, b)]
def dropP (ps : List (Str × β)) (n : Str) : List (Str × β) := ps.filter fun p => decide (p.1 ≠ n)
def getP (ps : List (Str × β)) (n : Str) : Option β := (ps.find? fun p => decide (p.1 = n)).map (·.2)
theorem inr_dec (a b : Str) : decide ((Sum.inr a : Key) = .inr b) = decide (a = b) := by
  by_cases h : a = b
  · rw [decide_eq_true h, decide_eq_true (congrArg _ h)]
  · rw [decide_eq_false h, decide_eq_false fun e => h (Sum.inr.inj e)]
theorem put_kv (g : β → V) (ps : List (Str × β)) (n : Str) (b : β) : putK (ps.map (kv g)) (.inr n) (g b) = (putP ps n b).map (kv g) := by
  have e : ((ps.map (kv g)).any fun p => decide (p.1 = Sum.inr n)) = ps.any fun p => decide (p.1 = n) := by
    rw [List.any_map]
    exact congrArg ps.any (funext fun p => inr_dec p.1 n)
  unfold putK putP
  rw [e]
  split
  · rw [List.map_map, List.map_map]
    refine List.map_congr_left fun p _ => ?_
    show (if (Sum.inr p.1 : Key) = .inr n then _ else _) = kv g (if p.1 = n then _ else _)
    by_cases h : p.1 = n
    · rw [if_pos h, if_pos (congrArg _ h)]
      rfl
    · rw [if_neg h, if_neg fun e => h (Sum.inr.inj e)]
  · rw [List.map_append]
    rfl
theorem drop_kv (g : β → V) (ps : List (Str × β)) (n : Str) : dropK (ps.map (kv g)) (.inr n) = (dropP ps n).map (kv g) := by
  unfold dropK dropP
  rw [List.filter_map]
  refine congrArg _ (List.filter_congr fun p _ => ?_)
  have e1 : ∀ (P : Prop) [Decidable P] [Decidable (¬P)], decide (¬P) = !decide P := fun P _ _ => by
    by_cases h : P
    · rw [decide_eq_true h, decide_eq_false (fun q => q h)]
      rfl
    · rw [decide_eq_false h, decide_eq_true h]
      rfl
  exact (e1 _).trans ((congrArg Bool.not (inr_dec p.1 n)).trans (e1 _).symm)
theorem get_kv (g : β → V) : ∀ (ps : List (Str × β)) (n : Str), valV (ps.map (kv g)) (.inr n) = (getP ps n).map g
  | [], _ => rfl
  | p :: r, n => by
    by_cases h : p.1 = n
    · have e1 : valV ((p :: r).map (kv g)) (.inr n) = some (g p.2) := valV_pos (p := kv g p) (r := r.map (kv g)) (congrArg Sum.inr h)
      have e2 : getP (p :: r) n = some p.2 := by
        unfold getP
        rw [List.find?_cons, decide_eq_true h]
        rfl
      rw [e1, e2]
      rfl
    · have e1 : valV ((p :: r).map (kv g)) (.inr n) = valV (r.map (kv g)) (.inr n) := valV_neg (p := kv g p) (r := r.map (kv g)) fun e => h (Sum.inr.inj e)
      have e2 : getP (p :: r) n = getP r n := by
        unfold getP
        rw [List.find?_cons, decide_eq_false h]
      rw [e1, e2, get_kv g r n]
theorem keys_kv (g : β → V) (ps : List (Str × β)) : (ps.map (kv g)).map (·.1) = (ps.map (·.1)).map Sum.inr := by
  rw [List.map_map, List.map_map]
  rfl
theorem putP_len (ps : List (Str × β)) (n : Str) (b : β) : (putP ps n b).length ≤ ps.length + 1 := by
  unfold putP
  split
  · rw [List.length_map]
    omega
  · rw [List.length_append]
    exact Nat.le_refl _
theorem putP_mem {ps : List (Str × β)} {n : Str} {b : β} {p : Str × β} (h : p ∈ putP ps n b) : p = (n, b) ∨ p ∈ ps := by
  unfold putP at h
  split at h
  · obtain ⟨q, hq, e⟩ := List.mem_map.mp h
    by_cases c : q.1 = n
    · rw [if_pos c] at e
      rw [← e, c]
      exact .inl rfl
    · rw [if_neg c] at e
      rw [← e]
      exact .inr hq
  · rcases List.mem_append.mp h with h | h
    · exact .inr h
    · exact .inl (List.mem_singleton.mp h)
theorem getP_mem {ps : List (Str × β)} {n : Str} {b : β} (h : getP ps n = some b) : (n, b) ∈ ps := by
  unfold getP at h
  cases e : ps.find? fun p => decide (p.1 = n) with
  | none =>
    rw [e] at h
    cases h
  | some p =>
    rw [e] at h
    have h2 := List.find?_some e
    have h3 := List.mem_of_find?_eq_some e
    obtain ⟨p1, p2⟩ := p
    cases Option.some.inj h
    cases of_decide_eq_true h2
    exact h3
/-! ### names -/
def alph : List Nat := List.range' 97 26 ++ [32]
theorem alph_eq : ("abcdefghijklmnopqrstuvwxyz " : Str) = S alph := by decide +kernel
def nameS (z : Str) : Bool := decide (1 ≤ z.length) && decide (z.length ≤ 13) && z.cps.toList.all fun c => decide (c ∈ alph)
def nameB : V → Bool
  | .str z => nameS z
  | _ => false
theorem nameB_noStr {K : PySem.W.Frag} {H : Hp} {x : V} (h : NoStr K H x) : nameB x = false := by
  cases x with
  | str y =>
    obtain ⟨t, ty, k⟩ := h
    cases ty with
    | base b =>
      cases b
      exact absurd k (by decide +kernel)
  | non => rfl
  | bl b => rfl
  | int i => rfl
  | byt b => rfl
  | flt b => rfl
  | ref a => rfl
  | ty n => rfl
theorem nameS_len {z : Str} (h : nameS z = true) : z.length ≤ 13 := by
  unfold nameS at h
  rw [Bool.and_eq_true, Bool.and_eq_true] at h
  exact of_decide_eq_true h.1.2
def spIsName (K : PySem.W.Frag) : Sp := fun vs H Q _ => ∃ x : V, vs = [x] ∧ Thing K H x ∧ ∀ H', Same H H' → Q (.bl (nameB x)) H'
/-! ### worlds -/
def wF (d : Addr) : List (Str × V) := [("boxes", .ref d)]
theorem wF_lk (d : Addr) : (wF d).lookup ("boxes" : Str) = some (.ref d) := by simp [wF, List.lookup]
theorem wF_no (d : Addr) {m : Str} (h : ¬ m = "boxes") : (wF d).lookup m = none := by
  have e : (m == ("boxes" : Str)) = false := by simpa using h
  simp [wF, List.lookup, e]
/-- a world at w, its table at d -/
def WAt (C : Addr) (H : Hp) (w d : Addr) (kvs : List (Key × V)) : Prop := (∃ dx, H w = some (.ins C dx (wF d))) ∧ H d = some (.dK kvs)
theorem WAt.same {C w d : Addr} {H H' : Hp} {kvs : List (Key × V)} (h : WAt C H w d kvs) (s : Same H H') : WAt C H' w d kvs := by
  obtain ⟨⟨dx, h1⟩, h2⟩ := h
  exact ⟨⟨dx, s _ _ h1⟩, s _ _ h2⟩
theorem WAt.bar {C w d p : Addr} {H H' : Hp} {kvs : List (Key × V)} (h : WAt C H w d kvs) (s : Bar p H H') (n : w ≠ p) (m : d ≠ p) : WAt C H' w d kvs := by
  obtain ⟨⟨dx, h1⟩, h2⟩ := h
  exact ⟨⟨dx, s _ _ n h1⟩, s _ _ m h2⟩
theorem WAt.bag {C w d p q : Addr} {H : Hp} {kvs : List (Key × V)} (h : WAt C H w d kvs) (hb : BagAt H p q) : w ≠ p ∧ d ≠ p := by
  obtain ⟨⟨dx, h1⟩, h2⟩ := h
  obtain ⟨c, s, i, ns, h3, _⟩ := hb
  exact ⟨ne_of h1 h3 (by intro e; cases e), ne_of h2 h3 (by intro e; cases e)⟩
theorem WAt.ne {C w d : Addr} {H : Hp} {kvs : List (Key × V)} (h : WAt C H w d kvs) : d ≠ w := by
  obtain ⟨⟨dx, h1⟩, h2⟩ := h
  exact fun e => by
    rw [e, h1] at h2
    cases h2
/-- what the top says of World -/
structure WorldC (K : PySem.W.Frag) (mg : Str → Option Value) (C : Addr) : Prop where
  cl : Cls K C
  nB : NoAttr K C "boxes"
  gW : ∃ u, mg "World" = some u ∧ RelV (.ref C) u
def inW (kvs : List (Key × V)) : V → Bool
  | .str z => (valV kvs (.inr z)).isSome
  | _ => false
theorem inW_noStr {K : PySem.W.Frag} {H : Hp} {x : V} (h : NoStr K H x) (kvs : List (Key × V)) : inW kvs x = false := by
  cases x with
  | str y =>
    obtain ⟨t, ty, k⟩ := h
    cases ty with
    | base b =>
      cases b
      exact absurd k (by decide +kernel)
  | non => rfl
  | bl b => rfl
  | int i => rfl
  | byt b => rfl
  | flt b => rfl
  | ref a => rfl
  | ty n => rfl
def spInitW (C : Addr) : Sp := fun vs H Q _ => ∃ w dx : Addr, vs = [.ref w] ∧ H w = some (.ins C dx []) ∧ ∀ H' d, Bar w H H' → H d = none → WAt C H' w d [] → Q .non H'
def spHasW (K : PySem.W.Frag) (C : Addr) : Sp := fun vs H Q _ => ∃ (w d : Addr) (kvs : List (Key × V)) (x : V), vs = [.ref w, x] ∧ WAt C H w d kvs ∧ Thing K H x ∧ Q (.bl (inW kvs x)) H
def spLenW (C : Addr) : Sp := fun vs H Q _ => ∃ (w d : Addr) (kvs : List (Key × V)), vs = [.ref w] ∧ WAt C H w d kvs ∧ Q (.int kvs.length) H
def spNames (C : Addr) : Sp := fun vs H Q _ => ∃ (w d : Addr) (kvs : List (Key × V)) (ks : List Str), vs = [.ref w] ∧ WAt C H w d kvs ∧ kvs.map (·.1) = ks.map Sum.inr ∧ ks.length < 64 ∧
  ∀ ys p, ys.Perm ks → sortedS ys = true → H p = none → Q (.ref p) (upd H p (.lst (ys.map V.str)))
/-- world[name], with the answer where the name isn't bound -/
def spGetX (K : PySem.W.Frag) (C CN : Addr) : Sp := fun vs H Q E => ∃ (w d : Addr) (kvs : List (Key × V)) (x : V), vs = [.ref w, x] ∧ WAt C H w d kvs ∧ Thing K H x ∧
  (∀ z v, x = .str z → valV kvs (.inr z) = some v → Q v H) ∧ (inW kvs x = false → ∀ H' e, Same H H' → H e = none → H' e = some (.xd [("name", x)]) → E (.ref CN) (some e) H')
/-- world[name] = box, both as they should be -/
def spPut (C CB : Addr) : Sp := fun vs H Q _ => ∃ (w d b : Addr) (kvs : List (Key × V)) (n z : Str), vs = [.ref w, .str n, .ref b] ∧ WAt C H w d kvs ∧ nameS n = true ∧ BoxAt CB H b z ∧ kvs.length < 1000 ∧
  ∀ H1, Same H H1 → Q .non (upd H1 d (.dK (putK kvs (.inr n) (.ref b))))
end WB

set_option Elab.async false
set_option linter.all false
set_option maxRecDepth 100000
set_option maxHeartbeats 4000000
namespace WB
open PySem L2 PyProof.Rows
/-! ### a def whose promise knows the guards, called by its name -/
structure CalG (P : Program) (w : World) (K : PySem.W.Frag) (mg : Str → Option Value) (base : Heap) (k : Nat) (x : Str) (sp : Sp) : Prop where
  ex : ∃ (f : Addr) (fd : FuncData) (ps : List Str), FnG P w K mg base C8.CX0 k f fd ps sp ∧ mg x = some (.ref f) ∧ PySem.W.keepIn K (.ref f) = true ∧ Binds K fd ps []
theorem pe_cG {X : Cx} {k j : Nat} {x : Str} {sp : Sp} {p pos : Pos} {e : Expr} {es : List Expr} {t : TA} (c : CalG X.prog X.w X.K X.mg X.base k x sp) (gd : X.A.guards = some []) (hr0 : Room j X.A) (hk : k ≤ j) (hg : Gl X x) (ha : PA X (e :: es) t)
    (hdb : (x == ("__debug__" : Str)) = false := by decide) (he : starEach (e :: es) X.env = (false, eval e X.env) :: starEach es X.env := by rfl) (hpl : (backTo pos (starEach es X.env)).any (·.1) = false := by rfl) :
    PE X (.Call (.Name x p) (e :: es) [] pos) (tCall sp [] E0 t) := by
  obtain ⟨f, fd, ps, F, hm, kp, b⟩ := c.ex
  have hr := hr0.mono hk
  refine ⟨fun pins s σ H Q I h => wpAny_Call_Name_kw (ld_glob I hg hm ?_ hdb)⟩
  refine PySem.W.callWith_K (h₀ := X.base) I.ok.mod.kin kp (thn (ha.run pos pins s σ H _ I h) fun us s1 z => ?_) he hpl
  obtain ⟨vs, H1, I1, r, q⟩ := z
  rw [List.append_nil] at q
  have hl : (us ++ ([] : List Value)).length = ps.length := by
    rw [List.append_nil, ← r.length]
    exact F.len _ _ _ _ q
  have hb2 := b s1 us I1.kIn hl
  rw [List.append_nil] at hb2
  refine ⟨I1.kIn, wpAny_call (codeAny_mono (F.run X.A X.stack s1 H1 ⟨us, []⟩ us vs Q E0 gd hr I1.env0 hb2 r q) fun r s' hq => ?_)⟩
  cases r with
  | error er => exact pass0 pins σ H1 s1 er s' I1 hq
  | ok fl =>
    cases fl with
    | ret u => exact I1.after hq
    | next => exact hq.elim
    | brk => exact hq.elim
    | cont => exact hq.elim
/-! ### data in a heap that the bag's changes leave -/
theorem SqL.mono {K : PySem.W.Frag} {H H' : Hp} {a : Addr} {xs : List V} (h : SqL K H a xs) (s : Same H H') : SqL K H' a xs := s.seq h
end WB

set_option Elab.async false
set_option linter.all false
set_option maxRecDepth 100000
set_option maxHeartbeats 4000000
namespace WB
open PySem L2 PyProof.Rows
theorem piled_le {m : Nat} : ∀ {ts : List Str}, (∀ t ∈ ts, t.length ≤ m) → piled ts ≤ ts.length * (m + 2)
  | [], _ => by
    rw [piled_nil]
    exact Nat.zero_le _
  | t :: r, h => by
    have ih := piled_le (ts := r) fun x hx => h x (List.mem_cons_of_mem _ hx)
    have ht := h t List.mem_cons_self
    rw [piled_cons, List.length_cons, Nat.succ_mul]
    omega
/-- a list of short texts, as data -/
theorem data_strs {K : PySem.W.Frag} {H : Hp} {l : Addr} {zs : List Str} (h : SqL K H l (zs.map V.str)) (hs : ∀ z ∈ zs, SmallS z) (hn : zs.length ≤ 64) : Dp K H (.ref l) (.list (zs.map PyData.str)) ∧ OkD (.list (zs.map PyData.str)) := by
  obtain ⟨h1, h2, h3, h4⟩ := showAll_strs zs
  refine ⟨.lst h (dp_all_strs zs), h1, h2, ?_, .inr ?_⟩
  · show PyData.depthAll _ + 1 ≤ 64
    rw [h3]
    decide
  · show (listText (PyData.shownAll _)).length ≤ _
    rw [h4]
    have pl := piled_le (m := 3002) (ts := zs.map reprText) fun t ht => by
      obtain ⟨z, hz, rfl⟩ := List.mem_map.mp ht
      exact repr_len (hs z hz)
    rw [List.length_map] at pl
    unfold listText
    rw [Str.length_append]
    have h5 := textFrom_le (zs.map reprText) 0 "["
    have h6 : ("[" : Str).length = 1 := by decide +kernel
    have h7 : ("]" : Str).length = 1 := by decide +kernel
    have h8 : zs.length * (3002 + 2) ≤ 64 * 3004 := Nat.mul_le_mul hn (Nat.le_refl _)
    have h9 : 300000 ≤ sizeLine := by decide
    omega
theorem inW_kv {β : Type} (g g' : β → V) (ps : List (Str × β)) (x : V) : inW (ps.map (kv g)) x = inW (ps.map (kv g')) x := by
  cases x with
  | str z =>
    show (valV _ _).isSome = (valV _ _).isSome
    rw [get_kv, get_kv]
    cases getP ps z <;> rfl
  | non => rfl
  | bl b => rfl
  | int i => rfl
  | byt b => rfl
  | flt b => rfl
  | ref a => rfl
  | ty n => rfl
/-- s.ljust(n, c) -/
theorem mt_ljust2 {X : Cx} : MtR X "str.ljust" (fun x xs H Q => ∃ (a f : Str) (i : Int), x = .str a ∧ xs = [.int i, .str f] ∧ PadOk i = true ∧ f.length = 1 ∧ Q (.str (Txt.ljustF a i (f.cps.getD 0 0))) H) := by
  intro pins s σ H x xs v us Q I rx rs h
  obtain ⟨a, f, i, rfl, rfl, hp, hf, q⟩ := h
  obtain ⟨t, rfl⟩ := rx
  obtain ⟨u1, u2, rfl, r1, r2⟩ := vals2 rs
  obtain ⟨t1, rfl⟩ := r1
  obtain ⟨t2, rfl⟩ := r2
  exact ljust_fill hp hf fun t' k => ⟨.str _, H, I.tok _, ⟨_, rfl⟩, q⟩
theorem ljust_sm {a : Str} {n c : Nat} (h : Sm n a) (hc : c < 1000) (hn : n ≤ 14) : Sm 14 (Txt.ljustF a 14 c) := by
  unfold Txt.ljustF
  split
  · exact ⟨Nat.le_trans h.1 hn, h.2⟩
  · rename_i g
    refine ⟨?_, fun x hx => ?_⟩
    · show (Array.replicate 0 c ++ a.cps ++ Array.replicate _ c).size ≤ 14
      rw [Array.size_append, Array.size_append, Array.size_replicate, Array.size_replicate]
      have : ((a.cps.size : Nat) : Int) < 14 := Int.not_le.mp g
      have e : (14 : Int).toNat = 14 := rfl
      show 0 + a.cps.size + ((14 : Int).toNat - a.cps.size) ≤ 14
      omega
    · have hx : x ∈ (Array.replicate 0 c ++ a.cps ++ Array.replicate ((14 : Int).toNat - a.length) c).toList := hx
      rw [Array.toList_append, Array.toList_append, Array.toList_replicate, Array.toList_replicate] at hx
      rcases List.mem_append.mp hx with hx | hx
      · rcases List.mem_append.mp hx with hx | hx
        · exact absurd hx List.not_mem_nil
        · exact h.2 x hx
      · rw [(List.mem_replicate.mp hx).2]
        exact hc
theorem Bar.free {p l : Addr} {H H' : Hp} (b : Bar p H H') (h : H' l = none) (n : l ≠ p) : H l = none := by
  cases e : H l with
  | none => rfl
  | some o =>
    rw [b l o n e] at h
    cases h
/-- a change at a place that H does not know -/
theorem Bar.put {p l : Addr} {H H' : Hp} {o : HO} (b : Bar p H H') (h : H l = none) : Bar p H (upd H' l o) := fun c u n e => by
  rw [upd_ne (ne_of_none e h)]
  exact b c u n e
theorem take_nil_sm {z : Str} (h : nameS z = true) {lo hi : Option Int} : Sm 13 (cutS z lo hi) := (show Sm 13 z from ⟨nameS_len h, fun c hc => by
  unfold nameS at h
  rw [Bool.and_eq_true] at h
  have hm := of_decide_eq_true (List.all_eq_true.mp h.2 c hc)
  exact (by decide +kernel : ∀ c ∈ alph, c < 1000) c hm⟩).cut
def spWord : Sp := fun vs H Q _ => ∃ p q : Addr, vs = [.ref p] ∧ BagAt H p q ∧ ∀ H' z, Bar p H H' → BagAt H' p q → nameS z = true → Q (.str z) H'
def spPool : Sp := fun vs H Q _ => ∃ p q : Addr, vs = [.ref p] ∧ BagAt H p q ∧ ∀ (H' : Hp) (l : Addr) (zs : List Str), Bar p H H' → BagAt H' p q → H l = none → H' l = some (.lst (zs.map V.str)) → 0 < zs.length → zs.length ≤ 6 → (∀ z ∈ zs, nameS z = true) → Q (.ref l) H'
def spOdd : Sp := fun vs H Q _ => ∃ (p q : Addr) (z : Str), vs = [.ref p, .str z] ∧ BagAt H p q ∧ nameS z = true ∧ ∀ H' x, Bar p H H' → BagAt H' p q → PlainAt p H' x → (∀ i, x = .int i → (PyData.shown (.int i)).length ≤ 400) → Q x H'
def spMissing (K : PySem.W.Frag) (C : Addr) : Sp := fun vs H Q _ => ∃ (w d : Addr) (kvs : List (Key × V)) (x : V), vs = [.ref w, x] ∧ WAt C H w d kvs ∧ Thing K H x ∧ inW kvs x = false ∧ ∀ H' l, Same H H' → H l = none → H' l = some (.lst [x]) → Q (.ref l) H'
/-- boxes at ow, names bound to their numbers -/
def gB (ow : List Addr) (k : Nat) : V := .ref (ow.getD k 0)
def gN (k : Nat) : V := .int (k : Nat)
def spRightN (C CB : Addr) : Sp := fun vs H Q _ => ∃ (p q w d l bd bx : Addr) (zs : List Str) (ps : List (Str × Nat)) (ow : List Addr), vs = [.ref p, .ref w, .ref l, .ref bd, .ref bx] ∧ BagAt H p q ∧ WAt C H w d (ps.map (kv (gB ow))) ∧
  H l = some (.lst (zs.map V.str)) ∧ 0 < zs.length ∧ zs.length ≤ 6 ∧ (∀ z ∈ zs, nameS z = true) ∧ H bd = some (.dK (ps.map (kv gN))) ∧ H bx = some (.lst (ow.map V.ref)) ∧ (∀ b ∈ ow, ∃ z, BoxAt CB H b z) ∧ ps.length < 60 ∧ (∀ e ∈ ps, nameS e.1 = true ∧ e.2 < ow.length) ∧
  ∀ H', Bar p H H' → BagAt H' p q → Q (.bl true) H'
theorem nameS_sm {z : Str} (h : nameS z = true) : Sm 13 z := by
  refine ⟨nameS_len h, fun c hc => ?_⟩
  unfold nameS at h
  rw [Bool.and_eq_true] at h
  have hm := of_decide_eq_true (List.all_eq_true.mp h.2 c hc)
  have : ∀ c ∈ alph, c < 1000 := by decide +kernel
  exact this c hm
theorem nameS_small {z : Str} (h : nameS z = true) : SmallS z := (nameS_sm h).small
theorem nameS_of {l : List Nat} (h1 : 1 ≤ l.length) (h2 : l.length ≤ 13) (h : ∀ c ∈ l, c ∈ alph) : nameS (S l) = true := by
  unfold nameS
  have e : (S l).length = l.length := SX.S_len l
  rw [e, decide_eq_true h1, decide_eq_true h2, Bool.true_and, Bool.true_and, List.all_eq_true]
  exact fun c hc => decide_eq_true (h c hc)
theorem nameS_all {z : Str} (h : nameS z = true) : ∀ c ∈ z.cps.toList, c ∈ alph := fun c hc => by
  unfold nameS at h
  rw [Bool.and_eq_true] at h
  exact of_decide_eq_true (List.all_eq_true.mp h.2 c hc)
theorem nameS_pos {z : Str} (h : nameS z = true) : 1 ≤ z.length := by
  unfold nameS at h
  rw [Bool.and_eq_true, Bool.and_eq_true] at h
  exact of_decide_eq_true h.1.1
/-- another letter at one place -/
theorem name_swap {y : Str} (h : nameS y = true) {c k : Nat} (hc : c ∈ alph) (hk : k < y.length) : nameS (cutS y none (some (k : Int)) ++ (⟨#[c]⟩ : Str) ++ cutS y (some ((k : Int) + 1)) none) = true := by
  have hl := nameS_len h
  have hn : y.cps.toList.length = y.length := Array.length_toList
  have ha := nameS_all h
  have e1 : cutS y none (some (k : Int)) = S (y.cps.toList.take k) := by
    unfold cutS
    rw [HT.sIx_none, HT.sIx_nat, Nat.min_eq_left (Nat.le_of_lt hk), List.drop_zero, Nat.sub_zero]
  have e2 : cutS y (some ((k : Int) + 1)) none = S ((y.cps.toList.drop (k + 1)).take (y.length - (k + 1))) := by
    unfold cutS
    rw [show ((k : Int) + 1) = ((k + 1 : Nat) : Int) from rfl, HT.sIx_none, HT.sIx_nat, Nat.min_eq_left hk]
  rw [e1, e2, show (⟨#[c]⟩ : Str) = S [c] from rfl, SX.S_cat, SX.S_cat]
  refine nameS_of ?_ ?_ fun x hx => ?_
  · simp only [List.length_append, List.length_take, List.length_drop, List.length_cons, List.length_nil]
    omega
  · simp only [List.length_append, List.length_take, List.length_drop, List.length_cons, List.length_nil]
    omega
  · rcases List.mem_append.mp hx with hx | hx
    · rcases List.mem_append.mp hx with hx | hx
      · exact ha x (List.mem_of_mem_take hx)
      · rw [List.mem_singleton.mp hx]
        exact hc
    · exact ha x (List.mem_of_mem_drop (List.mem_of_mem_take hx))
theorem shaped_sm {zs : List Str} (h : ∀ z ∈ zs, SmallS z) : SeqAt.shaped (.list (zs.map PyData.str)) = true := by
  have e1 : PyData.canLay0 (.list (zs.map PyData.str)) = true := lay_texts zs fun z hz => (h z hz).2
  obtain ⟨_, _, h3, _⟩ := showAll_strs zs
  have e2 : PyData.depth (.list (zs.map PyData.str)) ≤ 64 := by
    show PyData.depthAll (zs.map _) + 1 ≤ 64
    rw [h3]
    decide
  unfold SeqAt.shaped
  rw [e1, decide_eq_true e2]
  rfl
theorem flat_strs (zs : List Str) : (zs.map V.str).all flatV = true := by
  rw [List.all_map]
  exact List.all_eq_true.mpr fun _ _ => rfl
theorem eqv_nil_txs (zs : List Str) : PyData.eqv (.list (zs.map PyData.str)) (.list []) = decide (zs = []) := by
  cases zs with
  | nil => rfl
  | cons n r =>
    rw [decide_eq_false (by simp)]
    rfl
end WB

set_option Elab.async false
set_option linter.all false
set_option maxRecDepth 100000
set_option maxHeartbeats 4000000
namespace WB
open PySem L2 PyProof.Rows
/-! ### for i, x in enumerate(tuple) -/
theorem new_enum_tup {t : Addr} {items : Array Value} :
    Meets (Builtin.«enumerate.__new__» ⟨[.type "enumerate", .ref t], []⟩) (fun _ R s => s.heap.IsTuple t items ∧
      R (.ok (.ret (.ref (s.heap.push { cls := .type "tuple_iterator", data := .fields #[.ref t, .int 0 0] }).objs.size))) { s with heap := (s.heap.push { cls := .type "tuple_iterator", data := .fields #[.ref t, .int 0 0] }).push { cls := .type "enumerate", data := .fields #[.none, .bool false, .ref s.heap.objs.size, rawInt 0, .none, .none] } }) :=
  .of_wp fun prog w A R s h => by
    obtain ⟨ht, h⟩ := h
    obtain ⟨hp, g, d, tk, os⟩ := s
    have hsub := sub_enumerate
    have B := begins_tuple t items
    have q1 : ∀ {A' : Around} {E : Value → Shared → Prop} {Q : Value → Shared → Prop}, Q (.ref hp.objs.size) ⟨hp.push { cls := .type "tuple_iterator", data := .fields #[.ref t, .int 0 0] }, g, d, tk, os⟩ → wpAny (model prog w) A' (pyIter (.ref t)) Q E ⟨hp, g, d, tk, os⟩ :=
      fun q => B.iter prog w _ _ ⟨hp, g, d, tk, os⟩ _ ht q
    wp_walk using q1
    refine wpAny_stack_any fun st => wpAny_pure ?_
    split
    · rename_i c _ _ _ _ _
      cases (c == Value.type "enumerate")
      · wp_walk using q1
        exact ⟨_, rfl, h⟩
      · wp_walk using q1
        exact ⟨_, rfl, h⟩
    · wp_walk using q1
      exact ⟨_, rfl, h⟩
theorem call_enum_tup {prog : Program} {w : World} {A : Around} {E : Value → Shared → Prop} {s : Shared} {t : Addr} {items : Array Value} {Q : Value → Shared → Prop} (ht : s.heap.IsTuple t items)
    (h : ∀ h', IsEnum h' (s.heap.objs.size + 1) s.heap.objs.size 0 .none → h'.IsTupleIter s.heap.objs.size t 0 →
      (∀ b o, s.heap.get? b = some o → h'.get? b = some o) → Q (.ref (s.heap.objs.size + 1)) { s with heap := h' }) :
    wpAny (model prog w) A (call (.type "enumerate") [.ref t]) Q E s := by
  refine callType_new F.called_enumerate (by decide) (F.typeCall_enumerate_1 _) (F.newCall_enumerate_1 _) (fun obj => F.args_object_init_2 obj _) F.entry_enumerate_new (new_enum_tup (items := items)) ?_
  refine ⟨ht, ?_⟩
  have hz : (s.heap.push { cls := .type "tuple_iterator", data := .fields #[.ref t, .int 0 0] }).objs.size = s.heap.objs.size + 1 := Heap.size_push ..
  show _ ∧ _
  rw [hz]
  have he : IsEnum ((s.heap.push { cls := .type "tuple_iterator", data := .fields #[.ref t, .int 0 0] }).push { cls := .type "enumerate", data := .fields #[.none, .bool false, .ref s.heap.objs.size, rawInt 0, .none, .none] }) (s.heap.objs.size + 1) s.heap.objs.size 0 .none := by
    have := Heap.get?_push_size (s.heap.push { cls := .type "tuple_iterator", data := .fields #[.ref t, .int 0 0] }) (o := { cls := .type "enumerate", data := .fields #[.none, .bool false, .ref s.heap.objs.size, rawInt 0, .none, .none] }) rfl
    rw [hz] at this
    exact this
  refine ⟨⟨_, he, rfl⟩, h _ he ⟨_, Heap.get?_push_of_some _ (Heap.get?_push_size _ rfl), rfl, rfl⟩ fun b o y => Heap.get?_push_of_some _ (Heap.get?_push_of_some _ y)⟩
theorem isTuple_of {h : Heap} {a : Addr} {its : Array Value} (p : IsTup h a its) : h.IsTuple a its := by
  obtain ⟨o, h1, h2, n, h3⟩ := p
  exact ⟨o, h1, h2, n, h3⟩
def Itet (K : PySem.W.Frag) (a : Addr) : It :=
  ⟨fun i H => ∃ (xs : List V) (x : V), SqT K H a xs ∧ xs[i]? = some x, fun i H v H' => ∃ T x, v = .ref T ∧ H T = none ∧ H' = upd H T (.tup [.int (i : Nat), x]) ∧ ∀ xs, SqT K H a xs → xs[i]? = some x, fun i H => ∃ xs : List V, SqT K H a xs ∧ xs.length = i⟩
theorem turn_enumT {P : Program} {w : World} {K : PySem.W.Frag} {elts : List Expr} {kk : Nat} {tpos : Pos} (a e it : Addr) (hni : a ≠ it) :
    Turn P w K (.Tuple elts kk tpos) (Itet K a) [e, it] e (fun i h => (∃ old, IsEnum h e it ((i : Nat) : Int) old) ∧ h.IsTupleIter it a i ∧ e ≠ it ∧ a ≠ e) where
  mem := by simp
  obj := fun i h st b hb => by
    obtain ⟨⟨old, he⟩, ⟨o, ho, hc, hd⟩, _⟩ := st
    have e' : b = e ∨ b = it := by simpa using hb
    rcases e' with z | z
    · rw [z]
      exact ⟨_, he, fun v q => nomatch q⟩
    · rw [z]
      exact ⟨o, ho, fun v q => by rw [hd] at q; cases q⟩
  keep := fun i h h' st k => by
    obtain ⟨⟨old, he⟩, hi, hne⟩ := st
    exact ⟨⟨old, k e (by simp) _ he⟩, hi.at fun o q => k it (by simp) o q, hne⟩
  item := by
    intro X hP hw hK hc i pins s σ H E I hf st hg
    subst hP hw hK
    obtain ⟨⟨old, he⟩, hit, hne, hae⟩ := st
    obtain ⟨xs, x, hq, hx⟩ := hg
    obtain ⟨its, rv, p, hz⟩ := I.tuple hq
    obtain ⟨u, hu, ru⟩ := rv.get hx
    have hel : e < s.heap.objs.size := Heap.lt_size he
    have hil : it < s.heap.objs.size := by
      obtain ⟨_, q, _⟩ := hit
      exact Heap.lt_size q
    have hi : i < its.toArray.size := by
      have := (List.getElem?_eq_some_iff.mp hu).1
      simpa using this
    have D := Draws.tuple (prog := X.prog) (w := X.w) (A := X.A.in1) (I.ok.hd hc) it a hni its.toArray
    refine wpAny_pyNext_enum_itemD D he ⟨hit, isTuple_of p⟩ hi hne (by simp [hae.symm, hne]) fun v h' tk hv ho hit' hT hsz hk => ?_
    have ev : v = u := by
      have h1 : its.toArray[i]? = some u := by simpa using hu
      exact Option.some.inj (hv.symm.trans h1)
    subst ev
    refine ⟨_, rfl, wpAny_letOwnedTupleGo_enum (s := { s with heap := h', toks := tk + 1 }) ho fun h'' he' sb => ?_⟩
    have hT2 : h''.get? s.heap.objs.size = some { cls := .type "tuple", data := .seq #[.int i tk, v] } := (sb.2 _ (Nat.ne_of_gt hel)).trans hT
    have new : ObjOk X.prog X.w (upd H s.heap.objs.size (.tup [.int (i : Nat), x])) h'' s.heap.objs.size (.tup [.int (i : Nat), x]) :=
      ⟨by show 2 ≤ sizeLine; decide, [.int i tk, v], .cons ⟨_, rfl⟩ (.cons ru .nil), ⟨_, hT2, rfl, _, rfl⟩⟩
    have I1 : Inv X pins σ (upd H s.heap.objs.size (.tup [.int (i : Nat), x])) { s with heap := h'', toks := tk + 1 } :=
      I.turnedNew (ch := [e, it]) (fun b ob hb q => (sb.2 b (fun z => hb (by simp [z]))).trans (hk b ob (fun z => hb (by simp [z])) (fun z => hb (by simp [z])) q)) hf (Nat.le_refl _) new
    refine ⟨.ref s.heap.objs.size, _, I1, rfl, ⟨_, x, rfl, I.hok.fresh (Nat.le_refl _), rfl, fun ys hy => by rw [I.tuple_inj hy hq]; exact hx⟩, ⟨⟨v, ?_⟩, hit'.1.at fun o q => (sb.2 it (Ne.symm hne)).trans q, hne, hae⟩, fun b hb => ?_⟩
    · have e1 : ((i + 1 : Nat) : Int) = (i : Int) + 1 := by omega
      rw [e1]
      exact he'
    · have hb' : b < s.heap.objs.size := by
        have e' : b = e ∨ b = it := by simpa using hb
        rcases e' with z | z
        · rw [z]
          exact hel
        · rw [z]
          exact hil
      rw [upd_ne (Nat.ne_of_lt hb')]
      exact (hf b hb).1
  done := by
    intro X hP hw hK hc i pins s σ H E I hf st hg
    subst hP hw hK
    obtain ⟨⟨old, he⟩, hit, hne, hae⟩ := st
    obtain ⟨xs, hq, hx⟩ := hg
    obtain ⟨its, rv, p, hz⟩ := I.tuple hq
    obtain ⟨f0, f1, f2, f3, f4, f5⟩ := hf it (by simp)
    have hl := rv.length
    have D := Draws.tuple (prog := X.prog) (w := X.w) (A := X.A.in1) (I.ok.hd hc) it a hni its.toArray
    have hs : i = its.toArray.size := by
      rw [List.size_toArray, ← hl]
      exact hx.symm
    rw [hs] at hit
    exact wpAny_pyNext_enum_endD D he ⟨hit, isTuple_of p⟩ fun h' eb => ⟨rfl, I.turned (t' := s.toks) (fun b o hb q => eb b o hb q) f0 f1 f3 f4 f5⟩
  self := fun A i s Q E st h => by
    obtain ⟨⟨_, he⟩, _⟩ := st
    exact wpAny_pyIter_enum he h
def iEnumT (K : PySem.W.Frag) (ta : TA) : TI := fun σ H R => ta σ H fun vs H1 => ∃ a xs, vs = [.ref a] ∧ SqT K H1 a xs ∧ R (Itet K a) H1
theorem pi_enumT {X : Cx} {e : Expr} {ta : TA} {p pos tpos : Pos} {elts : List Expr} {kk : Nat} (hg : Gl X "enumerate") (hm : X.mg "enumerate" = none) (ha : PA X [e] ta) (hs : starEach [e] X.env = [(false, eval e X.env)] := by rfl) :
    PI X (.Tuple elts kk tpos) (.Call (.Name "enumerate" p) [e] [] pos) (iEnumT X.K ta) := by
  refine ⟨fun pins s σ H R I h => Call_ (ld_blt I hg hm boot_enumerate (PyProof.Rows.callWith_type1 (thn (ha.run pos pins s σ H _ I h) fun us s1 z => ?_) hs rfl))⟩
  obtain ⟨vs, H1, I1, r1, a, xs, ex, hq, q⟩ := z
  subst ex
  obtain ⟨u, rfl, r2⟩ := vals_one r1
  cases (show u = Value.ref a from r2)
  obtain ⟨its, rv, p', hz⟩ := I1.tuple hq
  have hal : a < s1.heap.objs.size := by
    obtain ⟨o, ho, _⟩ := p'
    exact Heap.lt_size ho
  refine call_enum_tup (isTuple_of p') fun h' he hit hk => wpAny_pyIter_enum he ?_
  have I2 : Inv X pins σ H1 { s1 with heap := h' } := I1.kept (t' := s1.toks) hk
  refine ⟨s1.heap.objs.size + 1, [s1.heap.objs.size + 1, s1.heap.objs.size], _, _, H1, rfl, I2, turn_enumT a (s1.heap.objs.size + 1) s1.heap.objs.size (Nat.ne_of_lt hal), ⟨⟨.none, he⟩, hit, Nat.succ_ne_self _, Nat.ne_of_lt (Nat.lt_succ_of_lt hal)⟩, fun b hb => ?_, q⟩
  have hle : s1.heap.objs.size ≤ b := by
    have e' : b = s1.heap.objs.size + 1 ∨ b = s1.heap.objs.size := by simpa using hb
    rcases e' with z | z
    · rw [z]
      exact Nat.le_succ _
    · rw [z]
      exact Nat.le_refl _
  exact I1.fpOk hle (I1.hok.fresh hle)
theorem walk_enumT {K : PySem.W.Frag} {a : Addr} {xs : List V} : Walk (Itet K a) xs.length (fun H => SqT K H a xs) (fun i H v H' => ∃ T x, v = .ref T ∧ H T = none ∧ H' = upd H T (.tup [.int (i : Nat), x]) ∧ xs[i]? = some x) := by
  refine ⟨fun i H hi q => ⟨xs, xs[i], q, List.getElem?_eq_getElem hi⟩, fun H q => ⟨xs, q, rfl⟩, fun i H v H' hi q y => ?_⟩
  obtain ⟨T, x, h1, h2, h3, h4⟩ := y
  exact ⟨T, x, h1, h2, h3, h4 xs q⟩
/-! ### C.m(k = e), m a static method -/
section
variable {X : Cx} {k j : Nat} {g C : Addr} {fd : FuncData} {ps : List Str} {sp : Sp} {Cn m kn : Str} {e : Expr} {te : TE} {p1 apos pos kpos : Pos}
theorem pe_statK {pl : Sem Bool} (sc : StatC X.K X.mg Cn C m g) (F : FnOk X.prog X.w X.K X.mg X.base CX0 k g fd ps sp) (kb : KBn X.K fd ps 0 [kn] (fun _ ws => ws) (fun _ zs => zs)) (hr : Room j X.A) (hk : k ≤ j) (hg : Gl X Cn) (ha : PE X e te) (hdb : (Cn == ("__debug__" : Str)) = false := by decide)
    (hall : (backToKw pos (keywordEach [⟨some kn, e, kpos⟩] X.env)).all (·.1.isSome) = true := by rfl) (hks : (backToKw pos (keywordEach [⟨some kn, e, kpos⟩] X.env)).filterMap (·.1) = [kn] := by rfl)
    (hpl : ((backTo pos (starEach [] X.env)).any (·.1) || (backToKw pos (keywordEach [⟨some kn, e, kpos⟩] X.env)).any (·.1.isNone)) = false := by rfl)
    (ht : eval (.Call (.Attribute (.Name Cn p1) m apos) [] [⟨some kn, e, kpos⟩] pos) X.env = (do
      let ov ← eval (.Name Cn p1) X.env
      standAt apos.atName
      let (f, first) ← holding [ov] (getMethod ov m pl)
      callWith pos f first (backTo pos (starEach [] X.env)) (backToKw pos (keywordEach [⟨some kn, e, kpos⟩] X.env))) := by rfl) :
    PE X (.Call (.Attribute (.Name Cn p1) m apos) [] [⟨some kn, e, kpos⟩] pos) (fun σ H Q => te σ H fun y H1 => sp [y] H1 Q E0) := by
  have hr2 := hr.mono hk
  refine ⟨fun pins s σ H Q I h => PySem.W.methodCall_KW (pl := pl) (ld_glob I hg sc.gC ?_ hdb) ht⟩
  refine static_meth sc I fun s1 I1 => PySem.W.callWith_KW0 (first := []) (h₀ := X.base) I1.ok.mod.kin sc.kp hall ?_ hpl
  refine thn ((pk_cons ha pk_nil).run pos pins s1 σ H (fun zs H2 => ∃ z, zs = [z] ∧ sp [z] H2 Q E0) I1 ?_) fun ws s2 q2 => ?_
  · have e : (fun v H1 => tNil σ H1 fun vs H2 => ∃ z, v :: vs = [z] ∧ sp [z] H2 Q E0) = fun (y : V) H2 => sp [y] H2 Q E0 := by
      funext v H1
      refine propext ⟨fun ⟨x, e, q⟩ => ?_, fun q => ⟨v, rfl, q⟩⟩
      cases e
      exact q
    show te σ H (fun v H1 => tNil σ H1 fun vs H2 => ∃ z, v :: vs = [z] ∧ sp [z] H2 Q E0)
    rw [e]
    exact h
  · obtain ⟨zs, H2, I2, rz, z, ez, q2⟩ := q2
    subst ez
    rw [hks]
    have hb := kb.to s2 [] ws I2.kIn rfl rz.length.symm
    refine ⟨I2.kIn, wpAny_call (codeAny_mono (F.run X.A X.stack s2 H2 ⟨[], [kn].zip ws⟩ ws [z] Q E0 hr2 I2.env0 hb rz q2) fun r s' hq => ?_)⟩
    cases r with
    | error er => exact pass0 pins σ H2 s2 er s' I2 hq
    | ok fl =>
      cases fl with
      | ret u => exact I2.after hq
      | next => exact hq.elim
      | brk => exact hq.elim
      | cont => exact hq.elim
end
theorem fun_kb0 {K : PySem.W.Frag} {x qual : Str} {st : Stmt} {f : Addr} {fd : FuncData} {ps ks : List Str} (F : L2.Fun K x qual st f fd)
    (h : ∀ (kV doc pm : Value) (an : Option Addr) (cdv ct : Value) (ws : List Value), ws.length = ks.length → bindArgs (PySem.W.fnOf x qual (defArgs st) (defBody st) (defScope st) .none kV doc pm an cdv ct) ⟨[], ks.zip ws⟩ = pure (ps.zip ws)) :
    KBn K fd ps 0 ks (fun _ ws => ws) (fun _ zs => zs) := by
  obtain ⟨oc, od, kV, doc, pm, an, cdv, ct, osl, rfl, lk, hcd⟩ := F.ex
  refine ⟨fun s us ws X l1 l2 => ?_, fun _ r2 => r2⟩
  have e : us = [] := List.eq_nil_of_length_eq_zero l1
  subst e
  exact BindsTo.of_eq (h kV doc pm an cdv ct ws l2)
end WB

set_option Elab.async false
set_option linter.all false
set_option maxRecDepth 100000
set_option maxHeartbeats 4000000
namespace WB
open PySem L2 PyProof.Rows
/-! ### a plain value in a list of one, as data -/
theorem text_one {t : Str} (h : t.length ≤ 20000) : (listText [t]).length ≤ sizeLine := by
  unfold listText
  rw [Str.length_append]
  have h5 := textFrom_le [t] 0 "["
  have h6 : ("[" : Str).length = 1 := by decide +kernel
  have h7 : ("]" : Str).length = 1 := by decide +kernel
  rw [piled_cons, piled_nil] at h5
  have h9 : 30000 ≤ sizeLine := by decide
  omega
theorem okd_one {d : PyData} (h1 : d.showable = true) (h2 : d.hasDict = false) (h3 : d.depth ≤ 60) (h4 : d.shown.length ≤ 20000) : OkD (.list [d]) := by
  refine ⟨?_, ?_, ?_, .inr ?_⟩
  · show (d.showable && true) = true
    rw [h1]
    rfl
  · show (d.hasDict || false) = false
    rw [h2]
    rfl
  · show max d.depth 0 + 1 ≤ 64
    omega
  · exact text_one h4
theorem PlainAt.dats {K : PySem.W.Frag} {p : Addr} {H : Hp} {x : V} (h : PlainAt p H x) (hi : ∀ i, x = .int i → (PyData.shown (.int i)).length ≤ 400) : ∃ d, OkD (.list [d]) ∧ ∀ H', Same H H' → Dp K H' x d := by
  have two : ∀ {zs : List Str}, zs.length ≤ 2 → (∀ z ∈ zs, SmallS z) → OkD (.list [.list (zs.map PyData.str)]) ∧ OkD (.list [.tuple (zs.map PyData.str)]) := by
    intro zs hl hs
    obtain ⟨h1, h2, h3, h4⟩ := showAll_strs zs
    have hl' : (zs.map reprText).length ≤ 2 := by
      rw [List.length_map]
      exact hl
    have hs' : ∀ t ∈ zs.map reprText, t.length ≤ 3002 := fun t ht => by
      obtain ⟨z, hz, rfl⟩ := List.mem_map.mp ht
      exact repr_len (hs z hz)
    have pl := piled2 hl' hs'
    refine ⟨okd_one h1 h2 ?_ ?_, okd_one h1 h2 ?_ ?_⟩
    · show PyData.depthAll _ + 1 ≤ 60
      rw [h3]
      decide
    · show (listText (PyData.shownAll _)).length ≤ _
      rw [h4]
      unfold listText
      rw [Str.length_append]
      have h5 := textFrom_le (zs.map reprText) 0 "["
      have h6 : ("[" : Str).length = 1 := by decide +kernel
      have h7 : ("]" : Str).length = 1 := by decide +kernel
      omega
    · show PyData.depthAll _ + 1 ≤ 60
      rw [h3]
      decide
    · show (tupleText (PyData.shownAll _)).length ≤ _
      rw [h4]
      unfold tupleText
      rw [Str.length_append, Str.length_append]
      have h5 := StrLaws.join_length_le ", " (zs.map reprText)
      have h6 : (", " : Str).length = 2 := by decide +kernel
      rw [h6] at h5
      have h7 := sum_piled (zs.map reprText)
      have h8 : ("(" : Str).length = 1 := by decide +kernel
      have h9 : (Str.ofString (if (zs.map reprText).length == 1 then ",)" else ")" : String)).length ≤ 2 := by
        split
        · decide +kernel
        · decide +kernel
      omega
  rcases h with (rfl | ⟨b, rfl⟩ | ⟨i, rfl, hl⟩) | ⟨z, rfl, hz⟩ | ⟨l, zs, rfl, _, q | q, hl, hs⟩
  · exact ⟨_, okd_one rfl rfl (by decide) (by decide +kernel), fun _ _ => .non⟩
  · exact ⟨_, okd_one (d := .bool b) rfl rfl (by show 0 ≤ 60; decide) (by cases b <;> decide +kernel), fun _ _ => .bl b⟩
  · exact ⟨_, okd_one (d := .int i) (decide_eq_true (Nat.lt_trans hl (by decide))) rfl (by show 0 ≤ 60; decide) (Nat.le_trans (hi i rfl) (by decide)), fun _ _ => .int i⟩
  · exact ⟨_, okd_one (d := .str z) rfl rfl (by show 0 ≤ 60; decide) (Nat.le_trans (repr_len hz) (by decide)), fun _ _ => .str z⟩
  · exact ⟨_, (two hl hs).1, fun _ s => .lst (SqL.of (s _ _ q)) (dp_all_strs zs)⟩
  · exact ⟨_, (two hl hs).2, fun _ s => .tup (SqT.of (s _ _ q)) (dp_all_strs zs)⟩
end WB
namespace WB
open PySem L2 PyProof.Rows
/-- isinstance(y, str) and y in d -/
theorem isin_ok {K : PySem.W.Frag} {σ : L2.St} {H : Hp} {Q : VK} {i j : Nat} {y : V} {bd : Addr} {kvs : List (Key × V)} (hi : σ[i]? = some (some y)) (hj : σ[j]? = some (some (.ref bd))) (hb : H bd = some (.dK kvs)) (hy : Thing K H y) (q : Q (.bl (inW kvs y)) H) :
    tAndV (tCB (rIsi K) (tCons (tVar i) (tCons (tC (.ty "str")) tNil))) (tDIn (tVar i) (tVar j)) σ H Q := by
  rcases hy with ⟨z, rfl, _⟩ | hn
  · exact ⟨_, hi, _, _, _, _, true, rfl, .ty "str", .base (.str z), kit_ty (by decide +kernel), true, rfl, iteT ⟨_, hi, _, hj, bd, _, rfl, DGet.k (k := .inr z) hb, q⟩⟩
  · have e := inW_noStr hn kvs
    obtain ⟨t, hty, hk⟩ := hn
    rw [e] at q
    exact ⟨_, hi, _, _, _, _, false, rfl, .ty "str", hty, kit_ty hk, false, rfl, iteF q⟩
theorem ne_same (b : Bool) : (!decide (V.bl b = V.bl b)) = false := by
  rw [decide_eq_true rfl]
  rfl
theorem keysV {β : Type} (g : β → V) (ps : List (Str × β)) : (ps.map (kv g)).map (fun e => kV e.1) = (ps.map (·.1)).map V.str := by
  rw [List.map_map, List.map_map]
  rfl
theorem inW_get {β : Type} {g : β → V} {ps : List (Str × β)} {y : V} (h : inW (ps.map (kv g)) y = true) : ∃ z k, y = .str z ∧ getP ps z = some k := by
  cases y with
  | str z =>
    have h : (valV (ps.map (kv g)) (.inr z)).isSome = true := h
    rw [get_kv] at h
    cases e : getP ps z with
    | none =>
      rw [e] at h
      cases h
    | some k => exact ⟨z, k, rfl, e⟩
  | non => cases h
  | bl b => cases h
  | int i => cases h
  | byt b => cases h
  | flt b => cases h
  | ref a => cases h
  | ty n => cases h
end WB
namespace WB
open PySem L2 PyProof.Rows
def spRead0 (K : PySem.W.Frag) (C : Addr) : Sp := fun vs H Q _ => ∃ t : Addr, vs = [.ref t] ∧ H t = some (.tup []) ∧ ∀ H' w d, Same H H' → H w = none → WAt C H' w d [] → Q (.ref w) H'
end WB
namespace WB
open PySem L2 PyProof.Rows
/-- X() -/
theorem pe_mk0 {X : Cx} {k j : Nat} {x : Str} {C : Addr} {sp : Sp} {dvs : List V} {p pos : Pos} (c : C8.Mak X.prog X.w X.K X.mg X.base k x C sp dvs) (hr : Room j X.A) (hk : k + 1 ≤ j) (hg : Gl X x) (hdb : (x == ("__debug__" : Str)) = false := by decide) : PE X (.Call (.Name x p) [] [] pos) (tMake C sp dvs E0 tNil) := by
  obtain ⟨f, fd, ps, ds, M, F, hm, b, d⟩ := c
  exact pe_make0 M F (hr.mono hk) hg hm b d pass0 hdb
end WB
namespace WB
open PySem L2 PyProof.Rows
theorem fnok_x {P : Program} {w : World} {K : PySem.W.Frag} {mg : Str → Option Value} {base : Heap} {k : Nat} {f : Addr} {fd : FuncData} {ps : List Str} {sp : Sp} (F : FnOk P w K mg base CX0 k f fd ps sp) : FnOk P w K mg base (L2.CX P w) k f fd ps sp := by
  refine ⟨F.len, fun A outer s H args us vs Q E hr e0 hb r q => codeAny_mono (F.run A outer s H args us vs Q E hr e0 hb r q) fun x s' hq => ?_⟩
  cases x with
  | error e => exact hq.elim
  | ok fl =>
    cases fl with
    | ret u => exact hq
    | next => exact hq
    | brk => exact hq
    | cont => exact hq
/-- a new object, made in place -/
theorem made_same {H H' : Hp} {x dx : Addr} {o o' : HO} (nx : H x = none) (nd : H dx = none) (b : Bar x (upd (upd H dx o) x o') H') : Same H H' := same_made nx nd b
end WB

set_option Elab.async false
set_option linter.all false
set_option maxRecDepth 100000
set_option maxHeartbeats 4000000
namespace WB
open PySem L2 PyProof.Rows
/-! ### a world, its twin in numbers, boxes and texts -/
theorem lst_ne {H : Hp} {a b : Addr} {xs ys : List V} (h1 : H a = some (.lst xs)) (h2 : H b = some (.lst ys)) (h : xs.head? ≠ ys.head?) : a ≠ b := fun e => by
  rw [e, h2] at h1
  have h3 := Option.some.inj h1
  injection h3 with h3
  exact h (by rw [h3])
theorem ob_ne {H : Hp} {a b : Addr} {o u : HO} (h1 : H a = some o) (h2 : H b = some u) (h : o ≠ u) : a ≠ b := fun e => by
  rw [e, h2] at h1
  exact h (Option.some.inj h1).symm
structure L9 (C CB p q l bd w d w2 d2 tx D : Addr) (zs : List Str) (ow : List Addr) (t1 t2 : Str) (ps : List (Str × Nat)) (H : Hp) : Prop where
  bag : BagAt H p q
  pool : H l = some (.lst (zs.map V.str))
  z0 : 0 < zs.length
  bnd : H bd = some (.dK (ps.map (kv gN)))
  wld : WAt C H w d (ps.map (kv (gB ow)))
  oth : WAt C H w2 d2 []
  txs : H tx = some (.lst [.str t1, .str t2, .str t1])
  bxs : H D = some (.lst (ow.map V.ref))
  box : ∃ b0 b1 b2, ow = [b0, b1, b2] ∧ BoxAt CB H b0 t1 ∧ BoxAt CB H b1 t2 ∧ BoxAt CB H b2 t1
  n1 : d ≠ bd
  n2 : d2 ≠ bd
  n3 : d2 ≠ d
section
variable {C CB p q l bd w d w2 d2 tx D : Addr} {zs : List Str} {ow : List Addr} {t1 t2 : Str} {ps : List (Str × Nat)} {H H' : Hp}
theorem L9.same (L : L9 C CB p q l bd w d w2 d2 tx D zs ow t1 t2 ps H) (s : Same H H') : L9 C CB p q l bd w d w2 d2 tx D zs ow t1 t2 ps H' := by
  obtain ⟨b0, b1, b2, e, h0, h1, h2⟩ := L.box
  exact ⟨L.bag.same s, s _ _ L.pool, L.z0, s _ _ L.bnd, L.wld.same s, L.oth.same s, s _ _ L.txs, s _ _ L.bxs, ⟨b0, b1, b2, e, h0.same s, h1.same s, h2.same s⟩, L.n1, L.n2, L.n3⟩
theorem L9.draw (L : L9 C CB p q l bd w d w2 d2 tx D zs ow t1 t2 ps H) (s : Bar p H H') (hB : BagAt H' p q) : L9 C CB p q l bd w d w2 d2 tx D zs ow t1 t2 ps H' := by
  obtain ⟨b0, b1, b2, e, h0, h1, h2⟩ := L.box
  obtain ⟨c, s', i, ns, hp, _⟩ := id L.bag
  have nl : l ≠ p := lst_ne L.pool hp (by
    have := L.z0
    cases zs with
    | nil => cases this
    | cons a r => intro e; cases e)
  have nt : tx ≠ p := lst_ne L.txs hp (by intro e; cases e)
  have nD : D ≠ p := lst_ne L.bxs hp (by rw [e]; intro e; cases e)
  have nb : bd ≠ p := ob_ne L.bnd hp (by intro e; cases e)
  obtain ⟨w1, w2'⟩ := L.wld.bag L.bag
  obtain ⟨w3, w4⟩ := L.oth.bag L.bag
  exact ⟨hB, s _ _ nl L.pool, L.z0, s _ _ nb L.bnd, L.wld.bar s w1 w2', L.oth.bar s w3 w4, s _ _ nt L.txs, s _ _ nD L.bxs, ⟨b0, b1, b2, e, h0.bar s (h0.bag L.bag), h1.bar s (h1.bag L.bag), h2.bar s (h2.bag L.bag)⟩, L.n1, L.n2, L.n3⟩
theorem L9.put (L : L9 C CB p q l bd w d w2 d2 tx D zs ow t1 t2 ps H) (n : Str) (k : Nat) :
    L9 C CB p q l bd w d w2 d2 tx D zs ow t1 t2 (putP ps n k) (upd (upd H d (.dK (putK (ps.map (kv (gB ow))) (.inr n) (gB ow k)))) bd (.dK (putK (ps.map (kv gN)) (.inr n) (gN k)))) := by
  obtain ⟨b0, b1, b2, e, h0, h1, h2⟩ := L.box
  obtain ⟨c, s', i, ns, hp, hq, hr⟩ := id L.bag
  obtain ⟨⟨dw, hw⟩, hd⟩ := id L.wld
  obtain ⟨⟨dw2, hw2⟩, hd2⟩ := id L.oth
  have keep : ∀ (a : Addr) (o : HO), (∀ kvs, o ≠ .dK kvs) → H a = some o → (upd (upd H d (.dK (putK (ps.map (kv (gB ow))) (.inr n) (gB ow k)))) bd (.dK (putK (ps.map (kv gN)) (.inr n) (gN k)))) a = some o := fun a o ho ha => by
    rw [upd_ne (ob_ne ha L.bnd (ho _)), upd_ne (ob_ne ha hd (ho _))]
    exact ha
  have kb : ∀ (a : Addr) (z : Str), BoxAt CB H a z → BoxAt CB (upd (upd H d (.dK (putK (ps.map (kv (gB ow))) (.inr n) (gB ow k)))) bd (.dK (putK (ps.map (kv gN)) (.inr n) (gN k)))) a z := fun a z ⟨dx, ha⟩ => ⟨dx, keep a _ (fun _ z => by cases z) ha⟩
  refine ⟨⟨c, s', i, ns, keep p _ (fun _ z => by cases z) hp, keep q _ (fun _ z => by cases z) hq, hr⟩, keep l _ (fun _ z => by cases z) L.pool, L.z0, ?_, ⟨⟨dw, keep w _ (fun _ z => by cases z) hw⟩, ?_⟩, ⟨⟨dw2, keep w2 _ (fun _ z => by cases z) hw2⟩, ?_⟩, keep tx _ (fun _ z => by cases z) L.txs, keep D _ (fun _ z => by cases z) L.bxs, ⟨b0, b1, b2, e, kb _ _ h0, kb _ _ h1, kb _ _ h2⟩, L.n1, L.n2, L.n3⟩
  · rw [upd_same, put_kv]
  · rw [upd_ne L.n1, upd_same, put_kv]
  · rw [upd_ne L.n2, upd_ne L.n3]
    exact hd2
theorem L9.right (L : L9 C CB p q l bd w d w2 d2 tx D zs ow t1 t2 ps H) {Q : VK} {E : XK} (h6 : zs.length ≤ 6) (hz : ∀ z ∈ zs, nameS z = true) (hl : ps.length < 60) (hp : ∀ e ∈ ps, nameS e.1 = true ∧ e.2 < 3) (k : ∀ H', Bar p H H' → L9 C CB p q l bd w d w2 d2 tx D zs ow t1 t2 ps H' → Q (.bl true) H') :
    spRightN C CB [.ref p, .ref w, .ref l, .ref bd, .ref D] H Q E := by
  obtain ⟨b0, b1, b2, e, h0, h1, h2⟩ := id L.box
  refine ⟨p, q, w, d, l, bd, D, zs, ps, ow, rfl, L.bag, L.wld, L.pool, L.z0, h6, hz, L.bnd, L.bxs, fun b hb => ?_, hl, fun x hx => ⟨(hp x hx).1, by rw [e]; exact (hp x hx).2⟩, fun H' b hB => k H' b (L.draw b hB)⟩
  rw [e] at hb
  rcases List.mem_cons.mp hb with rfl | hb
  · exact ⟨_, h0⟩
  rcases List.mem_cons.mp hb with rfl | hb
  · exact ⟨_, h1⟩
  rw [List.mem_singleton.mp hb]
  exact ⟨_, h2⟩
end
end WB
namespace WB
open PySem L2 PyProof.Rows
section
variable {C CB p q l bd w d w2 d2 tx D : Addr} {zs : List Str} {ow : List Addr} {t1 t2 : Str} {ps : List (Str × Nat)} {H H' : Hp}
theorem L9.lp (L : L9 C CB p q l bd w d w2 d2 tx D zs ow t1 t2 ps H) : l ≠ p := by
  obtain ⟨c, s', i, ns, hp, _⟩ := id L.bag
  exact lst_ne L.pool hp (by
    have := L.z0
    cases zs with
    | nil => cases this
    | cons a r => intro e; cases e)
theorem L9.at_ (L : L9 C CB p q l bd w d w2 d2 tx D zs ow t1 t2 ps H) {k : Nat} (hk : k < 3) : (ow.map V.ref)[k]? = some (gB ow k) ∧ ∃ z, BoxAt CB H (ow.getD k 0) z := by
  obtain ⟨b0, b1, b2, rfl, h0, h1, h2⟩ := L.box
  match k, hk with
  | 0, _ => exact ⟨rfl, _, h0⟩
  | 1, _ => exact ⟨rfl, _, h1⟩
  | 2, _ => exact ⟨rfl, _, h2⟩
theorem nil_perm {ys : List Str} (h : ys.Perm []) : ys = [] := List.Perm.eq_nil h
end
end WB

set_option Elab.async false
set_option linter.all false
set_option maxRecDepth 100000
set_option maxHeartbeats 4000000
namespace WB
open PySem L2 PyProof.Rows
/-! ### f(k = e, ..), all by name -/
structure CalN (P : Program) (w : World) (K : PySem.W.Frag) (mg : Str → Option Value) (base : Heap) (k : Nat) (x : Str) (ks : List Str) (sp : Sp) : Prop where
  ex : ∃ (f : Addr) (fd : FuncData) (ps : List Str), FnOk P w K mg base CX0 k f fd ps sp ∧ mg x = some (.ref f) ∧ PySem.W.keepIn K (.ref f) = true ∧ KBn K fd ps 0 ks (fun _ ws => ws) (fun _ zs => zs) ∧ ps.length = ks.length
theorem pe_cN {X : Cx} {k j : Nat} {x : Str} {ks : List Str} {sp : Sp} {p pos : Pos} {kws : List Keyword} {tk : TA} (c : CalN X.prog X.w X.K X.mg X.base k x ks sp) (hr0 : Room j X.A) (hk : k ≤ j) (hg : Gl X x) (hkw : PK X kws tk)
    (hall : (backToKw pos (keywordEach kws X.env)).all (·.1.isSome) = true := by rfl) (hks : (backToKw pos (keywordEach kws X.env)).filterMap (·.1) = ks := by rfl) (hdb : (x == ("__debug__" : Str)) = false := by decide)
    (hpl : ((backTo pos (starEach [] X.env)).any (·.1) || (backToKw pos (keywordEach kws X.env)).any (·.1.isNone)) = false := by rfl) :
    PE X (.Call (.Name x p) [] kws pos) (fun σ H Q => tk σ H fun zs H1 => sp zs H1 Q E0) := by
  obtain ⟨f, fd, ps, F, hm, kp, kb, hpk⟩ := c.ex
  have hr := hr0.mono hk
  refine ⟨fun pins s σ H Q I h => wpAny_Call_Name_kw (ld_glob I hg hm ?_ hdb)⟩
  refine PySem.W.callWith_KW0 (first := []) (h₀ := X.base) I.ok.mod.kin kp hall (thn (hkw.run pos pins s σ H _ I h) fun ws s2 z => ?_) hpl
  obtain ⟨zs, H2, I2, rz, q2⟩ := z
  rw [hks]
  have hw : ws.length = ks.length := rz.length.symm.trans ((F.len _ _ _ _ q2).trans hpk)
  have hb := kb.to s2 [] ws I2.kIn rfl hw
  refine ⟨I2.kIn, wpAny_call (codeAny_mono (F.run X.A X.stack s2 H2 ⟨[], ks.zip ws⟩ ws zs Q E0 hr I2.env0 hb rz q2) fun r s' hq => ?_)⟩
  cases r with
  | error er => exact pass0 pins σ H2 s2 er s' I2 hq
  | ok fl =>
    cases fl with
    | ret u => exact I2.after hq
    | next => exact hq.elim
    | brk => exact hq.elim
    | cont => exact hq.elim
/-! ### tuples of digits, as data -/
theorem all_ints : ∀ ns : List Nat, (∀ n ∈ ns, n < 10) → PyData.showableAll (ns.map fun n => PyData.int (n : Nat)) = true ∧ PyData.hasDictAll (ns.map fun n => PyData.int (n : Nat)) = false ∧ PyData.depthAll (ns.map fun n => PyData.int (n : Nat)) = 0 ∧ ∀ t ∈ PyData.shownAll (ns.map fun n => PyData.int (n : Nat)), t.length ≤ 1
  | [], _ => ⟨rfl, rfl, rfl, fun t ht => absurd ht List.not_mem_nil⟩
  | n :: r, h => by
    obtain ⟨h1, h2, h3, h4⟩ := all_ints r fun x hx => h x (List.mem_cons_of_mem _ hx)
    have hn : n < 10 := h n List.mem_cons_self
    have key : ∀ n, n < 10 → (PyData.int (n : Nat)).showable = true ∧ (PyData.shown (.int (n : Nat))).length ≤ 1 := by decide +kernel
    obtain ⟨k1, k2⟩ := key n hn
    refine ⟨?_, ?_, ?_, fun t ht => ?_⟩
    · show ((PyData.int (n : Nat)).showable && PyData.showableAll (r.map _)) = true
      rw [h1, k1]
      rfl
    · show (false || PyData.hasDictAll (r.map _)) = false
      rw [h2]
      rfl
    · show max 0 (PyData.depthAll (r.map _)) = 0
      rw [h3]
      rfl
    · rcases List.mem_cons.mp ht with e | ht
      · rw [e]
        exact k2
      · exact h4 t ht
theorem shownAll_len : ∀ ds : List PyData, (PyData.shownAll ds).length = ds.length
  | [] => rfl
  | d :: r => by
    show (d.shown :: PyData.shownAll r).length = _
    rw [List.length_cons, List.length_cons, shownAll_len r]
theorem dp_all_nats {K : PySem.W.Frag} {H : Hp} : ∀ ns : List Nat, DpAll K H (ns.map fun n => V.int (n : Nat)) (ns.map fun n => PyData.int (n : Nat))
  | [] => .nil
  | n :: r => .cons (.int n) (dp_all_nats r)
theorem data_digits {K : PySem.W.Frag} {H : Hp} {t : Addr} {ns : List Nat} (h : SqT K H t (ns.map fun n => V.int (n : Nat))) (hs : ∀ n ∈ ns, n < 10) (hn : ns.length ≤ 200) : Dp K H (.ref t) (.tuple (ns.map fun n => PyData.int (n : Nat))) ∧ OkD (.tuple (ns.map fun n => PyData.int (n : Nat))) := by
  obtain ⟨h1, h2, h3, h4⟩ := all_ints ns hs
  refine ⟨.tup h (dp_all_nats ns), h1, h2, ?_, .inr ?_⟩
  · show PyData.depthAll _ + 1 ≤ 64
    rw [h3]
    decide
  · show (tupleText (PyData.shownAll _)).length ≤ _
    have pl := piled_le (m := 1) h4
    rw [shownAll_len, List.length_map] at pl
    unfold tupleText
    rw [Str.length_append, Str.length_append]
    have h5 := StrLaws.join_length_le ", " (PyData.shownAll (ns.map fun n => PyData.int (n : Nat)))
    have h6 : (", " : Str).length = 2 := by decide +kernel
    rw [h6] at h5
    have h7 := sum_piled (PyData.shownAll (ns.map fun n => PyData.int (n : Nat)))
    have h8 : ("(" : Str).length = 1 := by decide +kernel
    have h9 : (Str.ofString (if (PyData.shownAll (ns.map fun n => PyData.int (n : Nat))).length == 1 then ",)" else ")" : String)).length ≤ 2 := by
      split
      · decide +kernel
      · decide +kernel
    have hb : 10000 ≤ sizeLine := by decide
    omega
/-! ### even cuts and turns -/
/-- how many chunks of c there are in m -/
def nch (m c : Nat) : Nat := (m + c - 1) / c
def ev (m c i : Nat) : Nat := min c (m - c * i)
def evL (m c j : Nat) : List Nat := (List.range (min j (nch m c))).map (ev m c)
def trL (w j : Nat) : List Nat := (List.range j).map (· % w)
theorem nch_lt {m c j : Nat} (hc : 0 < c) : c * j < m ↔ j < nch m c := by
  unfold nch
  show _ ↔ j + 1 ≤ (m + c - 1) / c
  rw [Nat.le_div_iff_mul_le hc, Nat.add_mul, Nat.one_mul, Nat.mul_comm j c]
  omega
theorem rg_ok : ∀ m : Nat, m < 121 → ∀ c : Nat, c < 10 → 0 < c → (((c : Int) ≠ 0) ∧ (c : Int).natAbs < 1073741824 ∧ Builtin.Range.small 0 (m : Int) (c : Int) = true ∧ Builtin.Range.rangeSize 0 (m : Int) (c : Int) = nch m c) := by decide +kernel
def spEven : Sp := fun vs H Q _ => ∃ m c : Nat, vs = [.int (m : Nat), .int (c : Nat)] ∧ m < 121 ∧ 0 < c ∧ c < 10 ∧ ∀ H' t, Same H H' → H t = none → H' t = some (.tup ((evL m c m).map fun n => V.int (n : Nat))) → Q (.ref t) H'
def spTurn : Sp := fun vs H Q _ => ∃ m w : Nat, vs = [.int (m : Nat), .int (w : Nat)] ∧ m < 121 ∧ 0 < w ∧ w < 10 ∧ ∀ H' t, Same H H' → H t = none → H' t = some (.tup ((trL w m).map fun n => V.int (n : Nat))) → Q (.ref t) H'
theorem nch_le {m c : Nat} (hc : 0 < c) : nch m c ≤ m := by
  by_cases h : nch m c ≤ m
  · exact h
  · have h2 := (nch_lt (m := m) (c := c) (j := m) hc).mpr (by omega)
    have : m ≤ c * m := Nat.le_mul_of_pos_left m hc
    omega
theorem evL_small {m c j : Nat} (hc : c < 10) : ∀ n ∈ evL m c j, n < 10 := fun n hn => by
  obtain ⟨i, _, rfl⟩ := List.mem_map.mp hn
  exact Nat.lt_of_le_of_lt (Nat.min_le_left _ _) hc
theorem trL_small {w j : Nat} (h0 : 0 < w) (hw : w < 10) : ∀ n ∈ trL w j, n < 10 := fun n hn => by
  obtain ⟨i, _, rfl⟩ := List.mem_map.mp hn
  exact Nat.lt_trans (Nat.mod_lt _ h0) hw
theorem evL_step {m c j : Nat} (hc : 0 < c) (h : c * j < m) : evL m c (j + 1) = evL m c j ++ [ev m c j] := by
  have hj := (nch_lt hc).mp h
  unfold evL
  rw [Nat.min_eq_left (by omega : j + 1 ≤ nch m c), Nat.min_eq_left (by omega : j ≤ nch m c), List.range_succ, List.map_append]
  rfl
theorem evL_stay {m c j : Nat} (hc : 0 < c) (h : ¬ c * j < m) : evL m c (j + 1) = evL m c j := by
  have hj : ¬ j < nch m c := fun q => h ((nch_lt hc).mpr q)
  unfold evL
  rw [Nat.min_eq_right (by omega), Nat.min_eq_right (by omega)]
theorem evL_len {m c j : Nat} : (evL m c j).length ≤ j := by
  unfold evL
  rw [List.length_map, List.length_range]
  exact Nat.min_le_left _ _
theorem trL_step {w j : Nat} : trL w (j + 1) = trL w j ++ [j % w] := by
  unfold trL
  rw [List.range_succ, List.map_append]
  rfl
theorem trL_len {w j : Nat} : (trL w j).length = j := by
  unfold trL
  rw [List.length_map, List.length_range]
end WB
namespace WB
open PySem L2 PyProof.Rows
theorem evL_end {m c : Nat} (hc : 0 < c) : evL m c (nch m c) = evL m c m := by
  unfold evL
  rw [Nat.min_self, Nat.min_eq_right (nch_le hc)]
theorem mul_cast (i c : Nat) : (i : Int) * (c : Int) = ((c * i : Nat) : Int) := by
  rw [Nat.mul_comm c i]
  exact (Int.natCast_mul i c).symm
theorem ev_int {m c i : Nat} (h : c * i < m) : (if ((m : Int) - (0 + (i : Int) * (c : Int))) < (c : Int) then ((m : Int) - (0 + (i : Int) * (c : Int))) else (c : Int)) = ((ev m c i : Nat) : Int) := by
  rw [mul_cast]
  unfold ev
  generalize c * i = t at *
  split <;> omega
theorem ev_min {m c j : Nat} : (if (c : Int) < ((m - c * j : Nat) : Int) then (c : Int) else ((m - c * j : Nat) : Int)) = ((ev m c j : Nat) : Int) := by
  unfold ev
  generalize c * j = t
  split <;> omega
theorem ev_left {m c j : Nat} : ((m - c * j : Nat) : Int) - ((ev m c j : Nat) : Int) = ((m - c * (j + 1) : Nat) : Int) := by
  unfold ev
  rw [Nat.mul_succ]
  generalize c * j = t
  omega
end WB
namespace WB
open PySem L2 PyProof.Rows
theorem succ_turn {i c : Nat} (hc : 0 < c) : (i + 1) % c = if i % c + 1 = c then 0 else i % c + 1 := by
  have e : (i + 1) % c = (i % c + 1) % c := (Nat.mod_add_mod i c 1).symm
  have := Nat.mod_lt i hc
  rw [e]
  split
  · rename_i h
    rw [h, Nat.mod_self]
  · exact Nat.mod_eq_of_lt (by omega)
end WB

set_option Elab.async false
set_option linter.all false
set_option maxRecDepth 100000
set_option maxHeartbeats 4000000
namespace WB
open PySem L2 PyProof.Rows
/-- a method that may raise, called by position -/
structure MetY (P : Program) (w : World) (K : PySem.W.Frag) (mg : Str → Option Value) (base : Heap) (k : Nat) (C : Addr) (m : Str) (sp : Sp) : Prop where
  ex : ∃ (f : Addr) (fd : FuncData) (ps : List Str), Cls K C ∧ Meth K C m f ∧ FnOk P w K mg base (L2.CX P w) k f fd ps sp ∧ Binds K fd ps []
section
variable {X : Cx} {k j : Nat} {C : Addr} {x m kn : Str} {sp : Sp} {p pos apos kpos : Pos} {e o i : Expr} {es : List Expr} {to ti ta : TE} {t : TA} {W : WX} {E : XK}
/-- x[k] within a def that may raise -/
theorem pe_ownX (c : GetX X.prog X.w X.K X.mg X.base k C sp) (tk : Takes X (fun cls d _ H => E cls d H)) (hr : Room j X.A) (hk : k + 1 ≤ j) (ho : PE X o to) (hi : PE X i ti) (hs : PlainK i) : PE X (.Subscript o i pos) (tGetO C sp (fun _ => E) to ti) :=
  pe_getS c (fun σ pins H s e s' I h => passes_call tk (fun _ _ _ _ z => z) pins σ H s e s' I h) hr hk ho hi hs
theorem pe_mtY {pl : Sem Bool} (c : MetY X.prog X.w X.K X.mg X.base k C m sp) (tk : Takes X W) (hr : Room j X.A) (hk : k ≤ j) (he : PE X o ta) (ha : PA X (e :: es) t)
    (hst : starEach (e :: es) X.env = (false, eval e X.env) :: starEach es X.env := by rfl) (hpl : (backTo pos (starEach es X.env)).any (·.1) = false := by rfl)
    (ht : eval (.Call (.Attribute o m apos) (e :: es) [] pos) X.env = (do
      let ov ← eval o X.env
      standAt apos.atName
      let (f, first) ← holding [ov] (getMethod ov m pl)
      callWith pos f first (backTo pos (starEach (e :: es) X.env)) (backToKw pos (keywordEach [] X.env))) := by rfl) :
    PE X (.Call (.Attribute o m apos) (e :: es) [] pos) (tMethS C m sp (WE W) ta t) := by
  obtain ⟨f, fd, ps, hc, hm, F, b⟩ := c.ex
  exact pe_methS (pl := pl) he hc hm F (hr.mono hk) b (fun σ => passAt tk σ) ha hst hpl ht
/-- o.m(k = e) within try -/
def tMethKS (C : Addr) (m : Str) (sp : Sp) (E : L2.St → XK) (ta te : TE) : TE := fun σ H Q => ta σ H fun x H1 => ∃ a dx fs, x = .ref a ∧ H1 a = some (.ins C dx fs) ∧ fs.lookup m = none ∧ te σ H1 fun y H2 => sp [x, y] H2 Q (E σ)
theorem pe_mtKS {pl : Sem Bool} (c : MetX X.prog X.w X.K X.mg X.base k C m sp kn) (tk : Takes X W) (hr : Room j X.A) (hk : k ≤ j) (he : PE X o ta) {te : TE} (ha : PE X e te)
    (hall : (backToKw pos (keywordEach [⟨some kn, e, kpos⟩] X.env)).all (·.1.isSome) = true := by rfl) (hks : (backToKw pos (keywordEach [⟨some kn, e, kpos⟩] X.env)).filterMap (·.1) = [kn] := by rfl)
    (hpl : ((backTo pos (starEach [] X.env)).any (·.1) || (backToKw pos (keywordEach [⟨some kn, e, kpos⟩] X.env)).any (·.1.isNone)) = false := by rfl)
    (ht : eval (.Call (.Attribute o m apos) [] [⟨some kn, e, kpos⟩] pos) X.env = (do
      let ov ← eval o X.env
      standAt apos.atName
      let (f, first) ← holding [ov] (getMethod ov m pl)
      callWith pos f first (backTo pos (starEach [] X.env)) (backToKw pos (keywordEach [⟨some kn, e, kpos⟩] X.env))) := by rfl) :
    PE X (.Call (.Attribute o m apos) [] [⟨some kn, e, kpos⟩] pos) (tMethKS C m sp (WE W) ta te) := by
  obtain ⟨f, fd, ps, hc, hm, F, _, kb⟩ := c.ex
  have hr2 := hr.mono hk
  refine ⟨fun pins s σ H Q I h => PySem.W.methodCall_KW (pl := pl) (thn (he.run pins s σ H _ I h) fun u s1 ⟨y, H1, I1, ry, a, dx, fs, ey, ea, l, q⟩ => ?_) ht⟩
  subst ey
  cases (show u = Value.ref a from ry)
  refine getmeth_ok I1 ea hc hm l (PySem.W.callWith_KW0 (first := [.ref a]) (h₀ := X.base) I1.ok.mod.kin hm.kp hall ?_ hpl)
  refine thn ((pk_cons ha pk_nil).run pos pins s1 σ H1 (fun zs H2 => ∃ z, zs = [z] ∧ sp [.ref a, z] H2 Q (WE W σ)) I1 ?_) fun ws s2 z => ?_
  · have e : (fun v H1 => tNil σ H1 fun vs H2 => ∃ z, v :: vs = [z] ∧ sp [.ref a, z] H2 Q (WE W σ)) = fun (y : V) H2 => sp [.ref a, y] H2 Q (WE W σ) := by
      funext v H1
      refine propext ⟨fun ⟨x, e, q⟩ => ?_, fun q => ⟨v, rfl, q⟩⟩
      cases e
      exact q
    show te σ H1 (fun v H1 => tNil σ H1 fun vs H2 => ∃ z, v :: vs = [z] ∧ sp [.ref a, z] H2 Q (WE W σ))
    rw [e]
    exact q
  · obtain ⟨zs, H2, I2, rz, z, ez, q2⟩ := z
    subst ez
    rw [hks]
    have r2 : Vals [V.ref a, z] (Value.ref a :: ws) := .cons rfl rz
    have hb := kb.to s2 [.ref a] ws I2.kIn rfl rz.length.symm
    refine ⟨I2.kIn, wpAny_call (codeAny_mono (F.run X.A X.stack s2 H2 ⟨[.ref a], [kn].zip ws⟩ (Value.ref a :: ws) [.ref a, z] Q (WE W σ) hr2 I2.env0 hb r2 q2) fun r s' hq => ?_)⟩
    cases r with
    | error er => exact passAt tk σ pins H2 s2 er s' I2 hq
    | ok fl =>
      cases fl with
      | ret u => exact I2.after hq
      | next => exact hq.elim
      | brk => exact hq.elim
      | cont => exact hq.elim
end
/-! ### names removed and compared -/
def spUnbind (K : PySem.W.Frag) (C CN : Addr) : Sp := fun vs H Q E => ∃ (w d : Addr) (kvs : List (Key × V)) (x : V), vs = [.ref w, x] ∧ WAt C H w d kvs ∧ Thing K H x ∧
  (∀ z, x = .str z → inW kvs x = true → Q .non (upd H d (.dK (dropK kvs (.inr z))))) ∧ (inW kvs x = false → ∀ H' e, Same H H' → H e = none → H' e = some (.xd [("name", x)]) → E (.ref CN) (some e) H')
def spSameX (K : PySem.W.Frag) (C CB CN : Addr) : Sp := fun vs H Q E => ∃ (w d : Addr) (kvs : List (Key × V)) (x y : V), vs = [.ref w, x, y] ∧ WAt C H w d kvs ∧ Thing K H x ∧ Thing K H y ∧ (∀ z v, valV kvs (.inr z) = some v → ∃ a t, v = .ref a ∧ BoxAt CB H a t) ∧
  (∀ z1 z2 a b, x = .str z1 → y = .str z2 → valV kvs (.inr z1) = some (.ref a) → valV kvs (.inr z2) = some (.ref b) → Q (.bl (decide (a = b))) H) ∧
  (inW kvs x = false → ∀ H' e, Same H H' → H e = none → H' e = some (.xd [("name", x)]) → E (.ref CN) (some e) H') ∧
  (inW kvs x = true → inW kvs y = false → ∀ H' e, Same H H' → H e = none → H' e = some (.xd [("name", y)]) → E (.ref CN) (some e) H')
theorem inW_str {kvs : List (Key × V)} {x : V} (h : inW kvs x = true) : ∃ z v, x = .str z ∧ valV kvs (.inr z) = some v := by
  cases x with
  | str z =>
    obtain ⟨v, hv⟩ := Option.isSome_iff_exists.mp (show (valV kvs (.inr z)).isSome = true from h)
    exact ⟨z, v, rfl, hv⟩
  | non => cases h
  | bl b => cases h
  | int i => cases h
  | byt b => cases h
  | flt b => cases h
  | ref a => cases h
  | ty n => cases h
theorem inW_val {kvs : List (Key × V)} {z : Str} {v : V} (h : valV kvs (.inr z) = some v) : inW kvs (.str z) = true := by
  show (valV kvs (.inr z)).isSome = true
  rw [h]
  rfl
theorem wF_same {kvs : List (Key × V)} {z : Str} (h : inW kvs (.str z) = false) : valV kvs (.inr z) = none := by
  have h : (valV kvs (.inr z)).isSome = false := h
  cases e : valV kvs (.inr z) with
  | none => rfl
  | some v =>
    rw [e] at h
    cases h
/-- a world, its twin in numbers, three boxes and their texts -/
structure L11 (C CB p q l bd w d tx D : Addr) (zs : List Str) (ow : List Addr) (tz : List Str) (ps : List (Str × Nat)) (H : Hp) : Prop where
  bag : BagAt H p q
  pool : H l = some (.lst (zs.map V.str))
  z0 : 0 < zs.length
  bnd : H bd = some (.dK (ps.map (kv gN)))
  wld : WAt C H w d (ps.map (kv (gB ow)))
  txs : H tx = some (.lst (tz.map V.str))
  bxs : H D = some (.lst (ow.map V.ref))
  ln : ow.length = 3 ∧ tz.length = 3
  nd : ow.Nodup
  box : ∀ (i : Nat) (b : Addr), ow[i]? = some b → ∃ z, tz[i]? = some z ∧ BoxAt CB H b z
  n1 : d ≠ bd
section
variable {C CB p q l bd w d tx D : Addr} {zs : List Str} {ow : List Addr} {tz : List Str} {ps : List (Str × Nat)} {H H' : Hp}
theorem L11.same (L : L11 C CB p q l bd w d tx D zs ow tz ps H) (s : Same H H') : L11 C CB p q l bd w d tx D zs ow tz ps H' :=
  ⟨L.bag.same s, s _ _ L.pool, L.z0, s _ _ L.bnd, L.wld.same s, s _ _ L.txs, s _ _ L.bxs, L.ln, L.nd, fun i b h => by
    obtain ⟨z, h1, h2⟩ := L.box i b h
    exact ⟨z, h1, h2.same s⟩, L.n1⟩
theorem L11.lp (L : L11 C CB p q l bd w d tx D zs ow tz ps H) : l ≠ p := by
  obtain ⟨c, s', i, ns, hp, _⟩ := id L.bag
  exact lst_ne L.pool hp (by
    have := L.z0
    cases zs with
    | nil => cases this
    | cons a r => intro e; cases e)
theorem L11.draw (L : L11 C CB p q l bd w d tx D zs ow tz ps H) (s : Bar p H H') (hB : BagAt H' p q) : L11 C CB p q l bd w d tx D zs ow tz ps H' := by
  obtain ⟨c, s', i, ns, hp, _⟩ := id L.bag
  have nt : tx ≠ p := lst_ne L.txs hp (by
    have := L.ln.2
    cases tz with
    | nil => cases this
    | cons a r => intro e; cases e)
  have nD : D ≠ p := lst_ne L.bxs hp (by
    have := L.ln.1
    cases ow with
    | nil => cases this
    | cons a r => intro e; cases e)
  have nb : bd ≠ p := ob_ne L.bnd hp (by intro e; cases e)
  obtain ⟨w1, w2⟩ := L.wld.bag L.bag
  exact ⟨hB, s _ _ L.lp L.pool, L.z0, s _ _ nb L.bnd, L.wld.bar s w1 w2, s _ _ nt L.txs, s _ _ nD L.bxs, L.ln, L.nd, fun i b h => by
    obtain ⟨z, h1, h2⟩ := L.box i b h
    exact ⟨z, h1, h2.bar s (h2.bag L.bag)⟩, L.n1⟩
theorem L11.tab (L : L11 C CB p q l bd w d tx D zs ow tz ps H) (ps' : List (Str × Nat)) : L11 C CB p q l bd w d tx D zs ow tz ps' (upd (upd H d (.dK (ps'.map (kv (gB ow))))) bd (.dK (ps'.map (kv gN)))) := by
  obtain ⟨c, s', i, ns, hp, hq, hr⟩ := id L.bag
  obtain ⟨⟨dw, hw⟩, hd⟩ := id L.wld
  have keep : ∀ (a : Addr) (o : HO), (∀ kvs, o ≠ .dK kvs) → H a = some o → (upd (upd H d (.dK (ps'.map (kv (gB ow))))) bd (.dK (ps'.map (kv gN)))) a = some o := fun a o ho ha => by
    rw [upd_ne (ob_ne ha L.bnd (ho _)), upd_ne (ob_ne ha hd (ho _))]
    exact ha
  refine ⟨⟨c, s', i, ns, keep p _ (fun _ z => by cases z) hp, keep q _ (fun _ z => by cases z) hq, hr⟩, keep l _ (fun _ z => by cases z) L.pool, L.z0, upd_same, ⟨⟨dw, keep w _ (fun _ z => by cases z) hw⟩, (upd_ne L.n1).trans upd_same⟩, keep tx _ (fun _ z => by cases z) L.txs, keep D _ (fun _ z => by cases z) L.bxs, L.ln, L.nd, fun i b h => ?_, L.n1⟩
  obtain ⟨z, h1, dx, h2⟩ := L.box i b h
  exact ⟨z, h1, dx, keep b _ (fun _ z => by cases z) h2⟩
theorem L11.at_ (L : L11 C CB p q l bd w d tx D zs ow tz ps H) {k : Nat} (hk : k < 3) : (ow.map V.ref)[k]? = some (gB ow k) ∧ ∃ z, BoxAt CB H (ow.getD k 0) z := by
  have hk2 : k < ow.length := by
    rw [L.ln.1]
    exact hk
  have e : ow[k]? = some (ow.getD k 0) := by
    rw [List.getD_eq_getElem?_getD, List.getElem?_eq_getElem hk2]
    rfl
  obtain ⟨z, _, h⟩ := L.box k _ e
  exact ⟨by rw [List.getElem?_map, e]; rfl, z, h⟩
theorem L11.vals (L : L11 C CB p q l bd w d tx D zs ow tz ps H) (hp : ∀ e ∈ ps, nameS e.1 = true ∧ e.2 < 3) : ∀ z v, valV (ps.map (kv (gB ow))) (.inr z) = some v → ∃ a t, v = .ref a ∧ BoxAt CB H a t := fun z v h => by
  rw [get_kv] at h
  cases e : getP ps z with
  | none =>
    rw [e] at h
    cases h
  | some k =>
    rw [e] at h
    cases h
    obtain ⟨_, t, ht⟩ := L.at_ (hp _ (getP_mem e)).2
    exact ⟨_, t, rfl, ht⟩
end
theorem dropP_mem {β : Type} {ps : List (Str × β)} {n : Str} {e : Str × β} (h : e ∈ dropP ps n) : e ∈ ps := (List.mem_filter.mp h).1
theorem dropP_len {β : Type} (ps : List (Str × β)) (n : Str) : (dropP ps n).length ≤ ps.length := List.length_filter_le _ _
def spRemoved (C : Addr) : Sp := fun vs H Q _ => ∃ (w d : Addr) (kvs : List (Key × V)) (z : Str), vs = [.ref w, .str z] ∧ WAt C H w d kvs ∧ z.length ≤ 1000 ∧
  (inW kvs (.str z) = true → ∀ l, H l = none → l ≠ d → Q (.ref l) (upd (upd H d (.dK (dropK kvs (.inr z)))) l (.lst []))) ∧
  (inW kvs (.str z) = false → ∀ H' l, Same H H' → H l = none → H' l = some (.lst [.str z]) → Q (.ref l) H')
def spSame11 (C CB : Addr) : Sp := fun vs H Q _ => ∃ (w d : Addr) (kvs : List (Key × V)) (a b : Str), vs = [.ref w, .str a, .str b] ∧ WAt C H w d kvs ∧ a.length ≤ 1000 ∧ b.length ≤ 1000 ∧ (∀ z v, valV kvs (.inr z) = some v → ∃ a t, v = .ref a ∧ BoxAt CB H a t) ∧
  (∀ x y, valV kvs (.inr a) = some (.ref x) → valV kvs (.inr b) = some (.ref y) → Q (.bl (decide (x = y))) H) ∧
  (inW kvs (.str a) = false → ∀ H' l, Same H H' → H l = none → H' l = some (.lst [.str a]) → Q (.ref l) H') ∧
  (inW kvs (.str a) = true → inW kvs (.str b) = false → ∀ H' l, Same H H' → H l = none → H' l = some (.lst [.str b]) → Q (.ref l) H')
end WB
namespace WB
open PySem L2 PyProof.Rows
def spRight11 (C CB : Addr) : Sp := fun vs H Q _ => ∃ (p q l bd w d tx D : Addr) (zs : List Str) (ow : List Addr) (tz : List Str) (ps : List (Str × Nat)), vs = [.ref p, .ref w, .ref l, .ref bd, .ref D] ∧ L11 C CB p q l bd w d tx D zs ow tz ps H ∧ zs.length ≤ 6 ∧ (∀ z ∈ zs, nameS z = true) ∧
  ps.length < 60 ∧ (∀ e ∈ ps, nameS e.1 = true ∧ e.2 < 3) ∧ ∀ H', Bar p H H' → L11 C CB p q l bd w d tx D zs ow tz ps H' → Q (.bl true) H'
end WB

set_option Elab.async false
set_option linter.all false
set_option maxRecDepth 100000
set_option maxHeartbeats 4000000
namespace WB
open PySem PySem.Spec L2 PyProof.Rows
/-! ### try with two clauses that name what they catch -/
/-- an exception that the frame of X has caught: sI is the state without it -/
structure Air (X : Cx) (pins : List (Addr × Obj)) (B : Heap) (x : Addr) (cls : Value) (d : Option Addr) (sI : Shared) (σ : L2.St) (H : Hp) (t : Shared) : Prop where
  inv : Inv X pins σ H sI
  low : ∀ b o, sI.heap.get? b = some o → b ∉ frs X.stack → B.get? b = some o
  up : sI.heap.UpToSlots t.heap
  fly : HandSPX.FlyingZ B (X.env :: X.outer) x (Zc cls d) t.heap
  new : H x = none
  sys : t.os = sI.os
  gen : AllBare t.gens
section
variable {X : Cx} {pins : List (Addr × Obj)} {B : Heap} {x : Addr} {cls : Value} {d : Option Addr} {sI : Shared} {σ : L2.St} {H : Hp} {t : Shared}
theorem Air.state (A : Air X pins B x cls d sI σ H t) : Inv X pins σ H t := A.inv.landed A.low A.fly.1 A.up A.sys A.gen
theorem Air.apart (A : Air X pins B x cls d sI σ H t) (hf : X.env.frame = some X.env.locals) : x ≠ X.env.locals ∧ x ∉ X.fs := by
  obtain ⟨oe, vs, he, _, hd⟩ := A.fly.there
  have away : x ∉ frs (X.env :: X.outer) := by
    intro hm
    obtain ⟨_, o2, e2, hnf⟩ := A.fly.2.2.1.mem hm
    have := e2.symm.trans he
    cases this
    exact hnf _ hd
  constructor
  · intro e
    refine away (List.mem_filterMap.mpr ⟨X.env, .head _, ?_⟩)
    rw [hf, e]
  · intro e
    obtain ⟨v, hv, hq⟩ := List.mem_filterMap.mp e
    exact away (List.mem_filterMap.mpr ⟨v, .tail _ hv, hq⟩)
theorem Air.clause {xn n : Str} {c : Value} {i : Nat} {b₀ : Stmt} {suite : List Stmt} {np pos : Pos} {ts : Addr → Value → Option Addr → TS} {rest : List ExceptHandler} {D : Ends} {b : Bool}
    (A : Air X pins B x cls d sI σ H t) (hf : X.env.frame = some X.env.locals) (hN : X.N.Nodup) (hi : X.N[i]? = some n) (hl : X.env.kindOf n = some .local) (hc : Names X xn c)
    (hsu : ∀ (a : Addr) (oe : Obj) (cls : Value) (d : Option Addr) (pn : List (Addr × Obj)), Zc cls d oe → (∃ vs, oe.data = .fields vs) → PSs (X.suite a ((a, oe) :: pn)) (b₀ :: suite) (ts a cls d))
    (hb : PySem.W.exmOne X.K cls c = some b)
    (yes : b = true → ts x cls d { nx := fun σ' H' => D.nx (σ'.set i none) H', rt := D.rt, bk := fun σ' H' => D.bk (σ'.set i none) H', ct := fun σ' H' => D.ct (σ'.set i none) H' } (σ.set i (some (.ref x))) H)
    (no : b = false → wpAny (model X.prog X.w) X.A (handleBy (.ref x) X.env rest) (SP X pins D) X.xe t) :
    wpAny (model X.prog X.w) X.A (handleBy (.ref x) X.env (.ExceptHandler (some (.Name xn np)) (some n) (b₀ :: suite) pos :: rest)) (SP X pins D) X.xe t := by
  obtain ⟨n1, n2⟩ := A.apart hf
  obtain ⟨oe, vs, he, hz, hd⟩ := A.fly.there
  have S := A.state.suite he hd A.new n1 n2
  have lk : PySem.W.Looks (model X.prog X.w) t.heap (typeOf (.ref x)) cls := by
    intro A2 Q E t2 kk qq
    refine wpAny_typeOf_ref (kk _ _ he) ?_
    rw [hz.1]
    exact qq
  have m := PySem.W.exm_one (M := model X.prog X.w) A.state.kIn lk hb
  have name : ∀ {Q E : Value → Shared → Prop}, Q c t → wpAny (model X.prog X.w) (X.A.mark (some (.ref x))) (eval (.Name xn np) X.env) Q E t := by
    intro Q E qc
    obtain ⟨g, nd, u⟩ := hc
    rcases u with u | ⟨u1, u2, u3⟩
    · exact ld_glob (X := X.suite x ((x, oe) :: (X.pn ++ pins))) S g u qc nd
    · exact ld_blt (X := X.suite x ((x, oe) :: (X.pn ++ pins))) S g u1 u2 qc u3 nd
  refine wpAny_handleBy_cons ?_ (by intro z; cases z)
  refine codeAny_handlers_test (name ?_)
  refine m.here ?_
  cases b with
  | false => exact no rfl
  | true =>
    refine codeAny_handlers_suite_as ?_
    refine HandSPX.lands_againZ A.fly fun h2 fl2 up2 => ?_
    have A2 : Air X pins B x cls d sI σ H { t with heap := h2 } := ⟨A.inv, A.low, A.up.trans up2, fl2, A.new, A.sys, A.gen⟩
    obtain ⟨oe2, vs2, he2, hz2, hd2⟩ := fl2.there
    have S2 := A2.state.suite he2 hd2 A.new n1 n2
    refine store_ok (X := X.suite x ((x, oe2) :: (X.pn ++ pins))) (v := .ref x) S2 hN hi (.inl hl) rfl (fun t5 S5 => ?_) (.inr hl)
    have run := (hsu x oe2 cls d (X.pn ++ pins) hz2 ⟨_, hd2⟩).run [] t5 _ H _ S5 (yes rfl)
    refine wpAny_mono run (fun fl t6 g => ?_) (fun _ _ z => z.elim)
    have gone : ∀ {σ6 : L2.St} {H6 : Hp} {R : Shared → Prop}, Inv (X.suite x ((x, oe2) :: (X.pn ++ pins))) [] σ6 H6 t6 → (∀ t7, Inv X pins (σ6.set i none) H6 t7 → R t7) →
        wpAny (model X.prog X.w) X.A (do bindName X.env n .none; unbindBehindTheSuite X.env n pos) (fun _ t7 => R t7) X.xe t6 := by
      intro σ6 H6 R S6 hR
      exact gone_ok (S6.unsuite A.inv.ok) hN hi hl hR
    match fl, g with
    | .next, ⟨_, _, S6, g6⟩ => exact gone S6 fun t7 J7 => ⟨_, _, J7, g6⟩
    | .brk, ⟨_, _, S6, g6⟩ => exact gone S6 fun t7 J7 => ⟨_, _, J7, g6⟩
    | .cont, ⟨_, _, S6, g6⟩ => exact gone S6 fun t7 J7 => ⟨_, _, J7, g6⟩
    | .ret u, ⟨_, _, _, S6, r6, g6⟩ => exact gone S6 fun t7 J7 => ⟨_, _, _, J7, r6, g6⟩
theorem Air.none {D : Ends} {Wout : WX} (A : Air X pins B x cls d sI σ H t) (hs : X.stack = X.env :: X.outer) (hf : X.env.frame = some X.env.locals) (tk : Takes X Wout) (w : Wout cls d σ H) :
    wpAny (model X.prog X.w) X.A (handleBy (.ref x) X.env []) (SP X pins D) X.xe t := by
  refine wpAny_handleBy_nil ?_
  obtain ⟨_, _, _, oe, vs, T, oT, ts', he, _, hd, h1, _⟩ := id A.fly
  unfold PySem.passOn
  refine wpAny_bind (wpAny_field he hd h1 ?_)
  have nT : ¬ ((Value.ref T == Value.none) = true) := by simp
  rw [if_neg nT]
  have out : wpAny (model X.prog X.w) X.A (setFlight (.ref x) X.env.frame) (fun _ t4 => wpAny (model X.prog X.w) X.A (throw (.ref x) : Sem Flow) (SP X pins D) X.xe t4) X.xe t := by
    rw [hf]
    refine HandSPX.setFlight_upZ A.fly fun h4 hh4 up4 => wpAny_throw (tk _ _ ?_)
    refine ⟨x, B, sI, pins, σ, H, cls, d, rfl, A.inv, A.low, A.up.trans up4, ?_, A.new, A.sys, A.gen, w⟩
    rw [hs]
    exact .inr (.inr hh4)
  first
    | exact wpAny_bind (wpAny_pure (wpAny_bind out))
    | exact wpAny_bind out
end
/-- what two clauses wish of an exception of the body -/
def wTwo (K : PySem.W.Frag) (c1 c2 : Value) (i : Nat) (ts1 ts2 : Addr → Value → Option Addr → TS) (Wout : WX) (D : Ends) : WX := fun cls d σ H => ∃ b, PySem.W.exmOne K cls c1 = some b ∧
  (b = true → ∀ x, H x = none → ts1 x cls d { nx := fun σ' H' => D.nx (σ'.set i none) H', rt := D.rt, bk := fun σ' H' => D.bk (σ'.set i none) H', ct := fun σ' H' => D.ct (σ'.set i none) H' } (σ.set i (some (.ref x))) H) ∧
  (b = false → wAs K c2 i ts2 Wout D cls d σ H)
theorem ps_try_as2 {X : Cx} {x1 x2 n : Str} {c1 c2 : Value} {i : Nat} {body su1 su2 : List Stmt} {b1 b2 : Stmt} {np1 np2 pos po1 po2 : Pos} {tb : WX → TS} {ts1 ts2 : Addr → Value → Option Addr → TS} {Wout : WX}
    (hs : X.stack = X.env :: X.outer) (hf : X.env.frame = some X.env.locals) (hN : X.N.Nodup) (hi : X.N[i]? = some n) (hl : X.env.kindOf n = some .local) (hc1 : Names X x1 c1) (hc2 : Names X x2 c2) (tk : Takes X Wout)
    (hb : ∀ (W : WX) (pn : List (Addr × Obj)) (xe : Value → Shared → Prop), Takes (X.tr pn xe) W → PassesOwn (model X.prog X.w) X.A X.env xe → PSs (X.tr pn xe) body (tb W))
    (hsu1 : ∀ (a : Addr) (oe : Obj) (cls : Value) (d : Option Addr) (pn : List (Addr × Obj)), Zc cls d oe → (∃ vs, oe.data = .fields vs) → PSs (X.suite a ((a, oe) :: pn)) (b1 :: su1) (ts1 a cls d))
    (hsu2 : ∀ (a : Addr) (oe : Obj) (cls : Value) (d : Option Addr) (pn : List (Addr × Obj)), Zc cls d oe → (∃ vs, oe.data = .fields vs) → PSs (X.suite a ((a, oe) :: pn)) (b2 :: su2) (ts2 a cls d)) :
    PS X (.Try body [.ExceptHandler (some (.Name x1 np1)) (some n) (b1 :: su1) po1, .ExceptHandler (some (.Name x2 np2)) (some n) (b2 :: su2) po2] [] [] pos) (fun D σ H => tb (wTwo X.K c1 c2 i ts1 ts2 Wout D) D σ H) := by
  refine ⟨fun pins s σ H D I h => ?_⟩
  have fr : X.A.frames = some (X.env :: X.outer) := by rw [I.ok.frames, hs]
  refine wpAny_Try_except ?_
  have land : Takes (X.tr (X.pn ++ pins) (fun e t1 => wpAny (model X.prog X.w) X.A (noteFrame e X.env) (fun _ t2 => wpAny (model X.prog X.w) X.A (setFlight e none) (fun _ t3 =>
    wpAny (model X.prog X.w) X.A (handleBy e X.env [.ExceptHandler (some (.Name x1 np1)) (some n) (b1 :: su1) po1, .ExceptHandler (some (.Name x2 np2)) (some n) (b2 :: su2) po2]) (SP X pins D) X.xe t3) X.xe t2) X.xe t1)) (wTwo X.K c1 c2 i ts1 ts2 Wout D) := by
    rintro u t1 ⟨a, B, sI, pins', σ1, H1, cls, d, rfl, J1, low, up, sky, na, os, ag, bb, hb1, y1, o1⟩
    have J : Inv X pins σ1 H1 sI := J1.ofTry I.ok
    have sky2 : Sky B (X.env :: X.outer) a (Zc cls d) X.env.locals t1.heap := hs ▸ sky
    show wpAny (model X.prog X.w) X.A (noteFrame (.ref a) X.env) _ _ _
    refine Sky.land Zc.steady fr hf sky2 fun h3 fl3 up3 => ?_
    have A : Air X pins B a cls d sI σ1 H1 { t1 with heap := h3 } := ⟨J, low, up.trans up3, fl3, na, os, ag⟩
    refine A.clause hf hN hi hl hc1 hsu1 hb1 (fun e => y1 e a na) fun e => ?_
    obtain ⟨b2', hb2, y2, o2⟩ := o1 e
    exact A.clause hf hN hi hl hc2 hsu2 hb2 (fun e => y2 e a na) fun e => A.none hs hf tk (o2 e)
  refine wpAny_mono ((hb _ _ _ land PassesOwn.looking).run [] s σ H D (I.toTry _) h) (fun fl t1 g => ?_) fun e t1 he => he
  match fl, g with
  | .next, ⟨_, _, J, q⟩ => exact wpAny_execs_nil ⟨_, _, J.ofTry I.ok, q⟩
  | .brk, ⟨_, _, J, q⟩ => exact ⟨_, _, J.ofTry I.ok, q⟩
  | .cont, ⟨_, _, J, q⟩ => exact ⟨_, _, J.ofTry I.ok, q⟩
  | .ret u, ⟨_, _, _, J, r, q⟩ => exact ⟨_, _, _, J.ofTry I.ok, r, q⟩
end WB

set_option Elab.async false
set_option linter.all false
set_option maxRecDepth 100000
set_option maxHeartbeats 4000000
namespace WB
open PySem L2 PyProof.Rows
/-! ### any value, as data, of a built-in type -/
def Fit (d : PyData) : Prop := d.showable = true ∧ d.hasDict = false ∧ d.depth ≤ 50 ∧ d.shown.length ≤ 60000
def kinds : List String := ["NoneType", "bool", "int", "str", "list", "tuple"]
def DatV (K : PySem.W.Frag) (p : Addr) (H : Hp) (x : V) : Prop := (∀ z, x = .str z → SmallS z) ∧ ∃ d, Fit d ∧ ∀ H', Bar p H H' → Dp K H' x d ∧ Thing K H' x ∧ ∃ t, TyX K H' x (.type t) ∧ t ∈ kinds
section
variable {K : PySem.W.Frag} {p : Addr} {H H' : Hp} {x : V}
theorem DatV.bar (h : DatV K p H x) (b : Bar p H H') : DatV K p H' x := by
  obtain ⟨s, d, f, k⟩ := h
  exact ⟨s, d, f, fun H2 b2 => k H2 (b.trans b2)⟩
theorem DatV.same (h : DatV K p H x) (s : Same H H') : DatV K p H' x := h.bar (bar_of s)
theorem DatV.thing (h : DatV K p H x) : Thing K H x := by
  obtain ⟨_, d, f, k⟩ := h
  exact (k H (Bar.refl p H)).2.1
theorem datV_non : DatV K p H .non := ⟨fun z e => (by cases e), .none, ⟨rfl, rfl, by decide, by decide +kernel⟩, fun _ _ => ⟨.non, .inr noStr_non, _, .base .non, by decide⟩⟩
theorem datV_bl (b : Bool) : DatV K p H (.bl b) := ⟨fun z e => (by cases e), .bool b, ⟨rfl, rfl, Nat.zero_le _, by cases b <;> decide +kernel⟩, fun _ _ => ⟨.bl b, .inr noStr_bl, _, .base (.bl b), by decide⟩⟩
theorem datV_int {i : Int} (h1 : i.natAbs.log2 < 1000) (h2 : (PyData.shown (.int i)).length ≤ 400) : DatV K p H (.int i) :=
  ⟨fun z e => (by cases e), .int i, ⟨decide_eq_true (Nat.lt_trans h1 (by decide)), rfl, Nat.zero_le _, Nat.le_trans h2 (by decide)⟩, fun _ _ => ⟨.int i, .inr noStr_int, _, .base (.int i), by decide⟩⟩
theorem datV_str {z : Str} (h : SmallS z) : DatV K p H (.str z) := ⟨fun y e => (by cases e; exact h), .str z, ⟨rfl, rfl, Nat.zero_le _, Nat.le_trans (repr_len h) (by decide)⟩, fun _ _ => ⟨.str z, .inl ⟨z, rfl, Nat.le_trans h.1 (by decide)⟩, _, .base (.str z), by decide⟩⟩
theorem list_len {ts : List Str} {m : Nat} (h : ∀ t ∈ ts, t.length ≤ m) (hl : ts.length ≤ 2) : (listText ts).length ≤ 2 * (m + 2) + 2 := by
  have pl := piled_le h
  unfold listText
  rw [Str.length_append]
  have h5 := textFrom_le ts 0 "["
  have h6 : ("[" : Str).length = 1 := by decide +kernel
  have h7 : ("]" : Str).length = 1 := by decide +kernel
  have h8 : ts.length * (m + 2) ≤ 2 * (m + 2) := Nat.mul_le_mul hl (Nat.le_refl _)
  omega
theorem tuple_len {ts : List Str} {m : Nat} (h : ∀ t ∈ ts, t.length ≤ m) (hl : ts.length ≤ 2) : (tupleText ts).length ≤ 4 * (m + 2) + 10 := by
  have pl := piled_le h
  unfold tupleText
  rw [Str.length_append, Str.length_append]
  have h5 := StrLaws.join_length_le ", " ts
  have h6 : (", " : Str).length = 2 := by decide +kernel
  rw [h6] at h5
  have h7 := sum_piled ts
  have h8 : ("(" : Str).length = 1 := by decide +kernel
  have h9 : (Str.ofString (if ts.length == 1 then ",)" else ")" : String)).length ≤ 2 := by
    split
    · decide +kernel
    · decide +kernel
  have h10 : ts.length * (m + 2) ≤ 2 * (m + 2) := Nat.mul_le_mul hl (Nat.le_refl _)
  omega
theorem fit_list {zs : List Str} (hl : zs.length ≤ 2) (hs : ∀ z ∈ zs, SmallS z) : Fit (.list (zs.map PyData.str)) := by
  obtain ⟨h1, h2, h3, h4⟩ := showAll_strs zs
  refine ⟨h1, h2, ?_, ?_⟩
  · show PyData.depthAll _ + 1 ≤ 50
    rw [h3]
    decide
  · show (listText (PyData.shownAll _)).length ≤ _
    rw [h4]
    refine Nat.le_trans (list_len (m := 3002) (fun t ht => ?_) (by rw [List.length_map]; exact hl)) (by decide)
    obtain ⟨z, hz, rfl⟩ := List.mem_map.mp ht
    exact repr_len (hs z hz)
theorem fit_tuple {zs : List Str} (hl : zs.length ≤ 2) (hs : ∀ z ∈ zs, SmallS z) : Fit (.tuple (zs.map PyData.str)) := by
  obtain ⟨h1, h2, h3, h4⟩ := showAll_strs zs
  refine ⟨h1, h2, ?_, ?_⟩
  · show PyData.depthAll _ + 1 ≤ 50
    rw [h3]
    decide
  · show (tupleText (PyData.shownAll _)).length ≤ _
    rw [h4]
    refine Nat.le_trans (tuple_len (m := 3002) (fun t ht => ?_) (by rw [List.length_map]; exact hl)) (by decide)
    obtain ⟨z, hz, rfl⟩ := List.mem_map.mp ht
    exact repr_len (hs z hz)
theorem datV_list {l : Addr} {zs : List Str} (n : l ≠ p) (e : H l = some (.lst (zs.map V.str))) (hl : zs.length ≤ 2) (hs : ∀ z ∈ zs, SmallS z) : DatV K p H (.ref l) :=
  ⟨fun z e => (by cases e), _, fit_list hl hs, fun H' b => ⟨.lst (SqL.of (b _ _ n e)) (dp_all_strs zs), .inr (noStr_lst (b _ _ n e)), _, .base (.lst (b _ _ n e)), by decide⟩⟩
theorem datV_tuple {l : Addr} {zs : List Str} (n : l ≠ p) (e : H l = some (.tup (zs.map V.str))) (hl : zs.length ≤ 2) (hs : ∀ z ∈ zs, SmallS z) : DatV K p H (.ref l) :=
  ⟨fun z e => (by cases e), _, fit_tuple hl hs, fun H' b => ⟨.tup (SqT.of (b _ _ n e)) (dp_all_strs zs), .inr (noStr_tup (b _ _ n e)), _, .base (.tup (b _ _ n e)), by decide⟩⟩
theorem datV_pair {l m : Addr} {y z : Str} (n1 : l ≠ p) (n2 : m ≠ p) (e1 : H l = some (.tup [.ref m, .str z])) (e2 : H m = some (.tup [.str y])) (hy : SmallS y) (hz : SmallS z) : DatV K p H (.ref l) := by
  refine ⟨fun z e => (by cases e), .tuple [.tuple [.str y], .str z], ⟨rfl, rfl, Nat.le_of_ble_eq_true rfl, ?_⟩, fun H' b => ⟨.tup (SqT.of (b _ _ n1 e1)) (.cons (.tup (SqT.of (b _ _ n2 e2)) (.cons (.str y) .nil)) (.cons (.str z) .nil)), .inr (noStr_tup (b _ _ n1 e1)), _, .base (.tup (b _ _ n1 e1)), by decide⟩⟩
  show (tupleText [tupleText [reprText y], reprText z]).length ≤ _
  have h1 : (tupleText [reprText y]).length ≤ 12100 := Nat.le_trans (tuple_len (m := 3002) (ts := [reprText y]) (fun t ht => by rw [List.mem_singleton.mp ht]; exact repr_len hy) (by show 1 ≤ 2; decide)) (by decide)
  refine Nat.le_trans (tuple_len (m := 12100) (fun t ht => ?_) (by show 2 ≤ 2; decide)) (by decide)
  rcases List.mem_cons.mp ht with rfl | ht
  · exact h1
  · rw [List.mem_singleton.mp ht]
    exact Nat.le_trans (repr_len hz) (by decide)
theorem okd_two {d : PyData} {z : Str} (hz : SmallS z) (h : Fit d) : OkD (.list [.str z, d]) := by
  obtain ⟨h1, h2, h3, h4⟩ := h
  refine ⟨?_, ?_, ?_, .inr ?_⟩
  · show (true && (d.showable && true)) = true
    rw [h1]
    rfl
  · show (false || (d.hasDict || false)) = false
    rw [h2]
    rfl
  · show max 0 (max d.depth 0) + 1 ≤ 64
    omega
  · show (listText [reprText z, d.shown]).length ≤ _
    refine Nat.le_trans (list_len (m := 60000) (fun t ht => ?_) (by show 2 ≤ 2; decide)) (by decide)
    rcases List.mem_cons.mp ht with rfl | ht
    · exact Nat.le_trans (repr_len hz) (by decide)
    · rw [List.mem_singleton.mp ht]
      exact h4
end
/-! ### classes, asked -/
theorem exm_not {K : PySem.W.Frag} {C D : Addr} (h1 : PySem.W.subIn K (.ref D) (.type "BaseException") = some true) (h2 : PySem.W.isClsIn K D = true) (h3 : PySem.W.typeIn K (.ref D) = some (.type "type")) (h4 : PySem.W.subIn K (.ref C) (.ref D) = some false) :
    PySem.W.exmOne K (.ref C) (.ref D) = some false := by
  unfold PySem.W.exmOne
  rw [h1, if_pos (by decide)]
  have h2' : (PySem.W.clsIn K D).isSome = true := h2
  unfold PySem.W.kitCls
  dsimp only
  rw [h2', h3]
  exact h4
theorem kit_not {K : PySem.W.Frag} {D : Addr} {t : String} (h2 : PySem.W.isClsIn K D = true) (h3 : PySem.W.typeIn K (.ref D) = some (.type "type")) (h4 : PySem.W.subIn K (.type t) (.ref D) = some false) : PySem.W.kitOne K (.type t) (.ref D) = some false := by
  unfold PySem.W.kitOne
  rw [if_neg (by intro z; cases z)]
  have h2' : (PySem.W.clsIn K D).isSome = true := h2
  unfold PySem.W.kitCls
  dsimp only
  rw [h2', h3]
  exact h4
def NotC (K : PySem.W.Frag) (C : Addr) : Prop := ∀ t ∈ kinds, PySem.W.kitOne K (.type t) (.ref C) = some false
/-! ### o.m(k = e, n = f) -/
structure MetX2 (P : Program) (w : World) (K : PySem.W.Frag) (mg : Str → Option Value) (base : Heap) (k : Nat) (C : Addr) (m : Str) (sp : Sp) (k1 k2 : Str) : Prop where
  ex : ∃ (f : Addr) (fd : FuncData) (ps : List Str), Cls K C ∧ Meth K C m f ∧ FnOk P w K mg base (L2.CX P w) k f fd ps sp ∧ KBn K fd ps 1 [k1, k2] (fun us ws => us ++ ws) (fun vs zs => vs ++ zs)
def tMethK2 (C : Addr) (m : Str) (sp : Sp) (ta t1 t2 : TE) : TE := fun σ H Q => ta σ H fun x H1 => ∃ a dx fs, x = .ref a ∧ H1 a = some (.ins C dx fs) ∧ fs.lookup m = none ∧ t1 σ H1 fun y H2 => t2 σ H2 fun z H3 => sp [x, y, z] H3 Q E0
section
variable {X : Cx} {k j : Nat} {C : Addr} {m k1 k2 : Str} {sp : Sp} {pos apos kp1 kp2 : Pos} {e1 e2 o : Expr} {ta : TE}
theorem pe_mtK2 {pl : Sem Bool} (c : MetX2 X.prog X.w X.K X.mg X.base k C m sp k1 k2) (hr : Room j X.A) (hk : k ≤ j) (he : PE X o ta) {t1 t2 : TE} (ha : PE X e1 t1) (hb : PE X e2 t2)
    (hall : (backToKw pos (keywordEach [⟨some k1, e1, kp1⟩, ⟨some k2, e2, kp2⟩] X.env)).all (·.1.isSome) = true := by rfl) (hks : (backToKw pos (keywordEach [⟨some k1, e1, kp1⟩, ⟨some k2, e2, kp2⟩] X.env)).filterMap (·.1) = [k1, k2] := by rfl)
    (hpl : ((backTo pos (starEach [] X.env)).any (·.1) || (backToKw pos (keywordEach [⟨some k1, e1, kp1⟩, ⟨some k2, e2, kp2⟩] X.env)).any (·.1.isNone)) = false := by rfl)
    (ht : eval (.Call (.Attribute o m apos) [] [⟨some k1, e1, kp1⟩, ⟨some k2, e2, kp2⟩] pos) X.env = (do
      let ov ← eval o X.env
      standAt apos.atName
      let (f, first) ← holding [ov] (getMethod ov m pl)
      callWith pos f first (backTo pos (starEach [] X.env)) (backToKw pos (keywordEach [⟨some k1, e1, kp1⟩, ⟨some k2, e2, kp2⟩] X.env))) := by rfl) :
    PE X (.Call (.Attribute o m apos) [] [⟨some k1, e1, kp1⟩, ⟨some k2, e2, kp2⟩] pos) (tMethK2 C m sp ta t1 t2) := by
  obtain ⟨f, fd, ps, hc, hm, F, kb⟩ := c.ex
  have hr2 := hr.mono hk
  refine ⟨fun pins s σ H Q I h => ?_⟩
  refine PySem.W.methodCall_KW (pl := pl) (thn (he.run pins s σ H _ I h) fun u s1 ⟨y, H1, I1, ry, a, dx, fs, ey, ea, l, q⟩ => ?_) ht
  subst ey
  obtain rfl : u = Value.ref a := ry
  refine getmeth_ok I1 ea hc hm l (PySem.W.callWith_KW0 (first := [.ref a]) (h₀ := X.base) I1.ok.mod.kin hm.kp hall ?_ hpl)
  refine thn ((pk_cons ha (pk_cons hb pk_nil)).run pos pins s1 σ H1 (fun zs H2 => ∃ y z, zs = [y, z] ∧ sp [.ref a, y, z] H2 Q E0) I1 ?_) fun ws s2 ⟨zs, H2, I2, rz, y, z, ez, q2⟩ => ⟨I2.kIn, ?_⟩
  · have e : (fun v H1 => t2 σ H1 fun v2 H2 => tNil σ H2 fun vs H3 => ∃ y z, v :: v2 :: vs = [y, z] ∧ sp [.ref a, y, z] H3 Q E0) = fun (y : V) H2 => t2 σ H2 fun z H3 => sp [.ref a, y, z] H3 Q E0 := by
      funext v H1
      refine congrArg _ (funext fun v2 => funext fun H2 => ?_)
      refine propext ⟨fun ⟨y, z, e, q⟩ => ?_, fun q => ⟨v, v2, rfl, q⟩⟩
      cases e
      exact q
    show t1 σ H1 (fun v H1 => t2 σ H1 fun v2 H2 => tNil σ H2 fun vs H3 => ∃ y z, v :: v2 :: vs = [y, z] ∧ sp [.ref a, y, z] H3 Q E0)
    rw [e]
    exact q
  · subst ez
    rw [hks]
    have r2 : Vals [V.ref a, y, z] (Value.ref a :: ws) := .cons rfl rz
    have hb := kb.to s2 [.ref a] ws I2.kIn rfl rz.length.symm
    refine wpAny_call (codeAny_mono (F.run X.A X.stack s2 H2 ⟨[.ref a], [k1, k2].zip ws⟩ (Value.ref a :: ws) [.ref a, y, z] Q E0 hr2 I2.env0 hb r2 q2) fun r s' hq => ?_)
    cases r with
    | error er => exact passL pins σ H2 s2 er s' I2 hq
    | ok fl =>
      cases fl with
      | ret u => exact I2.after hq
      | next => exact hq.elim
      | brk => exact hq.elim
      | cont => exact hq.elim
end
/-! ### bindings refused -/
/-- never a box -/
def NoBox (K : PySem.W.Frag) (H : Hp) (x : V) : Prop := ∀ H', Same H H' → ∃ t, TyX K H' x (.type t) ∧ t ∈ kinds
theorem DatV.noBox {K : PySem.W.Frag} {p : Addr} {H : Hp} {x : V} (h : DatV K p H x) : NoBox K H x := fun H' s => by
  obtain ⟨_, d, _, k⟩ := h
  exact (k H' (bar_of s)).2.2
def spPutX (K : PySem.W.Frag) (C CB CN CE : Addr) : Sp := fun vs H Q E => ∃ (w d : Addr) (kvs : List (Key × V)) (x y : V), vs = [.ref w, x, y] ∧ WAt C H w d kvs ∧ Thing K H x ∧ kvs.length < 1000 ∧
  (nameB x = false → ∀ H' e, Same H H' → H e = none → H' e = some (.xd [("name", x)]) → E (.ref CN) (some e) H') ∧
  ((∃ b z, y = .ref b ∧ BoxAt CB H b z ∧ ∀ n, x = .str n → nameS n = true → ∀ H', Same H H' → Q .non (upd H' d (.dK (putK kvs (.inr n) (.ref b))))) ∨
    (NoBox K H y ∧ (nameB x = true → ∀ H' e, Same H H' → H e = none → H' e = some (.xd [("contents", y)]) → E (.ref CE) (some e) H')))
def spRaisedP (K : PySem.W.Frag) (C CB : Addr) : Sp := fun vs H Q _ => ∃ (w d : Addr) (kvs : List (Key × V)) (x y : V), vs = [.ref w, x, y] ∧ WAt C H w d kvs ∧ Thing K H x ∧ kvs.length < 1000 ∧
  (nameB x = false → ∀ H' l, Same H H' → H l = none → H' l = some (.lst [.str "name", x]) → Q (.ref l) H') ∧
  ((∃ b z, y = .ref b ∧ BoxAt CB H b z ∧ ∀ n, x = .str n → nameS n = true → ∀ H' l, Same H H' → H' l = none → l ≠ d → Q (.ref l) (upd (upd H' d (.dK (putK kvs (.inr n) (.ref b)))) l (.lst []))) ∨
    (NoBox K H y ∧ (nameB x = true → ∀ H' l, Same H H' → H l = none → H' l = some (.lst [.str "box", y]) → Q (.ref l) H')))
def spAny (K : PySem.W.Frag) : Sp := fun vs H Q _ => ∃ p q : Addr, vs = [.ref p] ∧ BagAt H p q ∧ ∀ H' x, Bar p H H' → BagAt H' p q → DatV K p H' x → Q x H'
def spLawName (K : PySem.W.Frag) : Sp := fun vs H Q _ => ∃ x : V, vs = [x] ∧ Thing K H x ∧ (∀ z, x = .str z → SmallS z) ∧ ∀ H', Same H H' → Q (.bl (nameB x)) H'
theorem nameB_str {x : V} (h : nameB x = true) : ∃ n, x = .str n ∧ nameS n = true := by
  cases x with
  | str n => exact ⟨n, rfl, h⟩
  | non => cases h
  | bl b => cases h
  | int i => cases h
  | byt b => cases h
  | flt b => cases h
  | ref a => cases h
  | ty n => cases h
/-! ### a world, and the same bindings in a dict -/
structure L10 (C CB p q w d bd : Addr) (ps : List (Str × Addr)) (H : Hp) : Prop where
  bag : BagAt H p q
  bnd : H bd = some (.dK (ps.map (kv V.ref)))
  wld : WAt C H w d (ps.map (kv V.ref))
  box : ∀ e ∈ ps, ∃ z, BoxAt CB H e.2 z
  nam : ∀ e ∈ ps, nameS e.1 = true
  n1 : d ≠ bd
section
variable {C CB p q w d bd : Addr} {ps : List (Str × Addr)} {H H' : Hp}
theorem L10.same (L : L10 C CB p q w d bd ps H) (s : Same H H') : L10 C CB p q w d bd ps H' := ⟨L.bag.same s, s _ _ L.bnd, L.wld.same s, fun e he => by
  obtain ⟨z, h⟩ := L.box e he
  exact ⟨z, h.same s⟩, L.nam, L.n1⟩
theorem L10.draw (L : L10 C CB p q w d bd ps H) (s : Bar p H H') (hB : BagAt H' p q) : L10 C CB p q w d bd ps H' := by
  obtain ⟨c, s', i, ns, hp, _⟩ := id L.bag
  have nb : bd ≠ p := ob_ne L.bnd hp (by intro e; cases e)
  obtain ⟨w1, w2⟩ := L.wld.bag L.bag
  exact ⟨hB, s _ _ nb L.bnd, L.wld.bar s w1 w2, fun e he => by
    obtain ⟨z, h⟩ := L.box e he
    exact ⟨z, h.bar s (h.bag L.bag)⟩, L.nam, L.n1⟩
theorem L10.put {n z : Str} {b : Addr} (L : L10 C CB p q w d bd ps H) (hn : nameS n = true) (hb : BoxAt CB H b z) (keep : ∀ c o, c ≠ bd → c ≠ d → H c = some o → H' c = some o)
    (h1 : H' bd = some (.dK (putK (ps.map (kv V.ref)) (.inr n) (.ref b)))) (h2 : H' d = some (.dK (putK (ps.map (kv V.ref)) (.inr n) (.ref b)))) : L10 C CB p q w d bd (putP ps n b) H' := by
  obtain ⟨c, s', i, ns, hp, hq, hr⟩ := id L.bag
  obtain ⟨⟨dw, hw⟩, hd⟩ := id L.wld
  have k2 : ∀ (a : Addr) (o : HO), (∀ kvs, o ≠ .dK kvs) → H a = some o → H' a = some o := fun a o ho ha => keep a o (ob_ne ha L.bnd (ho _)) (ob_ne ha hd (ho _)) ha
  have e : putK (ps.map (kv V.ref)) (.inr n) (.ref b) = (putP ps n b).map (kv V.ref) := put_kv V.ref ps n b
  rw [e] at h1 h2
  refine ⟨⟨c, s', i, ns, k2 p _ (fun _ z => by cases z) hp, k2 q _ (fun _ z => by cases z) hq, hr⟩, h1, ⟨⟨dw, k2 w _ (fun _ z => by cases z) hw⟩, h2⟩, fun e he => ?_, fun e he => ?_, L.n1⟩
  · rcases putP_mem he with rfl | he
    · obtain ⟨dx, h⟩ := hb
      exact ⟨z, dx, k2 _ _ (fun _ z => by cases z) h⟩
    · obtain ⟨z, dx, h⟩ := L.box e he
      exact ⟨z, dx, k2 _ _ (fun _ z => by cases z) h⟩
  · rcases putP_mem he with rfl | he
    · exact hn
    · exact L.nam e he
theorem L10.vals (L : L10 C CB p q w d bd ps H) : ∀ z v, valV (ps.map (kv V.ref)) (.inr z) = some v → ∃ a t, v = .ref a ∧ BoxAt CB H a t := fun z v h => by
  rw [get_kv] at h
  cases e : getP ps z with
  | none =>
    rw [e] at h
    cases h
  | some k =>
    rw [e] at h
    cases h
    obtain ⟨t, ht⟩ := L.box _ (getP_mem e)
    exact ⟨_, t, rfl, ht⟩
theorem getP_at {β : Type} {ps : List (Str × β)} {e : Str × β} (hm : e ∈ ps) : ∃ k, getP ps e.1 = some k := by
  unfold getP
  cases q : ps.find? fun p => decide (p.1 = e.1) with
  | none => exact absurd (decide_eq_true rfl) (List.find?_eq_none.mp q e hm)
  | some b => exact ⟨b.2, rfl⟩
theorem put_get {β : Type} (ps : List (Str × β)) (n : Str) (b : β) : getP (putP ps n b) n = some b := by
  have hm : (n, b) ∈ putP ps n b := by
    unfold putP
    split
    · rename_i h
      obtain ⟨x, hx, e⟩ := List.any_eq_true.mp h
      have e := of_decide_eq_true e
      refine List.mem_map.mpr ⟨x, hx, ?_⟩
      rw [if_pos e, e]
    · exact List.mem_append_right _ (List.mem_singleton.mpr rfl)
  obtain ⟨k, hk⟩ := getP_at hm
  have h2 := getP_mem hk
  have : ∀ x ∈ putP ps n b, x.1 = n → x.2 = b := fun x hx e => by
    unfold putP at hx
    split at hx
    · obtain ⟨y, hy, rfl⟩ := List.mem_map.mp hx
      split at e
      · rename_i h
        rw [if_pos h]
      · rename_i h
        exact absurd e h
    · rename_i h
      rcases List.mem_append.mp hx with hx | hx
      · exact absurd (List.any_eq_true.mpr ⟨x, hx, decide_eq_true e⟩) h
      · rw [List.mem_singleton.mp hx]
  rw [hk]
  exact congrArg some (this _ h2 rfl)
end
/-- two texts and a value, as data -/
theorem dats_two {K : PySem.W.Frag} {p l : Addr} {H : Hp} {x : V} {z : Str} (hz : SmallS z) (hx : DatV K p H x) (hl : H l = some (.lst [.str z, x])) : ∃ d, OkD d ∧ (∀ i, d ≠ .int i) ∧ ∀ H' m, Bar p H H' → H' m = some (.lst [.str z, x]) → Dp K H' (.ref m) d := by
  obtain ⟨_, dd, f, k⟩ := hx
  exact ⟨_, okd_two hz f, (fun i e => by cases e), fun H' m b hm => .lst (SqL.of hm) (.cons (.str z) (.cons (k H' b).1 .nil))⟩
end WB

set_option Elab.async false
set_option linter.all false
set_option maxRecDepth 100000
set_option maxHeartbeats 4000000
namespace WB
open PySem L2 PyProof.Rows
/-! ### the length of a range -/
section
variable {X : Cx}
theorem cr_range1 : CallR X (.type "range") (fun vs H Q => ∃ j, vs = [V.int j] ∧ ∀ p, H p = none → Q (.ref p) (upd H p (.rng 0 j))) := by
  intro pins s σ H vs us Q I r h
  obtain ⟨j, rfl, q⟩ := h
  obtain ⟨u1, rfl, rj⟩ := vals1 r
  obtain ⟨t, rfl⟩ := rj
  refine call_range_1 ?_
  refine ⟨.ref s.heap.objs.size, upd H s.heap.objs.size (.rng 0 j), I.laid (t' := s.toks + 1 + 1) (fun b o e => Heap.get?_push_of_some _ e) (Nat.le_refl _) ?_, rfl, q _ (I.hok.fresh (Nat.le_refl _))⟩
  exact ⟨_, _, _, Heap.get?_push_size _ rfl⟩
theorem call_lenRng : CallR X (.builtin "len") (fun xs H Q => ∃ (r : Addr) (i j : Int) (n : Nat), xs = [.ref r] ∧ H r = some (.rng i j) ∧ Builtin.Range.rangeSize i j 1 = n ∧ (n : Int) < 2 ^ 63 ∧ Q (.int n) H) := by
  intro pins s σ H xs us Q I r h
  obtain ⟨a, i, j, n, rfl, ha, hn, hf, q⟩ := h
  obtain ⟨u, rfl, ru⟩ := vals1 r
  cases ru
  obtain ⟨t, u, v, e⟩ := I.hok a _ ha
  exact call_len_range e hn hf ⟨.int n, H, I.tok _, ⟨_, rfl⟩, q⟩
end
/-! ### a class called by two keywords, or with its last parameter left out, within try -/
structure MakX2 (P : Program) (w : World) (K : PySem.W.Frag) (mg : Str → Option Value) (base : Heap) (k : Nat) (x : Str) (C : Addr) (sp : Sp) (k1 k2 : Str) : Prop where
  ex : ∃ (f : Addr) (fd : FuncData) (ps : List Str), Mk K C f ∧ FnOk P w K mg base (L2.CX P w) k f fd ps sp ∧ mg x = some (.ref C) ∧ KBn K fd ps 1 [k1, k2] (fun us ws => us ++ ws) (fun vs zs => vs ++ zs)
structure MakXD (P : Program) (w : World) (K : PySem.W.Frag) (mg : Str → Option Value) (base : Heap) (k : Nat) (x : Str) (C : Addr) (sp : Sp) (dv : V) : Prop where
  ex : ∃ (f : Addr) (fd : FuncData) (ps : List Str) (ds : List Value), Mk K C f ∧ FnOk P w K mg base (L2.CX P w) k f fd ps sp ∧ mg x = some (.ref C) ∧ Binds K fd ps ds ∧ Vals [dv] ds
def tMakeK2 (C : Addr) (sp : Sp) (E : L2.St → XK) (t1 t2 : TE) : TE := fun σ H Q => t1 σ H fun y H1 => t2 σ H1 fun z H2 => ∀ x dx, H2 x = none → H2 dx = none → dx ≠ x →
  sp [.ref x, y, z] (upd (upd H2 dx (.own x)) x (.ins C dx [])) (fun v H3 => v = .non ∧ Q (.ref x) H3) (E σ)
def tMakeD1 (C : Addr) (sp : Sp) (dv : V) (E : L2.St → XK) (t1 : TE) : TE := fun σ H Q => t1 σ H fun y H2 => ∀ x dx, H2 x = none → H2 dx = none → dx ≠ x →
  sp [.ref x, y, dv] (upd (upd H2 dx (.own x)) x (.ins C dx [])) (fun v H3 => v = .non ∧ Q (.ref x) H3) (E σ)
section
variable {X : Cx} {W : WX} {k j : Nat} {C : Addr} {x k1 k2 : Str} {sp : Sp} {p pos kp1 kp2 : Pos} {e1 e2 : Expr} {t1 t2 : TE}
theorem make_run {f : Addr} {fd : FuncData} {ps : List Str} {E : XK} {pins : List (Addr × Obj)} {σ : L2.St} {H : Hp} {s : Shared} {Q : VK} {us : List Value} {ks : List (Str × Value)} {us2 : List Value} {vs2 : List V} (M : Mk X.K C f) (F : FnOk X.prog X.w X.K X.mg X.base (L2.CX X.prog X.w) k f fd ps sp) (hr : Room (k + 1) X.A) (hx : PassesAt (L2.CX X.prog X.w) X σ E)
    (I : Inv X pins σ H s) (hb : ∀ s' : Shared, X.K.In s'.heap → BindsTo s' fd ⟨Value.ref (s.heap.objs.size + 1) :: us, ks⟩ (ps.zip (Value.ref (s.heap.objs.size + 1) :: us2))) (r : Vals vs2 us2)
    (q : ∀ x dx, H x = none → H dx = none → dx ≠ x → sp (.ref x :: vs2) (upd (upd H dx (.own x)) x (.ins C dx [])) (fun v H3 => v = .non ∧ Q (.ref x) H3) E) :
    wpAny (model X.prog X.w) X.A (call (.ref C) us ks) (EP X pins σ Q) X.xe s := by
  have q2 := q (s.heap.objs.size + 1) s.heap.objs.size (I.hok.fresh (Nat.le_succ _)) (I.hok.fresh (Nat.le_refl _)) (Nat.ne_of_lt (Nat.lt_succ_self _))
  have I2 := Inv.made (C := C) I
  have r2 : Vals (V.ref (s.heap.objs.size + 1) :: vs2) (Value.ref (s.heap.objs.size + 1) :: us2) := .cons rfl r
  refine wpAny_call (make_map (f := f) I.kIn M.makes M.init (beq_iff_eq.mp M.fn) (codeAny_mono (F.run _ X.stack _ _ ⟨Value.ref (s.heap.objs.size + 1) :: us, ks⟩ (Value.ref (s.heap.objs.size + 1) :: us2) _ _ E (hr.make C us ks) (I2.env0.make C us ks) (hb _ I2.kIn) r2 q2) fun y s' hq' => ?_))
  match y, hq' with
  | .error er, hq' => exact hx pins _ _ er s' I2 hq'
  | .ok (.ret u), hq' =>
    obtain ⟨v, H', I3, rv, ev, q3⟩ := I2.after hq'
    subst ev
    exact ⟨rv, ⟨V.ref (s.heap.objs.size + 1), H', I3, rfl, q3⟩⟩
theorem pe_mkK2 (c : MakX2 X.prog X.w X.K X.mg X.base k x C sp k1 k2) (tk : Takes X W) (hr : Room j X.A) (hk : k + 1 ≤ j) (hg : Gl X x) (ha : PE X e1 t1) (hb : PE X e2 t2)
    (hall : (backToKw pos (keywordEach [⟨some k1, e1, kp1⟩, ⟨some k2, e2, kp2⟩] X.env)).all (·.1.isSome) = true := by rfl) (hks : (backToKw pos (keywordEach [⟨some k1, e1, kp1⟩, ⟨some k2, e2, kp2⟩] X.env)).filterMap (·.1) = [k1, k2] := by rfl) (hdb : (x == ("__debug__" : Str)) = false := by decide)
    (hpl : ((backTo pos (starEach [] X.env)).any (·.1) || (backToKw pos (keywordEach [⟨some k1, e1, kp1⟩, ⟨some k2, e2, kp2⟩] X.env)).any (·.1.isNone)) = false := by rfl) :
    PE X (.Call (.Name x p) [] [⟨some k1, e1, kp1⟩, ⟨some k2, e2, kp2⟩] pos) (tMakeK2 C sp (WE W) t1 t2) := by
  obtain ⟨f, fd, ps, M, F, hm, kb⟩ := c.ex
  refine ⟨fun pins s σ H Q I h => ?_⟩
  refine wpAny_Call_Name_kw (ld_glob I hg hm ?_ hdb)
  refine PySem.W.callWith_KW0 (h₀ := X.base) I.ok.mod.kin M.kp hall ?_ hpl
  refine thn ((pk_cons ha (pk_cons hb pk_nil)).run pos pins s σ H (fun zs H2 => ∃ y z, zs = [y, z] ∧ ∀ x dx, H2 x = none → H2 dx = none → dx ≠ x →
    sp [.ref x, y, z] (upd (upd H2 dx (.own x)) x (.ins C dx [])) (fun v H3 => v = .non ∧ Q (.ref x) H3) (WE W σ)) I ?_) fun ws s2 ⟨zs, H2, I2, rz, y, z, ez, q2⟩ => ⟨I2.kIn, ?_⟩
  · have e : (fun v H1 => t2 σ H1 fun v2 H2 => tNil σ H2 fun vs H3 => ∃ y z, v :: v2 :: vs = [y, z] ∧ ∀ x dx, H3 x = none → H3 dx = none → dx ≠ x →
        sp [.ref x, y, z] (upd (upd H3 dx (.own x)) x (.ins C dx [])) (fun v H3 => v = .non ∧ Q (.ref x) H3) (WE W σ)) = fun (y : V) H2 => t2 σ H2 fun z H3 => ∀ x dx, H3 x = none → H3 dx = none → dx ≠ x →
        sp [.ref x, y, z] (upd (upd H3 dx (.own x)) x (.ins C dx [])) (fun v H3 => v = .non ∧ Q (.ref x) H3) (WE W σ) := by
      funext v H1
      refine congrArg _ (funext fun v2 => funext fun H2 => ?_)
      refine propext ⟨fun ⟨y, z, e, q⟩ => ?_, fun q => ⟨v, v2, rfl, q⟩⟩
      cases e
      exact q
    show t1 σ H (fun v H1 => t2 σ H1 fun v2 H2 => tNil σ H2 fun vs H3 => ∃ y z, v :: v2 :: vs = [y, z] ∧ ∀ x dx, H3 x = none → H3 dx = none → dx ≠ x →
        sp [.ref x, y, z] (upd (upd H3 dx (.own x)) x (.ins C dx [])) (fun v H3 => v = .non ∧ Q (.ref x) H3) (WE W σ))
    rw [e]
    exact h
  · subst ez
    rw [hks]
    exact make_run (us := []) (us2 := ws) (vs2 := [y, z]) M F (hr.mono hk) (passAt tk σ) I2 (fun s' X' => kb.to s' [.ref (s2.heap.objs.size + 1)] ws X' rfl rz.length.symm) rz q2
theorem pe_mkD1 {dv : V} (c : MakXD X.prog X.w X.K X.mg X.base k x C sp dv) (tk : Takes X W) (hr : Room j X.A) (hk : k + 1 ≤ j) (hg : Gl X x) (ha : PE X e1 t1)
    (hdb : (x == ("__debug__" : Str)) = false := by decide) (he : starEach [e1] X.env = (false, eval e1 X.env) :: starEach [] X.env := by rfl) (hpl : (backTo pos (starEach [] X.env)).any (·.1) = false := by rfl) :
    PE X (.Call (.Name x p) [e1] [] pos) (tMakeD1 C sp dv (WE W) t1) := by
  obtain ⟨f, fd, ps, ds, M, F, hm, b, rd⟩ := c.ex
  refine ⟨fun pins s σ H Q I h => ?_⟩
  refine wpAny_Call_Name_kw (ld_glob I hg hm ?_ hdb)
  refine PySem.W.callWith_K (h₀ := X.base) I.ok.mod.kin M.kp (thn ((pa_cons ha pa_nil he).run pos pins s σ H (fun vs H2 => ∃ y, vs = [y] ∧ ∀ x dx, H2 x = none → H2 dx = none → dx ≠ x →
    sp [.ref x, y, dv] (upd (upd H2 dx (.own x)) x (.ins C dx [])) (fun v H3 => v = .non ∧ Q (.ref x) H3) (WE W σ)) I ?_) fun us s1 ⟨vs, H1, I1, r, y, ey, q⟩ => ⟨I1.kIn, ?_⟩) he hpl
  · have e : (fun v H1 => tNil σ H1 fun vs H3 => ∃ y, v :: vs = [y] ∧ ∀ x dx, H3 x = none → H3 dx = none → dx ≠ x →
        sp [.ref x, y, dv] (upd (upd H3 dx (.own x)) x (.ins C dx [])) (fun v H3 => v = .non ∧ Q (.ref x) H3) (WE W σ)) = fun (y : V) H3 => ∀ x dx, H3 x = none → H3 dx = none → dx ≠ x →
        sp [.ref x, y, dv] (upd (upd H3 dx (.own x)) x (.ins C dx [])) (fun v H3 => v = .non ∧ Q (.ref x) H3) (WE W σ) := by
      funext v H1
      refine propext ⟨fun ⟨y, e, q⟩ => ?_, fun q => ⟨v, rfl, q⟩⟩
      cases e
      exact q
    show t1 σ H (fun v H1 => tNil σ H1 fun vs H3 => ∃ y, v :: vs = [y] ∧ ∀ x dx, H3 x = none → H3 dx = none → dx ≠ x →
        sp [.ref x, y, dv] (upd (upd H3 dx (.own x)) x (.ins C dx [])) (fun v H3 => v = .non ∧ Q (.ref x) H3) (WE W σ))
    rw [e]
    exact h
  · subst ey
    obtain ⟨u, rfl, ru⟩ := vals1 r
    obtain ⟨u2, rfl, rd2⟩ := vals1 rd
    refine make_run (us := [u]) (us2 := [u, u2]) (vs2 := [y, dv]) M F (hr.mono hk) (passAt tk σ) I1 (fun s' X' => ?_) (.cons ru (.cons rd2 .nil)) q
    exact b s' [.ref (s1.heap.objs.size + 1), u] X' (by
      have := F.len _ _ _ _ (q (s1.heap.objs.size + 1) s1.heap.objs.size (I1.hok.fresh (Nat.le_succ _)) (I1.hok.fresh (Nat.le_refl _)) (Nat.ne_of_lt (Nat.lt_succ_self _)))
      exact this)
end
end WB

set_option Elab.async false
set_option linter.all false
set_option maxRecDepth 100000
set_option maxHeartbeats 4000000
namespace WB
open PySem L2 PyProof.Rows
/-! ### numbers within bounds, among any values -/
def numB (lo hi : Int) : V → Bool
  | .int i => decide (lo ≤ i) && decide (i ≤ hi)
  | _ => false
def Num (K : PySem.W.Frag) (p : Addr) (H : Hp) (x : V) : Prop := (∃ i, x = .int i) ∨ ((∀ i, x ≠ .int i) ∧ ∀ H', Bar p H H' → ∃ t, TyX K H' x (.type t) ∧ (t = "bool" ∨ kitB t "int" = some false))
section
variable {K : PySem.W.Frag} {p : Addr} {H H' : Hp} {x : V}
theorem Num.bar (h : Num K p H x) (b : Bar p H H') : Num K p H' x := h.imp id fun ⟨n, k⟩ => ⟨n, fun H2 b2 => k H2 (b.trans b2)⟩
theorem Num.same (h : Num K p H x) (s : Same H H') : Num K p H' x := h.bar (bar_of s)
theorem num_int (i : Int) : Num K p H (.int i) := .inl ⟨i, rfl⟩
theorem num_non : Num K p H .non := .inr ⟨fun i e => (by cases e), fun _ _ => ⟨_, .base .non, .inr (by decide +kernel)⟩⟩
theorem num_bl (b : Bool) : Num K p H (.bl b) := .inr ⟨fun i e => (by cases e), fun _ _ => ⟨_, .base (.bl b), .inl rfl⟩⟩
theorem num_str (z : Str) : Num K p H (.str z) := .inr ⟨fun i e => (by cases e), fun _ _ => ⟨_, .base (.str z), .inr (by decide +kernel)⟩⟩
theorem num_list {l : Addr} {xs : List V} (n : l ≠ p) (e : H l = some (.lst xs)) : Num K p H (.ref l) := .inr ⟨fun i e => (by cases e), fun _ b => ⟨_, .base (.lst (b _ _ n e)), .inr (by decide +kernel)⟩⟩
theorem num_tuple {l : Addr} {xs : List V} (n : l ≠ p) (e : H l = some (.tup xs)) : Num K p H (.ref l) := .inr ⟨fun i e => (by cases e), fun _ b => ⟨_, .base (.tup (b _ _ n e)), .inr (by decide +kernel)⟩⟩
theorem numB_int {lo hi : Int} (h : numB lo hi x = true) : ∃ i, x = .int i ∧ lo ≤ i ∧ i ≤ hi := by
  cases x with
  | int i =>
    have h : (decide (lo ≤ i) && decide (i ≤ hi)) = true := h
    rw [Bool.and_eq_true] at h
    exact ⟨i, rfl, of_decide_eq_true h.1, of_decide_eq_true h.2⟩
  | str n => cases h
  | non => cases h
  | bl b => cases h
  | byt b => cases h
  | flt b => cases h
  | ref a => cases h
  | ty n => cases h
theorem numB_not {lo hi : Int} (h : ∀ i, x ≠ .int i) : numB lo hi x = false := by
  cases x with
  | int i => exact absurd rfl (h i)
  | _ => rfl
end
def spWhole (K : PySem.W.Frag) : Sp := fun vs H Q _ => ∃ (x : V) (lo hi : Int) (p : Addr), vs = [x, .int lo, .int hi] ∧ Num K p H x ∧ Q (.bl (numB lo hi x)) H
def spPower : Sp := fun vs H Q _ => ∃ b e : Int, vs = [.int b, .int e] ∧ 0 ≤ b ∧ b ≤ 9 ∧ -1 ≤ e ∧ e ≤ 12 ∧ Q (.int (b ^ e.toNat)) H
/-! ### cuts and dealings -/
structure FldC (K : PySem.W.Frag) (C : Addr) (fs : List Str) : Prop where
  cl : Cls K C
  no : ∀ f ∈ fs, NoAttr K C f
def cutF (x y : V) (m : Int) : List (Str × V) := [("whole", x), ("chunk", y), ("many", .int m)]
def dealF (x y : V) (m : Int) : List (Str × V) := [("chunks", x), ("workers", y), ("many", .int m)]
def cnt (x y : V) : Int := match x with
  | .int i => if y = .non then 2 ^ (i - 1).toNat else 1
  | _ => 0
def prod (x y : V) : Int := match x, y with
  | .int i, .int j => j ^ i.toNat
  | _, _ => 0
def spInitC (K : PySem.W.Frag) (C CE : Addr) : Sp := fun vs H Q E => ∃ (a dx p : Addr) (x y : V), vs = [.ref a, x, y] ∧ H a = some (.ins C dx []) ∧ Num K p H x ∧ Num K p H y ∧
  (numB 0 12 x = false → ∀ H' e, Same H H' → H e = none → H' e = some (.xd [("what", .str "count")]) → E (.ref CE) (some e) H') ∧
  (numB 0 12 x = true → y ≠ .non → numB 1 9 y = false → ∀ H' e, Same H H' → H e = none → H' e = some (.xd [("what", .str "chunk")]) → E (.ref CE) (some e) H') ∧
  (numB 0 12 x = true → (y = .non ∨ numB 1 9 y = true) → Q .non (upd H a (.ins C dx (cutF x y (cnt x y)))))
def spInitDl (K : PySem.W.Frag) (C CE CT : Addr) : Sp := fun vs H Q E => ∃ (a dx p : Addr) (x y : V), vs = [.ref a, x, y] ∧ H a = some (.ins C dx []) ∧ Num K p H x ∧ Num K p H y ∧
  (numB 0 12 x = false → ∀ H' e, Same H H' → H e = none → H' e = some (.xd [("what", .str "chunks")]) → E (.ref CE) (some e) H') ∧
  (numB 0 12 x = true → numB 1 9 y = false → ∀ H' e, Same H H' → H e = none → H' e = some (.xd [("what", .str "workers")]) → E (.ref CE) (some e) H') ∧
  (numB 0 12 x = true → numB 1 9 y = true → (prod x y > 5000 → ∀ H' e, Bar a H H' → H e = none → H' e = some (.xd [("what", .str "dealings")]) → E (.ref CT) (some e) H') ∧
    (¬ prod x y > 5000 → Q .non (upd H a (.ins C dx (dealF x y (prod x y))))))
def spLenM (C : Addr) : Sp := fun vs H Q _ => ∃ (a dx : Addr) (fs : List (Str × V)) (m : Nat), vs = [.ref a] ∧ H a = some (.ins C dx fs) ∧ fs.lookup ("many" : Str) = some (V.int m) ∧ m ≤ 5000 ∧ ∀ H', Same H H' → Q (.int m) H'
/-! ### what is told of them -/
def Ans (H : Hp) (r : List Str ⊕ Nat) (v : V) : Prop := match r with
  | .inl ws => ∃ l, v = .ref l ∧ H l = some (.lst (ws.map V.str))
  | .inr m => v = .int m
def dueC (x y : V) (lo : Bool) : List Str ⊕ Nat := if numB 0 12 x = true then (if lo = true then .inr (cnt x .non).toNat else if y = .non then .inr (cnt x .non).toNat else if numB 1 9 y = true then .inr 1 else .inl ["chunk"]) else .inl ["count"]
def dueD (x y : V) : List Str ⊕ Nat := if numB 0 12 x = true then (if numB 1 9 y = true then (if prod x y > 5000 then .inl ["dealings", "many"] else .inr (prod x y).toNat) else .inl ["workers"]) else .inl ["chunks"]
def spLawCuts (K : PySem.W.Frag) : Sp := fun vs H Q _ => ∃ (x y : V) (lo : Bool) (p : Addr), vs = [x, y, .bl lo] ∧ H p ≠ none ∧ Num K p H x ∧ Num K p H y ∧ ∀ H' v, Same H H' → Ans H' (dueC x y lo) v → Q v H'
def spLawDeal (K : PySem.W.Frag) : Sp := fun vs H Q _ => ∃ (x y : V) (p : Addr), vs = [x, y] ∧ H p ≠ none ∧ Num K p H x ∧ Num K p H y ∧ ∀ H' v, Same H H' → Ans H' (dueD x y) v → Q v H'
def spThingN (K : PySem.W.Frag) : Sp := fun vs H Q _ => ∃ (p q : Addr) (m : Int), vs = [.ref p, .int m] ∧ BagAt H p q ∧ 0 ≤ m ∧ m ≤ 12 ∧ ∀ H' x, Bar p H H' → BagAt H' p q → Num K p H' x → Q x H'
theorem pow_le9 {b : Int} (h0 : 0 ≤ b) (h : b ≤ 9) : ∀ n : Nat, 0 ≤ b ^ n ∧ b ^ n ≤ 9 ^ n
  | 0 => by simp
  | n + 1 => by
    obtain ⟨i1, i2⟩ := pow_le9 h0 h n
    rw [Int.pow_succ, Int.pow_succ]
    exact ⟨Int.mul_nonneg i1 h0, Int.mul_le_mul i2 h h0 (Int.le_trans i1 i2)⟩
theorem cnt_le {x y : V} (h : numB 0 12 x = true) : 0 ≤ cnt x y ∧ cnt x y ≤ 5000 := by
  obtain ⟨i, rfl, h0, h12⟩ := numB_int h
  show 0 ≤ (if y = .non then (2 : Int) ^ (i - 1).toNat else 1) ∧ (if y = .non then (2 : Int) ^ (i - 1).toNat else 1) ≤ 5000
  obtain ⟨n, hn⟩ : ∃ n, n = (i - 1).toNat := ⟨_, rfl⟩
  have : n ≤ 11 := by omega
  rw [← hn]
  split
  · revert this
    clear hn
    have : ∀ n : Nat, n < 12 → (0 : Int) ≤ 2 ^ n ∧ (2 : Int) ^ n ≤ 5000 := by decide +kernel
    intro h
    exact this n (by omega)
  · decide
theorem prod_ge {x y : V} (hy : numB 1 9 y = true) : 0 ≤ prod x y := by
  obtain ⟨j, rfl, h0, h9⟩ := numB_int hy
  cases x with
  | int i => exact (pow_le9 (by omega) h9 _).1
  | _ => exact Int.le_refl _
end WB

set_option Elab.async false
set_option linter.all false
set_option maxRecDepth 100000
set_option maxHeartbeats 4000000
namespace WB
open PySem L2 PyProof.Rows
/-! ### own errors as values -/
def tMkV (C : Addr) (sp : Sp) (ta : TA) : TE := fun σ H Q => ta σ H fun vs H1 => vs.length ≤ 10 ∧ ∀ a, H1 a = none → sp (.ref a :: vs) (upd H1 a (exo a C none)) (fun v H2 => v = .non ∧ Q (.ref a) H2) (fun _ _ _ => False)
section
variable {X : Cx} {e : Expr} {es : List Expr} {ta : TA} {te : TE} {p pos : Pos} {B newId initId : String} {bmB : List Value} {f : Str}
/-- C(e, ..), kept -/
theorem pe_excV {CX : CXT} {x : Str} {C fI : Addr} {k : Nat} {fd : FuncData} {ps : List Str} {sp : Sp} (T : OexB X.K C B newId initId bmB) (iC : PySem.W.findIn X.K (.ref C) "__init__" = some (some (.ref fI))) (tI : PySem.W.typeIn X.K (.ref fI) = some (.type "function"))
    (F1 : FnOk X.prog X.w X.K X.mg X.base CX k fI fd ps sp) (hr : Room (k + 1) X.A) (hb : Binds X.K fd ps []) (hx : Passes CX X (fun _ _ _ => False)) (hg : Gl X x) (hm : X.mg x = some (.ref C)) (ha : PA X (e :: es) ta)
    (hdb : (x == ("__debug__" : Str)) = false := by decide) (he : starEach (e :: es) X.env = (false, eval e X.env) :: starEach es X.env := by rfl) (hpl : (backTo pos (starEach es X.env)).any (·.1) = false := by rfl) :
    PE X (.Call (.Name x p) (e :: es) [] pos) (tMkV C sp ta) := by
  refine ⟨fun pins s σ H Q I h => ?_⟩
  obtain ⟨nm, q, N, bs, bm, sn, sub, ab, col, dd, k0, k1, k2, k3, k5, hC, hbm⟩ := T.cls
  refine wpAny_Call_Name_kw (ld_glob I hg hm ?_ hdb)
  refine PySem.W.callWith_K (h₀ := X.base) I.ok.mod.kin T.kC (thn (ha.run pos pins s σ H _ I h) fun us s1 z => ?_) he hpl
  obtain ⟨vs, H1, I1, r1, hz, q1⟩ := z
  refine ⟨I1.kIn, ?_⟩
  obtain ⟨hp, g, dr, tk, os⟩ := s1
  have fresh : H1 (hp.objs.size + 1) = none := I1.hok.fresh (Nat.le_succ _)
  have hq := q1 (hp.objs.size + 1) fresh
  have up : ∀ b o, hp.get? b = some o → ((hp.push (PySem.W.kdv_tup us)).push (PySem.HandSPX.excO C hp.objs.size)).get? b = some o := fun b o z => Heap.get?_push_of_some _ (Heap.get?_push_of_some _ z)
  have made : ((hp.push (PySem.W.kdv_tup us)).push (PySem.HandSPX.excO C hp.objs.size)).get? (hp.objs.size + 1) = some (PySem.HandSPX.excO C hp.objs.size) := by heap_get
  have I2 := I1.laid (t' := tk) (a := hp.objs.size + 1) (o := exo (hp.objs.size + 1) C none) up (Nat.le_succ _) (exo_ok made)
  have r2 : Vals (V.ref (hp.objs.size + 1) :: vs) (Value.ref (hp.objs.size + 1) :: us) := .cons rfl r1
  have hl : (Value.ref (hp.objs.size + 1) :: us ++ []).length = ps.length := by
    rw [List.append_nil]
    exact r2.length.symm.trans (F1.len _ _ _ _ hq)
  have hb2 := hb _ (Value.ref (hp.objs.size + 1) :: us) I2.kIn hl
  rw [List.append_nil] at hb2
  have hus : us.length ≤ sizeLine := by
    rw [← Paired.length r1]
    exact Nat.le_trans hz (by decide)
  refine wpAny_call (PySem.HandSPX.call_own T.fb (fun Y => PySem.W.excTail_contains Y bm hbm) (I1.kIn _ _ hC) (PySem.W.looks_findIn I1.kIn iC) (fun self => PySem.W.bind_fn I1.kIn self tI) hus
    (codeAny_mono (F1.run _ X.stack _ _ ⟨Value.ref (hp.objs.size + 1) :: us, []⟩ (Value.ref (hp.objs.size + 1) :: us) _ _ (fun _ _ _ => False) (hr.make C us []) (I2.env0.make C us []) hb2 r2 hq) fun r s' z => ?_))
  match r, z with
  | .error er, z => exact hx pins σ _ _ er s' I2 z
  | .ok (.ret u), z =>
    obtain ⟨v, H2, I3, rv, ev, q2⟩ := I2.after z
    subst ev
    exact ⟨rv, ⟨.ref (hp.objs.size + 1), H2, I3, rfl, q2⟩⟩
/-- e.f of such a value -/
def tEf (K : PySem.W.Frag) (f : Str) (te : TE) : TE := fun σ H Q => te σ H fun x H1 => ∃ (a C d : Addr) (fs : List (Str × V)) (v : V), x = .ref a ∧ H1 a = some (exo a C (some d)) ∧ H1 d = some (exd d fs) ∧ XfC K C ∧ PySem.W.findIn K (.ref C) f = some none ∧ fs.lookup f = some v ∧ Q v H1
theorem pe_ef (he : PE X e te) (hb : attributeBase e f X.env (eval e X.env) = eval e X.env := by rfl) : PE X (.Attribute e f pos) (tEf X.K f te) := by
  refine ⟨fun pins s σ H Q I h => ?_⟩
  refine attr_of hb (thn (he.run pins s σ H _ I h) fun u s1 ⟨x, H1, I1, rx, a, C, d, fs, v, ex, ea, ed, T, hno, l, q⟩ => ?_)
  subst ex
  obtain rfl : u = Value.ref a := rx
  obtain ⟨t1, ho⟩ := exo_at I1.hok ea
  obtain ⟨mA, hns, hr⟩ := exd_at I1.hok ed
  obtain ⟨od, hod, hl⟩ := lookIn_ns hns
  obtain ⟨u2, hu, ru⟩ := RelO.some_of (v := v) (o := mA f) (by rw [← l]; exact hr f)
  have J : PySem.W.InstAt s1.heap a _ C (some od) := ⟨ho, rfl, rfl, hod⟩
  exact HandSPX.exc_get I1.kIn J T.ga T.gg T.exC (PySem.W.findObj_own T.hdC hno rfl (by rw [hl, hu])) (handed_of ru) ⟨v, H1, I1.tok _, ru, q⟩
/-- isinstance(e, c), e such a value -/
def rIsV (K : PySem.W.Frag) : List V → Hp → VK → Prop := fun xs H Q => ∃ (a C : Addr) (d : Addr) (fs : List (Str × V)) (c : V) (cv : Value) (b : Bool), xs = [.ref a, c] ∧ H a = some (exo a C (some d)) ∧ H d = some (exd d fs) ∧ ExcC K C ∧ (PySem.W.clsIn K C).isSome = true ∧ (∀ u, RelV c u → u = cv) ∧ PySem.W.kitOne K (.ref C) cv = some b ∧ Q (.bl b) H
theorem call_isV : CallR X (.builtin "isinstance") (rIsV X.K) := by
  intro pins s σ H xs us Q I r h
  obtain ⟨a, C, d, fs, c, cv, b, rfl, ea, ed, T, hcl, hcv, e, q⟩ := h
  obtain ⟨u1, u2, rfl, r1, r2⟩ := vals2 r
  cases r1
  obtain rfl := hcv _ r2
  obtain ⟨t1, ho⟩ := exo_at I.hok ea
  obtain ⟨mA, hns, hr⟩ := exd_at I.hok ed
  obtain ⟨od, hod, hl⟩ := lookIn_ns hns
  have J : PySem.W.InstAt s.heap a _ C (some od) := ⟨ho, rfl, rfl, hod⟩
  exact PySem.W.kia_one (PySem.W.kitx_exc hcl T.hg T.hk T.hs T.ha T.hn T.ht T.hm) I.kIn J e (fun z => nomatch z) fun tk => ⟨.bl b, H, I.tok _, rfl, q⟩
end
end WB

set_option Elab.async false
set_option linter.all false
set_option maxRecDepth 100000
set_option maxHeartbeats 4000000
namespace WB
open PySem
/-! ### own errors by one keyword -/
section
variable {prog : Program} {w : World} {A : Around} {E : Value → Shared → Prop} {R : Result → Shared → Prop} {hp : Heap} {gs : Array GenState} {dw : Drawn} {tk : Nat} {os : OsState}
variable {nm qn : Str} {C N : Addr} {bs bm bmB : List Value} {hdct : Bool} {sn : List Str} {sub : List Value} {ab : Bool} {col : Option Bool} {dd : Option Addr} {k0 k1 k2 k3 k5 : Option Value} {B newId initId : String} {kw : List (Str × Value)}
theorem kwe_check (F : ExcBaseFacts B newId initId bmB) (hT : ∀ X : String, bm.contains (.type X) = bmB.contains (.type X)) {Q : Unit → Shared → Prop} (hC : hp.get? C = some (excClassObj nm qn C N bs bm hdct sn sub ab col dd k0 k1 k2 k3 k5 newId)) (hq : Q () ⟨hp, gs, dw, tk, os⟩) :
    wpAny (model prog w) A (checkBuiltinCall newId ⟨[.ref C], kw⟩) Q E ⟨hp, gs, dw, tk, os⟩ := by
  have inB : (Value.ref C :: bm).contains (.type B) = true := by
    rw [List.contains_cons, hT, F.hasB, Bool.or_true]
  have star := F.noStar
  simp only [checkBuiltinCall, F.newKind, F.newSplit, F.newRow]
  repeat (first | refine wpAny_loadPart_at hC ?_ | (refine wpAny_isSubtype_exc hC ?_; (rw [inB])) | refine wpAny_staticBase_exc hC ?_ | refine wpAny_madeBy_exc hC ?_ | simp only [bne_self_eq_false, Bool.false_eq_true, if_false] | wp_step)
  all_goals exact hq
theorem kwe_new (F : ExcBaseFacts B newId initId bmB) (hT : ∀ X : String, bm.contains (.type X) = bmB.contains (.type X)) (hC : hp.get? C = some (excClassObj nm qn C N bs bm hdct sn sub ab col dd k0 k1 k2 k3 k5 newId))
    (hq : R (.ok (.ret (.ref (hp.objs.size + 1)))) ⟨(hp.push (PySem.W.kdv_tup [])).push (PySem.HandSPX.excO C hp.objs.size), gs, dw, tk, os⟩) : codeAny (model prog w) A (.builtin newId ⟨[.ref C], kw⟩) R ⟨hp, gs, dw, tk, os⟩ := by
  have ends := F.ends
  have inB : (Value.ref C :: bm).contains (.type B) = true := by
    rw [List.contains_cons, hT, F.hasB, Bool.or_true]
  have inA : (Value.ref C :: bm).contains (.type "AttributeError") = false := by
    rw [List.contains_cons, hT, F.noAttr] <;> rfl
  have inN : (Value.ref C :: bm).contains (.type "NameError") = false := by
    rw [List.contains_cons, hT, F.noName] <;> rfl
  refine codeAny_builtinAt F.entry ?_
  unfold Builtin.«BaseException.__new__»
  refine wpAt_bind ?_
  show wpAt _ _ _ (stack >>= _) _ _ _
  refine wpAt_bind (wpAt_stack fun p below => wpAt_of_wpAny ?_)
  wp_walk
  refine wpAt_of_wpAny ?_
  rw [F.owner]
  repeat (first | with_reducible refine wpAny_madeHere_exc F.canon hC ?_ | with_reducible refine wpAny_loadPart_at hC ?_ | (with_reducible refine wpAny_isSubtype_exc hC ?_; (first | rw [inB] | rw [inA] | rw [inN])) | wp_step)
  show R _ _
  rw [Heap.size_push]
  exact hq
theorem kwe_type (F : ExcBaseFacts B newId initId bmB) (hT : ∀ X : String, bm.contains (.type X) = bmB.contains (.type X)) {fI : Addr} {Q : Fin → Shared → Prop} (hC : hp.get? C = some (excClassObj nm qn C N bs bm hdct sn sub ab col dd k0 k1 k2 k3 k5 newId))
    (hi : PySem.W.Looks (model prog w) hp (typeLookup (.ref C) "__init__") (some (.ref fI))) (hb : ∀ self, PySem.W.Looks (model prog w) hp (bindSpecial (.ref fI) self) (.ref fI, [self]))
    (hq : codeAny (model prog w) A (.call (.ref fI) ⟨[.ref (hp.objs.size + 1)], kw⟩) (fun r s' => match r with | .ok (.ret v) => v = .none ∧ Q (.done (.ret (.ref (hp.objs.size + 1)))) s' | .ok _ => False | .error e => E e s')
      ⟨(hp.push (PySem.W.kdv_tup [])).push (PySem.HandSPX.excO C hp.objs.size), gs, dw, tk, os⟩) : wpAny (model prog w) A (Builtin.«type.__call__» ⟨[.ref C], kw⟩) Q E ⟨hp, gs, dw, tk, os⟩ := by
  repeat (first | with_reducible refine wpAny_loadPart_at hC ?_ | with_reducible refine wpAny_madeBy_exc hC ?_ | wp_step)
  refine codeAny_call_builtin_code (Code.quiet_builtin _ F.quiet) (kwe_check F hT hC ?_)
  refine kwe_new F hT hC ?_
  show wpAny _ _ _ _ _ _
  have up : ∀ b o, hp.get? b = some o → ((hp.push (PySem.W.kdv_tup [])).push (PySem.HandSPX.excO C hp.objs.size)).get? b = some o := fun b o z => Heap.get?_push_of_some _ (Heap.get?_push_of_some _ z)
  have hC1 := up _ _ hC
  have here : ((hp.push (PySem.W.kdv_tup [])).push (PySem.HandSPX.excO C hp.objs.size)).get? (hp.objs.size + 1) = some (PySem.HandSPX.excO C hp.objs.size) := by heap_get
  have inC : (Value.ref C :: bm).contains (.ref C) = true := by simp
  have i1 := hi.keeps up
  have b1 := (hb (.ref (hp.objs.size + 1))).keeps up
  unfold isInstance
  repeat (first | with_reducible refine wpAny_loadPart_at here ?_ | (with_reducible refine wpAny_isSubtype_exc hC1 ?_; (rw [inC])) | wp_step)
  show wpAny _ _ (typeLookup (.ref C) _) _ _ _
  refine i1.at ?_
  refine wpAny_holding (wpAny_bind (b1.at ?_))
  refine wpAny_bind (wpAny_call (codeAny_mono hq fun r s' z => ?_))
  rcases r with e | (v | _ | _ | _) <;> first | exact z | exact z.elim | skip
  obtain ⟨rfl, z⟩ := z
  first
    | exact wpAny_pure (wpAny_pure z)
    | (wp_walk; (exact z))
theorem kwe_call (F : ExcBaseFacts B newId initId bmB) (hT : ∀ X : String, bm.contains (.type X) = bmB.contains (.type X)) {fI : Addr} (hC : hp.get? C = some (excClassObj nm qn C N bs bm hdct sn sub ab col dd k0 k1 k2 k3 k5 newId))
    (hi : PySem.W.Looks (model prog w) hp (typeLookup (.ref C) "__init__") (some (.ref fI))) (hb : ∀ self, PySem.W.Looks (model prog w) hp (bindSpecial (.ref fI) self) (.ref fI, [self]))
    (hq : codeAny (model prog w) (A.under (.builtin "type.__call__" ⟨[.ref C], kw⟩)) (.call (.ref fI) ⟨[.ref (hp.objs.size + 1)], kw⟩) (PySem.W.InitBack (hp.objs.size + 1) R) ⟨(hp.push (PySem.W.kdv_tup [])).push (PySem.HandSPX.excO C hp.objs.size), gs, dw, tk, os⟩) :
    codeAny (model prog w) A (.call (.ref C) ⟨[], kw⟩) R ⟨hp, gs, dw, tk, os⟩ := by
  have t1 := tc_lookup
  have t2 := tc_bind (.ref C)
  have hTy : (⟨hp, gs, dw, tk, os⟩ : Shared).TypeIs (.ref C) "type" := ⟨_, hC, rfl⟩
  refine codeAny_of_tree ?_
  show wpAny _ _ (callAny (.ref C) _) _ _ _
  repeat (any_goals (first | assumption | with_reducible refine wpAny_loadPart_at hC ?_ | wp_step))
  refine ⟨rfl, ?_⟩
  refine codeAny_call_builtin_at (Code.quiet_builtin _ (by decide +kernel)) entry_typeCall (wpAny_check_type_call_sub hC (kwe_type F hT hC hi hb ?_))
  refine codeAny_mono hq fun r s' z => ?_
  rcases r with e | (v | _ | _ | _) <;> exact z
end
end WB
namespace WB
open PySem L2 PyProof.Rows
/-! ### own errors: their fields -/
def ErrAt (H : Hp) (a C : Addr) (kv : List (Str × V)) : Prop := ∃ d l, H a = some (exo a C (some d)) ∧ H d = some (exd d l) ∧ ∀ f v, (f, v) ∈ kv → l.lookup f = some v
def ErrW (H : Hp) (a C : Addr) : Prop := H a = some (exo a C none) ∨ ∃ d l, H a = some (exo a C (some d)) ∧ H d = some (exd d l)
theorem ErrAt.same {H H' : Hp} {a C : Addr} {kv : List (Str × V)} (h : ErrAt H a C kv) (s : Same H H') : ErrAt H' a C kv := by
  obtain ⟨d, l, h1, h2, h3⟩ := h
  exact ⟨d, l, s _ _ h1, s _ _ h2, h3⟩
theorem ErrW.same {H H' : Hp} {a C : Addr} (h : ErrW H a C) (s : Same H H') : ErrW H' a C := h.imp (s _ _) fun ⟨d, l, h1, h2⟩ => ⟨d, l, s _ _ h1, s _ _ h2⟩
theorem ErrAt.w {H : Hp} {a C : Addr} {kv : List (Str × V)} (h : ErrAt H a C kv) : ErrW H a C := by
  obtain ⟨d, l, h1, h2, _⟩ := h
  exact .inr ⟨d, l, h1, h2⟩
def spF (C : Addr) (fs : List Str) : Sp := fun vs H Q _ => ∃ (a : Addr) (ys : List V), vs = .ref a :: ys ∧ ys.length = fs.length ∧ H a = some (exo a C none) ∧ ∀ H', Bar a H H' → ErrAt H' a C (fs.zip ys) → Q .non H'
theorem mkF {C a : Addr} {fs : List Str} {ys : List V} {H1 : Hp} {Q : VK} {E : XK} (hl : ys.length = fs.length) (na : H1 a = none) (k : ∀ H2, Same H1 H2 → ErrAt H2 a C (fs.zip ys) → Q (.ref a) H2) :
    spF C fs (.ref a :: ys) (upd H1 a (exo a C none)) (fun v H2 => v = .non ∧ Q (.ref a) H2) E :=
  ⟨a, ys, rfl, hl, upd_same, fun H' b e => ⟨rfl, k H' (fun c u z => by
    have n := ne_of_none z na
    exact b c u n (by rw [upd_ne n]; exact z)) e⟩⟩
structure ErX (P : Program) (w : World) (K : PySem.W.Frag) (mg : Str → Option Value) (base : Heap) (C : Addr) (x : Str) (fs ps : List Str) : Prop where
  ox : ∃ B newId initId bmB, OexB K C B newId initId bmB
  xf : XfC K C
  no : ∀ f ∈ fs, PySem.W.findIn K (.ref C) f = some none
  g : mg x = some (.ref C)
  ini : ∃ (g : Addr) (fd : FuncData), PySem.W.findIn K (.ref C) "__init__" = some (some (.ref g)) ∧ PySem.W.typeIn K (.ref g) = some (.type "function") ∧ FnOk P w K mg base C8.CX0 1 g fd ("self" :: ps) (spF C fs) ∧ Binds K fd ("self" :: ps) [] ∧ (∀ p, ps = [p] → KBn K fd ("self" :: ps) 1 [p] (fun us ws => us ++ ws) (fun vs zs => vs ++ zs))
def tMkVK (C : Addr) (sp : Sp) (te : TE) : TE := fun σ H Q => te σ H fun y H1 => ∀ a, H1 a = none → sp [.ref a, y] (upd H1 a (exo a C none)) (fun v H2 => v = .non ∧ Q (.ref a) H2) (fun _ _ _ => False)
section
variable {X : Cx} {e : Expr} {es : List Expr} {ta : TA} {te : TE} {p pos kpos : Pos} {j : Nat} {C : Addr} {x kn : Str} {fs ps : List Str}
theorem pe_erx (c : ErX X.prog X.w X.K X.mg X.base C x fs ps) (hr : Room j X.A) (hk : 2 ≤ j) (hg : Gl X x) (ha : PA X (e :: es) ta)
    (hdb : (x == ("__debug__" : Str)) = false := by decide) (he : starEach (e :: es) X.env = (false, eval e X.env) :: starEach es X.env := by rfl) (hpl : (backTo pos (starEach es X.env)).any (·.1) = false := by rfl) :
    PE X (.Call (.Name x p) (e :: es) [] pos) (tMkV C (spF C fs) ta) := by
  obtain ⟨g, fd, h1, h2, F, b, _⟩ := c.ini
  obtain ⟨_, _, _, _, T⟩ := c.ox
  exact pe_excV T h1 h2 F (hr.mono hk) b (fun _ _ _ _ _ _ _ z => z.elim) hg c.g ha hdb he hpl
theorem pe_erxK (c : ErX X.prog X.w X.K X.mg X.base C x fs [kn]) (hr : Room j X.A) (hk : 2 ≤ j) (hg : Gl X x) (ha : PE X e te)
    (hdb : (x == ("__debug__" : Str)) = false := by decide) (hall : (backToKw pos (keywordEach [⟨some kn, e, kpos⟩] X.env)).all (·.1.isSome) = true := by rfl) (hks : (backToKw pos (keywordEach [⟨some kn, e, kpos⟩] X.env)).filterMap (·.1) = [kn] := by rfl)
    (hpl : ((backTo pos (starEach [] X.env)).any (·.1) || (backToKw pos (keywordEach [⟨some kn, e, kpos⟩] X.env)).any (·.1.isNone)) = false := by rfl) :
    PE X (.Call (.Name x p) [] [⟨some kn, e, kpos⟩] pos) (tMkVK C (spF C fs) te) := by
  obtain ⟨gi, fd, iC, tI, F1, _, kb⟩ := c.ini
  obtain ⟨B, newId, initId, bmB, T⟩ := c.ox
  have hb := kb kn rfl
  refine ⟨fun pins s σ H Q I h => ?_⟩
  obtain ⟨nm, q, N, bs, bm, sn, sub, ab, col, dd, k0, k1, k2, k3, k5, hC, hbm⟩ := T.cls
  refine wpAny_Call_Name_kw (ld_glob I hg c.g ?_ hdb)
  refine PySem.W.callWith_KW0 (h₀ := X.base) I.ok.mod.kin T.kC hall ?_ hpl
  refine thn ((pk_cons ha pk_nil).run pos pins s σ H (fun zs H1 => ∃ y, zs = [y] ∧ ∀ a, H1 a = none → spF C fs [.ref a, y] (upd H1 a (exo a C none)) (fun v H2 => v = .non ∧ Q (.ref a) H2) (fun _ _ _ => False)) I ?_) fun ws s1 ⟨zs, H1, I1, rz, y, ez, q1⟩ => ⟨I1.kIn, ?_⟩
  · have e1 : (fun v H1 => tNil σ H1 fun vs H2 => ∃ y, v :: vs = [y] ∧ ∀ a, H2 a = none → spF C fs [.ref a, y] (upd H2 a (exo a C none)) (fun v H2 => v = .non ∧ Q (.ref a) H2) (fun _ _ _ => False)) =
        fun (y : V) H2 => ∀ a, H2 a = none → spF C fs [.ref a, y] (upd H2 a (exo a C none)) (fun v H2 => v = .non ∧ Q (.ref a) H2) (fun _ _ _ => False) := by
      funext v H1
      refine propext ⟨fun ⟨x, e, q⟩ => ?_, fun q => ⟨v, rfl, q⟩⟩
      cases e
      exact q
    show te σ H (fun v H1 => tNil σ H1 fun vs H2 => ∃ y, v :: vs = [y] ∧ ∀ a, H2 a = none → spF C fs [.ref a, y] (upd H2 a (exo a C none)) (fun v H2 => v = .non ∧ Q (.ref a) H2) (fun _ _ _ => False))
    rw [e1]
    exact h
  subst ez
  rw [hks]
  obtain ⟨hp, g, dr, tk, os⟩ := s1
  have fresh : H1 (hp.objs.size + 1) = none := I1.hok.fresh (Nat.le_succ _)
  have hq := q1 (hp.objs.size + 1) fresh
  have up : ∀ b o, hp.get? b = some o → ((hp.push (PySem.W.kdv_tup [])).push (PySem.HandSPX.excO C hp.objs.size)).get? b = some o := fun b o z => Heap.get?_push_of_some _ (Heap.get?_push_of_some _ z)
  have made : ((hp.push (PySem.W.kdv_tup [])).push (PySem.HandSPX.excO C hp.objs.size)).get? (hp.objs.size + 1) = some (PySem.HandSPX.excO C hp.objs.size) := by heap_get
  have I2 := I1.laid (t' := tk) (a := hp.objs.size + 1) (o := exo (hp.objs.size + 1) C none) up (Nat.le_succ _) (exo_ok made)
  have r2 : Vals [V.ref (hp.objs.size + 1), y] (Value.ref (hp.objs.size + 1) :: ws) := .cons rfl rz
  have hb2 := hb.to ⟨(hp.push (PySem.W.kdv_tup [])).push (PySem.HandSPX.excO C hp.objs.size), g, dr, tk, os⟩ [Value.ref (hp.objs.size + 1)] ws I2.kIn rfl rz.length.symm
  refine wpAny_call (kwe_call T.fb (fun Y => PySem.W.excTail_contains Y bm hbm) (I1.kIn _ _ hC) (PySem.W.looks_findIn I1.kIn iC) (fun self => PySem.W.bind_fn I1.kIn self tI)
    (codeAny_mono (F1.run _ X.stack _ _ ⟨[Value.ref (hp.objs.size + 1)], [kn].zip ws⟩ (Value.ref (hp.objs.size + 1) :: ws) _ _ (fun _ _ _ => False) ((hr.mono hk).make C [] ([kn].zip ws)) (I2.env0.make C [] ([kn].zip ws)) hb2 r2 hq) fun r s' z => ?_))
  match r, z with
  | .error er, z =>
    obtain ⟨hd1, hd2, hd3⟩ := z
  | .ok (.ret u), z =>
    obtain ⟨v, H2, I3, rv, ev, q2⟩ := I2.after z
    subst ev
    exact ⟨rv, ⟨.ref (hp.objs.size + 1), H2, I3, rfl, q2⟩⟩
end
end WB

set_option Elab.async false
set_option linter.all false
set_option maxRecDepth 100000
set_option maxHeartbeats 4000000
namespace WB
open PySem L2 PyProof.Rows
/-! ### classes by their objects: names and what stands above -/
structure CT (K : PySem.W.Frag) (C : Addr) (nm : Str) (mid : List Value) : Prop where
  lk : ∃ q N bs sn sub ab col dd k0 k1 k2 k3 k5 newId, K.lookup C = some (excClassObj nm q C N bs mid true sn sub ab col dd k0 k1 k2 k3 k5 newId)
section
variable {K : PySem.W.Frag} {C D : Addr} {n n2 : Str} {m m2 : List Value}
theorem CT.cls (h : CT K C n m) : ∃ cd, PySem.W.clsIn K C = some cd ∧ cd.mro = .ref C :: m ∧ cd.hasDict = true ∧ cd.name = n := by
  obtain ⟨q, N, bs, sn, sub, ab, col, dd, k0, k1, k2, k3, k5, newId, l⟩ := h.lk
  have e : PySem.W.clsIn K C = some { name := n, bases := bs, mro := .ref C :: m, ns := N, qualname := q, hasDict := true, slotNames := sn, subclasses := sub, abstract := ab, collection := col, hasDel := false } := by
    unfold PySem.W.clsIn
    rw [l] <;> rfl
  exact ⟨_, e, rfl, rfl, rfl⟩
theorem CT.ty (h : CT K C n m) : PySem.W.typeIn K (.ref C) = some (.type "type") := by
  obtain ⟨q, N, bs, sn, sub, ab, col, dd, k0, k1, k2, k3, k5, newId, l⟩ := h.lk
  show (K.lookup C).map (·.cls) = _
  rw [l] <;> rfl
theorem CT.some (h : CT K C n m) : (PySem.W.clsIn K C).isSome = true := by
  obtain ⟨cd, e, _⟩ := h.cls
  rw [e] <;> rfl
theorem CT.dict (h : CT K C n m) : PySem.W.hasDictIn K C = true := by
  obtain ⟨cd, e, _, e3, _⟩ := h.cls
  unfold PySem.W.hasDictIn
  rw [e]
  exact e3
theorem CT.sub (h : CT K C n m) (v : Value) : PySem.W.subIn K (.ref C) v = Option.some ((Value.ref C :: m).contains v) := by
  obtain ⟨cd, e, e2, _⟩ := h.cls
  show PySem.W.mroIn K C v = _
  unfold PySem.W.mroIn
  rw [e]
  show (if cd.mro.isEmpty then none else Option.some (cd.mro.contains v)) = _
  rw [e2] <;> rfl
theorem CT.ne (h : CT K C n m) (h2 : CT K D n2 m2) (e : n ≠ n2) : C ≠ D := fun q => e (by
  subst q
  obtain ⟨c1, e1, _, _, a1⟩ := h.cls
  obtain ⟨c2, e2, _, _, a2⟩ := h2.cls
  rw [e1] at e2
  cases e2
  exact a1.symm.trans a2)
theorem CT.kit (h : CT K C n m) (h2 : CT K D n2 m2) : PySem.W.kitOne K (.ref C) (.ref D) = Option.some ((Value.ref C :: m).contains (.ref D)) := by
  unfold PySem.W.kitOne
  split
  · rename_i q
    cases (beq_iff_eq.mp q)
    rw [List.contains_cons, beq_self_eq_true]
    rfl
  · unfold PySem.W.kitCls
    dsimp only
    rw [h2.some, h2.ty]
    exact h.sub _
theorem CT.kitT (h : CT K C n m) {T : String} (hk : PySem.W.kitMeta T = true) : PySem.W.kitOne K (.ref C) (.type T) = Option.some (m.contains (.type T)) := by
  unfold PySem.W.kitOne
  rw [if_neg (by intro z; cases (beq_iff_eq.mp z))]
  unfold PySem.W.kitCls
  dsimp only
  rw [if_pos hk, h.sub, List.contains_cons]
  rfl
end
structure Tab (K : PySem.W.Frag) (Ds : List Addr) (ns : List Str) (ms : List (List Value)) (W : Addr) (mw : List Value) : Prop where
  at_ : ∀ (j : Nat) (D : Addr), Ds[j]? = some D → ∃ (nm : Str) (m : List Value), ns[j]? = some nm ∧ ms[j]? = some m ∧ CT K D nm m
  w : CT K W "WorkerworldsError" mw
section
variable {K : PySem.W.Frag} {Ds : List Addr} {ns : List Str} {ms : List (List Value)} {W : Addr} {mw : List Value}
theorem nodup_at {α : Type} {l : List α} (nd : l.Nodup) {i j : Nat} {x : α} (h1 : l[i]? = some x) (h2 : l[j]? = some x) : i = j := by
  obtain ⟨a, e1⟩ := List.getElem?_eq_some_iff.mp h1
  obtain ⟨b, e2⟩ := List.getElem?_eq_some_iff.mp h2
  exact (List.getElem_inj nd).mp (e1.trans e2.symm)
theorem Tab.same (t : Tab K Ds ns ms W mw) (nd : ns.Nodup) {i j : Nat} {D : Addr} (h1 : Ds[i]? = some D) (h2 : Ds[j]? = some D) : i = j := by
  obtain ⟨n1, m1, e1, _, c1⟩ := t.at_ i D h1
  obtain ⟨n2, m2, e2, _, c2⟩ := t.at_ j D h2
  have e : n1 = n2 := Classical.byContradiction fun q => c1.ne c2 q rfl
  subst e
  exact nodup_at nd e1 e2
theorem Tab.notW (t : Tab K Ds ns ms W mw) (nw : ("WorkerworldsError" : Str) ∉ ns) {j : Nat} {D : Addr} (h : Ds[j]? = some D) : W ≠ D := by
  obtain ⟨n, m, e, _, c⟩ := t.at_ j D h
  exact t.w.ne c fun q => nw (by rw [q]; exact List.mem_of_getElem? e)
/-- what stands above: no class of the table -/
def Above (W : Addr) (m : List Value) : Prop := ∀ v ∈ m, v = .ref W ∨ ∃ T, v = .type T
theorem above_no {m : List Value} {D : Addr} (a : Above W m) (n : W ≠ D) : m.contains (.ref D) = false := by
  rw [List.contains_eq_mem]
  refine decide_eq_false fun h => ?_
  rcases a _ h with e | ⟨T, e⟩
  · cases e
    exact n rfl
  · cases e
theorem Tab.kit (t : Tab K Ds ns ms W mw) (nd : ns.Nodup) (nw : ("WorkerworldsError" : Str) ∉ ns) (ab : ∀ m ∈ ms, Above W m) {i j : Nat} {C D : Addr} (h1 : Ds[i]? = some C) (h2 : Ds[j]? = some D) : PySem.W.kitOne K (.ref C) (.ref D) = some (decide (i = j)) := by
  obtain ⟨n1, m1, e1, f1, c1⟩ := t.at_ i C h1
  obtain ⟨n2, m2, e2, f2, c2⟩ := t.at_ j D h2
  rw [c1.kit c2, List.contains_cons, above_no (ab _ (List.mem_of_getElem? f1)) (t.notW nw h2), Bool.or_false]
  refine congrArg some ?_
  by_cases e : i = j
  · subst e
    rw [h1] at h2
    cases h2
    rw [decide_eq_true rfl]
    exact beq_self_eq_true _
  · rw [decide_eq_false e]
    refine beq_eq_false_iff_ne.mpr fun q => e ?_
    cases q
    exact t.same nd h1 h2
theorem Tab.kitB (t : Tab K Ds ns ms W mw) (nw : ("WorkerworldsError" : Str) ∉ ns) (ab : Above W mw) {j : Nat} {D : Addr} (h2 : Ds[j]? = some D) : PySem.W.kitOne K (.ref W) (.ref D) = some false := by
  obtain ⟨n2, m2, e2, f2, c2⟩ := t.at_ j D h2
  rw [t.w.kit c2, List.contains_cons, above_no ab (t.notW nw h2), Bool.or_false]
  exact congrArg some (beq_eq_false_iff_ne.mpr fun q => by
    cases q
    exact t.notW nw h2 rfl)
end
/-! ### isinstance of an own error, with or without a dict -/
def rIsW (K : PySem.W.Frag) : List V → Hp → VK → Prop := fun xs H Q => ∃ (a C : Addr) (c : V) (cv : Value) (b : Bool), xs = [.ref a, c] ∧ ErrW H a C ∧ ExcC K C ∧ (PySem.W.clsIn K C).isSome = true ∧ (∀ u, RelV c u → u = cv) ∧ PySem.W.kitOne K (.ref C) cv = some b ∧ Q (.bl b) H
theorem call_isW {X : Cx} : CallR X (.builtin "isinstance") (rIsW X.K) := by
  intro pins s σ H xs us Q I r h
  obtain ⟨a, C, c, cv, b, rfl, hE, T, hcl, hcv, e, q⟩ := h
  obtain ⟨u1, u2, rfl, r1, r2⟩ := vals2 r
  cases r1
  obtain rfl := hcv _ r2
  rcases hE with ea | ⟨d, fs, ea, ed⟩
  · obtain ⟨t1, ho⟩ := exo_at I.hok ea
    have J : PySem.W.InstAt s.heap a _ C none := ⟨ho, rfl, rfl, trivial⟩
    exact PySem.W.kia_one (PySem.W.handS_kitx_exc T.hg T.hk T.hs T.hd T.ha T.hn T.ht T.hm) I.kIn J e (fun z => nomatch z) fun tk => ⟨.bl b, H, I.tok _, rfl, q⟩
  · obtain ⟨t1, ho⟩ := exo_at I.hok ea
    obtain ⟨mA, hns, hr⟩ := exd_at I.hok ed
    obtain ⟨od, hod, hl⟩ := lookIn_ns hns
    have J : PySem.W.InstAt s.heap a _ C (some od) := ⟨ho, rfl, rfl, hod⟩
    exact PySem.W.kia_one (PySem.W.kitx_exc hcl T.hg T.hk T.hs T.ha T.hn T.ht T.hm) I.kIn J e (fun z => nomatch z) fun tk => ⟨.bl b, H, I.tok _, rfl, q⟩
/-- the answers of all kinds -/
structure Kn (K : PySem.W.Frag) (Ds : List Addr) (W C : Addr) (b : Nat → Bool) (bw bv bl br : Bool) : Prop where
  ex : ExcC K C
  cl : (PySem.W.clsIn K C).isSome = true
  k : ∀ (j : Nat) (D : Addr), Ds[j]? = some D → PySem.W.kitOne K (.ref C) (.ref D) = some (b j)
  kw : PySem.W.kitOne K (.ref C) (.ref W) = some bw
  kv : PySem.W.kitOne K (.ref C) (.type "ValueError") = some bv
  kl : PySem.W.kitOne K (.ref C) (.type "LookupError") = some bl
  kr : PySem.W.kitOne K (.ref C) (.type "RuntimeError") = some br
section
variable {K : PySem.W.Frag} {Ds : List Addr} {W C : Addr} {b : Nat → Bool} {bw bv bl br : Bool} {H : Hp} {Q : VK} {a : Addr}
theorem Kn.use (n : Kn K Ds W C b bw bv bl br) (e : ErrW H a C) {c : V} {cv : Value} {r : Bool} (h1 : ∀ u, RelV c u → u = cv) (h2 : PySem.W.kitOne K (.ref C) cv = some r) (q : Q (.bl r) H) : rIsW K [.ref a, c] H Q := ⟨a, C, c, cv, r, rfl, e, n.ex, n.cl, h1, h2, q⟩
theorem Kn.is (n : Kn K Ds W C b bw bv bl br) (e : ErrW H a C) {j : Nat} {D : Addr} (h : Ds[j]? = some D) (q : Q (.bl (b j)) H) : rIsW K [.ref a, .ref D] H Q := n.use e rel_ref (n.k j D h) q
end
def kfst (b : Nat → Bool) : Int := match ((List.range 16).map b).findIdx? id with
  | some j => (j : Nat)
  | none => -1
def kdat (b : Nat → Bool) (bw bv bl br : Bool) : PyData := .tuple [.int (kfst b), .int (((List.range 16).map b).count true : Nat), .list [.bool bw, .bool bv, .bool bl], .bool br]
def spKinds (K : PySem.W.Frag) (Ds : List Addr) (W : Addr) : Sp := fun vs H Q _ => ∃ (a C : Addr) (b : Nat → Bool) (bw bv bl br : Bool), vs = [.ref a] ∧ ErrW H a C ∧ Kn K Ds W C b bw bv bl br ∧ ∀ H' t, Same H H' → (∀ H2, Same H' H2 → Dp K H2 (.ref t) (kdat b bw bv bl br)) → Q (.ref t) H'
theorem any_bl (bs : List Bool) : (bs.map V.bl).any (fun y => eqV y (.bl true)) = bs.any id := by
  induction bs with
  | nil => rfl
  | cons b r ih =>
    rw [List.map_cons, List.any_cons, List.any_cons, ih]
    cases b <;> rfl
theorem idx_bl {bs : List Bool} {j : Nat} (h : bs.findIdx? id = some j) : (bs.map V.bl)[j]? = some (.bl true) ∧ ∀ (m : Nat) (z : V), m < j → (bs.map V.bl)[m]? = some z → eqV z (.bl true) = false := by
  obtain ⟨h1, h2, h3⟩ := List.findIdx?_eq_some_iff_getElem.mp h
  refine ⟨?_, fun m z hm hz => ?_⟩
  · rw [List.getElem?_map, List.getElem?_eq_getElem h1]
    have h2' : bs[j] = true := h2
    rw [h2']
    rfl
  · have h4 := h3 m hm
    obtain ⟨x, hx, rfl⟩ := map_from hz
    obtain ⟨_, e⟩ := List.getElem?_eq_some_iff.mp hx
    have h5 : x = false := by
      rw [← e]
      simpa using h4
    rw [h5]
    rfl
theorem flat_bl (bs : List Bool) : (bs.map V.bl).all flatV = true := by
  rw [List.all_map]
  exact List.all_eq_true.mpr fun _ _ => rfl
theorem dp_bls {K : PySem.W.Frag} {H : Hp} : ∀ bs : List Bool, DpAll K H (bs.map V.bl) (bs.map PyData.bool)
  | [] => .nil
  | b :: r => .cons (.bl b) (dp_bls r)
theorem plain_bls : ∀ bs : List Bool, PyData.plainAll (bs.map PyData.bool) = true
  | [] => rfl
  | b :: r => by
    show (true && PyData.plainAll (r.map PyData.bool)) = true
    rw [plain_bls r]
    rfl
theorem count_bls (bs : List Bool) : ((bs.map PyData.bool).countP fun y => PyData.eqv y (.bool true)) = bs.count true := by
  induction bs with
  | nil => rfl
  | cons b r ih =>
    rw [List.map_cons, List.countP_cons, List.count_cons, ih]
    cases b <;> rfl
def rCntB (K : PySem.W.Frag) : V → List V → Hp → VK → Prop := fun x xs H Q => ∃ (p : Addr) (bs : List Bool), x = .ref p ∧ xs = [.bl true] ∧ SqL K H p (bs.map V.bl) ∧ Q (.int (bs.count true : Nat)) H
theorem mt_countB {X : Cx} (hu : X.A.units + 70 < cLine) : MtR X "list.count" (rCntB X.K) := by
  intro pins s σ H x xs v us Q I rx rxs h
  obtain ⟨p, bs, rfl, rfl, hs, q⟩ := h
  cases rx
  obtain ⟨u, rfl, ru⟩ := rxs.one
  cases ru
  obtain ⟨its, rv, pl, hz⟩ := I.list hs
  obtain ⟨as, rs⟩ := Dp.readsAll I _ _ its (dp_bls bs) rv
  have e := count_bls bs
  refine PySem.SeqAt.count_list_data (vs := its.toArray) (xs := bs.map PyData.bool) (d := .bool true) pl.isList (by simpa using rs) (Reads.bool true) (plain_bls bs) rfl (by show X.A.units + 1 + min _ 0 < cLine; rw [Nat.min_zero]; omega) ?_
  rw [e]
  exact ⟨.int (bs.count true : Nat), H, I.tok _, ⟨_, rfl⟩, q⟩
/-! ### text * number -/
theorem op_mulStr {X : Cx} : OpR X (binaryOp .Mult) (fun x y H Q => ∃ (z : Str) (n : Int), x = .str z ∧ y = .int n ∧ MulOk z n ∧ Q (.str (Txt.mul z n)) H) := by
  intro pins s σ H x y v u Q I rx ry h
  obtain ⟨z, n, rfl, rfl, ok, q⟩ := h
  obtain ⟨t, rfl⟩ := rx
  obtain ⟨t', rfl⟩ := ry
  exact SB.mul ok fun t'' k => ⟨.str (Txt.mul z n), H, I.tok _, ⟨_, rfl⟩, q⟩
/-! ### C() where there is no own __init__ -/
theorem pe_exc0 {X : Cx} {C : Addr} {bmB : List Value} {B newId initId : String} {x : Str} {p pos : Pos} (F : ExcBaseFacts B newId initId bmB) (q : PySem.W.excIn X.K C bmB newId = true) (gC : X.mg x = some (.ref C)) (kC : PySem.W.keepIn X.K (.ref C) = true) (hg : Gl X x)
    (hdb : (x == ("__debug__" : Str)) = false := by decide) : PE X (.Call (.Name x p) [] [] pos) (fun _ H Q => ∀ a, H a = none → Q (.ref a) (upd H a (exo a C none))) := by
  refine ⟨fun pins s σ H Q I h => ?_⟩
  refine wpAny_Call_Name_kw (ld_glob I hg gC ?_ hdb)
  refine PySem.W.callWith_K0 I.kIn kC ?_
  show wpAny _ _ (call (.ref C) []) _ _ _
  obtain ⟨bm, N, nm, qn, bs, hdct, sn, sub, ab, col, dd, k0, k1, k2, k3, k5, mN, hC, hN, hni, T⟩ := exc_obj I.kIn q
  refine wpAny_call_exc_subT F T hC hN hni (fun h' a hm => ?_) (Nat.zero_le _)
  have hn : H a = none := I.hok.gone hm.new
  obtain ⟨t, ht, _, _⟩ := hm.there
  exact ⟨.ref a, upd H a (exo a C none), I.laidN hm.keeps hm.new hn (exo_ok ht), rfl, h a hn⟩
end WB

set_option Elab.async false
set_option linter.all false
set_option maxRecDepth 100000
set_option maxHeartbeats 4000000
namespace WB
open PySem L2
/-! ### how long a number's text is -/
theorem dig_len : ∀ (fuel k n : Nat) (ds : List Char), 1 ≤ k → n < 10 ^ k → (Nat.toDigitsCore 10 fuel n ds).length ≤ ds.length + k
  | 0, k, n, ds, _, _ => by
    rw [Nat.toDigitsCore]
    omega
  | fuel + 1, k, n, ds, hk, hn => by
    unfold Nat.toDigitsCore
    simp only
    split
    · rw [List.length_cons]
      omega
    · rename_i h0
      obtain ⟨k', rfl⟩ : ∃ k', k = k' + 1 := ⟨k - 1, by omega⟩
      have h1 : 1 ≤ k' := Nat.one_le_iff_ne_zero.mpr fun e => h0 (by
        subst e
        have : n < 10 := by simpa using hn
        omega)
      have h2 : n / 10 < 10 ^ k' := by
        rw [Nat.pow_succ] at hn
        omega
      have ih := dig_len fuel k' (n / 10) (Nat.digitChar (n % 10) :: ds) h1 h2
      rw [List.length_cons] at ih
      omega
theorem int_len {i : Int} {k : Nat} (hk : 1 ≤ k) (h : i.natAbs < 10 ^ k) : (PyData.shown (.int i)).length ≤ k + 1 := by
  show (Str.ofString (toString i)).length ≤ _
  rw [PyProof.Rows.ofString_len]
  have key : ∀ n : Nat, n < 10 ^ k → (Nat.repr n).length ≤ k := fun n hn => by
    have := dig_len (n + 1) k n [] hk hn
    simpa [Nat.repr, Nat.toDigits] using this
  cases i with
  | ofNat m =>
    have := key m h
    show (Nat.repr m).length ≤ _
    omega
  | negSucc m =>
    have := key (m + 1) h
    show ("-" ++ Nat.repr (m + 1)).length ≤ _
    have h1 : "-".length = 1 := by first | rfl | decide
    rw [String.length_append, h1]
    omega
theorem list_lenN {ts : List Str} {m k : Nat} (h : ∀ t ∈ ts, t.length ≤ m) (hl : ts.length ≤ k) : (listText ts).length ≤ k * (m + 2) + 2 := by
  have pl := piled_le h
  unfold listText
  rw [Str.length_append]
  have h5 := textFrom_le ts 0 "["
  have h6 : ("[" : Str).length = 1 := by decide +kernel
  have h7 : ("]" : Str).length = 1 := by decide +kernel
  have h8 : ts.length * (m + 2) ≤ k * (m + 2) := Nat.mul_le_mul hl (Nat.le_refl _)
  omega
theorem tuple_lenN {ts : List Str} {m k : Nat} (h : ∀ t ∈ ts, t.length ≤ m) (hl : ts.length ≤ k) : (tupleText ts).length ≤ 2 * (k * (m + 2)) + 10 := by
  have pl := piled_le h
  unfold tupleText
  rw [Str.length_append, Str.length_append]
  have h5 := StrLaws.join_length_le ", " ts
  have h6 : (", " : Str).length = 2 := by decide +kernel
  rw [h6] at h5
  have h7 := sum_piled ts
  have h8 : ("(" : Str).length = 1 := by decide +kernel
  have h9 : (Str.ofString (if ts.length == 1 then ",)" else ")" : String)).length ≤ 2 := by
    split
    · decide +kernel
    · decide +kernel
  have h10 : ts.length * (m + 2) ≤ k * (m + 2) := Nat.mul_le_mul hl (Nat.le_refl _)
  omega
/-! ### lists of fitting data -/
theorem fit_all : ∀ ds : List PyData, (∀ d ∈ ds, Fit d) → PyData.showableAll ds = true ∧ PyData.hasDictAll ds = false ∧ PyData.depthAll ds ≤ 50 ∧ ∀ t ∈ PyData.shownAll ds, t.length ≤ 60000
  | [], _ => ⟨rfl, rfl, Nat.zero_le _, fun t ht => absurd ht List.not_mem_nil⟩
  | d :: r, h => by
    obtain ⟨h1, h2, h3, h4⟩ := fit_all r fun x hx => h x (List.mem_cons_of_mem _ hx)
    obtain ⟨k1, k2, k3, k4⟩ := h d List.mem_cons_self
    refine ⟨?_, ?_, ?_, fun t ht => ?_⟩
    · show (d.showable && PyData.showableAll r) = true
      rw [h1, k1]
      rfl
    · show (d.hasDict || PyData.hasDictAll r) = false
      rw [h2, k2]
      rfl
    · show max d.depth (PyData.depthAll r) ≤ 50
      omega
    · rcases List.mem_cons.mp ht with e | ht
      · rw [e]
        exact k4
      · exact h4 t ht
theorem okd_fits {ds : List PyData} (h : ∀ d ∈ ds, Fit d) (hl : ds.length ≤ 8) : OkD (.list ds) := by
  obtain ⟨h1, h2, h3, h4⟩ := fit_all ds h
  refine ⟨h1, h2, ?_, .inr ?_⟩
  · show PyData.depthAll ds + 1 ≤ 64
    omega
  · show (listText (PyData.shownAll ds)).length ≤ _
    exact Nat.le_trans (list_lenN (m := 60000) (k := 8) h4 (by rw [shownAll_len]; exact hl)) (by decide)
/-! ### the values of the errors' law -/
section
variable {K : PySem.W.Frag} {p : Addr} {H : Hp}
theorem big_log {i : Int} (h : i.natAbs < 10 ^ 29) : i.natAbs.log2 < 1000 := by
  by_cases h0 : i.natAbs = 0
  · rw [h0]
    decide
  · exact (Nat.log2_lt h0).mpr (Nat.lt_trans h (by decide +kernel))
theorem fit_num {i : Int} (h : i.natAbs < 10 ^ 29) : (PyData.int i).showable = true ∧ (PyData.shown (.int i)).length ≤ 3002 :=
  ⟨decide_eq_true (Nat.lt_trans (big_log h) (by decide)), Nat.le_trans (int_len (by decide) h) (by decide)⟩
theorem datV_num {i : Int} (h : i.natAbs < 10 ^ 29) : DatV K p H (.int i) := datV_int (big_log h) (Nat.le_trans (int_len (by decide) h) (by decide))
theorem datV_l3 {l m : Addr} {i : Int} (n1 : l ≠ p) (n2 : m ≠ p) (h : i.natAbs < 10 ^ 29) (e1 : H l = some (.lst [.int i, .str "ab", .ref m])) (e2 : H m = some (.lst [.bl true, .int 1])) : DatV K p H (.ref l) := by
  obtain ⟨f1, f2⟩ := fit_num h
  refine ⟨fun z e => (by cases e), .list [.int i, .str "ab", .list [.bool true, .int 1]], ⟨?_, rfl, Nat.le_of_ble_eq_true rfl, ?_⟩, fun H' b => ⟨.lst (SqL.of (b _ _ n1 e1)) (.cons (.int i) (.cons (.str "ab") (.cons (.lst (SqL.of (b _ _ n2 e2)) (.cons (.bl true) (.cons (.int 1) .nil))) .nil))), .inr (noStr_lst (b _ _ n1 e1)), _, .base (.lst (b _ _ n1 e1)), by decide⟩⟩
  · show ((PyData.int i).showable && true) = true
    rw [f1]
    rfl
  · show (listText [PyData.shown (.int i), reprText "ab", PyData.shown (.list [.bool true, .int 1])]).length ≤ _
    refine Nat.le_trans (list_lenN (m := 3002) (k := 3) (fun t ht => ?_) (by show 3 ≤ 3; decide)) (by decide)
    rcases List.mem_cons.mp ht with rfl | ht
    · exact f2
    rcases List.mem_cons.mp ht with rfl | ht
    · decide +kernel
    · rw [List.mem_singleton.mp ht]
      decide +kernel
theorem datV_t3 {l m u : Addr} {i : Int} (n1 : l ≠ p) (n2 : m ≠ p) (n3 : u ≠ p) (h : i.natAbs < 10 ^ 29) (e1 : H l = some (.tup [.int i, .ref u, .ref m])) (e2 : H m = some (.tup [.str "a", .non])) (e3 : H u = some (.tup [])) : DatV K p H (.ref l) := by
  obtain ⟨f1, f2⟩ := fit_num h
  refine ⟨fun z e => (by cases e), .tuple [.int i, .tuple [], .tuple [.str "a", .none]], ⟨?_, rfl, Nat.le_of_ble_eq_true rfl, ?_⟩, fun H' b => ⟨.tup (SqT.of (b _ _ n1 e1)) (.cons (.int i) (.cons (.tup (SqT.of (b _ _ n3 e3)) .nil) (.cons (.tup (SqT.of (b _ _ n2 e2)) (.cons (.str "a") (.cons .non .nil))) .nil))), .inr (noStr_tup (b _ _ n1 e1)), _, .base (.tup (b _ _ n1 e1)), by decide⟩⟩
  · show ((PyData.int i).showable && true) = true
    rw [f1]
    rfl
  · show (tupleText [PyData.shown (.int i), PyData.shown (.tuple []), PyData.shown (.tuple [.str "a", .none])]).length ≤ _
    refine Nat.le_trans (tuple_lenN (m := 3002) (k := 3) (fun t ht => ?_) (by show 3 ≤ 3; decide)) (by decide)
    rcases List.mem_cons.mp ht with rfl | ht
    · exact f2
    rcases List.mem_cons.mp ht with rfl | ht
    · decide +kernel
    · rw [List.mem_singleton.mp ht]
      decide +kernel
theorem as_small : ∀ n : Nat, n < 30 → MulOk ("a" : Str) (n : Int) ∧ SmallS (Txt.mul "a" (n : Int) ++ " {}") ∧ (Txt.mul "a" (n : Int)).length ≤ 30 := by
  unfold MulOk SmallS
  decide +kernel
end
/-! ### made errors -/
structure Er0 (K : PySem.W.Frag) (mg : Str → Option Value) (C : Addr) (x : Str) : Prop where
  ex : ∃ B newId initId bmB, ExcBaseFacts B newId initId bmB ∧ PySem.W.excIn K C bmB newId = true
  g : mg x = some (.ref C)
  k : PySem.W.keepIn K (.ref C) = true
theorem pe_er0 {X : Cx} {C : Addr} {x : Str} {p pos : Pos} (c : Er0 X.K X.mg C x) (hg : Gl X x) (hdb : (x == ("__debug__" : Str)) = false := by decide) : PE X (.Call (.Name x p) [] [] pos) (fun _ H Q => ∀ a, H a = none → Q (.ref a) (upd H a (exo a C none))) := by
  obtain ⟨_, _, _, _, F, q⟩ := c.ex
  exact pe_exc0 F q c.g c.k hg hdb
section
variable {K : PySem.W.Frag} {H : Hp} {a C dx : Addr} {kv : List (Str × V)} {f : Str} {v : V} {Q : VK}
theorem ef_use (e : ErrAt H a C kv) (xf : XfC K C) (no : PySem.W.findIn K (.ref C) f = some none) (m : (f, v) ∈ kv) (q : Q v H) :
    ∃ (a' C' d : Addr) (fs : List (Str × V)) (v' : V), V.ref a = .ref a' ∧ H a' = some (exo a' C' (some d)) ∧ H d = some (exd d fs) ∧ XfC K C' ∧ PySem.W.findIn K (.ref C') f = some none ∧ fs.lookup f = some v' ∧ Q v' H := by
  obtain ⟨d, l, h1, h2, h3⟩ := e
  exact ⟨a, C, d, l, v, rfl, h1, h2, xf, no, h3 _ _ m, q⟩
theorem ini_bar {o o' : HO} (nd : H dx = none) : Bar a H (upd (upd H dx o) a o') := fun b u n e => by
  rw [upd_ne n, upd_ne (ne_of_none e nd)]
  exact e
theorem bar_dx {H' : Hp} {o : HO} (nd : H dx = none) (b : Bar a H H') : Bar a H (upd H' dx o) := fun c u n e => by
  rw [upd_ne (ne_of_none e nd)]
  exact b c u n e
end
end WB
namespace WB
open PySem L2
theorem mkS {H1 H' : Hp} {a : Addr} {o : HO} (na : H1 a = none) (b : Bar a (upd H1 a o) H') : Same H1 H' := fun c u z => by
  have n := ne_of_none z na
  exact b c u n (by rw [upd_ne n]; exact z)
/-- a value and its data, as long as nothing but the bag changes -/
def Dv (K : PySem.W.Frag) (p : Addr) (H : Hp) (x : V) (d : PyData) : Prop := Fit d ∧ ∀ H', Bar p H H' → Dp K H' x d
inductive Dvs (K : PySem.W.Frag) (p : Addr) (H : Hp) : List V → List PyData → Prop
  | nil : Dvs K p H [] []
  | cons {x : V} {d : PyData} {xs : List V} {ds : List PyData} : Dv K p H x d → Dvs K p H xs ds → Dvs K p H (x :: xs) (d :: ds)
section
variable {K : PySem.W.Frag} {p l : Addr} {H H' : Hp}
theorem Dvs.all (s : Bar p H H') : ∀ {xs : List V} {ds : List PyData}, Dvs K p H xs ds → DpAll K H' xs ds
  | _, _, .nil => .nil
  | _, _, .cons h r => .cons (h.2 _ s) (r.all s)
theorem Dvs.dp {xs : List V} {ds : List PyData} (h : Dvs K p H xs ds) (s : Same H H') (e : H' l = some (.lst xs)) : Dp K H' (.ref l) (.list ds) := .lst (SqL.of e) (h.all (bar_of s))
theorem Dvs.fit : ∀ {xs : List V} {ds : List PyData}, Dvs K p H xs ds → ∀ d ∈ ds, Fit d
  | _, _, .nil, d, hd => absurd hd List.not_mem_nil
  | _, _, .cons h r, d, hd => by
    rcases List.mem_cons.mp hd with e | hd
    · rw [e]
      exact h.1
    · exact r.fit d hd
theorem Dvs.ok {xs : List V} {ds : List PyData} (h : Dvs K p H xs ds) (hl : ds.length ≤ 8) : OkD (.list ds) := okd_fits h.fit hl
theorem DatV.dv {x : V} (h : DatV K p H x) : ∃ d, Dv K p H x d := by
  obtain ⟨_, d, f, k⟩ := h
  exact ⟨d, f, fun H2 b => (k H2 b).1⟩
end
end WB

set_option Elab.async false
set_option linter.all false
set_option maxRecDepth 100000
set_option maxHeartbeats 4000000
namespace W8
open PySem L2 WB
open C8 (pe_c pe_mk pe_mt pe_mt0 Cal Mak Met)
def top (i : Nat) : Stmt := PySem.Challenge.pw_workerworlds_k08_errors_by_hand.main.body.getD i (.Pass ⟨0, 0, 0, 0⟩)
abbrev s_bag : Stmt := top 19
abbrev n_bag : List Str := ["_law_script", "_law_at", "_law_cell"]
theorem sc_bag : FnScope n_bag ["_law_script", "_law_at"] (defScope s_bag) := ⟨rfl, rfl, rfl, by decide +kernel, rfl, by decide +kernel, by decide +kernel⟩
abbrev s_take : Stmt := top 20
abbrev n_take : List Str := ["_law_bag_here", "_law_many", "_law_digit", "_law_cell", "_law_added"]
theorem sc_take : FnScope n_take ["_law_bag_here", "_law_many"] (defScope s_take) := ⟨rfl, rfl, rfl, by decide +kernel, rfl, by decide +kernel, by decide +kernel⟩
abbrev s_value : Stmt := top 21
abbrev n_value : List Str := ["_law_bag_here", "_law_way", "_law_number"]
theorem sc_value : FnScope n_value ["_law_bag_here"] (defScope s_value) := ⟨rfl, rfl, rfl, by decide +kernel, rfl, by decide +kernel, by decide +kernel⟩
abbrev s_kinds : Stmt := top 22
abbrev n_kinds : List Str := ["_law_e", "_law_rows", "_law_above", "_law_first"]
theorem sc_kinds : FnScope n_kinds ["_law_e"] (defScope s_kinds) := ⟨rfl, rfl, rfl, by decide +kernel, rfl, by decide +kernel, by decide +kernel⟩
abbrev s_are_right : Stmt := top 23
abbrev n_are_right : List Str := ["_law_one", "_law_other", "_law_third", "_law_a", "_law_b", "_law_c", "_law_d", "_law_f", "_law_g", "_law_h", "_law_p", "_law_q", "_law_r", "_law_s", "_law_some", "_law_k", "_law_e", "_law_t", "_law_u", "_law_v", "_law_w", "_law_x", "_law_base"]
theorem sc_are_right : FnScope n_are_right ["_law_one", "_law_other", "_law_third"] (defScope s_are_right) := ⟨rfl, rfl, rfl, by decide +kernel, rfl, by decide +kernel, by decide +kernel⟩
abbrev s_law : Stmt := top 24
abbrev n_law : List Str := ["_law_script", "_law_at", "_law_bag_here", "_law_one", "_law_other"]
theorem sc_law : FnScope n_law ["_law_script"] (defScope s_law) := ⟨rfl, rfl, rfl, by decide +kernel, rfl, by decide +kernel, by decide +kernel⟩
abbrev s_BadBox__init : Stmt := inClass (top 2) 0
abbrev n_BadBox__init : List Str := ["self", "contents"]
theorem sc_BadBox__init : FnScope n_BadBox__init ["self", "contents"] (defScope s_BadBox__init) := ⟨rfl, rfl, rfl, by decide +kernel, rfl, by decide +kernel, by decide +kernel⟩
abbrev s_BadName__init : Stmt := inClass (top 3) 0
abbrev n_BadName__init : List Str := ["self", "name"]
theorem sc_BadName__init : FnScope n_BadName__init ["self", "name"] (defScope s_BadName__init) := ⟨rfl, rfl, rfl, by decide +kernel, rfl, by decide +kernel, by decide +kernel⟩
abbrev s_BadWorld__init : Stmt := inClass (top 4) 0
abbrev n_BadWorld__init : List Str := ["self", "at"]
theorem sc_BadWorld__init : FnScope n_BadWorld__init ["self", "at"] (defScope s_BadWorld__init) := ⟨rfl, rfl, rfl, by decide +kernel, rfl, by decide +kernel, by decide +kernel⟩
abbrev s_BadRow__init : Stmt := inClass (top 5) 0
abbrev n_BadRow__init : List Str := ["self", "row"]
theorem sc_BadRow__init : FnScope n_BadRow__init ["self", "row"] (defScope s_BadRow__init) := ⟨rfl, rfl, rfl, by decide +kernel, rfl, by decide +kernel, by decide +kernel⟩
abbrev s_BadProgram__init : Stmt := inClass (top 6) 0
abbrev n_BadProgram__init : List Str := ["self", "part", "at"]
theorem sc_BadProgram__init : FnScope n_BadProgram__init ["self", "part", "at"] (defScope s_BadProgram__init) := ⟨rfl, rfl, rfl, by decide +kernel, rfl, by decide +kernel, by decide +kernel⟩
abbrev s_BadText__init : Stmt := inClass (top 7) 0
abbrev n_BadText__init : List Str := ["self", "at"]
theorem sc_BadText__init : FnScope n_BadText__init ["self", "at"] (defScope s_BadText__init) := ⟨rfl, rfl, rfl, by decide +kernel, rfl, by decide +kernel, by decide +kernel⟩
abbrev s_TooMany__init : Stmt := inClass (top 8) 0
abbrev n_TooMany__init : List Str := ["self", "what"]
theorem sc_TooMany__init : FnScope n_TooMany__init ["self", "what"] (defScope s_TooMany__init) := ⟨rfl, rfl, rfl, by decide +kernel, rfl, by decide +kernel, by decide +kernel⟩
abbrev s_BadSetting__init : Stmt := inClass (top 9) 0
abbrev n_BadSetting__init : List Str := ["self", "what"]
theorem sc_BadSetting__init : FnScope n_BadSetting__init ["self", "what"] (defScope s_BadSetting__init) := ⟨rfl, rfl, rfl, by decide +kernel, rfl, by decide +kernel, by decide +kernel⟩
abbrev s_BadItem__init : Stmt := inClass (top 10) 0
abbrev n_BadItem__init : List Str := ["self", "at"]
theorem sc_BadItem__init : FnScope n_BadItem__init ["self", "at"] (defScope s_BadItem__init) := ⟨rfl, rfl, rfl, by decide +kernel, rfl, by decide +kernel, by decide +kernel⟩
abbrev s_BadCut__init : Stmt := inClass (top 11) 0
abbrev n_BadCut__init : List Str := ["self", "at"]
theorem sc_BadCut__init : FnScope n_BadCut__init ["self", "at"] (defScope s_BadCut__init) := ⟨rfl, rfl, rfl, by decide +kernel, rfl, by decide +kernel, by decide +kernel⟩
abbrev s_BadDealing__init : Stmt := inClass (top 12) 0
abbrev n_BadDealing__init : List Str := ["self", "at"]
theorem sc_BadDealing__init : FnScope n_BadDealing__init ["self", "at"] (defScope s_BadDealing__init) := ⟨rfl, rfl, rfl, by decide +kernel, rfl, by decide +kernel, by decide +kernel⟩
abbrev s_NoName__init : Stmt := inClass (top 13) 0
abbrev n_NoName__init : List Str := ["self", "name"]
theorem sc_NoName__init : FnScope n_NoName__init ["self", "name"] (defScope s_NoName__init) := ⟨rfl, rfl, rfl, by decide +kernel, rfl, by decide +kernel, by decide +kernel⟩
abbrev s_NoWorker__init : Stmt := inClass (top 14) 0
abbrev n_NoWorker__init : List Str := ["self", "number"]
theorem sc_NoWorker__init : FnScope n_NoWorker__init ["self", "number"] (defScope s_NoWorker__init) := ⟨rfl, rfl, rfl, by decide +kernel, rfl, by decide +kernel, by decide +kernel⟩
abbrev s_TaskFailed__init : Stmt := inClass (top 15) 0
abbrev n_TaskFailed__init : List Str := ["self", "at", "told", "cause"]
theorem sc_TaskFailed__init : FnScope n_TaskFailed__init ["self", "at", "told", "cause"] (defScope s_TaskFailed__init) := ⟨rfl, rfl, rfl, by decide +kernel, rfl, by decide +kernel, by decide +kernel⟩
abbrev s_CannotCross__init : Stmt := inClass (top 16) 0
abbrev n_CannotCross__init : List Str := ["self", "at", "what"]
theorem sc_CannotCross__init : FnScope n_CannotCross__init ["self", "at", "what"] (defScope s_CannotCross__init) := ⟨rfl, rfl, rfl, by decide +kernel, rfl, by decide +kernel, by decide +kernel⟩
structure Top (K : PySem.W.Frag) (mg : Str → Option Value) : Prop where
  z_len : mg "len" = none
  z_abs : mg "abs" = none
  z_list : mg "list" = none
  z_int : mg "int" = none
  z_isinstance : mg "isinstance" = none
  z_range : mg "range" = none
  z_max : mg "max" = none
  z_min : mg "min" = none
  z_repr : mg "repr" = none
  z_enumerate : mg "enumerate" = none
  z_ValueError : mg "ValueError" = none
  z_LookupError : mg "LookupError" = none
  z_RuntimeError : mg "RuntimeError" = none
section
variable {P : Program} {w : World} {K : PySem.W.Frag} {mg : Str → Option Value} {base : Heap}
def tV : List Value := [.type "ValueError", .type "Exception", .type "BaseException", .type "object"]
def tL : List Value := [.type "LookupError", .type "Exception", .type "BaseException", .type "object"]
def tR : List Value := [.type "RuntimeError", .type "Exception", .type "BaseException", .type "object"]
def mW : List Value := tV
def m16 (W : Addr) : List (List Value) := List.replicate 11 (.ref W :: tV) ++ [tL, tL, tR, tR, tR]
def n16 : List Str := ["BadBox", "BadName", "BadWorld", "BadRow", "BadProgram", "BadText", "TooMany", "BadSetting", "BadItem", "BadCut", "BadDealing", "NoName", "NoWorker", "TaskFailed", "CannotCross", "Closed"]
structure GC (mg : Str → Option Value) (D0 D1 D2 D3 D4 D5 D6 D7 D8 D9 D10 D11 D12 D13 D14 D15 W : Addr) : Prop where
  g_BadBox : ∃ u, mg "BadBox" = some u ∧ RelV (.ref D0) u
  g_BadName : ∃ u, mg "BadName" = some u ∧ RelV (.ref D1) u
  g_BadWorld : ∃ u, mg "BadWorld" = some u ∧ RelV (.ref D2) u
  g_BadRow : ∃ u, mg "BadRow" = some u ∧ RelV (.ref D3) u
  g_BadProgram : ∃ u, mg "BadProgram" = some u ∧ RelV (.ref D4) u
  g_BadText : ∃ u, mg "BadText" = some u ∧ RelV (.ref D5) u
  g_TooMany : ∃ u, mg "TooMany" = some u ∧ RelV (.ref D6) u
  g_BadSetting : ∃ u, mg "BadSetting" = some u ∧ RelV (.ref D7) u
  g_BadItem : ∃ u, mg "BadItem" = some u ∧ RelV (.ref D8) u
  g_BadCut : ∃ u, mg "BadCut" = some u ∧ RelV (.ref D9) u
  g_BadDealing : ∃ u, mg "BadDealing" = some u ∧ RelV (.ref D10) u
  g_NoName : ∃ u, mg "NoName" = some u ∧ RelV (.ref D11) u
  g_NoWorker : ∃ u, mg "NoWorker" = some u ∧ RelV (.ref D12) u
  g_TaskFailed : ∃ u, mg "TaskFailed" = some u ∧ RelV (.ref D13) u
  g_CannotCross : ∃ u, mg "CannotCross" = some u ∧ RelV (.ref D14) u
  g_Closed : ∃ u, mg "Closed" = some u ∧ RelV (.ref D15) u
  g_WorkerworldsError : ∃ u, mg "WorkerworldsError" = some u ∧ RelV (.ref W) u
structure Ers (P : Program) (w : World) (K : PySem.W.Frag) (mg : Str → Option Value) (base : Heap) (D0 D1 D2 D3 D4 D5 D6 D7 D8 D9 D10 D11 D12 D13 D14 D15 W : Addr) : Prop where
  e_BadBox : ErX P w K mg base D0 "BadBox" ["contents"] ["contents"]
  e_BadName : ErX P w K mg base D1 "BadName" ["name"] ["name"]
  e_BadWorld : ErX P w K mg base D2 "BadWorld" ["at"] ["at"]
  e_BadRow : ErX P w K mg base D3 "BadRow" ["row"] ["row"]
  e_BadProgram : ErX P w K mg base D4 "BadProgram" ["part", "at"] ["part", "at"]
  e_BadText : ErX P w K mg base D5 "BadText" ["at"] ["at"]
  e_TooMany : ErX P w K mg base D6 "TooMany" ["what"] ["what"]
  e_BadSetting : ErX P w K mg base D7 "BadSetting" ["what"] ["what"]
  e_BadItem : ErX P w K mg base D8 "BadItem" ["at"] ["at"]
  e_BadCut : ErX P w K mg base D9 "BadCut" ["at"] ["at"]
  e_BadDealing : ErX P w K mg base D10 "BadDealing" ["at"] ["at"]
  e_NoName : ErX P w K mg base D11 "NoName" ["name"] ["name"]
  e_NoWorker : ErX P w K mg base D12 "NoWorker" ["number"] ["number"]
  e_TaskFailed : ErX P w K mg base D13 "TaskFailed" ["at", "told", "cause"] ["at", "told", "cause"]
  e_CannotCross : ErX P w K mg base D14 "CannotCross" ["at", "what"] ["at", "what"]
  e_Closed : Er0 K mg D15 "Closed"
  e_WorkerworldsError : Er0 K mg W "WorkerworldsError"
theorem ok_bag {f : Addr} {fd : FuncData} (F : Fun K "_law_bag" "_law_bag" s_bag f fd) (T : Top K mg) : FnOk P w K mg base CX0 1 f fd ["_law_script", "_law_at"] (spBag K) := by
  refine F.ok sc_bag (fun vs H Q E h => ?_) (fun cdv A outer s H vs Q E hr h => ?_)
  · obtain ⟨a, ns, j, rfl, _⟩ := h
    rfl
  · obtain ⟨a, ns, j, rfl, hS, hlen, hj, k⟩ := h
    refine ⟨_, (pss_cons (ps_set (i := 2) sc_bag.nd rfl (Or.inl rfl) (pe_ifExp (pt_cmpR op_lt (pv 1) (pe_callB call_len_seq (by rfl) T.z_len (by decide +kernel) (pa_cons (pv 0) pa_nil)) (nomark _)) (pe_callB call_abs (by rfl) T.z_abs (by decide +kernel) (pa_cons (pe_ix ix_list (pv 0) (pv 1) (fun _ _ => rfl)) pa_nil)) pe_int))
(pss_one (ps_ret (pe_lst (pa_cons (pe_ifExp (pt_cmpR op_ge (pv 2) (pe_op op_pow pe_int pe_int) (nomark _)) (pv 2) pe_int) (pa_cons (pe_op op_add pe_int (pe_op op_mul pe_int (pv 1))) (pa_cons (pv 1) (pa_cons (pe_callTy call_list_of (by rfl) T.z_list (by decide +kernel) (pa_cons (pe_slice sl_list (pv 0) po_none (po_some pe_int)) pa_nil)) pa_nil)))))))), ?_⟩
    refine ⟨_, rfl, _, rfl, a, _, rfl, .inl hS, _, _, rfl, rfl, _, rfl, ?_⟩
    refine ite_val (C := fun v H' => ∃ c : Int, v = .int c ∧ 0 ≤ c ∧ H' = H) (fun hc Q' q => ?_) (fun _ Q' q => q _ _ ⟨0, rfl, Int.le_refl _, rfl⟩) ?_
    · have hj2 : j < ns.length := by
        have e := of_decide_eq_true hc
        rw [List.length_map] at e
        omega
      refine ⟨_, rfl, _, rfl, a, _, _, _, rfl, rfl, hS, atI_nat (ints_at hj2), _, rfl, ?_⟩
      exact q _ _ ⟨_, rfl, abs_nonneg _, rfl⟩
    · rintro v H' ⟨c, rfl, hc, rfl⟩
      refine ⟨_, rfl, _, _, rfl, rfl, ⟨by decide, by decide, by decide⟩, _, _, rfl, rfl, _, rfl, ?_⟩
      refine ite_val (C := fun v H2 => ∃ c : Int, v = .int c ∧ 0 ≤ c ∧ H2 = H') (fun _ Q' q => ⟨_, rfl, q _ _ ⟨c, rfl, hc, rfl⟩⟩) (fun _ Q' q => q _ _ ⟨0, rfl, Int.le_refl _, rfl⟩) ?_
      rintro v H2 ⟨c2, rfl, hc2, rfl⟩
      refine ⟨_, rfl, _, _, rfl, rfl, .inl ⟨by decide, by decide⟩, _, _, rfl, rfl, _, rfl, _, rfl, ?_⟩
      refine ⟨_, rfl, a, _, rfl, hS, fun p hp => ?_⟩
      refine ⟨p, _, rfl, .inl (SqL.of upd_same), fun l hl => ?_⟩
      refine ⟨by show 4 ≤ sizeLine; decide, fun b hb => ?_⟩
      have e : cutV (ns.map V.int) none (some 63) = (ns.take 63).map V.int := (cut_to _ 63).trans (List.map_take ..).symm
      have nlb : l ≠ b := fun q => by
        rw [← q, upd_same] at hb
        cases hb
      have hb1 : upd H2 p (.lst (cutV (ns.map V.int) none (some 63))) b = none := by
        rw [upd_ne nlb.symm] at hb
        exact hb
      have hb2 : H2 b = none := (same_new hp).free hb1
      refine k _ b l (((same_new hp).trans (same_new hl)).trans (same_new hb)) hb2 ((same_new hp).free hl) ?_
      refine ⟨c2, _, _, ns.take 63, upd_same, ?_, ?_, hc2, ?_, ?_, ?_⟩
      · rw [upd_ne nlb, upd_same, e]
      · rw [List.length_take]
        omega
      · omega
      · omega
      · omega
theorem ok_take {f : Addr} {fd : FuncData} (F : Fun K "_law_take" "_law_take" s_take f fd) (T : Top K mg) : FnOk P w K mg base CX0 1 f fd ["_law_bag_here", "_law_many"] spTake := by
  refine F.ok sc_take (fun vs H Q E h => ?_) (fun cdv A outer s H vs Q E hr h => ?_)
  · obtain ⟨p, q, m, rfl, _⟩ := h
    rfl
  · obtain ⟨p, q, m, rfl, hBB, hm, hm2, k⟩ := h
    have npq : q ≠ p := hBB.pq
    obtain ⟨c, z, i, ns, hp, hq, hlen, hc, hz, hz2, hi⟩ := hBB
    refine ⟨_, (pss_cons (ps_if (pt_cmpR op_gt (pe_ix ix_list (pv 0) pe_int (fun _ _ => rfl)) pe_int (nomark _))
(pss_cons (ps_set (i := 2) sc_take.nd rfl (Or.inl rfl) (pe_op op_mod (pe_callTy call_int1 (by rfl) T.z_int (by decide +kernel) (pa_cons (pe_ix ix_list (pv 0) pe_int (fun _ _ => rfl)) pa_nil)) (pv 1)))
(pss_cons (ps_asg (pe_op op_fdivW (pe_ix ix_list (pv 0) pe_int (fun _ _ => rfl)) (pv 1)) (pg_sub (pv 0) pe_int set_list))
(pss_one (ps_ret (pv 2)))))
pss_nil)
(pss_cons (ps_asg (pe_op op_add (pe_ix ix_list (pv 0) pe_int (fun _ _ => rfl)) pe_int) (pg_sub (pv 0) pe_int set_list))
(pss_cons (ps_set (i := 3) sc_take.nd rfl (Or.inl rfl) (pe_ifExp (pt_cmpR (op_neD hr.units) (pe_ix ix_list (pv 0) pe_int (fun _ _ => rfl)) (pe_lst pa_nil) (nomark _)) (pe_ix ix_list (pe_ix ix_list (pv 0) pe_int (fun _ _ => rfl)) (pe_op op_mod (pe_ix ix_list (pv 0) pe_int (fun _ _ => rfl)) (pe_callB call_len_seq (by rfl) T.z_len (by decide +kernel) (pa_cons (pe_ix ix_list (pv 0) pe_int (fun _ _ => rfl)) pa_nil))) (fun _ _ => rfl)) pe_int))
(pss_cons (ps_set (i := 4) sc_take.nd rfl (Or.inl rfl) (pe_op op_mod (pe_callTy call_int1 (by rfl) T.z_int (by decide +kernel) (pa_cons (pv 3) pa_nil)) pe_int))
(pss_cons (ps_asg (pe_op op_mod (pe_callTy call_int1 (by rfl) T.z_int (by decide +kernel) (pa_cons (pe_op op_add (pe_op op_add (pe_op op_add (pe_op op_mul (pe_ix ix_list (pv 0) pe_int (fun _ _ => rfl)) pe_int) (pv 4)) (pe_op op_mul pe_int (pe_ix ix_list (pv 0) pe_int (fun _ _ => rfl)))) pe_int) pa_nil)) pe_int) (pg_sub (pv 0) pe_int set_list))
(pss_one (ps_ret (pe_op op_mod (pe_op op_fdivW (pe_op op_mod (pe_callTy call_int1 (by rfl) T.z_int (by decide +kernel) (pa_cons (pe_op op_mul (pe_op op_fdivW (pe_ix ix_list (pv 0) pe_int (fun _ _ => rfl)) pe_int) pe_int) pa_nil)) pe_int) pe_int) (pv 1))))))))), ?_⟩
    refine ⟨_, rfl, p, _, _, _, rfl, rfl, SqL.of hp, rfl, _, _, rfl, rfl, _, rfl, ?_⟩
    refine ite_b (fun hc0 => ?_) (fun _ => ?_)
    · have hc1 : 0 < c := of_decide_eq_true hc0
      refine ⟨_, rfl, p, _, _, _, rfl, rfl, SqL.of hp, rfl, .inl ⟨_, rfl, ?_⟩⟩
      refine ⟨_, rfl, _, _, rfl, rfl, hm, ?_⟩
      refine ⟨_, rfl, p, _, _, _, rfl, rfl, SqL.of hp, rfl, _, rfl, _, _, rfl, rfl, cdw hm hm2, ?_⟩
      · refine ⟨_, rfl, p, _, _, _, rfl, rfl, hp, rfl, ?_⟩
        refine ⟨_, rfl, ?_⟩
        refine k _ _ bar_upd ⟨c / m, z, i, ns, upd_same, by rw [upd_ne npq]; exact hq, hlen, Int.ediv_nonneg hc (by omega), hz, hz2, hi⟩ (Int.emod_nonneg _ (by omega)) (Int.emod_lt_of_pos _ hm)
    · show tSeq _ _ _ _ _
      refine ⟨_, rfl, p, _, _, _, rfl, rfl, SqL.of hp, rfl, _, _, rfl, rfl, ?_⟩
      refine ⟨_, rfl, p, _, _, _, rfl, rfl, hp, rfl, ?_⟩
      have hp1 : upd H p (.lst [V.int c, V.int z, V.int (i + 1), V.ref q]) p = some (.lst [V.int c, V.int z, V.int (i + 1), V.ref q]) := upd_same
      have hq1 : upd H p (.lst [V.int c, V.int z, V.int (i + 1), V.ref q]) q = some (.lst (ns.map V.int)) := (upd_ne npq).trans hq
      refine ⟨_, rfl, p, _, _, _, rfl, rfl, SqL.of hp1, rfl, Nat.zero_le _, fun l hl => ?_⟩
      have npl : p ≠ l := ne_of_none hp1 hl
      have nql : q ≠ l := ne_of_none hq1 hl
      have hp2 := (upd_ne npl (o := HO.lst [])).trans hp1
      have hq2 := (upd_ne nql (o := HO.lst [])).trans hq1
      refine ⟨_, _, dp_ints (SqL.of hq2), .lst (SqL.of upd_same) .nil, shaped_ints ns, by decide, _, rfl, ?_⟩
      refine ite_val (C := fun v H' => ∃ n : Int, v = .int n ∧ H' = _) (fun hne Q' qq => ?_) (fun _ Q' qq => qq _ _ ⟨0, rfl, rfl⟩) ?_
      · have hn : ns ≠ [] := fun e => by
          rw [eqv_nil_ints, decide_eq_true e] at hne
          cases hne
        have hl0 : 0 < (ns.map V.int).length := by
          rw [List.length_map]
          exact List.length_pos_iff.mpr hn
        refine ⟨_, rfl, p, _, _, _, rfl, rfl, SqL.of hp2, rfl, _, rfl, p, _, _, _, rfl, rfl, SqL.of hp2, rfl, _, rfl, p, _, _, _, rfl, rfl, SqL.of hp2, rfl, q, _, rfl, .inl (SqL.of hq2), _, _, rfl, rfl, by omega, ?_⟩
        have h0 : 0 ≤ (i + 1) % ((ns.map V.int).length : Int) := Int.emod_nonneg _ (by omega)
        have h1 : (i + 1) % ((ns.map V.int).length : Int) < ((ns.map V.int).length : Int) := Int.emod_lt_of_pos _ (by omega)
        obtain ⟨j, hj⟩ := Int.eq_ofNat_of_zero_le h0
        have hj2 : j < ns.length := by
          rw [hj, List.length_map] at h1
          omega
        refine ⟨q, _, _, _, rfl, rfl, SqL.of hq2, ?_, qq _ _ ⟨ns[j], rfl, rfl⟩⟩
        rw [hj]
        exact atI_nat (ints_at hj2)
      · rintro v H' ⟨n, rfl, rfl⟩
        refine ⟨_, rfl, .inl ⟨_, rfl, ?_⟩⟩
        refine ⟨_, _, rfl, rfl, (by show (0 : Int) < _; decide), ?_⟩
        refine ⟨_, rfl, p, _, _, _, rfl, rfl, SqL.of hp2, rfl, _, _, rfl, rfl, .inr ⟨by decide, by decide⟩, _, rfl, _, _, rfl, rfl, _, rfl, p, _, _, _, rfl, rfl, SqL.of hp2, rfl, _, _, rfl, rfl, .inl ⟨by decide, by decide⟩, _, _, rfl, rfl, _, _, rfl, rfl, .inl ⟨_, rfl, ?_⟩⟩
        refine ⟨_, _, rfl, rfl, (by show (0 : Int) < _; decide), ?_⟩
        refine ⟨_, rfl, p, _, _, _, rfl, rfl, hp2, rfl, ?_⟩
        refine ⟨_, rfl, p, _, _, _, rfl, rfl, SqL.of upd_same, rfl, _, _, rfl, rfl, cdw (by decide) (by decide), _, _, rfl, rfl, .inr ⟨by decide, by decide⟩, .inl ⟨_, rfl, ?_⟩⟩
        refine ⟨_, _, rfl, rfl, (by show (0 : Int) < _; decide), _, _, rfl, rfl, cdw (by decide) (by decide), _, rfl, _, _, rfl, rfl, hm, ?_⟩
        refine k _ _ ?_ ⟨c, _, i + 1, ns, upd_same, ?_, hlen, hc, Int.emod_nonneg _ (by decide), ?_, by omega⟩ (Int.emod_nonneg _ (by omega)) (Int.emod_lt_of_pos _ hm)
        · exact (bar_upd.trans (bar_new hl)).trans bar_upd
        · exact (upd_ne npq).trans hq2
        · exact Int.lt_trans (Int.emod_lt_of_pos _ (by decide)) (by decide)
theorem ok_ini_BadBox {f C : Addr} {fd : FuncData} (F : Fun K "__init__" "BadBox.__init__" s_BadBox__init f fd) {B newId initId : String} {bmB : List Value} (T : OexB K C B newId initId bmB) (no0 : PySem.W.findIn K (.ref C) "contents" = some none) : FnOk P w K mg base CX0 1 f fd ["self", "contents"] (spF C ["contents"]) := by
  refine F.ok sc_BadBox__init (fun vs H Q E h => ?_) (fun cdv A outer s H vs Q E hr h => ?_)
  · obtain ⟨a, ys, rfl, hl, _⟩ := h
    show ys.length + 1 = _
    rw [hl]
    rfl
  · obtain ⟨a, ys, rfl, hl, ha, k⟩ := h
    obtain ⟨y0, rfl⟩ : ∃ y0, ys = [y0] := by
      match ys, hl with
      | [y0], _ => exact ⟨_, rfl⟩
    refine ⟨_, (pss_one (ps_ostB T no0 (pv 0) (pv 1))), ?_⟩
    refine ⟨_, rfl, _, rfl, a, rfl, .inl ⟨ha, fun dx nd ne => k _ (ini_bar nd) ⟨dx, _, upd_same, (upd_ne ne).trans upd_same, fun g v h => ?_⟩⟩⟩
    simp only [List.zip_cons_cons, List.zip_nil_right, List.mem_cons, List.not_mem_nil, or_false, Prod.mk.injEq] at h
    rcases h with h <;> (cases h.1; cases h.2; rfl)
theorem ok_ini_BadName {f C : Addr} {fd : FuncData} (F : Fun K "__init__" "BadName.__init__" s_BadName__init f fd) {B newId initId : String} {bmB : List Value} (T : OexB K C B newId initId bmB) (no0 : PySem.W.findIn K (.ref C) "name" = some none) : FnOk P w K mg base CX0 1 f fd ["self", "name"] (spF C ["name"]) := by
  refine F.ok sc_BadName__init (fun vs H Q E h => ?_) (fun cdv A outer s H vs Q E hr h => ?_)
  · obtain ⟨a, ys, rfl, hl, _⟩ := h
    show ys.length + 1 = _
    rw [hl]
    rfl
  · obtain ⟨a, ys, rfl, hl, ha, k⟩ := h
    obtain ⟨y0, rfl⟩ : ∃ y0, ys = [y0] := by
      match ys, hl with
      | [y0], _ => exact ⟨_, rfl⟩
    refine ⟨_, (pss_one (ps_ostB T no0 (pv 0) (pv 1))), ?_⟩
    refine ⟨_, rfl, _, rfl, a, rfl, .inl ⟨ha, fun dx nd ne => k _ (ini_bar nd) ⟨dx, _, upd_same, (upd_ne ne).trans upd_same, fun g v h => ?_⟩⟩⟩
    simp only [List.zip_cons_cons, List.zip_nil_right, List.mem_cons, List.not_mem_nil, or_false, Prod.mk.injEq] at h
    rcases h with h <;> (cases h.1; cases h.2; rfl)
theorem ok_ini_BadWorld {f C : Addr} {fd : FuncData} (F : Fun K "__init__" "BadWorld.__init__" s_BadWorld__init f fd) {B newId initId : String} {bmB : List Value} (T : OexB K C B newId initId bmB) (no0 : PySem.W.findIn K (.ref C) "at" = some none) : FnOk P w K mg base CX0 1 f fd ["self", "at"] (spF C ["at"]) := by
  refine F.ok sc_BadWorld__init (fun vs H Q E h => ?_) (fun cdv A outer s H vs Q E hr h => ?_)
  · obtain ⟨a, ys, rfl, hl, _⟩ := h
    show ys.length + 1 = _
    rw [hl]
    rfl
  · obtain ⟨a, ys, rfl, hl, ha, k⟩ := h
    obtain ⟨y0, rfl⟩ : ∃ y0, ys = [y0] := by
      match ys, hl with
      | [y0], _ => exact ⟨_, rfl⟩
    refine ⟨_, (pss_one (ps_ostB T no0 (pv 0) (pv 1))), ?_⟩
    refine ⟨_, rfl, _, rfl, a, rfl, .inl ⟨ha, fun dx nd ne => k _ (ini_bar nd) ⟨dx, _, upd_same, (upd_ne ne).trans upd_same, fun g v h => ?_⟩⟩⟩
    simp only [List.zip_cons_cons, List.zip_nil_right, List.mem_cons, List.not_mem_nil, or_false, Prod.mk.injEq] at h
    rcases h with h <;> (cases h.1; cases h.2; rfl)
theorem ok_ini_BadRow {f C : Addr} {fd : FuncData} (F : Fun K "__init__" "BadRow.__init__" s_BadRow__init f fd) {B newId initId : String} {bmB : List Value} (T : OexB K C B newId initId bmB) (no0 : PySem.W.findIn K (.ref C) "row" = some none) : FnOk P w K mg base CX0 1 f fd ["self", "row"] (spF C ["row"]) := by
  refine F.ok sc_BadRow__init (fun vs H Q E h => ?_) (fun cdv A outer s H vs Q E hr h => ?_)
  · obtain ⟨a, ys, rfl, hl, _⟩ := h
    show ys.length + 1 = _
    rw [hl]
    rfl
  · obtain ⟨a, ys, rfl, hl, ha, k⟩ := h
    obtain ⟨y0, rfl⟩ : ∃ y0, ys = [y0] := by
      match ys, hl with
      | [y0], _ => exact ⟨_, rfl⟩
    refine ⟨_, (pss_one (ps_ostB T no0 (pv 0) (pv 1))), ?_⟩
    refine ⟨_, rfl, _, rfl, a, rfl, .inl ⟨ha, fun dx nd ne => k _ (ini_bar nd) ⟨dx, _, upd_same, (upd_ne ne).trans upd_same, fun g v h => ?_⟩⟩⟩
    simp only [List.zip_cons_cons, List.zip_nil_right, List.mem_cons, List.not_mem_nil, or_false, Prod.mk.injEq] at h
    rcases h with h <;> (cases h.1; cases h.2; rfl)
theorem ok_ini_BadProgram {f C : Addr} {fd : FuncData} (F : Fun K "__init__" "BadProgram.__init__" s_BadProgram__init f fd) {B newId initId : String} {bmB : List Value} (T : OexB K C B newId initId bmB) (no0 : PySem.W.findIn K (.ref C) "part" = some none) (no1 : PySem.W.findIn K (.ref C) "at" = some none) : FnOk P w K mg base CX0 1 f fd ["self", "part", "at"] (spF C ["part", "at"]) := by
  refine F.ok sc_BadProgram__init (fun vs H Q E h => ?_) (fun cdv A outer s H vs Q E hr h => ?_)
  · obtain ⟨a, ys, rfl, hl, _⟩ := h
    show ys.length + 1 = _
    rw [hl]
    rfl
  · obtain ⟨a, ys, rfl, hl, ha, k⟩ := h
    obtain ⟨y0, y1, rfl⟩ : ∃ y0 y1, ys = [y0, y1] := by
      match ys, hl with
      | [y0, y1], _ => exact ⟨_, _, rfl⟩
    refine ⟨_, (pss_cons (ps_ostB T no0 (pv 0) (pv 1))
(pss_one (ps_ostB T no1 (pv 0) (pv 2)))), ?_⟩
    refine ⟨_, rfl, _, rfl, a, rfl, .inl ⟨ha, fun dx nd ne => ⟨_, rfl, _, rfl, a, rfl, .inr ⟨dx, _, upd_same, (upd_ne ne).trans upd_same, by show 1 ≤ 900; decide, k _ (bar_dx nd (ini_bar nd)) ⟨dx, _, (upd_ne ne.symm).trans upd_same, upd_same, fun g v h => ?_⟩⟩⟩⟩⟩
    simp only [List.zip_cons_cons, List.zip_nil_right, List.mem_cons, List.not_mem_nil, or_false, Prod.mk.injEq] at h
    rcases h with h | h <;> (cases h.1; cases h.2; rfl)
theorem ok_ini_BadText {f C : Addr} {fd : FuncData} (F : Fun K "__init__" "BadText.__init__" s_BadText__init f fd) {B newId initId : String} {bmB : List Value} (T : OexB K C B newId initId bmB) (no0 : PySem.W.findIn K (.ref C) "at" = some none) : FnOk P w K mg base CX0 1 f fd ["self", "at"] (spF C ["at"]) := by
  refine F.ok sc_BadText__init (fun vs H Q E h => ?_) (fun cdv A outer s H vs Q E hr h => ?_)
  · obtain ⟨a, ys, rfl, hl, _⟩ := h
    show ys.length + 1 = _
    rw [hl]
    rfl
  · obtain ⟨a, ys, rfl, hl, ha, k⟩ := h
    obtain ⟨y0, rfl⟩ : ∃ y0, ys = [y0] := by
      match ys, hl with
      | [y0], _ => exact ⟨_, rfl⟩
    refine ⟨_, (pss_one (ps_ostB T no0 (pv 0) (pv 1))), ?_⟩
    refine ⟨_, rfl, _, rfl, a, rfl, .inl ⟨ha, fun dx nd ne => k _ (ini_bar nd) ⟨dx, _, upd_same, (upd_ne ne).trans upd_same, fun g v h => ?_⟩⟩⟩
    simp only [List.zip_cons_cons, List.zip_nil_right, List.mem_cons, List.not_mem_nil, or_false, Prod.mk.injEq] at h
    rcases h with h <;> (cases h.1; cases h.2; rfl)
theorem ok_ini_TooMany {f C : Addr} {fd : FuncData} (F : Fun K "__init__" "TooMany.__init__" s_TooMany__init f fd) {B newId initId : String} {bmB : List Value} (T : OexB K C B newId initId bmB) (no0 : PySem.W.findIn K (.ref C) "what" = some none) : FnOk P w K mg base CX0 1 f fd ["self", "what"] (spF C ["what"]) := by
  refine F.ok sc_TooMany__init (fun vs H Q E h => ?_) (fun cdv A outer s H vs Q E hr h => ?_)
  · obtain ⟨a, ys, rfl, hl, _⟩ := h
    show ys.length + 1 = _
    rw [hl]
    rfl
  · obtain ⟨a, ys, rfl, hl, ha, k⟩ := h
    obtain ⟨y0, rfl⟩ : ∃ y0, ys = [y0] := by
      match ys, hl with
      | [y0], _ => exact ⟨_, rfl⟩
    refine ⟨_, (pss_one (ps_ostB T no0 (pv 0) (pv 1))), ?_⟩
    refine ⟨_, rfl, _, rfl, a, rfl, .inl ⟨ha, fun dx nd ne => k _ (ini_bar nd) ⟨dx, _, upd_same, (upd_ne ne).trans upd_same, fun g v h => ?_⟩⟩⟩
    simp only [List.zip_cons_cons, List.zip_nil_right, List.mem_cons, List.not_mem_nil, or_false, Prod.mk.injEq] at h
    rcases h with h <;> (cases h.1; cases h.2; rfl)
theorem ok_ini_BadSetting {f C : Addr} {fd : FuncData} (F : Fun K "__init__" "BadSetting.__init__" s_BadSetting__init f fd) {B newId initId : String} {bmB : List Value} (T : OexB K C B newId initId bmB) (no0 : PySem.W.findIn K (.ref C) "what" = some none) : FnOk P w K mg base CX0 1 f fd ["self", "what"] (spF C ["what"]) := by
  refine F.ok sc_BadSetting__init (fun vs H Q E h => ?_) (fun cdv A outer s H vs Q E hr h => ?_)
  · obtain ⟨a, ys, rfl, hl, _⟩ := h
    show ys.length + 1 = _
    rw [hl]
    rfl
  · obtain ⟨a, ys, rfl, hl, ha, k⟩ := h
    obtain ⟨y0, rfl⟩ : ∃ y0, ys = [y0] := by
      match ys, hl with
      | [y0], _ => exact ⟨_, rfl⟩
    refine ⟨_, (pss_one (ps_ostB T no0 (pv 0) (pv 1))), ?_⟩
    refine ⟨_, rfl, _, rfl, a, rfl, .inl ⟨ha, fun dx nd ne => k _ (ini_bar nd) ⟨dx, _, upd_same, (upd_ne ne).trans upd_same, fun g v h => ?_⟩⟩⟩
    simp only [List.zip_cons_cons, List.zip_nil_right, List.mem_cons, List.not_mem_nil, or_false, Prod.mk.injEq] at h
    rcases h with h <;> (cases h.1; cases h.2; rfl)
theorem ok_ini_BadItem {f C : Addr} {fd : FuncData} (F : Fun K "__init__" "BadItem.__init__" s_BadItem__init f fd) {B newId initId : String} {bmB : List Value} (T : OexB K C B newId initId bmB) (no0 : PySem.W.findIn K (.ref C) "at" = some none) : FnOk P w K mg base CX0 1 f fd ["self", "at"] (spF C ["at"]) := by
  refine F.ok sc_BadItem__init (fun vs H Q E h => ?_) (fun cdv A outer s H vs Q E hr h => ?_)
  · obtain ⟨a, ys, rfl, hl, _⟩ := h
    show ys.length + 1 = _
    rw [hl]
    rfl
  · obtain ⟨a, ys, rfl, hl, ha, k⟩ := h
    obtain ⟨y0, rfl⟩ : ∃ y0, ys = [y0] := by
      match ys, hl with
      | [y0], _ => exact ⟨_, rfl⟩
    refine ⟨_, (pss_one (ps_ostB T no0 (pv 0) (pv 1))), ?_⟩
    refine ⟨_, rfl, _, rfl, a, rfl, .inl ⟨ha, fun dx nd ne => k _ (ini_bar nd) ⟨dx, _, upd_same, (upd_ne ne).trans upd_same, fun g v h => ?_⟩⟩⟩
    simp only [List.zip_cons_cons, List.zip_nil_right, List.mem_cons, List.not_mem_nil, or_false, Prod.mk.injEq] at h
    rcases h with h <;> (cases h.1; cases h.2; rfl)
theorem ok_ini_BadCut {f C : Addr} {fd : FuncData} (F : Fun K "__init__" "BadCut.__init__" s_BadCut__init f fd) {B newId initId : String} {bmB : List Value} (T : OexB K C B newId initId bmB) (no0 : PySem.W.findIn K (.ref C) "at" = some none) : FnOk P w K mg base CX0 1 f fd ["self", "at"] (spF C ["at"]) := by
  refine F.ok sc_BadCut__init (fun vs H Q E h => ?_) (fun cdv A outer s H vs Q E hr h => ?_)
  · obtain ⟨a, ys, rfl, hl, _⟩ := h
    show ys.length + 1 = _
    rw [hl]
    rfl
  · obtain ⟨a, ys, rfl, hl, ha, k⟩ := h
    obtain ⟨y0, rfl⟩ : ∃ y0, ys = [y0] := by
      match ys, hl with
      | [y0], _ => exact ⟨_, rfl⟩
    refine ⟨_, (pss_one (ps_ostB T no0 (pv 0) (pv 1))), ?_⟩
    refine ⟨_, rfl, _, rfl, a, rfl, .inl ⟨ha, fun dx nd ne => k _ (ini_bar nd) ⟨dx, _, upd_same, (upd_ne ne).trans upd_same, fun g v h => ?_⟩⟩⟩
    simp only [List.zip_cons_cons, List.zip_nil_right, List.mem_cons, List.not_mem_nil, or_false, Prod.mk.injEq] at h
    rcases h with h <;> (cases h.1; cases h.2; rfl)
theorem ok_ini_BadDealing {f C : Addr} {fd : FuncData} (F : Fun K "__init__" "BadDealing.__init__" s_BadDealing__init f fd) {B newId initId : String} {bmB : List Value} (T : OexB K C B newId initId bmB) (no0 : PySem.W.findIn K (.ref C) "at" = some none) : FnOk P w K mg base CX0 1 f fd ["self", "at"] (spF C ["at"]) := by
  refine F.ok sc_BadDealing__init (fun vs H Q E h => ?_) (fun cdv A outer s H vs Q E hr h => ?_)
  · obtain ⟨a, ys, rfl, hl, _⟩ := h
    show ys.length + 1 = _
    rw [hl]
    rfl
  · obtain ⟨a, ys, rfl, hl, ha, k⟩ := h
    obtain ⟨y0, rfl⟩ : ∃ y0, ys = [y0] := by
      match ys, hl with
      | [y0], _ => exact ⟨_, rfl⟩
    refine ⟨_, (pss_one (ps_ostB T no0 (pv 0) (pv 1))), ?_⟩
    refine ⟨_, rfl, _, rfl, a, rfl, .inl ⟨ha, fun dx nd ne => k _ (ini_bar nd) ⟨dx, _, upd_same, (upd_ne ne).trans upd_same, fun g v h => ?_⟩⟩⟩
    simp only [List.zip_cons_cons, List.zip_nil_right, List.mem_cons, List.not_mem_nil, or_false, Prod.mk.injEq] at h
    rcases h with h <;> (cases h.1; cases h.2; rfl)
theorem ok_ini_NoName {f C : Addr} {fd : FuncData} (F : Fun K "__init__" "NoName.__init__" s_NoName__init f fd) {B newId initId : String} {bmB : List Value} (T : OexB K C B newId initId bmB) (no0 : PySem.W.findIn K (.ref C) "name" = some none) : FnOk P w K mg base CX0 1 f fd ["self", "name"] (spF C ["name"]) := by
  refine F.ok sc_NoName__init (fun vs H Q E h => ?_) (fun cdv A outer s H vs Q E hr h => ?_)
  · obtain ⟨a, ys, rfl, hl, _⟩ := h
    show ys.length + 1 = _
    rw [hl]
    rfl
  · obtain ⟨a, ys, rfl, hl, ha, k⟩ := h
    obtain ⟨y0, rfl⟩ : ∃ y0, ys = [y0] := by
      match ys, hl with
      | [y0], _ => exact ⟨_, rfl⟩
    refine ⟨_, (pss_one (ps_ostB T no0 (pv 0) (pv 1))), ?_⟩
    refine ⟨_, rfl, _, rfl, a, rfl, .inl ⟨ha, fun dx nd ne => k _ (ini_bar nd) ⟨dx, _, upd_same, (upd_ne ne).trans upd_same, fun g v h => ?_⟩⟩⟩
    simp only [List.zip_cons_cons, List.zip_nil_right, List.mem_cons, List.not_mem_nil, or_false, Prod.mk.injEq] at h
    rcases h with h <;> (cases h.1; cases h.2; rfl)
theorem ok_ini_NoWorker {f C : Addr} {fd : FuncData} (F : Fun K "__init__" "NoWorker.__init__" s_NoWorker__init f fd) {B newId initId : String} {bmB : List Value} (T : OexB K C B newId initId bmB) (no0 : PySem.W.findIn K (.ref C) "number" = some none) : FnOk P w K mg base CX0 1 f fd ["self", "number"] (spF C ["number"]) := by
  refine F.ok sc_NoWorker__init (fun vs H Q E h => ?_) (fun cdv A outer s H vs Q E hr h => ?_)
  · obtain ⟨a, ys, rfl, hl, _⟩ := h
    show ys.length + 1 = _
    rw [hl]
    rfl
  · obtain ⟨a, ys, rfl, hl, ha, k⟩ := h
    obtain ⟨y0, rfl⟩ : ∃ y0, ys = [y0] := by
      match ys, hl with
      | [y0], _ => exact ⟨_, rfl⟩
    refine ⟨_, (pss_one (ps_ostB T no0 (pv 0) (pv 1))), ?_⟩
    refine ⟨_, rfl, _, rfl, a, rfl, .inl ⟨ha, fun dx nd ne => k _ (ini_bar nd) ⟨dx, _, upd_same, (upd_ne ne).trans upd_same, fun g v h => ?_⟩⟩⟩
    simp only [List.zip_cons_cons, List.zip_nil_right, List.mem_cons, List.not_mem_nil, or_false, Prod.mk.injEq] at h
    rcases h with h <;> (cases h.1; cases h.2; rfl)
theorem ok_ini_TaskFailed {f C : Addr} {fd : FuncData} (F : Fun K "__init__" "TaskFailed.__init__" s_TaskFailed__init f fd) {B newId initId : String} {bmB : List Value} (T : OexB K C B newId initId bmB) (no0 : PySem.W.findIn K (.ref C) "at" = some none) (no1 : PySem.W.findIn K (.ref C) "told" = some none) (no2 : PySem.W.findIn K (.ref C) "cause" = some none) : FnOk P w K mg base CX0 1 f fd ["self", "at", "told", "cause"] (spF C ["at", "told", "cause"]) := by
  refine F.ok sc_TaskFailed__init (fun vs H Q E h => ?_) (fun cdv A outer s H vs Q E hr h => ?_)
  · obtain ⟨a, ys, rfl, hl, _⟩ := h
    show ys.length + 1 = _
    rw [hl]
    rfl
  · obtain ⟨a, ys, rfl, hl, ha, k⟩ := h
    obtain ⟨y0, y1, y2, rfl⟩ : ∃ y0 y1 y2, ys = [y0, y1, y2] := by
      match ys, hl with
      | [y0, y1, y2], _ => exact ⟨_, _, _, rfl⟩
    refine ⟨_, (pss_cons (ps_ostB T no0 (pv 0) (pv 1))
(pss_cons (ps_ostB T no1 (pv 0) (pv 2))
(pss_one (ps_ostB T no2 (pv 0) (pv 3))))), ?_⟩
    refine ⟨_, rfl, _, rfl, a, rfl, .inl ⟨ha, fun dx nd ne => ⟨_, rfl, _, rfl, a, rfl, .inr ⟨dx, _, upd_same, (upd_ne ne).trans upd_same, by show 1 ≤ 900; decide, ⟨_, rfl, _, rfl, a, rfl, .inr ⟨dx, _, (upd_ne ne.symm).trans upd_same, upd_same, by show 2 ≤ 900; decide, k _ (bar_dx nd (bar_dx nd (ini_bar nd))) ⟨dx, _, (upd_ne ne.symm).trans ((upd_ne ne.symm).trans upd_same), upd_same, fun g v h => ?_⟩⟩⟩⟩⟩⟩⟩
    simp only [List.zip_cons_cons, List.zip_nil_right, List.mem_cons, List.not_mem_nil, or_false, Prod.mk.injEq] at h
    rcases h with h | h | h <;> (cases h.1; cases h.2; rfl)
theorem ok_ini_CannotCross {f C : Addr} {fd : FuncData} (F : Fun K "__init__" "CannotCross.__init__" s_CannotCross__init f fd) {B newId initId : String} {bmB : List Value} (T : OexB K C B newId initId bmB) (no0 : PySem.W.findIn K (.ref C) "at" = some none) (no1 : PySem.W.findIn K (.ref C) "what" = some none) : FnOk P w K mg base CX0 1 f fd ["self", "at", "what"] (spF C ["at", "what"]) := by
  refine F.ok sc_CannotCross__init (fun vs H Q E h => ?_) (fun cdv A outer s H vs Q E hr h => ?_)
  · obtain ⟨a, ys, rfl, hl, _⟩ := h
    show ys.length + 1 = _
    rw [hl]
    rfl
  · obtain ⟨a, ys, rfl, hl, ha, k⟩ := h
    obtain ⟨y0, y1, rfl⟩ : ∃ y0 y1, ys = [y0, y1] := by
      match ys, hl with
      | [y0, y1], _ => exact ⟨_, _, rfl⟩
    refine ⟨_, (pss_cons (ps_ostB T no0 (pv 0) (pv 1))
(pss_one (ps_ostB T no1 (pv 0) (pv 2)))), ?_⟩
    refine ⟨_, rfl, _, rfl, a, rfl, .inl ⟨ha, fun dx nd ne => ⟨_, rfl, _, rfl, a, rfl, .inr ⟨dx, _, upd_same, (upd_ne ne).trans upd_same, by show 1 ≤ 900; decide, k _ (bar_dx nd (ini_bar nd)) ⟨dx, _, (upd_ne ne.symm).trans upd_same, upd_same, fun g v h => ?_⟩⟩⟩⟩⟩
    simp only [List.zip_cons_cons, List.zip_nil_right, List.mem_cons, List.not_mem_nil, or_false, Prod.mk.injEq] at h
    rcases h with h | h <;> (cases h.1; cases h.2; rfl)
theorem nd16 : n16.Nodup := by decide +kernel
theorem nw16 : ("WorkerworldsError" : Str) ∉ n16 := by decide +kernel
theorem ab_t {W : Addr} {T : List String} : Above W (T.map Value.type) := fun v h => by
  obtain ⟨t, _, e⟩ := List.mem_map.mp h
  exact .inr ⟨t, e.symm⟩
theorem ab_V {W : Addr} : Above W tV := ab_t (T := ["ValueError", "Exception", "BaseException", "object"])
theorem ab16 {W : Addr} : ∀ m ∈ m16 W, Above W m := fun m hm => by
  rcases List.mem_append.mp hm with h | h
  · rw [(List.mem_replicate.mp h).2]
    intro v hv
    rcases List.mem_cons.mp hv with e | hv
    · exact .inl e
    · exact ab_V v hv
  · simp only [List.mem_cons, List.not_mem_nil, or_false] at h
    rcases h with rfl | rfl | rfl | rfl | rfl
    · exact ab_t (T := ["LookupError", "Exception", "BaseException", "object"])
    · exact ab_t (T := ["LookupError", "Exception", "BaseException", "object"])
    · exact ab_t (T := ["RuntimeError", "Exception", "BaseException", "object"])
    · exact ab_t (T := ["RuntimeError", "Exception", "BaseException", "object"])
    · exact ab_t (T := ["RuntimeError", "Exception", "BaseException", "object"])
theorem kmV : PySem.W.kitMeta "ValueError" = true := by decide +kernel
theorem kmL : PySem.W.kitMeta "LookupError" = true := by decide +kernel
theorem kmR : PySem.W.kitMeta "RuntimeError" = true := by decide +kernel
section
variable {Ds : List Addr} {W : Addr}
theorem kn_V (TT : Tab K Ds n16 (m16 W) W mW) (EE : ∀ (j : Nat) (D : Addr), Ds[j]? = some D → ExcC K D) {i : Nat} {C : Addr} (h : Ds[i]? = some C) (h11 : i < 11) : Kn K Ds W C (fun j => decide (i = j)) true true false false := by
  obtain ⟨nm, m, e1, e2, c⟩ := TT.at_ i C h
  have em : m = .ref W :: tV := by
    have e3 : (m16 W)[i]? = some (.ref W :: tV) := by
      show (List.replicate 11 (.ref W :: tV) ++ _)[i]? = _
      rw [List.getElem?_append_left (by rw [List.length_replicate]; exact h11), List.getElem?_replicate, if_pos h11]
    rw [e3] at e2
    exact (Option.some.inj e2).symm
  subst em
  exact ⟨EE i C h, c.some, fun j D hD => TT.kit nd16 nw16 ab16 h hD, (c.kit TT.w).trans (congrArg some (by rw [List.contains_eq_mem]; exact decide_eq_true (List.mem_cons_of_mem _ List.mem_cons_self))), (c.kitT kmV).trans rfl, (c.kitT kmL).trans rfl, (c.kitT kmR).trans rfl⟩
theorem noW {C : Addr} {T : List String} (n : W ≠ C) : (Value.ref C :: T.map Value.type).contains (.ref W) = false := by
  rw [List.contains_eq_mem]
  refine decide_eq_false fun h => ?_
  rcases List.mem_cons.mp h with e | h
  · cases e
    exact n rfl
  · obtain ⟨t, _, e⟩ := List.mem_map.mp h
    cases e
theorem kn_L (TT : Tab K Ds n16 (m16 W) W mW) (EE : ∀ (j : Nat) (D : Addr), Ds[j]? = some D → ExcC K D) {i : Nat} {C : Addr} (h : Ds[i]? = some C) (hi : (m16 W)[i]? = some tL) : Kn K Ds W C (fun j => decide (i = j)) false false true false := by
  obtain ⟨nm, m, e1, e2, c⟩ := TT.at_ i C h
  rw [hi] at e2
  cases e2
  exact ⟨EE i C h, c.some, fun j D hD => TT.kit nd16 nw16 ab16 h hD, (c.kit TT.w).trans (congrArg some (noW (T := ["LookupError", "Exception", "BaseException", "object"]) (TT.notW nw16 h))), (c.kitT kmV).trans rfl, (c.kitT kmL).trans rfl, (c.kitT kmR).trans rfl⟩
theorem kn_R (TT : Tab K Ds n16 (m16 W) W mW) (EE : ∀ (j : Nat) (D : Addr), Ds[j]? = some D → ExcC K D) {i : Nat} {C : Addr} (h : Ds[i]? = some C) (hi : (m16 W)[i]? = some tR) : Kn K Ds W C (fun j => decide (i = j)) false false false true := by
  obtain ⟨nm, m, e1, e2, c⟩ := TT.at_ i C h
  rw [hi] at e2
  cases e2
  exact ⟨EE i C h, c.some, fun j D hD => TT.kit nd16 nw16 ab16 h hD, (c.kit TT.w).trans (congrArg some (noW (T := ["RuntimeError", "Exception", "BaseException", "object"]) (TT.notW nw16 h))), (c.kitT kmV).trans rfl, (c.kitT kmL).trans rfl, (c.kitT kmR).trans rfl⟩
theorem kn_W (TT : Tab K Ds n16 (m16 W) W mW) (eW : ExcC K W) : Kn K Ds W W (fun _ => false) true true false false :=
  ⟨eW, TT.w.some, fun j D hD => TT.kitB nw16 ab_V hD, (TT.w.kit TT.w).trans (congrArg some (by rw [List.contains_eq_mem]; exact decide_eq_true List.mem_cons_self)), (TT.w.kitT kmV).trans rfl, (TT.w.kitT kmL).trans rfl, (TT.w.kitT kmR).trans rfl⟩
end
def spR8 (K : PySem.W.Frag) : Sp := fun vs H Q _ => ∃ (p : Addr) (x y z : V), vs = [x, y, z] ∧ DatV K p H x ∧ DatV K p H y ∧ DatV K p H z ∧ ∀ H', Same H H' → Q (.bl true) H'
theorem kd_V : ∀ i : Nat, i < 11 → SeqAt.shaped (kdat (fun j => decide (i = j)) true true false false) = true ∧ SeqAt.shaped (.tuple [.int i, .int 1, .list [.bool true, .bool true, .bool false], .bool false]) = true ∧ PyData.eqv (kdat (fun j => decide (i = j)) true true false false) (.tuple [.int i, .int 1, .list [.bool true, .bool true, .bool false], .bool false]) = true := by decide +kernel
theorem same_step {H Hc : Hp} {l l2 : Addr} {o o' : HO} (n : H l = none) (s : Same H Hc) (n2 : Hc l2 = none) : Same H (upd (upd Hc l2 o) l o') := fun b u e => by
  rw [upd_ne (ne_of_none e n), upd_ne (ne_of_none (s _ _ e) n2)]
  exact s _ _ e
theorem ok_kinds {f D0 D1 D2 D3 D4 D5 D6 D7 D8 D9 D10 D11 D12 D13 D14 D15 W : Addr} {fd : FuncData} (F : Fun K "_law_kinds" "_law_kinds" s_kinds f fd) (T : Top K mg) (G : GC mg D0 D1 D2 D3 D4 D5 D6 D7 D8 D9 D10 D11 D12 D13 D14 D15 W) : FnOk P w K mg base CX0 1 f fd ["_law_e"] (spKinds K [D0, D1, D2, D3, D4, D5, D6, D7, D8, D9, D10, D11, D12, D13, D14, D15] W) := by
  refine F.ok sc_kinds (fun vs H Q E h => ?_) (fun cdv A outer s H vs Q E hr h => ?_)
  · obtain ⟨a, C, b, bw, bv, bl, br, rfl, _⟩ := h
    rfl
  · obtain ⟨a, C, b, bw, bv, bl, br, rfl, hE, n, k⟩ := h
    refine ⟨_, (pss_cons (ps_set (i := 1) sc_kinds.nd rfl (Or.inl rfl) (pe_lst (pa_cons (pe_callB call_isW (by rfl) T.z_isinstance (by decide +kernel) (pa_cons (pv 0) (pa_cons (C8.pe_gc (by rfl) G.g_BadBox) pa_nil))) (pa_cons (pe_callB call_isW (by rfl) T.z_isinstance (by decide +kernel) (pa_cons (pv 0) (pa_cons (C8.pe_gc (by rfl) G.g_BadName) pa_nil))) pa_nil))))
(pss_cons (ps_expr (pe_bm PySem.F.plainAttrs_list PySem.F.slot_list_extend PySem.F.type_list_extend mt_extend (pv 1) (pa_cons (pe_lst (pa_cons (pe_callB call_isW (by rfl) T.z_isinstance (by decide +kernel) (pa_cons (pv 0) (pa_cons (C8.pe_gc (by rfl) G.g_BadWorld) pa_nil))) (pa_cons (pe_callB call_isW (by rfl) T.z_isinstance (by decide +kernel) (pa_cons (pv 0) (pa_cons (C8.pe_gc (by rfl) G.g_BadRow) pa_nil))) pa_nil))) pa_nil)))
(pss_cons (ps_expr (pe_bm PySem.F.plainAttrs_list PySem.F.slot_list_extend PySem.F.type_list_extend mt_extend (pv 1) (pa_cons (pe_lst (pa_cons (pe_callB call_isW (by rfl) T.z_isinstance (by decide +kernel) (pa_cons (pv 0) (pa_cons (C8.pe_gc (by rfl) G.g_BadProgram) pa_nil))) (pa_cons (pe_callB call_isW (by rfl) T.z_isinstance (by decide +kernel) (pa_cons (pv 0) (pa_cons (C8.pe_gc (by rfl) G.g_BadText) pa_nil))) (pa_cons (pe_callB call_isW (by rfl) T.z_isinstance (by decide +kernel) (pa_cons (pv 0) (pa_cons (C8.pe_gc (by rfl) G.g_TooMany) pa_nil))) pa_nil)))) pa_nil)))
(pss_cons (ps_expr (pe_bm PySem.F.plainAttrs_list PySem.F.slot_list_extend PySem.F.type_list_extend mt_extend (pv 1) (pa_cons (pe_lst (pa_cons (pe_callB call_isW (by rfl) T.z_isinstance (by decide +kernel) (pa_cons (pv 0) (pa_cons (C8.pe_gc (by rfl) G.g_BadSetting) pa_nil))) (pa_cons (pe_callB call_isW (by rfl) T.z_isinstance (by decide +kernel) (pa_cons (pv 0) (pa_cons (C8.pe_gc (by rfl) G.g_BadItem) pa_nil))) (pa_cons (pe_callB call_isW (by rfl) T.z_isinstance (by decide +kernel) (pa_cons (pv 0) (pa_cons (C8.pe_gc (by rfl) G.g_BadCut) pa_nil))) pa_nil)))) pa_nil)))
(pss_cons (ps_expr (pe_bm PySem.F.plainAttrs_list PySem.F.slot_list_extend PySem.F.type_list_extend mt_extend (pv 1) (pa_cons (pe_lst (pa_cons (pe_callB call_isW (by rfl) T.z_isinstance (by decide +kernel) (pa_cons (pv 0) (pa_cons (C8.pe_gc (by rfl) G.g_BadDealing) pa_nil))) (pa_cons (pe_callB call_isW (by rfl) T.z_isinstance (by decide +kernel) (pa_cons (pv 0) (pa_cons (C8.pe_gc (by rfl) G.g_NoName) pa_nil))) (pa_cons (pe_callB call_isW (by rfl) T.z_isinstance (by decide +kernel) (pa_cons (pv 0) (pa_cons (C8.pe_gc (by rfl) G.g_NoWorker) pa_nil))) pa_nil)))) pa_nil)))
(pss_cons (ps_expr (pe_bm PySem.F.plainAttrs_list PySem.F.slot_list_extend PySem.F.type_list_extend mt_extend (pv 1) (pa_cons (pe_lst (pa_cons (pe_callB call_isW (by rfl) T.z_isinstance (by decide +kernel) (pa_cons (pv 0) (pa_cons (C8.pe_gc (by rfl) G.g_TaskFailed) pa_nil))) (pa_cons (pe_callB call_isW (by rfl) T.z_isinstance (by decide +kernel) (pa_cons (pv 0) (pa_cons (C8.pe_gc (by rfl) G.g_CannotCross) pa_nil))) (pa_cons (pe_callB call_isW (by rfl) T.z_isinstance (by decide +kernel) (pa_cons (pv 0) (pa_cons (C8.pe_gc (by rfl) G.g_Closed) pa_nil))) pa_nil)))) pa_nil)))
(pss_cons (ps_set (i := 2) sc_kinds.nd rfl (Or.inl rfl) (pe_lst (pa_cons (pe_callB call_isW (by rfl) T.z_isinstance (by decide +kernel) (pa_cons (pv 0) (pa_cons (C8.pe_gc (by rfl) G.g_WorkerworldsError) pa_nil))) (pa_cons (pe_callB call_isW (by rfl) T.z_isinstance (by decide +kernel) (pa_cons (pv 0) (pa_cons (pe_bltn (v := .ty "ValueError") (u := .type "ValueError") (by rfl) T.z_ValueError (by decide +kernel) rfl) pa_nil))) pa_nil))))
(pss_cons (ps_expr (pe_bm PySem.F.plainAttrs_list PySem.F.slot_list_append PySem.F.type_list_append mt_append (pv 2) (pa_cons (pe_callB call_isW (by rfl) T.z_isinstance (by decide +kernel) (pa_cons (pv 0) (pa_cons (pe_bltn (v := .ty "LookupError") (u := .type "LookupError") (by rfl) T.z_LookupError (by decide +kernel) rfl) pa_nil))) pa_nil)))
(pss_cons (ps_set (i := 3) sc_kinds.nd rfl (Or.inl rfl) (pe_ifExp (pt_cmpR op_in_seq pe_bl (pv 1) rfl) (pe_bm PySem.F.plainAttrs_list PySem.F.slot_list_index PySem.F.type_list_index mt_index (pv 1) (pa_cons pe_bl pa_nil)) (pe_un un_neg pe_int)))
(pss_one (ps_ret (pe_tup (pa_cons (pv 3) (pa_cons (pe_bm PySem.F.plainAttrs_list PySem.F.slot_list_count PySem.F.type_list_count (mt_countB (room70 hr)) (pv 1) (pa_cons pe_bl pa_nil)) (pa_cons (pv 2) (pa_cons (pe_callB call_isW (by rfl) T.z_isinstance (by decide +kernel) (pa_cons (pv 0) (pa_cons (pe_bltn (v := .ty "RuntimeError") (u := .type "RuntimeError") (by rfl) T.z_RuntimeError (by decide +kernel) rfl) pa_nil))) pa_nil)))))))))))))))), ?_⟩
    refine ⟨_, rfl, a, C, _, _, _, rfl, hE, n.ex, n.cl, rel_ref, n.k 0 _ rfl, ⟨_, rfl, a, C, _, _, _, rfl, hE, n.ex, n.cl, rel_ref, n.k 1 _ rfl, ⟨by show 2 ≤ sizeLine; decide, fun l hl => ?_⟩⟩⟩
    have s0 := same_new (H := H) (o := .lst [V.bl (b 0), .bl (b 1)]) hl
    have h0 : (upd H l (.lst [V.bl (b 0), .bl (b 1)])) l = some (.lst [V.bl (b 0), .bl (b 1)]) := upd_same
    have e0 := hE.same s0
    generalize (upd H l (.lst [V.bl (b 0), .bl (b 1)])) = H0 at *
    refine ⟨_, rfl, .inl ⟨rfl, _, SqL.of h0⟩, ⟨_, rfl, a, C, _, _, _, rfl, e0, n.ex, n.cl, rel_ref, n.k 2 _ rfl, ⟨_, rfl, a, C, _, _, _, rfl, e0, n.ex, n.cl, rel_ref, n.k 3 _ rfl, ⟨by show 2 ≤ sizeLine; decide, fun l2 hl2 => ⟨l, l2, _, _, rfl, rfl, (same_new hl2) _ _ h0, upd_same, by show 2 + 2 ≤ sizeLine; decide, ?_⟩⟩⟩⟩⟩
    have s1 : Same H (upd (upd H0 l2 (.lst [V.bl (b 2), V.bl (b 3)])) l (.lst [V.bl (b 0), V.bl (b 1), V.bl (b 2), V.bl (b 3)])) := same_step hl s0 hl2
    have h1 : (upd (upd H0 l2 (.lst [V.bl (b 2), V.bl (b 3)])) l (.lst [V.bl (b 0), V.bl (b 1), V.bl (b 2), V.bl (b 3)])) l = some (.lst [V.bl (b 0), V.bl (b 1), V.bl (b 2), V.bl (b 3)]) := upd_same
    have e1 := hE.same s1
    show tSeq _ _ _ _ (upd (upd H0 l2 (.lst [V.bl (b 2), V.bl (b 3)])) l (.lst [V.bl (b 0), V.bl (b 1), V.bl (b 2), V.bl (b 3)]))
    generalize (upd (upd H0 l2 (.lst [V.bl (b 2), V.bl (b 3)])) l (.lst [V.bl (b 0), V.bl (b 1), V.bl (b 2), V.bl (b 3)])) = H1 at *
    refine ⟨_, rfl, .inl ⟨rfl, _, SqL.of h1⟩, ⟨_, rfl, a, C, _, _, _, rfl, e1, n.ex, n.cl, rel_ref, n.k 4 _ rfl, ⟨_, rfl, a, C, _, _, _, rfl, e1, n.ex, n.cl, rel_ref, n.k 5 _ rfl, ⟨_, rfl, a, C, _, _, _, rfl, e1, n.ex, n.cl, rel_ref, n.k 6 _ rfl, ⟨by show 3 ≤ sizeLine; decide, fun l2 hl2 => ⟨l, l2, _, _, rfl, rfl, (same_new hl2) _ _ h1, upd_same, by show 4 + 3 ≤ sizeLine; decide, ?_⟩⟩⟩⟩⟩⟩
    have s2 : Same H (upd (upd H1 l2 (.lst [V.bl (b 4), V.bl (b 5), V.bl (b 6)])) l (.lst [V.bl (b 0), V.bl (b 1), V.bl (b 2), V.bl (b 3), V.bl (b 4), V.bl (b 5), V.bl (b 6)])) := same_step hl s1 hl2
    have h2 : (upd (upd H1 l2 (.lst [V.bl (b 4), V.bl (b 5), V.bl (b 6)])) l (.lst [V.bl (b 0), V.bl (b 1), V.bl (b 2), V.bl (b 3), V.bl (b 4), V.bl (b 5), V.bl (b 6)])) l = some (.lst [V.bl (b 0), V.bl (b 1), V.bl (b 2), V.bl (b 3), V.bl (b 4), V.bl (b 5), V.bl (b 6)]) := upd_same
    have e2 := hE.same s2
    show tSeq _ _ _ _ (upd (upd H1 l2 (.lst [V.bl (b 4), V.bl (b 5), V.bl (b 6)])) l (.lst [V.bl (b 0), V.bl (b 1), V.bl (b 2), V.bl (b 3), V.bl (b 4), V.bl (b 5), V.bl (b 6)]))
    generalize (upd (upd H1 l2 (.lst [V.bl (b 4), V.bl (b 5), V.bl (b 6)])) l (.lst [V.bl (b 0), V.bl (b 1), V.bl (b 2), V.bl (b 3), V.bl (b 4), V.bl (b 5), V.bl (b 6)])) = H2 at *
    refine ⟨_, rfl, .inl ⟨rfl, _, SqL.of h2⟩, ⟨_, rfl, a, C, _, _, _, rfl, e2, n.ex, n.cl, rel_ref, n.k 7 _ rfl, ⟨_, rfl, a, C, _, _, _, rfl, e2, n.ex, n.cl, rel_ref, n.k 8 _ rfl, ⟨_, rfl, a, C, _, _, _, rfl, e2, n.ex, n.cl, rel_ref, n.k 9 _ rfl, ⟨by show 3 ≤ sizeLine; decide, fun l2 hl2 => ⟨l, l2, _, _, rfl, rfl, (same_new hl2) _ _ h2, upd_same, by show 7 + 3 ≤ sizeLine; decide, ?_⟩⟩⟩⟩⟩⟩
    have s3 : Same H (upd (upd H2 l2 (.lst [V.bl (b 7), V.bl (b 8), V.bl (b 9)])) l (.lst [V.bl (b 0), V.bl (b 1), V.bl (b 2), V.bl (b 3), V.bl (b 4), V.bl (b 5), V.bl (b 6), V.bl (b 7), V.bl (b 8), V.bl (b 9)])) := same_step hl s2 hl2
    have h3 : (upd (upd H2 l2 (.lst [V.bl (b 7), V.bl (b 8), V.bl (b 9)])) l (.lst [V.bl (b 0), V.bl (b 1), V.bl (b 2), V.bl (b 3), V.bl (b 4), V.bl (b 5), V.bl (b 6), V.bl (b 7), V.bl (b 8), V.bl (b 9)])) l = some (.lst [V.bl (b 0), V.bl (b 1), V.bl (b 2), V.bl (b 3), V.bl (b 4), V.bl (b 5), V.bl (b 6), V.bl (b 7), V.bl (b 8), V.bl (b 9)]) := upd_same
    have e3 := hE.same s3
    show tSeq _ _ _ _ (upd (upd H2 l2 (.lst [V.bl (b 7), V.bl (b 8), V.bl (b 9)])) l (.lst [V.bl (b 0), V.bl (b 1), V.bl (b 2), V.bl (b 3), V.bl (b 4), V.bl (b 5), V.bl (b 6), V.bl (b 7), V.bl (b 8), V.bl (b 9)]))
    generalize (upd (upd H2 l2 (.lst [V.bl (b 7), V.bl (b 8), V.bl (b 9)])) l (.lst [V.bl (b 0), V.bl (b 1), V.bl (b 2), V.bl (b 3), V.bl (b 4), V.bl (b 5), V.bl (b 6), V.bl (b 7), V.bl (b 8), V.bl (b 9)])) = H3 at *
    refine ⟨_, rfl, .inl ⟨rfl, _, SqL.of h3⟩, ⟨_, rfl, a, C, _, _, _, rfl, e3, n.ex, n.cl, rel_ref, n.k 10 _ rfl, ⟨_, rfl, a, C, _, _, _, rfl, e3, n.ex, n.cl, rel_ref, n.k 11 _ rfl, ⟨_, rfl, a, C, _, _, _, rfl, e3, n.ex, n.cl, rel_ref, n.k 12 _ rfl, ⟨by show 3 ≤ sizeLine; decide, fun l2 hl2 => ⟨l, l2, _, _, rfl, rfl, (same_new hl2) _ _ h3, upd_same, by show 10 + 3 ≤ sizeLine; decide, ?_⟩⟩⟩⟩⟩⟩
    have s4 : Same H (upd (upd H3 l2 (.lst [V.bl (b 10), V.bl (b 11), V.bl (b 12)])) l (.lst [V.bl (b 0), V.bl (b 1), V.bl (b 2), V.bl (b 3), V.bl (b 4), V.bl (b 5), V.bl (b 6), V.bl (b 7), V.bl (b 8), V.bl (b 9), V.bl (b 10), V.bl (b 11), V.bl (b 12)])) := same_step hl s3 hl2
    have h4 : (upd (upd H3 l2 (.lst [V.bl (b 10), V.bl (b 11), V.bl (b 12)])) l (.lst [V.bl (b 0), V.bl (b 1), V.bl (b 2), V.bl (b 3), V.bl (b 4), V.bl (b 5), V.bl (b 6), V.bl (b 7), V.bl (b 8), V.bl (b 9), V.bl (b 10), V.bl (b 11), V.bl (b 12)])) l = some (.lst [V.bl (b 0), V.bl (b 1), V.bl (b 2), V.bl (b 3), V.bl (b 4), V.bl (b 5), V.bl (b 6), V.bl (b 7), V.bl (b 8), V.bl (b 9), V.bl (b 10), V.bl (b 11), V.bl (b 12)]) := upd_same
    have e4 := hE.same s4
    show tSeq _ _ _ _ (upd (upd H3 l2 (.lst [V.bl (b 10), V.bl (b 11), V.bl (b 12)])) l (.lst [V.bl (b 0), V.bl (b 1), V.bl (b 2), V.bl (b 3), V.bl (b 4), V.bl (b 5), V.bl (b 6), V.bl (b 7), V.bl (b 8), V.bl (b 9), V.bl (b 10), V.bl (b 11), V.bl (b 12)]))
    generalize (upd (upd H3 l2 (.lst [V.bl (b 10), V.bl (b 11), V.bl (b 12)])) l (.lst [V.bl (b 0), V.bl (b 1), V.bl (b 2), V.bl (b 3), V.bl (b 4), V.bl (b 5), V.bl (b 6), V.bl (b 7), V.bl (b 8), V.bl (b 9), V.bl (b 10), V.bl (b 11), V.bl (b 12)])) = H4 at *
    refine ⟨_, rfl, .inl ⟨rfl, _, SqL.of h4⟩, ⟨_, rfl, a, C, _, _, _, rfl, e4, n.ex, n.cl, rel_ref, n.k 13 _ rfl, ⟨_, rfl, a, C, _, _, _, rfl, e4, n.ex, n.cl, rel_ref, n.k 14 _ rfl, ⟨_, rfl, a, C, _, _, _, rfl, e4, n.ex, n.cl, rel_ref, n.k 15 _ rfl, ⟨by show 3 ≤ sizeLine; decide, fun l2 hl2 => ⟨l, l2, _, _, rfl, rfl, (same_new hl2) _ _ h4, upd_same, by show 13 + 3 ≤ sizeLine; decide, ?_⟩⟩⟩⟩⟩⟩
    have s5 : Same H (upd (upd H4 l2 (.lst [V.bl (b 13), V.bl (b 14), V.bl (b 15)])) l (.lst [V.bl (b 0), V.bl (b 1), V.bl (b 2), V.bl (b 3), V.bl (b 4), V.bl (b 5), V.bl (b 6), V.bl (b 7), V.bl (b 8), V.bl (b 9), V.bl (b 10), V.bl (b 11), V.bl (b 12), V.bl (b 13), V.bl (b 14), V.bl (b 15)])) := same_step hl s4 hl2
    have h5 : (upd (upd H4 l2 (.lst [V.bl (b 13), V.bl (b 14), V.bl (b 15)])) l (.lst [V.bl (b 0), V.bl (b 1), V.bl (b 2), V.bl (b 3), V.bl (b 4), V.bl (b 5), V.bl (b 6), V.bl (b 7), V.bl (b 8), V.bl (b 9), V.bl (b 10), V.bl (b 11), V.bl (b 12), V.bl (b 13), V.bl (b 14), V.bl (b 15)])) l = some (.lst [V.bl (b 0), V.bl (b 1), V.bl (b 2), V.bl (b 3), V.bl (b 4), V.bl (b 5), V.bl (b 6), V.bl (b 7), V.bl (b 8), V.bl (b 9), V.bl (b 10), V.bl (b 11), V.bl (b 12), V.bl (b 13), V.bl (b 14), V.bl (b 15)]) := upd_same
    have e5 := hE.same s5
    show tSeq _ _ _ _ (upd (upd H4 l2 (.lst [V.bl (b 13), V.bl (b 14), V.bl (b 15)])) l (.lst [V.bl (b 0), V.bl (b 1), V.bl (b 2), V.bl (b 3), V.bl (b 4), V.bl (b 5), V.bl (b 6), V.bl (b 7), V.bl (b 8), V.bl (b 9), V.bl (b 10), V.bl (b 11), V.bl (b 12), V.bl (b 13), V.bl (b 14), V.bl (b 15)]))
    generalize (upd (upd H4 l2 (.lst [V.bl (b 13), V.bl (b 14), V.bl (b 15)])) l (.lst [V.bl (b 0), V.bl (b 1), V.bl (b 2), V.bl (b 3), V.bl (b 4), V.bl (b 5), V.bl (b 6), V.bl (b 7), V.bl (b 8), V.bl (b 9), V.bl (b 10), V.bl (b 11), V.bl (b 12), V.bl (b 13), V.bl (b 14), V.bl (b 15)])) = H5 at *
    refine ⟨_, rfl, a, C, _, _, _, rfl, e5, n.ex, n.cl, rel_ref, n.kw, _, rfl, a, C, _, _, _, rfl, e5, n.ex, n.cl, rel_ty, n.kv, by show 2 ≤ sizeLine; decide, fun m hm => ?_⟩
    have sm := same_new (H := H5) (o := .lst [V.bl bw, .bl bv]) hm
    refine ⟨_, rfl, .inl ⟨rfl, _, SqL.of upd_same⟩, _, rfl, a, C, _, _, _, rfl, e5.same sm, n.ex, n.cl, rel_ty, n.kl, m, _, _, rfl, rfl, upd_same, by show 2 < sizeLine; decide, ?_⟩
    have s6 : Same H5 (upd (upd H5 m (.lst [V.bl bw, .bl bv])) m (.lst [V.bl bw, .bl bv, .bl bl])) := by
      rw [upd_upd]
      exact same_new hm
    have h6l := s6 _ _ h5
    have h6m : (upd (upd H5 m (.lst [V.bl bw, .bl bv])) m (.lst [V.bl bw, .bl bv, .bl bl])) m = some (.lst [V.bl bw, .bl bv, .bl bl]) := upd_same
    have e6 := e5.same s6
    have s06 := s5.trans s6
    show tSeq _ _ _ _ (upd (upd H5 m (.lst [V.bl bw, .bl bv])) m (.lst [V.bl bw, .bl bv, .bl bl]))
    generalize (upd (upd H5 m (.lst [V.bl bw, .bl bv])) m (.lst [V.bl bw, .bl bv, .bl bl])) = H6 at *
    refine ⟨_, rfl, l, _, rfl, .inl (SqL.of h6l), rfl, flat_bl ((List.range 16).map b), _, rfl, ?_⟩
    have hany := any_bl ((List.range 16).map b)
    refine ite_val (C := fun v H' => v = .int (kfst b) ∧ H' = H6) (fun hc Q' q => ?_) (fun hc Q' q => ?_) ?_
    · have hs : (((List.range 16).map b).findIdx? id).isSome = true := by
        rw [List.findIdx?_isSome]
        exact hany.symm.trans hc
      obtain ⟨j, hj⟩ := Option.isSome_iff_exists.mp hs
      obtain ⟨i1, i2⟩ := idx_bl hj
      refine ⟨_, rfl, .inl ⟨rfl, _, SqL.of h6l⟩, l, _, .bl true, j, _, rfl, rfl, SqL.of h6l, rfl, flat_bl ((List.range 16).map b), i1, rfl, i2, q _ _ ⟨?_, rfl⟩⟩
      unfold kfst
      rw [hj]
    · have hs : ((List.range 16).map b).findIdx? id = none := by
        have h2 : (((List.range 16).map b).findIdx? id).isSome = false := by
          rw [List.findIdx?_isSome]
          exact hany.symm.trans hc
        cases h3 : ((List.range 16).map b).findIdx? id with
        | none => rfl
        | some j =>
          rw [h3] at h2
          cases h2
      refine ⟨_, rfl, q _ _ ⟨?_, rfl⟩⟩
      unfold kfst
      rw [hs]
    · rintro v H' ⟨rfl, rfl⟩
      refine ⟨_, rfl, _, rfl, .inl ⟨rfl, _, SqL.of h6l⟩, l, (List.range 16).map b, rfl, rfl, SqL.of h6l, _, rfl, _, rfl, a, C, _, _, _, rfl, e6, n.ex, n.cl, rel_ty, n.kr, by show 4 ≤ sizeLine; decide, fun t ht => ?_⟩
      refine k _ t (s06.trans (same_new ht)) fun H2 s2 => .tup (SqT.of (s2 _ _ upd_same)) (.cons (.int _) (.cons (.int _) (.cons (.lst (SqL.of (s2 _ _ (same_new ht _ _ h6m))) (.cons (.bl _) (.cons (.bl _) (.cons (.bl _) .nil)))) (.cons (.bl _) .nil))))
theorem ok_value {f : Addr} {fd : FuncData} (F : Fun K "_law_value" "_law_value" s_value f fd) (T : Top K mg) (T_take : Cal P w K mg base 1 "_law_take" spTake []) : FnOk P w K mg base CX0 2 f fd ["_law_bag_here"] (spAny K) := by
  refine F.ok sc_value (fun vs H Q E h => ?_) (fun cdv A outer s H vs Q E hr h => ?_)
  · obtain ⟨p, q, rfl, _⟩ := h
    rfl
  · obtain ⟨p, q, rfl, hB, k⟩ := h
    refine ⟨_, (pss_cons (ps_par (i := 1) (j := 2) rfl sc_value.nd rfl rfl (by decide) rfl rfl (by exact (pa_cons (pe_c T_take hr (by decide) (by rfl) (pa_cons (pv 0) (pa_cons pe_int pa_nil))) (pa_cons (pe_op op_sub (pe_c T_take hr (by decide) (by rfl) (pa_cons (pv 0) (pa_cons (pe_op op_pow pe_int pe_int) pa_nil))) (pe_c T_take hr (by decide) (by rfl) (pa_cons (pv 0) (pa_cons (pe_op op_pow pe_int pe_int) pa_nil)))) pa_nil))) rfl)
(pss_cons (ps_if (pt_cmpR op_lt (pv 1) pe_int (nomark _))
(pss_one (ps_ret (pe_ix ix_list (pe_lst (pa_cons pe_non (pa_cons pe_bl (pa_cons pe_bl (pa_cons pe_str pa_nil))))) (pv 1) (fun _ _ => rfl))))
pss_nil)
(pss_cons (ps_if (pt_cmpR op_eq (pv 1) pe_int (nomark _))
(pss_one (ps_ret (pv 2)))
pss_nil)
(pss_cons (ps_if (pt_cmpR op_eq (pv 1) pe_int (nomark _))
(pss_one (ps_ret (pe_lst (pa_cons (pv 2) (pa_cons pe_str (pa_cons (pe_lst (pa_cons pe_bl (pa_cons pe_int pa_nil))) pa_nil))))))
pss_nil)
(pss_cons (ps_if (pt_cmpR op_eq (pv 1) pe_int (nomark _))
(pss_one (ps_ret (pe_tup (pa_cons (pv 2) (pa_cons (pe_tup pa_nil) (pa_cons (pe_tup (pa_cons pe_str (pa_cons pe_non pa_nil))) pa_nil))))))
pss_nil)
(pss_one (ps_ret (pe_op op_add_str (pe_op op_mulStr pe_str (pe_c T_take hr (by decide) (by rfl) (pa_cons (pv 0) (pa_cons pe_int pa_nil)))) pe_str)))))))), ?_⟩
    refine ⟨_, rfl, p, q, 8, rfl, hB, by decide, by decide, fun H1 d b1 hB1 d0 d1 => ⟨_, rfl, _, _, rfl, rfl, ⟨by decide, by decide, by decide⟩, p, q, _, rfl, hB1, by decide +kernel, by decide +kernel, fun H2 i1 b2 hB2 i10 i11 => ⟨_, rfl, _, _, rfl, rfl, ⟨by decide, by decide, by decide⟩, p, q, _, rfl, hB2, by decide +kernel, by decide +kernel, fun H3 i2 b3 hB3 i20 i21 => ⟨_, _, rfl, rfl, ?_⟩⟩⟩⟩
    have hn : (i1 - i2).natAbs < 10 ^ 29 := by
      have h29 : ((10 : Int) ^ (29 : Int).toNat) = 100000000000000000000000000000 := by decide +kernel
      have h29' : (10 : Nat) ^ 29 = 100000000000000000000000000000 := by decide +kernel
      rw [h29] at i11 i21
      rw [h29']
      omega
    have b03 := (b1.trans b2).trans b3
    dsimp only [tNil]
    refine ⟨_, _, rfl, ?_⟩
    refine ⟨_, rfl, _, _, rfl, rfl, _, rfl, ite_b (fun h4 => ?_) (fun h4 => ?_)⟩
    · have h4' := of_decide_eq_true h4
      refine ⟨by show 4 ≤ sizeLine; decide, fun l hl => ⟨_, rfl, ?_⟩⟩
      have kk : ∀ v, DatV K p (upd H3 l (.lst [V.non, .bl true, .bl false, .str (Str.ofString "")])) v → Q v (upd H3 l (.lst [V.non, .bl true, .bl false, .str (Str.ofString "")])) := fun v hv => k _ v (b03.trans (bar_new hl)) (hB3.same (same_new hl)) hv
      obtain ⟨m, rfl⟩ := Int.eq_ofNat_of_zero_le d0
      have hm : m < 4 := by omega
      match m, hm with
      | 0, _ => exact ⟨l, _, _, _, rfl, rfl, SqL.of upd_same, atI_nat (j := 0) rfl, kk _ datV_non⟩
      | 1, _ => exact ⟨l, _, _, _, rfl, rfl, SqL.of upd_same, atI_nat (j := 1) rfl, kk _ (datV_bl _)⟩
      | 2, _ => exact ⟨l, _, _, _, rfl, rfl, SqL.of upd_same, atI_nat (j := 2) rfl, kk _ (datV_bl _)⟩
      | 3, _ => exact ⟨l, _, _, _, rfl, rfl, SqL.of upd_same, atI_nat (j := 3) rfl, kk _ (datV_str (by unfold SmallS; decide +kernel))⟩
    refine ⟨_, rfl, rfl, _, rfl, ite_b (fun _ => ?_) (fun _ => ?_)⟩
    · exact ⟨_, rfl, k _ _ b03 hB3 (datV_num hn)⟩
    refine ⟨_, rfl, rfl, _, rfl, ite_b (fun _ => ?_) (fun _ => ?_)⟩
    · refine ⟨_, rfl, by show 2 ≤ sizeLine; decide, fun l1 hl1 => ⟨by show 3 ≤ sizeLine; decide, fun l2 hl2 => ?_⟩⟩
      have c1 := hB3.same (same_new (o := .lst [V.bl true, .int 1]) hl1)
      exact k _ _ ((b03.trans (bar_new hl1)).trans (bar_new hl2)) (c1.same (same_new hl2)) (datV_l3 (c1.there hl2) (hB3.there hl1) hn upd_same (same_new hl2 _ _ upd_same))
    refine ⟨_, rfl, rfl, _, rfl, ite_b (fun _ => ?_) (fun _ => ?_)⟩
    · refine ⟨_, rfl, Nat.zero_le _, fun l0 hl0 => ⟨by show 2 ≤ sizeLine; decide, fun l1 hl1 => ⟨by show 3 ≤ sizeLine; decide, fun l2 hl2 => ?_⟩⟩⟩
      have c0 := hB3.same (same_new (o := .tup []) hl0)
      have c1 := c0.same (same_new (o := .tup [V.str (Str.ofString "a"), .non]) hl1)
      exact k _ _ (((b03.trans (bar_new hl0)).trans (bar_new hl1)).trans (bar_new hl2)) (c1.same (same_new hl2)) (datV_t3 (c1.there hl2) (c0.there hl1) (hB3.there hl0) hn upd_same (same_new hl2 _ _ upd_same) (same_new hl2 _ _ (same_new hl1 _ _ upd_same)))
    · refine ⟨_, rfl, p, q, 30, rfl, hB3, by decide, by decide, fun H4 e b4 hB4 e0 e1 => ?_⟩
      obtain ⟨m, rfl⟩ := Int.eq_ofNat_of_zero_le e0
      obtain ⟨a1, a2, a3⟩ := as_small m (by omega)
      refine ⟨_, _, rfl, rfl, a1, _, _, rfl, rfl, ?_, k _ _ (b03.trans b4) hB4 (datV_str a2)⟩
      exact Nat.le_trans (Nat.add_le_add a3 (by decide +kernel : (Str.ofString " {}").length ≤ 3)) (by decide)
set_option maxHeartbeats 0 in
theorem ok_right {f D0 D1 D2 D3 D4 D5 D6 D7 D8 D9 D10 D11 D12 D13 D14 D15 W : Addr} {fd : FuncData} (F : Fun K "_law_are_right" "_law_are_right" s_are_right f fd) (T : Top K mg) (G : GC mg D0 D1 D2 D3 D4 D5 D6 D7 D8 D9 D10 D11 D12 D13 D14 D15 W) (E : Ers P w K mg base D0 D1 D2 D3 D4 D5 D6 D7 D8 D9 D10 D11 D12 D13 D14 D15 W) (TT : Tab K [D0, D1, D2, D3, D4, D5, D6, D7, D8, D9, D10, D11, D12, D13, D14, D15] n16 (m16 W) W mW) (EE : ∀ (j : Nat) (D : Addr), ([D0, D1, D2, D3, D4, D5, D6, D7, D8, D9, D10, D11, D12, D13, D14, D15] : List Addr)[j]? = some D → ExcC K D) (eW : ExcC K W)
    (T_kinds : Cal P w K mg base 1 "_law_kinds" (spKinds K [D0, D1, D2, D3, D4, D5, D6, D7, D8, D9, D10, D11, D12, D13, D14, D15] W) []) : FnG P w K mg base C8.CX0 3 f fd ["_law_one", "_law_other", "_law_third"] (spR8 K) := by
  refine fn_g F sc_are_right (fun vs H Q E h => ?_) (fun cdv A outer s H vs Q E' gd hr h => ?_)
  · obtain ⟨p, x, y, z, rfl, _⟩ := h
    rfl
  · obtain ⟨p, x, y, z, rfl, hx, hy, hz, k⟩ := h
    refine ⟨_, (pss_cons (ps_asg (pe_tup (pa_cons (pe_erx E.e_BadBox hr (by decide) (by rfl) (pa_cons (pv 0) pa_nil)) (pa_cons (pe_erx E.e_BadName hr (by decide) (by rfl) (pa_cons (pv 0) pa_nil)) (pa_cons (pe_erx E.e_BadWorld hr (by decide) (by rfl) (pa_cons (pv 0) pa_nil)) (pa_cons (pe_erx E.e_BadRow hr (by decide) (by rfl) (pa_cons (pv 0) pa_nil)) pa_nil))))) (pg_tup rfl (pgs_cons (pg_name (i := 3) sc_are_right.nd rfl (Or.inl rfl)) (pgs_cons (pg_name (i := 4) sc_are_right.nd rfl (Or.inl rfl)) (pgs_cons (pg_name (i := 5) sc_are_right.nd rfl (Or.inl rfl)) (pgs_cons (pg_name (i := 6) sc_are_right.nd rfl (Or.inl rfl)) pgs_nil))))))
(pss_cons (ps_asg (pe_tup (pa_cons (pe_erx E.e_BadText hr (by decide) (by rfl) (pa_cons (pv 0) pa_nil)) (pa_cons (pe_erx E.e_TooMany hr (by decide) (by rfl) (pa_cons (pv 0) pa_nil)) (pa_cons (pe_erxK E.e_BadSetting hr (by decide) (by rfl) (pv 0)) (pa_cons (pe_erx E.e_BadItem hr (by decide) (by rfl) (pa_cons (pv 0) pa_nil)) pa_nil))))) (pg_tup rfl (pgs_cons (pg_name (i := 7) sc_are_right.nd rfl (Or.inl rfl)) (pgs_cons (pg_name (i := 8) sc_are_right.nd rfl (Or.inl rfl)) (pgs_cons (pg_name (i := 9) sc_are_right.nd rfl (Or.inl rfl)) (pgs_cons (pg_name (i := 10) sc_are_right.nd rfl (Or.inl rfl)) pgs_nil))))))
(pss_cons (ps_par3 (i := 11) (j := 12) (l := 13) rfl sc_are_right.nd rfl rfl rfl (by decide) (by decide) (by decide) rfl rfl rfl (by exact (pa_cons (pe_erx E.e_BadCut hr (by decide) (by rfl) (pa_cons (pv 0) pa_nil)) (pa_cons (pe_erx E.e_BadDealing hr (by decide) (by rfl) (pa_cons (pv 0) pa_nil)) (pa_cons (pe_erx E.e_BadProgram hr (by decide) (by rfl) (pa_cons (pv 0) (pa_cons (pv 1) pa_nil))) pa_nil)))) rfl)
(pss_cons (ps_if (pt_cmpR op_ne (pe_callB (call_reprD gd (room70 hr)) (by rfl) T.z_repr (by decide +kernel) (pa_cons (pe_lst (pa_cons (pe_ef (pv 3)) (pa_cons (pe_ef (pv 4)) (pa_cons (pe_ef (pv 5)) (pa_cons (pe_ef (pv 6)) (pa_cons (pe_ef (pv 7)) pa_nil)))))) pa_nil)) (pe_callB (call_reprD gd (room70 hr)) (by rfl) T.z_repr (by decide +kernel) (pa_cons (pe_op op_rep (pe_lst (pa_cons (pv 0) pa_nil)) pe_int) pa_nil)) (nomark _))
(pss_one (ps_ret pe_bl))
pss_nil)
(pss_cons (ps_if (pt_cmpR op_ne (pe_callB (call_reprD gd (room70 hr)) (by rfl) T.z_repr (by decide +kernel) (pa_cons (pe_lst (pa_cons (pe_ef (pv 8)) (pa_cons (pe_ef (pv 9)) (pa_cons (pe_ef (pv 10)) (pa_cons (pe_ef (pv 11)) (pa_cons (pe_ef (pv 12)) pa_nil)))))) pa_nil)) (pe_callB (call_reprD gd (room70 hr)) (by rfl) T.z_repr (by decide +kernel) (pa_cons (pe_op op_rep (pe_lst (pa_cons (pv 0) pa_nil)) pe_int) pa_nil)) (nomark _))
(pss_one (ps_ret pe_bl))
pss_nil)
(pss_cons (ps_if (pt_cmpR op_ne (pe_callB (call_reprD gd (room70 hr)) (by rfl) T.z_repr (by decide +kernel) (pa_cons (pe_lst (pa_cons (pe_ef (pv 13)) (pa_cons (pe_ef (pv 13)) pa_nil))) pa_nil)) (pe_callB (call_reprD gd (room70 hr)) (by rfl) T.z_repr (by decide +kernel) (pa_cons (pe_lst (pa_cons (pv 0) (pa_cons (pv 1) pa_nil))) pa_nil)) (nomark _))
(pss_one (ps_ret pe_bl))
pss_nil)
(pss_cons (ps_set (i := 14) sc_are_right.nd rfl (Or.inl rfl) (pe_lst (pa_cons (pv 3) (pa_cons (pv 4) (pa_cons (pv 5) (pa_cons (pv 6) (pa_cons (pv 13) pa_nil)))))))
(pss_cons (ps_expr (pe_bm PySem.F.plainAttrs_list PySem.F.slot_list_extend PySem.F.type_list_extend mt_extend (pv 14) (pa_cons (pe_lst (pa_cons (pv 7) (pa_cons (pv 8) (pa_cons (pv 9) (pa_cons (pv 10) (pa_cons (pv 11) (pa_cons (pv 12) pa_nil))))))) pa_nil)))
(pss_cons (ps_for PassesOwn.never rfl (pi_enum (by rfl) T.z_enumerate (pa_cons (pv 14) pa_nil)) (pg_tup rfl (pgs_cons (pg_name (i := 15) sc_are_right.nd rfl (Or.inl rfl)) (pgs_cons (pg_name (i := 16) sc_are_right.nd rfl (Or.inl rfl)) pgs_nil)))
(pss_one (ps_if (pt_cmpR (op_neD hr.units) (pe_c T_kinds hr (by decide) (by rfl) (pa_cons (pv 16) pa_nil)) (pe_tup (pa_cons (pv 15) (pa_cons pe_int (pa_cons (pe_lst (pa_cons pe_bl (pa_cons pe_bl (pa_cons pe_bl pa_nil)))) (pa_cons pe_bl pa_nil))))) (nomark _))
(pss_one (ps_ret pe_bl))
pss_nil)))
(pss_cons (ps_par3 (i := 17) (j := 18) (l := 19) rfl sc_are_right.nd rfl rfl rfl (by decide) (by decide) (by decide) rfl rfl rfl (by exact (pa_cons (pe_erxK E.e_NoName hr (by decide) (by rfl) (pv 0)) (pa_cons (pe_erx E.e_NoWorker hr (by decide) (by rfl) (pa_cons (pv 0) pa_nil)) (pa_cons (pe_erx E.e_TaskFailed hr (by decide) (by rfl) (pa_cons (pv 0) (pa_cons (pv 1) (pa_cons (pv 2) pa_nil)))) pa_nil)))) rfl)
(pss_cons (ps_par3 (i := 20) (j := 21) (l := 22) rfl sc_are_right.nd rfl rfl rfl (by decide) (by decide) (by decide) rfl rfl rfl (by exact (pa_cons (pe_erx E.e_CannotCross hr (by decide) (by rfl) (pa_cons (pv 0) (pa_cons (pv 1) pa_nil))) (pa_cons (pe_er0 E.e_Closed (by rfl)) (pa_cons (pe_er0 E.e_WorkerworldsError (by rfl)) pa_nil)))) rfl)
(pss_cons (ps_if (pt_cmpR op_ne (pe_callB (call_reprD gd (room70 hr)) (by rfl) T.z_repr (by decide +kernel) (pa_cons (pe_lst (pa_cons (pe_ef (pv 17)) (pa_cons (pe_ef (pv 18)) (pa_cons (pe_ef (pv 19)) (pa_cons (pe_ef (pv 19)) (pa_cons (pe_ef (pv 19)) pa_nil)))))) pa_nil)) (pe_callB (call_reprD gd (room70 hr)) (by rfl) T.z_repr (by decide +kernel) (pa_cons (pe_lst (pa_cons (pv 0) (pa_cons (pv 0) (pa_cons (pv 0) (pa_cons (pv 1) (pa_cons (pv 2) pa_nil)))))) pa_nil)) (nomark _))
(pss_one (ps_ret pe_bl))
pss_nil)
(pss_cons (ps_if (pt_cmpR op_ne (pe_callB (call_reprD gd (room70 hr)) (by rfl) T.z_repr (by decide +kernel) (pa_cons (pe_lst (pa_cons (pe_ef (pv 20)) (pa_cons (pe_ef (pv 20)) pa_nil))) pa_nil)) (pe_callB (call_reprD gd (room70 hr)) (by rfl) T.z_repr (by decide +kernel) (pa_cons (pe_lst (pa_cons (pv 0) (pa_cons (pv 1) pa_nil))) pa_nil)) (nomark _))
(pss_one (ps_ret pe_bl))
pss_nil)
(pss_cons (ps_if (pt_cmpR (op_neD hr.units) (pe_c T_kinds hr (by decide) (by rfl) (pa_cons (pv 22) pa_nil)) (pe_tup (pa_cons (pe_un un_neg pe_int) (pa_cons pe_int (pa_cons (pe_lst (pa_cons pe_bl (pa_cons pe_bl (pa_cons pe_bl pa_nil)))) (pa_cons pe_bl pa_nil))))) (nomark _))
(pss_one (ps_ret pe_bl))
pss_nil)
(pss_cons (ps_if (pt_cmpR (op_neD hr.units) (pe_c T_kinds hr (by decide) (by rfl) (pa_cons (pv 17) pa_nil)) (pe_tup (pa_cons pe_int (pa_cons pe_int (pa_cons (pe_lst (pa_cons pe_bl (pa_cons pe_bl (pa_cons pe_bl pa_nil)))) (pa_cons pe_bl pa_nil))))) (nomark _))
(pss_one (ps_ret pe_bl))
pss_nil)
(pss_cons (ps_if (pt_cmpR (op_neD hr.units) (pe_c T_kinds hr (by decide) (by rfl) (pa_cons (pv 18) pa_nil)) (pe_tup (pa_cons pe_int (pa_cons pe_int (pa_cons (pe_lst (pa_cons pe_bl (pa_cons pe_bl (pa_cons pe_bl pa_nil)))) (pa_cons pe_bl pa_nil))))) (nomark _))
(pss_one (ps_ret pe_bl))
pss_nil)
(pss_cons (ps_if (pt_cmpR (op_neD hr.units) (pe_c T_kinds hr (by decide) (by rfl) (pa_cons (pv 19) pa_nil)) (pe_tup (pa_cons pe_int (pa_cons pe_int (pa_cons (pe_op op_rep (pe_lst (pa_cons pe_bl pa_nil)) pe_int) (pa_cons pe_bl pa_nil))))) (nomark _))
(pss_one (ps_ret pe_bl))
pss_nil)
(pss_cons (ps_if (pt_cmpR (op_neD hr.units) (pe_c T_kinds hr (by decide) (by rfl) (pa_cons (pv 20) pa_nil)) (pe_tup (pa_cons pe_int (pa_cons pe_int (pa_cons (pe_op op_rep (pe_lst (pa_cons pe_bl pa_nil)) pe_int) (pa_cons pe_bl pa_nil))))) (nomark _))
(pss_one (ps_ret pe_bl))
pss_nil)
(pss_one (ps_ret (pe_cmpR (op_eqD hr.units) (pe_c T_kinds hr (by decide) (by rfl) (pa_cons (pv 21) pa_nil)) (pe_tup (pa_cons pe_int (pa_cons pe_int (pa_cons (pe_op op_rep (pe_lst (pa_cons pe_bl pa_nil)) pe_int) (pa_cons pe_bl pa_nil))))) (nomark _)))))))))))))))))))))), ?_⟩
    obtain ⟨dx, fx⟩ := hx.dv
    obtain ⟨dy, fy⟩ := hy.dv
    obtain ⟨dz, fz⟩ := hz.dv
    have S := Same.refl H
    refine ⟨_, rfl, by show 1 ≤ 10; decide, fun x_a n_a => ⟨x_a, _, rfl, rfl, upd_same, fun H_a b_a e_a => ⟨rfl, ?_⟩⟩⟩
    have t_a := mkS n_a b_a
    replace S := S.trans t_a
    refine ⟨_, rfl, by show 1 ≤ 10; decide, fun x_b n_b => ⟨x_b, _, rfl, rfl, upd_same, fun H_b b_b e_b => ⟨rfl, ?_⟩⟩⟩
    have t_b := mkS n_b b_b
    replace e_a := e_a.same t_b
    replace S := S.trans t_b
    refine ⟨_, rfl, by show 1 ≤ 10; decide, fun x_c n_c => ⟨x_c, _, rfl, rfl, upd_same, fun H_c b_c e_c => ⟨rfl, ?_⟩⟩⟩
    have t_c := mkS n_c b_c
    replace e_a := e_a.same t_c
    replace e_b := e_b.same t_c
    replace S := S.trans t_c
    refine ⟨_, rfl, by show 1 ≤ 10; decide, fun x_d n_d => ⟨x_d, _, rfl, rfl, upd_same, fun H_d b_d e_d => ⟨rfl, ?_⟩⟩⟩
    have t_d := mkS n_d b_d
    replace e_a := e_a.same t_d
    replace e_b := e_b.same t_d
    replace e_c := e_c.same t_d
    replace S := S.trans t_d
    refine ⟨by show 4 ≤ sizeLine; decide, fun q1 m1 => ?_⟩
    have s1 := same_new (o := (.tup [V.ref x_a, V.ref x_b, V.ref x_c, V.ref x_d])) m1
    replace e_a := e_a.same s1
    replace e_b := e_b.same s1
    replace e_c := e_c.same s1
    replace e_d := e_d.same s1
    replace S := S.trans s1
    refine ⟨q1, _, rfl, SqT.of upd_same, rfl, _, _, rfl, _, _, rfl, _, _, rfl, _, _, rfl, rfl, ?_⟩
    generalize (upd H_d q1 (.tup [V.ref x_a, V.ref x_b, V.ref x_c, V.ref x_d])) = T1 at *
    refine ⟨_, rfl, by show 1 ≤ 10; decide, fun x_f n_f => ⟨x_f, _, rfl, rfl, upd_same, fun H_f b_f e_f => ⟨rfl, ?_⟩⟩⟩
    have t_f := mkS n_f b_f
    replace e_a := e_a.same t_f
    replace e_b := e_b.same t_f
    replace e_c := e_c.same t_f
    replace e_d := e_d.same t_f
    replace S := S.trans t_f
    refine ⟨_, rfl, by show 1 ≤ 10; decide, fun x_g n_g => ⟨x_g, _, rfl, rfl, upd_same, fun H_g b_g e_g => ⟨rfl, ?_⟩⟩⟩
    have t_g := mkS n_g b_g
    replace e_a := e_a.same t_g
    replace e_b := e_b.same t_g
    replace e_c := e_c.same t_g
    replace e_d := e_d.same t_g
    replace e_f := e_f.same t_g
    replace S := S.trans t_g
    refine ⟨_, rfl, fun x_h n_h => ⟨x_h, _, rfl, rfl, upd_same, fun H_h b_h e_h => ⟨rfl, ?_⟩⟩⟩
    have t_h := mkS n_h b_h
    replace e_a := e_a.same t_h
    replace e_b := e_b.same t_h
    replace e_c := e_c.same t_h
    replace e_d := e_d.same t_h
    replace e_f := e_f.same t_h
    replace e_g := e_g.same t_h
    replace S := S.trans t_h
    refine ⟨_, rfl, by show 1 ≤ 10; decide, fun x_p n_p => ⟨x_p, _, rfl, rfl, upd_same, fun H_p b_p e_p => ⟨rfl, ?_⟩⟩⟩
    have t_p := mkS n_p b_p
    replace e_a := e_a.same t_p
    replace e_b := e_b.same t_p
    replace e_c := e_c.same t_p
    replace e_d := e_d.same t_p
    replace e_f := e_f.same t_p
    replace e_g := e_g.same t_p
    replace e_h := e_h.same t_p
    replace S := S.trans t_p
    refine ⟨by show 4 ≤ sizeLine; decide, fun q2 m2 => ?_⟩
    have s2 := same_new (o := (.tup [V.ref x_f, V.ref x_g, V.ref x_h, V.ref x_p])) m2
    replace e_a := e_a.same s2
    replace e_b := e_b.same s2
    replace e_c := e_c.same s2
    replace e_d := e_d.same s2
    replace e_f := e_f.same s2
    replace e_g := e_g.same s2
    replace e_h := e_h.same s2
    replace e_p := e_p.same s2
    replace S := S.trans s2
    refine ⟨q2, _, rfl, SqT.of upd_same, rfl, _, _, rfl, _, _, rfl, _, _, rfl, _, _, rfl, rfl, ?_⟩
    generalize (upd H_p q2 (.tup [V.ref x_f, V.ref x_g, V.ref x_h, V.ref x_p])) = T2 at *
    refine ⟨_, rfl, by show 1 ≤ 10; decide, fun x_q n_q => ⟨x_q, _, rfl, rfl, upd_same, fun H_q b_q e_q => ⟨rfl, ?_⟩⟩⟩
    have t_q := mkS n_q b_q
    replace e_a := e_a.same t_q
    replace e_b := e_b.same t_q
    replace e_c := e_c.same t_q
    replace e_d := e_d.same t_q
    replace e_f := e_f.same t_q
    replace e_g := e_g.same t_q
    replace e_h := e_h.same t_q
    replace e_p := e_p.same t_q
    replace S := S.trans t_q
    refine ⟨_, rfl, by show 1 ≤ 10; decide, fun x_r n_r => ⟨x_r, _, rfl, rfl, upd_same, fun H_r b_r e_r => ⟨rfl, ?_⟩⟩⟩
    have t_r := mkS n_r b_r
    replace e_a := e_a.same t_r
    replace e_b := e_b.same t_r
    replace e_c := e_c.same t_r
    replace e_d := e_d.same t_r
    replace e_f := e_f.same t_r
    replace e_g := e_g.same t_r
    replace e_h := e_h.same t_r
    replace e_p := e_p.same t_r
    replace e_q := e_q.same t_r
    replace S := S.trans t_r
    refine ⟨_, rfl, _, rfl, by show 2 ≤ 10; decide, fun x_s n_s => ⟨x_s, _, rfl, rfl, upd_same, fun H_s b_s e_s => ⟨rfl, ?_⟩⟩⟩
    have t_s := mkS n_s b_s
    replace e_a := e_a.same t_s
    replace e_b := e_b.same t_s
    replace e_c := e_c.same t_s
    replace e_d := e_d.same t_s
    replace e_f := e_f.same t_s
    replace e_g := e_g.same t_s
    replace e_h := e_h.same t_s
    replace e_p := e_p.same t_s
    replace e_q := e_q.same t_s
    replace e_r := e_r.same t_s
    replace S := S.trans t_s
    dsimp only [tNil]
    refine ⟨_, _, _, rfl, ?_⟩
    obtain ⟨d_a, l_a, u1_a, u2_a, u3_a⟩ := id e_a
    obtain ⟨d_b, l_b, u1_b, u2_b, u3_b⟩ := id e_b
    obtain ⟨d_c, l_c, u1_c, u2_c, u3_c⟩ := id e_c
    obtain ⟨d_d, l_d, u1_d, u2_d, u3_d⟩ := id e_d
    obtain ⟨d_f, l_f, u1_f, u2_f, u3_f⟩ := id e_f
    refine ⟨_, rfl, x_a, D0, d_a, l_a, x, rfl, u1_a, u2_a, E.e_BadBox.xf, E.e_BadBox.no _ (by simp), u3_a _ _ (by simp), _, rfl, x_b, D1, d_b, l_b, x, rfl, u1_b, u2_b, E.e_BadName.xf, E.e_BadName.no _ (by simp), u3_b _ _ (by simp), _, rfl, x_c, D2, d_c, l_c, x, rfl, u1_c, u2_c, E.e_BadWorld.xf, E.e_BadWorld.no _ (by simp), u3_c _ _ (by simp), _, rfl, x_d, D3, d_d, l_d, x, rfl, u1_d, u2_d, E.e_BadRow.xf, E.e_BadRow.no _ (by simp), u3_d _ _ (by simp), _, rfl, x_f, D5, d_f, l_f, x, rfl, u1_f, u2_f, E.e_BadText.xf, E.e_BadText.no _ (by simp), u3_f _ _ (by simp), by show 5 ≤ sizeLine; decide, fun r1 k1 => ?_⟩
    have z1 := same_new (o := (.lst [x, x, x, x, x])) k1
    have S1 := S.trans z1
    have F1 : Dvs K p H [x, x, x, x, x] [dx, dx, dx, dx, dx] := .cons fx (.cons fx (.cons fx (.cons fx (.cons fx .nil))))
    refine ⟨.ref r1, .list [dx, dx, dx, dx, dx], rfl, F1.dp S1 upd_same, F1.ok (by show 5 ≤ 8; decide), ?_⟩
    replace e_a := e_a.same z1
    replace e_b := e_b.same z1
    replace e_c := e_c.same z1
    replace e_d := e_d.same z1
    replace e_f := e_f.same z1
    replace e_g := e_g.same z1
    replace e_h := e_h.same z1
    replace e_p := e_p.same z1
    replace e_q := e_q.same z1
    replace e_r := e_r.same z1
    replace e_s := e_s.same z1
    generalize (upd H_s r1 (.lst [x, x, x, x, x])) = R1 at *
    replace S := S1
    refine ⟨_, rfl, by show 1 ≤ sizeLine; decide, fun r1b k1b => ⟨r1b, 5, _, rfl, rfl, upd_same, by decide, by decide, by show 5 ≤ sizeLine; decide, fun r1c k1c => ?_⟩⟩
    have z1b := (same_new (o := .lst [x]) k1b).trans (same_new (o := .lst [x, x, x, x, x]) k1c)
    refine ⟨.ref r1c, .list [dx, dx, dx, dx, dx], rfl, F1.dp (S.trans z1b) upd_same, F1.ok (by show 5 ≤ 8; decide), rfl, _, rfl, ?_⟩
    rw [dec_str_same]
    refine iteF ?_
    show tSeq _ _ _ _ (upd (upd R1 r1b (.lst [x])) r1c (.lst [x, x, x, x, x]))
    replace e_a := e_a.same z1b
    replace e_b := e_b.same z1b
    replace e_c := e_c.same z1b
    replace e_d := e_d.same z1b
    replace e_f := e_f.same z1b
    replace e_g := e_g.same z1b
    replace e_h := e_h.same z1b
    replace e_p := e_p.same z1b
    replace e_q := e_q.same z1b
    replace e_r := e_r.same z1b
    replace e_s := e_s.same z1b
    replace S := S.trans z1b
    generalize (upd (upd R1 r1b (.lst [x])) r1c (.lst [x, x, x, x, x])) = U1 at *
    obtain ⟨d_g, l_g, u1_g, u2_g, u3_g⟩ := id e_g
    obtain ⟨d_h, l_h, u1_h, u2_h, u3_h⟩ := id e_h
    obtain ⟨d_p, l_p, u1_p, u2_p, u3_p⟩ := id e_p
    obtain ⟨d_q, l_q, u1_q, u2_q, u3_q⟩ := id e_q
    obtain ⟨d_r, l_r, u1_r, u2_r, u3_r⟩ := id e_r
    refine ⟨_, rfl, x_g, D6, d_g, l_g, x, rfl, u1_g, u2_g, E.e_TooMany.xf, E.e_TooMany.no _ (by simp), u3_g _ _ (by simp), _, rfl, x_h, D7, d_h, l_h, x, rfl, u1_h, u2_h, E.e_BadSetting.xf, E.e_BadSetting.no _ (by simp), u3_h _ _ (by simp), _, rfl, x_p, D8, d_p, l_p, x, rfl, u1_p, u2_p, E.e_BadItem.xf, E.e_BadItem.no _ (by simp), u3_p _ _ (by simp), _, rfl, x_q, D9, d_q, l_q, x, rfl, u1_q, u2_q, E.e_BadCut.xf, E.e_BadCut.no _ (by simp), u3_q _ _ (by simp), _, rfl, x_r, D10, d_r, l_r, x, rfl, u1_r, u2_r, E.e_BadDealing.xf, E.e_BadDealing.no _ (by simp), u3_r _ _ (by simp), by show 5 ≤ sizeLine; decide, fun r2 k2 => ?_⟩
    have z2 := same_new (o := (.lst [x, x, x, x, x])) k2
    have S1 := S.trans z2
    have F2 : Dvs K p H [x, x, x, x, x] [dx, dx, dx, dx, dx] := .cons fx (.cons fx (.cons fx (.cons fx (.cons fx .nil))))
    refine ⟨.ref r2, .list [dx, dx, dx, dx, dx], rfl, F2.dp S1 upd_same, F2.ok (by show 5 ≤ 8; decide), ?_⟩
    replace e_a := e_a.same z2
    replace e_b := e_b.same z2
    replace e_c := e_c.same z2
    replace e_d := e_d.same z2
    replace e_f := e_f.same z2
    replace e_g := e_g.same z2
    replace e_h := e_h.same z2
    replace e_p := e_p.same z2
    replace e_q := e_q.same z2
    replace e_r := e_r.same z2
    replace e_s := e_s.same z2
    generalize (upd U1 r2 (.lst [x, x, x, x, x])) = R2 at *
    replace S := S1
    refine ⟨_, rfl, by show 1 ≤ sizeLine; decide, fun r2b k2b => ⟨r2b, 5, _, rfl, rfl, upd_same, by decide, by decide, by show 5 ≤ sizeLine; decide, fun r2c k2c => ?_⟩⟩
    have z2b := (same_new (o := .lst [x]) k2b).trans (same_new (o := .lst [x, x, x, x, x]) k2c)
    refine ⟨.ref r2c, .list [dx, dx, dx, dx, dx], rfl, F2.dp (S.trans z2b) upd_same, F2.ok (by show 5 ≤ 8; decide), rfl, _, rfl, ?_⟩
    rw [dec_str_same]
    refine iteF ?_
    show tSeq _ _ _ _ (upd (upd R2 r2b (.lst [x])) r2c (.lst [x, x, x, x, x]))
    replace e_a := e_a.same z2b
    replace e_b := e_b.same z2b
    replace e_c := e_c.same z2b
    replace e_d := e_d.same z2b
    replace e_f := e_f.same z2b
    replace e_g := e_g.same z2b
    replace e_h := e_h.same z2b
    replace e_p := e_p.same z2b
    replace e_q := e_q.same z2b
    replace e_r := e_r.same z2b
    replace e_s := e_s.same z2b
    replace S := S.trans z2b
    generalize (upd (upd R2 r2b (.lst [x])) r2c (.lst [x, x, x, x, x])) = U2 at *
    obtain ⟨d_s, l_s, u1_s, u2_s, u3_s⟩ := id e_s
    obtain ⟨d_s, l_s, u1_s, u2_s, u3_s⟩ := id e_s
    refine ⟨_, rfl, x_s, D4, d_s, l_s, x, rfl, u1_s, u2_s, E.e_BadProgram.xf, E.e_BadProgram.no _ (by simp), u3_s _ _ (by simp), _, rfl, x_s, D4, d_s, l_s, y, rfl, u1_s, u2_s, E.e_BadProgram.xf, E.e_BadProgram.no _ (by simp), u3_s _ _ (by simp), by show 2 ≤ sizeLine; decide, fun r3 k3 => ?_⟩
    have z3 := same_new (o := (.lst [x, y])) k3
    have S1 := S.trans z3
    have F3 : Dvs K p H [x, y] [dx, dy] := .cons fx (.cons fy .nil)
    refine ⟨.ref r3, .list [dx, dy], rfl, F3.dp S1 upd_same, F3.ok (by show 2 ≤ 8; decide), ?_⟩
    replace e_a := e_a.same z3
    replace e_b := e_b.same z3
    replace e_c := e_c.same z3
    replace e_d := e_d.same z3
    replace e_f := e_f.same z3
    replace e_g := e_g.same z3
    replace e_h := e_h.same z3
    replace e_p := e_p.same z3
    replace e_q := e_q.same z3
    replace e_r := e_r.same z3
    replace e_s := e_s.same z3
    generalize (upd U2 r3 (.lst [x, y])) = R3 at *
    replace S := S1
    refine ⟨_, rfl, _, rfl, by show 2 ≤ sizeLine; decide, fun r3b k3b => ?_⟩
    have z3b := same_new (o := (.lst [x, y])) k3b
    refine ⟨.ref r3b, .list [dx, dy], rfl, F3.dp (S.trans z3b) upd_same, F3.ok (by show 2 ≤ 8; decide), rfl, _, rfl, ?_⟩
    rw [dec_str_same]
    refine iteF ?_
    show tSeq _ _ _ _ (upd R3 r3b (.lst [x, y]))
    replace e_a := e_a.same z3b
    replace e_b := e_b.same z3b
    replace e_c := e_c.same z3b
    replace e_d := e_d.same z3b
    replace e_f := e_f.same z3b
    replace e_g := e_g.same z3b
    replace e_h := e_h.same z3b
    replace e_p := e_p.same z3b
    replace e_q := e_q.same z3b
    replace e_r := e_r.same z3b
    replace e_s := e_s.same z3b
    replace S := S.trans z3b
    generalize (upd R3 r3b (.lst [x, y])) = U3 at *
    refine ⟨_, rfl, _, rfl, _, rfl, _, rfl, _, rfl, by show 5 ≤ sizeLine; decide, fun L nL => ?_⟩
    refine ⟨_, rfl, .inl ⟨rfl, _, SqL.of upd_same⟩, _, rfl, _, rfl, _, rfl, _, rfl, _, rfl, _, rfl, by show 6 ≤ sizeLine; decide, fun L2 nL2 => ⟨L, L2, _, _, rfl, rfl, (same_new nL2) _ _ upd_same, upd_same, by show 5 + 6 ≤ sizeLine; decide, ?_⟩⟩
    have sL : Same U3 (upd (upd (upd U3 L (.lst [V.ref x_a, V.ref x_b, V.ref x_c, V.ref x_d, V.ref x_s])) L2 (.lst [V.ref x_f, V.ref x_g, V.ref x_h, V.ref x_p, V.ref x_q, V.ref x_r])) L (.lst [V.ref x_a, V.ref x_b, V.ref x_c, V.ref x_d, V.ref x_s, V.ref x_f, V.ref x_g, V.ref x_h, V.ref x_p, V.ref x_q, V.ref x_r])) := same_step nL (same_new nL) nL2
    have hL : (upd (upd (upd U3 L (.lst [V.ref x_a, V.ref x_b, V.ref x_c, V.ref x_d, V.ref x_s])) L2 (.lst [V.ref x_f, V.ref x_g, V.ref x_h, V.ref x_p, V.ref x_q, V.ref x_r])) L (.lst [V.ref x_a, V.ref x_b, V.ref x_c, V.ref x_d, V.ref x_s, V.ref x_f, V.ref x_g, V.ref x_h, V.ref x_p, V.ref x_q, V.ref x_r])) L = some (.lst [V.ref x_a, V.ref x_b, V.ref x_c, V.ref x_d, V.ref x_s, V.ref x_f, V.ref x_g, V.ref x_h, V.ref x_p, V.ref x_q, V.ref x_r]) := upd_same
    replace e_a := e_a.same sL
    replace e_b := e_b.same sL
    replace e_c := e_c.same sL
    replace e_d := e_d.same sL
    replace e_f := e_f.same sL
    replace e_g := e_g.same sL
    replace e_h := e_h.same sL
    replace e_p := e_p.same sL
    replace e_q := e_q.same sL
    replace e_r := e_r.same sL
    replace e_s := e_s.same sL
    replace S := S.trans sL
    show tSeq _ _ _ _ (upd (upd (upd U3 L (.lst [V.ref x_a, V.ref x_b, V.ref x_c, V.ref x_d, V.ref x_s])) L2 (.lst [V.ref x_f, V.ref x_g, V.ref x_h, V.ref x_p, V.ref x_q, V.ref x_r])) L (.lst [V.ref x_a, V.ref x_b, V.ref x_c, V.ref x_d, V.ref x_s, V.ref x_f, V.ref x_g, V.ref x_h, V.ref x_p, V.ref x_q, V.ref x_r]))
    generalize (upd (upd (upd U3 L (.lst [V.ref x_a, V.ref x_b, V.ref x_c, V.ref x_d, V.ref x_s])) L2 (.lst [V.ref x_f, V.ref x_g, V.ref x_h, V.ref x_p, V.ref x_q, V.ref x_r])) L (.lst [V.ref x_a, V.ref x_b, V.ref x_c, V.ref x_d, V.ref x_s, V.ref x_f, V.ref x_g, V.ref x_h, V.ref x_p, V.ref x_q, V.ref x_r])) = HS at *
    have all : ∀ (i : Nat) (v : V), ([V.ref x_a, V.ref x_b, V.ref x_c, V.ref x_d, V.ref x_s, V.ref x_f, V.ref x_g, V.ref x_h, V.ref x_p, V.ref x_q, V.ref x_r] : List V)[i]? = some v → ∃ (xx CC : Addr), v = .ref xx ∧ ([D0, D1, D2, D3, D4, D5, D6, D7, D8, D9, D10, D11, D12, D13, D14, D15] : List Addr)[i]? = some CC ∧ ErrW HS xx CC ∧ i < 11 := fun i v h => match i, h with
      | 0, h => by cases h; exact ⟨_, _, rfl, rfl, e_a.w, by decide⟩
      | 1, h => by cases h; exact ⟨_, _, rfl, rfl, e_b.w, by decide⟩
      | 2, h => by cases h; exact ⟨_, _, rfl, rfl, e_c.w, by decide⟩
      | 3, h => by cases h; exact ⟨_, _, rfl, rfl, e_d.w, by decide⟩
      | 4, h => by cases h; exact ⟨_, _, rfl, rfl, e_s.w, by decide⟩
      | 5, h => by cases h; exact ⟨_, _, rfl, rfl, e_f.w, by decide⟩
      | 6, h => by cases h; exact ⟨_, _, rfl, rfl, e_g.w, by decide⟩
      | 7, h => by cases h; exact ⟨_, _, rfl, rfl, e_h.w, by decide⟩
      | 8, h => by cases h; exact ⟨_, _, rfl, rfl, e_p.w, by decide⟩
      | 9, h => by cases h; exact ⟨_, _, rfl, rfl, e_q.w, by decide⟩
      | 10, h => by cases h; exact ⟨_, _, rfl, rfl, e_r.w, by decide⟩
      | n + 11, h => nomatch h
    clear e_a e_b e_c e_d e_f e_g e_h e_p e_q e_r e_s
    refine ⟨_, rfl, L, _, rfl, SqL.of hL, for_it (walk_enum (xs := [V.ref x_a, V.ref x_b, V.ref x_c, V.ref x_d, V.ref x_s, V.ref x_f, V.ref x_g, V.ref x_h, V.ref x_p, V.ref x_q, V.ref x_r])) (fun i σ H' => ∃ v15 v16, σ = [some x, some y, some z, some (.ref x_a), some (.ref x_b), some (.ref x_c), some (.ref x_d), some (.ref x_f), some (.ref x_g), some (.ref x_h), some (.ref x_p), some (.ref x_q), some (.ref x_r), some (.ref x_s), some (.ref L), v15, v16, none, none, none, none, none, none] ∧ Same HS H') ⟨none, none, rfl, Same.refl _⟩ (fun _ _ _ _ ⟨_, _, _, s⟩ => SqL.of (s _ _ hL)) ?_ ?_⟩
    · rintro i x1 σ H1 H1' hi ⟨v15, v16, rfl, s1⟩ ⟨T1, i1, i2, rfl, nT, rfl, hx1, hx2⟩
      obtain ⟨xx, CC, rfl, hC, eW1, h11⟩ := all i _ hx2
      cases hx1
      have sT := same_new (o := .tup [V.int (i : Nat), V.ref xx]) nT
      refine ⟨T1, _, rfl, SqT.of upd_same, rfl, _, _, rfl, _, _, rfl, rfl, ?_⟩
      have e1 := (eW1.same s1).same sT
      have kn := kn_V TT EE hC h11
      obtain ⟨k1, k2, k3⟩ := kd_V i h11
      refine ⟨_, rfl, xx, CC, _, _, _, _, _, rfl, e1, kn, fun H2 t2 s2 dp => ⟨_, rfl, by show 3 ≤ sizeLine; decide, fun l3 n3 => ⟨by show 4 ≤ sizeLine; decide, fun t4 n4 => ?_⟩⟩⟩
      have s34 := (same_new (o := .lst [V.bl true, .bl true, .bl false]) n3).trans (same_new (o := .tup [V.int (i : Nat), .int 1, .ref l3, .bl false]) n4)
      refine ⟨_, .tuple [.int i, .int 1, .list [.bool true, .bool true, .bool false], .bool false], dp _ s34, .tup (SqT.of upd_same) (.cons (.int _) (.cons (.int _) (.cons (.lst (SqL.of (same_new n4 _ _ upd_same)) (.cons (.bl _) (.cons (.bl _) (.cons (.bl _) .nil)))) (.cons (.bl _) .nil)))), k1, k2, _, rfl, ?_⟩
      rw [k3]
      exact iteF ⟨_, _, rfl, (((s1.trans sT).trans s2).trans s34)⟩
    rintro σ HT ⟨v15, v16, rfl, s1⟩
    replace S := S.trans s1
    clear all hL sL
    refine ⟨_, rfl, fun x_t n_t => ⟨x_t, _, rfl, rfl, upd_same, fun H_t b_t e_t => ⟨rfl, ?_⟩⟩⟩
    have t_t := mkS n_t b_t
    replace S := S.trans t_t
    refine ⟨_, rfl, by show 1 ≤ 10; decide, fun x_u n_u => ⟨x_u, _, rfl, rfl, upd_same, fun H_u b_u e_u => ⟨rfl, ?_⟩⟩⟩
    have t_u := mkS n_u b_u
    replace e_t := e_t.same t_u
    replace S := S.trans t_u
    refine ⟨_, rfl, _, rfl, _, rfl, by show 3 ≤ 10; decide, fun x_v n_v => ⟨x_v, _, rfl, rfl, upd_same, fun H_v b_v e_v => ⟨rfl, ?_⟩⟩⟩
    have t_v := mkS n_v b_v
    replace e_t := e_t.same t_v
    replace e_u := e_u.same t_v
    replace S := S.trans t_v
    dsimp only [tNil]
    refine ⟨_, _, _, rfl, ?_⟩
    refine ⟨_, rfl, _, rfl, by show 2 ≤ 10; decide, fun x_w n_w => ⟨x_w, _, rfl, rfl, upd_same, fun H_w b_w e_w => ⟨rfl, ?_⟩⟩⟩
    have t_w := mkS n_w b_w
    replace e_t := e_t.same t_w
    replace e_u := e_u.same t_w
    replace e_v := e_v.same t_w
    replace S := S.trans t_w
    refine fun x_x n_x => ?_
    have t_x := same_new (o := (exo x_x D15 none)) n_x
    have w_x : ErrW (upd H_w x_x (exo x_x D15 none)) x_x D15 := .inl upd_same
    replace e_t := e_t.same t_x
    replace e_u := e_u.same t_x
    replace e_v := e_v.same t_x
    replace e_w := e_w.same t_x
    replace S := S.trans t_x
    refine fun x_base n_base => ?_
    have t_base := same_new (o := (exo x_base W none)) n_base
    have w_base : ErrW (upd (upd H_w x_x (exo x_x D15 none)) x_base (exo x_base W none)) x_base W := .inl upd_same
    replace e_t := e_t.same t_base
    replace e_u := e_u.same t_base
    replace e_v := e_v.same t_base
    replace e_w := e_w.same t_base
    replace w_x := w_x.same t_base
    replace S := S.trans t_base
    dsimp only [tNil]
    refine ⟨_, _, _, rfl, ?_⟩
    generalize (upd (upd H_w x_x (exo x_x D15 none)) x_base (exo x_base W none)) = HX at *
    obtain ⟨d_t, l_t, u1_t, u2_t, u3_t⟩ := id e_t
    obtain ⟨d_u, l_u, u1_u, u2_u, u3_u⟩ := id e_u
    obtain ⟨d_v, l_v, u1_v, u2_v, u3_v⟩ := id e_v
    obtain ⟨d_v, l_v, u1_v, u2_v, u3_v⟩ := id e_v
    obtain ⟨d_v, l_v, u1_v, u2_v, u3_v⟩ := id e_v
    refine ⟨_, rfl, x_t, D11, d_t, l_t, x, rfl, u1_t, u2_t, E.e_NoName.xf, E.e_NoName.no _ (by simp), u3_t _ _ (by simp), _, rfl, x_u, D12, d_u, l_u, x, rfl, u1_u, u2_u, E.e_NoWorker.xf, E.e_NoWorker.no _ (by simp), u3_u _ _ (by simp), _, rfl, x_v, D13, d_v, l_v, x, rfl, u1_v, u2_v, E.e_TaskFailed.xf, E.e_TaskFailed.no _ (by simp), u3_v _ _ (by simp), _, rfl, x_v, D13, d_v, l_v, y, rfl, u1_v, u2_v, E.e_TaskFailed.xf, E.e_TaskFailed.no _ (by simp), u3_v _ _ (by simp), _, rfl, x_v, D13, d_v, l_v, z, rfl, u1_v, u2_v, E.e_TaskFailed.xf, E.e_TaskFailed.no _ (by simp), u3_v _ _ (by simp), by show 5 ≤ sizeLine; decide, fun r4 k4 => ?_⟩
    have z4 := same_new (o := (.lst [x, x, x, y, z])) k4
    have S1 := S.trans z4
    have F4 : Dvs K p H [x, x, x, y, z] [dx, dx, dx, dy, dz] := .cons fx (.cons fx (.cons fx (.cons fy (.cons fz .nil))))
    refine ⟨.ref r4, .list [dx, dx, dx, dy, dz], rfl, F4.dp S1 upd_same, F4.ok (by show 5 ≤ 8; decide), ?_⟩
    replace e_t := e_t.same z4
    replace e_u := e_u.same z4
    replace e_v := e_v.same z4
    replace e_w := e_w.same z4
    replace w_x := w_x.same z4
    replace w_base := w_base.same z4
    generalize (upd HX r4 (.lst [x, x, x, y, z])) = R4 at *
    replace S := S1
    refine ⟨_, rfl, _, rfl, _, rfl, _, rfl, _, rfl, by show 5 ≤ sizeLine; decide, fun r4b k4b => ?_⟩
    have z4b := same_new (o := (.lst [x, x, x, y, z])) k4b
    refine ⟨.ref r4b, .list [dx, dx, dx, dy, dz], rfl, F4.dp (S.trans z4b) upd_same, F4.ok (by show 5 ≤ 8; decide), rfl, _, rfl, ?_⟩
    rw [dec_str_same]
    refine iteF ?_
    show tSeq _ _ _ _ (upd R4 r4b (.lst [x, x, x, y, z]))
    replace e_t := e_t.same z4b
    replace e_u := e_u.same z4b
    replace e_v := e_v.same z4b
    replace e_w := e_w.same z4b
    replace w_x := w_x.same z4b
    replace w_base := w_base.same z4b
    replace S := S.trans z4b
    generalize (upd R4 r4b (.lst [x, x, x, y, z])) = U4 at *
    obtain ⟨d_w, l_w, u1_w, u2_w, u3_w⟩ := id e_w
    obtain ⟨d_w, l_w, u1_w, u2_w, u3_w⟩ := id e_w
    refine ⟨_, rfl, x_w, D14, d_w, l_w, x, rfl, u1_w, u2_w, E.e_CannotCross.xf, E.e_CannotCross.no _ (by simp), u3_w _ _ (by simp), _, rfl, x_w, D14, d_w, l_w, y, rfl, u1_w, u2_w, E.e_CannotCross.xf, E.e_CannotCross.no _ (by simp), u3_w _ _ (by simp), by show 2 ≤ sizeLine; decide, fun r5 k5 => ?_⟩
    have z5 := same_new (o := (.lst [x, y])) k5
    have S1 := S.trans z5
    have F5 : Dvs K p H [x, y] [dx, dy] := .cons fx (.cons fy .nil)
    refine ⟨.ref r5, .list [dx, dy], rfl, F5.dp S1 upd_same, F5.ok (by show 2 ≤ 8; decide), ?_⟩
    replace e_t := e_t.same z5
    replace e_u := e_u.same z5
    replace e_v := e_v.same z5
    replace e_w := e_w.same z5
    replace w_x := w_x.same z5
    replace w_base := w_base.same z5
    generalize (upd U4 r5 (.lst [x, y])) = R5 at *
    replace S := S1
    refine ⟨_, rfl, _, rfl, by show 2 ≤ sizeLine; decide, fun r5b k5b => ?_⟩
    have z5b := same_new (o := (.lst [x, y])) k5b
    refine ⟨.ref r5b, .list [dx, dy], rfl, F5.dp (S.trans z5b) upd_same, F5.ok (by show 2 ≤ 8; decide), rfl, _, rfl, ?_⟩
    rw [dec_str_same]
    refine iteF ?_
    show tSeq _ _ _ _ (upd R5 r5b (.lst [x, y]))
    replace e_t := e_t.same z5b
    replace e_u := e_u.same z5b
    replace e_v := e_v.same z5b
    replace e_w := e_w.same z5b
    replace w_x := w_x.same z5b
    replace w_base := w_base.same z5b
    replace S := S.trans z5b
    generalize (upd R5 r5b (.lst [x, y])) = U5 at *
    have kn1 := kn_W TT eW
    refine ⟨_, rfl, x_base, W, _, _, _, _, _, rfl, w_base, kn1, fun J1 t1 s1 dp => ⟨_, rfl, by show 3 ≤ sizeLine; decide, fun l1 n1 => ⟨by show 4 ≤ sizeLine; decide, fun q1q m1q => ?_⟩⟩⟩
    have c1 := (same_new (o := .lst [V.bl true, V.bl true, V.bl false]) n1).trans (same_new (o := .tup [V.int (-1), .int 0, .ref l1, .bl false]) m1q)
    refine ⟨_, .tuple [.int (-1), .int 0, .list [.bool true, .bool true, .bool false], .bool false], dp _ c1, .tup (SqT.of upd_same) (.cons (.int _) (.cons (.int _) (.cons (.lst (SqL.of (same_new m1q _ _ upd_same)) (.cons (.bl _) (.cons (.bl _) (.cons (.bl _) .nil)))) (.cons (.bl _) .nil)))), by decide +kernel, by decide +kernel, ?_⟩
    have k1k : PyData.eqv (kdat (fun _ => false) true true false false) (.tuple [.int (-1), .int 0, .list [.bool true, .bool true, .bool false], .bool false]) = true := by decide +kernel
    rw [k1k]
    refine ⟨_, rfl, iteF ?_⟩
    have s1s := s1.trans c1
    replace e_t := e_t.same s1s
    replace e_u := e_u.same s1s
    replace e_v := e_v.same s1s
    replace e_w := e_w.same s1s
    replace w_x := w_x.same s1s
    replace w_base := w_base.same s1s
    replace S := S.trans s1s
    clear c1
    have kn2 := kn_L TT EE (i := 11) rfl rfl
    refine ⟨_, rfl, x_t, D11, _, _, _, _, _, rfl, e_t.w, kn2, fun J2 t2 s2 dp => ⟨by show 3 ≤ sizeLine; decide, fun l2 n2 => ⟨by show 4 ≤ sizeLine; decide, fun q2q m2q => ?_⟩⟩⟩
    have c2 := (same_new (o := .lst [V.bl false, V.bl false, V.bl true]) n2).trans (same_new (o := .tup [V.int (11), .int 1, .ref l2, .bl false]) m2q)
    refine ⟨_, .tuple [.int (11), .int 1, .list [.bool false, .bool false, .bool true], .bool false], dp _ c2, .tup (SqT.of upd_same) (.cons (.int _) (.cons (.int _) (.cons (.lst (SqL.of (same_new m2q _ _ upd_same)) (.cons (.bl _) (.cons (.bl _) (.cons (.bl _) .nil)))) (.cons (.bl _) .nil)))), by decide +kernel, by decide +kernel, ?_⟩
    have k2k : PyData.eqv (kdat (fun j => decide (11 = j)) false false true false) (.tuple [.int (11), .int 1, .list [.bool false, .bool false, .bool true], .bool false]) = true := by decide +kernel
    rw [k2k]
    refine ⟨_, rfl, iteF ?_⟩
    have s2s := s2.trans c2
    replace e_t := e_t.same s2s
    replace e_u := e_u.same s2s
    replace e_v := e_v.same s2s
    replace e_w := e_w.same s2s
    replace w_x := w_x.same s2s
    replace w_base := w_base.same s2s
    replace S := S.trans s2s
    clear c2
    have kn3 := kn_L TT EE (i := 12) rfl rfl
    refine ⟨_, rfl, x_u, D12, _, _, _, _, _, rfl, e_u.w, kn3, fun J3 t3 s3 dp => ⟨by show 3 ≤ sizeLine; decide, fun l3 n3 => ⟨by show 4 ≤ sizeLine; decide, fun q3q m3q => ?_⟩⟩⟩
    have c3 := (same_new (o := .lst [V.bl false, V.bl false, V.bl true]) n3).trans (same_new (o := .tup [V.int (12), .int 1, .ref l3, .bl false]) m3q)
    refine ⟨_, .tuple [.int (12), .int 1, .list [.bool false, .bool false, .bool true], .bool false], dp _ c3, .tup (SqT.of upd_same) (.cons (.int _) (.cons (.int _) (.cons (.lst (SqL.of (same_new m3q _ _ upd_same)) (.cons (.bl _) (.cons (.bl _) (.cons (.bl _) .nil)))) (.cons (.bl _) .nil)))), by decide +kernel, by decide +kernel, ?_⟩
    have k3k : PyData.eqv (kdat (fun j => decide (12 = j)) false false true false) (.tuple [.int (12), .int 1, .list [.bool false, .bool false, .bool true], .bool false]) = true := by decide +kernel
    rw [k3k]
    refine ⟨_, rfl, iteF ?_⟩
    have s3s := s3.trans c3
    replace e_t := e_t.same s3s
    replace e_u := e_u.same s3s
    replace e_v := e_v.same s3s
    replace e_w := e_w.same s3s
    replace w_x := w_x.same s3s
    replace w_base := w_base.same s3s
    replace S := S.trans s3s
    clear c3
    have kn4 := kn_R TT EE (i := 13) rfl rfl
    refine ⟨_, rfl, x_v, D13, _, _, _, _, _, rfl, e_v.w, kn4, fun J4 t4 s4 dp => ⟨by show 1 ≤ sizeLine; decide, fun l4a n4a => ⟨l4a, 3, _, rfl, rfl, upd_same, by decide, by decide, by show 3 ≤ sizeLine; decide, fun l4 n4 => ⟨by show 4 ≤ sizeLine; decide, fun q4q m4q => ?_⟩⟩⟩⟩
    have c4 := ((same_new (o := .lst [V.bl false]) n4a).trans (same_new (o := .lst [V.bl false, V.bl false, V.bl false]) n4)).trans (same_new (o := .tup [V.int (13), .int 1, .ref l4, .bl true]) m4q)
    refine ⟨_, .tuple [.int (13), .int 1, .list [.bool false, .bool false, .bool false], .bool true], dp _ c4, .tup (SqT.of upd_same) (.cons (.int _) (.cons (.int _) (.cons (.lst (SqL.of (same_new m4q _ _ upd_same)) (.cons (.bl _) (.cons (.bl _) (.cons (.bl _) .nil)))) (.cons (.bl _) .nil)))), by decide +kernel, by decide +kernel, ?_⟩
    have k4k : PyData.eqv (kdat (fun j => decide (13 = j)) false false false true) (.tuple [.int (13), .int 1, .list [.bool false, .bool false, .bool false], .bool true]) = true := by decide +kernel
    rw [k4k]
    refine ⟨_, rfl, iteF ?_⟩
    have s4s := s4.trans c4
    replace e_t := e_t.same s4s
    replace e_u := e_u.same s4s
    replace e_v := e_v.same s4s
    replace e_w := e_w.same s4s
    replace w_x := w_x.same s4s
    replace w_base := w_base.same s4s
    replace S := S.trans s4s
    clear c4
    have kn5 := kn_R TT EE (i := 14) rfl rfl
    refine ⟨_, rfl, x_w, D14, _, _, _, _, _, rfl, e_w.w, kn5, fun J5 t5 s5 dp => ⟨by show 1 ≤ sizeLine; decide, fun l5a n5a => ⟨l5a, 3, _, rfl, rfl, upd_same, by decide, by decide, by show 3 ≤ sizeLine; decide, fun l5 n5 => ⟨by show 4 ≤ sizeLine; decide, fun q5q m5q => ?_⟩⟩⟩⟩
    have c5 := ((same_new (o := .lst [V.bl false]) n5a).trans (same_new (o := .lst [V.bl false, V.bl false, V.bl false]) n5)).trans (same_new (o := .tup [V.int (14), .int 1, .ref l5, .bl true]) m5q)
    refine ⟨_, .tuple [.int (14), .int 1, .list [.bool false, .bool false, .bool false], .bool true], dp _ c5, .tup (SqT.of upd_same) (.cons (.int _) (.cons (.int _) (.cons (.lst (SqL.of (same_new m5q _ _ upd_same)) (.cons (.bl _) (.cons (.bl _) (.cons (.bl _) .nil)))) (.cons (.bl _) .nil)))), by decide +kernel, by decide +kernel, ?_⟩
    have k5k : PyData.eqv (kdat (fun j => decide (14 = j)) false false false true) (.tuple [.int (14), .int 1, .list [.bool false, .bool false, .bool false], .bool true]) = true := by decide +kernel
    rw [k5k]
    refine ⟨_, rfl, iteF ?_⟩
    have s5s := s5.trans c5
    replace e_t := e_t.same s5s
    replace e_u := e_u.same s5s
    replace e_v := e_v.same s5s
    replace e_w := e_w.same s5s
    replace w_x := w_x.same s5s
    replace w_base := w_base.same s5s
    replace S := S.trans s5s
    clear c5
    have kn6 := kn_R TT EE (i := 15) rfl rfl
    refine ⟨_, rfl, x_x, D15, _, _, _, _, _, rfl, w_x, kn6, fun J6 t6 s6 dp => ⟨by show 1 ≤ sizeLine; decide, fun l6a n6a => ⟨l6a, 3, _, rfl, rfl, upd_same, by decide, by decide, by show 3 ≤ sizeLine; decide, fun l6 n6 => ⟨by show 4 ≤ sizeLine; decide, fun q6q m6q => ?_⟩⟩⟩⟩
    have c6 := ((same_new (o := .lst [V.bl false]) n6a).trans (same_new (o := .lst [V.bl false, V.bl false, V.bl false]) n6)).trans (same_new (o := .tup [V.int (15), .int 1, .ref l6, .bl true]) m6q)
    refine ⟨_, .tuple [.int (15), .int 1, .list [.bool false, .bool false, .bool false], .bool true], dp _ c6, .tup (SqT.of upd_same) (.cons (.int _) (.cons (.int _) (.cons (.lst (SqL.of (same_new m6q _ _ upd_same)) (.cons (.bl _) (.cons (.bl _) (.cons (.bl _) .nil)))) (.cons (.bl _) .nil)))), by decide +kernel, by decide +kernel, ?_⟩
    have k6k : PyData.eqv (kdat (fun j => decide (15 = j)) false false false true) (.tuple [.int (15), .int 1, .list [.bool false, .bool false, .bool false], .bool true]) = true := by decide +kernel
    rw [k6k]
    exact k _ (S.trans (s6.trans c6))
theorem ok_law {f : Addr} {fd : FuncData} (F : Fun K "law" "law" s_law f fd) (T : Top K mg) (T_bag : Cal P w K mg base 1 "_law_bag" (spBag K) []) (T_value : Cal P w K mg base 2 "_law_value" (spAny K) []) (T_are_right : CalG P w K mg base 3 "_law_are_right" (spR8 K)) : FnG P w K mg base C8.CX0 4 f fd ["_law_script"] (spLaw K) := by
  refine fn_g F sc_law (fun vs H Q E h => ?_) (fun cdv A outer s H vs Q E gd hr h => ?_)
  · obtain ⟨a, ns, rfl, _⟩ := h
    rfl
  · obtain ⟨a, ns, rfl, hS, hlen, k⟩ := h
    refine ⟨_, (pss_cons (ps_for PassesOwn.never rfl (pi_range1 rfl T.z_range (pa_cons (pe_callB (call_max2 rfl) (by rfl) T.z_max (by decide +kernel) (pa_cons pe_int (pa_cons (pe_callB (call_min2 rfl) (by rfl) T.z_min (by decide +kernel) (pa_cons pe_int (pa_cons (pe_callB call_len_seq (by rfl) T.z_len (by decide +kernel) (pa_cons (pv 0) pa_nil)) pa_nil))) pa_nil))) pa_nil)) (pg_name (i := 1) sc_law.nd rfl (Or.inl rfl))
(pss_cons (ps_set (i := 2) sc_law.nd rfl (Or.inl rfl) (pe_c T_bag hr (by decide) (by rfl) (pa_cons (pv 0) (pa_cons (pv 1) pa_nil))))
(pss_cons (ps_par (i := 3) (j := 4) rfl sc_law.nd rfl rfl (by decide) rfl rfl (by exact (pa_cons (pe_c T_value hr (by decide) (by rfl) (pa_cons (pv 2) pa_nil)) (pa_cons (pe_c T_value hr (by decide) (by rfl) (pa_cons (pv 2) pa_nil)) pa_nil))) rfl)
(pss_one (ps_if (pt_not (pt_truth (pe_cG T_are_right gd hr (by decide) (by rfl) (pa_cons (pv 3) (pa_cons (pv 4) (pa_cons (pe_c T_value hr (by decide) (by rfl) (pa_cons (pv 2) pa_nil)) pa_nil)))) (fun _ => rfl)))
(pss_one (ps_ret pe_bl))
pss_nil)))))
(pss_one (ps_ret pe_bl))), ?_⟩
    refine ⟨_, rfl, a, _, rfl, .inl hS, _, _, rfl, _, _, rfl, _, rfl, ?_, ?_, for_it walk_range (fun i σ H' => ∃ v1 v2 v3 v4, σ = [some (.ref a), v1, v2, v3, v4] ∧ Same H H')
      ⟨none, none, none, none, rfl, Same.refl H⟩ (fun _ _ _ _ _ => trivial) ?_ ?_⟩
    · split <;> split <;> omega
    · split <;> split <;> omega
    · rintro i x0 σ H1 H1' hi ⟨v1, v2, v3, v4, rfl, s1⟩ ⟨rfl, rfl⟩
      have hi2 : i < 63 := by
        revert hi
        split <;> split <;> omega
      refine ⟨_, rfl, _, rfl, a, ns, i, by show [V.ref a, V.int (0 + (i : Int))] = _; rw [Int.zero_add], s1.seq hS, hlen, hi2, fun H2 p q s2 np nq hB => ?_⟩
      have nHp : H p = none := s1.free np
      have s12 := s1.trans s2
      dsimp only [gName]
      refine ⟨_, rfl, p, q, rfl, hB, fun H3 x b3 hB3 hx => ⟨_, rfl, p, q, rfl, hB3, fun H4 y b4 hB4 hy => ?_⟩⟩
      dsimp only [tNil]
      refine ⟨_, _, rfl, ?_⟩
      refine ⟨_, rfl, _, rfl, _, rfl, p, q, rfl, hB4, fun H5 z b5 hB5 hz => ?_⟩
      refine ⟨p, x, y, z, rfl, (hx.bar b4).bar b5, hy.bar b5, hz, fun H6 s6 => ?_⟩
      have sE : Same H H6 := (same_bar s12 nHp ((b3.trans b4).trans b5)).trans s6
      refine ⟨_, rfl, iteF ⟨_, _, _, _, rfl, sE⟩⟩
    · rintro σ H' ⟨v1, v2, v3, v4, rfl, s1⟩
      exact k _
end
theorem all_mk {l : PySem.W.OpenLaw} {w : World} {K : PySem.W.Frag} {h : Heap} {mg : Str → Option Value} {fa C_BadBox C_BadName C_BadWorld C_BadRow C_BadProgram C_BadText C_TooMany C_BadSetting C_BadItem C_BadCut C_BadDealing C_NoName C_NoWorker C_TaskFailed C_CannotCross C_Closed C_WorkerworldsError f_bag f_take f_value f_kinds f_are_right f_law f_BadBox__init f_BadName__init f_BadWorld__init f_BadRow__init f_BadProgram__init f_BadText__init f_TooMany__init f_BadSetting__init f_BadItem__init f_BadCut__init f_BadDealing__init f_NoName__init f_NoWorker__init f_TaskFailed__init f_CannotCross__init : Addr} (X : K.In h) (G : h.Ns mainGlobals mg) (hfa : mg "law" = some (.ref fa))
    {od_bag an_bag od_take an_take od_value an_value od_kinds an_kinds od_are_right an_are_right od_law an_law od_BadBox__init an_BadBox__init od_BadName__init an_BadName__init od_BadWorld__init an_BadWorld__init od_BadRow__init an_BadRow__init od_BadProgram__init an_BadProgram__init od_BadText__init an_BadText__init od_TooMany__init an_TooMany__init od_BadSetting__init an_BadSetting__init od_BadItem__init an_BadItem__init od_BadCut__init an_BadCut__init od_BadDealing__init an_BadDealing__init od_NoName__init an_NoName__init od_NoWorker__init an_NoWorker__init od_TaskFailed__init an_TaskFailed__init od_CannotCross__init an_CannotCross__init : Option Addr} {sl_bag sl_take sl_value sl_kinds sl_are_right sl_law sl_BadBox__init sl_BadName__init sl_BadWorld__init sl_BadRow__init sl_BadProgram__init sl_BadText__init sl_TooMany__init sl_BadSetting__init sl_BadItem__init sl_BadCut__init sl_BadDealing__init sl_NoName__init sl_NoWorker__init sl_TaskFailed__init sl_CannotCross__init : Array (Option Value)} {oc_bag kV_bag dc_bag pm_bag cd_bag ct_bag oc_take kV_take dc_take pm_take cd_take ct_take oc_value kV_value dc_value pm_value cd_value ct_value oc_kinds kV_kinds dc_kinds pm_kinds cd_kinds ct_kinds oc_are_right kV_are_right dc_are_right pm_are_right cd_are_right ct_are_right oc_law kV_law dc_law pm_law cd_law ct_law oc_BadBox__init kV_BadBox__init dc_BadBox__init pm_BadBox__init cd_BadBox__init ct_BadBox__init oc_BadName__init kV_BadName__init dc_BadName__init pm_BadName__init cd_BadName__init ct_BadName__init oc_BadWorld__init kV_BadWorld__init dc_BadWorld__init pm_BadWorld__init cd_BadWorld__init ct_BadWorld__init oc_BadRow__init kV_BadRow__init dc_BadRow__init pm_BadRow__init cd_BadRow__init ct_BadRow__init oc_BadProgram__init kV_BadProgram__init dc_BadProgram__init pm_BadProgram__init cd_BadProgram__init ct_BadProgram__init oc_BadText__init kV_BadText__init dc_BadText__init pm_BadText__init cd_BadText__init ct_BadText__init oc_TooMany__init kV_TooMany__init dc_TooMany__init pm_TooMany__init cd_TooMany__init ct_TooMany__init oc_BadSetting__init kV_BadSetting__init dc_BadSetting__init pm_BadSetting__init cd_BadSetting__init ct_BadSetting__init oc_BadItem__init kV_BadItem__init dc_BadItem__init pm_BadItem__init cd_BadItem__init ct_BadItem__init oc_BadCut__init kV_BadCut__init dc_BadCut__init pm_BadCut__init cd_BadCut__init ct_BadCut__init oc_BadDealing__init kV_BadDealing__init dc_BadDealing__init pm_BadDealing__init cd_BadDealing__init ct_BadDealing__init oc_NoName__init kV_NoName__init dc_NoName__init pm_NoName__init cd_NoName__init ct_NoName__init oc_NoWorker__init kV_NoWorker__init dc_NoWorker__init pm_NoWorker__init cd_NoWorker__init ct_NoWorker__init oc_TaskFailed__init kV_TaskFailed__init dc_TaskFailed__init pm_TaskFailed__init cd_TaskFailed__init ct_TaskFailed__init oc_CannotCross__init kV_CannotCross__init dc_CannotCross__init pm_CannotCross__init cd_CannotCross__init ct_CannotCross__init : Value}  {qxBadBox : Str} {NSBadBox : Addr} {bsBadBox : List Value} {snBadBox : List Str} {subBadBox : List Value} {abBadBox : Bool} {colBadBox : Option Bool} {ddBadBox : Option Addr} {k0BadBox k1BadBox k2BadBox k3BadBox k5BadBox : Option Value} {qxBadName : Str} {NSBadName : Addr} {bsBadName : List Value} {snBadName : List Str} {subBadName : List Value} {abBadName : Bool} {colBadName : Option Bool} {ddBadName : Option Addr} {k0BadName k1BadName k2BadName k3BadName k5BadName : Option Value} {qxBadWorld : Str} {NSBadWorld : Addr} {bsBadWorld : List Value} {snBadWorld : List Str} {subBadWorld : List Value} {abBadWorld : Bool} {colBadWorld : Option Bool} {ddBadWorld : Option Addr} {k0BadWorld k1BadWorld k2BadWorld k3BadWorld k5BadWorld : Option Value} {qxBadRow : Str} {NSBadRow : Addr} {bsBadRow : List Value} {snBadRow : List Str} {subBadRow : List Value} {abBadRow : Bool} {colBadRow : Option Bool} {ddBadRow : Option Addr} {k0BadRow k1BadRow k2BadRow k3BadRow k5BadRow : Option Value} {qxBadProgram : Str} {NSBadProgram : Addr} {bsBadProgram : List Value} {snBadProgram : List Str} {subBadProgram : List Value} {abBadProgram : Bool} {colBadProgram : Option Bool} {ddBadProgram : Option Addr} {k0BadProgram k1BadProgram k2BadProgram k3BadProgram k5BadProgram : Option Value} {qxBadText : Str} {NSBadText : Addr} {bsBadText : List Value} {snBadText : List Str} {subBadText : List Value} {abBadText : Bool} {colBadText : Option Bool} {ddBadText : Option Addr} {k0BadText k1BadText k2BadText k3BadText k5BadText : Option Value} {qxTooMany : Str} {NSTooMany : Addr} {bsTooMany : List Value} {snTooMany : List Str} {subTooMany : List Value} {abTooMany : Bool} {colTooMany : Option Bool} {ddTooMany : Option Addr} {k0TooMany k1TooMany k2TooMany k3TooMany k5TooMany : Option Value} {qxBadSetting : Str} {NSBadSetting : Addr} {bsBadSetting : List Value} {snBadSetting : List Str} {subBadSetting : List Value} {abBadSetting : Bool} {colBadSetting : Option Bool} {ddBadSetting : Option Addr} {k0BadSetting k1BadSetting k2BadSetting k3BadSetting k5BadSetting : Option Value} {qxBadItem : Str} {NSBadItem : Addr} {bsBadItem : List Value} {snBadItem : List Str} {subBadItem : List Value} {abBadItem : Bool} {colBadItem : Option Bool} {ddBadItem : Option Addr} {k0BadItem k1BadItem k2BadItem k3BadItem k5BadItem : Option Value} {qxBadCut : Str} {NSBadCut : Addr} {bsBadCut : List Value} {snBadCut : List Str} {subBadCut : List Value} {abBadCut : Bool} {colBadCut : Option Bool} {ddBadCut : Option Addr} {k0BadCut k1BadCut k2BadCut k3BadCut k5BadCut : Option Value} {qxBadDealing : Str} {NSBadDealing : Addr} {bsBadDealing : List Value} {snBadDealing : List Str} {subBadDealing : List Value} {abBadDealing : Bool} {colBadDealing : Option Bool} {ddBadDealing : Option Addr} {k0BadDealing k1BadDealing k2BadDealing k3BadDealing k5BadDealing : Option Value} {qxNoName : Str} {NSNoName : Addr} {bsNoName : List Value} {snNoName : List Str} {subNoName : List Value} {abNoName : Bool} {colNoName : Option Bool} {ddNoName : Option Addr} {k0NoName k1NoName k2NoName k3NoName k5NoName : Option Value} {qxNoWorker : Str} {NSNoWorker : Addr} {bsNoWorker : List Value} {snNoWorker : List Str} {subNoWorker : List Value} {abNoWorker : Bool} {colNoWorker : Option Bool} {ddNoWorker : Option Addr} {k0NoWorker k1NoWorker k2NoWorker k3NoWorker k5NoWorker : Option Value} {qxTaskFailed : Str} {NSTaskFailed : Addr} {bsTaskFailed : List Value} {snTaskFailed : List Str} {subTaskFailed : List Value} {abTaskFailed : Bool} {colTaskFailed : Option Bool} {ddTaskFailed : Option Addr} {k0TaskFailed k1TaskFailed k2TaskFailed k3TaskFailed k5TaskFailed : Option Value} {qxCannotCross : Str} {NSCannotCross : Addr} {bsCannotCross : List Value} {snCannotCross : List Str} {subCannotCross : List Value} {abCannotCross : Bool} {colCannotCross : Option Bool} {ddCannotCross : Option Addr} {k0CannotCross k1CannotCross k2CannotCross k3CannotCross k5CannotCross : Option Value} {qxClosed : Str} {NSClosed : Addr} {bsClosed : List Value} {snClosed : List Str} {subClosed : List Value} {abClosed : Bool} {colClosed : Option Bool} {ddClosed : Option Addr} {k0Closed k1Closed k2Closed k3Closed k5Closed : Option Value} {qxWorkerworldsError : Str} {NSWorkerworldsError : Addr} {bsWorkerworldsError : List Value} {snWorkerworldsError : List Str} {subWorkerworldsError : List Value} {abWorkerworldsError : Bool} {colWorkerworldsError : Option Bool} {ddWorkerworldsError : Option Addr} {k0WorkerworldsError k1WorkerworldsError k2WorkerworldsError k3WorkerworldsError k5WorkerworldsError : Option Value}
    (aC_BadBox : PySem.W.nsIn K mainGlobals "BadBox" = some (some (.ref C_BadBox)))
    (aC_BadName : PySem.W.nsIn K mainGlobals "BadName" = some (some (.ref C_BadName)))
    (aC_BadWorld : PySem.W.nsIn K mainGlobals "BadWorld" = some (some (.ref C_BadWorld)))
    (aC_BadRow : PySem.W.nsIn K mainGlobals "BadRow" = some (some (.ref C_BadRow)))
    (aC_BadProgram : PySem.W.nsIn K mainGlobals "BadProgram" = some (some (.ref C_BadProgram)))
    (aC_BadText : PySem.W.nsIn K mainGlobals "BadText" = some (some (.ref C_BadText)))
    (aC_TooMany : PySem.W.nsIn K mainGlobals "TooMany" = some (some (.ref C_TooMany)))
    (aC_BadSetting : PySem.W.nsIn K mainGlobals "BadSetting" = some (some (.ref C_BadSetting)))
    (aC_BadItem : PySem.W.nsIn K mainGlobals "BadItem" = some (some (.ref C_BadItem)))
    (aC_BadCut : PySem.W.nsIn K mainGlobals "BadCut" = some (some (.ref C_BadCut)))
    (aC_BadDealing : PySem.W.nsIn K mainGlobals "BadDealing" = some (some (.ref C_BadDealing)))
    (aC_NoName : PySem.W.nsIn K mainGlobals "NoName" = some (some (.ref C_NoName)))
    (aC_NoWorker : PySem.W.nsIn K mainGlobals "NoWorker" = some (some (.ref C_NoWorker)))
    (aC_TaskFailed : PySem.W.nsIn K mainGlobals "TaskFailed" = some (some (.ref C_TaskFailed)))
    (aC_CannotCross : PySem.W.nsIn K mainGlobals "CannotCross" = some (some (.ref C_CannotCross)))
    (aC_Closed : PySem.W.nsIn K mainGlobals "Closed" = some (some (.ref C_Closed)))
    (aC_WorkerworldsError : PySem.W.nsIn K mainGlobals "WorkerworldsError" = some (some (.ref C_WorkerworldsError)))
    (a_bag : PySem.W.nsIn K mainGlobals "_law_bag" = some (some (.ref f_bag)))
    (l_bag : K.lookup f_bag = some ⟨oc_bag, od_bag, .func (PySem.W.fnOf "_law_bag" "_law_bag" (defArgs s_bag) (defBody s_bag) (defScope s_bag) .none kV_bag dc_bag pm_bag an_bag cd_bag ct_bag), sl_bag⟩)
    (c_bag : PySem.W.codeIn K cd_bag "_law_bag" = true)
    (k_bag : PySem.W.keepIn K (.ref f_bag) = true)
    (a_take : PySem.W.nsIn K mainGlobals "_law_take" = some (some (.ref f_take)))
    (l_take : K.lookup f_take = some ⟨oc_take, od_take, .func (PySem.W.fnOf "_law_take" "_law_take" (defArgs s_take) (defBody s_take) (defScope s_take) .none kV_take dc_take pm_take an_take cd_take ct_take), sl_take⟩)
    (c_take : PySem.W.codeIn K cd_take "_law_take" = true)
    (k_take : PySem.W.keepIn K (.ref f_take) = true)
    (a_value : PySem.W.nsIn K mainGlobals "_law_value" = some (some (.ref f_value)))
    (l_value : K.lookup f_value = some ⟨oc_value, od_value, .func (PySem.W.fnOf "_law_value" "_law_value" (defArgs s_value) (defBody s_value) (defScope s_value) .none kV_value dc_value pm_value an_value cd_value ct_value), sl_value⟩)
    (c_value : PySem.W.codeIn K cd_value "_law_value" = true)
    (k_value : PySem.W.keepIn K (.ref f_value) = true)
    (a_kinds : PySem.W.nsIn K mainGlobals "_law_kinds" = some (some (.ref f_kinds)))
    (l_kinds : K.lookup f_kinds = some ⟨oc_kinds, od_kinds, .func (PySem.W.fnOf "_law_kinds" "_law_kinds" (defArgs s_kinds) (defBody s_kinds) (defScope s_kinds) .none kV_kinds dc_kinds pm_kinds an_kinds cd_kinds ct_kinds), sl_kinds⟩)
    (c_kinds : PySem.W.codeIn K cd_kinds "_law_kinds" = true)
    (k_kinds : PySem.W.keepIn K (.ref f_kinds) = true)
    (a_are_right : PySem.W.nsIn K mainGlobals "_law_are_right" = some (some (.ref f_are_right)))
    (l_are_right : K.lookup f_are_right = some ⟨oc_are_right, od_are_right, .func (PySem.W.fnOf "_law_are_right" "_law_are_right" (defArgs s_are_right) (defBody s_are_right) (defScope s_are_right) .none kV_are_right dc_are_right pm_are_right an_are_right cd_are_right ct_are_right), sl_are_right⟩)
    (c_are_right : PySem.W.codeIn K cd_are_right "_law_are_right" = true)
    (k_are_right : PySem.W.keepIn K (.ref f_are_right) = true)
    (a_law : PySem.W.nsIn K mainGlobals "law" = some (some (.ref f_law)))
    (l_law : K.lookup f_law = some ⟨oc_law, od_law, .func (PySem.W.fnOf "law" "law" (defArgs s_law) (defBody s_law) (defScope s_law) .none kV_law dc_law pm_law an_law cd_law ct_law), sl_law⟩)
    (c_law : PySem.W.codeIn K cd_law "law" = true)
    (k_law : PySem.W.keepIn K (.ref f_law) = true)
    (a_BadBox__init : PySem.W.findIn K (.ref C_BadBox) "__init__" = some (some (.ref f_BadBox__init)))
    (i_BadBox__init : PySem.W.isFn K (.ref f_BadBox__init) = true)
    (l_BadBox__init : K.lookup f_BadBox__init = some ⟨oc_BadBox__init, od_BadBox__init, .func (PySem.W.fnOf "__init__" "BadBox.__init__" (defArgs s_BadBox__init) (defBody s_BadBox__init) (defScope s_BadBox__init) .none kV_BadBox__init dc_BadBox__init pm_BadBox__init an_BadBox__init cd_BadBox__init ct_BadBox__init), sl_BadBox__init⟩)
    (c_BadBox__init : PySem.W.codeIn K cd_BadBox__init "BadBox.__init__" = true)
    (k_BadBox__init : PySem.W.keepIn K (.ref f_BadBox__init) = true)
    (a_BadName__init : PySem.W.findIn K (.ref C_BadName) "__init__" = some (some (.ref f_BadName__init)))
    (i_BadName__init : PySem.W.isFn K (.ref f_BadName__init) = true)
    (l_BadName__init : K.lookup f_BadName__init = some ⟨oc_BadName__init, od_BadName__init, .func (PySem.W.fnOf "__init__" "BadName.__init__" (defArgs s_BadName__init) (defBody s_BadName__init) (defScope s_BadName__init) .none kV_BadName__init dc_BadName__init pm_BadName__init an_BadName__init cd_BadName__init ct_BadName__init), sl_BadName__init⟩)
    (c_BadName__init : PySem.W.codeIn K cd_BadName__init "BadName.__init__" = true)
    (k_BadName__init : PySem.W.keepIn K (.ref f_BadName__init) = true)
    (a_BadWorld__init : PySem.W.findIn K (.ref C_BadWorld) "__init__" = some (some (.ref f_BadWorld__init)))
    (i_BadWorld__init : PySem.W.isFn K (.ref f_BadWorld__init) = true)
    (l_BadWorld__init : K.lookup f_BadWorld__init = some ⟨oc_BadWorld__init, od_BadWorld__init, .func (PySem.W.fnOf "__init__" "BadWorld.__init__" (defArgs s_BadWorld__init) (defBody s_BadWorld__init) (defScope s_BadWorld__init) .none kV_BadWorld__init dc_BadWorld__init pm_BadWorld__init an_BadWorld__init cd_BadWorld__init ct_BadWorld__init), sl_BadWorld__init⟩)
    (c_BadWorld__init : PySem.W.codeIn K cd_BadWorld__init "BadWorld.__init__" = true)
    (k_BadWorld__init : PySem.W.keepIn K (.ref f_BadWorld__init) = true)
    (a_BadRow__init : PySem.W.findIn K (.ref C_BadRow) "__init__" = some (some (.ref f_BadRow__init)))
    (i_BadRow__init : PySem.W.isFn K (.ref f_BadRow__init) = true)
    (l_BadRow__init : K.lookup f_BadRow__init = some ⟨oc_BadRow__init, od_BadRow__init, .func (PySem.W.fnOf "__init__" "BadRow.__init__" (defArgs s_BadRow__init) (defBody s_BadRow__init) (defScope s_BadRow__init) .none kV_BadRow__init dc_BadRow__init pm_BadRow__init an_BadRow__init cd_BadRow__init ct_BadRow__init), sl_BadRow__init⟩)
    (c_BadRow__init : PySem.W.codeIn K cd_BadRow__init "BadRow.__init__" = true)
    (k_BadRow__init : PySem.W.keepIn K (.ref f_BadRow__init) = true)
    (a_BadProgram__init : PySem.W.findIn K (.ref C_BadProgram) "__init__" = some (some (.ref f_BadProgram__init)))
    (i_BadProgram__init : PySem.W.isFn K (.ref f_BadProgram__init) = true)
    (l_BadProgram__init : K.lookup f_BadProgram__init = some ⟨oc_BadProgram__init, od_BadProgram__init, .func (PySem.W.fnOf "__init__" "BadProgram.__init__" (defArgs s_BadProgram__init) (defBody s_BadProgram__init) (defScope s_BadProgram__init) .none kV_BadProgram__init dc_BadProgram__init pm_BadProgram__init an_BadProgram__init cd_BadProgram__init ct_BadProgram__init), sl_BadProgram__init⟩)
    (c_BadProgram__init : PySem.W.codeIn K cd_BadProgram__init "BadProgram.__init__" = true)
    (k_BadProgram__init : PySem.W.keepIn K (.ref f_BadProgram__init) = true)
    (a_BadText__init : PySem.W.findIn K (.ref C_BadText) "__init__" = some (some (.ref f_BadText__init)))
    (i_BadText__init : PySem.W.isFn K (.ref f_BadText__init) = true)
    (l_BadText__init : K.lookup f_BadText__init = some ⟨oc_BadText__init, od_BadText__init, .func (PySem.W.fnOf "__init__" "BadText.__init__" (defArgs s_BadText__init) (defBody s_BadText__init) (defScope s_BadText__init) .none kV_BadText__init dc_BadText__init pm_BadText__init an_BadText__init cd_BadText__init ct_BadText__init), sl_BadText__init⟩)
    (c_BadText__init : PySem.W.codeIn K cd_BadText__init "BadText.__init__" = true)
    (k_BadText__init : PySem.W.keepIn K (.ref f_BadText__init) = true)
    (a_TooMany__init : PySem.W.findIn K (.ref C_TooMany) "__init__" = some (some (.ref f_TooMany__init)))
    (i_TooMany__init : PySem.W.isFn K (.ref f_TooMany__init) = true)
    (l_TooMany__init : K.lookup f_TooMany__init = some ⟨oc_TooMany__init, od_TooMany__init, .func (PySem.W.fnOf "__init__" "TooMany.__init__" (defArgs s_TooMany__init) (defBody s_TooMany__init) (defScope s_TooMany__init) .none kV_TooMany__init dc_TooMany__init pm_TooMany__init an_TooMany__init cd_TooMany__init ct_TooMany__init), sl_TooMany__init⟩)
    (c_TooMany__init : PySem.W.codeIn K cd_TooMany__init "TooMany.__init__" = true)
    (k_TooMany__init : PySem.W.keepIn K (.ref f_TooMany__init) = true)
    (a_BadSetting__init : PySem.W.findIn K (.ref C_BadSetting) "__init__" = some (some (.ref f_BadSetting__init)))
    (i_BadSetting__init : PySem.W.isFn K (.ref f_BadSetting__init) = true)
    (l_BadSetting__init : K.lookup f_BadSetting__init = some ⟨oc_BadSetting__init, od_BadSetting__init, .func (PySem.W.fnOf "__init__" "BadSetting.__init__" (defArgs s_BadSetting__init) (defBody s_BadSetting__init) (defScope s_BadSetting__init) .none kV_BadSetting__init dc_BadSetting__init pm_BadSetting__init an_BadSetting__init cd_BadSetting__init ct_BadSetting__init), sl_BadSetting__init⟩)
    (c_BadSetting__init : PySem.W.codeIn K cd_BadSetting__init "BadSetting.__init__" = true)
    (k_BadSetting__init : PySem.W.keepIn K (.ref f_BadSetting__init) = true)
    (a_BadItem__init : PySem.W.findIn K (.ref C_BadItem) "__init__" = some (some (.ref f_BadItem__init)))
    (i_BadItem__init : PySem.W.isFn K (.ref f_BadItem__init) = true)
    (l_BadItem__init : K.lookup f_BadItem__init = some ⟨oc_BadItem__init, od_BadItem__init, .func (PySem.W.fnOf "__init__" "BadItem.__init__" (defArgs s_BadItem__init) (defBody s_BadItem__init) (defScope s_BadItem__init) .none kV_BadItem__init dc_BadItem__init pm_BadItem__init an_BadItem__init cd_BadItem__init ct_BadItem__init), sl_BadItem__init⟩)
    (c_BadItem__init : PySem.W.codeIn K cd_BadItem__init "BadItem.__init__" = true)
    (k_BadItem__init : PySem.W.keepIn K (.ref f_BadItem__init) = true)
    (a_BadCut__init : PySem.W.findIn K (.ref C_BadCut) "__init__" = some (some (.ref f_BadCut__init)))
    (i_BadCut__init : PySem.W.isFn K (.ref f_BadCut__init) = true)
    (l_BadCut__init : K.lookup f_BadCut__init = some ⟨oc_BadCut__init, od_BadCut__init, .func (PySem.W.fnOf "__init__" "BadCut.__init__" (defArgs s_BadCut__init) (defBody s_BadCut__init) (defScope s_BadCut__init) .none kV_BadCut__init dc_BadCut__init pm_BadCut__init an_BadCut__init cd_BadCut__init ct_BadCut__init), sl_BadCut__init⟩)
    (c_BadCut__init : PySem.W.codeIn K cd_BadCut__init "BadCut.__init__" = true)
    (k_BadCut__init : PySem.W.keepIn K (.ref f_BadCut__init) = true)
    (a_BadDealing__init : PySem.W.findIn K (.ref C_BadDealing) "__init__" = some (some (.ref f_BadDealing__init)))
    (i_BadDealing__init : PySem.W.isFn K (.ref f_BadDealing__init) = true)
    (l_BadDealing__init : K.lookup f_BadDealing__init = some ⟨oc_BadDealing__init, od_BadDealing__init, .func (PySem.W.fnOf "__init__" "BadDealing.__init__" (defArgs s_BadDealing__init) (defBody s_BadDealing__init) (defScope s_BadDealing__init) .none kV_BadDealing__init dc_BadDealing__init pm_BadDealing__init an_BadDealing__init cd_BadDealing__init ct_BadDealing__init), sl_BadDealing__init⟩)
    (c_BadDealing__init : PySem.W.codeIn K cd_BadDealing__init "BadDealing.__init__" = true)
    (k_BadDealing__init : PySem.W.keepIn K (.ref f_BadDealing__init) = true)
    (a_NoName__init : PySem.W.findIn K (.ref C_NoName) "__init__" = some (some (.ref f_NoName__init)))
    (i_NoName__init : PySem.W.isFn K (.ref f_NoName__init) = true)
    (l_NoName__init : K.lookup f_NoName__init = some ⟨oc_NoName__init, od_NoName__init, .func (PySem.W.fnOf "__init__" "NoName.__init__" (defArgs s_NoName__init) (defBody s_NoName__init) (defScope s_NoName__init) .none kV_NoName__init dc_NoName__init pm_NoName__init an_NoName__init cd_NoName__init ct_NoName__init), sl_NoName__init⟩)
    (c_NoName__init : PySem.W.codeIn K cd_NoName__init "NoName.__init__" = true)
    (k_NoName__init : PySem.W.keepIn K (.ref f_NoName__init) = true)
    (a_NoWorker__init : PySem.W.findIn K (.ref C_NoWorker) "__init__" = some (some (.ref f_NoWorker__init)))
    (i_NoWorker__init : PySem.W.isFn K (.ref f_NoWorker__init) = true)
    (l_NoWorker__init : K.lookup f_NoWorker__init = some ⟨oc_NoWorker__init, od_NoWorker__init, .func (PySem.W.fnOf "__init__" "NoWorker.__init__" (defArgs s_NoWorker__init) (defBody s_NoWorker__init) (defScope s_NoWorker__init) .none kV_NoWorker__init dc_NoWorker__init pm_NoWorker__init an_NoWorker__init cd_NoWorker__init ct_NoWorker__init), sl_NoWorker__init⟩)
    (c_NoWorker__init : PySem.W.codeIn K cd_NoWorker__init "NoWorker.__init__" = true)
    (k_NoWorker__init : PySem.W.keepIn K (.ref f_NoWorker__init) = true)
    (a_TaskFailed__init : PySem.W.findIn K (.ref C_TaskFailed) "__init__" = some (some (.ref f_TaskFailed__init)))
    (i_TaskFailed__init : PySem.W.isFn K (.ref f_TaskFailed__init) = true)
    (l_TaskFailed__init : K.lookup f_TaskFailed__init = some ⟨oc_TaskFailed__init, od_TaskFailed__init, .func (PySem.W.fnOf "__init__" "TaskFailed.__init__" (defArgs s_TaskFailed__init) (defBody s_TaskFailed__init) (defScope s_TaskFailed__init) .none kV_TaskFailed__init dc_TaskFailed__init pm_TaskFailed__init an_TaskFailed__init cd_TaskFailed__init ct_TaskFailed__init), sl_TaskFailed__init⟩)
    (c_TaskFailed__init : PySem.W.codeIn K cd_TaskFailed__init "TaskFailed.__init__" = true)
    (k_TaskFailed__init : PySem.W.keepIn K (.ref f_TaskFailed__init) = true)
    (a_CannotCross__init : PySem.W.findIn K (.ref C_CannotCross) "__init__" = some (some (.ref f_CannotCross__init)))
    (i_CannotCross__init : PySem.W.isFn K (.ref f_CannotCross__init) = true)
    (l_CannotCross__init : K.lookup f_CannotCross__init = some ⟨oc_CannotCross__init, od_CannotCross__init, .func (PySem.W.fnOf "__init__" "CannotCross.__init__" (defArgs s_CannotCross__init) (defBody s_CannotCross__init) (defScope s_CannotCross__init) .none kV_CannotCross__init dc_CannotCross__init pm_CannotCross__init an_CannotCross__init cd_CannotCross__init ct_CannotCross__init), sl_CannotCross__init⟩)
    (c_CannotCross__init : PySem.W.codeIn K cd_CannotCross__init "CannotCross.__init__" = true)
    (k_CannotCross__init : PySem.W.keepIn K (.ref f_CannotCross__init) = true)
    (z_len : PySem.W.nsIn K mainGlobals "len" = some none)
    (z_abs : PySem.W.nsIn K mainGlobals "abs" = some none)
    (z_list : PySem.W.nsIn K mainGlobals "list" = some none)
    (z_int : PySem.W.nsIn K mainGlobals "int" = some none)
    (z_isinstance : PySem.W.nsIn K mainGlobals "isinstance" = some none)
    (z_range : PySem.W.nsIn K mainGlobals "range" = some none)
    (z_max : PySem.W.nsIn K mainGlobals "max" = some none)
    (z_min : PySem.W.nsIn K mainGlobals "min" = some none)
    (z_repr : PySem.W.nsIn K mainGlobals "repr" = some none)
    (z_enumerate : PySem.W.nsIn K mainGlobals "enumerate" = some none)
    (z_ValueError : PySem.W.nsIn K mainGlobals "ValueError" = some none)
    (z_LookupError : PySem.W.nsIn K mainGlobals "LookupError" = some none)
    (z_RuntimeError : PySem.W.nsIn K mainGlobals "RuntimeError" = some none)
    (xLBadBox : K.lookup C_BadBox = some (excClassObj "BadBox" qxBadBox C_BadBox NSBadBox bsBadBox [.ref C_WorkerworldsError, .type "ValueError", .type "Exception", .type "BaseException", .type "object"] true snBadBox subBadBox abBadBox colBadBox ddBadBox k0BadBox k1BadBox k2BadBox k3BadBox k5BadBox "ValueError.__new__"))
    (kcBadBox : PySem.W.keepIn K (.ref C_BadBox) = true)
    (gaBadBox : PySem.W.findIn K (.ref C_BadBox) "__getattribute__" = some (some (.builtin "BaseException.__getattribute__")))
    (ggBadBox : PySem.W.findIn K (.ref C_BadBox) "__getattr__" = some none)
    (caBadBox : PySem.W.findIn K (.ref C_BadBox) "__class__" = some (some (.builtin "object.__class__")))
    (saBadBox : PySem.W.findIn K (.ref C_BadBox) "__setattr__" = some (some (.builtin "object.__setattr__")))
    (no0BadBox : PySem.W.findIn K (.ref C_BadBox) "contents" = some none)
    (xLBadName : K.lookup C_BadName = some (excClassObj "BadName" qxBadName C_BadName NSBadName bsBadName [.ref C_WorkerworldsError, .type "ValueError", .type "Exception", .type "BaseException", .type "object"] true snBadName subBadName abBadName colBadName ddBadName k0BadName k1BadName k2BadName k3BadName k5BadName "ValueError.__new__"))
    (kcBadName : PySem.W.keepIn K (.ref C_BadName) = true)
    (gaBadName : PySem.W.findIn K (.ref C_BadName) "__getattribute__" = some (some (.builtin "BaseException.__getattribute__")))
    (ggBadName : PySem.W.findIn K (.ref C_BadName) "__getattr__" = some none)
    (caBadName : PySem.W.findIn K (.ref C_BadName) "__class__" = some (some (.builtin "object.__class__")))
    (saBadName : PySem.W.findIn K (.ref C_BadName) "__setattr__" = some (some (.builtin "object.__setattr__")))
    (no0BadName : PySem.W.findIn K (.ref C_BadName) "name" = some none)
    (xLBadWorld : K.lookup C_BadWorld = some (excClassObj "BadWorld" qxBadWorld C_BadWorld NSBadWorld bsBadWorld [.ref C_WorkerworldsError, .type "ValueError", .type "Exception", .type "BaseException", .type "object"] true snBadWorld subBadWorld abBadWorld colBadWorld ddBadWorld k0BadWorld k1BadWorld k2BadWorld k3BadWorld k5BadWorld "ValueError.__new__"))
    (kcBadWorld : PySem.W.keepIn K (.ref C_BadWorld) = true)
    (gaBadWorld : PySem.W.findIn K (.ref C_BadWorld) "__getattribute__" = some (some (.builtin "BaseException.__getattribute__")))
    (ggBadWorld : PySem.W.findIn K (.ref C_BadWorld) "__getattr__" = some none)
    (caBadWorld : PySem.W.findIn K (.ref C_BadWorld) "__class__" = some (some (.builtin "object.__class__")))
    (saBadWorld : PySem.W.findIn K (.ref C_BadWorld) "__setattr__" = some (some (.builtin "object.__setattr__")))
    (no0BadWorld : PySem.W.findIn K (.ref C_BadWorld) "at" = some none)
    (xLBadRow : K.lookup C_BadRow = some (excClassObj "BadRow" qxBadRow C_BadRow NSBadRow bsBadRow [.ref C_WorkerworldsError, .type "ValueError", .type "Exception", .type "BaseException", .type "object"] true snBadRow subBadRow abBadRow colBadRow ddBadRow k0BadRow k1BadRow k2BadRow k3BadRow k5BadRow "ValueError.__new__"))
    (kcBadRow : PySem.W.keepIn K (.ref C_BadRow) = true)
    (gaBadRow : PySem.W.findIn K (.ref C_BadRow) "__getattribute__" = some (some (.builtin "BaseException.__getattribute__")))
    (ggBadRow : PySem.W.findIn K (.ref C_BadRow) "__getattr__" = some none)
    (caBadRow : PySem.W.findIn K (.ref C_BadRow) "__class__" = some (some (.builtin "object.__class__")))
    (saBadRow : PySem.W.findIn K (.ref C_BadRow) "__setattr__" = some (some (.builtin "object.__setattr__")))
    (no0BadRow : PySem.W.findIn K (.ref C_BadRow) "row" = some none)
    (xLBadProgram : K.lookup C_BadProgram = some (excClassObj "BadProgram" qxBadProgram C_BadProgram NSBadProgram bsBadProgram [.ref C_WorkerworldsError, .type "ValueError", .type "Exception", .type "BaseException", .type "object"] true snBadProgram subBadProgram abBadProgram colBadProgram ddBadProgram k0BadProgram k1BadProgram k2BadProgram k3BadProgram k5BadProgram "ValueError.__new__"))
    (kcBadProgram : PySem.W.keepIn K (.ref C_BadProgram) = true)
    (gaBadProgram : PySem.W.findIn K (.ref C_BadProgram) "__getattribute__" = some (some (.builtin "BaseException.__getattribute__")))
    (ggBadProgram : PySem.W.findIn K (.ref C_BadProgram) "__getattr__" = some none)
    (caBadProgram : PySem.W.findIn K (.ref C_BadProgram) "__class__" = some (some (.builtin "object.__class__")))
    (saBadProgram : PySem.W.findIn K (.ref C_BadProgram) "__setattr__" = some (some (.builtin "object.__setattr__")))
    (no0BadProgram : PySem.W.findIn K (.ref C_BadProgram) "part" = some none)
    (no1BadProgram : PySem.W.findIn K (.ref C_BadProgram) "at" = some none)
    (xLBadText : K.lookup C_BadText = some (excClassObj "BadText" qxBadText C_BadText NSBadText bsBadText [.ref C_WorkerworldsError, .type "ValueError", .type "Exception", .type "BaseException", .type "object"] true snBadText subBadText abBadText colBadText ddBadText k0BadText k1BadText k2BadText k3BadText k5BadText "ValueError.__new__"))
    (kcBadText : PySem.W.keepIn K (.ref C_BadText) = true)
    (gaBadText : PySem.W.findIn K (.ref C_BadText) "__getattribute__" = some (some (.builtin "BaseException.__getattribute__")))
    (ggBadText : PySem.W.findIn K (.ref C_BadText) "__getattr__" = some none)
    (caBadText : PySem.W.findIn K (.ref C_BadText) "__class__" = some (some (.builtin "object.__class__")))
    (saBadText : PySem.W.findIn K (.ref C_BadText) "__setattr__" = some (some (.builtin "object.__setattr__")))
    (no0BadText : PySem.W.findIn K (.ref C_BadText) "at" = some none)
    (xLTooMany : K.lookup C_TooMany = some (excClassObj "TooMany" qxTooMany C_TooMany NSTooMany bsTooMany [.ref C_WorkerworldsError, .type "ValueError", .type "Exception", .type "BaseException", .type "object"] true snTooMany subTooMany abTooMany colTooMany ddTooMany k0TooMany k1TooMany k2TooMany k3TooMany k5TooMany "ValueError.__new__"))
    (kcTooMany : PySem.W.keepIn K (.ref C_TooMany) = true)
    (gaTooMany : PySem.W.findIn K (.ref C_TooMany) "__getattribute__" = some (some (.builtin "BaseException.__getattribute__")))
    (ggTooMany : PySem.W.findIn K (.ref C_TooMany) "__getattr__" = some none)
    (caTooMany : PySem.W.findIn K (.ref C_TooMany) "__class__" = some (some (.builtin "object.__class__")))
    (saTooMany : PySem.W.findIn K (.ref C_TooMany) "__setattr__" = some (some (.builtin "object.__setattr__")))
    (no0TooMany : PySem.W.findIn K (.ref C_TooMany) "what" = some none)
    (xLBadSetting : K.lookup C_BadSetting = some (excClassObj "BadSetting" qxBadSetting C_BadSetting NSBadSetting bsBadSetting [.ref C_WorkerworldsError, .type "ValueError", .type "Exception", .type "BaseException", .type "object"] true snBadSetting subBadSetting abBadSetting colBadSetting ddBadSetting k0BadSetting k1BadSetting k2BadSetting k3BadSetting k5BadSetting "ValueError.__new__"))
    (kcBadSetting : PySem.W.keepIn K (.ref C_BadSetting) = true)
    (gaBadSetting : PySem.W.findIn K (.ref C_BadSetting) "__getattribute__" = some (some (.builtin "BaseException.__getattribute__")))
    (ggBadSetting : PySem.W.findIn K (.ref C_BadSetting) "__getattr__" = some none)
    (caBadSetting : PySem.W.findIn K (.ref C_BadSetting) "__class__" = some (some (.builtin "object.__class__")))
    (saBadSetting : PySem.W.findIn K (.ref C_BadSetting) "__setattr__" = some (some (.builtin "object.__setattr__")))
    (no0BadSetting : PySem.W.findIn K (.ref C_BadSetting) "what" = some none)
    (xLBadItem : K.lookup C_BadItem = some (excClassObj "BadItem" qxBadItem C_BadItem NSBadItem bsBadItem [.ref C_WorkerworldsError, .type "ValueError", .type "Exception", .type "BaseException", .type "object"] true snBadItem subBadItem abBadItem colBadItem ddBadItem k0BadItem k1BadItem k2BadItem k3BadItem k5BadItem "ValueError.__new__"))
    (kcBadItem : PySem.W.keepIn K (.ref C_BadItem) = true)
    (gaBadItem : PySem.W.findIn K (.ref C_BadItem) "__getattribute__" = some (some (.builtin "BaseException.__getattribute__")))
    (ggBadItem : PySem.W.findIn K (.ref C_BadItem) "__getattr__" = some none)
    (caBadItem : PySem.W.findIn K (.ref C_BadItem) "__class__" = some (some (.builtin "object.__class__")))
    (saBadItem : PySem.W.findIn K (.ref C_BadItem) "__setattr__" = some (some (.builtin "object.__setattr__")))
    (no0BadItem : PySem.W.findIn K (.ref C_BadItem) "at" = some none)
    (xLBadCut : K.lookup C_BadCut = some (excClassObj "BadCut" qxBadCut C_BadCut NSBadCut bsBadCut [.ref C_WorkerworldsError, .type "ValueError", .type "Exception", .type "BaseException", .type "object"] true snBadCut subBadCut abBadCut colBadCut ddBadCut k0BadCut k1BadCut k2BadCut k3BadCut k5BadCut "ValueError.__new__"))
    (kcBadCut : PySem.W.keepIn K (.ref C_BadCut) = true)
    (gaBadCut : PySem.W.findIn K (.ref C_BadCut) "__getattribute__" = some (some (.builtin "BaseException.__getattribute__")))
    (ggBadCut : PySem.W.findIn K (.ref C_BadCut) "__getattr__" = some none)
    (caBadCut : PySem.W.findIn K (.ref C_BadCut) "__class__" = some (some (.builtin "object.__class__")))
    (saBadCut : PySem.W.findIn K (.ref C_BadCut) "__setattr__" = some (some (.builtin "object.__setattr__")))
    (no0BadCut : PySem.W.findIn K (.ref C_BadCut) "at" = some none)
    (xLBadDealing : K.lookup C_BadDealing = some (excClassObj "BadDealing" qxBadDealing C_BadDealing NSBadDealing bsBadDealing [.ref C_WorkerworldsError, .type "ValueError", .type "Exception", .type "BaseException", .type "object"] true snBadDealing subBadDealing abBadDealing colBadDealing ddBadDealing k0BadDealing k1BadDealing k2BadDealing k3BadDealing k5BadDealing "ValueError.__new__"))
    (kcBadDealing : PySem.W.keepIn K (.ref C_BadDealing) = true)
    (gaBadDealing : PySem.W.findIn K (.ref C_BadDealing) "__getattribute__" = some (some (.builtin "BaseException.__getattribute__")))
    (ggBadDealing : PySem.W.findIn K (.ref C_BadDealing) "__getattr__" = some none)
    (caBadDealing : PySem.W.findIn K (.ref C_BadDealing) "__class__" = some (some (.builtin "object.__class__")))
    (saBadDealing : PySem.W.findIn K (.ref C_BadDealing) "__setattr__" = some (some (.builtin "object.__setattr__")))
    (no0BadDealing : PySem.W.findIn K (.ref C_BadDealing) "at" = some none)
    (xLNoName : K.lookup C_NoName = some (excClassObj "NoName" qxNoName C_NoName NSNoName bsNoName [.type "LookupError", .type "Exception", .type "BaseException", .type "object"] true snNoName subNoName abNoName colNoName ddNoName k0NoName k1NoName k2NoName k3NoName k5NoName "LookupError.__new__"))
    (kcNoName : PySem.W.keepIn K (.ref C_NoName) = true)
    (gaNoName : PySem.W.findIn K (.ref C_NoName) "__getattribute__" = some (some (.builtin "BaseException.__getattribute__")))
    (ggNoName : PySem.W.findIn K (.ref C_NoName) "__getattr__" = some none)
    (caNoName : PySem.W.findIn K (.ref C_NoName) "__class__" = some (some (.builtin "object.__class__")))
    (saNoName : PySem.W.findIn K (.ref C_NoName) "__setattr__" = some (some (.builtin "object.__setattr__")))
    (no0NoName : PySem.W.findIn K (.ref C_NoName) "name" = some none)
    (xLNoWorker : K.lookup C_NoWorker = some (excClassObj "NoWorker" qxNoWorker C_NoWorker NSNoWorker bsNoWorker [.type "LookupError", .type "Exception", .type "BaseException", .type "object"] true snNoWorker subNoWorker abNoWorker colNoWorker ddNoWorker k0NoWorker k1NoWorker k2NoWorker k3NoWorker k5NoWorker "LookupError.__new__"))
    (kcNoWorker : PySem.W.keepIn K (.ref C_NoWorker) = true)
    (gaNoWorker : PySem.W.findIn K (.ref C_NoWorker) "__getattribute__" = some (some (.builtin "BaseException.__getattribute__")))
    (ggNoWorker : PySem.W.findIn K (.ref C_NoWorker) "__getattr__" = some none)
    (caNoWorker : PySem.W.findIn K (.ref C_NoWorker) "__class__" = some (some (.builtin "object.__class__")))
    (saNoWorker : PySem.W.findIn K (.ref C_NoWorker) "__setattr__" = some (some (.builtin "object.__setattr__")))
    (no0NoWorker : PySem.W.findIn K (.ref C_NoWorker) "number" = some none)
    (xLTaskFailed : K.lookup C_TaskFailed = some (excClassObj "TaskFailed" qxTaskFailed C_TaskFailed NSTaskFailed bsTaskFailed [.type "RuntimeError", .type "Exception", .type "BaseException", .type "object"] true snTaskFailed subTaskFailed abTaskFailed colTaskFailed ddTaskFailed k0TaskFailed k1TaskFailed k2TaskFailed k3TaskFailed k5TaskFailed "RuntimeError.__new__"))
    (kcTaskFailed : PySem.W.keepIn K (.ref C_TaskFailed) = true)
    (gaTaskFailed : PySem.W.findIn K (.ref C_TaskFailed) "__getattribute__" = some (some (.builtin "BaseException.__getattribute__")))
    (ggTaskFailed : PySem.W.findIn K (.ref C_TaskFailed) "__getattr__" = some none)
    (caTaskFailed : PySem.W.findIn K (.ref C_TaskFailed) "__class__" = some (some (.builtin "object.__class__")))
    (saTaskFailed : PySem.W.findIn K (.ref C_TaskFailed) "__setattr__" = some (some (.builtin "object.__setattr__")))
    (no0TaskFailed : PySem.W.findIn K (.ref C_TaskFailed) "at" = some none)
    (no1TaskFailed : PySem.W.findIn K (.ref C_TaskFailed) "told" = some none)
    (no2TaskFailed : PySem.W.findIn K (.ref C_TaskFailed) "cause" = some none)
    (xLCannotCross : K.lookup C_CannotCross = some (excClassObj "CannotCross" qxCannotCross C_CannotCross NSCannotCross bsCannotCross [.type "RuntimeError", .type "Exception", .type "BaseException", .type "object"] true snCannotCross subCannotCross abCannotCross colCannotCross ddCannotCross k0CannotCross k1CannotCross k2CannotCross k3CannotCross k5CannotCross "RuntimeError.__new__"))
    (kcCannotCross : PySem.W.keepIn K (.ref C_CannotCross) = true)
    (gaCannotCross : PySem.W.findIn K (.ref C_CannotCross) "__getattribute__" = some (some (.builtin "BaseException.__getattribute__")))
    (ggCannotCross : PySem.W.findIn K (.ref C_CannotCross) "__getattr__" = some none)
    (caCannotCross : PySem.W.findIn K (.ref C_CannotCross) "__class__" = some (some (.builtin "object.__class__")))
    (saCannotCross : PySem.W.findIn K (.ref C_CannotCross) "__setattr__" = some (some (.builtin "object.__setattr__")))
    (no0CannotCross : PySem.W.findIn K (.ref C_CannotCross) "at" = some none)
    (no1CannotCross : PySem.W.findIn K (.ref C_CannotCross) "what" = some none)
    (xLClosed : K.lookup C_Closed = some (excClassObj "Closed" qxClosed C_Closed NSClosed bsClosed [.type "RuntimeError", .type "Exception", .type "BaseException", .type "object"] true snClosed subClosed abClosed colClosed ddClosed k0Closed k1Closed k2Closed k3Closed k5Closed "RuntimeError.__new__"))
    (kcClosed : PySem.W.keepIn K (.ref C_Closed) = true)
    (gaClosed : PySem.W.findIn K (.ref C_Closed) "__getattribute__" = some (some (.builtin "BaseException.__getattribute__")))
    (ggClosed : PySem.W.findIn K (.ref C_Closed) "__getattr__" = some none)
    (caClosed : PySem.W.findIn K (.ref C_Closed) "__class__" = some (some (.builtin "object.__class__")))
    (xqClosed : PySem.W.excIn K C_Closed [.type "RuntimeError", .type "Exception", .type "BaseException", .type "object"] "RuntimeError.__new__" = true)
    (xLWorkerworldsError : K.lookup C_WorkerworldsError = some (excClassObj "WorkerworldsError" qxWorkerworldsError C_WorkerworldsError NSWorkerworldsError bsWorkerworldsError [.type "ValueError", .type "Exception", .type "BaseException", .type "object"] true snWorkerworldsError subWorkerworldsError abWorkerworldsError colWorkerworldsError ddWorkerworldsError k0WorkerworldsError k1WorkerworldsError k2WorkerworldsError k3WorkerworldsError k5WorkerworldsError "ValueError.__new__"))
    (kcWorkerworldsError : PySem.W.keepIn K (.ref C_WorkerworldsError) = true)
    (gaWorkerworldsError : PySem.W.findIn K (.ref C_WorkerworldsError) "__getattribute__" = some (some (.builtin "BaseException.__getattribute__")))
    (ggWorkerworldsError : PySem.W.findIn K (.ref C_WorkerworldsError) "__getattr__" = some none)
    (caWorkerworldsError : PySem.W.findIn K (.ref C_WorkerworldsError) "__class__" = some (some (.builtin "object.__class__")))
    (xqWorkerworldsError : PySem.W.excIn K C_WorkerworldsError [.type "ValueError", .type "Exception", .type "BaseException", .type "object"] "ValueError.__new__" = true)
    (cnX : PySem.W.specialIn K (.builtin "object.__class__") "__get__" = some (some (.builtin "getset_descriptor.__get__")))
    (ctX : PySem.W.takesIn K (.builtin "object.__class__") = some true)
    : ∃ fd : FuncData, (∀ (s : Shared) (v : Value), BindsTo s fd ⟨[v], []⟩ [("_law_script", v)]) ∧ ∀ base : Heap, K.In base → base.Ns mainGlobals mg → WB.FnG l.prog w K mg base C8.CX0 4 fa fd ["_law_script"] (spLaw K) := by
  have e := hfa.symm.trans (PySem.W.mg_of X G a_law)
  cases e
  have F_bag := fun_mk (st := s_bag) l_bag c_bag k_bag
  have b_bag := F_bag.binds (ps := ["_law_script", "_law_at"]) fun _ _ _ _ _ _ us hl => match us, hl with | [_, _], _ => rfl
  have g_bag := PySem.W.mg_of X G a_bag
  have F_take := fun_mk (st := s_take) l_take c_take k_take
  have b_take := F_take.binds (ps := ["_law_bag_here", "_law_many"]) fun _ _ _ _ _ _ us hl => match us, hl with | [_, _], _ => rfl
  have g_take := PySem.W.mg_of X G a_take
  have F_value := fun_mk (st := s_value) l_value c_value k_value
  have b_value := F_value.binds (ps := ["_law_bag_here"]) fun _ _ _ _ _ _ us hl => match us, hl with | [_], _ => rfl
  have g_value := PySem.W.mg_of X G a_value
  have F_kinds := fun_mk (st := s_kinds) l_kinds c_kinds k_kinds
  have b_kinds := F_kinds.binds (ps := ["_law_e"]) fun _ _ _ _ _ _ us hl => match us, hl with | [_], _ => rfl
  have g_kinds := PySem.W.mg_of X G a_kinds
  have F_are_right := fun_mk (st := s_are_right) l_are_right c_are_right k_are_right
  have b_are_right := F_are_right.binds (ps := ["_law_one", "_law_other", "_law_third"]) fun _ _ _ _ _ _ us hl => match us, hl with | [_, _, _], _ => rfl
  have g_are_right := PySem.W.mg_of X G a_are_right
  have F_law := fun_mk (st := s_law) l_law c_law k_law
  have b_law := F_law.binds (ps := ["_law_script"]) fun _ _ _ _ _ _ us hl => match us, hl with | [_], _ => rfl
  have g_law := PySem.W.mg_of X G a_law
  have F_BadBox__init := fun_mk (st := s_BadBox__init) l_BadBox__init c_BadBox__init k_BadBox__init
  have b_BadBox__init := F_BadBox__init.binds (ps := ["self", "contents"]) fun _ _ _ _ _ _ us hl => match us, hl with | [_, _], _ => rfl
  have F_BadName__init := fun_mk (st := s_BadName__init) l_BadName__init c_BadName__init k_BadName__init
  have b_BadName__init := F_BadName__init.binds (ps := ["self", "name"]) fun _ _ _ _ _ _ us hl => match us, hl with | [_, _], _ => rfl
  have F_BadWorld__init := fun_mk (st := s_BadWorld__init) l_BadWorld__init c_BadWorld__init k_BadWorld__init
  have b_BadWorld__init := F_BadWorld__init.binds (ps := ["self", "at"]) fun _ _ _ _ _ _ us hl => match us, hl with | [_, _], _ => rfl
  have F_BadRow__init := fun_mk (st := s_BadRow__init) l_BadRow__init c_BadRow__init k_BadRow__init
  have b_BadRow__init := F_BadRow__init.binds (ps := ["self", "row"]) fun _ _ _ _ _ _ us hl => match us, hl with | [_, _], _ => rfl
  have F_BadProgram__init := fun_mk (st := s_BadProgram__init) l_BadProgram__init c_BadProgram__init k_BadProgram__init
  have b_BadProgram__init := F_BadProgram__init.binds (ps := ["self", "part", "at"]) fun _ _ _ _ _ _ us hl => match us, hl with | [_, _, _], _ => rfl
  have F_BadText__init := fun_mk (st := s_BadText__init) l_BadText__init c_BadText__init k_BadText__init
  have b_BadText__init := F_BadText__init.binds (ps := ["self", "at"]) fun _ _ _ _ _ _ us hl => match us, hl with | [_, _], _ => rfl
  have F_TooMany__init := fun_mk (st := s_TooMany__init) l_TooMany__init c_TooMany__init k_TooMany__init
  have b_TooMany__init := F_TooMany__init.binds (ps := ["self", "what"]) fun _ _ _ _ _ _ us hl => match us, hl with | [_, _], _ => rfl
  have F_BadSetting__init := fun_mk (st := s_BadSetting__init) l_BadSetting__init c_BadSetting__init k_BadSetting__init
  have b_BadSetting__init := F_BadSetting__init.binds (ps := ["self", "what"]) fun _ _ _ _ _ _ us hl => match us, hl with | [_, _], _ => rfl
  have F_BadItem__init := fun_mk (st := s_BadItem__init) l_BadItem__init c_BadItem__init k_BadItem__init
  have b_BadItem__init := F_BadItem__init.binds (ps := ["self", "at"]) fun _ _ _ _ _ _ us hl => match us, hl with | [_, _], _ => rfl
  have F_BadCut__init := fun_mk (st := s_BadCut__init) l_BadCut__init c_BadCut__init k_BadCut__init
  have b_BadCut__init := F_BadCut__init.binds (ps := ["self", "at"]) fun _ _ _ _ _ _ us hl => match us, hl with | [_, _], _ => rfl
  have F_BadDealing__init := fun_mk (st := s_BadDealing__init) l_BadDealing__init c_BadDealing__init k_BadDealing__init
  have b_BadDealing__init := F_BadDealing__init.binds (ps := ["self", "at"]) fun _ _ _ _ _ _ us hl => match us, hl with | [_, _], _ => rfl
  have F_NoName__init := fun_mk (st := s_NoName__init) l_NoName__init c_NoName__init k_NoName__init
  have b_NoName__init := F_NoName__init.binds (ps := ["self", "name"]) fun _ _ _ _ _ _ us hl => match us, hl with | [_, _], _ => rfl
  have F_NoWorker__init := fun_mk (st := s_NoWorker__init) l_NoWorker__init c_NoWorker__init k_NoWorker__init
  have b_NoWorker__init := F_NoWorker__init.binds (ps := ["self", "number"]) fun _ _ _ _ _ _ us hl => match us, hl with | [_, _], _ => rfl
  have F_TaskFailed__init := fun_mk (st := s_TaskFailed__init) l_TaskFailed__init c_TaskFailed__init k_TaskFailed__init
  have b_TaskFailed__init := F_TaskFailed__init.binds (ps := ["self", "at", "told", "cause"]) fun _ _ _ _ _ _ us hl => match us, hl with | [_, _, _, _], _ => rfl
  have F_CannotCross__init := fun_mk (st := s_CannotCross__init) l_CannotCross__init c_CannotCross__init k_CannotCross__init
  have b_CannotCross__init := F_CannotCross__init.binds (ps := ["self", "at", "what"]) fun _ _ _ _ _ _ us hl => match us, hl with | [_, _, _], _ => rfl
  have T : Top K mg := { z_len := PySem.W.mg_none_of X G z_len, z_abs := PySem.W.mg_none_of X G z_abs, z_list := PySem.W.mg_none_of X G z_list, z_int := PySem.W.mg_none_of X G z_int, z_isinstance := PySem.W.mg_none_of X G z_isinstance, z_range := PySem.W.mg_none_of X G z_range, z_max := PySem.W.mg_none_of X G z_max, z_min := PySem.W.mg_none_of X G z_min, z_repr := PySem.W.mg_none_of X G z_repr, z_enumerate := PySem.W.mg_none_of X G z_enumerate, z_ValueError := PySem.W.mg_none_of X G z_ValueError, z_LookupError := PySem.W.mg_none_of X G z_LookupError, z_RuntimeError := PySem.W.mg_none_of X G z_RuntimeError }
  refine ⟨PySem.W.fnOf "law" "law" (defArgs s_law) (defBody s_law) (defScope s_law) .none kV_law dc_law pm_law an_law cd_law ct_law, fun s v => .of_eq rfl, fun base KB GB => ?_⟩
  have T_take := calOf F_take g_take b_take (ok_take (P := l.prog) (w := w) (base := base) F_take T)
  have T_bag := calOf F_bag g_bag b_bag (ok_bag (P := l.prog) (w := w) (base := base) F_bag T)
  have ct_BadBox : CT K C_BadBox "BadBox" [.ref C_WorkerworldsError, .type "ValueError", .type "Exception", .type "BaseException", .type "object"] := ⟨qxBadBox, NSBadBox, bsBadBox, snBadBox, subBadBox, abBadBox, colBadBox, ddBadBox, k0BadBox, k1BadBox, k2BadBox, k3BadBox, k5BadBox, _, xLBadBox⟩
  have ec_BadBox : ExcC K C_BadBox := ⟨gaBadBox, ggBadBox, (ct_BadBox.sub _).trans rfl, ct_BadBox.dict, caBadBox, cnX, ctX, (ct_BadBox.sub _).trans rfl⟩
  have ox_BadBox : OexB K C_BadBox _ _ _ _ := { fb := PySem.F.excBase_ValueError, sf := PySem.F.store_ValueError, cls := ⟨_, qxBadBox, NSBadBox, bsBadBox, _, snBadBox, subBadBox, abBadBox, colBadBox, ddBadBox, k0BadBox, k1BadBox, k2BadBox, k3BadBox, k5BadBox, xLBadBox, by show PySem.W.excTail _ [.type "ValueError", .type "Exception", .type "BaseException", .type "object"] = true; decide +kernel⟩, sa := saBadBox, exC := (ct_BadBox.sub _).trans rfl, tyC := ct_BadBox.ty, kC := kcBadBox }
  have nos_BadBox : ∀ f ∈ (["contents"] : List Str), PySem.W.findIn K (.ref C_BadBox) f = some none := fun f hf => by
    simp only [List.mem_cons, List.not_mem_nil, or_false] at hf
    rcases hf with rfl
    · exact no0BadBox
  have kb_BadBox : ∀ p, (["contents"] : List Str) = [p] → KBn K _ ("self" :: ["contents"]) 1 [p] (fun us ws => us ++ ws) (fun vs zs => vs ++ zs) := fun p hp => by
    cases hp
    exact fun_kb F_BadBox__init (ks := ["contents"]) (ps := ["self", "contents"]) fun _ _ _ _ _ _ us ws h1 h2 => match us, h1, ws, h2 with | [_], _, [_], _ => rfl
  have ex_BadBox : ErX l.prog w K mg base C_BadBox "BadBox" ["contents"] ["contents"] := { ox := ⟨_, _, _, _, ox_BadBox⟩, xf := ⟨gaBadBox, ggBadBox, (ct_BadBox.sub _).trans rfl, ct_BadBox.dict⟩, no := nos_BadBox, g := PySem.W.mg_of X G aC_BadBox, ini := ⟨f_BadBox__init, _, a_BadBox__init, beq_iff_eq.mp i_BadBox__init, ok_ini_BadBox F_BadBox__init ox_BadBox no0BadBox, b_BadBox__init, kb_BadBox⟩ }
  have ct_BadName : CT K C_BadName "BadName" [.ref C_WorkerworldsError, .type "ValueError", .type "Exception", .type "BaseException", .type "object"] := ⟨qxBadName, NSBadName, bsBadName, snBadName, subBadName, abBadName, colBadName, ddBadName, k0BadName, k1BadName, k2BadName, k3BadName, k5BadName, _, xLBadName⟩
  have ec_BadName : ExcC K C_BadName := ⟨gaBadName, ggBadName, (ct_BadName.sub _).trans rfl, ct_BadName.dict, caBadName, cnX, ctX, (ct_BadName.sub _).trans rfl⟩
  have ox_BadName : OexB K C_BadName _ _ _ _ := { fb := PySem.F.excBase_ValueError, sf := PySem.F.store_ValueError, cls := ⟨_, qxBadName, NSBadName, bsBadName, _, snBadName, subBadName, abBadName, colBadName, ddBadName, k0BadName, k1BadName, k2BadName, k3BadName, k5BadName, xLBadName, by show PySem.W.excTail _ [.type "ValueError", .type "Exception", .type "BaseException", .type "object"] = true; decide +kernel⟩, sa := saBadName, exC := (ct_BadName.sub _).trans rfl, tyC := ct_BadName.ty, kC := kcBadName }
  have nos_BadName : ∀ f ∈ (["name"] : List Str), PySem.W.findIn K (.ref C_BadName) f = some none := fun f hf => by
    simp only [List.mem_cons, List.not_mem_nil, or_false] at hf
    rcases hf with rfl
    · exact no0BadName
  have kb_BadName : ∀ p, (["name"] : List Str) = [p] → KBn K _ ("self" :: ["name"]) 1 [p] (fun us ws => us ++ ws) (fun vs zs => vs ++ zs) := fun p hp => by
    cases hp
    exact fun_kb F_BadName__init (ks := ["name"]) (ps := ["self", "name"]) fun _ _ _ _ _ _ us ws h1 h2 => match us, h1, ws, h2 with | [_], _, [_], _ => rfl
  have ex_BadName : ErX l.prog w K mg base C_BadName "BadName" ["name"] ["name"] := { ox := ⟨_, _, _, _, ox_BadName⟩, xf := ⟨gaBadName, ggBadName, (ct_BadName.sub _).trans rfl, ct_BadName.dict⟩, no := nos_BadName, g := PySem.W.mg_of X G aC_BadName, ini := ⟨f_BadName__init, _, a_BadName__init, beq_iff_eq.mp i_BadName__init, ok_ini_BadName F_BadName__init ox_BadName no0BadName, b_BadName__init, kb_BadName⟩ }
  have ct_BadWorld : CT K C_BadWorld "BadWorld" [.ref C_WorkerworldsError, .type "ValueError", .type "Exception", .type "BaseException", .type "object"] := ⟨qxBadWorld, NSBadWorld, bsBadWorld, snBadWorld, subBadWorld, abBadWorld, colBadWorld, ddBadWorld, k0BadWorld, k1BadWorld, k2BadWorld, k3BadWorld, k5BadWorld, _, xLBadWorld⟩
  have ec_BadWorld : ExcC K C_BadWorld := ⟨gaBadWorld, ggBadWorld, (ct_BadWorld.sub _).trans rfl, ct_BadWorld.dict, caBadWorld, cnX, ctX, (ct_BadWorld.sub _).trans rfl⟩
  have ox_BadWorld : OexB K C_BadWorld _ _ _ _ := { fb := PySem.F.excBase_ValueError, sf := PySem.F.store_ValueError, cls := ⟨_, qxBadWorld, NSBadWorld, bsBadWorld, _, snBadWorld, subBadWorld, abBadWorld, colBadWorld, ddBadWorld, k0BadWorld, k1BadWorld, k2BadWorld, k3BadWorld, k5BadWorld, xLBadWorld, by show PySem.W.excTail _ [.type "ValueError", .type "Exception", .type "BaseException", .type "object"] = true; decide +kernel⟩, sa := saBadWorld, exC := (ct_BadWorld.sub _).trans rfl, tyC := ct_BadWorld.ty, kC := kcBadWorld }
  have nos_BadWorld : ∀ f ∈ (["at"] : List Str), PySem.W.findIn K (.ref C_BadWorld) f = some none := fun f hf => by
    simp only [List.mem_cons, List.not_mem_nil, or_false] at hf
    rcases hf with rfl
    · exact no0BadWorld
  have kb_BadWorld : ∀ p, (["at"] : List Str) = [p] → KBn K _ ("self" :: ["at"]) 1 [p] (fun us ws => us ++ ws) (fun vs zs => vs ++ zs) := fun p hp => by
    cases hp
    exact fun_kb F_BadWorld__init (ks := ["at"]) (ps := ["self", "at"]) fun _ _ _ _ _ _ us ws h1 h2 => match us, h1, ws, h2 with | [_], _, [_], _ => rfl
  have ex_BadWorld : ErX l.prog w K mg base C_BadWorld "BadWorld" ["at"] ["at"] := { ox := ⟨_, _, _, _, ox_BadWorld⟩, xf := ⟨gaBadWorld, ggBadWorld, (ct_BadWorld.sub _).trans rfl, ct_BadWorld.dict⟩, no := nos_BadWorld, g := PySem.W.mg_of X G aC_BadWorld, ini := ⟨f_BadWorld__init, _, a_BadWorld__init, beq_iff_eq.mp i_BadWorld__init, ok_ini_BadWorld F_BadWorld__init ox_BadWorld no0BadWorld, b_BadWorld__init, kb_BadWorld⟩ }
  have ct_BadRow : CT K C_BadRow "BadRow" [.ref C_WorkerworldsError, .type "ValueError", .type "Exception", .type "BaseException", .type "object"] := ⟨qxBadRow, NSBadRow, bsBadRow, snBadRow, subBadRow, abBadRow, colBadRow, ddBadRow, k0BadRow, k1BadRow, k2BadRow, k3BadRow, k5BadRow, _, xLBadRow⟩
  have ec_BadRow : ExcC K C_BadRow := ⟨gaBadRow, ggBadRow, (ct_BadRow.sub _).trans rfl, ct_BadRow.dict, caBadRow, cnX, ctX, (ct_BadRow.sub _).trans rfl⟩
  have ox_BadRow : OexB K C_BadRow _ _ _ _ := { fb := PySem.F.excBase_ValueError, sf := PySem.F.store_ValueError, cls := ⟨_, qxBadRow, NSBadRow, bsBadRow, _, snBadRow, subBadRow, abBadRow, colBadRow, ddBadRow, k0BadRow, k1BadRow, k2BadRow, k3BadRow, k5BadRow, xLBadRow, by show PySem.W.excTail _ [.type "ValueError", .type "Exception", .type "BaseException", .type "object"] = true; decide +kernel⟩, sa := saBadRow, exC := (ct_BadRow.sub _).trans rfl, tyC := ct_BadRow.ty, kC := kcBadRow }
  have nos_BadRow : ∀ f ∈ (["row"] : List Str), PySem.W.findIn K (.ref C_BadRow) f = some none := fun f hf => by
    simp only [List.mem_cons, List.not_mem_nil, or_false] at hf
    rcases hf with rfl
    · exact no0BadRow
  have kb_BadRow : ∀ p, (["row"] : List Str) = [p] → KBn K _ ("self" :: ["row"]) 1 [p] (fun us ws => us ++ ws) (fun vs zs => vs ++ zs) := fun p hp => by
    cases hp
    exact fun_kb F_BadRow__init (ks := ["row"]) (ps := ["self", "row"]) fun _ _ _ _ _ _ us ws h1 h2 => match us, h1, ws, h2 with | [_], _, [_], _ => rfl
  have ex_BadRow : ErX l.prog w K mg base C_BadRow "BadRow" ["row"] ["row"] := { ox := ⟨_, _, _, _, ox_BadRow⟩, xf := ⟨gaBadRow, ggBadRow, (ct_BadRow.sub _).trans rfl, ct_BadRow.dict⟩, no := nos_BadRow, g := PySem.W.mg_of X G aC_BadRow, ini := ⟨f_BadRow__init, _, a_BadRow__init, beq_iff_eq.mp i_BadRow__init, ok_ini_BadRow F_BadRow__init ox_BadRow no0BadRow, b_BadRow__init, kb_BadRow⟩ }
  have ct_BadProgram : CT K C_BadProgram "BadProgram" [.ref C_WorkerworldsError, .type "ValueError", .type "Exception", .type "BaseException", .type "object"] := ⟨qxBadProgram, NSBadProgram, bsBadProgram, snBadProgram, subBadProgram, abBadProgram, colBadProgram, ddBadProgram, k0BadProgram, k1BadProgram, k2BadProgram, k3BadProgram, k5BadProgram, _, xLBadProgram⟩
  have ec_BadProgram : ExcC K C_BadProgram := ⟨gaBadProgram, ggBadProgram, (ct_BadProgram.sub _).trans rfl, ct_BadProgram.dict, caBadProgram, cnX, ctX, (ct_BadProgram.sub _).trans rfl⟩
  have ox_BadProgram : OexB K C_BadProgram _ _ _ _ := { fb := PySem.F.excBase_ValueError, sf := PySem.F.store_ValueError, cls := ⟨_, qxBadProgram, NSBadProgram, bsBadProgram, _, snBadProgram, subBadProgram, abBadProgram, colBadProgram, ddBadProgram, k0BadProgram, k1BadProgram, k2BadProgram, k3BadProgram, k5BadProgram, xLBadProgram, by show PySem.W.excTail _ [.type "ValueError", .type "Exception", .type "BaseException", .type "object"] = true; decide +kernel⟩, sa := saBadProgram, exC := (ct_BadProgram.sub _).trans rfl, tyC := ct_BadProgram.ty, kC := kcBadProgram }
  have nos_BadProgram : ∀ f ∈ (["part", "at"] : List Str), PySem.W.findIn K (.ref C_BadProgram) f = some none := fun f hf => by
    simp only [List.mem_cons, List.not_mem_nil, or_false] at hf
    rcases hf with rfl | rfl
    · exact no0BadProgram
    · exact no1BadProgram
  have ex_BadProgram : ErX l.prog w K mg base C_BadProgram "BadProgram" ["part", "at"] ["part", "at"] := { ox := ⟨_, _, _, _, ox_BadProgram⟩, xf := ⟨gaBadProgram, ggBadProgram, (ct_BadProgram.sub _).trans rfl, ct_BadProgram.dict⟩, no := nos_BadProgram, g := PySem.W.mg_of X G aC_BadProgram, ini := ⟨f_BadProgram__init, _, a_BadProgram__init, beq_iff_eq.mp i_BadProgram__init, ok_ini_BadProgram F_BadProgram__init ox_BadProgram no0BadProgram no1BadProgram, b_BadProgram__init, fun p hp => by cases hp⟩ }
  have ct_BadText : CT K C_BadText "BadText" [.ref C_WorkerworldsError, .type "ValueError", .type "Exception", .type "BaseException", .type "object"] := ⟨qxBadText, NSBadText, bsBadText, snBadText, subBadText, abBadText, colBadText, ddBadText, k0BadText, k1BadText, k2BadText, k3BadText, k5BadText, _, xLBadText⟩
  have ec_BadText : ExcC K C_BadText := ⟨gaBadText, ggBadText, (ct_BadText.sub _).trans rfl, ct_BadText.dict, caBadText, cnX, ctX, (ct_BadText.sub _).trans rfl⟩
  have ox_BadText : OexB K C_BadText _ _ _ _ := { fb := PySem.F.excBase_ValueError, sf := PySem.F.store_ValueError, cls := ⟨_, qxBadText, NSBadText, bsBadText, _, snBadText, subBadText, abBadText, colBadText, ddBadText, k0BadText, k1BadText, k2BadText, k3BadText, k5BadText, xLBadText, by show PySem.W.excTail _ [.type "ValueError", .type "Exception", .type "BaseException", .type "object"] = true; decide +kernel⟩, sa := saBadText, exC := (ct_BadText.sub _).trans rfl, tyC := ct_BadText.ty, kC := kcBadText }
  have nos_BadText : ∀ f ∈ (["at"] : List Str), PySem.W.findIn K (.ref C_BadText) f = some none := fun f hf => by
    simp only [List.mem_cons, List.not_mem_nil, or_false] at hf
    rcases hf with rfl
    · exact no0BadText
  have kb_BadText : ∀ p, (["at"] : List Str) = [p] → KBn K _ ("self" :: ["at"]) 1 [p] (fun us ws => us ++ ws) (fun vs zs => vs ++ zs) := fun p hp => by
    cases hp
    exact fun_kb F_BadText__init (ks := ["at"]) (ps := ["self", "at"]) fun _ _ _ _ _ _ us ws h1 h2 => match us, h1, ws, h2 with | [_], _, [_], _ => rfl
  have ex_BadText : ErX l.prog w K mg base C_BadText "BadText" ["at"] ["at"] := { ox := ⟨_, _, _, _, ox_BadText⟩, xf := ⟨gaBadText, ggBadText, (ct_BadText.sub _).trans rfl, ct_BadText.dict⟩, no := nos_BadText, g := PySem.W.mg_of X G aC_BadText, ini := ⟨f_BadText__init, _, a_BadText__init, beq_iff_eq.mp i_BadText__init, ok_ini_BadText F_BadText__init ox_BadText no0BadText, b_BadText__init, kb_BadText⟩ }
  have ct_TooMany : CT K C_TooMany "TooMany" [.ref C_WorkerworldsError, .type "ValueError", .type "Exception", .type "BaseException", .type "object"] := ⟨qxTooMany, NSTooMany, bsTooMany, snTooMany, subTooMany, abTooMany, colTooMany, ddTooMany, k0TooMany, k1TooMany, k2TooMany, k3TooMany, k5TooMany, _, xLTooMany⟩
  have ec_TooMany : ExcC K C_TooMany := ⟨gaTooMany, ggTooMany, (ct_TooMany.sub _).trans rfl, ct_TooMany.dict, caTooMany, cnX, ctX, (ct_TooMany.sub _).trans rfl⟩
  have ox_TooMany : OexB K C_TooMany _ _ _ _ := { fb := PySem.F.excBase_ValueError, sf := PySem.F.store_ValueError, cls := ⟨_, qxTooMany, NSTooMany, bsTooMany, _, snTooMany, subTooMany, abTooMany, colTooMany, ddTooMany, k0TooMany, k1TooMany, k2TooMany, k3TooMany, k5TooMany, xLTooMany, by show PySem.W.excTail _ [.type "ValueError", .type "Exception", .type "BaseException", .type "object"] = true; decide +kernel⟩, sa := saTooMany, exC := (ct_TooMany.sub _).trans rfl, tyC := ct_TooMany.ty, kC := kcTooMany }
  have nos_TooMany : ∀ f ∈ (["what"] : List Str), PySem.W.findIn K (.ref C_TooMany) f = some none := fun f hf => by
    simp only [List.mem_cons, List.not_mem_nil, or_false] at hf
    rcases hf with rfl
    · exact no0TooMany
  have kb_TooMany : ∀ p, (["what"] : List Str) = [p] → KBn K _ ("self" :: ["what"]) 1 [p] (fun us ws => us ++ ws) (fun vs zs => vs ++ zs) := fun p hp => by
    cases hp
    exact fun_kb F_TooMany__init (ks := ["what"]) (ps := ["self", "what"]) fun _ _ _ _ _ _ us ws h1 h2 => match us, h1, ws, h2 with | [_], _, [_], _ => rfl
  have ex_TooMany : ErX l.prog w K mg base C_TooMany "TooMany" ["what"] ["what"] := { ox := ⟨_, _, _, _, ox_TooMany⟩, xf := ⟨gaTooMany, ggTooMany, (ct_TooMany.sub _).trans rfl, ct_TooMany.dict⟩, no := nos_TooMany, g := PySem.W.mg_of X G aC_TooMany, ini := ⟨f_TooMany__init, _, a_TooMany__init, beq_iff_eq.mp i_TooMany__init, ok_ini_TooMany F_TooMany__init ox_TooMany no0TooMany, b_TooMany__init, kb_TooMany⟩ }
  have ct_BadSetting : CT K C_BadSetting "BadSetting" [.ref C_WorkerworldsError, .type "ValueError", .type "Exception", .type "BaseException", .type "object"] := ⟨qxBadSetting, NSBadSetting, bsBadSetting, snBadSetting, subBadSetting, abBadSetting, colBadSetting, ddBadSetting, k0BadSetting, k1BadSetting, k2BadSetting, k3BadSetting, k5BadSetting, _, xLBadSetting⟩
  have ec_BadSetting : ExcC K C_BadSetting := ⟨gaBadSetting, ggBadSetting, (ct_BadSetting.sub _).trans rfl, ct_BadSetting.dict, caBadSetting, cnX, ctX, (ct_BadSetting.sub _).trans rfl⟩
  have ox_BadSetting : OexB K C_BadSetting _ _ _ _ := { fb := PySem.F.excBase_ValueError, sf := PySem.F.store_ValueError, cls := ⟨_, qxBadSetting, NSBadSetting, bsBadSetting, _, snBadSetting, subBadSetting, abBadSetting, colBadSetting, ddBadSetting, k0BadSetting, k1BadSetting, k2BadSetting, k3BadSetting, k5BadSetting, xLBadSetting, by show PySem.W.excTail _ [.type "ValueError", .type "Exception", .type "BaseException", .type "object"] = true; decide +kernel⟩, sa := saBadSetting, exC := (ct_BadSetting.sub _).trans rfl, tyC := ct_BadSetting.ty, kC := kcBadSetting }
  have nos_BadSetting : ∀ f ∈ (["what"] : List Str), PySem.W.findIn K (.ref C_BadSetting) f = some none := fun f hf => by
    simp only [List.mem_cons, List.not_mem_nil, or_false] at hf
    rcases hf with rfl
    · exact no0BadSetting
  have kb_BadSetting : ∀ p, (["what"] : List Str) = [p] → KBn K _ ("self" :: ["what"]) 1 [p] (fun us ws => us ++ ws) (fun vs zs => vs ++ zs) := fun p hp => by
    cases hp
    exact fun_kb F_BadSetting__init (ks := ["what"]) (ps := ["self", "what"]) fun _ _ _ _ _ _ us ws h1 h2 => match us, h1, ws, h2 with | [_], _, [_], _ => rfl
  have ex_BadSetting : ErX l.prog w K mg base C_BadSetting "BadSetting" ["what"] ["what"] := { ox := ⟨_, _, _, _, ox_BadSetting⟩, xf := ⟨gaBadSetting, ggBadSetting, (ct_BadSetting.sub _).trans rfl, ct_BadSetting.dict⟩, no := nos_BadSetting, g := PySem.W.mg_of X G aC_BadSetting, ini := ⟨f_BadSetting__init, _, a_BadSetting__init, beq_iff_eq.mp i_BadSetting__init, ok_ini_BadSetting F_BadSetting__init ox_BadSetting no0BadSetting, b_BadSetting__init, kb_BadSetting⟩ }
  have ct_BadItem : CT K C_BadItem "BadItem" [.ref C_WorkerworldsError, .type "ValueError", .type "Exception", .type "BaseException", .type "object"] := ⟨qxBadItem, NSBadItem, bsBadItem, snBadItem, subBadItem, abBadItem, colBadItem, ddBadItem, k0BadItem, k1BadItem, k2BadItem, k3BadItem, k5BadItem, _, xLBadItem⟩
  have ec_BadItem : ExcC K C_BadItem := ⟨gaBadItem, ggBadItem, (ct_BadItem.sub _).trans rfl, ct_BadItem.dict, caBadItem, cnX, ctX, (ct_BadItem.sub _).trans rfl⟩
  have ox_BadItem : OexB K C_BadItem _ _ _ _ := { fb := PySem.F.excBase_ValueError, sf := PySem.F.store_ValueError, cls := ⟨_, qxBadItem, NSBadItem, bsBadItem, _, snBadItem, subBadItem, abBadItem, colBadItem, ddBadItem, k0BadItem, k1BadItem, k2BadItem, k3BadItem, k5BadItem, xLBadItem, by show PySem.W.excTail _ [.type "ValueError", .type "Exception", .type "BaseException", .type "object"] = true; decide +kernel⟩, sa := saBadItem, exC := (ct_BadItem.sub _).trans rfl, tyC := ct_BadItem.ty, kC := kcBadItem }
  have nos_BadItem : ∀ f ∈ (["at"] : List Str), PySem.W.findIn K (.ref C_BadItem) f = some none := fun f hf => by
    simp only [List.mem_cons, List.not_mem_nil, or_false] at hf
    rcases hf with rfl
    · exact no0BadItem
  have kb_BadItem : ∀ p, (["at"] : List Str) = [p] → KBn K _ ("self" :: ["at"]) 1 [p] (fun us ws => us ++ ws) (fun vs zs => vs ++ zs) := fun p hp => by
    cases hp
    exact fun_kb F_BadItem__init (ks := ["at"]) (ps := ["self", "at"]) fun _ _ _ _ _ _ us ws h1 h2 => match us, h1, ws, h2 with | [_], _, [_], _ => rfl
  have ex_BadItem : ErX l.prog w K mg base C_BadItem "BadItem" ["at"] ["at"] := { ox := ⟨_, _, _, _, ox_BadItem⟩, xf := ⟨gaBadItem, ggBadItem, (ct_BadItem.sub _).trans rfl, ct_BadItem.dict⟩, no := nos_BadItem, g := PySem.W.mg_of X G aC_BadItem, ini := ⟨f_BadItem__init, _, a_BadItem__init, beq_iff_eq.mp i_BadItem__init, ok_ini_BadItem F_BadItem__init ox_BadItem no0BadItem, b_BadItem__init, kb_BadItem⟩ }
  have ct_BadCut : CT K C_BadCut "BadCut" [.ref C_WorkerworldsError, .type "ValueError", .type "Exception", .type "BaseException", .type "object"] := ⟨qxBadCut, NSBadCut, bsBadCut, snBadCut, subBadCut, abBadCut, colBadCut, ddBadCut, k0BadCut, k1BadCut, k2BadCut, k3BadCut, k5BadCut, _, xLBadCut⟩
  have ec_BadCut : ExcC K C_BadCut := ⟨gaBadCut, ggBadCut, (ct_BadCut.sub _).trans rfl, ct_BadCut.dict, caBadCut, cnX, ctX, (ct_BadCut.sub _).trans rfl⟩
  have ox_BadCut : OexB K C_BadCut _ _ _ _ := { fb := PySem.F.excBase_ValueError, sf := PySem.F.store_ValueError, cls := ⟨_, qxBadCut, NSBadCut, bsBadCut, _, snBadCut, subBadCut, abBadCut, colBadCut, ddBadCut, k0BadCut, k1BadCut, k2BadCut, k3BadCut, k5BadCut, xLBadCut, by show PySem.W.excTail _ [.type "ValueError", .type "Exception", .type "BaseException", .type "object"] = true; decide +kernel⟩, sa := saBadCut, exC := (ct_BadCut.sub _).trans rfl, tyC := ct_BadCut.ty, kC := kcBadCut }
  have nos_BadCut : ∀ f ∈ (["at"] : List Str), PySem.W.findIn K (.ref C_BadCut) f = some none := fun f hf => by
    simp only [List.mem_cons, List.not_mem_nil, or_false] at hf
    rcases hf with rfl
    · exact no0BadCut
  have kb_BadCut : ∀ p, (["at"] : List Str) = [p] → KBn K _ ("self" :: ["at"]) 1 [p] (fun us ws => us ++ ws) (fun vs zs => vs ++ zs) := fun p hp => by
    cases hp
    exact fun_kb F_BadCut__init (ks := ["at"]) (ps := ["self", "at"]) fun _ _ _ _ _ _ us ws h1 h2 => match us, h1, ws, h2 with | [_], _, [_], _ => rfl
  have ex_BadCut : ErX l.prog w K mg base C_BadCut "BadCut" ["at"] ["at"] := { ox := ⟨_, _, _, _, ox_BadCut⟩, xf := ⟨gaBadCut, ggBadCut, (ct_BadCut.sub _).trans rfl, ct_BadCut.dict⟩, no := nos_BadCut, g := PySem.W.mg_of X G aC_BadCut, ini := ⟨f_BadCut__init, _, a_BadCut__init, beq_iff_eq.mp i_BadCut__init, ok_ini_BadCut F_BadCut__init ox_BadCut no0BadCut, b_BadCut__init, kb_BadCut⟩ }
  have ct_BadDealing : CT K C_BadDealing "BadDealing" [.ref C_WorkerworldsError, .type "ValueError", .type "Exception", .type "BaseException", .type "object"] := ⟨qxBadDealing, NSBadDealing, bsBadDealing, snBadDealing, subBadDealing, abBadDealing, colBadDealing, ddBadDealing, k0BadDealing, k1BadDealing, k2BadDealing, k3BadDealing, k5BadDealing, _, xLBadDealing⟩
  have ec_BadDealing : ExcC K C_BadDealing := ⟨gaBadDealing, ggBadDealing, (ct_BadDealing.sub _).trans rfl, ct_BadDealing.dict, caBadDealing, cnX, ctX, (ct_BadDealing.sub _).trans rfl⟩
  have ox_BadDealing : OexB K C_BadDealing _ _ _ _ := { fb := PySem.F.excBase_ValueError, sf := PySem.F.store_ValueError, cls := ⟨_, qxBadDealing, NSBadDealing, bsBadDealing, _, snBadDealing, subBadDealing, abBadDealing, colBadDealing, ddBadDealing, k0BadDealing, k1BadDealing, k2BadDealing, k3BadDealing, k5BadDealing, xLBadDealing, by show PySem.W.excTail _ [.type "ValueError", .type "Exception", .type "BaseException", .type "object"] = true; decide +kernel⟩, sa := saBadDealing, exC := (ct_BadDealing.sub _).trans rfl, tyC := ct_BadDealing.ty, kC := kcBadDealing }
  have nos_BadDealing : ∀ f ∈ (["at"] : List Str), PySem.W.findIn K (.ref C_BadDealing) f = some none := fun f hf => by
    simp only [List.mem_cons, List.not_mem_nil, or_false] at hf
    rcases hf with rfl
    · exact no0BadDealing
  have kb_BadDealing : ∀ p, (["at"] : List Str) = [p] → KBn K _ ("self" :: ["at"]) 1 [p] (fun us ws => us ++ ws) (fun vs zs => vs ++ zs) := fun p hp => by
    cases hp
    exact fun_kb F_BadDealing__init (ks := ["at"]) (ps := ["self", "at"]) fun _ _ _ _ _ _ us ws h1 h2 => match us, h1, ws, h2 with | [_], _, [_], _ => rfl
  have ex_BadDealing : ErX l.prog w K mg base C_BadDealing "BadDealing" ["at"] ["at"] := { ox := ⟨_, _, _, _, ox_BadDealing⟩, xf := ⟨gaBadDealing, ggBadDealing, (ct_BadDealing.sub _).trans rfl, ct_BadDealing.dict⟩, no := nos_BadDealing, g := PySem.W.mg_of X G aC_BadDealing, ini := ⟨f_BadDealing__init, _, a_BadDealing__init, beq_iff_eq.mp i_BadDealing__init, ok_ini_BadDealing F_BadDealing__init ox_BadDealing no0BadDealing, b_BadDealing__init, kb_BadDealing⟩ }
  have ct_NoName : CT K C_NoName "NoName" [.type "LookupError", .type "Exception", .type "BaseException", .type "object"] := ⟨qxNoName, NSNoName, bsNoName, snNoName, subNoName, abNoName, colNoName, ddNoName, k0NoName, k1NoName, k2NoName, k3NoName, k5NoName, _, xLNoName⟩
  have ec_NoName : ExcC K C_NoName := ⟨gaNoName, ggNoName, (ct_NoName.sub _).trans rfl, ct_NoName.dict, caNoName, cnX, ctX, (ct_NoName.sub _).trans rfl⟩
  have ox_NoName : OexB K C_NoName _ _ _ _ := { fb := PySem.F.excBase_LookupError, sf := PySem.F.store_LookupError, cls := ⟨_, qxNoName, NSNoName, bsNoName, _, snNoName, subNoName, abNoName, colNoName, ddNoName, k0NoName, k1NoName, k2NoName, k3NoName, k5NoName, xLNoName, by show PySem.W.excTail _ [.type "LookupError", .type "Exception", .type "BaseException", .type "object"] = true; decide +kernel⟩, sa := saNoName, exC := (ct_NoName.sub _).trans rfl, tyC := ct_NoName.ty, kC := kcNoName }
  have nos_NoName : ∀ f ∈ (["name"] : List Str), PySem.W.findIn K (.ref C_NoName) f = some none := fun f hf => by
    simp only [List.mem_cons, List.not_mem_nil, or_false] at hf
    rcases hf with rfl
    · exact no0NoName
  have kb_NoName : ∀ p, (["name"] : List Str) = [p] → KBn K _ ("self" :: ["name"]) 1 [p] (fun us ws => us ++ ws) (fun vs zs => vs ++ zs) := fun p hp => by
    cases hp
    exact fun_kb F_NoName__init (ks := ["name"]) (ps := ["self", "name"]) fun _ _ _ _ _ _ us ws h1 h2 => match us, h1, ws, h2 with | [_], _, [_], _ => rfl
  have ex_NoName : ErX l.prog w K mg base C_NoName "NoName" ["name"] ["name"] := { ox := ⟨_, _, _, _, ox_NoName⟩, xf := ⟨gaNoName, ggNoName, (ct_NoName.sub _).trans rfl, ct_NoName.dict⟩, no := nos_NoName, g := PySem.W.mg_of X G aC_NoName, ini := ⟨f_NoName__init, _, a_NoName__init, beq_iff_eq.mp i_NoName__init, ok_ini_NoName F_NoName__init ox_NoName no0NoName, b_NoName__init, kb_NoName⟩ }
  have ct_NoWorker : CT K C_NoWorker "NoWorker" [.type "LookupError", .type "Exception", .type "BaseException", .type "object"] := ⟨qxNoWorker, NSNoWorker, bsNoWorker, snNoWorker, subNoWorker, abNoWorker, colNoWorker, ddNoWorker, k0NoWorker, k1NoWorker, k2NoWorker, k3NoWorker, k5NoWorker, _, xLNoWorker⟩
  have ec_NoWorker : ExcC K C_NoWorker := ⟨gaNoWorker, ggNoWorker, (ct_NoWorker.sub _).trans rfl, ct_NoWorker.dict, caNoWorker, cnX, ctX, (ct_NoWorker.sub _).trans rfl⟩
  have ox_NoWorker : OexB K C_NoWorker _ _ _ _ := { fb := PySem.F.excBase_LookupError, sf := PySem.F.store_LookupError, cls := ⟨_, qxNoWorker, NSNoWorker, bsNoWorker, _, snNoWorker, subNoWorker, abNoWorker, colNoWorker, ddNoWorker, k0NoWorker, k1NoWorker, k2NoWorker, k3NoWorker, k5NoWorker, xLNoWorker, by show PySem.W.excTail _ [.type "LookupError", .type "Exception", .type "BaseException", .type "object"] = true; decide +kernel⟩, sa := saNoWorker, exC := (ct_NoWorker.sub _).trans rfl, tyC := ct_NoWorker.ty, kC := kcNoWorker }
  have nos_NoWorker : ∀ f ∈ (["number"] : List Str), PySem.W.findIn K (.ref C_NoWorker) f = some none := fun f hf => by
    simp only [List.mem_cons, List.not_mem_nil, or_false] at hf
    rcases hf with rfl
    · exact no0NoWorker
  have kb_NoWorker : ∀ p, (["number"] : List Str) = [p] → KBn K _ ("self" :: ["number"]) 1 [p] (fun us ws => us ++ ws) (fun vs zs => vs ++ zs) := fun p hp => by
    cases hp
    exact fun_kb F_NoWorker__init (ks := ["number"]) (ps := ["self", "number"]) fun _ _ _ _ _ _ us ws h1 h2 => match us, h1, ws, h2 with | [_], _, [_], _ => rfl
  have ex_NoWorker : ErX l.prog w K mg base C_NoWorker "NoWorker" ["number"] ["number"] := { ox := ⟨_, _, _, _, ox_NoWorker⟩, xf := ⟨gaNoWorker, ggNoWorker, (ct_NoWorker.sub _).trans rfl, ct_NoWorker.dict⟩, no := nos_NoWorker, g := PySem.W.mg_of X G aC_NoWorker, ini := ⟨f_NoWorker__init, _, a_NoWorker__init, beq_iff_eq.mp i_NoWorker__init, ok_ini_NoWorker F_NoWorker__init ox_NoWorker no0NoWorker, b_NoWorker__init, kb_NoWorker⟩ }
  have ct_TaskFailed : CT K C_TaskFailed "TaskFailed" [.type "RuntimeError", .type "Exception", .type "BaseException", .type "object"] := ⟨qxTaskFailed, NSTaskFailed, bsTaskFailed, snTaskFailed, subTaskFailed, abTaskFailed, colTaskFailed, ddTaskFailed, k0TaskFailed, k1TaskFailed, k2TaskFailed, k3TaskFailed, k5TaskFailed, _, xLTaskFailed⟩
  have ec_TaskFailed : ExcC K C_TaskFailed := ⟨gaTaskFailed, ggTaskFailed, (ct_TaskFailed.sub _).trans rfl, ct_TaskFailed.dict, caTaskFailed, cnX, ctX, (ct_TaskFailed.sub _).trans rfl⟩
  have ox_TaskFailed : OexB K C_TaskFailed _ _ _ _ := { fb := PySem.F.excBase_RuntimeError, sf := PySem.F.store_RuntimeError, cls := ⟨_, qxTaskFailed, NSTaskFailed, bsTaskFailed, _, snTaskFailed, subTaskFailed, abTaskFailed, colTaskFailed, ddTaskFailed, k0TaskFailed, k1TaskFailed, k2TaskFailed, k3TaskFailed, k5TaskFailed, xLTaskFailed, by show PySem.W.excTail _ [.type "RuntimeError", .type "Exception", .type "BaseException", .type "object"] = true; decide +kernel⟩, sa := saTaskFailed, exC := (ct_TaskFailed.sub _).trans rfl, tyC := ct_TaskFailed.ty, kC := kcTaskFailed }
  have nos_TaskFailed : ∀ f ∈ (["at", "told", "cause"] : List Str), PySem.W.findIn K (.ref C_TaskFailed) f = some none := fun f hf => by
    simp only [List.mem_cons, List.not_mem_nil, or_false] at hf
    rcases hf with rfl | rfl | rfl
    · exact no0TaskFailed
    · exact no1TaskFailed
    · exact no2TaskFailed
  have ex_TaskFailed : ErX l.prog w K mg base C_TaskFailed "TaskFailed" ["at", "told", "cause"] ["at", "told", "cause"] := { ox := ⟨_, _, _, _, ox_TaskFailed⟩, xf := ⟨gaTaskFailed, ggTaskFailed, (ct_TaskFailed.sub _).trans rfl, ct_TaskFailed.dict⟩, no := nos_TaskFailed, g := PySem.W.mg_of X G aC_TaskFailed, ini := ⟨f_TaskFailed__init, _, a_TaskFailed__init, beq_iff_eq.mp i_TaskFailed__init, ok_ini_TaskFailed F_TaskFailed__init ox_TaskFailed no0TaskFailed no1TaskFailed no2TaskFailed, b_TaskFailed__init, fun p hp => by cases hp⟩ }
  have ct_CannotCross : CT K C_CannotCross "CannotCross" [.type "RuntimeError", .type "Exception", .type "BaseException", .type "object"] := ⟨qxCannotCross, NSCannotCross, bsCannotCross, snCannotCross, subCannotCross, abCannotCross, colCannotCross, ddCannotCross, k0CannotCross, k1CannotCross, k2CannotCross, k3CannotCross, k5CannotCross, _, xLCannotCross⟩
  have ec_CannotCross : ExcC K C_CannotCross := ⟨gaCannotCross, ggCannotCross, (ct_CannotCross.sub _).trans rfl, ct_CannotCross.dict, caCannotCross, cnX, ctX, (ct_CannotCross.sub _).trans rfl⟩
  have ox_CannotCross : OexB K C_CannotCross _ _ _ _ := { fb := PySem.F.excBase_RuntimeError, sf := PySem.F.store_RuntimeError, cls := ⟨_, qxCannotCross, NSCannotCross, bsCannotCross, _, snCannotCross, subCannotCross, abCannotCross, colCannotCross, ddCannotCross, k0CannotCross, k1CannotCross, k2CannotCross, k3CannotCross, k5CannotCross, xLCannotCross, by show PySem.W.excTail _ [.type "RuntimeError", .type "Exception", .type "BaseException", .type "object"] = true; decide +kernel⟩, sa := saCannotCross, exC := (ct_CannotCross.sub _).trans rfl, tyC := ct_CannotCross.ty, kC := kcCannotCross }
  have nos_CannotCross : ∀ f ∈ (["at", "what"] : List Str), PySem.W.findIn K (.ref C_CannotCross) f = some none := fun f hf => by
    simp only [List.mem_cons, List.not_mem_nil, or_false] at hf
    rcases hf with rfl | rfl
    · exact no0CannotCross
    · exact no1CannotCross
  have ex_CannotCross : ErX l.prog w K mg base C_CannotCross "CannotCross" ["at", "what"] ["at", "what"] := { ox := ⟨_, _, _, _, ox_CannotCross⟩, xf := ⟨gaCannotCross, ggCannotCross, (ct_CannotCross.sub _).trans rfl, ct_CannotCross.dict⟩, no := nos_CannotCross, g := PySem.W.mg_of X G aC_CannotCross, ini := ⟨f_CannotCross__init, _, a_CannotCross__init, beq_iff_eq.mp i_CannotCross__init, ok_ini_CannotCross F_CannotCross__init ox_CannotCross no0CannotCross no1CannotCross, b_CannotCross__init, fun p hp => by cases hp⟩ }
  have ct_Closed : CT K C_Closed "Closed" [.type "RuntimeError", .type "Exception", .type "BaseException", .type "object"] := ⟨qxClosed, NSClosed, bsClosed, snClosed, subClosed, abClosed, colClosed, ddClosed, k0Closed, k1Closed, k2Closed, k3Closed, k5Closed, _, xLClosed⟩
  have ec_Closed : ExcC K C_Closed := ⟨gaClosed, ggClosed, (ct_Closed.sub _).trans rfl, ct_Closed.dict, caClosed, cnX, ctX, (ct_Closed.sub _).trans rfl⟩
  have ex_Closed : Er0 K mg C_Closed "Closed" := ⟨⟨_, _, _, _, PySem.F.excBase_RuntimeError, xqClosed⟩, PySem.W.mg_of X G aC_Closed, kcClosed⟩
  have ct_WorkerworldsError : CT K C_WorkerworldsError "WorkerworldsError" [.type "ValueError", .type "Exception", .type "BaseException", .type "object"] := ⟨qxWorkerworldsError, NSWorkerworldsError, bsWorkerworldsError, snWorkerworldsError, subWorkerworldsError, abWorkerworldsError, colWorkerworldsError, ddWorkerworldsError, k0WorkerworldsError, k1WorkerworldsError, k2WorkerworldsError, k3WorkerworldsError, k5WorkerworldsError, _, xLWorkerworldsError⟩
  have ec_WorkerworldsError : ExcC K C_WorkerworldsError := ⟨gaWorkerworldsError, ggWorkerworldsError, (ct_WorkerworldsError.sub _).trans rfl, ct_WorkerworldsError.dict, caWorkerworldsError, cnX, ctX, (ct_WorkerworldsError.sub _).trans rfl⟩
  have ex_WorkerworldsError : Er0 K mg C_WorkerworldsError "WorkerworldsError" := ⟨⟨_, _, _, _, PySem.F.excBase_ValueError, xqWorkerworldsError⟩, PySem.W.mg_of X G aC_WorkerworldsError, kcWorkerworldsError⟩
  have GX : GC mg C_BadBox C_BadName C_BadWorld C_BadRow C_BadProgram C_BadText C_TooMany C_BadSetting C_BadItem C_BadCut C_BadDealing C_NoName C_NoWorker C_TaskFailed C_CannotCross C_Closed C_WorkerworldsError := { g_BadBox := ⟨_, PySem.W.mg_of X G aC_BadBox, rfl⟩, g_BadName := ⟨_, PySem.W.mg_of X G aC_BadName, rfl⟩, g_BadWorld := ⟨_, PySem.W.mg_of X G aC_BadWorld, rfl⟩, g_BadRow := ⟨_, PySem.W.mg_of X G aC_BadRow, rfl⟩, g_BadProgram := ⟨_, PySem.W.mg_of X G aC_BadProgram, rfl⟩, g_BadText := ⟨_, PySem.W.mg_of X G aC_BadText, rfl⟩, g_TooMany := ⟨_, PySem.W.mg_of X G aC_TooMany, rfl⟩, g_BadSetting := ⟨_, PySem.W.mg_of X G aC_BadSetting, rfl⟩, g_BadItem := ⟨_, PySem.W.mg_of X G aC_BadItem, rfl⟩, g_BadCut := ⟨_, PySem.W.mg_of X G aC_BadCut, rfl⟩, g_BadDealing := ⟨_, PySem.W.mg_of X G aC_BadDealing, rfl⟩, g_NoName := ⟨_, PySem.W.mg_of X G aC_NoName, rfl⟩, g_NoWorker := ⟨_, PySem.W.mg_of X G aC_NoWorker, rfl⟩, g_TaskFailed := ⟨_, PySem.W.mg_of X G aC_TaskFailed, rfl⟩, g_CannotCross := ⟨_, PySem.W.mg_of X G aC_CannotCross, rfl⟩, g_Closed := ⟨_, PySem.W.mg_of X G aC_Closed, rfl⟩, g_WorkerworldsError := ⟨_, PySem.W.mg_of X G aC_WorkerworldsError, rfl⟩ }
  have EX : Ers l.prog w K mg base C_BadBox C_BadName C_BadWorld C_BadRow C_BadProgram C_BadText C_TooMany C_BadSetting C_BadItem C_BadCut C_BadDealing C_NoName C_NoWorker C_TaskFailed C_CannotCross C_Closed C_WorkerworldsError := { e_BadBox := ex_BadBox, e_BadName := ex_BadName, e_BadWorld := ex_BadWorld, e_BadRow := ex_BadRow, e_BadProgram := ex_BadProgram, e_BadText := ex_BadText, e_TooMany := ex_TooMany, e_BadSetting := ex_BadSetting, e_BadItem := ex_BadItem, e_BadCut := ex_BadCut, e_BadDealing := ex_BadDealing, e_NoName := ex_NoName, e_NoWorker := ex_NoWorker, e_TaskFailed := ex_TaskFailed, e_CannotCross := ex_CannotCross, e_Closed := ex_Closed, e_WorkerworldsError := ex_WorkerworldsError }
  have TT : Tab K [C_BadBox, C_BadName, C_BadWorld, C_BadRow, C_BadProgram, C_BadText, C_TooMany, C_BadSetting, C_BadItem, C_BadCut, C_BadDealing, C_NoName, C_NoWorker, C_TaskFailed, C_CannotCross, C_Closed] n16 (m16 C_WorkerworldsError) C_WorkerworldsError (mW) := { w := ct_WorkerworldsError, at_ := fun j D h => match j, h with
    | 0, h => by cases h; exact ⟨_, _, rfl, rfl, ct_BadBox⟩
    | 1, h => by cases h; exact ⟨_, _, rfl, rfl, ct_BadName⟩
    | 2, h => by cases h; exact ⟨_, _, rfl, rfl, ct_BadWorld⟩
    | 3, h => by cases h; exact ⟨_, _, rfl, rfl, ct_BadRow⟩
    | 4, h => by cases h; exact ⟨_, _, rfl, rfl, ct_BadProgram⟩
    | 5, h => by cases h; exact ⟨_, _, rfl, rfl, ct_BadText⟩
    | 6, h => by cases h; exact ⟨_, _, rfl, rfl, ct_TooMany⟩
    | 7, h => by cases h; exact ⟨_, _, rfl, rfl, ct_BadSetting⟩
    | 8, h => by cases h; exact ⟨_, _, rfl, rfl, ct_BadItem⟩
    | 9, h => by cases h; exact ⟨_, _, rfl, rfl, ct_BadCut⟩
    | 10, h => by cases h; exact ⟨_, _, rfl, rfl, ct_BadDealing⟩
    | 11, h => by cases h; exact ⟨_, _, rfl, rfl, ct_NoName⟩
    | 12, h => by cases h; exact ⟨_, _, rfl, rfl, ct_NoWorker⟩
    | 13, h => by cases h; exact ⟨_, _, rfl, rfl, ct_TaskFailed⟩
    | 14, h => by cases h; exact ⟨_, _, rfl, rfl, ct_CannotCross⟩
    | 15, h => by cases h; exact ⟨_, _, rfl, rfl, ct_Closed⟩
    | n + 16, h => nomatch h }
  have EE : ∀ (j : Nat) (D : Addr), ([C_BadBox, C_BadName, C_BadWorld, C_BadRow, C_BadProgram, C_BadText, C_TooMany, C_BadSetting, C_BadItem, C_BadCut, C_BadDealing, C_NoName, C_NoWorker, C_TaskFailed, C_CannotCross, C_Closed] : List Addr)[j]? = some D → ExcC K D := fun j D h => match j, h with
    | 0, h => by cases h; exact ec_BadBox
    | 1, h => by cases h; exact ec_BadName
    | 2, h => by cases h; exact ec_BadWorld
    | 3, h => by cases h; exact ec_BadRow
    | 4, h => by cases h; exact ec_BadProgram
    | 5, h => by cases h; exact ec_BadText
    | 6, h => by cases h; exact ec_TooMany
    | 7, h => by cases h; exact ec_BadSetting
    | 8, h => by cases h; exact ec_BadItem
    | 9, h => by cases h; exact ec_BadCut
    | 10, h => by cases h; exact ec_BadDealing
    | 11, h => by cases h; exact ec_NoName
    | 12, h => by cases h; exact ec_NoWorker
    | 13, h => by cases h; exact ec_TaskFailed
    | 14, h => by cases h; exact ec_CannotCross
    | 15, h => by cases h; exact ec_Closed
    | n + 16, h => nomatch h
  have T_value := calOf F_value g_value b_value (ok_value (P := l.prog) (w := w) (base := base) F_value T T_take)
  have T_kinds := calOf F_kinds g_kinds b_kinds (ok_kinds (P := l.prog) (w := w) (base := base) F_kinds T GX)
  have T_are_right : CalG l.prog w K mg base 3 "_law_are_right" (spR8 K) := ⟨f_are_right, _, _, ok_right F_are_right T GX EX TT EE ec_WorkerworldsError T_kinds, g_are_right, F_are_right.kp, b_are_right⟩
  exact ok_law F_law T T_bag T_value T_are_right

theorem walk {l : PySem.W.OpenLaw} {q : Program} {loose : List Str} {XP : (Str → Option Value) → Heap → Prop} {YP : World → Heap → Prop} {d : DefRec} {K : Params → PySem.W.Frag} (hn : l.most = some 63) (hdf : d.params.defaults = [])
    (hY : ∀ (w : World) (h : Heap), YP w h → (K w.params).In h)
    (F : ∀ (w : World) (mg : Str → Option Value) (fa : Addr) (h : Heap), (K w.params).In h → h.Ns mainGlobals mg → mg d.name = some (.ref fa) →
      ∃ fd : FuncData, (∀ (s : Shared) (u : Value), BindsTo s fd ⟨[u], []⟩ [("_law_script", u)]) ∧ ∀ base : Heap, (K w.params).In base → base.Ns mainGlobals mg → WB.FnG l.prog w (K w.params) mg base C8.CX0 4 fa fd ["_law_script"] (spLaw (K w.params))) :
    PySem.W.WalkO q loose XP YP l.row.toRowW d [] (fun f vs => PySem.call f vs) :=
  WB.walk_g (n := 63) (k := 4) (x := "_law_script") (sp := fun w => spLaw (K w.params)) hn (by decide) hdf ⟨rfl, by decide, by decide⟩ hY F (fun _ _ a ns hl _ hS => ⟨a, ns, rfl, hS, hl, fun _ => rfl⟩)

end W8
open PySem PySem.W PyProof.Rows in
set_option maxRecDepth 100000 in
set_option maxHeartbeats 0 in
theorem PySem.Challenge.cw_workerworlds_k08_errors_by_hand_holds : PySem.Challenge.rw_workerworlds_k08_errors_by_hand.Holds := by
  w_on; o_law; k_head; (case hw => w_witness2)
  k_fill
  refine W8.walk (l := PySem.Challenge.rw_workerworlds_k08_errors_by_hand) rfl rfl (fun w h Y => PySem.W.kIn_of Y) ?F
  case F =>
    intro w mg fa h KX G hmg
    refine' W8.all_mk KX G hmg ?aC_BadBox ?aC_BadName ?aC_BadWorld ?aC_BadRow ?aC_BadProgram ?aC_BadText ?aC_TooMany ?aC_BadSetting ?aC_BadItem ?aC_BadCut ?aC_BadDealing ?aC_NoName ?aC_NoWorker ?aC_TaskFailed ?aC_CannotCross ?aC_Closed ?aC_WorkerworldsError ?a_bag ?l_bag ?c_bag ?k_bag ?a_take ?l_take ?c_take ?k_take ?a_value ?l_value ?c_value ?k_value ?a_kinds ?l_kinds ?c_kinds ?k_kinds ?a_are_right ?l_are_right ?c_are_right ?k_are_right ?a_law ?l_law ?c_law ?k_law ?a_BadBox__init ?i_BadBox__init ?l_BadBox__init ?c_BadBox__init ?k_BadBox__init ?a_BadName__init ?i_BadName__init ?l_BadName__init ?c_BadName__init ?k_BadName__init ?a_BadWorld__init ?i_BadWorld__init ?l_BadWorld__init ?c_BadWorld__init ?k_BadWorld__init ?a_BadRow__init ?i_BadRow__init ?l_BadRow__init ?c_BadRow__init ?k_BadRow__init ?a_BadProgram__init ?i_BadProgram__init ?l_BadProgram__init ?c_BadProgram__init ?k_BadProgram__init ?a_BadText__init ?i_BadText__init ?l_BadText__init ?c_BadText__init ?k_BadText__init ?a_TooMany__init ?i_TooMany__init ?l_TooMany__init ?c_TooMany__init ?k_TooMany__init ?a_BadSetting__init ?i_BadSetting__init ?l_BadSetting__init ?c_BadSetting__init ?k_BadSetting__init ?a_BadItem__init ?i_BadItem__init ?l_BadItem__init ?c_BadItem__init ?k_BadItem__init ?a_BadCut__init ?i_BadCut__init ?l_BadCut__init ?c_BadCut__init ?k_BadCut__init ?a_BadDealing__init ?i_BadDealing__init ?l_BadDealing__init ?c_BadDealing__init ?k_BadDealing__init ?a_NoName__init ?i_NoName__init ?l_NoName__init ?c_NoName__init ?k_NoName__init ?a_NoWorker__init ?i_NoWorker__init ?l_NoWorker__init ?c_NoWorker__init ?k_NoWorker__init ?a_TaskFailed__init ?i_TaskFailed__init ?l_TaskFailed__init ?c_TaskFailed__init ?k_TaskFailed__init ?a_CannotCross__init ?i_CannotCross__init ?l_CannotCross__init ?c_CannotCross__init ?k_CannotCross__init ?z_len ?z_abs ?z_list ?z_int ?z_isinstance ?z_range ?z_max ?z_min ?z_repr ?z_enumerate ?z_ValueError ?z_LookupError ?z_RuntimeError ?xLBadBox ?kcBadBox ?gaBadBox ?ggBadBox ?caBadBox ?saBadBox ?no0BadBox ?xLBadName ?kcBadName ?gaBadName ?ggBadName ?caBadName ?saBadName ?no0BadName ?xLBadWorld ?kcBadWorld ?gaBadWorld ?ggBadWorld ?caBadWorld ?saBadWorld ?no0BadWorld ?xLBadRow ?kcBadRow ?gaBadRow ?ggBadRow ?caBadRow ?saBadRow ?no0BadRow ?xLBadProgram ?kcBadProgram ?gaBadProgram ?ggBadProgram ?caBadProgram ?saBadProgram ?no0BadProgram ?no1BadProgram ?xLBadText ?kcBadText ?gaBadText ?ggBadText ?caBadText ?saBadText ?no0BadText ?xLTooMany ?kcTooMany ?gaTooMany ?ggTooMany ?caTooMany ?saTooMany ?no0TooMany ?xLBadSetting ?kcBadSetting ?gaBadSetting ?ggBadSetting ?caBadSetting ?saBadSetting ?no0BadSetting ?xLBadItem ?kcBadItem ?gaBadItem ?ggBadItem ?caBadItem ?saBadItem ?no0BadItem ?xLBadCut ?kcBadCut ?gaBadCut ?ggBadCut ?caBadCut ?saBadCut ?no0BadCut ?xLBadDealing ?kcBadDealing ?gaBadDealing ?ggBadDealing ?caBadDealing ?saBadDealing ?no0BadDealing ?xLNoName ?kcNoName ?gaNoName ?ggNoName ?caNoName ?saNoName ?no0NoName ?xLNoWorker ?kcNoWorker ?gaNoWorker ?ggNoWorker ?caNoWorker ?saNoWorker ?no0NoWorker ?xLTaskFailed ?kcTaskFailed ?gaTaskFailed ?ggTaskFailed ?caTaskFailed ?saTaskFailed ?no0TaskFailed ?no1TaskFailed ?no2TaskFailed ?xLCannotCross ?kcCannotCross ?gaCannotCross ?ggCannotCross ?caCannotCross ?saCannotCross ?no0CannotCross ?no1CannotCross ?xLClosed ?kcClosed ?gaClosed ?ggClosed ?caClosed ?xqClosed ?xLWorkerworldsError ?kcWorkerworldsError ?gaWorkerworldsError ?ggWorkerworldsError ?caWorkerworldsError ?xqWorkerworldsError ?cnX ?ctX
    (case aC_BadBox => k_is)
    (case aC_BadName => k_is)
    (case aC_BadWorld => k_is)
    (case aC_BadRow => k_is)
    (case aC_BadProgram => k_is)
    (case aC_BadText => k_is)
    (case aC_TooMany => k_is)
    (case aC_BadSetting => k_is)
    (case aC_BadItem => k_is)
    (case aC_BadCut => k_is)
    (case aC_BadDealing => k_is)
    (case aC_NoName => k_is)
    (case aC_NoWorker => k_is)
    (case aC_TaskFailed => k_is)
    (case aC_CannotCross => k_is)
    (case aC_Closed => k_is)
    (case aC_WorkerworldsError => k_is)
    (case a_bag => k_is)
    (case l_bag => k_is)
    (case c_bag => k_is)
    (case k_bag => k_is)
    (case a_take => k_is)
    (case l_take => k_is)
    (case c_take => k_is)
    (case k_take => k_is)
    (case a_value => k_is)
    (case l_value => k_is)
    (case c_value => k_is)
    (case k_value => k_is)
    (case a_kinds => k_is)
    (case l_kinds => k_is)
    (case c_kinds => k_is)
    (case k_kinds => k_is)
    (case a_are_right => k_is)
    (case l_are_right => k_is)
    (case c_are_right => k_is)
    (case k_are_right => k_is)
    (case a_law => k_is)
    (case l_law => k_is)
    (case c_law => k_is)
    (case k_law => k_is)
    (case a_BadBox__init => k_is)
    (case i_BadBox__init => k_is)
    (case l_BadBox__init => k_is)
    (case c_BadBox__init => k_is)
    (case k_BadBox__init => k_is)
    (case a_BadName__init => k_is)
    (case i_BadName__init => k_is)
    (case l_BadName__init => k_is)
    (case c_BadName__init => k_is)
    (case k_BadName__init => k_is)
    (case a_BadWorld__init => k_is)
    (case i_BadWorld__init => k_is)
    (case l_BadWorld__init => k_is)
    (case c_BadWorld__init => k_is)
    (case k_BadWorld__init => k_is)
    (case a_BadRow__init => k_is)
    (case i_BadRow__init => k_is)
    (case l_BadRow__init => k_is)
    (case c_BadRow__init => k_is)
    (case k_BadRow__init => k_is)
    (case a_BadProgram__init => k_is)
    (case i_BadProgram__init => k_is)
    (case l_BadProgram__init => k_is)
    (case c_BadProgram__init => k_is)
    (case k_BadProgram__init => k_is)
    (case a_BadText__init => k_is)
    (case i_BadText__init => k_is)
    (case l_BadText__init => k_is)
    (case c_BadText__init => k_is)
    (case k_BadText__init => k_is)
    (case a_TooMany__init => k_is)
    (case i_TooMany__init => k_is)
    (case l_TooMany__init => k_is)
    (case c_TooMany__init => k_is)
    (case k_TooMany__init => k_is)
    (case a_BadSetting__init => k_is)
    (case i_BadSetting__init => k_is)
    (case l_BadSetting__init => k_is)
    (case c_BadSetting__init => k_is)
    (case k_BadSetting__init => k_is)
    (case a_BadItem__init => k_is)
    (case i_BadItem__init => k_is)
    (case l_BadItem__init => k_is)
    (case c_BadItem__init => k_is)
    (case k_BadItem__init => k_is)
    (case a_BadCut__init => k_is)
    (case i_BadCut__init => k_is)
    (case l_BadCut__init => k_is)
    (case c_BadCut__init => k_is)
    (case k_BadCut__init => k_is)
    (case a_BadDealing__init => k_is)
    (case i_BadDealing__init => k_is)
    (case l_BadDealing__init => k_is)
    (case c_BadDealing__init => k_is)
    (case k_BadDealing__init => k_is)
    (case a_NoName__init => k_is)
    (case i_NoName__init => k_is)
    (case l_NoName__init => k_is)
    (case c_NoName__init => k_is)
    (case k_NoName__init => k_is)
    (case a_NoWorker__init => k_is)
    (case i_NoWorker__init => k_is)
    (case l_NoWorker__init => k_is)
    (case c_NoWorker__init => k_is)
    (case k_NoWorker__init => k_is)
    (case a_TaskFailed__init => k_is)
    (case i_TaskFailed__init => k_is)
    (case l_TaskFailed__init => k_is)
    (case c_TaskFailed__init => k_is)
    (case k_TaskFailed__init => k_is)
    (case a_CannotCross__init => k_is)
    (case i_CannotCross__init => k_is)
    (case l_CannotCross__init => k_is)
    (case c_CannotCross__init => k_is)
    (case k_CannotCross__init => k_is)
    (case z_len => k_is)
    (case z_abs => k_is)
    (case z_list => k_is)
    (case z_int => k_is)
    (case z_isinstance => k_is)
    (case z_range => k_is)
    (case z_max => k_is)
    (case z_min => k_is)
    (case z_repr => k_is)
    (case z_enumerate => k_is)
    (case z_ValueError => k_is)
    (case z_LookupError => k_is)
    (case z_RuntimeError => k_is)
    (case xLBadBox => k_is)
    (case kcBadBox => k_is)
    (case gaBadBox => k_is)
    (case ggBadBox => k_is)
    (case caBadBox => k_is)
    (case saBadBox => k_is)
    (case no0BadBox => k_is)
    (case xLBadName => k_is)
    (case kcBadName => k_is)
    (case gaBadName => k_is)
    (case ggBadName => k_is)
    (case caBadName => k_is)
    (case saBadName => k_is)
    (case no0BadName => k_is)
    (case xLBadWorld => k_is)
    (case kcBadWorld => k_is)
    (case gaBadWorld => k_is)
    (case ggBadWorld => k_is)
    (case caBadWorld => k_is)
    (case saBadWorld => k_is)
    (case no0BadWorld => k_is)
    (case xLBadRow => k_is)
    (case kcBadRow => k_is)
    (case gaBadRow => k_is)
    (case ggBadRow => k_is)
    (case caBadRow => k_is)
    (case saBadRow => k_is)
    (case no0BadRow => k_is)
    (case xLBadProgram => k_is)
    (case kcBadProgram => k_is)
    (case gaBadProgram => k_is)
    (case ggBadProgram => k_is)
    (case caBadProgram => k_is)
    (case saBadProgram => k_is)
    (case no0BadProgram => k_is)
    (case no1BadProgram => k_is)
    (case xLBadText => k_is)
    (case kcBadText => k_is)
    (case gaBadText => k_is)
    (case ggBadText => k_is)
    (case caBadText => k_is)
    (case saBadText => k_is)
    (case no0BadText => k_is)
    (case xLTooMany => k_is)
    (case kcTooMany => k_is)
    (case gaTooMany => k_is)
    (case ggTooMany => k_is)
    (case caTooMany => k_is)
    (case saTooMany => k_is)
    (case no0TooMany => k_is)
    (case xLBadSetting => k_is)
    (case kcBadSetting => k_is)
    (case gaBadSetting => k_is)
    (case ggBadSetting => k_is)
    (case caBadSetting => k_is)
    (case saBadSetting => k_is)
    (case no0BadSetting => k_is)
    (case xLBadItem => k_is)
    (case kcBadItem => k_is)
    (case gaBadItem => k_is)
    (case ggBadItem => k_is)
    (case caBadItem => k_is)
    (case saBadItem => k_is)
    (case no0BadItem => k_is)
    (case xLBadCut => k_is)
    (case kcBadCut => k_is)
    (case gaBadCut => k_is)
    (case ggBadCut => k_is)
    (case caBadCut => k_is)
    (case saBadCut => k_is)
    (case no0BadCut => k_is)
    (case xLBadDealing => k_is)
    (case kcBadDealing => k_is)
    (case gaBadDealing => k_is)
    (case ggBadDealing => k_is)
    (case caBadDealing => k_is)
    (case saBadDealing => k_is)
    (case no0BadDealing => k_is)
    (case xLNoName => k_is)
    (case kcNoName => k_is)
    (case gaNoName => k_is)
    (case ggNoName => k_is)
    (case caNoName => k_is)
    (case saNoName => k_is)
    (case no0NoName => k_is)
    (case xLNoWorker => k_is)
    (case kcNoWorker => k_is)
    (case gaNoWorker => k_is)
    (case ggNoWorker => k_is)
    (case caNoWorker => k_is)
    (case saNoWorker => k_is)
    (case no0NoWorker => k_is)
    (case xLTaskFailed => k_is)
    (case kcTaskFailed => k_is)
    (case gaTaskFailed => k_is)
    (case ggTaskFailed => k_is)
    (case caTaskFailed => k_is)
    (case saTaskFailed => k_is)
    (case no0TaskFailed => k_is)
    (case no1TaskFailed => k_is)
    (case no2TaskFailed => k_is)
    (case xLCannotCross => k_is)
    (case kcCannotCross => k_is)
    (case gaCannotCross => k_is)
    (case ggCannotCross => k_is)
    (case caCannotCross => k_is)
    (case saCannotCross => k_is)
    (case no0CannotCross => k_is)
    (case no1CannotCross => k_is)
    (case xLClosed => k_is)
    (case kcClosed => k_is)
    (case gaClosed => k_is)
    (case ggClosed => k_is)
    (case caClosed => k_is)
    (case xqClosed => k_exc)
    (case xLWorkerworldsError => k_is)
    (case kcWorkerworldsError => k_is)
    (case gaWorkerworldsError => k_is)
    (case ggWorkerworldsError => k_is)
    (case caWorkerworldsError => k_is)
    (case xqWorkerworldsError => k_exc)
    (case cnX => k_is)
    (case ctX => k_is)

