import PyProof.Rows.All
import Wide.All
import OpenK.AllK
import Wide.FinOn
import HandS.TupMul
import HandS.TupAny
import HandS.Deep
import HandS.Zip
import KE.GoesMore
import HandS.DictComp
import HandS.ForMost
import HandS.ForExc
import HandS.Walk
import HandS.Conv
import HandS.IsInst
import HandS.Flow
import HandS.Codes
import HandS.Lambda
import HandS.Wide
import HandS.SortInts
import HandS.Defaults
import HandS.CallSlots
import HandS.CallLocal
import HandS.ExcInit
import HandS.ExcField
import HandS.ExcIs
import HandS.Style
import PyProof.ReprRoads
import PyProof.ReprBulk
import PyProof.Rows.ReprShort
import PyProof.Rows.CountFlat
import HandS.EndTab
import HandS.Call
import HandS.Star
import PyProof.CallFns
import PyProof.SliceList
import PyProof.Rows.StrTemp
import KE.KRevSl
import PyProof.WalksMore
import HandS.Strs
import PyProof.Rows.SetFrom
import PyProof.FactsAll.subtypes_4
import PyProof.SeqIndex
import KE.KIndexOf
import HandS.FStr
import KE.KSortTupG
import HandS.SortKw
import HandS.SortRule
import PySem.Challenge.RW_starshelves_k06_free_lots_told
set_option Elab.async false
set_option linter.all false
set_option maxRecDepth 100000
set_option maxHeartbeats 4000000
namespace Pev
open PySem PySem.Spec PyProof.Rows L2
theorem tuple_mulW1 (l : Addr) (items : Array Value) (n : Nat) (dd : Option Addr) (sl : Array (Option Value)) (x : Int) (u : Tok) (c0 : (decide (x < -(2 ^ 63)) || decide (x ≥ 2 ^ 63)) = false) (c1 : (items.isEmpty || x == 1) = true) :
    Meets (Builtin.«tuple.__mul__» ⟨[.ref l, .int x u], []⟩) (fun _ R s => s.heap.get? l = some { cls := .type "tuple", dict := dd, data := .seq items n, slots := sl } ∧
      R (.ok (.ret (Value.ref l))) s) :=
  .of_wp fun prog w A R s h => by
    obtain ⟨hp, g, d, tk, os⟩ := s
    obtain ⟨hl, h⟩ := h
    have f1 := AutoSeq1.idx_int
    have hT : (⟨hp, g, d, tk, os⟩ : Shared).TypeIs (.ref l) "tuple" := ⟨_, hl, rfl⟩
    wp_walk using wpAny_loadPart' hl
    repeat (first
      | (refine wpAny_ite_false (decide_eq_false (by rw [c0]; exact Bool.false_ne_true)) ?_; wp_walk using wpAny_loadPart' hl)
      | (refine wpAny_ite_true (decide_eq_true (by rw [c1])) ?_; wp_walk using wpAny_loadPart' hl)
      | (refine wpAny_ite_true (by rw [c1]) ?_; wp_walk using wpAny_loadPart' hl))
    exact ⟨_, rfl, h⟩
theorem tuple_mulW0 (l : Addr) (items : Array Value) (n : Nat) (dd : Option Addr) (sl : Array (Option Value)) (x : Int) (u : Tok) (c0 : (decide (x < -(2 ^ 63)) || decide (x ≥ 2 ^ 63)) = false) (c1 : (items.isEmpty || x == 1) = false) (c2 : (decide (x ≤ 0) || items.isEmpty) = true) :
    Meets (Builtin.«tuple.__mul__» ⟨[.ref l, .int x u], []⟩) (fun _ R s => s.heap.get? l = some { cls := .type "tuple", dict := dd, data := .seq items n, slots := sl } ∧
      R (.ok (.ret (Value.ref s.heap.objs.size))) { s with heap := s.heap.push { cls := Value.type "tuple", data := Data.seq #[] }, toks := s.toks }) :=
  .of_wp fun prog w A R s h => by
    obtain ⟨hp, g, d, tk, os⟩ := s
    obtain ⟨hl, h⟩ := h
    have f1 := AutoSeq1.idx_int
    wp_walk using wpAny_loadPart' hl
    repeat (first
      | (refine wpAny_ite_false (decide_eq_false (by rw [c0]; exact Bool.false_ne_true)) ?_; wp_walk using wpAny_loadPart' hl)
      | (refine wpAny_ite_false (decide_eq_false (by rw [c1]; exact Bool.false_ne_true)) ?_; wp_walk using wpAny_loadPart' hl)
      | (refine wpAny_ite_true (decide_eq_true (by rw [c2])) ?_; wp_walk using wpAny_loadPart' hl)
      | (refine wpAny_ite_true (by rw [c2]) ?_; wp_walk using wpAny_loadPart' hl))
    exact ⟨_, rfl, h⟩
section
variable {X : Cx}
def rRepG (K : PySem.W.Frag) : R2 := fun x y H Q => ∃ l k xs, x = .ref l ∧ y = .int k ∧ SqT K H l xs ∧ k.natAbs ≤ 1000 ∧ xs.length ≤ 1000 ∧
  (((xs.isEmpty || k == 1) = true ∧ Q (.ref l) H) ∨ ((xs.isEmpty || k == 1) = false ∧ ∀ p, H p = none → Q (.ref p) (upd H p (.tup (List.replicate k.toNat xs).flatten))))
theorem op_repG : OpR X (binaryOp .Mult) (rRepG X.K) := by
  intro pins s σ H x y v u Q I rx ry h
  obtain ⟨l, k, xs, rfl, rfl, hT, h2, hz, q⟩ := h
  rcases q with ⟨hs, q⟩ | ⟨hs, q⟩
  · cases rx
    obtain ⟨t, rfl⟩ := ry
    obtain ⟨its, r, ⟨⟨cls, dd, data, sl⟩, ho, hc, n, hd⟩, hs'⟩ := I.tuple hT
    simp only at hc hd
    subst hc hd
    have hle : its.length = xs.length := r.length.symm
    have he : its.toArray.isEmpty = xs.isEmpty := by
      cases its <;> cases xs <;> first | rfl | (simp at hle)
    have c0 : (decide (k < -(2 ^ 63)) || decide (k ≥ 2 ^ 63)) = false := by
      rw [decide_eq_false (by omega), decide_eq_false (by omega)] <;> rfl
    exact wpAny_binaryOp_repeat_ref (T := "tuple") (U := "int") (by decide) ⟨_, ho, rfl⟩ (fun s' => typeIs_int s' k t) noFill_tuple_mul F.fills_int_mul F.slot_int_rmul repeat_tuple F.slot_int_index.lookup
      (call_meets F.slot_int_rmul (typeIs_int s k t) F.entry_int_rmul (F.args_int_rmul_2 _ _) (int_rmul_tuple k t l its.toArray n dd sl)
        ⟨ho, rfl, ⟨_, ho, rfl⟩, call_meets F.slot_tuple_mul ⟨_, ho, rfl⟩ F.entry_tuple_mul (F.args_tuple_mul_2 _ _) (tuple_mulW1 l its.toArray n dd sl k t c0 (by rw [he]; exact hs)) ⟨ho, ⟨.ref l, H, I, rfl, q⟩⟩⟩)
  · obtain ⟨e1, e2⟩ := Bool.or_eq_false_iff.mp hs
    have hne : xs ≠ [] := fun e => by rw [e] at e1; cases e1
    have hk1 : k ≠ 1 := fun e => by rw [e] at e2; cases e2
    by_cases hk : 2 ≤ k
    · exact op_repT pins s σ H _ _ v u Q I rx ry ⟨l, k, xs, rfl, rfl, hT, hne, hk, by omega, hz, q⟩
    · cases rx
      obtain ⟨t, rfl⟩ := ry
      obtain ⟨its, r, ⟨⟨cls, dd, data, sl⟩, ho, hc, n, hd⟩, hs'⟩ := I.tuple hT
      simp only at hc hd
      subst hc hd
      have hle : its.length = xs.length := r.length.symm
      have he : its.toArray.isEmpty = xs.isEmpty := by
        cases its <;> cases xs <;> first | rfl | (simp at hle)
      have c0 : (decide (k < -(2 ^ 63)) || decide (k ≥ 2 ^ 63)) = false := by
        rw [decide_eq_false (by omega), decide_eq_false (by omega)] <;> rfl
      have hk0 : k.toNat = 0 := by omega
      rw [hk0] at q
      refine wpAny_binaryOp_repeat_ref (T := "tuple") (U := "int") (by decide) ⟨_, ho, rfl⟩ (fun s' => typeIs_int s' k t) noFill_tuple_mul F.fills_int_mul F.slot_int_rmul repeat_tuple F.slot_int_index.lookup
        (call_meets F.slot_int_rmul (typeIs_int s k t) F.entry_int_rmul (F.args_int_rmul_2 _ _) (int_rmul_tuple k t l its.toArray n dd sl)
          ⟨ho, rfl, ⟨_, ho, rfl⟩, call_meets F.slot_tuple_mul ⟨_, ho, rfl⟩ F.entry_tuple_mul (F.args_tuple_mul_2 _ _) (tuple_mulW0 l its.toArray n dd sl k t c0 (by rw [he]; exact hs) (by rw [he, e1, Bool.or_false]; exact decide_eq_true (by omega))) ⟨ho, ?_⟩⟩)
      refine ⟨.ref s.heap.objs.size, _, I.laid (t' := s.toks) (o := .tup []) (fun b ob q => Heap.get?_push_of_some _ q) (Nat.le_refl _) ?_, rfl, q _ (I.hok.fresh (Nat.le_refl _))⟩
      exact ⟨Nat.zero_le _, [], .nil, IsTup.new _ _⟩
end
end Pev

set_option Elab.async false
set_option linter.all false
set_option maxRecDepth 100000
set_option maxHeartbeats 4000000
namespace Pev
open PySem PySem.Spec L2
open PyProof.Rows (IsTup)
/-! ### new tuples: just as they are made, without a dict -/
abbrev tupO (us : List Value) : Obj := { cls := .type "tuple", data := .seq us.toArray }
section
variable {X : Cx} {pins : List (Addr × Obj)} {σ : L2.St} {H : Hp} {s : Shared} {xs : List V} {us : List Value}
theorem newT (I : Inv X pins σ H s) (hl : xs.length ≤ sizeLine) (r : Vals xs us) : Inv X pins σ (upd H s.heap.objs.size (.frz (tupO us) (.tup xs))) { s with heap := s.heap.push (tupO us) } :=
  I.laid (t' := s.toks) (o := .frz (tupO us) (.tup xs)) (fun b ob q => Heap.get?_push_of_some _ q) (Nat.le_refl _) ⟨Heap.get?_push_size _ rfl, hl, us, r, IsTup.new _ _⟩
theorem newTq {Q : VK} (I : Inv X pins σ H s) (hl : xs.length ≤ sizeLine) (r : Vals xs us) (q : ∀ p o, H p = none → o.dict = none → Q (.ref p) (upd H p (.frz o (.tup xs)))) :
    EP X pins σ Q (.ref s.heap.objs.size) { s with heap := s.heap.push (tupO us) } :=
  ⟨.ref _, _, newT I hl r, rfl, q _ _ (I.hok.fresh (Nat.le_refl _)) rfl⟩
end
section
variable {X : Cx} {es : List Expr} {t : TA} {pos : Pos} {k : Nat}
/-! a display -/
def tTupF (t : TA) : TE := fun σ H Q => t σ H fun xs H1 => xs.length ≤ sizeLine ∧ ∀ (p : Addr) (o : Obj), H1 p = none → o.dict = none → Q (.ref p) (upd H1 p (.frz o (.tup xs)))
theorem pe_tupF (hs : PA X es t) : PE X (.Tuple es k pos) (tTupF t) := by
  refine ⟨fun pins s σ H Q I h => ?_⟩
  refine wpAny_Tuple (thn (hs.run pos pins s σ H _ I h) fun us s1 ⟨vs, H1, I1, r1, hl, q1⟩ => ?_)
  exact ⟨by rw [← r1.length]; exact hl, newTq I1 hl r1 q1⟩
/-! + -/
def rCatF (K : PySem.W.Frag) : R2 := fun x y H Q => ∃ a b xs ys, x = .ref a ∧ y = .ref b ∧ SqT K H a xs ∧ SqT K H b ys ∧ xs.length + ys.length ≤ sizeLine ∧ (xs = [] → Q (.ref b) H) ∧ (xs ≠ [] → ys = [] → Q (.ref a) H) ∧
  (xs ≠ [] → ys ≠ [] → ∀ (p : Addr) (o : Obj), H p = none → o.dict = none → Q (.ref p) (upd H p (.frz o (.tup (xs ++ ys)))))
theorem op_catF : OpR X (binaryOp .Add) (rCatF X.K) := by
  intro pins s σ H x y v u Q I rx ry h
  obtain ⟨a, b, xs, ys, rfl, rfl, h1, h2, hl, q1, q2, q3⟩ := h
  by_cases e1 : xs = []
  · exact op_catA pins s σ H _ _ v u Q I rx ry ⟨a, b, xs, ys, rfl, rfl, h1, h2, hl, q1, q2, fun z => absurd e1 z⟩
  · by_cases e2 : ys = []
    · exact op_catA pins s σ H _ _ v u Q I rx ry ⟨a, b, xs, ys, rfl, rfl, h1, h2, hl, q1, q2, fun _ z => absurd e2 z⟩
    · cases rx
      cases ry
      obtain ⟨its, r, ⟨⟨cls, dd, data, sl⟩, ho, hc, n, hd⟩, _⟩ := I.tuple h1
      obtain ⟨its2, r2, ⟨⟨cls2, dd2, data2, sl2⟩, ho2, hc2, n2, hd2⟩, _⟩ := I.tuple h2
      simp only at hc hd hc2 hd2
      subst hc hd hc2 hd2
      have l1 : its.length = xs.length := r.length.symm
      have l2 : its2.length = ys.length := r2.length.symm
      have n1 : ¬ its.toArray.isEmpty = true := fun z => e1 (by
        cases its with
        | nil => exact List.length_eq_zero_iff.mp l1.symm
        | cons _ _ => simp at z)
      have n2' : ¬ its2.toArray.isEmpty = true := fun z => e2 (by
        cases its2 with
        | nil => exact List.length_eq_zero_iff.mp l2.symm
        | cons _ _ => simp at z)
      have hz : its.toArray.size + its2.toArray.size ≤ sizeLine := by rw [List.size_toArray, List.size_toArray, l1, l2]; exact hl
      refine wpAny_binaryOp_concat (T := "tuple") ⟨_, ho, rfl⟩ ⟨_, ho2, rfl⟩ noFill_tuple_add seq_tuple_add
        (call_meets F.slot_tuple_add ⟨_, ho, rfl⟩ F.entry_tuple_add (F.args_tuple_add_2 _ _) (PyProof.Rows.tuple_addW2 a b its.toArray its2.toArray n n2 dd dd2 sl sl2 n1 n2' hz) ⟨ho, ho2, ?_⟩)
      have e : its.toArray ++ its2.toArray = (its ++ its2).toArray := by simp
      rw [e]
      exact newTq I (by rw [List.length_append]; exact hl) (r.append r2) (q3 e1 e2)
/-! a slice -/
def rSlTF (K : PySem.W.Frag) : V → Option Int → Option Int → Hp → VK → Prop := fun x lo hi H Q => ∃ a xs, x = .ref a ∧ SqT K H a xs ∧
  ((HT.sIx xs.length 0 lo = 0 ∧ HT.sIx xs.length xs.length hi = xs.length) → Q (.ref a) H) ∧
  (¬ (HT.sIx xs.length 0 lo = 0 ∧ HT.sIx xs.length xs.length hi = xs.length) → ∀ (p : Addr) (o : Obj), H p = none → o.dict = none → Q (.ref p) (upd H p (.frz o (.tup (cutV xs lo hi)))))
theorem sl_tupF : SlR X (rSlTF X.K) := by
  intro pins s σ H x v vl vu lo hi sl Q I rx hs pl pu h
  obtain ⟨a, xs, rfl, h1, q1, q2⟩ := h
  by_cases e : HT.sIx xs.length 0 lo = 0 ∧ HT.sIx xs.length xs.length hi = xs.length
  · exact sl_tupA pins s σ H _ v vl vu lo hi sl Q I rx hs pl pu ⟨a, xs, rfl, h1, q1, fun z => absurd e z⟩
  · cases rx
    obtain ⟨its, r, p, hz⟩ := I.tuple h1
    have l1 : its.length = xs.length := r.length.symm
    refine ⟨"tuple", "tuple.__getitem__", PyProof.Rows.slot_tuple_getitem.lookup, p.typeIs, HT.getItem_tuple_cut p hs pl pu (by rw [List.size_toArray, l1]; exact e) ?_ (by rw [List.size_toArray, l1]; exact hz)⟩
    have l3 : (cutV xs lo hi).length ≤ sizeLine := by
      unfold cutV
      rw [List.length_take, List.length_drop]
      omega
    refine newTq I l3 ?_ (q2 e)
    rw [List.size_toArray, l1]
    exact (r.drop _).take _
/-! tuple(list) -/
theorem call_tupleF : CallR X (.type "tuple") fun xs H Q => ∃ p ys, xs = [V.ref p] ∧ SqL X.K H p ys ∧ ∀ (l : Addr) (o : Obj), H l = none → o.dict = none → Q (.ref l) (upd H l (.frz o (.tup ys))) := by
  intro pins s σ H xs us Q I r h
  obtain ⟨p, ys, rfl, h1, q⟩ := h
  cases r with
  | cons r0 rr =>
    cases rr
    cases r0
    obtain ⟨its, r, p1, hz⟩ := I.list h1
    refine call_tuple_list p1.isList (fun h' k => ?_) (by rw [List.size_toArray, ← r.length]; exact hz)
    have I1 : Inv X pins σ H { s with heap := h' } := I.kept (t' := s.toks) k
    exact newTq I1 hz r q

/-! + of a tuple and a number -/
def rRepF (K : PySem.W.Frag) : R2 := fun x y H Q => ∃ l k xs, x = .ref l ∧ y = .int k ∧ SqT K H l xs ∧ k.natAbs ≤ 1000 ∧ xs.length ≤ 1000 ∧
  (((xs.isEmpty || k == 1) = true ∧ Q (.ref l) H) ∨ ((xs.isEmpty || k == 1) = false ∧ ∀ (p : Addr) (o : Obj), H p = none → o.dict = none → Q (.ref p) (upd H p (.frz o (.tup (List.replicate k.toNat xs).flatten)))))
theorem fold_rep (its : List Value) (n : Nat) : List.foldl (fun (x1 x2 : Array Value) => x1 ++ x2) #[] (List.replicate n its.toArray) = (List.replicate n its).flatten.toArray := by
  have h : ∀ (n : Nat) (z : List Value), List.foldl (fun (x1 x2 : Array Value) => x1 ++ x2) z.toArray (List.replicate n its.toArray) = (z ++ (List.replicate n its).flatten).toArray := by
    intro n
    induction n with
    | zero => intro z; simp
    | succ n ih =>
      intro z
      rw [List.replicate_succ, List.foldl_cons, List.replicate_succ, List.flatten_cons]
      have e : z.toArray ++ its.toArray = (z ++ its).toArray := by simp
      rw [e, ih]
      simp [List.append_assoc]
  exact (h n []).trans (by simp)
theorem vals_rep {xs : List V} {us : List Value} (r : Vals xs us) : ∀ n, Vals (List.replicate n xs).flatten (List.replicate n us).flatten
  | 0 => .nil
  | n + 1 => by rw [List.replicate_succ, List.replicate_succ, List.flatten_cons, List.flatten_cons]; exact r.append (vals_rep r n)
theorem op_repF : OpR X (binaryOp .Mult) (rRepF X.K) := by
  intro pins s σ H x y v u Q I rx ry h
  obtain ⟨l, k, xs, rfl, rfl, hT, h2, hz, q⟩ := h
  rcases q with ⟨hs, q⟩ | ⟨hs, q⟩
  · exact op_repG pins s σ H _ _ v u Q I rx ry ⟨l, k, xs, rfl, rfl, hT, h2, hz, .inl ⟨hs, q⟩⟩
  · obtain ⟨e1, e2⟩ := Bool.or_eq_false_iff.mp hs
    have hne : xs ≠ [] := fun e => by rw [e] at e1; cases e1
    have hk1 : k ≠ 1 := fun e => by rw [e] at e2; cases e2
    cases rx
    obtain ⟨t, rfl⟩ := ry
    obtain ⟨its, r, ⟨⟨cls, dd, data, sl⟩, ho, hc, n, hd⟩, hs'⟩ := I.tuple hT
    simp only at hc hd
    subst hc hd
    have hle : its.length = xs.length := r.length.symm
    have he : its.toArray.isEmpty = xs.isEmpty := by
      cases its <;> cases xs <;> first | rfl | (simp at hle)
    have c0 : (decide (k < -(2 ^ 63)) || decide (k ≥ 2 ^ 63)) = false := by
      rw [decide_eq_false (by omega), decide_eq_false (by omega)] <;> rfl
    have hlen : (List.replicate k.toNat xs).flatten.length ≤ sizeLine := by
      rw [List.length_flatten, List.map_replicate, List.sum_replicate_nat]
      have h3 : k.toNat ≤ 1000 := by omega
      exact Nat.le_trans (Nat.mul_le_mul h3 hz) (by decide)
    by_cases hk : 2 ≤ k
    · have c2 : (decide (k ≤ 0) || its.toArray.isEmpty) = false := by rw [he, e1, decide_eq_false (by omega)]; rfl
      have c3 : ¬ ((its.toArray.size : Int) * k > (2 ^ 63 - 1) / 8) := by
        have hz' : its.toArray.size ≤ 1000 := by rw [List.size_toArray, hle]; exact hz
        have : (its.toArray.size : Int) * k ≤ 1000 * 1000 := Int.mul_le_mul (by omega) (by omega) (by omega) (by omega)
        omega
      have c4 : Builtin.Tuple.tupleTooMany ((its.toArray.size : Int) * k) = false := by
        have hz' : its.toArray.size ≤ 1000 := by rw [List.size_toArray, hle]; exact hz
        have : (its.toArray.size : Int) * k ≤ 1000 * 1000 := Int.mul_le_mul (by omega) (by omega) (by omega) (by omega)
        have hsl : 1000000 ≤ sizeLine := by decide
        unfold Builtin.Tuple.tupleTooMany
        first
          | exact decide_eq_false (by omega)
          | (simp; omega)
      refine wpAny_binaryOp_repeat_ref (T := "tuple") (U := "int") (by decide) ⟨_, ho, rfl⟩ (fun s' => typeIs_int s' k t) noFill_tuple_mul F.fills_int_mul F.slot_int_rmul repeat_tuple F.slot_int_index.lookup
        (call_meets F.slot_int_rmul (typeIs_int s k t) F.entry_int_rmul (F.args_int_rmul_2 _ _) (int_rmul_tuple k t l its.toArray n dd sl)
          ⟨ho, rfl, ⟨_, ho, rfl⟩, call_meets F.slot_tuple_mul ⟨_, ho, rfl⟩ F.entry_tuple_mul (F.args_tuple_mul_2 _ _) (tuple_mulW l its.toArray n dd sl k t c0 (by rw [he]; exact hs) c2 c3 c4 ?_) ⟨ho, ?_⟩⟩)
      · rw [fold_rep, List.size_toArray, ← (vals_rep r k.toNat).length]; exact hlen
      · rw [fold_rep]
        exact newTq I hlen (vals_rep r k.toNat) q
    · have hk0 : k.toNat = 0 := by omega
      rw [hk0] at q
      refine wpAny_binaryOp_repeat_ref (T := "tuple") (U := "int") (by decide) ⟨_, ho, rfl⟩ (fun s' => typeIs_int s' k t) noFill_tuple_mul F.fills_int_mul F.slot_int_rmul repeat_tuple F.slot_int_index.lookup
        (call_meets F.slot_int_rmul (typeIs_int s k t) F.entry_int_rmul (F.args_int_rmul_2 _ _) (int_rmul_tuple k t l its.toArray n dd sl)
          ⟨ho, rfl, ⟨_, ho, rfl⟩, call_meets F.slot_tuple_mul ⟨_, ho, rfl⟩ F.entry_tuple_mul (F.args_tuple_mul_2 _ _) (tuple_mulW0 l its.toArray n dd sl k t c0 (by rw [he]; exact hs) (by rw [he, e1, Bool.or_false]; exact decide_eq_true (by omega))) ⟨ho, ?_⟩⟩)
      exact newTq (us := []) I (Nat.zero_le _) .nil q
/-! the pairs of zip -/
def ItzTF (K : PySem.W.Frag) (a b : Addr) : It :=
  ⟨(RZ.ItzT K a b).go, fun i H v H' => ∃ T x y o, v = .ref T ∧ H T = none ∧ o.dict = none ∧ H' = upd H T (.frz o (.tup [x, y])) ∧ (∀ xs, SqT K H a xs → xs[i]? = some x) ∧ ∀ ys, SqT K H b ys → ys[i]? = some y, (RZ.ItzT K a b).stop⟩
def ItzF (K : PySem.W.Frag) (a b : Addr) : It :=
  ⟨(Itz K a b).go, fun i H v H' => ∃ T x y o, v = .ref T ∧ H T = none ∧ o.dict = none ∧ H' = upd H T (.frz o (.tup [x, y])) ∧ (∀ xs, SqL K H a xs → xs[i]? = some x) ∧ ∀ ys, SqL K H b ys → ys[i]? = some y, (Itz K a b).stop⟩
def IteF (K : PySem.W.Frag) (a : Addr) : It :=
  ⟨(Ite K a).go, fun i H v H' => ∃ T x o, v = .ref T ∧ H T = none ∧ o.dict = none ∧ H' = upd H T (.frz o (.tup [.int (i : Nat), x])) ∧ ∀ xs, SqL K H a xs → xs[i]? = some x, (Ite K a).stop⟩
end

theorem turn_zipTF {P : Program} {w : World} {K : PySem.W.Frag} {elts : List Expr} {kk : Nat} {tpos : Pos} {a b z TI TO i1 i2 : Addr} (ap : ZipApart z TI TO i1 i2 a b) :
    Turn P w K (.Tuple elts kk tpos) (ItzTF K a b) [z, TI, TO, i1, i2] z (fun i h => IsZip h z TI TO .none ∧ IsPair h TI (.ref i1) (.ref i2) ∧ (∃ x y, IsPair h TO x y) ∧ h.IsTupleIter i1 a i ∧ h.IsTupleIter i2 b i) := by
  have T0 := RZ.turn_zipT (P := P) (w := w) (K := K) (elts := elts) (kk := kk) (tpos := tpos) ap
  refine ⟨T0.mem, T0.obj, T0.keep, ?_, T0.done, T0.self⟩
  intro X hP hw hK hc i pins s σ H E I hf st hg
  have hob := T0.obj i s.heap st
  subst hP hw hK
  obtain ⟨hz, hp, ⟨x0, y0, hpo⟩, h1, h2⟩ := st
  obtain ⟨xs, ys, x, y, hx, hy, ex, ey⟩ := hg
  obtain ⟨its, r, p, _⟩ := I.tuple hx
  obtain ⟨its2, r2, p2, _⟩ := I.tuple hy
  obtain ⟨u, hu, ru⟩ := r.get ex
  obtain ⟨u2, hu2, ru2⟩ := r2.get ey
  have hlt : ∀ c ∈ [z, TI, TO, i1, i2], c < s.heap.objs.size := fun c hc => let ⟨_, q, _⟩ := hob c hc; Heap.lt_size q
  refine RZ.pyNext_zipT_item ap hz hp hpo h1 h2 (show s.heap.IsTuple a its.toArray from p) (show s.heap.IsTuple b its2.toArray from p2) (x := u) (y := u2) (by simpa using hu) (by simpa using hu2) fun h' z1 po j1 j2 pr sz kp => ?_
  refine ⟨_, rfl, wpAny_letOwnedTupleGo_zip (s := { s with heap := h' }) z1 fun h'' z2 sb => ?_⟩
  have hT2 : h''.get? s.heap.objs.size = some (tupO [u, u2]) := (sb.2 _ (Nat.ne_of_gt (hlt z (by simp)))).trans pr
  have new : ObjOk X.prog X.w (upd H s.heap.objs.size (.frz (tupO [u, u2]) (.tup [x, y]))) h'' s.heap.objs.size (.frz (tupO [u, u2]) (.tup [x, y])) :=
    ⟨hT2, (by show 2 ≤ sizeLine; decide), [u, u2], .cons ru (.cons ru2 .nil), ⟨_, hT2, rfl, _, rfl⟩⟩
  have I1 : Inv X pins σ (upd H s.heap.objs.size (.frz (tupO [u, u2]) (.tup [x, y]))) { s with heap := h'' } :=
    I.turnedNew (t' := s.toks) (ch := [z, TI, TO, i1, i2]) (fun c ob hc q => (sb.2 c (fun e => hc (by simp [e]))).trans (kp c ob (fun e => hc (by simp [e])) (fun e => hc (by simp [e])) (fun e => hc (by simp [e])) (fun e => hc (by simp [e])) q)) hf (Nat.le_refl _) new
  refine ⟨.ref s.heap.objs.size, _, I1, rfl, ⟨_, x, y, _, rfl, I.hok.fresh (Nat.le_refl _), rfl, rfl, fun zs hzs => by rw [I.tuple_inj hzs hx]; exact ex, fun zs hzs => by rw [I.tuple_inj hzs hy]; exact ey⟩,
    ⟨z2, (sb.2 TI ap.TIz).trans (kp TI _ ap.TIz ap.TITO ap.TIi1 ap.TIi2 hp), ⟨u, u2, (sb.2 TO ap.TOz).trans po⟩, j1.at fun o q => (sb.2 i1 ap.i1z).trans q, j2.at fun o q => (sb.2 i2 ap.i2z).trans q⟩, fun c hc => ?_⟩
  rw [upd_ne (Nat.ne_of_lt (hlt c hc))]
  exact (hf c hc).1

theorem turn_zipLF {P : Program} {w : World} {K : PySem.W.Frag} {elts : List Expr} {kk : Nat} {tpos : Pos} {a b z TI TO i1 i2 : Addr} (ap : ZipApart z TI TO i1 i2 a b) :
    Turn P w K (.Tuple elts kk tpos) (ItzF K a b) [z, TI, TO, i1, i2] z (fun i h => IsZip h z TI TO .none ∧ IsPair h TI (.ref i1) (.ref i2) ∧ (∃ x y, IsPair h TO x y) ∧ h.IsListIter i1 a i ∧ h.IsListIter i2 b i) := by
  have T0 := turn_zip (P := P) (w := w) (K := K) (elts := elts) (kk := kk) (tpos := tpos) ap
  refine ⟨T0.mem, T0.obj, T0.keep, ?_, T0.done, T0.self⟩
  intro X hP hw hK hc i pins s σ H E I hf st hg
  have hob := T0.obj i s.heap st
  subst hP hw hK
  obtain ⟨hz, hp, ⟨x0, y0, hpo⟩, h1, h2⟩ := st
  obtain ⟨xs, ys, x, y, hx, hy, ex, ey⟩ := hg
  obtain ⟨its, r, p, _⟩ := I.list hx
  obtain ⟨its2, r2, p2, _⟩ := I.list hy
  obtain ⟨u, hu, ru⟩ := r.get ex
  obtain ⟨u2, hu2, ru2⟩ := r2.get ey
  have hlt : ∀ c ∈ [z, TI, TO, i1, i2], c < s.heap.objs.size := fun c hc => let ⟨_, q, _⟩ := hob c hc; Heap.lt_size q
  refine wpAny_pyNext_zip_item ap hz hp hpo h1 h2 p.isList p2.isList (x := u) (y := u2) (by simpa using hu) (by simpa using hu2) fun h' z1 po j1 j2 pr sz kp => ?_
  refine ⟨_, rfl, wpAny_letOwnedTupleGo_zip (s := { s with heap := h' }) z1 fun h'' z2 sb => ?_⟩
  have hT2 : h''.get? s.heap.objs.size = some (tupO [u, u2]) := (sb.2 _ (Nat.ne_of_gt (hlt z (by simp)))).trans pr
  have new : ObjOk X.prog X.w (upd H s.heap.objs.size (.frz (tupO [u, u2]) (.tup [x, y]))) h'' s.heap.objs.size (.frz (tupO [u, u2]) (.tup [x, y])) :=
    ⟨hT2, (by show 2 ≤ sizeLine; decide), [u, u2], .cons ru (.cons ru2 .nil), ⟨_, hT2, rfl, _, rfl⟩⟩
  have I1 : Inv X pins σ (upd H s.heap.objs.size (.frz (tupO [u, u2]) (.tup [x, y]))) { s with heap := h'' } :=
    I.turnedNew (t' := s.toks) (ch := [z, TI, TO, i1, i2]) (fun c ob hc q => (sb.2 c (fun e => hc (by simp [e]))).trans (kp c ob (fun e => hc (by simp [e])) (fun e => hc (by simp [e])) (fun e => hc (by simp [e])) (fun e => hc (by simp [e])) q)) hf (Nat.le_refl _) new
  refine ⟨.ref s.heap.objs.size, _, I1, rfl, ⟨_, x, y, _, rfl, I.hok.fresh (Nat.le_refl _), rfl, rfl, fun zs hzs => by rw [I.list_inj hzs hx]; exact ex, fun zs hzs => by rw [I.list_inj hzs hy]; exact ey⟩,
    ⟨z2, (sb.2 TI ap.TIz).trans (kp TI _ ap.TIz ap.TITO ap.TIi1 ap.TIi2 hp), ⟨u, u2, (sb.2 TO ap.TOz).trans po⟩, j1.at fun o q => (sb.2 i1 ap.i1z).trans q, j2.at fun o q => (sb.2 i2 ap.i2z).trans q⟩, fun c hc => ?_⟩
  rw [upd_ne (Nat.ne_of_lt (hlt c hc))]
  exact (hf c hc).1

theorem turn_enumF {P : Program} {w : World} {K : PySem.W.Frag} {elts : List Expr} {kk : Nat} {tpos : Pos} (a e it : Addr) :
    Turn P w K (.Tuple elts kk tpos) (IteF K a) [e, it] e (fun i h => (∃ old, IsEnum h e it ((i : Nat) : Int) old) ∧ h.IsListIter it a i ∧ e ≠ it) := by
  have T0 := turn_enum (P := P) (w := w) (K := K) (elts := elts) (kk := kk) (tpos := tpos) a e it
  refine ⟨T0.mem, T0.obj, T0.keep, ?_, T0.done, T0.self⟩
  intro X hP hw hK hc i pins s σ H E I hf st hg
  have hob := T0.obj i s.heap st
  subst hP hw hK
  obtain ⟨⟨old, he⟩, hit, hne⟩ := st
  obtain ⟨xs, x, hq, hx⟩ := hg
  obtain ⟨its, rv, p, hz⟩ := I.list hq
  obtain ⟨u, hu, ru⟩ := rv.get hx
  have hlt : ∀ c ∈ [e, it], c < s.heap.objs.size := fun c hc => let ⟨_, q, _⟩ := hob c hc; Heap.lt_size q
  have hL : s.heap.IsList a its.toArray := p.isList
  have hae : a ≠ it := fun z => by
    obtain ⟨o, q, c, _⟩ := hit
    obtain ⟨o', q', c', _⟩ := hL
    rw [z, q] at q'; cases q'; rw [c] at c'; exact (show Value.type "list_iterator" ≠ Value.type "list" by decide +kernel) c'
  have hee : e ≠ a := fun z => by
    obtain ⟨o', q', c', _⟩ := hL
    rw [← z, he] at q'; cases q'; exact (show Value.type "enumerate" ≠ Value.type "list" by decide +kernel) c'
  have D := Draws.list (prog := X.prog) (w := X.w) (A := X.A.in1) (I.ok.hd hc) it a hae its.toArray
  have hi : i < its.toArray.size := by
    have := (List.getElem?_eq_some_iff.mp hu).1
    simpa using this
  refine wpAny_pyNext_enum_itemD D he ⟨hit, hL⟩ hi hne (by simp [hne, hee]) fun u' h' tk hu' ho hit' hT hsz hk => ?_
  have eu : u' = u := by
    have q : its.toArray[i]? = some u' := hu'
    have q2 : its.toArray[i]? = some u := by simpa using hu
    rw [q2] at q; cases q; rfl
  subst eu
  refine ⟨_, rfl, wpAny_letOwnedTupleGo_enum (s := { s with heap := h', toks := tk + 1 }) ho fun h'' he' sb => ?_⟩
  have hT2 : h''.get? s.heap.objs.size = some (tupO [.int i tk, u']) := (sb.2 _ (Nat.ne_of_gt (hlt e (by simp)))).trans hT
  have new : ObjOk X.prog X.w (upd H s.heap.objs.size (.frz (tupO [.int i tk, u']) (.tup [.int (i : Nat), x]))) h'' s.heap.objs.size (.frz (tupO [.int i tk, u']) (.tup [.int (i : Nat), x])) :=
    ⟨hT2, (by show 2 ≤ sizeLine; decide), [.int i tk, u'], .cons ⟨_, rfl⟩ (.cons ru .nil), ⟨_, hT2, rfl, _, rfl⟩⟩
  have I1 : Inv X pins σ (upd H s.heap.objs.size (.frz (tupO [.int i tk, u']) (.tup [.int (i : Nat), x]))) { s with heap := h'', toks := tk + 1 } :=
    I.turnedNew (ch := [e, it]) (fun b ob hb q => (sb.2 b (fun z => hb (by simp [z]))).trans (hk b ob (fun z => hb (by simp [z])) (fun z => hb (by simp [z])) q)) hf (Nat.le_refl _) new
  refine ⟨.ref s.heap.objs.size, _, I1, rfl, ⟨_, x, _, rfl, I.hok.fresh (Nat.le_refl _), rfl, rfl, fun ys hy => by rw [I.list_inj hy hq]; exact hx⟩, ⟨⟨u', ?_⟩, hit'.1.at fun o q => (sb.2 it (Ne.symm hne)).trans q, hne⟩, fun c hc => ?_⟩
  · have e1 : ((i + 1 : Nat) : Int) = (i : Int) + 1 := by omega
    rw [e1]; exact he'
  · rw [upd_ne (Nat.ne_of_lt (hlt c hc))]
    exact (hf c hc).1

def iZipF (K : PySem.W.Frag) (ta : TA) : TI := fun σ H R => ta σ H fun vs H1 => ∃ a b xs ys, vs = [.ref a, .ref b] ∧ ((SqL K H1 a xs ∧ SqL K H1 b ys ∧ R (ItzF K a b) H1) ∨ (SqT K H1 a xs ∧ SqT K H1 b ys ∧ R (ItzTF K a b) H1))
theorem zip_apart {n a b : Nat} (h1 : a < n) (h2 : b < n) : ZipApart (n + 4) (n + 2) (n + 3) n (n + 1) a b := by
  constructor <;> exact fun (z : @Eq Nat _ _) => by omega
theorem pi_zipF {X : Cx} {e e2 : Expr} {ta : TA} {p pos tpos : Pos} {elts : List Expr} {kk : Nat} (hg : Gl X "zip") (hm : X.mg "zip" = none) (ha : PA X [e, e2] ta) (hs : starEach [e, e2] X.env = (false, eval e X.env) :: starEach [e2] X.env) (hpl : (backTo pos (starEach [e2] X.env)).any (·.1) = false) :
    PI X (.Tuple elts kk tpos) (.Call (.Name "zip" p) [e, e2] [] pos) (iZipF X.K ta) := by
  refine ⟨fun pins s σ H R I h => ?_⟩
  refine PyProof.Rows.Call_ (ld_blt I hg hm PyProof.Rows.boot_zip (PyProof.Rows.callWith_type1 (thn (ha.run pos pins s σ H _ I h) fun us s1 ⟨vs, H1, I1, r1, q1⟩ => ?_) hs hpl))
  obtain ⟨a, b, xs, ys, ex, q1⟩ := q1
  subst ex
  cases r1 with
  | cons r rr =>
    cases rr with
    | cons r2 rr2 =>
      cases rr2
      cases r
      cases r2
      have fp : ∀ c ∈ [s1.heap.objs.size + 4, s1.heap.objs.size + 2, s1.heap.objs.size + 3, s1.heap.objs.size, s1.heap.objs.size + 1], FpOk X pins H1 c := fun c hc => by
        have hle : s1.heap.objs.size ≤ c := by
          simp only [List.mem_cons, List.not_mem_nil, or_false] at hc
          rcases hc with z | z | z | z | z <;> subst z <;> omega
        exact I1.fpOk hle (I1.hok.fresh hle)
      rcases q1 with ⟨hq, hq2, q⟩ | ⟨hq, hq2, q⟩
      · obtain ⟨its, rv, p', hz⟩ := I1.list hq
        obtain ⟨its2, rv2, p2', hz2⟩ := I1.list hq2
        have la : a < s1.heap.objs.size := by obtain ⟨_, q, _⟩ := p'.isList; exact Heap.lt_size q
        have lb : b < s1.heap.objs.size := by obtain ⟨_, q, _⟩ := p2'.isList; exact Heap.lt_size q
        refine call_zip_2 p'.isList p2'.isList fun h' z1 hp hpo j1 j2 hsz hk => wpAny_pyIter_zip z1 ?_
        have I2 : Inv X pins σ H1 { s1 with heap := h' } := I1.kept (t' := s1.toks) hk
        exact ⟨_, _, _, _, H1, rfl, I2, turn_zipLF (zip_apart la lb), ⟨z1, hp, ⟨_, _, hpo⟩, j1, j2⟩, fp, q⟩
      · obtain ⟨its, rv, p', hz⟩ := I1.tuple hq
        obtain ⟨its2, rv2, p2', hz2⟩ := I1.tuple hq2
        have ta' : s1.heap.IsTuple a its.toArray := p'
        have tb' : s1.heap.IsTuple b its2.toArray := p2'
        have la : a < s1.heap.objs.size := by obtain ⟨_, q, _⟩ := ta'; exact Heap.lt_size q
        have lb : b < s1.heap.objs.size := by obtain ⟨_, q, _⟩ := tb'; exact Heap.lt_size q
        refine RZ.call_zipT ta' tb' fun h' z1 hp hpo j1 j2 hsz hk => wpAny_pyIter_zip z1 ?_
        have I2 : Inv X pins σ H1 { s1 with heap := h' } := I1.kept (t' := s1.toks) hk
        exact ⟨_, _, _, _, H1, rfl, I2, turn_zipTF (zip_apart la lb), ⟨z1, hp, ⟨_, _, hpo⟩, j1, j2⟩, fp, q⟩
end Pev

set_option Elab.async false
set_option linter.all false
set_option maxRecDepth 100000
set_option maxHeartbeats 4000000
namespace Pev
open PySem PySem.Spec L2
open PyProof.Rows (IsTup)
/-! ### dicts whose keys are tuples of ints -/
abbrev hTK (ks : List Int) : Int := reduceHash (Builtin.Tuple.tupleHashOf (ks.map hashInt))
abbrev TVs := List (List Int × Addr × V)
def dcOf (h : Heap) (D : Addr) (xs : List (List Int × Addr × Value)) : Prop :=
  ∃ o es ep, h.get? D = some o ∧ o.ExactDict ∧ o.data = .dict es ep ∧ es.toList = xs.map (fun x => ({ hash := hTK x.1, key := .ref x.2.1, val := x.2.2 } : DictEntry)) ∧ (xs.map (·.1)).Nodup
def RelT (p : List Int × Addr × V) (q : List Int × Addr × Value) : Prop := p.1 = q.1 ∧ p.2.1 = q.2.1 ∧ RelV p.2.2 q.2.2
def dctP (D : Addr) (kvs : TVs) (h : Heap) : Prop := (D == sysModules) = false ∧ ∃ xs, Paired RelT kvs xs ∧ dcOf h D xs
abbrev dctH (D : Addr) (kvs : TVs) : HO := .ext (dctP D kvs)
theorem dct_ok {P : Program} {w : World} {H : Hp} {h : Heap} {D : Addr} {kvs : TVs} (p : dctP D kvs h) : ObjOk P w H h D (dctH D kvs) := by
  refine ⟨p, ?_, ?_⟩
  · obtain ⟨_, xs, _, o, _, _, h1, _⟩ := p
    exact ⟨o, h1⟩
  · rintro h1 h2 ⟨a, xs, r, o, es, ep, e1, e2⟩ k
    exact ⟨a, xs, r, o, es, ep, k o e1, e2⟩
theorem dct_of {P : Program} {w : World} {H : Hp} {h : Heap} {D : Addr} {kvs : TVs} (hok : HOk P w H h) (e : H D = some (dctH D kvs)) : dctP D kvs h := (hok D _ e).1
def putT (kvs : TVs) (ks : List Int) (a : Addr) (v : V) : TVs :=
  if (kvs.find? fun x => decide (x.1 = ks)).isSome = true then kvs.map fun x => if x.1 = ks then (x.1, x.2.1, v) else x else kvs ++ [(ks, a, v)]
section
variable {X : Cx} {pins : List (Addr × Obj)} {σ : L2.St} {H : Hp} {s : Shared} {D : Addr} {kvs : TVs}
theorem key_is (I : Inv X pins σ H s) {a : Addr} {ks : List Int} (h : SqT X.K H a (ks.map V.int)) : (tupleKind (intKind X.prog X.w)).is s.heap ks a := by
  obtain ⟨its, r, ⟨o, ho, hc, n, hd⟩, _⟩ := I.tuple h
  refine ⟨o, its.toArray, n, ho, hc, hd, ?_⟩
  have : ∀ {ks : List Int} {its : List Value}, Vals (ks.map V.int) its → ItemsAre (intKind X.prog X.w) ks its := by
    intro ks
    induction ks with
    | nil => intro its r; cases its with | nil => exact .nil | cons _ _ => cases r
    | cons k ks ih =>
      intro its r
      cases its with
      | nil => cases r
      | cons u us =>
        cases r with
        | cons r1 r2 =>
          obtain ⟨t, rfl⟩ := r1
          exact .cons (by show Value.isInt k (.int k t) = true; simp [Value.isInt]) (ih r2)
  exact this r
theorem paired_mem {α β : Type} {R : α → β → Prop} : ∀ {l : List α} {m : List β}, Paired R l m → ∀ y ∈ m, ∃ x ∈ l, R x y
  | _, _, .nil, y, h => by cases h
  | _, _, .cons r p, y, h => by
    rcases List.mem_cons.mp h with rfl | h
    · exact ⟨_, List.mem_cons_self .., r⟩
    · obtain ⟨x, m, q⟩ := paired_mem p y h
      exact ⟨x, List.mem_cons_of_mem _ m, q⟩
theorem dct_full (I : Inv X pins σ H s) (e : H D = some (dctH D kvs)) (hk : ∀ x ∈ kvs, SqT X.K H x.2.1 (x.1.map V.int)) :
    (D == sysModules) = false ∧ ∃ xs, Paired RelT kvs xs ∧ Heap.DictOfH (tupleKind (intKind X.prog X.w)) s.heap D xs := by
  obtain ⟨hd, xs, r, o, es, ep, h1, h2, h3, h4, h5⟩ := dct_of I.hok e
  refine ⟨hd, xs, r, o, es, ep, h1, h2, h3, h4, fun y m => ?_, h5⟩
  obtain ⟨x, mx, e1, e2, _⟩ := paired_mem r y m
  rw [← e1, ← e2]
  exact key_is I (hk x mx)
theorem find_rel {ks : List Int} : ∀ {kvs : TVs} {xs : List (List Int × Addr × Value)}, Paired RelT kvs xs → (kvs.find? fun x => decide (x.1 = ks)).isSome = (atKey xs ks).isSome
  | _, _, .nil => rfl
  | _, _, .cons (a := a) (b := b) r p => by
    obtain ⟨e1, _, _⟩ := r
    unfold atKey
    rw [List.find?_cons, List.find?_cons, e1]
    by_cases c : b.1 = ks
    · simp [c]
    · simp only [c, decide_false]
      have := find_rel (ks := ks) p
      unfold atKey at this
      exact this
theorem put_rel {ks : List Int} {a : Addr} {v : V} {r : Value} {xs : List (List Int × Addr × Value)} (p : Paired RelT kvs xs) (rv : RelV v r) : Paired RelT (putT kvs ks a v) (storedH xs ks a r) := by
  unfold putT storedH
  rw [find_rel (ks := ks) p]
  split
  · have : ∀ {kvs : TVs} {xs : List (List Int × Addr × Value)}, Paired RelT kvs xs → Paired RelT (kvs.map fun x => if x.1 = ks then (x.1, x.2.1, v) else x) (xs.map (putAt ks r)) := by
      intro kvs xs p
      induction p with
      | nil => exact .nil
      | cons r0 _ ih =>
        refine .cons ?_ ih
        obtain ⟨e1, e2, e3⟩ := r0
        unfold putAt
        simp only [e1]
        split
        · exact ⟨rfl, e2, rv⟩
        · exact ⟨e1, e2, e3⟩
    exact this p
  · have : ∀ {kvs : TVs} {xs : List (List Int × Addr × Value)}, Paired RelT kvs xs → Paired RelT (kvs ++ [(ks, a, v)]) (xs ++ [(ks, a, r)]) := by
      intro kvs xs p
      induction p with
      | nil => exact .cons ⟨rfl, rfl, rv⟩ .nil
      | cons r0 _ ih => exact .cons r0 ih
    exact this p
theorem d_setT {E : Value → Shared → Prop} {ks : List Int} {a : Addr} {v : V} {r : Value} {Q : Unit → Shared → Prop} (I : Inv X pins σ H s) (hu : X.A.units < cLine) (hD : H D = some (dctH D kvs)) (hk : ∀ x ∈ kvs, SqT X.K H x.2.1 (x.1.map V.int)) (ha : SqT X.K H a (ks.map V.int)) (hl : kvs.length < sizeLine) (rv : RelV v r)
    (h : ∀ s', Inv X pins σ (upd H D (dctH D (putT kvs ks a v))) s' → Q () s') : wpAny (model X.prog X.w) X.A (dictSet D (.ref a) r) Q E s := by
  obtain ⟨hd, xs, p, dd⟩ := dct_full I hD hk
  refine wpAny_dictSet_heap (knd := tupleKind (intKind X.prog X.w)) hu (key_is I ha) dd (fun h' dd' sb => h _ ?_) (by rw [← p.length]; omega)
  obtain ⟨o, es, ep, h1, h2, h3, h4, _, h5⟩ := dd'
  exact d_write I (by rw [hD]; trivial) sb ⟨o, h1⟩ (dct_ok ⟨hd, _, put_rel p rv, o, es, ep, h1, h2, h3, h4, h5⟩)
end

/-- the reading of a dict comprehension whose keys are tuples of ints -/
def tDcT (K : PySem.W.Frag) (wi : TI) (g : TG) (tt : TT) (tk tv : TE) (vs : List Nat) : TE := fun σ H Q => wi σ H fun J H1 => ∀ D, H1 D = none → ∃ W : Nat → Nat → Hp → Prop, (∃ m, W 0 m (upd H1 D (dctH D []))) ∧
  ∀ i m H, W i m H → (J.stop i H ∧ Q (.ref D) H) ∨ (J.go i H ∧ ∃ Nx : Hp → Prop, (∀ H', Nx H' → ∃ m', m' < m ∧ W (i + 1) m' H') ∧ ∀ x H', J.yld i H x H' → g x (wipe σ vs) H' fun σ2 H2 => wipe σ2 vs = wipe σ vs ∧
    tt σ2 H2 fun b H3 => if b = true then tk σ2 H3 fun y H4 => tv σ2 H4 fun z H5 => ∃ kvs ks a, y = .ref a ∧ H5 D = some (dctH D kvs) ∧ kvs.length < sizeLine ∧ SqT K H5 a (ks.map V.int) ∧ (∀ x ∈ kvs, SqT K H5 x.2.1 (x.1.map V.int)) ∧ Nx (upd H5 D (dctH D (putT kvs ks a z))) else Nx H3)
section
variable {X : Cx}
theorem pe_dcT {kx vx tg iter : Expr} {ifs : List Expr} {scope : Scope} {own : List (Str × Nat)} {pos : Pos} {wi : TI} {g : TG} {tt : TT} {tk tv : TE} (hu : X.A.units < cLine) (hc : X.calm = true) (hN : X.N.Nodup) (hi : PI X tg iter wi) (ok : BlkOk X.N X.env.scope scope own)
    (hg : ∀ (s : Shared) (H : Hp) (C : Addr) (cl : List (Str × Addr)) (fp : List Addr), PG (X.blk s H scope (compEnvC scope cl C X.env) fp) tg g)
    (ht : ∀ (s : Shared) (H : Hp) (C : Addr) (cl : List (Str × Addr)) (fp : List Addr), PTs (X.blk s H scope (compEnvC scope cl C X.env) fp) ifs tt)
    (hk : ∀ (s : Shared) (H : Hp) (C : Addr) (cl : List (Str × Addr)) (fp : List Addr), PE (X.blk s H scope (compEnvC scope cl C X.env) fp) kx tk)
    (he : ∀ (s : Shared) (H : Hp) (C : Addr) (cl : List (Str × Addr)) (fp : List Addr), PE (X.blk s H scope (compEnvC scope cl C X.env) fp) vx tv)
    (hs : ∀ x, foldedSetIterable iter X.env x = pure x) :
    PE X (.DictComp kx vx [⟨tg, iter, ifs, 0⟩] scope pos) (tDcT X.K wi g tt tk tv (own.map (·.2))) := by
  refine ⟨fun pins s σ H Q I h => ?_⟩
  rw [arm_eval_DictComp]
  show wpAny (model X.prog X.w) X.A (comprehension (.DictComp kx vx [⟨tg, iter, ifs, 0⟩] scope pos) scope X.env (firstIterPos [⟨tg, iter, ifs, 0⟩] pos) newDict false (eval iter X.env)) (EP X pins σ Q) X.xe s
  have hfree : ∀ (y : Str × NameKind), y ∈ scope.names → y.2 = .free → ∃ c, List.lookup y.1 X.env.cells = some c := fun y hy e => by
    rcases ok.free y hy e with k | k
    · exact I.ok.has y.1 (.inl k)
    · exact I.ok.has y.1 (.inr k)
  refine wpAny_comprehension_free rfl hs (closure_ok hfree) ok.kind (fun y hy e => by rw [ok.uniq y hy, e]) ?_
  refine thn (hi.run pins s σ H _ I h) fun xv s1 hx => thn hx fun itv s2 h2 => ?_
  obtain ⟨it, fp, tn, J, H2, e, I2, T, st2, f2, q⟩ := h2
  subst e
  refine wpAny_newObj_type ?_
  refine newEnv_comp ?_
  have hDn : H2 s2.heap.objs.size = none := I2.hok.fresh (Nat.le_refl _)
  obtain ⟨W, ⟨m0, w0⟩, turn⟩ := q s2.heap.objs.size hDn
  have hbig := I2.big
  have I3 : Inv X pins σ (upd H2 s2.heap.objs.size (dctH s2.heap.objs.size [])) { s2 with heap := s2.heap.push { cls := .type "dict", data := .dict #[] } } := by
    refine I2.laid (t' := s2.toks) (o := dctH s2.heap.objs.size []) (fun b ob q => Heap.get?_push_of_some _ q) (Nat.le_refl _) (dct_ok ⟨?_, [], .nil, _, _, _, Heap.get?_push_size _ rfl, ⟨rfl, rfl, rfl⟩, rfl, rfl, .nil⟩)
    exact beq_eq_false_iff_ne.mpr (Ne.symm (Nat.ne_of_lt hbig))
  generalize hS3 : ({ s2 with heap := s2.heap.push { cls := .type "dict", data := .dict #[] } } : Shared) = S3 at I3 ⊢
  generalize hHn : upd H2 s2.heap.objs.size (dctH s2.heap.objs.size []) = Hn at I3 w0
  have h3 : S3.heap = s2.heap.push { cls := .type "dict", data := .dict #[] } := by rw [← hS3]
  have sz : ∀ b ∈ fp, b < s2.heap.objs.size := fun b hb => by
    obtain ⟨o, e, _⟩ := T.obj 0 s2.heap st2 b hb
    exact Heap.lt_size e
  have hsz : S3.heap.objs.size = s2.heap.objs.size + 1 := by rw [h3, Heap.size_push]
  have f3 : ∀ b ∈ fp, FpOk X pins Hn b ∧ b < S3.heap.objs.size := fun b hb =>
    ⟨⟨by rw [← hHn, upd_ne (Nat.ne_of_lt (sz b hb))]; exact (f2 b hb).1, (f2 b hb).2⟩, by rw [hsz]; exact Nat.lt_succ_of_lt (sz b hb)⟩
  have st3 : tn 0 S3.heap := T.keep 0 s2.heap S3.heap st2 fun b _ o e => by rw [h3]; exact Heap.get?_push_of_some _ e
  have I4 := block_start I3 ok hN f3
  have pg := hg S3 Hn S3.heap.objs.size (cellsFrom (S3.heap.objs.size + 1) scope.names (cloFrom X.env.cells scope.names [])) fp
  have pt := ht S3 Hn S3.heap.objs.size (cellsFrom (S3.heap.objs.size + 1) scope.names (cloFrom X.env.cells scope.names [])) fp
  have pk := hk S3 Hn S3.heap.objs.size (cellsFrom (S3.heap.objs.size + 1) scope.names (cloFrom X.env.cells scope.names [])) fp
  have pe := he S3 Hn S3.heap.objs.size (cellsFrom (S3.heap.objs.size + 1) scope.names (cloFrom X.env.cells scope.names [])) fp
  show codeAny (model X.prog X.w) X.A (Code.compStart (.DictComp kx vx [⟨tg, iter, ifs, 0⟩] scope pos) 0 (.ref it) (.ref s2.heap.objs.size) (compEnvC scope (cellsFrom (S3.heap.objs.size + 1) scope.names (cloFrom X.env.cells scope.names [])) S3.heap.objs.size X.env)) (compPost (model X.prog X.w) X.A X.xe none (EP X pins σ Q) (.ref s2.heap.objs.size) S3.heap.objs.size) { S3 with heap := pushCells (S3.heap.push { cls := .type "dict", data := .dict #[] }) scope.names }
  generalize hce : compEnvC scope (cellsFrom (S3.heap.objs.size + 1) scope.names (cloFrom X.env.cells scope.names [])) S3.heap.objs.size X.env = CE at I4 pg pt pk pe ⊢
  have cL : CE.locals = S3.heap.objs.size := by rw [← hce]; rfl
  have nfp : ∀ b ∈ fp, Hn b = none := fun b hb => (f3 b hb).1.1
  generalize hS4 : ({ S3 with heap := pushCells (S3.heap.push { cls := .type "dict", data := .dict #[] }) scope.names } : Shared) = S4 at I4 ⊢
  have h4 : S4.heap = pushCells (S3.heap.push { cls := .type "dict", data := .dict #[] }) scope.names := by rw [← hS4]
  have st4 : tn 0 S4.heap := T.keep 0 S3.heap S4.heap st3 fun b _ o e => by rw [h4]; exact pushCells_keeps _ _ _ _ (Heap.get?_push_of_some _ e)
  have stat : ∀ {σ' : L2.St} {H' : Hp} {s' : Shared}, Inv (X.blk S3 Hn scope CE fp) [] σ' H' s' → (∀ b ∈ fp, H' b = none) → ∀ b ∈ fp, FpOk (X.blk S3 Hn scope CE fp) [] H' b := fun {σ' H' s'} I' hn b hb =>
    ⟨hn b hb, (I'.ok.exf b hb).1, I'.ok.exfs b hb, .inl hb, fun x c e => (I'.ok.exf b hb).2 x c e, fun p hp => by
      have hp : p ∈ (X.blk S3 Hn scope CE fp).pn ++ [] := hp
      simp [Cx.blk] at hp⟩
  have loop := compLoop_anyD (prog := X.prog) (w := X.w) (A := X.A) (R := compPost (model X.prog X.w) X.A X.xe none (EP X pins σ Q) (.ref s2.heap.objs.size) S3.heap.objs.size) (s := S4) (kx := kx) (vx := vx) (target := tg) (iter := iter) (ifs := ifs) (scope := scope) (pos := pos) (it := .ref it) (D := s2.heap.objs.size) (env := CE)
    (fun n s' => ∃ i H', Inv (X.blk S3 Hn scope CE fp) [] (wipe σ (own.map (·.2))) H' s' ∧ tn i s'.heap ∧ (∀ b ∈ fp, H' b = none) ∧ W i n H') (fun n s5 a => by
      obtain ⟨i, H5, I5, st5, n5, w5⟩ := a
      rcases turn i n H5 w5 with ⟨stop, qq⟩ | ⟨go, Nx, hNx, step⟩
      · have td := T.done (X.blk S3 Hn scope CE fp) rfl rfl rfl hc i [] s5 (wipe σ (own.map (·.2))) H5 (fun _ _ => False) I5 (stat I5 n5) st5 stop
        refine thnF td fun r s6 ⟨hr, I6⟩ => ?_
        subst hr
        have I7 : Inv X pins σ H5 s6 := I3.call' I6.os I6.base I6.hok I6.bare fun b hb => ⟨(f3 b hb).1.2.2.2.1, (f3 b hb).1.2.1, (f3 b hb).1.2.2.2.2.1, (f3 b hb).1.2.2.2.2.2⟩
        have nC : H5 S3.heap.objs.size = none := by rw [← cL]; exact I6.free
        obtain ⟨m, hn, _⟩ := I6.loc
        have hn : s6.heap.Ns CE.locals m := hn
        rw [cL] at hn
        obtain ⟨f0, f1, f2', f4, f5, f6⟩ := I3.fpOk (Nat.le_refl S3.heap.objs.size) nC
        exact ⟨m, hn, fun h'' sb => ⟨.ref s2.heap.objs.size, H5, I7.turned (t' := s6.toks) (fun b o hb e => (sb.2 b hb).trans e) f0 f1 f4 f5 f6, rfl, qq⟩⟩
      · have ti := T.item (X.blk S3 Hn scope CE fp) rfl rfl rfl hc i [] s5 (wipe σ (own.map (·.2))) H5 (fun _ _ => False) I5 (stat I5 n5) st5 go
        refine thnF ti fun r s6 ⟨u, hr, h6⟩ => ?_
        subst hr
        refine thnF h6 fun _ s7 ⟨xv, H7, I7, r7, y7, st7, n7⟩ => ?_
        have I7' := I7.pinned (stat I7 n7) (T.obj (i + 1) s7.heap st7)
        have pgr := pg.run ([] ++ pinsAt fp s7.heap) s7 (wipe σ (own.map (·.2))) H7 xv u _ I7' r7 (step xv H7 y7)
        refine thnF pgr fun _ s8 ⟨σ8, H8, I8, hw8, q8⟩ => ?_
        have ptr := pt.run ([] ++ pinsAt fp s7.heap) s8 σ8 H8 _ I8 q8
        refine thnF ptr fun b s9 ⟨H9, I9, q9⟩ => ?_
        have fin : ∀ {s' : Shared} {H' : Hp}, Inv (X.blk S3 Hn scope CE fp) ([] ++ pinsAt fp s7.heap) σ8 H' s' → Nx H' → ∃ m, m < n ∧ ∃ i H', Inv (X.blk S3 Hn scope CE fp) [] (wipe σ (own.map (·.2))) H' s' ∧ tn i s'.heap ∧ (∀ b ∈ fp, H' b = none) ∧ W i m H' := fun {s' H'} I' nx => by
          obtain ⟨m', hm, w'⟩ := hNx H' nx
          have pin' : ∀ b ∈ fp, ∀ o, s7.heap.get? b = some o → s'.heap.get? b = some o ∧ H' b = none := fun b hb o e =>
            let z := I'.pin (b, o) (List.mem_append_right _ (List.mem_append_right [] (mem_pinsAt hb e)))
            ⟨z.1, z.2.1⟩
          have hl : (wipe σ (own.map (·.2))).length = σ8.length := by rw [← hw8, wipe_length]
          refine ⟨m', hm, i + 1, H', I'.unpinned.weak hl fun j v e => ?_, T.keep (i + 1) s7.heap s'.heap st7 fun b hb o e => (pin' b hb o e).1, fun b hb => ?_, w'⟩
          · rw [← hw8] at e
            exact (wipe_some e).1
          · obtain ⟨o, e, _⟩ := T.obj (i + 1) s7.heap st7 b hb
            exact (pin' b hb o e).2
        cases b with
        | false => exact fin I9 q9
        | true =>
          have pkr := pk.run ([] ++ pinsAt fp s7.heap) s9 σ8 H9 _ I9 q9
          refine thnF pkr fun kv s10 ⟨y, H10, I10, r10, q10⟩ => ?_
          have per := pe.run ([] ++ pinsAt fp s7.heap) s10 σ8 H10 _ I10 q10
          refine thnF per fun vv s11 ⟨z, H11, I11, r11, kvs, ks, a', ey, hD', hl', ha', hks', nx⟩ => ?_
          subst ey
          cases r10
          exact d_setT (X := X.blk S3 Hn scope CE fp) I11 hu hD' hks' ha' hl' r11 fun s' I' => fin I' nx) m0 ⟨0, Hn, I4, st4, nfp, w0⟩
  exact codeAny_compStart_dict loop (T.self X.A 0 S4 _ _ st4 loop)
end
end Pev

set_option Elab.async false
set_option linter.all false
set_option maxRecDepth 100000
set_option maxHeartbeats 2000000
namespace Pev
open PySem PySem.Spec L2

/-! ### values as data -/
inductive Pv where
  | non | bl (b : Bool) | int (i : Int) | str (s : Str)
  | tup (xs : List Pv) | lst (xs : List Pv)
  | fn (i : Nat) | mref (n : Nat) | scr (xs : List Pv) | ty (n : String)
  | dct (ks : List (List Int)) (vs : List Pv)

/-- the ghost of a state: the lists and tuples that stand for good; where the dicts of the store stand -/
structure Wd where
  F : Hp
  ad : List Addr

/-- what never changes: the written part, where the defs of the table stand, the code tables -/
structure G0 where
  K : PySem.W.Frag
  fa : Nat → Option Addr
  ca : Nat → Option Addr
  T : List (Addr × Str)
/-- the ghost of a def's run: the world and the heap at its entry -/
structure Gh where
  H0 : Hp
  W0 : Wd
/-- what a suite holds: the caught error, its class, its dict; the lambda that was handed in -/
structure Pc where
  pa : Addr
  cls : Value
  dx : Option Addr
  lam : Addr
  lc : Addr
  lq : Str
  gh : Gh
structure Gc extends G0 where
  P : Pc
instance : Coe Gc G0 := ⟨Gc.toG0⟩
/-- a tuple: tracked, or of the written part and without a dict -/
def SqTd (K : PySem.W.Frag) (H : Hp) (a : Addr) (xs : List V) : Prop :=
  (∃ o : Obj, H a = some (.frz o (.tup xs)) ∧ o.dict = none) ∨ ∃ (o : Obj) (its : Array Value) (n : Nat), K.lookup a = some o ∧ o.cls = .type "tuple" ∧ o.dict = none ∧ o.data = .seq its n ∧ its.size ≤ sizeLine ∧ Vals xs its.toList
theorem SqTd.T {K : PySem.W.Frag} {H : Hp} {a : Addr} {xs : List V} (h : SqTd K H a xs) : SqT K H a xs := by
  rcases h with ⟨o, h, _⟩ | ⟨o, its, n, h1, h2, h3, h4⟩
  · exact .inl (.inr ⟨o, h⟩)
  · exact .inr ⟨o, its, n, h1, h2, h4⟩
theorem sqT'_le {K : PySem.W.Frag} {H H' : Hp} (h : ∀ a o, H a = some o → H' a = some o) {a : Addr} {xs : List V} (q : SqT K H a xs) : SqT K H' a xs := by
  rcases q with q | q
  · rcases q with q | ⟨o, q⟩
    · exact .inl (.inl (h _ _ q))
    · exact .inl (.inr ⟨o, h _ _ q⟩)
  · exact .inr q
mutual
inductive RV (G : G0) (W : Wd) : V → Pv → Prop
  | non : RV G W .non .non
  | bl (b : Bool) : RV G W (.bl b) (.bl b)
  | int (i : Int) : RV G W (.int i) (.int i)
  | str (s : Str) : RV G W (.str s) (.str s)
  | tup {a : Addr} {vs : List V} {xs : List Pv} : SqTd G.K W.F a vs → RVs G W vs xs → RV G W (.ref a) (.tup xs)
  | lst {a : Addr} {vs : List V} {xs : List Pv} : W.F a = some (.lst vs) → RVs G W vs xs → RV G W (.ref a) (.lst xs)
  | scr {a : Addr} {vs : List V} {xs : List Pv} : SqL G.K W.F a vs → RVs G W vs xs → RV G W (.ref a) (.scr xs)
  | ty (n : String) : RV G W (.ty n) (.ty n)
  | fn {i : Nat} {a : Addr} : G.fa i = some a → RV G W (.ref a) (.fn i)
  | mref {n : Nat} {a : Addr} : W.ad[n]? = some a → RV G W (.ref a) (.mref n)
  | dct {a : Addr} {kvs : TVs} {vs : List Pv} : W.F a = some (dctH a kvs) → (∀ x ∈ kvs, SqT G.K W.F x.2.1 (x.1.map V.int)) → RVs G W (kvs.map fun x => x.2.2) vs → RV G W (.ref a) (.dct (kvs.map fun x => x.1) vs)
inductive RVs (G : G0) (W : Wd) : List V → List Pv → Prop
  | nil : RVs G W [] []
  | cons {v : V} {x : Pv} {vs : List V} {xs : List Pv} : RV G W v x → RVs G W vs xs → RVs G W (v :: vs) (x :: xs)
end

/-- the second world knows all that the first knows -/
structure Wd.Le (W W' : Wd) : Prop where
  F : ∀ a o, W.F a = some o → W'.F a = some o
  ad : ∀ (n : Nat) a, W.ad[n]? = some a → W'.ad[n]? = some a
theorem Wd.Le.refl (W : Wd) : W.Le W := ⟨fun _ _ h => h, fun _ _ h => h⟩
theorem Wd.Le.trans {A B C : Wd} (x : A.Le B) (y : B.Le C) : A.Le C := ⟨fun a o h => y.F a o (x.F a o h), fun n a h => y.ad n a (x.ad n a h)⟩
theorem sqL_le {K : PySem.W.Frag} {H H' : Hp} (h : ∀ a o, H a = some o → H' a = some o) {a : Addr} {xs : List V} (q : SqL K H a xs) : SqL K H' a xs := by
  rcases q with q | q
  · rcases q with q | ⟨o, q⟩
    · exact .inl (.inl (h _ _ q))
    · exact .inl (.inr ⟨o, h _ _ q⟩)
  · exact .inr q
theorem sqT_le {K : PySem.W.Frag} {H H' : Hp} (h : ∀ a o, H a = some o → H' a = some o) {a : Addr} {xs : List V} (q : SqTd K H a xs) : SqTd K H' a xs := by
  rcases q with ⟨o, q, d⟩ | q
  · exact .inl ⟨o, h _ _ q, d⟩
  · exact .inr q
mutual
theorem RV.mono {G : G0} {W W' : Wd} (l : W.Le W') : ∀ {v : V} {x : Pv}, RV G W v x → RV G W' v x
  | _, _, .non => .non
  | _, _, .bl b => .bl b
  | _, _, .int i => .int i
  | _, _, .str s => .str s
  | _, _, .ty n => .ty n
  | _, _, .tup h r => .tup (sqT_le l.F h) (r.mono l)
  | _, _, .lst h r => .lst (l.F _ _ h) (r.mono l)
  | _, _, .scr h r => .scr (sqL_le l.F h) (r.mono l)
  | _, _, .fn h => .fn h
  | _, _, .mref h => .mref (l.ad _ _ h)
  | _, _, .dct h k r => .dct (l.F _ _ h) (fun x m => sqT'_le l.F (k x m)) (r.mono l)
theorem RVs.mono {G : G0} {W W' : Wd} (l : W.Le W') : ∀ {vs : List V} {xs : List Pv}, RVs G W vs xs → RVs G W' vs xs
  | _, _, .nil => .nil
  | _, _, .cons h r => .cons (h.mono l) (r.mono l)
end
theorem RVs.length {G : G0} {W : Wd} : ∀ {vs : List V} {xs : List Pv}, RVs G W vs xs → vs.length = xs.length
  | _, _, .nil => rfl
  | _, _, .cons _ r => congrArg (· + 1) r.length
theorem RVs.get {G : G0} {W : Wd} : ∀ {vs : List V} {xs : List Pv} {i : Nat} {x : Pv}, RVs G W vs xs → xs[i]? = some x → ∃ v, vs[i]? = some v ∧ RV G W v x
  | _, _, _, _, .nil, e => by simp at e
  | _, _, 0, _, .cons r _, e => by simp at e; subst e; exact ⟨_, rfl, r⟩
  | _, _, i + 1, x, .cons _ t, e => by
    obtain ⟨v, h1, h2⟩ := RVs.get (i := i) (x := x) t (by simpa using e)
    exact ⟨v, by simpa using h1, h2⟩
theorem RVs.getV {G : G0} {W : Wd} : ∀ {vs : List V} {xs : List Pv} {i : Nat} {v : V}, RVs G W vs xs → vs[i]? = some v → ∃ x, xs[i]? = some x ∧ RV G W v x
  | _, _, _, _, .nil, e => by simp at e
  | _, _, 0, _, .cons r _, e => by simp at e; subst e; exact ⟨_, rfl, r⟩
  | _, _, i + 1, x, .cons _ t, e => by
    obtain ⟨v, h1, h2⟩ := RVs.getV (i := i) (v := x) t (by simpa using e)
    exact ⟨v, by simpa using h1, h2⟩
theorem RVs.append {G : G0} {W : Wd} : ∀ {vs ws : List V} {xs ys : List Pv}, RVs G W vs xs → RVs G W ws ys → RVs G W (vs ++ ws) (xs ++ ys)
  | _, _, _, _, .nil, s => s
  | _, _, _, _, .cons r t, s => .cons r (RVs.append t s)
theorem RVs.drop {G : G0} {W : Wd} : ∀ {vs : List V} {xs : List Pv} (n : Nat), RVs G W vs xs → RVs G W (vs.drop n) (xs.drop n)
  | _, _, 0, r => r
  | _, _, _ + 1, .nil => .nil
  | _, _, n + 1, .cons _ t => RVs.drop n t
theorem RVs.take {G : G0} {W : Wd} : ∀ {vs : List V} {xs : List Pv} (n : Nat), RVs G W vs xs → RVs G W (vs.take n) (xs.take n)
  | _, _, 0, _ => .nil
  | _, _, _ + 1, .nil => .nil
  | _, _, n + 1, .cons r t => .cons r (RVs.take n t)

/-! ### the store and the world -/
abbrev Ent := List (Str × Pv)
abbrev Sto := List Ent
/-- the pairs of a dict with text keys -/
inductive RKs (G : G0) (W : Wd) : List (Key × V) → Ent → Prop
  | nil : RKs G W [] []
  | cons {k : Str} {v : V} {x : Pv} {kvs : List (Key × V)} {es : Ent} : RV G W v x → RKs G W kvs es → RKs G W ((.inr k, v) :: kvs) ((k, x) :: es)
theorem RKs.mono {G : G0} {W W' : Wd} (l : W.Le W') : ∀ {kvs : List (Key × V)} {es : Ent}, RKs G W kvs es → RKs G W' kvs es
  | _, _, .nil => .nil
  | _, _, .cons h r => .cons (h.mono l) (r.mono l)
def Plain : HO → Prop
  | .lst _ => True
  | .tup _ => True
  | .frz _ (.lst _) => True
  | .frz _ (.tup _) => True
  | .ext _ => True
  | _ => False
/-- the world stands over the heap; S tells the store -/
structure WOk (G : G0) (W : Wd) (H : Hp) (S : Sto) : Prop where
  le : ∀ a o, W.F a = some o → H a = some o
  plain : ∀ a o, W.F a = some o → Plain o
  len : W.ad.length = S.length
  at_ : ∀ (n : Nat) a es, W.ad[n]? = some a → S[n]? = some es → W.F a = none ∧ ∃ kvs, H a = some (.dK kvs) ∧ RKs G W kvs es
  inj : ∀ (m n : Nat) a, W.ad[m]? = some a → W.ad[n]? = some a → m = n
  tabs : LamX.Tabs G.T H
def noTbl (o : HO) : Prop := ∀ ps, o ≠ .tbl ps
/-- at a stands nothing but, perhaps, a table -/
def Nt (H : Hp) (a : Addr) : Prop := ∀ o, H a = some o → ¬ noTbl o
theorem Nt.of {H : Hp} {a : Addr} (h : H a = none) : Nt H a := fun o e => by rw [h] at e; cases e
theorem Nt.ne {H : Hp} {a b : Addr} {o : HO} (h : Nt H b) (e : H a = some o) (t : noTbl o) : a ≠ b := fun z => h o (by rw [← z]; exact e) t
/-- what a run may do to the heap -/
structure Ext (W : Wd) (H : Hp) (W' : Wd) (H' : Hp) : Prop where
  F : ∀ a o, W.F a = some o → W'.F a = some o
  fresh : ∀ a o, W.F a = none → H a = some o → noTbl o → W'.F a = none
  keep : ∀ a o, H a = some o → a ∉ W.ad → noTbl o → H' a = some o
  there : ∀ a o, H a = some o → noTbl o → ∃ o', H' a = some o' ∧ noTbl o'
  ad : ∃ more, W'.ad = W.ad ++ more ∧ ∀ a ∈ more, Nt H a
theorem Ext.refl (W : Wd) (H : Hp) : Ext W H W H := ⟨fun _ _ h => h, fun _ _ h _ _ => h, fun _ _ h _ _ => h, fun _ o h t => ⟨o, h, t⟩, [], by simp, by simp⟩
/-- what stands nowhere behind a run stood nowhere ahead of it -/
theorem Ext.nt {A B : Wd} {H H1 : Hp} (x : Ext A H B H1) {p : Addr} (n : Nt H1 p) : Nt H p := fun o e t => by
  obtain ⟨o', e', t'⟩ := x.there p o e t
  exact n o' e' t'
theorem Ext.trans {A B C : Wd} {H H1 H2 : Hp} (x : Ext A H B H1) (y : Ext B H1 C H2) : Ext A H C H2 := by
  obtain ⟨m1, e1, f1⟩ := x.ad
  obtain ⟨m2, e2, f2⟩ := y.ad
  refine ⟨fun a o h => y.F a o (x.F a o h), fun a o h n t => ?_, fun a o h n t => y.keep a o (x.keep a o h n t) ?_ t, fun a o h t => ?_, m1 ++ m2, by rw [e2, e1, List.append_assoc], fun a h => ?_⟩
  · obtain ⟨o', e', t'⟩ := x.there a o n t
    exact y.fresh a o' (x.fresh a o h n t) e' t'
  · rw [e1]
    intro hm
    rcases List.mem_append.mp hm with hm | hm
    · exact n hm
    · exact f1 a hm o h t
  · obtain ⟨o', e', t'⟩ := x.there a o h t
    exact y.there a o' e' t'
  · rcases List.mem_append.mp h with h | h
    · exact f1 a h
    · exact x.nt (f2 a h)
theorem Ext.le {W W' : Wd} {H H' : Hp} (x : Ext W H W' H') : W.Le W' := ⟨x.F, fun n a h => by
  obtain ⟨m, e, _⟩ := x.ad
  rw [e, List.getElem?_append_left (List.getElem?_eq_some_iff.mp h).1]
  exact h⟩
end Pev

set_option Elab.async false
set_option linter.all false
set_option maxRecDepth 100000
set_option maxHeartbeats 2000000
namespace Pev
open PySem PySem.Spec L2

section
variable {G : G0} {W W' : Wd} {H H' : Hp} {S : Sto} {p : Addr} {o : HO}
/-- a new object that is no part of the world -/
theorem WOk.new (w : WOk G W H S) (hp : H p = none) : WOk G W (upd H p o) S ∧ Ext W H W (upd H p o) := by
  refine ⟨⟨fun a u h => ?_, w.plain, w.len, fun n a es h1 h2 => ?_, w.inj, w.tabs.ext fun b u e => by rw [upd_ne (ne_of_none e hp)]; exact e⟩, fun _ _ h => h, fun _ _ h _ _ => h, fun a u h _ _ => ?_, fun a u h t => ⟨u, ?_, t⟩, [], by simp, by simp⟩
  · have := w.le a u h
    rw [upd_ne (ne_of_none this hp)]; exact this
  · obtain ⟨f, kvs, hk, r⟩ := w.at_ n a es h1 h2
    exact ⟨f, kvs, by rw [upd_ne (ne_of_none hk hp)]; exact hk, r⟩
  · rw [upd_ne (ne_of_none h hp)]; exact h
  · rw [upd_ne (ne_of_none h hp)]; exact h
theorem tabs_wr {T : List (Addr × Str)} {vs : List V} {o' : HO} (t : LamX.Tabs T H) (hp : H p = some (.lst vs)) : LamX.Tabs T (upd H p o') := fun q hq => by
  obtain ⟨ps, h1, h2, h3⟩ := t q hq
  refine ⟨ps, by rw [upd_ne (fun z => by rw [z, hp] at h1; cases h1)]; exact h1, h2, fun pos cv hc => ?_⟩
  obtain ⟨c, e1, e2⟩ := h3 pos cv hc
  exact ⟨c, e1, by rw [upd_ne (fun z => by rw [z, hp] at e2; unfold LamX.CodeO at e2; cases e2)]; exact e2⟩
/-- a list that is no part of the world is written -/
theorem WOk.wr {vs vs' : List V} (w : WOk G W H S) (hp : H p = some (.lst vs)) (fp : W.F p = none) : WOk G W (upd H p (.lst vs')) S := by
  refine ⟨fun a u h => ?_, w.plain, w.len, fun n a es h1 h2 => ?_, w.inj, tabs_wr w.tabs hp⟩
  · have hne : a ≠ p := fun z => by rw [z, fp] at h; cases h
    rw [upd_ne hne]; exact w.le a u h
  · obtain ⟨f, kvs, hk, r⟩ := w.at_ n a es h1 h2
    have hne : a ≠ p := fun z => by rw [z, hp] at hk; cases hk
    exact ⟨f, kvs, by rw [upd_ne hne]; exact hk, r⟩
/-- what is no part of the world becomes one -/
theorem WOk.freeze (w : WOk G W H S) (hp : H p = some o) (po : Plain o) (ha : p ∉ W.ad) : WOk G ⟨upd W.F p o, W.ad⟩ H S := by
  have le : W.F p = none ∨ W.F p = some o := by
    cases q : W.F p with
    | none => exact .inl rfl
    | some u => have := w.le p u q; rw [hp] at this; cases this; exact .inr rfl
  have lw : W.Le ⟨upd W.F p o, W.ad⟩ := ⟨fun a u h => by
    by_cases e : a = p
    · subst e
      rcases le with q | q
      · rw [q] at h; cases h
      · rw [q] at h; cases h; exact upd_same
    · show upd W.F p o a = _
      rw [upd_ne e]; exact h, fun _ _ h => h⟩
  refine ⟨fun a u h => ?_, fun a u h => ?_, w.len, fun n a es h1 h2 => ?_, w.inj, w.tabs⟩
  · have h : upd W.F p o a = some u := h
    by_cases e : a = p
    · subst e; rw [upd_same] at h; cases h; exact hp
    · rw [upd_ne e] at h; exact w.le a u h
  · have h : upd W.F p o a = some u := h
    by_cases e : a = p
    · subst e; rw [upd_same] at h; cases h; exact po
    · rw [upd_ne e] at h; exact w.plain a u h
  · obtain ⟨f, kvs, hk, r⟩ := w.at_ n a es h1 h2
    have hne : a ≠ p := fun e => ha (e ▸ List.mem_of_getElem? h1)
    exact ⟨by show upd W.F p o a = none; rw [upd_ne hne]; exact f, kvs, hk, r.mono lw⟩
theorem WOk.off (w : WOk G W H S) (hp : H p = some o) (h : ∀ kvs, o ≠ .dK kvs) : p ∉ W.ad := fun hm => by
  obtain ⟨n, hn, e⟩ := List.getElem_of_mem hm
  have h1 : W.ad[n]? = some p := by rw [List.getElem?_eq_getElem hn, e]
  have hl : n < S.length := by rw [← w.len]; exact hn
  obtain ⟨_, kvs, hk, _⟩ := w.at_ n p S[n] h1 (List.getElem?_eq_getElem hl)
  rw [hp] at hk; cases hk; exact h kvs rfl
theorem WOk.offNew (w : WOk G W H S) (hp : H p = none) : p ∉ W.ad := fun hm => by
  obtain ⟨n, hn, e⟩ := List.getElem_of_mem hm
  have h1 : W.ad[n]? = some p := by rw [List.getElem?_eq_getElem hn, e]
  have hl : n < S.length := by rw [← w.len]; exact hn
  obtain ⟨_, kvs, hk, _⟩ := w.at_ n p S[n] h1 (List.getElem?_eq_getElem hl)
  rw [hp] at hk; cases hk
theorem plain_ndK {o : HO} (h : Plain o) : ∀ kvs, o ≠ .dK kvs := fun kvs e => by subst e; exact h
/-- a new list, tuple that stands for good -/
theorem WOk.alloc (w : WOk G W H S) (hp : H p = none) (po : Plain o) : WOk G ⟨upd W.F p o, W.ad⟩ (upd H p o) S ∧ Ext W H ⟨upd W.F p o, W.ad⟩ (upd H p o) := by
  obtain ⟨w1, e1⟩ := w.new (o := o) hp
  have fp : W.F p = none := by
    cases q : W.F p with
    | none => rfl
    | some u => have := w.le p u q; rw [hp] at this; cases this
  refine ⟨w1.freeze upd_same po (w.offNew hp), fun a u h => ?_, fun a u h n t => ?_, e1.keep, e1.there, [], by simp, by simp⟩
  · show upd W.F p o a = _
    rw [upd_ne (ne_of_none h fp)]; exact h
  · show upd W.F p o a = none
    rw [upd_ne (ne_of_none n hp)]; exact h
end

/-! ### what a run gives -/
inductive Res (α : Type) where
  | ok (a : α) (S : Sto) | exc (c : Nat) (fs : Ent) (S : Sto) | stuck
def Res.bind {α β : Type} (r : Res α) (f : α → Sto → Res β) : Res β := match r with
  | .ok a S => f a S
  | .exc c fs S => .exc c fs S
  | .stuck => .stuck
/-- the fields of an error -/
inductive RFs (G : G0) (W : Wd) : List (Str × V) → Ent → Prop
  | nil : RFs G W [] []
  | cons {k : Str} {v : V} {x : Pv} {kvs : List (Str × V)} {es : Ent} : RV G W v x → RFs G W kvs es → RFs G W ((k, v) :: kvs) ((k, x) :: es)
theorem RFs.mono {G : G0} {W W' : Wd} (l : W.Le W') : ∀ {kvs : List (Str × V)} {es : Ent}, RFs G W kvs es → RFs G W' kvs es
  | _, _, .nil => .nil
  | _, _, .cons h r => .cons (h.mono l) (r.mono l)
def RX (G : G0) (W : Wd) (H : Hp) (cls : Value) (d : Option Addr) (c : Nat) (fs : Ent) : Prop :=
  ∃ C dd kvs, G.ca c = some C ∧ cls = .ref C ∧ d = some dd ∧ H dd = some (.xd kvs) ∧ RFs G W kvs fs
/-- the end of a run: Q of a value that is as told; Ex of an error -/
def Out {α β : Type} (G : G0) (W : Wd) (H : Hp) (σ : St) (Ex : WX) (R : Wd → β → α → Prop) (Q : β → Hp → Prop) : Res α → Prop
  | .ok a S' => ∀ W' H' x, Ext W H W' H' → WOk G W' H' S' → R W' x a → Q x H'
  | .exc c fs S' => ∀ W' H' cls d, Ext W H W' H' → WOk G W' H' S' → RX G W' H' cls d c fs → Ex cls d σ H'
  | .stuck => False
section
variable {α β γ δ : Type} {G : G0} {W W1 : Wd} {H H1 : Hp} {σ : St} {Ex : WX} {R : Wd → β → α → Prop} {R' : Wd → δ → γ → Prop} {Q P : β → Hp → Prop} {Q' : δ → Hp → Prop}
theorem Out.shift {r : Res α} (h : Out G W H σ Ex R Q r) (e : Ext W H W1 H1) : Out G W1 H1 σ Ex R Q r := by
  cases r with
  | ok a S' => exact fun W' H' x e' w rv => h W' H' x (e.trans e') w rv
  | exc c fs S' => exact fun W' H' cls d e' w rx => h W' H' cls d (e.trans e') w rx
  | stuck => exact h
theorem Out.bind {r : Res α} {f : α → Sto → Res γ} (h : Out G W H σ Ex R' Q' (r.bind f))
    (k : ∀ a S1 W1 H1 x, Ext W H W1 H1 → WOk G W1 H1 S1 → R W1 x a → Out G W1 H1 σ Ex R' Q' (f a S1) → P x H1) : Out G W H σ Ex R P r := by
  cases r with
  | ok a S' => exact fun W' H' x e w rv => k a S' W' H' x e w rv (Out.shift h e)
  | exc c fs S' => exact h
  | stuck => exact h
end
/-! ### slots -/
inductive Slot where
  | un | val (v : Pv) | own (xs : List Pv) | exc (c : Nat) (fs : Ent) | thk
/-- a slot that the evaluation keeps as it is -/
def Slot.pinned : Slot → Bool
  | .exc _ _ => true
  | .thk => true
  | _ => false
section
variable {G : Gc} {W W' : Wd} {H H' : Hp} {S : Sto}
structure SOk (G : Gc) (H0 : Gh) (W : Wd) (σ : St) (H : Hp) (env : List Slot) : Prop where
  len : env.length = σ.length
  val : ∀ (i : Nat) v, env[i]? = some (.val v) → ∃ x, σ[i]? = some (some x) ∧ RV G W x v
  own : ∀ (i : Nat) xs, env[i]? = some (.own xs) → ∃ a vs, σ[i]? = some (some (.ref a)) ∧ H a = some (.lst vs) ∧ W.F a = none ∧ Nt H0.H0 a ∧ RVs G W vs xs
  exc : ∀ (i c : Nat) fs, env[i]? = some (.exc c fs) → σ[i]? = some (some (.ref G.P.pa)) ∧ RX G W H G.P.cls G.P.dx c fs
  thk : ∀ (i : Nat), env[i]? = some .thk → σ[i]? = some (some (.ref G.P.lam)) ∧ H G.P.lc = some (LamX.CodeO G.P.lc G.P.lq) ∧ H0 = G.P.gh
  apart : ∀ (i j : Nat) xs ys a, env[i]? = some (.own xs) → env[j]? = some (.own ys) → σ[i]? = some (some (.ref a)) → σ[j]? = some (some (.ref a)) → i = j
theorem RX.ext {G : G0} {cls : Value} {d : Option Addr} {c : Nat} {fs : Ent} (r : RX G W H cls d c fs) (w : WOk G W H S) (e : Ext W H W' H') : RX G W' H' cls d c fs := by
  obtain ⟨C, dd, kvs, h1, h2, h3, h4, h5⟩ := r
  exact ⟨C, dd, kvs, h1, h2, h3, e.keep dd _ h4 (w.off h4 (fun _ z => by cases z)) (fun _ z => by cases z), h5.mono e.le⟩
theorem code_nt {c : Addr} {q : Str} (ps : Array Value) : LamX.CodeO c q ≠ .tbl ps := fun z => by
  unfold LamX.CodeO at z; cases z
theorem code_nk {c : Addr} {q : Str} (ps : List (Key × V)) : LamX.CodeO c q ≠ .dK ps := fun z => by
  unfold LamX.CodeO at z; cases z
theorem code_nl {c : Addr} {q : Str} (ps : List V) : LamX.CodeO c q ≠ .lst ps := fun z => by
  unfold LamX.CodeO at z; cases z
theorem SOk.ext {H0 : Gh} {σ : St} {env : List Slot} (s : SOk G H0 W σ H env) (w : WOk G W H S) (e : Ext W H W' H') : SOk G H0 W' σ H' env := by
  refine ⟨s.len, fun i v h => ?_, fun i xs h => ?_, fun i c fs h => ?_, fun i h => ?_, s.apart⟩
  · obtain ⟨x, h1, h2⟩ := s.val i v h
    exact ⟨x, h1, h2.mono e.le⟩
  · obtain ⟨a, vs, h1, h2, h3, h4, h5⟩ := s.own i xs h
    refine ⟨a, vs, h1, e.keep a _ h2 (w.off h2 (fun _ z => by cases z)) (fun _ z => by cases z), e.fresh a _ h3 h2 (fun _ z => by cases z), h4, h5.mono e.le⟩
  · obtain ⟨h1, h2⟩ := s.exc i c fs h
    exact ⟨h1, h2.ext w e⟩
  · obtain ⟨h1, h2, h3⟩ := s.thk i h
    exact ⟨h1, e.keep _ _ h2 (w.off h2 code_nk) code_nt, h3⟩
end

abbrev EvF := List Slot → Sto → Res Pv
abbrev EvFs := List Slot → Sto → Res (List Pv)
/-- the state as the evaluation knows it -/
structure At (G : Gc) (H0 : Gh) (W : Wd) (S : Sto) (σ : St) (H : Hp) (env : List Slot) : Prop where
  w : WOk G W H S
  s : SOk G H0 W σ H env
  e0 : Ext H0.W0 H0.H0 W H
theorem At.ext {G : Gc} {H0 : Gh} {W W' : Wd} {S S' : Sto} {σ : St} {H H' : Hp} {env : List Slot} (a : At G H0 W S σ H env) (e : Ext W H W' H') (w : WOk G W' H' S') : At G H0 W' S' σ H' env := ⟨w, a.s.ext a.w e, a.e0.trans e⟩
def tE (G : Gc) (Ex : WX) (r : EvF) : TE := fun σ H Q => ∃ H0 W S env, At G H0 W S σ H env ∧ Out G W H σ Ex (RV G) Q (r env S)
def tA (G : Gc) (Ex : WX) (r : EvFs) : TA := fun σ H Q => ∃ H0 W S env, At G H0 W S σ H env ∧ Out G W H σ Ex (RVs G) Q (r env S)
def tT (G : Gc) (Ex : WX) (r : List Slot → Sto → Res Bool) : TT := fun σ H Q => ∃ H0 W S env, At G H0 W S σ H env ∧ Out G W H σ Ex (fun _ (x : Bool) a => x = a) Q (r env S)
section
variable {X : Cx} {e : Expr} {t t' : TE} {es : List Expr} {ta ta' : TA}
theorem pe_imp (h : PE X e t) (k : ∀ σ H Q, t' σ H Q → t σ H Q) : PE X e t' := ⟨fun pins s σ H Q I q => h.run pins s σ H Q I (k σ H Q q)⟩
theorem pt_imp {t t' : TT} (h : PT X e t) (k : ∀ σ H Q, t' σ H Q → t σ H Q) : PT X e t' := ⟨fun pins s σ H Q I q => h.run pins s σ H Q I (k σ H Q q)⟩
theorem pa_imp (h : PA X es ta) (k : ∀ σ H Q, ta' σ H Q → ta σ H Q) : PA X es ta' := ⟨fun pos pins s σ H Q I q => h.run pos pins s σ H Q I (k σ H Q q)⟩
end
end Pev

set_option Elab.async false
set_option linter.all false
set_option maxRecDepth 100000
set_option maxHeartbeats 2000000
namespace Pev
open PySem PySem.Spec L2

section
variable {X : Cx} {G : Gc} {Ex : WX} {a b c e : Expr} {ra rb rc : EvF} {pos : Pos} {es : List Expr} {ras : EvFs}

/-! ### names, constants -/
def evVar (i : Nat) : EvF := fun env S => match env[i]? with | some (.val v) => .ok v S | _ => .stuck
theorem e_var {i : Nat} {x : Str} (hN : X.N[i]? = some x) (hv : Vis X.env.scope x) (hd : (x == ("__debug__" : Str)) = false) (hcd : (x == ("__classdict__" : Str)) = false) : PE X (.Name x pos) (tE G Ex (evVar i)) := by
  refine pe_imp (pe_var hN hv hd hcd) fun σ H Q h => ?_
  obtain ⟨H0, W, S, env, A, o⟩ := h
  unfold evVar at o
  cases q : env[i]? with
  | none => rw [q] at o; exact o.elim
  | some sl =>
    rw [q] at o
    cases sl with
    | un => exact o.elim
    | own _ => exact o.elim
    | exc _ _ => exact o.elim
    | thk => exact o.elim
    | val v =>
      obtain ⟨x, h1, h2⟩ := A.s.val i v q
      exact ⟨x, h1, o W H x (Ext.refl _ _) A.w h2⟩
def evCon (v : Pv) : EvF := fun _ S => .ok v S
theorem e_con {x : V} {v : Pv} (h : PE X e (tC x)) (r : ∀ W, RV G W x v) : PE X e (tE G Ex (evCon v)) := by
  refine pe_imp h fun σ H Q h => ?_
  obtain ⟨H0, W, S, env, A, o⟩ := h
  exact o W H x (Ext.refl _ _) A.w (r W)

/-! ### argument lists, displays -/
theorem a_nil : PA X [] (tA G Ex fun _ S => .ok [] S) := by
  refine pa_imp pa_nil fun σ H Q h => ?_
  obtain ⟨H0, W, S, env, A, o⟩ := h
  exact o W H [] (Ext.refl _ _) A.w .nil
theorem a_cons (ha : PE X a (tE G Ex ra)) (hs : PA X es (tA G Ex ras)) (hse : starEach (a :: es) X.env = (false, eval a X.env) :: starEach es X.env) :
    PA X (a :: es) (tA G Ex fun env S => (ra env S).bind fun v S1 => (ras env S1).bind fun vs S2 => .ok (v :: vs) S2) := by
  refine pa_imp (pa_cons ha hs hse) fun σ H Q h => ?_
  obtain ⟨H0, W, S, env, A, o⟩ := h
  refine ⟨H0, W, S, env, A, o.bind fun v S1 W1 H1 x e1 w1 r1 o1 => ?_⟩
  refine ⟨H0, W1, S1, env, A.ext e1 w1, o1.bind fun vs S2 W2 H2 xs e2 w2 r2 o2 => ?_⟩
  exact o2 W2 H2 _ (Ext.refl _ _) w2 (.cons (r1.mono e2.le) r2)
def capLen : Nat := 1000000
theorem cap_line {n : Nat} (h : n ≤ capLen) : n ≤ sizeLine := Nat.le_trans h (by decide)
def evTup (ras : EvFs) : EvF := fun env S => (ras env S).bind fun vs S1 => match Nat.ble vs.length capLen with | true => .ok (.tup vs) S1 | false => .stuck
theorem e_tup {k : Nat} (hs : PA X es (tA G Ex ras)) : PE X (.Tuple es k pos) (tE G Ex (evTup ras)) := by
  refine pe_imp (pe_tupF hs) fun σ H Q h => ?_
  obtain ⟨H0, W, S, env, A, o⟩ := h
  refine ⟨H0, W, S, env, A, o.bind fun vs S1 W1 H1 xs e1 w1 r1 o1 => ?_⟩
  cases q : Nat.ble vs.length capLen with
  | false => rw [q] at o1; exact o1.elim
  | true =>
    rw [q] at o1
    refine ⟨cap_line (by rw [r1.length]; exact Nat.le_of_ble_eq_true q), fun p ob hp hd => ?_⟩
    obtain ⟨w2, e2⟩ := w1.alloc (o := .frz ob (.tup xs)) hp trivial
    exact o1 _ _ _ e2 w2 (.tup (.inl ⟨ob, upd_same, hd⟩) (r1.mono e2.le))
def evLst (ras : EvFs) : EvF := fun env S => (ras env S).bind fun vs S1 => match Nat.ble vs.length capLen with | true => .ok (.lst vs) S1 | false => .stuck
theorem e_lst (hs : PA X es (tA G Ex ras)) : PE X (.List es pos) (tE G Ex (evLst ras)) := by
  refine pe_imp (pe_lst hs) fun σ H Q h => ?_
  obtain ⟨H0, W, S, env, A, o⟩ := h
  refine ⟨H0, W, S, env, A, o.bind fun vs S1 W1 H1 xs e1 w1 r1 o1 => ?_⟩
  cases q : Nat.ble vs.length capLen with
  | false => rw [q] at o1; exact o1.elim
  | true =>
    rw [q] at o1
    refine ⟨cap_line (by rw [r1.length]; exact Nat.le_of_ble_eq_true q), fun p hp => ?_⟩
    obtain ⟨w2, e2⟩ := w1.alloc (o := .lst xs) hp trivial
    exact o1 _ _ _ e2 w2 (.lst upd_same (r1.mono e2.le))

/-! ### truth -/
def tru : Pv → Option Bool
  | .non => some false
  | .bl b => some b
  | .int i => some (i != 0)
  | .str s => match Nat.ble s.length capLen with | true => some ((s.length : Int) != 0) | false => none
  | .tup xs => some (!xs.isEmpty)
  | .lst xs => some (!xs.isEmpty)
  | .scr xs => some (!xs.isEmpty)
  | _ => none
theorem RVs.isEmpty {W : Wd} {vs : List V} {xs : List Pv} (r : RVs G W vs xs) : xs.isEmpty = vs.isEmpty := by cases r <;> rfl
theorem sqL_of {W : Wd} {H : Hp} {S : Sto} {p : Addr} {vs : List V} (w : WOk G W H S) (h : SqL G.K W.F p vs) : SqL G.K H p vs := sqL_le w.le h
theorem sqT_of {W : Wd} {H : Hp} {S : Sto} {p : Addr} {vs : List V} (w : WOk G W H S) (h : SqTd G.K W.F p vs) : SqT G.K H p vs := (sqT_le w.le h).T
theorem tru_of {W : Wd} {H : Hp} {S : Sto} {x : V} {v : Pv} {k : Bool} (w : WOk G W H S) (r : RV G W x v) (h : tru v = some k) : TruV G.K x H k := by
  cases r with
  | non => cases h; rfl
  | bl b => cases h; rfl
  | int i => cases h; rfl
  | str s =>
    simp only [tru] at h
    cases q : Nat.ble s.length capLen with
    | true =>
      rw [q] at h
      cases h
      exact ⟨cap_line (Nat.le_of_ble_eq_true q), rfl⟩
    | false => rw [q] at h; cases h
  | tup h1 h2 => cases h; exact .inr (.inl ⟨_, sqT_of w h1, by rw [h2.isEmpty]⟩)
  | lst h1 h2 => cases h; exact .inl ⟨_, sqL_of w (.inl (.inl h1)), by rw [h2.isEmpty]⟩
  | scr h1 h2 => cases h; exact .inl ⟨_, sqL_of w h1, by rw [h2.isEmpty]⟩
  | fn _ => cases h
  | ty _ => cases h
  | mref _ => cases h
  | dct _ _ _ => cases h
/-- a value's truth -/
def truR (v : Pv) (S : Sto) : Res Bool := match tru v with | some k => .ok k S | none => .stuck
def evT (r : EvF) : List Slot → Sto → Res Bool := fun env S => (r env S).bind truR
theorem t_plain (hK : X.K = G.K) (ha : PE X a (tE G Ex ra)) (he : ∀ whole, isTrue a X.env whole = (do let v ← whole; standAt a.pos; holding [v] (truthy v))) : PT X a (tT G Ex (evT ra)) := by
  refine pt_imp (pt_truth ha he) fun σ H Q h => ?_
  obtain ⟨H0, W, S, env, A, o⟩ := h
  refine ⟨H0, W, S, env, A, o.bind fun v S1 W1 H1 x e1 w1 r1 o1 => ?_⟩
  unfold truR at o1
  cases q : tru v with
  | none => rw [q] at o1; exact o1.elim
  | some k =>
    rw [q] at o1
    exact ⟨k, by rw [hK]; exact tru_of w1 r1 q, o1 _ _ _ (Ext.refl _ _) w1 rfl⟩
def evNot (ra : EvF) : EvF := fun env S => (evT ra env S).bind fun k S1 => .ok (.bl (!k)) S1
theorem e_not (hK : X.K = G.K) (ha : PE X a (tE G Ex ra)) : PE X (.UnaryOp .Not a pos) (tE G Ex (evNot ra)) := by
  refine pe_imp (pe_notT ha) fun σ H Q h => ?_
  obtain ⟨H0, W, S, env, A, o⟩ := h
  unfold evNot evT at o
  have o' : Out G W H σ Ex (RV G) Q ((ra env S).bind fun v S1 => (truR v S1).bind fun k S2 => .ok (.bl (!k)) S2) := by
    cases q : ra env S <;> rw [q] at o <;> exact o
  refine ⟨H0, W, S, env, A, o'.bind fun v S1 W1 H1 x e1 w1 r1 o1 => ?_⟩
  unfold truR at o1
  cases q : tru v with
  | none => rw [q] at o1; exact o1.elim
  | some k =>
    rw [q] at o1
    exact ⟨k, by rw [hK]; exact tru_of w1 r1 q, o1 _ _ _ (Ext.refl _ _) w1 (.bl _)⟩
theorem t_not (ha : PT X a (tT G Ex (evT ra))) : PT X (.UnaryOp .Not a pos) (tT G Ex (evT (evNot ra))) := by
  refine pt_imp (pt_not ha) fun σ H Q h => ?_
  obtain ⟨H0, W, S, env, A, o⟩ := h
  have o' : Out G W H σ Ex (fun _ (x : Bool) a => x = a) Q ((evT ra env S).bind fun k S1 => .ok (!k) S1) := by
    unfold evT evNot at o
    cases q : evT ra env S <;> rw [q] at o <;> exact o
  refine ⟨H0, W, S, env, A, o'.bind fun k S1 W1 H1 x e1 w1 r1 o1 => ?_⟩
  subst r1
  exact o1 _ _ _ (Ext.refl _ _) w1 rfl
/-- a and b, a or b -/
def evAnd (ra rb : EvF) : EvF := fun env S => (ra env S).bind fun v S1 => match tru v with | some true => rb env S1 | some false => .ok v S1 | none => .stuck
def evOr (ra rb : EvF) : EvF := fun env S => (ra env S).bind fun v S1 => match tru v with | some true => .ok v S1 | some false => rb env S1 | none => .stuck
theorem e_one {op : BoolOp} (ha : PE X a (tE G Ex ra)) : PE X (.BoolOp op [a] pos) (tE G Ex ra) := pe_one ha
theorem e_and {rest : List Expr} (hK : X.K = G.K) (ha : PE X a (tE G Ex ra)) (hb : PE X (.BoolOp .And (b :: rest) pos) (tE G Ex rb)) : PE X (.BoolOp .And (a :: b :: rest) pos) (tE G Ex (evAnd ra rb)) := by
  refine pe_imp (pe_andT ha hb) fun σ H Q h => ?_
  obtain ⟨H0, W, S, env, A, o⟩ := h
  refine ⟨H0, W, S, env, A, o.bind fun v S1 W1 H1 x e1 w1 r1 o1 => ?_⟩
  cases q : tru v with
  | none => rw [q] at o1; exact o1.elim
  | some k =>
    rw [q] at o1
    refine ⟨k, by rw [hK]; exact tru_of w1 r1 q, ?_⟩
    cases k with
    | true => rw [if_pos rfl]; exact ⟨H0, W1, S1, env, A.ext e1 w1, o1⟩
    | false => rw [if_neg Bool.false_ne_true]; exact o1 _ _ _ (Ext.refl _ _) w1 r1
theorem e_or {rest : List Expr} (hK : X.K = G.K) (ha : PE X a (tE G Ex ra)) (hb : PE X (.BoolOp .Or (b :: rest) pos) (tE G Ex rb)) : PE X (.BoolOp .Or (a :: b :: rest) pos) (tE G Ex (evOr ra rb)) := by
  refine pe_imp (pe_orT ha hb) fun σ H Q h => ?_
  obtain ⟨H0, W, S, env, A, o⟩ := h
  refine ⟨H0, W, S, env, A, o.bind fun v S1 W1 H1 x e1 w1 r1 o1 => ?_⟩
  cases q : tru v with
  | none => rw [q] at o1; exact o1.elim
  | some k =>
    rw [q] at o1
    refine ⟨k, by rw [hK]; exact tru_of w1 r1 q, ?_⟩
    cases k with
    | true => rw [if_pos rfl]; exact o1 _ _ _ (Ext.refl _ _) w1 r1
    | false => rw [if_neg Bool.false_ne_true]; exact ⟨H0, W1, S1, env, A.ext e1 w1, o1⟩
theorem bind_and {env : List Slot} {S : Sto} : evT (evAnd ra rb) env S = (evT ra env S).bind fun k S1 => match k with | true => evT rb env S1 | false => .ok false S1 := by
  unfold evT evAnd truR
  cases ra env S with
  | ok v S1 =>
    show Res.bind (match tru v with | some true => rb env S1 | some false => .ok v S1 | none => .stuck) _ = Res.bind (match tru v with | some k => .ok k S1 | none => .stuck) _
    cases q : tru v with
    | none => rfl
    | some k => cases k <;> simp [Res.bind, q]
  | exc c fs S1 => rfl
  | stuck => rfl
theorem bind_or {env : List Slot} {S : Sto} : evT (evOr ra rb) env S = (evT ra env S).bind fun k S1 => match k with | true => .ok true S1 | false => evT rb env S1 := by
  unfold evT evOr truR
  cases ra env S with
  | ok v S1 =>
    show Res.bind (match tru v with | some true => .ok v S1 | some false => rb env S1 | none => .stuck) _ = Res.bind (match tru v with | some k => .ok k S1 | none => .stuck) _
    cases q : tru v with
    | none => rfl
    | some k => cases k <;> simp [Res.bind, q]
  | exc c fs S1 => rfl
  | stuck => rfl
theorem w_and1 (ha : PT X a (tT G Ex (evT ra))) : PW X (.BoolOp .And [a] pos) (tT G Ex (evT ra)) := pw_and1 ha
theorem w_or1 (ha : PT X a (tT G Ex (evT ra))) : PW X (.BoolOp .Or [a] pos) (tT G Ex (evT ra)) := pw_or1 ha
theorem pw_imp {t t' : TT} (h : PW X e t) (k : ∀ σ H Q, t' σ H Q → t σ H Q) : PW X e t' := ⟨fun wh pins s σ H Q I q => h.run wh pins s σ H Q I (k σ H Q q)⟩
theorem w_and {rest : List Expr} (ha : PT X a (tT G Ex (evT ra))) (hb : PW X (.BoolOp .And (b :: rest) pos) (tT G Ex (evT rb))) : PW X (.BoolOp .And (a :: b :: rest) pos) (tT G Ex (evT (evAnd ra rb))) := by
  refine pw_imp (pw_and ha hb) fun σ H Q h => ?_
  obtain ⟨H0, W, S, env, A, o⟩ := h
  rw [bind_and] at o
  refine ⟨H0, W, S, env, A, o.bind fun k S1 W1 H1 x e1 w1 r1 o1 => ?_⟩
  subst r1
  cases x with
  | true => rw [if_pos rfl]; exact ⟨H0, W1, S1, env, A.ext e1 w1, o1⟩
  | false => rw [if_neg Bool.false_ne_true]; exact o1 _ _ _ (Ext.refl _ _) w1 rfl
theorem w_or {rest : List Expr} (ha : PT X a (tT G Ex (evT ra))) (hb : PW X (.BoolOp .Or (b :: rest) pos) (tT G Ex (evT rb))) : PW X (.BoolOp .Or (a :: b :: rest) pos) (tT G Ex (evT (evOr ra rb))) := by
  refine pw_imp (pw_or ha hb) fun σ H Q h => ?_
  obtain ⟨H0, W, S, env, A, o⟩ := h
  rw [bind_or] at o
  refine ⟨H0, W, S, env, A, o.bind fun k S1 W1 H1 x e1 w1 r1 o1 => ?_⟩
  subst r1
  cases x with
  | true => rw [if_pos rfl]; exact o1 _ _ _ (Ext.refl _ _) w1 rfl
  | false => rw [if_neg Bool.false_ne_true]; exact ⟨H0, W1, S1, env, A.ext e1 w1, o1⟩
def evIf (rc ra rb : EvF) : EvF := fun env S => (evT rc env S).bind fun k S1 => match k with | true => ra env S1 | false => rb env S1
theorem e_if (hc : PT X c (tT G Ex (evT rc))) (ha : PE X a (tE G Ex ra)) (hb : PE X b (tE G Ex rb)) : PE X (.IfExp c a b pos) (tE G Ex (evIf rc ra rb)) := by
  refine pe_imp (pe_ifExp hc ha hb) fun σ H Q h => ?_
  obtain ⟨H0, W, S, env, A, o⟩ := h
  refine ⟨H0, W, S, env, A, o.bind fun k S1 W1 H1 x e1 w1 r1 o1 => ?_⟩
  subst r1
  cases x with
  | true => rw [if_pos rfl]; exact ⟨H0, W1, S1, env, A.ext e1 w1, o1⟩
  | false => rw [if_neg Bool.false_ne_true]; exact ⟨H0, W1, S1, env, A.ext e1 w1, o1⟩

/-! ### operators by values -/
/-- the reading of an operation by values -/
def rOp (G : Gc) (g : Pv → Pv → Option Pv) : R2 := fun x y H Q => ∃ W S va vb v, WOk G W H S ∧ RV G W x va ∧ RV G W y vb ∧ g va vb = some v ∧ ∀ W' H' z, Ext W H W' H' → WOk G W' H' S → RV G W' z v → Q z H'
def ev2 (g : Pv → Pv → Option Pv) (ra rb : EvF) : EvF := fun env S => (ra env S).bind fun va S1 => (rb env S1).bind fun vb S2 => match g va vb with | some v => .ok v S2 | none => .stuck
theorem ev2_op {g : Pv → Pv → Option Pv} {σ : L2.St} {H : Hp} {Q : VK} (h : tE G Ex (ev2 g ra rb) σ H Q) : tOp (rOp G g) (tE G Ex ra) (tE G Ex rb) σ H Q := by
  obtain ⟨H0, W, S, env, A, o⟩ := h
  refine ⟨H0, W, S, env, A, o.bind fun va S1 W1 H1 x e1 w1 r1 o1 => ?_⟩
  refine ⟨H0, W1, S1, env, A.ext e1 w1, o1.bind fun vb S2 W2 H2 y e2 w2 r2 o2 => ?_⟩
  cases q : g va vb with
  | none => rw [q] at o2; exact o2.elim
  | some v =>
    rw [q] at o2
    exact ⟨W2, S2, va, vb, v, w2, r1.mono e2.le, r2, q, fun W' H' z e w r => o2 W' H' z e w r⟩
theorem e_op {op : Operator} {g : Pv → Pv → Option Pv} (ho : OpR X (binaryOp op) (rOp G g)) (ha : PE X a (tE G Ex ra)) (hb : PE X b (tE G Ex rb)) : PE X (.BinOp a op b pos) (tE G Ex (ev2 g ra rb)) :=
  pe_imp (pe_op ho ha hb) fun _ _ _ h => ev2_op h
theorem e_cmp {op : CmpOp} {g : Pv → Pv → Option Pv} (ho : OpR X (compareOp op) (rOp G g)) (ha : PE X a (tE G Ex ra)) (hb : PE X b (tE G Ex rb)) (hm : behindInMarks op b = false) : PE X (.Compare a [op] [b] pos) (tE G Ex (ev2 g ra rb)) :=
  pe_imp (pe_cmpR ho ha hb hm) fun _ _ _ h => ev2_op h
/-- a comparison's values are bools -/
def Booly (g : Pv → Pv → Option Pv) : Prop := ∀ va vb v, g va vb = some v → ∃ k, v = .bl k
theorem t_cmp {op : CmpOp} {g : Pv → Pv → Option Pv} (hb' : Booly g) (ho : OpR X (compareOp op) (rOp G g)) (ha : PE X a (tE G Ex ra)) (hb : PE X b (tE G Ex rb)) (hm : behindInMarks op b = false) : PT X (.Compare a [op] [b] pos) (tT G Ex (evT (ev2 g ra rb))) := by
  refine pt_imp (pt_cmpR ho ha hb hm) fun σ H Q h => ?_
  obtain ⟨H0, W, S, env, A, o⟩ := h
  have o' : Out G W H σ Ex (fun _ (x : Bool) a => x = a) Q ((ra env S).bind fun va S1 => (rb env S1).bind fun vb S2 => match g va vb with | some v => truR v S2 | none => .stuck) := by
    unfold evT ev2 at o
    cases q : ra env S with
    | stuck => rw [q] at o; exact o
    | exc _ _ _ => rw [q] at o; exact o
    | ok va S1 =>
      rw [q] at o
      cases q2 : rb env S1 with
      | stuck => simp only [Res.bind, q2] at o ⊢; exact o
      | exc _ _ _ => simp only [Res.bind, q2] at o ⊢; exact o
      | ok vb S2 =>
        simp only [Res.bind, q2] at o ⊢
        cases q3 : g va vb with
        | none => rw [q3] at o; exact o
        | some v => rw [q3] at o; exact o
  show tE G Ex ra σ H fun x H1 => tE G Ex rb σ H1 fun y H2 => rOp G g x y H2 fun x H' => ∃ k, x = .bl k ∧ Q k H'
  refine ⟨H0, W, S, env, A, o'.bind fun va S1 W1 H1 x e1 w1 r1 o1 => ?_⟩
  refine ⟨H0, W1, S1, env, A.ext e1 w1, o1.bind fun vb S2 W2 H2 y e2 w2 r2 o2 => ?_⟩
  cases q : g va vb with
  | none => rw [q] at o2; exact o2.elim
  | some v =>
    rw [q] at o2
    obtain ⟨k, rfl⟩ := hb' _ _ _ q
    refine ⟨W2, S2, va, vb, _, w2, r1.mono e2.le, r2, q, fun W' H' z e w r => ?_⟩
    cases r
    exact ⟨k, rfl, o2 W' H' k e w rfl⟩
end
end Pev

set_option Elab.async false
set_option linter.all false
set_option maxRecDepth 100000
set_option maxHeartbeats 2000000
namespace Pev
open PySem PySem.Spec L2

/-! ### data -/
mutual
def toD : Pv → Option PyData
  | .non => some .none
  | .bl b => some (.bool b)
  | .int i => some (.int i)
  | .str s => some (.str s)
  | .tup xs => match toDs xs with | some ds => some (.tuple ds) | none => none
  | .lst xs => match toDs xs with | some ds => some (.list ds) | none => none
  | _ => none
def toDs : List Pv → Option (List PyData)
  | [] => some []
  | x :: xs => match toD x, toDs xs with | some d, some ds => some (d :: ds) | _, _ => none
end
section
variable {G : Gc} {W : Wd} {H : Hp} {S : Sto}
mutual
theorem dp_of (w : WOk G W H S) : ∀ {x : V} {v : Pv} {d : PyData}, RV G W x v → toD v = some d → Dp G.K H x d
  | _, _, _, .non, h => by simp only [toD] at h; cases h; exact .non
  | _, _, _, .bl b, h => by simp only [toD] at h; cases h; exact .bl b
  | _, _, _, .int i, h => by simp only [toD] at h; cases h; exact .int i
  | _, _, _, .str s, h => by simp only [toD] at h; cases h; exact .str s
  | _, .tup xs, _, .tup h1 h2, h => by
    simp only [toD] at h
    cases q : toDs xs with
    | none => rw [q] at h; cases h
    | some ds => rw [q] at h; cases h; exact .tup (sqT_of w h1) (dps_of w h2 q)
  | _, .lst xs, _, .lst h1 h2, h => by
    simp only [toD] at h
    cases q : toDs xs with
    | none => rw [q] at h; cases h
    | some ds => rw [q] at h; cases h; exact .lst (sqL_of w (.inl (.inl h1))) (dps_of w h2 q)
  | _, _, _, .ty n, h => by simp [toD] at h
  | _, _, _, .fn _, h => by simp [toD] at h
  | _, _, _, .mref _, h => by simp [toD] at h
  | _, _, _, .scr _ _, h => by simp [toD] at h
  | _, _, _, .dct _ _ _, h => by simp [toD] at h
theorem dps_of (w : WOk G W H S) : ∀ {xs : List V} {vs : List Pv} {ds : List PyData}, RVs G W xs vs → toDs vs = some ds → DpAll G.K H xs ds
  | _, _, _, .nil, h => by simp only [toDs] at h; cases h; exact .nil
  | _, v :: vs, _, .cons h1 h2, h => by
    simp only [toDs] at h
    cases q : toD v with
    | none => rw [q] at h; cases h
    | some d =>
      cases q2 : toDs vs with
      | none => rw [q, q2] at h; cases h
      | some ds => rw [q, q2] at h; cases h; exact .cons (dp_of w h1 q) (dps_of w h2 q2)
end
end

/-! ### the operators -/
def big64 (i : Int) : Bool := Nat.blt i.natAbs 18446744073709551616
def opAdd : Pv → Pv → Option Pv
  | .int a, .int b => some (.int (a + b))
  | .tup xs, .tup ys => match Nat.ble (xs.length + ys.length) capLen with | true => some (.tup (xs ++ ys)) | false => none
  | .lst xs, .lst ys => match Nat.ble (xs.length + ys.length) capLen with | true => some (.lst (xs ++ ys)) | false => none
  | .str a, .str b => match Nat.ble (a.length + b.length) capLen with | true => some (.str (a ++ b)) | false => none
  | _, _ => none
def opSub : Pv → Pv → Option Pv
  | .int a, .int b => some (.int (a - b))
  | _, _ => none
def opMul : Pv → Pv → Option Pv
  | .int a, .int b => match big64 a || big64 b with | true => some (.int (a * b)) | false => none
  | .lst xs, .int k => match Nat.ble (xs.length * k.toNat) capLen && Nat.ble k.natAbs capLen with | true => some (.lst (List.replicate k.toNat xs).flatten) | false => none
  | .tup xs, .int k => match Nat.ble k.natAbs 1000 && Nat.ble xs.length 1000 with | true => some (.tup (List.replicate k.toNat xs).flatten) | false => none
  | _, _ => none
def opDiv : Pv → Pv → Option Pv
  | .int a, .int b => match decide (0 < b) && decide (b < 1073741824) with | true => some (.int (a / b)) | false => none
  | _, _ => none
def opMod : Pv → Pv → Option Pv
  | .int a, .int b => match decide (0 < b) with | true => some (.int (a % b)) | false => none
  | _, _ => none
def opPow : Pv → Pv → Option Pv
  | .int a, .int b => match decide (0 ≤ b) && decide (b ≤ 1000) && big64 a with | true => some (.int (a ^ b.toNat)) | false => none
  | _, _ => none
theorem big_of {i : Int} (h : big64 i = true) : -(2 ^ 64) < i ∧ i < 2 ^ 64 := by
  have h1 : i.natAbs < 18446744073709551616 := Nat.le_of_ble_eq_true h
  have e : (2 : Int) ^ 64 = 18446744073709551616 := by decide
  rw [e]; omega
section
variable {X : Cx} {G : Gc}
theorem o_add (hK : X.K = G.K) : OpR X (binaryOp .Add) (rOp G opAdd) := by
  intro pins s σ H x y v u Q I rx ry h
  obtain ⟨W, S, va, vb, z, w, r1, r2, e, q⟩ := h
  unfold opAdd at e
  split at e
  · cases r1; cases r2; cases e
    exact op_add pins s σ H _ _ v u Q I rx ry ⟨_, _, rfl, rfl, q W H _ (Ext.refl _ _) w (.int _)⟩
  · rename_i xs ys
    cases c : Nat.ble (xs.length + ys.length) capLen with
    | false => rw [c] at e; cases e
    | true =>
      rw [c] at e; cases e
      cases r1 with
      | tup h1 h2 =>
        rename_i a vs
        cases r2 with
        | tup h3 h4 =>
          rename_i b ws
          have hl : vs.length + ws.length ≤ sizeLine := cap_line (by rw [h2.length, h4.length]; exact Nat.le_of_ble_eq_true c)
          refine op_catF pins s σ H _ _ v u Q I rx ry ⟨a, b, vs, ws, rfl, rfl, by rw [hK]; exact sqT_of w h1, by rw [hK]; exact sqT_of w h3, hl, fun e0 => ?_, fun _ e0 => ?_, fun _ _ p ob hp hd => ?_⟩
          · subst e0; cases h2; exact q W H _ (Ext.refl _ _) w (.tup h3 h4)
          · subst e0; cases h4; rw [List.append_nil] at q; exact q W H _ (Ext.refl _ _) w (.tup h1 h2)
          · obtain ⟨w2, e2⟩ := w.alloc (o := .frz ob (.tup (vs ++ ws))) hp trivial
            exact q _ _ _ e2 w2 (.tup (.inl ⟨ob, upd_same, hd⟩) ((h2.append h4).mono e2.le))
  · rename_i xs ys
    cases c : Nat.ble (xs.length + ys.length) capLen with
    | false => rw [c] at e; cases e
    | true =>
      rw [c] at e; cases e
      cases r1 with
      | lst h1 h2 =>
        rename_i a vs
        cases r2 with
        | lst h3 h4 =>
          rename_i b ws
          have hl : vs.length + ws.length ≤ sizeLine := cap_line (by rw [h2.length, h4.length]; exact Nat.le_of_ble_eq_true c)
          refine op_cat pins s σ H _ _ v u Q I rx ry ⟨a, b, vs, ws, rfl, rfl, w.le _ _ h1, w.le _ _ h3, hl, fun p hp => ?_⟩
          obtain ⟨w2, e2⟩ := w.alloc (o := .lst (vs ++ ws)) hp trivial
          exact q _ _ _ e2 w2 (.lst upd_same ((h2.append h4).mono e2.le))
  · rename_i a b
    cases c : Nat.ble (a.length + b.length) capLen with
    | false => rw [c] at e; cases e
    | true =>
      rw [c] at e; cases e
      cases r1; cases r2
      exact op_add_str pins s σ H _ _ v u Q I rx ry ⟨a, b, rfl, rfl, cap_line (Nat.le_of_ble_eq_true c), q W H _ (Ext.refl _ _) w (.str _)⟩
  · cases e
theorem o_sub : OpR X (binaryOp .Sub) (rOp G opSub) := by
  intro pins s σ H x y v u Q I rx ry h
  obtain ⟨W, S, va, vb, z, w, r1, r2, e, q⟩ := h
  unfold opSub at e
  split at e
  · cases r1; cases r2; cases e
    exact op_sub pins s σ H _ _ v u Q I rx ry ⟨_, _, rfl, rfl, q W H _ (Ext.refl _ _) w (.int _)⟩
  · cases e
theorem RVs.rep {W : Wd} {vs : List V} {xs : List Pv} (r : RVs G W vs xs) : ∀ n, RVs G W (List.replicate n vs).flatten (List.replicate n xs).flatten
  | 0 => .nil
  | n + 1 => by rw [List.replicate_succ, List.replicate_succ, List.flatten_cons, List.flatten_cons]; exact r.append (RVs.rep r n)
theorem o_mul (hK : X.K = G.K) : OpR X (binaryOp .Mult) (rOp G opMul) := by
  intro pins s σ H x y v u Q I rx ry h
  obtain ⟨W, S, va, vb, z, w, r1, r2, e, q⟩ := h
  unfold opMul at e
  split at e
  · rename_i a b
    cases c : big64 a || big64 b with
    | false => rw [c] at e; cases e
    | true =>
      rw [c] at e; cases e
      cases r1; cases r2
      refine op_mul pins s σ H _ _ v u Q I rx ry ⟨_, _, rfl, rfl, ?_, q W H _ (Ext.refl _ _) w (.int _)⟩
      rcases (Bool.or_eq_true_iff.mp c) with c | c
      · exact .inl (big_of c)
      · exact .inr (big_of c)
  · rename_i xs k
    cases c : Nat.ble (xs.length * k.toNat) capLen && Nat.ble k.natAbs capLen with
    | false => rw [c] at e; cases e
    | true =>
      rw [c] at e; cases e
      obtain ⟨c1, c2⟩ := Bool.and_eq_true_iff.mp c
      have c2 := Nat.le_of_ble_eq_true c2
      unfold capLen at c2
      cases r1 with
      | lst h1 h2 =>
        rename_i a vs
        cases r2
        refine op_rep pins s σ H _ _ v u Q I rx ry ⟨a, k, vs, rfl, rfl, w.le _ _ h1, by omega, by omega, cap_line (by rw [h2.length]; exact Nat.le_of_ble_eq_true c1), fun p hp => ?_⟩
        obtain ⟨w2, e2⟩ := w.alloc (o := .lst (List.replicate k.toNat vs).flatten) hp trivial
        exact q _ _ _ e2 w2 (.lst upd_same ((h2.rep _).mono e2.le))
  · rename_i xs k
    cases c : Nat.ble k.natAbs 1000 && Nat.ble xs.length 1000 with
    | false => rw [c] at e; cases e
    | true =>
      rw [c] at e; cases e
      obtain ⟨c1, c2⟩ := Bool.and_eq_true_iff.mp c
      have c1 := Nat.le_of_ble_eq_true c1
      have c2 := Nat.le_of_ble_eq_true c2
      cases r1 with
      | tup h1 h2 =>
        rename_i a vs
        cases r2
        refine op_repF pins s σ H _ _ v u Q I rx ry ⟨a, k, vs, rfl, rfl, by rw [hK]; exact sqT_of w h1, c1, by rw [h2.length]; exact c2, ?_⟩
        cases qe : (vs.isEmpty || k == 1) with
        | true =>
          refine .inl ⟨rfl, q W H _ (Ext.refl _ _) w (.tup h1 ?_)⟩
          have e3 : (List.replicate k.toNat xs).flatten = xs := by
            rcases Bool.or_eq_true_iff.mp qe with z | z
            · have : xs = [] := by
                rw [← h2.isEmpty] at z
                cases xs with
                | nil => rfl
                | cons a b => cases z
              subst this
              simp
            · have : k = 1 := eq_of_beq z
              subst this
              simp
          rw [e3]; exact h2
        | false =>
          refine .inr ⟨rfl, fun p ob hp hd => ?_⟩
          obtain ⟨w2, e2⟩ := w.alloc (o := .frz ob (.tup (List.replicate k.toNat vs).flatten)) hp trivial
          exact q _ _ _ e2 w2 (.tup (.inl ⟨ob, upd_same, hd⟩) ((h2.rep _).mono e2.le))
  · cases e
theorem o_div : OpR X (binaryOp .FloorDiv) (rOp G opDiv) := by
  intro pins s σ H x y v u Q I rx ry h
  obtain ⟨W, S, va, vb, z, w, r1, r2, e, q⟩ := h
  unfold opDiv at e
  split at e
  · rename_i a b
    cases c : decide (0 < b) && decide (b < 1073741824) with
    | false => rw [c] at e; cases e
    | true =>
      rw [c] at e; cases e
      cases r1; cases r2
      simp only [Bool.and_eq_true, decide_eq_true_eq] at c
      exact op_fdiv pins s σ H _ _ v u Q I rx ry ⟨_, _, rfl, rfl, c, q W H _ (Ext.refl _ _) w (.int _)⟩
  · cases e
theorem o_mod : OpR X (binaryOp .Mod) (rOp G opMod) := by
  intro pins s σ H x y v u Q I rx ry h
  obtain ⟨W, S, va, vb, z, w, r1, r2, e, q⟩ := h
  unfold opMod at e
  split at e
  · rename_i a b
    cases c : decide (0 < b) with
    | false => rw [c] at e; cases e
    | true =>
      rw [c] at e; cases e
      cases r1; cases r2
      exact op_mod pins s σ H _ _ v u Q I rx ry ⟨_, _, rfl, rfl, of_decide_eq_true c, q W H _ (Ext.refl _ _) w (.int _)⟩
  · cases e
theorem o_pow : OpR X (binaryOp .Pow) (rOp G opPow) := by
  intro pins s σ H x y v u Q I rx ry h
  obtain ⟨W, S, va, vb, z, w, r1, r2, e, q⟩ := h
  unfold opPow at e
  split at e
  · rename_i a b
    cases c : decide (0 ≤ b) && decide (b ≤ 1000) && big64 a with
    | false => rw [c] at e; cases e
    | true =>
      rw [c] at e; cases e
      cases r1; cases r2
      simp only [Bool.and_eq_true, decide_eq_true_eq] at c
      obtain ⟨⟨c1, c2⟩, c3⟩ := c
      have c3 : a.natAbs < 18446744073709551616 := Nat.le_of_ble_eq_true c3
      exact op_pow pins s σ H _ _ v u Q I rx ry ⟨_, _, rfl, rfl, ⟨c1, by omega, by omega⟩, q W H _ (Ext.refl _ _) w (.int _)⟩
  · cases e
/-! ### comparisons -/
def cLt : Pv → Pv → Option Pv
  | .int a, .int b => some (.bl (decide (a < b)))
  | _, _ => none
def cLe : Pv → Pv → Option Pv
  | .int a, .int b => some (.bl (decide (a ≤ b)))
  | _, _ => none
def cGt : Pv → Pv → Option Pv
  | .int a, .int b => some (.bl (decide (b < a)))
  | _, _ => none
def cGe : Pv → Pv → Option Pv
  | .int a, .int b => some (.bl (decide (b ≤ a)))
  | _, _ => none
def eqD (a b : Pv) : Option Bool := match toD a, toD b with
  | some d, some e => match SeqAt.shaped d && SeqAt.shaped e with | true => some (PyData.eqv d e) | false => none
  | _, _ => none
def strB : Pv → Pv → Option Bool
  | .str x, .str y => some (decide (x = y))
  | _, _ => none
def cEq (a b : Pv) : Option Pv := match strB a b with | some k => some (.bl k) | none => (match eqD a b with | some k => some (.bl k) | none => none)
def cNe (a b : Pv) : Option Pv := match strB a b with | some k => some (.bl (!k)) | none => (match eqD a b with | some k => some (.bl (!k)) | none => none)
theorem strB_some {a b : Pv} {k : Bool} (h : strB a b = some k) : ∃ x y, a = .str x ∧ b = .str y ∧ k = decide (x = y) := by
  unfold strB at h
  split at h
  · cases h; exact ⟨_, _, rfl, rfl, rfl⟩
  · cases h
def isNon : Pv → Bool
  | .non => true
  | _ => false
def cIs (a : Pv) : Pv → Option Pv
  | .non => some (.bl (isNon a))
  | _ => none
def cIsNot (a : Pv) : Pv → Option Pv
  | .non => some (.bl (!isNon a))
  | _ => none
theorem o_int {op : CmpOp} {f : Int → Int → Bool} {g : Pv → Pv → Option Pv} (hf : OpR X (compareOp op) (rI0 fun i j => .bl (f i j))) (hg : ∀ va vb v, g va vb = some v → ∃ i j, va = .int i ∧ vb = .int j ∧ v = .bl (f i j)) : OpR X (compareOp op) (rOp G g) := by
  intro pins s σ H x y v u Q I rx ry h
  obtain ⟨W, S, va, vb, z, w, r1, r2, e, q⟩ := h
  obtain ⟨i, j, rfl, rfl, rfl⟩ := hg _ _ _ e
  cases r1; cases r2
  exact hf pins s σ H _ _ v u Q I rx ry ⟨_, _, rfl, rfl, q W H _ (Ext.refl _ _) w (.bl _)⟩
theorem o_lt : OpR X (compareOp .Lt) (rOp G cLt) := o_int op_lt fun va vb v h => by
  unfold cLt at h; split at h
  · cases h; exact ⟨_, _, rfl, rfl, rfl⟩
  · cases h
theorem o_le : OpR X (compareOp .LtE) (rOp G cLe) := o_int op_le fun va vb v h => by
  unfold cLe at h; split at h
  · cases h; exact ⟨_, _, rfl, rfl, rfl⟩
  · cases h
theorem o_gt : OpR X (compareOp .Gt) (rOp G cGt) := o_int op_gt fun va vb v h => by
  unfold cGt at h; split at h
  · cases h; exact ⟨_, _, rfl, rfl, rfl⟩
  · cases h
theorem o_ge : OpR X (compareOp .GtE) (rOp G cGe) := o_int op_ge fun va vb v h => by
  unfold cGe at h; split at h
  · cases h; exact ⟨_, _, rfl, rfl, rfl⟩
  · cases h
theorem eqD_some {a b : Pv} {k : Bool} (h : eqD a b = some k) : ∃ d e, toD a = some d ∧ toD b = some e ∧ SeqAt.shaped d = true ∧ SeqAt.shaped e = true ∧ k = PyData.eqv d e := by
  unfold eqD at h
  cases q1 : toD a with
  | none => rw [q1] at h; cases h
  | some d =>
    cases q2 : toD b with
    | none => rw [q1, q2] at h; cases h
    | some e =>
      rw [q1, q2] at h
      cases c : SeqAt.shaped d && SeqAt.shaped e with
      | false => simp only [c] at h; cases h
      | true =>
        simp only [c] at h
        cases h
        obtain ⟨c1, c2⟩ := Bool.and_eq_true_iff.mp c
        exact ⟨d, e, rfl, rfl, c1, c2, rfl⟩
theorem o_eq (hK : X.K = G.K) (hu : X.A.units + 64 < cLine) : OpR X (compareOp .Eq) (rOp G cEq) := by
  intro pins s σ H x y v u Q I rx ry h
  obtain ⟨W, S, va, vb, z, w, r1, r2, e, q⟩ := h
  unfold cEq at e
  cases cs : strB va vb with
  | some k =>
    rw [cs] at e; cases e
    obtain ⟨x1, y1, rfl, rfl, rfl⟩ := strB_some cs
    cases r1; cases r2
    refine op_eq pins s σ H _ _ v u Q I rx ry ⟨rfl, ?_⟩
    have e3 : decide (V.str x1 = V.str y1) = decide (x1 = y1) := by
      by_cases hq : x1 = y1
      · subst hq; rw [decide_eq_true rfl, decide_eq_true rfl]
      · rw [decide_eq_false hq, decide_eq_false (fun z => hq (V.str.inj z))]
    rw [e3]
    exact q W H _ (Ext.refl _ _) w (.bl _)
  | none =>
    rw [cs] at e
    cases c : eqD va vb with
    | none => rw [c] at e; cases e
    | some k =>
      rw [c] at e; cases e
      obtain ⟨d1, d2, h1, h2, s1, s2, rfl⟩ := eqD_some c
      exact op_eqD hu pins s σ H x y v u Q I rx ry ⟨d1, d2, by rw [hK]; exact dp_of w r1 h1, by rw [hK]; exact dp_of w r2 h2, s1, s2, q W H _ (Ext.refl _ _) w (.bl _)⟩
theorem o_ne (hK : X.K = G.K) (hu : X.A.units + 64 < cLine) : OpR X (compareOp .NotEq) (rOp G cNe) := by
  intro pins s σ H x y v u Q I rx ry h
  obtain ⟨W, S, va, vb, z, w, r1, r2, e, q⟩ := h
  unfold cNe at e
  cases cs : strB va vb with
  | some k =>
    rw [cs] at e; cases e
    obtain ⟨x1, y1, rfl, rfl, rfl⟩ := strB_some cs
    cases r1; cases r2
    refine op_ne pins s σ H _ _ v u Q I rx ry ⟨rfl, ?_⟩
    have e3 : decide (V.str x1 = V.str y1) = decide (x1 = y1) := by
      by_cases hq : x1 = y1
      · subst hq; rw [decide_eq_true rfl, decide_eq_true rfl]
      · rw [decide_eq_false hq, decide_eq_false (fun z => hq (V.str.inj z))]
    rw [e3]
    exact q W H _ (Ext.refl _ _) w (.bl _)
  | none =>
    rw [cs] at e
    cases c : eqD va vb with
    | none => rw [c] at e; cases e
    | some k =>
      rw [c] at e; cases e
      obtain ⟨d1, d2, h1, h2, s1, s2, rfl⟩ := eqD_some c
      exact op_neD hu pins s σ H x y v u Q I rx ry ⟨d1, d2, by rw [hK]; exact dp_of w r1 h1, by rw [hK]; exact dp_of w r2 h2, s1, s2, q W H _ (Ext.refl _ _) w (.bl _)⟩
theorem isNon_of {W : Wd} {x : V} {v : Pv} (r : RV G W x v) : decide (x = V.non) = isNon v := by
  cases r <;> simp [isNon]
theorem o_is : OpR X (compareOp .Is) (rOp G cIs) := by
  intro pins s σ H x y v u Q I rx ry h
  obtain ⟨W, S, va, vb, z, w, r1, r2, e, q⟩ := h
  unfold cIs at e
  split at e
  · cases e
    cases r2
    exact op_isN pins s σ H _ _ v u Q I rx ry ⟨rfl, q W H _ (Ext.refl _ _) w (by rw [isNon_of r1]; exact .bl _)⟩
  · cases e
theorem o_isNot : OpR X (compareOp .IsNot) (rOp G cIsNot) := by
  intro pins s σ H x y v u Q I rx ry h
  obtain ⟨W, S, va, vb, z, w, r1, r2, e, q⟩ := h
  unfold cIsNot at e
  split at e
  · cases e
    cases r2
    exact op_notN pins s σ H _ _ v u Q I rx ry ⟨rfl, q W H _ (Ext.refl _ _) w (by rw [isNon_of r1]; exact .bl _)⟩
  · cases e
/-! in, not in: flat items in a tuple or list, data in a list, a text in a text -/
def flatP : Pv → Bool
  | .non => true
  | .bl _ => true
  | .int _ => true
  | .str _ => true
  | _ => false
def eqP : Pv → Pv → Bool
  | .non, .non => true
  | .bl a, .bl b => a == b
  | .bl a, .int b => (if a then 1 else 0) == b
  | .int a, .bl b => a == (if b then 1 else 0)
  | .int a, .int b => a == b
  | .str a, .str b => a == b
  | _, _ => false
def inFlat (a : Pv) (xs : List Pv) : Option Bool := match flatP a && xs.all flatP with | true => some (xs.any fun y => eqP y a) | false => none
def inD (a : Pv) (xs : List Pv) : Option Bool := match toD a, toDs xs with
  | some d, some ds => match SeqAt.shaped d && SeqAt.shaped (.list ds) with | true => some (ds.any fun z => PyData.eqv z d) | false => none
  | _, _ => none
def inP (a : Pv) : Pv → Option Bool
  | .tup xs => inFlat a xs
  | .lst xs => match inFlat a xs with | some k => some k | none => inD a xs
  | _ => none
def cIn (a b : Pv) : Option Pv := match inP a b with | some k => some (.bl k) | none => none
def cNotIn (a b : Pv) : Option Pv := match inP a b with | some k => some (.bl (!k)) | none => none
theorem flat_of {W : Wd} {x : V} {v : Pv} (r : RV G W x v) : flatP v = true → flatV x = true := by cases r <;> intro h <;> first | rfl | cases h
theorem eqP_of {W : Wd} {x y : V} {a b : Pv} (r1 : RV G W x a) (r2 : RV G W y b) (h : flatP a = true) : eqP a b = eqV x y := by
  cases r1 <;> first | (cases h; done) | (cases r2 <;> rfl)
theorem flats_of {W : Wd} : ∀ {vs : List V} {xs : List Pv}, RVs G W vs xs → xs.all flatP = true → vs.all flatV = true
  | _, _, .nil, _ => rfl
  | _, _, .cons h r, q => by
    rw [List.all_cons, Bool.and_eq_true] at q
    rw [List.all_cons, Bool.and_eq_true]
    exact ⟨flat_of h q.1, flats_of r q.2⟩
theorem any_of {W : Wd} {x : V} {a : Pv} (r1 : RV G W x a) : ∀ {vs : List V} {xs : List Pv}, RVs G W vs xs → xs.all flatP = true → (xs.any fun y => eqP y a) = inV x vs
  | _, _, .nil, _ => rfl
  | _, _, .cons h r, q => by
    rw [List.all_cons, Bool.and_eq_true] at q
    show (eqP _ a || List.any _ _) = (eqV _ x || List.any _ _)
    rw [eqP_of h r1 q.1, any_of r1 r q.2]
    rfl
theorem inFlat_some {a : Pv} {xs : List Pv} {k : Bool} (h : inFlat a xs = some k) : flatP a = true ∧ xs.all flatP = true ∧ k = xs.any fun y => eqP y a := by
  unfold inFlat at h
  cases c : flatP a && xs.all flatP with
  | false => rw [c] at h; cases h
  | true =>
    rw [c] at h; cases h
    obtain ⟨c1, c2⟩ := Bool.and_eq_true_iff.mp c
    exact ⟨c1, c2, rfl⟩
theorem inD_some {a : Pv} {xs : List Pv} {k : Bool} (h : inD a xs = some k) : ∃ d ds, toD a = some d ∧ toD (.lst xs) = some (.list ds) ∧ SeqAt.shaped d = true ∧ SeqAt.shaped (.list ds) = true ∧ k = ds.any fun z => PyData.eqv z d := by
  unfold inD at h
  cases q1 : toD a with
  | none => rw [q1] at h; cases h
  | some d =>
    cases q2 : toDs xs with
    | none => rw [q1, q2] at h; cases h
    | some ds =>
      rw [q1, q2] at h
      cases c : SeqAt.shaped d && SeqAt.shaped (.list ds) with
      | false => simp only [c] at h; cases h
      | true =>
        simp only [c] at h; cases h
        obtain ⟨c1, c2⟩ := Bool.and_eq_true_iff.mp c
        exact ⟨d, ds, rfl, by simp only [toD, q2], c1, c2, rfl⟩
theorem o_in0 (hK : X.K = G.K) (hu : X.A.units + 65 < cLine) {pins : List (Addr × Obj)} {s : Shared} {σ : L2.St} {H : Hp} {x y : V} {v u : Value} {W : Wd} {S : Sto} {va vb : Pv} {k : Bool} (w : WOk G W H S) (I : Inv X pins σ H s) (rx : RelV x v) (ry : RelV y u) (r1 : RV G W x va) (r2 : RV G W y vb) (e : inP va vb = some k) :
    (∀ Q : VK, Q (.bl k) H → wpAny (model X.prog X.w) X.A (compareOp .In v u) (EP X pins σ Q) X.xe s) ∧ (∀ Q : VK, Q (.bl (!k)) H → wpAny (model X.prog X.w) X.A (compareOp .NotIn v u) (EP X pins σ Q) X.xe s) := by
  have flat : ∀ {xs : List Pv} {vs : List V} {p : Addr}, y = .ref p → (SqL X.K H p vs ∨ SqT X.K H p vs) → RVs G W vs xs → inFlat va xs = some k →
      (∀ Q : VK, Q (.bl k) H → wpAny (model X.prog X.w) X.A (compareOp .In v u) (EP X pins σ Q) X.xe s) ∧ (∀ Q : VK, Q (.bl (!k)) H → wpAny (model X.prog X.w) X.A (compareOp .NotIn v u) (EP X pins σ Q) X.xe s) := by
    intro xs vs p ey hp h2 hi
    obtain ⟨f1, f2, rfl⟩ := inFlat_some hi
    refine ⟨fun Q q => op_in_seq pins s σ H x y v u Q I rx ry ⟨p, vs, ey, hp, flat_of r1 f1, flats_of h2 f2, ?_⟩, fun Q q => op_notIn_seq pins s σ H x y v u Q I rx ry ⟨p, vs, ey, hp, flat_of r1 f1, flats_of h2 f2, ?_⟩⟩
    · rw [any_of r1 h2 f2] at q; exact q
    · rw [any_of r1 h2 f2] at q; exact q
  unfold inP at e
  cases vb with
  | tup xs =>
    cases r2 with
    | tup h1 h2 => exact flat rfl (.inr (by rw [hK]; exact sqT_of w h1)) h2 e
  | lst xs =>
    have r2' := r2
    cases r2 with
    | lst h1 h2 =>
      simp only at e
      cases c : inFlat va xs with
      | some k' =>
        rw [c] at e; cases e
        exact flat rfl (.inl (by rw [hK]; exact sqL_of w (.inl (.inl h1)))) h2 c
      | none =>
        rw [c] at e
        obtain ⟨d, ds, q1, q2, s1, s2, rfl⟩ := inD_some e
        refine ⟨fun Q q => op_inD hu pins s σ H _ _ v u Q I rx ry ⟨d, ds, by rw [hK]; exact dp_of w r1 q1, by rw [hK]; exact dp_of w r2' q2, s1, s2, q⟩,
          fun Q q => op_notInD hu pins s σ H _ _ v u Q I rx ry ⟨d, ds, by rw [hK]; exact dp_of w r1 q1, by rw [hK]; exact dp_of w r2' q2, s1, s2, q⟩⟩
  | _ => cases e
theorem o_in (hK : X.K = G.K) (hu : X.A.units + 65 < cLine) : OpR X (compareOp .In) (rOp G cIn) := by
  intro pins s σ H x y v u Q I rx ry h
  obtain ⟨W, S, va, vb, z, w, r1, r2, e, q⟩ := h
  unfold cIn at e
  cases c : inP va vb with
  | none => rw [c] at e; cases e
  | some k =>
    rw [c] at e; cases e
    exact (o_in0 hK hu w I rx ry r1 r2 c).1 Q (q W H _ (Ext.refl _ _) w (.bl _))
theorem o_notIn (hK : X.K = G.K) (hu : X.A.units + 65 < cLine) : OpR X (compareOp .NotIn) (rOp G cNotIn) := by
  intro pins s σ H x y v u Q I rx ry h
  obtain ⟨W, S, va, vb, z, w, r1, r2, e, q⟩ := h
  unfold cNotIn at e
  cases c : inP va vb with
  | none => rw [c] at e; cases e
  | some k =>
    rw [c] at e; cases e
    exact (o_in0 hK hu w I rx ry r1 r2 c).2 Q (q W H _ (Ext.refl _ _) w (.bl _))
end
end Pev

set_option Elab.async false
set_option linter.all false
set_option maxRecDepth 100000
set_option maxHeartbeats 2000000
namespace Pev
open PySem PySem.Spec L2
section
variable {X : Cx} {G : Gc} {Ex : WX} {a b c e : Expr} {ra rb rc : EvF} {pos : Pos} {es : List Expr} {ras : EvFs}

/-! ### a[i], a[lo:hi] -/
def ixP : Pv → Pv → Option Pv
  | .tup xs, .int i => atI xs i
  | .lst xs, .int i => atI xs i
  | .str s, .int i => match Nat.ble s.length capLen with | true => (match atI s.cps.toList i with | some c => some (.str ⟨#[c]⟩) | none => none) | false => none
  | _, _ => none
theorem atI_of {W : Wd} {vs : List V} {xs : List Pv} {i : Int} {v : Pv} (r : RVs G W vs xs) (h : atI xs i = some v) : ∃ x, atI vs i = some x ∧ RV G W x v := by
  unfold atI at h ⊢
  rw [r.length]
  cases q : ixN xs.length i with
  | none => rw [q] at h; cases h
  | some j => rw [q] at h; exact r.get h
theorem ix_ok (hK : X.K = G.K) : IxR X (rOp G ixP) := by
  intro value slice pins s σ H x y v u Q I rx ry h hs
  obtain ⟨W, S, va, vb, z, w, r1, r2, e, q⟩ := h
  unfold ixP at e
  split at e
  · rename_i xs i
    cases r1 with
    | tup h1 h2 =>
      cases r2
      obtain ⟨x, e1, r⟩ := atI_of h2 e
      exact ix_tup value slice pins s σ H _ _ v u Q I rx ry ⟨_, _, _, x, rfl, rfl, by rw [hK]; exact sqT_of w h1, e1, q W H _ (Ext.refl _ _) w r⟩ hs
  · rename_i xs i
    cases r1 with
    | lst h1 h2 =>
      cases r2
      obtain ⟨x, e1, r⟩ := atI_of h2 e
      exact ix_list value slice pins s σ H _ _ v u Q I rx ry ⟨_, _, _, x, rfl, rfl, by rw [hK]; exact sqL_of w (.inl (.inl h1)), e1, q W H _ (Ext.refl _ _) w r⟩ hs
  · rename_i z i
    cases c : Nat.ble z.length capLen with
    | false => rw [c] at e; cases e
    | true =>
      rw [c] at e
      simp only at e
      cases c2 : atI z.cps.toList i with
      | none => rw [c2] at e; cases e
      | some k =>
        rw [c2] at e; cases e
        cases r1; cases r2
        exact ix_str value slice pins s σ H _ _ v u Q I rx ry ⟨_, _, k, rfl, rfl, cap_line (Nat.le_of_ble_eq_true c), c2, q W H _ (Ext.refl _ _) w (.str _)⟩ hs
  · cases e
theorem e_ix (hK : X.K = G.K) (ha : PE X a (tE G Ex ra)) (hb : PE X b (tE G Ex rb)) (hs : PlainIx b) : PE X (.Subscript a b pos) (tE G Ex (ev2 ixP ra rb)) :=
  pe_imp (pe_ix (ix_ok hK) ha hb hs) fun _ _ _ h => ev2_op h
def evO (G : Gc) (Ex : WX) (r : List Slot → Sto → Res (Option Int)) : TO := fun σ H Q => ∃ H0 W S env, At G H0 W S σ H env ∧ Out G W H σ Ex (fun _ (x : Option Int) a => x = a) Q (r env S)
theorem po_imp {oe : Option Expr} {t t' : TO} (h : PO X oe t) (k : ∀ σ H Q, t' σ H Q → t σ H Q) : PO X oe t' := ⟨fun pins s σ H Q I q => h.run pins s σ H Q I (k σ H Q q)⟩
theorem p_none : PO X none (evO G Ex fun _ S => .ok none S) := po_imp po_none fun σ H Q h => by
  obtain ⟨H0, W, S, env, A, o⟩ := h
  exact o W H _ (Ext.refl _ _) A.w rfl
def small63 (i : Int) : Bool := Nat.blt i.natAbs 4611686018427387904
def evP (ra : EvF) : List Slot → Sto → Res (Option Int) := fun env S => (ra env S).bind fun v S1 => match v with | .int i => .ok (some i) S1 | _ => .stuck
theorem p_some (ha : PE X a (tE G Ex ra)) : PO X (some a) (evO G Ex (evP ra)) := po_imp (po_some ha) fun σ H Q h => by
  obtain ⟨H0, W, S, env, A, o⟩ := h
  refine ⟨H0, W, S, env, A, o.bind fun v S1 W1 H1 x e1 w1 r1 o1 => ?_⟩
  cases r1 with
  | int i => exact ⟨i, rfl, o1 _ _ _ (Ext.refl _ _) w1 rfl⟩
  | _ => exact o1.elim

def cutP (xs : List Pv) (lo hi : Option Int) : List Pv := (xs.drop (HT.sIx xs.length 0 lo)).take (HT.sIx xs.length xs.length hi - HT.sIx xs.length 0 lo)
theorem cut_of {W : Wd} {vs : List V} {xs : List Pv} {lo hi : Option Int} (r : RVs G W vs xs) : RVs G W (cutV vs lo hi) (cutP xs lo hi) := by
  unfold cutV cutP
  rw [r.length]
  exact (r.drop _).take _
def slP (x : Pv) (lo hi : Option Int) : Option Pv := match x with
  | .tup xs => some (.tup (cutP xs lo hi))
  | .lst xs => some (.lst (cutP xs lo hi))
  | .scr xs => some (.lst (cutP xs lo hi))
  | _ => none
def rSl (G : Gc) : V → Option Int → Option Int → Hp → VK → Prop := fun x lo hi H Q => ∃ W S va v, WOk G W H S ∧ RV G W x va ∧ slP va lo hi = some v ∧ ∀ W' H' z, Ext W H W' H' → WOk G W' H' S → RV G W' z v → Q z H'
theorem cut_whole {xs : List V} {lo hi : Option Int} (h : HT.sIx xs.length 0 lo = 0 ∧ HT.sIx xs.length xs.length hi = xs.length) : cutV xs lo hi = xs := by
  unfold cutV
  rw [h.1, h.2]
  simp
theorem sl_ok (hK : X.K = G.K) : SlR X (rSl G) := by
  intro pins s σ H x v vl vu lo hi sl Q I rx hs pl pu h
  obtain ⟨W, S, va, z, w, r1, e, q⟩ := h
  unfold slP at e
  have L : ∀ {p : Addr} {vs : List V} {xs : List Pv}, x = .ref p → SqL X.K H p vs → RVs G W vs xs → z = .lst (cutP xs lo hi) → rSlL X.K x lo hi H Q := fun {p vs xs} ex hp h2 ez => by
    subst ez
    refine ⟨p, vs, ex, hp, fun a ha => ?_⟩
    obtain ⟨w2, e2⟩ := w.alloc (o := .lst (cutV vs lo hi)) ha trivial
    exact q _ _ _ e2 w2 (.lst upd_same ((cut_of h2).mono e2.le))
  split at e
  · cases e
    cases r1 with
    | tup h1 h2 =>
      rename_i a vs
      refine sl_tupF pins s σ H _ v vl vu lo hi sl Q I rx hs pl pu ⟨a, vs, rfl, by rw [hK]; exact sqT_of w h1, fun hw => ?_, fun _ p ob hp hd => ?_⟩
      · have h3 := cut_of (lo := lo) (hi := hi) h2
        rw [cut_whole hw] at h3
        exact q W H _ (Ext.refl _ _) w (.tup h1 h3)
      · obtain ⟨w2, e2⟩ := w.alloc (o := .frz ob (.tup (cutV vs lo hi))) hp trivial
        exact q _ _ _ e2 w2 (.tup (.inl ⟨ob, upd_same, hd⟩) ((cut_of h2).mono e2.le))
  · cases e
    cases r1 with
    | lst h1 h2 => exact sl_list pins s σ H _ v vl vu lo hi sl Q I rx hs pl pu (L rfl (by rw [hK]; exact sqL_of w (.inl (.inl h1))) h2 rfl)
  · cases e
    cases r1 with
    | scr h1 h2 => exact sl_list pins s σ H _ v vl vu lo hi sl Q I rx hs pl pu (L rfl (by rw [hK]; exact sqL_of w h1) h2 rfl)
  · cases e
def evSl (ra : EvF) (rl rh : List Slot → Sto → Res (Option Int)) : EvF := fun env S => (ra env S).bind fun v S1 => (rl env S1).bind fun lo S2 => (rh env S2).bind fun hi S3 => match slP v lo hi with | some z => .ok z S3 | none => .stuck
theorem e_slice {lo hi : Option Expr} {p2 : Pos} {rl rh : List Slot → Sto → Res (Option Int)} (hK : X.K = G.K) (ha : PE X a (tE G Ex ra)) (hl : PO X lo (evO G Ex rl)) (hh : PO X hi (evO G Ex rh)) :
    PE X (.Subscript a (.Slice lo hi none p2) pos) (tE G Ex (evSl ra rl rh)) := by
  refine pe_imp (pe_slice (sl_ok hK) ha hl hh) fun σ H Q h => ?_
  obtain ⟨H0, W, S, env, A, o⟩ := h
  refine ⟨H0, W, S, env, A, o.bind fun v S1 W1 H1 x e1 w1 r1 o1 => ?_⟩
  refine ⟨H0, W1, S1, env, A.ext e1 w1, o1.bind fun l S2 W2 H2 y e2 w2 r2 o2 => ?_⟩
  refine ⟨H0, W2, S2, env, (A.ext e1 w1).ext e2 w2, o2.bind fun h S3 W3 H3 z e3 w3 r3 o3 => ?_⟩
  subst r2 r3
  cases q : slP v y z with
  | none => rw [q] at o3; exact o3.elim
  | some t =>
    rw [q] at o3
    exact ⟨W3, S3, v, t, w3, r1.mono (e2.trans e3).le, q, fun W' H' z' e w r => o3 W' H' z' e w r⟩

/-! ### built-in calls by values -/
def rCall (G : Gc) (g : List Pv → Option Pv) : List V → Hp → VK → Prop := fun xs H Q => ∃ W S vs v, WOk G W H S ∧ RVs G W xs vs ∧ g vs = some v ∧ ∀ W' H' z, Ext W H W' H' → WOk G W' H' S → RV G W' z v → Q z H'
def evB (g : List Pv → Option Pv) (ras : EvFs) : EvF := fun env S => (ras env S).bind fun vs S1 => match g vs with | some v => .ok v S1 | none => .stuck
theorem evB_call {g : List Pv → Option Pv} {σ : L2.St} {H : Hp} {Q : VK} (h : tE G Ex (evB g ras) σ H Q) : tCB (rCall G g) (tA G Ex ras) σ H Q := by
  obtain ⟨H0, W, S, env, A, o⟩ := h
  refine ⟨H0, W, S, env, A, o.bind fun vs S1 W1 H1 xs e1 w1 r1 o1 => ?_⟩
  cases q : g vs with
  | none => rw [q] at o1; exact o1.elim
  | some v => rw [q] at o1; exact ⟨W1, S1, vs, v, w1, r1, q, fun W' H' z e w r => o1 W' H' z e w r⟩
def gIsi : List Pv → Option Pv
  | [x, .ty n] => match tyP x with
    | some t => (match kitB t n with | some k => some (.bl k) | none => none)
    | none => none
  | _ => none
where tyP : Pv → Option String
  | .non => some "NoneType"
  | .bl _ => some "bool"
  | .int _ => some "int"
  | .str _ => some "str"
  | .tup _ => some "tuple"
  | .lst _ => some "list"
  | _ => none
theorem rvs2 {W : Wd} {xs : List V} {a b : Pv} (r : RVs G W xs [a, b]) : ∃ x y, xs = [x, y] ∧ RV G W x a ∧ RV G W y b := by
  cases r with
  | cons h1 r => cases r with
    | cons h2 r => cases r; exact ⟨_, _, rfl, h1, h2⟩
theorem rvs1 {W : Wd} {xs : List V} {a : Pv} (r : RVs G W xs [a]) : ∃ x, xs = [x] ∧ RV G W x a := by
  cases r with
  | cons h1 r => cases r; exact ⟨_, rfl, h1⟩
theorem tyX_of (hK : X.K = G.K) {W : Wd} {H : Hp} {S : Sto} (w : WOk G W H S) {x : V} {v : Pv} {t : String} (r : RV G W x v) (h : gIsi.tyP v = some t) : TyX X.K H x (.type t) := by
  cases r with
  | non => cases h; exact .base .non
  | bl b => cases h; exact .base (.bl b)
  | int b => cases h; exact .base (.int b)
  | str b => cases h; exact .base (.str b)
  | lst h1 h2 => cases h; exact .base (.lst (w.le _ _ h1))
  | tup h1 h2 =>
    cases h
    rcases h1 with ⟨o, h1, _⟩ | ⟨o, its, n, e, c, d, z, _⟩
    · exact .fTuple (w.le _ _ h1)
    · rw [hK]; exact .kTuple e c
  | ty _ => cases h
  | fn _ => cases h
  | mref _ => cases h
  | scr _ _ => cases h
  | dct _ _ _ => cases h
theorem c_isi (hK : X.K = G.K) : CallR X (.builtin "isinstance") (rCall G gIsi) := by
  intro pins s σ H xs us Q I r h
  obtain ⟨W, S, vs, v, w, rv, e, q⟩ := h
  unfold gIsi at e
  split at e
  · rename_i x n
    cases c : gIsi.tyP x with
    | none => rw [c] at e; cases e
    | some t =>
      rw [c] at e
      simp only at e
      cases c2 : kitB t n with
      | none => rw [c2] at e; cases e
      | some k =>
        rw [c2] at e; cases e
        obtain ⟨x1, y1, rfl, r1, r2⟩ := rvs2 rv
        cases r2
        exact call_isi pins s σ H _ us Q I r ⟨x1, .ty n, _, _, k, rfl, .ty n, tyX_of hK w r1 c, kit_ty c2, q W H _ (Ext.refl _ _) w (.bl _)⟩
  · cases e
def gLen : List Pv → Option Pv
  | [.tup xs] => some (.int xs.length)
  | [.lst xs] => some (.int xs.length)
  | [.scr xs] => some (.int xs.length)
  | [.str z] => match Nat.ble z.length capLen with | true => some (.int z.length) | false => none
  | _ => none
theorem c_len (hK : X.K = G.K) : CallR X (.builtin "len") (rCall G gLen) := by
  intro pins s σ H xs us Q I r h
  obtain ⟨W, S, vs, v, w, rv, e, q⟩ := h
  have sq : ∀ {p : Addr} {ys : List V} {zs : List Pv}, xs = [.ref p] → (SqL X.K H p ys ∨ SqT X.K H p ys) → RVs G W ys zs → v = .int zs.length → wpAny (model X.prog X.w) X.A (call (.builtin "len") us) (EP X pins σ Q) X.xe s := fun {p ys zs} ex hp h2 ev => by
    subst ev
    exact call_len_seq pins s σ H xs us Q I r ⟨p, ys, ex, hp, by rw [h2.length]; exact q W H _ (Ext.refl _ _) w (.int _)⟩
  unfold gLen at e
  split at e
  · cases e
    obtain ⟨x1, rfl, r1⟩ := rvs1 rv
    cases r1 with
    | tup h1 h2 => exact sq rfl (.inr (by rw [hK]; exact sqT_of w h1)) h2 rfl
  · cases e
    obtain ⟨x1, rfl, r1⟩ := rvs1 rv
    cases r1 with
    | lst h1 h2 => exact sq rfl (.inl (by rw [hK]; exact sqL_of w (.inl (.inl h1)))) h2 rfl
  · cases e
    obtain ⟨x1, rfl, r1⟩ := rvs1 rv
    cases r1 with
    | scr h1 h2 => exact sq rfl (.inl (by rw [hK]; exact sqL_of w h1)) h2 rfl
  · rename_i z
    cases c : Nat.ble z.length capLen with
    | false => rw [c] at e; cases e
    | true =>
      rw [c] at e; cases e
      obtain ⟨x1, rfl, r1⟩ := rvs1 rv
      cases r1
      exact call_len_str pins s σ H _ us Q I r ⟨z, rfl, cap_line (Nat.le_of_ble_eq_true c), q W H _ (Ext.refl _ _) w (.int _)⟩
  · cases e
def bools : List Pv → Option (List Bool)
  | [] => some []
  | .bl b :: xs => match bools xs with | some bs => some (b :: bs) | none => none
  | _ => none
theorem bools_of {W : Wd} : ∀ {vs : List V} {xs : List Pv} {bs : List Bool}, RVs G W vs xs → bools xs = some bs → vs = bs.map V.bl
  | _, _, _, .nil, h => by cases h; rfl
  | _, _ :: xs, _, .cons h1 h2, h => by
    cases h1 with
    | bl b =>
      simp only [bools] at h
      cases q : bools xs with
      | none => rw [q] at h; cases h
      | some bs => rw [q] at h; cases h; rw [bools_of h2 q]; rfl
    | _ => cases h
def intsP : List Pv → Option (List Int)
  | [] => some []
  | .int b :: xs => match intsP xs with | some bs => some (b :: bs) | none => none
  | _ => none
theorem ints_of {W : Wd} : ∀ {vs : List V} {xs : List Pv} {bs : List Int}, RVs G W vs xs → intsP xs = some bs → vs = bs.map V.int
  | _, _, _, .nil, h => by cases h; rfl
  | _, _ :: xs, _, .cons h1 h2, h => by
    cases h1 with
    | int b =>
      simp only [intsP] at h
      cases q : intsP xs with
      | none => rw [q] at h; cases h
      | some bs => rw [q] at h; cases h; rw [ints_of h2 q]; rfl
    | _ => cases h
def gAll : List Pv → Option Pv
  | [.lst xs] => match bools xs with | some bs => some (.bl (bs.all id)) | none => none
  | _ => none
def gAny : List Pv → Option Pv
  | [.lst xs] => match bools xs with | some bs => some (.bl (bs.any id)) | none => none
  | _ => none
def gSum : List Pv → Option Pv
  | [.lst xs] => match intsP xs with | some bs => some (.int bs.sum) | none => none
  | _ => none
theorem c_all (hc : X.calm = true) (hK : X.K = G.K) : CallR X (.builtin "all") (rCall G gAll) := by
  intro pins s σ H xs us Q I r h
  obtain ⟨W, S, vs, v, w, rv, e, q⟩ := h
  unfold gAll at e
  split at e
  · rename_i zs
    cases c : bools zs with
    | none => rw [c] at e; cases e
    | some bs =>
      rw [c] at e; cases e
      obtain ⟨x1, rfl, r1⟩ := rvs1 rv
      cases r1 with
      | lst h1 h2 =>
        have eb := bools_of h2 c
        exact cr_all hc pins s σ H _ us Q I r ⟨_, bs, rfl, by rw [hK, ← eb]; exact sqL_of w (.inl (.inl h1)), q W H _ (Ext.refl _ _) w (.bl _)⟩
  · cases e
theorem c_any (hc : X.calm = true) (hK : X.K = G.K) : CallR X (.builtin "any") (rCall G gAny) := by
  intro pins s σ H xs us Q I r h
  obtain ⟨W, S, vs, v, w, rv, e, q⟩ := h
  unfold gAny at e
  split at e
  · rename_i zs
    cases c : bools zs with
    | none => rw [c] at e; cases e
    | some bs =>
      rw [c] at e; cases e
      obtain ⟨x1, rfl, r1⟩ := rvs1 rv
      cases r1 with
      | lst h1 h2 =>
        have eb := bools_of h2 c
        exact cr_any hc pins s σ H _ us Q I r ⟨_, bs, rfl, by rw [hK, ← eb]; exact sqL_of w (.inl (.inl h1)), q W H _ (Ext.refl _ _) w (.bl _)⟩
  · cases e
theorem c_sum (hc : X.calm = true) (hK : X.K = G.K) : CallR X (.builtin "sum") (rCall G gSum) := by
  intro pins s σ H xs us Q I r h
  obtain ⟨W, S, vs, v, w, rv, e, q⟩ := h
  unfold gSum at e
  split at e
  · rename_i zs
    cases c : intsP zs with
    | none => rw [c] at e; cases e
    | some bs =>
      rw [c] at e; cases e
      obtain ⟨x1, rfl, r1⟩ := rvs1 rv
      cases r1 with
      | lst h1 h2 =>
        have eb := ints_of h2 c
        exact cr_sum hc pins s σ H _ us Q I r ⟨_, bs, rfl, by rw [hK, ← eb]; exact sqL_of w (.inl (.inl h1)), q W H _ (Ext.refl _ _) w (.int _)⟩
  · cases e
def gTuple : List Pv → Option Pv
  | [.lst xs] => some (.tup xs)
  | [.tup xs] => some (.tup xs)
  | _ => none
def gList : List Pv → Option Pv
  | [.lst xs] => some (.lst xs)
  | [.tup xs] => some (.lst xs)
  | [.scr xs] => some (.lst xs)
  | _ => none
theorem c_tuple (hK : X.K = G.K) : CallR X (.type "tuple") (rCall G gTuple) := by
  intro pins s σ H xs us Q I r h
  obtain ⟨W, S, vs, v, w, rv, e, q⟩ := h
  unfold gTuple at e
  split at e
  · cases e
    obtain ⟨x1, rfl, r1⟩ := rvs1 rv
    cases r1 with
    | lst h1 h2 =>
      refine call_tupleF pins s σ H _ us Q I r ⟨_, _, rfl, by rw [hK]; exact sqL_of w (.inl (.inl h1)), fun p ob hp hd => ?_⟩
      obtain ⟨w2, e2⟩ := w.alloc (o := .frz ob (.tup _)) hp trivial
      exact q _ _ _ e2 w2 (.tup (.inl ⟨ob, upd_same, hd⟩) (h2.mono e2.le))
  · cases e
    obtain ⟨x1, rfl, r1⟩ := rvs1 rv
    cases r1 with
    | tup h1 h2 => exact call_tuple_of pins s σ H _ us Q I r ⟨_, _, rfl, .inr ⟨by rw [hK]; exact sqT_of w h1, q W H _ (Ext.refl _ _) w (.tup h1 h2)⟩⟩
  · cases e
theorem c_list (hK : X.K = G.K) : CallR X (.type "list") (rCall G gList) := by
  intro pins s σ H xs us Q I r h
  obtain ⟨W, S, vs, v, w, rv, e, q⟩ := h
  have sq : ∀ {p : Addr} {ys : List V} {zs : List Pv}, xs = [.ref p] → (SqL X.K H p ys ∨ SqT X.K H p ys) → RVs G W ys zs → v = .lst zs → wpAny (model X.prog X.w) X.A (call (.type "list") us) (EP X pins σ Q) X.xe s := fun {p ys zs} ex hp h2 ev => by
    subst ev
    refine call_list_of pins s σ H xs us Q I r ⟨p, ys, ex, hp, fun l hl => ?_⟩
    obtain ⟨w2, e2⟩ := w.alloc (o := .lst ys) hl trivial
    exact q _ _ _ e2 w2 (.lst upd_same (h2.mono e2.le))
  unfold gList at e
  split at e
  · cases e
    obtain ⟨x1, rfl, r1⟩ := rvs1 rv
    cases r1 with
    | lst h1 h2 => exact sq rfl (.inl (by rw [hK]; exact sqL_of w (.inl (.inl h1)))) h2 rfl
  · cases e
    obtain ⟨x1, rfl, r1⟩ := rvs1 rv
    cases r1 with
    | tup h1 h2 => exact sq rfl (.inr (by rw [hK]; exact sqT_of w h1)) h2 rfl
  · cases e
    obtain ⟨x1, rfl, r1⟩ := rvs1 rv
    cases r1 with
    | scr h1 h2 => exact sq rfl (.inl (by rw [hK]; exact sqL_of w h1)) h2 rfl
  · cases e
def gInt : List Pv → Option Pv
  | [.int i] => some (.int i)
  | [.bl k] => some (.int (if k then 1 else 0))
  | _ => none
theorem c_int : CallR X (.type "int") (rCall G gInt) := by
  intro pins s σ H xs us Q I r h
  obtain ⟨W, S, vs, v, w, rv, e, q⟩ := h
  unfold gInt at e
  split at e
  · cases e
    obtain ⟨x1, rfl, r1⟩ := rvs1 rv
    cases r1
    exact call_int1 pins s σ H _ us Q I r (.inl ⟨_, rfl, q W H _ (Ext.refl _ _) w (.int _)⟩)
  · cases e
    obtain ⟨x1, rfl, r1⟩ := rvs1 rv
    cases r1
    exact call_int1 pins s σ H _ us Q I r (.inr ⟨_, rfl, q W H _ (Ext.refl _ _) w (.int _)⟩)
  · cases e
/-! sorted of intsP -/
def ins (a : Int) : List Int → List Int
  | [] => [a]
  | b :: l => match decide (a ≤ b) with | true => a :: b :: l | false => b :: ins a l
def isort : List Int → List Int
  | [] => []
  | a :: l => ins a (isort l)
theorem ins_perm (a : Int) : ∀ l, (ins a l).Perm (a :: l)
  | [] => .refl _
  | b :: l => by
    unfold ins
    cases decide (a ≤ b) with
    | true => exact .refl _
    | false => exact ((ins_perm a l).cons b).trans (.swap _ _ _)
theorem isort_perm : ∀ l, (isort l).Perm l
  | [] => .refl _
  | a :: l => (ins_perm a _).trans ((isort_perm l).cons a)
theorem ins_sorted (a : Int) : ∀ {l : List Int}, l.Pairwise (· ≤ ·) → (ins a l).Pairwise (· ≤ ·)
  | [], _ => by simp [ins]
  | b :: l, h => by
    unfold ins
    cases q : decide (a ≤ b) with
    | true =>
      have hab : a ≤ b := of_decide_eq_true q
      refine List.pairwise_cons.mpr ⟨fun c hc => ?_, h⟩
      rcases List.mem_cons.mp hc with rfl | hc
      · exact hab
      · exact Int.le_trans hab ((List.pairwise_cons.mp h).1 c hc)
    | false =>
      have hab : ¬ a ≤ b := of_decide_eq_false q
      refine List.pairwise_cons.mpr ⟨fun c hc => ?_, ins_sorted a (List.pairwise_cons.mp h).2⟩
      rcases List.mem_cons.mp ((ins_perm a l).mem_iff.mp hc) with rfl | hc
      · omega
      · exact (List.pairwise_cons.mp h).1 c hc
theorem isort_sorted : ∀ l : List Int, (isort l).Pairwise (· ≤ ·)
  | [] => .nil
  | a :: l => ins_sorted a (isort_sorted l)
theorem isort_eq {l l' : List Int} (p : l'.Perm l) (s : l'.Pairwise (· ≤ ·)) : l' = isort l :=
  (p.trans (isort_perm l).symm).eq_of_pairwise (le := (· ≤ ·)) (fun a b _ _ h1 h2 => Int.le_antisymm h1 h2) s (isort_sorted l)
def gSorted : List Pv → Option Pv
  | [.lst xs] => match intsP xs with | some ns => some (.lst ((isort ns).map Pv.int)) | none => none
  | _ => none
theorem RVs.ofInts {W : Wd} : ∀ ns : List Int, RVs G W (ns.map V.int) (ns.map Pv.int)
  | [] => .nil
  | n :: ns => .cons (.int n) (RVs.ofInts ns)
theorem c_sorted (hK : X.K = G.K) : CallR X (.builtin "sorted") (rCall G gSorted) := by
  intro pins s σ H xs us Q I r h
  obtain ⟨W, S, vs, v, w, rv, e, q⟩ := h
  unfold gSorted at e
  split at e
  · rename_i zs
    cases c : intsP zs with
    | none => rw [c] at e; cases e
    | some ns =>
      rw [c] at e; cases e
      obtain ⟨x1, rfl, r1⟩ := rvs1 rv
      cases r1 with
      | lst h1 h2 =>
        have eb := ints_of h2 c
        refine cr_sortedI pins s σ H _ us Q I r ⟨_, ns, rfl, by rw [hK, ← eb]; exact sqL_of w (.inl (.inl h1)), fun ns' p hp hs hn => ?_⟩
        rw [isort_eq hp hs]
        obtain ⟨w2, e2⟩ := w.alloc (o := .lst ((isort ns).map V.int)) hn trivial
        exact q _ _ _ e2 w2 (.lst upd_same (RVs.ofInts _))
  · cases e
end
end Pev

set_option Elab.async false
set_option linter.all false
set_option maxRecDepth 100000
set_option maxHeartbeats 2000000
namespace Pev
open PySem PySem.Spec L2
abbrev CallF := List Pv → Sto → Res Pv
/-- a def keeps its promise wherever no repr is under way -/
structure FnG (P : Program) (w : World) (K : PySem.W.Frag) (mg : Str → Option Value) (base : Heap) (CX : CXT) (k : Nat) (f : Addr) (fd : FuncData) (ps : List Str) (sp : Sp) : Prop where
  len : ∀ vs H Q E, sp vs H Q E → vs.length = ps.length
  run : ∀ (A : Around) (outer : List Env) (s : Shared) (H : Hp) (args : Args) (us : List Value) (vs : List V) (Q : VK) (E : XK), Room k A → A.guards = some [] → Env0 P w K mg base A outer s H → BindsTo s fd args (ps.zip us) → Vals vs us → sp vs H Q E → codeAny (model P w) A (.call (.ref f) args) (CR CX outer P w H s Q E) s
theorem FnG.mono {P : Program} {w : World} {K : PySem.W.Frag} {mg : Str → Option Value} {base : Heap} {CX : CXT} {j k : Nat} {f : Addr} {fd : FuncData} {ps : List Str} {sp : Sp} (F : FnG P w K mg base CX j f fd ps sp) (h : j ≤ k) : FnG P w K mg base CX k f fd ps sp :=
  ⟨F.len, fun A outer s H args us vs Q E hr => F.run A outer s H args us vs Q E (hr.mono h)⟩
/-- what a def promises: the evaluation's answer -/
def spF (G : G0) (n : Nat) (cf : CallF) : Sp := fun vs H Q E => vs.length = n ∧ ∃ W S xs, WOk G W H S ∧ RVs G W vs xs ∧ Out G W H ([] : L2.St) (fun c d _ H' => E c d H') (RV G) Q (cf xs S)
theorem Out.const {α β : Type} {G : Gc} {W : Wd} {H : Hp} {σ : L2.St} {Ex : WX} {R : Wd → β → α → Prop} {Q : β → Hp → Prop} {r : Res α} (h : Out G W H σ Ex R Q r) : Out G W H ([] : L2.St) (fun c d _ H' => Ex c d σ H') R Q r := by
  cases r with
  | ok a S => exact h
  | exc c fs S => exact h
  | stuck => exact h
def permute {α : Type} (d : α) (perm : List Nat) (us ws : List α) : List α := perm.map fun j => (us ++ ws).getD j d
theorem vals_getD {vs : List V} {us : List Value} (r : Vals vs us) : ∀ j, RelV (vs.getD j .non) (us.getD j .none) := by
  intro j
  rw [List.getD_eq_getElem?_getD, List.getD_eq_getElem?_getD]
  cases q : vs[j]? with
  | none => rw [r.none_of q]; rfl
  | some x => obtain ⟨u, h1, h2⟩ := r.get q; rw [h1]; exact h2
theorem vals_permute {vs zs : List V} {us ws : List Value} (r : Vals vs us) (r2 : Vals zs ws) : ∀ perm, Vals (permute .non perm vs zs) (permute .none perm us ws)
  | [] => .nil
  | j :: p => .cons (vals_getD (r.append r2) j) (vals_permute r r2 p)
theorem rvs_getD {G : Gc} {W : Wd} {vs : List V} {us : List Pv} (r : RVs G W vs us) : ∀ j, RV G W (vs.getD j .non) (us.getD j .non) := by
  intro j
  rw [List.getD_eq_getElem?_getD, List.getD_eq_getElem?_getD]
  cases q : us[j]? with
  | none =>
    have : vs[j]? = none := List.getElem?_eq_none_iff.mpr (by rw [r.length]; exact List.getElem?_eq_none_iff.mp q)
    rw [this]; exact .non
  | some x => obtain ⟨u, h1, h2⟩ := r.get q; rw [h1]; exact h2
theorem rvs_permute {G : Gc} {W : Wd} {vs zs : List V} {us ws : List Pv} (r : RVs G W vs us) (r2 : RVs G W zs ws) : ∀ perm, RVs G W (permute .non perm vs zs) (permute .non perm us ws)
  | [] => .nil
  | j :: p => .cons (rvs_getD (r.append r2) j) (rvs_permute r r2 p)
def evCall (cf : CallF) (perm : List Nat) (n m : Nat) (ras rks : EvFs) : EvF := fun env S => (ras env S).bind fun vs S1 => (rks env S1).bind fun ws S2 => match Nat.beq vs.length n && Nat.beq ws.length m with | true => cf (permute .non perm vs ws) S2 | false => .stuck
/-- the facts of a def as it is called: n positional values, the keywords ks -/
structure Shape (K : PySem.W.Frag) (fd : FuncData) (ps : List Str) (n : Nat) (ks : List Str) (perm : List Nat) : Prop where
  len : perm.length = ps.length
  to : ∀ (s : Shared) (us ws : List Value), us.length = n → ws.length = ks.length → BindsTo s fd ⟨us, ks.zip ws⟩ (ps.zip (permute .none perm us ws))
section
variable {X : Cx} {G : Gc} {Ex : WX} {e : Expr} {ras rks : EvFs} {pos p : Pos} {es : List Expr} {kws : List Keyword} {k n : Nat} {f : Addr} {fd : FuncData} {ps ks : List Str} {cf : CallF} {x : Str} {perm : List Nat}
theorem run_own {pins : List (Addr × Obj)} {σ : L2.St} {H : Hp} {s : Shared} {Q : VK} {us ws : List Value} {vs zs : List V} (F : FnG X.prog X.w X.K X.mg X.base (L2.CX X.prog X.w) k f fd ps (spF G ps.length cf)) (hr : Room k X.A) (hgd : X.A.guards = some []) (hb : Shape X.K fd ps n ks perm) (tk : Takes X Ex)
    (I : Inv X pins σ H s) (r : Vals vs us) (rz : Vals zs ws) (l1 : vs.length = n) (l2 : zs.length = ks.length) (h : spF G ps.length cf (permute .non perm vs zs) H Q (WE Ex σ)) : wpAny (model X.prog X.w) X.A (call (.ref f) us (ks.zip ws)) (EP X pins σ Q) X.xe s := by
  have r2 := vals_permute r rz perm
  refine wpAny_call (codeAny_mono (F.run X.A X.stack s H ⟨us, ks.zip ws⟩ _ _ Q (WE Ex σ) hr hgd I.env0 (hb.to s us ws (r.length.symm.trans l1) (rz.length.symm.trans l2)) r2 h) fun r s' hq => ?_)
  cases r with
  | error e => exact passAt tk σ pins H s e s' I hq
  | ok fl =>
    cases fl with
    | ret u => exact I.after hq
    | next => exact False.elim hq
    | brk => exact False.elim hq
    | cont => exact False.elim hq
theorem sp_at {W : Wd} {H : Hp} {S : Sto} {σ : L2.St} {Q : VK} {vs zs : List V} {xs ys : List Pv} (hb : Shape X.K fd ps n ks perm) (w : WOk G W H S) (r1 : RVs G W vs xs) (r2 : RVs G W zs ys) (o : Out G W H σ Ex (RV G) Q (cf (permute .non perm xs ys) S)) :
    spF G ps.length cf (permute .non perm vs zs) H Q (WE Ex σ) :=
  ⟨by unfold permute; rw [List.length_map, hb.len], W, S, _, w, rvs_permute r1 r2 perm, o.const⟩
/-- the keywords' values -/
structure KSound (X : Cx) (G : Gc) (Ex : WX) (kws : List Keyword) (rks : EvFs) : Prop where
  pk : PK X kws (tA G Ex rks)
theorem k_nil : KSound X G Ex [] (fun _ S => .ok [] S) := ⟨⟨fun pos pins s σ H Q I h => pk_nil.run pos pins s σ H Q I (by
  obtain ⟨H0, W, S, env, A, o⟩ := h
  exact o W H [] (Ext.refl _ _) A.w .nil)⟩⟩
theorem k_cons {nm : Option Str} {kpos : Pos} {ra : EvF} (ha : PE X e (tE G Ex ra)) (hs : KSound X G Ex kws rks) :
    KSound X G Ex (⟨nm, e, kpos⟩ :: kws) (fun env S => (ra env S).bind fun v S1 => (rks env S1).bind fun vs S2 => .ok (v :: vs) S2) := ⟨⟨fun pos pins s σ H Q I h => (pk_cons ha hs.pk).run pos pins s σ H Q I (by
  obtain ⟨H0, W, S, env, A, o⟩ := h
  refine ⟨H0, W, S, env, A, o.bind fun v S1 W1 H1 x e1 w1 r1 o1 => ?_⟩
  refine ⟨H0, W1, S1, env, A.ext e1 w1, o1.bind fun vs S2 W2 H2 xs e2 w2 r2 o2 => ?_⟩
  exact o2 W2 H2 _ (Ext.refl _ _) w2 (.cons (r1.mono e2.le) r2))⟩⟩
theorem ev_step {env : List Slot} {S : Sto} {σ : L2.St} {H : Hp} {Q : VK} {H0 : Gh} {W : Wd} {m : Nat} (hb : Shape X.K fd ps n ks perm) (A : At G H0 W S σ H env) (o : Out G W H σ Ex (RV G) Q (evCall cf perm n m ras rks env S)) :
    tA G Ex ras σ H fun vs H1 => tA G Ex rks σ H1 fun zs H2 => vs.length = n ∧ zs.length = m ∧ spF G ps.length cf (permute .non perm vs zs) H2 Q (WE Ex σ) := by
  refine ⟨H0, W, S, env, A, o.bind fun v S1 W1 H1 xs e1 w1 r1 o1 => ?_⟩
  refine ⟨H0, W1, S1, env, A.ext e1 w1, o1.bind fun v2 S2 W2 H2 ys e2 w2 r2 o2 => ?_⟩
  cases q : Nat.beq v.length n && Nat.beq v2.length m with
  | false => rw [q] at o2; exact o2.elim
  | true =>
    rw [q] at o2
    obtain ⟨q1, q2⟩ := Bool.and_eq_true_iff.mp q
    exact ⟨by rw [r1.length]; exact Nat.eq_of_beq_eq_true q1, by rw [r2.length]; exact Nat.eq_of_beq_eq_true q2, sp_at hb w2 (r1.mono e2.le) r2 o2⟩
/-- f(e, ..) -/
theorem e_call (F : FnG X.prog X.w X.K X.mg X.base (L2.CX X.prog X.w) k f fd ps (spF G ps.length cf)) (hr : Room k X.A) (hgd : X.A.guards = some []) (hg : Gl X x) (hm : X.mg x = some (.ref f)) (hk : PySem.W.keepIn X.K (.ref f) = true) (hb : Shape X.K fd ps n [] perm) (tk : Takes X Ex)
    (ha : PA X (e :: es) (tA G Ex ras)) (hdb : (x == ("__debug__" : Str)) = false) (he : starEach (e :: es) X.env = (false, eval e X.env) :: starEach es X.env) (hpl : (backTo pos (starEach es X.env)).any (·.1) = false) :
    PE X (.Call (.Name x p) (e :: es) [] pos) (tE G Ex (evCall cf perm n 0 ras fun _ S => .ok [] S)) := by
  refine ⟨fun pins s σ H Q I h => ?_⟩
  obtain ⟨H0, W, S, env, A, o⟩ := h
  refine wpAny_Call_Name_kw (ld_glob I hg hm ?_ hdb)
  refine PySem.W.callWith_K (h₀ := X.base) I.ok.mod.kin hk (thn (ha.run pos pins s σ H _ I (ev_step hb A o)) fun us s1 ⟨vs, H1, I1, r, q⟩ => ⟨I1.kIn, ?_⟩) he hpl
  obtain ⟨H0', W', S', env', A', o'⟩ := q
  have := o' W' H1 [] (Ext.refl _ _) A'.w .nil
  exact run_own (ws := []) (zs := []) F hr hgd hb tk I1 r .nil this.1 rfl this.2.2
theorem e_call0 (F : FnG X.prog X.w X.K X.mg X.base (L2.CX X.prog X.w) k f fd ps (spF G ps.length cf)) (hr : Room k X.A) (hgd : X.A.guards = some []) (hg : Gl X x) (hm : X.mg x = some (.ref f)) (hk : PySem.W.keepIn X.K (.ref f) = true) (hb : Shape X.K fd ps 0 [] perm) (tk : Takes X Ex)
    (hdb : (x == ("__debug__" : Str)) = false) : PE X (.Call (.Name x p) [] [] pos) (tE G Ex (evCall cf perm 0 0 (fun _ S => .ok [] S) fun _ S => .ok [] S)) := by
  refine ⟨fun pins s σ H Q I h => ?_⟩
  obtain ⟨H0, W, S, env, A, o⟩ := h
  refine wpAny_Call_Name_kw (ld_glob I hg hm ?_ hdb)
  refine PySem.W.callWith_K0 I.kIn hk (run_own (us := []) (ws := []) (vs := []) (zs := []) F hr hgd hb tk I .nil .nil rfl rfl ?_)
  exact sp_at hb A.w .nil .nil o
/-- f(e, .., k = v, ..) -/
theorem e_callK (F : FnG X.prog X.w X.K X.mg X.base (L2.CX X.prog X.w) k f fd ps (spF G ps.length cf)) (hr : Room k X.A) (hgd : X.A.guards = some []) (hg : Gl X x) (hm : X.mg x = some (.ref f)) (hk : PySem.W.keepIn X.K (.ref f) = true) (hb : Shape X.K fd ps n ks perm) (tk : Takes X Ex)
    (ha : PA X (e :: es) (tA G Ex ras)) (hkw : KSound X G Ex kws rks) (hall : (backToKw pos (keywordEach kws X.env)).all (·.1.isSome) = true) (hks : (backToKw pos (keywordEach kws X.env)).filterMap (·.1) = ks)
    (hdb : (x == ("__debug__" : Str)) = false) (he : starEach (e :: es) X.env = (false, eval e X.env) :: starEach es X.env)
    (hpl : ((backTo pos (starEach (e :: es) X.env)).any (·.1) || (backToKw pos (keywordEach kws X.env)).any (·.1.isNone)) = false) :
    PE X (.Call (.Name x p) (e :: es) kws pos) (tE G Ex (evCall cf perm n ks.length ras rks)) := by
  refine ⟨fun pins s σ H Q I h => ?_⟩
  obtain ⟨H0, W, S, env, A, o⟩ := h
  refine wpAny_Call_Name_kw (ld_glob I hg hm ?_ hdb)
  refine PySem.W.callWith_KW (h₀ := X.base) I.ok.mod.kin hk hall (thn (ha.run pos pins s σ H _ I (ev_step hb A o)) fun us s1 ⟨vs, H1, I1, r, q⟩ => ?_) hpl he
  refine thn (hkw.pk.run pos pins s1 σ H1 _ I1 q) fun ws s2 ⟨zs, H2, I2, rz, l1, l2, q2⟩ => ⟨I2.kIn, ?_⟩
  rw [hks]
  exact run_own F hr hgd hb tk I2 r rz l1 l2 q2
theorem e_callK0 (F : FnG X.prog X.w X.K X.mg X.base (L2.CX X.prog X.w) k f fd ps (spF G ps.length cf)) (hr : Room k X.A) (hgd : X.A.guards = some []) (hg : Gl X x) (hm : X.mg x = some (.ref f)) (hk : PySem.W.keepIn X.K (.ref f) = true) (hb : Shape X.K fd ps 0 ks perm) (tk : Takes X Ex)
    (hkw : KSound X G Ex kws rks) (hall : (backToKw pos (keywordEach kws X.env)).all (·.1.isSome) = true) (hks : (backToKw pos (keywordEach kws X.env)).filterMap (·.1) = ks)
    (hdb : (x == ("__debug__" : Str)) = false) (hpl : (backToKw pos (keywordEach kws X.env)).any (·.1.isNone) = false) :
    PE X (.Call (.Name x p) [] kws pos) (tE G Ex (evCall cf perm 0 ks.length (fun _ S => .ok [] S) rks)) := by
  refine ⟨fun pins s σ H Q I h => ?_⟩
  obtain ⟨H0, W, S, env, A, o⟩ := h
  refine wpAny_Call_Name_kw (ld_glob I hg hm ?_ hdb)
  have o' : Out G W H σ Ex (RV G) Q ((rks env S).bind fun ws S2 => match Nat.beq ([] : List Pv).length 0 && Nat.beq ws.length ks.length with | true => cf (permute .non perm [] ws) S2 | false => .stuck) := o
  have h : tA G Ex rks σ H fun zs H2 => zs.length = ks.length ∧ spF G ps.length cf (permute .non perm [] zs) H2 Q (WE Ex σ) := by
    refine ⟨H0, W, S, env, A, o'.bind fun v2 S2 W2 H2 ys e2 w2 r2 o2 => ?_⟩
    cases q : Nat.beq ([] : List Pv).length 0 && Nat.beq v2.length ks.length with
    | false => rw [q] at o2; exact o2.elim
    | true =>
      rw [q] at o2
      obtain ⟨q1, q2⟩ := Bool.and_eq_true_iff.mp q
      exact ⟨by rw [r2.length]; exact Nat.eq_of_beq_eq_true q2, sp_at hb w2 .nil r2 o2⟩
  refine PySem.W.callWith_KW0 (h₀ := X.base) I.ok.mod.kin hk hall (thn (hkw.pk.run pos pins s σ H _ I h) fun ws s2 ⟨zs, H2, I2, rz, l2, q2⟩ => ⟨I2.kIn, ?_⟩) hpl
  rw [hks]
  exact run_own (us := []) (vs := []) F hr hgd hb tk I2 .nil rz rfl l2 q2
end
end Pev

set_option Elab.async false
set_option linter.all false
set_option maxRecDepth 100000
set_option maxHeartbeats 2000000
namespace Pev
open PySem PySem.Spec L2
/-- an iterator gives these values, one after another, whatever has grown meanwhile -/
structure Wlk (G : Gc) (J : It) (W : Wd) (xs : List Pv) : Prop where
  go : ∀ (i : Nat) (W2 : Wd) (H2 : Hp) (S2 : Sto), i < xs.length → W.Le W2 → WOk G W2 H2 S2 → J.go i H2
  yld : ∀ (i : Nat) (W2 : Wd) (H2 : Hp) (S2 : Sto) (x : V) (H3 : Hp), i < xs.length → W.Le W2 → WOk G W2 H2 S2 → J.yld i H2 x H3 → ∃ W3 v, xs[i]? = some v ∧ Ext W2 H2 W3 H3 ∧ WOk G W3 H3 S2 ∧ RV G W3 x v
  stop : ∀ (W2 : Wd) (H2 : Hp) (S2 : Sto), W.Le W2 → WOk G W2 H2 S2 → J.stop xs.length H2
def OutI (G : Gc) (W : Wd) (H : Hp) (σ : L2.St) (Ex : WX) (R : It → Hp → Prop) : Res (List Pv) → Prop
  | .ok xs S' => ∀ W' H' J, Ext W H W' H' → WOk G W' H' S' → Wlk G J W' xs → R J H'
  | .exc c fs S' => ∀ W' H' cls d, Ext W H W' H' → WOk G W' H' S' → RX G W' H' cls d c fs → Ex cls d σ H'
  | .stuck => False
section
variable {α β : Type} {G : Gc} {W W1 : Wd} {H H1 : Hp} {σ : L2.St} {Ex : WX} {R : Wd → β → α → Prop} {RI : It → Hp → Prop} {P : β → Hp → Prop}
theorem OutI.shift {r : Res (List Pv)} (h : OutI G W H σ Ex RI r) (e : Ext W H W1 H1) : OutI G W1 H1 σ Ex RI r := by
  cases r with
  | ok a S' => exact fun W' H' x e' w rv => h W' H' x (e.trans e') w rv
  | exc c fs S' => exact fun W' H' cls d e' w rx => h W' H' cls d (e.trans e') w rx
  | stuck => exact h
theorem OutI.bind {r : Res α} {f : α → Sto → Res (List Pv)} (h : OutI G W H σ Ex RI (r.bind f))
    (k : ∀ a S1 W1 H1 x, Ext W H W1 H1 → WOk G W1 H1 S1 → R W1 x a → OutI G W1 H1 σ Ex RI (f a S1) → P x H1) : Out G W H σ Ex R P r := by
  cases r with
  | ok a S' => exact fun W' H' x e w rv => k a S' W' H' x e w rv (OutI.shift h e)
  | exc c fs S' => exact h
  | stuck => exact h
/-- .. and behind the iterator -/
theorem Out.bindI {γ δ : Type} {r : Res (List Pv)} {f : List Pv → Sto → Res γ} {R' : Wd → δ → γ → Prop} {Q' : δ → Hp → Prop} {RI : It → Hp → Prop} (h : Out G W H σ Ex R' Q' (r.bind f))
    (k : ∀ xs S1 W1 H1 J, Ext W H W1 H1 → WOk G W1 H1 S1 → Wlk G J W1 xs → Out G W1 H1 σ Ex R' Q' (f xs S1) → RI J H1) : OutI G W H σ Ex RI r := by
  cases r with
  | ok a S' => exact fun W' H' x e w rv => k a S' W' H' x e w rv (Out.shift h e)
  | exc c fs S' => exact h
  | stuck => exact h
end
def tI (G : Gc) (Ex : WX) (rs : EvFs) : TI := fun σ H R => ∃ H0 W S env, At G H0 W S σ H env ∧ OutI G W H σ Ex R (rs env S)
section
variable {X : Cx} {G : Gc} {Ex : WX} {a b c e tg : Expr} {ra rb rc : EvF} {pos p : Pos} {es : List Expr} {ras : EvFs}
theorem pi_imp {iter : Expr} {wi wi' : TI} (h : PI X tg iter wi) (k : ∀ σ H R, wi' σ H R → wi σ H R) : PI X tg iter wi' := ⟨fun pins s σ H R I q => h.run pins s σ H R I (k σ H R q)⟩
/-! ### a list or a tuple -/
def iSeq (K : PySem.W.Frag) (tl : TE) : TI := fun σ H R => tl σ H fun x H1 => ∃ a, x = .ref a ∧ (((∃ xs, SqL K H1 a xs) ∧ R (Itl K a) H1) ∨ ((∃ xs, SqT K H1 a xs) ∧ R (Itt K a) H1))
theorem pi_seq {tl : TE} (hl : PE X e tl) : PI X tg e (iSeq X.K tl) := by
  refine ⟨fun pins s σ H R I h => ?_⟩
  refine thn (hl.run pins s σ H _ I h) fun v s1 ⟨x, H1, I1, r1, q1⟩ => ?_
  obtain ⟨a, e, q1⟩ := q1
  subst e
  cases r1
  rcases q1 with ⟨⟨xs, hq⟩, q⟩ | ⟨⟨xs, hq⟩, q⟩
  · obtain ⟨its, rv, p, hz⟩ := I1.list hq
    refine wpAny_pyIter_list p.isList ?_
    refine ⟨s1.heap.objs.size, [s1.heap.objs.size], _, _, H1, rfl, I1.kept (t' := s1.toks) fun b o e => Heap.get?_push_of_some _ e, turn_list a _, ⟨_, Heap.get?_push_size _ rfl, rfl, rfl⟩, fun b hb => ?_, q⟩
    have e : b = s1.heap.objs.size := by simpa using hb
    subst e
    exact I1.fpOk (Nat.le_refl _) (I1.hok.fresh (Nat.le_refl _))
  · obtain ⟨its, rv, p, hz⟩ := I1.tuple hq
    refine wpAny_pyIter_tuple (show s1.heap.IsTuple a its.toArray from p) ?_
    refine ⟨s1.heap.objs.size, [s1.heap.objs.size], _, _, H1, rfl, I1.kept (t' := s1.toks) fun b o e => Heap.get?_push_of_some _ e, turn_tuple a _, ⟨_, Heap.get?_push_size _ rfl, rfl, rfl⟩, fun b hb => ?_, q⟩
    have e : b = s1.heap.objs.size := by simpa using hb
    subst e
    exact I1.fpOk (Nat.le_refl _) (I1.hok.fresh (Nat.le_refl _))
theorem wlk_list {W : Wd} {a : Addr} {vs : List V} {xs : List Pv} (h1 : SqL G.K W.F a vs) (h2 : RVs G W vs xs) : Wlk G (Itl G.K a) W xs := by
  refine ⟨fun i W2 H2 S2 hi e w => ?_, fun i W2 H2 S2 x H3 hi e w y => ?_, fun W2 H2 S2 e w => ?_⟩
  · have hi' : i < vs.length := by rw [h2.length]; exact hi
    exact ⟨vs, vs[i], sqL_of w (sqL_le e.F h1), by simp [hi']⟩
  · obtain ⟨rfl, y⟩ := y
    obtain ⟨v, h3, h4⟩ := (h2.mono e).getV (y vs (sqL_of w (sqL_le e.F h1)))
    exact ⟨W2, v, h3, Ext.refl _ _, w, h4⟩
  · exact ⟨vs, sqL_of w (sqL_le e.F h1), by rw [h2.length]; exact Nat.le_refl _⟩
theorem wlk_tup {W : Wd} {a : Addr} {vs : List V} {xs : List Pv} (h1 : SqTd G.K W.F a vs) (h2 : RVs G W vs xs) : Wlk G (Itt G.K a) W xs := by
  refine ⟨fun i W2 H2 S2 hi e w => ?_, fun i W2 H2 S2 x H3 hi e w y => ?_, fun W2 H2 S2 e w => ?_⟩
  · have hi' : i < vs.length := by rw [h2.length]; exact hi
    exact ⟨vs, vs[i], sqT_of w (sqT_le e.F h1), by simp [hi']⟩
  · obtain ⟨rfl, y⟩ := y
    obtain ⟨v, h3, h4⟩ := (h2.mono e).getV (y vs (sqT_of w (sqT_le e.F h1)))
    exact ⟨W2, v, h3, Ext.refl _ _, w, h4⟩
  · exact ⟨vs, sqT_of w (sqT_le e.F h1), by rw [h2.length]; exact Nat.le_refl _⟩
def seqP : Pv → Option (List Pv)
  | .tup xs => some xs
  | .lst xs => some xs
  | .scr xs => some xs
  | _ => none
def evSeq (ra : EvF) : EvFs := fun env S => (ra env S).bind fun v S1 => match seqP v with | some xs => .ok xs S1 | none => .stuck
theorem seqP_wlk {W : Wd} {H : Hp} {S : Sto} {x : V} {v : Pv} {xs : List Pv} (w : WOk G W H S) (r : RV G W x v) (h : seqP v = some xs) :
    ∃ a, x = .ref a ∧ (((∃ vs, SqL G.K H a vs) ∧ Wlk G (Itl G.K a) W xs) ∨ ((∃ vs, SqT G.K H a vs) ∧ Wlk G (Itt G.K a) W xs)) := by
  cases r with
  | tup h1 h2 => cases h; exact ⟨_, rfl, .inr ⟨⟨_, sqT_of w h1⟩, wlk_tup h1 h2⟩⟩
  | lst h1 h2 => cases h; exact ⟨_, rfl, .inl ⟨⟨_, sqL_of w (.inl (.inl h1))⟩, wlk_list (.inl (.inl h1)) h2⟩⟩
  | scr h1 h2 => cases h; exact ⟨_, rfl, .inl ⟨⟨_, sqL_of w h1⟩, wlk_list h1 h2⟩⟩
  | _ => cases h
theorem i_seq (hK : X.K = G.K) (ha : PE X a (tE G Ex ra)) : PI X tg a (tI G Ex (evSeq ra)) := by
  refine pi_imp (pi_seq ha) fun σ H R h => ?_
  obtain ⟨H0, W, S, env, A, o⟩ := h
  refine ⟨H0, W, S, env, A, o.bind fun v S1 W1 H1 x e1 w1 r1 o1 => ?_⟩
  cases q : seqP v with
  | none => rw [q] at o1; exact o1.elim
  | some xs =>
    rw [q] at o1
    obtain ⟨a, ex, h⟩ := seqP_wlk w1 r1 q
    refine ⟨a, ex, ?_⟩
    rw [hK]
    rcases h with ⟨h1, h2⟩ | ⟨h1, h2⟩
    · exact .inl ⟨h1, o1 _ _ _ (Ext.refl _ _) w1 h2⟩
    · exact .inr ⟨h1, o1 _ _ _ (Ext.refl _ _) w1 h2⟩
/-! ### range -/
def rgP (lo : Int) (n : Nat) : List Pv := (List.range n).map fun i => Pv.int (lo + (i : Nat))
theorem wlk_range {W : Wd} {lo : Int} {n : Nat} : Wlk G (Itr lo n) W (rgP lo n) := by
  have hl : (rgP lo n).length = n := by simp [rgP]
  refine ⟨fun i W2 H2 S2 hi e w => by rw [hl] at hi; exact hi, fun i W2 H2 S2 x H3 hi e w y => ?_, fun W2 H2 S2 e w => by rw [hl]; exact Nat.le_refl _⟩
  obtain ⟨rfl, rfl⟩ := y
  rw [hl] at hi
  exact ⟨W2, .int (lo + i), by simp [rgP, hi], Ext.refl _ _, w, .int _⟩
def rg1 : List Pv → Option (List Pv)
  | [.int j] => match Nat.ble j.toNat capLen && Nat.ble j.natAbs capLen with | true => some (rgP 0 j.toNat) | false => none
  | _ => none
def rg2 : List Pv → Option (List Pv)
  | [.int i, .int j] => match Nat.ble i.natAbs capLen && Nat.ble j.natAbs capLen with | true => some (rgP i (j - i).toNat) | false => none
  | _ => none
def evRg (g : List Pv → Option (List Pv)) (ras : EvFs) : EvFs := fun env S => (ras env S).bind fun vs S1 => match g vs with | some xs => .ok xs S1 | none => .stuck
theorem i_range1 (hg : Gl X "range") (hm : X.mg "range" = none) (ha : PA X [a] (tA G Ex ras)) (hs : starEach [a] X.env = [(false, eval a X.env)]) : PI X tg (.Call (.Name "range" p) [a] [] pos) (tI G Ex (evRg rg1 ras)) := by
  refine pi_imp (pi_range1 hg hm ha hs) fun σ H R h => ?_
  obtain ⟨H0, W, S, env, A, o⟩ := h
  refine ⟨H0, W, S, env, A, o.bind fun vs S1 W1 H1 xs e1 w1 r1 o1 => ?_⟩
  cases q : rg1 vs with
  | none => rw [q] at o1; exact o1.elim
  | some ys =>
    rw [q] at o1
    unfold rg1 at q
    split at q
    · rename_i j
      cases c : Nat.ble j.toNat capLen && Nat.ble j.natAbs capLen with
      | false => rw [c] at q; cases q
      | true =>
        rw [c] at q; cases q
        obtain ⟨x1, rfl, r⟩ := rvs1 r1
        cases r
        have c2 := Nat.le_of_ble_eq_true (Bool.and_eq_true_iff.mp c).2
        unfold capLen at c2
        exact ⟨j, rfl, by omega, by omega, o1 _ _ _ (Ext.refl _ _) w1 wlk_range⟩
    · cases q
theorem i_range2 (hg : Gl X "range") (hm : X.mg "range" = none) (ha : PA X [a, b] (tA G Ex ras)) (hs : starEach [a, b] X.env = [(false, eval a X.env), (false, eval b X.env)]) (hs2 : starEach [b] X.env = [(false, eval b X.env)]) :
    PI X tg (.Call (.Name "range" p) [a, b] [] pos) (tI G Ex (evRg rg2 ras)) := by
  refine pi_imp (pi_range2 hg hm ha hs hs2) fun σ H R h => ?_
  obtain ⟨H0, W, S, env, A, o⟩ := h
  refine ⟨H0, W, S, env, A, o.bind fun vs S1 W1 H1 xs e1 w1 r1 o1 => ?_⟩
  cases q : rg2 vs with
  | none => rw [q] at o1; exact o1.elim
  | some ys =>
    rw [q] at o1
    unfold rg2 at q
    split at q
    · rename_i i j
      cases c : Nat.ble i.natAbs capLen && Nat.ble j.natAbs capLen with
      | false => rw [c] at q; cases q
      | true =>
        rw [c] at q; cases q
        obtain ⟨x1, x2, rfl, r, r'⟩ := rvs2 r1
        cases r
        cases r'
        obtain ⟨c1, c2⟩ := Bool.and_eq_true_iff.mp c
        have c1 := Nat.le_of_ble_eq_true c1
        have c2 := Nat.le_of_ble_eq_true c2
        unfold capLen at c1 c2
        exact ⟨i, j, rfl, by omega, o1 _ _ _ (Ext.refl _ _) w1 wlk_range⟩
    · cases q
/-! ### zip -/
def zpP (xs ys : List Pv) : List Pv := List.zipWith (fun x y => Pv.tup [x, y]) xs ys
def zp2 : List Pv → Option (List Pv)
  | [.tup xs, .tup ys] => some (zpP xs ys)
  | [.lst xs, .lst ys] => some (zpP xs ys)
  | _ => none
theorem pair_new {W2 : Wd} {H2 H3 : Hp} {S2 : Sto} {T : Addr} {x y : V} {vx vy : Pv} (w : WOk G W2 H2 S2) {ob : Obj} (hT : H2 T = none) (hd : ob.dict = none) (e3 : H3 = upd H2 T (.frz ob (.tup [x, y]))) (rx : RV G W2 x vx) (ry : RV G W2 y vy) :
    ∃ W3, Ext W2 H2 W3 H3 ∧ WOk G W3 H3 S2 ∧ RV G W3 (.ref T) (.tup [vx, vy]) := by
  subst e3
  obtain ⟨w3, e3⟩ := w.alloc (o := .frz ob (.tup [x, y])) hT trivial
  exact ⟨_, e3, w3, .tup (.inl ⟨ob, upd_same, hd⟩) (.cons (rx.mono e3.le) (.cons (ry.mono e3.le) .nil))⟩
theorem zpP_get {xs ys : List Pv} {i : Nat} {vx vy : Pv} (h1 : xs[i]? = some vx) (h2 : ys[i]? = some vy) : (zpP xs ys)[i]? = some (.tup [vx, vy]) := by
  unfold zpP
  rw [List.getElem?_zipWith, h1, h2]
theorem zpP_len (xs ys : List Pv) : (zpP xs ys).length = min xs.length ys.length := by simp [zpP]
theorem i_zip {elts : List Expr} {kk : Nat} {tpos : Pos} (hK : X.K = G.K) (hg : Gl X "zip") (hm : X.mg "zip" = none) (ha : PA X [a, b] (tA G Ex ras)) (hs : starEach [a, b] X.env = (false, eval a X.env) :: starEach [b] X.env) (hpl : (backTo pos (starEach [b] X.env)).any (·.1) = false) :
    PI X (.Tuple elts kk tpos) (.Call (.Name "zip" p) [a, b] [] pos) (tI G Ex (evRg zp2 ras)) := by
  refine pi_imp (pi_zipF hg hm ha hs hpl) fun σ H R h => ?_
  obtain ⟨H0, W, S, env, A, o⟩ := h
  refine ⟨H0, W, S, env, A, o.bind fun vs S1 W1 H1 xs e1 w1 r1 o1 => ?_⟩
  cases q : zp2 vs with
  | none => rw [q] at o1; exact o1.elim
  | some zs =>
    rw [q] at o1
    unfold zp2 at q
    split at q
    · rename_i xs' ys'
      cases q
      obtain ⟨x1, x2, rfl, r, r'⟩ := rvs2 r1
      cases r with
      | tup h1 h2 =>
        rename_i aa va
        cases r' with
        | tup h3 h4 =>
          rename_i bb vb
          refine ⟨aa, bb, va, vb, rfl, .inr ⟨by rw [hK]; exact sqT_of w1 h1, by rw [hK]; exact sqT_of w1 h3, o1 _ _ _ (Ext.refl _ _) w1 ?_⟩⟩
          rw [hK]
          have l1 := h2.length
          have l2 := h4.length
          refine ⟨fun i W2 H2 S2 hi e w => ?_, fun i W2 H2 S2 x H3 hi e w y => ?_, fun W2 H2 S2 e w => ?_⟩
          · rw [zpP_len] at hi
            have i1 : i < va.length := by omega
            have i2 : i < vb.length := by omega
            exact ⟨va, vb, va[i], vb[i], sqT_of w (sqT_le e.F h1), sqT_of w (sqT_le e.F h3), by simp [i1], by simp [i2]⟩
          · obtain ⟨T, x, y, ob, rfl, hT, hd, e3, g1, g2⟩ := y
            obtain ⟨vx, p1, p2⟩ := (h2.mono e).getV (g1 va (sqT_of w (sqT_le e.F h1)))
            obtain ⟨vy, p3, p4⟩ := (h4.mono e).getV (g2 vb (sqT_of w (sqT_le e.F h3)))
            obtain ⟨W3, e4, w3, r3⟩ := pair_new w hT hd e3 p2 p4
            exact ⟨W3, _, zpP_get p1 p3, e4, w3, r3⟩
          · exact ⟨va, vb, sqT_of w (sqT_le e.F h1), sqT_of w (sqT_le e.F h3), by rw [zpP_len]; omega⟩
    · rename_i xs' ys'
      cases q
      obtain ⟨x1, x2, rfl, r, r'⟩ := rvs2 r1
      cases r with
      | lst h1 h2 =>
        rename_i aa va
        cases r' with
        | lst h3 h4 =>
          rename_i bb vb
          have k1 : SqL G.K W1.F aa va := .inl (.inl h1)
          have k3 : SqL G.K W1.F bb vb := .inl (.inl h3)
          refine ⟨aa, bb, va, vb, rfl, .inl ⟨by rw [hK]; exact sqL_of w1 k1, by rw [hK]; exact sqL_of w1 k3, o1 _ _ _ (Ext.refl _ _) w1 ?_⟩⟩
          rw [hK]
          have l1 := h2.length
          have l2 := h4.length
          refine ⟨fun i W2 H2 S2 hi e w => ?_, fun i W2 H2 S2 x H3 hi e w y => ?_, fun W2 H2 S2 e w => ?_⟩
          · rw [zpP_len] at hi
            have i1 : i < va.length := by omega
            have i2 : i < vb.length := by omega
            exact ⟨va, vb, va[i], vb[i], sqL_of w (sqL_le e.F k1), sqL_of w (sqL_le e.F k3), by simp [i1], by simp [i2]⟩
          · obtain ⟨T, x, y, ob, rfl, hT, hd, e3, g1, g2⟩ := y
            obtain ⟨vx, p1, p2⟩ := (h2.mono e).getV (g1 va (sqL_of w (sqL_le e.F k1)))
            obtain ⟨vy, p3, p4⟩ := (h4.mono e).getV (g2 vb (sqL_of w (sqL_le e.F k3)))
            obtain ⟨W3, e4, w3, r3⟩ := pair_new w hT hd e3 p2 p4
            exact ⟨W3, _, zpP_get p1 p3, e4, w3, r3⟩
          · exact ⟨va, vb, sqL_of w (sqL_le e.F k1), sqL_of w (sqL_le e.F k3), by rw [zpP_len]; omega⟩
    · cases q
end
end Pev

set_option Elab.async false
set_option linter.all false
set_option maxRecDepth 100000
set_option maxHeartbeats 4000000
namespace PySem
open Sem (wp)
open AutoSeq1 (wpAny_loadPart')
theorem pev_meets_enum (l : Addr) (items : Array Value) (n : Nat) (dct : Option Addr) (sl : Array (Option Value)) :
    Meets (Builtin.«enumerate.__new__» ⟨[.type "enumerate", .ref l], []⟩) (fun _ R s => s.heap.get? l = some { cls := .type "tuple", dict := dct, data := .seq items n, slots := sl } ∧
      R (.ok (.ret (.ref (s.heap.push { cls := .type "tuple_iterator", data := .fields #[.ref l, .int 0 0] }).objs.size)))
        { s with heap := (s.heap.push { cls := .type "tuple_iterator", data := .fields #[.ref l, .int 0 0] }).push { cls := .type "enumerate", data := .fields #[.none, .bool false, .ref s.heap.objs.size, rawInt 0, .none, .none] } }) :=
  .of_wp fun prog w A R s h => by
    obtain ⟨hp, g, d, tk, os⟩ := s; obtain ⟨hl, h⟩ := h
    have hsub := sub_enumerate
    have hL : Heap.IsTuple (Shared.heap ⟨hp, g, d, tk, os⟩) l items := ⟨_, hl, rfl, n, rfl⟩
    wp_walk using wpAny_loadPart' hl
    refine wpAny_stack_any fun st => wpAny_pure ?_
    split
    · rename_i c _ _ _ _ _
      cases (c == Value.type "enumerate")
      · wp_walk using wpAny_loadPart' hl, wpAny_pyIter_tuple hL
        exact ⟨_, rfl, h⟩
      · wp_walk using wpAny_loadPart' hl, wpAny_pyIter_tuple hL
        exact ⟨_, rfl, h⟩
    · wp_walk using wpAny_loadPart' hl, wpAny_pyIter_tuple hL
      exact ⟨_, rfl, h⟩
theorem pev_call_enum {prog : Program} {w : World} {A : Around} {E : Value → Shared → Prop} {s : Shared} {l : Addr} {items : Array Value} {Q : Value → Shared → Prop} (hL : s.heap.IsTuple l items)
    (h : ∀ h', IsEnum h' (s.heap.objs.size + 1) s.heap.objs.size 0 .none → h'.IsTupleIter s.heap.objs.size l 0 → h'.objs.size = s.heap.objs.size + 2 →
      (∀ b o, s.heap.get? b = some o → h'.get? b = some o) → Q (.ref (s.heap.objs.size + 1)) { s with heap := h' }) :
    wpAny (model prog w) A (call (.type "enumerate") [.ref l]) Q E s := by
  obtain ⟨⟨c, dct, dt, sl⟩, hl, hc, n, hd⟩ := hL
  replace hc : c = .type "tuple" := hc
  replace hd : dt = .seq items n := hd
  subst hc hd
  refine callType_new F.called_enumerate (by decide) (F.typeCall_enumerate_1 _) (F.newCall_enumerate_1 _) (fun obj => F.args_object_init_2 obj _) F.entry_enumerate_new
    (pev_meets_enum l items n dct sl) ⟨hl, ?_⟩
  have hz : (s.heap.push { cls := .type "tuple_iterator", data := .fields #[.ref l, .int 0 0] }).objs.size = s.heap.objs.size + 1 := Heap.size_push ..
  show _ ∧ _
  rw [hz]
  have he : IsEnum ((s.heap.push { cls := .type "tuple_iterator", data := .fields #[.ref l, .int 0 0] }).push
      { cls := .type "enumerate", data := .fields #[.none, .bool false, .ref s.heap.objs.size, rawInt 0, .none, .none] }) (s.heap.objs.size + 1) s.heap.objs.size 0 .none := by
    have := Heap.get?_push_size (s.heap.push { cls := .type "tuple_iterator", data := .fields #[.ref l, .int 0 0] })
      (o := { cls := .type "enumerate", data := .fields #[.none, .bool false, .ref s.heap.objs.size, rawInt 0, .none, .none] }) rfl
    rw [hz] at this; exact this
  refine ⟨⟨_, he, rfl⟩, h _ he ⟨_, Heap.get?_push_of_some _ (Heap.get?_push_size _ rfl), rfl, rfl⟩ (by rw [Heap.size_push, hz]) fun b o x => Heap.get?_push_of_some _ (Heap.get?_push_of_some _ x)⟩
end PySem
namespace Pev
open PySem PySem.Spec L2
/-- the tuple at a as it stands at each turn, each item in a new pair -/
def IteT (K : PySem.W.Frag) (a : Addr) : It :=
  ⟨fun i H => ∃ (xs : List V) (x : V), SqT K H a xs ∧ xs[i]? = some x, fun i H v H' => ∃ T x o, v = .ref T ∧ H T = none ∧ o.dict = none ∧ H' = upd H T (.frz o (.tup [.int (i : Nat), x])) ∧ ∀ xs, SqT K H a xs → xs[i]? = some x, fun i H => ∃ xs : List V, SqT K H a xs ∧ xs.length ≤ i⟩
theorem turn_enumT {P : Program} {w : World} {K : PySem.W.Frag} {elts : List Expr} {kk : Nat} {tpos : Pos} (a e it : Addr) :
    Turn P w K (.Tuple elts kk tpos) (IteT K a) [e, it] e (fun i h => (∃ old, IsEnum h e it ((i : Nat) : Int) old) ∧ h.IsTupleIter it a i ∧ e ≠ it) where
  mem := by simp
  obj := fun i h st b hb => by
    obtain ⟨⟨old, he⟩, ⟨o, ho, hc, hd⟩, _⟩ := st
    have e' : b = e ∨ b = it := by simpa using hb
    rcases e' with z | z
    · rw [z]; exact ⟨_, he, fun v q => nomatch q⟩
    · rw [z]; exact ⟨o, ho, fun v q => by rw [hd] at q; cases q⟩
  keep := fun i h h' st k => let ⟨⟨old, he⟩, hi, hne⟩ := st; ⟨⟨old, k e (by simp) _ he⟩, hi.at fun o q => k it (by simp) o q, hne⟩
  item := by
    intro X hP hw hK hc i pins s σ H E I hf st hg
    subst hP hw hK
    obtain ⟨⟨old, he⟩, hit, hne⟩ := st
    obtain ⟨xs, x, hq, hx⟩ := hg
    obtain ⟨its, rv, p, hz⟩ := I.tuple hq
    obtain ⟨u, hu, ru⟩ := rv.get hx
    have hel : e < s.heap.objs.size := Heap.lt_size he
    have hil : it < s.heap.objs.size := by obtain ⟨_, q, _⟩ := hit; exact Heap.lt_size q
    have hT : s.heap.IsTuple a its.toArray := p
    have hae : a ≠ it := fun z => by
      obtain ⟨o, q, c, _⟩ := hit
      obtain ⟨o', q', c', _⟩ := hT
      rw [z, q] at q'; cases q'; rw [c] at c'; exact (show Value.type "tuple_iterator" ≠ Value.type "tuple" by decide +kernel) c'
    have hee : e ≠ a := fun z => by
      obtain ⟨o', q', c', _⟩ := hT
      rw [← z, he] at q'; cases q'; exact (show Value.type "enumerate" ≠ Value.type "tuple" by decide +kernel) c'
    have D := Draws.tuple (prog := X.prog) (w := X.w) (A := X.A.in1) (I.ok.hd hc) it a hae its.toArray
    have hi : i < its.toArray.size := by
      have := (List.getElem?_eq_some_iff.mp hu).1
      simpa using this
    refine wpAny_pyNext_enum_itemD D he ⟨hit, hT⟩ hi hne (by simp [hne, hee]) fun u' h' tk hu' ho hit' hT hsz hk => ?_
    have eu : u' = u := by
      have q : its.toArray[i]? = some u' := hu'
      have q2 : its.toArray[i]? = some u := by simpa using hu
      rw [q2] at q; cases q; rfl
    subst eu
    refine ⟨_, rfl, wpAny_letOwnedTupleGo_enum (s := { s with heap := h', toks := tk + 1 }) ho fun h'' he' sb => ?_⟩
    have hT2 : h''.get? s.heap.objs.size = some { cls := .type "tuple", data := .seq #[.int i tk, u'] } := (sb.2 _ (Nat.ne_of_gt hel)).trans hT
    have new : ObjOk X.prog X.w (upd H s.heap.objs.size (.frz (tupO [.int i tk, u']) (.tup [.int (i : Nat), x]))) h'' s.heap.objs.size (.frz (tupO [.int i tk, u']) (.tup [.int (i : Nat), x])) :=
      ⟨hT2, (by show 2 ≤ sizeLine; decide), [.int i tk, u'], .cons ⟨_, rfl⟩ (.cons ru .nil), ⟨_, hT2, rfl, _, rfl⟩⟩
    have I1 : Inv X pins σ (upd H s.heap.objs.size (.frz (tupO [.int i tk, u']) (.tup [.int (i : Nat), x]))) { s with heap := h'', toks := tk + 1 } :=
      I.turnedNew (ch := [e, it]) (fun b ob hb q => (sb.2 b (fun z => hb (by simp [z]))).trans (hk b ob (fun z => hb (by simp [z])) (fun z => hb (by simp [z])) q)) hf (Nat.le_refl _) new
    refine ⟨.ref s.heap.objs.size, _, I1, rfl, ⟨_, x, _, rfl, I.hok.fresh (Nat.le_refl _), rfl, rfl, fun ys hy => by rw [I.tuple_inj hy hq]; exact hx⟩, ⟨⟨u', ?_⟩, hit'.1.at fun o q => (sb.2 it (Ne.symm hne)).trans q, hne⟩, fun b hb => ?_⟩
    · have e1 : ((i + 1 : Nat) : Int) = (i : Int) + 1 := by omega
      rw [e1]; exact he'
    · have hb' : b < s.heap.objs.size := by
        have e' : b = e ∨ b = it := by simpa using hb
        rcases e' with z | z
        · rw [z]; exact hel
        · rw [z]; exact hil
      rw [upd_ne (Nat.ne_of_lt hb')]
      exact (hf b hb).1
  done := by
    intro X hP hw hK hc i pins s σ H E I hf st hg
    subst hP hw hK
    obtain ⟨⟨old, he⟩, hit, hne⟩ := st
    obtain ⟨xs, hq, hx⟩ := hg
    obtain ⟨its, rv, p, hz⟩ := I.tuple hq
    obtain ⟨f0, f1, f2, f3, f4, f5⟩ := hf it (by simp)
    have hl := rv.length
    have hT : s.heap.IsTuple a its.toArray := p
    have hae : a ≠ it := fun z => by
      obtain ⟨o, q, c, _⟩ := hit
      obtain ⟨o', q', c', _⟩ := hT
      rw [z, q] at q'; cases q'; rw [c] at c'; exact (show Value.type "tuple_iterator" ≠ Value.type "tuple" by decide +kernel) c'
    obtain ⟨ot, ht, hct, hdt⟩ := hit
    unfold pyNext
    have hTe : s.TypeIs (.ref e) "enumerate" := ⟨_, he, rfl⟩
    refine wpAny_bind (wpAny_attempt (wpAny_callSpecial?_slot (name := Str.ofString "__next__") hTe F.slot_enumerate_next
      (wpAny_call_entry F.slot_enumerate_next hTe F.entry_enumerate_next ?_ (F.args_enumerate_next_1 _))))
    show wpAny _ _ (field (.ref e) 2 >>= _) _ _ _
    refine wpAny_bind (wpAny_field he rfl (x := .ref it) rfl ?_)
    refine wpAny_bind (wpAny_nextOf_tuple_end (hh := I.ok.hd hc) ⟨ot, ht, hct, hdt⟩ hT (by simp; omega) fun h' x he' hx' => ?_)
    obtain ⟨o, ho, hc'⟩ := hx'
    refine wpAny_bind (wpAny_isInstance (T := "StopIteration") (b := true) ⟨o, ho, hc'⟩ isSubtype_stop ?_)
    exact wpAny_pure ⟨rfl, I.turned (t' := s.toks) (fun b o hb q => he' b o hb q) f0 f1 f3 f4 f5⟩
  self := fun A i s Q E st h => let ⟨⟨_, he⟩, _⟩ := st; wpAny_pyIter_enum he h

def iEnumA (K : PySem.W.Frag) (ta : TA) : TI := fun σ H R => ta σ H fun vs H1 => ∃ a xs, vs = [.ref a] ∧ ((SqL K H1 a xs ∧ R (IteF K a) H1) ∨ (SqT K H1 a xs ∧ R (IteT K a) H1))
theorem pi_enumA {X : Cx} {e : Expr} {ta : TA} {p pos tpos : Pos} {elts : List Expr} {kk : Nat} (hg : Gl X "enumerate") (hm : X.mg "enumerate" = none) (ha : PA X [e] ta) (hs : starEach [e] X.env = [(false, eval e X.env)]) :
    PI X (.Tuple elts kk tpos) (.Call (.Name "enumerate" p) [e] [] pos) (iEnumA X.K ta) := by
  refine ⟨fun pins s σ H R I h => ?_⟩
  refine PyProof.Rows.Call_ (ld_blt I hg hm PyProof.Rows.boot_enumerate (PyProof.Rows.callWith_type1 (thn (ha.run pos pins s σ H _ I h) fun us s1 ⟨vs, H1, I1, r1, q1⟩ => ?_) hs rfl))
  obtain ⟨a, xs, ex, q1⟩ := q1
  subst ex
  cases r1 with
  | cons r rr =>
    cases rr
    cases r
    have fp : ∀ b ∈ [s1.heap.objs.size + 1, s1.heap.objs.size], FpOk X pins H1 b := fun b hb => by
      have e' : b = s1.heap.objs.size + 1 ∨ b = s1.heap.objs.size := by simpa using hb
      have hle : s1.heap.objs.size ≤ b := by
        rcases e' with z | z
        · rw [z]; exact Nat.le_add_right _ _
        · rw [z]; exact Nat.le_refl _
      exact I1.fpOk hle (I1.hok.fresh hle)
    rcases q1 with ⟨hq, q⟩ | ⟨hq, q⟩
    · obtain ⟨its, rv, p', hz⟩ := I1.list hq
      refine call_enumerate_list p'.isList fun h' he hit hsz hk => wpAny_pyIter_enum he ?_
      have I2 : Inv X pins σ H1 { s1 with heap := h' } := I1.kept (t' := s1.toks) hk
      exact ⟨s1.heap.objs.size + 1, [s1.heap.objs.size + 1, s1.heap.objs.size], _, _, H1, rfl, I2, turn_enumF a (s1.heap.objs.size + 1) s1.heap.objs.size, ⟨⟨.none, he⟩, hit, Nat.succ_ne_self _⟩, fp, q⟩
    · obtain ⟨its, rv, p', hz⟩ := I1.tuple hq
      refine pev_call_enum p' fun h' he hit hsz hk => wpAny_pyIter_enum he ?_
      have I2 : Inv X pins σ H1 { s1 with heap := h' } := I1.kept (t' := s1.toks) hk
      exact ⟨s1.heap.objs.size + 1, [s1.heap.objs.size + 1, s1.heap.objs.size], _, _, H1, rfl, I2, turn_enumT a (s1.heap.objs.size + 1) s1.heap.objs.size, ⟨⟨.none, he⟩, hit, Nat.succ_ne_self _⟩, fp, q⟩
section
variable {X : Cx} {G : Gc} {Ex : WX} {a : Expr} {pos p : Pos} {ras : EvFs}
def enP (k : Nat) : List Pv → List Pv
  | [] => []
  | x :: xs => .tup [.int (k : Nat), x] :: enP (k + 1) xs
def en1 : List Pv → Option (List Pv)
  | [.tup xs] => some (enP 0 xs)
  | [.lst xs] => some (enP 0 xs)
  | _ => none
theorem enP_len : ∀ (k : Nat) (xs : List Pv), (enP k xs).length = xs.length
  | _, [] => rfl
  | k, _ :: xs => congrArg (· + 1) (enP_len (k + 1) xs)
theorem enP_get : ∀ {k : Nat} {xs : List Pv} {i : Nat} {v : Pv}, xs[i]? = some v → (enP k xs)[i]? = some (.tup [.int ((k + i : Nat) : Int), v])
  | _, [], _, _, h => by simp at h
  | k, x :: xs, 0, v, h => by simp at h; subst h; simp [enP]
  | k, x :: xs, i + 1, v, h => by
    have := enP_get (k := k + 1) (xs := xs) (i := i) (v := v) (by simpa using h)
    simp only [enP, List.getElem?_cons_succ, this]
    rw [show k + 1 + i = k + (i + 1) by omega]
theorem i_enum {elts : List Expr} {kk : Nat} {tpos : Pos} (hK : X.K = G.K) (hg : Gl X "enumerate") (hm : X.mg "enumerate" = none) (ha : PA X [a] (tA G Ex ras)) (hs : starEach [a] X.env = [(false, eval a X.env)]) :
    PI X (.Tuple elts kk tpos) (.Call (.Name "enumerate" p) [a] [] pos) (tI G Ex (evRg en1 ras)) := by
  refine pi_imp (pi_enumA hg hm ha hs) fun σ H R h => ?_
  obtain ⟨H0, W, S, env, A, o⟩ := h
  refine ⟨H0, W, S, env, A, o.bind fun vs S1 W1 H1 xs e1 w1 r1 o1 => ?_⟩
  cases q : en1 vs with
  | none => rw [q] at o1; exact o1.elim
  | some zs =>
    rw [q] at o1
    unfold en1 at q
    split at q
    · rename_i xs'
      cases q
      obtain ⟨x1, rfl, r⟩ := rvs1 r1
      cases r with
      | tup h1 h2 =>
        rename_i aa va
        refine ⟨aa, va, rfl, .inr ⟨by rw [hK]; exact sqT_of w1 h1, o1 _ _ _ (Ext.refl _ _) w1 ?_⟩⟩
        rw [hK]
        have l1 := h2.length
        refine ⟨fun i W2 H2 S2 hi e w => ?_, fun i W2 H2 S2 x H3 hi e w y => ?_, fun W2 H2 S2 e w => ?_⟩
        · rw [enP_len] at hi
          have i1 : i < va.length := by omega
          exact ⟨va, va[i], sqT_of w (sqT_le e.F h1), by simp [i1]⟩
        · obtain ⟨T, x, ob, rfl, hT, hd, e3, g1⟩ := y
          obtain ⟨vx, p1, p2⟩ := (h2.mono e).getV (g1 va (sqT_of w (sqT_le e.F h1)))
          obtain ⟨W3, e4, w3, r3⟩ := pair_new w hT hd e3 (.int (i : Nat)) p2
          exact ⟨W3, _, by rw [enP_get p1, Nat.zero_add], e4, w3, r3⟩
        · exact ⟨va, sqT_of w (sqT_le e.F h1), by rw [enP_len]; omega⟩
    · rename_i xs'
      cases q
      obtain ⟨x1, rfl, r⟩ := rvs1 r1
      cases r with
      | lst h1 h2 =>
        rename_i aa va
        have k1 : SqL G.K W1.F aa va := .inl (.inl h1)
        refine ⟨aa, va, rfl, .inl ⟨by rw [hK]; exact sqL_of w1 k1, o1 _ _ _ (Ext.refl _ _) w1 ?_⟩⟩
        rw [hK]
        have l1 := h2.length
        refine ⟨fun i W2 H2 S2 hi e w => ?_, fun i W2 H2 S2 x H3 hi e w y => ?_, fun W2 H2 S2 e w => ?_⟩
        · rw [enP_len] at hi
          have i1 : i < va.length := by omega
          exact ⟨va, va[i], sqL_of w (sqL_le e.F k1), by simp [i1]⟩
        · obtain ⟨T, x, ob, rfl, hT, hd, e3, g1⟩ := y
          obtain ⟨vx, p1, p2⟩ := (h2.mono e).getV (g1 va (sqL_of w (sqL_le e.F k1)))
          obtain ⟨W3, e4, w3, r3⟩ := pair_new w hT hd e3 (.int (i : Nat)) p2
          exact ⟨W3, _, by rw [enP_get p1, Nat.zero_add], e4, w3, r3⟩
        · exact ⟨va, sqL_of w (sqL_le e.F k1), by rw [enP_len]; omega⟩
    · cases q
end
end Pev

set_option Elab.async false
set_option linter.all false
set_option maxRecDepth 100000
set_option maxHeartbeats 4000000
namespace Pev
open PySem PySem.Spec L2
/-! ### targets -/
inductive Tg where
  | nm (i : Nat) | tp (ts : List Tg)
mutual
def bindT : Tg → Pv → List Slot → Option (List Slot)
  | .nm i, v, env => match env[i]? with | some s => (match s.pinned with | true => none | false => some (env.set i (.val v))) | none => none
  | .tp ts, .tup vs, env => bindTs ts vs env
  | _, _, _ => none
def bindTs : List Tg → List Pv → List Slot → Option (List Slot)
  | [], [], env => some env
  | t :: ts, v :: vs, env => match bindT t v env with | some env' => bindTs ts vs env' | none => none
  | _, _, _ => none
end
section
variable {X : Cx} {G : Gc} {H0 : Gh} {W : Wd} {S : Sto} {σ : L2.St} {H : Hp} {env : List Slot}
theorem set_ne {α : Type} {env : List α} {i j : Nat} {x y : α} (h : (env.set i x)[j]? = some y) (hxy : x ≠ y) : i ≠ j := fun e => by
  subst e
  by_cases hi : i < env.length
  · rw [List.getElem?_set_self hi] at h; cases h; exact hxy rfl
  · rw [List.getElem?_eq_none (by simpa using hi)] at h; cases h
theorem SOk.set (s : SOk G H0 W σ H env) (i : Nat) {x : V} {v : Pv} (r : RV G W x v) : SOk G H0 W (σ.set i (some x)) H (env.set i (.val v)) := by
  refine ⟨by simp [s.len], fun j v' h => ?_, fun j xs h => ?_, fun j c fs h => ?_, fun j h => ?_, fun j k xs ys a h1 h2 h3 h4 => ?_⟩
  · by_cases e : i = j
    · subst e
      by_cases hi : i < env.length
      · rw [List.getElem?_set_self hi] at h; cases h
        exact ⟨x, by rw [List.getElem?_set_self (by rw [← s.len]; exact hi)], r⟩
      · rw [List.getElem?_eq_none (by simpa using hi)] at h; cases h
    · rw [List.getElem?_set_ne e] at h
      rw [List.getElem?_set_ne e]
      exact s.val j v' h
  · have e := set_ne h (by simp)
    rw [List.getElem?_set_ne e] at h
    rw [List.getElem?_set_ne e]
    exact s.own j xs h
  · have e := set_ne h (by simp)
    rw [List.getElem?_set_ne e] at h
    rw [List.getElem?_set_ne e]
    exact s.exc j c fs h
  · have e := set_ne h (by simp)
    rw [List.getElem?_set_ne e] at h
    rw [List.getElem?_set_ne e]
    exact s.thk j h
  · have n1 := set_ne h1 (by simp)
    have n2 := set_ne h2 (by simp)
    rw [List.getElem?_set_ne n1] at h1 h3
    rw [List.getElem?_set_ne n2] at h2 h4
    exact s.apart j k xs ys a h1 h2 h3 h4
theorem At.set (A : At G H0 W S σ H env) (i : Nat) {x : V} {v : Pv} (r : RV G W x v) : At G H0 W S (σ.set i (some x)) H (env.set i (.val v)) := ⟨A.w, A.s.set i r, A.e0⟩
mutual

def Tg.slots : Tg → List Nat
  | .nm i => [i]
  | .tp ts => slotsL ts
def slotsL : List Tg → List Nat
  | [] => []
  | t :: ts => t.slots ++ slotsL ts
end
def tG (G : Gc) (t : Tg) : TG := fun x σ H Q => ∃ H0 W S env v env', At G H0 W S σ H env ∧ RV G W x v ∧ bindT t v env = some env' ∧ ∀ σ', (∀ j, j ∉ t.slots → σ'[j]? = σ[j]?) → σ'.length = σ.length → At G H0 W S σ' H env' → Q σ' H
def tGs (G : Gc) (ts : List Tg) : TGs := fun xs σ H Q => ∃ H0 W S env vs env', At G H0 W S σ H env ∧ RVs G W xs vs ∧ bindTs ts vs env = some env' ∧ ∀ σ', (∀ j, j ∉ slotsL ts → σ'[j]? = σ[j]?) → σ'.length = σ.length → At G H0 W S σ' H env' → Q σ' H
theorem pg_imp {tg : Expr} {t t' : TG} (h : PG X tg t) (k : ∀ x σ H Q, t' x σ H Q → t x σ H Q) : PG X tg t' := ⟨fun pins s σ H v u Q I r q => h.run pins s σ H v u Q I r (k v σ H Q q)⟩
theorem pgs_imp {ts : List Expr} {t t' : TGs} (h : PGs X ts t) (k : ∀ x σ H Q, t' x σ H Q → t x σ H Q) : PGs X ts t' := ⟨fun pins s σ H v u Q I r q => h.run pins s σ H v u Q I r (k v σ H Q q)⟩
theorem g_name {i : Nat} {x : Str} {pos : Pos} (hN : X.N.Nodup) (hi : X.N[i]? = some x) (hx : Loc X.env.scope x) (hf : X.fn x = true ∨ X.env.scope.names.lookup x = some .local) : PG X (.Name x pos) (tG G (.nm i)) :=
  pg_imp (pg_name hN hi hx hf) fun x σ H Q h => by
    obtain ⟨H0, W, S, env, v, env', A, r, b, q⟩ := h
    have b' : env.set i (.val v) = env' := by
      unfold bindT at b
      split at b
      · split at b
        · cases b
        · exact Option.some.inj b
      · cases b
    subst b'
    exact q _ (fun j hj => by rw [List.getElem?_set_ne (fun e => hj (by simp [Tg.slots, e]))]) (by simp) (A.set i r)
theorem gs_nil : PGs X [] (tGs G []) := pgs_imp pgs_nil fun xs σ H Q h => by
  obtain ⟨H0, W, S, env, vs, env', A, r, b, q⟩ := h
  cases r with
  | nil => simp only [bindTs] at b; cases b; exact ⟨rfl, q σ (fun _ _ => rfl) rfl A⟩
  | cons h1 h2 => simp [bindTs] at b
theorem gs_cons {e : Expr} {es : List Expr} {t : Tg} {ts : List Tg} (h1 : PG X e (tG G t)) (h2 : PGs X es (tGs G ts)) (hs : (assignEach (e :: es) X.env).map (·.2) = assign e X.env :: (assignEach es X.env).map (·.2)) : PGs X (e :: es) (tGs G (t :: ts)) :=
  pgs_imp (pgs_cons h1 h2 hs) fun xs σ H Q h => by
    obtain ⟨H0, W, S, env, vs, env', A, r, b, q⟩ := h
    cases r with
    | nil => simp [bindTs] at b
    | cons r1 r2 =>
      simp only [bindTs] at b
      rename_i x v xs' vs'
      cases c : bindT t v env with
      | none => rw [c] at b; cases b
      | some env1 =>
        rw [c] at b
        refine ⟨x, xs', rfl, H0, W, S, env, v, env1, A, r1, c, fun σ1 k1 l1 A1 => ⟨H0, W, S, env1, vs', env', A1, r2, b, fun σ2 k2 l2 A2 => q σ2 (fun j hj => ?_) (l2.trans l1) A2⟩⟩
        rw [k2 j (fun e => hj (by simp [slotsL, e])), k1 j (fun e => hj (by simp [slotsL, e]))]
theorem g_tup {es : List Expr} {k : Nat} {pos : Pos} {ts : List Tg} (hK : X.K = G.K) (hc : X.calm = true) (h : PGs X es (tGs G ts)) (hn : (assignEach es X.env).length = ts.length) (hst : (assignEach es X.env).findIdx? (·.1) = none) : PG X (.Tuple es k pos) (tG G (.tp ts)) :=
  pg_imp (pg_tup (n := ts.length) hc h hn hst) fun x σ H Q h => by
    obtain ⟨H0, W, S, env, v, env', A, r, b, q⟩ := h
    cases r with
    | tup h1 h2 =>
      rename_i a xs vs
      simp only [bindT] at b
      have len : ∀ {ts : List Tg} {vs : List Pv} {env env' : List Slot}, bindTs ts vs env = some env' → vs.length = ts.length := by
        intro ts
        induction ts with
        | nil => intro vs env env' h; cases vs with
          | nil => rfl
          | cons _ _ => simp [bindTs] at h
        | cons t ts ih => intro vs env env' h; cases vs with
          | nil => simp [bindTs] at h
          | cons v vs =>
            simp only [bindTs] at h
            cases c : bindT t v env with
            | none => rw [c] at h; cases h
            | some e1 => rw [c] at h; simp [ih h]
      exact ⟨a, xs, rfl, by rw [hK]; exact sqT_of A.w h1, by rw [h2.length]; exact len b, H0, W, S, env, vs, env', A, h2, b, fun σ' k l A' => q σ' (fun j hj => k j (by simpa [Tg.slots] using hj)) l A'⟩
    | _ => simp [bindT] at b
end

/-! ### new lists -/
/-- a run that gives a list no one else holds -/
def OutF (G : Gc) (W : Wd) (H : Hp) (σ : L2.St) (Ex : WX) (Q : VK) : Res (List Pv) → Prop
  | .ok xs S' => ∀ W' H' p vs, Ext W H W' H' → WOk G W' H' S' → Nt H p → H' p = some (.lst vs) → W'.F p = none → RVs G W' vs xs → Q (.ref p) H'
  | .exc c fs S' => ∀ W' H' cls d, Ext W H W' H' → WOk G W' H' S' → RX G W' H' cls d c fs → Ex cls d σ H'
  | .stuck => False
def tF (G : Gc) (Ex : WX) (rs : EvFs) : TE := fun σ H Q => ∃ H0 W S env, At G H0 W S σ H env ∧ OutF G W H σ Ex Q (rs env S)
def evFrz (rs : EvFs) : EvF := fun env S => (rs env S).bind fun xs S' => .ok (.lst xs) S'
section
variable {X : Cx} {G : Gc} {Ex : WX} {e : Expr} {rs : EvFs}
theorem OutF.shift {W W1 : Wd} {H H1 : Hp} {σ : L2.St} {Q : VK} {r : Res (List Pv)} (h : OutF G W H σ Ex Q r) (e : Ext W H W1 H1) : OutF G W1 H1 σ Ex Q r := by
  cases r with
  | ok a S' => exact fun W' H' p vs e' w n hp f rv => h W' H' p vs (e.trans e') w (e.nt n) hp f rv
  | exc c fs S' => exact fun W' H' cls d e' w rx => h W' H' cls d (e.trans e') w rx
  | stuck => exact h
theorem OutF.bind {α β : Type} {W : Wd} {H : Hp} {σ : L2.St} {R : Wd → β → α → Prop} {Q : VK} {P : β → Hp → Prop} {r : Res α} {f : α → Sto → Res (List Pv)} (h : OutF G W H σ Ex Q (r.bind f))
    (k : ∀ a S1 W1 H1 x, Ext W H W1 H1 → WOk G W1 H1 S1 → R W1 x a → OutF G W1 H1 σ Ex Q (f a S1) → P x H1) : Out G W H σ Ex R P r := by
  cases r with
  | ok a S' => exact fun W' H' x e w rv => k a S' W' H' x e w rv (OutF.shift h e)
  | exc c fs S' => exact h
  | stuck => exact h
theorem OutF.bindI {W : Wd} {H : Hp} {σ : L2.St} {RI : It → Hp → Prop} {Q : VK} {r : Res (List Pv)} {f : List Pv → Sto → Res (List Pv)} (h : OutF G W H σ Ex Q (r.bind f))
    (k : ∀ xs S1 W1 H1 J, Ext W H W1 H1 → WOk G W1 H1 S1 → Wlk G J W1 xs → OutF G W1 H1 σ Ex Q (f xs S1) → RI J H1) : OutI G W H σ Ex RI r := by
  cases r with
  | ok a S' => exact fun W' H' x e w rv => k a S' W' H' x e w rv (OutF.shift h e)
  | exc c fs S' => exact h
  | stuck => exact h
theorem e_frz (h : PE X e (tF G Ex rs)) : PE X e (tE G Ex (evFrz rs)) := pe_imp h fun σ H Q h => by
  obtain ⟨H0, W, S, env, A, o⟩ := h
  refine ⟨H0, W, S, env, A, ?_⟩
  unfold evFrz at o
  cases q : rs env S with
  | stuck => rw [q] at o; exact o
  | exc c fs S' => rw [q] at o; exact o
  | ok xs S' =>
    rw [q] at o
    intro W' H' p vs e w n hp f rv
    have w2 := w.freeze hp (show Plain (.lst vs) from trivial) (w.off hp fun _ z => by cases z)
    have le : W'.Le ⟨upd W'.F p (.lst vs), W'.ad⟩ := ⟨fun a u h => by
      show upd W'.F p (.lst vs) a = _
      rw [upd_ne (ne_of_none h f)]; exact h, fun _ _ h => h⟩
    refine o ⟨upd W'.F p (.lst vs), W'.ad⟩ H' _ ⟨fun a u h => le.F a u (e.F a u h), fun a u h n' t => ?_, e.keep, e.there, e.ad⟩ w2 (.lst upd_same (rv.mono le))
    show upd W'.F p (.lst vs) a = none
    rw [upd_ne (n.ne n' t)]
    exact e.fresh a u h n' t
theorem f_lst {es : List Expr} {ras : EvFs} {pos : Pos} (hs : PA X es (tA G Ex ras)) : PE X (.List es pos) (tF G Ex fun env S => (ras env S).bind fun vs S1 => match Nat.ble vs.length capLen with | true => .ok vs S1 | false => .stuck) := by
  refine pe_imp (pe_lst hs) fun σ H Q h => ?_
  obtain ⟨H0, W, S, env, A, o⟩ := h
  refine ⟨H0, W, S, env, A, o.bind fun vs S1 W1 H1 xs e1 w1 r1 o1 => ?_⟩
  cases q : Nat.ble vs.length capLen with
  | false => rw [q] at o1; exact o1.elim
  | true =>
    rw [q] at o1
    refine ⟨cap_line (by rw [r1.length]; exact Nat.le_of_ble_eq_true q), fun p hp => ?_⟩
    obtain ⟨w2, e2⟩ := w1.new (o := .lst xs) hp
    have fp : W1.F p = none := by
      cases z : W1.F p with
      | none => rfl
      | some u => have := w1.le p u z; rw [hp] at this; cases this
    exact o1 W1 _ p xs e2 w2 (.of hp) upd_same fp r1
end

/-! ### list comprehensions -/
def wipeE (env : List Slot) : List Nat → List Slot
  | [] => env
  | v :: vs => (wipeE env vs).set v .un
theorem wipeE_len (env : List Slot) : ∀ vs, (wipeE env vs).length = env.length
  | [] => rfl
  | v :: vs => by unfold wipeE; rw [List.length_set, wipeE_len env vs]
theorem wipeE_some {env : List Slot} {i : Nat} {x : Slot} (hx : x ≠ .un) : ∀ {vs : List Nat}, (wipeE env vs)[i]? = some x → env[i]? = some x ∧ i ∉ vs
  | [], h => ⟨h, by simp⟩
  | v :: vs, h => by
    unfold wipeE at h
    by_cases hi : v = i
    · subst hi
      by_cases hv : v < (wipeE env vs).length
      · rw [List.getElem?_set_self hv] at h; cases h; exact absurd rfl hx
      · rw [List.getElem?_eq_none (by simpa using hv)] at h; cases h
    · rw [List.getElem?_set_ne hi] at h
      obtain ⟨h1, h2⟩ := wipeE_some hx h
      exact ⟨h1, by simp only [List.mem_cons, not_or]; exact ⟨fun e => hi e.symm, h2⟩⟩
theorem wipe_get {σ : L2.St} {i : Nat} : ∀ {vs : List Nat}, i ∉ vs → (wipe σ vs)[i]? = σ[i]?
  | [], _ => rfl
  | v :: vs, h => by
    simp only [List.mem_cons, not_or] at h
    unfold wipe
    rw [List.getElem?_set_ne (fun e => h.1 e.symm), wipe_get h.2]
theorem SOk.wipe {G : Gc} {H0 : Gh} {W : Wd} {σ : L2.St} {H : Hp} {env : List Slot} (s : SOk G H0 W σ H env) (vs : List Nat) : SOk G H0 W (L2.wipe σ vs) H (wipeE env vs) := by
  refine ⟨by rw [wipeE_len, wipe_length, s.len], fun i v h => ?_, fun i xs h => ?_, fun i c fs h => ?_, fun i h => ?_, fun i j xs ys a h1 h2 h3 h4 => ?_⟩
  · obtain ⟨h1, h2⟩ := wipeE_some (by simp) h
    rw [wipe_get h2]; exact s.val i v h1
  · obtain ⟨h1, h2⟩ := wipeE_some (by simp) h
    rw [wipe_get h2]; exact s.own i xs h1
  · obtain ⟨h1, h2⟩ := wipeE_some (by simp) h
    rw [wipe_get h2]; exact s.exc i c fs h1
  · obtain ⟨h1, h2⟩ := wipeE_some (by simp) h
    rw [wipe_get h2]; exact s.thk i h1
  · obtain ⟨k1, n1⟩ := wipeE_some (by simp) h1
    obtain ⟨k2, n2⟩ := wipeE_some (by simp) h2
    rw [wipe_get n1] at h3
    rw [wipe_get n2] at h4
    exact s.apart i j xs ys a k1 k2 h3 h4
theorem wipe_same {σ σ' : L2.St} : ∀ {vs : List Nat}, σ'.length = σ.length → (∀ j, j ∉ vs → σ'[j]? = (wipe σ vs)[j]?) → wipe σ' vs = wipe σ vs := by
  intro vs hl h
  apply List.ext_getElem?
  intro i
  by_cases hi : i ∈ vs
  · have wn : ∀ {τ : L2.St} {ws : List Nat}, i ∈ ws → i < τ.length → (wipe τ ws)[i]? = some none := by
      intro τ ws
      induction ws with
      | nil => intro h; cases h
      | cons w ws ih =>
        intro h hlt
        unfold wipe
        by_cases e : w = i
        · subst e; rw [List.getElem?_set_self (by rw [wipe_length]; exact hlt)]
        · rw [List.getElem?_set_ne e]
          rcases List.mem_cons.mp h with h | h
          · exact absurd h.symm e
          · exact ih h hlt
    by_cases hlt : i < σ.length
    · rw [wn hi (by rw [hl]; exact hlt), wn hi hlt]
    · rw [List.getElem?_eq_none (by rw [wipe_length, hl]; omega), List.getElem?_eq_none (by rw [wipe_length]; omega)]
  · rw [wipe_get hi, h i hi]
def compGo (t : Tg) (rt : List Slot → Sto → Res Bool) (re : EvF) (env0 : List Slot) : List Pv → Sto → Res (List Pv)
  | [], S => .ok [] S
  | x :: xs, S => match bindT t x env0 with
    | none => .stuck
    | some env => match rt env S with
      | .ok true S1 => (match re env S1 with
        | .ok v S2 => (match compGo t rt re env0 xs S2 with
          | .ok vs S3 => .ok (v :: vs) S3
          | _ => .stuck)
        | _ => .stuck)
      | .ok false S1 => compGo t rt re env0 xs S1
      | _ => .stuck
def evComp (t : Tg) (own : List Nat) (rs : EvFs) (rt : List Slot → Sto → Res Bool) (re : EvF) : EvFs := fun env S => (rs env S).bind fun xs S1 => match Nat.ble xs.length capLen with
  | true => compGo t rt re (wipeE env own) xs S1
  | false => .stuck
abbrev noX : WX := fun _ _ _ _ => False
theorem compGo_noexc {t : Tg} {rt : List Slot → Sto → Res Bool} {re : EvF} {env0 : List Slot} : ∀ {xs : List Pv} {S : Sto} {c : Nat} {fs : Ent} {S' : Sto}, compGo t rt re env0 xs S ≠ .exc c fs S'
  | [], S, _, _, _, h => by simp [compGo] at h
  | x :: xs, S, _, _, _, h => by
    unfold compGo at h
    split at h
    · cases h
    · split at h
      · split at h
        · split at h
          · cases h
          · cases h
        · cases h
      · exact compGo_noexc h
      · cases h
section
variable {X : Cx} {G : Gc} {Ex : WX} {elt tg iter : Expr} {ifs : List Expr} {scope : Scope} {own : List (Str × Nat)} {pos : Pos} {t : Tg} {rs : EvFs} {rt : List Slot → Sto → Res Bool} {re : EvF}
/-- the comprehension's reading -/
theorem lc_read {σ : L2.St} {H : Hp} {Q : VK} (hslots : ∀ j ∈ t.slots, j ∈ own.map (·.2)) (h : tF G Ex (evComp t (own.map (·.2)) rs rt re) σ H Q) :
    tLc (tI G Ex rs) (tG G t) (tT G noX rt) (tE G noX re) (own.map (·.2)) σ H Q := by
  obtain ⟨H0, W, S, env, A, o⟩ := h
  refine ⟨H0, W, S, env, A, o.bindI fun xs S1 W1 H1 J e1 w1 wk o1 D hD => ?_⟩
  cases c : Nat.ble xs.length capLen with
  | false => rw [c] at o1; exact o1.elim
  | true =>
    rw [c] at o1
    have hcap := Nat.le_of_ble_eq_true c
    have fD : ∀ {W2 : Wd} {H2 : Hp}, W1.F D = none := fun {W2 H2} => by
      cases z : W1.F D with
      | none => rfl
      | some u => have := w1.le D u z; rw [hD] at this; cases this
    -- the invariant
    refine ⟨fun i m H' => m = xs.length - i ∧ i ≤ xs.length ∧ ∃ W2 S2 acc vacc rest S3, Ext W1 H1 W2 H' ∧ WOk G W2 H' S2 ∧ H' D = some (.lst acc) ∧ W2.F D = none ∧ acc.length ≤ i ∧ RVs G W2 acc vacc ∧
      compGo t rt re (wipeE env (own.map (·.2))) (xs.drop i) S2 = .ok rest S3 ∧ compGo t rt re (wipeE env (own.map (·.2))) xs S1 = .ok (vacc ++ rest) S3, ?_, ?_⟩
    · obtain ⟨w2, e2⟩ := w1.new (o := .lst []) hD
      cases q : compGo t rt re (wipeE env (own.map (·.2))) xs S1 with
      | stuck => rw [q] at o1; exact o1.elim
      | exc _ _ _ => exact absurd q compGo_noexc
      | ok rest S3 => exact ⟨xs.length, by simp, Nat.zero_le _, W1, S1, [], [], rest, S3, e2, w2, upd_same, fD (W2 := W1) (H2 := H1), Nat.le_refl _, .nil, q, by simp⟩
    · rintro i m H' ⟨rfl, hi, W2, S2, acc, vacc, rest, S3, e2, w2, hacc, f2, hl, racc, g1, g2⟩
      by_cases hlt : i < xs.length
      · refine .inr ⟨wk.go i W2 H' S2 hlt e2.le w2, fun H' => i + 1 ≤ xs.length ∧ ∃ W2 S2 acc vacc rest S3, Ext W1 H1 W2 H' ∧ WOk G W2 H' S2 ∧ H' D = some (.lst acc) ∧ W2.F D = none ∧ acc.length ≤ i + 1 ∧ RVs G W2 acc vacc ∧
          compGo t rt re (wipeE env (own.map (·.2))) (xs.drop (i + 1)) S2 = .ok rest S3 ∧ compGo t rt re (wipeE env (own.map (·.2))) xs S1 = .ok (vacc ++ rest) S3, fun H'' hh => ⟨xs.length - (i + 1), by omega, rfl, hh.1, hh.2⟩, fun x H3 y => ?_⟩
        obtain ⟨W3, v, hv, e3, w3, rv⟩ := wk.yld i W2 H' S2 x H3 hlt e2.le w2 y
        have hdrop : xs.drop i = v :: xs.drop (i + 1) := by
          rw [List.drop_eq_getElem_cons hlt]
          have : xs[i] = v := by rw [List.getElem?_eq_getElem hlt] at hv; exact Option.some.inj hv
          rw [this]
        rw [hdrop] at g1
        have stay : ∀ {W4 : Wd} {H4 : Hp}, Ext W3 H3 W4 H4 → H4 D = some (.lst acc) ∧ W4.F D = none := fun {W4 H4} e4 => by
          have e24 := e3.trans e4
          exact ⟨e24.keep D _ hacc (w2.off hacc fun _ z => by cases z) (fun _ z => by cases z), e24.fresh D _ f2 hacc (fun _ z => by cases z)⟩
        have A3 : At G H0 W3 S2 (L2.wipe σ (own.map (·.2))) H3 (wipeE env (own.map (·.2))) := ⟨w3, (A.s.ext A.w (e1.trans (e2.trans e3))).wipe _, A.e0.trans (e1.trans (e2.trans e3))⟩
        cases cb : bindT t v (wipeE env (own.map (·.2))) with
        | none => unfold compGo at g1; rw [cb] at g1; cases g1
        | some env1 =>
          refine ⟨H0, W3, S2, _, v, env1, A3, rv, cb, fun σ2 k2 l2 A2 => ⟨wipe_same (l2.trans (wipe_length _ _)) fun j hj => k2 j fun hs => hj (hslots j hs), ?_⟩⟩
          unfold compGo at g1
          rw [cb] at g1
          simp only at g1
          refine ⟨H0, W3, S2, env1, A2, ?_⟩
          cases ct : rt env1 S2 with
          | stuck => rw [ct] at g1; cases g1
          | exc _ _ _ => rw [ct] at g1; cases g1
          | ok b S4 =>
            rw [ct] at g1
            intro W4 H4 bb e4 w4 eb
            subst eb
            cases bb with
            | false =>
              simp only at g1
              rw [if_neg Bool.false_ne_true]
              obtain ⟨k1, k2'⟩ := stay e4
              exact ⟨hlt, W4, S4, acc, vacc, rest, S3, e2.trans (e3.trans e4), w4, k1, k2', by omega, racc.mono (e3.trans e4).le, g1, g2⟩
            | true =>
              simp only at g1
              rw [if_pos rfl]
              refine ⟨H0, W4, S4, env1, A2.ext e4 w4, ?_⟩
              cases ce : re env1 S4 with
              | stuck => rw [ce] at g1; cases g1
              | exc _ _ _ => rw [ce] at g1; cases g1
              | ok v' S5 =>
                rw [ce] at g1
                simp only at g1
                intro W5 H5 y5 e5 w5 r5
                cases cr : compGo t rt re (wipeE env (own.map (·.2))) (xs.drop (i + 1)) S5 with
                | stuck => rw [cr] at g1; cases g1
                | exc _ _ _ => rw [cr] at g1; cases g1
                | ok rest' S6 =>
                  rw [cr] at g1
                  simp only at g1
                  cases g1
                  obtain ⟨k1, k2'⟩ := stay (e4.trans e5)
                  refine ⟨acc, k1, Nat.lt_of_le_of_lt hl (Nat.lt_of_lt_of_le hlt (cap_line hcap)), hlt, W5, S5, acc ++ [y5], vacc ++ [v'], rest', _, ?_, ?_, upd_same, k2', by rw [List.length_append, List.length_singleton]; omega, (racc.mono (e3.trans (e4.trans e5)).le).append (.cons r5 .nil), cr, by rw [g2]; simp⟩
                  · -- the list at D has grown; D is new
                    have e15 := e2.trans (e3.trans (e4.trans e5))
                    refine ⟨e15.F, e15.fresh, fun a u h n t => ?_, fun a u h t => ?_, e15.ad⟩
                    · rw [upd_ne (ne_of_none h hD)]; exact e15.keep a u h n t
                    · rw [upd_ne (ne_of_none h hD)]; exact e15.there a u h t
                  · exact w5.wr k1 k2'
      · have ei : i = xs.length := by omega
        subst ei
        refine .inl ⟨wk.stop W2 H' S2 e2.le w2, ?_⟩
        rw [List.drop_length] at g1
        unfold compGo at g1
        cases g1
        rw [List.append_nil] at g2
        rw [g2] at o1
        exact o1 W2 H' D acc e2 w2 (.of hD) hacc f2 racc
theorem f_lc (hc : X.calm = true) (hN : X.N.Nodup) (hi : PI X tg iter (tI G Ex rs)) (ok : BlkOk X.N X.env.scope scope own) (hslots : ∀ j ∈ t.slots, j ∈ own.map (·.2))
    (hg : ∀ (s : Shared) (H : Hp) (C : Addr) (cl : List (Str × Addr)) (fp : List Addr), PG (X.blk s H scope (compEnvC scope cl C X.env) fp) tg (tG G t)) (ht : ∀ (s : Shared) (H : Hp) (C : Addr) (cl : List (Str × Addr)) (fp : List Addr), PTs (X.blk s H scope (compEnvC scope cl C X.env) fp) ifs (tT G noX rt))
    (he : ∀ (s : Shared) (H : Hp) (C : Addr) (cl : List (Str × Addr)) (fp : List Addr), PE (X.blk s H scope (compEnvC scope cl C X.env) fp) elt (tE G noX re)) (hs : ∀ x, foldedSetIterable iter X.env x = pure x) :
    PE X (.ListComp elt [⟨tg, iter, ifs, 0⟩] scope pos) (tF G Ex (evComp t (own.map (·.2)) rs rt re)) :=
  pe_imp (pe_lc hc hN hi ok hg ht he hs) fun σ H Q h => lc_read hslots h
theorem pts_yes : PTs X [] (tT G noX fun _ S => .ok true S) := ⟨fun pins s σ H Q I h => pts_nil.run pins s σ H Q I (by
  obtain ⟨H0, W, S, env, A, o⟩ := h
  exact o W H true (Ext.refl _ _) A.w rfl)⟩
end
end Pev

set_option Elab.async false
set_option linter.all false
set_option maxRecDepth 100000
set_option maxHeartbeats 4000000
namespace Pev
open PySem PySem.Spec L2
/-! ### statements -/
inductive ResS where
  | nx (env : List Slot) (S : Sto) | rt (v : Pv) (S : Sto) | bk (env : List Slot) (S : Sto) | ct (env : List Slot) (S : Sto)
  | exc (c : Nat) (fs : Ent) (env : List Slot) (S : Sto) | stuck
abbrev EvS := List Slot → Sto → ResS
def Res.toS {α : Type} (r : Res α) (env : List Slot) (f : α → Sto → ResS) : ResS := match r with
  | .ok a S => f a S
  | .exc c fs S => .exc c fs env S
  | .stuck => .stuck
def OutS (G : Gc) (gh : Gh) (W : Wd) (D : Ends) (Ex : WX) : ResS → Prop
  | .nx env S => ∀ W' H' σ', W.Le W' → At G gh W' S σ' H' env → D.nx σ' H'
  | .rt v S => ∀ W' H' x, W.Le W' → WOk G W' H' S → Ext gh.W0 gh.H0 W' H' → RV G W' x v → D.rt x H'
  | .bk env S => ∀ W' H' σ', W.Le W' → At G gh W' S σ' H' env → D.bk σ' H'
  | .ct env S => ∀ W' H' σ', W.Le W' → At G gh W' S σ' H' env → D.ct σ' H'
  | .exc c fs env S => ∀ W' H' σ' cls d, W.Le W' → At G gh W' S σ' H' env → RX G W' H' cls d c fs → Ex cls d σ' H'
  | .stuck => False
def tS (G : Gc) (Ex : WX) (r : EvS) : TS := fun D σ H => ∃ gh W S env, At G gh W S σ H env ∧ OutS G gh W D Ex (r env S)
theorem ps_imp {X : Cx} {st : Stmt} {t t' : TS} (h : PS X st t) (k : ∀ D σ H, t' D σ H → t D σ H) : PS X st t' := ⟨fun pins s σ H D I q => h.run pins s σ H D I (k D σ H q)⟩
theorem pss_imp {X : Cx} {st : List Stmt} {t t' : TS} (h : PSs X st t) (k : ∀ D σ H, t' D σ H → t D σ H) : PSs X st t' := ⟨fun pins s σ H D I q => h.run pins s σ H D I (k D σ H q)⟩
section
variable {α β : Type} {G : Gc} {gh : Gh} {W W1 : Wd} {H H1 : Hp} {S : Sto} {σ : L2.St} {Ex : WX} {D : Ends} {R : Wd → β → α → Prop} {P : β → Hp → Prop} {env : List Slot}
theorem OutS.shift {r : ResS} (h : OutS G gh W D Ex r) (l : W.Le W1) : OutS G gh W1 D Ex r := by
  cases r with
  | nx env S => exact fun W' H' σ' l' A => h W' H' σ' (l.trans l') A
  | rt v S => exact fun W' H' x l' w e r => h W' H' x (l.trans l') w e r
  | bk env S => exact fun W' H' σ' l' A => h W' H' σ' (l.trans l') A
  | ct env S => exact fun W' H' σ' l' A => h W' H' σ' (l.trans l') A
  | exc c fs env S => exact fun W' H' σ' cls d l' A r => h W' H' σ' cls d (l.trans l') A r
  | stuck => exact h
theorem At.toS (A : At G gh W S σ H env) {r : Res α} {f : α → Sto → ResS} (h : OutS G gh W D Ex (r.toS env f))
    (k : ∀ a S1 W1 H1 x, Ext W H W1 H1 → At G gh W1 S1 σ H1 env → R W1 x a → OutS G gh W1 D Ex (f a S1) → P x H1) : Out G W H σ Ex R P r := by
  cases r with
  | ok a S' => exact fun W' H' x e w rv => k a S' W' H' x e (A.ext e w) rv (OutS.shift h e.le)
  | exc c fs S' => exact fun W' H' cls d e w rx => h W' H' σ cls d e.le (A.ext e w) rx
  | stuck => exact h
theorem At.toSI (A : At G gh W S σ H env) {RI : It → Hp → Prop} {r : Res (List Pv)} {f : List Pv → Sto → ResS} (h : OutS G gh W D Ex (r.toS env f))
    (k : ∀ xs S1 W1 H1 J, Ext W H W1 H1 → At G gh W1 S1 σ H1 env → Wlk G J W1 xs → OutS G gh W1 D Ex (f xs S1) → RI J H1) : OutI G W H σ Ex RI r := by
  cases r with
  | ok a S' => exact fun W' H' x e w rv => k a S' W' H' x e (A.ext e w) rv (OutS.shift h e.le)
  | exc c fs S' => exact fun W' H' cls d e w rx => h W' H' σ cls d e.le (A.ext e w) rx
  | stuck => exact h
theorem At.toSF (A : At G gh W S σ H env) {Q : VK} {r : Res (List Pv)} {f : List Pv → Sto → ResS} (h : OutS G gh W D Ex (r.toS env f))
    (k : ∀ xs S1 W1 H1 p vs, Ext W H W1 H1 → At G gh W1 S1 σ H1 env → Nt H p → H1 p = some (.lst vs) → W1.F p = none → RVs G W1 vs xs → OutS G gh W1 D Ex (f xs S1) → Q (.ref p) H1) : OutF G W H σ Ex Q r := by
  cases r with
  | ok a S' => exact fun W' H' p vs e w n hp fp rv => k a S' W' H' p vs e (A.ext e w) n hp fp rv (OutS.shift h e.le)
  | exc c fs S' => exact fun W' H' cls d e w rx => h W' H' σ cls d e.le (A.ext e w) rx
  | stuck => exact h
end
def evSkip : EvS := fun env S => .nx env S
def evBrk : EvS := fun env S => .bk env S
def evCont : EvS := fun env S => .ct env S
def evSeqS (r1 r2 : EvS) : EvS := fun env S => match r1 env S with
  | .nx env' S' => r2 env' S'
  | o => o
def evIfS (rc : EvF) (ra rb : EvS) : EvS := fun env S => (evT rc env S).toS env fun k S1 => match k with
  | true => ra env S1
  | false => rb env S1
def evRet (ra : EvF) : EvS := fun env S => (ra env S).toS env fun v S1 => .rt v S1
def evRetN : EvS := fun _ S => .rt .non S
def evDrop (ra : EvF) : EvS := fun env S => (ra env S).toS env fun _ S1 => .nx env S1
def evAsg (t : Tg) (ra : EvF) : EvS := fun env S => (ra env S).toS env fun v S1 => match bindT t v env with
  | some env' => .nx env' S1
  | none => .stuck
def ownAt (env : List Slot) (i : Nat) (xs : List Pv) (S : Sto) : ResS := match env[i]? with
  | some s => (match s.pinned with | true => .stuck | false => .nx (env.set i (.own xs)) S)
  | none => .stuck
def evAsgF (i : Nat) (rs : EvFs) : EvS := fun env S => (rs env S).toS env fun xs S1 => ownAt env i xs S1
def evApp (i : Nat) (ra : EvF) : EvS := fun env S => match env[i]? with
  | some (.own xs) => (ra env S).toS env fun v S1 => (match Nat.ble (xs.length + 1) capLen with | true => .nx (env.set i (.own (xs ++ [v]))) S1 | false => .stuck)
  | _ => .stuck
def frzE (i : Nat) (env : List Slot) : List Slot := match env[i]? with
  | some (.own xs) => env.set i (.val (.lst xs))
  | _ => env
def frzEs (is : List Nat) (env : List Slot) : List Slot := match is with
  | [] => env
  | i :: r => frzEs r (frzE i env)
def evFrzS (is : List Nat) (r : EvS) : EvS := fun env S => r (frzEs is env) S
def forGo (t : Tg) (rb : EvS) : List Pv → EvS
  | [], env, S => .nx env S
  | x :: xs, env, S => match bindT t x env with
    | none => .stuck
    | some env1 => match rb env1 S with
      | .nx env2 S2 => forGo t rb xs env2 S2
      | .ct env2 S2 => forGo t rb xs env2 S2
      | .bk env2 S2 => .nx env2 S2
      | o => o
def evFor (t : Tg) (rs : EvFs) (rb : EvS) : EvS := fun env S => (rs env S).toS env fun xs S1 => forGo t rb xs env S1
def whileGo (rc : EvF) (rb : EvS) : Nat → EvS
  | 0, _, _ => .stuck
  | n + 1, env, S => (evT rc env S).toS env fun k S1 => match k with
    | false => .nx env S1
    | true => match rb env S1 with
      | .nx env2 S2 => whileGo rc rb n env2 S2
      | .ct env2 S2 => whileGo rc rb n env2 S2
      | .bk env2 S2 => .nx env2 S2
      | o => o
section
variable {X : Cx} {G : Gc} {Ex : WX} {st : Stmt} {rest : List Stmt} {e c tg iter : Expr} {pos p : Pos} {ra rc : EvF} {rs : EvFs} {r1 r2 rb : EvS} {t : Tg}
theorem s_pass : PS X (.Pass pos) (tS G Ex evSkip) := ps_imp ps_pass fun D σ H h => by
  obtain ⟨gh, W, S, env, A, o⟩ := h
  exact o W H σ (Wd.Le.refl _) A
theorem s_doc {x j pos'} : PS X (.Expr (.Constant (.str x) j pos) pos') (tS G Ex evSkip) := ps_imp ps_doc fun D σ H h => by
  obtain ⟨gh, W, S, env, A, o⟩ := h
  exact o W H σ (Wd.Le.refl _) A
theorem s_brk : PS X (.Break pos) (tS G Ex evBrk) := ps_imp ps_break fun D σ H h => by
  obtain ⟨gh, W, S, env, A, o⟩ := h
  exact o W H σ (Wd.Le.refl _) A
theorem s_cont : PS X (.Continue pos) (tS G Ex evCont) := ps_imp ps_continue fun D σ H h => by
  obtain ⟨gh, W, S, env, A, o⟩ := h
  exact o W H σ (Wd.Le.refl _) A
theorem ss_nil : PSs X [] (tS G Ex evSkip) := pss_imp pss_nil fun D σ H h => by
  obtain ⟨gh, W, S, env, A, o⟩ := h
  exact o W H σ (Wd.Le.refl _) A
theorem ss_cons (h1 : PS X st (tS G Ex r1)) (h2 : PSs X rest (tS G Ex r2)) : PSs X (st :: rest) (tS G Ex (evSeqS r1 r2)) := pss_imp (pss_cons h1 h2) fun D σ H h => by
  obtain ⟨gh, W, S, env, A, o⟩ := h
  refine ⟨gh, W, S, env, A, ?_⟩
  unfold evSeqS at o
  cases q : r1 env S with
  | nx env' S' => rw [q] at o; exact fun W' H' σ' l A' => ⟨gh, W', S', env', A', o.shift l⟩
  | rt v S' => rw [q] at o; exact o
  | bk env' S' => rw [q] at o; exact o
  | ct env' S' => rw [q] at o; exact o
  | exc c fs env' S' => rw [q] at o; exact o
  | stuck => rw [q] at o; exact o
theorem ss_one (h1 : PS X st (tS G Ex r1)) : PSs X [st] (tS G Ex r1) := pss_one h1
theorem s_if {a b : List Stmt} (hc : PT X c (tT G Ex (evT rc))) (ha : PSs X a (tS G Ex r1)) (hb : PSs X b (tS G Ex r2)) : PS X (.If c a b pos) (tS G Ex (evIfS rc r1 r2)) := ps_imp (ps_if hc ha hb) fun D σ H h => by
  obtain ⟨gh, W, S, env, A, o⟩ := h
  refine ⟨gh, W, S, env, A, A.toS o fun k S1 W1 H1 x e1 A1 r1 o1 => ?_⟩
  subst r1
  cases x with
  | true => rw [if_pos rfl]; exact ⟨gh, W1, S1, env, A1, o1⟩
  | false => rw [if_neg Bool.false_ne_true]; exact ⟨gh, W1, S1, env, A1, o1⟩
theorem s_ret (ha : PE X e (tE G Ex ra)) : PS X (.Return (some e) pos) (tS G Ex (evRet ra)) := ps_imp (ps_ret ha) fun D σ H h => by
  obtain ⟨gh, W, S, env, A, o⟩ := h
  exact ⟨gh, W, S, env, A, A.toS o fun v S1 W1 H1 x e1 A1 r1 o1 => o1 W1 H1 x (Wd.Le.refl _) A1.w A1.e0 r1⟩
theorem s_retN : PS X (.Return none pos) (tS G Ex evRetN) := ps_imp ps_retN fun D σ H h => by
  obtain ⟨gh, W, S, env, A, o⟩ := h
  exact o W H .non (Wd.Le.refl _) A.w A.e0 .non
theorem s_drop (ha : PE X e (tE G Ex ra)) (hs : swapsWith e none pos.line X.env = pure false) : PS X (.Expr e pos) (tS G Ex (evDrop ra)) := ps_imp (ps_expr ha hs) fun D σ H h => by
  obtain ⟨gh, W, S, env, A, o⟩ := h
  exact ⟨gh, W, S, env, A, A.toS o fun v S1 W1 H1 x e1 A1 r1 o1 => o1 W1 H1 σ (Wd.Le.refl _) A1⟩
/-- target = e, from the reading of the statement -/
theorem asg_read {te : TE} (h : PS X st (tAsg te (tG G t))) (k : ∀ σ H Q, tE G Ex ra σ H Q → te σ H Q) : PS X st (tS G Ex (evAsg t ra)) := ps_imp h fun D σ H h => by
  obtain ⟨gh, W, S, env, A, o⟩ := h
  refine k _ _ _ ⟨gh, W, S, env, A, A.toS o fun v S1 W1 H1 x e1 A1 r1 o1 => ?_⟩
  cases q : bindT t v env with
  | none => rw [q] at o1; exact o1.elim
  | some env' => rw [q] at o1; exact ⟨gh, W1, S1, env, v, env', A1, r1, q, fun σ' k1 l1 A' => o1 W1 H1 σ' (Wd.Le.refl _) A'⟩
theorem s_asg (ha : PE X e (tE G Ex ra)) (hg : PG X tg (tG G t)) (hs : swapsWithSole [tg] e pos.line X.env = pure false) (hw : swappedStores [tg] e X.env = pure none)
    (h1 : (assignEach [tg] X.env).map (·.2) = [assign tg X.env]) : PS X (.Assign [tg] e pos) (tS G Ex (evAsg t ra)) := asg_read (ps_asg ha hg hs hw h1) fun _ _ _ h => h
theorem gN {i : Nat} {x : V} {σ : L2.St} {H : Hp} {Q : L2.St → Hp → Prop} (h : tG G (.nm i) x σ H Q) : gName i x σ H Q := by
  obtain ⟨gh, W, S, env, v, env', A, r, b, q⟩ := h
  unfold bindT at b
  split at b
  · split at b
    · cases b
    · cases b
      exact q _ (fun j hj => by rw [List.getElem?_set_ne (fun e => hj (by simp [Tg.slots, e]))]) (by simp) (A.set i r)
  · cases b
theorem s_set {i : Nat} {x : Str} {pos' : Pos} (hN : X.N.Nodup) (hi : X.N[i]? = some x) (hx : Loc X.env.scope x) (ha : PE X e (tE G Ex ra)) (hs : swapsWith e (some (.Name x pos')) pos.line X.env = pure false) (hf : X.fn x = true ∨ X.env.scope.names.lookup x = some .local) :
    PS X (.Assign [.Name x pos'] e pos) (tS G Ex (evAsg (.nm i) ra)) :=
  asg_read (ps_imp (ps_set hN hi hx ha hs hf) fun D σ H h => by
    obtain ⟨gh, W, S, env, A, o⟩ := h
    refine ⟨gh, W, S, env, A, ?_⟩
    cases q : ra env S with
    | ok v S' => rw [q] at o; exact fun W' H' x e w rv => gN (o W' H' x e w rv)
    | exc c fs S' => rw [q] at o; exact o
    | stuck => rw [q] at o; exact o) fun _ _ _ h => h
theorem SOk.setOwn {gh : Gh} {W : Wd} {σ : L2.St} {H : Hp} {env : List Slot} (s : SOk G gh W σ H env) (i : Nat) {p : Addr} {vs : List V} {xs : List Pv} (hp : H p = some (.lst vs)) (f : W.F p = none) (h0 : Nt gh.H0 p) (r : RVs G W vs xs)
    (ap : ∀ (j : Nat) ys, i ≠ j → env[j]? = some (.own ys) → σ[j]? ≠ some (some (.ref p))) : SOk G gh W (σ.set i (some (.ref p))) H (env.set i (.own xs)) := by
  refine ⟨by simp [s.len], fun j v' h => ?_, fun j ys h => ?_, fun j c fs h => ?_, fun j h => ?_, fun j k ys zs a h1 h2 h3 h4 => ?_⟩
  · have e := set_ne h (by simp)
    rw [List.getElem?_set_ne e] at h
    rw [List.getElem?_set_ne e]
    exact s.val j v' h
  · by_cases e : i = j
    · subst e
      by_cases hi : i < env.length
      · rw [List.getElem?_set_self hi] at h; cases h
        exact ⟨p, vs, by rw [List.getElem?_set_self (by rw [← s.len]; exact hi)], hp, f, h0, r⟩
      · rw [List.getElem?_eq_none (by simpa using hi)] at h; cases h
    · rw [List.getElem?_set_ne e] at h
      rw [List.getElem?_set_ne e]
      exact s.own j ys h
  · have e := set_ne h (by simp)
    rw [List.getElem?_set_ne e] at h
    rw [List.getElem?_set_ne e]
    exact s.exc j c fs h
  · have e := set_ne h (by simp)
    rw [List.getElem?_set_ne e] at h
    rw [List.getElem?_set_ne e]
    exact s.thk j h
  · by_cases e1 : i = j
    · subst e1
      by_cases e2 : i = k
      · exact e2
      · rw [List.getElem?_set_ne e2] at h2 h4
        have hi : i < σ.length := by
          by_cases hi : i < σ.length
          · exact hi
          · rw [List.getElem?_eq_none (by simpa using hi)] at h3; cases h3
        rw [List.getElem?_set_self hi] at h3
        cases h3
        exact absurd h4 (ap k zs e2 h2)
    · rw [List.getElem?_set_ne e1] at h1 h3
      by_cases e2 : i = k
      · subst e2
        have hi : i < σ.length := by
          by_cases hi : i < σ.length
          · exact hi
          · rw [List.getElem?_eq_none (by simpa using hi)] at h4; cases h4
        rw [List.getElem?_set_self hi] at h4
        cases h4
        exact absurd h3 (ap j ys e1 h1)
      · rw [List.getElem?_set_ne e2] at h2 h4
        exact s.apart j k ys zs a h1 h2 h3 h4
/-- name = a new list -/
theorem asgF_read {i : Nat} {te : TE} (h : PS X st (tAsg te (gName i))) (k : ∀ σ H Q, tF G Ex rs σ H Q → te σ H Q) : PS X st (tS G Ex (evAsgF i rs)) := ps_imp h fun D σ H h => by
  obtain ⟨gh, W, S, env, A, o⟩ := h
  refine k _ _ _ ⟨gh, W, S, env, A, A.toSF o fun xs S1 W1 H1 p vs e1 A1 n hp fp rv o1 => ?_⟩
  have n0 : Nt gh.H0 p := A.e0.nt n
  unfold ownAt at o1
  cases q : env[i]? with
  | none => rw [q] at o1; exact o1.elim
  | some sl =>
    rw [q] at o1
    simp only at o1
    cases q2 : sl.pinned with
    | true => rw [q2] at o1; exact o1.elim
    | false =>
      rw [q2] at o1
      refine o1 W1 H1 _ (Wd.Le.refl _) ⟨A1.w, A1.s.setOwn i hp fp n0 rv fun j ys hij hj hs => ?_, A1.e0⟩
      obtain ⟨a, ws, h1, h2, _⟩ := A.s.own j ys hj
      rw [h1] at hs
      cases hs
      exact n _ h2 fun _ z => by cases z
theorem s_setF {i : Nat} {x : Str} {pos' : Pos} (hN : X.N.Nodup) (hi : X.N[i]? = some x) (hx : Loc X.env.scope x) (ha : PE X e (tF G Ex rs)) (hs : swapsWith e (some (.Name x pos')) pos.line X.env = pure false) (hf : X.fn x = true ∨ X.env.scope.names.lookup x = some .local) :
    PS X (.Assign [.Name x pos'] e pos) (tS G Ex (evAsgF i rs)) := asgF_read (ps_set hN hi hx ha hs hf) fun _ _ _ h => h
theorem Ext.wr {W0 W : Wd} {H0 H : Hp} {p : Addr} {u : HO} (e : Ext W0 H0 W H) (n : Nt H0 p) : Ext W0 H0 W (upd H p u) := by
  refine ⟨e.F, e.fresh, fun a o h m t => ?_, fun a o h t => ?_, e.ad⟩
  · rw [upd_ne (n.ne h t)]; exact e.keep a o h m t
  · rw [upd_ne (n.ne h t)]; exact e.there a o h t
theorem RX.wr {G : G0} {W : Wd} {H : Hp} {cls : Value} {d : Option Addr} {c : Nat} {fs : Ent} {p : Addr} {vs : List V} {u : HO} (r : RX G W H cls d c fs) (hp : H p = some (.lst vs)) : RX G W (upd H p u) cls d c fs := by
  obtain ⟨C, dd, kvs, h1, h2, h3, h4, h5⟩ := r
  exact ⟨C, dd, kvs, h1, h2, h3, by rw [upd_ne (fun z => by rw [z, hp] at h4; cases h4)]; exact h4, h5⟩
/-- an own list grows -/
theorem SOk.grow {gh : Gh} {W : Wd} {σ : L2.St} {H : Hp} {env : List Slot} (s : SOk G gh W σ H env) (i : Nat) {p : Addr} {vs vs' : List V} {xs xs' : List Pv} (he : env[i]? = some (.own xs)) (hσ : σ[i]? = some (some (.ref p))) (hp : H p = some (.lst vs)) (f : W.F p = none) (h0 : Nt gh.H0 p) (r : RVs G W vs' xs') :
    SOk G gh W σ (upd H p (.lst vs')) (env.set i (.own xs')) := by
  refine ⟨by simp [s.len], fun j v' h => ?_, fun j ys h => ?_, fun j c fs h => ?_, fun j h => ?_, fun j k ys zs a h1 h2 h3 h4 => ?_⟩
  · have e := set_ne h (by simp)
    rw [List.getElem?_set_ne e] at h
    exact s.val j v' h
  · by_cases e : i = j
    · subst e
      have hi : i < env.length := (List.getElem?_eq_some_iff.mp he).1
      rw [List.getElem?_set_self hi] at h
      cases h
      exact ⟨p, vs', hσ, upd_same, f, h0, r⟩
    · rw [List.getElem?_set_ne e] at h
      obtain ⟨a, ws, h1, h2, h3, h4, h5⟩ := s.own j ys h
      have hne : a ≠ p := fun z => e (s.apart i j xs ys p he h hσ (by rw [h1, z]))
      exact ⟨a, ws, h1, by rw [upd_ne hne]; exact h2, h3, h4, h5⟩
  · have e := set_ne h (by simp)
    rw [List.getElem?_set_ne e] at h
    obtain ⟨h1, h2⟩ := s.exc j c fs h
    exact ⟨h1, h2.wr hp⟩
  · have e := set_ne h (by simp)
    rw [List.getElem?_set_ne e] at h
    obtain ⟨h1, h2, h3⟩ := s.thk j h
    exact ⟨h1, by rw [upd_ne (fun z => by rw [z, hp] at h2; exact code_nl _ (Option.some.inj h2).symm)]; exact h2, h3⟩
  · have back : ∀ {j : Nat} {ys : List Pv}, (env.set i (.own xs'))[j]? = some (.own ys) → ∃ zs, env[j]? = some (.own zs) := fun {j ys} h => by
      by_cases e : i = j
      · subst e; exact ⟨xs, he⟩
      · rw [List.getElem?_set_ne e] at h; exact ⟨ys, h⟩
    obtain ⟨_, b1⟩ := back h1
    obtain ⟨_, b2⟩ := back h2
    exact s.apart j k _ _ a b1 b2 h3 h4
theorem s_app {i : Nat} {x : Str} {apos cpos xpos : Pos} (hN : X.N[i]? = some x) (hv : Vis X.env.scope x) (hd : (x == ("__debug__" : Str)) = false) (hcd : (x == ("__classdict__" : Str)) = false) (ha : PA X [e] (tA G Ex fun env S => (ra env S).bind fun v S1 => .ok [v] S1))
    (hbase : attributeBase (.Name x xpos) "append" X.env (eval (.Name x xpos) X.env) = eval (.Name x xpos) X.env)
    (hfew : ((backTo cpos (starEach [e] X.env)).all (fun x => !x.1) && (backToKw cpos (keywordEach [] X.env)).all (fun x => x.1.isSome)
      && decide ([e].length + ([] : List Keyword).length + (if ([] : List Keyword).isEmpty then 0 else 1) < 30)) = true)
    (hline : (apos.endLine == cpos.line) = true) (hs : starEach [e] X.env = (false, eval e X.env) :: starEach [] X.env) (hplain : (backTo cpos (starEach [] X.env)).any (·.1) = false)
    (hsw : swapsWith (.Call (.Attribute (.Name x xpos) "append" apos) [e] [] cpos) none pos.line X.env = pure false) :
    PS X (.Expr (.Call (.Attribute (.Name x xpos) "append" apos) [e] [] cpos) pos) (tS G Ex (evApp i ra)) :=
  ps_imp (ps_expr (pe_bm PySem.F.plainAttrs_list PySem.F.slot_list_append PySem.F.type_list_append mt_append (pe_var (pos := xpos) hN hv hd hcd) ha hbase hfew hline hs hplain) hsw) fun D σ H h => by
    obtain ⟨gh, W, S, env, A, o⟩ := h
    unfold evApp at o
    split at o
    · rename_i xs q
      obtain ⟨p, vs, h1, h2, h3, h4, h5⟩ := A.s.own i xs q
      refine ⟨.ref p, h1, .inl ⟨rfl, vs, .inl (.inl h2)⟩, gh, W, S, env, A, ?_⟩
      show Out G.toG0 W H σ Ex (RVs G.toG0) _ ((ra env S).bind fun v S1 => .ok [v] S1)
      cases qr : ra env S with
      | stuck => rw [qr] at o; exact o
      | exc c fs S1 => rw [qr] at o; exact fun W' H' cls d e w rx => o W' H' σ cls d e.le (A.ext e w) rx
      | ok v S1 =>
        rw [qr] at o
        intro W' H' ys e w rv
        obtain ⟨y, rfl, ry⟩ := rvs1 rv
        have k2 : H' p = some (.lst vs) := e.keep p _ h2 (A.w.off h2 fun _ z => by cases z) fun _ z => by cases z
        have k3 : W'.F p = none := e.fresh p _ h3 h2 (fun _ z => by cases z)
        have o : OutS G gh W D Ex (match Nat.ble (xs.length + 1) capLen with | true => .nx (env.set i (.own (xs ++ [v]))) S1 | false => .stuck) := o
        cases qc : Nat.ble (xs.length + 1) capLen with
        | false => rw [qc] at o; exact o.elim
        | true =>
          rw [qc] at o
          have A1 := A.ext e w
          refine ⟨p, vs, y, rfl, rfl, k2, by rw [h5.length]; exact Nat.lt_of_lt_of_le (Nat.lt_succ_self _) (cap_line (Nat.le_of_ble_eq_true qc)), ?_⟩
          exact o W' _ σ e.le ⟨A1.w.wr k2 k3, A1.s.grow i q h1 k2 k3 h4 ((h5.mono e.le).append (.cons ry .nil)), A1.e0.wr h4⟩
    · exact o.elim
end
end Pev

set_option Elab.async false
set_option linter.all false
set_option maxRecDepth 100000
set_option maxHeartbeats 4000000
namespace Pev
open PySem PySem.Spec L2
section
variable {G : Gc} {gh : Gh} {W : Wd} {S : Sto} {σ : L2.St} {H : Hp} {env : List Slot}
theorem At.frz (A : At G gh W S σ H env) (i : Nat) : ∃ W', W.Le W' ∧ At G gh W' S σ H (frzE i env) := by
  unfold frzE
  split
  · rename_i xs he
    obtain ⟨p, vs, h1, h2, h3, h4, h5⟩ := A.s.own i xs he
    have w' := A.w.freeze h2 (show Plain (.lst vs) from trivial) (A.w.off h2 fun _ z => by cases z)
    have le : W.Le ⟨upd W.F p (.lst vs), W.ad⟩ := ⟨fun a u h => by
      show upd W.F p (.lst vs) a = _
      rw [upd_ne (ne_of_none h h3)]; exact h, fun _ _ h => h⟩
    refine ⟨⟨upd W.F p (.lst vs), W.ad⟩, le, w', ?_, ⟨fun a u h => le.F a u (A.e0.F a u h), fun a u f n t => ?_, A.e0.keep, A.e0.there, A.e0.ad⟩⟩
    · refine ⟨by rw [List.length_set]; exact A.s.len, fun j v h => ?_, fun j ys h => ?_, fun j c fs h => ?_, fun j h => ?_, fun j k ys zs a h1' h2' h3' h4' => ?_⟩
      · by_cases e : i = j
        · subst e
          have hi : i < env.length := (List.getElem?_eq_some_iff.mp he).1
          rw [List.getElem?_set_self hi] at h
          cases h
          exact ⟨.ref p, h1, .lst upd_same (h5.mono le)⟩
        · rw [List.getElem?_set_ne e] at h
          obtain ⟨x, k1, k2⟩ := A.s.val j v h
          exact ⟨x, k1, k2.mono le⟩
      · have e := set_ne h (by simp)
        rw [List.getElem?_set_ne e] at h
        obtain ⟨a, ws, k1, k2, k3, k4, k5⟩ := A.s.own j ys h
        have hne : a ≠ p := fun z => e (A.s.apart i j xs ys p he h h1 (by rw [k1, z]))
        exact ⟨a, ws, k1, k2, by show upd W.F p (.lst vs) a = none; rw [upd_ne hne]; exact k3, k4, k5.mono le⟩
      · have e := set_ne h (by simp)
        rw [List.getElem?_set_ne e] at h
        obtain ⟨k1, C, dd, kvs, k2, k3, k4, k5, k6⟩ := A.s.exc j c fs h
        exact ⟨k1, C, dd, kvs, k2, k3, k4, k5, k6.mono le⟩
      · have e := set_ne h (by simp)
        rw [List.getElem?_set_ne e] at h
        exact A.s.thk j h
      · have n1 := set_ne h1' (by simp)
        have n2 := set_ne h2' (by simp)
        rw [List.getElem?_set_ne n1] at h1'
        rw [List.getElem?_set_ne n2] at h2'
        exact A.s.apart j k ys zs a h1' h2' h3' h4'
    · show upd W.F p (.lst vs) a = none
      rw [upd_ne (h4.ne n t)]
      exact A.e0.fresh a u f n t
  · exact ⟨W, Wd.Le.refl _, A⟩
theorem At.frzs : ∀ (is : List Nat) {W : Wd} {env : List Slot}, At G gh W S σ H env → ∃ W', W.Le W' ∧ At G gh W' S σ H (frzEs is env)
  | [], W, env, A => ⟨W, Wd.Le.refl _, A⟩
  | i :: r, W, env, A => by
    obtain ⟨W1, l1, A1⟩ := A.frz i
    obtain ⟨W2, l2, A2⟩ := At.frzs r A1
    exact ⟨W2, l1.trans l2, A2⟩
end
section
variable {X : Cx} {G : Gc} {Ex : WX} {st : Stmt} {rest : List Stmt} {e c tg iter : Expr} {pos p : Pos} {ra rc : EvF} {rs : EvFs} {r1 r2 rb : EvS} {t : Tg}
theorem s_frz (is : List Nat) (h : PS X st (tS G Ex r1)) : PS X st (tS G Ex (evFrzS is r1)) := ps_imp h fun D σ H h => by
  obtain ⟨gh, W, S, env, A, o⟩ := h
  obtain ⟨W1, l1, A1⟩ := A.frzs is
  exact ⟨gh, W1, S, _, A1, o.shift l1⟩
theorem s_for {body : List Stmt} (hp : PassesOwn (model X.prog X.w) X.A X.env X.xe) (hc : X.calm = true) (hi : PI X tg iter (tI G Ex rs)) (hg : PG X tg (tG G t)) (hb : PSs X body (tS G Ex rb)) (hs : ∀ x, foldedSetIterable iter X.env x = pure x) :
    PS X (.For tg iter body [] pos) (tS G Ex (evFor t rs rb)) := ps_imp (ps_for hp hc hi hg hb hs) fun D σ H h => by
  obtain ⟨gh, W, S, env, A, o⟩ := h
  refine ⟨gh, W, S, env, A, A.toSI o fun xs S1 W1 H1 J e1 A1 wk o1 => ?_⟩
  refine ⟨fun i m σ' H' => m = xs.length - i ∧ i ≤ xs.length ∧ ∃ W2 S2 env2, W1.Le W2 ∧ At G gh W2 S2 σ' H' env2 ∧ OutS G gh W2 D Ex (forGo t rb (xs.drop i) env2 S2), ⟨xs.length, by simp, Nat.zero_le _, W1, S1, env, Wd.Le.refl _, A1, o1⟩, ?_⟩
  rintro i m σ2 H2 ⟨rfl, hi, W2, S2, env2, l2, A2, o2⟩
  by_cases hlt : i < xs.length
  · refine .inr ⟨wk.go i W2 H2 S2 hlt l2 A2.w, fun σ' H' => i + 1 ≤ xs.length ∧ ∃ W3 S3 env3, W1.Le W3 ∧ At G gh W3 S3 σ' H' env3 ∧ OutS G gh W3 D Ex (forGo t rb (xs.drop (i + 1)) env3 S3), fun σ' H' hh => ⟨xs.length - (i + 1), by omega, rfl, hh.1, hh.2⟩, fun x H3 y => ?_⟩
    obtain ⟨W3, v, hv, e3, w3, rv⟩ := wk.yld i W2 H2 S2 x H3 hlt l2 A2.w y
    have hdrop : xs.drop i = v :: xs.drop (i + 1) := by
      rw [List.drop_eq_getElem_cons hlt]
      have : xs[i] = v := by rw [List.getElem?_eq_getElem hlt] at hv; exact Option.some.inj hv
      rw [this]
    rw [hdrop] at o2
    unfold forGo at o2
    cases cb : bindT t v env2 with
    | none => rw [cb] at o2; exact o2.elim
    | some env3 =>
      rw [cb] at o2
      simp only at o2
      refine ⟨gh, W3, S2, env2, v, env3, A2.ext e3 w3, rv, cb, fun σ4 k4 l4 A4 => ⟨gh, W3, S2, env3, A4, ?_⟩⟩
      cases cr : rb env3 S2 with
      | nx env4 S4 => rw [cr] at o2; exact fun W' H' σ' le A' => ⟨hlt, W', S4, env4, l2.trans (e3.le.trans le), A', o2.shift (e3.le.trans le)⟩
      | ct env4 S4 => rw [cr] at o2; exact fun W' H' σ' le A' => ⟨hlt, W', S4, env4, l2.trans (e3.le.trans le), A', o2.shift (e3.le.trans le)⟩
      | bk env4 S4 => rw [cr] at o2; exact fun W' H' σ' le A' => o2 W' H' σ' (e3.le.trans le) A'
      | rt v4 S4 => rw [cr] at o2; exact fun W' H' x l w e r => o2 W' H' x (e3.le.trans l) w e r
      | exc c4 fs4 env4 S4 => rw [cr] at o2; exact fun W' H' σ' cls d l A r => o2 W' H' σ' cls d (e3.le.trans l) A r
      | stuck => rw [cr] at o2; exact o2
  · have ei : i = xs.length := by omega
    subst ei
    refine .inl ⟨wk.stop W2 H2 S2 l2 A2.w, ?_⟩
    rw [List.drop_length] at o2
    exact o2 W2 H2 σ2 (Wd.Le.refl _) A2
theorem s_while {body : List Stmt} (n : Nat) (hp : PassesOwn (model X.prog X.w) X.A X.env X.xe) (hc : PT X c (tT G Ex (evT rc))) (hb : PSs X body (tS G Ex rb)) : PS X (.While c body [] pos) (tS G Ex (whileGo rc rb n)) := ps_imp (ps_while hp hc hb) fun D σ H h => by
  obtain ⟨gh, W, S, env, A, o⟩ := h
  refine ⟨fun m σ' H' => ∃ W2 S2 env2, At G gh W2 S2 σ' H' env2 ∧ OutS G gh W2 D Ex (whileGo rc rb m env2 S2), ⟨n, W, S, env, A, o⟩, ?_⟩
  rintro m σ2 H2 ⟨W2, S2, env2, A2, o2⟩
  cases m with
  | zero => exact o2.elim
  | succ m =>
    unfold whileGo at o2
    refine ⟨gh, W2, S2, env2, A2, A2.toS o2 fun k S3 W3 H3 x e3 A3 r3 o3 => ?_⟩
    subst r3
    cases x with
    | false => rw [if_neg Bool.false_ne_true]; exact o3 W3 H3 σ2 (Wd.Le.refl _) A3
    | true =>
      rw [if_pos rfl]
      refine ⟨fun σ' H' => ∃ W4 S4 env4, At G gh W4 S4 σ' H' env4 ∧ OutS G gh W4 D Ex (whileGo rc rb m env4 S4), fun σ' H' hh => ⟨m, Nat.lt_succ_self _, hh⟩, gh, W3, S3, env2, A3, ?_⟩
      simp only at o3
      cases cr : rb env2 S3 with
      | nx env4 S4 => rw [cr] at o3; exact fun W' H' σ' le A' => ⟨W', S4, env4, A', o3.shift le⟩
      | ct env4 S4 => rw [cr] at o3; exact fun W' H' σ' le A' => ⟨W', S4, env4, A', o3.shift le⟩
      | bk env4 S4 => rw [cr] at o3; exact fun W' H' σ' le A' => o3 W' H' σ' le A'
      | rt v4 S4 => rw [cr] at o3; exact o3
      | exc c4 fs4 env4 S4 => rw [cr] at o3; exact o3
      | stuck => rw [cr] at o3; exact o3
end

/-! ### errors: made and raised -/
section
variable {G : G0} {W : Wd} {H H' : Hp} {S : Sto}
/-- nothing is lost -/
theorem WOk.kept (w : WOk G W H S) (k : ∀ b o, H b = some o → H' b = some o) : WOk G W H' S ∧ Ext W H W H' := by
  refine ⟨⟨fun a u h => k _ _ (w.le a u h), w.plain, w.len, fun n a es h1 h2 => ?_, w.inj, w.tabs.ext k⟩, fun _ _ h => h, fun _ _ h _ _ => h, fun a u h _ _ => k _ _ h, fun a u h t => ⟨u, k _ _ h, t⟩, [], by simp, by simp⟩
  · obtain ⟨f, kvs, hk, r⟩ := w.at_ n a es h1 h2
    exact ⟨f, kvs, k _ _ hk, r⟩
end
/-- the error's fields by their names: the last one stored stands first -/
def mkFs : List Str → List Pv → Option Ent
  | [a], [x] => some [(a, x)]
  | [a, b], [x, y] => some [(b, y), (a, x)]
  | _, _ => none
def evRaise (c : Nat) (names : List Str) (rs : EvFs) : EvS := fun env S => (rs env S).toS env fun vs S1 => match mkFs names vs with
  | some fs => .exc c fs env S1
  | none => .stuck
/-- what an own __init__ promises that stores its parameters by their names -/
def spInit (C : Addr) (names : List Str) : Sp := fun vs H Q _ => vs.length = names.length + 1 ∧ ∃ a ws, vs = .ref a :: ws ∧ H a = some (exo a C none) ∧
  ∀ d H2, H d = none → d ≠ a → H2 a = some (exo a C (some d)) → H2 d = some (exd d (names.zip ws).reverse) → (∀ b, b ≠ a → b ≠ d → H2 b = H b) → Q .non H2
section
variable {X : Cx} {G : Gc} {Ex : WX} {e : Expr} {es : List Expr} {pos p : Pos} {rs : EvFs} {c : Nat} {names : List Str} {C : Addr}
theorem RFs.of2 {W : Wd} {xs : List V} {vs : List Pv} {fs : Ent} (r : RVs G W xs vs) (h : mkFs names vs = some fs) : RFs G W (names.zip xs).reverse fs ∧ xs.length = names.length := by
  unfold mkFs at h
  split at h
  · cases h
    obtain ⟨x, rfl, q1⟩ := rvs1 r
    exact ⟨.cons q1 .nil, rfl⟩
  · cases h
    obtain ⟨x, y, rfl, q1, q2⟩ := rvs2 r
    exact ⟨.cons q2 (.cons q1 .nil), rfl⟩
  · cases h
theorem s_raise {CX : CXT} {x : Str} {fI : Addr} {k : Nat} {fd : FuncData} {ps : List Str} (hc : X.calm = true) (tk : Takes X Ex) (T : OexC X.K C) (hC : G.ca c = some C) (iC : PySem.W.findIn X.K (.ref C) "__init__" = some (some (.ref fI))) (tI : PySem.W.typeIn X.K (.ref fI) = some (.type "function"))
    (F1 : FnOk X.prog X.w X.K X.mg X.base CX k fI fd ps (spInit C names)) (hr : Room (k + 1) X.A) (hb : L2.Binds X.K fd ps []) (hx : Passes CX X (fun _ _ _ => False)) (hg : Gl X x) (hm : X.mg x = some (.ref C)) (ha : PA X (e :: es) (tA G Ex rs))
    (hdb : (x == ("__debug__" : Str)) = false) (he : starEach (e :: es) X.env = (false, eval e X.env) :: starEach es X.env) (hpl : (backTo pos (starEach es X.env)).any (·.1) = false) {pos' : Pos} :
    PS X (.Raise (some (.Call (.Name x p) (e :: es) [] pos)) none pos') (tS G Ex (evRaise c names rs)) :=
  ps_imp (ps_raise hc tk (pmk_oex T iC tI F1 hr hb .nil hx hg hm ha hdb he hpl)) fun D σ H h => by
    obtain ⟨gh, W, S, env, A, o⟩ := h
    refine ⟨gh, W, S, env, A, A.toS o fun vs S1 W1 H1 xs e1 A1 r1 o1 => ?_⟩
    cases q : mkFs names vs with
    | none => rw [q] at o1; exact o1.elim
    | some fs =>
      rw [q] at o1
      obtain ⟨rf, hl⟩ := RFs.of2 r1 q
      refine ⟨by rw [hl]; unfold mkFs at q; split at q <;> first | (cases q; done) | (simp), fun a ha => ⟨by simp [hl], a, xs, by simp, upd_same, fun d H2 hd hne h1 h2 h3 => ⟨rfl, d, _, h1, h2, by rw [upd_ne hne] at hd; exact hd, ?_⟩⟩⟩
      rw [upd_ne hne] at hd
      have keep : ∀ b o, H1 b = some o → upd (del H2 a) d (.xd (names.zip xs).reverse) b = some o := fun b o hb => by
        rw [upd_ne (ne_of_none hb hd), del_ne (ne_of_none hb ha), h3 b (ne_of_none hb ha) (ne_of_none hb hd), upd_ne (ne_of_none hb ha)]; exact hb
      obtain ⟨w2, e2⟩ := A1.w.kept keep
      exact o1 W1 _ σ _ _ (Wd.Le.refl _) (A1.ext e2 w2) ⟨C, d, _, hC, rfl, rfl, upd_same, rf⟩
end
end Pev

set_option Elab.async false
set_option linter.all false
set_option maxRecDepth 100000
set_option maxHeartbeats 4000000
namespace Pev
open PySem PySem.Spec L2
/-! ### the class of a caught error that has its fields -/
section
open PySem.W
variable {prog : Program} {w : World} {A : Around} {E : Value → Shared → Prop} {s : Shared} {K : Frag} {x D : Addr} {ox : Obj}
theorem found_data {C : Addr} {od : Option Obj} {name : Str} {a g : Value} (hc : (clsIn K C).isSome = true) (ha : findIn K (.ref C) name = some (some a)) (hg : specialIn K a "__get__" = some (some g)) (ht : takesIn K a = some true) : findObj K C od name = some (.bind g a) := by
  obtain ⟨cd, hc⟩ := Option.isSome_iff_exists.mp hc; unfold findObj; rw [hc, Option.bind_some, ha, Option.bind_some]; simp [hg, ht]
theorem got_class {od : Option Obj} {Q : Option Value → Shared → Prop} (C : ExcC K D) (X : K.In s.heap) (I : InstAt s.heap x ox D od) (h : Q (some (.ref D)) { s with toks := s.toks + 1 }) : wpAny (model prog w) A (getAttr? (.ref x) "__class__") Q E s := by
  have hf : findObj K D od "__class__" = some (.bind (.builtin "getset_descriptor.__get__") (.builtin "object.__class__")) := found_data (by obtain ⟨cd, hc, _⟩ := any_some C.hd; rw [hc]; rfl) C.ha C.hn C.ht
  obtain ⟨hp, g, d, t, os⟩ := s
  have L0 := I.type (M := model prog w); have L1 := looks_findIn (M := model prog w) X C.hg; have L2 := looks_findIn (M := model prog w) X C.hk
  have L3 := looks_find (M := model prog w) X I hf; have sub : Looks (model prog w) hp (isInstance (.ref x) (.type "BaseException")) true := L0.andThen (looks_subIn X C.hs)
  have hx0 : (false && onTheHeap (Value.builtin "BaseException.__getattribute__")) = false := rfl; have hx2 : (Value.builtin "BaseException.__getattribute__" == Value.builtin "object.__getattribute__") = false := by decide +kernel
  have hx1 : (onTheHeap (Value.ref D) && Value.builtin "BaseException.__getattribute__" == Value.builtin "object.__getattribute__") = false := by (rw [hx2]; rfl)
  unfold getAttr? getAttrBy? getAttrBy; refine wpAny_bind (wpAny_mkText (wpAny_bind (wpAny_attempt (wpAny_holding (wpAny_bind (L0.at (wpAny_bind (L1.at ?_))))))))
  show wpAny _ _ (if (onTheHeap (Value.ref D) && Value.builtin "BaseException.__getattribute__" == Value.builtin "object.__getattribute__") = true then _ else _) _ _ _; rw [hx1, if_neg Bool.false_ne_true]; unfold getAttrByItsOwn hookBefore; refine wpAny_bind ?_
  rw [if_pos (show onTheHeap (Value.ref D) = true from rfl)]; refine L2.at ?_; refine wpAny_bind (wpAny_attempt (wpAny_holding ?_)); unfold callGetattribute
  rw [hx0, if_neg Bool.false_ne_true]; unfold boundAndCalled; rw [PySem.F.excAttr_ValueError.ga.bind (.ref x)]; refine wpAny_bind (wpAny_pure ?_)
  show wpAny _ _ (call (.builtin "BaseException.__getattribute__") [.ref x, .str "__class__" t]) _ _ _; refine wpAny_call (codeAny_call_builtin PySem.F.excAttr_ValueError.ga.plain PySem.F.entry_bexc_ga ?_)
  refine @check_slot (model prog w) _ _ ⟨hp, g, d, t + 1, os⟩ "BaseException.__getattribute__" "BaseException" "__getattribute__" (.ref x) [.str "__class__" t] [] _ (by decide +kernel) (by decide +kernel) sub (PySem.F.args_bexc_ga (.ref x) (.str "__class__" t)) ?_; unfold Builtin.«object.__getattribute__»
  refine wpAny_bind (wpAny_of_eq (a := ((Value.ref x : Value), [Value.str "__class__" t])) (by first | rfl | (simp only [slotArgs]; rfl)) ?_); refine wpAny_bind (wpAny_pure (wpAny_bind (L0.at (wpAny_bind (L3.at ?_)))))
  show wpAny _ _ (holding [Value.builtin "object.__class__"] (call (.builtin "getset_descriptor.__get__") [.builtin "object.__class__", .ref x, .ref D]) >>= ret) _ _ _; refine wpAny_bind (wpAny_holding (wpAny_call (class_get (s := ⟨hp, g, d, t + 1, os⟩) (ox := ox) (od := od) X I C.hm ?_)))
  refine wpAny_pure ?_; show wpAny _ _ (handedOut (.ref D)) _ _ _; rw [handedOut_of (v := .ref D) rfl]
  first | exact wpAny_pure (wpAny_pure h) | exact wpAny_pure h | exact wpAny_pure (wpAny_bind (wpAny_pure (wpAny_pure h)))
theorem kit_err {od : Option Obj} (C : ExcC K D) : KitX K (.ref x) (.ref D) (fun h => InstAt h x ox D od) where
  ty := fun _ _ _ I => I.type
  it := fun _ _ X _ => by
    obtain ⟨cdD, hcD, _⟩ := any_some C.hd; unfold clsIn at hcD; split at hcD
    · rename_i c' d' cd' sl' ho; intro A' Q' E' s' k q; unfold isType loadHead; exact wpAny_bind (wpAny_loadPart (k _ _ (X _ _ ho)) (wpAny_pure q))
    · cases hcD
  ne := fun h tp dd its n sl X htp => by
    obtain ⟨cdD, hcD, _⟩ := any_some C.hd; refine Bool.eq_false_iff.mpr fun q => ?_; have e : D = tp := Value.ref.inj (beq_iff_eq.mp q); subst e; unfold clsIn at hcD; split at hcD
    · rename_i c' d' cd' sl' ho; have z := (X _ _ ho).symm.trans htp; cases z
    · cases hcD
  ca := fun X I k => got_class C X I k
end
/-! ### try: .. except X as e: .. -/
/-- the context of a suite that holds an error -/
def Gc.su (G : Gc) (a : Addr) (cls : Value) (d : Option Addr) : Gc := { toG0 := G.toG0, P := { G.P with pa := a, cls := cls, dx := d } }
def notExc : Slot → Bool
  | .exc _ _ => false
  | _ => true
/-- behind the suite the error's name is gone -/
def offExc (i : Nat) (env : List Slot) (k : List Slot → ResS) : ResS := match (env.set i .un).all notExc with
  | true => k (env.set i .un)
  | false => .stuck
def evTry (i : Nat) (catches : Nat → Option Bool) (rb rsu : EvS) : EvS := fun env S => match rb env S with
  | .exc c fs env1 S1 => match catches c with
    | none => .stuck
    | some false => .exc c fs env1 S1
    | some true => match env1.all notExc with
      | false => .stuck
      | true => match rsu (env1.set i (.exc c fs)) S1 with
        | .nx env2 S2 => offExc i env2 fun env3 => .nx env3 S2
        | .bk env2 S2 => offExc i env2 fun env3 => .bk env3 S2
        | .ct env2 S2 => offExc i env2 fun env3 => .ct env3 S2
        | .rt v S2 => .rt v S2
        | .exc _ _ _ _ => .stuck
        | .stuck => .stuck
  | o => o
section
variable {G : Gc} {gh : Gh} {W : Wd} {S : Sto} {σ : L2.St} {H : Hp} {env : List Slot}
theorem all_notExc {env : List Slot} (h : env.all notExc = true) {i c : Nat} {fs : Ent} : env[i]? ≠ some (.exc c fs) := fun e => by
  have := List.all_eq_true.mp h _ (List.mem_of_getElem? e)
  cases this
theorem At.su (A : At G gh W S σ H env) (hn : env.all notExc = true) {i c : Nat} {fs : Ent} {a : Addr} {cls : Value} {d : Option Addr} (r : RX G W H cls d c fs) : At (G.su a cls d) gh W S (σ.set i (some (.ref a))) H (env.set i (.exc c fs)) := by
  refine ⟨A.w, ⟨by simp [A.s.len], fun j v h => ?_, fun j xs h => ?_, fun j c' fs' h => ?_, fun j h => ?_, fun j k xs ys b h1 h2 h3 h4 => ?_⟩, A.e0⟩
  · have e := set_ne h (by simp)
    rw [List.getElem?_set_ne e] at h
    rw [List.getElem?_set_ne e]
    exact A.s.val j v h
  · have e := set_ne h (by simp)
    rw [List.getElem?_set_ne e] at h
    rw [List.getElem?_set_ne e]
    exact A.s.own j xs h
  · by_cases e : i = j
    · subst e
      by_cases hi : i < env.length
      · rw [List.getElem?_set_self hi] at h
        cases h
        exact ⟨by rw [List.getElem?_set_self (by rw [← A.s.len]; exact hi)]; rfl, r⟩
      · rw [List.getElem?_eq_none (by simpa using hi)] at h; cases h
    · rw [List.getElem?_set_ne e] at h
      exact absurd h (all_notExc hn)
  · have e := set_ne h (by simp)
    rw [List.getElem?_set_ne e] at h
    rw [List.getElem?_set_ne e]
    exact A.s.thk j h
  · have n1 := set_ne h1 (by simp)
    have n2 := set_ne h2 (by simp)
    rw [List.getElem?_set_ne n1] at h1 h3
    rw [List.getElem?_set_ne n2] at h2 h4
    exact A.s.apart j k xs ys b h1 h2 h3 h4
theorem At.unsu {a : Addr} {cls : Value} {d : Option Addr} {i : Nat} (A : At (G.su a cls d) gh W S σ H env) (hn : (env.set i .un).all notExc = true) : At G gh W S (σ.set i none) H (env.set i .un) := by
  refine ⟨A.w, ⟨by simp [A.s.len], fun j v h => ?_, fun j xs h => ?_, fun j c' fs' h => ?_, fun j h => ?_, fun j k xs ys b h1 h2 h3 h4 => ?_⟩, A.e0⟩
  · have e := set_ne h (by simp)
    rw [List.getElem?_set_ne e] at h
    rw [List.getElem?_set_ne e]
    exact A.s.val j v h
  · have e := set_ne h (by simp)
    rw [List.getElem?_set_ne e] at h
    rw [List.getElem?_set_ne e]
    exact A.s.own j xs h
  · exact absurd h (all_notExc hn)
  · have e := set_ne h (by simp)
    rw [List.getElem?_set_ne e] at h
    rw [List.getElem?_set_ne e]
    exact A.s.thk j h
  · have n1 := set_ne h1 (by simp)
    have n2 := set_ne h2 (by simp)
    rw [List.getElem?_set_ne n1] at h1 h3
    rw [List.getElem?_set_ne n2] at h2 h4
    exact A.s.apart j k xs ys b h1 h2 h3 h4
end
section
variable {X : Cx} {G : Gc} {Ex : WX} {x n : Str} {cv : Value} {i : Nat} {body suite : List Stmt} {b₀ : Stmt} {np pos pos' : Pos} {rb rsu : EvS} {catches : Nat → Option Bool}
theorem s_try (hs : X.stack = X.env :: X.outer) (hf : X.env.frame = some X.env.locals) (hN : X.N.Nodup) (hi : X.N[i]? = some n) (hln : X.env.kindOf n = some .local) (hc : Names X x cv) (tk : Takes X Ex)
    (hcat : ∀ c C b, G.ca c = some C → catches c = some b → PySem.W.exmOne X.K (.ref C) cv = some b)
    (hb : ∀ (W : WX) (pn : List (Addr × Obj)) (xe : Value → Shared → Prop), Takes (X.tr pn xe) W → PassesOwn (model X.prog X.w) X.A X.env xe → PSs (X.tr pn xe) body (tS G W rb))
    (hsu : ∀ (a : Addr) (oe : Obj) (cls : Value) (d : Option Addr) (pn : List (Addr × Obj)), Zc cls d oe → (∃ vs, oe.data = .fields vs) → PSs (X.suite a ((a, oe) :: pn)) (b₀ :: suite) (tS (G.su a cls d) noX rsu)) :
    PS X (.Try body [.ExceptHandler (some (.Name x np)) (some n) (b₀ :: suite) pos'] [] [] pos) (tS G Ex (evTry i catches rb rsu)) :=
  ps_imp (ps_try_as (ts := fun a cls d => tS (G.su a cls d) noX rsu) hs hf hN hi hln hc tk hb hsu) fun D σ H h => by
    obtain ⟨gh, W, S, env, A, o⟩ := h
    refine ⟨gh, W, S, env, A, ?_⟩
    unfold evTry at o
    cases q : rb env S with
    | nx env1 S1 => rw [q] at o; exact o
    | rt v S1 => rw [q] at o; exact o
    | bk env1 S1 => rw [q] at o; exact o
    | ct env1 S1 => rw [q] at o; exact o
    | stuck => rw [q] at o; exact o
    | exc c fs env1 S1 =>
      rw [q] at o
      simp only at o
      intro W' H' σ' cls d le A' rx
      have rx0 := rx
      obtain ⟨C, dd, kvs, h1, h2, h3, h4, h5⟩ := rx
      cases qc : catches c with
      | none => rw [qc] at o; exact o.elim
      | some b =>
        rw [qc] at o
        refine ⟨b, by rw [h2]; exact hcat c C b h1 qc, fun hb' a ha => ?_, fun hb' => ?_⟩
        · subst hb'
          simp only at o
          cases qa : env1.all notExc with
          | false => rw [qa] at o; exact o.elim
          | true =>
            rw [qa] at o
            simp only at o
            refine ⟨gh, W', S1, env1.set i (.exc c fs), A'.su qa rx0, ?_⟩
            have back : ∀ {env2 : List Slot} {S2 : Sto} {k : List Slot → ResS} {R : ResS → Prop}, R (offExc i env2 k) → (R .stuck → False) → (env2.set i .un).all notExc = true ∧ R (k (env2.set i .un)) := fun {env2 S2 k R} h hs => by
              unfold offExc at h
              cases q2 : (env2.set i .un).all notExc with
              | true => rw [q2] at h; exact ⟨rfl, h⟩
              | false => rw [q2] at h; exact (hs h).elim
            cases qs : rsu (env1.set i (.exc c fs)) S1 with
            | nx env2 S2 =>
              rw [qs] at o
              obtain ⟨b1, b2⟩ := back (S2 := S2) (R := OutS G gh W D Ex) o (fun z => z)
              exact fun W2 H2 σ2 l2 A2 => b2 W2 H2 _ (le.trans l2) (A2.unsu b1)
            | bk env2 S2 =>
              rw [qs] at o
              obtain ⟨b1, b2⟩ := back (S2 := S2) (R := OutS G gh W D Ex) o (fun z => z)
              exact fun W2 H2 σ2 l2 A2 => b2 W2 H2 _ (le.trans l2) (A2.unsu b1)
            | ct env2 S2 =>
              rw [qs] at o
              obtain ⟨b1, b2⟩ := back (S2 := S2) (R := OutS G gh W D Ex) o (fun z => z)
              exact fun W2 H2 σ2 l2 A2 => b2 W2 H2 _ (le.trans l2) (A2.unsu b1)
            | rt v S2 => rw [qs] at o; exact fun W2 H2 y l2 w2 e2 r2 => o W2 H2 y (le.trans l2) w2 e2 r2
            | exc _ _ _ _ => rw [qs] at o; exact o.elim
            | stuck => rw [qs] at o; exact o.elim
        · subst hb'
          exact o W' H' σ' cls d le A' rx0
end
/-! ### what a suite asks of its error -/
theorem RFs.look {G : G0} {W : Wd} {f : Str} {x : Pv} : ∀ {kvs : List (Str × V)} {es : Ent}, RFs G W kvs es → es.lookup f = some x → ∃ v, kvs.lookup f = some v ∧ RV G W v x
  | _, _, .nil, h => by cases h
  | _, _, .cons (k := k) r t, h => by
    rw [List.lookup_cons] at h
    rw [List.lookup_cons]
    cases q : f == k with
    | true => rw [q] at h; cases h; exact ⟨_, rfl, r⟩
    | false => rw [q] at h; exact RFs.look t h
def evXf (i : Nat) (f : Str) : EvF := fun env S => match env[i]? with
  | some (.exc _ fs) => (match fs.lookup f with | some v => .ok v S | none => .stuck)
  | _ => .stuck
def evXis (i : Nat) (tbl : Nat → Option Bool) : EvF := fun env S => match env[i]? with
  | some (.exc c _) => (match tbl c with | some b => .ok (.bl b) S | none => .stuck)
  | _ => .stuck
section
variable {X : Cx} {G : Gc} {Ex : WX} {a : Addr} {oe : Obj} {cls : Value} {d : Option Addr} {pn : List (Addr × Obj)} {pos p xp : Pos} {n f : Str} {i : Nat} {tbl : Nat → Option Bool}
theorem e_xf (hT : ∀ c C, G.ca c = some C → XfC X.K C ∧ PySem.W.findIn X.K (.ref C) f = some none) (hz : Zc cls d oe) (hf : ∃ vs, oe.data = .fields vs) (hN : X.N[i]? = some n) (hv : Vis X.env.scope n) (hd : (n == ("__debug__" : Str)) = false) (hcd : (n == ("__classdict__" : Str)) = false)
    (hb : attributeBase (.Name n xp) f X.env (eval (.Name n xp) X.env) = eval (.Name n xp) X.env) : PE (X.suite a ((a, oe) :: pn)) (.Attribute (.Name n xp) f pos) (tE (G.su a cls d) Ex (evXf i f)) := by
  refine ⟨fun pins s σ H Q I h => ?_⟩
  obtain ⟨gh, W, S, env, A, o⟩ := h
  unfold evXf at o
  split at o
  · rename_i c fs q
    cases ql : fs.lookup f with
    | none => rw [ql] at o; exact o.elim
    | some v =>
      rw [ql] at o
      obtain ⟨k1, C, dd, kvs, h1, h2, h3, h4, h5⟩ := A.s.exc i c fs q
      obtain ⟨u, l1, l2⟩ := RFs.look h5 ql
      obtain ⟨T, hno⟩ := hT c C h1
      exact (pe_xf (pn := pn) T hno hz hf (pe_var (X := X.suite a ((a, oe) :: pn)) (pos := xp) hN hv hd hcd) hb).run pins s σ H Q I ⟨.ref a, k1, rfl, h2, dd, kvs, u, h3, h4, l1, o W H u (Ext.refl _ _) A.w l2⟩
  · exact o.elim
theorem c_isE {D : Addr} {dd : Addr} (C : ExcC X.K D) (hz : Zc (.ref D) (some dd) oe) (hf : ∃ vs, oe.data = .fields vs) : CallR (X.suite a ((a, oe) :: pn)) (.builtin "isinstance")
    (fun xs H Q => ∃ (c : V) (cv : Value) (b : Bool) (kvs : List (Str × V)), xs = [.ref a, c] ∧ (∀ u, RelV c u → u = cv) ∧ H dd = some (.xd kvs) ∧ PySem.W.kitOne X.K (.ref D) cv = some b ∧ Q (.bl b) H) := by
  intro pins s σ H xs us Q I r h
  obtain ⟨c, cv, b, kvs, rfl, hcv, hdd, e, q⟩ := h
  cases r with
  | cons rx rr =>
    cases rr with
    | cons rt rr =>
      cases rr
      cases rx
      have ec := hcv _ rt
      subst ec
      obtain ⟨hget, _⟩ := I.pin (a, oe) (List.mem_append.mpr (.inl List.mem_cons_self))
      obtain ⟨vs, hv⟩ := hf
      obtain ⟨mA, hns, _⟩ := show ∃ mA, s.heap.Ns1 dd mA ∧ _ from I.hok dd _ hdd
      obtain ⟨od, ho, _⟩ := lookIn_ns hns
      have J : PySem.W.InstAt s.heap a oe D (some od) := ⟨hget, hz.1, by unfold PySem.W.notCls; rw [hv] <;> rfl, by rw [hz.2]; exact ho⟩
      exact PySem.W.kia_one (kit_err C) I.kIn J e (fun z => nomatch z) fun tk => ⟨.bl b, H, I.kept (t' := tk) fun _ _ z => z, rfl, q⟩
theorem e_isE {e2 : Expr} {c : V} {cv : Value} (hT : ∀ k D b, G.ca k = some D → tbl k = some b → ExcC X.K D ∧ PySem.W.kitOne X.K (.ref D) cv = some b) (hz : Zc cls d oe) (hf : ∃ vs, oe.data = .fields vs) (hN : X.N[i]? = some n) (hv : Vis X.env.scope n) (hd : (n == ("__debug__" : Str)) = false) (hcd : (n == ("__classdict__" : Str)) = false)
    (hcv : ∀ u, RelV c u → u = cv) (he2 : PE (X.suite a ((a, oe) :: pn)) e2 (tC c)) (hg : Gl X "isinstance") (hm : X.mg "isinstance" = none)
    (hs : starEach [.Name n xp, e2] X.env = (false, eval (.Name n xp) X.env) :: starEach [e2] X.env) (hs2 : starEach [e2] X.env = (false, eval e2 X.env) :: starEach [] X.env) (hpl : (backTo pos (starEach [e2] X.env)).any (·.1) = false) :
    PE (X.suite a ((a, oe) :: pn)) (.Call (.Name "isinstance" p) [.Name n xp, e2] [] pos) (tE (G.su a cls d) Ex (evXis i tbl)) := by
  refine ⟨fun pins s σ H Q I h => ?_⟩
  obtain ⟨gh, W, S, env, A, o⟩ := h
  unfold evXis at o
  split at o
  · rename_i k fs q
    cases ql : tbl k with
    | none => rw [ql] at o; exact o.elim
    | some b =>
      rw [ql] at o
      obtain ⟨k1, C, dd, kvs, h1, h2, h3, h4, h5⟩ := A.s.exc i k fs q
      obtain ⟨T, hk⟩ := hT k C b h1 ql
      have h2 : cls = .ref C := h2
      have h3 : d = some dd := h3
      subst h2
      subst h3
      exact (pe_callB (c_isE (a := a) (pn := pn) T hz hf) hg hm PyProof.Rows.Boot.«isinstance» (pa_cons (pe_var (X := X.suite a ((a, oe) :: pn)) (pos := xp) hN hv hd hcd) (pa_cons he2 pa_nil hs2) hs) (he := hs) (hpl := hpl)).run pins s σ H Q I
        ⟨.ref a, k1, c, cv, b, kvs, rfl, hcv, h4, hk, o W H (.bl b) (Ext.refl _ _) A.w (.bl b)⟩
  · exact o.elim
end
end Pev

set_option Elab.async false
set_option linter.all false
set_option maxRecDepth 100000
set_option maxHeartbeats 4000000
namespace Pev
open PyProof.Rows (envOfC)
open PySem PySem.Spec L2
/-! ### a def by its body -/
def runB (n : Nat) (r : EvS) : CallF := fun vs S => match r (vs.map .val ++ List.replicate (n - vs.length) .un) S with
  | .nx _ S' => .ok .non S'
  | .rt v S' => .ok v S'
  | .exc c fs _ S' => .exc c fs S'
  | _ => .stuck
theorem env0_get {xs : List Pv} {n i : Nat} {sl : Slot} (h : (xs.map Slot.val ++ List.replicate n .un)[i]? = some sl) : (∃ v, xs[i]? = some v ∧ sl = .val v) ∨ sl = .un := by
  by_cases hi : i < xs.length
  · rw [List.getElem?_append_left (by simpa using hi), List.getElem?_map] at h
    cases q : xs[i]? with
    | none => rw [q] at h; cases h
    | some v => rw [q] at h; cases h; exact .inl ⟨v, rfl, rfl⟩
  · rw [List.getElem?_append_right (by simpa using hi), List.getElem?_replicate] at h
    split at h
    · cases h; exact .inr rfl
    · cases h
theorem at_start {G : Gc} {W : Wd} {S : Sto} {H : Hp} {N : List Str} {vs : List V} {xs : List Pv} (w : WOk G W H S) (r : RVs G W vs xs) : At G ⟨H, W⟩ W S (L2.start N vs) H (xs.map .val ++ List.replicate (N.length - xs.length) .un) := by
  refine ⟨w, ⟨?_, fun i v h => ?_, fun i ys h => ?_, fun i c fs h => ?_, fun i h => ?_, fun i j ys zs a h1 h2 h3 h4 => ?_⟩, Ext.refl _ _⟩
  · unfold L2.start
    simp [r.length]
  · rcases env0_get h with ⟨x, h1, h2⟩ | h2
    · cases h2
      obtain ⟨y, k1, k2⟩ := r.get h1
      refine ⟨y, ?_, k2⟩
      unfold L2.start
      have hi : i < vs.length := (List.getElem?_eq_some_iff.mp k1).1
      rw [List.getElem?_append_left (by simpa using hi), List.getElem?_map, k1]
      rfl
    · cases h2
  · rcases env0_get h with ⟨x, h1, h2⟩ | h2 <;> cases h2
  · rcases env0_get h with ⟨x, h1, h2⟩ | h2 <;> cases h2
  · rcases env0_get h with ⟨x, h1, h2⟩ | h2 <;> cases h2
  · rcases env0_get h1 with ⟨x, _, h2⟩ | h2 <;> cases h2
theorem run_out {G : Gc} {W : Wd} {S : Sto} {H : Hp} {Q : VK} {E : XK} {r : EvS} {env : List Slot} {f : ResS → Res Pv}
    (hf : f = fun o => match o with | .nx _ S' => .ok .non S' | .rt v S' => .ok v S' | .exc c fs _ S' => .exc c fs S' | _ => .stuck)
    (o : Out G W H ([] : L2.St) (fun c d _ H' => E c d H') (RV G) Q (f (r env S))) : OutS G ⟨H, W⟩ W { nx := fun _ H' => Q .non H', rt := Q } (fun cls d _ H' => E cls d H') (r env S) := by
  subst hf
  cases q : r env S with
  | nx env' S' => rw [q] at o; exact fun W' H' σ' l A => o W' H' .non A.e0 A.w .non
  | rt v S' => rw [q] at o; exact fun W' H' x l w e rv => o W' H' x e w rv
  | exc c fs env' S' => rw [q] at o; exact fun W' H' σ' cls d l A rx => o W' H' cls d A.e0 A.w rx
  | bk env' S' => rw [q] at o; exact o.elim
  | ct env' S' => rw [q] at o; exact o.elim
  | stuck => rw [q] at o; exact o.elim
theorem fn_ev {P : Program} {w : World} {g : G0} {mg : Str → Option Value} {base : Heap} {x qual : Str} {st : Stmt} {f : Addr} {fd : FuncData} {N ps : List Str} {k : Nat} {rbody : EvS} (F : Fun g.K x qual st f fd) (S : FnScope N ps (defScope st))
    (hbody : ∀ (G : Gc) (cdv : Value) (A : Around) (outer : List Env) (s : Shared) (H : Hp) (E : XK), G.toG0 = g → Room k (A.deeper (envOfC qual (defScope st) s.heap.objs.size f cdv)) → A.guards = some [] →
      PSs (cxOf (L2.CX P w) P w g.K mg base N qual (defScope st) f cdv A outer s H E) (defBody st) (tS G (fun cls d _ H => E cls d H) rbody)) :
    FnG P w g.K mg base (L2.CX P w) (k + 1) f fd ps (spF g ps.length (runB N.length rbody)) := by
  refine ⟨fun vs H Q E h => h.1, fun A outer s H args us vs Q E hr hgd e0 hb rv0 h => ?_⟩
  obtain ⟨oc, od, kV, doc, pm, an, cdv, ct, osl, rfl, lk, hcd⟩ := F.ex
  refine LamX.run_ofS (CX := L2.CX P w) lk hcd S hr e0 hb rv0 h.1 fun hr' => ?_
  obtain ⟨hl, W, S0, xs, w0, rv, o⟩ := h
  refine ⟨_, hbody ⟨g, ⟨0, .none, none, 0, 0, "", ⟨H, W⟩⟩⟩ cdv A outer s H E rfl hr' hgd, ⟨H, W⟩, W, S0, _, at_start (N := N) w0 rv, ?_⟩
  exact run_out (f := fun o => match o with | .nx _ S' => .ok .non S' | .rt v S' => .ok v S' | .exc c fs _ S' => .exc c fs S' | _ => .stuck) rfl o
/-! ### a lambda handed to a def that calls it, with the slots as they are -/
section
open LamX
variable {X : Cx} {pins : List (Addr × Obj)} {σ : L2.St} {H : Hp} {s s1 : Shared}
theorem pe_actS {CXg : CXT} {Eg : XK} {Ng : List Str} {qg : Str} {sg : Scope} {g f c' : Addr} {cdg pm ctv : Value} {params : Arguments} {body : Expr} {scope : Scope} {k i : Nat} {a : Str} {pn : List (Addr × Obj)} {xe : Value → Shared → Prop} {W : WX} {tb : XK → TE} {p1 p2 : Pos} (I : Inv X pins σ H s)
    (L : LamS X.env.scope scope) (hf : s.heap.get? f = some (PySem.W.kla_obj "<lambda>" (X.env.qual ++ "<lambda>") params body scope (cloFrom X.env.cells scope.names []) pm c' ctv)) (hfn : H f = none) (hfr : f ∉ frs X.stack) (hbind : bindArgs (PySem.W.kla_fn "<lambda>" (X.env.qual ++ "<lambda>") params body scope (cloFrom X.env.cells scope.names []) pm (.ref c') ctv) ⟨[], []⟩ = pure [])
    (tk : Takes ((cxOf CXg X.prog X.w X.K X.mg X.base Ng qg sg g cdg X.A X.stack s H Eg).tr pn xe) W) (hr : Room (k + 1) (X.A.deeper (envOfC qg sg s.heap.objs.size g cdg))) (hbody : ∀ (A : Around) (outer : List Env) (s : Shared) (H : Hp) (E : XK), Room k (A.deeper (lamEnv X scope s.heap.objs.size f c')) → A.guards = X.A.guards → PE (lamCx X A outer s H E scope f c') body (tb E))
    (hN : Ng[i]? = some a) (hv : Vis sg a) (hd : (a == ("__debug__" : Str)) = false) (hcd : (a == ("__classdict__" : Str)) = false) : PE ((cxOf CXg X.prog X.w X.K X.mg X.base Ng qg sg g cdg X.A X.stack s H Eg).tr pn xe) (.Call (.Name a p1) [] [] p2)
      (fun σZ HZ Q => σZ[i]? = some (some (.ref f)) ∧ HZ c' = some (CodeO c' (X.env.qual ++ "<lambda>")) ∧ tb (WE W σZ) σ HZ Q) := by
  refine ⟨fun pinsZ sZ σZ HZ Q IZ h => ?_⟩; obtain ⟨hs, hc, ht⟩ := h
  refine wpAny_Call_Name_kw (thn ((pe_var (pos := p1) (i := i) hN hv hd hcd).run pinsZ sZ σZ HZ (fun v H1 => v = .ref f ∧ H1 = HZ) IZ ⟨.ref f, hs, rfl, rfl⟩) fun u s1 ⟨v, H1, I1, r1, q1⟩ => ?_); obtain ⟨ev, eH⟩ := q1; subst ev; rw [eH] at I1; obtain rfl : u = Value.ref f := r1
  have of1 : s1.heap.get? f = some (PySem.W.kla_obj "<lambda>" (X.env.qual ++ "<lambda>") params body scope (cloFrom X.env.cells scope.names []) pm c' ctv) := I1.base.keep f _ hf hfn hfr (fun z => nomatch (show f ∈ ([] : List Addr) from z)); refine PySem.W.callWith_F0 ⟨_, _, _, _, of1⟩ ?_
  have un : Un (frs X.stack) [] H HZ s.heap s1.heap := I1.base; obtain ⟨⟨oc, vs, t, hoc, hdc, hvc⟩, _, _⟩ := I1.hok c' _ hc
  have rc : codeAny (model X.prog X.w) (X.A.deeper (envOfC qg sg s.heap.objs.size g cdg)) (.call (.ref f) ⟨[], []⟩) (CR (L2.CX X.prog X.w) (envOfC qg sg s.heap.objs.size g cdg :: X.stack) X.prog X.w HZ s1 Q (WE W σZ)) s1 := by
    refine PySem.W.kla_callFunE hr.depth of1 rfl L.co L.gen rfl ⟨c', oc, vs, t, rfl, hoc, hdc, hvc⟩ ?_; rw [hbind]
    refine wpAny_pure (wpAny_newFunctionEnv (fun y hy => (L.own y hy).2) (fun y hy => absurd hy (by simp)) (fun h₁ hns hsb => ⟨I1.nolimit.fresh _ hsb, ?_⟩) L.kind); show codeAny _ _ (.expr body (lamEnv X scope s1.heap.objs.size f c')) _ _
    have kp : ∀ b o, s1.heap.get? b = some o → h₁.get? b = some o := fun b o e => hsb.extBut b o (Nat.ne_of_lt (Heap.lt_size e)) (Heap.get?_push_of_some _ e)
    have J := lam_start2 (f := f) (c' := c') (tk := s1.toks + ([] : List (Str × Value)).length) (E := WE W σZ) I L I1.env0 hr.hd un hns kp
    refine PySem.W.kla_codeExpr (wpAny_mono ((hbody _ _ s1 HZ (WE W σZ) (hr.deeper _) rfl).run [] _ _ HZ Q J ht) (fun v s' hq => ?_) fun e s' hq => hq); obtain ⟨w', H', J', rv, q⟩ := hq; exact ⟨w', H', J'.os, J'.bare, J'.base, J'.hok, rv, q⟩
  refine wpAny_call (codeAny_mono rc fun r s' hq => ?_)
  cases r with
  | error e => exact passAt tk σZ pinsZ HZ s1 e s' I1 hq
  | ok fl => cases fl with
    | ret u => exact I1.after hq
    | next => exact False.elim hq
    | brk => exact False.elim hq
    | cont => exact False.elim hq
/-- the def that calls what it got; what is raised is wished for at its slots -/
def GivesS (X : Cx) (Ng : List Str) (x : Str) (sg : Scope) (g : Addr) (cdg : Value) (bg : List Stmt) (a : Str) (q : Str) (TT : (XK → Hp → VK → Prop) → Hp → VK → Prop) : Prop :=
  ∀ (f c' : Addr) (s : Shared) (H : Hp) (Q : VK) (tl : XK → Hp → VK → Prop), Room 1 (X.A.deeper (envOfC x sg s.heap.objs.size g cdg)) → (∀ (W : WX) (pn : List (Addr × Obj)) (xe : Value → Shared → Prop) (p1 p2 : Pos), Takes ((cxOf C8.CX0 X.prog X.w X.K X.mg X.base Ng x sg g cdg X.A X.stack s H C8.E0).tr pn xe) W →
      PE ((cxOf C8.CX0 X.prog X.w X.K X.mg X.base Ng x sg g cdg X.A X.stack s H C8.E0).tr pn xe) (.Call (.Name a p1) [] [] p2) (fun σZ HZ Q => σZ[0]? = some (some (.ref f)) ∧ HZ c' = some (CodeO c' q) ∧ tl (WE W σZ) HZ Q)) →
    H c' = some (CodeO c' q) → TT tl H Q → ∃ t, PSs (cxOf C8.CX0 X.prog X.w X.K X.mg X.base Ng x sg g cdg X.A X.stack s H C8.E0).nox bg t ∧ t { nx := fun _ H' => Q .non H', rt := Q } (L2.start Ng [.ref f]) H
theorem pe_lamS {T : List (Addr × Str)} {TT : (XK → Hp → VK → Prop) → Hp → VK → Prop} {x a : Str} {g c P : Addr} {k : Nat} {pg : Arguments} {bg : List Stmt} {sg : Scope} {dV kV doc pm cdv ct oc : Value} {an od : Option Addr} {osl : Array (Option Value)} {Ng : List Str} {params : Arguments} {body : Expr} {scope : Scope} {t : XK → TE} {p lpos pos : Pos}
    (hg : Gl X x) (hm : X.mg x = some (.ref g)) (hk : PySem.W.keepIn X.K (.ref g) = true) (lk : X.K.lookup g = some ⟨oc, od, .func (PySem.W.fnOf x x pg bg sg dV kV doc pm an cdv ct), osl⟩) (hcg : PySem.W.codeIn X.K cdv x = true) (hb : L2.Binds X.K (PySem.W.fnOf x x pg bg sg dV kV doc pm an cdv ct) [a] []) (Sg : FnScope Ng [a] sg) (hNg : Ng[0]? = some a) (hva : Vis sg a)
    (hG : GivesS X Ng x sg g cdv bg a (X.env.qual ++ "<lambda>") TT) (TB : TabB X.base X.mg c P) (hcode : X.env.code = .ref c) (hmT : (P, X.env.qual ++ "<lambda>") ∈ T) (hu : ∀ p ∈ T, p.1 = P → p.2 = X.env.qual ++ "<lambda>") (hr : Room (k + 2) X.A) (L : LamS X.env.scope scope) (hdef : defaultsOf params X.env = ([], []))
    (hbind : ∀ (q : Str) (cl : List (Str × Addr)) (pm cv ctv : Value), bindArgs (PySem.W.kla_fn "<lambda>" q params body scope cl pm cv ctv) ⟨[], []⟩ = pure []) (hbody : ∀ (A : Around) (outer : List Env) (s : Shared) (H : Hp) (E : XK) (f c' : Addr), Room k (A.deeper (lamEnv X scope s.heap.objs.size f c')) → A.guards = X.A.guards → PE (lamCx X A outer s H E scope f c') body (t E))
    (hdb : (x == ("__debug__" : Str)) = false) (hd : (a == ("__debug__" : Str)) = false) (hcd : (a == ("__classdict__" : Str)) = false) : PE X (.Call (.Name x p) [.Lambda params body scope lpos] [] pos) (tLam T TT t) := by
  refine ⟨fun pins s σ H Q I h => ?_⟩; obtain ⟨hT, h⟩ := h; refine wpAny_Call_Name_kw (ld_glob I hg hm ?_ hdb); refine PySem.W.callWith_K (h₀ := X.base) I.ok.mod.kin hk ?_ (by rfl) (by rfl)
  show wpAny _ _ (spliced ((false, eval (.Lambda params body scope lpos) X.env) :: backTo pos (starEach [] X.env))) _ _ s; refine Calls.spliced_cons (lam_make2 I TB hcode hmT hu hT hdef (L.has I.ok) fun f c' pm' ctv H1 s' I1 eN T1 hf hfn hfr hco => ?_); refine Calls.spliced_nil ⟨I1.kIn, ?_⟩
  have rc : codeAny (model X.prog X.w) X.A (.call (.ref g) ⟨[.ref f], []⟩) (CR C8.CX0 X.stack X.prog X.w H1 s' Q C8.E0) s' := by
    refine run_ofS (N := Ng) (ps := [a]) (us := [.ref f]) (vs := [.ref f]) lk hcg Sg hr I1.env0 (hb s' [.ref f] I1.kIn rfl) (.cons rfl .nil) rfl fun hr' => ?_
    obtain ⟨t', ht', hq'⟩ := hG f c' s' H1 Q (fun E H' Q' => t E σ H' Q') (hr'.mono (by omega)) (fun W pn xe p1 p2 tk => pe_actS (i := 0) I1 L hf hfn hfr (hbind _ _ _ _ _) tk hr' (fun A outer s H E hr2 hg2 => hbody A outer s H E f c' hr2 hg2) hNg hva hd hcd) hco (h H1 eN T1); exact ⟨t', ht'.nox, hq'⟩
  refine wpAny_call (codeAny_mono rc fun r s2 hq => ?_)
  cases r with
  | error e => exact (show False from hq).elim
  | ok fl => cases fl with
    | ret u => exact I1.after hq
    | next => exact False.elim hq
    | brk => exact False.elim hq
    | cont => exact False.elim hq
end
end Pev

set_option Elab.async false
set_option linter.all false
set_option maxRecDepth 100000
set_option maxHeartbeats 4000000
namespace Pev
open PyProof.Rows (envOfC)
open PySem PySem.Spec L2 LamX
/-! ### f(lambda: e), f a def that calls what it gets -/
def evThk (i : Nat) (rf : Sto → Res Pv) : EvF := fun env S => match env[i]? with
  | some .thk => rf S
  | _ => .stuck
abbrev SaidF := (Sto → Res Pv) → Sto → Res Pv
def runSaid (n : Nat) (r : (Sto → Res Pv) → EvS) : SaidF := fun rf S => match r rf (.thk :: List.replicate (n - 1) .un) S with
  | .nx _ S' => .ok .non S'
  | .rt v S' => .ok v S'
  | _ => .stuck
def evSaid (cf : SaidF) (re : EvF) : EvF := fun env S => match cf (re env) S with
  | .ok v S' => .ok v S'
  | _ => .stuck
def TTs (g : G0) (cf : SaidF) : (XK → Hp → VK → Prop) → Hp → VK → Prop := fun tl H Q => ∃ W S rf, WOk g W H S ∧
  (∀ W1 H1 S1 (E : XK) Q', Ext W H W1 H1 → WOk g W1 H1 S1 → Out g W1 H1 ([] : L2.St) (fun c d _ H' => E c d H') (RV g) Q' (rf S1) → tl E H1 Q') ∧ Out g W H ([] : L2.St) noX (RV g) Q (cf rf S)
theorem Out.slots {α β : Type} {g : G0} {W : Wd} {H : Hp} {σ σ' : L2.St} {Ex Ex' : WX} {R : Wd → β → α → Prop} {Q : β → Hp → Prop} {r : Res α} (h : Out g W H σ Ex R Q r) (k : ∀ c d H', Ex c d σ H' → Ex' c d σ' H') : Out g W H σ' Ex' R Q r := by
  cases r with
  | ok a S => exact h
  | exc c fs S => exact fun W' H' cls d e w rx => k _ _ _ (h W' H' cls d e w rx)
  | stuck => exact h
theorem WOk.extN {g : G0} {W : Wd} {H H1 : Hp} {S : Sto} (w : WOk g W H S) (e : ExtN H H1) (t : Tabs g.T H1) : WOk g W H1 S ∧ Ext W H W H1 := by
  have pl : ∀ {o : HO}, Plain o → ∀ ps, o ≠ .tbl ps := fun {o} p ps z => by subst z; exact p
  refine ⟨⟨fun a u h => e a u (w.le a u h) (pl (w.plain a u h)), w.plain, w.len, fun n a es h1 h2 => ?_, w.inj, t⟩, fun _ _ h => h, fun _ _ h _ _ => h, fun a u h _ t => e a u h t, fun a u h t => ⟨u, e a u h t, t⟩, [], by simp, by simp⟩
  obtain ⟨f, kvs, hk, r⟩ := w.at_ n a es h1 h2
  exact ⟨f, kvs, e _ _ hk (fun _ z => by cases z), r⟩
section
variable {X : Cx} {g : G0} {Ng : List Str} {x a q : Str} {sg : Scope} {gA : Addr} {cdg : Value} {bg : List Stmt} {rbody : (Sto → Res Pv) → EvS}
theorem said_gives (hbody : ∀ (G : Gc) (rf : Sto → Res Pv) (s : Shared) (H : Hp), G.toG0 = g → Room 1 (X.A.deeper (envOfC x sg s.heap.objs.size gA cdg)) →
      (∀ (W : WX) (pn : List (Addr × Obj)) (xe : Value → Shared → Prop) (p1 p2 : Pos), Takes ((cxOf C8.CX0 X.prog X.w X.K X.mg X.base Ng x sg gA cdg X.A X.stack s H C8.E0).tr pn xe) W → PE ((cxOf C8.CX0 X.prog X.w X.K X.mg X.base Ng x sg gA cdg X.A X.stack s H C8.E0).tr pn xe) (.Call (.Name a p1) [] [] p2) (tE G W (evThk 0 rf))) →
      PSs (cxOf C8.CX0 X.prog X.w X.K X.mg X.base Ng x sg gA cdg X.A X.stack s H C8.E0).nox bg (tS G noX (rbody rf))) : GivesS X Ng x sg gA cdg bg a q (TTs g (runSaid Ng.length rbody)) := by
  intro f c' s H Q tl hr1 act hc h
  obtain ⟨W, S, rf, w, htl, o⟩ := h
  let G : Gc := ⟨g, ⟨0, .none, none, f, c', q, ⟨H, W⟩⟩⟩
  refine ⟨_, hbody G rf s H rfl hr1 fun W2 pn xe p1 p2 tk => pe_imp (act W2 pn xe p1 p2 tk) fun σ HZ Q' h => ?_, ⟨H, W⟩, W, S, .thk :: List.replicate (Ng.length - 1) .un, ?_, ?_⟩
  · obtain ⟨gh, W1, S1, env, A, o1⟩ := h
    unfold evThk at o1
    split at o1
    · rename_i he
      obtain ⟨k1, k2, k3⟩ := A.s.thk 0 he
      have e0 := A.e0
      rw [k3] at e0
      exact ⟨k1, k2, htl W1 HZ S1 _ Q' e0 A.w (o1.slots fun _ _ _ z => z)⟩
    · exact o1.elim
  · refine ⟨w, ⟨by unfold L2.start; simp, fun i v h => ?_, fun i ys h => ?_, fun i c fs h => ?_, fun i h => ?_, fun i j ys zs b h1 h2 h3 h4 => ?_⟩, Ext.refl _ _⟩
    all_goals
      first
        | (cases i with
          | zero => first | (cases h; done) | (exact ⟨rfl, hc, rfl⟩) | (cases h1; done)
          | succ i => first
            | (rw [List.getElem?_cons_succ, List.getElem?_replicate] at h; split at h <;> cases h)
            | (rw [List.getElem?_cons_succ, List.getElem?_replicate] at h1; split at h1 <;> cases h1))
  · unfold runSaid at o
    cases qr : rbody rf (.thk :: List.replicate (Ng.length - 1) .un) S with
    | nx env' S' => rw [qr] at o; exact fun W' H' σ' l A => o W' H' .non A.e0 A.w .non
    | rt v S' => rw [qr] at o; exact fun W' H' y l w e rv => o W' H' y e w rv
    | exc c fs env' S' => rw [qr] at o; exact o.elim
    | bk env' S' => rw [qr] at o; exact o.elim
    | ct env' S' => rw [qr] at o; exact o.elim
    | stuck => rw [qr] at o; exact o.elim
end
section
variable {X : Cx} {G : Gc} {Ex : WX} {x a : Str} {gA c P : Addr} {k : Nat} {pg : Arguments} {bg : List Stmt} {sg : Scope} {dV kV doc pm cdv ct oc : Value} {an od : Option Addr} {osl : Array (Option Value)} {Ng : List Str} {params : Arguments} {body : Expr} {scope : Scope} {p lpos pos : Pos} {cf : SaidF} {re : EvF}
theorem e_said (hg : Gl X x) (hm : X.mg x = some (.ref gA)) (hk : PySem.W.keepIn X.K (.ref gA) = true) (lk : X.K.lookup gA = some ⟨oc, od, .func (PySem.W.fnOf x x pg bg sg dV kV doc pm an cdv ct), osl⟩) (hcg : PySem.W.codeIn X.K cdv x = true) (hb : L2.Binds X.K (PySem.W.fnOf x x pg bg sg dV kV doc pm an cdv ct) [a] [])
    (Sg : FnScope Ng [a] sg) (hNg : Ng[0]? = some a) (hva : Vis sg a) (hG : GivesS X Ng x sg gA cdv bg a (X.env.qual ++ "<lambda>") (TTs G.toG0 cf)) (TB : TabB X.base X.mg c P) (hcode : X.env.code = .ref c) (hmT : (P, X.env.qual ++ "<lambda>") ∈ G.T) (hu : ∀ p ∈ G.T, p.1 = P → p.2 = X.env.qual ++ "<lambda>") (hr : Room (k + 2) X.A)
    (L : LamS X.env.scope scope) (hdef : defaultsOf params X.env = ([], [])) (hbind : ∀ (q : Str) (cl : List (Str × Addr)) (pm cv ctv : Value), bindArgs (PySem.W.kla_fn "<lambda>" q params body scope cl pm cv ctv) ⟨[], []⟩ = pure [])
    (hbody : ∀ (A : Around) (outer : List Env) (s : Shared) (H : Hp) (E : XK) (f c' : Addr), Room k (A.deeper (lamEnv X scope s.heap.objs.size f c')) → A.guards = X.A.guards → PE (lamCx X A outer s H E scope f c') body (tE G (fun cls d _ H => E cls d H) re))
    (hdb : (x == ("__debug__" : Str)) = false) (hd : (a == ("__debug__" : Str)) = false) (hcd : (a == ("__classdict__" : Str)) = false) : PE X (.Call (.Name x p) [.Lambda params body scope lpos] [] pos) (tE G Ex (evSaid cf re)) :=
  pe_imp (pe_lamS hg hm hk lk hcg hb Sg hNg hva hG TB hcode hmT hu hr L hdef hbind hbody hdb hd hcd) fun σ H Q h => by
    obtain ⟨gh, W, S, env, A, o⟩ := h
    refine ⟨A.w.tabs, fun H1 eN T1 => ?_⟩
    obtain ⟨w1, e1⟩ := A.w.extN eN T1
    refine ⟨W, S, re env, w1, fun W2 H2 S2 E Q' e2 w2 o2 => ⟨gh, W2, S2, env, A.ext (e1.trans e2) w2, o2.slots fun _ _ _ z => z⟩, ?_⟩
    unfold evSaid at o
    cases q : cf (re env) S with
    | ok v S' => rw [q] at o; exact Out.shift (Ex := noX) (σ := ([] : L2.St)) (r := .ok v S') (fun W' H' y e w rv => o W' H' y e w rv) e1
    | exc c fs S' => rw [q] at o; exact o.elim
    | stuck => rw [q] at o; exact o.elim
end
end Pev

set_option Elab.async false
set_option linter.all false
set_option maxRecDepth 100000
set_option maxHeartbeats 4000000
namespace Pev
open PyProof.Rows (envOfC)
open PySem PySem.Spec L2
section
variable {X : Cx} {G : Gc} {Ex : WX} {a b c e o : Expr} {es : List Expr} {ra rb : EvF} {ras : EvFs} {pos p : Pos}
/-! ### -e -/
def evNeg (ra : EvF) : EvF := fun env S => (ra env S).bind fun v S1 => match v with | .int i => .ok (.int (-i)) S1 | _ => .stuck
theorem e_neg (ha : PE X a (tE G Ex ra)) : PE X (.UnaryOp .USub a pos) (tE G Ex (evNeg ra)) := pe_imp (pe_un un_neg ha) fun σ H Q h => by
  obtain ⟨H0, W, S, env, A, o⟩ := h
  refine ⟨H0, W, S, env, A, o.bind fun v S1 W1 H1 x e1 w1 r1 o1 => ?_⟩
  cases r1 with
  | int i => exact ⟨i, rfl, o1 W1 H1 _ (Ext.refl _ _) w1 (.int _)⟩
  | _ => exact o1.elim
/-! ### a new list by + -/
def evAddF (ra rb : EvF) : EvFs := fun env S => (ra env S).bind fun va S1 => (rb env S1).bind fun vb S2 => match va, vb with
  | .lst xs, .lst ys => (match Nat.ble (xs.length + ys.length) capLen with | true => .ok (xs ++ ys) S2 | false => .stuck)
  | _, _ => .stuck
theorem f_add (ha : PE X a (tE G Ex ra)) (hb : PE X b (tE G Ex rb)) : PE X (.BinOp a .Add b pos) (tF G Ex (evAddF ra rb)) := pe_imp (pe_op op_cat ha hb) fun σ H Q h => by
  obtain ⟨H0, W, S, env, A, o⟩ := h
  refine ⟨H0, W, S, env, A, o.bind fun va S1 W1 H1 x e1 w1 r1 o1 => ?_⟩
  refine ⟨H0, W1, S1, env, A.ext e1 w1, o1.bind fun vb S2 W2 H2 y e2 w2 r2 o2 => ?_⟩
  split at o2
  · rename_i xs ys
    cases c : Nat.ble (xs.length + ys.length) capLen with
    | false => rw [c] at o2; exact o2.elim
    | true =>
      rw [c] at o2
      cases r1 with
      | lst h1 h2 =>
        rename_i l vs
        cases r2 with
        | lst h3 h4 =>
          rename_i m ws
          refine ⟨l, m, vs, ws, rfl, rfl, w2.le _ _ (e2.F _ _ h1), w2.le _ _ h3, cap_line (by rw [h2.length, h4.length]; exact Nat.le_of_ble_eq_true c), fun p hp => ?_⟩
          obtain ⟨w3, e3⟩ := w2.new (o := .lst (vs ++ ws)) hp
          have fp : W2.F p = none := by
            cases z : W2.F p with
            | none => rfl
            | some u => have := w2.le p u z; rw [hp] at this; cases this
          exact o2 W2 _ p _ e3 w3 (.of hp) upd_same fp ((h2.mono e2.le).append h4)
  · exact o2.elim
/-! ### methods of builtin types -/
def rMt (G : Gc) (g : Pv → List Pv → Option Pv) : V → List V → Hp → VK → Prop := fun x xs H Q => ∃ W S va vs v, WOk G W H S ∧ RV G W x va ∧ RVs G W xs vs ∧ g va vs = some v ∧ ∀ W' H' z, Ext W H W' H' → WOk G W' H' S → RV G W' z v → Q z H'
def tyP (T : String) : Pv → Bool
  | .lst _ => T == "list"
  | .scr _ => T == "list"
  | .str _ => T == "str"
  | _ => false
theorem tyP_of {W : Wd} {H : Hp} {S : Sto} {x : V} {v : Pv} {T : String} (w : WOk G W H S) (hK : X.K = G.K) (r : RV G W x v) (h : tyP T v = true) : tyV X.K T x H := by
  cases r with
  | lst h1 h2 => exact .inl ⟨eq_of_beq h, _, by rw [hK]; exact sqL_of w (.inl (.inl h1))⟩
  | scr h1 h2 => exact .inl ⟨eq_of_beq h, _, by rw [hK]; exact sqL_of w h1⟩
  | str s => exact eq_of_beq h
  | _ => cases h
def evM (T : String) (g : Pv → List Pv → Option Pv) (ro : EvF) (ras : EvFs) : EvF := fun env S => (ro env S).bind fun v S1 => match tyP T v with
  | true => (ras env S1).bind fun vs S2 => (match g v vs with | some z => .ok z S2 | none => .stuck)
  | false => .stuck
theorem e_bm {T id : String} {name : Str} {apos cpos : Pos} {g : Pv → List Pv → Option Pv} {ro : EvF} (hK : X.K = G.K) (pa : PlainAttrs T) (slot : PySem.Slot T name id) (hty : typeOf (.builtin id) = pure (.type "method_descriptor")) (hm : MtR X id (rMt G g)) (ho : PE X o (tE G Ex ro)) (ha : PA X (e :: es) (tA G Ex ras))
    (hbase : attributeBase o name X.env (eval o X.env) = eval o X.env) (hfew : ((backTo cpos (starEach (e :: es) X.env)).all (fun x => !x.1) && (backToKw cpos (keywordEach [] X.env)).all (fun x => x.1.isSome) && decide ((e :: es).length + ([] : List Keyword).length + (if ([] : List Keyword).isEmpty then 0 else 1) < 30)) = true)
    (hline : (apos.endLine == cpos.line) = true) (hs : starEach (e :: es) X.env = (false, eval e X.env) :: starEach es X.env) (hplain : (backTo cpos (starEach es X.env)).any (·.1) = false) :
    PE X (.Call (.Attribute o name apos) (e :: es) [] cpos) (tE G Ex (evM T g ro ras)) := pe_imp (pe_bm pa slot hty hm ho ha hbase hfew hline hs hplain) fun σ H Q h => by
  obtain ⟨H0, W, S, env, A, o⟩ := h
  refine ⟨H0, W, S, env, A, o.bind fun v S1 W1 H1 x e1 w1 r1 o1 => ?_⟩
  cases q : tyP T v with
  | false => rw [q] at o1; exact o1.elim
  | true =>
    rw [q] at o1
    refine ⟨tyP_of w1 hK r1 q, H0, W1, S1, env, A.ext e1 w1, o1.bind fun vs S2 W2 H2 xs e2 w2 r2 o2 => ?_⟩
    cases q2 : g v vs with
    | none => rw [q2] at o2; exact o2.elim
    | some z => rw [q2] at o2; exact ⟨W2, S2, v, vs, z, w2, r1.mono e2.le, r2, q2, fun W' H' y e w r => o2 W' H' y e w r⟩
def gCountB : Pv → List Pv → Option Pv
  | .lst xs, [.bl k] => match bools xs with | some bs => some (.int (PySem.Spec.countIn (.bool k) (bs.map PyData.bool))) | none => none
  | _, _ => none
theorem dp_bools {K : PySem.W.Frag} {H : Hp} : ∀ bs : List Bool, DpAll K H (bs.map V.bl) (bs.map PyData.bool)
  | [] => .nil
  | b :: r => .cons (.bl b) (dp_bools r)
theorem m_countB (hK : X.K = G.K) : MtR X "list.count" (rMt G gCountB) := by
  intro pins s σ H x xs v us Q I rx rxs h
  obtain ⟨W, S, va, vs, z, w, r1, r2, hg, q⟩ := h
  unfold gCountB at hg
  split at hg
  · rename_i ys k
    cases hb : bools ys with
    | none => rw [hb] at hg; cases hg
    | some bs =>
      rw [hb] at hg
      cases hg
      cases r1 with
      | lst h1 h2 =>
        rename_i l ws
        obtain ⟨x1, rfl, r3⟩ := rvs1 r2
        cases r3
        cases rx
        obtain ⟨u, rfl, ru⟩ := rxs.one
        cases (show u = Value.bool k from ru)
        have hw := bools_of h2 hb
        subst hw
        obtain ⟨its, rv, hl, hz⟩ := I.list (by rw [hK]; exact sqL_of w (.inl (.inl h1)))
        obtain ⟨as, ra⟩ := Dp.readsAll I _ _ _ (dp_bools bs) rv
        refine PyProof.Rows.count_list_bools hl.isList ra ?_ ⟨.int _, H, I.tok _, ⟨_, rfl⟩, q W H _ (Ext.refl _ _) w (.int _)⟩
        rw [List.all_eq_true]
        intro d hd
        obtain ⟨b', _, rfl⟩ := List.mem_map.mp hd
        rfl
  · cases hg
/-! ### a local name that holds a def -/
def evCallL (i : Nat) (tbl : Nat → Option CallF) (n : Nat) (ras : EvFs) : EvF := fun env S => match env[i]? with
  | some (.val (.fn j)) => (match tbl j with
    | some cf => (ras env S).bind fun vs S1 => (match Nat.beq vs.length n with | true => cf vs S1 | false => .stuck)
    | none => .stuck)
  | _ => .stuck
structure Tb (P : Program) (w : World) (K : PySem.W.Frag) (mg : Str → Option Value) (base : Heap) (g : G0) (k n j : Nat) (cf : CallF) : Prop where
  ex : ∃ (f : Addr) (fd : FuncData) (ps : List Str), g.fa j = some f ∧ FnG P w K mg base (L2.CX P w) k f fd ps (spF g ps.length cf) ∧ PySem.W.keepIn K (.ref f) = true ∧ L2.Binds K fd ps [] ∧ ps.length = n
theorem e_callL {i n k : Nat} {tbl : Nat → Option CallF} {x : Str} (A0 : ∀ j cf, tbl j = some cf → Tb X.prog X.w X.K X.mg X.base G.toG0 k n j cf) (hr : Room k X.A) (hgd : X.A.guards = some []) (tk : Takes X Ex) (hN : X.N[i]? = some x) (hv : Vis X.env.scope x) (hdb : (x == ("__debug__" : Str)) = false) (hcd : (x == ("__classdict__" : Str)) = false)
    (ha : PA X (e :: es) (tA G Ex ras)) (he : starEach (e :: es) X.env = (false, eval e X.env) :: starEach es X.env) (hpl : (backTo pos (starEach es X.env)).any (·.1) = false) : PE X (.Call (.Name x p) (e :: es) [] pos) (tE G Ex (evCallL i tbl n ras)) := by
  refine ⟨fun pins s σ H Q I h => ?_⟩
  obtain ⟨H0, W, S, env, A, o⟩ := h
  unfold evCallL at o
  split at o
  · rename_i j q
    cases qt : tbl j with
    | none => rw [qt] at o; exact o.elim
    | some cf =>
      rw [qt] at o
      obtain ⟨f, fd, ps, hf, F, hk, hb, hn⟩ := (A0 j cf qt).ex
      obtain ⟨y, h1, h2⟩ := A.s.val i _ q
      cases h2 with
      | fn hf' =>
        rw [hf] at hf'
        cases hf'
        refine wpAny_Call_Name_kw (thn ((pe_var (pos := p) hN hv hdb hcd).run pins s σ H (fun v H1 => v = .ref f ∧ H1 = H) I ⟨.ref f, h1, rfl, rfl⟩) fun u s1 ⟨v, H1, I1, r1, q1⟩ => ?_)
        obtain ⟨rfl, rfl⟩ := q1
        cases r1
        have o : Out G.toG0 W H1 σ Ex (RV G.toG0) Q ((ras env S).bind fun vs S1 => match Nat.beq vs.length n with | true => cf vs S1 | false => .stuck) := o
        have rd : tA G Ex ras σ H1 fun vs H2 => spF G.toG0 ps.length cf vs H2 Q (WE Ex σ) := ⟨H0, W, S, env, A, o.bind fun vs S1 W1 H2 xs e1 w1 rv o1 => by
          cases ql : Nat.beq vs.length n with
          | false => rw [ql] at o1; exact o1.elim
          | true => rw [ql] at o1; exact ⟨by rw [rv.length, hn]; exact Nat.eq_of_beq_eq_true ql, W1, S1, vs, w1, rv, o1.const⟩⟩
        refine PySem.W.callWith_K (h₀ := X.base) I.ok.mod.kin hk (thn (ha.run pos pins s1 σ _ _ I1 rd) fun us s2 ⟨vs, H2, I2, r, q2⟩ => ⟨I2.kIn, ?_⟩) he hpl
        refine wpAny_call (codeAny_mono (F.run X.A X.stack s2 H2 ⟨us, []⟩ us vs Q (WE Ex σ) hr hgd I2.env0 (by have hl := F.len _ _ _ _ q2; have := hb s2 us I2.kIn (by simp [← r.length, hl]); simpa using this) r q2) fun r s' hq => ?_)
        cases r with
        | error e => exact passAt tk σ pins H2 s2 e s' I2 hq
        | ok fl =>
          cases fl with
          | ret u => exact I2.after hq
          | next => exact False.elim hq
          | brk => exact False.elim hq
          | cont => exact False.elim hq
  · exact o.elim
end
end Pev

set_option Elab.async false
set_option linter.all false
set_option maxRecDepth 100000
set_option maxHeartbeats 4000000
namespace Pev
open PyProof.Rows (envOfC)
open PySem PySem.Spec L2
section
variable {X : Cx} {G : Gc} {Ex : WX} {a b c e o : Expr} {es : List Expr} {ra rb : EvF} {ras : EvFs} {pos p : Pos}
theorem e_callL0 {i k : Nat} {tbl : Nat → Option CallF} {x : Str} (A0 : ∀ j cf, tbl j = some cf → Tb X.prog X.w X.K X.mg X.base G.toG0 k 0 j cf) (hr : Room k X.A) (hgd : X.A.guards = some []) (tk : Takes X Ex) (hN : X.N[i]? = some x) (hv : Vis X.env.scope x) (hdb : (x == ("__debug__" : Str)) = false) (hcd : (x == ("__classdict__" : Str)) = false) :
    PE X (.Call (.Name x p) [] [] pos) (tE G Ex (evCallL i tbl 0 fun _ S => .ok [] S)) := by
  refine ⟨fun pins s σ H Q I h => ?_⟩
  obtain ⟨H0, W, S, env, A, o⟩ := h
  unfold evCallL at o
  split at o
  · rename_i j q
    cases qt : tbl j with
    | none => rw [qt] at o; exact o.elim
    | some cf =>
      rw [qt] at o
      obtain ⟨f, fd, ps, hf, F, hk, hb, hn⟩ := (A0 j cf qt).ex
      obtain ⟨y, h1, h2⟩ := A.s.val i _ q
      cases h2 with
      | fn hf' =>
        rw [hf] at hf'
        cases hf'
        refine wpAny_Call_Name_kw (thn ((pe_var (pos := p) hN hv hdb hcd).run pins s σ H (fun v H1 => v = .ref f ∧ H1 = H) I ⟨.ref f, h1, rfl, rfl⟩) fun u s1 ⟨v, H1, I1, r1, q1⟩ => ?_)
        obtain ⟨rfl, rfl⟩ := q1
        cases r1
        have o : Out G.toG0 W H1 σ Ex (RV G.toG0) Q (cf [] S) := o
        have hp : ps = [] := List.eq_nil_of_length_eq_zero hn
        subst hp
        have bt : BindsTo s1 fd ⟨[], []⟩ (([] : List Str).zip ([] : List Value)) := by simpa using hb s1 [] I1.kIn (by simp)
        refine PySem.W.callWith_K0 I1.kIn hk (wpAny_call (codeAny_mono (F.run X.A X.stack s1 H1 ⟨[], []⟩ [] [] Q (WE Ex σ) hr hgd I1.env0 bt .nil ⟨rfl, W, S, [], A.w, .nil, o.const⟩) fun r s' hq => ?_))
        cases r with
        | error e => exact passAt tk σ pins H1 s1 e s' I1 hq
        | ok fl =>
          cases fl with
          | ret u => exact I1.after hq
          | next => exact False.elim hq
          | brk => exact False.elim hq
          | cont => exact False.elim hq
  · exact o.elim
/-! ### a, b = x, y -/
def evPar (ts : List Tg) (ras : EvFs) : EvS := fun env S => (ras env S).toS env fun vs S1 => match bindTs ts vs env with
  | some env' => .nx env' S1
  | none => .stuck
theorem bind_nm {i : Nat} {v : Pv} {env env' : List Slot} (h : bindT (.nm i) v env = some env') : env' = env.set i (.val v) := by
  unfold bindT at h
  split at h
  · split at h
    · cases h
    · exact (Option.some.inj h).symm
  · cases h
theorem s_par2 {i j : Nat} {x y : Str} {px py pt : Pos} {kt k2 pt2} (hc : X.calm = true) (hN : X.N.Nodup) (hi : X.N[i]? = some x) (hj : X.N[j]? = some y) (hij : i ≠ j) (hx : X.env.scope.names.lookup x = some .local) (hy : X.env.scope.names.lookup y = some .local) (ha : PA X [a, b] (tA G Ex ras))
    (hw : swappedStores [.Tuple [.Name x px, .Name y py] kt pt] (.Tuple [a, b] k2 pt2) X.env = pure (some [x, y])) (hs : swapsWithSole [.Tuple [.Name x px, .Name y py] kt pt] (.Tuple [a, b] k2 pt2) pos.line X.env = pure false) :
    PS X (.Assign [.Tuple [.Name x px, .Name y py] kt pt] (.Tuple [a, b] k2 pt2) pos) (tS G Ex (evPar [.nm i, .nm j] ras)) := ps_imp (ps_par hc hN hi hj hij hx hy ha hw hs) fun D σ H h => by
  obtain ⟨gh, W, S, env, A, o⟩ := h
  refine ⟨gh, W, S, env, A, A.toS o fun vs S1 W1 H1 xs e1 A1 r1 o1 => ?_⟩
  cases q : bindTs [.nm i, .nm j] vs env with
  | none => rw [q] at o1; exact o1.elim
  | some env' =>
    rw [q] at o1
    cases r1 with
    | nil => simp [bindTs] at q
    | cons k1 k2 =>
      simp only [bindTs] at q
      split at q
      · rename_i env1 q1
        cases k2 with
        | nil => simp [bindTs] at q
        | cons k3 k4 =>
          simp only [bindTs] at q
          split at q
          · rename_i env2 q2
            cases k4 with
            | cons _ _ => simp [bindTs] at q
            | nil =>
              simp only [bindTs] at q
              cases q
              have e1 := bind_nm q1
              have e2 := bind_nm q2
              subst e1
              subst e2
              exact ⟨_, _, rfl, o1 W1 H1 _ (Wd.Le.refl _) ((A1.set i k1).set j k3)⟩
          · cases q
      · cases q
theorem s_par3 {i j l : Nat} {x y z : Str} {px py pz pt : Pos} {kt k2 pt2} (hc : X.calm = true) (hN : X.N.Nodup) (hi : X.N[i]? = some x) (hj : X.N[j]? = some y) (hl : X.N[l]? = some z) (hij : i ≠ j) (hil : i ≠ l) (hjl : j ≠ l) (hx : X.env.scope.names.lookup x = some .local) (hy : X.env.scope.names.lookup y = some .local) (hz : X.env.scope.names.lookup z = some .local)
    (ha : PA X [a, b, c] (tA G Ex ras)) (hw : swappedStores [.Tuple [.Name x px, .Name y py, .Name z pz] kt pt] (.Tuple [a, b, c] k2 pt2) X.env = pure (some [x, y, z])) (hs : swapsWithSole [.Tuple [.Name x px, .Name y py, .Name z pz] kt pt] (.Tuple [a, b, c] k2 pt2) pos.line X.env = pure false) :
    PS X (.Assign [.Tuple [.Name x px, .Name y py, .Name z pz] kt pt] (.Tuple [a, b, c] k2 pt2) pos) (tS G Ex (evPar [.nm i, .nm j, .nm l] ras)) := ps_imp (ps_par3 hc hN hi hj hl hij hil hjl hx hy hz ha hw hs) fun D σ H h => by
  obtain ⟨gh, W, S, env, A, o⟩ := h
  refine ⟨gh, W, S, env, A, A.toS o fun vs S1 W1 H1 xs e1 A1 r1 o1 => ?_⟩
  cases q : bindTs [.nm i, .nm j, .nm l] vs env with
  | none => rw [q] at o1; exact o1.elim
  | some env' =>
    rw [q] at o1
    cases r1 with
    | nil => simp [bindTs] at q
    | cons k1 k2 =>
      simp only [bindTs] at q
      split at q
      · rename_i env1 q1
        cases k2 with
        | nil => simp [bindTs] at q
        | cons k3 k4 =>
          simp only [bindTs] at q
          split at q
          · rename_i env2 q2
            cases k4 with
            | nil => simp [bindTs] at q
            | cons k5 k6 =>
              simp only [bindTs] at q
              split at q
              · rename_i env3 q3
                cases k6 with
                | cons _ _ => simp [bindTs] at q
                | nil =>
                  simp only [bindTs] at q
                  cases q
                  have e1 := bind_nm q1
                  have e2 := bind_nm q2
                  have e3 := bind_nm q3
                  subst e1
                  subst e2
                  subst e3
                  exact ⟨_, _, _, rfl, o1 W1 H1 _ (Wd.Le.refl _) (((A1.set i k1).set j k3).set l k5)⟩
              · cases q
          · cases q
      · cases q
end
/-! ### equal texts of data -/
mutual
def sameP : Pv → Pv → Bool
  | .non, .non => true
  | .bl a, .bl b => a == b
  | .int a, .int b => a == b
  | .str a, .str b => a == b
  | .tup xs, .tup ys => samePs xs ys
  | .lst xs, .lst ys => samePs xs ys
  | _, _ => false
def samePs : List Pv → List Pv → Bool
  | [], [] => true
  | x :: xs, y :: ys => match sameP x y with | true => samePs xs ys | false => false
  | _, _ => false
end
mutual
theorem sameP_eq : ∀ {a b : Pv}, sameP a b = true → a = b
  | .non, .non, _ => rfl
  | .bl a, .bl b, h => by simp only [sameP, beq_iff_eq] at h; rw [h]
  | .int a, .int b, h => by simp only [sameP, beq_iff_eq] at h; rw [h]
  | .str a, .str b, h => by simp only [sameP, beq_iff_eq] at h; rw [h]
  | .tup xs, .tup ys, h => by simp only [sameP] at h; rw [samePs_eq h]
  | .lst xs, .lst ys, h => by simp only [sameP] at h; rw [samePs_eq h]
  | .non, .bl _, h | .non, .int _, h | .non, .str _, h | .non, .tup _, h | .non, .lst _, h | .non, .fn _, h | .non, .mref _, h | .non, .scr _, h | .non, .ty _, h => by simp [sameP] at h
  | .bl _, .non, h | .bl _, .int _, h | .bl _, .str _, h | .bl _, .tup _, h | .bl _, .lst _, h | .bl _, .fn _, h | .bl _, .mref _, h | .bl _, .scr _, h | .bl _, .ty _, h => by simp [sameP] at h
  | .int _, .non, h | .int _, .bl _, h | .int _, .str _, h | .int _, .tup _, h | .int _, .lst _, h | .int _, .fn _, h | .int _, .mref _, h | .int _, .scr _, h | .int _, .ty _, h => by simp [sameP] at h
  | .str _, .non, h | .str _, .bl _, h | .str _, .int _, h | .str _, .tup _, h | .str _, .lst _, h | .str _, .fn _, h | .str _, .mref _, h | .str _, .scr _, h | .str _, .ty _, h => by simp [sameP] at h
  | .tup _, .non, h | .tup _, .bl _, h | .tup _, .int _, h | .tup _, .str _, h | .tup _, .lst _, h | .tup _, .fn _, h | .tup _, .mref _, h | .tup _, .scr _, h | .tup _, .ty _, h => by simp [sameP] at h
  | .lst _, .non, h | .lst _, .bl _, h | .lst _, .int _, h | .lst _, .str _, h | .lst _, .tup _, h | .lst _, .fn _, h | .lst _, .mref _, h | .lst _, .scr _, h | .lst _, .ty _, h => by simp [sameP] at h
  | .fn _, _, h | .mref _, _, h | .scr _, _, h | .ty _, _, h => by simp [sameP] at h
theorem samePs_eq : ∀ {xs ys : List Pv}, samePs xs ys = true → xs = ys
  | [], [], _ => rfl
  | x :: xs, y :: ys, h => by
    simp only [samePs] at h
    cases q : sameP x y with
    | false => rw [q] at h; cases h
    | true => rw [q] at h; rw [sameP_eq q, samePs_eq h]
  | [], _ :: _, h => by simp [samePs] at h
  | _ :: _, [], h => by simp [samePs] at h
end
mutual
/-- how many items and signs; none: no data, or too great an int -/
def bulkP : Pv → Option Nat
  | .non => some 0
  | .bl _ => some 0
  | .int i => match Nat.ble i.natAbs (10 ^ 61) with | true => some 0 | false => none
  | .str s => match s.cps.toList.all (fun c => Nat.blt c 1114112) with | true => some s.cps.size | false => none
  | .tup xs => bulkPs xs
  | .lst xs => bulkPs xs
  | _ => none
def bulkPs : List Pv → Option Nat
  | [] => some 0
  | x :: xs => match bulkP x with | some m => (match bulkPs xs with | some n => some (m + 1 + n) | none => none) | none => none
end
mutual
def depP : Pv → Nat
  | .tup xs => depPs xs + 1
  | .lst xs => depPs xs + 1
  | _ => 0
def depPs : List Pv → Nat
  | [] => 0
  | x :: xs => Nat.max (depP x) (depPs xs)
end
end Pev
namespace Pev
open PySem PySem.Spec L2
theorem shown_int_62 {i : Int} (h : i.natAbs ≤ 10 ^ 61) : (PyData.shown (.int i)).length ≤ 64 := by
  have e := int_text_length_le10 (a := i) (k := 62) (by decide) (Nat.lt_of_le_of_lt h (by decide))
  show (Str.ofString (toString i)).length ≤ 64
  rw [ofString_length]; omega
theorem fits_bulk {d : PyData} (hl : d.leavesShort 64 = true) (hw : d.bulk ≤ 250000) : d.shown.length ≤ sizeLine := by
  have h := PyData.shown_le_bulk 64 (by decide) d hl
  have e : sizeLine = 16777216 := by decide
  omega
theorem depthAll_le {n : Nat} : ∀ {ds : List PyData}, PyData.depthAll ds ≤ n → PyData.depthAll ds ≤ n := fun h => h
mutual
theorem bulk_of : ∀ {v : Pv} {n : Nat}, bulkP v = some n → ∃ d, toD v = some d ∧ d.bulk = n ∧ d.leavesShort 64 = true ∧ d.showable = true ∧ d.hasDict = false ∧ d.depth = depP v ∧ d.canLay0 = true
  | .non, n, h => by simp only [bulkP] at h; cases h; exact ⟨.none, rfl, rfl, rfl, rfl, rfl, rfl, rfl⟩
  | .bl b, n, h => by simp only [bulkP] at h; cases h; exact ⟨.bool b, rfl, rfl, rfl, rfl, rfl, rfl, rfl⟩
  | .int i, n, h => by
    simp only [bulkP] at h
    cases q : Nat.ble i.natAbs (10 ^ 61) with
    | false => rw [q] at h; cases h
    | true =>
      rw [q] at h
      cases h
      have hi := Nat.le_of_ble_eq_true q
      refine ⟨.int i, rfl, rfl, ?_, ?_, rfl, rfl, rfl⟩
      · simp only [PyData.leavesShort, decide_eq_true_eq]
        exact shown_int_62 hi
      · simp only [PyData.showable, decide_eq_true_eq]
        have : i.natAbs.log2 < 204 := by
          by_cases h0 : i.natAbs = 0
          · rw [h0]; decide
          · rw [Nat.log2_lt h0]; exact Nat.lt_of_le_of_lt hi (by decide)
        omega
  | .str s, n, h => by
    simp only [bulkP] at h
    cases q : s.cps.toList.all (fun c => Nat.blt c 1114112) with
    | false => rw [q] at h; cases h
    | true =>
      rw [q] at h
      cases h
      have hcp : ∀ c ∈ s.cps.toList, c < 1114112 := fun c hc => Nat.le_of_ble_eq_true (List.all_eq_true.mp q c hc)
      refine ⟨.str s, rfl, rfl, ?_, rfl, rfl, rfl, ?_⟩
      case refine_2 =>
        simp only [PyData.canLay0, PyData.strOk]
        rw [← Array.all_toList, List.all_eq_true]
        intro c hc
        exact decide_eq_true (hcp c hc)
      simp only [PyData.leavesShort, List.all_eq_true, decide_eq_true_eq]
      intro c hc
      have := hcp c hc
      have e : (16 : Nat) ^ 8 = 4294967296 := by decide
      omega
  | .tup xs, n, h => by
    simp only [bulkP] at h
    obtain ⟨ds, h1, h2, h3, h4, h5, h6, h7⟩ := bulks_of h
    exact ⟨.tuple ds, by simp only [toD, h1], by simp only [PyData.bulk]; exact h2, by simp only [PyData.leavesShort]; exact h3, by simp only [PyData.showable]; exact h4, by simp only [PyData.hasDict]; exact h5, by simp only [PyData.depth, depP, h6], by simp only [PyData.canLay0]; exact h7⟩
  | .lst xs, n, h => by
    simp only [bulkP] at h
    obtain ⟨ds, h1, h2, h3, h4, h5, h6, h7⟩ := bulks_of h
    exact ⟨.list ds, by simp only [toD, h1], by simp only [PyData.bulk]; exact h2, by simp only [PyData.leavesShort]; exact h3, by simp only [PyData.showable]; exact h4, by simp only [PyData.hasDict]; exact h5, by simp only [PyData.depth, depP, h6], by simp only [PyData.canLay0]; exact h7⟩
  | .fn _, _, h | .mref _, _, h | .scr _, _, h | .ty _, _, h => by simp [bulkP] at h
theorem bulks_of : ∀ {vs : List Pv} {n : Nat}, bulkPs vs = some n → ∃ ds, toDs vs = some ds ∧ PyData.bulkAll ds = n ∧ PyData.leavesShortAll 64 ds = true ∧ PyData.showableAll ds = true ∧ PyData.hasDictAll ds = false ∧ PyData.depthAll ds = depPs vs ∧ PyData.canLayAll0 ds = true
  | [], n, h => by simp only [bulkPs] at h; cases h; exact ⟨[], rfl, rfl, rfl, rfl, rfl, rfl, rfl⟩
  | x :: xs, n, h => by
    simp only [bulkPs] at h
    split at h
    · rename_i m hm
      split at h
      · rename_i n' hn
        cases h
        obtain ⟨d, a1, a2, a3, a4, a5, a6, a7⟩ := bulk_of hm
        obtain ⟨ds, b1, b2, b3, b4, b5, b6, b7⟩ := bulks_of hn
        exact ⟨d :: ds, by simp only [toDs, a1, b1], by simp only [PyData.bulkAll, a2, b2], by simp only [PyData.leavesShortAll, a3, b3, Bool.and_self], by simp only [PyData.showableAll, a4, b4, Bool.and_self], by simp only [PyData.hasDictAll, a5, b5, Bool.or_self], by simp only [PyData.depthAll, depPs, a6, b6], by simp only [PyData.canLayAll0, a7, b7, Bool.and_self]⟩
      · cases h
    · cases h
end
def textOk (v : Pv) : Bool := (match v with | .lst _ => true | .tup _ => true | _ => false) && Nat.ble (depP v) 40 && (match bulkP v with | some n => Nat.ble n 250000 | none => false)
/-- the text of data -/
def rRepr (K : PySem.W.Frag) : List V → Hp → VK → Prop := fun xs H Q => ∃ a d, xs = [.ref a] ∧ Dp K H (.ref a) d ∧ d.showable = true ∧ d.hasDict = false ∧ d.depth ≤ 40 ∧ d.shown.length ≤ sizeLine ∧ Q (.str d.shown) H
section
variable {X : Cx} {G : Gc} {Ex : WX} {a b : Expr} {ra rb : EvF} {pos p1 p2 q1 q2 : Pos}
theorem c_repr (hgd : X.A.guards = some []) (hu : X.A.units + 64 < cLine) : CallR X (.builtin "repr") (rRepr X.K) := by
  intro pins s σ H xs us Q I r h
  obtain ⟨a, d, rfl, hd, h1, h2, h3, h4, q⟩ := h
  obtain ⟨u, rfl, ru⟩ := r.one
  cases ru
  obtain ⟨as, rd⟩ := Dp.reads I d _ _ hd rfl
  exact PySem.repr_of_reads' rd h1 (PyData.noDict_hsm h2) hgd (by omega) (fun _ _ e => e) (fun h' u tk hk => ⟨.str d.shown, H, I.kept hk, ⟨_, rfl⟩, q⟩) h4
/-- repr(a) == repr(b) of equal data -/
def evSame (ra rb : EvF) : EvF := fun env S => (ra env S).bind fun va S1 => match textOk va with
  | false => .stuck
  | true => (rb env S1).bind fun vb S2 => match sameP va vb with | true => .ok (.bl true) S2 | false => .stuck
theorem textOk_read {v : Pv} (h : textOk v = true) {W : Wd} {H : Hp} {S : Sto} {x : V} (w : WOk G W H S) (r : RV G W x v) : ∃ a d, x = .ref a ∧ toD v = some d ∧ Dp G.K H (.ref a) d ∧ d.showable = true ∧ d.hasDict = false ∧ d.depth ≤ 40 ∧ d.shown.length ≤ sizeLine := by
  unfold textOk at h
  obtain ⟨h, h3⟩ := Bool.and_eq_true_iff.mp h
  obtain ⟨h1, h2⟩ := Bool.and_eq_true_iff.mp h
  cases qb : bulkP v with
  | none => rw [qb] at h3; cases h3
  | some n =>
    rw [qb] at h3
    obtain ⟨d, b1, b2, b3, b4, b5, b6, b7⟩ := bulk_of qb
    have hd := dp_of w r b1
    have hx : ∃ a, x = .ref a := by
      cases r with
      | tup _ _ => exact ⟨_, rfl⟩
      | lst _ _ => exact ⟨_, rfl⟩
      | _ => cases h1
    obtain ⟨a, rfl⟩ := hx
    exact ⟨a, d, rfl, b1, hd, b4, b5, by rw [b6]; exact Nat.le_of_ble_eq_true h2, fits_bulk b3 (by rw [b2]; exact Nat.le_of_ble_eq_true h3)⟩
theorem e_same (hK : X.K = G.K) (hgd : X.A.guards = some []) (hu : X.A.units + 64 < cLine) (hg : Gl X "repr") (hm : X.mg "repr" = none) (ha : PE X a (tE G Ex ra)) (hb : PE X b (tE G Ex rb))
    (hs1 : starEach [a] X.env = (false, eval a X.env) :: starEach [] X.env) (hs2 : starEach [b] X.env = (false, eval b X.env) :: starEach [] X.env) (hp : ∀ pos, (backTo pos (starEach [] X.env)).any (·.1) = false) (hmk : behindInMarks .Eq (.Call (.Name "repr" q1) [b] [] q2) = false) :
    PE X (.Compare (.Call (.Name "repr" p1) [a] [] p2) [.Eq] [.Call (.Name "repr" q1) [b] [] q2] pos) (tE G Ex (evSame ra rb)) := by
  refine pe_imp (pe_cmpR op_eq (pe_callB (c_repr hgd hu) hg hm PyProof.Rows.Boot.«repr» (pa_cons ha pa_nil hs1) (he := hs1) (hpl := hp _)) (pe_callB (c_repr hgd hu) hg hm PyProof.Rows.Boot.«repr» (pa_cons hb pa_nil hs2) (he := hs2) (hpl := hp _)) hmk) fun σ H Q h => ?_
  obtain ⟨H0, W, S, env, A, o⟩ := h
  refine ⟨H0, W, S, env, A, o.bind fun va S1 W1 H1 x e1 w1 r1 o1 => ?_⟩
  cases qt : textOk va with
  | false => rw [qt] at o1; exact o1.elim
  | true =>
    rw [qt] at o1
    obtain ⟨l, d, rfl, hd, k1, k2, k3, k4, k5⟩ := textOk_read qt w1 r1
    rw [hK]
    refine ⟨l, d, rfl, k1, k2, k3, k4, k5, H0, W1, S1, env, A.ext e1 w1, o1.bind fun vb S2 W2 H2 y e2 w2 r2 o2 => ?_⟩
    cases qs : sameP va vb with
    | false => rw [qs] at o2; exact o2.elim
    | true =>
      rw [qs] at o2
      have hv := sameP_eq qs
      subst hv
      obtain ⟨m, d', rfl, hd', j1, j2, j3, j4, j5⟩ := textOk_read qt w2 r2
      rw [hd] at hd'
      cases hd'
      refine ⟨m, d, rfl, j1, j2, j3, j4, j5, rfl, ?_⟩
      rw [decide_eq_true rfl]
      exact o2 W2 H2 _ (Ext.refl _ _) w2 (.bl true)
end
end Pev

set_option Elab.async false
set_option linter.all false
set_option maxRecDepth 100000
set_option maxHeartbeats 4000000
namespace Pev
open PySem PySem.Spec L2
/-! ### dicts with texts as keys -/
def getE : Ent → Str → Option Pv
  | [], _ => none
  | (k, v) :: r, x => match decide (k = x) with | true => some v | false => getE r x
def putE : Ent → Str → Pv → Ent
  | [], x, v => [(x, v)]
  | (k, u) :: r, x, v => match decide (k = x) with | true => (k, v) :: r | false => (k, u) :: putE r x v
section
variable {G : G0} {W W' : Wd} {H : Hp} {S : Sto}
theorem RKs.get {x : Str} {v : Pv} : ∀ {kvs : List (Key × V)} {es : Ent}, RKs G W kvs es → getE es x = some v → ∃ y, valV kvs (.inr x) = some y ∧ RV G W y v
  | _, _, .nil, h => by cases h
  | _, _, .cons (k := k) r t, h => by
    unfold getE at h
    cases q : decide (k = x) with
    | true =>
      rw [q] at h
      cases h
      have e := of_decide_eq_true q
      subst e
      exact ⟨_, valV_pos rfl, r⟩
    | false =>
      rw [q] at h
      have e := of_decide_eq_false q
      rw [valV_neg (by intro z; exact e (Sum.inr.inj z))]
      exact RKs.get t h
theorem RKs.keys {x : Str} {v : Pv} : ∀ {kvs : List (Key × V)} {es : Ent}, RKs G W kvs es → (kvs.any fun kv => decide (kv.1 = .inr x)) = es.any fun kv => decide (kv.1 = x)
  | _, _, .nil => rfl
  | _, _, .cons (k := k) r t => by
    rw [List.any_cons, List.any_cons, RKs.keys (v := v) t]
    congr 1
    by_cases e : k = x
    · subst e; simp
    · rw [decide_eq_false (by intro z; exact e (Sum.inr.inj z)), decide_eq_false e]
/-- the entries' keys are unlike -/
def unlikeE : Ent → Bool
  | [] => true
  | (k, _) :: r => (!r.any fun kv => decide (kv.1 = k)) && unlikeE r
theorem RKs.off {x : Str} : ∀ {kvs : List (Key × V)} {es : Ent}, RKs G W kvs es → (es.any fun kv => decide (kv.1 = x)) = false → ∀ {y : V}, kvs.map (fun kv => if kv.1 = (Sum.inr x : Key) then (kv.1, y) else kv) = kvs
  | _, _, .nil, _, _ => rfl
  | _, _, .cons (k := k) r t, h, y => by
    rw [List.any_cons, Bool.or_eq_false_iff] at h
    rw [List.map_cons, RKs.off t h.2, if_neg (by intro z; exact of_decide_eq_false h.1 (Sum.inr.inj z))]
theorem putE_any {x : Str} {v : Pv} : ∀ {es : Ent}, (es.any fun kv => decide (kv.1 = x)) = false → putE es x v = es ++ [(x, v)]
  | [], _ => rfl
  | (k, u) :: r, h => by
    rw [List.any_cons, Bool.or_eq_false_iff] at h
    unfold putE
    rw [h.1]
    simp only [List.cons_append]
    rw [putE_any h.2]
theorem RKs.put {x : Str} {v : Pv} {y : V} (ry : RV G W y v) : ∀ {kvs : List (Key × V)} {es : Ent}, RKs G W kvs es → unlikeE es = true → RKs G W (putK kvs (.inr x) y) (putE es x v) := by
  intro kvs es r hu
  unfold putK
  rw [RKs.keys (v := v) r]
  split
  · rename_i hp
    have go : ∀ {kvs : List (Key × V)} {es : Ent}, RKs G W kvs es → unlikeE es = true → (es.any fun kv => decide (kv.1 = x)) = true → RKs G W (kvs.map fun kv => if kv.1 = (Sum.inr x : Key) then (kv.1, y) else kv) (putE es x v) := by
      intro kvs es r
      induction r with
      | nil => intro _ h; cases h
      | cons r1 t ih =>
        rename_i k u z kvs' es'
        intro hu h
        unfold unlikeE at hu
        obtain ⟨hu1, hu2⟩ := Bool.and_eq_true_iff.mp hu
        rw [List.map_cons]
        unfold putE
        by_cases e : k = x
        · subst e
          rw [decide_eq_true rfl, if_pos rfl]
          simp only [Bool.not_eq_true'] at hu1
          rw [RKs.off t hu1]
          exact .cons ry t
        · rw [decide_eq_false e, if_neg (by intro z; exact e (Sum.inr.inj z))]
          rw [List.any_cons, decide_eq_false e, Bool.false_or] at h
          exact .cons r1 (ih hu2 h)
    exact go r hu hp
  · rename_i hp
    have hp : (es.any fun kv => decide (kv.1 = x)) = false := Bool.eq_false_iff.mpr hp
    rw [putE_any hp]
    have app : ∀ {kvs : List (Key × V)} {es : Ent}, RKs G W kvs es → RKs G W (kvs ++ [(.inr x, y)]) (es ++ [(x, v)]) := by
      intro kvs es r
      induction r with
      | nil => exact .cons ry .nil
      | cons r1 t ih => exact .cons r1 ih
    exact app r
theorem RKs.length : ∀ {kvs : List (Key × V)} {es : Ent}, RKs G W kvs es → kvs.length = es.length
  | _, _, .nil => rfl
  | _, _, .cons _ t => congrArg (· + 1) t.length
/-- a dict of the store is written -/
theorem WOk.put {n : Nat} {a : Addr} {es es' : Ent} {kvs' : List (Key × V)} (w : WOk G W H S) (h1 : W.ad[n]? = some a) (h2 : S[n]? = some es) (r : RKs G W kvs' es') : WOk G W (upd H a (.dK kvs')) (S.set n es') ∧ Ext W H W (upd H a (.dK kvs')) := by
  obtain ⟨fa, kvs, hk, r0⟩ := w.at_ n a es h1 h2
  have nf : ∀ {b : Addr} {u : HO}, W.F b = some u → b ≠ a := fun {b u} h z => by rw [z, fa] at h; cases h
  refine ⟨⟨fun b u h => by rw [upd_ne (nf h)]; exact w.le b u h, w.plain, by rw [List.length_set]; exact w.len, fun m b es1 k1 k2 => ?_, w.inj, ?_⟩, fun _ _ h => h, fun _ _ h _ _ => h, fun b u h nm t => ?_, fun b u h t => ?_, [], by simp, by simp⟩
  · by_cases e : n = m
    · subst e
      rw [h1] at k1
      cases k1
      rw [List.getElem?_set_self (List.getElem?_eq_some_iff.mp h2).1] at k2
      cases k2
      exact ⟨fa, kvs', upd_same, r⟩
    · rw [List.getElem?_set_ne e] at k2
      obtain ⟨f, kvs2, hk2, r2⟩ := w.at_ m b es1 k1 k2
      have hne : b ≠ a := fun z => e (w.inj n m a h1 (by rw [← z]; exact k1))
      exact ⟨f, kvs2, by rw [upd_ne hne]; exact hk2, r2⟩
  · intro q hq
    obtain ⟨ps, t1, t2, t3⟩ := w.tabs q hq
    refine ⟨ps, by rw [upd_ne (fun z => by rw [z, hk] at t1; cases t1)]; exact t1, t2, fun pos cv hc => ?_⟩
    obtain ⟨c, e1, e2⟩ := t3 pos cv hc
    exact ⟨c, e1, by rw [upd_ne (fun z => by rw [z, hk] at e2; exact code_nk _ (Option.some.inj e2).symm)]; exact e2⟩
  · have hne : b ≠ a := fun z => nm (z ▸ List.mem_of_getElem? h1)
    rw [upd_ne hne]; exact h
  · by_cases z : b = a
    · exact ⟨.dK kvs', by rw [z, upd_same], fun _ z => by cases z⟩
    · exact ⟨u, by rw [upd_ne z]; exact h, t⟩
end
/-- o[i]: of a dict, a list, a tuple, a text -/
def evSub (ra rb : EvF) : EvF := fun env S => match ra env S with
  | .ok (.mref n) S1 => (rb env S1).bind fun vb S2 => match vb with
    | .str x => (match S2[n]? with
      | some es => (match getE es x with | some v => .ok v S2 | none => .stuck)
      | none => .stuck)
    | _ => .stuck
  | _ => ev2 ixP ra rb env S
section
variable {X : Cx} {G : Gc} {Ex : WX} {a b e : Expr} {ra rb re : EvF} {pos p : Pos}
theorem e_sub (hK : X.K = G.K) (hu : X.A.units + 1 < cLine) (ha : PE X a (tE G Ex ra)) (hb : PE X b (tE G Ex rb)) (hs : PlainIx b) (hn : NoSl b) : PE X (.Subscript a b pos) (tE G Ex (evSub ra rb)) := by
  refine ⟨fun pins s σ H Q I h => ?_⟩
  obtain ⟨H0, W, S, env, A, o⟩ := h
  unfold evSub at o
  split at o
  · rename_i n S1 q
    refine (pe_dget hu ha hb hn).run pins s σ H Q I ⟨H0, W, S, env, A, ?_⟩
    rw [q]
    intro W1 H1 x e1 w1 r1
    refine ⟨H0, W1, S1, env, A.ext e1 w1, (Out.shift o e1).bind fun vb S2 W2 H2 y e2 w2 r2 o2 => ?_⟩
    cases r2 with
    | str k =>
      simp only at o2
      cases qs : S2[n]? with
      | none => rw [qs] at o2; exact o2.elim
      | some es =>
        rw [qs] at o2
        simp only at o2
        cases qg : getE es k with
        | none => rw [qg] at o2; exact o2.elim
        | some v =>
          rw [qg] at o2
          cases r1 with
          | mref hm =>
            rename_i l
            have hm2 := e2.le.ad n l hm
            obtain ⟨f, kvs, hk, rk⟩ := w2.at_ n l es hm2 qs
            obtain ⟨z, h1, h2⟩ := rk.get qg
            have dg := DGet.k (k := Sum.inr k) hk
            rw [h1] at dg
            exact ⟨l, z, rfl, dg, o2 W2 H2 z (Ext.refl _ _) w2 h2⟩
    | _ => exact o2.elim
  · exact (e_ix hK ha hb hs).run pins s σ H Q I ⟨H0, W, S, env, A, o⟩
/-- d[k] = v -/
def evPutD (ra rb re : EvF) : EvS := fun env S => (re env S).toS env fun v S1 => (ra env S1).toS env fun vd S2 => (rb env S2).toS env fun vk S3 => match vd, vk with
  | .mref n, .str x => (match S3[n]? with
    | some es => (match unlikeE es && Nat.ble es.length 1000 with | true => .nx env (S3.set n (putE es x v)) | false => .stuck)
    | none => .stuck)
  | _, _ => .stuck
theorem s_putD {pos' : Pos} (hu : X.A.units + 1 < cLine) (ha : PE X a (tE G Ex ra)) (hb : PE X b (tE G Ex rb)) (he : PE X e (tE G Ex re)) (hs : swapsWith e (some (.Subscript a b pos')) pos.line X.env = pure false) : PS X (.Assign [.Subscript a b pos'] e pos) (tS G Ex (evPutD ra rb re)) :=
  ps_imp (ps_dput hu ha hb he hs) fun D σ H h => by
    obtain ⟨gh, W, S, env, A, o⟩ := h
    refine ⟨gh, W, S, env, A, A.toS o fun v S1 W1 H1 x e1 A1 r1 o1 => ?_⟩
    refine ⟨gh, W1, S1, env, A1, A1.toS o1 fun vd S2 W2 H2 d e2 A2 r2 o2 => ?_⟩
    refine ⟨gh, W2, S2, env, A2, A2.toS o2 fun vk S3 W3 H3 k e3 A3 r3 o3 => ?_⟩
    split at o3
    · rename_i n x'
      cases qs : S3[n]? with
      | none => rw [qs] at o3; exact o3.elim
      | some es =>
        rw [qs] at o3
        simp only at o3
        cases qu : unlikeE es && Nat.ble es.length 1000 with
        | false => rw [qu] at o3; exact o3.elim
        | true =>
          rw [qu] at o3
          obtain ⟨u1, u2⟩ := Bool.and_eq_true_iff.mp qu
          cases r2 with
          | mref hm =>
            rename_i l
            cases r3 with
            | str _ =>
              have hm3 := e3.le.ad n l hm
              obtain ⟨f, kvs, hk, rk⟩ := A3.w.at_ n l es hm3 qs
              have rp := RKs.put (x := x') (r1.mono (e2.le.trans e3.le)) rk u1
              obtain ⟨w4, e4⟩ := A3.w.put hm3 qs rp
              exact ⟨l, _, rfl, DPut.k (k := Sum.inr x') hk (by rw [rk.length]; exact Nat.lt_of_le_of_lt (Nat.le_of_ble_eq_true u2) (by decide)), o3 W3 _ σ (Wd.Le.refl _) (A3.ext e4 w4)⟩
    · exact o3.elim
end
/-- {'a': x, ..}: the keys are written -/
def evItems : List (Str × EvF) → EvFs
  | [], _, S => .ok [] S
  | (_, r) :: t, env, S => (r env S).bind fun v S1 => (evItems t env S1).bind fun vs S2 => .ok (v :: vs) S2
def evDisp (its : List (Str × EvF)) : EvF := fun env S => (evItems its env S).bind fun vs S1 => match unlikeE ((its.map (·.1)).zip vs) && Nat.beq vs.length its.length && Nat.ble vs.length 15 with
  | true => .ok (.mref S1.length) (S1 ++ [(its.map (·.1)).zip vs])
  | false => .stuck
theorem unlike_off {k : Str} {x : Pv} {es : Ent} : ∀ {acc : Ent}, unlikeE (acc ++ (k, x) :: es) = true → (acc.any fun kv => decide (kv.1 = k)) = false
  | [], _ => rfl
  | (j, y) :: r, h => by
    rw [List.cons_append] at h
    unfold unlikeE at h
    obtain ⟨h1, h2⟩ := Bool.and_eq_true_iff.mp h
    rw [List.any_cons, unlike_off h2, Bool.or_false]
    simp only [Bool.not_eq_true', List.any_append, List.any_cons, Bool.or_eq_false_iff] at h1
    have := of_decide_eq_false h1.2.1
    exact decide_eq_false fun z => this z.symm
theorem unlike_pre {es : Ent} : ∀ {acc : Ent}, unlikeE (acc ++ es) = true → unlikeE acc = true
  | [], _ => rfl
  | (j, y) :: r, h => by
    rw [List.cons_append] at h
    unfold unlikeE at h ⊢
    obtain ⟨h1, h2⟩ := Bool.and_eq_true_iff.mp h
    rw [unlike_pre h2, Bool.and_true]
    simp only [Bool.not_eq_true', List.any_append, Bool.or_eq_false_iff] at h1 ⊢
    exact h1.1
theorem merge_rks {G : G0} {W : Wd} : ∀ {kvs : List (Key × V)} {es : Ent}, RKs G W kvs es → ∀ {acc : List (Key × V)} {ae : Ent}, RKs G W acc ae → unlikeE (ae ++ es) = true → RKs G W (kvs.foldl (fun acc kv => putK acc kv.1 kv.2) acc) (ae ++ es)
  | _, _, .nil, acc, ae, r, _ => by rw [List.append_nil]; exact r
  | _, _, .cons (k := k) (v := y) (x := x) r1 t, acc, ae, r, h => by
    have h1 := RKs.put (x := k) r1 r (unlike_pre h)
    rw [putE_any (unlike_off h)] at h1
    have := merge_rks t h1 (by rw [List.append_assoc]; exact h)
    rw [List.append_assoc] at this
    exact this
theorem rks_zip {G : G0} {W : Wd} : ∀ {ks : List Str} {xs : List V} {vs : List Pv}, RVs G W xs vs → RKs G W ((ks.zip xs).map fun kv => ((Sum.inr kv.1 : Key), kv.2)) (ks.zip vs)
  | [], _, _, _ => .nil
  | k :: ks, _, _, .nil => .nil
  | k :: ks, _, _, .cons r t => .cons r (rks_zip t)
section
variable {X : Cx} {G : Gc} {Ex : WX} {pos : Pos}
def itT (G : Gc) (Ex : WX) (its : List (Str × EvF)) : List (TE × TE) := its.map fun kr => (tC (.str kr.1), tE G Ex kr.2)
def prs (its : List (Str × EvF)) (xs : List V) : List (V × V) := ((its.map (·.1)).zip xs).map fun kv => (V.str kv.1, kv.2)
theorem items_read {gh : Gh} {σ : L2.St} {env : List Slot} : ∀ {its : List (Str × EvF)} {W : Wd} {S : Sto} {H : Hp} {P : List (V × V) → Hp → Prop}, At G gh W S σ H env → Out G.toG0 W H σ Ex (RVs G.toG0) (fun xs H2 => P (prs its xs) H2) (evItems its env S) → tPairs (itT G Ex its) σ H P
  | [], W, S, H, P, A, o => o W H [] (Ext.refl _ _) A.w .nil
  | (k, r) :: t, W, S, H, P, A, o => by
    refine ⟨gh, W, S, env, A, ?_⟩
    unfold evItems at o
    refine o.bind fun v S1 W1 H1 x e1 w1 r1 o1 => ?_
    exact items_read (P := fun ps H3 => P ((V.str k, x) :: ps) H3) (A.ext e1 w1) (o1.bind fun vs S2 W2 H2 xs e2 w2 r2 o2 => o2 W2 H2 (x :: xs) (Ext.refl _ _) w2 (.cons (r1.mono e2.le) r2))
theorem e_disp {keys : List (Option Expr)} {values : List Expr} {its : List (Str × EvF)} (h : PPs X pos keys values (itT G Ex its)) (hall : keys.all (·.isSome) = true) (hl : keys.length = values.length) (h0 : keys ≠ []) (h15 : keys.length ≤ 15) : PE X (.Dict keys values pos) (tE G Ex (evDisp its)) :=
  pe_imp (pe_disp h hall hl h0 h15) fun σ H Q h p hp => by
    obtain ⟨gh, W, S, env, A, o⟩ := h
    obtain ⟨w1, e1⟩ := A.w.new (o := .dK []) hp
    unfold evDisp at o
    refine items_read (A.ext e1 w1) ?_
    cases qi : evItems its env S with
    | stuck => rw [qi] at o; exact o
    | exc c fs S1 => rw [qi] at o; exact Out.shift (r := Res.exc c fs S1) (R := RVs G.toG0) (Q := fun _ _ => True) o e1
    | ok vs S1 =>
    rw [qi] at o
    have o2 : Out G.toG0 W H σ Ex (RV G.toG0) Q (match unlikeE ((its.map (·.1)).zip vs) && Nat.beq vs.length its.length && Nat.ble vs.length 15 with
      | true => .ok (.mref S1.length) (S1 ++ [(its.map (·.1)).zip vs])
      | false => .stuck) := o
    intro W1 H1 xs e2 w2 r2
    have k1 : H1 p = some (.dK []) := e2.keep p _ upd_same (A.w.offNew hp) fun _ z => by cases z
    have fp : W1.F p = none := by
      refine e2.fresh p _ ?_ upd_same fun _ z => by cases z
      cases z : W.F p with
      | none => rfl
      | some u => have := A.w.le p u z; rw [hp] at this; cases this
    have np : p ∉ W1.ad := by
      obtain ⟨more, ea, hm⟩ := e2.ad
      rw [ea]
      intro hz
      rcases List.mem_append.mp hz with hz | hz
      · exact A.w.offNew hp hz
      · exact hm p hz _ upd_same fun _ z => by cases z
    cases qu : unlikeE ((its.map (·.1)).zip vs) && Nat.beq vs.length its.length && Nat.ble vs.length 15 with
    | false => rw [qu] at o2; exact o2.elim
    | true =>
      rw [qu] at o2
      obtain ⟨u12, u3⟩ := Bool.and_eq_true_iff.mp qu
      obtain ⟨u1, u2⟩ := Bool.and_eq_true_iff.mp u12
      have hk := rks_zip (ks := its.map (·.1)) r2
      have hl2 : (((its.map (·.1)).zip xs).map fun kv => ((Sum.inr kv.1 : Key), kv.2)).length ≤ 15 := by
        rw [List.length_map, List.length_zip, r2.length]
        exact Nat.le_trans (Nat.min_le_right _ _) (Nat.le_of_ble_eq_true u3)
      refine ⟨k1, _, ?_, hl2, ?_⟩
      · unfold prs
        rw [List.map_map]
        rfl
      · have hm := merge_rks hk (acc := []) (ae := []) .nil (by simpa using u1)
        rw [List.nil_append] at hm
        have le3 : W1.Le ⟨W1.F, W1.ad ++ [p]⟩ := ⟨fun _ _ h => h, fun n a h => by
          show (W1.ad ++ [p])[n]? = some a
          rw [List.getElem?_append_left (List.getElem?_eq_some_iff.mp h).1]; exact h⟩
        have nf : ∀ {b : Addr} {u : HO}, W1.F b = some u → b ≠ p := fun {b u} h z => by rw [z, fp] at h; cases h
        have e12 := e1.trans e2
        have hne : ∀ {b : Addr} {u : HO}, H b = some u → b ≠ p := fun h => ne_of_none h hp
        obtain ⟨more, ea, hm2⟩ := e12.ad
        refine o2 ⟨W1.F, W1.ad ++ [p]⟩ _ (.ref p) ⟨e12.F, e12.fresh, fun b u h nm t => ?_, fun b u h t => ?_, more ++ [p], by rw [← List.append_assoc, ← ea], fun b hb => ?_⟩ ⟨fun b u h => by rw [upd_ne (nf h)]; exact w2.le b u h, w2.plain, by simp [w2.len], fun m b es1 j1 j2 => ?_, fun m n b j1 j2 => ?_, ?_⟩ (.mref ?_)
        · rw [upd_ne (hne h)]; exact e12.keep b u h nm t
        · rw [upd_ne (hne h)]; exact e12.there b u h t
        · rcases List.mem_append.mp hb with hb | hb
          · exact hm2 b hb
          · have : b = p := by simpa using hb
            subst this
            exact .of hp
        · have j1 : (W1.ad ++ [p])[m]? = some b := j1
          by_cases hm3 : m < W1.ad.length
          · rw [List.getElem?_append_left hm3] at j1
            rw [List.getElem?_append_left (by rw [← w2.len]; exact hm3)] at j2
            obtain ⟨f, kvs2, hk2, rk2⟩ := w2.at_ m b es1 j1 j2
            have hb : b ≠ p := fun z => np (z ▸ List.mem_of_getElem? j1)
            exact ⟨f, kvs2, by rw [upd_ne hb]; exact hk2, rk2.mono le3⟩
          · rw [List.getElem?_append_right (Nat.le_of_not_lt hm3)] at j1
            rw [List.getElem?_append_right (by rw [← w2.len]; exact Nat.le_of_not_lt hm3)] at j2
            rw [w2.len] at j1
            cases q0 : m - S1.length with
            | zero =>
              rw [q0] at j1 j2
              cases j1
              cases j2
              exact ⟨fp, _, upd_same, hm.mono le3⟩
            | succ n => rw [q0] at j1; simp at j1
        · have j1 : (W1.ad ++ [p])[m]? = some b := j1
          have j2 : (W1.ad ++ [p])[n]? = some b := j2
          have key : ∀ {m : Nat}, (W1.ad ++ [p])[m]? = some b → ((W1.ad[m]? = some b ∧ b ≠ p) ∨ (m = W1.ad.length ∧ b = p)) := fun {m} j => by
            by_cases hm3 : m < W1.ad.length
            · rw [List.getElem?_append_left hm3] at j
              exact .inl ⟨j, fun z => np (z ▸ List.mem_of_getElem? j)⟩
            · rw [List.getElem?_append_right (Nat.le_of_not_lt hm3)] at j
              cases q0 : m - W1.ad.length with
              | zero => rw [q0] at j; cases j; exact .inr ⟨by omega, rfl⟩
              | succ n => rw [q0] at j; simp at j
          rcases key j1 with ⟨a1, a2⟩ | ⟨a1, a2⟩
          · rcases key j2 with ⟨b1, b2⟩ | ⟨b1, b2⟩
            · exact w2.inj m n b a1 b1
            · exact absurd b2 a2
          · rcases key j2 with ⟨b1, b2⟩ | ⟨b1, b2⟩
            · exact absurd a2 b2
            · rw [a1, b1]
        · intro q hq
          obtain ⟨ps, t1, t2, t3⟩ := w2.tabs q hq
          refine ⟨ps, by rw [upd_ne (fun z => by rw [z, k1] at t1; cases t1)]; exact t1, t2, fun pos cv hc => ?_⟩
          obtain ⟨c, c1, c2⟩ := t3 pos cv hc
          exact ⟨c, c1, by rw [upd_ne (fun z => by rw [z, k1] at c2; exact code_nk _ (Option.some.inj c2).symm)]; exact c2⟩
        · show (W1.ad ++ [p])[S1.length]? = some p
          rw [← w2.len, List.getElem?_append_right (Nat.le_refl _)]
          simp
end
end Pev

set_option Elab.async false
set_option linter.all false
set_option maxRecDepth 100000
set_option maxHeartbeats 4000000
namespace Pev
open PySem PySem.Spec PyProof.Rows L2 LamX
/-! ### the law's end, where no repr is under way -/
/-- what is known at the call: the script stands at a; ts, the tables, all empty -/
structure Scn (s : Shared) (a : Addr) (vs : List Value) (ns : List Int) (ts : List Addr) : Prop where
  ha : s.heap.get? a = some { cls := .type "list", data := .seq vs.toArray }
  hi : IntsAre vs ns
  hl : ns.length ≤ sizeLine
  ht : ∀ b ∈ ts, s.heap.get? b = some { cls := .none, data := .fields #[] }
/-- the heap as it is known: own says whether the script is no part of the text -/
def scH (a : Addr) (vs : List Value) (ns : List Int) (ts : List Addr) (own : Bool) : Hp := fun b => if b ∈ ts then some (.tbl #[]) else if own = true ∧ b = a then some (.frz { cls := .type "list", data := .seq vs.toArray } (.lst (ns.map V.int))) else none
def scF (a : Addr) (vs : List Value) (ns : List Int) (own : Bool) : Hp := fun b => if own = true ∧ b = a then some (.frz { cls := .type "list", data := .seq vs.toArray } (.lst (ns.map V.int))) else none
section
variable {s : Shared} {a : Addr} {vs : List Value} {ns : List Int} {ts : List Addr} {own : Bool} {P : Program} {w : World} {K : PySem.W.Frag} {mg mb : Str → Option Value}
theorem Scn.anot (Z : Scn s a vs ns ts) : a ∉ ts := fun z => by
  have e := (Z.ht a z).symm.trans Z.ha
  cases e
theorem scH_some {b : Addr} {u : HO} (h : scH a vs ns ts own b = some u) : (b ∈ ts ∧ u = .tbl #[]) ∨ (own = true ∧ b = a ∧ b ∉ ts ∧ u = .frz { cls := .type "list", data := .seq vs.toArray } (.lst (ns.map V.int))) := by
  unfold scH at h
  split at h
  · rename_i h1; exact .inl ⟨h1, (Option.some.inj h).symm⟩
  · rename_i h1
    split at h
    · rename_i h2; exact .inr ⟨h2.1, h2.2, h1, (Option.some.inj h).symm⟩
    · cases h
theorem Scn.hok (Z : Scn s a vs ns ts) : HOk P w (scH a vs ns ts own) s.heap := fun b u h => by
  rcases scH_some h with ⟨h1, rfl⟩ | ⟨_, rfl, _, rfl⟩
  · exact Z.ht b h1
  · exact ⟨Z.ha, by rw [List.length_map]; exact Z.hl, vs, _, vals_ints Z.hi, Z.ha⟩
/-- an object that is neither a list nor an empty record is not in the known heap -/
theorem Scn.off (Z : Scn s a vs ns ts) {b : Addr} {o : Obj} (e : s.heap.get? b = some o) (h1 : ∀ xs n, o.data ≠ .seq xs n) (h2 : o.data ≠ .fields #[]) : scH a vs ns ts own b = none := by
  cases q : scH a vs ns ts own b with
  | none => rfl
  | some u =>
    rcases scH_some q with ⟨z, _⟩ | ⟨_, z, _⟩
    · have := (Z.ht b z).symm.trans e; cases this; exact absurd rfl h2
    · subst z; have := Z.ha.symm.trans e; cases this; exact absurd rfl (h1 _ _)
theorem Scn.nsp (Z : Scn s a vs ns ts) {b : Addr} {m : Str → Option Value} (h : s.heap.Ns b m) : (hidT s.heap (scH a vs ns ts own)).Ns b m := by
  obtain ⟨o, es, ep, e, d, r⟩ := h
  exact ⟨o, es, ep, hidT_get e (Z.off e (fun xs n z => by rw [d] at z; cases z) fun z => by rw [d] at z; cases z), d, r⟩
theorem Scn.kin (Z : Scn s a vs ns ts) (KX : K.In s.heap) (ho : own = true → K.lookup a = none) (nT : ∀ b ∈ ts, K.lookup b = none) : K.In (hidT s.heap (scH a vs ns ts own)) := fun b o e => hidT_get (KX b o e) (by
  cases q : scH a vs ns ts own b with
  | none => rfl
  | some u =>
    rcases scH_some q with ⟨z, _⟩ | ⟨z1, z, _⟩
    · rw [nT b z] at e; cases e
    · subst z; rw [ho z1] at e; cases e)
theorem Scn.seq (Z : Scn s a vs ns ts) (KX : K.In s.heap) (ho : own = false → ∃ o, K.lookup a = some o) : SqL K (scF a vs ns own) a (ns.map V.int) := by
  cases own with
  | true => exact .inl (.inr ⟨_, if_pos ⟨rfl, rfl⟩⟩)
  | false =>
    obtain ⟨o, hk⟩ := ho rfl
    have e := KX a o hk
    rw [Z.ha] at e
    cases e
    exact .inr ⟨_, vs.toArray, _, hk, rfl, rfl, rfl, by rw [List.size_toArray, Z.hi.length]; exact Z.hl, by simpa using vals_ints Z.hi⟩
/-- the world ahead of the law -/
theorem Scn.wok (Z : Scn s a vs ns ts) {g : G0} (hT : ∀ p ∈ g.T, p.1 ∈ ts) : WOk g ⟨scF a vs ns own, []⟩ (scH a vs ns ts own) [] := by
  refine ⟨fun b u h => ?_, fun b u h => ?_, rfl, fun n b es h1 => by simp at h1, fun m n b h1 => by simp at h1, fun p hp => TabS.nil (if_pos (hT p hp))⟩
  · have h : scF a vs ns own b = some u := h
    unfold scF at h
    split at h
    · rename_i h1
      unfold scH
      rw [if_neg (by rw [h1.2]; exact Z.anot), if_pos h1]; exact h
    · cases h
  · have h : scF a vs ns own b = some u := h
    unfold scF at h
    split at h
    · cases h; trivial
    · cases h
theorem law_runG {CX : CXT} {k : Nat} {fa : Addr} {cs : List (Addr × Addr)} {fd : FuncData} {x : Str} {g : G0} {cf : CallF} (Z : Scn s a vs ns (cs.map (·.2))) (KX : K.In s.heap) (hns : s.heap.Ns mainGlobals mg) (hb : s.heap.Ns builtinsNs mb) (hbb : ∀ x : Str, x ≠ "__name__" → mb x = bootBuiltins x)
    (hlim : s.heap.NoLimit) (hg : s.gens = #[]) (nT : ∀ p ∈ cs, K.lookup p.2 = none) (C : ∀ p ∈ cs, PySem.W.CodeHd s.heap p.1 p.2) (hbm : ∃ (bm : Addr) (ob : Obj), mg "__builtins__" = some (.ref bm) ∧ bm ≠ builtinsNs ∧ s.heap.get? bm = some ob ∧ ob.cls = .type "module" ∧ ob.dict = some builtinsNs ∧ ob.data = .plain)
    (hr : Room k callerA) (hgK : g.K = K) (hgT : ∀ p ∈ g.T, p.1 ∈ cs.map (·.2)) (F : ∀ base : Heap, K.In base → base.Ns mainGlobals mg → (∀ p ∈ cs, TabB base mg p.1 p.2) → FnG P w K mg base CX k fa fd [x] (spF g 1 cf)) (hbind : ∀ (s : Shared) (u : Value), BindsTo s fd ⟨[u], []⟩ [(x, u)])
    (hcf : ∃ S', cf [.scr (ns.map Pv.int)] [] = .ok (.bl true) S') (hCX : ∀ H e s', CX [] H s (fun _ _ _ => False) e s' → False) :
    codeAny (model P w) callerA (.call (.ref fa) ⟨[.ref a], []⟩) (fun r s' => r = .ok (.ret (.bool true)) ∧ OldK s.heap s'.heap ∧ s'.os = s.os ∧ AllBare s'.gens) s := by
  subst hgK
  obtain ⟨own, ho1, ho2⟩ : ∃ own : Bool, (own = true → g.K.lookup a = none) ∧ (own = false → ∃ o, g.K.lookup a = some o) := by
    cases q : g.K.lookup a with
    | none => exact ⟨true, fun _ => rfl, fun z => (by cases z)⟩
    | some o => exact ⟨false, fun z => (by cases z), fun _ => ⟨o, rfl⟩⟩
  have nT2 : ∀ b ∈ cs.map (·.2), g.K.lookup b = none := fun b h => by
    obtain ⟨p, hp, e⟩ := List.mem_map.mp h
    rw [← e]; exact nT p hp
  have mem : ∀ p ∈ cs, p.2 ∈ cs.map (·.2) := fun p hp => List.mem_map.mpr ⟨p, hp, rfl⟩
  have hK := Z.kin (own := own) KX ho1 nT2
  have hM : L2.Mod g.K mg (hidT s.heap (scH a vs ns (cs.map (·.2)) own)) := ⟨hK, Z.nsp hns, ⟨mb, Z.nsp hb, hbb⟩, by obtain ⟨mc, h1, h2⟩ := hlim; exact ⟨mc, Z.nsp h1, h2⟩⟩
  have TB : ∀ p ∈ cs, TabB (hidT s.heap (scH a vs ns (cs.map (·.2)) own)) mg p.1 p.2 := fun p hp => by
    have tp := Z.ht p.2 (mem p hp)
    refine ⟨?_, ?_, fun z => ?_⟩
    · obtain ⟨o, us, file, tf, flags, tg, inF, text, tt, e1, r1, r2, r3, rest⟩ := C p hp
      exact ⟨o, us, file, tf, flags, tg, inF, text, tt, hidT_get e1 (Z.off e1 (fun _ _ z => by rw [r2] at z; cases z) fun z => by rw [r2] at z; cases z; simp at r3), r1, r2, r3, rest⟩
    · obtain ⟨bm, ob, b1, b2, b3, b4, b5, b6⟩ := hbm
      refine ⟨bm, ob, b1, b2, fun q => ?_, fun q => ?_, hidT_get b3 (Z.off b3 (fun _ _ z => by rw [b6] at z; cases z) fun z => by rw [b6] at z; cases z), b4, b5, b6⟩
      · obtain ⟨o, es, ep, e, hd, _⟩ := hns
        rw [q, e] at b3; cases b3; rw [hd] at b6; cases b6
      · rw [q, tp] at b3; cases b3; cases b6
    · obtain ⟨o, es, ep, e, hd, _⟩ := hns
      rw [z, tp] at e; cases e; cases hd
  have e0 : Env0 P w g.K mg (hidT s.heap (scH a vs ns (cs.map (·.2)) own)) callerA [] s (scH a vs ns (cs.map (·.2)) own) :=
    { frames := rfl, mod := hM, bs := fun b o e => of_hidT e, bsz := Nat.le_of_eq (hidT_size _ _), funs := trivial, frf := (fun b hb => absurd (show b ∈ ([] : List Addr) from hb) (by simp)), hok := Z.hok, bare := .of_eq hg }
  obtain ⟨S', hcf⟩ := hcf
  have rv : RVs g ⟨scF a vs ns own, []⟩ (ns.map V.int) (ns.map Pv.int) := RVs.ofInts (G := ⟨g, ⟨0, .none, none, 0, 0, "", ⟨fun _ => none, ⟨fun _ => none, []⟩⟩⟩⟩) ns
  have sp0 : spF g 1 cf [.ref a] (scH a vs ns (cs.map (·.2)) own) (fun v _ => v = .bl true) (fun _ _ _ => False) := ⟨rfl, _, [], [.scr (ns.map Pv.int)], Z.wok hgT, .cons (.scr (Z.seq KX ho2) rv) .nil, by
    rw [hcf]
    exact fun W' H' x _ _ r => by cases r; rfl⟩
  refine codeAny_mono ((F _ hK (Z.nsp hns) TB).run callerA [] s _ ⟨[.ref a], []⟩ [.ref a] [.ref a] _ _ hr rfl e0 (hbind s (.ref a)) (.cons rfl .nil) sp0) fun r s' h => ?_
  cases r with
  | error e => exact (hCX _ e s' h).elim
  | ok fl => cases fl with
    | next => exact h.elim
    | brk => exact h.elim
    | cont => exact h.elim
    | ret u =>
      obtain ⟨v, H', os, bare, un, hok', rv', q⟩ := h
      have q : v = .bl true := q
      subst q
      obtain rfl : u = Value.bool true := rv'
      have stay : ∀ b o, b ∉ cs.map (·.2) → s.heap.get? b = some o → s'.heap.get? b = some o := fun b o nb e => by
        cases q : scH a vs ns (cs.map (·.2)) own b with
        | none => exact un.keep b o e q (fun z => absurd (show b ∈ ([] : List Addr) from z) (by simp)) (by simp)
        | some u =>
          rcases scH_some q with ⟨z, _⟩ | ⟨_, _, _, z⟩
          · exact absurd z nb
          · subst z
            have z2 := un.frzs b _ _ q
            have e2 := (hok' b _ z2).1
            have e1 := (Z.hok (P := P) (w := w) b _ q).1
            rw [e] at e1; cases e1; exact e2
      have more : ∀ p ∈ cs, ∃ m : Array Value, s'.heap.get? p.2 = some { cls := .none, data := .fields m } := fun p hp => by
        obtain ⟨m, z⟩ := un.tbls p.2 #[] (if_pos (mem p hp))
        exact ⟨_, hok' p.2 _ z⟩
      refine ⟨rfl, ⟨fun b o e => ?_, fun b o e => ?_⟩, os, bare⟩
      · by_cases hb : b ∈ cs.map (·.2)
        · obtain ⟨p, hp, ep⟩ := List.mem_map.mp hb
          obtain ⟨m, hm⟩ := more p hp
          have tp := Z.ht p.2 (mem p hp)
          subst ep
          rw [tp] at e
          cases e
          exact .inr (.inl ⟨((C p hp).tab tp).isCodeTable, rfl, #[], m, rfl, by rw [Array.empty_append]; exact hm⟩)
        · exact .inl (stay b o hb e)
      · by_cases hb : b ∈ cs.map (·.2)
        · obtain ⟨p, hp, ep⟩ := List.mem_map.mp hb
          obtain ⟨m, hm⟩ := more p hp
          exact ⟨_, by rw [← ep]; exact hm⟩
        · exact ⟨o, stay b o hb e⟩
end
/-- what the law's row wants to know at the head's heap -/
def LawG (l : PySem.W.OpenLaw) (w : World) (K : PySem.W.Frag) (k n : Nat) (x : Str) (mg : Str → Option Value) (fa : Addr) (h : Heap) : Prop :=
  ∃ (fd : FuncData) (cs : List (Addr × Addr)) (g : G0) (cf : CallF), g.K = K ∧ (∀ p ∈ g.T, p.1 ∈ cs.map (·.2)) ∧ (∀ p ∈ cs, h.get? p.2 = some { cls := .none, data := .fields #[] }) ∧ (∀ p ∈ cs, K.lookup p.2 = none) ∧ (∀ p ∈ cs, PySem.W.CodeHd h p.1 p.2) ∧ (∀ (s : Shared) (u : Value), BindsTo s fd ⟨[u], []⟩ [(x, u)]) ∧
    (∀ ns : List Int, ns.length ≤ n → (∀ z ∈ ns, Builtin.Int.intBits z ≤ 1048576) → ∃ S', cf [.scr (ns.map Pv.int)] [] = .ok (.bl true) S') ∧ ∀ base : Heap, K.In base → base.Ns mainGlobals mg → (∀ p ∈ cs, TabB base mg p.1 p.2) → FnG l.prog w K mg base (L2.CX l.prog w) k fa fd [x] (spF g 1 cf)
theorem walk_G {l : PySem.W.OpenLaw} {n k : Nat} {q : Program} {loose : List Str} {XP : (Str → Option Value) → Heap → Prop} {YP : World → Heap → Prop} {d : DefRec} {K : Params → PySem.W.Frag} {x : Str} (hn : l.most = some n) (hn2 : n ≤ sizeLine) (hdf : d.params.defaults = []) (hr : Room k callerA) (hY : ∀ (w : World) (h : Heap), YP w h → (K w.params).In h)
    (F : ∀ (w : World) (mg : Str → Option Value) (fa : Addr) (h : Heap), YP w h → (K w.params).In h → h.Ns mainGlobals mg → mg d.name = some (.ref fa) → LawG l w (K w.params) k n x mg fa h) (hCX : ∀ (w : World) (H : Hp) (s : Shared) (e : Value) (s' : Shared), L2.CX l.prog w [] H s (fun _ _ _ => False) e s' → False) :
    PySem.W.WalkO q loose XP YP l.row.toRowW d [] (fun f vs => PySem.call f vs) := by
  refine Att.attach_callB hn hdf fun w s₀ s₁ mg mb fa o pm cd doc a vs ns G Y ho hd hcd hmg hobj hints hlen hbits hg => ?_
  have KX := hY w _ Y
  obtain ⟨fd, cs, g, cf, hgK, hgT, hT, nT, C, hb, hcf, hF⟩ := F w mg fa _ Y KX G.T.g hmg
  exact law_runG ⟨hobj, hints, Nat.le_trans hlen hn2, fun b hb => by obtain ⟨p, hp, e⟩ := List.mem_map.mp hb; rw [← e]; exact hT p hp⟩ KX G.T.g G.T.b G.T.builtins G.T.nolimit hg nT C G.T.bmain hr hgK hgT hF hb (hcf ns hlen hbits) fun H e s' => hCX w H s₁ e s'
end Pev

set_option Elab.async false
set_option linter.all false
set_option maxRecDepth 100000
set_option maxHeartbeats 4000000
namespace Pev
open PyProof.Rows (envOfC)
open PySem PySem.Spec L2
/-! ### short forms -/
def evNil : EvFs := fun _ S => .ok [] S
def evCons (ra : EvF) (ras : EvFs) : EvFs := fun env S => (ra env S).bind fun v S1 => (ras env S1).bind fun vs S2 => .ok (v :: vs) S2
def evLstF (ras : EvFs) : EvFs := fun env S => (ras env S).bind fun vs S1 => match Nat.ble vs.length capLen with | true => .ok vs S1 | false => .stuck
def evYes : List Slot → Sto → Res Bool := fun _ S => .ok true S
def evOne (ra : EvF) : EvFs := fun env S => (ra env S).bind fun v S1 => .ok [v] S1
section
variable {X : Cx} {G : Gc} {Ex : WX} {a b c e : Expr} {es : List Expr} {ra rb : EvF} {ras rks rs : EvFs} {pos p : Pos} {st : Stmt}
theorem a0 : PA X [] (tA G Ex evNil) := a_nil
theorem a1 (ha : PE X a (tE G Ex ra)) (hs : PA X es (tA G Ex ras)) (hse : starEach (a :: es) X.env = (false, eval a X.env) :: starEach es X.env := by rfl) : PA X (a :: es) (tA G Ex (evCons ra ras)) := a_cons ha hs hse
theorem k0 : KSound X G Ex [] evNil := k_nil
theorem k1 {nm : Option Str} {kpos : Pos} {kws : List Keyword} (ha : PE X e (tE G Ex ra)) (hs : KSound X G Ex kws rks) : KSound X G Ex (⟨nm, e, kpos⟩ :: kws) (evCons ra rks) := k_cons ha hs
theorem pa_one (ha : PE X a (tE G Ex ra)) (hse : starEach [a] X.env = (false, eval a X.env) :: starEach [] X.env) : PA X [a] (tA G Ex fun env S => (ra env S).bind fun v S1 => .ok [v] S1) := pa_imp (pa_cons ha pa_nil hse) fun σ H Q h => by
  obtain ⟨H0, W, S, env, A, o⟩ := h
  exact ⟨H0, W, S, env, A, o.bind fun v S1 W1 H1 x e1 w1 r1 o1 => o1 W1 H1 _ (Ext.refl _ _) w1 (.cons r1 .nil)⟩
theorem frz_read {σ : L2.St} {H : Hp} {Q : VK} (h : tE G Ex (evFrz rs) σ H Q) : tF G Ex rs σ H Q := by
  obtain ⟨H0, W, S, env, A, o⟩ := h
  refine ⟨H0, W, S, env, A, ?_⟩
  unfold evFrz at o
  cases q : rs env S with
  | stuck => rw [q] at o; exact o
  | exc c fs S' => rw [q] at o; exact o
  | ok xs S' =>
    rw [q] at o
    intro W' H' p vs e w n hp f rv
    have w2 := w.freeze hp (show Plain (.lst vs) from trivial) (w.off hp fun _ z => by cases z)
    have le : W'.Le ⟨upd W'.F p (.lst vs), W'.ad⟩ := ⟨fun a u h => by
      show upd W'.F p (.lst vs) a = _
      rw [upd_ne (ne_of_none h f)]; exact h, fun _ _ h => h⟩
    refine o ⟨upd W'.F p (.lst vs), W'.ad⟩ H' _ ⟨fun a u h => le.F a u (e.F a u h), fun a u h n' t => ?_, e.keep, e.there, e.ad⟩ w2 (.lst upd_same (rv.mono le))
    show upd W'.F p (.lst vs) a = none
    rw [upd_ne (n.ne n' t)]
    exact e.fresh a u h n' t
/-- name = e, from the statement's reading -/
theorem asgN_read {i : Nat} {te : TE} (h : PS X st (tAsg te (gName i))) (k : ∀ σ H Q, tE G Ex ra σ H Q → te σ H Q) : PS X st (tS G Ex (evAsg (.nm i) ra)) := ps_imp h fun D σ H h => by
  obtain ⟨gh, W, S, env, A, o⟩ := h
  refine k _ _ _ ⟨gh, W, S, env, A, A.toS o fun v S1 W1 H1 x e1 A1 r1 o1 => ?_⟩
  cases q : bindT (.nm i) v env with
  | none => rw [q] at o1; exact o1.elim
  | some env' =>
    rw [q] at o1
    have eq := bind_nm q
    subst eq
    exact o1 W1 H1 _ (Wd.Le.refl _) (A1.set i r1)
section
variable {i : Nat} {y : Str} {py : Pos} {elt tg iter : Expr} {ifs : List Expr} {scope : Scope} {own : List (Str × Nat)} {spos : Pos} {t : Tg} {rt : List Slot → Sto → Res Bool} {re : EvF}
theorem lcS (hc : X.calm = true) (hN : X.N.Nodup) (hy : X.N[i]? = some y) (hyl : X.env.scope.names.lookup y = some .local) (hsw : swapsWith (.ListComp elt [⟨tg, iter, ifs, 0⟩] scope pos) (some (.Name y py)) spos.line X.env = pure true) (hi : PI X tg iter (tI G Ex rs)) (ok : BlkOk X.N X.env.scope scope own)
    (hg : ∀ (s : Shared) (H : Hp) (C : Addr) (cl : List (Str × Addr)) (fp : List Addr), PG (X.blk s H scope (compEnvC scope cl C X.env) fp) tg (tG G t)) (ht : ∀ (s : Shared) (H : Hp) (C : Addr) (cl : List (Str × Addr)) (fp : List Addr), PTs (X.blk s H scope (compEnvC scope cl C X.env) fp) ifs (tT G noX rt))
    (he : ∀ (s : Shared) (H : Hp) (C : Addr) (cl : List (Str × Addr)) (fp : List Addr), PE (X.blk s H scope (compEnvC scope cl C X.env) fp) elt (tE G noX re)) (hs : ∀ x, foldedSetIterable iter X.env x = pure x) :
    PS X (.Assign [.Name y py] (.ListComp elt [⟨tg, iter, ifs, 0⟩] scope pos) spos) (tAsg (tLc (tI G Ex rs) (tG G t) (tT G noX rt) (tE G noX re) (own.map (·.2))) (gName i)) := ps_setLc hc hN hy hyl hsw hi ok hg ht he hs
/-- name = [..], to be read alone -/
theorem s_lcV (hslots : ∀ j ∈ t.slots, j ∈ own.map (·.2)) (h : PS X st (tAsg (tLc (tI G Ex rs) (tG G t) (tT G noX rt) (tE G noX re) (own.map (·.2))) (gName i))) : PS X st (tS G Ex (evAsg (.nm i) (evFrz (evComp t (own.map (·.2)) rs rt re)))) :=
  asgN_read h fun σ H Q z => lc_read hslots (frz_read z)
/-- name = [..], to be written later -/
theorem s_lcF (hslots : ∀ j ∈ t.slots, j ∈ own.map (·.2)) (h : PS X st (tAsg (tLc (tI G Ex rs) (tG G t) (tT G noX rt) (tE G noX re) (own.map (·.2))) (gName i))) : PS X st (tS G Ex (evAsgF i (evComp t (own.map (·.2)) rs rt re))) :=
  asgF_read h fun σ H Q z => lc_read hslots z
end
end
/-! ### the program's defs -/
structure Def (P : Program) (w : World) (g : G0) (mg : Str → Option Value) (base : Heap) (k : Nat) (x : Str) (st : Stmt) (ps : List Str) (cf : CallF) : Prop where
  ex : ∃ (f : Addr) (fd : FuncData), mg x = some (.ref f) ∧ Fun g.K x x st f fd ∧ FnG P w g.K mg base (L2.CX P w) k f fd ps (spF g ps.length cf)
theorem Def.mono {P : Program} {w : World} {g : G0} {mg : Str → Option Value} {base : Heap} {j k : Nat} {x : Str} {st : Stmt} {ps : List Str} {cf : CallF} (D : Def P w g mg base j x st ps cf) (h : j ≤ k) : Def P w g mg base k x st ps cf := by
  obtain ⟨f, fd, h1, h2, h3⟩ := D.ex
  exact ⟨f, fd, h1, h2, h3.mono h⟩
/-- the call's shape, whatever the rest of the def's record -/
def ShapeD (K : PySem.W.Frag) (x : Str) (st : Stmt) (ps : List Str) (n : Nat) (ks : List Str) (perm : List Nat) : Prop := ∀ (kV doc pm : Value) (an : Option Addr) (cdv ct : Value), Shape K (PySem.W.fnOf x x (defArgs st) (defBody st) (defScope st) .none kV doc pm an cdv ct) ps n ks perm
section
variable {X : Cx} {G : Gc} {Ex : WX} {a b c e : Expr} {es : List Expr} {ra rb : EvF} {ras rks : EvFs} {pos p : Pos} {kws : List Keyword} {k n : Nat} {x : Str} {st : Stmt} {ps ks : List Str} {cf : CallF} {perm : List Nat}
theorem fun_shape {K : PySem.W.Frag} {f : Addr} {fd : FuncData} (F : Fun K x x st f fd) (hs : ShapeD K x st ps n ks perm) : Shape K fd ps n ks perm := by
  obtain ⟨oc, od, kV, doc, pm, an, cdv, ct, osl, rfl, lk, hcd⟩ := F.ex
  exact hs kV doc pm an cdv ct
theorem c_pos (D : Def X.prog X.w G.toG0 X.mg X.base k x st ps cf) (hK : X.K = G.K) (hs : ShapeD X.K x st ps n [] perm) (hr : Room k X.A) (hgd : X.A.guards = some []) (tk : Takes X Ex) (ha : PA X (e :: es) (tA G Ex ras)) (hg : Gl X x := by rfl) (hdb : (x == ("__debug__" : Str)) = false := by rfl)
    (he : starEach (e :: es) X.env = (false, eval e X.env) :: starEach es X.env := by rfl) (hpl : (backTo pos (starEach es X.env)).any (·.1) = false := by rfl) : PE X (.Call (.Name x p) (e :: es) [] pos) (tE G Ex (evCall cf perm n 0 ras evNil)) := by
  obtain ⟨f, fd, h1, h2, h3⟩ := D.ex
  rw [← hK] at h2 h3
  exact e_call h3 hr hgd hg h1 h2.kp (fun_shape h2 hs) tk ha hdb he hpl
theorem c_none (D : Def X.prog X.w G.toG0 X.mg X.base k x st ps cf) (hK : X.K = G.K) (hs : ShapeD X.K x st ps 0 [] perm) (hr : Room k X.A) (hgd : X.A.guards = some []) (tk : Takes X Ex) (hg : Gl X x := by rfl) (hdb : (x == ("__debug__" : Str)) = false := by rfl) : PE X (.Call (.Name x p) [] [] pos) (tE G Ex (evCall cf perm 0 0 evNil evNil)) := by
  obtain ⟨f, fd, h1, h2, h3⟩ := D.ex
  rw [← hK] at h2 h3
  exact e_call0 h3 hr hgd hg h1 h2.kp (fun_shape h2 hs) tk hdb
theorem c_kw (D : Def X.prog X.w G.toG0 X.mg X.base k x st ps cf) (hK : X.K = G.K) (hs : ShapeD X.K x st ps n ks perm) (hr : Room k X.A) (hgd : X.A.guards = some []) (tk : Takes X Ex) (ha : PA X (e :: es) (tA G Ex ras)) (hkw : KSound X G Ex kws rks) (hg : Gl X x := by rfl) (hdb : (x == ("__debug__" : Str)) = false := by rfl)
    (hall : (backToKw pos (keywordEach kws X.env)).all (·.1.isSome) = true := by rfl) (hks : (backToKw pos (keywordEach kws X.env)).filterMap (·.1) = ks := by rfl) (he : starEach (e :: es) X.env = (false, eval e X.env) :: starEach es X.env := by rfl)
    (hpl : ((backTo pos (starEach (e :: es) X.env)).any (·.1) || (backToKw pos (keywordEach kws X.env)).any (·.1.isNone)) = false := by rfl) : PE X (.Call (.Name x p) (e :: es) kws pos) (tE G Ex (evCall cf perm n ks.length ras rks)) := by
  obtain ⟨f, fd, h1, h2, h3⟩ := D.ex
  rw [← hK] at h2 h3
  exact e_callK h3 hr hgd hg h1 h2.kp (fun_shape h2 hs) tk ha hkw hall hks hdb he hpl
theorem c_kw0 (D : Def X.prog X.w G.toG0 X.mg X.base k x st ps cf) (hK : X.K = G.K) (hs : ShapeD X.K x st ps 0 ks perm) (hr : Room k X.A) (hgd : X.A.guards = some []) (tk : Takes X Ex) (hkw : KSound X G Ex kws rks) (hg : Gl X x := by rfl) (hdb : (x == ("__debug__" : Str)) = false := by rfl)
    (hall : (backToKw pos (keywordEach kws X.env)).all (·.1.isSome) = true := by rfl) (hks : (backToKw pos (keywordEach kws X.env)).filterMap (·.1) = ks := by rfl) (hpl : (backToKw pos (keywordEach kws X.env)).any (·.1.isNone) = false := by rfl) :
    PE X (.Call (.Name x p) [] kws pos) (tE G Ex (evCall cf perm 0 ks.length evNil rks)) := by
  obtain ⟨f, fd, h1, h2, h3⟩ := D.ex
  rw [← hK] at h2 h3
  exact e_callK0 h3 hr hgd hg h1 h2.kp (fun_shape h2 hs) tk hkw hall hks hdb hpl
/-- a def as a value: its place in the table -/
structure FnV (g : G0) (mg : Str → Option Value) (x : Str) (j : Nat) : Prop where
  ex : ∃ f : Addr, mg x = some (.ref f) ∧ g.fa j = some f
theorem e_fnv {j : Nat} (V0 : FnV G.toG0 X.mg x j) (hg : Gl X x := by rfl) (hdb : (x == ("__debug__" : Str)) = false := by rfl) : PE X (.Name x pos) (tE G Ex (evCon (.fn j))) := by
  obtain ⟨f, h1, h2⟩ := V0.ex
  exact e_con (pe_glob hg h1 (v := .ref f) rfl hdb) fun W => .fn h2
theorem tb_of {P : Program} {w : World} {g : G0} {mg : Str → Option Value} {base : Heap} {j : Nat} (D : Def P w g mg base k x st ps cf) (V0 : FnV g mg x j) (hs : ShapeD g.K x st ps ps.length [] (List.range ps.length)) (hb : ∀ (kV doc pm : Value) (an : Option Addr) (cdv ct : Value), L2.Binds g.K (PySem.W.fnOf x x (defArgs st) (defBody st) (defScope st) .none kV doc pm an cdv ct) ps []) : Tb P w g.K mg base g k ps.length j cf := by
  obtain ⟨f, fd, h1, h2, h3⟩ := D.ex
  obtain ⟨f', h4, h5⟩ := V0.ex
  rw [h1] at h4
  cases h4
  obtain ⟨oc, od, kV, doc, pm, an, cdv, ct, osl, rfl, lk, hcd⟩ := h2.ex
  exact ⟨f, _, ps, h5, h3, h2.kp, hb kV doc pm an cdv ct, rfl⟩
end
/-! ### the program's errors -/
structure ErrC (P : Program) (w : World) (g : G0) (mg : Str → Option Value) (base : Heap) (x : Str) (c : Nat) (names : List Str) : Prop where
  ex : ∃ (C fI : Addr) (fd : FuncData), mg x = some (.ref C) ∧ g.ca c = some C ∧ OexC g.K C ∧ PySem.W.findIn g.K (.ref C) "__init__" = some (some (.ref fI)) ∧ PySem.W.typeIn g.K (.ref fI) = some (.type "function") ∧ L2.Binds g.K fd ("self" :: names) [] ∧ FnOk P w g.K mg base (L2.CX P w) 1 fI fd ("self" :: names) (spInit C names)
section
variable {X : Cx} {G : Gc} {Ex : WX} {e : Expr} {es : List Expr} {pos p : Pos} {rs : EvFs} {c : Nat} {names : List Str} {x : Str}
theorem Passes.nothing {Y : Cx} {CX : CXT} (h : ∀ outer H s e s', CX outer H s (fun _ _ _ => False) e s' → False) : Passes CX Y (fun _ _ _ => False) := fun pins σ H s e s' I z => (h _ _ _ _ _ z).elim
theorem cx_false {P : Program} {w : World} (outer : List Env) (H : Hp) (s : Shared) (e : Value) (s' : Shared) (h : L2.CX P w outer H s (fun _ _ _ => False) e s') : False := by
  obtain ⟨_, _, _, _, _, _, _, _, _, _, _, _, z⟩ := h
  exact z
theorem s_raiseD (R : ErrC X.prog X.w G.toG0 X.mg X.base x c names) (hK : X.K = G.K) (hc : X.calm = true) (tk : Takes X Ex) (hr : Room 2 X.A) (ha : PA X (e :: es) (tA G Ex rs)) (hg : Gl X x := by rfl) (hdb : (x == ("__debug__" : Str)) = false := by rfl)
    (he : starEach (e :: es) X.env = (false, eval e X.env) :: starEach es X.env := by rfl) (hpl : (backTo pos (starEach es X.env)).any (·.1) = false := by rfl) {pos' : Pos} : PS X (.Raise (some (.Call (.Name x p) (e :: es) [] pos)) none pos') (tS G Ex (evRaise c names rs)) := by
  obtain ⟨C, fI, fd, h1, h2, h3, h4, h5, h6, h7⟩ := R.ex
  rw [← hK] at h3 h4 h5 h6 h7
  exact s_raise hc tk h3 h2 h4 h5 h7 hr h6 (Passes.nothing fun outer H s e s' z => cx_false outer H s e s' z) hg h1 ha hdb he hpl
end
end Pev

set_option Elab.async false
set_option linter.all false
set_option maxRecDepth 100000
set_option maxHeartbeats 4000000
namespace Pev
open PySem PySem.Spec L2
section
variable {P : Program} {w : World} {K : PySem.W.Frag} {mg : Str → Option Value} {base : Heap} {q n1 n2 : Str} {st : Stmt} {f C : Addr} {fd : FuncData} {p1 p2 p3 p4 q1 q2 q3 q4 : Pos}
theorem init_2 (F : Fun K "__init__" q st f fd) (S : FnScope ["self", n1, n2] ["self", n1, n2] (defScope st)) (T : OexC K C) (hb : defBody st = [.Assign [.Attribute (.Name "self" p1) n1 p2] (.Name n1 p3) p4, .Assign [.Attribute (.Name "self" q1) n2 q2] (.Name n2 q3) q4])
    (h1 : PySem.W.findIn K (.ref C) n1 = some none) (h2 : PySem.W.findIn K (.ref C) n2 = some none) (v0 : Vis (defScope st) "self") (v1 : Vis (defScope st) n1) (v2 : Vis (defScope st) n2) (d1 : (n1 == ("__debug__" : Str)) = false) (d2 : (n2 == ("__debug__" : Str)) = false) (c1 : (n1 == ("__classdict__" : Str)) = false) (c2 : (n2 == ("__classdict__" : Str)) = false) :
    FnOk P w K mg base (L2.CX P w) 1 f fd ["self", n1, n2] (spInit C [n1, n2]) := by
  refine F.okX S (fun vs H Q E h => h.1) fun cdv A outer s H vs Q E hr h => ?_
  obtain ⟨hl, a, ws, rfl, ha, k⟩ := h
  rw [hb]
  match ws, hl with
  | [w1, w2], _ =>
    refine ⟨_, pss_cons (ps_ost (pe_var (i := 0) rfl v0 rfl rfl) (pe_var (i := 1) rfl v1 d1 c1) rfl) (pss_one (ps_ost (pe_var (i := 0) rfl v0 rfl rfl) (pe_var (i := 2) rfl v2 d2 c2) rfl)), ?_⟩
    refine ⟨w1, rfl, .ref a, rfl, a, C, rfl, T, h1, .inl ⟨ha, fun dx hd hne => ?_⟩⟩
    refine ⟨w2, rfl, .ref a, rfl, a, C, rfl, T, h2, .inr ⟨dx, [(n1, w1)], upd_same, by rw [upd_ne hne, upd_same], (by show 1 ≤ 900; decide), ?_⟩⟩
    exact k dx _ hd hne (by rw [upd_ne hne.symm, upd_same]) upd_same fun b hb1 hb2 => by rw [upd_ne hb2, upd_ne hb1, upd_ne hb2]
theorem init_1 (F : Fun K "__init__" q st f fd) (S : FnScope ["self", n1] ["self", n1] (defScope st)) (T : OexC K C) (hb : defBody st = [.Assign [.Attribute (.Name "self" p1) n1 p2] (.Name n1 p3) p4]) (h1 : PySem.W.findIn K (.ref C) n1 = some none) (v0 : Vis (defScope st) "self") (v1 : Vis (defScope st) n1)
    (d1 : (n1 == ("__debug__" : Str)) = false) (c1 : (n1 == ("__classdict__" : Str)) = false) : FnOk P w K mg base (L2.CX P w) 1 f fd ["self", n1] (spInit C [n1]) := by
  refine F.okX S (fun vs H Q E h => h.1) fun cdv A outer s H vs Q E hr h => ?_
  obtain ⟨hl, a, ws, rfl, ha, k⟩ := h
  rw [hb]
  match ws, hl with
  | [w1], _ =>
    refine ⟨_, pss_one (ps_ost (pe_var (i := 0) rfl v0 rfl rfl) (pe_var (i := 1) rfl v1 d1 c1) rfl), ?_⟩
    refine ⟨w1, rfl, .ref a, rfl, a, C, rfl, T, h1, .inl ⟨ha, fun dx hd hne => ?_⟩⟩
    exact k dx _ hd hne upd_same (by rw [upd_ne hne, upd_same]; rfl) fun b hb1 hb2 => by rw [upd_ne hb1, upd_ne hb2]
end
end Pev

set_option Elab.async false
set_option linter.all false
set_option maxRecDepth 100000
set_option maxHeartbeats 4000000
namespace Pev
open PyProof.Rows (envOfC)
open PySem PySem.Spec L2 LamX
section
variable {X : Cx} {G : Gc} {Ex : WX} {a b c e : Expr} {es : List Expr} {ra rb : EvF} {ras rks : EvFs} {pos p : Pos} {x : Str} {g : List Pv → Option Pv} {id : String}
theorem pts_one1 (h : PT X e (tT G Ex (evT ra))) : PTs X [e] (tT G Ex (evT ra)) := pts_one h
theorem b_call (hc : CallR X (.builtin id) (rCall G g)) (hg : Gl X x) (hm : X.mg x = none) (hv : bootBuiltins x = some (.builtin id)) (ha : PA X (e :: es) (tA G Ex ras)) (hn : x ≠ "__name__" := by decide) (hdb : (x == ("__debug__" : Str)) = false := by rfl)
    (he : starEach (e :: es) X.env = (false, eval e X.env) :: starEach es X.env := by rfl) (hpl : (backTo pos (starEach es X.env)).any (·.1) = false := by rfl) : PE X (.Call (.Name x p) (e :: es) [] pos) (tE G Ex (evB g ras)) := pe_imp (pe_callB hc hg hm hv ha hn hdb he hpl) fun _ _ _ h => evB_call h
theorem b_ty (hc : CallR X (.type id) (rCall G g)) (hg : Gl X x) (hm : X.mg x = none) (hv : bootBuiltins x = some (.type id)) (ha : PA X (e :: es) (tA G Ex ras)) (hn : x ≠ "__name__" := by decide) (hdb : (x == ("__debug__" : Str)) = false := by rfl)
    (he : starEach (e :: es) X.env = (false, eval e X.env) :: starEach es X.env := by rfl) (hpl : (backTo pos (starEach es X.env)).any (·.1) = false := by rfl) : PE X (.Call (.Name x p) (e :: es) [] pos) (tE G Ex (evB g ras)) := pe_imp (pe_callTy hc hg hm hv ha hn hdb he hpl) fun _ _ _ h => evB_call h
theorem rU {k : Nat} {A : Around} (r : Room k A) : A.units + 64 < cLine := r.units
theorem rU1 {k : Nat} {A : Around} (r : Room k A) : A.units + 65 < cLine := by have := r.un; omega
theorem rU2 {k : Nat} {A : Around} (r : Room k A) : A.units + 1 < cLine := by have := r.un; omega
end
theorem rUm {k : Nat} {A : Around} {h : Option Value} (r : Room k A) : (A.mark h).units + 64 < cLine := by have z := rU r; exact z
theorem rU1m {k : Nat} {A : Around} {h : Option Value} (r : Room k A) : (A.mark h).units + 65 < cLine := by have z := rU1 r; exact z
theorem rU2m {k : Nat} {A : Around} {h : Option Value} (r : Room k A) : (A.mark h).units + 1 < cLine := by have z := rU2 r; exact z
theorem booly_cLt : Booly cLt := by intro va vb v h; unfold cLt at h; split at h <;> cases h; exact ⟨_, rfl⟩
theorem booly_cLe : Booly cLe := by intro va vb v h; unfold cLe at h; split at h <;> cases h; exact ⟨_, rfl⟩
theorem booly_cGt : Booly cGt := by intro va vb v h; unfold cGt at h; split at h <;> cases h; exact ⟨_, rfl⟩
theorem booly_cGe : Booly cGe := by intro va vb v h; unfold cGe at h; split at h <;> cases h; exact ⟨_, rfl⟩
theorem booly_cEq : Booly cEq := by intro va vb v h; unfold cEq at h; split at h; (cases h; exact ⟨_, rfl⟩); split at h <;> cases h; exact ⟨_, rfl⟩
theorem booly_cNe : Booly cNe := by intro va vb v h; unfold cNe at h; split at h; (cases h; exact ⟨_, rfl⟩); split at h <;> cases h; exact ⟨_, rfl⟩
theorem booly_cIs : Booly cIs := by intro va vb v h; unfold cIs at h; split at h <;> cases h; exact ⟨_, rfl⟩
theorem booly_cIsNot : Booly cIsNot := by intro va vb v h; unfold cIsNot at h; split at h <;> cases h; exact ⟨_, rfl⟩
theorem booly_cIn : Booly cIn := by intro va vb v h; unfold cIn at h; split at h <;> cases h; exact ⟨_, rfl⟩
theorem booly_cNotIn : Booly cNotIn := by intro va vb v h; unfold cNotIn at h; split at h <;> cases h; exact ⟨_, rfl⟩
/-! ### a tuple of ints of the module's top -/
structure ConT (K : PySem.W.Frag) (mg : Str → Option Value) (x : Str) (ns : List Int) : Prop where
  ex : ∃ (a : Addr) (o : Obj) (its : Array Value) (n : Nat), mg x = some (.ref a) ∧ K.lookup a = some o ∧ o.cls = .type "tuple" ∧ o.dict = none ∧ o.data = .seq its n ∧ its.size ≤ sizeLine ∧ Vals (ns.map V.int) its.toList
section
variable {X : Cx} {G : Gc} {Ex : WX} {pos : Pos} {x : Str} {ns : List Int}
theorem rvs_ints {W : Wd} : ∀ ns : List Int, RVs G W (ns.map V.int) (ns.map Pv.int) := RVs.ofInts
theorem e_conT (h : ConT G.K X.mg x ns) (hg : Gl X x := by rfl) (hdb : (x == ("__debug__" : Str)) = false := by rfl) : PE X (.Name x pos) (tE G Ex (evCon (.tup (ns.map Pv.int)))) := by
  obtain ⟨a, o, its, n, h1, h2, h3, h4, h5, h6, h7⟩ := h.ex
  exact e_con (pe_glob hg h1 (v := .ref a) rfl hdb) fun W => .tup (.inr ⟨o, its, n, h2, h3, h4, h5, h6, h7⟩) (RVs.ofInts ns)
end
/-! ### a def that makes lambdas; a def that calls one -/
structure MkL (g : G0) (mg : Str → Option Value) (base : Heap) (code : Value) (q : Str) : Prop where
  ex : ∃ c P : Addr, code = .ref c ∧ TabB base mg c P ∧ (P, q) ∈ g.T ∧ ∀ p ∈ g.T, p.1 = P → p.2 = q
structure Sd (P : Program) (w : World) (g : G0) (mg : Str → Option Value) (base : Heap) (x : Str) (st : Stmt) (a : Str) (Ng : List Str) (cf : SaidF) : Prop where
  ex : ∃ (gA : Addr) (fd : FuncData), mg x = some (.ref gA) ∧ Fun g.K x x st gA fd ∧ L2.Binds g.K fd [a] [] ∧ FnScope Ng [a] (defScope st) ∧ Ng[0]? = some a ∧ Vis (defScope st) a ∧ (a == ("__debug__" : Str)) = false ∧ (a == ("__classdict__" : Str)) = false ∧
    ∀ (X : Cx) (q : Str) (cdv : Value), X.prog = P → X.w = w → X.K = g.K → X.mg = mg → X.base = base → GivesS X Ng x (defScope st) gA cdv (defBody st) a q (TTs g cf)
theorem e_saidD {X : Cx} {G : Gc} {Ex : WX} {x a : Str} {st : Stmt} {Ng : List Str} {cf : SaidF} {params : Arguments} {body : Expr} {scope : Scope} {p lpos pos : Pos} {k : Nat} {re : EvF} (D : Sd X.prog X.w G.toG0 X.mg X.base x st a Ng cf) (M : MkL G.toG0 X.mg X.base X.env.code (X.env.qual ++ "<lambda>")) (hK : X.K = G.K) (hr : Room (k + 2) X.A) (L : LamS X.env.scope scope)
    (hbind : ∀ (q : Str) (cl : List (Str × Addr)) (pm cv ctv : Value), bindArgs (PySem.W.kla_fn "<lambda>" q params body scope cl pm cv ctv) ⟨[], []⟩ = pure []) (hbody : ∀ (A : Around) (outer : List Env) (s : Shared) (H : Hp) (E : XK) (f c' : Addr), Room k (A.deeper (lamEnv X scope s.heap.objs.size f c')) → A.guards = X.A.guards → PE (lamCx X A outer s H E scope f c') body (tE G (fun cls d _ H => E cls d H) re))
    (hg : Gl X x := by rfl) (hdef : defaultsOf params X.env = ([], []) := by rfl) (hdb : (x == ("__debug__" : Str)) = false := by rfl) : PE X (.Call (.Name x p) [.Lambda params body scope lpos] [] pos) (tE G Ex (evSaid cf re)) := by
  obtain ⟨gA, fd, h1, h2, h3, h4, h5, h6, h7, h8, h9⟩ := D.ex
  obtain ⟨c, P, m1, m2, m3, m4⟩ := M.ex
  obtain ⟨oc, od, kV, doc, pm, an, cdv, ct, osl, rfl, lk, hcd⟩ := h2.ex
  have kp := h2.kp
  have h9' := h9 X (X.env.qual ++ "<lambda>") cdv rfl rfl hK rfl rfl
  rw [← hK] at h3 lk hcd kp
  exact e_said hg h1 kp lk hcd h3 h4 h5 h6 h9' m2 m1 m3 m4 hr L hdef hbind hbody hdb h7 h8
/-- a def whose code object is known -/
theorem fn_evC {P : Program} {w : World} {g : G0} {mg : Str → Option Value} {base : Heap} {x qual : Str} {st : Stmt} {f : Addr} {fd : FuncData} {N ps : List Str} {k : Nat} {rbody : EvS} {q : Str} (F : Fun g.K x qual st f fd) (M : MkL g mg base fd.code q) (S : FnScope N ps (defScope st))
    (hbody : ∀ (G : Gc) (cdv : Value) (A : Around) (outer : List Env) (s : Shared) (H : Hp) (E : XK), G.toG0 = g → MkL g mg base cdv q → Room k (A.deeper (envOfC qual (defScope st) s.heap.objs.size f cdv)) → A.guards = some [] →
      PSs (cxOf (L2.CX P w) P w g.K mg base N qual (defScope st) f cdv A outer s H E) (defBody st) (tS G (fun cls d _ H => E cls d H) rbody)) :
    FnG P w g.K mg base (L2.CX P w) (k + 1) f fd ps (spF g ps.length (runB N.length rbody)) := by
  refine ⟨fun vs H Q E h => h.1, fun A outer s H args us vs Q E hr hgd e0 hb rv0 h => ?_⟩
  obtain ⟨oc, od, kV, doc, pm, an, cdv, ct, osl, rfl, lk, hcd⟩ := F.ex
  refine LamX.run_ofS (CX := L2.CX P w) lk hcd S hr e0 hb rv0 h.1 fun hr' => ?_
  obtain ⟨hl, W, S0, xs, w0, rv, o⟩ := h
  refine ⟨_, hbody ⟨g, ⟨0, .none, none, 0, 0, "", ⟨H, W⟩⟩⟩ cdv A outer s H E rfl M hr' hgd, ⟨H, W⟩, W, S0, _, at_start (N := N) w0 rv, ?_⟩
  exact run_out (f := fun o => match o with | .nx _ S' => .ok .non S' | .rt v S' => .ok v S' | .exc c fs _ S' => .exc c fs S' | _ => .stuck) rfl o
/-! ### classes that are asked of an error -/
structure CatOwn (g : G0) (mg : Str → Option Value) (y : Str) (tbl : Nat → Option Bool) : Prop where
  ex : ∃ Y : Addr, mg y = some (.ref Y) ∧ ∀ c C b, g.ca c = some C → tbl c = some b → PySem.W.exmOne g.K (.ref C) (.ref Y) = some b
structure IsY (g : G0) (cv : Value) (tbl : Nat → Option Bool) : Prop where
  all : ∀ k D b, g.ca k = some D → tbl k = some b → ExcC g.K D ∧ PySem.W.kitOne g.K (.ref D) cv = some b
structure IsOwn (g : G0) (mg : Str → Option Value) (y : Str) (tbl : Nat → Option Bool) : Prop where
  ex : ∃ Y : Addr, mg y = some (.ref Y) ∧ IsY g (.ref Y) tbl
structure XfY (g : G0) (f : Str) : Prop where
  all : ∀ c C, g.ca c = some C → XfC g.K C ∧ PySem.W.findIn g.K (.ref C) f = some none
section
variable {X : Cx} {G : Gc} {Ex : WX} {a : Addr} {oe : Obj} {cls : Value} {d : Option Addr} {pn : List (Addr × Obj)} {pos p xp yp : Pos} {n f y : Str} {i : Nat} {tbl : Nat → Option Bool}
theorem x_fld (D : XfY G.toG0 f) (hK : X.K = G.K) (hz : Zc cls d oe) (hf : ∃ vs, oe.data = .fields vs) (hN : X.N[i]? = some n) (hv : Vis X.env.scope n) (hd : (n == ("__debug__" : Str)) = false := by rfl) (hcd : (n == ("__classdict__" : Str)) = false := by rfl)
    (hb : attributeBase (.Name n xp) f X.env (eval (.Name n xp) X.env) = eval (.Name n xp) X.env := by rfl) : PE (X.suite a ((a, oe) :: pn)) (.Attribute (.Name n xp) f pos) (tE (G.su a cls d) Ex (evXf i f)) := e_xf (fun c C h => by rw [hK]; exact D.all c C h) hz hf hN hv hd hcd hb
theorem x_isOwn (D : IsOwn G.toG0 X.mg y tbl) (hK : X.K = G.K) (hz : Zc cls d oe) (hf : ∃ vs, oe.data = .fields vs) (hm : X.mg "isinstance" = none) (hN : X.N[i]? = some n) (hv : Vis X.env.scope n) (hgy : Gl X y := by rfl) (hdy : (y == ("__debug__" : Str)) = false := by rfl) (hd : (n == ("__debug__" : Str)) = false := by rfl) (hcd : (n == ("__classdict__" : Str)) = false := by rfl) (hg : Gl X "isinstance" := by rfl)
    (hs : starEach [.Name n xp, .Name y yp] X.env = (false, eval (.Name n xp) X.env) :: starEach [.Name y yp] X.env := by rfl) (hs2 : starEach [.Name y yp] X.env = (false, eval (.Name y yp) X.env) :: starEach [] X.env := by rfl) (hpl : (backTo pos (starEach [.Name y yp] X.env)).any (·.1) = false := by rfl) :
    PE (X.suite a ((a, oe) :: pn)) (.Call (.Name "isinstance" p) [.Name n xp, .Name y yp] [] pos) (tE (G.su a cls d) Ex (evXis i tbl)) := by
  obtain ⟨Y, h1, h2⟩ := D.ex
  exact e_isE (c := .ref Y) (cv := .ref Y) (fun k D b h h' => by rw [hK]; exact h2.all k D b h h') hz hf hN hv hd hcd (fun _ r => r) (pe_glob (X := X.suite a ((a, oe) :: pn)) hgy h1 rfl hdy) hg hm hs hs2 hpl
theorem x_isBlt {t : String} (D : IsY G.toG0 (.type t) tbl) (hK : X.K = G.K) (hz : Zc cls d oe) (hf : ∃ vs, oe.data = .fields vs) (hm : X.mg "isinstance" = none) (hmy : X.mg y = none) (hby : bootBuiltins y = some (.type t)) (hN : X.N[i]? = some n) (hv : Vis X.env.scope n) (hgy : Gl X y := by rfl) (hny : y ≠ "__name__" := by decide) (hdy : (y == ("__debug__" : Str)) = false := by rfl) (hd : (n == ("__debug__" : Str)) = false := by rfl) (hcd : (n == ("__classdict__" : Str)) = false := by rfl) (hg : Gl X "isinstance" := by rfl)
    (hs : starEach [.Name n xp, .Name y yp] X.env = (false, eval (.Name n xp) X.env) :: starEach [.Name y yp] X.env := by rfl) (hs2 : starEach [.Name y yp] X.env = (false, eval (.Name y yp) X.env) :: starEach [] X.env := by rfl) (hpl : (backTo pos (starEach [.Name y yp] X.env)).any (·.1) = false := by rfl) :
    PE (X.suite a ((a, oe) :: pn)) (.Call (.Name "isinstance" p) [.Name n xp, .Name y yp] [] pos) (tE (G.su a cls d) Ex (evXis i tbl)) :=
  e_isE (c := .ty t) (cv := .type t) (fun k D' b h h' => by rw [hK]; exact D.all k D' b h h') hz hf hN hv hd hcd (fun _ r => r) (pe_bltn (X := X.suite a ((a, oe) :: pn)) hgy hmy hby rfl hny hdy) hg hm hs hs2 hpl
theorem x_try {x : Str} {body suite : List Stmt} {b₀ : Stmt} {np pos' : Pos} {rb rsu : EvS} {catches : Nat → Option Bool} (D : CatOwn G.toG0 X.mg x catches) (hK : X.K = G.K) (hN : X.N.Nodup) (hi : X.N[i]? = some n) (tk : Takes X Ex) (hb : ∀ (W : WX) (pn : List (Addr × Obj)) (xe : Value → Shared → Prop), Takes (X.tr pn xe) W → PassesOwn (model X.prog X.w) X.A X.env xe → PSs (X.tr pn xe) body (tS G W rb))
    (hsu : ∀ (a : Addr) (oe : Obj) (cls : Value) (d : Option Addr) (pn : List (Addr × Obj)), Zc cls d oe → (∃ vs, oe.data = .fields vs) → PSs (X.suite a ((a, oe) :: pn)) (b₀ :: suite) (tS (G.su a cls d) noX rsu)) (hs : X.stack = X.env :: X.outer := by rfl) (hf : X.env.frame = some X.env.locals := by rfl) (hln : X.env.kindOf n = some .local := by rfl) (hg : Gl X x := by rfl) (hd : (x == ("__debug__" : Str)) = false := by rfl) :
    PS X (.Try body [.ExceptHandler (some (.Name x np)) (some n) (b₀ :: suite) pos'] [] [] pos) (tS G Ex (evTry i catches rb rsu)) := by
  obtain ⟨Y, h1, h2⟩ := D.ex
  exact s_try hs hf hN hi hln ⟨hg, hd, .inl h1⟩ tk (fun c C b h h' => by rw [hK]; exact h2 c C b h h') hb hsu
end
end Pev

set_option Elab.async false
set_option linter.all false
set_option maxRecDepth 100000
set_option maxHeartbeats 4000000
namespace Pev
open PySem PySem.Spec L2
/-! ### a < b < c -/
def evChain (g g' : Pv → Pv → Option Pv) (ra rb rc : EvF) : EvF := fun env S => (ra env S).bind fun va S1 => (rb env S1).bind fun vb S2 => match g va vb with
  | some (.bl true) => (rc env S2).bind fun vc S3 => (match g' vb vc with | some v => .ok v S3 | none => .stuck)
  | some (.bl false) => .ok (.bl false) S2
  | _ => .stuck
section
variable {X : Cx} {G : Gc} {Ex : WX} {a b c : Expr} {ra rb rc : EvF} {pos : Pos} {op op' : CmpOp} {g g' : Pv → Pv → Option Pv}
theorem chain_read {σ : L2.St} {H : Hp} {Q : VK} (h : tE G Ex (evChain g g' ra rb rc) σ H Q) : tChain (rOp G g) (rOp G g') (tE G Ex ra) (tE G Ex rb) (tE G Ex rc) σ H Q := by
  obtain ⟨H0, W, S, env, A, o⟩ := h
  refine ⟨H0, W, S, env, A, o.bind fun va S1 W1 H1 x e1 w1 r1 o1 => ?_⟩
  refine ⟨H0, W1, S1, env, A.ext e1 w1, o1.bind fun vb S2 W2 H2 y e2 w2 r2 o2 => ?_⟩
  have A2 := (A.ext e1 w1).ext e2 w2
  split at o2
  · rename_i q
    refine ⟨W2, S2, va, vb, _, w2, r1.mono e2.le, r2, q, fun W3 H3 z e3 w3 r3 => ?_⟩
    cases r3
    refine ⟨true, rfl, ?_⟩
    rw [if_pos rfl]
    refine ⟨H0, W3, S2, env, A2.ext e3 w3, (Out.shift o2 e3).bind fun vc S4 W4 H4 u e4 w4 r4 o4 => ?_⟩
    cases q2 : g' vb vc with
    | none => rw [q2] at o4; exact o4.elim
    | some v => rw [q2] at o4; exact ⟨W4, S4, vb, vc, v, w4, r2.mono (e3.trans e4).le, r4, q2, fun W' H' z e w r => o4 W' H' z e w r⟩
  · rename_i q
    refine ⟨W2, S2, va, vb, _, w2, r1.mono e2.le, r2, q, fun W3 H3 z e3 w3 r3 => ?_⟩
    cases r3
    refine ⟨false, rfl, ?_⟩
    rw [if_neg Bool.false_ne_true]
    exact o2 W3 H3 _ e3 w3 (.bl false)
  · exact o2.elim
theorem e_chain (ho : OpR X (compareOp op) (rOp G g)) (ho' : OpR X (compareOp op') (rOp G g')) (ha : PE X a (tE G Ex ra)) (hb : PE X b (tE G Ex rb)) (hc : PE X c (tE G Ex rc)) (hm : lastMarks [op, op'] [b, c] = false := by with_unfolding_all rfl) :
    PE X (.Compare a [op, op'] [b, c] pos) (tE G Ex (evChain g g' ra rb rc)) := pe_imp (pe_chain ho ho' ha hb hc hm) fun _ _ _ h => chain_read h
/-- what gives truth values alone, as a test -/
theorem test_read {r : EvF} (hb : ∀ env S v S', r env S = .ok v S' → ∃ k, v = .bl k) {σ : L2.St} {H : Hp} {Q : Bool → Hp → Prop} (h : tT G Ex (evT r) σ H Q) : tE G Ex r σ H fun x H' => ∃ k, x = .bl k ∧ Q k H' := by
  obtain ⟨H0, W, S, env, A, o⟩ := h
  refine ⟨H0, W, S, env, A, ?_⟩
  unfold evT at o
  cases q : r env S with
  | stuck => rw [q] at o; exact o
  | exc _ _ _ => rw [q] at o; exact o
  | ok v S' =>
    rw [q] at o
    obtain ⟨k, rfl⟩ := hb env S v S' q
    intro W' H' x e w rv
    cases rv
    exact ⟨k, rfl, o W' H' k e w rfl⟩
theorem booly_chain (hg : Booly g') : ∀ env S v S', evChain g g' ra rb rc env S = .ok v S' → ∃ k, v = .bl k := by
  intro env S v S' h
  unfold evChain at h
  cases q1 : ra env S with
  | stuck => rw [q1] at h; cases h
  | exc _ _ _ => rw [q1] at h; cases h
  | ok va S1 =>
    rw [q1] at h
    simp only [Res.bind] at h
    cases q2 : rb env S1 with
    | stuck => rw [q2] at h; cases h
    | exc _ _ _ => rw [q2] at h; cases h
    | ok vb S2 =>
      rw [q2] at h
      simp only at h
      split at h
      · cases q3 : rc env S2 with
        | stuck => rw [q3] at h; cases h
        | exc _ _ _ => rw [q3] at h; cases h
        | ok vc S3 =>
          rw [q3] at h
          simp only at h
          cases q4 : g' vb vc with
          | none => rw [q4] at h; cases h
          | some z => rw [q4] at h; cases h; exact hg _ _ _ q4
      · cases h; exact ⟨false, rfl⟩
      · cases h
theorem t_chain (hg : Booly g') (ho : OpR X (compareOp op) (rOp G g)) (ho' : OpR X (compareOp op') (rOp G g')) (ha : PE X a (tE G Ex ra)) (hb : PE X b (tE G Ex rb)) (hc : PE X c (tE G Ex rc)) (hm : lastMarks [op, op'] [b, c] = false := by with_unfolding_all rfl) :
    PT X (.Compare a [op, op'] [b, c] pos) (tT G Ex (evT (evChain g g' ra rb rc))) := pt_imp (pt_chain ho ho' ha hb hc hm) fun _ _ _ h => chain_read (test_read (booly_chain hg) h)
/-! ### an int, a text of the module's top -/
structure ConI (mg : Str → Option Value) (x : Str) (i : Int) : Prop where
  ex : ∃ t : Tok, mg x = some (.int i t)
structure ConS (mg : Str → Option Value) (x : Str) (s : Str) : Prop where
  ex : ∃ t : Tok, mg x = some (.str s t)
theorem e_conI {x : Str} {i : Int} (h : ConI X.mg x i) (hg : Gl X x := by rfl) (hdb : (x == ("__debug__" : Str)) = false := by rfl) : PE X (.Name x pos) (tE G Ex (evCon (.int i))) := by
  obtain ⟨t, h1⟩ := h.ex
  exact e_con (pe_glob hg h1 (v := .int i) ⟨t, rfl⟩ hdb) fun W => .int i
theorem e_conS {x s : Str} (h : ConS X.mg x s) (hg : Gl X x := by rfl) (hdb : (x == ("__debug__" : Str)) = false := by rfl) : PE X (.Name x pos) (tE G Ex (evCon (.str s))) := by
  obtain ⟨t, h1⟩ := h.ex
  exact e_con (pe_glob hg h1 (v := .str s) ⟨t, rfl⟩ hdb) fun W => .str s
end
end Pev

set_option Elab.async false
set_option linter.all false
set_option maxRecDepth 100000
set_option maxHeartbeats 4000000
namespace Pev
open PySem PySem.Spec L2
section
variable {X : Cx} {G : Gc} {Ex : WX} {a b e : Expr} {ra rb : EvF} {ras : EvFs} {pos p1 p2 p3 p4 q1 q2 : Pos}
/-! ### repr of any data, as a value -/
def rReprV (K : PySem.W.Frag) : List V → Hp → VK → Prop := fun xs H Q => ∃ x d, xs = [x] ∧ Dp K H x d ∧ d.showable = true ∧ d.hasDict = false ∧ d.depth ≤ 40 ∧ d.shown.length ≤ sizeLine ∧ Q (.str d.shown) H
theorem c_reprV0 (hgd : X.A.guards = some []) (hu : X.A.units + 64 < cLine) : CallR X (.builtin "repr") (rReprV X.K) := by
  intro pins s σ H xs us Q I r h
  obtain ⟨x, d, rfl, hd, h1, h2, h3, h4, q⟩ := h
  obtain ⟨u, rfl, ru⟩ := r.one
  cases hd with
  | non => cases ru; exact PySem.P.repr_of_none ⟨.str _, H, I.tok _, ⟨_, rfl⟩, q⟩
  | bl b => cases ru; exact PySem.P.repr_of_bool ⟨.str _, H, I.tok _, ⟨_, rfl⟩, q⟩
  | int i =>
    obtain ⟨t, rfl⟩ := ru
    exact PySem.P.repr_of_int (by simpa only [PyData.showable, decide_eq_true_eq] using h1) ⟨.str _, H, I.tok _, ⟨_, rfl⟩, q⟩
  | str z =>
    obtain ⟨t, rfl⟩ := ru
    exact PySem.P.repr_of_str ⟨.str _, H, I.tok _, ⟨_, rfl⟩, q⟩ h4
  | lst hl hs =>
    exact c_repr hgd hu pins s σ H _ [u] Q I (.cons ru .nil) ⟨_, _, rfl, .lst hl hs, h1, h2, h3, h4, q⟩
  | tup hl hs =>
    exact c_repr hgd hu pins s σ H _ [u] Q I (.cons ru .nil) ⟨_, _, rfl, .tup hl hs, h1, h2, h3, h4, q⟩
def textAny (v : Pv) : Bool := Nat.ble (depP v) 40 && (match bulkP v with | some n => Nat.ble n 250000 | none => false)
def gRepr : List Pv → Option Pv
  | [v] => match textAny v with | true => (match toD v with | some d => some (.str d.shown) | none => none) | false => none
  | _ => none
theorem c_reprV (hK : X.K = G.K) (hgd : X.A.guards = some []) (hu : X.A.units + 64 < cLine) : CallR X (.builtin "repr") (rCall G gRepr) := by
  intro pins s σ H xs us Q I r h
  obtain ⟨W, S, vs, v, w, rv, hg, q⟩ := h
  unfold gRepr at hg
  split at hg
  · rename_i va
    obtain ⟨x, rfl, r1⟩ := rvs1 rv
    cases qt : textAny va with
    | false => rw [qt] at hg; cases hg
    | true =>
      rw [qt] at hg
      unfold textAny at qt
      obtain ⟨k1, k2⟩ := Bool.and_eq_true_iff.mp qt
      cases qb : bulkP va with
      | none => rw [qb] at k2; cases k2
      | some n =>
        rw [qb] at k2
        obtain ⟨d, b1, b2, b3, b4, b5, b6, b7⟩ := bulk_of qb
        rw [b1] at hg
        cases hg
        refine c_reprV0 hgd hu pins s σ H _ us Q I r ⟨x, d, rfl, by rw [hK]; exact dp_of w r1 b1, b4, b5, by rw [b6]; exact Nat.le_of_ble_eq_true k1, fits_bulk b3 (by rw [b2]; exact Nat.le_of_ble_eq_true k2), ?_⟩
        exact q W H _ (Ext.refl _ _) w (.str _)
  · cases hg
/-! ### min, max of two -/
def gMin2 : List Pv → Option Pv
  | [.int i, .int j] => some (.int (if j < i then j else i))
  | _ => none
def gMax2 : List Pv → Option Pv
  | [.int i, .int j] => some (.int (if j > i then j else i))
  | _ => none
theorem c_min2 (hc : X.calm = true) : CallR X (.builtin "min") (rCall G gMin2) := by
  intro pins s σ H xs us Q I r h
  obtain ⟨W, S, vs, v, w, rv, hg, q⟩ := h
  unfold gMin2 at hg
  split at hg
  · cases hg
    obtain ⟨x, y, rfl, r1, r2⟩ := rvs2 rv
    cases r1; cases r2
    exact call_min2 hc pins s σ H _ us Q I r ⟨_, _, rfl, q W H _ (Ext.refl _ _) w (.int _)⟩
  · cases hg
theorem c_max2 (hc : X.calm = true) : CallR X (.builtin "max") (rCall G gMax2) := by
  intro pins s σ H xs us Q I r h
  obtain ⟨W, S, vs, v, w, rv, hg, q⟩ := h
  unfold gMax2 at hg
  split at hg
  · cases hg
    obtain ⟨x, y, rfl, r1, r2⟩ := rvs2 rv
    cases r1; cases r2
    exact call_max2 hc pins s σ H _ us Q I r ⟨_, _, rfl, q W H _ (Ext.refl _ _) w (.int _)⟩
  · cases hg
/-! ### *e in displays -/
def evStar (ra : EvF) (ras : EvFs) : EvFs := fun env S => (ra env S).bind fun v S1 => match seqP v with | some xs => (ras env S1).bind fun vs S2 => .ok (xs ++ vs) S2 | none => .stuck
theorem a_star {es : List Expr} (hK : X.K = G.K) (ha : PE X e (tE G Ex ra)) (hs : PA X es (tA G Ex ras)) (hse : starEach (.Starred e p1 :: es) X.env = (true, eval e X.env) :: starEach es X.env := by rfl) : PA X (.Starred e p1 :: es) (tA G Ex (evStar ra ras)) := by
  refine pa_imp (StX.pa_star ha hs hse) fun σ H Q h => ?_
  obtain ⟨H0, W, S, env, A, o⟩ := h
  refine ⟨H0, W, S, env, A, o.bind fun v S1 W1 H1 x e1 w1 r1 o1 => ?_⟩
  cases qs : seqP v with
  | none => rw [qs] at o1; exact o1.elim
  | some ys =>
    rw [qs] at o1
    have key : ∃ p us, x = V.ref p ∧ (SqT X.K H1 p us ∨ SqL X.K H1 p us) ∧ RVs G W1 us ys := by
      rw [hK]
      unfold seqP at qs
      cases r1 with
      | tup h1 h2 => cases qs; exact ⟨_, _, rfl, .inl (sqT_of w1 h1), h2⟩
      | lst h1 h2 => cases qs; exact ⟨_, _, rfl, .inr (sqL_of w1 (.inl (.inl h1))), h2⟩
      | scr h1 h2 => cases qs; exact ⟨_, _, rfl, .inr (sqL_of w1 h1), h2⟩
      | _ => cases qs
    obtain ⟨p, us, rfl, hp, hu⟩ := key
    refine ⟨p, us, rfl, hp, H0, W1, S1, env, A.ext e1 w1, o1.bind fun vs S2 W2 H2 xs e2 w2 r2 o2 => ?_⟩
    exact o2 W2 H2 _ (Ext.refl _ _) w2 ((hu.mono e2.le).append r2)
end
end Pev

set_option Elab.async false
set_option linter.all false
set_option maxRecDepth 100000
set_option maxHeartbeats 4000000
namespace Pev
open PySem PySem.Spec L2
open PyProof.Rows (IsTup tail_any Subscript_ subscriptTail)
/-! ### x[::-1] -/
theorem applied_rev {prog : Program} {w : World} {A : Around} {E : Value → Shared → Prop} {s : Shared} {sl : Addr} {vk : Value} {n : Nat} {Q : Int × Int × Nat → Shared → Prop} (hs : s.heap.IsSliceOf sl .none .none vk) (pk : IsPart vk (some (-1)))
    (h : Q ((n : Int) - 1, -1, n) s) : wpAny (model prog w) A (Builtin.Slice.sliceApplied (.ref sl) (pure (n : Int))) Q E s := by
  obtain ⟨os, hos, hcs, hds⟩ := id hs
  unfold Builtin.Slice.sliceApplied Builtin.Slice.sliceFields
  refine wpAny_bind (wpAny_bind (wpAny_field hos hds (x := .none) rfl (wpAny_bind (wpAny_field hos hds (x := .none) rfl (wpAny_bind (wpAny_field hos hds (x := vk) rfl (wpAny_pure ?_)))))))
  refine wpAny_bind (HT.slicePart_ pk ?_)
  show wpAny _ _ (if ((-1 : Int) == 0) = true then _ else _) _ _ s
  rw [if_neg (by decide)]
  refine wpAny_bind (HT.slicePart_ .none (wpAny_bind (HT.slicePart_ .none (wpAny_bind (wpAny_pure ?_)))))
  show wpAny _ _ (match Builtin.Slice.sliceAdjust none none (-1) (n : Int) with | (lo, hi) => pure (lo, (-1 : Int), Builtin.Slice.slicePlaces lo hi (-1))) _ _ s
  have e1 : Builtin.Slice.sliceAdjust none none (-1) (n : Int) = ((n : Int) - 1, -1) := rfl
  rw [e1]
  show wpAny _ _ (pure ((n : Int) - 1, (-1 : Int), Builtin.Slice.slicePlaces ((n : Int) - 1) (-1) (-1))) _ _ s
  have e2 : Builtin.Slice.slicePlaces ((n : Int) - 1) (-1) (-1) = n := by
    unfold Builtin.Slice.slicePlaces
    have h1 : ¬ ((-1 : Int) > 0) := by omega
    simp only [h1, if_false]
    have h2 : (-(-1) : Int) = 1 := rfl
    rw [h2, Int.ediv_one]
    split <;> omega
  rw [e2]
  exact wpAny_pure h
theorem filterMap_cong {α β : Type} {f g : α → Option β} : ∀ {l : List α}, (∀ x ∈ l, f x = g x) → l.filterMap f = l.filterMap g
  | [], _ => rfl
  | x :: l, h => by rw [List.filterMap_cons, List.filterMap_cons, h x (List.mem_cons_self ..), filterMap_cong fun y hy => h y (List.mem_cons_of_mem _ hy)]
theorem pick_rev (xs : Array Value) : ((List.range xs.size).filterMap fun (m : Nat) => xs[((xs.size : Int) - 1 + (m : Int) * -1).toNat]?).toArray = xs.toList.reverse.toArray := by
  have e : ((List.range xs.size).filterMap fun (m : Nat) => xs[((xs.size : Int) - 1 + (m : Int) * -1).toNat]?) = ((List.range xs.size).map fun m => xs.size - 1 - m).filterMap (xs[·]?) := by
    rw [List.filterMap_map]
    refine filterMap_cong fun m hm => ?_
    have hm2 : m < xs.size := List.mem_range.mp hm
    show xs[((xs.size : Int) - 1 + (m : Int) * -1).toNat]? = xs[xs.size - 1 - m]?
    congr 1
    omega
  rw [e, PySem.W.krv_range, List.filterMap_reverse, PySem.W.krv_all]
theorem getItem_tuple_rev {prog : Program} {w : World} {A : Around} {E : Value → Shared → Prop} {s : Shared} {t sl : Addr} {items : Array Value} {vk : Value} {Q : Value → Shared → Prop} (ht : IsTup s.heap t items) (hs : s.heap.IsSliceOf sl .none .none vk) (pk : IsPart vk (some (-1)))
    (h : Q (.ref s.heap.objs.size) { s with heap := s.heap.push { cls := .type "tuple", data := .seq items.toList.reverse.toArray } })
    (hsz : items.size ≤ sizeLine) : wpAny (model prog w) A (getItem (.ref t) (.ref sl)) Q E s := by
  have htake : sizeOk (.seq items.toList.reverse.toArray) := by
    show items.toList.reverse.toArray.size ≤ sizeLine
    rw [List.size_toArray, List.length_reverse, Array.length_toList]
    exact hsz
  obtain ⟨os, hos, hcs, hds⟩ := id hs
  have hTs : s.TypeIs (.ref sl) "slice" := ⟨os, hos, hcs⟩
  unfold getItem
  try with_reducible refine wpAny_holding ?_
  first | refine wpAny_bind (wpAny_pure ?_) | skip
  refine wpAny_bind (wpAny_sequenceKey ht.typeIs (by decide) ?_)
  refine wpAny_bind (wpAny_callSpecial?_slot (name := Str.ofString "__getitem__") ht.typeIs PyProof.Rows.slot_tuple_getitem
    (wpAny_call_entry PyProof.Rows.slot_tuple_getitem ht.typeIs PyProof.Rows.entry_tuple_getitem ?_ (PyProof.Rows.args_tuple_getitem _ _)))
  show wpAny _ _ (Builtin.Tuple.tupleItemsOf (.ref t) >>= _) _ _ s
  refine wpAny_bind (PyProof.Rows.tupleItemsOf_ ht ?_)
  refine wpAny_bind (wpAny_typeOf hTs ?_)
  rw [if_pos (by decide)]
  refine wpAny_bind (applied_rev hs pk ?_)
  have hno : ¬ (((((items.size : Int) - 1 : Int)) == 0 && (-1 : Int) == 1 && items.size == items.size) = true) := by
    intro q
    rw [Bool.and_eq_true, Bool.and_eq_true] at q
    exact absurd q.1.2 (by decide)
  show wpAny _ _ (if ((((items.size : Int) - 1 : Int)) == 0 && (-1 : Int) == 1 && items.size == items.size) = true then _ else _) _ _ s
  rw [if_neg hno, pick_rev]
  first
    | exact wpAny_bind (m := Builtin.Tuple.tupleExact _) (wpAny_newObj_type (wpAny_pure ⟨_, rfl, wpAny_pure h⟩) htake)
    | exact wpAny_bind (m := Builtin.Tuple.tupleExact _) (wpAny_newObj_type (wpAny_bind (wpAny_pure (wpAny_pure ⟨_, rfl, wpAny_pure h⟩))) htake)
    | exact wpAny_bind (wpAny_bind (m := Builtin.Tuple.tupleExact _) (wpAny_newObj_type (wpAny_pure (wpAny_pure ⟨_, rfl, wpAny_pure h⟩)) htake))
    | exact wpAny_bind (wpAny_bind (m := Builtin.Tuple.tupleExact _) (wpAny_newObj_type (wpAny_pure ⟨_, rfl, wpAny_pure h⟩) htake))
section
variable {X : Cx} {G : Gc} {Ex : WX} {e st : Expr} {ra : EvF} {te : TE} {ts : TO} {pos p2 : Pos}
theorem vals_rev {xs : List V} {us : List Value} (r : Vals xs us) : Vals xs.reverse us.reverse := by
  induction r with
  | nil => exact .nil
  | cons r1 _ ih => rw [List.reverse_cons, List.reverse_cons]; exact ih.append (.cons r1 .nil)
theorem rvs_rev {g : G0} {W : Wd} {vs : List V} {xs : List Pv} (r : RVs g W vs xs) : RVs g W vs.reverse xs.reverse := by
  induction vs generalizing xs with
  | nil => cases r; exact .nil
  | cons v vs ih =>
    cases r with
    | cons r1 r2 => rw [List.reverse_cons, List.reverse_cons]; exact (ih r2).append (.cons r1 .nil)
/-- reading of x[::s] where s is -1 -/
def tRev (K : PySem.W.Frag) (te : TE) (ts : TO) : TE := fun σ H Q => te σ H fun x H1 => ts σ H1 fun o H2 => o = some (-1) ∧ ∃ a xs, x = V.ref a ∧
  ((SqT K H2 a xs ∧ ∀ (p : Addr) (o : Obj), H2 p = none → o.dict = none → Q (.ref p) (upd H2 p (.frz o (.tup xs.reverse)))) ∨ (SqL K H2 a xs ∧ ∀ p, H2 p = none → Q (.ref p) (upd H2 p (.lst xs.reverse))))
theorem pe_rev (he : PE X e te) (hs : PO X (some st) ts) : PE X (.Subscript e (.Slice none none (some st) p2) pos) (tRev X.K te ts) := by
  refine ⟨fun pins s σ H Q I h => ?_⟩
  refine Subscript_ (thn (he.run pins s σ H _ I h) fun v s1 ⟨x, H1, I1, r1, q1⟩ => ?_)
  refine wpAny_Slice ?_
  rw [evalPart_none]
  refine wpAny_pure ?_
  refine wpAny_pure (thn (hs.run pins s1 σ H1 _ I1 q1) fun vk s3 ⟨u, H3, I3, pk, q3⟩ => ?_)
  obtain ⟨rfl, a, xs, rfl, q⟩ := q3
  obtain rfl : v = Value.ref a := r1
  have I4 : Inv X pins σ H3 { s3 with heap := s3.heap.push { cls := .type "slice", data := .fields #[.none, .none, vk] } } := I3.kept (t' := s3.toks) fun b ob q => Heap.get?_push_of_some _ q
  have hsl : ({ s3 with heap := s3.heap.push { cls := .type "slice", data := .fields #[.none, .none, vk] } } : Shared).heap.IsSliceOf s3.heap.objs.size .none .none vk := Heap.IsSliceOf.new ..
  show wpAny (model X.prog X.w) X.A (subscriptTail e (.Slice none none (some st) p2) (.ref a) (.ref s3.heap.objs.size)) (EP X pins σ Q) X.xe { s3 with heap := s3.heap.push { cls := .type "slice", data := .fields #[.none, .none, vk] } }
  generalize hS : ({ s3 with heap := s3.heap.push { cls := .type "slice", data := .fields #[.none, .none, vk] } } : Shared) = S4 at I4 hsl ⊢
  rcases q with ⟨hx, q⟩ | ⟨hx, q⟩
  · obtain ⟨its, r, ht, hz⟩ := I4.tuple hx
    have hlen : its.toArray.size = xs.length := by rw [List.size_toArray]; exact r.length.symm
    refine tail_any (ops := [.ref a, .ref s3.heap.objs.size]) (T := "tuple") ht.typeIs PyProof.Rows.slot_tuple_getitem.lookup ?_ (by with_unfolding_all rfl)
    refine getItem_tuple_rev ht hsl pk ?_ (by rw [hlen]; exact hz)
    exact newTq I4 (by rw [List.length_reverse]; exact hz) (vals_rev r) q
  · obtain ⟨its, r, ht, hz⟩ := I4.list hx
    have hlen := r.length
    refine tail_any (ops := [.ref a, .ref s3.heap.objs.size]) (T := "list") ht.isList.typeIs PySem.F.slot_list_getitem.lookup ?_ (by with_unfolding_all rfl)
    refine wpAny_getItem_list_slice ht.isList hsl .none .none pk (by decide) ?_ (by rw [List.size_toArray] <;> omega)
    rw [PySem.W.krv_pick]
    refine ⟨.ref S4.heap.objs.size, _, I4.laid (t' := S4.toks) (o := .lst xs.reverse) (fun b ob q => Heap.get?_push_of_some _ q) (Nat.le_refl _) ?_, rfl, q _ (I4.hok.fresh (Nat.le_refl _))⟩
    exact ⟨by rw [List.length_reverse]; exact hz, _, 0, vals_rev r, Heap.get?_push_size _ rfl⟩
def revP : Pv → Option Pv
  | .tup xs => some (.tup xs.reverse)
  | .lst xs => some (.lst xs.reverse)
  | _ => none
def evRev (ra : EvF) : EvF := fun env S => (ra env S).bind fun v S1 => match revP v with | some z => .ok z S1 | none => .stuck
theorem e_rev {j : Nat} {p3 p4 : Pos} (hK : X.K = G.K) (ha : PE X e (tE G Ex ra)) : PE X (.Subscript e (.Slice none none (some (.UnaryOp .USub (.Constant (.int 1) j p3) p4)) p2) pos) (tE G Ex (evRev ra)) := by
  refine pe_imp (pe_rev ha (p_some (G := G) (Ex := Ex) (e_neg (e_con pe_int fun _ => .int 1)))) fun σ H Q h => ?_
  obtain ⟨H0, W, S, env, A, o⟩ := h
  refine ⟨H0, W, S, env, A, o.bind fun v S1 W1 H1 x e1 w1 r1 o1 => ?_⟩
  refine ⟨H0, W1, S1, env, A.ext e1 w1, ?_⟩
  show ∀ W' H' x_1, Ext W1 H1 W' H' → WOk G W' H' S1 → x_1 = some (-1) → _
  rintro W2 H2 _ e2 w2 rfl
  refine ⟨rfl, ?_⟩
  rw [hK]
  unfold revP at o1
  cases r1 with
  | tup h1 h2 =>
    refine ⟨_, _, rfl, .inl ⟨(sqT_of w2 (sqT_le e2.le.F h1)), fun p ob hp hd => ?_⟩⟩
    obtain ⟨w3, e3⟩ := w2.alloc (o := .frz ob (.tup _)) hp trivial
    exact o1 _ _ _ (e2.trans e3) w3 (.tup (.inl ⟨ob, upd_same, hd⟩) ((rvs_rev h2).mono (e2.le.trans e3.le)))
  | lst h1 h2 =>
    refine ⟨_, _, rfl, .inr ⟨(sqL_of w2 (.inl (.inl (e2.le.F _ _ h1)))), fun p hp => ?_⟩⟩
    obtain ⟨w3, e3⟩ := w2.alloc (o := .lst _) hp trivial
    exact o1 _ _ _ (e2.trans e3) w3 (.lst upd_same ((rvs_rev h2).mono (e2.le.trans e3.le)))
  | _ => exact o1.elim
end
end Pev

set_option Elab.async false
set_option linter.all false
set_option maxRecDepth 100000
set_option maxHeartbeats 4000000
namespace Pev
open PySem PySem.Spec L2
/-- a def that promises nothing (a recursion's last depth) -/
def cfStuck : CallF := fun _ _ => .stuck
theorem fn_stuck {P : Program} {w : World} {K : PySem.W.Frag} {mg : Str → Option Value} {base : Heap} {CX : CXT} {k : Nat} {f : Addr} {fd : FuncData} {ps : List Str} {g : G0} : FnG P w K mg base CX k f fd ps (spF g ps.length cfStuck) :=
  ⟨fun vs H Q E h => h.1, fun A outer s H args us vs Q E _ _ _ _ _ h => by
    obtain ⟨_, W, S, xs, _, _, o⟩ := h
    exact o.elim⟩
section
variable {X : Cx} {G : Gc} {Ex : WX} {a b c e : Expr} {ra rb rc : EvF} {rs rs1 rs2 ras : EvFs} {pos : Pos}
/-- own lists from a conditional expression -/
def evIfF (rc : EvF) (ra rb : EvFs) : EvFs := fun env S => (evT rc env S).bind fun k S1 => match k with | true => ra env S1 | false => rb env S1
theorem f_if (hc : PT X c (tT G Ex (evT rc))) (ha : PE X a (tF G Ex rs1)) (hb : PE X b (tF G Ex rs2)) : PE X (.IfExp c a b pos) (tF G Ex (evIfF rc rs1 rs2)) := by
  refine pe_imp (pe_ifExp hc ha hb) fun σ H Q h => ?_
  obtain ⟨H0, W, S, env, A, o⟩ := h
  refine ⟨H0, W, S, env, A, OutF.bind o fun k S1 W1 H1 x e1 w1 r1 o1 => ?_⟩
  subst r1
  cases x with
  | true => rw [if_pos rfl]; exact ⟨H0, W1, S1, env, A.ext e1 w1, o1⟩
  | false => rw [if_neg Bool.false_ne_true]; exact ⟨H0, W1, S1, env, A.ext e1 w1, o1⟩
end
end Pev

set_option Elab.async false
set_option linter.all false
set_option maxRecDepth 100000
set_option maxHeartbeats 4000000
namespace Pev
open PySem PySem.Spec L2
/-! ### small data: ints up to B, so many items and signs, so deep -/
mutual
def wt (B : Nat) : Pv → Option Nat
  | .non => some 0
  | .bl _ => some 0
  | .int i => match Nat.ble i.natAbs B with | true => some 0 | false => none
  | .str s => match s.cps.toList.all (fun c => Nat.blt c 1114112) with | true => some s.cps.size | false => none
  | .tup xs => wts B xs
  | .lst xs => wts B xs
  | _ => none
def wts (B : Nat) : List Pv → Option Nat
  | [] => some 0
  | x :: xs => match wt B x with | some m => (match wts B xs with | some n => some (m + 1 + n) | none => none) | none => none
end
mutual
theorem bulk_wt {B : Nat} (hB : B ≤ 10 ^ 61) : ∀ {v : Pv} {m : Nat}, wt B v = some m → bulkP v = some m
  | .non, _, h => by simp only [wt] at h; simp only [bulkP, h]
  | .bl _, _, h => by simp only [wt] at h; simp only [bulkP, h]
  | .int i, _, h => by
    simp only [wt] at h
    split at h
    · rename_i q
      cases h
      simp only [bulkP, Nat.ble_eq_true_of_le (Nat.le_trans (Nat.le_of_ble_eq_true q) hB)]
    · cases h
  | .str s, _, h => by
    simp only [wt] at h
    split at h
    · rename_i q
      cases h
      simp only [bulkP, q]
    · cases h
  | .tup xs, _, h => by simp only [wt] at h; simp only [bulkP]; exact bulks_wt hB h
  | .lst xs, _, h => by simp only [wt] at h; simp only [bulkP]; exact bulks_wt hB h
  | .fn _, _, h | .mref _, _, h | .scr _, _, h | .ty _, _, h => by simp [wt] at h
theorem bulks_wt {B : Nat} (hB : B ≤ 10 ^ 61) : ∀ {xs : List Pv} {m : Nat}, wts B xs = some m → bulkPs xs = some m
  | [], _, h => by simp only [wts] at h; simp only [bulkPs, h]
  | x :: xs, m, h => by
    simp only [wts] at h
    split at h
    · rename_i a ha
      split at h
      · rename_i b hb
        cases h
        simp only [bulkPs, bulk_wt hB ha, bulks_wt hB hb]
      · cases h
    · cases h
end
mutual
theorem wt_mono {B C : Nat} (hB : B ≤ C) : ∀ {v : Pv} {m : Nat}, wt B v = some m → wt C v = some m
  | .non, _, h => h
  | .bl _, _, h => h
  | .int i, _, h => by
    simp only [wt] at h
    split at h
    · rename_i q
      cases h
      simp only [wt, Nat.ble_eq_true_of_le (Nat.le_trans (Nat.le_of_ble_eq_true q) hB)]
    · cases h
  | .str s, _, h => h
  | .tup xs, _, h => by simp only [wt] at h ⊢; exact wts_mono hB h
  | .lst xs, _, h => by simp only [wt] at h ⊢; exact wts_mono hB h
  | .fn _, _, h | .mref _, _, h | .scr _, _, h | .ty _, _, h => by simp [wt] at h
theorem wts_mono {B C : Nat} (hB : B ≤ C) : ∀ {xs : List Pv} {m : Nat}, wts B xs = some m → wts C xs = some m
  | [], _, h => h
  | x :: xs, m, h => by
    simp only [wts] at h
    split at h
    · rename_i a ha
      split at h
      · rename_i b hb
        cases h
        simp only [wts, wt_mono hB ha, wts_mono hB hb]
      · cases h
    · cases h
end
/-- B: the ints; n: the weight; d: the depth -/
def Sm (B n d : Nat) (v : Pv) : Prop := (∃ m, wt B v = some m ∧ m ≤ n) ∧ depP v ≤ d
def Sms (B n d : Nat) (xs : List Pv) : Prop := (∃ m, wts B xs = some m ∧ m ≤ n) ∧ depPs xs ≤ d
section
variable {B C n m a b d e : Nat} {v x : Pv} {xs ys : List Pv}
theorem sm_tup : Sm B n (d + 1) (.tup xs) ↔ Sms B n d xs := by unfold Sm Sms; simp only [wt, depP, Nat.add_le_add_iff_right]
theorem sm_lst : Sm B n (d + 1) (.lst xs) ↔ Sms B n d xs := by unfold Sm Sms; simp only [wt, depP, Nat.add_le_add_iff_right]
theorem Sm.untup (h : Sm B n d (.tup xs)) : Sms B n (d - 1) xs ∧ 0 < d := by
  unfold Sm at h
  simp only [wt, depP] at h
  exact ⟨⟨h.1, by omega⟩, by omega⟩
theorem Sm.unlst (h : Sm B n d (.lst xs)) : Sms B n (d - 1) xs ∧ 0 < d := by
  unfold Sm at h
  simp only [wt, depP] at h
  exact ⟨⟨h.1, by omega⟩, by omega⟩
theorem Sm.le (h : Sm B n d v) (l : n ≤ m) (k : d ≤ e) (u : B ≤ C) : Sm C m e v := by obtain ⟨⟨k0, h1, h2⟩, h3⟩ := h; exact ⟨⟨k0, wt_mono u h1, Nat.le_trans h2 l⟩, Nat.le_trans h3 k⟩
theorem Sms.le (h : Sms B n d xs) (l : n ≤ m) (k : d ≤ e) (u : B ≤ C) : Sms C m e xs := by obtain ⟨⟨k0, h1, h2⟩, h3⟩ := h; exact ⟨⟨k0, wts_mono u h1, Nat.le_trans h2 l⟩, Nat.le_trans h3 k⟩
theorem sms_nil : Sms B n d [] := ⟨⟨0, rfl, Nat.zero_le _⟩, by simp [depPs]⟩
theorem sms_cons (h1 : Sm B a d x) (h2 : Sms B b d xs) : Sms B (a + 1 + b) d (x :: xs) := by
  obtain ⟨⟨p, p1, p2⟩, p3⟩ := h1
  obtain ⟨⟨q, q1, q2⟩, q3⟩ := h2
  refine ⟨⟨p + 1 + q, ?_, by omega⟩, ?_⟩
  · simp only [wts, p1, q1]
  · simp only [depPs]; exact Nat.max_le.mpr ⟨p3, q3⟩
theorem sms_uncons (h : Sms B n d (x :: xs)) : ∃ a b, Sm B a d x ∧ Sms B b d xs ∧ a + 1 + b ≤ n := by
  obtain ⟨⟨k, h1, h2⟩, h3⟩ := h
  simp only [depPs] at h3
  obtain ⟨h3, h4⟩ := Nat.max_le.mp h3
  simp only [wts] at h1
  cases p : wt B x with
  | none => rw [p] at h1; cases h1
  | some a =>
    cases q : wts B xs with
    | none => rw [p, q] at h1; cases h1
    | some b =>
      rw [p, q] at h1
      cases h1
      exact ⟨a, b, ⟨⟨a, p, Nat.le_refl _⟩, h3⟩, ⟨⟨b, q, Nat.le_refl _⟩, h4⟩, h2⟩
theorem Sms.mem : ∀ {xs : List Pv} {n : Nat}, Sms B n d xs → ∀ x ∈ xs, Sm B n d x
  | [], _, _, x, h => by cases h
  | y :: ys, n, h, x, hx => by
    obtain ⟨a, b, h1, h2, h3⟩ := sms_uncons h
    rcases List.mem_cons.mp hx with rfl | hx
    · exact h1.le (by omega) (Nat.le_refl _) (Nat.le_refl _)
    · exact (h2.mem x hx).le (by omega) (Nat.le_refl _) (Nat.le_refl _)
theorem Sms.len : ∀ {xs : List Pv} {n : Nat}, Sms B n d xs → xs.length ≤ n
  | [], _, _ => Nat.zero_le _
  | y :: ys, n, h => by
    obtain ⟨a, b, h1, h2, h3⟩ := sms_uncons h
    have := h2.len
    simp only [List.length_cons]
    omega
theorem sms_app : ∀ {xs ys : List Pv} {a b : Nat}, Sms B a d xs → Sms B b d ys → Sms B (a + b) d (xs ++ ys)
  | [], ys, a, b, _, h2 => h2.le (by omega) (Nat.le_refl _) (Nat.le_refl _)
  | x :: xs, ys, a, b, h1, h2 => by
    obtain ⟨p, q, k1, k2, k3⟩ := sms_uncons h1
    exact (sms_cons k1 (sms_app k2 h2)).le (by omega) (Nat.le_refl _) (Nat.le_refl _)
/-- a list in two parts -/
theorem sms_unapp : ∀ {xs ys : List Pv} {n : Nat}, Sms B n d (xs ++ ys) → ∃ a b, Sms B a d xs ∧ Sms B b d ys ∧ a + b ≤ n
  | [], ys, n, h => ⟨0, n, sms_nil, h, by omega⟩
  | x :: xs, ys, n, h => by
    obtain ⟨p, q, k1, k2, k3⟩ := sms_uncons h
    obtain ⟨a, b, h1, h2, h3⟩ := sms_unapp k2
    exact ⟨p + 1 + a, b, sms_cons k1 h1, h2, by omega⟩
theorem Sms.rev : ∀ {xs : List Pv} {n : Nat}, Sms B n d xs → Sms B n d xs.reverse
  | [], _, h => h
  | x :: xs, n, h => by
    obtain ⟨a, b, h1, h2, h3⟩ := sms_uncons h
    rw [List.reverse_cons]
    exact (sms_app h2.rev (sms_cons h1 (sms_nil (n := 0)))).le (by omega) (Nat.le_refl _) (Nat.le_refl _)
theorem sms_of : ∀ {xs : List Pv} {k : Nat}, (∀ x ∈ xs, Sm B k d x) → Sms B (xs.length * (k + 1)) d xs
  | [], _, _ => sms_nil
  | x :: xs, k, h => by
    refine (sms_cons (h x (List.mem_cons_self ..)) (sms_of fun y hy => h y (List.mem_cons_of_mem _ hy))).le ?_ (Nat.le_refl _) (Nat.le_refl _)
    simp only [List.length_cons, Nat.succ_mul]
    omega
theorem sm_non : Sm B n d .non := ⟨⟨0, rfl, Nat.zero_le _⟩, Nat.zero_le _⟩
theorem sm_bl {k : Bool} : Sm B n d (.bl k) := ⟨⟨0, rfl, Nat.zero_le _⟩, Nat.zero_le _⟩
theorem sm_int {i : Int} (h : i.natAbs ≤ B) : Sm B n d (.int i) := ⟨⟨0, by simp only [wt, Nat.ble_eq_true_of_le h], Nat.zero_le _⟩, Nat.zero_le _⟩
theorem Sm.int_le {i : Int} (h : Sm B n d (.int i)) : i.natAbs ≤ B := by
  obtain ⟨⟨k, h1, _⟩, _⟩ := h
  simp only [wt] at h1
  split at h1
  · rename_i q; exact Nat.le_of_ble_eq_true q
  · cases h1
theorem sm_ints {ds : List Int} (h : ∀ d ∈ ds, d.natAbs ≤ B) : Sms B ds.length d (ds.map Pv.int) := by
  have := sms_of (B := B) (d := d) (xs := ds.map Pv.int) (k := 0) (fun x hx => by
    obtain ⟨d, hd, rfl⟩ := List.mem_map.mp hx
    exact sm_int (h d hd))
  rwa [List.length_map, Nat.mul_one] at this
/-- what the checks of the evaluator ask of small data -/
theorem Sm.text (h : Sm B n d v) (hB : B ≤ 10 ^ 61) (hn : n ≤ 250000) (hd : d ≤ 40) : textAny v = true := by
  obtain ⟨⟨k, h1, h2⟩, h3⟩ := h
  unfold textAny
  rw [bulk_wt hB h1, Nat.ble_eq_true_of_le (Nat.le_trans h3 hd)]
  exact Nat.ble_eq_true_of_le (Nat.le_trans h2 hn)
theorem Sm.toD (h : Sm B n d v) (hB : B ≤ 10 ^ 61) : ∃ z, Pev.toD v = some z ∧ z.depth ≤ d ∧ z.canLay0 = true := by
  obtain ⟨⟨k, h1, h2⟩, h3⟩ := h
  obtain ⟨z, a1, a2, a3, a4, a5, a6, a7⟩ := bulk_of (bulk_wt hB h1)
  exact ⟨z, a1, by rw [a6]; exact h3, a7⟩
theorem Sms.toDs (h : Sms B n d xs) (hB : B ≤ 10 ^ 61) : ∃ z, Pev.toDs xs = some z ∧ PyData.depthAll z ≤ d ∧ PyData.canLayAll0 z = true := by
  obtain ⟨⟨k, h1, h2⟩, h3⟩ := h
  obtain ⟨z, a1, a2, a3, a4, a5, a6, a7⟩ := bulks_of (bulks_wt hB h1)
  exact ⟨z, a1, by rw [a6]; exact h3, a7⟩
theorem toDs_nil (z : List PyData) (h : Pev.toDs xs = some z) : z.isEmpty = xs.isEmpty := by
  cases xs with
  | nil => simp only [Pev.toDs] at h; cases h; rfl
  | cons x xs =>
    simp only [Pev.toDs] at h
    split at h
    · cases h; rfl
    · cases h
theorem eqv_nil (z : List PyData) : PyData.eqvAll z [] = z.isEmpty := by
  cases z <;> simp [PyData.eqvAll]
theorem eq_nil_l (h : Sms B n d xs) (hB : B ≤ 10 ^ 61) (hd : d ≤ 40) : eqD (.lst xs) (.lst []) = some xs.isEmpty := by
  obtain ⟨z, h1, h2, h3⟩ := h.toDs hB
  have h4 : SeqAt.shaped (.list z) = true := by
    unfold SeqAt.shaped
    rw [show PyData.canLay0 (.list z) = true by simp only [PyData.canLay0]; exact h3, Bool.true_and]
    refine decide_eq_true ?_
    simp only [PyData.depth]
    omega
  unfold eqD
  simp only [Pev.toD, h1, Pev.toDs, h4]
  have h5 : SeqAt.shaped (.list []) = true := by rfl
  rw [h5]
  simp only [Bool.and_self, PyData.eqv, eqv_nil, toDs_nil z h1]
theorem eq_nil_t (h : Sms B n d xs) (hB : B ≤ 10 ^ 61) (hd : d ≤ 40) : eqD (.tup xs) (.tup []) = some xs.isEmpty := by
  obtain ⟨z, h1, h2, h3⟩ := h.toDs hB
  have h4 : SeqAt.shaped (.tuple z) = true := by
    unfold SeqAt.shaped
    rw [show PyData.canLay0 (.tuple z) = true by simp only [PyData.canLay0]; exact h3, Bool.true_and]
    refine decide_eq_true ?_
    simp only [PyData.depth]
    omega
  unfold eqD
  simp only [Pev.toD, h1, Pev.toDs, h4]
  have h5 : SeqAt.shaped (.tuple []) = true := by rfl
  rw [h5]
  simp only [Bool.and_self, PyData.eqv, eqv_nil, toDs_nil z h1]
theorem cEq_nil_l (h : Sms B n d xs) (hB : B ≤ 10 ^ 61) (hd : d ≤ 40) : cEq (.lst xs) (.lst []) = some (.bl xs.isEmpty) := by
  unfold cEq; rw [eq_nil_l h hB hd]; rfl
theorem cNe_nil_l (h : Sms B n d xs) (hB : B ≤ 10 ^ 61) (hd : d ≤ 40) : cNe (.lst xs) (.lst []) = some (.bl (!xs.isEmpty)) := by
  unfold cNe; rw [eq_nil_l h hB hd]; rfl
theorem cEq_nil_t (h : Sms B n d xs) (hB : B ≤ 10 ^ 61) (hd : d ≤ 40) : cEq (.tup xs) (.tup []) = some (.bl xs.isEmpty) := by
  unfold cEq; rw [eq_nil_t h hB hd]; rfl
end
mutual
theorem sameP_self {B : Nat} : ∀ {v : Pv} {m : Nat}, wt B v = some m → sameP v v = true
  | .non, _, _ => rfl
  | .bl _, _, _ => by simp [sameP]
  | .int i, _, h => by simp [sameP]
  | .str s, _, h => by simp [sameP]
  | .tup xs, _, h => by simp only [wt] at h; simp only [sameP]; exact samePs_self h
  | .lst xs, _, h => by simp only [wt] at h; simp only [sameP]; exact samePs_self h
  | .fn _, _, h | .mref _, _, h | .scr _, _, h | .ty _, _, h => by simp [wt] at h
theorem samePs_self {B : Nat} : ∀ {xs : List Pv} {m : Nat}, wts B xs = some m → samePs xs xs = true
  | [], _, h => rfl
  | x :: xs, m, h => by
    simp only [wts] at h
    split at h
    · rename_i a ha
      split at h
      · rename_i b hb
        cases h
        simp only [samePs, sameP_self ha, samePs_self hb]
      · cases h
    · cases h
end
theorem pin_un : Slot.un.pinned = false := rfl
theorem pin_val {v : Pv} : (Slot.val v).pinned = false := rfl
theorem pin_own {xs : List Pv} : (Slot.own xs).pinned = false := rfl
theorem pin_exc {c : Nat} {fs : Ent} : (Slot.exc c fs).pinned = true := rfl
theorem pin_thk : Slot.thk.pinned = true := rfl
/-! ### comprehensions -/
section
variable {t : Tg} {rt : List Slot → Sto → Res Bool} {re : EvF} {env0 : List Slot} {S : Sto}
theorem comp_sel (p : Pv → Bool) (f : Pv → Pv) : ∀ {xs : List Pv}, (∀ x ∈ xs, ∃ env, bindT t x env0 = some env ∧ rt env S = .ok (p x) S ∧ (p x = true → re env S = .ok (f x) S)) → compGo t rt re env0 xs S = .ok ((xs.filter p).map f) S
  | [], _ => rfl
  | x :: xs, h => by
    obtain ⟨env, h1, h2, h3⟩ := h x (List.mem_cons_self ..)
    have ih := comp_sel p f (xs := xs) fun y hy => h y (List.mem_cons_of_mem _ hy)
    unfold compGo
    rw [h1]
    cases q : p x with
    | true => simp only [h2, q, h3 q, ih, List.filter_cons_of_pos, List.map_cons]
    | false =>
      rw [List.filter_cons_of_neg (by rw [q]; exact Bool.false_ne_true)]
      simp only [h2, q, ih]
theorem comp_map (f : Pv → Pv) {xs : List Pv} (h : ∀ x ∈ xs, ∃ env, bindT t x env0 = some env ∧ re env S = .ok (f x) S) : compGo t evYes re env0 xs S = .ok (xs.map f) S := by
  have := comp_sel (t := t) (rt := evYes) (re := re) (env0 := env0) (S := S) (fun _ => true) f (xs := xs) fun x hx => by
    obtain ⟨env, h1, h2⟩ := h x hx
    exact ⟨env, h1, rfl, fun _ => h2⟩
  rw [this]
  congr 1
  rw [List.filter_eq_self.mpr fun _ _ => rfl]
/-- with a store that changes: a property of the items, an invariant of the store -/
theorem comp_draw {P : Pv → Prop} {I : Sto → Prop} : ∀ {xs : List Pv} {S : Sto}, I S → (∀ x ∈ xs, ∀ S, I S → ∃ env, bindT t x env0 = some env ∧ ∃ k S1, rt env S = .ok k S1 ∧ I S1 ∧ (k = true → ∃ v S2, re env S1 = .ok v S2 ∧ I S2 ∧ P v)) → ∃ vs S', compGo t rt re env0 xs S = .ok vs S' ∧ I S' ∧ vs.length ≤ xs.length ∧ ∀ v ∈ vs, P v
  | [], S, hI, _ => ⟨[], S, rfl, hI, Nat.le_refl _, by simp⟩
  | x :: xs, S, hI, h => by
    obtain ⟨env, h1, k, S1, h2, h3, h4⟩ := h x (List.mem_cons_self ..) S hI
    unfold compGo
    rw [h1]
    cases k with
    | true =>
      obtain ⟨v, S2, h5, h6, h7⟩ := h4 rfl
      obtain ⟨vs, S3, h8, h9, h10, h11⟩ := comp_draw (xs := xs) h6 fun y hy => h y (List.mem_cons_of_mem _ hy)
      refine ⟨v :: vs, S3, by simp only [h2, h5, h8], h9, by simp only [List.length_cons]; omega, fun u hu => ?_⟩
      rcases List.mem_cons.mp hu with rfl | hu
      · exact h7
      · exact h11 u hu
    | false =>
      obtain ⟨vs, S3, h8, h9, h10, h11⟩ := comp_draw (xs := xs) h3 fun y hy => h y (List.mem_cons_of_mem _ hy)
      exact ⟨vs, S3, by simp only [h2, h8], h9, by simp only [List.length_cons]; omega, h11⟩
/-- all items are taken -/
theorem comp_all {P : Pv → Prop} {I : Sto → Prop} : ∀ {xs : List Pv} {S : Sto}, I S → (∀ x ∈ xs, ∀ S, I S → ∃ env, bindT t x env0 = some env ∧ ∃ v S2, re env S = .ok v S2 ∧ I S2 ∧ P v) → ∃ vs S', compGo t evYes re env0 xs S = .ok vs S' ∧ I S' ∧ vs.length = xs.length ∧ ∀ v ∈ vs, P v
  | [], S, hI, _ => ⟨[], S, rfl, hI, rfl, by simp⟩
  | x :: xs, S, hI, h => by
    obtain ⟨env, h1, v, S2, h5, h6, h7⟩ := h x (List.mem_cons_self ..) S hI
    obtain ⟨vs, S3, h8, h9, h10, h11⟩ := comp_all (xs := xs) h6 fun y hy => h y (List.mem_cons_of_mem _ hy)
    unfold compGo
    rw [h1]
    refine ⟨v :: vs, S3, by simp only [evYes, h5, h8], h9, by simp only [List.length_cons, h10], fun u hu => ?_⟩
    rcases List.mem_cons.mp hu with rfl | hu
    · exact h7
    · exact h11 u hu
/-- a for loop with an invariant, its body goes on -/
theorem for_inv {rb : EvS} {I : List Slot → Sto → Prop} : ∀ {xs : List Pv} {env : List Slot} {S : Sto}, I env S → (∀ x ∈ xs, ∀ env S, I env S → ∃ env1, bindT t x env = some env1 ∧ ∃ env2 S2, rb env1 S = .nx env2 S2 ∧ I env2 S2) → ∃ env' S', forGo t rb xs env S = .nx env' S' ∧ I env' S'
  | [], env, S, hI, _ => ⟨env, S, rfl, hI⟩
  | x :: xs, env, S, hI, h => by
    obtain ⟨env1, h1, env2, S2, h2, h3⟩ := h x (List.mem_cons_self ..) env S hI
    obtain ⟨env', S', h4, h5⟩ := for_inv (xs := xs) h3 fun y hy => h y (List.mem_cons_of_mem _ hy)
    exact ⟨env', S', by unfold forGo; simp only [h1, h2, h4], h5⟩
end
/-! ### pieces that many laws have -/
def isI : Pv → Bool
  | .int _ => true
  | _ => false
def isN : Pv → Bool
  | .int i => decide (0 ≤ i)
  | _ => false
def isDg (p : Int) : Pv → Bool
  | .int i => decide (0 ≤ i) && decide (i < p)
  | _ => false
def isT : Pv → Bool
  | .tup _ => true
  | _ => false
theorem bools_bl : ∀ (xs : List Pv) (f : Pv → Bool), bools (xs.map fun x => Pv.bl (f x)) = some (xs.map f)
  | [], _ => rfl
  | x :: xs, f => by simp only [List.map_cons, bools, bools_bl xs f]
theorem eq_int {i j : Int} : cEq (.int i) (.int j) = some (.bl (i == j)) := rfl
theorem ne_int {i j : Int} : cNe (.int i) (.int j) = some (.bl (!(i == j))) := rfl
theorem eq_str {a b : Str} : cEq (.str a) (.str b) = some (.bl (decide (a = b))) := rfl
def isIB : Pv → Bool
  | .int _ => true
  | .bl _ => true
  | _ => false
def isBl : Pv → Bool
  | .bl _ => true
  | _ => false
def isLs : Pv → Bool
  | .lst _ => true
  | _ => false
theorem isi_tuple {B n d : Nat} {v : Pv} (hv : Sm B n d v) : gIsi [v, .ty "tuple"] = some (.bl (isT v)) := by
  cases v <;> first | rfl | (obtain ⟨⟨m, h, _⟩, _⟩ := hv; cases h)
theorem isi_int {B n d : Nat} {v : Pv} (hv : Sm B n d v) : gIsi [v, .ty "int"] = some (.bl (isIB v)) := by
  cases v <;> first | rfl | (obtain ⟨⟨m, h, _⟩, _⟩ := hv; cases h)
theorem isi_bool {B n d : Nat} {v : Pv} (hv : Sm B n d v) : gIsi [v, .ty "bool"] = some (.bl (isBl v)) := by
  cases v <;> first | rfl | (obtain ⟨⟨m, h, _⟩, _⟩ := hv; cases h)
theorem isi_list {B n d : Nat} {v : Pv} (hv : Sm B n d v) : gIsi [v, .ty "list"] = some (.bl (isLs v)) := by
  cases v <;> first | rfl | (obtain ⟨⟨m, h, _⟩, _⟩ := hv; cases h)
def isL (k : Int) : Pv → Bool
  | .tup xs => ((xs.length : Int) == k)
  | _ => false
def isW (p w : Int) : Pv → Bool
  | .tup xs => ((xs.length : Int) == w) && xs.all (isDg p)
  | _ => false
theorem ble_cap {k : Nat} (h : k ≤ 1000000) : Nat.ble k capLen = true := Nat.ble_eq_true_of_le h
theorem Sms.cap {B n d : Nat} {xs : List Pv} (h : Sms B n d xs) (hn : n ≤ 250000) : Nat.ble xs.length capLen = true := ble_cap (by have := h.len; omega)
theorem all_bl (xs : List Pv) (f : Pv → Bool) : gAll [.lst (xs.map fun x => Pv.bl (f x))] = some (.bl (xs.all f)) := by
  simp only [gAll, bools_bl, List.all_map]
  rfl
/-- the ints of a tuple -/
def dgs : Pv → List Int
  | .tup xs => xs.filterMap fun x => match x with | .int i => some i | _ => none
  | _ => []
theorem dgs_ints : ∀ ds : List Int, dgs (.tup (ds.map Pv.int)) = ds
  | [] => rfl
  | d :: ds => by
    have ih := dgs_ints ds
    simp only [dgs] at ih ⊢
    simp only [List.map_cons, List.filterMap_cons, ih]
theorem isW_ex {p w : Int} {v : Pv} (h : isW p w v = true) : ∃ ds : List Int, v = .tup (ds.map Pv.int) ∧ (ds.length : Int) = w ∧ ∀ d ∈ ds, 0 ≤ d ∧ d < p := by
  unfold isW at h
  split at h
  · rename_i xs
    obtain ⟨h1, h2⟩ := Bool.and_eq_true_iff.mp h
    have key : ∀ xs : List Pv, xs.all (isDg p) = true → ∃ ds : List Int, xs = ds.map Pv.int ∧ ∀ d ∈ ds, 0 ≤ d ∧ d < p := by
      intro xs
      induction xs with
      | nil => exact fun _ => ⟨[], rfl, by simp⟩
      | cons x xs ih =>
        intro hx
        rw [List.all_cons, Bool.and_eq_true] at hx
        obtain ⟨ds, rfl, hd⟩ := ih hx.2
        have h0 := hx.1
        unfold isDg at h0
        split at h0
        · rename_i i
          simp only [Bool.and_eq_true, decide_eq_true_eq] at h0
          refine ⟨i :: ds, rfl, fun d hd' => ?_⟩
          rcases List.mem_cons.mp hd' with rfl | hd'
          · exact h0
          · exact hd d hd'
        · cases h0
    obtain ⟨ds, rfl, hd⟩ := key xs h2
    exact ⟨ds, rfl, by rw [List.length_map] at h1; exact eq_of_beq h1, hd⟩
  · cases h
/-- where the first one stands that is not 0 -/
def fz : Nat → List Int → Option Nat
  | _, [] => none
  | k, d :: ds => match d == 0 with | true => fz (k + 1) ds | false => some k
def natV : Option Nat → Pv
  | some k => .int (k : Int)
  | none => .non
theorem sms_filter {B d : Nat} {p : Pv → Bool} : ∀ {xs : List Pv} {n : Nat}, Sms B n d xs → Sms B n d (xs.filter p)
  | [], _, h => h
  | x :: xs, n, h => by
    obtain ⟨a, b, h1, h2, h3⟩ := sms_uncons h
    have ih := sms_filter (p := p) h2
    cases q : p x with
    | true => rw [List.filter_cons_of_pos q]; exact (sms_cons h1 ih).le h3 (Nat.le_refl _) (Nat.le_refl _)
    | false => rw [List.filter_cons_of_neg (by rw [q]; exact Bool.false_ne_true)]; exact ih.le (by omega) (Nat.le_refl _) (Nat.le_refl _)
/-- the numbers from k on -/
def ixs : Nat → Nat → List Pv
  | _, 0 => []
  | k, m + 1 => .int (k : Int) :: ixs (k + 1) m
theorem ixs_range : ∀ (k m : Nat), ixs k m = (List.range' k m).map fun i : Nat => Pv.int (i : Int)
  | _, 0 => rfl
  | k, m + 1 => by rw [List.range'_succ, List.map_cons, ← ixs_range (k + 1) m]; rfl
theorem rgP_ixs (n : Nat) : rgP 0 n = ixs 0 n := by
  unfold rgP
  rw [ixs_range, List.range_eq_range']
  refine List.map_congr_left fun i _ => ?_
  rw [Int.zero_add]
theorem ixs_len : ∀ (k m : Nat), (ixs k m).length = m
  | _, 0 => rfl
  | k, m + 1 => by simp only [ixs, List.length_cons, ixs_len (k + 1) m]
theorem ixs_mem : ∀ {k m : Nat} {x : Pv}, x ∈ ixs k m → ∃ i : Nat, k ≤ i ∧ i < k + m ∧ x = .int (i : Int)
  | _, 0, _, h => by cases h
  | k, m + 1, x, h => by
    rcases List.mem_cons.mp h with rfl | h
    · exact ⟨k, Nat.le_refl _, by omega, rfl⟩
    · obtain ⟨i, h1, h2, h3⟩ := ixs_mem h
      exact ⟨i, by omega, by omega, h3⟩
theorem rg1_len {n : Nat} (h : n ≤ 250000) : rg1 [.int (n : Int)] = some (ixs 0 n) := by
  unfold rg1
  simp only [Int.toNat_natCast, Int.natAbs_natCast, ble_cap (show n ≤ 1000000 by omega), Bool.and_self, rgP_ixs]
theorem ixs_cap {k m : Nat} (h : m ≤ 250000) : Nat.ble (ixs k m).length capLen = true := ble_cap (by rw [ixs_len]; omega)
theorem ix_t {xs : List Pv} {k : Nat} {v : Pv} (h : xs[k]? = some v) : ixP (.tup xs) (.int (k : Int)) = some v := atI_nat h
theorem ix_l {xs : List Pv} {k : Nat} {v : Pv} (h : xs[k]? = some v) : ixP (.lst xs) (.int (k : Int)) = some v := atI_nat h
theorem cap0 : Nat.ble 0 capLen = true := by rfl
theorem cap1 : Nat.ble 1 capLen = true := by rfl
theorem cap2 : Nat.ble 2 capLen = true := by rfl
theorem cap3 : Nat.ble 3 capLen = true := by rfl
theorem cap4 : Nat.ble 4 capLen = true := by rfl
theorem cap5 : Nat.ble 5 capLen = true := by rfl
theorem cap6 : Nat.ble 6 capLen = true := by rfl
theorem cap7 : Nat.ble 7 capLen = true := by rfl
theorem cap8 : Nat.ble 8 capLen = true := by rfl
theorem cap9 : Nat.ble 9 capLen = true := by rfl
theorem cap10 : Nat.ble 10 capLen = true := by rfl
theorem cap11 : Nat.ble 11 capLen = true := by rfl
theorem cap12 : Nat.ble 12 capLen = true := by rfl
theorem cap13 : Nat.ble 13 capLen = true := by rfl
theorem cap14 : Nat.ble 14 capLen = true := by rfl
theorem cap15 : Nat.ble 15 capLen = true := by rfl
theorem cap16 : Nat.ble 16 capLen = true := by rfl
theorem cap17 : Nat.ble 17 capLen = true := by rfl
theorem cap18 : Nat.ble 18 capLen = true := by rfl
theorem cap19 : Nat.ble 19 capLen = true := by rfl
theorem cap20 : Nat.ble 20 capLen = true := by rfl
theorem cap21 : Nat.ble 21 capLen = true := by rfl
theorem cap22 : Nat.ble 22 capLen = true := by rfl
theorem cap23 : Nat.ble 23 capLen = true := by rfl
theorem cap24 : Nat.ble 24 capLen = true := by rfl
end Pev

set_option Elab.async false
set_option linter.all false
set_option maxRecDepth 100000
set_option maxHeartbeats 4000000
namespace Pev
open PySem PySem.Spec L2
open PyProof.Rows (IsTup firstMet firstMet_zero firstMet_succ firstMet_length_le firstMet_any step_dedup step_any step_length)
/-! ### set(t), t a tuple of ints: what is met first, each once -/
def metB (val : Nat → Int) (i : Nat) : Int → Bool := fun z => (firstMet val i).any (· == z)
theorem met_step {w : World} {h : Heap} {D : Addr} {val : Nat → Int} {i : Nat} (r : SetR w h D (fun j => metB val i j || decide (j = val i)) (if metB val i (val i) = true then (firstMet val i).length else (firstMet val i).length + 1)) : SetR w h D (metB val (i + 1)) (firstMet val (i + 1)).length := by
  have e1 : metB val (i + 1) = fun j => metB val i j || decide (j = val i) := by
    funext j
    unfold metB
    rw [firstMet_succ, step_any]
  have e2 : (firstMet val (i + 1)).length = if metB val i (val i) = true then (firstMet val i).length else (firstMet val i).length + 1 := by
    rw [firstMet_succ, step_length]
    rfl
  rw [e1, e2]
  exact r
theorem upd_loop {prog : Program} {w : World} {A : Around} {R : Result → Shared → Prop} {I : Addr} {fp wr : List Addr} {G : Array GenState → Array GenState → Prop} {n : Nat} {P : Nat → Value → Prop} {St : Nat → Shared → Prop}
    (W : WalksS prog w A.in1 I fp wr G n P St) (D : Addr) (hD : D ∉ fp) (val : Nat → Int) (hval : ∀ i v, P i v → ∃ t, v = .int (val i) t) (hb : n + 1 < scanBound) : ∀ (k i : Nat) (s : Shared), n - i = k → i ≤ n → St i s →
      SetR w s.heap D (metB val i) (firstMet val i).length → (∀ s', Moved (D :: wr) G s s' → SetR w s'.heap D (metB val n) (firstMet val n).length → R (.ok (.ret .none)) s') →
      codeAny (model prog w) A (.builtin "set.update.loop" ⟨[.ref D, .ref I], []⟩) R s := by
  have hw : D ∉ wr := fun h => hD (W.sub _ h)
  have up : ∀ b ∈ wr, b ∈ D :: wr := fun b h => List.mem_cons_of_mem _ h
  intro k
  induction k with
  | zero =>
    intro i s hk hi st r fin
    obtain rfl : i = n := by omega
    refine codeAny_builtin PyProof.Rows.F.entry_set_update_loop ?_
    rw [Around.under_plainId PyProof.Rows.F.plain_set_update_loop _]
    show wpAny _ A.in1 (pyNext (.ref I) >>= _) _ _ s
    refine wpAny_bind (W.done s _ _ st fun s' hm => ?_)
    exact wpAny_pure (fin s' (hm.mono up) (SetR.at r fun o e => hm.heap D _ hw e))
  | succ k ih =>
    intro i s hk hi st r fin
    have lt : i < n := by omega
    refine codeAny_builtin PyProof.Rows.F.entry_set_update_loop ?_
    rw [Around.under_plainId PyProof.Rows.F.plain_set_update_loop _]
    show wpAny _ A.in1 (pyNext (.ref I) >>= _) _ _ s
    refine wpAny_bind (W.item i s _ _ lt st fun v s' hP st' hm => ?_)
    obtain ⟨t, rfl⟩ := hval i v hP
    have r' : SetR w s'.heap D (metB val i) (firstMet val i).length := SetR.at r fun o e => hm.heap D _ hw e
    show wpAny _ A.in1 (holding [Value.int (val i) t] (setAdd D (.int (val i) t)) >>= _) _ _ s'
    refine wpAny_bind (wpAny_holding ?_)
    unfold setAdd
    refine wpAny_holding ?_
    refine wpAny_bind ((intKind prog w).pyHash (intKind_is _ _ _ _) ?_)
    refine setR_add_hashed (s := { s' with toks := s'.toks + 1 }) r' (by have := firstMet_length_le val i; omega) fun h' sb r2 => ?_
    refine wpAny_pure ⟨plainId_quiet PyProof.Rows.F.plain_set_update_loop _, ih (i + 1) _ (by omega) lt (W.frame _ s' _ _ st' (Nat.le_succ _) fun b hb o e => ?_) (met_step r2) fun s'' hm2 r3 => ?_⟩
    · rw [sb.2 b (fun z : b = D => hD (by rw [← z]; exact hb))]; exact e
    · refine fin s'' (Moved.trans W.gtrans ((hm.mono up).then_heap (Nat.le_succ _) fun b o hb e => ?_) hm2) r3
      rw [sb.2 b (fun z : b = D => hb (by rw [z]; exact List.mem_cons_self))]; exact e
section
variable {prog : Program} {w : World} {A : Around} {E : Value → Shared → Prop} {s : Shared}
theorem set_led (a : Value) {Q : Value → Shared → Prop}
    (h : Q (.ref s.heap.objs.size) { s with heap := s.heap.push { cls := .type "set", dict := none, data := .set #[] 0 (.fresh 0 0 (!w.params.followText "set-order")) } }) :
    codeAny (model prog w) A (.call (.builtin "set.__new__") ⟨[.type "set", a], []⟩) (wants Q E) s := by
  refine codeAny_of_tree ?_
  show wpAny _ A.in1 (do checkBuiltinCall "set.__new__" ⟨[.type "set", a], []⟩; again (.builtin "set.__new__" ⟨[.type "set", a], []⟩)) _ _ s
  refine wpAny_bind (wpAny_of_eq (PySem.F.newCall_set_1 a) (wpAny_pure ⟨plainId_quiet PySem.F.plain_set_new _, codeAny_builtin PySem.F.entry_set_new ?_⟩))
  rw [Around.under_plainId PySem.F.plain_set_new _]
  unfold Builtin.«set.__new__» Builtin.Frozenset.newClass
  have sub := sub_set_self
  obtain ⟨hp, g, d, tk, os⟩ := s
  dsimp only
  wp_walk
  refine wpAny_askSetting (wpAny_pure ?_)
  dsimp only
  simp only [newObj]
  exact wpAny_bind (wpAny_alloc (wpAny_pure (wpAny_pure h)))
theorem set_of_tuple {l : Addr} {items : Array Value} {ns : List Int} {Q : Value → Shared → Prop} (hh : A.handled = none) (hl : s.heap.IsTuple l items) (hi : PyProof.Rows.IntsAre items.toList ns) (hb : items.size + 1 < scanBound)
    (h : ∀ (h' : Heap) (tk : Nat), SetR w h' s.heap.objs.size (metB (fun i => ns.getD i 0) items.size) (firstMet (fun i => ns.getD i 0) items.size).length →
      (∀ b o, s.heap.get? b = some o → h'.get? b = some o) → Q (.ref s.heap.objs.size) { s with heap := h', toks := tk }) :
    wpAny (model prog w) A (call (.type "set") [.ref l]) Q E s := by
  obtain ⟨c, tl, hmro⟩ := PySem.F.called_set.mro
  have k1 := PySem.F.called_set.made
  have k2 := PySem.F.called_set.sub
  refine wpAny_call (codeAny_of_tree ?_)
  show wpAny _ _ (callAny (.type "set") _) _ _ _
  refine wpAny_pure ⟨Code.quiet_builtin _ (by decide +kernel), codeAny_builtin PySem.F.entry_type_call ?_⟩
  rw [Around.under_plain (weight_type_call_type "set" [.ref l] []) rfl]
  have k3 := PySem.F.called_set.notType
  have k4 := PySem.F.called_set.canCreate
  have k5 := PySem.F.typeCall_set_1 (.ref l)
  repeat (any_goals (first | assumption | wp_step))
  generalize hnew : ({ cls := .type "set", dict := none, data := .set #[] 0 (.fresh 0 0 (!w.params.followText "set-order")) } : Obj) = ob
  refine codeAny_mono (set_led (.ref l) (E := E) (Q := fun v s1 => v = .ref s.heap.objs.size ∧ s1 = { s with heap := s.heap.push ob }) ⟨rfl, by rw [← hnew]⟩) fun r s1 hr => ?_
  cases r with
  | error e => exact hr
  | ok fl =>
    cases fl with
    | ret v =>
      obtain ⟨rfl, rfl⟩ := hr
      have at1 : (s.heap.push ob).get? s.heap.objs.size = some ob := Heap.get?_push_size _ (by rw [← hnew]; rfl)
      have ty1 : Shared.TypeIs { s with heap := s.heap.push ob } (.ref s.heap.objs.size) "set" := ⟨_, at1, by rw [← hnew]⟩
      have k6 := PySem.F.called_set.init.lookup
      have k7 := PySem.F.called_set.init.bind (.ref s.heap.objs.size)
      repeat (any_goals (first | assumption | wp_step))
      refine codeAny_mono (codeAny_call_builtin (R := wants (fun r s2 => r = .none ∧ ∃ h' tk, s2 = { s with heap := h', toks := tk } ∧ SetR w h' s.heap.objs.size (metB (fun i => ns.getD i 0) items.size) (firstMet (fun i => ns.getD i 0) items.size).length ∧
          (∀ b o, s.heap.get? b = some o → h'.get? b = some o)) E) PySem.F.called_set.init.plain PySem.F.entry_set_init (check_set_init_1 ty1 ?_)) fun r2 s2 hr2 => ?_
      · obtain ⟨⟨ocls, odict, odata, oslots⟩, hol, hcl, nl, hdl⟩ := hl
        simp only at hcl hdl
        subst hcl; subst hdl
        have hlS : l < s.heap.objs.size := Heap.lt_size hol
        have at2 : (s.heap.push ob).get? l = some { cls := .type "tuple", dict := odict, data := .seq items nl, slots := oslots } := Heap.get?_push_of_some _ hol
        have k8 := PySem.F.sub_tuple_set
        have k9 := PySem.F.sub_tuple_frozenset
        have ne1 : (Value.type "tuple" == Value.type "dict") = false := by decide
        have tp1 : (s.heap.push ob).IsTuple l items := ⟨_, at2, rfl, nl, rfl⟩
        have hh3 : A.in1.in1.in1.handled = none := by simp [hh]
        have neI : l ≠ (s.heap.push ob).objs.size := by rw [Heap.size_push]; exact Nat.ne_of_lt (Nat.lt_succ_of_lt hlS)
        have offD : s.heap.objs.size ∉ [(s.heap.push ob).objs.size, l] := by
          rw [Heap.size_push]
          simp only [List.mem_cons, List.not_mem_nil, or_false, not_or]
          exact ⟨Nat.ne_of_lt (Nat.lt_succ_self _), Nat.ne_of_gt hlS⟩
        have hval : ∀ (i : Nat) (v : Value), items[i]? = some v → ∃ t, v = .int ((fun i => ns.getD i 0) i) t := fun i v hv => PyProof.Rows.IntsAre.int_at hi i v (by rw [Array.getElem?_toList]; exact hv)
        have r0 : SetR w ((s.heap.push ob).push { cls := .type "tuple_iterator", data := .fields #[.ref l, .int 0 0] }) s.heap.objs.size (metB (fun i => ns.getD i 0) 0) (firstMet (fun i => ns.getD i 0) 0).length := by
          rw [← hnew]
          exact SetR.at (setR_fresh w) fun o e => Heap.get?_push_of_some _ e
        subst hnew
        unfold Builtin.«set.__init__» noKeywords Builtin.Frozenset.updateFrom
        generalize hPI : pyIter = PI
        wp_walk
        subst hPI
        refine wpAny_pyIter_tuple tp1 ?_
        refine wpAny_bind (wpAny_runValue ?_)
        refine upd_loop ((Walks.tuple hh3 _ l neI items).toS) s.heap.objs.size offD (fun i => ns.getD i 0) hval hb (items.size - 0) 0 _ (by omega) (Nat.zero_le _) ⟨⟨_, Heap.get?_push_size _ rfl, rfl, rfl⟩, ?hT⟩ r0 ?hF
        case hT =>
          obtain ⟨o2, e2, q2⟩ := tp1
          exact ⟨o2, Heap.get?_push_of_some _ e2, q2⟩
        case hF =>
          intro s' hm hS'
          obtain ⟨h', g', d', tk', os'⟩ := s'
          obtain rfl : g' = s.gens := hm.gens
          obtain rfl : d' = s.drawn := hm.drawn
          obtain rfl : os' = s.os := hm.os
          show wpAny _ _ _ _ _ _
          refine wpAny_pure ?_
          show wpAny _ _ (ret Value.none) _ _ _
          refine wpAny_pure ⟨rfl, h', tk', rfl, hS', fun b o e => ?_⟩
          have hb0 := Heap.lt_size e
          refine hm.heap b o ?_ (Heap.get?_push_of_some _ (Heap.get?_push_of_some _ e))
          simp only [List.mem_cons, List.not_mem_nil, or_false, not_or]
          exact ⟨Nat.ne_of_lt hb0, by rw [Heap.size_push]; exact Nat.ne_of_lt (Nat.lt_succ_of_lt hb0)⟩
      · cases r2 with
        | error e => exact hr2
        | ok fl2 =>
          cases fl2 with
          | ret r =>
            obtain ⟨rfl, h', tk, rfl, hS', hk'⟩ := hr2
            repeat (any_goals (first | assumption | wp_step))
            exact h _ _ hS' hk'
          | _ => exact hr2.elim
    | _ => exact hr.elim
end
end Pev

set_option Elab.async false
set_option linter.all false
set_option maxRecDepth 100000
set_option maxHeartbeats 4000000
namespace Pev
open PySem PySem.Spec L2
open PyProof.Rows (firstMet firstMet_any step_dedup)
/-! ### sorted(set(t)), t a tuple of ints -/
def insU (a : Int) : List Int → List Int
  | [] => [a]
  | b :: l => match decide (a < b) with
    | true => a :: b :: l
    | false => match decide (a = b) with
      | true => b :: l
      | false => b :: insU a l
def sset : List Int → List Int
  | [] => []
  | a :: l => insU a (sset l)
theorem insU_mem (a x : Int) : ∀ l, x ∈ insU a l ↔ x = a ∨ x ∈ l
  | [] => by simp [insU]
  | b :: l => by
    unfold insU
    cases q : decide (a < b) with
    | true => simp
    | false =>
      cases q2 : decide (a = b) with
      | true =>
        have := of_decide_eq_true q2
        subst this
        simp
      | false =>
        simp only [List.mem_cons, insU_mem a x l]
        constructor
        · rintro (h | h | h)
          · exact .inr (.inl h)
          · exact .inl h
          · exact .inr (.inr h)
        · rintro (h | h | h)
          · exact .inr (.inl h)
          · exact .inl h
          · exact .inr (.inr h)
theorem insU_lt (a : Int) : ∀ {l : List Int}, l.Pairwise (· < ·) → (insU a l).Pairwise (· < ·)
  | [], _ => by simp [insU]
  | b :: l, h => by
    unfold insU
    obtain ⟨h1, h2⟩ := List.pairwise_cons.mp h
    cases q : decide (a < b) with
    | true =>
      have hab := of_decide_eq_true q
      refine List.pairwise_cons.mpr ⟨fun c hc => ?_, h⟩
      rcases List.mem_cons.mp hc with rfl | hc
      · exact hab
      · exact Int.lt_trans hab (h1 c hc)
    | false =>
      have hab := of_decide_eq_false q
      cases q2 : decide (a = b) with
      | true => exact h
      | false =>
        have hne := of_decide_eq_false q2
        refine List.pairwise_cons.mpr ⟨fun c hc => ?_, insU_lt a h2⟩
        rcases (insU_mem a c l).mp hc with rfl | hc
        · omega
        · exact h1 c hc
theorem sset_mem (x : Int) : ∀ l, x ∈ sset l ↔ x ∈ l
  | [] => by simp [sset]
  | a :: l => by unfold sset; rw [insU_mem, sset_mem x l, List.mem_cons]
theorem sset_lt : ∀ l, (sset l).Pairwise (· < ·)
  | [] => .nil
  | a :: l => insU_lt a (sset_lt l)
theorem lt_uniq : ∀ {l m : List Int}, l.Pairwise (· < ·) → m.Pairwise (· < ·) → (∀ x, x ∈ l ↔ x ∈ m) → l = m
  | [], [], _, _, _ => rfl
  | [], b :: m, _, _, h => absurd ((h b).mpr (List.mem_cons_self ..)) (by simp)
  | a :: l, [], _, _, h => absurd ((h a).mp (List.mem_cons_self ..)) (by simp)
  | a :: l, b :: m, h1, h2, h => by
    obtain ⟨a1, a2⟩ := List.pairwise_cons.mp h1
    obtain ⟨b1, b2⟩ := List.pairwise_cons.mp h2
    have e : a = b := by
      rcases List.mem_cons.mp ((h a).mp (List.mem_cons_self ..)) with e | e
      · exact e
      · rcases List.mem_cons.mp ((h b).mpr (List.mem_cons_self ..)) with e' | e'
        · exact e'.symm
        · have := b1 a e
          have := a1 b e'
          omega
    subst e
    rw [lt_uniq a2 b2 fun x => ⟨fun hx => ?_, fun hx => ?_⟩]
    · rcases List.mem_cons.mp ((h x).mp (List.mem_cons_of_mem _ hx)) with e | e
      · subst e; have := a1 x hx; omega
      · exact e
    · rcases List.mem_cons.mp ((h x).mpr (List.mem_cons_of_mem _ hx)) with e | e
      · subst e; have := b1 x hx; omega
      · exact e
/-- a list that rises is its own sorted set -/
theorem sset_self {l : List Int} : l = sset l ↔ l.Pairwise (· < ·) := ⟨fun h => by rw [h]; exact sset_lt l, fun h => lt_uniq h (sset_lt l) fun x => (sset_mem x l).symm⟩
def gSet : List Pv → Option Pv
  | [.tup xs] => match intsP xs with
    | some ns => (match Nat.blt ns.length 64 with | true => some (.lst ((sset ns).map Pv.int)) | false => none)
    | none => none
  | _ => none
section
variable {X : Cx} {G : Gc} {Ex : WX} {e : Expr} {ra : EvF} {p1 p2 p3 p4 : Pos}
def rSetT (K : PySem.W.Frag) (w : World) : List V → Hp → VK → Prop := fun xs H Q => ∃ (a : Addr) (ns : List Int), xs = [V.ref a] ∧ SqT K H a (ns.map V.int) ∧ ns.length < 64 ∧
  ∀ (p : Addr) (S : Int → Bool) (n : Nat), H p = none → (∀ k : Int, S k = true ↔ k ∈ ns) → n < 64 → Q (.ref p) (upd H p (SetO w p S n))
theorem vals_intsAre : ∀ {ns : List Int} {us : List Value}, Vals (ns.map V.int) us → PyProof.Rows.IntsAre us ns
  | [], _, .nil => .nil
  | n :: ns, _, .cons r t => by
    obtain ⟨k, rfl⟩ := r
    exact .cons n k (vals_intsAre t)
theorem c_setT (hc : X.calm = true) : CallR X (.type "set") (rSetT X.K X.w) := by
  intro pins s σ H xs us Q I r h
  obtain ⟨a, ns, rfl, ha, hl, q⟩ := h
  rw [Vals.ref1 r]
  obtain ⟨its, rv, ⟨o, ho, hcl, n, hd⟩, hz⟩ := I.tuple ha
  have hlen : its.toArray.size = ns.length := by rw [List.size_toArray, ← rv.length, List.length_map]
  refine set_of_tuple (I.ok.hd hc) ⟨o, ho, hcl, n, hd⟩ (by simpa using vals_intsAre rv) (by rw [hlen]; unfold scanBound; omega) fun h' tk R k => ?_
  have hn : H s.heap.objs.size = none := I.hok.fresh (Nat.le_refl _)
  refine ⟨.ref s.heap.objs.size, _, I.laid (t' := tk) k (Nat.le_refl _) (setO_new R), rfl, q _ _ _ hn (fun z => ?_) ?_⟩
  · rw [hlen]
    unfold metB
    rw [firstMet_any, List.any_eq_true]
    constructor
    · rintro ⟨x, hx, e⟩
      obtain ⟨i, hi, rfl⟩ := List.mem_map.mp hx
      have hi := List.mem_range.mp hi
      have e := eq_of_beq e
      subst e
      rw [List.getD_eq_getElem?_getD, List.getElem?_eq_getElem hi]
      exact List.getElem_mem hi
    · intro hz
      obtain ⟨i, hi, e⟩ := List.getElem_of_mem hz
      refine ⟨z, List.mem_map.mpr ⟨i, List.mem_range.mpr hi, ?_⟩, beq_self_eq_true z⟩
      show ns.getD i 0 = z
      rw [List.getD_eq_getElem?_getD, List.getElem?_eq_getElem hi]
      exact e
  · have := PyProof.Rows.firstMet_length_le (fun i => ns.getD i 0) its.toArray.size
    rw [hlen] at this ⊢
    omega
theorem e_sset (hK : X.K = G.K) (hc : X.calm = true) (hg : Gl X "sorted") (hm : X.mg "sorted" = none) (hg2 : Gl X "set") (hm2 : X.mg "set" = none) (ha : PE X e (tE G Ex ra)) (hs1 : starEach [e] X.env = (false, eval e X.env) :: starEach [] X.env := by rfl)
    (hs2 : starEach [.Call (.Name "set" p2) [e] [] p3] X.env = (false, eval (.Call (.Name "set" p2) [e] [] p3) X.env) :: starEach [] X.env := by rfl) (hp : ∀ pos, (backTo pos (starEach [] X.env)).any (·.1) = false := by exact fun _ => rfl) :
    PE X (.Call (.Name "sorted" p1) [.Call (.Name "set" p2) [e] [] p3] [] p4) (tE G Ex (evB gSet (evCons ra evNil))) := by
  refine pe_imp (pe_callB (cr_sortedSet hc) hg hm PyProof.Rows.Boot.«sorted» (pa_cons (pe_callTy (c_setT hc) hg2 hm2 PyProof.Rows.Boot.«set» (pa_cons ha pa_nil hs1) (he := hs1) (hpl := hp _)) pa_nil hs2) (he := hs2) (hpl := hp _)) fun σ H Q h => ?_
  obtain ⟨H0, W, S, env, A, o⟩ := h
  refine ⟨H0, W, S, env, A, ?_⟩
  unfold evB evCons evNil at o
  cases qr : ra env S with
  | stuck => rw [qr] at o; exact o.elim
  | exc c fs S1 => rw [qr] at o; exact o
  | ok v S1 =>
    rw [qr] at o
    intro W1 H1 x e1 w1 r1
    have o1 : Out G W H σ Ex (RV G) Q (match gSet [v] with | some z => .ok z S1 | none => .stuck) := o
    unfold gSet at o1
    cases r1 with
    | tup h1 h2 =>
      rename_i a vs ys
      cases qi : intsP ys with
      | none => simp only [qi] at o1; exact o1.elim
      | some ns =>
        simp only [qi] at o1
        cases qb : Nat.blt ns.length 64 with
        | false => rw [qb] at o1; exact o1.elim
        | true =>
          rw [qb] at o1
          have hl : ns.length < 64 := Nat.le_of_ble_eq_true qb
          have eb := ints_of h2 qi
          refine ⟨a, ns, rfl, by rw [hK, ← eb]; exact sqT_of w1 h1, hl, fun p S n hp hS hn => ?_⟩
          have w2 := w1.new (o := SetO X.w p S n) hp
          refine ⟨p, S, n, rfl, upd_same, hn, fun ms q hlt hmem _ hq => ?_⟩
          have e2 : ms = sset ns := lt_uniq hlt (sset_lt ns) fun z => by rw [sset_mem, hmem z, hS z]
          subst e2
          obtain ⟨w3, e3⟩ := w2.1.alloc (o := .lst ((sset ns).map V.int)) hq trivial
          exact (Out.shift o1 e1) _ _ _ (w2.2.trans e3) w3 (.lst upd_same (RVs.ofInts _))
    | _ => exact o1.elim
end
end Pev

set_option Elab.async false
set_option linter.all false
set_option maxRecDepth 100000
set_option maxHeartbeats 4000000
namespace Pev
open PySem PySem.Spec L2
section
variable {X : Cx} {G : Gc} {Ex : WX} {a b : Expr} {ra rb : EvF} {pos : Pos}
/-- list * int, to be written later -/
def evMulF (ra rb : EvF) : EvFs := fun env S => (ra env S).bind fun va S1 => (rb env S1).bind fun vb S2 => match va, vb with
  | .lst xs, .int k => (match Nat.ble (xs.length * k.toNat) capLen && Nat.ble k.natAbs capLen with | true => .ok (List.replicate k.toNat xs).flatten S2 | false => .stuck)
  | _, _ => .stuck
theorem f_mul (ha : PE X a (tE G Ex ra)) (hb : PE X b (tE G Ex rb)) : PE X (.BinOp a .Mult b pos) (tF G Ex (evMulF ra rb)) := pe_imp (pe_op op_rep ha hb) fun σ H Q h => by
  obtain ⟨H0, W, S, env, A, o⟩ := h
  refine ⟨H0, W, S, env, A, o.bind fun va S1 W1 H1 x e1 w1 r1 o1 => ?_⟩
  refine ⟨H0, W1, S1, env, A.ext e1 w1, o1.bind fun vb S2 W2 H2 y e2 w2 r2 o2 => ?_⟩
  split at o2
  · rename_i xs k
    cases c : Nat.ble (xs.length * k.toNat) capLen && Nat.ble k.natAbs capLen with
    | false => rw [c] at o2; exact o2.elim
    | true =>
      rw [c] at o2
      obtain ⟨c1, c2⟩ := Bool.and_eq_true_iff.mp c
      have c2 := Nat.le_of_ble_eq_true c2
      unfold capLen at c2
      cases r1 with
      | lst h1 h2 =>
        rename_i l vs
        cases r2
        refine ⟨l, k, vs, rfl, rfl, w2.le _ _ (e2.F _ _ h1), by omega, by omega, cap_line (by rw [h2.length]; exact Nat.le_of_ble_eq_true c1), fun p hp => ?_⟩
        obtain ⟨w3, e3⟩ := w2.new (o := .lst (List.replicate k.toNat vs).flatten) hp
        have fp : W2.F p = none := by
          cases z : W2.F p with
          | none => rfl
          | some u => have := w2.le p u z; rw [hp] at this; cases this
        exact o2 W2 _ p _ e3 w3 (.of hp) upd_same fp ((h2.mono e2.le).rep _)
  · exact o2.elim
end
end Pev

set_option Elab.async false
set_option linter.all false
set_option maxRecDepth 100000
set_option maxHeartbeats 4000000
namespace Pev
open PySem PySem.Spec L2
/-! ### the place of an item in a tuple of numbers -/
def gIndexT : Pv → List Pv → Option Pv
  | .tup xs, [.int k] => match intsP xs with | some ns => (match ns.contains k with | true => some (.int (List.idxOf k ns)) | false => none) | none => none
  | _, _ => none
section
variable {X : Cx} {G : Gc}
theorem m_indexT (hK : X.K = G.K) : MtR X "tuple.index" (rMt G gIndexT) := by
  intro pins s σ H x xs v us Q I rx rxs h
  obtain ⟨W, S, va, vs, z, w, r1, r2, hg, q⟩ := h
  unfold gIndexT at hg
  split at hg
  · rename_i ys k
    cases hb : intsP ys with
    | none => rw [hb] at hg; cases hg
    | some ns =>
      rw [hb] at hg
      cases hc : ns.contains k with
      | false => simp only [hc] at hg; cases hg
      | true =>
        simp only [hc] at hg
        cases hg
        cases r1 with
        | tup h1 h2 =>
          rename_i l ws
          obtain ⟨x1, rfl, r3⟩ := rvs1 r2
          cases r3
          cases rx
          obtain ⟨u, rfl, t, rfl⟩ := rxs.one
          have hw := ints_of h2 hb
          subst hw
          obtain ⟨its, rv, hl, hz⟩ := I.tuple (by rw [hK]; exact sqT_of w h1)
          refine SeqAt.tuple_index_ints hl (vals_intsAre rv) (List.contains_iff_mem.mp hc) ?_
          exact ⟨.int _, H, I.tok _, ⟨_, rfl⟩, q W H _ (Ext.refl _ _) w (.int _)⟩
  · cases hg
end
end Pev

set_option Elab.async false
set_option linter.all false
set_option maxRecDepth 100000
set_option maxHeartbeats 4000000
namespace Pev
open PySem PySem.Spec L2
/-! ### texts put together and taken apart -/
def strsP : List Pv → Option (List Str)
  | [] => some []
  | .str b :: xs => match strsP xs with | some bs => some (b :: bs) | none => none
  | _ => none
theorem strs_of {G : Gc} {W : Wd} : ∀ {vs : List V} {xs : List Pv} {bs : List Str}, RVs G W vs xs → strsP xs = some bs → vs = bs.map V.str
  | _, _, _, .nil, h => by cases h; rfl
  | _, _ :: xs, _, .cons h1 h2, h => by
    cases h1 with
    | str b =>
      simp only [strsP] at h
      cases q : strsP xs with
      | none => rw [q] at h; cases h
      | some bs => rw [q] at h; cases h; rw [strs_of h2 q]; rfl
    | _ => cases h
theorem RVs.ofStrs {G : Gc} {W : Wd} : ∀ ys : List Str, RVs G W (ys.map V.str) (ys.map Pv.str)
  | [] => .nil
  | y :: ys => .cons (.str y) (RVs.ofStrs ys)
def joinP (a : Str) (xs : List Pv) : Option Pv := match strsP xs with
  | some ys => (match Nat.ble ((ys.map (·.length)).sum + ys.length * a.length) 1000000 with | true => some (.str (Txt.join a ys)) | false => none)
  | none => none
def gJoin : Pv → Pv → Option Pv
  | .str a, .lst xs => joinP a xs
  | .str a, .tup xs => joinP a xs
  | _, _ => none
def gSplit : Pv → Pv → Option Pv
  | .str a, .str b => match !(Nat.beq b.length 0) && Nat.ble a.length 1000000 with | true => some (.lst ((Txt.split a b).map Pv.str)) | false => none
  | _, _ => none
def isS : Pv → Bool
  | .str _ => true
  | _ => false
/-- a method of a text, of one argument -/
def evM1 (g : Pv → Pv → Option Pv) (ro ra : EvF) : EvF := fun env S => (ro env S).bind fun v S1 => match isS v with
  | true => (ra env S1).bind fun u S2 => (match g v u with | some z => .ok z S2 | none => .stuck)
  | false => .stuck
section
variable {X : Cx} {G : Gc} {Ex : WX} {o e : Expr} {ro ra : EvF} {apos pos : Pos}
theorem e_join (hK : X.K = G.K) (ho : PE X o (tE G Ex ro)) (ha : PE X e (tE G Ex ra)) (h1 : starEach [e] X.env = [(false, eval e X.env)]) (h2 : attributeBase o (Str.ofString "join") X.env (eval o X.env) = eval o X.env) (h3 : (apos.endLine == pos.line) = true) :
    PE X (.Call (.Attribute o "join" apos) [e] [] pos) (tE G Ex (evM1 gJoin ro ra)) := pe_imp (pe_join ho ha h1 h2 h3) fun σ H Q h => by
  obtain ⟨H0, W, S, env, A, o⟩ := h
  refine ⟨H0, W, S, env, A, o.bind fun v S1 W1 H1 x e1 w1 r1 o1 => ?_⟩
  cases r1 with
  | str a =>
    refine ⟨⟨a, rfl⟩, H0, W1, S1, env, A.ext e1 w1, Out.bind (show Out G W1 H1 σ Ex (RV G) Q ((ra env S1).bind fun u S2 => (match gJoin (.str a) u with | some z => .ok z S2 | none => .stuck)) from o1) fun u S2 W2 H2 y e2 w2 r2 o2 => ?_⟩
    cases r2 with
    | lst q1 q2 =>
      rename_i p vs xs
      simp only [gJoin, joinP] at o2
      cases qs : strsP xs with
      | none => rw [qs] at o2; exact o2.elim
      | some ys =>
        simp only [qs] at o2
        cases qb : Nat.ble ((ys.map (·.length)).sum + ys.length * a.length) 1000000 with
        | false => rw [qb] at o2; exact o2.elim
        | true =>
          rw [qb] at o2
          have hb := Nat.le_of_ble_eq_true qb
          have ev := strs_of q2 qs
          subst ev
          exact ⟨a, p, ys, rfl, rfl, .inl (by rw [hK]; exact sqL_of w2 (.inl (.inl q1))), by omega, o2 W2 H2 _ (Ext.refl _ _) w2 (.str _)⟩
    | tup q1 q2 =>
      rename_i p vs xs
      simp only [gJoin, joinP] at o2
      cases qs : strsP xs with
      | none => rw [qs] at o2; exact o2.elim
      | some ys =>
        simp only [qs] at o2
        cases qb : Nat.ble ((ys.map (·.length)).sum + ys.length * a.length) 1000000 with
        | false => rw [qb] at o2; exact o2.elim
        | true =>
          rw [qb] at o2
          have hb := Nat.le_of_ble_eq_true qb
          have ev := strs_of q2 qs
          subst ev
          exact ⟨a, p, ys, rfl, rfl, .inr (by rw [hK]; exact sqT_of w2 q1), by omega, o2 W2 H2 _ (Ext.refl _ _) w2 (.str _)⟩
    | _ => exact o2.elim
  | _ => exact o1.elim
theorem e_split (hK : X.K = G.K) (ho : PE X o (tE G Ex ro)) (ha : PE X e (tE G Ex ra)) (h1 : starEach [e] X.env = [(false, eval e X.env)]) (h2 : attributeBase o (Str.ofString "split") X.env (eval o X.env) = eval o X.env) (h3 : (apos.endLine == pos.line) = true) :
    PE X (.Call (.Attribute o "split" apos) [e] [] pos) (tE G Ex (evM1 gSplit ro ra)) := pe_imp (pe_split ho ha h1 h2 h3) fun σ H Q h => by
  obtain ⟨H0, W, S, env, A, o⟩ := h
  refine ⟨H0, W, S, env, A, o.bind fun v S1 W1 H1 x e1 w1 r1 o1 => ?_⟩
  cases r1 with
  | str a =>
    refine ⟨⟨a, rfl⟩, H0, W1, S1, env, A.ext e1 w1, Out.bind (show Out G W1 H1 σ Ex (RV G) Q ((ra env S1).bind fun u S2 => (match gSplit (.str a) u with | some z => .ok z S2 | none => .stuck)) from o1) fun u S2 W2 H2 y e2 w2 r2 o2 => ?_⟩
    cases r2 with
    | str b =>
      simp only [gSplit] at o2
      cases qb : (!(Nat.beq b.length 0) && Nat.ble a.length 1000000) with
      | false => rw [qb] at o2; exact o2.elim
      | true =>
        rw [qb] at o2
        obtain ⟨k1, k2⟩ := Bool.and_eq_true_iff.mp qb
        have hb := Nat.le_of_ble_eq_true k2
        refine ⟨a, b, rfl, rfl, ?_, by unfold sizeLine; omega, fun p hp => ?_⟩
        · rw [Bool.not_eq_true'] at k1; rw [beq_eq_false_iff_ne]; intro h; rw [h] at k1; cases k1
        · obtain ⟨w3, e3⟩ := w2.alloc (o := .lst ((Txt.split a b).map V.str)) hp trivial
          exact o2 _ _ _ e3 w3 (.lst upd_same (RVs.ofStrs _))
    | _ => exact o2.elim
  | _ => exact o1.elim
end
end Pev

set_option Elab.async false
set_option linter.all false
set_option maxRecDepth 100000
set_option maxHeartbeats 4000000
namespace Pev
open PySem PySem.Spec L2
/-! ### texts of values, numbers of texts, f-strings -/
def fmtP : Pv → Option Pv
  | .str y => match Nat.ble y.length 1000000 with | true => some (.str y) | false => none
  | .int i => match Nat.blt i.natAbs.log2 1920 with | true => some (.str (toString i)) | false => none
  | _ => none
def evFmt (ra : EvF) : EvF := fun env S => (ra env S).bind fun v S1 => match fmtP v with | some z => .ok z S1 | none => .stuck
def jsGo : List EvF → Str → EvF
  | [], acc => fun _ S => .ok (.str acc) S
  | r :: rs, acc => fun env S => (r env S).bind fun v S1 => match v with
    | .str y => (match Nat.ble (acc ++ y).length 1000000 with | true => jsGo rs (acc ++ y) env S1 | false => .stuck)
    | _ => .stuck
def evJs (rs : List EvF) : EvF := jsGo rs Str.empty
def gStr : List Pv → Option Pv
  | [.int i] => match Nat.blt i.natAbs.log2 1920 with | true => some (.str (toString i)) | false => none
  | _ => none
def gIntT : List Pv → Option Pv
  | [.str a] => match Nat.ble a.length 640 with | true => (match PySem.intText? a with | some n => some (.int n) | none => none) | false => none
  | [.int a] => some (.int a)
  | _ => none
section
variable {X : Cx} {G : Gc} {Ex : WX} {e : Expr} {ra : EvF} {pos : Pos}
theorem e_fmt (ha : PE X e (tE G Ex ra)) : PE X (.FormattedValue e (-1) none pos) (tE G Ex (evFmt ra)) := pe_imp (pe_fmt ha) fun σ H Q h => by
  obtain ⟨H0, W, S, env, A, o⟩ := h
  refine ⟨H0, W, S, env, A, o.bind fun v S1 W1 H1 x e1 w1 r1 o1 => ?_⟩
  cases r1 with
  | str y =>
    simp only [fmtP] at o1
    cases q : Nat.ble y.length 1000000 with
    | false => rw [q] at o1; exact o1.elim
    | true =>
      rw [q] at o1
      exact .inl ⟨y, rfl, by have := Nat.le_of_ble_eq_true q; unfold sizeLine; omega, o1 W1 H1 _ (Ext.refl _ _) w1 (.str _)⟩
  | int i =>
    simp only [fmtP] at o1
    cases q : Nat.blt i.natAbs.log2 1920 with
    | false => rw [q] at o1; exact o1.elim
    | true =>
      rw [q] at o1
      exact .inr ⟨i, rfl, Nat.le_of_ble_eq_true q, o1 W1 H1 _ (Ext.refl _ _) w1 (.str _)⟩
  | _ => exact o1.elim
theorem js_imp : ∀ (rs : List EvF) (acc : Str) (σ : L2.St) (H : Hp) (Q : VK), (∃ H0 W S env, At G H0 W S σ H env ∧ Out G W H σ Ex (RV G) Q (jsGo rs acc env S)) → tJs (rs.map (tE G Ex)) acc σ H fun out H1 => Q (.str out) H1
  | [], acc, σ, H, Q, h => by
    obtain ⟨H0, W, S, env, A, o⟩ := h
    exact o W H _ (Ext.refl _ _) A.w (.str _)
  | r :: rs, acc, σ, H, Q, h => by
    obtain ⟨H0, W, S, env, A, o⟩ := h
    show tE G Ex r σ H fun x H1 => ∃ y : Str, x = .str y ∧ (acc ++ y).length ≤ sizeLine ∧ tJs (rs.map (tE G Ex)) (acc ++ y) σ H1 fun out H1 => Q (.str out) H1
    refine ⟨H0, W, S, env, A, Out.bind (show Out G W H σ Ex (RV G) Q ((r env S).bind fun v S1 => match v with
      | .str y => (match Nat.ble (acc ++ y).length 1000000 with | true => jsGo rs (acc ++ y) env S1 | false => .stuck)
      | _ => .stuck) from o) fun v S1 W1 H1 x e1 w1 r1 o1 => ?_⟩
    cases r1 with
    | str y =>
      simp only at o1
      cases q : Nat.ble (acc ++ y).length 1000000 with
      | false => rw [q] at o1; exact o1.elim
      | true =>
        rw [q] at o1
        exact ⟨y, rfl, by have := Nat.le_of_ble_eq_true q; unfold sizeLine; omega, js_imp rs (acc ++ y) σ H1 Q ⟨H0, W1, S1, env, A.ext e1 w1, o1⟩⟩
    | _ => exact o1.elim
theorem e_js {v1 v2 : Expr} {rest : List Expr} {rs : List EvF} (h : PJ X (v1 :: v2 :: rest) (rs.map (tE G Ex))) : PE X (.JoinedStr (v1 :: v2 :: rest) pos) (tE G Ex (evJs rs)) := pe_imp (pe_joined h) fun σ H Q h => js_imp rs Str.empty σ H Q h
theorem c_str (hK : X.K = G.K) : CallR X (.type "str") (rCall G gStr) := by
  intro pins s σ H xs us Q I r h
  obtain ⟨W, S, vs, v, w, rv, e, q⟩ := h
  unfold gStr at e
  split at e
  · rename_i i
    cases qb : Nat.blt i.natAbs.log2 1920 with
    | false => rw [qb] at e; cases e
    | true =>
      rw [qb] at e
      cases e
      obtain ⟨x, rfl, rx⟩ := rvs1 rv
      cases rx
      exact call_str_int pins s σ H _ us Q I r ⟨i, rfl, Nat.le_of_ble_eq_true qb, q W H _ (Ext.refl _ _) w (.str _)⟩
  · cases e
theorem c_intT (hK : X.K = G.K) : CallR X (.type "int") (rCall G gIntT) := by
  intro pins s σ H xs us Q I r h
  obtain ⟨W, S, vs, v, w, rv, e, q⟩ := h
  unfold gIntT at e
  split at e
  · rename_i a
    cases qb : Nat.ble a.length 640 with
    | false => rw [qb] at e; cases e
    | true =>
      rw [qb] at e
      cases qn : PySem.intText? a with
      | none => simp only [qn] at e; cases e
      | some n =>
        simp only [qn] at e
        cases e
        obtain ⟨x, rfl, rx⟩ := rvs1 rv
        cases rx
        exact call_int_str pins s σ H _ us Q I r ⟨a, n, rfl, qn, Nat.le_of_ble_eq_true qb, q W H _ (Ext.refl _ _) w (.int _)⟩
  · cases e
    obtain ⟨x, rfl, rx⟩ := rvs1 rv
    cases rx
    rename_i a
    exact call_int1 pins s σ H _ us Q I r (.inl ⟨a, rfl, q W H _ (Ext.refl _ _) w (.int _)⟩)
  · cases e
end
end Pev

set_option Elab.async false
set_option linter.all false
set_option maxRecDepth 100000
set_option maxHeartbeats 4000000
namespace Pev
open PySem PySem.Spec L2
/-! ### the greatest number of a list -/
def mxI : Int → List Int → Int
  | a, [] => a
  | a, b :: r => mxI (if a < b then b else a) r
theorem mx_mem : ∀ (r : List Int) (a : Int), mxI a r ∈ a :: r
  | [], a => by simp [mxI]
  | b :: r, a => by
    have := mx_mem r (if a < b then b else a)
    unfold mxI
    rcases List.mem_cons.mp this with h | h
    · rw [h]; split <;> simp
    · exact List.mem_cons_of_mem _ (List.mem_cons_of_mem _ h)
theorem mx_le : ∀ (r : List Int) (a : Int), ∀ y ∈ a :: r, y ≤ mxI a r
  | [], a, y, h => by simp at h; rw [h]; exact Int.le_refl _
  | b :: r, a, y, h => by
    have ih := mx_le r (if a < b then b else a)
    unfold mxI
    have h0 := ih _ (List.mem_cons_self ..)
    rcases List.mem_cons.mp h with rfl | h
    · refine Int.le_trans ?_ h0; split <;> omega
    · rcases List.mem_cons.mp h with rfl | h
      · refine Int.le_trans ?_ h0; split <;> omega
      · exact ih y (List.mem_cons_of_mem _ h)
def gMax1 : List Pv → Option Pv
  | [.lst xs] => match intsP xs with | some (a :: r) => some (.int (mxI a r)) | _ => none
  | _ => none
section
variable {X : Cx} {G : Gc}
theorem c_max1 (hc : X.calm = true) (hK : X.K = G.K) : CallR X (.builtin "max") (rCall G gMax1) := by
  intro pins s σ H xs us Q I r h
  obtain ⟨W, S, vs, v, w, rv, e, q⟩ := h
  unfold gMax1 at e
  split at e
  · rename_i zs
    cases qi : intsP zs with
    | none => rw [qi] at e; cases e
    | some ns =>
      cases ns with
      | nil => rw [qi] at e; cases e
      | cons a t =>
        rw [qi] at e
        cases e
        obtain ⟨x, rfl, rx⟩ := rvs1 rv
        cases rx with
        | lst h1 h2 =>
          rename_i l ws
          have hw := ints_of h2 qi
          subst hw
          refine cr_max hc pins s σ H _ us Q I r ⟨l, a :: t, rfl, by rw [hK]; exact sqL_of w (.inl (.inl h1)), by simp, fun m hm hy => ?_⟩
          have : m = mxI a t := Int.le_antisymm (mx_le t a m hm) (hy _ (mx_mem t a))
          subst this
          exact q W H _ (Ext.refl _ _) w (.int _)
  · cases e
end
end Pev

set_option Elab.async false
set_option linter.all false
set_option maxRecDepth 100000
set_option maxHeartbeats 4000000
namespace Pev
open PySem PySem.Spec L2
/-! ### methods of tuples -/
section
variable {X : Cx} {G : Gc} {Ex : WX} {e o : Expr} {es : List Expr} {ras : EvFs} {ro : EvF}
theorem tupD_is {pins : List (Addr × Obj)} {σ : L2.St} {H : Hp} {s : Shared} {a : Addr} {xs : List V} (I : Inv X pins σ H s) (h : SqTd X.K H a xs) : s.TypeIs (.ref a) "tuple" ∧ ∃ ob, s.heap.get? a = some ob ∧ ob.dict = none := by
  obtain ⟨its, rv, p, hz⟩ := I.tuple h.T
  refine ⟨p.typeIs, ?_⟩
  rcases h with ⟨ob, h, d⟩ | ⟨ob, is, n, h1, h2, h3, h4⟩
  · exact ⟨ob, (I.hok _ _ h).1, d⟩
  · have ty : tyV X.K "tuple" (.ref a) H := .inr (.inl ⟨rfl, ob, h1, h2, h3⟩)
    obtain ⟨q1, q2⟩ := tyV_is I (show RelV (.ref a) (.ref a) from rfl) ty
    exact q2 a rfl
def tBMT (K : PySem.W.Frag) (r : V → List V → Hp → VK → Prop) (to : TE) (t : TA) : TE := fun σ H Q => to σ H fun x H1 => (∃ a xs, x = .ref a ∧ SqTd K H1 a xs) ∧ t σ H1 fun xs H2 => r x xs H2 Q
theorem pe_bmT {to : TE} {t : TA} {name : Str} {apos cpos : Pos} {id : String} {r : V → List V → Hp → VK → Prop} (slot : PySem.Slot "tuple" name id) (hty : typeOf (.builtin id) = pure (.type "method_descriptor")) (hm : MtR X id r) (ho : PE X o to) (ha : PA X (e :: es) t)
    (hbase : attributeBase o name X.env (eval o X.env) = eval o X.env) (hfew : ((backTo cpos (starEach (e :: es) X.env)).all (fun x => !x.1) && (backToKw cpos (keywordEach [] X.env)).all (fun x => x.1.isSome) && decide ((e :: es).length + ([] : List Keyword).length + (if ([] : List Keyword).isEmpty then 0 else 1) < 30)) = true)
    (hline : (apos.endLine == cpos.line) = true) (hs : starEach (e :: es) X.env = (false, eval e X.env) :: starEach es X.env) (hplain : (backTo cpos (starEach es X.env)).any (·.1) = false) :
    PE X (.Call (.Attribute o name apos) (e :: es) [] cpos) (tBMT X.K r to t) := by
  refine ⟨fun pins s σ H Q I h => ?_⟩
  refine wpAny_Call_method (T := "tuple") hbase hfew hline PySem.F.plainAttrs_tuple slot hty (thn (ho.run pins s σ H _ I h) fun v s1 ⟨x, H1, I1, r1, q⟩ => ?_)
  obtain ⟨⟨a, xs, rfl, td⟩, q1⟩ := q
  obtain rfl : v = Value.ref a := r1
  obtain ⟨t1, t2⟩ := tupD_is I1 td
  refine ⟨t1, fun a' ea => by cases ea; exact t2, PyProof.Rows.callWith_method1 (thn (ha.run cpos pins s1 σ H1 _ I1 q1) fun us s2 ⟨vs, H2, I2, r2, q2⟩ => ?_) hs hplain⟩
  exact hm pins s2 σ H2 (.ref a) vs _ us Q I2 rfl r2 q2
def evMT (g : Pv → List Pv → Option Pv) (ro : EvF) (ras : EvFs) : EvF := fun env S => (ro env S).bind fun v S1 => match v with
  | .tup _ => (ras env S1).bind fun vs S2 => (match g v vs with | some z => .ok z S2 | none => .stuck)
  | _ => .stuck
theorem e_bmT {id : String} {name : Str} {apos cpos : Pos} {g : Pv → List Pv → Option Pv} (hK : X.K = G.K) (slot : PySem.Slot "tuple" name id) (hty : typeOf (.builtin id) = pure (.type "method_descriptor")) (hm : MtR X id (rMt G g)) (ho : PE X o (tE G Ex ro)) (ha : PA X (e :: es) (tA G Ex ras))
    (hbase : attributeBase o name X.env (eval o X.env) = eval o X.env) (hfew : ((backTo cpos (starEach (e :: es) X.env)).all (fun x => !x.1) && (backToKw cpos (keywordEach [] X.env)).all (fun x => x.1.isSome) && decide ((e :: es).length + ([] : List Keyword).length + (if ([] : List Keyword).isEmpty then 0 else 1) < 30)) = true)
    (hline : (apos.endLine == cpos.line) = true) (hs : starEach (e :: es) X.env = (false, eval e X.env) :: starEach es X.env) (hplain : (backTo cpos (starEach es X.env)).any (·.1) = false) :
    PE X (.Call (.Attribute o name apos) (e :: es) [] cpos) (tE G Ex (evMT g ro ras)) := pe_imp (pe_bmT slot hty hm ho ha hbase hfew hline hs hplain) fun σ H Q h => by
  obtain ⟨H0, W, S, env, A, o⟩ := h
  refine ⟨H0, W, S, env, A, o.bind fun v S1 W1 H1 x e1 w1 r1 o1 => ?_⟩
  cases v with
  | tup ys =>
    have r0 := r1
    cases r1 with
    | tup h1 h2 =>
      rename_i aa ws
      refine ⟨⟨aa, ws, rfl, hK ▸ sqT_le w1.le h1⟩, H0, W1, S1, env, A.ext e1 w1, o1.bind fun vs S2 W2 H2 xs e2 w2 r2 o2 => ?_⟩
      cases q2 : g (.tup ys) vs with
      | none => rw [q2] at o2; exact o2.elim
      | some z => rw [q2] at o2; exact ⟨W2, S2, _, vs, z, w2, r0.mono e2.le, r2, q2, fun W' H' y e w r => o2 W' H' y e w r⟩
  | _ => exact o1.elim
end
end Pev

set_option Elab.async false
set_option linter.all false
set_option maxRecDepth 100000
set_option maxHeartbeats 4000000
namespace Pev
open PySem PySem.Spec L2
/-! ### sorted of tuples of ints, up and down -/
def lexI : List Int → List Int → Bool
  | _, [] => false
  | [], _ :: _ => true
  | a :: x, b :: y => if a < b then true else if b < a then false else lexI x y
def insT (a : List Int) : List (List Int) → List (List Int)
  | [] => [a]
  | b :: l => match lexI b a with | true => b :: insT a l | false => a :: b :: l
def isortT : List (List Int) → List (List Int)
  | [] => []
  | a :: l => insT a (isortT l)
theorem lexI_irrefl : ∀ x, lexI x x = false
  | [] => rfl
  | a :: x => by unfold lexI; rw [if_neg (Int.lt_irrefl a), if_neg (Int.lt_irrefl a)]; exact lexI_irrefl x
theorem lexI_total : ∀ {x y}, lexI x y = false → lexI y x = false → x = y
  | [], [], _, _ => rfl
  | [], _ :: _, h, _ => by simp [lexI] at h
  | _ :: _, [], _, h => by simp [lexI] at h
  | a :: x, b :: y, h1, h2 => by
    unfold lexI at h1 h2
    by_cases c : a < b
    · rw [if_pos c] at h1; cases h1
    · by_cases d : b < a
      · rw [if_pos d] at h2; cases h2
      · rw [if_neg c, if_neg d] at h1
        rw [if_neg d, if_neg c] at h2
        have : a = b := by omega
        subst this
        rw [lexI_total h1 h2]
theorem lexI_neg : ∀ {x y z}, lexI x z = true → lexI x y = true ∨ lexI y z = true
  | _, _, [], h => by simp [lexI] at h
  | [], [], _ :: _, _ => .inr rfl
  | [], _ :: _, _ :: _, _ => .inl rfl
  | _ :: _, [], _ :: _, _ => .inr rfl
  | a :: x, b :: y, c :: z, h => by
    unfold lexI at h ⊢
    by_cases h1 : a < b
    · rw [if_pos h1]; exact .inl rfl
    · by_cases h2 : b < c
      · rw [if_pos h2]; exact .inr rfl
      · by_cases h3 : a < c
        · omega
        · rw [if_neg h3] at h
          by_cases h4 : c < a
          · rw [if_pos h4] at h; cases h
          · rw [if_neg h4] at h
            have e1 : a = b := by omega
            have e2 : b = c := by omega
            subst e1 e2
            simp only [Int.lt_irrefl, if_false]
            exact lexI_neg h
theorem lexI_asym {x y} (h : lexI x y = true) : lexI y x = false := by
  cases q : lexI y x with
  | false => rfl
  | true =>
    have : ∀ {x y}, lexI x y = true → lexI y x = true → False := by
      intro x
      induction x with
      | nil => intro y h1 h2; cases y <;> simp [lexI] at h1 h2
      | cons a x ih =>
        intro y h1 h2
        cases y with
        | nil => simp [lexI] at h1
        | cons b y =>
          unfold lexI at h1 h2
          by_cases c : a < b
          · rw [if_neg (by omega), if_pos c] at h2; cases h2
          · rw [if_neg c] at h1
            by_cases d : b < a
            · rw [if_pos d] at h1; cases h1
            · rw [if_neg d] at h1
              rw [if_neg d, if_neg c] at h2
              exact ih h1 h2
    exact (this h q).elim
theorem insT_perm (a : List Int) : ∀ l, (insT a l).Perm (a :: l)
  | [] => .refl _
  | b :: l => by
    unfold insT
    split
    · exact ((insT_perm a l).cons b).trans (.swap a b l)
    · exact .refl _
theorem isortT_perm : ∀ l, (isortT l).Perm l
  | [] => .refl _
  | a :: l => (insT_perm a _).trans ((isortT_perm l).cons a)
theorem lexI_le_trans {x y z} (h1 : lexI y x = false) (h2 : lexI z y = false) : lexI z x = false := by
  cases q : lexI z x with
  | false => rfl
  | true =>
    rcases lexI_neg (y := y) q with c | c
    · rw [h2] at c; cases c
    · rw [h1] at c; cases c
theorem insT_sorted (a : List Int) : ∀ {l : List (List Int)}, l.Pairwise (fun x y => lexI y x = false) → (insT a l).Pairwise (fun x y => lexI y x = false)
  | [], _ => by simp [insT]
  | b :: l, h => by
    obtain ⟨h1, h2⟩ := List.pairwise_cons.mp h
    unfold insT
    cases q : lexI b a with
    | true =>
      refine List.pairwise_cons.mpr ⟨fun c hc => ?_, insT_sorted a h2⟩
      rcases List.mem_cons.mp ((insT_perm a l).mem_iff.mp hc) with rfl | hc
      · exact lexI_asym q
      · exact h1 c hc
    | false =>
      refine List.pairwise_cons.mpr ⟨fun c hc => ?_, h⟩
      rcases List.mem_cons.mp hc with rfl | hc
      · exact q
      · exact lexI_le_trans q (h1 c hc)
theorem isortT_sorted : ∀ l : List (List Int), (isortT l).Pairwise (fun x y => lexI y x = false)
  | [] => .nil
  | a :: l => insT_sorted a (isortT_sorted l)
theorem isortT_eq {l l' : List (List Int)} (p : l'.Perm l) (s : l'.Pairwise (fun x y => lexI y x = false)) : l' = isortT l :=
  (p.trans (isortT_perm l).symm).eq_of_pairwise (le := fun x y => lexI y x = false) (fun a b _ _ h1 h2 => lexI_total h2 h1) s (isortT_sorted l)
/-! keys in the heap -/
abbrev nosh : Nat → Bool := fun _ => false
def inl' (x : Int) : Int ⊕ List Nat := .inl x
theorem lexLt_inl : ∀ x y : List Int, PyProof.Rows.lexLt PyProof.Rows.itemOrd (x.map inl') (y.map inl') = lexI x y
  | [], [] => by simp only [List.map_nil, PyProof.Rows.lexLt, lexI]
  | [], _ :: _ => by simp only [List.map_nil, List.map_cons, PyProof.Rows.lexLt, lexI]
  | _ :: _, [] => by simp only [List.map_nil, List.map_cons, PyProof.Rows.lexLt, lexI]
  | a :: x, b :: y => by
    simp only [List.map_cons, PyProof.Rows.lexLt]
    rw [lexLt_inl x y]
    show (decide (a < b) || !decide (b < a) && lexI x y) = _
    have e : lexI (a :: x) (b :: y) = (if a < b then true else if b < a then false else lexI x y) := by rw [lexI]
    rw [e]
    by_cases c : a < b
    · simp [c]
    · by_cases d : b < a
      · simp [c, d]
      · simp [c, d]
theorem intsP_eq : ∀ {xs : List Pv} {ns : List Int}, intsP xs = some ns → xs = ns.map Pv.int
  | [], ns, h => by cases h; rfl
  | .int b :: xs, ns, h => by
    simp only [intsP] at h
    cases q : intsP xs with
    | none => rw [q] at h; cases h
    | some bs => rw [q] at h; cases h; rw [intsP_eq q]; rfl
  | .non :: _, _, h => by cases h
  | .bl _ :: _, _, h => by cases h
  | .str _ :: _, _, h => by cases h
  | .tup _ :: _, _, h => by cases h
  | .lst _ :: _, _, h => by cases h
  | .fn _ :: _, _, h => by cases h
  | .mref _ :: _, _, h => by cases h
  | .scr _ :: _, _, h => by cases h
  | .ty _ :: _, _, h => by cases h
  | .dct _ _ :: _, _, h => by cases h
open PyProof.Rows (IsTup TupsOf TupOf tupItems pairsOf)
open PyProof.Rows.G (tupKeyC isTupObj KeepsTups)
def nsOf (h : Heap) (u : Value) : List Int := ((tupKeyC h nosh u).getD []).map fun z => match z with | .inl i => i | .inr _ => 0
def ltK (h : Heap) (u v : Value) : Bool := PyProof.Rows.lexLt PyProof.Rows.itemOrd ((tupKeyC h nosh u).getD []) ((tupKeyC h nosh v).getD [])
theorem swo_K (h : Heap) : SrtO.Swo (ltK h) := by
  have O := PyProof.Rows.listOrd PyProof.Rows.itemOrd
  refine ⟨fun x y e => ?_, fun x y z e1 e2 => ?_⟩
  · cases q : ltK h y x with
    | false => rfl
    | true =>
      have t := (PyProof.Rows.listOrd PyProof.Rows.itemOrd).trans _ _ _ e q
      have i := (PyProof.Rows.listOrd PyProof.Rows.itemOrd).irrefl ((tupKeyC h nosh x).getD [])
      rw [t] at i; cases i
  · cases q : ltK h z x with
    | false => rfl
    | true =>
      rcases (PyProof.Rows.listOrd PyProof.Rows.itemOrd).negTrans _ ((tupKeyC h nosh y).getD []) _ q with c | c
      · exact absurd (c.symm.trans e2) (by decide)
      · exact absurd (c.symm.trans e1) (by decide)
theorem tupItems_ints : ∀ {ns : List Int} {us : List Value} (i : Nat), Vals (ns.map V.int) us → tupItems nosh i us = some (ns.map inl')
  | [], us, i, h => by cases us with | nil => rfl | cons _ _ => cases h
  | n :: ns, us, i, h => by
    cases us with
    | nil => cases h
    | cons u us =>
      cases h with
      | cons h1 h2 =>
        obtain ⟨t, rfl⟩ := h1
        simp only [tupItems, nosh, Bool.false_eq_true, if_false, List.map_cons]
        rw [show tupItems (fun _ => false) (i + 1) us = some (ns.map inl') from tupItems_ints (i + 1) h2]
        rfl
section
variable {X : Cx} {G : Gc} {W : Wd} {S : Sto} {pins : List (Addr × Obj)} {σ : L2.St} {H : Hp} {s : Shared}
/-- what a value of the list is -/
def KP (G : Gc) (W : Wd) (h : Heap) (u : Value) (ns : List Int) : Prop := ∃ p, u = .ref p ∧ tupKeyC h nosh u = some (ns.map inl') ∧ RV G W (.ref p) (.tup (ns.map Pv.int)) ∧ (ns ≠ [] → ∃ f, TupOf h nosh u f)
theorem kp_ns {h : Heap} {u : Value} {ns : List Int} (k : KP G W h u ns) : nsOf h u = ns := by
  obtain ⟨p, rfl, e, _⟩ := k
  unfold nsOf
  rw [e, Option.getD_some, List.map_map]
  have : (fun z => match z with | .inl i => i | .inr _ => 0) ∘ inl' = (id : Int → Int) := rfl
  rw [this, List.map_id]
theorem kp_lt {h : Heap} {u v : Value} {ns ms : List Int} (k : KP G W h u ns) (l : KP G W h v ms) : ltK h u v = lexI ns ms := by
  obtain ⟨p, rfl, e, _⟩ := k
  obtain ⟨q, rfl, f, _⟩ := l
  unfold ltK
  rw [e, f, Option.getD_some, Option.getD_some, lexLt_inl]
theorem kp_of (hK : X.K = G.K) (w : WOk G W H S) (I : Inv X pins σ H s) {x : V} {u : Value} {ys : List Pv} {ns : List Int} (r : RV G W x (.tup ys)) (e : intsP ys = some ns) (rx : RelV x u) : KP G W s.heap u ns := by
  have r0 := r
  cases r with
  | tup h1 h2 =>
    rename_i a vs
    cases rx
    have hv := ints_of h2 e
    subst hv
    obtain ⟨its, rv, p, hz⟩ := I.tuple (by rw [hK]; exact sqT_of w h1)
    have hys : ys = ns.map Pv.int := intsP_eq e
    obtain ⟨o, ho, hc, n, hd⟩ := p
    refine ⟨a, rfl, ?_, by rw [← hys]; exact r0, fun hne => ?_⟩
    · unfold tupKeyC
      have t : isTupObj s.heap (.ref a) = true := by
        unfold isTupObj
        simp only [ho, hc]
        decide
      rw [if_pos t]
      unfold PyProof.Rows.tupKey
      simp only [ho, hd]
      exact tupItems_ints 0 rv
    · cases ns with
      | nil => exact absurd rfl hne
      | cons n0 ns =>
        cases its with
        | nil => cases rv
        | cons f its =>
          cases rv with
          | cons k1 k2 =>
            obtain ⟨t, rfl⟩ := k1
            exact ⟨_, a, o, _, n, rfl, ho, hc, hd, by simp, fun _ => ⟨n0, t, rfl⟩, fun z => by cases z⟩

def tupsI : List Pv → Option (List (List Int))
  | [] => some []
  | .tup xs :: r => match intsP xs with | some n => (match tupsI r with | some ns => some (n :: ns) | none => none) | none => none
  | _ => none
def okT (ks : List (List Int)) : Bool := Nat.blt ks.length 2 || ks.all (fun k => !k.isEmpty)
def tupJ (k : List Int) : Pv := .tup (k.map Pv.int)
theorem kps_of (hK : X.K = G.K) (w : WOk G W H S) (I : Inv X pins σ H s) : ∀ {xs : List V} {us : List Value} {zs : List Pv} {ks : List (List Int)}, RVs G W xs zs → tupsI zs = some ks → Vals xs us → us.map (nsOf s.heap) = ks ∧ ∀ u ∈ us, KP G W s.heap u (nsOf s.heap u)
  | _, us, _, ks, .nil, h, v => by
    cases h
    cases v
    exact ⟨rfl, fun u m => by cases m⟩
  | _, us, z :: zs, ks, .cons r1 r2, h, v => by
    cases z with
    | tup ys =>
      simp only [tupsI] at h
      cases q : intsP ys with
      | none => rw [q] at h; cases h
      | some n =>
        rw [q] at h
        cases q2 : tupsI zs with
        | none => rw [q2] at h; cases h
        | some ns =>
          rw [q2] at h; cases h
          cases v with
          | cons v1 v2 =>
            have k := kp_of hK w I r1 q v1
            obtain ⟨e1, e2⟩ := kps_of hK w I r2 q2 v2
            have e := kp_ns k
            refine ⟨by rw [List.map_cons, e, e1], fun u m => ?_⟩
            rcases List.mem_cons.mp m with rfl | m
            · rw [e]; exact k
            · exact e2 u m
    | _ => cases h
def bk : Value → V
  | .ref p => .ref p
  | _ => .non
theorem back_of {h : Heap} : ∀ {out : List Value}, (∀ u ∈ out, KP G W h u (nsOf h u)) → Vals (out.map bk) out ∧ RVs G W (out.map bk) ((out.map (nsOf h)).map tupJ)
  | [], _ => ⟨.nil, .nil⟩
  | u :: out, k => by
    obtain ⟨v, r⟩ := back_of fun u m => k u (List.mem_cons_of_mem _ m)
    obtain ⟨p, rfl, _, r0, _⟩ := k u (List.mem_cons_self ..)
    exact ⟨.cons rfl v, .cons r0 r⟩
theorem sort_keys {h : Heap} {us out : List Value} {ks : List (List Int)} (e : us.map (nsOf h) = ks) (k : ∀ u ∈ us, KP G W h u (nsOf h u)) (hp : out.Perm us) (hs : SrtO.Srtd (ltK h) out) : out.map (nsOf h) = isortT ks := by
  have k2 : ∀ u ∈ out, KP G W h u (nsOf h u) := fun u m => k u (hp.mem_iff.mp m)
  refine isortT_eq (e ▸ hp.map _) (List.pairwise_map.mpr (List.Pairwise.imp_of_mem (fun {a b} ma mb hab => ?_) hs))
  rw [← kp_lt (k2 b mb) (k2 a ma)]
  exact hab
theorem keeps_of {h h1 h' : Heap} {a : Addr} (k1 : ∀ (b : Addr) (o : Obj), h.get? b = some o → b ≠ a ∧ h1.get? b = some o) (k2 : ∀ (b : Addr) (o : Obj), b ≠ a → h1.get? b = some o → h'.get? b = some o) : KeepsTups h h' :=
  fun b o q _ => k2 b o (k1 b o q).1 (k1 b o q).2
theorem tups_of {h : Heap} : ∀ {us : List Value}, (∀ u ∈ us, KP G W h u (nsOf h u)) → (∀ u ∈ us, nsOf h u ≠ []) → ∃ fs, TupsOf h nosh us fs
  | [], _, _ => ⟨[], .nil⟩
  | u :: us, k, e => by
    obtain ⟨fs, t⟩ := tups_of (us := us) (fun u m => k u (List.mem_cons_of_mem _ m)) fun u m => e u (List.mem_cons_of_mem _ m)
    obtain ⟨p, _, _, _, g⟩ := k u (List.mem_cons_self ..)
    obtain ⟨f, tf⟩ := g (e u (List.mem_cons_self ..))
    exact ⟨f :: fs, .cons tf t⟩
theorem sortable_tups {prog : Program} {w : World} {A : Around} {s0 : Shared} {h : Heap} {a : Addr} {us : List Value} (k : ∀ u ∈ us, KP G W h u (nsOf h u)) (ne : ∀ u ∈ us, nsOf h u ≠ []) (h2 : 2 ≤ us.length) (k1 : ∀ (b : Addr) (o : Obj), h.get? b = some o → b ≠ a ∧ s0.heap.get? b = some o) :
    SrtO.SortableO prog w A s0 a us (ltK h) := by
  intro h' k2
  have kt : KeepsTups h h' := keeps_of k1 k2
  obtain ⟨fs, t⟩ := tups_of k ne
  refine ⟨PyProof.Rows.tuples' true, fun Q E hq => PyProof.Rows.tup_kind (by rw [PyProof.Rows.G.TupsOf.length t]; omega) (PyProof.Rows.G.TupsOf.keep kt t) hq, fun p q mp mq => ?_⟩
  obtain ⟨p', e1, e2, _⟩ := k p.1 mp
  obtain ⟨q', f1, f2, _⟩ := k q.1 mq
  refine PyProof.Rows.G.tupC_ltAt (h := h) (s := { s0 with heap := h' }) true kt A _ p.1 q.1 _ _ e2 f2 ⟨rfl, ?_⟩
  show _ = ltK h p.1 q.1
  unfold ltK
  rw [e2, f2, Option.getD_some, Option.getD_some]
def gSortT : List Pv → Option Pv
  | [.lst xs] => match tupsI xs with
    | some ks => (match okT ks with | true => some (.lst ((isortT ks).map tupJ)) | false => none)
    | none => none
  | _ => none
def gSortTR : List Pv → List Pv → Option Pv
  | [.lst xs], [.bl true] => match tupsI xs with
    | some ks => (match okT ks with | true => some (.lst (((isortT ks).reverse).map tupJ)) | false => none)
    | none => none
  | _, _ => none
theorem okT_ne {h : Heap} {us : List Value} {ks : List (List Int)} (e : us.map (nsOf h) = ks) (o : okT ks = true) (h2 : 2 ≤ us.length) : ∀ u ∈ us, nsOf h u ≠ [] := by
  intro u m z
  have l : ks.length = us.length := by rw [← e, List.length_map]
  unfold okT at o
  rcases Bool.or_eq_true_iff.mp o with o | o
  · have : ks.length < 2 := by simpa [Nat.blt_eq] using o
    omega
  · have := List.all_eq_true.mp o (nsOf h u) (e ▸ List.mem_map.mpr ⟨u, m, rfl⟩)
    rw [z] at this
    cases this
/-- the new list -/
theorem sort_new (w : WOk G W H S) (I : Inv X pins σ H s) {us out : List Value} {ys : List V} {zs : List Pv} {Q : VK} (hl : out.length ≤ sizeLine) (v : Vals ys out) (r : RVs G W ys zs)
    (q : ∀ W' H' z, Ext W H W' H' → WOk G W' H' S → RV G W' z (.lst zs) → Q z H') :
    EP X pins σ Q (.ref (s.heap.objs.size + 1)) { s with heap := PyProof.Rows.sortedAll s.heap us out.toArray } := by
  obtain ⟨ep, he⟩ := PyProof.Rows.sortedAll_at s.heap us out.toArray
  have hn : H (s.heap.objs.size + 1) = none := I.hok.fresh (Nat.le_succ _)
  obtain ⟨w2, e2⟩ := w.alloc (o := .lst ys) hn trivial
  refine ⟨.ref _, upd H (s.heap.objs.size + 1) (.lst ys), I.laid (t' := s.toks) (o := .lst ys) (fun b ob q => PyProof.Rows.sortedAll_old q) (Nat.le_succ _) ⟨by rw [v.length]; exact hl, out, ep, v, he⟩, rfl, ?_⟩
  exact q _ _ _ e2 w2 (.lst upd_same (r.mono e2.le))
theorem c_sortT (hK : X.K = G.K) : CallR X (.builtin "sorted") (rCall G gSortT) := by
  intro pins s σ H xs us Q I r h
  obtain ⟨W, S, vs, v, w, rv, e, q⟩ := h
  unfold gSortT at e
  split at e
  · rename_i zs
    cases c : tupsI zs with
    | none => rw [c] at e; cases e
    | some ks =>
      rw [c] at e
      simp only at e
      cases o : okT ks with
      | false => rw [o] at e; cases e
      | true =>
        rw [o] at e; cases e
        obtain ⟨x1, rfl, r1⟩ := rvs1 rv
        cases r1 with
        | lst h1 h2 =>
          obtain ⟨u, rfl, ru⟩ := r.one
          cases ru
          obtain ⟨its, ri, p, hz⟩ := I.list (by rw [hK]; exact sqL_of w (.inl (.inl h1)))
          obtain ⟨e1, k⟩ := kps_of hK w I h2 c ri
          refine SrtO.sorted_ord (swo_K s.heap) p.isList (by rw [← ri.length]; exact hz) (fun h2' h1' a' _ k1 => sortable_tups k (okT_ne e1 o h2') h2' k1) fun out hs hst => ?_
          have k2 : ∀ u ∈ out, KP G W s.heap u (nsOf s.heap u) := fun u m => k u (hst.perm.mem_iff.mp m)
          obtain ⟨b1, b2⟩ := back_of k2
          rw [sort_keys e1 k hst.perm hs] at b2
          exact sort_new w I (by rw [hst.perm.length_eq, ← ri.length]; exact hz) b1 b2 q
  · cases e
end
end Pev

set_option Elab.async false
set_option linter.all false
set_option maxRecDepth 100000
set_option maxHeartbeats 4000000
namespace Pev
open PySem PySem.Spec L2
/-! ### a built-in called with a keyword -/
section
variable {X : Cx} {G : Gc} {Ex : WX} {e : Expr} {es : List Expr} {ras rks : EvFs} {kws : List Keyword}
def rCallK (G : Gc) (g : List Pv → List Pv → Option Pv) : List V → List V → Hp → VK → Prop := fun xs zs H Q => ∃ W S vs ws v, WOk G W H S ∧ RVs G W xs vs ∧ RVs G W zs ws ∧ g vs ws = some v ∧ ∀ W' H' z, Ext W H W' H' → WOk G W' H' S → RV G W' z v → Q z H'
def evBK (g : List Pv → List Pv → Option Pv) (ras rks : EvFs) : EvF := fun env S => (ras env S).bind fun vs S1 => (rks env S1).bind fun ws S2 => match g vs ws with | some v => .ok v S2 | none => .stuck
theorem b_callK {x : Str} {p pos : Pos} {id : String} {ks : List Str} {g : List Pv → List Pv → Option Pv} (hc : CallRK X (.builtin id) ks (rCallK G g)) (hg : Gl X x) (hm : X.mg x = none) (hv : bootBuiltins x = some (.builtin id)) (ha : PA X (e :: es) (tA G Ex ras)) (hk : KSound X G Ex kws rks)
    (h1 : x ≠ "__name__") (h2 : (x == ("__debug__" : Str)) = false) (h3 : backTo pos (starEach (e :: es) X.env) = (false, eval e X.env) :: backTo pos (starEach es X.env)) (h4 : (backTo pos (starEach (e :: es) X.env)).any (·.1) = false)
    (h5 : (backToKw pos (keywordEach kws X.env)).all (fun x => x.1.isSome) = true) (h6 : (backToKw pos (keywordEach kws X.env)).any (fun x => x.1.isNone) = false) (h7 : (backToKw pos (keywordEach kws X.env)).filterMap (·.1) = ks) :
    PE X (.Call (.Name x p) (e :: es) kws pos) (tE G Ex (evBK g ras rks)) := pe_imp (pe_callBK hc hg hm hv ha hk.pk h1 h2 h3 h4 h5 h6 h7) fun σ H Q h => by
  obtain ⟨H0, W, S, env, A, o⟩ := h
  refine ⟨H0, W, S, env, A, o.bind fun vs S1 W1 H1 xs e1 w1 r1 o1 => ?_⟩
  refine ⟨H0, W1, S1, env, A.ext e1 w1, o1.bind fun ws S2 W2 H2 zs e2 w2 r2 o2 => ?_⟩
  cases q : g vs ws with
  | none => rw [q] at o2; exact o2.elim
  | some v => rw [q] at o2; exact ⟨W2, S2, vs, ws, v, w2, r1.mono e2.le, r2, q, fun W' H' z e w r => o2 W' H' z e w r⟩
theorem c_sortTR (hK : X.K = G.K) : CallRK X (.builtin "sorted") ["reverse"] (rCallK G gSortTR) := by
  intro pins s σ H xs zs us ws Q I rx rz h
  obtain ⟨W, S, vs, vz, v, w, rv, rvz, e, q⟩ := h
  unfold gSortTR at e
  split at e
  · rename_i l
    cases c : tupsI l with
    | none => rw [c] at e; cases e
    | some ks =>
      rw [c] at e
      simp only at e
      cases o : okT ks with
      | false => rw [o] at e; cases e
      | true =>
        rw [o] at e; cases e
        obtain ⟨x1, rfl, r1⟩ := rvs1 rv
        obtain ⟨z1, rfl, r2⟩ := rvs1 rvz
        cases r2
        cases r1 with
        | lst h1 h2 =>
          obtain ⟨u, rfl, ru⟩ := rx.one
          cases ru
          obtain ⟨y, rfl, ry⟩ := rz.one
          cases (show y = Value.bool true from ry)
          obtain ⟨its, ri, p, hz⟩ := I.list (by rw [hK]; exact sqL_of w (.inl (.inl h1)))
          obtain ⟨e1, k⟩ := kps_of hK w I h2 c ri
          refine SrtR.sorted_ordK (b := true) (kw := [("reverse", .bool true)]) (fun _ => rfl) (PyProof.Rows.args_sorted_rev _ _) (fun x => PyProof.Rows.args_list_sort_rev x _) (swo_K s.heap) p.isList (by rw [← ri.length]; exact hz) (fun h2' h1' a' _ k1 => sortable_tups k (okT_ne e1 o h2') h2' k1) fun out hs hst => ?_
          rw [if_pos rfl] at hst ⊢
          have hp : out.Perm its := hst.perm.trans (List.reverse_perm its)
          have k2 : ∀ u ∈ out, KP G W s.heap u (nsOf s.heap u) := fun u m => k u (hp.mem_iff.mp m)
          obtain ⟨b1, b2⟩ := back_of k2
          rw [sort_keys e1 k hp hs] at b2
          have e3 : out.toArray.reverse = out.reverse.toArray := by simp
          rw [e3]
          exact sort_new w I (by rw [List.length_reverse, hp.length_eq, ← ri.length]; exact hz) (vals_rev b1) (zs := (isortT ks).reverse.map tupJ) (by rw [show (isortT ks).reverse.map tupJ = ((isortT ks).map tupJ).reverse from List.map_reverse ..]; exact rvs_rev b2) q
  · cases e
end
end Pev

set_option Elab.async false
set_option linter.all false
set_option maxRecDepth 100000
set_option maxHeartbeats 4000000
namespace Pev
open PySem PySem.Spec L2
/-! ### dict comprehensions whose keys are tuples of ints -/
def putK1 (ks : List (List Int)) (k : List Int) : List (List Int) := match ks.contains k with | true => ks | false => ks ++ [k]
def repV (k : List Int) (v : Pv) : List (List Int) → List Pv → List Pv
  | k' :: ks, v' :: vs => (if k' = k then v else v') :: repV k v ks vs
  | _, _ => []
def putV1 (ks : List (List Int)) (vs : List Pv) (k : List Int) (v : Pv) : List Pv := match ks.contains k with | true => repV k v ks vs | false => vs ++ [v]
def dcGo (t : Tg) (rt : List Slot → Sto → Res Bool) (rk rv : EvF) (env0 : List Slot) : List Pv → List (List Int) → List Pv → Sto → Res (List (List Int) × List Pv)
  | [], ks, vs, S => .ok (ks, vs) S
  | x :: xs, ks, vs, S => match bindT t x env0 with
    | none => .stuck
    | some env => match rt env S with
      | .ok true S1 => (match rk env S1 with
        | .ok (.tup ys) S2 => (match intsP ys with
          | some k => (match rv env S2 with
            | .ok v S3 => dcGo t rt rk rv env0 xs (putK1 ks k) (putV1 ks vs k v) S3
            | _ => .stuck)
          | none => .stuck)
        | _ => .stuck)
      | .ok false S1 => dcGo t rt rk rv env0 xs ks vs S1
      | _ => .stuck
def evDcT (t : Tg) (own : List Nat) (rs : EvFs) (rt : List Slot → Sto → Res Bool) (rk rv : EvF) : EvF := fun env S => (rs env S).bind fun xs S1 => match Nat.ble xs.length capLen with
  | true => (match dcGo t rt rk rv (wipeE env own) xs [] [] S1 with | .ok r S2 => .ok (.dct r.1 r.2) S2 | _ => .stuck)
  | false => .stuck
/-- the pairs of such a dict -/
structure RD (G : G0) (W : Wd) (kvs : TVs) (ks : List (List Int)) (vs : List Pv) : Prop where
  keys : kvs.map (fun x => x.1) = ks
  tups : ∀ x ∈ kvs, SqT G.K W.F x.2.1 (x.1.map V.int)
  vals : RVs G W (kvs.map fun x => x.2.2) vs
theorem RD.mono {G : G0} {W W' : Wd} {kvs : TVs} {ks : List (List Int)} {vs : List Pv} (l : W.Le W') (r : RD G W kvs ks vs) : RD G W' kvs ks vs := ⟨r.keys, fun x m => sqT'_le l.F (r.tups x m), r.vals.mono l⟩
theorem find_keys {k : List Int} : ∀ {kvs : TVs}, (kvs.find? fun x => decide (x.1 = k)).isSome = (kvs.map fun x => x.1).contains k
  | [] => rfl
  | x :: kvs => by
    rw [List.find?_cons, List.map_cons, List.contains_cons]
    by_cases c : x.1 = k
    · simp [c]
    · have c' : ¬ (k == x.1) = true := fun z => c (eq_of_beq z).symm
      simp only [c, decide_false, Bool.eq_false_iff.mpr c', Bool.false_or]
      exact find_keys
theorem rep_vals {G : G0} {W : Wd} {k : List Int} {z : V} {v : Pv} (rz : RV G W z v) : ∀ {kvs : TVs} {vs : List Pv}, RVs G W (kvs.map fun x => x.2.2) vs → RVs G W ((kvs.map fun x => if x.1 = k then (x.1, x.2.1, z) else x).map fun x => x.2.2) (repV k v (kvs.map fun x => x.1) vs)
  | [], _, .nil => .nil
  | x :: kvs, _ :: _, .cons r1 r2 => by
    rw [List.map_cons, List.map_cons, List.map_cons]
    unfold repV
    refine .cons ?_ (rep_vals rz r2)
    by_cases c : x.1 = k
    · simp only [c, if_true]; exact rz
    · simp only [c, if_false]; exact r1
theorem RD.put {G : G0} {W : Wd} {kvs : TVs} {ks : List (List Int)} {vs : List Pv} {k : List Int} {a : Addr} {z : V} {v : Pv} (r : RD G W kvs ks vs) (ha : SqT G.K W.F a (k.map V.int)) (rz : RV G W z v) : RD G W (putT kvs k a z) (putK1 ks k) (putV1 ks vs k v) := by
  obtain ⟨rfl, h2, h3⟩ := r
  unfold putT putK1 putV1
  rw [find_keys]
  cases c : (kvs.map fun x => x.1).contains k with
  | true =>
    rw [if_pos rfl]
    refine ⟨?_, fun x m => ?_, rep_vals rz h3⟩
    · rw [List.map_map]
      apply List.map_congr_left
      intro x _
      show (if x.1 = k then (x.1, x.2.1, z) else x).1 = x.1
      split <;> rfl
    · obtain ⟨y, my, e⟩ := List.mem_map.mp m
      rw [← e]
      have := h2 y my
      split
      · exact this
      · exact this
  | false =>
    rw [if_neg Bool.false_ne_true]
    refine ⟨by rw [List.map_append]; rfl, fun x m => ?_, by rw [List.map_append]; exact h3.append (.cons rz .nil)⟩
    rcases List.mem_append.mp m with m | m
    · exact h2 x m
    · rw [List.mem_singleton.mp m]; exact ha
theorem putT_len {kvs : TVs} {k : List Int} {a : Addr} {z : V} : (putT kvs k a z).length ≤ kvs.length + 1 := by
  unfold putT
  split
  · rw [List.length_map]; omega
  · rw [List.length_append]; exact Nat.le_refl _
section
variable {X : Cx} {G : Gc} {Ex : WX}
theorem heap_size : ∀ n : Nat, ∃ h : Heap, h.objs.size = n
  | 0 => ⟨{ objs := #[] }, rfl⟩
  | n + 1 => by
    obtain ⟨h, e⟩ := heap_size n
    exact ⟨h.push { cls := .none }, by rw [Heap.size_push, e]⟩
theorem dct_code {p : Addr} {kvs : TVs} {nm : Str} : dctH p kvs ≠ LamX.CodeO p nm := by
  intro e
  unfold LamX.CodeO at e
  have e2 := HO.ext.inj e
  obtain ⟨h, hs⟩ := heap_size p
  have e3 := congrFun e2 (h.push { cls := .none, data := .fields #[.none, .str nm 0] })
  have hg : (h.push ({ cls := .none, data := .fields #[.none, .str nm 0] } : Obj)).get? p = some { cls := .none, data := .fields #[.none, .str nm 0] } := by
    have := Heap.get?_push_size h (o := { cls := .none, data := .fields #[.none, .str nm 0] }) rfl
    rw [hs] at this; exact this
  have y : dctP p kvs (h.push { cls := .none, data := .fields #[.none, .str nm 0] }) := by
    rw [e3]
    exact ⟨_, _, 0, hg, rfl, rfl⟩
  obtain ⟨_, xs, _, o, es, ep, h1, _, h3, _⟩ := y
  rw [hg] at h1
  cases h1
  cases h3
theorem WOk.wrX {W : Wd} {H : Hp} {S : Sto} {p : Addr} {kvs : TVs} {u' : Heap → Prop} (w : WOk G W H S) (hp : H p = some (dctH p kvs)) (fp : W.F p = none) : WOk G W (upd H p (.ext u')) S := by
  refine ⟨fun a u h => ?_, w.plain, w.len, fun n a es h1 h2 => ?_, w.inj, fun q hq => ?_⟩
  rotate_right
  · obtain ⟨ps, h1, h2, h3⟩ := w.tabs q hq
    refine ⟨ps, by rw [upd_ne (fun z => by rw [z, hp] at h1; cases h1)]; exact h1, h2, fun pos cv hc => ?_⟩
    obtain ⟨c, e1, e2⟩ := h3 pos cv hc
    exact ⟨c, e1, by rw [upd_ne (fun z => by rw [z, hp] at e2; exact dct_code (Option.some.inj e2))]; exact e2⟩
  · have hne : a ≠ p := fun z => by rw [z, fp] at h; cases h
    rw [upd_ne hne]; exact w.le a u h
  · obtain ⟨f, kvs, hk, r⟩ := w.at_ n a es h1 h2
    have hne : a ≠ p := fun z => by rw [z, hp] at hk; cases hk
    exact ⟨f, kvs, by rw [upd_ne hne]; exact hk, r⟩

theorem dcGo_noexc {t : Tg} {rt : List Slot → Sto → Res Bool} {rk rv : EvF} {env0 : List Slot} : ∀ {xs : List Pv} {ks : List (List Int)} {vs : List Pv} {S : Sto} {c : Nat} {fs : Ent} {S' : Sto}, dcGo t rt rk rv env0 xs ks vs S ≠ .exc c fs S'
  | [], _, _, S, _, _, _, h => by simp [dcGo] at h
  | x :: xs, _, _, S, _, _, _, h => by
    unfold dcGo at h
    split at h
    · cases h
    · split at h
      · split at h
        · split at h
          · split at h
            · exact dcGo_noexc h
            · cases h
          · cases h
        · cases h
      · exact dcGo_noexc h
      · cases h
theorem dc_read {σ : L2.St} {H : Hp} {Q : VK} {own : List (Str × Nat)} {t : Tg} {rs : EvFs} {rt : List Slot → Sto → Res Bool} {rk rv : EvF} (hK : X.K = G.K) (hslots : ∀ j ∈ t.slots, j ∈ own.map (·.2)) (h : tE G Ex (evDcT t (own.map (·.2)) rs rt rk rv) σ H Q) :
    tDcT X.K (tI G Ex rs) (tG G t) (tT G noX rt) (tE G noX rk) (tE G noX rv) (own.map (·.2)) σ H Q := by
  rw [hK]
  obtain ⟨H0, W, S, env, A, o⟩ := h
  refine ⟨H0, W, S, env, A, o.bindI fun xs S1 W1 H1 J e1 w1 wk o1 D hD => ?_⟩
  cases c : Nat.ble xs.length capLen with
  | false => rw [c] at o1; exact o1.elim
  | true =>
    rw [c] at o1
    simp only at o1
    have hcap := Nat.le_of_ble_eq_true c
    have fD : W1.F D = none := by
      cases z : W1.F D with
      | none => rfl
      | some u => have := w1.le D u z; rw [hD] at this; cases this
    cases q : dcGo t rt rk rv (wipeE env (own.map (·.2))) xs [] [] S1 with
    | stuck => rw [q] at o1; exact o1.elim
    | exc _ _ _ => exact absurd q dcGo_noexc
    | ok res S9 =>
      rw [q] at o1
      refine ⟨fun i m H' => m = xs.length - i ∧ i ≤ xs.length ∧ ∃ W2 S2 acc ks vs, Ext W1 H1 W2 H' ∧ WOk G W2 H' S2 ∧ H' D = some (dctH D acc) ∧ W2.F D = none ∧ acc.length ≤ i ∧ RD G W2 acc ks vs ∧
        dcGo t rt rk rv (wipeE env (own.map (·.2))) (xs.drop i) ks vs S2 = .ok res S9, ?_, ?_⟩
      · obtain ⟨w2, e2⟩ := w1.new (o := dctH D []) hD
        exact ⟨xs.length, by simp, Nat.zero_le _, W1, S1, [], [], [], e2, w2, upd_same, fD, Nat.le_refl _, ⟨rfl, fun x m => (by cases m), .nil⟩, q⟩
      · rintro i m H' ⟨rfl, hi, W2, S2, acc, ks, vs, e2, w2, hacc, f2, hl, racc, g1⟩
        by_cases hlt : i < xs.length
        · refine .inr ⟨wk.go i W2 H' S2 hlt e2.le w2, fun H' => i + 1 ≤ xs.length ∧ ∃ W2 S2 acc ks vs, Ext W1 H1 W2 H' ∧ WOk G W2 H' S2 ∧ H' D = some (dctH D acc) ∧ W2.F D = none ∧ acc.length ≤ i + 1 ∧ RD G W2 acc ks vs ∧
            dcGo t rt rk rv (wipeE env (own.map (·.2))) (xs.drop (i + 1)) ks vs S2 = .ok res S9, fun H'' hh => ⟨xs.length - (i + 1), by omega, rfl, hh.1, hh.2⟩, fun x H3 y => ?_⟩
          obtain ⟨W3, v, hv, e3, w3, rv3⟩ := wk.yld i W2 H' S2 x H3 hlt e2.le w2 y
          have hdrop : xs.drop i = v :: xs.drop (i + 1) := by
            rw [List.drop_eq_getElem_cons hlt]
            have : xs[i] = v := by rw [List.getElem?_eq_getElem hlt] at hv; exact Option.some.inj hv
            rw [this]
          rw [hdrop] at g1
          have stay : ∀ {W4 : Wd} {H4 : Hp}, Ext W3 H3 W4 H4 → H4 D = some (dctH D acc) ∧ W4.F D = none := fun {W4 H4} e4 => by
            have e24 := e3.trans e4
            exact ⟨e24.keep D _ hacc (w2.off hacc fun _ z => by cases z) (fun _ z => by cases z), e24.fresh D _ f2 hacc (fun _ z => by cases z)⟩
          have A3 : At G H0 W3 S2 (L2.wipe σ (own.map (·.2))) H3 (wipeE env (own.map (·.2))) := ⟨w3, (A.s.ext A.w (e1.trans (e2.trans e3))).wipe _, A.e0.trans (e1.trans (e2.trans e3))⟩
          cases cb : bindT t v (wipeE env (own.map (·.2))) with
          | none => unfold dcGo at g1; rw [cb] at g1; cases g1
          | some env1 =>
            refine ⟨H0, W3, S2, _, v, env1, A3, rv3, cb, fun σ2 k2 l2 A2 => ⟨wipe_same (l2.trans (wipe_length _ _)) fun j hj => k2 j fun hs => hj (hslots j hs), ?_⟩⟩
            unfold dcGo at g1
            rw [cb] at g1
            simp only at g1
            refine ⟨H0, W3, S2, env1, A2, ?_⟩
            cases ct : rt env1 S2 with
            | stuck => rw [ct] at g1; cases g1
            | exc _ _ _ => rw [ct] at g1; cases g1
            | ok b S4 =>
              rw [ct] at g1
              intro W4 H4 bb e4 w4 eb
              subst eb
              cases bb with
              | false =>
                simp only at g1
                rw [if_neg Bool.false_ne_true]
                obtain ⟨k1, k2'⟩ := stay e4
                exact ⟨hlt, W4, S4, acc, ks, vs, e2.trans (e3.trans e4), w4, k1, k2', by omega, racc.mono (e3.trans e4).le, g1⟩
              | true =>
                simp only at g1
                rw [if_pos rfl]
                refine ⟨H0, W4, S4, env1, A2.ext e4 w4, ?_⟩
                cases ce : rk env1 S4 with
                | stuck => rw [ce] at g1; cases g1
                | exc _ _ _ => rw [ce] at g1; cases g1
                | ok v' S5 =>
                  rw [ce] at g1
                  intro W5 H5 y5 e5 w5 r5
                  cases v' with
                  | tup ys =>
                    simp only at g1
                    cases ci : intsP ys with
                    | none => rw [ci] at g1; cases g1
                    | some k =>
                      rw [ci] at g1
                      simp only at g1
                      refine ⟨H0, W5, S5, env1, (A2.ext e4 w4).ext e5 w5, ?_⟩
                      cases cv : rv env1 S5 with
                      | stuck => rw [cv] at g1; cases g1
                      | exc _ _ _ => rw [cv] at g1; cases g1
                      | ok v6 S6 =>
                        rw [cv] at g1
                        simp only at g1
                        intro W6 H6 z6 e6 w6 r6
                        cases r5 with
                        | tup h1 h2 =>
                          rename_i a ws
                          have hws := ints_of h2 ci
                          subst hws
                          obtain ⟨k1, k2'⟩ := stay (e4.trans (e5.trans e6))
                          have tF6 : SqT G.K W6.F a (k.map V.int) := sqT'_le e6.le.F h1.T
                          have ra := racc.mono (e3.trans (e4.trans (e5.trans e6))).le
                          refine ⟨acc, k, a, rfl, k1, Nat.lt_of_le_of_lt hl (Nat.lt_of_lt_of_le hlt (cap_line hcap)), sqT'_le w6.le tF6, fun x m => sqT'_le w6.le (ra.tups x m), hlt, W6, S6, putT acc k a z6, _, _, ?_, w6.wrX k1 k2', upd_same, k2', ?_, ra.put tF6 r6, g1⟩
                          · have e15 := e2.trans (e3.trans (e4.trans (e5.trans e6)))
                            refine ⟨e15.F, e15.fresh, fun a u h n t => ?_, fun a u h t => ?_, e15.ad⟩
                            · rw [upd_ne (ne_of_none h hD)]; exact e15.keep a u h n t
                            · rw [upd_ne (ne_of_none h hD)]; exact e15.there a u h t
                          · exact Nat.le_trans putT_len (Nat.succ_le_succ hl)
                  | _ => cases g1
        · have ei : i = xs.length := by omega
          subst ei
          refine .inl ⟨wk.stop W2 H' S2 e2.le w2, ?_⟩
          rw [List.drop_length] at g1
          unfold dcGo at g1
          cases g1
          have wz := w2.freeze hacc (show Plain (dctH D acc) from trivial) (w2.off hacc fun _ z => by cases z)
          have le : W2.Le ⟨upd W2.F D (dctH D acc), W2.ad⟩ := ⟨fun a u h => by
            show upd W2.F D (dctH D acc) a = _
            rw [upd_ne (ne_of_none h f2)]; exact h, fun _ _ h => h⟩
          have rz := racc.mono le
          have rr : RV G ⟨upd W2.F D (dctH D acc), W2.ad⟩ (.ref D) (.dct ks vs) := by
            rw [← rz.keys]
            exact .dct upd_same rz.tups rz.vals
          refine o1 ⟨upd W2.F D (dctH D acc), W2.ad⟩ H' _ ⟨fun a u h => le.F a u (e2.F a u h), fun a u h n' t => ?_, e2.keep, e2.there, e2.ad⟩ wz rr
          show upd W2.F D (dctH D acc) a = none
          have hne : a ≠ D := fun z => by rw [z, hD] at n'; cases n'
          rw [upd_ne hne]
          exact e2.fresh a u h n' t
theorem e_dcT {kx vx tg iter : Expr} {ifs : List Expr} {scope : Scope} {own : List (Str × Nat)} {pos : Pos} {t : Tg} {rs : EvFs} {rt : List Slot → Sto → Res Bool} {rk rv : EvF} (hK : X.K = G.K) (hu : X.A.units + 64 < cLine) (hc : X.calm = true) (hN : X.N.Nodup) (hi : PI X tg iter (tI G Ex rs)) (ok : BlkOk X.N X.env.scope scope own) (hslots : ∀ j ∈ t.slots, j ∈ own.map (·.2))
    (hg : ∀ (s : Shared) (H : Hp) (C : Addr) (cl : List (Str × Addr)) (fp : List Addr), PG (X.blk s H scope (compEnvC scope cl C X.env) fp) tg (tG G t)) (ht : ∀ (s : Shared) (H : Hp) (C : Addr) (cl : List (Str × Addr)) (fp : List Addr), PTs (X.blk s H scope (compEnvC scope cl C X.env) fp) ifs (tT G noX rt))
    (hk : ∀ (s : Shared) (H : Hp) (C : Addr) (cl : List (Str × Addr)) (fp : List Addr), PE (X.blk s H scope (compEnvC scope cl C X.env) fp) kx (tE G noX rk)) (he : ∀ (s : Shared) (H : Hp) (C : Addr) (cl : List (Str × Addr)) (fp : List Addr), PE (X.blk s H scope (compEnvC scope cl C X.env) fp) vx (tE G noX rv)) (hs : ∀ x, foldedSetIterable iter X.env x = pure x) :
    PE X (.DictComp kx vx [⟨tg, iter, ifs, 0⟩] scope pos) (tE G Ex (evDcT t (own.map (·.2)) rs rt rk rv)) :=
  pe_imp (pe_dcT (by omega) hc hN hi ok hg ht hk he hs) fun σ H Q h => dc_read hK hslots h
end
end Pev

set_option Elab.async false
set_option linter.all false
set_option maxRecDepth 100000
set_option maxHeartbeats 4000000
namespace Pev
open PySem PySem.Spec L2
/-! ### x in d, x not in d: keys that are tuples of ints -/
def inDP : Pv → Pv → Option Bool
  | .tup xs, .dct ks _ => match intsP xs with | some k => some (ks.contains k) | none => none
  | _, _ => none
def cInD (a b : Pv) : Option Pv := match inDP a b with | some k => some (.bl k) | none => none
def cNotInD (a b : Pv) : Option Pv := match inDP a b with | some k => some (.bl (!k)) | none => none
theorem booly_cInD : Booly cInD := by intro va vb v h; unfold cInD at h; split at h <;> cases h; exact ⟨_, rfl⟩
theorem booly_cNotInD : Booly cNotInD := by intro va vb v h; unfold cNotInD at h; split at h <;> cases h; exact ⟨_, rfl⟩
section
variable {X : Cx} {G : Gc} {W : Wd} {S : Sto} {pins : List (Addr × Obj)} {σ : L2.St} {H : Hp} {s : Shared}
theorem o_inD0 (hK : X.K = G.K) (hu : X.A.units + 65 < cLine) (w : WOk G W H S) (I : Inv X pins σ H s) {x y : V} {v u : Value} {va vb : Pv} {k : Bool} (rx : RelV x v) (ry : RelV y u) (r1 : RV G W x va) (r2 : RV G W y vb) (c : inDP va vb = some k) :
    (∀ Q : VK, Q (.bl k) H → wpAny (model X.prog X.w) X.A (compareOp .In v u) (EP X pins σ Q) X.xe s) ∧ ∀ Q : VK, Q (.bl (!k)) H → wpAny (model X.prog X.w) X.A (compareOp .NotIn v u) (EP X pins σ Q) X.xe s := by
  unfold inDP at c
  split at c
  · rename_i xs ks vs
    cases ci : intsP xs with
    | none => rw [ci] at c; cases c
    | some key =>
      rw [ci] at c
      simp only at c
      cases c
      cases r1 with
      | tup h1 h2 =>
        rename_i a ws
        cases rx
        have hws := ints_of h2 ci
        subst hws
        have ha : SqT X.K H a (key.map V.int) := by rw [hK]; exact sqT_of w h1
        generalize hks : ks = ks' at r2
        cases r2 with
        | dct g1 g2 g3 =>
          rename_i D kvs
          cases ry
          obtain ⟨hd, ys, p, dd⟩ := dct_full I (w.le _ _ g1) (fun x m => by rw [hK]; exact sqT'_le w.le (g2 x m))
          have e : (atKey ys key).isSome = (kvs.map fun x => x.1).contains key := by rw [← find_rel p, find_keys]
          have hroom : (tupleKind (intKind X.prog X.w)).room X.A.in1 := by
            show X.A.in1.units < cLine
            unfold Around.in1
            simp only
            omega
          refine ⟨fun Q q => wpAny_in_heap hroom (key_is I ha) hd dd ?_, fun Q q => PyProof.Rows.wpAny_notIn_heap hroom (key_is I ha) hd dd ?_⟩
          · rw [e]; exact ⟨.bl _, H, I.tok _, rfl, q⟩
          · rw [e]; exact ⟨.bl _, H, I.tok _, rfl, q⟩
  · cases c
theorem o_inD (hK : X.K = G.K) (hu : X.A.units + 65 < cLine) : OpR X (compareOp .In) (rOp G cInD) := by
  intro pins s σ H x y v u Q I rx ry h
  obtain ⟨W, S, va, vb, z, w, r1, r2, e, q⟩ := h
  unfold cInD at e
  cases c : inDP va vb with
  | none => rw [c] at e; cases e
  | some k =>
    rw [c] at e; cases e
    exact (o_inD0 hK hu w I rx ry r1 r2 c).1 Q (q W H _ (Ext.refl _ _) w (.bl _))
theorem o_notInD (hK : X.K = G.K) (hu : X.A.units + 65 < cLine) : OpR X (compareOp .NotIn) (rOp G cNotInD) := by
  intro pins s σ H x y v u Q I rx ry h
  obtain ⟨W, S, va, vb, z, w, r1, r2, e, q⟩ := h
  unfold cNotInD at e
  cases c : inDP va vb with
  | none => rw [c] at e; cases e
  | some k =>
    rw [c] at e; cases e
    exact (o_inD0 hK hu w I rx ry r1 r2 c).2 Q (q W H _ (Ext.refl _ _) w (.bl _))
end
end Pev

set_option Elab.async false
set_option linter.all false
set_option maxRecDepth 100000
set_option maxHeartbeats 4000000
namespace Lw
open PyProof.Rows (envOfC)
open PySem PySem.Spec L2 LamX Pev
def top (i : Nat) : Stmt := PySem.Challenge.pw_starshelves_k06_free_lots_told.main.body.getD i (.Pass ⟨0, 0, 0, 0⟩)

abbrev si_NotUsable : Stmt := inClass (top 7) 0
theorem sci_NotUsable : FnScope ["self", "word", "at"] ["self", "word", "at"] (defScope si_NotUsable) := ⟨rfl, rfl, rfl, by decide +kernel, rfl, by decide +kernel, by decide +kernel⟩
def it_HallError : Nat → Option Bool := fun c => match c with | 0 => some true | _ => none
def it_InvalidPaper : Nat → Option Bool := fun c => match c with | 0 => some false | _ => none
def it_LiveError : Nat → Option Bool := fun c => match c with | 0 => some false | _ => none
def it_NotUsable : Nat → Option Bool := fun c => match c with | 0 => some true | _ => none
def it_PaperError : Nat → Option Bool := fun c => match c with | 0 => some false | _ => none
def it_TextError : Nat → Option Bool := fun c => match c with | 0 => some false | _ => none
def it_ValueError : Nat → Option Bool := fun c => match c with | 0 => some true | _ => none
def ct_ShelfError : Nat → Option Bool := fun c => match c with | 0 => some true | _ => none
abbrev s__law_feed : Stmt := top 41
theorem sc__law_feed : FnScope ["_law_script"] ["_law_script"] (defScope s__law_feed) := ⟨rfl, rfl, rfl, by decide +kernel, rfl, by decide +kernel, by decide +kernel⟩
def b__law_feed : EvS := (evRet (evDisp [("cells", (evB gList (evCons (evSl (evVar 0) (fun _ S => .ok none S) (evP (evCon (.int 63)))) evNil))), ("next", (evCon (.int 0))), ("kept", (evCon (.int 0))), ("laps", (evCon (.int 0)))]))
def cf__law_feed : CallF := runB 1 b__law_feed
theorem d__law_feed {P : Program} {w : World} {g : G0} {mg : Str → Option Value} {base : Heap} (b_list : mg "list" = none) {f : Addr} {fd : FuncData} (F : Fun g.K "_law_feed" "_law_feed" s__law_feed f fd)  : FnG P w g.K mg base (L2.CX P w) 1 f fd ["_law_script"] (spF g 1 cf__law_feed) :=
  fn_ev F (k := 0) sc__law_feed fun G cdv A outer s H E hG hr hgd => by
    subst hG
    exact (ss_one (s_ret (e_disp (its := [("cells", (evB gList (evCons (evSl (evVar 0) (fun _ S => .ok none S) (evP (evCon (.int 63)))) evNil))), ("next", (evCon (.int 0))), ("kept", (evCon (.int 0))), ("laps", (evCon (.int 0)))]) (pps_cons pe_str (b_ty (c_list rfl) rfl b_list PyProof.Rows.Boot.«list» (a1 (e_slice rfl (e_var (i := 0) rfl (by first | exact .inl rfl | exact .inr (.inl rfl) | exact .inr (.inr rfl)) rfl rfl) p_none (p_some (e_con pe_int fun _ => .int 63))) a0)) (pps_cons pe_str (e_con pe_int fun _ => .int 0) (pps_cons pe_str (e_con pe_int fun _ => .int 0) (pps_cons pe_str (e_con pe_int fun _ => .int 0) pps_nil)))) rfl rfl (fun z => nomatch z) (by decide))))
abbrev s__law_tomes : Stmt := top 46
theorem sc__law_tomes : FnScope ["_law_keep", "_law_pairs", "_law_sixes", "_law_found"] [] (defScope s__law_tomes) := ⟨rfl, rfl, rfl, by decide +kernel, rfl, by decide +kernel, by decide +kernel⟩
def b__law_tomes : EvS := (evSeqS (evAsg (.tp [(.nm 0), (.nm 1)]) (evTup (evCons (evTup (evCons (evCon (.int 5)) (evCons (evCon (.int 4)) (evCons (evTup (evCons (evTup (evCons (evCon (.int 1)) (evCons (evCon (.int 0)) (evCons (evCon (.int 4)) (evCons (evCon (.int 3)) evNil))))) (evCons (evTup (evCons (evCon (.int 0)) (evCons (evCon (.int 1)) (evCons (evCon (.int 2)) (evCons (evCon (.int 3)) evNil))))) evNil))) evNil)))) (evCons (evTup (evCons (evCon (.int 5)) (evCons (evCon (.int 4)) (evCons (evTup (evCons (evTup (evCons (evCon (.int 1)) (evCons (evCon (.int 1)) (evCons (evCon (.int 0)) (evCons (evCon (.int 0)) evNil))))) (evCons (evTup (evCons (evCon (.int 0)) (evCons (evCon (.int 0)) (evCons (evCon (.int 1)) (evCons (evCon (.int 2)) evNil))))) evNil))) evNil)))) evNil)))) (evSeqS (evAsg (.nm 2) (evTup (evCons (evTup (evCons (evCon (.int 0)) (evCons (evCon (.int 1)) evNil))) (evCons (evTup (evCons (evCon (.int 0)) (evCons (evCon (.int 2)) evNil))) (evCons (evTup (evCons (evCon (.int 0)) (evCons (evCon (.int 3)) evNil))) (evCons (evTup (evCons (evCon (.int 1)) (evCons (evCon (.int 2)) evNil))) (evCons (evTup (evCons (evCon (.int 1)) (evCons (evCon (.int 3)) evNil))) (evCons (evTup (evCons (evCon (.int 2)) (evCons (evCon (.int 3)) evNil))) evNil)))))))) (evSeqS (evAsgF 3 (evLstF (evCons (evTup (evCons (evVar 0) (evCons (evVar 2) (evCons (evTup (evCons (evTup (evCons (evCon (.int 0)) (evCons (evCon (.int 1)) (evCons (evCon (.int 2)) evNil)))) (evCons (evTup (evCons (evCon (.int 0)) (evCons (evCon (.int 1)) (evCons (evCon (.int 3)) evNil)))) (evCons (evTup (evCons (evCon (.int 0)) (evCons (evCon (.int 2)) (evCons (evCon (.int 3)) evNil)))) (evCons (evTup (evCons (evCon (.int 1)) (evCons (evCon (.int 2)) (evCons (evCon (.int 3)) evNil)))) evNil))))) (evCons (evLst (evCons (evTup (evCons (evTup evNil) (evCons (evCon (.bl true)) (evCons (evCon (.int 0)) (evCons (evTup evNil) (evCons (evCon (.non)) evNil)))))) (evCons (evTup (evCons (evTup (evCons (evCon (.int 0)) (evCons (evCon (.int 3)) evNil))) (evCons (evCon (.bl true)) (evCons (evCon (.int 2)) (evCons (evTup (evCons (evCon (.int 0)) (evCons (evCon (.int 1)) (evCons (evCon (.int 2)) (evCons (evCon (.int 3)) evNil))))) (evCons (evCon (.non)) evNil)))))) (evCons (evTup (evCons (evTup (evCons (evCon (.int 2)) evNil)) (evCons (evCon (.bl true)) (evCons (evCon (.int 1)) (evCons (evTup (evCons (evCon (.int 2)) evNil)) (evCons (evCon (.non)) evNil)))))) (evCons (evTup (evCons (evTup (evCons (evCon (.int 0)) (evCons (evCon (.int 1)) (evCons (evCon (.int 2)) evNil)))) (evCons (evCon (.bl false)) (evCons (evCon (.int 2)) (evCons (evTup (evCons (evCon (.int 0)) (evCons (evCon (.int 1)) (evCons (evCon (.int 2)) (evCons (evCon (.int 3)) evNil))))) (evCons (evTup (evCons (evCon (.int 0)) (evCons (evCon (.int 1)) (evCons (evCon (.int 2)) evNil)))) evNil)))))) (evCons (evTup (evCons (evTup (evCons (evCon (.int 1)) (evCons (evCon (.int 2)) (evCons (evCon (.int 3)) evNil)))) (evCons (evCon (.bl false)) (evCons (evCon (.int 2)) (evCons (evTup (evCons (evCon (.int 0)) (evCons (evCon (.int 1)) (evCons (evCon (.int 2)) (evCons (evCon (.int 3)) evNil))))) (evCons (evTup (evCons (evCon (.int 1)) (evCons (evCon (.int 2)) (evCons (evCon (.int 3)) evNil)))) evNil)))))) evNil)))))) evNil))))) evNil))) (evSeqS (evApp 3 (evTup (evCons (evVar 1) (evCons (evTup (evCons (evTup (evCons (evCon (.int 0)) (evCons (evCon (.int 2)) evNil))) (evCons (evTup (evCons (evCon (.int 0)) (evCons (evCon (.int 3)) evNil))) (evCons (evTup (evCons (evCon (.int 1)) (evCons (evCon (.int 2)) evNil))) (evCons (evTup (evCons (evCon (.int 1)) (evCons (evCon (.int 3)) evNil))) evNil))))) (evCons (evTup (evCons (evTup (evCons (evCon (.int 0)) (evCons (evCon (.int 1)) evNil))) (evCons (evTup (evCons (evCon (.int 2)) (evCons (evCon (.int 3)) evNil))) evNil))) (evCons (evLst (evCons (evTup (evCons (evTup (evCons (evCon (.int 0)) evNil)) (evCons (evCon (.bl true)) (evCons (evCon (.int 1)) (evCons (evTup (evCons (evCon (.int 0)) (evCons (evCon (.int 1)) evNil))) (evCons (evCon (.non)) evNil)))))) (evCons (evTup (evCons (evTup (evCons (evCon (.int 0)) (evCons (evCon (.int 1)) evNil))) (evCons (evCon (.bl false)) (evCons (evCon (.int 1)) (evCons (evTup (evCons (evCon (.int 0)) (evCons (evCon (.int 1)) evNil))) (evCons (evTup (evCons (evCon (.int 0)) (evCons (evCon (.int 1)) evNil))) evNil)))))) (evCons (evTup (evCons (evTup (evCons (evCon (.int 1)) (evCons (evCon (.int 2)) evNil))) (evCons (evCon (.bl true)) (evCons (evCon (.int 2)) (evCons (evTup (evCons (evCon (.int 0)) (evCons (evCon (.int 1)) (evCons (evCon (.int 2)) (evCons (evCon (.int 3)) evNil))))) (evCons (evCon (.non)) evNil)))))) (evCons (evTup (evCons (evTup (evCons (evCon (.int 1)) (evCons (evCon (.int 2)) (evCons (evCon (.int 3)) evNil)))) (evCons (evCon (.bl false)) (evCons (evCon (.int 2)) (evCons (evTup (evCons (evCon (.int 0)) (evCons (evCon (.int 1)) (evCons (evCon (.int 2)) (evCons (evCon (.int 3)) evNil))))) (evCons (evTup (evCons (evCon (.int 2)) (evCons (evCon (.int 3)) evNil))) evNil)))))) (evCons (evTup (evCons (evTup (evCons (evCon (.int 0)) (evCons (evCon (.int 1)) (evCons (evCon (.int 2)) (evCons (evCon (.int 3)) evNil))))) (evCons (evCon (.bl false)) (evCons (evCon (.int 2)) (evCons (evTup (evCons (evCon (.int 0)) (evCons (evCon (.int 1)) (evCons (evCon (.int 2)) (evCons (evCon (.int 3)) evNil))))) (evCons (evTup (evCons (evCon (.int 0)) (evCons (evCon (.int 1)) evNil))) evNil)))))) evNil)))))) evNil)))))) (evSeqS (evApp 3 (evTup (evCons (evTup (evCons (evCon (.int 2)) (evCons (evCon (.int 3)) (evCons (evTup (evCons (evTup (evCons (evCon (.int 1)) (evCons (evCon (.int 0)) (evCons (evCon (.int 1)) evNil)))) evNil)) evNil)))) (evCons (evTup (evCons (evTup (evCons (evCon (.int 0)) evNil)) (evCons (evTup (evCons (evCon (.int 2)) evNil)) evNil))) (evCons (evTup (evCons (evTup (evCons (evCon (.int 0)) (evCons (evCon (.int 2)) evNil))) (evCons (evTup (evCons (evCon (.int 1)) evNil)) evNil))) (evCons (evLst (evCons (evTup (evCons (evTup evNil) (evCons (evCon (.bl true)) (evCons (evCon (.int 0)) (evCons (evTup (evCons (evCon (.int 1)) evNil)) (evCons (evCon (.non)) evNil)))))) (evCons (evTup (evCons (evTup (evCons (evCon (.int 1)) evNil)) (evCons (evCon (.bl false)) (evCons (evCon (.int 0)) (evCons (evTup (evCons (evCon (.int 1)) evNil)) (evCons (evTup (evCons (evCon (.int 1)) evNil)) evNil)))))) (evCons (evTup (evCons (evTup (evCons (evCon (.int 0)) (evCons (evCon (.int 1)) evNil))) (evCons (evCon (.bl false)) (evCons (evCon (.int 1)) (evCons (evTup (evCons (evCon (.int 0)) (evCons (evCon (.int 1)) (evCons (evCon (.int 2)) evNil)))) (evCons (evTup (evCons (evCon (.int 1)) evNil)) evNil)))))) (evCons (evTup (evCons (evTup (evCons (evCon (.int 2)) evNil)) (evCons (evCon (.bl true)) (evCons (evCon (.int 1)) (evCons (evTup (evCons (evCon (.int 0)) (evCons (evCon (.int 1)) (evCons (evCon (.int 2)) evNil)))) (evCons (evCon (.non)) evNil)))))) (evCons (evTup (evCons (evTup (evCons (evCon (.int 0)) (evCons (evCon (.int 1)) (evCons (evCon (.int 2)) evNil)))) (evCons (evCon (.bl false)) (evCons (evCon (.int 1)) (evCons (evTup (evCons (evCon (.int 0)) (evCons (evCon (.int 1)) (evCons (evCon (.int 2)) evNil)))) (evCons (evTup (evCons (evCon (.int 0)) (evCons (evCon (.int 2)) evNil))) evNil)))))) evNil)))))) evNil)))))) (evSeqS (evApp 3 (evTup (evCons (evTup (evCons (evCon (.int 3)) (evCons (evCon (.int 2)) (evCons (evTup evNil) evNil)))) (evCons (evTup (evCons (evTup evNil) evNil)) (evCons (evTup (evCons (evTup (evCons (evCon (.int 0)) evNil)) (evCons (evTup (evCons (evCon (.int 1)) evNil)) evNil))) (evCons (evLst (evCons (evTup (evCons (evTup evNil) (evCons (evCon (.bl true)) (evCons (evCon (.int 0)) (evCons (evTup (evCons (evCon (.int 0)) (evCons (evCon (.int 1)) evNil))) (evCons (evCon (.non)) evNil)))))) (evCons (evTup (evCons (evTup (evCons (evCon (.int 1)) evNil)) (evCons (evCon (.bl false)) (evCons (evCon (.int 0)) (evCons (evTup (evCons (evCon (.int 0)) (evCons (evCon (.int 1)) evNil))) (evCons (evTup (evCons (evCon (.int 1)) evNil)) evNil)))))) (evCons (evTup (evCons (evTup (evCons (evCon (.int 0)) (evCons (evCon (.int 1)) evNil))) (evCons (evCon (.bl false)) (evCons (evCon (.int 0)) (evCons (evTup (evCons (evCon (.int 0)) (evCons (evCon (.int 1)) evNil))) (evCons (evTup (evCons (evCon (.int 0)) evNil)) evNil)))))) evNil)))) evNil)))))) (evSeqS (evApp 3 (evTup (evCons (evTup (evCons (evCon (.int 13)) (evCons (evCon (.int 2)) (evCons (evTup (evCons (evTup (evCons (evCon (.int 1)) (evCons (evCon (.int 0)) evNil))) (evCons (evTup (evCons (evCon (.int 0)) (evCons (evCon (.int 1)) evNil))) evNil))) evNil)))) (evCons (evTup (evCons (evTup (evCons (evCon (.int 0)) (evCons (evCon (.int 1)) evNil))) evNil)) (evCons (evTup evNil) (evCons (evLst (evCons (evTup (evCons (evTup evNil) (evCons (evCon (.bl true)) (evCons (evCon (.int 0)) (evCons (evTup evNil) (evCons (evCon (.non)) evNil)))))) (evCons (evTup (evCons (evTup (evCons (evCon (.int 1)) evNil)) (evCons (evCon (.bl true)) (evCons (evCon (.int 1)) (evCons (evTup (evCons (evCon (.int 1)) evNil)) (evCons (evCon (.non)) evNil)))))) (evCons (evTup (evCons (evTup (evCons (evCon (.int 0)) (evCons (evCon (.int 1)) evNil))) (evCons (evCon (.bl true)) (evCons (evCon (.int 2)) (evCons (evTup (evCons (evCon (.int 0)) (evCons (evCon (.int 1)) evNil))) (evCons (evCon (.non)) evNil)))))) evNil)))) evNil)))))) (evSeqS (evApp 3 (evTup (evCons (evTup (evCons (evCon (.int 2)) (evCons (evCon (.int 1)) (evCons (evTup (evCons (evTup (evCons (evCon (.int 1)) evNil)) evNil)) evNil)))) (evCons (evTup (evCons (evTup (evCons (evCon (.int 0)) evNil)) evNil)) (evCons (evTup evNil) (evCons (evLst (evCons (evTup (evCons (evTup evNil) (evCons (evCon (.bl true)) (evCons (evCon (.int 0)) (evCons (evTup evNil) (evCons (evCon (.non)) evNil)))))) (evCons (evTup (evCons (evTup (evCons (evCon (.int 0)) evNil)) (evCons (evCon (.bl true)) (evCons (evCon (.int 1)) (evCons (evTup (evCons (evCon (.int 0)) evNil)) (evCons (evCon (.non)) evNil)))))) evNil))) evNil)))))) (evSeqS (evApp 3 (evTup (evCons (evTup (evCons (evCon (.int 13)) (evCons (evCon (.int 3)) (evCons (evTup (evCons (evTup (evCons (evCon (.int 1)) (evCons (evCon (.int 12)) (evCons (evCon (.int 0)) evNil)))) evNil)) evNil)))) (evCons (evTup (evCons (evTup (evCons (evCon (.int 0)) evNil)) (evCons (evTup (evCons (evCon (.int 1)) evNil)) evNil))) (evCons (evTup (evCons (evTup (evCons (evCon (.int 0)) (evCons (evCon (.int 1)) evNil))) (evCons (evTup (evCons (evCon (.int 2)) evNil)) evNil))) (evCons (evLst (evCons (evTup (evCons (evTup (evCons (evCon (.int 0)) (evCons (evCon (.int 2)) evNil))) (evCons (evCon (.bl false)) (evCons (evCon (.int 1)) (evCons (evTup (evCons (evCon (.int 0)) (evCons (evCon (.int 1)) (evCons (evCon (.int 2)) evNil)))) (evCons (evTup (evCons (evCon (.int 2)) evNil)) evNil)))))) (evCons (evTup (evCons (evTup (evCons (evCon (.int 0)) evNil)) (evCons (evCon (.bl true)) (evCons (evCon (.int 1)) (evCons (evTup (evCons (evCon (.int 0)) (evCons (evCon (.int 1)) (evCons (evCon (.int 2)) evNil)))) (evCons (evCon (.non)) evNil)))))) evNil))) evNil)))))) (evFrzS [3] (evRet (evVar 3))))))))))))
def cf__law_tomes : CallF := runB 4 b__law_tomes
theorem d__law_tomes {P : Program} {w : World} {g : G0} {mg : Str → Option Value} {base : Heap}  {f : Addr} {fd : FuncData} (F : Fun g.K "_law_tomes" "_law_tomes" s__law_tomes f fd)  : FnG P w g.K mg base (L2.CX P w) 1 f fd [] (spF g 0 cf__law_tomes) :=
  fn_ev F (k := 0) sc__law_tomes fun G cdv A outer s H E hG hr hgd => by
    subst hG
    exact (ss_cons (s_asg (e_tup (a1 (e_tup (a1 (e_con pe_int fun _ => .int 5) (a1 (e_con pe_int fun _ => .int 4) (a1 (e_tup (a1 (e_tup (a1 (e_con pe_int fun _ => .int 1) (a1 (e_con pe_int fun _ => .int 0) (a1 (e_con pe_int fun _ => .int 4) (a1 (e_con pe_int fun _ => .int 3) a0))))) (a1 (e_tup (a1 (e_con pe_int fun _ => .int 0) (a1 (e_con pe_int fun _ => .int 1) (a1 (e_con pe_int fun _ => .int 2) (a1 (e_con pe_int fun _ => .int 3) a0))))) a0))) a0)))) (a1 (e_tup (a1 (e_con pe_int fun _ => .int 5) (a1 (e_con pe_int fun _ => .int 4) (a1 (e_tup (a1 (e_tup (a1 (e_con pe_int fun _ => .int 1) (a1 (e_con pe_int fun _ => .int 1) (a1 (e_con pe_int fun _ => .int 0) (a1 (e_con pe_int fun _ => .int 0) a0))))) (a1 (e_tup (a1 (e_con pe_int fun _ => .int 0) (a1 (e_con pe_int fun _ => .int 0) (a1 (e_con pe_int fun _ => .int 1) (a1 (e_con pe_int fun _ => .int 2) a0))))) a0))) a0)))) a0))) (g_tup rfl rfl (gs_cons (g_name (i := 0) sc__law_tomes.nd rfl (by first | exact .inl rfl | exact .inr rfl) (by first | exact .inl rfl | exact .inr rfl)) (gs_cons (g_name (i := 1) sc__law_tomes.nd rfl (by first | exact .inl rfl | exact .inr rfl) (by first | exact .inl rfl | exact .inr rfl)) gs_nil rfl) rfl) rfl rfl) rfl rfl rfl) (ss_cons (s_set (i := 2) sc__law_tomes.nd rfl (by first | exact .inl rfl | exact .inr rfl) (e_tup (a1 (e_tup (a1 (e_con pe_int fun _ => .int 0) (a1 (e_con pe_int fun _ => .int 1) a0))) (a1 (e_tup (a1 (e_con pe_int fun _ => .int 0) (a1 (e_con pe_int fun _ => .int 2) a0))) (a1 (e_tup (a1 (e_con pe_int fun _ => .int 0) (a1 (e_con pe_int fun _ => .int 3) a0))) (a1 (e_tup (a1 (e_con pe_int fun _ => .int 1) (a1 (e_con pe_int fun _ => .int 2) a0))) (a1 (e_tup (a1 (e_con pe_int fun _ => .int 1) (a1 (e_con pe_int fun _ => .int 3) a0))) (a1 (e_tup (a1 (e_con pe_int fun _ => .int 2) (a1 (e_con pe_int fun _ => .int 3) a0))) a0))))))) rfl (by first | exact .inl rfl | exact .inr rfl)) (ss_cons (s_setF (i := 3) sc__law_tomes.nd rfl (by first | exact .inl rfl | exact .inr rfl) (f_lst (a1 (e_tup (a1 (e_var (i := 0) rfl (by first | exact .inl rfl | exact .inr (.inl rfl) | exact .inr (.inr rfl)) rfl rfl) (a1 (e_var (i := 2) rfl (by first | exact .inl rfl | exact .inr (.inl rfl) | exact .inr (.inr rfl)) rfl rfl) (a1 (e_tup (a1 (e_tup (a1 (e_con pe_int fun _ => .int 0) (a1 (e_con pe_int fun _ => .int 1) (a1 (e_con pe_int fun _ => .int 2) a0)))) (a1 (e_tup (a1 (e_con pe_int fun _ => .int 0) (a1 (e_con pe_int fun _ => .int 1) (a1 (e_con pe_int fun _ => .int 3) a0)))) (a1 (e_tup (a1 (e_con pe_int fun _ => .int 0) (a1 (e_con pe_int fun _ => .int 2) (a1 (e_con pe_int fun _ => .int 3) a0)))) (a1 (e_tup (a1 (e_con pe_int fun _ => .int 1) (a1 (e_con pe_int fun _ => .int 2) (a1 (e_con pe_int fun _ => .int 3) a0)))) a0))))) (a1 (e_lst (a1 (e_tup (a1 (e_tup a0) (a1 (e_con pe_bl fun _ => .bl true) (a1 (e_con pe_int fun _ => .int 0) (a1 (e_tup a0) (a1 (e_con pe_non fun _ => .non) a0)))))) (a1 (e_tup (a1 (e_tup (a1 (e_con pe_int fun _ => .int 0) (a1 (e_con pe_int fun _ => .int 3) a0))) (a1 (e_con pe_bl fun _ => .bl true) (a1 (e_con pe_int fun _ => .int 2) (a1 (e_tup (a1 (e_con pe_int fun _ => .int 0) (a1 (e_con pe_int fun _ => .int 1) (a1 (e_con pe_int fun _ => .int 2) (a1 (e_con pe_int fun _ => .int 3) a0))))) (a1 (e_con pe_non fun _ => .non) a0)))))) (a1 (e_tup (a1 (e_tup (a1 (e_con pe_int fun _ => .int 2) a0)) (a1 (e_con pe_bl fun _ => .bl true) (a1 (e_con pe_int fun _ => .int 1) (a1 (e_tup (a1 (e_con pe_int fun _ => .int 2) a0)) (a1 (e_con pe_non fun _ => .non) a0)))))) (a1 (e_tup (a1 (e_tup (a1 (e_con pe_int fun _ => .int 0) (a1 (e_con pe_int fun _ => .int 1) (a1 (e_con pe_int fun _ => .int 2) a0)))) (a1 (e_con pe_bl fun _ => .bl false) (a1 (e_con pe_int fun _ => .int 2) (a1 (e_tup (a1 (e_con pe_int fun _ => .int 0) (a1 (e_con pe_int fun _ => .int 1) (a1 (e_con pe_int fun _ => .int 2) (a1 (e_con pe_int fun _ => .int 3) a0))))) (a1 (e_tup (a1 (e_con pe_int fun _ => .int 0) (a1 (e_con pe_int fun _ => .int 1) (a1 (e_con pe_int fun _ => .int 2) a0)))) a0)))))) (a1 (e_tup (a1 (e_tup (a1 (e_con pe_int fun _ => .int 1) (a1 (e_con pe_int fun _ => .int 2) (a1 (e_con pe_int fun _ => .int 3) a0)))) (a1 (e_con pe_bl fun _ => .bl false) (a1 (e_con pe_int fun _ => .int 2) (a1 (e_tup (a1 (e_con pe_int fun _ => .int 0) (a1 (e_con pe_int fun _ => .int 1) (a1 (e_con pe_int fun _ => .int 2) (a1 (e_con pe_int fun _ => .int 3) a0))))) (a1 (e_tup (a1 (e_con pe_int fun _ => .int 1) (a1 (e_con pe_int fun _ => .int 2) (a1 (e_con pe_int fun _ => .int 3) a0)))) a0)))))) a0)))))) a0))))) a0)) rfl (by first | exact .inl rfl | exact .inr rfl)) (ss_cons (s_app (i := 3) rfl (by first | exact .inl rfl | exact .inr (.inl rfl) | exact .inr (.inr rfl)) rfl rfl (pa_one (e_tup (a1 (e_var (i := 1) rfl (by first | exact .inl rfl | exact .inr (.inl rfl) | exact .inr (.inr rfl)) rfl rfl) (a1 (e_tup (a1 (e_tup (a1 (e_con pe_int fun _ => .int 0) (a1 (e_con pe_int fun _ => .int 2) a0))) (a1 (e_tup (a1 (e_con pe_int fun _ => .int 0) (a1 (e_con pe_int fun _ => .int 3) a0))) (a1 (e_tup (a1 (e_con pe_int fun _ => .int 1) (a1 (e_con pe_int fun _ => .int 2) a0))) (a1 (e_tup (a1 (e_con pe_int fun _ => .int 1) (a1 (e_con pe_int fun _ => .int 3) a0))) a0))))) (a1 (e_tup (a1 (e_tup (a1 (e_con pe_int fun _ => .int 0) (a1 (e_con pe_int fun _ => .int 1) a0))) (a1 (e_tup (a1 (e_con pe_int fun _ => .int 2) (a1 (e_con pe_int fun _ => .int 3) a0))) a0))) (a1 (e_lst (a1 (e_tup (a1 (e_tup (a1 (e_con pe_int fun _ => .int 0) a0)) (a1 (e_con pe_bl fun _ => .bl true) (a1 (e_con pe_int fun _ => .int 1) (a1 (e_tup (a1 (e_con pe_int fun _ => .int 0) (a1 (e_con pe_int fun _ => .int 1) a0))) (a1 (e_con pe_non fun _ => .non) a0)))))) (a1 (e_tup (a1 (e_tup (a1 (e_con pe_int fun _ => .int 0) (a1 (e_con pe_int fun _ => .int 1) a0))) (a1 (e_con pe_bl fun _ => .bl false) (a1 (e_con pe_int fun _ => .int 1) (a1 (e_tup (a1 (e_con pe_int fun _ => .int 0) (a1 (e_con pe_int fun _ => .int 1) a0))) (a1 (e_tup (a1 (e_con pe_int fun _ => .int 0) (a1 (e_con pe_int fun _ => .int 1) a0))) a0)))))) (a1 (e_tup (a1 (e_tup (a1 (e_con pe_int fun _ => .int 1) (a1 (e_con pe_int fun _ => .int 2) a0))) (a1 (e_con pe_bl fun _ => .bl true) (a1 (e_con pe_int fun _ => .int 2) (a1 (e_tup (a1 (e_con pe_int fun _ => .int 0) (a1 (e_con pe_int fun _ => .int 1) (a1 (e_con pe_int fun _ => .int 2) (a1 (e_con pe_int fun _ => .int 3) a0))))) (a1 (e_con pe_non fun _ => .non) a0)))))) (a1 (e_tup (a1 (e_tup (a1 (e_con pe_int fun _ => .int 1) (a1 (e_con pe_int fun _ => .int 2) (a1 (e_con pe_int fun _ => .int 3) a0)))) (a1 (e_con pe_bl fun _ => .bl false) (a1 (e_con pe_int fun _ => .int 2) (a1 (e_tup (a1 (e_con pe_int fun _ => .int 0) (a1 (e_con pe_int fun _ => .int 1) (a1 (e_con pe_int fun _ => .int 2) (a1 (e_con pe_int fun _ => .int 3) a0))))) (a1 (e_tup (a1 (e_con pe_int fun _ => .int 2) (a1 (e_con pe_int fun _ => .int 3) a0))) a0)))))) (a1 (e_tup (a1 (e_tup (a1 (e_con pe_int fun _ => .int 0) (a1 (e_con pe_int fun _ => .int 1) (a1 (e_con pe_int fun _ => .int 2) (a1 (e_con pe_int fun _ => .int 3) a0))))) (a1 (e_con pe_bl fun _ => .bl false) (a1 (e_con pe_int fun _ => .int 2) (a1 (e_tup (a1 (e_con pe_int fun _ => .int 0) (a1 (e_con pe_int fun _ => .int 1) (a1 (e_con pe_int fun _ => .int 2) (a1 (e_con pe_int fun _ => .int 3) a0))))) (a1 (e_tup (a1 (e_con pe_int fun _ => .int 0) (a1 (e_con pe_int fun _ => .int 1) a0))) a0)))))) a0)))))) a0))))) rfl) rfl rfl rfl rfl rfl rfl) (ss_cons (s_app (i := 3) rfl (by first | exact .inl rfl | exact .inr (.inl rfl) | exact .inr (.inr rfl)) rfl rfl (pa_one (e_tup (a1 (e_tup (a1 (e_con pe_int fun _ => .int 2) (a1 (e_con pe_int fun _ => .int 3) (a1 (e_tup (a1 (e_tup (a1 (e_con pe_int fun _ => .int 1) (a1 (e_con pe_int fun _ => .int 0) (a1 (e_con pe_int fun _ => .int 1) a0)))) a0)) a0)))) (a1 (e_tup (a1 (e_tup (a1 (e_con pe_int fun _ => .int 0) a0)) (a1 (e_tup (a1 (e_con pe_int fun _ => .int 2) a0)) a0))) (a1 (e_tup (a1 (e_tup (a1 (e_con pe_int fun _ => .int 0) (a1 (e_con pe_int fun _ => .int 2) a0))) (a1 (e_tup (a1 (e_con pe_int fun _ => .int 1) a0)) a0))) (a1 (e_lst (a1 (e_tup (a1 (e_tup a0) (a1 (e_con pe_bl fun _ => .bl true) (a1 (e_con pe_int fun _ => .int 0) (a1 (e_tup (a1 (e_con pe_int fun _ => .int 1) a0)) (a1 (e_con pe_non fun _ => .non) a0)))))) (a1 (e_tup (a1 (e_tup (a1 (e_con pe_int fun _ => .int 1) a0)) (a1 (e_con pe_bl fun _ => .bl false) (a1 (e_con pe_int fun _ => .int 0) (a1 (e_tup (a1 (e_con pe_int fun _ => .int 1) a0)) (a1 (e_tup (a1 (e_con pe_int fun _ => .int 1) a0)) a0)))))) (a1 (e_tup (a1 (e_tup (a1 (e_con pe_int fun _ => .int 0) (a1 (e_con pe_int fun _ => .int 1) a0))) (a1 (e_con pe_bl fun _ => .bl false) (a1 (e_con pe_int fun _ => .int 1) (a1 (e_tup (a1 (e_con pe_int fun _ => .int 0) (a1 (e_con pe_int fun _ => .int 1) (a1 (e_con pe_int fun _ => .int 2) a0)))) (a1 (e_tup (a1 (e_con pe_int fun _ => .int 1) a0)) a0)))))) (a1 (e_tup (a1 (e_tup (a1 (e_con pe_int fun _ => .int 2) a0)) (a1 (e_con pe_bl fun _ => .bl true) (a1 (e_con pe_int fun _ => .int 1) (a1 (e_tup (a1 (e_con pe_int fun _ => .int 0) (a1 (e_con pe_int fun _ => .int 1) (a1 (e_con pe_int fun _ => .int 2) a0)))) (a1 (e_con pe_non fun _ => .non) a0)))))) (a1 (e_tup (a1 (e_tup (a1 (e_con pe_int fun _ => .int 0) (a1 (e_con pe_int fun _ => .int 1) (a1 (e_con pe_int fun _ => .int 2) a0)))) (a1 (e_con pe_bl fun _ => .bl false) (a1 (e_con pe_int fun _ => .int 1) (a1 (e_tup (a1 (e_con pe_int fun _ => .int 0) (a1 (e_con pe_int fun _ => .int 1) (a1 (e_con pe_int fun _ => .int 2) a0)))) (a1 (e_tup (a1 (e_con pe_int fun _ => .int 0) (a1 (e_con pe_int fun _ => .int 2) a0))) a0)))))) a0)))))) a0))))) rfl) rfl rfl rfl rfl rfl rfl) (ss_cons (s_app (i := 3) rfl (by first | exact .inl rfl | exact .inr (.inl rfl) | exact .inr (.inr rfl)) rfl rfl (pa_one (e_tup (a1 (e_tup (a1 (e_con pe_int fun _ => .int 3) (a1 (e_con pe_int fun _ => .int 2) (a1 (e_tup a0) a0)))) (a1 (e_tup (a1 (e_tup a0) a0)) (a1 (e_tup (a1 (e_tup (a1 (e_con pe_int fun _ => .int 0) a0)) (a1 (e_tup (a1 (e_con pe_int fun _ => .int 1) a0)) a0))) (a1 (e_lst (a1 (e_tup (a1 (e_tup a0) (a1 (e_con pe_bl fun _ => .bl true) (a1 (e_con pe_int fun _ => .int 0) (a1 (e_tup (a1 (e_con pe_int fun _ => .int 0) (a1 (e_con pe_int fun _ => .int 1) a0))) (a1 (e_con pe_non fun _ => .non) a0)))))) (a1 (e_tup (a1 (e_tup (a1 (e_con pe_int fun _ => .int 1) a0)) (a1 (e_con pe_bl fun _ => .bl false) (a1 (e_con pe_int fun _ => .int 0) (a1 (e_tup (a1 (e_con pe_int fun _ => .int 0) (a1 (e_con pe_int fun _ => .int 1) a0))) (a1 (e_tup (a1 (e_con pe_int fun _ => .int 1) a0)) a0)))))) (a1 (e_tup (a1 (e_tup (a1 (e_con pe_int fun _ => .int 0) (a1 (e_con pe_int fun _ => .int 1) a0))) (a1 (e_con pe_bl fun _ => .bl false) (a1 (e_con pe_int fun _ => .int 0) (a1 (e_tup (a1 (e_con pe_int fun _ => .int 0) (a1 (e_con pe_int fun _ => .int 1) a0))) (a1 (e_tup (a1 (e_con pe_int fun _ => .int 0) a0)) a0)))))) a0)))) a0))))) rfl) rfl rfl rfl rfl rfl rfl) (ss_cons (s_app (i := 3) rfl (by first | exact .inl rfl | exact .inr (.inl rfl) | exact .inr (.inr rfl)) rfl rfl (pa_one (e_tup (a1 (e_tup (a1 (e_con pe_int fun _ => .int 13) (a1 (e_con pe_int fun _ => .int 2) (a1 (e_tup (a1 (e_tup (a1 (e_con pe_int fun _ => .int 1) (a1 (e_con pe_int fun _ => .int 0) a0))) (a1 (e_tup (a1 (e_con pe_int fun _ => .int 0) (a1 (e_con pe_int fun _ => .int 1) a0))) a0))) a0)))) (a1 (e_tup (a1 (e_tup (a1 (e_con pe_int fun _ => .int 0) (a1 (e_con pe_int fun _ => .int 1) a0))) a0)) (a1 (e_tup a0) (a1 (e_lst (a1 (e_tup (a1 (e_tup a0) (a1 (e_con pe_bl fun _ => .bl true) (a1 (e_con pe_int fun _ => .int 0) (a1 (e_tup a0) (a1 (e_con pe_non fun _ => .non) a0)))))) (a1 (e_tup (a1 (e_tup (a1 (e_con pe_int fun _ => .int 1) a0)) (a1 (e_con pe_bl fun _ => .bl true) (a1 (e_con pe_int fun _ => .int 1) (a1 (e_tup (a1 (e_con pe_int fun _ => .int 1) a0)) (a1 (e_con pe_non fun _ => .non) a0)))))) (a1 (e_tup (a1 (e_tup (a1 (e_con pe_int fun _ => .int 0) (a1 (e_con pe_int fun _ => .int 1) a0))) (a1 (e_con pe_bl fun _ => .bl true) (a1 (e_con pe_int fun _ => .int 2) (a1 (e_tup (a1 (e_con pe_int fun _ => .int 0) (a1 (e_con pe_int fun _ => .int 1) a0))) (a1 (e_con pe_non fun _ => .non) a0)))))) a0)))) a0))))) rfl) rfl rfl rfl rfl rfl rfl) (ss_cons (s_app (i := 3) rfl (by first | exact .inl rfl | exact .inr (.inl rfl) | exact .inr (.inr rfl)) rfl rfl (pa_one (e_tup (a1 (e_tup (a1 (e_con pe_int fun _ => .int 2) (a1 (e_con pe_int fun _ => .int 1) (a1 (e_tup (a1 (e_tup (a1 (e_con pe_int fun _ => .int 1) a0)) a0)) a0)))) (a1 (e_tup (a1 (e_tup (a1 (e_con pe_int fun _ => .int 0) a0)) a0)) (a1 (e_tup a0) (a1 (e_lst (a1 (e_tup (a1 (e_tup a0) (a1 (e_con pe_bl fun _ => .bl true) (a1 (e_con pe_int fun _ => .int 0) (a1 (e_tup a0) (a1 (e_con pe_non fun _ => .non) a0)))))) (a1 (e_tup (a1 (e_tup (a1 (e_con pe_int fun _ => .int 0) a0)) (a1 (e_con pe_bl fun _ => .bl true) (a1 (e_con pe_int fun _ => .int 1) (a1 (e_tup (a1 (e_con pe_int fun _ => .int 0) a0)) (a1 (e_con pe_non fun _ => .non) a0)))))) a0))) a0))))) rfl) rfl rfl rfl rfl rfl rfl) (ss_cons (s_app (i := 3) rfl (by first | exact .inl rfl | exact .inr (.inl rfl) | exact .inr (.inr rfl)) rfl rfl (pa_one (e_tup (a1 (e_tup (a1 (e_con pe_int fun _ => .int 13) (a1 (e_con pe_int fun _ => .int 3) (a1 (e_tup (a1 (e_tup (a1 (e_con pe_int fun _ => .int 1) (a1 (e_con pe_int fun _ => .int 12) (a1 (e_con pe_int fun _ => .int 0) a0)))) a0)) a0)))) (a1 (e_tup (a1 (e_tup (a1 (e_con pe_int fun _ => .int 0) a0)) (a1 (e_tup (a1 (e_con pe_int fun _ => .int 1) a0)) a0))) (a1 (e_tup (a1 (e_tup (a1 (e_con pe_int fun _ => .int 0) (a1 (e_con pe_int fun _ => .int 1) a0))) (a1 (e_tup (a1 (e_con pe_int fun _ => .int 2) a0)) a0))) (a1 (e_lst (a1 (e_tup (a1 (e_tup (a1 (e_con pe_int fun _ => .int 0) (a1 (e_con pe_int fun _ => .int 2) a0))) (a1 (e_con pe_bl fun _ => .bl false) (a1 (e_con pe_int fun _ => .int 1) (a1 (e_tup (a1 (e_con pe_int fun _ => .int 0) (a1 (e_con pe_int fun _ => .int 1) (a1 (e_con pe_int fun _ => .int 2) a0)))) (a1 (e_tup (a1 (e_con pe_int fun _ => .int 2) a0)) a0)))))) (a1 (e_tup (a1 (e_tup (a1 (e_con pe_int fun _ => .int 0) a0)) (a1 (e_con pe_bl fun _ => .bl true) (a1 (e_con pe_int fun _ => .int 1) (a1 (e_tup (a1 (e_con pe_int fun _ => .int 0) (a1 (e_con pe_int fun _ => .int 1) (a1 (e_con pe_int fun _ => .int 2) a0)))) (a1 (e_con pe_non fun _ => .non) a0)))))) a0))) a0))))) rfl) rfl rfl rfl rfl rfl rfl) (ss_one (s_frz [3] (s_ret (e_var (i := 3) rfl (by first | exact .inl rfl | exact .inr (.inl rfl) | exact .inr (.inr rfl)) rfl rfl)))))))))))))
abbrev s__law_draw : Stmt := top 42
theorem sc__law_draw : FnScope ["_law_feed_here", "_law_top", "_law_figure", "_law_where", "_law_cell", "_law_mixed"] ["_law_feed_here", "_law_top"] (defScope s__law_draw) := ⟨rfl, rfl, rfl, by decide +kernel, rfl, by decide +kernel, by decide +kernel⟩
def b__law_draw : EvS := (evSeqS (evPutD (evVar 0) (evCon (.str "laps")) (ev2 opAdd (evSub (evVar 0) (evCon (.str "laps"))) (evCon (.int 1)))) (evSeqS (evIfS (ev2 cGt (evSub (evVar 0) (evCon (.str "kept"))) (evCon (.int 0))) (evSeqS (evAsg (.nm 2) (ev2 opMod (evB gInt (evCons (evSub (evVar 0) (evCon (.str "kept"))) evNil)) (evVar 1))) (evSeqS (evPutD (evVar 0) (evCon (.str "kept")) (ev2 opDiv (evSub (evVar 0) (evCon (.str "kept"))) (evVar 1))) (evRet (evVar 2)))) evSkip) (evSeqS (evAsg (.nm 3) (evSub (evVar 0) (evCon (.str "next")))) (evSeqS (evPutD (evVar 0) (evCon (.str "next")) (ev2 opAdd (evVar 3) (evCon (.int 1)))) (evSeqS (evAsg (.nm 4) (evIf (ev2 cNe (evSub (evVar 0) (evCon (.str "cells"))) (evLst evNil)) (evSub (evSub (evVar 0) (evCon (.str "cells"))) (ev2 opMod (evB gInt (evCons (evVar 3) evNil)) (evB gLen (evCons (evSub (evVar 0) (evCon (.str "cells"))) evNil)))) (evCon (.int 5926)))) (evSeqS (evIfS (evAnd (ev2 cGe (evVar 4) (ev2 opPow (evCon (.int 10)) (evCon (.int 18)))) (ev2 cLt (evVar 3) (evB gLen (evCons (evSub (evVar 0) (evCon (.str "cells"))) evNil)))) (evSeqS (evPutD (evVar 0) (evCon (.str "kept")) (ev2 opDiv (evVar 4) (evVar 1))) (evRet (ev2 opMod (evB gInt (evCons (evVar 4) evNil)) (evVar 1)))) evSkip) (evSeqS (evAsg (.nm 5) (ev2 opMod (evB gInt (evCons (ev2 opAdd (ev2 opAdd (ev2 opMod (evB gInt (evCons (evVar 4) evNil)) (evCon (.int 1000000399))) (ev2 opMul (evCon (.int 86143)) (evSub (evVar 0) (evCon (.str "laps"))))) (evCon (.int 161))) evNil)) (evCon (.int 2146437311)))) (evSeqS (evAsg (.nm 5) (ev2 opMod (evB gInt (evCons (ev2 opAdd (ev2 opAdd (ev2 opMul (evVar 5) (evVar 5)) (ev2 opMul (evCon (.int 7700323)) (evSub (evVar 0) (evCon (.str "laps"))))) (evCon (.int 419))) evNil)) (evCon (.int 2146437071)))) (evRet (ev2 opMod (evB gInt (evCons (ev2 opDiv (ev2 opMod (evB gInt (evCons (ev2 opAdd (ev2 opMul (evVar 5) (evVar 5)) (ev2 opMul (evCon (.int 401)) (evVar 5))) evNil)) (evCon (.int 2146436767))) (evCon (.int 16))) evNil)) (evVar 1)))))))))))
def cf__law_draw : CallF := runB 6 b__law_draw
theorem d__law_draw {P : Program} {w : World} {g : G0} {mg : Str → Option Value} {base : Heap} (b_int : mg "int" = none) (b_len : mg "len" = none) {f : Addr} {fd : FuncData} (F : Fun g.K "_law_draw" "_law_draw" s__law_draw f fd)  : FnG P w g.K mg base (L2.CX P w) 1 f fd ["_law_feed_here", "_law_top"] (spF g 2 cf__law_draw) :=
  fn_ev F (k := 0) sc__law_draw fun G cdv A outer s H E hG hr hgd => by
    subst hG
    exact (ss_cons (s_putD (rU2 hr) (e_var (i := 0) rfl (by first | exact .inl rfl | exact .inr (.inl rfl) | exact .inr (.inr rfl)) rfl rfl) (e_con pe_str fun _ => .str "laps") (e_op (o_add rfl) (e_sub rfl (rU2 hr) (e_var (i := 0) rfl (by first | exact .inl rfl | exact .inr (.inl rfl) | exact .inr (.inr rfl)) rfl rfl) (e_con pe_str fun _ => .str "laps") (fun _ _ => rfl) (fun _ _ => rfl)) (e_con pe_int fun _ => .int 1)) rfl) (ss_cons (s_if (t_cmp booly_cGt (o_gt) (e_sub rfl (rU2 hr) (e_var (i := 0) rfl (by first | exact .inl rfl | exact .inr (.inl rfl) | exact .inr (.inr rfl)) rfl rfl) (e_con pe_str fun _ => .str "kept") (fun _ _ => rfl) (fun _ _ => rfl)) (e_con pe_int fun _ => .int 0) rfl) (ss_cons (s_set (i := 2) sc__law_draw.nd rfl (by first | exact .inl rfl | exact .inr rfl) (e_op (o_mod) (b_ty (c_int) rfl b_int PyProof.Rows.Boot.«int» (a1 (e_sub rfl (rU2 hr) (e_var (i := 0) rfl (by first | exact .inl rfl | exact .inr (.inl rfl) | exact .inr (.inr rfl)) rfl rfl) (e_con pe_str fun _ => .str "kept") (fun _ _ => rfl) (fun _ _ => rfl)) a0)) (e_var (i := 1) rfl (by first | exact .inl rfl | exact .inr (.inl rfl) | exact .inr (.inr rfl)) rfl rfl)) rfl (by first | exact .inl rfl | exact .inr rfl)) (ss_cons (s_putD (rU2 hr) (e_var (i := 0) rfl (by first | exact .inl rfl | exact .inr (.inl rfl) | exact .inr (.inr rfl)) rfl rfl) (e_con pe_str fun _ => .str "kept") (e_op (o_div) (e_sub rfl (rU2 hr) (e_var (i := 0) rfl (by first | exact .inl rfl | exact .inr (.inl rfl) | exact .inr (.inr rfl)) rfl rfl) (e_con pe_str fun _ => .str "kept") (fun _ _ => rfl) (fun _ _ => rfl)) (e_var (i := 1) rfl (by first | exact .inl rfl | exact .inr (.inl rfl) | exact .inr (.inr rfl)) rfl rfl)) rfl) (ss_one (s_ret (e_var (i := 2) rfl (by first | exact .inl rfl | exact .inr (.inl rfl) | exact .inr (.inr rfl)) rfl rfl))))) ss_nil) (ss_cons (s_set (i := 3) sc__law_draw.nd rfl (by first | exact .inl rfl | exact .inr rfl) (e_sub rfl (rU2 hr) (e_var (i := 0) rfl (by first | exact .inl rfl | exact .inr (.inl rfl) | exact .inr (.inr rfl)) rfl rfl) (e_con pe_str fun _ => .str "next") (fun _ _ => rfl) (fun _ _ => rfl)) rfl (by first | exact .inl rfl | exact .inr rfl)) (ss_cons (s_putD (rU2 hr) (e_var (i := 0) rfl (by first | exact .inl rfl | exact .inr (.inl rfl) | exact .inr (.inr rfl)) rfl rfl) (e_con pe_str fun _ => .str "next") (e_op (o_add rfl) (e_var (i := 3) rfl (by first | exact .inl rfl | exact .inr (.inl rfl) | exact .inr (.inr rfl)) rfl rfl) (e_con pe_int fun _ => .int 1)) rfl) (ss_cons (s_set (i := 4) sc__law_draw.nd rfl (by first | exact .inl rfl | exact .inr rfl) (e_if (t_cmp booly_cNe (o_ne rfl (rU hr)) (e_sub rfl (rU2 hr) (e_var (i := 0) rfl (by first | exact .inl rfl | exact .inr (.inl rfl) | exact .inr (.inr rfl)) rfl rfl) (e_con pe_str fun _ => .str "cells") (fun _ _ => rfl) (fun _ _ => rfl)) (e_lst a0) rfl) (e_sub rfl (rU2 hr) (e_sub rfl (rU2 hr) (e_var (i := 0) rfl (by first | exact .inl rfl | exact .inr (.inl rfl) | exact .inr (.inr rfl)) rfl rfl) (e_con pe_str fun _ => .str "cells") (fun _ _ => rfl) (fun _ _ => rfl)) (e_op (o_mod) (b_ty (c_int) rfl b_int PyProof.Rows.Boot.«int» (a1 (e_var (i := 3) rfl (by first | exact .inl rfl | exact .inr (.inl rfl) | exact .inr (.inr rfl)) rfl rfl) a0)) (b_call (c_len rfl) rfl b_len PyProof.Rows.Boot.«len» (a1 (e_sub rfl (rU2 hr) (e_var (i := 0) rfl (by first | exact .inl rfl | exact .inr (.inl rfl) | exact .inr (.inr rfl)) rfl rfl) (e_con pe_str fun _ => .str "cells") (fun _ _ => rfl) (fun _ _ => rfl)) a0))) (fun _ _ => rfl) (fun _ _ => rfl)) (e_con pe_int fun _ => .int 5926)) rfl (by first | exact .inl rfl | exact .inr rfl)) (ss_cons (s_if (L2.PW.pt (w_and (t_cmp booly_cGe (o_ge) (e_var (i := 4) rfl (by first | exact .inl rfl | exact .inr (.inl rfl) | exact .inr (.inr rfl)) rfl rfl) (e_op (o_pow) (e_con pe_int fun _ => .int 10) (e_con pe_int fun _ => .int 18)) rfl) (w_and1 (t_cmp booly_cLt (o_lt) (e_var (i := 3) rfl (by first | exact .inl rfl | exact .inr (.inl rfl) | exact .inr (.inr rfl)) rfl rfl) (b_call (c_len rfl) rfl b_len PyProof.Rows.Boot.«len» (a1 (e_sub rfl (rU2 hr) (e_var (i := 0) rfl (by first | exact .inl rfl | exact .inr (.inl rfl) | exact .inr (.inr rfl)) rfl rfl) (e_con pe_str fun _ => .str "cells") (fun _ _ => rfl) (fun _ _ => rfl)) a0)) rfl)))) (ss_cons (s_putD (rU2 hr) (e_var (i := 0) rfl (by first | exact .inl rfl | exact .inr (.inl rfl) | exact .inr (.inr rfl)) rfl rfl) (e_con pe_str fun _ => .str "kept") (e_op (o_div) (e_var (i := 4) rfl (by first | exact .inl rfl | exact .inr (.inl rfl) | exact .inr (.inr rfl)) rfl rfl) (e_var (i := 1) rfl (by first | exact .inl rfl | exact .inr (.inl rfl) | exact .inr (.inr rfl)) rfl rfl)) rfl) (ss_one (s_ret (e_op (o_mod) (b_ty (c_int) rfl b_int PyProof.Rows.Boot.«int» (a1 (e_var (i := 4) rfl (by first | exact .inl rfl | exact .inr (.inl rfl) | exact .inr (.inr rfl)) rfl rfl) a0)) (e_var (i := 1) rfl (by first | exact .inl rfl | exact .inr (.inl rfl) | exact .inr (.inr rfl)) rfl rfl))))) ss_nil) (ss_cons (s_set (i := 5) sc__law_draw.nd rfl (by first | exact .inl rfl | exact .inr rfl) (e_op (o_mod) (b_ty (c_int) rfl b_int PyProof.Rows.Boot.«int» (a1 (e_op (o_add rfl) (e_op (o_add rfl) (e_op (o_mod) (b_ty (c_int) rfl b_int PyProof.Rows.Boot.«int» (a1 (e_var (i := 4) rfl (by first | exact .inl rfl | exact .inr (.inl rfl) | exact .inr (.inr rfl)) rfl rfl) a0)) (e_con pe_int fun _ => .int 1000000399)) (e_op (o_mul rfl) (e_con pe_int fun _ => .int 86143) (e_sub rfl (rU2 hr) (e_var (i := 0) rfl (by first | exact .inl rfl | exact .inr (.inl rfl) | exact .inr (.inr rfl)) rfl rfl) (e_con pe_str fun _ => .str "laps") (fun _ _ => rfl) (fun _ _ => rfl)))) (e_con pe_int fun _ => .int 161)) a0)) (e_con pe_int fun _ => .int 2146437311)) rfl (by first | exact .inl rfl | exact .inr rfl)) (ss_cons (s_set (i := 5) sc__law_draw.nd rfl (by first | exact .inl rfl | exact .inr rfl) (e_op (o_mod) (b_ty (c_int) rfl b_int PyProof.Rows.Boot.«int» (a1 (e_op (o_add rfl) (e_op (o_add rfl) (e_op (o_mul rfl) (e_var (i := 5) rfl (by first | exact .inl rfl | exact .inr (.inl rfl) | exact .inr (.inr rfl)) rfl rfl) (e_var (i := 5) rfl (by first | exact .inl rfl | exact .inr (.inl rfl) | exact .inr (.inr rfl)) rfl rfl)) (e_op (o_mul rfl) (e_con pe_int fun _ => .int 7700323) (e_sub rfl (rU2 hr) (e_var (i := 0) rfl (by first | exact .inl rfl | exact .inr (.inl rfl) | exact .inr (.inr rfl)) rfl rfl) (e_con pe_str fun _ => .str "laps") (fun _ _ => rfl) (fun _ _ => rfl)))) (e_con pe_int fun _ => .int 419)) a0)) (e_con pe_int fun _ => .int 2146437071)) rfl (by first | exact .inl rfl | exact .inr rfl)) (ss_one (s_ret (e_op (o_mod) (b_ty (c_int) rfl b_int PyProof.Rows.Boot.«int» (a1 (e_op (o_div) (e_op (o_mod) (b_ty (c_int) rfl b_int PyProof.Rows.Boot.«int» (a1 (e_op (o_add rfl) (e_op (o_mul rfl) (e_var (i := 5) rfl (by first | exact .inl rfl | exact .inr (.inl rfl) | exact .inr (.inr rfl)) rfl rfl) (e_var (i := 5) rfl (by first | exact .inl rfl | exact .inr (.inl rfl) | exact .inr (.inr rfl)) rfl rfl)) (e_op (o_mul rfl) (e_con pe_int fun _ => .int 401) (e_var (i := 5) rfl (by first | exact .inl rfl | exact .inr (.inl rfl) | exact .inr (.inr rfl)) rfl rfl))) a0)) (e_con pe_int fun _ => .int 2146436767)) (e_con pe_int fun _ => .int 16)) a0)) (e_var (i := 1) rfl (by first | exact .inl rfl | exact .inr (.inl rfl) | exact .inr (.inr rfl)) rfl rfl))))))))))))
abbrev s__law_same : Stmt := top 43
theorem sc__law_same : FnScope ["_law_told", "_law_due"] ["_law_told", "_law_due"] (defScope s__law_same) := ⟨rfl, rfl, rfl, by decide +kernel, rfl, by decide +kernel, by decide +kernel⟩
def b__law_same : EvS := (evRet (evSame (evVar 0) (evVar 1)))
def cf__law_same : CallF := runB 2 b__law_same
theorem d__law_same {P : Program} {w : World} {g : G0} {mg : Str → Option Value} {base : Heap} (b_repr : mg "repr" = none) {f : Addr} {fd : FuncData} (F : Fun g.K "_law_same" "_law_same" s__law_same f fd)  : FnG P w g.K mg base (L2.CX P w) 1 f fd ["_law_told", "_law_due"] (spF g 2 cf__law_same) :=
  fn_ev F (k := 0) sc__law_same fun G cdv A outer s H E hG hr hgd => by
    subst hG
    exact (ss_one (s_ret (e_same rfl hgd (rU hr) rfl b_repr (e_var (i := 0) rfl (by first | exact .inl rfl | exact .inr (.inl rfl) | exact .inr (.inr rfl)) rfl rfl) (e_var (i := 1) rfl (by first | exact .inl rfl | exact .inr (.inl rfl) | exact .inr (.inr rfl)) rfl rfl) rfl rfl (fun _ => rfl) rfl)))
abbrev s_all_lots : Stmt := top 24
theorem sc_all_lots : FnScope ["size", "lots", "place", "lot"] ["size"] (defScope s_all_lots) := ⟨rfl, rfl, rfl, by decide +kernel, rfl, by decide +kernel, by decide +kernel⟩
def b_all_lots : EvS := (evSeqS (evAsg (.nm 1) (evLst (evCons (evTup evNil) evNil))) (evSeqS (evFor (.nm 2) (evRg rg1 (evCons (evVar 0) evNil)) (evAsg (.nm 1) (ev2 opAdd (evVar 1) (evFrz (evComp (.nm 3) [3] (evSeq (evVar 1)) evYes (evTup (evStar (evVar 3) (evCons (evVar 2) evNil)))))))) (evRet (evVar 1))))
def cf_all_lots : CallF := runB 4 b_all_lots
theorem d_all_lots {P : Program} {w : World} {g : G0} {mg : Str → Option Value} {base : Heap} (b_range : mg "range" = none) {f : Addr} {fd : FuncData} (F : Fun g.K "all_lots" "all_lots" s_all_lots f fd)  : FnG P w g.K mg base (L2.CX P w) 1 f fd ["size"] (spF g 1 cf_all_lots) :=
  fn_ev F (k := 0) sc_all_lots fun G cdv A outer s H E hG hr hgd => by
    subst hG
    exact (ss_cons (s_set (i := 1) sc_all_lots.nd rfl (by first | exact .inl rfl | exact .inr rfl) (e_lst (a1 (e_tup a0) a0)) rfl (by first | exact .inl rfl | exact .inr rfl)) (ss_cons (s_for (passes_of rfl) rfl (i_range1 rfl b_range (a1 (e_var (i := 0) rfl (by first | exact .inl rfl | exact .inr (.inl rfl) | exact .inr (.inr rfl)) rfl rfl) a0) rfl) (g_name (i := 2) sc_all_lots.nd rfl (by first | exact .inl rfl | exact .inr rfl) (by first | exact .inl rfl | exact .inr rfl)) (ss_one (s_set (i := 1) sc_all_lots.nd rfl (by first | exact .inl rfl | exact .inr rfl) (e_op (o_add rfl) (e_var (i := 1) rfl (by first | exact .inl rfl | exact .inr (.inl rfl) | exact .inr (.inr rfl)) rfl rfl) (e_frz (f_lc (own := [("lot", 3)]) (t := (.nm 3)) rfl sc_all_lots.nd (i_seq rfl (e_var (i := 1) rfl (by first | exact .inl rfl | exact .inr (.inl rfl) | exact .inr (.inr rfl)) rfl rfl)) (blkOk_by (N := ["size", "lots", "place", "lot"]) (sc := (defScope s_all_lots)) (own := [("lot", 3)]) (by decide +kernel)) (by decide) (fun _ _ _ _ _ => (g_name (i := 3) sc_all_lots.nd rfl (by first | exact .inl rfl | exact .inr rfl) (by first | exact .inl rfl | exact .inr rfl))) (fun _ _ _ _ _ => pts_yes) (fun _ _ _ _ _ => (e_tup (a_star rfl (e_var (i := 3) rfl (by first | exact .inl rfl | exact .inr (.inl rfl) | exact .inr (.inr rfl)) rfl rfl) (a1 (e_var (i := 2) rfl (by first | exact .inl rfl | exact .inr (.inl rfl) | exact .inr (.inr rfl)) rfl rfl) a0)))) (fun _ => rfl)))) rfl (by first | exact .inl rfl | exact .inr rfl))) (fun _ => rfl)) (ss_one (s_ret (e_var (i := 1) rfl (by first | exact .inl rfl | exact .inr (.inl rfl) | exact .inr (.inr rfl)) rfl rfl)))))
abbrev s_less_times : Stmt := top 14
theorem sc_less_times : FnScope ["prime", "one", "digit", "other", "left", "right"] ["prime", "one", "digit", "other"] (defScope s_less_times) := ⟨rfl, rfl, rfl, by decide +kernel, rfl, by decide +kernel, by decide +kernel⟩
def b_less_times : EvS := (evRet (evB gTuple (evCons (evFrz (evComp (.tp [(.nm 4), (.nm 5)]) [4, 5] (evRg zp2 (evCons (evVar 1) (evCons (evVar 3) evNil))) evYes (ev2 opMod (ev2 opSub (evVar 4) (ev2 opMul (evVar 2) (evVar 5))) (evVar 0)))) evNil)))
def cf_less_times : CallF := runB 6 b_less_times
theorem d_less_times {P : Program} {w : World} {g : G0} {mg : Str → Option Value} {base : Heap} (b_tuple : mg "tuple" = none) (b_zip : mg "zip" = none) {f : Addr} {fd : FuncData} (F : Fun g.K "less_times" "less_times" s_less_times f fd)  : FnG P w g.K mg base (L2.CX P w) 1 f fd ["prime", "one", "digit", "other"] (spF g 4 cf_less_times) :=
  fn_ev F (k := 0) sc_less_times fun G cdv A outer s H E hG hr hgd => by
    subst hG
    exact (ss_one (s_ret (b_ty (c_tuple rfl) rfl b_tuple PyProof.Rows.Boot.«tuple» (a1 (e_frz (f_lc (own := [("left", 4), ("right", 5)]) (t := (.tp [(.nm 4), (.nm 5)])) rfl sc_less_times.nd (i_zip rfl rfl b_zip (a1 (e_var (i := 1) rfl (by first | exact .inl rfl | exact .inr (.inl rfl) | exact .inr (.inr rfl)) rfl rfl) (a1 (e_var (i := 3) rfl (by first | exact .inl rfl | exact .inr (.inl rfl) | exact .inr (.inr rfl)) rfl rfl) a0)) rfl rfl) (blkOk_by (N := ["prime", "one", "digit", "other", "left", "right"]) (sc := (defScope s_less_times)) (own := [("left", 4), ("right", 5)]) (by decide +kernel)) (by decide) (fun _ _ _ _ _ => (g_tup rfl rfl (gs_cons (g_name (i := 4) sc_less_times.nd rfl (by first | exact .inl rfl | exact .inr rfl) (by first | exact .inl rfl | exact .inr rfl)) (gs_cons (g_name (i := 5) sc_less_times.nd rfl (by first | exact .inl rfl | exact .inr rfl) (by first | exact .inl rfl | exact .inr rfl)) gs_nil rfl) rfl) rfl rfl)) (fun _ _ _ _ _ => pts_yes) (fun _ _ _ _ _ => (e_op (o_mod) (e_op (o_sub) (e_var (i := 4) rfl (by first | exact .inl rfl | exact .inr (.inl rfl) | exact .inr (.inr rfl)) rfl rfl) (e_op (o_mul rfl) (e_var (i := 2) rfl (by first | exact .inl rfl | exact .inr (.inl rfl) | exact .inr (.inr rfl)) rfl rfl) (e_var (i := 5) rfl (by first | exact .inl rfl | exact .inr (.inl rfl) | exact .inr (.inr rfl)) rfl rfl))) (e_var (i := 0) rfl (by first | exact .inl rfl | exact .inr (.inl rfl) | exact .inr (.inr rfl)) rfl rfl))) (fun _ => rfl))) a0))))
abbrev s_reduced : Stmt := top 15
theorem sc_reduced : FnScope ["prime", "rows", "one", "row", "digit"] ["prime", "rows", "one"] (defScope s_reduced) := ⟨rfl, rfl, rfl, by decide +kernel, rfl, by decide +kernel, by decide +kernel⟩
def b_reduced : EvS := (evSeqS (evFor (.nm 3) (evSeq (evVar 1)) (evSeqS (evAsg (.nm 4) (evSub (evVar 2) (evMT gIndexT (evVar 3) (evCons (evCon (.int 1)) evNil)))) (evIfS (ev2 cNe (evVar 4) (evCon (.int 0))) (evAsg (.nm 2) (evCall cf_less_times [0, 1, 2, 3] 4 0 (evCons (evVar 0) (evCons (evVar 2) (evCons (evVar 4) (evCons (evVar 3) evNil)))) evNil)) evSkip))) (evRet (evVar 2)))
def cf_reduced : CallF := runB 5 b_reduced
theorem d_reduced {P : Program} {w : World} {g : G0} {mg : Str → Option Value} {base : Heap} (D_less_times : Def P w g mg base 1 "less_times" s_less_times ["prime", "one", "digit", "other"] cf_less_times) {f : Addr} {fd : FuncData} (F : Fun g.K "reduced" "reduced" s_reduced f fd)  : FnG P w g.K mg base (L2.CX P w) 2 f fd ["prime", "rows", "one"] (spF g 3 cf_reduced) :=
  fn_ev F (k := 1) sc_reduced fun G cdv A outer s H E hG hr hgd => by
    subst hG
    exact (ss_cons (s_for (passes_of rfl) rfl (i_seq rfl (e_var (i := 1) rfl (by first | exact .inl rfl | exact .inr (.inl rfl) | exact .inr (.inr rfl)) rfl rfl)) (g_name (i := 3) sc_reduced.nd rfl (by first | exact .inl rfl | exact .inr rfl) (by first | exact .inl rfl | exact .inr rfl)) (ss_cons (s_set (i := 4) sc_reduced.nd rfl (by first | exact .inl rfl | exact .inr rfl) (e_sub rfl (rU2 hr) (e_var (i := 2) rfl (by first | exact .inl rfl | exact .inr (.inl rfl) | exact .inr (.inr rfl)) rfl rfl) (e_bmT rfl PySem.F.slot_tuple_index PySem.F.type_tuple_index (m_indexT rfl) (e_var (i := 3) rfl (by first | exact .inl rfl | exact .inr (.inl rfl) | exact .inr (.inr rfl)) rfl rfl) (a1 (e_con pe_int fun _ => .int 1) a0) rfl rfl rfl rfl rfl) (fun _ _ => rfl) (fun _ _ => rfl)) rfl (by first | exact .inl rfl | exact .inr rfl)) (ss_one (s_if (t_cmp booly_cNe (o_ne rfl (rU hr)) (e_var (i := 4) rfl (by first | exact .inl rfl | exact .inr (.inl rfl) | exact .inr (.inr rfl)) rfl rfl) (e_con pe_int fun _ => .int 0) rfl) (ss_one (s_set (i := 2) sc_reduced.nd rfl (by first | exact .inl rfl | exact .inr rfl) (c_pos (n := 4) (perm := [0, 1, 2, 3]) D_less_times rfl (fun _ _ _ _ _ _ => ⟨rfl, fun s us ws h1 h2 => match us, ws, h1, h2 with | [_, _, _, _], [], _, _ => .of_eq rfl⟩) (hr.mono (by decide)) hgd (takes_of rfl rfl rfl rfl) (a1 (e_var (i := 0) rfl (by first | exact .inl rfl | exact .inr (.inl rfl) | exact .inr (.inr rfl)) rfl rfl) (a1 (e_var (i := 2) rfl (by first | exact .inl rfl | exact .inr (.inl rfl) | exact .inr (.inr rfl)) rfl rfl) (a1 (e_var (i := 4) rfl (by first | exact .inl rfl | exact .inr (.inl rfl) | exact .inr (.inr rfl)) rfl rfl) (a1 (e_var (i := 3) rfl (by first | exact .inl rfl | exact .inr (.inl rfl) | exact .inr (.inr rfl)) rfl rfl) a0))))) rfl (by first | exact .inl rfl | exact .inr rfl))) ss_nil))) (fun _ => rfl)) (ss_one (s_ret (e_var (i := 2) rfl (by first | exact .inl rfl | exact .inr (.inl rfl) | exact .inr (.inr rfl)) rfl rfl))))
abbrev s_lead_of : Stmt := top 11
theorem sc_lead_of : FnScope ["one", "place", "digit"] ["one"] (defScope s_lead_of) := ⟨rfl, rfl, rfl, by decide +kernel, rfl, by decide +kernel, by decide +kernel⟩
def b_lead_of : EvS := (evSeqS (evFor (.tp [(.nm 1), (.nm 2)]) (evRg en1 (evCons (evVar 0) evNil)) (evIfS (ev2 cNe (evVar 2) (evCon (.int 0))) (evRet (evVar 1)) evSkip)) (evRet (evCon (.non))))
def cf_lead_of : CallF := runB 3 b_lead_of
theorem d_lead_of {P : Program} {w : World} {g : G0} {mg : Str → Option Value} {base : Heap} (b_enumerate : mg "enumerate" = none) {f : Addr} {fd : FuncData} (F : Fun g.K "lead_of" "lead_of" s_lead_of f fd)  : FnG P w g.K mg base (L2.CX P w) 1 f fd ["one"] (spF g 1 cf_lead_of) :=
  fn_ev F (k := 0) sc_lead_of fun G cdv A outer s H E hG hr hgd => by
    subst hG
    exact (ss_cons (s_for (passes_of rfl) rfl (i_enum rfl rfl b_enumerate (a1 (e_var (i := 0) rfl (by first | exact .inl rfl | exact .inr (.inl rfl) | exact .inr (.inr rfl)) rfl rfl) a0) rfl) (g_tup rfl rfl (gs_cons (g_name (i := 1) sc_lead_of.nd rfl (by first | exact .inl rfl | exact .inr rfl) (by first | exact .inl rfl | exact .inr rfl)) (gs_cons (g_name (i := 2) sc_lead_of.nd rfl (by first | exact .inl rfl | exact .inr rfl) (by first | exact .inl rfl | exact .inr rfl)) gs_nil rfl) rfl) rfl rfl) (ss_one (s_if (t_cmp booly_cNe (o_ne rfl (rU hr)) (e_var (i := 2) rfl (by first | exact .inl rfl | exact .inr (.inl rfl) | exact .inr (.inr rfl)) rfl rfl) (e_con pe_int fun _ => .int 0) rfl) (ss_one (s_ret (e_var (i := 1) rfl (by first | exact .inl rfl | exact .inr (.inl rfl) | exact .inr (.inr rfl)) rfl rfl))) ss_nil)) (fun _ => rfl)) (ss_one (s_ret (e_con pe_non fun _ => .non))))
abbrev s_inverse_of : Stmt := top 13
theorem sc_inverse_of : FnScope ["prime", "digit", "other"] ["prime", "digit"] (defScope s_inverse_of) := ⟨rfl, rfl, rfl, by decide +kernel, rfl, by decide +kernel, by decide +kernel⟩
def b_inverse_of : EvS := (evRet (evSub (evFrz (evComp (.nm 2) [2] (evRg rg2 (evCons (evCon (.int 1)) (evCons (evVar 0) evNil))) (evT (ev2 cEq (ev2 opMod (ev2 opMul (evVar 1) (evVar 2)) (evVar 0)) (evCon (.int 1)))) (evVar 2))) (evCon (.int 0))))
def cf_inverse_of : CallF := runB 3 b_inverse_of
theorem d_inverse_of {P : Program} {w : World} {g : G0} {mg : Str → Option Value} {base : Heap} (b_range : mg "range" = none) {f : Addr} {fd : FuncData} (F : Fun g.K "inverse_of" "inverse_of" s_inverse_of f fd)  : FnG P w g.K mg base (L2.CX P w) 1 f fd ["prime", "digit"] (spF g 2 cf_inverse_of) :=
  fn_ev F (k := 0) sc_inverse_of fun G cdv A outer s H E hG hr hgd => by
    subst hG
    exact (ss_one (s_ret (e_sub rfl (rU2 hr) (e_frz (f_lc (own := [("other", 2)]) (t := (.nm 2)) rfl sc_inverse_of.nd (i_range2 rfl b_range (a1 (e_con pe_int fun _ => .int 1) (a1 (e_var (i := 0) rfl (by first | exact .inl rfl | exact .inr (.inl rfl) | exact .inr (.inr rfl)) rfl rfl) a0)) rfl rfl) (blkOk_by (N := ["prime", "digit", "other"]) (sc := (defScope s_inverse_of)) (own := [("other", 2)]) (by decide +kernel)) (by decide) (fun _ _ _ _ _ => (g_name (i := 2) sc_inverse_of.nd rfl (by first | exact .inl rfl | exact .inr rfl) (by first | exact .inl rfl | exact .inr rfl))) (fun _ _ _ _ _ => (pts_one1 (t_cmp booly_cEq (o_eq rfl (rU hr)) (e_op (o_mod) (e_op (o_mul rfl) (e_var (i := 1) rfl (by first | exact .inl rfl | exact .inr (.inl rfl) | exact .inr (.inr rfl)) rfl rfl) (e_var (i := 2) rfl (by first | exact .inl rfl | exact .inr (.inl rfl) | exact .inr (.inr rfl)) rfl rfl)) (e_var (i := 0) rfl (by first | exact .inl rfl | exact .inr (.inl rfl) | exact .inr (.inr rfl)) rfl rfl)) (e_con pe_int fun _ => .int 1) rfl))) (fun _ _ _ _ _ => (e_var (i := 2) rfl (by first | exact .inl rfl | exact .inr (.inl rfl) | exact .inr (.inr rfl)) rfl rfl)) (fun _ => rfl))) (e_con pe_int fun _ => .int 0) (fun _ _ => rfl) (fun _ _ => rfl))))
abbrev s_grown : Stmt := top 16
theorem sc_grown : FnScope ["prime", "rows", "one", "rest", "lead", "inverse", "fresh", "digit", "others", "row"] ["prime", "rows", "one"] (defScope s_grown) := ⟨rfl, rfl, rfl, by decide +kernel, rfl, by decide +kernel, by decide +kernel⟩
def b_grown : EvS := (evSeqS (evIfS (ev2 cEq (evB gLen (evCons (evVar 1) evNil)) (evB gLen (evCons (evVar 2) evNil))) (evRet (evVar 1)) evSkip) (evSeqS (evAsg (.nm 3) (evCall cf_reduced [0, 1, 2] 3 0 (evCons (evVar 0) (evCons (evVar 1) (evCons (evVar 2) evNil))) evNil)) (evSeqS (evAsg (.nm 4) (evCall cf_lead_of [0] 1 0 (evCons (evVar 3) evNil) evNil)) (evSeqS (evIfS (ev2 cIs (evVar 4) (evCon (.non))) (evRet (evVar 1)) evSkip) (evSeqS (evAsg (.nm 5) (evCall cf_inverse_of [0, 1] 2 0 (evCons (evVar 0) (evCons (evSub (evVar 3) (evVar 4)) evNil)) evNil)) (evSeqS (evAsg (.nm 6) (evB gTuple (evCons (evFrz (evComp (.nm 7) [7] (evSeq (evVar 3)) evYes (ev2 opMod (ev2 opMul (evVar 5) (evVar 7)) (evVar 0)))) evNil))) (evSeqS (evAsg (.nm 8) (evFrz (evComp (.nm 9) [9] (evSeq (evVar 1)) evYes (evCall cf_less_times [0, 1, 2, 3] 4 0 (evCons (evVar 0) (evCons (evVar 9) (evCons (evSub (evVar 9) (evVar 4)) (evCons (evVar 6) evNil)))) evNil)))) (evRet (evB gTuple (evCons (evBK gSortTR (evCons (evLst (evStar (evVar 8) (evCons (evVar 6) evNil))) evNil) (evCons (evCon (.bl true)) evNil)) evNil))))))))))
def cf_grown : CallF := runB 10 b_grown
theorem d_grown {P : Program} {w : World} {g : G0} {mg : Str → Option Value} {base : Heap} (D_inverse_of : Def P w g mg base 1 "inverse_of" s_inverse_of ["prime", "digit"] cf_inverse_of) (D_lead_of : Def P w g mg base 1 "lead_of" s_lead_of ["one"] cf_lead_of) (D_less_times : Def P w g mg base 1 "less_times" s_less_times ["prime", "one", "digit", "other"] cf_less_times) (D_reduced : Def P w g mg base 2 "reduced" s_reduced ["prime", "rows", "one"] cf_reduced) (b_len : mg "len" = none) (b_sorted : mg "sorted" = none) (b_tuple : mg "tuple" = none) {f : Addr} {fd : FuncData} (F : Fun g.K "grown" "grown" s_grown f fd)  : FnG P w g.K mg base (L2.CX P w) 3 f fd ["prime", "rows", "one"] (spF g 3 cf_grown) :=
  fn_ev F (k := 2) sc_grown fun G cdv A outer s H E hG hr hgd => by
    subst hG
    exact (ss_cons (s_if (t_cmp booly_cEq (o_eq rfl (rU hr)) (b_call (c_len rfl) rfl b_len PyProof.Rows.Boot.«len» (a1 (e_var (i := 1) rfl (by first | exact .inl rfl | exact .inr (.inl rfl) | exact .inr (.inr rfl)) rfl rfl) a0)) (b_call (c_len rfl) rfl b_len PyProof.Rows.Boot.«len» (a1 (e_var (i := 2) rfl (by first | exact .inl rfl | exact .inr (.inl rfl) | exact .inr (.inr rfl)) rfl rfl) a0)) rfl) (ss_one (s_ret (e_var (i := 1) rfl (by first | exact .inl rfl | exact .inr (.inl rfl) | exact .inr (.inr rfl)) rfl rfl))) ss_nil) (ss_cons (s_set (i := 3) sc_grown.nd rfl (by first | exact .inl rfl | exact .inr rfl) (c_pos (n := 3) (perm := [0, 1, 2]) D_reduced rfl (fun _ _ _ _ _ _ => ⟨rfl, fun s us ws h1 h2 => match us, ws, h1, h2 with | [_, _, _], [], _, _ => .of_eq rfl⟩) (hr.mono (by decide)) hgd (takes_of rfl rfl rfl rfl) (a1 (e_var (i := 0) rfl (by first | exact .inl rfl | exact .inr (.inl rfl) | exact .inr (.inr rfl)) rfl rfl) (a1 (e_var (i := 1) rfl (by first | exact .inl rfl | exact .inr (.inl rfl) | exact .inr (.inr rfl)) rfl rfl) (a1 (e_var (i := 2) rfl (by first | exact .inl rfl | exact .inr (.inl rfl) | exact .inr (.inr rfl)) rfl rfl) a0)))) rfl (by first | exact .inl rfl | exact .inr rfl)) (ss_cons (s_set (i := 4) sc_grown.nd rfl (by first | exact .inl rfl | exact .inr rfl) (c_pos (n := 1) (perm := [0]) D_lead_of rfl (fun _ _ _ _ _ _ => ⟨rfl, fun s us ws h1 h2 => match us, ws, h1, h2 with | [_], [], _, _ => .of_eq rfl⟩) (hr.mono (by decide)) hgd (takes_of rfl rfl rfl rfl) (a1 (e_var (i := 3) rfl (by first | exact .inl rfl | exact .inr (.inl rfl) | exact .inr (.inr rfl)) rfl rfl) a0)) rfl (by first | exact .inl rfl | exact .inr rfl)) (ss_cons (s_if (t_cmp booly_cIs (o_is) (e_var (i := 4) rfl (by first | exact .inl rfl | exact .inr (.inl rfl) | exact .inr (.inr rfl)) rfl rfl) (e_con pe_non fun _ => .non) rfl) (ss_one (s_ret (e_var (i := 1) rfl (by first | exact .inl rfl | exact .inr (.inl rfl) | exact .inr (.inr rfl)) rfl rfl))) ss_nil) (ss_cons (s_set (i := 5) sc_grown.nd rfl (by first | exact .inl rfl | exact .inr rfl) (c_pos (n := 2) (perm := [0, 1]) D_inverse_of rfl (fun _ _ _ _ _ _ => ⟨rfl, fun s us ws h1 h2 => match us, ws, h1, h2 with | [_, _], [], _, _ => .of_eq rfl⟩) (hr.mono (by decide)) hgd (takes_of rfl rfl rfl rfl) (a1 (e_var (i := 0) rfl (by first | exact .inl rfl | exact .inr (.inl rfl) | exact .inr (.inr rfl)) rfl rfl) (a1 (e_sub rfl (rU2 hr) (e_var (i := 3) rfl (by first | exact .inl rfl | exact .inr (.inl rfl) | exact .inr (.inr rfl)) rfl rfl) (e_var (i := 4) rfl (by first | exact .inl rfl | exact .inr (.inl rfl) | exact .inr (.inr rfl)) rfl rfl) (fun _ _ => rfl) (fun _ _ => rfl)) a0))) rfl (by first | exact .inl rfl | exact .inr rfl)) (ss_cons (s_set (i := 6) sc_grown.nd rfl (by first | exact .inl rfl | exact .inr rfl) (b_ty (c_tuple rfl) rfl b_tuple PyProof.Rows.Boot.«tuple» (a1 (e_frz (f_lc (own := [("digit", 7)]) (t := (.nm 7)) rfl sc_grown.nd (i_seq rfl (e_var (i := 3) rfl (by first | exact .inl rfl | exact .inr (.inl rfl) | exact .inr (.inr rfl)) rfl rfl)) (blkOk_by (N := ["prime", "rows", "one", "rest", "lead", "inverse", "fresh", "digit", "others", "row"]) (sc := (defScope s_grown)) (own := [("digit", 7)]) (by decide +kernel)) (by decide) (fun _ _ _ _ _ => (g_name (i := 7) sc_grown.nd rfl (by first | exact .inl rfl | exact .inr rfl) (by first | exact .inl rfl | exact .inr rfl))) (fun _ _ _ _ _ => pts_yes) (fun _ _ _ _ _ => (e_op (o_mod) (e_op (o_mul rfl) (e_var (i := 5) rfl (by first | exact .inl rfl | exact .inr (.inl rfl) | exact .inr (.inr rfl)) rfl rfl) (e_var (i := 7) rfl (by first | exact .inl rfl | exact .inr (.inl rfl) | exact .inr (.inr rfl)) rfl rfl)) (e_var (i := 0) rfl (by first | exact .inl rfl | exact .inr (.inl rfl) | exact .inr (.inr rfl)) rfl rfl))) (fun _ => rfl))) a0)) rfl (by first | exact .inl rfl | exact .inr rfl)) (ss_cons (s_lcV (own := [("row", 9)]) (t := (.nm 9)) (by decide) (lcS (i := 8) (own := [("row", 9)]) (t := (.nm 9)) rfl sc_grown.nd rfl rfl (sw_true rfl rfl rfl (by decide +kernel)) (i_seq rfl (e_var (i := 1) rfl (by first | exact .inl rfl | exact .inr (.inl rfl) | exact .inr (.inr rfl)) rfl rfl)) (blkOk_by (N := ["prime", "rows", "one", "rest", "lead", "inverse", "fresh", "digit", "others", "row"]) (sc := (defScope s_grown)) (own := [("row", 9)]) (by decide +kernel)) (fun _ _ _ _ _ => (g_name (i := 9) sc_grown.nd rfl (by first | exact .inl rfl | exact .inr rfl) (by first | exact .inl rfl | exact .inr rfl))) (fun _ _ _ _ _ => pts_yes) (fun _ _ _ _ _ => (c_pos (n := 4) (perm := [0, 1, 2, 3]) D_less_times rfl (fun _ _ _ _ _ _ => ⟨rfl, fun s us ws h1 h2 => match us, ws, h1, h2 with | [_, _, _, _], [], _, _ => .of_eq rfl⟩) (hr.mono (by decide)) hgd L2.takes0 (a1 (e_var (i := 0) rfl (by first | exact .inl rfl | exact .inr (.inl rfl) | exact .inr (.inr rfl)) rfl rfl) (a1 (e_var (i := 9) rfl (by first | exact .inl rfl | exact .inr (.inl rfl) | exact .inr (.inr rfl)) rfl rfl) (a1 (e_sub rfl (rU2 hr) (e_var (i := 9) rfl (by first | exact .inl rfl | exact .inr (.inl rfl) | exact .inr (.inr rfl)) rfl rfl) (e_var (i := 4) rfl (by first | exact .inl rfl | exact .inr (.inl rfl) | exact .inr (.inr rfl)) rfl rfl) (fun _ _ => rfl) (fun _ _ => rfl)) (a1 (e_var (i := 6) rfl (by first | exact .inl rfl | exact .inr (.inl rfl) | exact .inr (.inr rfl)) rfl rfl) a0)))))) (fun _ => rfl))) (ss_one (s_ret (b_ty (c_tuple rfl) rfl b_tuple PyProof.Rows.Boot.«tuple» (a1 (b_callK (c_sortTR rfl) rfl b_sorted PyProof.Rows.Boot.«sorted» (a1 (e_lst (a_star rfl (e_var (i := 8) rfl (by first | exact .inl rfl | exact .inr (.inl rfl) | exact .inr (.inr rfl)) rfl rfl) (a1 (e_var (i := 6) rfl (by first | exact .inl rfl | exact .inr (.inl rfl) | exact .inr (.inr rfl)) rfl rfl) a0))) a0) (k1 (e_con pe_bl fun _ => .bl true) k0) (by decide) rfl rfl rfl rfl rfl rfl) a0)))))))))))
abbrev s_ranks_of : Stmt := top 29
theorem sc_ranks_of : FnScope ["book", "prime", "size", "rows", "spans", "place", "column", "row", "span"] ["book"] (defScope s_ranks_of) := ⟨rfl, rfl, rfl, by decide +kernel, rfl, by decide +kernel, by decide +kernel⟩
def b_ranks_of : EvS := (evSeqS (evAsg (.tp [(.nm 1), (.nm 2), (.nm 3)]) (evVar 0)) (evSeqS (evAsg (.nm 4) (evLst (evCons (evTup evNil) evNil))) (evSeqS (evFor (.nm 5) (evRg rg1 (evCons (evVar 2) evNil)) (evSeqS (evAsg (.nm 6) (evB gTuple (evCons (evFrz (evComp (.nm 7) [7] (evSeq (evVar 3)) evYes (evSub (evVar 7) (evVar 5)))) evNil))) (evAsg (.nm 4) (ev2 opAdd (evVar 4) (evFrz (evComp (.nm 8) [8] (evSeq (evVar 4)) evYes (evCall cf_grown [0, 1, 2] 3 0 (evCons (evVar 1) (evCons (evVar 8) (evCons (evVar 6) evNil))) evNil))))))) (evRet (evFrz (evComp (.nm 8) [8] (evSeq (evVar 4)) evYes (evB gLen (evCons (evVar 8) evNil))))))))
def cf_ranks_of : CallF := runB 9 b_ranks_of
theorem d_ranks_of {P : Program} {w : World} {g : G0} {mg : Str → Option Value} {base : Heap} (D_grown : Def P w g mg base 3 "grown" s_grown ["prime", "rows", "one"] cf_grown) (b_len : mg "len" = none) (b_range : mg "range" = none) (b_tuple : mg "tuple" = none) {f : Addr} {fd : FuncData} (F : Fun g.K "ranks_of" "ranks_of" s_ranks_of f fd)  : FnG P w g.K mg base (L2.CX P w) 4 f fd ["book"] (spF g 1 cf_ranks_of) :=
  fn_ev F (k := 3) sc_ranks_of fun G cdv A outer s H E hG hr hgd => by
    subst hG
    exact (ss_cons (s_asg (e_var (i := 0) rfl (by first | exact .inl rfl | exact .inr (.inl rfl) | exact .inr (.inr rfl)) rfl rfl) (g_tup rfl rfl (gs_cons (g_name (i := 1) sc_ranks_of.nd rfl (by first | exact .inl rfl | exact .inr rfl) (by first | exact .inl rfl | exact .inr rfl)) (gs_cons (g_name (i := 2) sc_ranks_of.nd rfl (by first | exact .inl rfl | exact .inr rfl) (by first | exact .inl rfl | exact .inr rfl)) (gs_cons (g_name (i := 3) sc_ranks_of.nd rfl (by first | exact .inl rfl | exact .inr rfl) (by first | exact .inl rfl | exact .inr rfl)) gs_nil rfl) rfl) rfl) rfl rfl) rfl rfl rfl) (ss_cons (s_set (i := 4) sc_ranks_of.nd rfl (by first | exact .inl rfl | exact .inr rfl) (e_lst (a1 (e_tup a0) a0)) rfl (by first | exact .inl rfl | exact .inr rfl)) (ss_cons (s_for (passes_of rfl) rfl (i_range1 rfl b_range (a1 (e_var (i := 2) rfl (by first | exact .inl rfl | exact .inr (.inl rfl) | exact .inr (.inr rfl)) rfl rfl) a0) rfl) (g_name (i := 5) sc_ranks_of.nd rfl (by first | exact .inl rfl | exact .inr rfl) (by first | exact .inl rfl | exact .inr rfl)) (ss_cons (s_set (i := 6) sc_ranks_of.nd rfl (by first | exact .inl rfl | exact .inr rfl) (b_ty (c_tuple rfl) rfl b_tuple PyProof.Rows.Boot.«tuple» (a1 (e_frz (f_lc (own := [("row", 7)]) (t := (.nm 7)) rfl sc_ranks_of.nd (i_seq rfl (e_var (i := 3) rfl (by first | exact .inl rfl | exact .inr (.inl rfl) | exact .inr (.inr rfl)) rfl rfl)) (blkOk_by (N := ["book", "prime", "size", "rows", "spans", "place", "column", "row", "span"]) (sc := (defScope s_ranks_of)) (own := [("row", 7)]) (by decide +kernel)) (by decide) (fun _ _ _ _ _ => (g_name (i := 7) sc_ranks_of.nd rfl (by first | exact .inl rfl | exact .inr rfl) (by first | exact .inl rfl | exact .inr rfl))) (fun _ _ _ _ _ => pts_yes) (fun _ _ _ _ _ => (e_sub rfl (rU2 hr) (e_var (i := 7) rfl (by first | exact .inl rfl | exact .inr (.inl rfl) | exact .inr (.inr rfl)) rfl rfl) (e_var (i := 5) rfl (by first | exact .inl rfl | exact .inr (.inl rfl) | exact .inr (.inr rfl)) rfl rfl) (fun _ _ => rfl) (fun _ _ => rfl))) (fun _ => rfl))) a0)) rfl (by first | exact .inl rfl | exact .inr rfl)) (ss_one (s_set (i := 4) sc_ranks_of.nd rfl (by first | exact .inl rfl | exact .inr rfl) (e_op (o_add rfl) (e_var (i := 4) rfl (by first | exact .inl rfl | exact .inr (.inl rfl) | exact .inr (.inr rfl)) rfl rfl) (e_frz (f_lc (own := [("span", 8)]) (t := (.nm 8)) rfl sc_ranks_of.nd (i_seq rfl (e_var (i := 4) rfl (by first | exact .inl rfl | exact .inr (.inl rfl) | exact .inr (.inr rfl)) rfl rfl)) (blkOk_by (N := ["book", "prime", "size", "rows", "spans", "place", "column", "row", "span"]) (sc := (defScope s_ranks_of)) (own := [("span", 8)]) (by decide +kernel)) (by decide) (fun _ _ _ _ _ => (g_name (i := 8) sc_ranks_of.nd rfl (by first | exact .inl rfl | exact .inr rfl) (by first | exact .inl rfl | exact .inr rfl))) (fun _ _ _ _ _ => pts_yes) (fun _ _ _ _ _ => (c_pos (n := 3) (perm := [0, 1, 2]) D_grown rfl (fun _ _ _ _ _ _ => ⟨rfl, fun s us ws h1 h2 => match us, ws, h1, h2 with | [_, _, _], [], _, _ => .of_eq rfl⟩) (hr.mono (by decide)) hgd L2.takes0 (a1 (e_var (i := 1) rfl (by first | exact .inl rfl | exact .inr (.inl rfl) | exact .inr (.inr rfl)) rfl rfl) (a1 (e_var (i := 8) rfl (by first | exact .inl rfl | exact .inr (.inl rfl) | exact .inr (.inr rfl)) rfl rfl) (a1 (e_var (i := 6) rfl (by first | exact .inl rfl | exact .inr (.inl rfl) | exact .inr (.inr rfl)) rfl rfl) a0))))) (fun _ => rfl)))) rfl (by first | exact .inl rfl | exact .inr rfl)))) (fun _ => rfl)) (ss_one (s_ret (e_frz (f_lc (own := [("span", 8)]) (t := (.nm 8)) rfl sc_ranks_of.nd (i_seq rfl (e_var (i := 4) rfl (by first | exact .inl rfl | exact .inr (.inl rfl) | exact .inr (.inr rfl)) rfl rfl)) (blkOk_by (N := ["book", "prime", "size", "rows", "spans", "place", "column", "row", "span"]) (sc := (defScope s_ranks_of)) (own := [("span", 8)]) (by decide +kernel)) (by decide) (fun _ _ _ _ _ => (g_name (i := 8) sc_ranks_of.nd rfl (by first | exact .inl rfl | exact .inr rfl) (by first | exact .inl rfl | exact .inr rfl))) (fun _ _ _ _ _ => pts_yes) (fun _ _ _ _ _ => (b_call (c_len rfl) rfl b_len PyProof.Rows.Boot.«len» (a1 (e_var (i := 8) rfl (by first | exact .inl rfl | exact .inr (.inl rfl) | exact .inr (.inr rfl)) rfl rfl) a0))) (fun _ => rfl))))))))
abbrev s_free_lots : Stmt := top 30
theorem sc_free_lots : FnScope ["book", "lot", "rank"] ["book"] (defScope s_free_lots) := ⟨rfl, rfl, rfl, by decide +kernel, rfl, by decide +kernel, by decide +kernel⟩
def b_free_lots : EvS := (evRet (evFrz (evComp (.tp [(.nm 1), (.nm 2)]) [1, 2] (evRg zp2 (evCons (evCall cf_all_lots [0] 1 0 (evCons (evSub (evVar 0) (evCon (.int 1))) evNil) evNil) (evCons (evCall cf_ranks_of [0] 1 0 (evCons (evVar 0) evNil) evNil) evNil))) (evT (ev2 cEq (evVar 2) (evB gLen (evCons (evVar 1) evNil)))) (evVar 1))))
def cf_free_lots : CallF := runB 3 b_free_lots
theorem d_free_lots {P : Program} {w : World} {g : G0} {mg : Str → Option Value} {base : Heap} (D_all_lots : Def P w g mg base 1 "all_lots" s_all_lots ["size"] cf_all_lots) (D_ranks_of : Def P w g mg base 4 "ranks_of" s_ranks_of ["book"] cf_ranks_of) (b_len : mg "len" = none) (b_zip : mg "zip" = none) {f : Addr} {fd : FuncData} (F : Fun g.K "free_lots" "free_lots" s_free_lots f fd)  : FnG P w g.K mg base (L2.CX P w) 5 f fd ["book"] (spF g 1 cf_free_lots) :=
  fn_ev F (k := 4) sc_free_lots fun G cdv A outer s H E hG hr hgd => by
    subst hG
    exact (ss_one (s_ret (e_frz (f_lc (own := [("lot", 1), ("rank", 2)]) (t := (.tp [(.nm 1), (.nm 2)])) rfl sc_free_lots.nd (i_zip rfl rfl b_zip (a1 (c_pos (n := 1) (perm := [0]) D_all_lots rfl (fun _ _ _ _ _ _ => ⟨rfl, fun s us ws h1 h2 => match us, ws, h1, h2 with | [_], [], _, _ => .of_eq rfl⟩) (hr.mono (by decide)) hgd (takes_of rfl rfl rfl rfl) (a1 (e_sub rfl (rU2 hr) (e_var (i := 0) rfl (by first | exact .inl rfl | exact .inr (.inl rfl) | exact .inr (.inr rfl)) rfl rfl) (e_con pe_int fun _ => .int 1) (fun _ _ => rfl) (fun _ _ => rfl)) a0)) (a1 (c_pos (n := 1) (perm := [0]) D_ranks_of rfl (fun _ _ _ _ _ _ => ⟨rfl, fun s us ws h1 h2 => match us, ws, h1, h2 with | [_], [], _, _ => .of_eq rfl⟩) (hr.mono (by decide)) hgd (takes_of rfl rfl rfl rfl) (a1 (e_var (i := 0) rfl (by first | exact .inl rfl | exact .inr (.inl rfl) | exact .inr (.inr rfl)) rfl rfl) a0)) a0)) rfl rfl) (blkOk_by (N := ["book", "lot", "rank"]) (sc := (defScope s_free_lots)) (own := [("lot", 1), ("rank", 2)]) (by decide +kernel)) (by decide) (fun _ _ _ _ _ => (g_tup rfl rfl (gs_cons (g_name (i := 1) sc_free_lots.nd rfl (by first | exact .inl rfl | exact .inr rfl) (by first | exact .inl rfl | exact .inr rfl)) (gs_cons (g_name (i := 2) sc_free_lots.nd rfl (by first | exact .inl rfl | exact .inr rfl) (by first | exact .inl rfl | exact .inr rfl)) gs_nil rfl) rfl) rfl rfl)) (fun _ _ _ _ _ => (pts_one1 (t_cmp booly_cEq (o_eq rfl (rU hr)) (e_var (i := 2) rfl (by first | exact .inl rfl | exact .inr (.inl rfl) | exact .inr (.inr rfl)) rfl rfl) (b_call (c_len rfl) rfl b_len PyProof.Rows.Boot.«len» (a1 (e_var (i := 1) rfl (by first | exact .inl rfl | exact .inr (.inl rfl) | exact .inr (.inr rfl)) rfl rfl) a0)) rfl))) (fun _ _ _ _ _ => (e_var (i := 1) rfl (by first | exact .inl rfl | exact .inr (.inl rfl) | exact .inr (.inr rfl)) rfl rfl)) (fun _ => rfl)))))
abbrev s_bases_in : Stmt := top 31
theorem sc_bases_in : FnScope ["book", "lot"] ["book"] (defScope s_bases_in) := ⟨rfl, rfl, rfl, by decide +kernel, rfl, by decide +kernel, by decide +kernel⟩
def b_bases_in : EvS := (evRet (evB gTuple (evCons (evB gSortT (evCons (evFrz (evComp (.nm 1) [1] (evSeq (evCall cf_free_lots [0] 1 0 (evCons (evVar 0) evNil) evNil)) (evT (ev2 cEq (evB gLen (evCons (evVar 1) evNil)) (evB gLen (evCons (evSub (evVar 0) (evCon (.int 2))) evNil)))) (evVar 1))) evNil)) evNil)))
def cf_bases_in : CallF := runB 2 b_bases_in
theorem d_bases_in {P : Program} {w : World} {g : G0} {mg : Str → Option Value} {base : Heap} (D_free_lots : Def P w g mg base 5 "free_lots" s_free_lots ["book"] cf_free_lots) (b_len : mg "len" = none) (b_sorted : mg "sorted" = none) (b_tuple : mg "tuple" = none) {f : Addr} {fd : FuncData} (F : Fun g.K "bases_in" "bases_in" s_bases_in f fd)  : FnG P w g.K mg base (L2.CX P w) 6 f fd ["book"] (spF g 1 cf_bases_in) :=
  fn_ev F (k := 5) sc_bases_in fun G cdv A outer s H E hG hr hgd => by
    subst hG
    exact (ss_one (s_ret (b_ty (c_tuple rfl) rfl b_tuple PyProof.Rows.Boot.«tuple» (a1 (b_call (c_sortT rfl) rfl b_sorted PyProof.Rows.Boot.«sorted» (a1 (e_frz (f_lc (own := [("lot", 1)]) (t := (.nm 1)) rfl sc_bases_in.nd (i_seq rfl (c_pos (n := 1) (perm := [0]) D_free_lots rfl (fun _ _ _ _ _ _ => ⟨rfl, fun s us ws h1 h2 => match us, ws, h1, h2 with | [_], [], _, _ => .of_eq rfl⟩) (hr.mono (by decide)) hgd (takes_of rfl rfl rfl rfl) (a1 (e_var (i := 0) rfl (by first | exact .inl rfl | exact .inr (.inl rfl) | exact .inr (.inr rfl)) rfl rfl) a0))) (blkOk_by (N := ["book", "lot"]) (sc := (defScope s_bases_in)) (own := [("lot", 1)]) (by decide +kernel)) (by decide) (fun _ _ _ _ _ => (g_name (i := 1) sc_bases_in.nd rfl (by first | exact .inl rfl | exact .inr rfl) (by first | exact .inl rfl | exact .inr rfl))) (fun _ _ _ _ _ => (pts_one1 (t_cmp booly_cEq (o_eq rfl (rU hr)) (b_call (c_len rfl) rfl b_len PyProof.Rows.Boot.«len» (a1 (e_var (i := 1) rfl (by first | exact .inl rfl | exact .inr (.inl rfl) | exact .inr (.inr rfl)) rfl rfl) a0)) (b_call (c_len rfl) rfl b_len PyProof.Rows.Boot.«len» (a1 (e_sub rfl (rU2 hr) (e_var (i := 0) rfl (by first | exact .inl rfl | exact .inr (.inl rfl) | exact .inr (.inr rfl)) rfl rfl) (e_con pe_int fun _ => .int 2) (fun _ _ => rfl) (fun _ _ => rfl)) a0)) rfl))) (fun _ _ _ _ _ => (e_var (i := 1) rfl (by first | exact .inl rfl | exact .inr (.inl rfl) | exact .inr (.inr rfl)) rfl rfl)) (fun _ => rfl))) a0)) a0))))
abbrev s_bases_of : Stmt := top 37
theorem sc_bases_of : FnScope ["book"] ["book"] (defScope s_bases_of) := ⟨rfl, rfl, rfl, by decide +kernel, rfl, by decide +kernel, by decide +kernel⟩
def b_bases_of : EvS := (evRet (evCall cf_bases_in [0] 1 0 (evCons (evVar 0) evNil) evNil))
def cf_bases_of : CallF := runB 1 b_bases_of
theorem d_bases_of {P : Program} {w : World} {g : G0} {mg : Str → Option Value} {base : Heap} (D_bases_in : Def P w g mg base 6 "bases_in" s_bases_in ["book"] cf_bases_in) {f : Addr} {fd : FuncData} (F : Fun g.K "bases_of" "bases_of" s_bases_of f fd)  : FnG P w g.K mg base (L2.CX P w) 7 f fd ["book"] (spF g 1 cf_bases_of) :=
  fn_ev F (k := 6) sc_bases_of fun G cdv A outer s H E hG hr hgd => by
    subst hG
    exact (ss_one (s_ret (c_pos (n := 1) (perm := [0]) D_bases_in rfl (fun _ _ _ _ _ _ => ⟨rfl, fun s us ws h1 h2 => match us, ws, h1, h2 with | [_], [], _, _ => .of_eq rfl⟩) (hr.mono (by decide)) hgd (takes_of rfl rfl rfl rfl) (a1 (e_var (i := 0) rfl (by first | exact .inl rfl | exact .inr (.inl rfl) | exact .inr (.inr rfl)) rfl rfl) a0))))
abbrev s_rest_in : Stmt := top 26
theorem sc_rest_in : FnScope ["lot", "place", "other"] ["lot", "place"] (defScope s_rest_in) := ⟨rfl, rfl, rfl, by decide +kernel, rfl, by decide +kernel, by decide +kernel⟩
def b_rest_in : EvS := (evRet (evB gTuple (evCons (evFrz (evComp (.nm 2) [2] (evSeq (evVar 0)) (evT (ev2 cNe (evVar 2) (evVar 1))) (evVar 2))) evNil)))
def cf_rest_in : CallF := runB 3 b_rest_in
theorem d_rest_in {P : Program} {w : World} {g : G0} {mg : Str → Option Value} {base : Heap} (b_tuple : mg "tuple" = none) {f : Addr} {fd : FuncData} (F : Fun g.K "rest_in" "rest_in" s_rest_in f fd)  : FnG P w g.K mg base (L2.CX P w) 1 f fd ["lot", "place"] (spF g 2 cf_rest_in) :=
  fn_ev F (k := 0) sc_rest_in fun G cdv A outer s H E hG hr hgd => by
    subst hG
    exact (ss_one (s_ret (b_ty (c_tuple rfl) rfl b_tuple PyProof.Rows.Boot.«tuple» (a1 (e_frz (f_lc (own := [("other", 2)]) (t := (.nm 2)) rfl sc_rest_in.nd (i_seq rfl (e_var (i := 0) rfl (by first | exact .inl rfl | exact .inr (.inl rfl) | exact .inr (.inr rfl)) rfl rfl)) (blkOk_by (N := ["lot", "place", "other"]) (sc := (defScope s_rest_in)) (own := [("other", 2)]) (by decide +kernel)) (by decide) (fun _ _ _ _ _ => (g_name (i := 2) sc_rest_in.nd rfl (by first | exact .inl rfl | exact .inr rfl) (by first | exact .inl rfl | exact .inr rfl))) (fun _ _ _ _ _ => (pts_one1 (t_cmp booly_cNe (o_ne rfl (rU hr)) (e_var (i := 2) rfl (by first | exact .inl rfl | exact .inr (.inl rfl) | exact .inr (.inr rfl)) rfl rfl) (e_var (i := 1) rfl (by first | exact .inl rfl | exact .inr (.inl rfl) | exact .inr (.inr rfl)) rfl rfl) rfl))) (fun _ _ _ _ _ => (e_var (i := 2) rfl (by first | exact .inl rfl | exact .inr (.inl rfl) | exact .inr (.inr rfl)) rfl rfl)) (fun _ => rfl))) a0))))
abbrev s_lacking_one : Stmt := top 25
theorem sc_lacking_one : FnScope ["lot", "place"] ["lot"] (defScope s_lacking_one) := ⟨rfl, rfl, rfl, by decide +kernel, rfl, by decide +kernel, by decide +kernel⟩
def b_lacking_one : EvS := (evRet (evFrz (evComp (.nm 1) [1] (evSeq (evVar 0)) evYes (evCall cf_rest_in [0, 1] 2 0 (evCons (evVar 0) (evCons (evVar 1) evNil)) evNil))))
def cf_lacking_one : CallF := runB 2 b_lacking_one
theorem d_lacking_one {P : Program} {w : World} {g : G0} {mg : Str → Option Value} {base : Heap} (D_rest_in : Def P w g mg base 1 "rest_in" s_rest_in ["lot", "place"] cf_rest_in) {f : Addr} {fd : FuncData} (F : Fun g.K "lacking_one" "lacking_one" s_lacking_one f fd)  : FnG P w g.K mg base (L2.CX P w) 2 f fd ["lot"] (spF g 1 cf_lacking_one) :=
  fn_ev F (k := 1) sc_lacking_one fun G cdv A outer s H E hG hr hgd => by
    subst hG
    exact (ss_one (s_ret (e_frz (f_lc (own := [("place", 1)]) (t := (.nm 1)) rfl sc_lacking_one.nd (i_seq rfl (e_var (i := 0) rfl (by first | exact .inl rfl | exact .inr (.inl rfl) | exact .inr (.inr rfl)) rfl rfl)) (blkOk_by (N := ["lot", "place"]) (sc := (defScope s_lacking_one)) (own := [("place", 1)]) (by decide +kernel)) (by decide) (fun _ _ _ _ _ => (g_name (i := 1) sc_lacking_one.nd rfl (by first | exact .inl rfl | exact .inr rfl) (by first | exact .inl rfl | exact .inr rfl))) (fun _ _ _ _ _ => pts_yes) (fun _ _ _ _ _ => (c_pos (n := 2) (perm := [0, 1]) D_rest_in rfl (fun _ _ _ _ _ _ => ⟨rfl, fun s us ws h1 h2 => match us, ws, h1, h2 with | [_, _], [], _, _ => .of_eq rfl⟩) (hr.mono (by decide)) hgd L2.takes0 (a1 (e_var (i := 0) rfl (by first | exact .inl rfl | exact .inr (.inl rfl) | exact .inr (.inr rfl)) rfl rfl) (a1 (e_var (i := 1) rfl (by first | exact .inl rfl | exact .inr (.inl rfl) | exact .inr (.inr rfl)) rfl rfl) a0)))) (fun _ => rfl)))))
abbrev s_rings_in : Stmt := top 32
theorem sc_rings_in : FnScope ["book", "free", "lot", "rings", "part"] ["book"] (defScope s_rings_in) := ⟨rfl, rfl, rfl, by decide +kernel, rfl, by decide +kernel, by decide +kernel⟩
def b_rings_in : EvS := (evSeqS (evAsg (.nm 1) (evDcT (.nm 2) [2] (evSeq (evCall cf_free_lots [0] 1 0 (evCons (evVar 0) evNil) evNil)) evYes (evVar 2) (evCon (.bl true)))) (evSeqS (evAsgF 3 (evLstF evNil)) (evSeqS (evFor (.nm 2) (evSeq (evCall cf_all_lots [0] 1 0 (evCons (evSub (evVar 0) (evCon (.int 1))) evNil) evNil)) (evIfS (evAnd (ev2 cNotInD (evVar 2) (evVar 1)) (evB gAll (evCons (evFrz (evComp (.nm 4) [4] (evSeq (evCall cf_lacking_one [0] 1 0 (evCons (evVar 2) evNil) evNil)) evYes (ev2 cInD (evVar 4) (evVar 1)))) evNil))) (evApp 3 (evVar 2)) evSkip)) (evFrzS [3] (evRet (evB gTuple (evCons (evB gSortT (evCons (evVar 3) evNil)) evNil)))))))
def cf_rings_in : CallF := runB 5 b_rings_in
theorem d_rings_in {P : Program} {w : World} {g : G0} {mg : Str → Option Value} {base : Heap} (D_all_lots : Def P w g mg base 1 "all_lots" s_all_lots ["size"] cf_all_lots) (D_free_lots : Def P w g mg base 5 "free_lots" s_free_lots ["book"] cf_free_lots) (D_lacking_one : Def P w g mg base 2 "lacking_one" s_lacking_one ["lot"] cf_lacking_one) (b_all : mg "all" = none) (b_sorted : mg "sorted" = none) (b_tuple : mg "tuple" = none) {f : Addr} {fd : FuncData} (F : Fun g.K "rings_in" "rings_in" s_rings_in f fd)  : FnG P w g.K mg base (L2.CX P w) 6 f fd ["book"] (spF g 1 cf_rings_in) :=
  fn_ev F (k := 5) sc_rings_in fun G cdv A outer s H E hG hr hgd => by
    subst hG
    exact (ss_cons (s_set (i := 1) sc_rings_in.nd rfl (by first | exact .inl rfl | exact .inr rfl) (e_dcT (own := [("lot", 2)]) (t := (.nm 2)) rfl (rU hr) rfl sc_rings_in.nd (i_seq rfl (c_pos (n := 1) (perm := [0]) D_free_lots rfl (fun _ _ _ _ _ _ => ⟨rfl, fun s us ws h1 h2 => match us, ws, h1, h2 with | [_], [], _, _ => .of_eq rfl⟩) (hr.mono (by decide)) hgd (takes_of rfl rfl rfl rfl) (a1 (e_var (i := 0) rfl (by first | exact .inl rfl | exact .inr (.inl rfl) | exact .inr (.inr rfl)) rfl rfl) a0))) (blkOk_by (N := ["book", "free", "lot", "rings", "part"]) (sc := (defScope s_rings_in)) (own := [("lot", 2)]) (by decide +kernel)) (by decide) (fun _ _ _ _ _ => (g_name (i := 2) sc_rings_in.nd rfl (by first | exact .inl rfl | exact .inr rfl) (by first | exact .inl rfl | exact .inr rfl))) (fun _ _ _ _ _ => pts_yes) (fun _ _ _ _ _ => (e_var (i := 2) rfl (by first | exact .inl rfl | exact .inr (.inl rfl) | exact .inr (.inr rfl)) rfl rfl)) (fun _ _ _ _ _ => (e_con pe_bl fun _ => .bl true)) (fun _ => rfl)) rfl (by first | exact .inl rfl | exact .inr rfl)) (ss_cons (s_setF (i := 3) sc_rings_in.nd rfl (by first | exact .inl rfl | exact .inr rfl) (f_lst a0) rfl (by first | exact .inl rfl | exact .inr rfl)) (ss_cons (s_for (passes_of rfl) rfl (i_seq rfl (c_pos (n := 1) (perm := [0]) D_all_lots rfl (fun _ _ _ _ _ _ => ⟨rfl, fun s us ws h1 h2 => match us, ws, h1, h2 with | [_], [], _, _ => .of_eq rfl⟩) (hr.mono (by decide)) hgd (takes_of rfl rfl rfl rfl) (a1 (e_sub rfl (rU2 hr) (e_var (i := 0) rfl (by first | exact .inl rfl | exact .inr (.inl rfl) | exact .inr (.inr rfl)) rfl rfl) (e_con pe_int fun _ => .int 1) (fun _ _ => rfl) (fun _ _ => rfl)) a0))) (g_name (i := 2) sc_rings_in.nd rfl (by first | exact .inl rfl | exact .inr rfl) (by first | exact .inl rfl | exact .inr rfl)) (ss_one (s_if (L2.PW.pt (w_and (t_cmp booly_cNotInD (o_notInD rfl (rU1 hr)) (e_var (i := 2) rfl (by first | exact .inl rfl | exact .inr (.inl rfl) | exact .inr (.inr rfl)) rfl rfl) (e_var (i := 1) rfl (by first | exact .inl rfl | exact .inr (.inl rfl) | exact .inr (.inr rfl)) rfl rfl) rfl) (w_and1 (t_plain rfl (b_call (c_all rfl rfl) rfl b_all PyProof.Rows.Boot.«all» (a1 (e_frz (f_lc (own := [("part", 4)]) (t := (.nm 4)) rfl sc_rings_in.nd (i_seq rfl (c_pos (n := 1) (perm := [0]) D_lacking_one rfl (fun _ _ _ _ _ _ => ⟨rfl, fun s us ws h1 h2 => match us, ws, h1, h2 with | [_], [], _, _ => .of_eq rfl⟩) (hr.mono (by decide)) hgd (takes_of rfl rfl rfl rfl) (a1 (e_var (i := 2) rfl (by first | exact .inl rfl | exact .inr (.inl rfl) | exact .inr (.inr rfl)) rfl rfl) a0))) (blkOk_by (N := ["book", "free", "lot", "rings", "part"]) (sc := (defScope s_rings_in)) (own := [("part", 4)]) (by decide +kernel)) (by decide) (fun _ _ _ _ _ => (g_name (i := 4) sc_rings_in.nd rfl (by first | exact .inl rfl | exact .inr rfl) (by first | exact .inl rfl | exact .inr rfl))) (fun _ _ _ _ _ => pts_yes) (fun _ _ _ _ _ => (e_cmp (o_inD rfl (rU1 hr)) (e_var (i := 4) rfl (by first | exact .inl rfl | exact .inr (.inl rfl) | exact .inr (.inr rfl)) rfl rfl) (e_var (i := 1) rfl (by first | exact .inl rfl | exact .inr (.inl rfl) | exact .inr (.inr rfl)) rfl rfl) rfl)) (fun _ => rfl))) a0)) (fun _ => rfl))))) (ss_one (s_app (i := 3) rfl (by first | exact .inl rfl | exact .inr (.inl rfl) | exact .inr (.inr rfl)) rfl rfl (pa_one (e_var (i := 2) rfl (by first | exact .inl rfl | exact .inr (.inl rfl) | exact .inr (.inr rfl)) rfl rfl) rfl) rfl rfl rfl rfl rfl rfl)) ss_nil)) (fun _ => rfl)) (ss_one (s_frz [3] (s_ret (b_ty (c_tuple rfl) rfl b_tuple PyProof.Rows.Boot.«tuple» (a1 (b_call (c_sortT rfl) rfl b_sorted PyProof.Rows.Boot.«sorted» (a1 (e_var (i := 3) rfl (by first | exact .inl rfl | exact .inr (.inl rfl) | exact .inr (.inr rfl)) rfl rfl) a0)) a0))))))))
abbrev s_rings_of : Stmt := top 39
theorem sc_rings_of : FnScope ["book"] ["book"] (defScope s_rings_of) := ⟨rfl, rfl, rfl, by decide +kernel, rfl, by decide +kernel, by decide +kernel⟩
def b_rings_of : EvS := (evRet (evCall cf_rings_in [0] 1 0 (evCons (evVar 0) evNil) evNil))
def cf_rings_of : CallF := runB 1 b_rings_of
theorem d_rings_of {P : Program} {w : World} {g : G0} {mg : Str → Option Value} {base : Heap} (D_rings_in : Def P w g mg base 6 "rings_in" s_rings_in ["book"] cf_rings_in) {f : Addr} {fd : FuncData} (F : Fun g.K "rings_of" "rings_of" s_rings_of f fd)  : FnG P w g.K mg base (L2.CX P w) 7 f fd ["book"] (spF g 1 cf_rings_of) :=
  fn_ev F (k := 6) sc_rings_of fun G cdv A outer s H E hG hr hgd => by
    subst hG
    exact (ss_one (s_ret (c_pos (n := 1) (perm := [0]) D_rings_in rfl (fun _ _ _ _ _ _ => ⟨rfl, fun s us ws h1 h2 => match us, ws, h1, h2 with | [_], [], _, _ => .of_eq rfl⟩) (hr.mono (by decide)) hgd (takes_of rfl rfl rfl rfl) (a1 (e_var (i := 0) rfl (by first | exact .inl rfl | exact .inr (.inl rfl) | exact .inr (.inr rfl)) rfl rfl) a0))))
abbrev s_demand : Stmt := top 9
theorem sc_demand : FnScope ["fits", "name"] ["fits", "name"] (defScope s_demand) := ⟨rfl, rfl, rfl, by decide +kernel, rfl, by decide +kernel, by decide +kernel⟩
def b_demand : EvS := (evIfS (evNot (evVar 0)) (evRaise 0 ["word", "at"] (evCons (evVar 1) (evCons (evNeg (evCon (.int 1))) evNil))) evSkip)
def cf_demand : CallF := runB 2 b_demand
theorem d_demand {P : Program} {w : World} {g : G0} {mg : Str → Option Value} {base : Heap} (R_NotUsable : ErrC P w g mg base "NotUsable" 0 ["word", "at"]) {f : Addr} {fd : FuncData} (F : Fun g.K "demand" "demand" s_demand f fd)  : FnG P w g.K mg base (L2.CX P w) 3 f fd ["fits", "name"] (spF g 2 cf_demand) :=
  fn_ev F (k := 2) sc_demand fun G cdv A outer s H E hG hr hgd => by
    subst hG
    exact (ss_one (s_if (t_not (t_plain rfl (e_var (i := 0) rfl (by first | exact .inl rfl | exact .inr (.inl rfl) | exact .inr (.inr rfl)) rfl rfl) (fun _ => rfl))) (ss_one (s_raiseD (c := 0) (names := ["word", "at"]) R_NotUsable rfl rfl (takes_of rfl rfl rfl rfl) (hr.mono (by decide)) (a1 (e_var (i := 1) rfl (by first | exact .inl rfl | exact .inr (.inl rfl) | exact .inr (.inr rfl)) rfl rfl) (a1 (e_neg (e_con pe_int fun _ => .int 1)) a0)))) ss_nil))
abbrev s_settled : Stmt := top 17
theorem sc_settled : FnScope ["prime", "words", "rows", "word"] ["prime", "words"] (defScope s_settled) := ⟨rfl, rfl, rfl, by decide +kernel, rfl, by decide +kernel, by decide +kernel⟩
def b_settled : EvS := (evSeqS (evAsg (.nm 2) (evTup evNil)) (evSeqS (evFor (.nm 3) (evSeq (evVar 1)) (evAsg (.nm 2) (evCall cf_grown [0, 1, 2] 3 0 (evCons (evVar 0) (evCons (evVar 2) (evCons (evVar 3) evNil))) evNil))) (evRet (evVar 2))))
def cf_settled : CallF := runB 4 b_settled
theorem d_settled {P : Program} {w : World} {g : G0} {mg : Str → Option Value} {base : Heap} (D_grown : Def P w g mg base 3 "grown" s_grown ["prime", "rows", "one"] cf_grown) {f : Addr} {fd : FuncData} (F : Fun g.K "settled" "settled" s_settled f fd)  : FnG P w g.K mg base (L2.CX P w) 4 f fd ["prime", "words"] (spF g 2 cf_settled) :=
  fn_ev F (k := 3) sc_settled fun G cdv A outer s H E hG hr hgd => by
    subst hG
    exact (ss_cons (s_set (i := 2) sc_settled.nd rfl (by first | exact .inl rfl | exact .inr rfl) (e_tup a0) rfl (by first | exact .inl rfl | exact .inr rfl)) (ss_cons (s_for (passes_of rfl) rfl (i_seq rfl (e_var (i := 1) rfl (by first | exact .inl rfl | exact .inr (.inl rfl) | exact .inr (.inr rfl)) rfl rfl)) (g_name (i := 3) sc_settled.nd rfl (by first | exact .inl rfl | exact .inr rfl) (by first | exact .inl rfl | exact .inr rfl)) (ss_one (s_set (i := 2) sc_settled.nd rfl (by first | exact .inl rfl | exact .inr rfl) (c_pos (n := 3) (perm := [0, 1, 2]) D_grown rfl (fun _ _ _ _ _ _ => ⟨rfl, fun s us ws h1 h2 => match us, ws, h1, h2 with | [_, _, _], [], _, _ => .of_eq rfl⟩) (hr.mono (by decide)) hgd (takes_of rfl rfl rfl rfl) (a1 (e_var (i := 0) rfl (by first | exact .inl rfl | exact .inr (.inl rfl) | exact .inr (.inr rfl)) rfl rfl) (a1 (e_var (i := 2) rfl (by first | exact .inl rfl | exact .inr (.inl rfl) | exact .inr (.inr rfl)) rfl rfl) (a1 (e_var (i := 3) rfl (by first | exact .inl rfl | exact .inr (.inl rfl) | exact .inr (.inr rfl)) rfl rfl) a0)))) rfl (by first | exact .inl rfl | exact .inr rfl))) (fun _ => rfl)) (ss_one (s_ret (e_var (i := 2) rfl (by first | exact .inl rfl | exact .inr (.inl rfl) | exact .inr (.inr rfl)) rfl rfl)))))
abbrev s_picked : Stmt := top 12
theorem sc_picked : FnScope ["one", "lot", "place"] ["one", "lot"] (defScope s_picked) := ⟨rfl, rfl, rfl, by decide +kernel, rfl, by decide +kernel, by decide +kernel⟩
def b_picked : EvS := (evRet (evB gTuple (evCons (evFrz (evComp (.nm 2) [2] (evSeq (evVar 1)) evYes (evSub (evVar 0) (evVar 2)))) evNil)))
def cf_picked : CallF := runB 3 b_picked
theorem d_picked {P : Program} {w : World} {g : G0} {mg : Str → Option Value} {base : Heap} (b_tuple : mg "tuple" = none) {f : Addr} {fd : FuncData} (F : Fun g.K "picked" "picked" s_picked f fd)  : FnG P w g.K mg base (L2.CX P w) 1 f fd ["one", "lot"] (spF g 2 cf_picked) :=
  fn_ev F (k := 0) sc_picked fun G cdv A outer s H E hG hr hgd => by
    subst hG
    exact (ss_one (s_ret (b_ty (c_tuple rfl) rfl b_tuple PyProof.Rows.Boot.«tuple» (a1 (e_frz (f_lc (own := [("place", 2)]) (t := (.nm 2)) rfl sc_picked.nd (i_seq rfl (e_var (i := 1) rfl (by first | exact .inl rfl | exact .inr (.inl rfl) | exact .inr (.inr rfl)) rfl rfl)) (blkOk_by (N := ["one", "lot", "place"]) (sc := (defScope s_picked)) (own := [("place", 2)]) (by decide +kernel)) (by decide) (fun _ _ _ _ _ => (g_name (i := 2) sc_picked.nd rfl (by first | exact .inl rfl | exact .inr rfl) (by first | exact .inl rfl | exact .inr rfl))) (fun _ _ _ _ _ => pts_yes) (fun _ _ _ _ _ => (e_sub rfl (rU2 hr) (e_var (i := 0) rfl (by first | exact .inl rfl | exact .inr (.inl rfl) | exact .inr (.inr rfl)) rfl rfl) (e_var (i := 2) rfl (by first | exact .inl rfl | exact .inr (.inl rfl) | exact .inr (.inr rfl)) rfl rfl) (fun _ _ => rfl) (fun _ _ => rfl))) (fun _ => rfl))) a0))))
abbrev s_rank_at : Stmt := top 28
theorem sc_rank_at : FnScope ["book", "lot", "prime", "_", "rows", "row"] ["book", "lot"] (defScope s_rank_at) := ⟨rfl, rfl, rfl, by decide +kernel, rfl, by decide +kernel, by decide +kernel⟩
def b_rank_at : EvS := (evSeqS (evAsg (.tp [(.nm 2), (.nm 3), (.nm 4)]) (evVar 0)) (evRet (evB gLen (evCons (evCall cf_settled [0, 1] 2 0 (evCons (evVar 2) (evCons (evFrz (evComp (.nm 5) [5] (evSeq (evVar 4)) evYes (evCall cf_picked [0, 1] 2 0 (evCons (evVar 5) (evCons (evVar 1) evNil)) evNil))) evNil)) evNil) evNil))))
def cf_rank_at : CallF := runB 6 b_rank_at
theorem d_rank_at {P : Program} {w : World} {g : G0} {mg : Str → Option Value} {base : Heap} (D_picked : Def P w g mg base 1 "picked" s_picked ["one", "lot"] cf_picked) (D_settled : Def P w g mg base 4 "settled" s_settled ["prime", "words"] cf_settled) (b_len : mg "len" = none) {f : Addr} {fd : FuncData} (F : Fun g.K "rank_at" "rank_at" s_rank_at f fd)  : FnG P w g.K mg base (L2.CX P w) 5 f fd ["book", "lot"] (spF g 2 cf_rank_at) :=
  fn_ev F (k := 4) sc_rank_at fun G cdv A outer s H E hG hr hgd => by
    subst hG
    exact (ss_cons (s_asg (e_var (i := 0) rfl (by first | exact .inl rfl | exact .inr (.inl rfl) | exact .inr (.inr rfl)) rfl rfl) (g_tup rfl rfl (gs_cons (g_name (i := 2) sc_rank_at.nd rfl (by first | exact .inl rfl | exact .inr rfl) (by first | exact .inl rfl | exact .inr rfl)) (gs_cons (g_name (i := 3) sc_rank_at.nd rfl (by first | exact .inl rfl | exact .inr rfl) (by first | exact .inl rfl | exact .inr rfl)) (gs_cons (g_name (i := 4) sc_rank_at.nd rfl (by first | exact .inl rfl | exact .inr rfl) (by first | exact .inl rfl | exact .inr rfl)) gs_nil rfl) rfl) rfl) rfl rfl) rfl rfl rfl) (ss_one (s_ret (b_call (c_len rfl) rfl b_len PyProof.Rows.Boot.«len» (a1 (c_pos (n := 2) (perm := [0, 1]) D_settled rfl (fun _ _ _ _ _ _ => ⟨rfl, fun s us ws h1 h2 => match us, ws, h1, h2 with | [_, _], [], _, _ => .of_eq rfl⟩) (hr.mono (by decide)) hgd (takes_of rfl rfl rfl rfl) (a1 (e_var (i := 2) rfl (by first | exact .inl rfl | exact .inr (.inl rfl) | exact .inr (.inr rfl)) rfl rfl) (a1 (e_frz (f_lc (own := [("row", 5)]) (t := (.nm 5)) rfl sc_rank_at.nd (i_seq rfl (e_var (i := 4) rfl (by first | exact .inl rfl | exact .inr (.inl rfl) | exact .inr (.inr rfl)) rfl rfl)) (blkOk_by (N := ["book", "lot", "prime", "_", "rows", "row"]) (sc := (defScope s_rank_at)) (own := [("row", 5)]) (by decide +kernel)) (by decide) (fun _ _ _ _ _ => (g_name (i := 5) sc_rank_at.nd rfl (by first | exact .inl rfl | exact .inr rfl) (by first | exact .inl rfl | exact .inr rfl))) (fun _ _ _ _ _ => pts_yes) (fun _ _ _ _ _ => (c_pos (n := 2) (perm := [0, 1]) D_picked rfl (fun _ _ _ _ _ _ => ⟨rfl, fun s us ws h1 h2 => match us, ws, h1, h2 with | [_, _], [], _, _ => .of_eq rfl⟩) (hr.mono (by decide)) hgd L2.takes0 (a1 (e_var (i := 5) rfl (by first | exact .inl rfl | exact .inr (.inl rfl) | exact .inr (.inr rfl)) rfl rfl) (a1 (e_var (i := 1) rfl (by first | exact .inl rfl | exact .inr (.inl rfl) | exact .inr (.inr rfl)) rfl rfl) a0)))) (fun _ => rfl))) a0))) a0)))))
abbrev s_is_integer : Stmt := top 19
theorem sc_is_integer : FnScope ["thing"] ["thing"] (defScope s_is_integer) := ⟨rfl, rfl, rfl, by decide +kernel, rfl, by decide +kernel, by decide +kernel⟩
def b_is_integer : EvS := (evRet (evAnd (evB gIsi (evCons (evVar 0) (evCons (evCon (.ty "int")) evNil))) (evNot (evB gIsi (evCons (evVar 0) (evCons (evCon (.ty "bool")) evNil))))))
def cf_is_integer : CallF := runB 1 b_is_integer
theorem d_is_integer {P : Program} {w : World} {g : G0} {mg : Str → Option Value} {base : Heap} (b_bool : mg "bool" = none) (b_int : mg "int" = none) (b_isinstance : mg "isinstance" = none) {f : Addr} {fd : FuncData} (F : Fun g.K "is_integer" "is_integer" s_is_integer f fd)  : FnG P w g.K mg base (L2.CX P w) 1 f fd ["thing"] (spF g 1 cf_is_integer) :=
  fn_ev F (k := 0) sc_is_integer fun G cdv A outer s H E hG hr hgd => by
    subst hG
    exact (ss_one (s_ret (e_and rfl (b_call (c_isi rfl) rfl b_isinstance PyProof.Rows.Boot.«isinstance» (a1 (e_var (i := 0) rfl (by first | exact .inl rfl | exact .inr (.inl rfl) | exact .inr (.inr rfl)) rfl rfl) (a1 (e_con (pe_bltn rfl b_int PyProof.Rows.Boot.«int» (v := .ty "int") rfl) fun _ => .ty "int") a0))) (e_one (e_not rfl (b_call (c_isi rfl) rfl b_isinstance PyProof.Rows.Boot.«isinstance» (a1 (e_var (i := 0) rfl (by first | exact .inl rfl | exact .inr (.inl rfl) | exact .inr (.inr rfl)) rfl rfl) (a1 (e_con (pe_bltn rfl b_bool PyProof.Rows.Boot.«bool» (v := .ty "bool") rfl) fun _ => .ty "bool") a0))))))))
abbrev s_is_number : Stmt := top 20
theorem sc_is_number : FnScope ["thing"] ["thing"] (defScope s_is_number) := ⟨rfl, rfl, rfl, by decide +kernel, rfl, by decide +kernel, by decide +kernel⟩
def b_is_number : EvS := (evRet (evAnd (evCall cf_is_integer [0] 1 0 (evCons (evVar 0) evNil) evNil) (ev2 cGe (evVar 0) (evCon (.int 0)))))
def cf_is_number : CallF := runB 1 b_is_number
theorem d_is_number {P : Program} {w : World} {g : G0} {mg : Str → Option Value} {base : Heap} (D_is_integer : Def P w g mg base 1 "is_integer" s_is_integer ["thing"] cf_is_integer) {f : Addr} {fd : FuncData} (F : Fun g.K "is_number" "is_number" s_is_number f fd)  : FnG P w g.K mg base (L2.CX P w) 2 f fd ["thing"] (spF g 1 cf_is_number) :=
  fn_ev F (k := 1) sc_is_number fun G cdv A outer s H E hG hr hgd => by
    subst hG
    exact (ss_one (s_ret (e_and rfl (c_pos (n := 1) (perm := [0]) D_is_integer rfl (fun _ _ _ _ _ _ => ⟨rfl, fun s us ws h1 h2 => match us, ws, h1, h2 with | [_], [], _, _ => .of_eq rfl⟩) (hr.mono (by decide)) hgd (takes_of rfl rfl rfl rfl) (a1 (e_var (i := 0) rfl (by first | exact .inl rfl | exact .inr (.inl rfl) | exact .inr (.inr rfl)) rfl rfl) a0)) (e_one (e_cmp (o_ge) (e_var (i := 0) rfl (by first | exact .inl rfl | exact .inr (.inl rfl) | exact .inr (.inr rfl)) rfl rfl) (e_con pe_int fun _ => .int 0) rfl)))))
abbrev s_is_set_of_numbers : Stmt := top 21
theorem sc_is_set_of_numbers : FnScope ["thing", "number", "left", "right"] ["thing"] (defScope s_is_set_of_numbers) := ⟨rfl, rfl, rfl, by decide +kernel, rfl, by decide +kernel, by decide +kernel⟩
def b_is_set_of_numbers : EvS := (evSeqS (evIfS (evOr (evNot (evB gIsi (evCons (evVar 0) (evCons (evCon (.ty "tuple")) evNil)))) (evNot (evB gAll (evCons (evFrz (evComp (.nm 1) [1] (evSeq (evVar 0)) evYes (evCall cf_is_number [0] 1 0 (evCons (evVar 1) evNil) evNil))) evNil)))) (evRet (evCon (.bl false))) evSkip) (evRet (evB gAll (evCons (evFrz (evComp (.tp [(.nm 2), (.nm 3)]) [2, 3] (evRg zp2 (evCons (evVar 0) (evCons (evSl (evVar 0) (evP (evCon (.int 1))) (fun _ S => .ok none S)) evNil))) evYes (ev2 cLt (evVar 2) (evVar 3)))) evNil))))
def cf_is_set_of_numbers : CallF := runB 4 b_is_set_of_numbers
theorem d_is_set_of_numbers {P : Program} {w : World} {g : G0} {mg : Str → Option Value} {base : Heap} (D_is_number : Def P w g mg base 2 "is_number" s_is_number ["thing"] cf_is_number) (b_all : mg "all" = none) (b_isinstance : mg "isinstance" = none) (b_tuple : mg "tuple" = none) (b_zip : mg "zip" = none) {f : Addr} {fd : FuncData} (F : Fun g.K "is_set_of_numbers" "is_set_of_numbers" s_is_set_of_numbers f fd)  : FnG P w g.K mg base (L2.CX P w) 3 f fd ["thing"] (spF g 1 cf_is_set_of_numbers) :=
  fn_ev F (k := 2) sc_is_set_of_numbers fun G cdv A outer s H E hG hr hgd => by
    subst hG
    exact (ss_cons (s_if (L2.PW.pt (w_or (t_not (t_plain rfl (b_call (c_isi rfl) rfl b_isinstance PyProof.Rows.Boot.«isinstance» (a1 (e_var (i := 0) rfl (by first | exact .inl rfl | exact .inr (.inl rfl) | exact .inr (.inr rfl)) rfl rfl) (a1 (e_con (pe_bltn rfl b_tuple PyProof.Rows.Boot.«tuple» (v := .ty "tuple") rfl) fun _ => .ty "tuple") a0))) (fun _ => rfl))) (w_or1 (t_not (t_plain rfl (b_call (c_all rfl rfl) rfl b_all PyProof.Rows.Boot.«all» (a1 (e_frz (f_lc (own := [("number", 1)]) (t := (.nm 1)) rfl sc_is_set_of_numbers.nd (i_seq rfl (e_var (i := 0) rfl (by first | exact .inl rfl | exact .inr (.inl rfl) | exact .inr (.inr rfl)) rfl rfl)) (blkOk_by (N := ["thing", "number", "left", "right"]) (sc := (defScope s_is_set_of_numbers)) (own := [("number", 1)]) (by decide +kernel)) (by decide) (fun _ _ _ _ _ => (g_name (i := 1) sc_is_set_of_numbers.nd rfl (by first | exact .inl rfl | exact .inr rfl) (by first | exact .inl rfl | exact .inr rfl))) (fun _ _ _ _ _ => pts_yes) (fun _ _ _ _ _ => (c_pos (n := 1) (perm := [0]) D_is_number rfl (fun _ _ _ _ _ _ => ⟨rfl, fun s us ws h1 h2 => match us, ws, h1, h2 with | [_], [], _, _ => .of_eq rfl⟩) (hr.mono (by decide)) hgd L2.takes0 (a1 (e_var (i := 1) rfl (by first | exact .inl rfl | exact .inr (.inl rfl) | exact .inr (.inr rfl)) rfl rfl) a0))) (fun _ => rfl))) a0)) (fun _ => rfl)))))) (ss_one (s_ret (e_con pe_bl fun _ => .bl false))) ss_nil) (ss_one (s_ret (b_call (c_all rfl rfl) rfl b_all PyProof.Rows.Boot.«all» (a1 (e_frz (f_lc (own := [("left", 2), ("right", 3)]) (t := (.tp [(.nm 2), (.nm 3)])) rfl sc_is_set_of_numbers.nd (i_zip rfl rfl b_zip (a1 (e_var (i := 0) rfl (by first | exact .inl rfl | exact .inr (.inl rfl) | exact .inr (.inr rfl)) rfl rfl) (a1 (e_slice rfl (e_var (i := 0) rfl (by first | exact .inl rfl | exact .inr (.inl rfl) | exact .inr (.inr rfl)) rfl rfl) (p_some (e_con pe_int fun _ => .int 1)) p_none) a0)) rfl rfl) (blkOk_by (N := ["thing", "number", "left", "right"]) (sc := (defScope s_is_set_of_numbers)) (own := [("left", 2), ("right", 3)]) (by decide +kernel)) (by decide) (fun _ _ _ _ _ => (g_tup rfl rfl (gs_cons (g_name (i := 2) sc_is_set_of_numbers.nd rfl (by first | exact .inl rfl | exact .inr rfl) (by first | exact .inl rfl | exact .inr rfl)) (gs_cons (g_name (i := 3) sc_is_set_of_numbers.nd rfl (by first | exact .inl rfl | exact .inr rfl) (by first | exact .inl rfl | exact .inr rfl)) gs_nil rfl) rfl) rfl rfl)) (fun _ _ _ _ _ => pts_yes) (fun _ _ _ _ _ => (e_cmp (o_lt) (e_var (i := 2) rfl (by first | exact .inl rfl | exact .inr (.inl rfl) | exact .inr (.inr rfl)) rfl rfl) (e_var (i := 3) rfl (by first | exact .inl rfl | exact .inr (.inl rfl) | exact .inr (.inr rfl)) rfl rfl) rfl)) (fun _ => rfl))) a0)))))
abbrev s_is_lot : Stmt := top 22
theorem sc_is_lot : FnScope ["size", "thing", "place"] ["size", "thing"] (defScope s_is_lot) := ⟨rfl, rfl, rfl, by decide +kernel, rfl, by decide +kernel, by decide +kernel⟩
def b_is_lot : EvS := (evRet (evAnd (evCall cf_is_set_of_numbers [0] 1 0 (evCons (evVar 1) evNil) evNil) (evB gAll (evCons (evFrz (evComp (.nm 2) [2] (evSeq (evVar 1)) evYes (ev2 cLt (evVar 2) (evVar 0)))) evNil))))
def cf_is_lot : CallF := runB 3 b_is_lot
theorem d_is_lot {P : Program} {w : World} {g : G0} {mg : Str → Option Value} {base : Heap} (D_is_set_of_numbers : Def P w g mg base 3 "is_set_of_numbers" s_is_set_of_numbers ["thing"] cf_is_set_of_numbers) (b_all : mg "all" = none) {f : Addr} {fd : FuncData} (F : Fun g.K "is_lot" "is_lot" s_is_lot f fd)  : FnG P w g.K mg base (L2.CX P w) 4 f fd ["size", "thing"] (spF g 2 cf_is_lot) :=
  fn_ev F (k := 3) sc_is_lot fun G cdv A outer s H E hG hr hgd => by
    subst hG
    exact (ss_one (s_ret (e_and rfl (c_pos (n := 1) (perm := [0]) D_is_set_of_numbers rfl (fun _ _ _ _ _ _ => ⟨rfl, fun s us ws h1 h2 => match us, ws, h1, h2 with | [_], [], _, _ => .of_eq rfl⟩) (hr.mono (by decide)) hgd (takes_of rfl rfl rfl rfl) (a1 (e_var (i := 1) rfl (by first | exact .inl rfl | exact .inr (.inl rfl) | exact .inr (.inr rfl)) rfl rfl) a0)) (e_one (b_call (c_all rfl rfl) rfl b_all PyProof.Rows.Boot.«all» (a1 (e_frz (f_lc (own := [("place", 2)]) (t := (.nm 2)) rfl sc_is_lot.nd (i_seq rfl (e_var (i := 1) rfl (by first | exact .inl rfl | exact .inr (.inl rfl) | exact .inr (.inr rfl)) rfl rfl)) (blkOk_by (N := ["size", "thing", "place"]) (sc := (defScope s_is_lot)) (own := [("place", 2)]) (by decide +kernel)) (by decide) (fun _ _ _ _ _ => (g_name (i := 2) sc_is_lot.nd rfl (by first | exact .inl rfl | exact .inr rfl) (by first | exact .inl rfl | exact .inr rfl))) (fun _ _ _ _ _ => pts_yes) (fun _ _ _ _ _ => (e_cmp (o_lt) (e_var (i := 2) rfl (by first | exact .inl rfl | exact .inr (.inl rfl) | exact .inr (.inr rfl)) rfl rfl) (e_var (i := 0) rfl (by first | exact .inl rfl | exact .inr (.inl rfl) | exact .inr (.inr rfl)) rfl rfl) rfl)) (fun _ => rfl))) a0))))))
abbrev s_rank_on : Stmt := top 35
theorem sc_rank_on : FnScope ["book", "lot"] ["book", "lot"] (defScope s_rank_on) := ⟨rfl, rfl, rfl, by decide +kernel, rfl, by decide +kernel, by decide +kernel⟩
def b_rank_on : EvS := (evSeqS (evDrop (evCall cf_demand [0, 1] 2 0 (evCons (evCall cf_is_lot [0, 1] 2 0 (evCons (evSub (evVar 0) (evCon (.int 1))) (evCons (evVar 1) evNil)) evNil) (evCons (evCon (.str "lot")) evNil)) evNil)) (evRet (evCall cf_rank_at [0, 1] 2 0 (evCons (evVar 0) (evCons (evVar 1) evNil)) evNil)))
def cf_rank_on : CallF := runB 2 b_rank_on
theorem d_rank_on {P : Program} {w : World} {g : G0} {mg : Str → Option Value} {base : Heap} (D_demand : Def P w g mg base 3 "demand" s_demand ["fits", "name"] cf_demand) (D_is_lot : Def P w g mg base 4 "is_lot" s_is_lot ["size", "thing"] cf_is_lot) (D_rank_at : Def P w g mg base 5 "rank_at" s_rank_at ["book", "lot"] cf_rank_at) {f : Addr} {fd : FuncData} (F : Fun g.K "rank_on" "rank_on" s_rank_on f fd)  : FnG P w g.K mg base (L2.CX P w) 6 f fd ["book", "lot"] (spF g 2 cf_rank_on) :=
  fn_ev F (k := 5) sc_rank_on fun G cdv A outer s H E hG hr hgd => by
    subst hG
    exact (ss_cons (s_drop (c_pos (n := 2) (perm := [0, 1]) D_demand rfl (fun _ _ _ _ _ _ => ⟨rfl, fun s us ws h1 h2 => match us, ws, h1, h2 with | [_, _], [], _, _ => .of_eq rfl⟩) (hr.mono (by decide)) hgd (takes_of rfl rfl rfl rfl) (a1 (c_pos (n := 2) (perm := [0, 1]) D_is_lot rfl (fun _ _ _ _ _ _ => ⟨rfl, fun s us ws h1 h2 => match us, ws, h1, h2 with | [_, _], [], _, _ => .of_eq rfl⟩) (hr.mono (by decide)) hgd (takes_of rfl rfl rfl rfl) (a1 (e_sub rfl (rU2 hr) (e_var (i := 0) rfl (by first | exact .inl rfl | exact .inr (.inl rfl) | exact .inr (.inr rfl)) rfl rfl) (e_con pe_int fun _ => .int 1) (fun _ _ => rfl) (fun _ _ => rfl)) (a1 (e_var (i := 1) rfl (by first | exact .inl rfl | exact .inr (.inl rfl) | exact .inr (.inr rfl)) rfl rfl) a0))) (a1 (e_con pe_str fun _ => .str "lot") a0))) rfl) (ss_one (s_ret (c_pos (n := 2) (perm := [0, 1]) D_rank_at rfl (fun _ _ _ _ _ _ => ⟨rfl, fun s us ws h1 h2 => match us, ws, h1, h2 with | [_, _], [], _, _ => .of_eq rfl⟩) (hr.mono (by decide)) hgd (takes_of rfl rfl rfl rfl) (a1 (e_var (i := 0) rfl (by first | exact .inl rfl | exact .inr (.inl rfl) | exact .inr (.inr rfl)) rfl rfl) (a1 (e_var (i := 1) rfl (by first | exact .inl rfl | exact .inr (.inl rfl) | exact .inr (.inr rfl)) rfl rfl) a0))))))
abbrev s_is_free : Stmt := top 34
theorem sc_is_free : FnScope ["book", "lot"] ["book", "lot"] (defScope s_is_free) := ⟨rfl, rfl, rfl, by decide +kernel, rfl, by decide +kernel, by decide +kernel⟩
def b_is_free : EvS := (evRet (ev2 cEq (evCall cf_rank_on [0, 1] 2 0 (evCons (evVar 0) (evCons (evVar 1) evNil)) evNil) (evB gLen (evCons (evVar 1) evNil))))
def cf_is_free : CallF := runB 2 b_is_free
theorem d_is_free {P : Program} {w : World} {g : G0} {mg : Str → Option Value} {base : Heap} (D_rank_on : Def P w g mg base 6 "rank_on" s_rank_on ["book", "lot"] cf_rank_on) (b_len : mg "len" = none) {f : Addr} {fd : FuncData} (F : Fun g.K "is_free" "is_free" s_is_free f fd)  : FnG P w g.K mg base (L2.CX P w) 7 f fd ["book", "lot"] (spF g 2 cf_is_free) :=
  fn_ev F (k := 6) sc_is_free fun G cdv A outer s H E hG hr hgd => by
    subst hG
    exact (ss_one (s_ret (e_cmp (o_eq rfl (rU hr)) (c_pos (n := 2) (perm := [0, 1]) D_rank_on rfl (fun _ _ _ _ _ _ => ⟨rfl, fun s us ws h1 h2 => match us, ws, h1, h2 with | [_, _], [], _, _ => .of_eq rfl⟩) (hr.mono (by decide)) hgd (takes_of rfl rfl rfl rfl) (a1 (e_var (i := 0) rfl (by first | exact .inl rfl | exact .inr (.inl rfl) | exact .inr (.inr rfl)) rfl rfl) (a1 (e_var (i := 1) rfl (by first | exact .inl rfl | exact .inr (.inl rfl) | exact .inr (.inr rfl)) rfl rfl) a0))) (b_call (c_len rfl) rfl b_len PyProof.Rows.Boot.«len» (a1 (e_var (i := 1) rfl (by first | exact .inl rfl | exact .inr (.inl rfl) | exact .inr (.inr rfl)) rfl rfl) a0)) rfl)))
abbrev s_closure_of : Stmt := top 36
theorem sc_closure_of : FnScope ["book", "lot", "rank", "place"] ["book", "lot"] (defScope s_closure_of) := ⟨rfl, rfl, rfl, by decide +kernel, rfl, by decide +kernel, by decide +kernel⟩
def b_closure_of : EvS := (evSeqS (evAsg (.nm 2) (evCall cf_rank_on [0, 1] 2 0 (evCons (evVar 0) (evCons (evVar 1) evNil)) evNil)) (evRet (evB gTuple (evCons (evFrz (evComp (.nm 3) [3] (evRg rg1 (evCons (evSub (evVar 0) (evCon (.int 1))) evNil)) (evT (ev2 cEq (evCall cf_rank_at [0, 1] 2 0 (evCons (evVar 0) (evCons (evTup (evStar (evVar 1) (evCons (evVar 3) evNil))) evNil)) evNil) (evVar 2))) (evVar 3))) evNil))))
def cf_closure_of : CallF := runB 4 b_closure_of
theorem d_closure_of {P : Program} {w : World} {g : G0} {mg : Str → Option Value} {base : Heap} (D_rank_at : Def P w g mg base 5 "rank_at" s_rank_at ["book", "lot"] cf_rank_at) (D_rank_on : Def P w g mg base 6 "rank_on" s_rank_on ["book", "lot"] cf_rank_on) (b_range : mg "range" = none) (b_tuple : mg "tuple" = none) {f : Addr} {fd : FuncData} (F : Fun g.K "closure_of" "closure_of" s_closure_of f fd)  : FnG P w g.K mg base (L2.CX P w) 7 f fd ["book", "lot"] (spF g 2 cf_closure_of) :=
  fn_ev F (k := 6) sc_closure_of fun G cdv A outer s H E hG hr hgd => by
    subst hG
    exact (ss_cons (s_set (i := 2) sc_closure_of.nd rfl (by first | exact .inl rfl | exact .inr rfl) (c_pos (n := 2) (perm := [0, 1]) D_rank_on rfl (fun _ _ _ _ _ _ => ⟨rfl, fun s us ws h1 h2 => match us, ws, h1, h2 with | [_, _], [], _, _ => .of_eq rfl⟩) (hr.mono (by decide)) hgd (takes_of rfl rfl rfl rfl) (a1 (e_var (i := 0) rfl (by first | exact .inl rfl | exact .inr (.inl rfl) | exact .inr (.inr rfl)) rfl rfl) (a1 (e_var (i := 1) rfl (by first | exact .inl rfl | exact .inr (.inl rfl) | exact .inr (.inr rfl)) rfl rfl) a0))) rfl (by first | exact .inl rfl | exact .inr rfl)) (ss_one (s_ret (b_ty (c_tuple rfl) rfl b_tuple PyProof.Rows.Boot.«tuple» (a1 (e_frz (f_lc (own := [("place", 3)]) (t := (.nm 3)) rfl sc_closure_of.nd (i_range1 rfl b_range (a1 (e_sub rfl (rU2 hr) (e_var (i := 0) rfl (by first | exact .inl rfl | exact .inr (.inl rfl) | exact .inr (.inr rfl)) rfl rfl) (e_con pe_int fun _ => .int 1) (fun _ _ => rfl) (fun _ _ => rfl)) a0) rfl) (blkOk_by (N := ["book", "lot", "rank", "place"]) (sc := (defScope s_closure_of)) (own := [("place", 3)]) (by decide +kernel)) (by decide) (fun _ _ _ _ _ => (g_name (i := 3) sc_closure_of.nd rfl (by first | exact .inl rfl | exact .inr rfl) (by first | exact .inl rfl | exact .inr rfl))) (fun _ _ _ _ _ => (pts_one1 (t_cmp booly_cEq (o_eq rfl (rU hr)) (c_pos (n := 2) (perm := [0, 1]) D_rank_at rfl (fun _ _ _ _ _ _ => ⟨rfl, fun s us ws h1 h2 => match us, ws, h1, h2 with | [_, _], [], _, _ => .of_eq rfl⟩) (hr.mono (by decide)) hgd L2.takes0 (a1 (e_var (i := 0) rfl (by first | exact .inl rfl | exact .inr (.inl rfl) | exact .inr (.inr rfl)) rfl rfl) (a1 (e_tup (a_star rfl (e_var (i := 1) rfl (by first | exact .inl rfl | exact .inr (.inl rfl) | exact .inr (.inr rfl)) rfl rfl) (a1 (e_var (i := 3) rfl (by first | exact .inl rfl | exact .inr (.inl rfl) | exact .inr (.inr rfl)) rfl rfl) a0))) a0))) (e_var (i := 2) rfl (by first | exact .inl rfl | exact .inr (.inl rfl) | exact .inr (.inr rfl)) rfl rfl) rfl))) (fun _ _ _ _ _ => (e_var (i := 3) rfl (by first | exact .inl rfl | exact .inr (.inl rfl) | exact .inr (.inr rfl)) rfl rfl)) (fun _ => rfl))) a0)))))
abbrev s_ring_in : Stmt := top 38
theorem sc_ring_in : FnScope ["book", "lot", "ring", "place"] ["book", "lot"] (defScope s_ring_in) := ⟨rfl, rfl, rfl, by decide +kernel, rfl, by decide +kernel, by decide +kernel⟩
def b_ring_in : EvS := (evSeqS (evDrop (evCall cf_demand [0, 1] 2 0 (evCons (evCall cf_is_lot [0, 1] 2 0 (evCons (evSub (evVar 0) (evCon (.int 1))) (evCons (evVar 1) evNil)) evNil) (evCons (evCon (.str "lot")) evNil)) evNil)) (evSeqS (evFor (.nm 2) (evSeq (evCall cf_rings_in [0] 1 0 (evCons (evVar 0) evNil) evNil)) (evIfS (evB gAll (evCons (evFrz (evComp (.nm 3) [3] (evSeq (evVar 2)) evYes (ev2 cIn (evVar 3) (evVar 1)))) evNil)) (evRet (evVar 2)) evSkip)) (evRet (evCon (.non)))))
def cf_ring_in : CallF := runB 4 b_ring_in
theorem d_ring_in {P : Program} {w : World} {g : G0} {mg : Str → Option Value} {base : Heap} (D_demand : Def P w g mg base 3 "demand" s_demand ["fits", "name"] cf_demand) (D_is_lot : Def P w g mg base 4 "is_lot" s_is_lot ["size", "thing"] cf_is_lot) (D_rings_in : Def P w g mg base 6 "rings_in" s_rings_in ["book"] cf_rings_in) (b_all : mg "all" = none) {f : Addr} {fd : FuncData} (F : Fun g.K "ring_in" "ring_in" s_ring_in f fd)  : FnG P w g.K mg base (L2.CX P w) 7 f fd ["book", "lot"] (spF g 2 cf_ring_in) :=
  fn_ev F (k := 6) sc_ring_in fun G cdv A outer s H E hG hr hgd => by
    subst hG
    exact (ss_cons (s_drop (c_pos (n := 2) (perm := [0, 1]) D_demand rfl (fun _ _ _ _ _ _ => ⟨rfl, fun s us ws h1 h2 => match us, ws, h1, h2 with | [_, _], [], _, _ => .of_eq rfl⟩) (hr.mono (by decide)) hgd (takes_of rfl rfl rfl rfl) (a1 (c_pos (n := 2) (perm := [0, 1]) D_is_lot rfl (fun _ _ _ _ _ _ => ⟨rfl, fun s us ws h1 h2 => match us, ws, h1, h2 with | [_, _], [], _, _ => .of_eq rfl⟩) (hr.mono (by decide)) hgd (takes_of rfl rfl rfl rfl) (a1 (e_sub rfl (rU2 hr) (e_var (i := 0) rfl (by first | exact .inl rfl | exact .inr (.inl rfl) | exact .inr (.inr rfl)) rfl rfl) (e_con pe_int fun _ => .int 1) (fun _ _ => rfl) (fun _ _ => rfl)) (a1 (e_var (i := 1) rfl (by first | exact .inl rfl | exact .inr (.inl rfl) | exact .inr (.inr rfl)) rfl rfl) a0))) (a1 (e_con pe_str fun _ => .str "lot") a0))) rfl) (ss_cons (s_for (passes_of rfl) rfl (i_seq rfl (c_pos (n := 1) (perm := [0]) D_rings_in rfl (fun _ _ _ _ _ _ => ⟨rfl, fun s us ws h1 h2 => match us, ws, h1, h2 with | [_], [], _, _ => .of_eq rfl⟩) (hr.mono (by decide)) hgd (takes_of rfl rfl rfl rfl) (a1 (e_var (i := 0) rfl (by first | exact .inl rfl | exact .inr (.inl rfl) | exact .inr (.inr rfl)) rfl rfl) a0))) (g_name (i := 2) sc_ring_in.nd rfl (by first | exact .inl rfl | exact .inr rfl) (by first | exact .inl rfl | exact .inr rfl)) (ss_one (s_if (t_plain rfl (b_call (c_all rfl rfl) rfl b_all PyProof.Rows.Boot.«all» (a1 (e_frz (f_lc (own := [("place", 3)]) (t := (.nm 3)) rfl sc_ring_in.nd (i_seq rfl (e_var (i := 2) rfl (by first | exact .inl rfl | exact .inr (.inl rfl) | exact .inr (.inr rfl)) rfl rfl)) (blkOk_by (N := ["book", "lot", "ring", "place"]) (sc := (defScope s_ring_in)) (own := [("place", 3)]) (by decide +kernel)) (by decide) (fun _ _ _ _ _ => (g_name (i := 3) sc_ring_in.nd rfl (by first | exact .inl rfl | exact .inr rfl) (by first | exact .inl rfl | exact .inr rfl))) (fun _ _ _ _ _ => pts_yes) (fun _ _ _ _ _ => (e_cmp (o_in rfl (rU1 hr)) (e_var (i := 3) rfl (by first | exact .inl rfl | exact .inr (.inl rfl) | exact .inr (.inr rfl)) rfl rfl) (e_var (i := 1) rfl (by first | exact .inl rfl | exact .inr (.inl rfl) | exact .inr (.inr rfl)) rfl rfl) rfl)) (fun _ => rfl))) a0)) (fun _ => rfl)) (ss_one (s_ret (e_var (i := 2) rfl (by first | exact .inl rfl | exact .inr (.inl rfl) | exact .inr (.inr rfl)) rfl rfl))) ss_nil)) (fun _ => rfl)) (ss_one (s_ret (e_con pe_non fun _ => .non)))))
abbrev s__law_is_right : Stmt := top 47
theorem sc__law_is_right : FnScope ["_law_tome", "_law_bases", "_law_rings", "_law_rows", "_law_begun", "_law_k", "_law_row", "_law_some", "_law_told"] ["_law_tome", "_law_bases", "_law_rings", "_law_rows"] (defScope s__law_is_right) := ⟨rfl, rfl, rfl, by decide +kernel, rfl, by decide +kernel, by decide +kernel⟩
def b__law_is_right : EvS := (evSeqS (evAsg (.nm 4) (evB gRepr (evCons (evVar 0) evNil))) (evSeqS (evIfS (evNot (evCall cf__law_same [0, 1] 2 0 (evCons (evLst (evCons (evCall cf_bases_of [0] 1 0 (evCons (evVar 0) evNil) evNil) (evCons (evCall cf_bases_of [0] 0 1 evNil (evCons (evVar 0) evNil)) (evCons (evCall cf_rings_of [0] 0 1 evNil (evCons (evVar 0) evNil)) evNil)))) (evCons (evLst (evCons (evVar 1) (evCons (evVar 1) (evCons (evVar 2) evNil)))) evNil)) evNil)) (evRet (evCon (.bl false))) evSkip) (evSeqS (evFor (.tp [(.nm 5), (.nm 6)]) (evRg en1 (evCons (evVar 3) evNil)) (evSeqS (evAsg (.nm 7) (evSub (evVar 6) (evCon (.int 0)))) (evSeqS (evIfS (ev2 cEq (ev2 opMod (evB gInt (evCons (evVar 5) evNil)) (evCon (.int 2))) (evCon (.int 0))) (evAsgF 8 (evLstF (evCons (evCall cf_is_free [0, 1] 2 0 (evCons (evVar 0) (evCons (evVar 7) evNil)) evNil) (evCons (evCall cf_rank_on [0, 1] 2 0 (evCons (evVar 0) (evCons (evVar 7) evNil)) evNil) (evCons (evCall cf_closure_of [0, 1] 2 0 (evCons (evVar 0) (evCons (evVar 7) evNil)) evNil) (evCons (evCall cf_ring_in [0, 1] 2 0 (evCons (evVar 0) (evCons (evVar 7) evNil)) evNil) evNil)))))) (evSeqS (evAsgF 8 (evLstF (evCons (evCall cf_is_free [1, 0] 0 2 evNil (evCons (evVar 7) (evCons (evVar 0) evNil))) (evCons (evCall cf_rank_on [1, 0] 0 2 evNil (evCons (evVar 7) (evCons (evVar 0) evNil))) (evCons (evCall cf_closure_of [1, 0] 0 2 evNil (evCons (evVar 7) (evCons (evVar 0) evNil))) evNil))))) (evApp 8 (evCall cf_ring_in [1, 0] 0 2 evNil (evCons (evVar 7) (evCons (evVar 0) evNil)))))) (evFrzS [8] (evIfS (evNot (evCall cf__law_same [0, 1] 2 0 (evCons (evVar 8) (evCons (evB gList (evCons (evSl (evVar 6) (evP (evCon (.int 1))) (fun _ S => .ok none S)) evNil)) evNil)) evNil)) (evRet (evCon (.bl false))) evSkip))))) (evRet (ev2 cEq (evB gRepr (evCons (evVar 0) evNil)) (evVar 4))))))
def cf__law_is_right : CallF := runB 9 b__law_is_right
theorem d__law_is_right {P : Program} {w : World} {g : G0} {mg : Str → Option Value} {base : Heap} (D__law_same : Def P w g mg base 1 "_law_same" s__law_same ["_law_told", "_law_due"] cf__law_same) (D_bases_of : Def P w g mg base 7 "bases_of" s_bases_of ["book"] cf_bases_of) (D_closure_of : Def P w g mg base 7 "closure_of" s_closure_of ["book", "lot"] cf_closure_of) (D_is_free : Def P w g mg base 7 "is_free" s_is_free ["book", "lot"] cf_is_free) (D_rank_on : Def P w g mg base 6 "rank_on" s_rank_on ["book", "lot"] cf_rank_on) (D_ring_in : Def P w g mg base 7 "ring_in" s_ring_in ["book", "lot"] cf_ring_in) (D_rings_of : Def P w g mg base 7 "rings_of" s_rings_of ["book"] cf_rings_of) (b_enumerate : mg "enumerate" = none) (b_int : mg "int" = none) (b_list : mg "list" = none) (b_repr : mg "repr" = none) {f : Addr} {fd : FuncData} (F : Fun g.K "_law_is_right" "_law_is_right" s__law_is_right f fd)  : FnG P w g.K mg base (L2.CX P w) 8 f fd ["_law_tome", "_law_bases", "_law_rings", "_law_rows"] (spF g 4 cf__law_is_right) :=
  fn_ev F (k := 7) sc__law_is_right fun G cdv A outer s H E hG hr hgd => by
    subst hG
    exact (ss_cons (s_set (i := 4) sc__law_is_right.nd rfl (by first | exact .inl rfl | exact .inr rfl) (b_call (c_reprV rfl hgd (rU hr)) rfl b_repr PyProof.Rows.Boot.«repr» (a1 (e_var (i := 0) rfl (by first | exact .inl rfl | exact .inr (.inl rfl) | exact .inr (.inr rfl)) rfl rfl) a0)) rfl (by first | exact .inl rfl | exact .inr rfl)) (ss_cons (s_if (t_not (t_plain rfl (c_pos (n := 2) (perm := [0, 1]) D__law_same rfl (fun _ _ _ _ _ _ => ⟨rfl, fun s us ws h1 h2 => match us, ws, h1, h2 with | [_, _], [], _, _ => .of_eq rfl⟩) (hr.mono (by decide)) hgd (takes_of rfl rfl rfl rfl) (a1 (e_lst (a1 (c_pos (n := 1) (perm := [0]) D_bases_of rfl (fun _ _ _ _ _ _ => ⟨rfl, fun s us ws h1 h2 => match us, ws, h1, h2 with | [_], [], _, _ => .of_eq rfl⟩) (hr.mono (by decide)) hgd (takes_of rfl rfl rfl rfl) (a1 (e_var (i := 0) rfl (by first | exact .inl rfl | exact .inr (.inl rfl) | exact .inr (.inr rfl)) rfl rfl) a0)) (a1 (c_kw0 (ks := ["book"]) (perm := [0]) D_bases_of rfl (fun _ _ _ _ _ _ => ⟨rfl, fun s us ws h1 h2 => match us, ws, h1, h2 with | [], [_], _, _ => .of_eq rfl⟩) (hr.mono (by decide)) hgd (takes_of rfl rfl rfl rfl) (k1 (e_var (i := 0) rfl (by first | exact .inl rfl | exact .inr (.inl rfl) | exact .inr (.inr rfl)) rfl rfl) k0)) (a1 (c_kw0 (ks := ["book"]) (perm := [0]) D_rings_of rfl (fun _ _ _ _ _ _ => ⟨rfl, fun s us ws h1 h2 => match us, ws, h1, h2 with | [], [_], _, _ => .of_eq rfl⟩) (hr.mono (by decide)) hgd (takes_of rfl rfl rfl rfl) (k1 (e_var (i := 0) rfl (by first | exact .inl rfl | exact .inr (.inl rfl) | exact .inr (.inr rfl)) rfl rfl) k0)) a0)))) (a1 (e_lst (a1 (e_var (i := 1) rfl (by first | exact .inl rfl | exact .inr (.inl rfl) | exact .inr (.inr rfl)) rfl rfl) (a1 (e_var (i := 1) rfl (by first | exact .inl rfl | exact .inr (.inl rfl) | exact .inr (.inr rfl)) rfl rfl) (a1 (e_var (i := 2) rfl (by first | exact .inl rfl | exact .inr (.inl rfl) | exact .inr (.inr rfl)) rfl rfl) a0)))) a0))) (fun _ => rfl))) (ss_one (s_ret (e_con pe_bl fun _ => .bl false))) ss_nil) (ss_cons (s_for (passes_of rfl) rfl (i_enum rfl rfl b_enumerate (a1 (e_var (i := 3) rfl (by first | exact .inl rfl | exact .inr (.inl rfl) | exact .inr (.inr rfl)) rfl rfl) a0) rfl) (g_tup rfl rfl (gs_cons (g_name (i := 5) sc__law_is_right.nd rfl (by first | exact .inl rfl | exact .inr rfl) (by first | exact .inl rfl | exact .inr rfl)) (gs_cons (g_name (i := 6) sc__law_is_right.nd rfl (by first | exact .inl rfl | exact .inr rfl) (by first | exact .inl rfl | exact .inr rfl)) gs_nil rfl) rfl) rfl rfl) (ss_cons (s_set (i := 7) sc__law_is_right.nd rfl (by first | exact .inl rfl | exact .inr rfl) (e_sub rfl (rU2 hr) (e_var (i := 6) rfl (by first | exact .inl rfl | exact .inr (.inl rfl) | exact .inr (.inr rfl)) rfl rfl) (e_con pe_int fun _ => .int 0) (fun _ _ => rfl) (fun _ _ => rfl)) rfl (by first | exact .inl rfl | exact .inr rfl)) (ss_cons (s_if (t_cmp booly_cEq (o_eq rfl (rU hr)) (e_op (o_mod) (b_ty (c_int) rfl b_int PyProof.Rows.Boot.«int» (a1 (e_var (i := 5) rfl (by first | exact .inl rfl | exact .inr (.inl rfl) | exact .inr (.inr rfl)) rfl rfl) a0)) (e_con pe_int fun _ => .int 2)) (e_con pe_int fun _ => .int 0) rfl) (ss_one (s_setF (i := 8) sc__law_is_right.nd rfl (by first | exact .inl rfl | exact .inr rfl) (f_lst (a1 (c_pos (n := 2) (perm := [0, 1]) D_is_free rfl (fun _ _ _ _ _ _ => ⟨rfl, fun s us ws h1 h2 => match us, ws, h1, h2 with | [_, _], [], _, _ => .of_eq rfl⟩) (hr.mono (by decide)) hgd (takes_of rfl rfl rfl rfl) (a1 (e_var (i := 0) rfl (by first | exact .inl rfl | exact .inr (.inl rfl) | exact .inr (.inr rfl)) rfl rfl) (a1 (e_var (i := 7) rfl (by first | exact .inl rfl | exact .inr (.inl rfl) | exact .inr (.inr rfl)) rfl rfl) a0))) (a1 (c_pos (n := 2) (perm := [0, 1]) D_rank_on rfl (fun _ _ _ _ _ _ => ⟨rfl, fun s us ws h1 h2 => match us, ws, h1, h2 with | [_, _], [], _, _ => .of_eq rfl⟩) (hr.mono (by decide)) hgd (takes_of rfl rfl rfl rfl) (a1 (e_var (i := 0) rfl (by first | exact .inl rfl | exact .inr (.inl rfl) | exact .inr (.inr rfl)) rfl rfl) (a1 (e_var (i := 7) rfl (by first | exact .inl rfl | exact .inr (.inl rfl) | exact .inr (.inr rfl)) rfl rfl) a0))) (a1 (c_pos (n := 2) (perm := [0, 1]) D_closure_of rfl (fun _ _ _ _ _ _ => ⟨rfl, fun s us ws h1 h2 => match us, ws, h1, h2 with | [_, _], [], _, _ => .of_eq rfl⟩) (hr.mono (by decide)) hgd (takes_of rfl rfl rfl rfl) (a1 (e_var (i := 0) rfl (by first | exact .inl rfl | exact .inr (.inl rfl) | exact .inr (.inr rfl)) rfl rfl) (a1 (e_var (i := 7) rfl (by first | exact .inl rfl | exact .inr (.inl rfl) | exact .inr (.inr rfl)) rfl rfl) a0))) (a1 (c_pos (n := 2) (perm := [0, 1]) D_ring_in rfl (fun _ _ _ _ _ _ => ⟨rfl, fun s us ws h1 h2 => match us, ws, h1, h2 with | [_, _], [], _, _ => .of_eq rfl⟩) (hr.mono (by decide)) hgd (takes_of rfl rfl rfl rfl) (a1 (e_var (i := 0) rfl (by first | exact .inl rfl | exact .inr (.inl rfl) | exact .inr (.inr rfl)) rfl rfl) (a1 (e_var (i := 7) rfl (by first | exact .inl rfl | exact .inr (.inl rfl) | exact .inr (.inr rfl)) rfl rfl) a0))) a0))))) rfl (by first | exact .inl rfl | exact .inr rfl))) (ss_cons (s_setF (i := 8) sc__law_is_right.nd rfl (by first | exact .inl rfl | exact .inr rfl) (f_lst (a1 (c_kw0 (ks := ["lot", "book"]) (perm := [1, 0]) D_is_free rfl (fun _ _ _ _ _ _ => ⟨rfl, fun s us ws h1 h2 => match us, ws, h1, h2 with | [], [_, _], _, _ => .of_eq rfl⟩) (hr.mono (by decide)) hgd (takes_of rfl rfl rfl rfl) (k1 (e_var (i := 7) rfl (by first | exact .inl rfl | exact .inr (.inl rfl) | exact .inr (.inr rfl)) rfl rfl) (k1 (e_var (i := 0) rfl (by first | exact .inl rfl | exact .inr (.inl rfl) | exact .inr (.inr rfl)) rfl rfl) k0))) (a1 (c_kw0 (ks := ["lot", "book"]) (perm := [1, 0]) D_rank_on rfl (fun _ _ _ _ _ _ => ⟨rfl, fun s us ws h1 h2 => match us, ws, h1, h2 with | [], [_, _], _, _ => .of_eq rfl⟩) (hr.mono (by decide)) hgd (takes_of rfl rfl rfl rfl) (k1 (e_var (i := 7) rfl (by first | exact .inl rfl | exact .inr (.inl rfl) | exact .inr (.inr rfl)) rfl rfl) (k1 (e_var (i := 0) rfl (by first | exact .inl rfl | exact .inr (.inl rfl) | exact .inr (.inr rfl)) rfl rfl) k0))) (a1 (c_kw0 (ks := ["lot", "book"]) (perm := [1, 0]) D_closure_of rfl (fun _ _ _ _ _ _ => ⟨rfl, fun s us ws h1 h2 => match us, ws, h1, h2 with | [], [_, _], _, _ => .of_eq rfl⟩) (hr.mono (by decide)) hgd (takes_of rfl rfl rfl rfl) (k1 (e_var (i := 7) rfl (by first | exact .inl rfl | exact .inr (.inl rfl) | exact .inr (.inr rfl)) rfl rfl) (k1 (e_var (i := 0) rfl (by first | exact .inl rfl | exact .inr (.inl rfl) | exact .inr (.inr rfl)) rfl rfl) k0))) a0)))) rfl (by first | exact .inl rfl | exact .inr rfl)) (ss_one (s_app (i := 8) rfl (by first | exact .inl rfl | exact .inr (.inl rfl) | exact .inr (.inr rfl)) rfl rfl (pa_one (c_kw0 (ks := ["lot", "book"]) (perm := [1, 0]) D_ring_in rfl (fun _ _ _ _ _ _ => ⟨rfl, fun s us ws h1 h2 => match us, ws, h1, h2 with | [], [_, _], _, _ => .of_eq rfl⟩) (hr.mono (by decide)) hgd (takes_of rfl rfl rfl rfl) (k1 (e_var (i := 7) rfl (by first | exact .inl rfl | exact .inr (.inl rfl) | exact .inr (.inr rfl)) rfl rfl) (k1 (e_var (i := 0) rfl (by first | exact .inl rfl | exact .inr (.inl rfl) | exact .inr (.inr rfl)) rfl rfl) k0))) rfl) rfl rfl rfl rfl rfl rfl)))) (ss_one (s_frz [8] (s_if (t_not (t_plain rfl (c_pos (n := 2) (perm := [0, 1]) D__law_same rfl (fun _ _ _ _ _ _ => ⟨rfl, fun s us ws h1 h2 => match us, ws, h1, h2 with | [_, _], [], _, _ => .of_eq rfl⟩) (hr.mono (by decide)) hgd (takes_of rfl rfl rfl rfl) (a1 (e_var (i := 8) rfl (by first | exact .inl rfl | exact .inr (.inl rfl) | exact .inr (.inr rfl)) rfl rfl) (a1 (b_ty (c_list rfl) rfl b_list PyProof.Rows.Boot.«list» (a1 (e_slice rfl (e_var (i := 6) rfl (by first | exact .inl rfl | exact .inr (.inl rfl) | exact .inr (.inr rfl)) rfl rfl) (p_some (e_con pe_int fun _ => .int 1)) p_none) a0)) a0))) (fun _ => rfl))) (ss_one (s_ret (e_con pe_bl fun _ => .bl false))) ss_nil))))) (fun _ => rfl)) (ss_one (s_ret (e_cmp (o_eq rfl (rU hr)) (b_call (c_reprV rfl hgd (rU hr)) rfl b_repr PyProof.Rows.Boot.«repr» (a1 (e_var (i := 0) rfl (by first | exact .inl rfl | exact .inr (.inl rfl) | exact .inr (.inr rfl)) rfl rfl) a0)) (e_var (i := 4) rfl (by first | exact .inl rfl | exact .inr (.inl rfl) | exact .inr (.inr rfl)) rfl rfl) rfl))))))
abbrev s__law_odds : Stmt := top 45
theorem sc__law_odds : FnScope ["_law_width", "_law_found"] ["_law_width"] (defScope s__law_odds) := ⟨rfl, rfl, rfl, by decide +kernel, rfl, by decide +kernel, by decide +kernel⟩
def b__law_odds : EvS := (evSeqS (evAsg (.nm 1) (evLst (evCons (evCon (.non)) (evCons (evCon (.int 0)) (evCons (evCon (.bl true)) (evCons (evCon (.str "")) (evCons (evCon (.str "0")) (evCons (evLst evNil) (evCons (evLst (evCons (evCon (.int 0)) evNil)) (evCons (evTup (evCons (evCon (.non)) evNil)) (evCons (evTup (evCons (evCon (.bl true)) evNil)) (evCons (evTup (evCons (evCon (.bl false)) evNil)) (evCons (evTup (evCons (evTup (evCons (evCon (.int 0)) evNil)) evNil)) (evCons (evTup (evCons (evCon (.str "0")) evNil)) (evCons (evTup (evCons (evNeg (evCon (.int 1))) evNil)) (evCons (evTup (evCons (evCon (.int 0)) (evCons (evCon (.int 0)) evNil))) (evCons (evTup (evCons (evCon (.int 1)) (evCons (evCon (.int 0)) evNil))) evNil))))))))))))))))) (evRet (ev2 opAdd (ev2 opAdd (evVar 1) (evLst (evCons (evTup (evCons (evVar 0) evNil)) (evCons (evTup (evCons (evCon (.int 0)) (evCons (evVar 0) evNil))) (evCons (evTup (evCons (evCon (.int 0)) (evCons (ev2 opPow (evCon (.int 10)) (evCon (.int 30))) evNil))) (evCons (evTup (evCons (evTup evNil) evNil)) (evCons (evTup (evCons (evCon (.int 0)) (evCons (evCon (.non)) evNil))) evNil))))))) (evIf (ev2 cGt (evVar 0) (evCon (.int 1))) (evLst (evCons (evTup (evCons (evCon (.int 0)) (evCons (evCon (.int 1)) (evCons (evCon (.int 0)) evNil)))) (evCons (evTup (evCons (evCon (.int 0)) (evCons (evCon (.bl true)) evNil))) evNil))) (evLst evNil)))))
def cf__law_odds : CallF := runB 2 b__law_odds
theorem d__law_odds {P : Program} {w : World} {g : G0} {mg : Str → Option Value} {base : Heap}  {f : Addr} {fd : FuncData} (F : Fun g.K "_law_odds" "_law_odds" s__law_odds f fd)  : FnG P w g.K mg base (L2.CX P w) 1 f fd ["_law_width"] (spF g 1 cf__law_odds) :=
  fn_ev F (k := 0) sc__law_odds fun G cdv A outer s H E hG hr hgd => by
    subst hG
    exact (ss_cons (s_set (i := 1) sc__law_odds.nd rfl (by first | exact .inl rfl | exact .inr rfl) (e_lst (a1 (e_con pe_non fun _ => .non) (a1 (e_con pe_int fun _ => .int 0) (a1 (e_con pe_bl fun _ => .bl true) (a1 (e_con pe_str fun _ => .str "") (a1 (e_con pe_str fun _ => .str "0") (a1 (e_lst a0) (a1 (e_lst (a1 (e_con pe_int fun _ => .int 0) a0)) (a1 (e_tup (a1 (e_con pe_non fun _ => .non) a0)) (a1 (e_tup (a1 (e_con pe_bl fun _ => .bl true) a0)) (a1 (e_tup (a1 (e_con pe_bl fun _ => .bl false) a0)) (a1 (e_tup (a1 (e_tup (a1 (e_con pe_int fun _ => .int 0) a0)) a0)) (a1 (e_tup (a1 (e_con pe_str fun _ => .str "0") a0)) (a1 (e_tup (a1 (e_neg (e_con pe_int fun _ => .int 1)) a0)) (a1 (e_tup (a1 (e_con pe_int fun _ => .int 0) (a1 (e_con pe_int fun _ => .int 0) a0))) (a1 (e_tup (a1 (e_con pe_int fun _ => .int 1) (a1 (e_con pe_int fun _ => .int 0) a0))) a0)))))))))))))))) rfl (by first | exact .inl rfl | exact .inr rfl)) (ss_one (s_ret (e_op (o_add rfl) (e_op (o_add rfl) (e_var (i := 1) rfl (by first | exact .inl rfl | exact .inr (.inl rfl) | exact .inr (.inr rfl)) rfl rfl) (e_lst (a1 (e_tup (a1 (e_var (i := 0) rfl (by first | exact .inl rfl | exact .inr (.inl rfl) | exact .inr (.inr rfl)) rfl rfl) a0)) (a1 (e_tup (a1 (e_con pe_int fun _ => .int 0) (a1 (e_var (i := 0) rfl (by first | exact .inl rfl | exact .inr (.inl rfl) | exact .inr (.inr rfl)) rfl rfl) a0))) (a1 (e_tup (a1 (e_con pe_int fun _ => .int 0) (a1 (e_op (o_pow) (e_con pe_int fun _ => .int 10) (e_con pe_int fun _ => .int 30)) a0))) (a1 (e_tup (a1 (e_tup a0) a0)) (a1 (e_tup (a1 (e_con pe_int fun _ => .int 0) (a1 (e_con pe_non fun _ => .non) a0))) a0))))))) (e_if (t_cmp booly_cGt (o_gt) (e_var (i := 0) rfl (by first | exact .inl rfl | exact .inr (.inl rfl) | exact .inr (.inr rfl)) rfl rfl) (e_con pe_int fun _ => .int 1) rfl) (e_lst (a1 (e_tup (a1 (e_con pe_int fun _ => .int 0) (a1 (e_con pe_int fun _ => .int 1) (a1 (e_con pe_int fun _ => .int 0) a0)))) (a1 (e_tup (a1 (e_con pe_int fun _ => .int 0) (a1 (e_con pe_bl fun _ => .bl true) a0))) a0))) (e_lst a0))))))
abbrev s__law_heard : Stmt := top 44
theorem sc__law_heard : FnScope ["_law_ask", "error", "_law_sorts"] ["_law_ask"] (defScope s__law_heard) := ⟨rfl, rfl, rfl, by decide +kernel, rfl, by decide +kernel, by decide +kernel⟩
def b__law_heard (rf : Sto → Res Pv) : EvS := (evTry 1 ct_ShelfError (evRet (evTup (evCons (evCon (.str "told")) (evCons (evThk 0 rf) evNil)))) (evSeqS (evAsgF 2 (evLstF (evCons (evXis 1 it_PaperError) (evCons (evXis 1 it_HallError) (evCons (evXis 1 it_LiveError) evNil))))) (evSeqS (evApp 2 (evXis 1 it_TextError)) (evSeqS (evFrzS [2] (evIfS (evOr (evNot (evXis 1 it_ValueError)) (ev2 cNe (evM "list" gCountB (evVar 2) (evCons (evCon (.bl true)) evNil)) (evCon (.int 1)))) (evRet (evTup (evCons (evCon (.str "odd")) evNil))) evSkip)) (evSeqS (evFrzS [2] (evIfS (evAnd (evSub (evVar 2) (evCon (.int 0))) (evXis 1 it_InvalidPaper)) (evRet (evTup (evCons (evCon (.str "paper")) (evCons (evXf 1 "word") (evCons (evXf 1 "at") evNil))))) evSkip)) (evFrzS [2] (evRet (evIf (evAnd (evSub (evVar 2) (evCon (.int 1))) (evXis 1 it_NotUsable)) (evTup (evCons (evCon (.str "use")) (evCons (evXf 1 "word") (evCons (evXf 1 "at") evNil)))) (evTup (evCons (evCon (.str "odd")) evNil))))))))))
def cf__law_heard : SaidF := runSaid 3 b__law_heard
theorem d__law_heard {P : Program} {w : World} {g : G0} {mg : Str → Option Value} {base : Heap} (b_ValueError : mg "ValueError" = none) (b_isinstance : mg "isinstance" = none) (K_ShelfError : CatOwn g mg "ShelfError" ct_ShelfError) (I_HallError : IsOwn g mg "HallError" it_HallError) (I_InvalidPaper : IsOwn g mg "InvalidPaper" it_InvalidPaper) (I_LiveError : IsOwn g mg "LiveError" it_LiveError) (I_NotUsable : IsOwn g mg "NotUsable" it_NotUsable) (I_PaperError : IsOwn g mg "PaperError" it_PaperError) (I_TextError : IsOwn g mg "TextError" it_TextError) (I_ValueError : IsY g (.type "ValueError") it_ValueError) (X_at : XfY g "at") (X_word : XfY g "word") {gA : Addr} {fd : FuncData} (hm : mg "_law_heard" = some (.ref gA)) (F : Fun g.K "_law_heard" "_law_heard" s__law_heard gA fd) (hb : L2.Binds g.K fd ["_law_ask"] []) : Sd P w g mg base "_law_heard" s__law_heard "_law_ask" ["_law_ask", "error", "_law_sorts"] cf__law_heard :=
  ⟨gA, fd, hm, F, hb, sc__law_heard, rfl, (by first | exact .inl rfl | exact .inr (.inl rfl) | exact .inr (.inr rfl)), rfl, rfl, fun X q cdv h1 h2 h3 h4 h5 => by
    cases X; dsimp only at h1 h2 h3 h4 h5; subst h1; subst h2; subst h3; subst h4; subst h5
    refine said_gives fun G rf s H hG hr1 hthk => ?_
    subst hG
    exact (ss_one (x_try (i := 1) K_ShelfError rfl sc__law_heard.nd rfl L2.takes0 (fun W pn xe tk hpo => (ss_one (s_ret (e_tup (a1 (e_con pe_str fun _ => .str "told") (a1 (hthk _ _ _ _ _ tk) a0)))))) (fun a oe cls d pn hz hf => (ss_cons (s_setF (i := 2) sc__law_heard.nd rfl (by first | exact .inl rfl | exact .inr rfl) (f_lst (a1 (x_isOwn (i := 1) I_PaperError rfl hz hf b_isinstance rfl (by first | exact .inl rfl | exact .inr (.inl rfl) | exact .inr (.inr rfl))) (a1 (x_isOwn (i := 1) I_HallError rfl hz hf b_isinstance rfl (by first | exact .inl rfl | exact .inr (.inl rfl) | exact .inr (.inr rfl))) (a1 (x_isOwn (i := 1) I_LiveError rfl hz hf b_isinstance rfl (by first | exact .inl rfl | exact .inr (.inl rfl) | exact .inr (.inr rfl))) a0)))) rfl (by first | exact .inl rfl | exact .inr rfl)) (ss_cons (s_app (i := 2) rfl (by first | exact .inl rfl | exact .inr (.inl rfl) | exact .inr (.inr rfl)) rfl rfl (pa_one (x_isOwn (i := 1) I_TextError rfl hz hf b_isinstance rfl (by first | exact .inl rfl | exact .inr (.inl rfl) | exact .inr (.inr rfl))) rfl) rfl rfl rfl rfl rfl rfl) (ss_cons (s_frz [2] (s_if (L2.PW.pt (w_or (t_not (t_plain rfl (x_isBlt (i := 1) I_ValueError rfl hz hf b_isinstance b_ValueError PyProof.Rows.Boot.«ValueError» rfl (by first | exact .inl rfl | exact .inr (.inl rfl) | exact .inr (.inr rfl))) (fun _ => rfl))) (w_or1 (t_cmp booly_cNe (o_ne rfl (rUm hr1)) (e_bm rfl PySem.F.plainAttrs_list PySem.F.slot_list_count PySem.F.type_list_count (m_countB rfl) (e_var (i := 2) rfl (by first | exact .inl rfl | exact .inr (.inl rfl) | exact .inr (.inr rfl)) rfl rfl) (a1 (e_con pe_bl fun _ => .bl true) a0) rfl rfl rfl rfl rfl) (e_con pe_int fun _ => .int 1) rfl)))) (ss_one (s_ret (e_tup (a1 (e_con pe_str fun _ => .str "odd") a0)))) ss_nil)) (ss_cons (s_frz [2] (s_if (L2.PW.pt (w_and (t_plain rfl (e_sub rfl (rU2m hr1) (e_var (i := 2) rfl (by first | exact .inl rfl | exact .inr (.inl rfl) | exact .inr (.inr rfl)) rfl rfl) (e_con pe_int fun _ => .int 0) (fun _ _ => rfl) (fun _ _ => rfl)) (fun _ => rfl)) (w_and1 (t_plain rfl (x_isOwn (i := 1) I_InvalidPaper rfl hz hf b_isinstance rfl (by first | exact .inl rfl | exact .inr (.inl rfl) | exact .inr (.inr rfl))) (fun _ => rfl))))) (ss_one (s_ret (e_tup (a1 (e_con pe_str fun _ => .str "paper") (a1 (x_fld (i := 1) X_word rfl hz hf rfl (by first | exact .inl rfl | exact .inr (.inl rfl) | exact .inr (.inr rfl))) (a1 (x_fld (i := 1) X_at rfl hz hf rfl (by first | exact .inl rfl | exact .inr (.inl rfl) | exact .inr (.inr rfl))) a0)))))) ss_nil)) (ss_one (s_frz [2] (s_ret (e_if (L2.PW.pt (w_and (t_plain rfl (e_sub rfl (rU2m hr1) (e_var (i := 2) rfl (by first | exact .inl rfl | exact .inr (.inl rfl) | exact .inr (.inr rfl)) rfl rfl) (e_con pe_int fun _ => .int 1) (fun _ _ => rfl) (fun _ _ => rfl)) (fun _ => rfl)) (w_and1 (t_plain rfl (x_isOwn (i := 1) I_NotUsable rfl hz hf b_isinstance rfl (by first | exact .inl rfl | exact .inr (.inl rfl) | exact .inr (.inr rfl))) (fun _ => rfl))))) (e_tup (a1 (e_con pe_str fun _ => .str "use") (a1 (x_fld (i := 1) X_word rfl hz hf rfl (by first | exact .inl rfl | exact .inr (.inl rfl) | exact .inr (.inr rfl))) (a1 (x_fld (i := 1) X_at rfl hz hf rfl (by first | exact .inl rfl | exact .inr (.inl rfl) | exact .inr (.inr rfl))) a0)))) (e_tup (a1 (e_con pe_str fun _ => .str "odd") a0)))))))))))))⟩
abbrev s__law_are_refused : Stmt := top 48
theorem sc__law_are_refused : FnScope ["_law_tome", "_law_odd", "_law_heard_here"] ["_law_tome", "_law_odd"] (defScope s__law_are_refused) := ⟨rfl, rfl, rfl, by decide +kernel, rfl, by decide +kernel, by decide +kernel⟩
def b__law_are_refused : EvS := (evSeqS (evAsgF 2 (evLstF (evCons (evSaid cf__law_heard (evCall cf_is_free [0, 1] 2 0 (evCons (evVar 0) (evCons (evVar 1) evNil)) evNil)) evNil))) (evSeqS (evApp 2 (evSaid cf__law_heard (evCall cf_rank_on [0, 1] 2 0 (evCons (evVar 0) (evCons (evVar 1) evNil)) evNil))) (evSeqS (evApp 2 (evSaid cf__law_heard (evCall cf_closure_of [1, 0] 0 2 evNil (evCons (evVar 1) (evCons (evVar 0) evNil))))) (evSeqS (evApp 2 (evSaid cf__law_heard (evCall cf_ring_in [0, 1] 2 0 (evCons (evVar 0) (evCons (evVar 1) evNil)) evNil))) (evFrzS [2] (evRet (evCall cf__law_same [0, 1] 2 0 (evCons (evVar 2) (evCons (ev2 opMul (evLst (evCons (evTup (evCons (evCon (.str "use")) (evCons (evCon (.str "lot")) (evCons (evNeg (evCon (.int 1))) evNil)))) evNil)) (evCon (.int 4))) evNil)) evNil)))))))
def cf__law_are_refused : CallF := runB 3 b__law_are_refused
theorem d__law_are_refused {P : Program} {w : World} {g : G0} {mg : Str → Option Value} {base : Heap} (D__law_same : Def P w g mg base 1 "_law_same" s__law_same ["_law_told", "_law_due"] cf__law_same) (D_closure_of : Def P w g mg base 7 "closure_of" s_closure_of ["book", "lot"] cf_closure_of) (D_is_free : Def P w g mg base 7 "is_free" s_is_free ["book", "lot"] cf_is_free) (D_rank_on : Def P w g mg base 6 "rank_on" s_rank_on ["book", "lot"] cf_rank_on) (D_ring_in : Def P w g mg base 7 "ring_in" s_ring_in ["book", "lot"] cf_ring_in) (S__law_heard : Sd P w g mg base "_law_heard" s__law_heard "_law_ask" ["_law_ask", "error", "_law_sorts"] cf__law_heard) {f : Addr} {fd : FuncData} (F : Fun g.K "_law_are_refused" "_law_are_refused" s__law_are_refused f fd) (ML : MkL g mg base fd.code ((envOfC "_law_are_refused" (defScope s__law_are_refused) 0 0 .none).qual ++ "<lambda>")) : FnG P w g.K mg base (L2.CX P w) 10 f fd ["_law_tome", "_law_odd"] (spF g 2 cf__law_are_refused) :=
  fn_evC F ML (k := 9) sc__law_are_refused fun G cdv A outer s H E hG ML hr hgd => by
    subst hG
    exact (ss_cons (s_setF (i := 2) sc__law_are_refused.nd rfl (by first | exact .inl rfl | exact .inr rfl) (f_lst (a1 (e_saidD (k := 7) S__law_heard ML rfl (hr.mono (by decide)) (lamS_by (sc := (defScope s__law_are_refused)) (by decide +kernel)) (fun _ _ _ _ _ => rfl) (fun A2 outer2 s2 H2 E2 f2 c2 hr2 hg2 => (c_pos (n := 2) (perm := [0, 1]) D_is_free rfl (fun _ _ _ _ _ _ => ⟨rfl, fun s us ws h1 h2 => match us, ws, h1, h2 with | [_, _], [], _, _ => .of_eq rfl⟩) (hr2.mono (by decide)) (hg2.trans hgd) (takes_of rfl rfl rfl rfl) (a1 (e_var (i := 0) rfl (by first | exact .inl rfl | exact .inr (.inl rfl) | exact .inr (.inr rfl)) rfl rfl) (a1 (e_var (i := 1) rfl (by first | exact .inl rfl | exact .inr (.inl rfl) | exact .inr (.inr rfl)) rfl rfl) a0))))) a0)) rfl (by first | exact .inl rfl | exact .inr rfl)) (ss_cons (s_app (i := 2) rfl (by first | exact .inl rfl | exact .inr (.inl rfl) | exact .inr (.inr rfl)) rfl rfl (pa_one (e_saidD (k := 7) S__law_heard ML rfl (hr.mono (by decide)) (lamS_by (sc := (defScope s__law_are_refused)) (by decide +kernel)) (fun _ _ _ _ _ => rfl) (fun A2 outer2 s2 H2 E2 f2 c2 hr2 hg2 => (c_pos (n := 2) (perm := [0, 1]) D_rank_on rfl (fun _ _ _ _ _ _ => ⟨rfl, fun s us ws h1 h2 => match us, ws, h1, h2 with | [_, _], [], _, _ => .of_eq rfl⟩) (hr2.mono (by decide)) (hg2.trans hgd) (takes_of rfl rfl rfl rfl) (a1 (e_var (i := 0) rfl (by first | exact .inl rfl | exact .inr (.inl rfl) | exact .inr (.inr rfl)) rfl rfl) (a1 (e_var (i := 1) rfl (by first | exact .inl rfl | exact .inr (.inl rfl) | exact .inr (.inr rfl)) rfl rfl) a0))))) rfl) rfl rfl rfl rfl rfl rfl) (ss_cons (s_app (i := 2) rfl (by first | exact .inl rfl | exact .inr (.inl rfl) | exact .inr (.inr rfl)) rfl rfl (pa_one (e_saidD (k := 7) S__law_heard ML rfl (hr.mono (by decide)) (lamS_by (sc := (defScope s__law_are_refused)) (by decide +kernel)) (fun _ _ _ _ _ => rfl) (fun A2 outer2 s2 H2 E2 f2 c2 hr2 hg2 => (c_kw0 (ks := ["lot", "book"]) (perm := [1, 0]) D_closure_of rfl (fun _ _ _ _ _ _ => ⟨rfl, fun s us ws h1 h2 => match us, ws, h1, h2 with | [], [_, _], _, _ => .of_eq rfl⟩) (hr2.mono (by decide)) (hg2.trans hgd) (takes_of rfl rfl rfl rfl) (k1 (e_var (i := 1) rfl (by first | exact .inl rfl | exact .inr (.inl rfl) | exact .inr (.inr rfl)) rfl rfl) (k1 (e_var (i := 0) rfl (by first | exact .inl rfl | exact .inr (.inl rfl) | exact .inr (.inr rfl)) rfl rfl) k0))))) rfl) rfl rfl rfl rfl rfl rfl) (ss_cons (s_app (i := 2) rfl (by first | exact .inl rfl | exact .inr (.inl rfl) | exact .inr (.inr rfl)) rfl rfl (pa_one (e_saidD (k := 7) S__law_heard ML rfl (hr.mono (by decide)) (lamS_by (sc := (defScope s__law_are_refused)) (by decide +kernel)) (fun _ _ _ _ _ => rfl) (fun A2 outer2 s2 H2 E2 f2 c2 hr2 hg2 => (c_pos (n := 2) (perm := [0, 1]) D_ring_in rfl (fun _ _ _ _ _ _ => ⟨rfl, fun s us ws h1 h2 => match us, ws, h1, h2 with | [_, _], [], _, _ => .of_eq rfl⟩) (hr2.mono (by decide)) (hg2.trans hgd) (takes_of rfl rfl rfl rfl) (a1 (e_var (i := 0) rfl (by first | exact .inl rfl | exact .inr (.inl rfl) | exact .inr (.inr rfl)) rfl rfl) (a1 (e_var (i := 1) rfl (by first | exact .inl rfl | exact .inr (.inl rfl) | exact .inr (.inr rfl)) rfl rfl) a0))))) rfl) rfl rfl rfl rfl rfl rfl) (ss_one (s_frz [2] (s_ret (c_pos (n := 2) (perm := [0, 1]) D__law_same rfl (fun _ _ _ _ _ _ => ⟨rfl, fun s us ws h1 h2 => match us, ws, h1, h2 with | [_, _], [], _, _ => .of_eq rfl⟩) (hr.mono (by decide)) hgd (takes_of rfl rfl rfl rfl) (a1 (e_var (i := 2) rfl (by first | exact .inl rfl | exact .inr (.inl rfl) | exact .inr (.inr rfl)) rfl rfl) (a1 (e_op (o_mul rfl) (e_lst (a1 (e_tup (a1 (e_con pe_str fun _ => .str "use") (a1 (e_con pe_str fun _ => .str "lot") (a1 (e_neg (e_con pe_int fun _ => .int 1)) a0)))) a0)) (e_con pe_int fun _ => .int 4)) a0))))))))))
abbrev s_law : Stmt := top 49
theorem sc_law : FnScope ["_law_script", "_law_feed_here", "_law_some", "_law_start", "_law_tome", "_law_bases", "_law_rings", "_law_rows", "_law_odd"] ["_law_script"] (defScope s_law) := ⟨rfl, rfl, rfl, by decide +kernel, rfl, by decide +kernel, by decide +kernel⟩
def b_law : EvS := (evSeqS (evAsg (.nm 1) (evCall cf__law_feed [0] 1 0 (evCons (evVar 0) evNil) evNil)) (evSeqS (evAsg (.nm 2) (evCall cf__law_tomes [] 0 0 evNil evNil)) (evSeqS (evAsg (.nm 3) (evCall cf__law_draw [0, 1] 2 0 (evCons (evVar 1) (evCons (evB gLen (evCons (evVar 2) evNil)) evNil)) evNil)) (evSeqS (evAsg (.nm 2) (evSl (ev2 opAdd (evSl (evVar 2) (evP (evVar 3)) (fun _ S => .ok none S)) (evSl (evVar 2) (fun _ S => .ok none S) (evP (evVar 3)))) (fun _ S => .ok none S) (evP (evCon (.int 4))))) (evSeqS (evFor (.tp [(.nm 4), (.nm 5), (.nm 6), (.nm 7)]) (evSeq (evVar 2)) (evIfS (evNot (evCall cf__law_is_right [0, 1, 2, 3] 4 0 (evCons (evVar 4) (evCons (evVar 5) (evCons (evVar 6) (evCons (evVar 7) evNil)))) evNil)) (evRet (evCon (.bl false))) evSkip)) (evSeqS (evAsg (.nm 4) (evSub (evSub (evVar 2) (evCon (.int 0))) (evCon (.int 0)))) (evRet (ev2 cEq (evFrz (evComp (.nm 8) [8] (evSeq (evCall cf__law_odds [0] 1 0 (evCons (evSub (evVar 4) (evCon (.int 1))) evNil) evNil)) (evT (evNot (evCall cf__law_are_refused [0, 1] 2 0 (evCons (evVar 4) (evCons (evVar 8) evNil)) evNil))) (evVar 8))) (evLst evNil)))))))))
def cf_law : CallF := runB 9 b_law
theorem d_law {P : Program} {w : World} {g : G0} {mg : Str → Option Value} {base : Heap} (D__law_are_refused : Def P w g mg base 10 "_law_are_refused" s__law_are_refused ["_law_tome", "_law_odd"] cf__law_are_refused) (D__law_draw : Def P w g mg base 1 "_law_draw" s__law_draw ["_law_feed_here", "_law_top"] cf__law_draw) (D__law_feed : Def P w g mg base 1 "_law_feed" s__law_feed ["_law_script"] cf__law_feed) (D__law_is_right : Def P w g mg base 8 "_law_is_right" s__law_is_right ["_law_tome", "_law_bases", "_law_rings", "_law_rows"] cf__law_is_right) (D__law_odds : Def P w g mg base 1 "_law_odds" s__law_odds ["_law_width"] cf__law_odds) (D__law_tomes : Def P w g mg base 1 "_law_tomes" s__law_tomes [] cf__law_tomes) (b_len : mg "len" = none) {f : Addr} {fd : FuncData} (F : Fun g.K "law" "law" s_law f fd)  : FnG P w g.K mg base (L2.CX P w) 11 f fd ["_law_script"] (spF g 1 cf_law) :=
  fn_ev F (k := 10) sc_law fun G cdv A outer s H E hG hr hgd => by
    subst hG
    exact (ss_cons (s_set (i := 1) sc_law.nd rfl (by first | exact .inl rfl | exact .inr rfl) (c_pos (n := 1) (perm := [0]) D__law_feed rfl (fun _ _ _ _ _ _ => ⟨rfl, fun s us ws h1 h2 => match us, ws, h1, h2 with | [_], [], _, _ => .of_eq rfl⟩) (hr.mono (by decide)) hgd (takes_of rfl rfl rfl rfl) (a1 (e_var (i := 0) rfl (by first | exact .inl rfl | exact .inr (.inl rfl) | exact .inr (.inr rfl)) rfl rfl) a0)) rfl (by first | exact .inl rfl | exact .inr rfl)) (ss_cons (s_set (i := 2) sc_law.nd rfl (by first | exact .inl rfl | exact .inr rfl) (c_none (perm := []) D__law_tomes rfl (fun _ _ _ _ _ _ => ⟨rfl, fun s us ws h1 h2 => match us, ws, h1, h2 with | [], [], _, _ => .of_eq rfl⟩) (hr.mono (by decide)) hgd (takes_of rfl rfl rfl rfl)) rfl (by first | exact .inl rfl | exact .inr rfl)) (ss_cons (s_set (i := 3) sc_law.nd rfl (by first | exact .inl rfl | exact .inr rfl) (c_pos (n := 2) (perm := [0, 1]) D__law_draw rfl (fun _ _ _ _ _ _ => ⟨rfl, fun s us ws h1 h2 => match us, ws, h1, h2 with | [_, _], [], _, _ => .of_eq rfl⟩) (hr.mono (by decide)) hgd (takes_of rfl rfl rfl rfl) (a1 (e_var (i := 1) rfl (by first | exact .inl rfl | exact .inr (.inl rfl) | exact .inr (.inr rfl)) rfl rfl) (a1 (b_call (c_len rfl) rfl b_len PyProof.Rows.Boot.«len» (a1 (e_var (i := 2) rfl (by first | exact .inl rfl | exact .inr (.inl rfl) | exact .inr (.inr rfl)) rfl rfl) a0)) a0))) rfl (by first | exact .inl rfl | exact .inr rfl)) (ss_cons (s_set (i := 2) sc_law.nd rfl (by first | exact .inl rfl | exact .inr rfl) (e_slice rfl (e_op (o_add rfl) (e_slice rfl (e_var (i := 2) rfl (by first | exact .inl rfl | exact .inr (.inl rfl) | exact .inr (.inr rfl)) rfl rfl) (p_some (e_var (i := 3) rfl (by first | exact .inl rfl | exact .inr (.inl rfl) | exact .inr (.inr rfl)) rfl rfl)) p_none) (e_slice rfl (e_var (i := 2) rfl (by first | exact .inl rfl | exact .inr (.inl rfl) | exact .inr (.inr rfl)) rfl rfl) p_none (p_some (e_var (i := 3) rfl (by first | exact .inl rfl | exact .inr (.inl rfl) | exact .inr (.inr rfl)) rfl rfl)))) p_none (p_some (e_con pe_int fun _ => .int 4))) rfl (by first | exact .inl rfl | exact .inr rfl)) (ss_cons (s_for (passes_of rfl) rfl (i_seq rfl (e_var (i := 2) rfl (by first | exact .inl rfl | exact .inr (.inl rfl) | exact .inr (.inr rfl)) rfl rfl)) (g_tup rfl rfl (gs_cons (g_name (i := 4) sc_law.nd rfl (by first | exact .inl rfl | exact .inr rfl) (by first | exact .inl rfl | exact .inr rfl)) (gs_cons (g_name (i := 5) sc_law.nd rfl (by first | exact .inl rfl | exact .inr rfl) (by first | exact .inl rfl | exact .inr rfl)) (gs_cons (g_name (i := 6) sc_law.nd rfl (by first | exact .inl rfl | exact .inr rfl) (by first | exact .inl rfl | exact .inr rfl)) (gs_cons (g_name (i := 7) sc_law.nd rfl (by first | exact .inl rfl | exact .inr rfl) (by first | exact .inl rfl | exact .inr rfl)) gs_nil rfl) rfl) rfl) rfl) rfl rfl) (ss_one (s_if (t_not (t_plain rfl (c_pos (n := 4) (perm := [0, 1, 2, 3]) D__law_is_right rfl (fun _ _ _ _ _ _ => ⟨rfl, fun s us ws h1 h2 => match us, ws, h1, h2 with | [_, _, _, _], [], _, _ => .of_eq rfl⟩) (hr.mono (by decide)) hgd (takes_of rfl rfl rfl rfl) (a1 (e_var (i := 4) rfl (by first | exact .inl rfl | exact .inr (.inl rfl) | exact .inr (.inr rfl)) rfl rfl) (a1 (e_var (i := 5) rfl (by first | exact .inl rfl | exact .inr (.inl rfl) | exact .inr (.inr rfl)) rfl rfl) (a1 (e_var (i := 6) rfl (by first | exact .inl rfl | exact .inr (.inl rfl) | exact .inr (.inr rfl)) rfl rfl) (a1 (e_var (i := 7) rfl (by first | exact .inl rfl | exact .inr (.inl rfl) | exact .inr (.inr rfl)) rfl rfl) a0))))) (fun _ => rfl))) (ss_one (s_ret (e_con pe_bl fun _ => .bl false))) ss_nil)) (fun _ => rfl)) (ss_cons (s_set (i := 4) sc_law.nd rfl (by first | exact .inl rfl | exact .inr rfl) (e_sub rfl (rU2 hr) (e_sub rfl (rU2 hr) (e_var (i := 2) rfl (by first | exact .inl rfl | exact .inr (.inl rfl) | exact .inr (.inr rfl)) rfl rfl) (e_con pe_int fun _ => .int 0) (fun _ _ => rfl) (fun _ _ => rfl)) (e_con pe_int fun _ => .int 0) (fun _ _ => rfl) (fun _ _ => rfl)) rfl (by first | exact .inl rfl | exact .inr rfl)) (ss_one (s_ret (e_cmp (o_eq rfl (rU hr)) (e_frz (f_lc (own := [("_law_odd", 8)]) (t := (.nm 8)) rfl sc_law.nd (i_seq rfl (c_pos (n := 1) (perm := [0]) D__law_odds rfl (fun _ _ _ _ _ _ => ⟨rfl, fun s us ws h1 h2 => match us, ws, h1, h2 with | [_], [], _, _ => .of_eq rfl⟩) (hr.mono (by decide)) hgd (takes_of rfl rfl rfl rfl) (a1 (e_sub rfl (rU2 hr) (e_var (i := 4) rfl (by first | exact .inl rfl | exact .inr (.inl rfl) | exact .inr (.inr rfl)) rfl rfl) (e_con pe_int fun _ => .int 1) (fun _ _ => rfl) (fun _ _ => rfl)) a0))) (blkOk_by (N := ["_law_script", "_law_feed_here", "_law_some", "_law_start", "_law_tome", "_law_bases", "_law_rings", "_law_rows", "_law_odd"]) (sc := (defScope s_law)) (own := [("_law_odd", 8)]) (by decide +kernel)) (by decide) (fun _ _ _ _ _ => (g_name (i := 8) sc_law.nd rfl (by first | exact .inl rfl | exact .inr rfl) (by first | exact .inl rfl | exact .inr rfl))) (fun _ _ _ _ _ => (pts_one1 (t_not (t_plain rfl (c_pos (n := 2) (perm := [0, 1]) D__law_are_refused rfl (fun _ _ _ _ _ _ => ⟨rfl, fun s us ws h1 h2 => match us, ws, h1, h2 with | [_, _], [], _, _ => .of_eq rfl⟩) (hr.mono (by decide)) hgd L2.takes0 (a1 (e_var (i := 4) rfl (by first | exact .inl rfl | exact .inr (.inl rfl) | exact .inr (.inr rfl)) rfl rfl) (a1 (e_var (i := 8) rfl (by first | exact .inl rfl | exact .inr (.inl rfl) | exact .inr (.inr rfl)) rfl rfl) a0))) (fun _ => rfl))))) (fun _ _ _ _ _ => (e_var (i := 8) rfl (by first | exact .inl rfl | exact .inr (.inl rfl) | exact .inr (.inr rfl)) rfl rfl)) (fun _ => rfl))) (e_lst a0) rfl)))))))))
end Lw

set_option Elab.async false
set_option linter.all false
set_option maxRecDepth 100000
set_option maxHeartbeats 4000000
namespace Lw
open PyProof.Rows (envOfC)
open PySem PySem.Spec L2 LamX Pev
def tfa (l : List Addr) : Nat → Option Addr := fun j => l[j]?
theorem all_mk {l : PySem.W.OpenLaw} {w : World} {K : PySem.W.Frag} {h : Heap} {mg : Str → Option Value} {fa : Addr} {A__law_feed : Addr} {od__law_feed an__law_feed : Option Addr} {sl__law_feed : Array (Option Value)} {oc__law_feed kV__law_feed dc__law_feed pm__law_feed ct__law_feed : Value} {cd__law_feed : Value} {A__law_tomes : Addr} {od__law_tomes an__law_tomes : Option Addr} {sl__law_tomes : Array (Option Value)} {oc__law_tomes kV__law_tomes dc__law_tomes pm__law_tomes ct__law_tomes : Value} {cd__law_tomes : Value} {A__law_draw : Addr} {od__law_draw an__law_draw : Option Addr} {sl__law_draw : Array (Option Value)} {oc__law_draw kV__law_draw dc__law_draw pm__law_draw ct__law_draw : Value} {cd__law_draw : Value} {A__law_same : Addr} {od__law_same an__law_same : Option Addr} {sl__law_same : Array (Option Value)} {oc__law_same kV__law_same dc__law_same pm__law_same ct__law_same : Value} {cd__law_same : Value} {A_all_lots : Addr} {od_all_lots an_all_lots : Option Addr} {sl_all_lots : Array (Option Value)} {oc_all_lots kV_all_lots dc_all_lots pm_all_lots ct_all_lots : Value} {cd_all_lots : Value} {A_less_times : Addr} {od_less_times an_less_times : Option Addr} {sl_less_times : Array (Option Value)} {oc_less_times kV_less_times dc_less_times pm_less_times ct_less_times : Value} {cd_less_times : Value} {A_reduced : Addr} {od_reduced an_reduced : Option Addr} {sl_reduced : Array (Option Value)} {oc_reduced kV_reduced dc_reduced pm_reduced ct_reduced : Value} {cd_reduced : Value} {A_lead_of : Addr} {od_lead_of an_lead_of : Option Addr} {sl_lead_of : Array (Option Value)} {oc_lead_of kV_lead_of dc_lead_of pm_lead_of ct_lead_of : Value} {cd_lead_of : Value} {A_inverse_of : Addr} {od_inverse_of an_inverse_of : Option Addr} {sl_inverse_of : Array (Option Value)} {oc_inverse_of kV_inverse_of dc_inverse_of pm_inverse_of ct_inverse_of : Value} {cd_inverse_of : Value} {A_grown : Addr} {od_grown an_grown : Option Addr} {sl_grown : Array (Option Value)} {oc_grown kV_grown dc_grown pm_grown ct_grown : Value} {cd_grown : Value} {A_ranks_of : Addr} {od_ranks_of an_ranks_of : Option Addr} {sl_ranks_of : Array (Option Value)} {oc_ranks_of kV_ranks_of dc_ranks_of pm_ranks_of ct_ranks_of : Value} {cd_ranks_of : Value} {A_free_lots : Addr} {od_free_lots an_free_lots : Option Addr} {sl_free_lots : Array (Option Value)} {oc_free_lots kV_free_lots dc_free_lots pm_free_lots ct_free_lots : Value} {cd_free_lots : Value} {A_bases_in : Addr} {od_bases_in an_bases_in : Option Addr} {sl_bases_in : Array (Option Value)} {oc_bases_in kV_bases_in dc_bases_in pm_bases_in ct_bases_in : Value} {cd_bases_in : Value} {A_bases_of : Addr} {od_bases_of an_bases_of : Option Addr} {sl_bases_of : Array (Option Value)} {oc_bases_of kV_bases_of dc_bases_of pm_bases_of ct_bases_of : Value} {cd_bases_of : Value} {A_rest_in : Addr} {od_rest_in an_rest_in : Option Addr} {sl_rest_in : Array (Option Value)} {oc_rest_in kV_rest_in dc_rest_in pm_rest_in ct_rest_in : Value} {cd_rest_in : Value} {A_lacking_one : Addr} {od_lacking_one an_lacking_one : Option Addr} {sl_lacking_one : Array (Option Value)} {oc_lacking_one kV_lacking_one dc_lacking_one pm_lacking_one ct_lacking_one : Value} {cd_lacking_one : Value} {A_rings_in : Addr} {od_rings_in an_rings_in : Option Addr} {sl_rings_in : Array (Option Value)} {oc_rings_in kV_rings_in dc_rings_in pm_rings_in ct_rings_in : Value} {cd_rings_in : Value} {A_rings_of : Addr} {od_rings_of an_rings_of : Option Addr} {sl_rings_of : Array (Option Value)} {oc_rings_of kV_rings_of dc_rings_of pm_rings_of ct_rings_of : Value} {cd_rings_of : Value} {A_demand : Addr} {od_demand an_demand : Option Addr} {sl_demand : Array (Option Value)} {oc_demand kV_demand dc_demand pm_demand ct_demand : Value} {cd_demand : Value} {A_settled : Addr} {od_settled an_settled : Option Addr} {sl_settled : Array (Option Value)} {oc_settled kV_settled dc_settled pm_settled ct_settled : Value} {cd_settled : Value} {A_picked : Addr} {od_picked an_picked : Option Addr} {sl_picked : Array (Option Value)} {oc_picked kV_picked dc_picked pm_picked ct_picked : Value} {cd_picked : Value} {A_rank_at : Addr} {od_rank_at an_rank_at : Option Addr} {sl_rank_at : Array (Option Value)} {oc_rank_at kV_rank_at dc_rank_at pm_rank_at ct_rank_at : Value} {cd_rank_at : Value} {A_is_integer : Addr} {od_is_integer an_is_integer : Option Addr} {sl_is_integer : Array (Option Value)} {oc_is_integer kV_is_integer dc_is_integer pm_is_integer ct_is_integer : Value} {cd_is_integer : Value} {A_is_number : Addr} {od_is_number an_is_number : Option Addr} {sl_is_number : Array (Option Value)} {oc_is_number kV_is_number dc_is_number pm_is_number ct_is_number : Value} {cd_is_number : Value} {A_is_set_of_numbers : Addr} {od_is_set_of_numbers an_is_set_of_numbers : Option Addr} {sl_is_set_of_numbers : Array (Option Value)} {oc_is_set_of_numbers kV_is_set_of_numbers dc_is_set_of_numbers pm_is_set_of_numbers ct_is_set_of_numbers : Value} {cd_is_set_of_numbers : Value} {A_is_lot : Addr} {od_is_lot an_is_lot : Option Addr} {sl_is_lot : Array (Option Value)} {oc_is_lot kV_is_lot dc_is_lot pm_is_lot ct_is_lot : Value} {cd_is_lot : Value} {A_rank_on : Addr} {od_rank_on an_rank_on : Option Addr} {sl_rank_on : Array (Option Value)} {oc_rank_on kV_rank_on dc_rank_on pm_rank_on ct_rank_on : Value} {cd_rank_on : Value} {A_is_free : Addr} {od_is_free an_is_free : Option Addr} {sl_is_free : Array (Option Value)} {oc_is_free kV_is_free dc_is_free pm_is_free ct_is_free : Value} {cd_is_free : Value} {A_closure_of : Addr} {od_closure_of an_closure_of : Option Addr} {sl_closure_of : Array (Option Value)} {oc_closure_of kV_closure_of dc_closure_of pm_closure_of ct_closure_of : Value} {cd_closure_of : Value} {A_ring_in : Addr} {od_ring_in an_ring_in : Option Addr} {sl_ring_in : Array (Option Value)} {oc_ring_in kV_ring_in dc_ring_in pm_ring_in ct_ring_in : Value} {cd_ring_in : Value} {A__law_is_right : Addr} {od__law_is_right an__law_is_right : Option Addr} {sl__law_is_right : Array (Option Value)} {oc__law_is_right kV__law_is_right dc__law_is_right pm__law_is_right ct__law_is_right : Value} {cd__law_is_right : Value} {A__law_odds : Addr} {od__law_odds an__law_odds : Option Addr} {sl__law_odds : Array (Option Value)} {oc__law_odds kV__law_odds dc__law_odds pm__law_odds ct__law_odds : Value} {cd__law_odds : Value} {A__law_heard : Addr} {od__law_heard an__law_heard : Option Addr} {sl__law_heard : Array (Option Value)} {oc__law_heard kV__law_heard dc__law_heard pm__law_heard ct__law_heard : Value} {cd__law_heard : Value} {A__law_are_refused : Addr} {od__law_are_refused an__law_are_refused : Option Addr} {sl__law_are_refused : Array (Option Value)} {oc__law_are_refused kV__law_are_refused dc__law_are_refused pm__law_are_refused ct__law_are_refused : Value} {cc__law_are_refused PP__law_are_refused : Addr} {xc__law_are_refused : Value} {xd__law_are_refused : Option Addr} {xv__law_are_refused : Array Value} {xs__law_are_refused : Array (Option Value)} {A_law : Addr} {od_law an_law : Option Addr} {sl_law : Array (Option Value)} {oc_law kV_law dc_law pm_law ct_law : Value} {cd_law : Value} {A_NotUsable : Addr} {A_ShelfError : Addr} {A_PaperError : Addr} {A_HallError : Addr} {A_LiveError : Addr} {A_TextError : Addr} {A_InvalidPaper : Addr} {nm_NotUsable qn_NotUsable : Str} {N_NotUsable fI_NotUsable : Addr} {bs_NotUsable bm_NotUsable : List Value} {sn_NotUsable : List Str} {sub_NotUsable : List Value} {ab_NotUsable : Bool} {col_NotUsable : Option Bool} {dd_NotUsable : Option Addr} {m0_NotUsable m1_NotUsable m2_NotUsable m3_NotUsable m5_NotUsable : Option Value} {oi_NotUsable kI_NotUsable di_NotUsable pi_NotUsable ci_NotUsable ti_NotUsable : Value} {odi_NotUsable ani_NotUsable : Option Addr} {sli_NotUsable : Array (Option Value)}
    (X : K.In h) (G : h.Ns mainGlobals mg) (hfa : mg "law" = some (.ref fa)) (hcf : ∀ ns : List Int, ns.length ≤ 63 → (∀ z ∈ ns, Builtin.Int.intBits z ≤ 1048576) → ∃ S', cf_law [.scr (ns.map Pv.int)] [] = .ok (.bl true) S')
    (a__law_feed : PySem.W.nsIn K mainGlobals "_law_feed" = some (some (.ref A__law_feed))) (l__law_feed : K.lookup A__law_feed = some ⟨oc__law_feed, od__law_feed, .func (PySem.W.fnOf "_law_feed" "_law_feed" (defArgs s__law_feed) (defBody s__law_feed) (defScope s__law_feed) .none kV__law_feed dc__law_feed pm__law_feed an__law_feed cd__law_feed ct__law_feed), sl__law_feed⟩) (c__law_feed : PySem.W.codeIn K cd__law_feed "_law_feed" = true) (k__law_feed : PySem.W.keepIn K (.ref A__law_feed) = true) (a__law_tomes : PySem.W.nsIn K mainGlobals "_law_tomes" = some (some (.ref A__law_tomes))) (l__law_tomes : K.lookup A__law_tomes = some ⟨oc__law_tomes, od__law_tomes, .func (PySem.W.fnOf "_law_tomes" "_law_tomes" (defArgs s__law_tomes) (defBody s__law_tomes) (defScope s__law_tomes) .none kV__law_tomes dc__law_tomes pm__law_tomes an__law_tomes cd__law_tomes ct__law_tomes), sl__law_tomes⟩) (c__law_tomes : PySem.W.codeIn K cd__law_tomes "_law_tomes" = true) (k__law_tomes : PySem.W.keepIn K (.ref A__law_tomes) = true) (a__law_draw : PySem.W.nsIn K mainGlobals "_law_draw" = some (some (.ref A__law_draw))) (l__law_draw : K.lookup A__law_draw = some ⟨oc__law_draw, od__law_draw, .func (PySem.W.fnOf "_law_draw" "_law_draw" (defArgs s__law_draw) (defBody s__law_draw) (defScope s__law_draw) .none kV__law_draw dc__law_draw pm__law_draw an__law_draw cd__law_draw ct__law_draw), sl__law_draw⟩) (c__law_draw : PySem.W.codeIn K cd__law_draw "_law_draw" = true) (k__law_draw : PySem.W.keepIn K (.ref A__law_draw) = true) (a__law_same : PySem.W.nsIn K mainGlobals "_law_same" = some (some (.ref A__law_same))) (l__law_same : K.lookup A__law_same = some ⟨oc__law_same, od__law_same, .func (PySem.W.fnOf "_law_same" "_law_same" (defArgs s__law_same) (defBody s__law_same) (defScope s__law_same) .none kV__law_same dc__law_same pm__law_same an__law_same cd__law_same ct__law_same), sl__law_same⟩) (c__law_same : PySem.W.codeIn K cd__law_same "_law_same" = true) (k__law_same : PySem.W.keepIn K (.ref A__law_same) = true) (a_all_lots : PySem.W.nsIn K mainGlobals "all_lots" = some (some (.ref A_all_lots))) (l_all_lots : K.lookup A_all_lots = some ⟨oc_all_lots, od_all_lots, .func (PySem.W.fnOf "all_lots" "all_lots" (defArgs s_all_lots) (defBody s_all_lots) (defScope s_all_lots) .none kV_all_lots dc_all_lots pm_all_lots an_all_lots cd_all_lots ct_all_lots), sl_all_lots⟩) (c_all_lots : PySem.W.codeIn K cd_all_lots "all_lots" = true) (k_all_lots : PySem.W.keepIn K (.ref A_all_lots) = true) (a_less_times : PySem.W.nsIn K mainGlobals "less_times" = some (some (.ref A_less_times))) (l_less_times : K.lookup A_less_times = some ⟨oc_less_times, od_less_times, .func (PySem.W.fnOf "less_times" "less_times" (defArgs s_less_times) (defBody s_less_times) (defScope s_less_times) .none kV_less_times dc_less_times pm_less_times an_less_times cd_less_times ct_less_times), sl_less_times⟩) (c_less_times : PySem.W.codeIn K cd_less_times "less_times" = true) (k_less_times : PySem.W.keepIn K (.ref A_less_times) = true) (a_reduced : PySem.W.nsIn K mainGlobals "reduced" = some (some (.ref A_reduced))) (l_reduced : K.lookup A_reduced = some ⟨oc_reduced, od_reduced, .func (PySem.W.fnOf "reduced" "reduced" (defArgs s_reduced) (defBody s_reduced) (defScope s_reduced) .none kV_reduced dc_reduced pm_reduced an_reduced cd_reduced ct_reduced), sl_reduced⟩) (c_reduced : PySem.W.codeIn K cd_reduced "reduced" = true) (k_reduced : PySem.W.keepIn K (.ref A_reduced) = true) (a_lead_of : PySem.W.nsIn K mainGlobals "lead_of" = some (some (.ref A_lead_of))) (l_lead_of : K.lookup A_lead_of = some ⟨oc_lead_of, od_lead_of, .func (PySem.W.fnOf "lead_of" "lead_of" (defArgs s_lead_of) (defBody s_lead_of) (defScope s_lead_of) .none kV_lead_of dc_lead_of pm_lead_of an_lead_of cd_lead_of ct_lead_of), sl_lead_of⟩) (c_lead_of : PySem.W.codeIn K cd_lead_of "lead_of" = true) (k_lead_of : PySem.W.keepIn K (.ref A_lead_of) = true) (a_inverse_of : PySem.W.nsIn K mainGlobals "inverse_of" = some (some (.ref A_inverse_of))) (l_inverse_of : K.lookup A_inverse_of = some ⟨oc_inverse_of, od_inverse_of, .func (PySem.W.fnOf "inverse_of" "inverse_of" (defArgs s_inverse_of) (defBody s_inverse_of) (defScope s_inverse_of) .none kV_inverse_of dc_inverse_of pm_inverse_of an_inverse_of cd_inverse_of ct_inverse_of), sl_inverse_of⟩) (c_inverse_of : PySem.W.codeIn K cd_inverse_of "inverse_of" = true) (k_inverse_of : PySem.W.keepIn K (.ref A_inverse_of) = true) (a_grown : PySem.W.nsIn K mainGlobals "grown" = some (some (.ref A_grown))) (l_grown : K.lookup A_grown = some ⟨oc_grown, od_grown, .func (PySem.W.fnOf "grown" "grown" (defArgs s_grown) (defBody s_grown) (defScope s_grown) .none kV_grown dc_grown pm_grown an_grown cd_grown ct_grown), sl_grown⟩) (c_grown : PySem.W.codeIn K cd_grown "grown" = true) (k_grown : PySem.W.keepIn K (.ref A_grown) = true) (a_ranks_of : PySem.W.nsIn K mainGlobals "ranks_of" = some (some (.ref A_ranks_of))) (l_ranks_of : K.lookup A_ranks_of = some ⟨oc_ranks_of, od_ranks_of, .func (PySem.W.fnOf "ranks_of" "ranks_of" (defArgs s_ranks_of) (defBody s_ranks_of) (defScope s_ranks_of) .none kV_ranks_of dc_ranks_of pm_ranks_of an_ranks_of cd_ranks_of ct_ranks_of), sl_ranks_of⟩) (c_ranks_of : PySem.W.codeIn K cd_ranks_of "ranks_of" = true) (k_ranks_of : PySem.W.keepIn K (.ref A_ranks_of) = true) (a_free_lots : PySem.W.nsIn K mainGlobals "free_lots" = some (some (.ref A_free_lots))) (l_free_lots : K.lookup A_free_lots = some ⟨oc_free_lots, od_free_lots, .func (PySem.W.fnOf "free_lots" "free_lots" (defArgs s_free_lots) (defBody s_free_lots) (defScope s_free_lots) .none kV_free_lots dc_free_lots pm_free_lots an_free_lots cd_free_lots ct_free_lots), sl_free_lots⟩) (c_free_lots : PySem.W.codeIn K cd_free_lots "free_lots" = true) (k_free_lots : PySem.W.keepIn K (.ref A_free_lots) = true) (a_bases_in : PySem.W.nsIn K mainGlobals "bases_in" = some (some (.ref A_bases_in))) (l_bases_in : K.lookup A_bases_in = some ⟨oc_bases_in, od_bases_in, .func (PySem.W.fnOf "bases_in" "bases_in" (defArgs s_bases_in) (defBody s_bases_in) (defScope s_bases_in) .none kV_bases_in dc_bases_in pm_bases_in an_bases_in cd_bases_in ct_bases_in), sl_bases_in⟩) (c_bases_in : PySem.W.codeIn K cd_bases_in "bases_in" = true) (k_bases_in : PySem.W.keepIn K (.ref A_bases_in) = true) (a_bases_of : PySem.W.nsIn K mainGlobals "bases_of" = some (some (.ref A_bases_of))) (l_bases_of : K.lookup A_bases_of = some ⟨oc_bases_of, od_bases_of, .func (PySem.W.fnOf "bases_of" "bases_of" (defArgs s_bases_of) (defBody s_bases_of) (defScope s_bases_of) .none kV_bases_of dc_bases_of pm_bases_of an_bases_of cd_bases_of ct_bases_of), sl_bases_of⟩) (c_bases_of : PySem.W.codeIn K cd_bases_of "bases_of" = true) (k_bases_of : PySem.W.keepIn K (.ref A_bases_of) = true) (a_rest_in : PySem.W.nsIn K mainGlobals "rest_in" = some (some (.ref A_rest_in))) (l_rest_in : K.lookup A_rest_in = some ⟨oc_rest_in, od_rest_in, .func (PySem.W.fnOf "rest_in" "rest_in" (defArgs s_rest_in) (defBody s_rest_in) (defScope s_rest_in) .none kV_rest_in dc_rest_in pm_rest_in an_rest_in cd_rest_in ct_rest_in), sl_rest_in⟩) (c_rest_in : PySem.W.codeIn K cd_rest_in "rest_in" = true) (k_rest_in : PySem.W.keepIn K (.ref A_rest_in) = true) (a_lacking_one : PySem.W.nsIn K mainGlobals "lacking_one" = some (some (.ref A_lacking_one))) (l_lacking_one : K.lookup A_lacking_one = some ⟨oc_lacking_one, od_lacking_one, .func (PySem.W.fnOf "lacking_one" "lacking_one" (defArgs s_lacking_one) (defBody s_lacking_one) (defScope s_lacking_one) .none kV_lacking_one dc_lacking_one pm_lacking_one an_lacking_one cd_lacking_one ct_lacking_one), sl_lacking_one⟩) (c_lacking_one : PySem.W.codeIn K cd_lacking_one "lacking_one" = true) (k_lacking_one : PySem.W.keepIn K (.ref A_lacking_one) = true) (a_rings_in : PySem.W.nsIn K mainGlobals "rings_in" = some (some (.ref A_rings_in))) (l_rings_in : K.lookup A_rings_in = some ⟨oc_rings_in, od_rings_in, .func (PySem.W.fnOf "rings_in" "rings_in" (defArgs s_rings_in) (defBody s_rings_in) (defScope s_rings_in) .none kV_rings_in dc_rings_in pm_rings_in an_rings_in cd_rings_in ct_rings_in), sl_rings_in⟩) (c_rings_in : PySem.W.codeIn K cd_rings_in "rings_in" = true) (k_rings_in : PySem.W.keepIn K (.ref A_rings_in) = true) (a_rings_of : PySem.W.nsIn K mainGlobals "rings_of" = some (some (.ref A_rings_of))) (l_rings_of : K.lookup A_rings_of = some ⟨oc_rings_of, od_rings_of, .func (PySem.W.fnOf "rings_of" "rings_of" (defArgs s_rings_of) (defBody s_rings_of) (defScope s_rings_of) .none kV_rings_of dc_rings_of pm_rings_of an_rings_of cd_rings_of ct_rings_of), sl_rings_of⟩) (c_rings_of : PySem.W.codeIn K cd_rings_of "rings_of" = true) (k_rings_of : PySem.W.keepIn K (.ref A_rings_of) = true) (a_demand : PySem.W.nsIn K mainGlobals "demand" = some (some (.ref A_demand))) (l_demand : K.lookup A_demand = some ⟨oc_demand, od_demand, .func (PySem.W.fnOf "demand" "demand" (defArgs s_demand) (defBody s_demand) (defScope s_demand) .none kV_demand dc_demand pm_demand an_demand cd_demand ct_demand), sl_demand⟩) (c_demand : PySem.W.codeIn K cd_demand "demand" = true) (k_demand : PySem.W.keepIn K (.ref A_demand) = true) (a_settled : PySem.W.nsIn K mainGlobals "settled" = some (some (.ref A_settled))) (l_settled : K.lookup A_settled = some ⟨oc_settled, od_settled, .func (PySem.W.fnOf "settled" "settled" (defArgs s_settled) (defBody s_settled) (defScope s_settled) .none kV_settled dc_settled pm_settled an_settled cd_settled ct_settled), sl_settled⟩) (c_settled : PySem.W.codeIn K cd_settled "settled" = true) (k_settled : PySem.W.keepIn K (.ref A_settled) = true) (a_picked : PySem.W.nsIn K mainGlobals "picked" = some (some (.ref A_picked))) (l_picked : K.lookup A_picked = some ⟨oc_picked, od_picked, .func (PySem.W.fnOf "picked" "picked" (defArgs s_picked) (defBody s_picked) (defScope s_picked) .none kV_picked dc_picked pm_picked an_picked cd_picked ct_picked), sl_picked⟩) (c_picked : PySem.W.codeIn K cd_picked "picked" = true) (k_picked : PySem.W.keepIn K (.ref A_picked) = true) (a_rank_at : PySem.W.nsIn K mainGlobals "rank_at" = some (some (.ref A_rank_at))) (l_rank_at : K.lookup A_rank_at = some ⟨oc_rank_at, od_rank_at, .func (PySem.W.fnOf "rank_at" "rank_at" (defArgs s_rank_at) (defBody s_rank_at) (defScope s_rank_at) .none kV_rank_at dc_rank_at pm_rank_at an_rank_at cd_rank_at ct_rank_at), sl_rank_at⟩) (c_rank_at : PySem.W.codeIn K cd_rank_at "rank_at" = true) (k_rank_at : PySem.W.keepIn K (.ref A_rank_at) = true) (a_is_integer : PySem.W.nsIn K mainGlobals "is_integer" = some (some (.ref A_is_integer))) (l_is_integer : K.lookup A_is_integer = some ⟨oc_is_integer, od_is_integer, .func (PySem.W.fnOf "is_integer" "is_integer" (defArgs s_is_integer) (defBody s_is_integer) (defScope s_is_integer) .none kV_is_integer dc_is_integer pm_is_integer an_is_integer cd_is_integer ct_is_integer), sl_is_integer⟩) (c_is_integer : PySem.W.codeIn K cd_is_integer "is_integer" = true) (k_is_integer : PySem.W.keepIn K (.ref A_is_integer) = true) (a_is_number : PySem.W.nsIn K mainGlobals "is_number" = some (some (.ref A_is_number))) (l_is_number : K.lookup A_is_number = some ⟨oc_is_number, od_is_number, .func (PySem.W.fnOf "is_number" "is_number" (defArgs s_is_number) (defBody s_is_number) (defScope s_is_number) .none kV_is_number dc_is_number pm_is_number an_is_number cd_is_number ct_is_number), sl_is_number⟩) (c_is_number : PySem.W.codeIn K cd_is_number "is_number" = true) (k_is_number : PySem.W.keepIn K (.ref A_is_number) = true) (a_is_set_of_numbers : PySem.W.nsIn K mainGlobals "is_set_of_numbers" = some (some (.ref A_is_set_of_numbers))) (l_is_set_of_numbers : K.lookup A_is_set_of_numbers = some ⟨oc_is_set_of_numbers, od_is_set_of_numbers, .func (PySem.W.fnOf "is_set_of_numbers" "is_set_of_numbers" (defArgs s_is_set_of_numbers) (defBody s_is_set_of_numbers) (defScope s_is_set_of_numbers) .none kV_is_set_of_numbers dc_is_set_of_numbers pm_is_set_of_numbers an_is_set_of_numbers cd_is_set_of_numbers ct_is_set_of_numbers), sl_is_set_of_numbers⟩) (c_is_set_of_numbers : PySem.W.codeIn K cd_is_set_of_numbers "is_set_of_numbers" = true) (k_is_set_of_numbers : PySem.W.keepIn K (.ref A_is_set_of_numbers) = true) (a_is_lot : PySem.W.nsIn K mainGlobals "is_lot" = some (some (.ref A_is_lot))) (l_is_lot : K.lookup A_is_lot = some ⟨oc_is_lot, od_is_lot, .func (PySem.W.fnOf "is_lot" "is_lot" (defArgs s_is_lot) (defBody s_is_lot) (defScope s_is_lot) .none kV_is_lot dc_is_lot pm_is_lot an_is_lot cd_is_lot ct_is_lot), sl_is_lot⟩) (c_is_lot : PySem.W.codeIn K cd_is_lot "is_lot" = true) (k_is_lot : PySem.W.keepIn K (.ref A_is_lot) = true) (a_rank_on : PySem.W.nsIn K mainGlobals "rank_on" = some (some (.ref A_rank_on))) (l_rank_on : K.lookup A_rank_on = some ⟨oc_rank_on, od_rank_on, .func (PySem.W.fnOf "rank_on" "rank_on" (defArgs s_rank_on) (defBody s_rank_on) (defScope s_rank_on) .none kV_rank_on dc_rank_on pm_rank_on an_rank_on cd_rank_on ct_rank_on), sl_rank_on⟩) (c_rank_on : PySem.W.codeIn K cd_rank_on "rank_on" = true) (k_rank_on : PySem.W.keepIn K (.ref A_rank_on) = true) (a_is_free : PySem.W.nsIn K mainGlobals "is_free" = some (some (.ref A_is_free))) (l_is_free : K.lookup A_is_free = some ⟨oc_is_free, od_is_free, .func (PySem.W.fnOf "is_free" "is_free" (defArgs s_is_free) (defBody s_is_free) (defScope s_is_free) .none kV_is_free dc_is_free pm_is_free an_is_free cd_is_free ct_is_free), sl_is_free⟩) (c_is_free : PySem.W.codeIn K cd_is_free "is_free" = true) (k_is_free : PySem.W.keepIn K (.ref A_is_free) = true) (a_closure_of : PySem.W.nsIn K mainGlobals "closure_of" = some (some (.ref A_closure_of))) (l_closure_of : K.lookup A_closure_of = some ⟨oc_closure_of, od_closure_of, .func (PySem.W.fnOf "closure_of" "closure_of" (defArgs s_closure_of) (defBody s_closure_of) (defScope s_closure_of) .none kV_closure_of dc_closure_of pm_closure_of an_closure_of cd_closure_of ct_closure_of), sl_closure_of⟩) (c_closure_of : PySem.W.codeIn K cd_closure_of "closure_of" = true) (k_closure_of : PySem.W.keepIn K (.ref A_closure_of) = true) (a_ring_in : PySem.W.nsIn K mainGlobals "ring_in" = some (some (.ref A_ring_in))) (l_ring_in : K.lookup A_ring_in = some ⟨oc_ring_in, od_ring_in, .func (PySem.W.fnOf "ring_in" "ring_in" (defArgs s_ring_in) (defBody s_ring_in) (defScope s_ring_in) .none kV_ring_in dc_ring_in pm_ring_in an_ring_in cd_ring_in ct_ring_in), sl_ring_in⟩) (c_ring_in : PySem.W.codeIn K cd_ring_in "ring_in" = true) (k_ring_in : PySem.W.keepIn K (.ref A_ring_in) = true) (a__law_is_right : PySem.W.nsIn K mainGlobals "_law_is_right" = some (some (.ref A__law_is_right))) (l__law_is_right : K.lookup A__law_is_right = some ⟨oc__law_is_right, od__law_is_right, .func (PySem.W.fnOf "_law_is_right" "_law_is_right" (defArgs s__law_is_right) (defBody s__law_is_right) (defScope s__law_is_right) .none kV__law_is_right dc__law_is_right pm__law_is_right an__law_is_right cd__law_is_right ct__law_is_right), sl__law_is_right⟩) (c__law_is_right : PySem.W.codeIn K cd__law_is_right "_law_is_right" = true) (k__law_is_right : PySem.W.keepIn K (.ref A__law_is_right) = true) (a__law_odds : PySem.W.nsIn K mainGlobals "_law_odds" = some (some (.ref A__law_odds))) (l__law_odds : K.lookup A__law_odds = some ⟨oc__law_odds, od__law_odds, .func (PySem.W.fnOf "_law_odds" "_law_odds" (defArgs s__law_odds) (defBody s__law_odds) (defScope s__law_odds) .none kV__law_odds dc__law_odds pm__law_odds an__law_odds cd__law_odds ct__law_odds), sl__law_odds⟩) (c__law_odds : PySem.W.codeIn K cd__law_odds "_law_odds" = true) (k__law_odds : PySem.W.keepIn K (.ref A__law_odds) = true) (a__law_heard : PySem.W.nsIn K mainGlobals "_law_heard" = some (some (.ref A__law_heard))) (l__law_heard : K.lookup A__law_heard = some ⟨oc__law_heard, od__law_heard, .func (PySem.W.fnOf "_law_heard" "_law_heard" (defArgs s__law_heard) (defBody s__law_heard) (defScope s__law_heard) .none kV__law_heard dc__law_heard pm__law_heard an__law_heard cd__law_heard ct__law_heard), sl__law_heard⟩) (c__law_heard : PySem.W.codeIn K cd__law_heard "_law_heard" = true) (k__law_heard : PySem.W.keepIn K (.ref A__law_heard) = true) (a__law_are_refused : PySem.W.nsIn K mainGlobals "_law_are_refused" = some (some (.ref A__law_are_refused))) (l__law_are_refused : K.lookup A__law_are_refused = some ⟨oc__law_are_refused, od__law_are_refused, .func (PySem.W.fnOf "_law_are_refused" "_law_are_refused" (defArgs s__law_are_refused) (defBody s__law_are_refused) (defScope s__law_are_refused) .none kV__law_are_refused dc__law_are_refused pm__law_are_refused an__law_are_refused (.ref cc__law_are_refused) ct__law_are_refused), sl__law_are_refused⟩) (c__law_are_refused : PySem.W.codeIn K (.ref cc__law_are_refused) "_law_are_refused" = true) (k__law_are_refused : PySem.W.keepIn K (.ref A__law_are_refused) = true) (x__law_are_refused : K.lookup cc__law_are_refused = some ⟨xc__law_are_refused, xd__law_are_refused, .fields xv__law_are_refused, xs__law_are_refused⟩) (y__law_are_refused : xv__law_are_refused[11]? = some (.ref PP__law_are_refused)) (h__law_are_refused : PySem.W.codeHdIn K cc__law_are_refused PP__law_are_refused = true) (z__law_are_refused : K.lookup PP__law_are_refused = none) (m__law_are_refused : h.get? PP__law_are_refused = some (PySem.W.tabObj #[])) (a_law : PySem.W.nsIn K mainGlobals "law" = some (some (.ref A_law))) (l_law : K.lookup A_law = some ⟨oc_law, od_law, .func (PySem.W.fnOf "law" "law" (defArgs s_law) (defBody s_law) (defScope s_law) .none kV_law dc_law pm_law an_law cd_law ct_law), sl_law⟩) (c_law : PySem.W.codeIn K cd_law "law" = true) (k_law : PySem.W.keepIn K (.ref A_law) = true) (n_ValueError : PySem.W.nsIn K mainGlobals "ValueError" = some none) (n_all : PySem.W.nsIn K mainGlobals "all" = some none) (n_bool : PySem.W.nsIn K mainGlobals "bool" = some none) (n_enumerate : PySem.W.nsIn K mainGlobals "enumerate" = some none) (n_int : PySem.W.nsIn K mainGlobals "int" = some none) (n_isinstance : PySem.W.nsIn K mainGlobals "isinstance" = some none) (n_len : PySem.W.nsIn K mainGlobals "len" = some none) (n_list : PySem.W.nsIn K mainGlobals "list" = some none) (n_range : PySem.W.nsIn K mainGlobals "range" = some none) (n_repr : PySem.W.nsIn K mainGlobals "repr" = some none) (n_sorted : PySem.W.nsIn K mainGlobals "sorted" = some none) (n_tuple : PySem.W.nsIn K mainGlobals "tuple" = some none) (n_zip : PySem.W.nsIn K mainGlobals "zip" = some none) (a_NotUsable : PySem.W.nsIn K mainGlobals "NotUsable" = some (some (.ref A_NotUsable))) (a_ShelfError : PySem.W.nsIn K mainGlobals "ShelfError" = some (some (.ref A_ShelfError))) (a_PaperError : PySem.W.nsIn K mainGlobals "PaperError" = some (some (.ref A_PaperError))) (a_HallError : PySem.W.nsIn K mainGlobals "HallError" = some (some (.ref A_HallError))) (a_LiveError : PySem.W.nsIn K mainGlobals "LiveError" = some (some (.ref A_LiveError))) (a_TextError : PySem.W.nsIn K mainGlobals "TextError" = some (some (.ref A_TextError))) (a_InvalidPaper : PySem.W.nsIn K mainGlobals "InvalidPaper" = some (some (.ref A_InvalidPaper))) (xL_NotUsable : K.lookup A_NotUsable = some (excClassObj nm_NotUsable qn_NotUsable A_NotUsable N_NotUsable bs_NotUsable bm_NotUsable true sn_NotUsable sub_NotUsable ab_NotUsable col_NotUsable dd_NotUsable m0_NotUsable m1_NotUsable m2_NotUsable m3_NotUsable m5_NotUsable "ValueError.__new__")) (xB_NotUsable : PySem.HandSPX.refsVE bm_NotUsable = true) (sa_NotUsable : PySem.W.findIn K (.ref A_NotUsable) "__setattr__" = some (some (.builtin "object.__setattr__"))) (eC_NotUsable : PySem.W.subIn K (.ref A_NotUsable) (.type "BaseException") = some true) (tC_NotUsable : PySem.W.typeIn K (.ref A_NotUsable) = some (.type "type")) (kC_NotUsable : PySem.W.keepIn K (.ref A_NotUsable) = true) (iC_NotUsable : PySem.W.findIn K (.ref A_NotUsable) "__init__" = some (some (.ref fI_NotUsable))) (tI_NotUsable : PySem.W.typeIn K (.ref fI_NotUsable) = some (.type "function")) (lI_NotUsable : K.lookup fI_NotUsable = some ⟨oi_NotUsable, odi_NotUsable, .func (PySem.W.fnOf "__init__" "NotUsable.__init__" (defArgs si_NotUsable) (defBody si_NotUsable) (defScope si_NotUsable) .none kI_NotUsable di_NotUsable pi_NotUsable ani_NotUsable ci_NotUsable ti_NotUsable), sli_NotUsable⟩) (cI_NotUsable : PySem.W.codeIn K ci_NotUsable "NotUsable.__init__" = true) (kI2_NotUsable : PySem.W.keepIn K (.ref fI_NotUsable) = true) (no_NotUsable_0 : PySem.W.findIn K (.ref A_NotUsable) "word" = some none) (no_NotUsable_1 : PySem.W.findIn K (.ref A_NotUsable) "at" = some none) (e1_NotUsable : PySem.W.findIn K (.ref A_NotUsable) "__getattribute__" = some (some (.builtin "BaseException.__getattribute__"))) (e2_NotUsable : PySem.W.findIn K (.ref A_NotUsable) "__getattr__" = some none) (e3_NotUsable : PySem.W.hasDictIn K A_NotUsable = true) (e4_NotUsable : PySem.W.findIn K (.ref A_NotUsable) "__class__" = some (some (.builtin "object.__class__"))) (e5_NotUsable : PySem.W.mroIn K A_NotUsable (.type "object") = some true) (xf_NotUsable_at : PySem.W.findIn K (.ref A_NotUsable) "at" = some none) (xf_NotUsable_word : PySem.W.findIn K (.ref A_NotUsable) "word" = some none) (is_NotUsable_HallError : PySem.W.kitOne K (.ref A_NotUsable) (.ref A_HallError) = some true) (is_NotUsable_InvalidPaper : PySem.W.kitOne K (.ref A_NotUsable) (.ref A_InvalidPaper) = some false) (is_NotUsable_LiveError : PySem.W.kitOne K (.ref A_NotUsable) (.ref A_LiveError) = some false) (is_NotUsable_NotUsable : PySem.W.kitOne K (.ref A_NotUsable) (.ref A_NotUsable) = some true) (is_NotUsable_PaperError : PySem.W.kitOne K (.ref A_NotUsable) (.ref A_PaperError) = some false) (is_NotUsable_TextError : PySem.W.kitOne K (.ref A_NotUsable) (.ref A_TextError) = some false) (is_NotUsable_ValueError : PySem.W.kitOne K (.ref A_NotUsable) (.type "ValueError") = some true) (ct_NotUsable_ShelfError : PySem.W.exmOne K (.ref A_NotUsable) (.ref A_ShelfError) = some true) (e6 : PySem.W.specialIn K (.builtin "object.__class__") "__get__" = some (some (.builtin "getset_descriptor.__get__"))) (e7 : PySem.W.takesIn K (.builtin "object.__class__") = some true) : LawG l w K 11 63 "_law_script" mg fa h := by
  have e := hfa.symm.trans (PySem.W.mg_of X G a_law)
  cases e
  refine ⟨PySem.W.fnOf "law" "law" (defArgs s_law) (defBody s_law) (defScope s_law) .none kV_law dc_law pm_law an_law cd_law ct_law, [(cc__law_are_refused, PP__law_are_refused)], ⟨K, tfa [], tfa [A_NotUsable], [(PP__law_are_refused, ((envOfC "_law_are_refused" (defScope s__law_are_refused) 0 0 .none).qual ++ "<lambda>"))]⟩, cf_law, rfl, ?_, ?_, ?_, ?_, fun s u => .of_eq rfl, hcf, fun base KB NB TB => ?_⟩
  · intro p hp; simp only [List.mem_cons, List.not_mem_nil, or_false] at hp; simp only [List.map_cons, List.map_nil, List.mem_cons, List.not_mem_nil, or_false]
    rcases hp with rfl <;> simp
  · intro p hp; simp only [List.mem_cons, List.not_mem_nil, or_false] at hp
    rcases hp with rfl
    · exact m__law_are_refused
  · intro p hp; simp only [List.mem_cons, List.not_mem_nil, or_false] at hp
    rcases hp with rfl
    · exact z__law_are_refused
  · intro p hp; simp only [List.mem_cons, List.not_mem_nil, or_false] at hp
    rcases hp with rfl
    · exact PySem.W.codeHd_of_K X h__law_are_refused
  · have W0 : True := trivial
    have b_ValueError : mg "ValueError" = none := PySem.W.mg_none_of X G n_ValueError
    have b_all : mg "all" = none := PySem.W.mg_none_of X G n_all
    have b_bool : mg "bool" = none := PySem.W.mg_none_of X G n_bool
    have b_enumerate : mg "enumerate" = none := PySem.W.mg_none_of X G n_enumerate
    have b_int : mg "int" = none := PySem.W.mg_none_of X G n_int
    have b_isinstance : mg "isinstance" = none := PySem.W.mg_none_of X G n_isinstance
    have b_len : mg "len" = none := PySem.W.mg_none_of X G n_len
    have b_list : mg "list" = none := PySem.W.mg_none_of X G n_list
    have b_range : mg "range" = none := PySem.W.mg_none_of X G n_range
    have b_repr : mg "repr" = none := PySem.W.mg_none_of X G n_repr
    have b_sorted : mg "sorted" = none := PySem.W.mg_none_of X G n_sorted
    have b_tuple : mg "tuple" = none := PySem.W.mg_none_of X G n_tuple
    have b_zip : mg "zip" = none := PySem.W.mg_none_of X G n_zip
    let g : G0 := ⟨K, tfa [], tfa [A_NotUsable], [(PP__law_are_refused, ((envOfC "_law_are_refused" (defScope s__law_are_refused) 0 0 .none).qual ++ "<lambda>"))]⟩
    have T_NotUsable : OexC K A_NotUsable := ⟨⟨_, _, _, _, bm_NotUsable, _, _, _, _, _, _, _, _, _, _, xL_NotUsable, xB_NotUsable⟩, sa_NotUsable, eC_NotUsable, tC_NotUsable, kC_NotUsable⟩
    have FI_NotUsable := fun_mk (st := si_NotUsable) lI_NotUsable cI_NotUsable kI2_NotUsable
    have R_NotUsable : ErrC l.prog w g mg base "NotUsable" 0 ["word", "at"] := ⟨A_NotUsable, fI_NotUsable, _, PySem.W.mg_of X G a_NotUsable, rfl, T_NotUsable, iC_NotUsable, tI_NotUsable, FI_NotUsable.binds fun _ _ _ _ _ _ us hl => match us, hl with | [_, _, _], _ => rfl, init_2 FI_NotUsable sci_NotUsable T_NotUsable rfl no_NotUsable_0 no_NotUsable_1 (.inl rfl) (.inl rfl) (.inl rfl) rfl rfl rfl rfl⟩
    have X_at : XfY g "at" := ⟨fun c C hc => match c, hc with | 0, hc => by cases hc; exact ⟨⟨e1_NotUsable, e2_NotUsable, eC_NotUsable, e3_NotUsable⟩, xf_NotUsable_at⟩ | _ + 1, hc => by cases hc⟩
    have X_word : XfY g "word" := ⟨fun c C hc => match c, hc with | 0, hc => by cases hc; exact ⟨⟨e1_NotUsable, e2_NotUsable, eC_NotUsable, e3_NotUsable⟩, xf_NotUsable_word⟩ | _ + 1, hc => by cases hc⟩
    have I_HallError : IsOwn g mg "HallError" it_HallError := ⟨A_HallError, PySem.W.mg_of X G a_HallError, ⟨fun c C b hc hb => match c, hc, hb with | 0, hc, hb => by cases hc; cases hb; exact ⟨⟨e1_NotUsable, e2_NotUsable, eC_NotUsable, e3_NotUsable, e4_NotUsable, e6, e7, e5_NotUsable⟩, is_NotUsable_HallError⟩ | _ + 1, hc, hb => by cases hc⟩⟩
    have I_InvalidPaper : IsOwn g mg "InvalidPaper" it_InvalidPaper := ⟨A_InvalidPaper, PySem.W.mg_of X G a_InvalidPaper, ⟨fun c C b hc hb => match c, hc, hb with | 0, hc, hb => by cases hc; cases hb; exact ⟨⟨e1_NotUsable, e2_NotUsable, eC_NotUsable, e3_NotUsable, e4_NotUsable, e6, e7, e5_NotUsable⟩, is_NotUsable_InvalidPaper⟩ | _ + 1, hc, hb => by cases hc⟩⟩
    have I_LiveError : IsOwn g mg "LiveError" it_LiveError := ⟨A_LiveError, PySem.W.mg_of X G a_LiveError, ⟨fun c C b hc hb => match c, hc, hb with | 0, hc, hb => by cases hc; cases hb; exact ⟨⟨e1_NotUsable, e2_NotUsable, eC_NotUsable, e3_NotUsable, e4_NotUsable, e6, e7, e5_NotUsable⟩, is_NotUsable_LiveError⟩ | _ + 1, hc, hb => by cases hc⟩⟩
    have I_NotUsable : IsOwn g mg "NotUsable" it_NotUsable := ⟨A_NotUsable, PySem.W.mg_of X G a_NotUsable, ⟨fun c C b hc hb => match c, hc, hb with | 0, hc, hb => by cases hc; cases hb; exact ⟨⟨e1_NotUsable, e2_NotUsable, eC_NotUsable, e3_NotUsable, e4_NotUsable, e6, e7, e5_NotUsable⟩, is_NotUsable_NotUsable⟩ | _ + 1, hc, hb => by cases hc⟩⟩
    have I_PaperError : IsOwn g mg "PaperError" it_PaperError := ⟨A_PaperError, PySem.W.mg_of X G a_PaperError, ⟨fun c C b hc hb => match c, hc, hb with | 0, hc, hb => by cases hc; cases hb; exact ⟨⟨e1_NotUsable, e2_NotUsable, eC_NotUsable, e3_NotUsable, e4_NotUsable, e6, e7, e5_NotUsable⟩, is_NotUsable_PaperError⟩ | _ + 1, hc, hb => by cases hc⟩⟩
    have I_TextError : IsOwn g mg "TextError" it_TextError := ⟨A_TextError, PySem.W.mg_of X G a_TextError, ⟨fun c C b hc hb => match c, hc, hb with | 0, hc, hb => by cases hc; cases hb; exact ⟨⟨e1_NotUsable, e2_NotUsable, eC_NotUsable, e3_NotUsable, e4_NotUsable, e6, e7, e5_NotUsable⟩, is_NotUsable_TextError⟩ | _ + 1, hc, hb => by cases hc⟩⟩
    have I_ValueError : IsY g (.type "ValueError") it_ValueError := ⟨fun c C b hc hb => match c, hc, hb with | 0, hc, hb => by cases hc; cases hb; exact ⟨⟨e1_NotUsable, e2_NotUsable, eC_NotUsable, e3_NotUsable, e4_NotUsable, e6, e7, e5_NotUsable⟩, is_NotUsable_ValueError⟩ | _ + 1, hc, hb => by cases hc⟩
    have K_ShelfError : CatOwn g mg "ShelfError" ct_ShelfError := ⟨A_ShelfError, PySem.W.mg_of X G a_ShelfError, fun c C b hc hb => match c, hc, hb with | 0, hc, hb => by cases hc; cases hb; exact ct_NotUsable_ShelfError | _ + 1, hc, hb => by cases hc⟩
    have F__law_feed : Fun g.K "_law_feed" "_law_feed" s__law_feed A__law_feed _ := fun_mk (st := s__law_feed) l__law_feed c__law_feed k__law_feed
    have D__law_feed : Def l.prog w g mg base 1 "_law_feed" s__law_feed ["_law_script"] cf__law_feed := ⟨A__law_feed, _, PySem.W.mg_of X G a__law_feed, F__law_feed, d__law_feed b_list F__law_feed⟩
    have F__law_tomes : Fun g.K "_law_tomes" "_law_tomes" s__law_tomes A__law_tomes _ := fun_mk (st := s__law_tomes) l__law_tomes c__law_tomes k__law_tomes
    have D__law_tomes : Def l.prog w g mg base 1 "_law_tomes" s__law_tomes [] cf__law_tomes := ⟨A__law_tomes, _, PySem.W.mg_of X G a__law_tomes, F__law_tomes, d__law_tomes  F__law_tomes⟩
    have F__law_draw : Fun g.K "_law_draw" "_law_draw" s__law_draw A__law_draw _ := fun_mk (st := s__law_draw) l__law_draw c__law_draw k__law_draw
    have D__law_draw : Def l.prog w g mg base 1 "_law_draw" s__law_draw ["_law_feed_here", "_law_top"] cf__law_draw := ⟨A__law_draw, _, PySem.W.mg_of X G a__law_draw, F__law_draw, d__law_draw b_int b_len F__law_draw⟩
    have F__law_same : Fun g.K "_law_same" "_law_same" s__law_same A__law_same _ := fun_mk (st := s__law_same) l__law_same c__law_same k__law_same
    have D__law_same : Def l.prog w g mg base 1 "_law_same" s__law_same ["_law_told", "_law_due"] cf__law_same := ⟨A__law_same, _, PySem.W.mg_of X G a__law_same, F__law_same, d__law_same b_repr F__law_same⟩
    have F_all_lots : Fun g.K "all_lots" "all_lots" s_all_lots A_all_lots _ := fun_mk (st := s_all_lots) l_all_lots c_all_lots k_all_lots
    have D_all_lots : Def l.prog w g mg base 1 "all_lots" s_all_lots ["size"] cf_all_lots := ⟨A_all_lots, _, PySem.W.mg_of X G a_all_lots, F_all_lots, d_all_lots b_range F_all_lots⟩
    have F_less_times : Fun g.K "less_times" "less_times" s_less_times A_less_times _ := fun_mk (st := s_less_times) l_less_times c_less_times k_less_times
    have D_less_times : Def l.prog w g mg base 1 "less_times" s_less_times ["prime", "one", "digit", "other"] cf_less_times := ⟨A_less_times, _, PySem.W.mg_of X G a_less_times, F_less_times, d_less_times b_tuple b_zip F_less_times⟩
    have F_reduced : Fun g.K "reduced" "reduced" s_reduced A_reduced _ := fun_mk (st := s_reduced) l_reduced c_reduced k_reduced
    have D_reduced : Def l.prog w g mg base 2 "reduced" s_reduced ["prime", "rows", "one"] cf_reduced := ⟨A_reduced, _, PySem.W.mg_of X G a_reduced, F_reduced, d_reduced D_less_times F_reduced⟩
    have F_lead_of : Fun g.K "lead_of" "lead_of" s_lead_of A_lead_of _ := fun_mk (st := s_lead_of) l_lead_of c_lead_of k_lead_of
    have D_lead_of : Def l.prog w g mg base 1 "lead_of" s_lead_of ["one"] cf_lead_of := ⟨A_lead_of, _, PySem.W.mg_of X G a_lead_of, F_lead_of, d_lead_of b_enumerate F_lead_of⟩
    have F_inverse_of : Fun g.K "inverse_of" "inverse_of" s_inverse_of A_inverse_of _ := fun_mk (st := s_inverse_of) l_inverse_of c_inverse_of k_inverse_of
    have D_inverse_of : Def l.prog w g mg base 1 "inverse_of" s_inverse_of ["prime", "digit"] cf_inverse_of := ⟨A_inverse_of, _, PySem.W.mg_of X G a_inverse_of, F_inverse_of, d_inverse_of b_range F_inverse_of⟩
    have F_grown : Fun g.K "grown" "grown" s_grown A_grown _ := fun_mk (st := s_grown) l_grown c_grown k_grown
    have D_grown : Def l.prog w g mg base 3 "grown" s_grown ["prime", "rows", "one"] cf_grown := ⟨A_grown, _, PySem.W.mg_of X G a_grown, F_grown, d_grown D_inverse_of D_lead_of D_less_times D_reduced b_len b_sorted b_tuple F_grown⟩
    have F_ranks_of : Fun g.K "ranks_of" "ranks_of" s_ranks_of A_ranks_of _ := fun_mk (st := s_ranks_of) l_ranks_of c_ranks_of k_ranks_of
    have D_ranks_of : Def l.prog w g mg base 4 "ranks_of" s_ranks_of ["book"] cf_ranks_of := ⟨A_ranks_of, _, PySem.W.mg_of X G a_ranks_of, F_ranks_of, d_ranks_of D_grown b_len b_range b_tuple F_ranks_of⟩
    have F_free_lots : Fun g.K "free_lots" "free_lots" s_free_lots A_free_lots _ := fun_mk (st := s_free_lots) l_free_lots c_free_lots k_free_lots
    have D_free_lots : Def l.prog w g mg base 5 "free_lots" s_free_lots ["book"] cf_free_lots := ⟨A_free_lots, _, PySem.W.mg_of X G a_free_lots, F_free_lots, d_free_lots D_all_lots D_ranks_of b_len b_zip F_free_lots⟩
    have F_bases_in : Fun g.K "bases_in" "bases_in" s_bases_in A_bases_in _ := fun_mk (st := s_bases_in) l_bases_in c_bases_in k_bases_in
    have D_bases_in : Def l.prog w g mg base 6 "bases_in" s_bases_in ["book"] cf_bases_in := ⟨A_bases_in, _, PySem.W.mg_of X G a_bases_in, F_bases_in, d_bases_in D_free_lots b_len b_sorted b_tuple F_bases_in⟩
    have F_bases_of : Fun g.K "bases_of" "bases_of" s_bases_of A_bases_of _ := fun_mk (st := s_bases_of) l_bases_of c_bases_of k_bases_of
    have D_bases_of : Def l.prog w g mg base 7 "bases_of" s_bases_of ["book"] cf_bases_of := ⟨A_bases_of, _, PySem.W.mg_of X G a_bases_of, F_bases_of, d_bases_of D_bases_in F_bases_of⟩
    have F_rest_in : Fun g.K "rest_in" "rest_in" s_rest_in A_rest_in _ := fun_mk (st := s_rest_in) l_rest_in c_rest_in k_rest_in
    have D_rest_in : Def l.prog w g mg base 1 "rest_in" s_rest_in ["lot", "place"] cf_rest_in := ⟨A_rest_in, _, PySem.W.mg_of X G a_rest_in, F_rest_in, d_rest_in b_tuple F_rest_in⟩
    have F_lacking_one : Fun g.K "lacking_one" "lacking_one" s_lacking_one A_lacking_one _ := fun_mk (st := s_lacking_one) l_lacking_one c_lacking_one k_lacking_one
    have D_lacking_one : Def l.prog w g mg base 2 "lacking_one" s_lacking_one ["lot"] cf_lacking_one := ⟨A_lacking_one, _, PySem.W.mg_of X G a_lacking_one, F_lacking_one, d_lacking_one D_rest_in F_lacking_one⟩
    have F_rings_in : Fun g.K "rings_in" "rings_in" s_rings_in A_rings_in _ := fun_mk (st := s_rings_in) l_rings_in c_rings_in k_rings_in
    have D_rings_in : Def l.prog w g mg base 6 "rings_in" s_rings_in ["book"] cf_rings_in := ⟨A_rings_in, _, PySem.W.mg_of X G a_rings_in, F_rings_in, d_rings_in D_all_lots D_free_lots D_lacking_one b_all b_sorted b_tuple F_rings_in⟩
    have F_rings_of : Fun g.K "rings_of" "rings_of" s_rings_of A_rings_of _ := fun_mk (st := s_rings_of) l_rings_of c_rings_of k_rings_of
    have D_rings_of : Def l.prog w g mg base 7 "rings_of" s_rings_of ["book"] cf_rings_of := ⟨A_rings_of, _, PySem.W.mg_of X G a_rings_of, F_rings_of, d_rings_of D_rings_in F_rings_of⟩
    have F_demand : Fun g.K "demand" "demand" s_demand A_demand _ := fun_mk (st := s_demand) l_demand c_demand k_demand
    have D_demand : Def l.prog w g mg base 3 "demand" s_demand ["fits", "name"] cf_demand := ⟨A_demand, _, PySem.W.mg_of X G a_demand, F_demand, d_demand R_NotUsable F_demand⟩
    have F_settled : Fun g.K "settled" "settled" s_settled A_settled _ := fun_mk (st := s_settled) l_settled c_settled k_settled
    have D_settled : Def l.prog w g mg base 4 "settled" s_settled ["prime", "words"] cf_settled := ⟨A_settled, _, PySem.W.mg_of X G a_settled, F_settled, d_settled D_grown F_settled⟩
    have F_picked : Fun g.K "picked" "picked" s_picked A_picked _ := fun_mk (st := s_picked) l_picked c_picked k_picked
    have D_picked : Def l.prog w g mg base 1 "picked" s_picked ["one", "lot"] cf_picked := ⟨A_picked, _, PySem.W.mg_of X G a_picked, F_picked, d_picked b_tuple F_picked⟩
    have F_rank_at : Fun g.K "rank_at" "rank_at" s_rank_at A_rank_at _ := fun_mk (st := s_rank_at) l_rank_at c_rank_at k_rank_at
    have D_rank_at : Def l.prog w g mg base 5 "rank_at" s_rank_at ["book", "lot"] cf_rank_at := ⟨A_rank_at, _, PySem.W.mg_of X G a_rank_at, F_rank_at, d_rank_at D_picked D_settled b_len F_rank_at⟩
    have F_is_integer : Fun g.K "is_integer" "is_integer" s_is_integer A_is_integer _ := fun_mk (st := s_is_integer) l_is_integer c_is_integer k_is_integer
    have D_is_integer : Def l.prog w g mg base 1 "is_integer" s_is_integer ["thing"] cf_is_integer := ⟨A_is_integer, _, PySem.W.mg_of X G a_is_integer, F_is_integer, d_is_integer b_bool b_int b_isinstance F_is_integer⟩
    have F_is_number : Fun g.K "is_number" "is_number" s_is_number A_is_number _ := fun_mk (st := s_is_number) l_is_number c_is_number k_is_number
    have D_is_number : Def l.prog w g mg base 2 "is_number" s_is_number ["thing"] cf_is_number := ⟨A_is_number, _, PySem.W.mg_of X G a_is_number, F_is_number, d_is_number D_is_integer F_is_number⟩
    have F_is_set_of_numbers : Fun g.K "is_set_of_numbers" "is_set_of_numbers" s_is_set_of_numbers A_is_set_of_numbers _ := fun_mk (st := s_is_set_of_numbers) l_is_set_of_numbers c_is_set_of_numbers k_is_set_of_numbers
    have D_is_set_of_numbers : Def l.prog w g mg base 3 "is_set_of_numbers" s_is_set_of_numbers ["thing"] cf_is_set_of_numbers := ⟨A_is_set_of_numbers, _, PySem.W.mg_of X G a_is_set_of_numbers, F_is_set_of_numbers, d_is_set_of_numbers D_is_number b_all b_isinstance b_tuple b_zip F_is_set_of_numbers⟩
    have F_is_lot : Fun g.K "is_lot" "is_lot" s_is_lot A_is_lot _ := fun_mk (st := s_is_lot) l_is_lot c_is_lot k_is_lot
    have D_is_lot : Def l.prog w g mg base 4 "is_lot" s_is_lot ["size", "thing"] cf_is_lot := ⟨A_is_lot, _, PySem.W.mg_of X G a_is_lot, F_is_lot, d_is_lot D_is_set_of_numbers b_all F_is_lot⟩
    have F_rank_on : Fun g.K "rank_on" "rank_on" s_rank_on A_rank_on _ := fun_mk (st := s_rank_on) l_rank_on c_rank_on k_rank_on
    have D_rank_on : Def l.prog w g mg base 6 "rank_on" s_rank_on ["book", "lot"] cf_rank_on := ⟨A_rank_on, _, PySem.W.mg_of X G a_rank_on, F_rank_on, d_rank_on D_demand D_is_lot D_rank_at F_rank_on⟩
    have F_is_free : Fun g.K "is_free" "is_free" s_is_free A_is_free _ := fun_mk (st := s_is_free) l_is_free c_is_free k_is_free
    have D_is_free : Def l.prog w g mg base 7 "is_free" s_is_free ["book", "lot"] cf_is_free := ⟨A_is_free, _, PySem.W.mg_of X G a_is_free, F_is_free, d_is_free D_rank_on b_len F_is_free⟩
    have F_closure_of : Fun g.K "closure_of" "closure_of" s_closure_of A_closure_of _ := fun_mk (st := s_closure_of) l_closure_of c_closure_of k_closure_of
    have D_closure_of : Def l.prog w g mg base 7 "closure_of" s_closure_of ["book", "lot"] cf_closure_of := ⟨A_closure_of, _, PySem.W.mg_of X G a_closure_of, F_closure_of, d_closure_of D_rank_at D_rank_on b_range b_tuple F_closure_of⟩
    have F_ring_in : Fun g.K "ring_in" "ring_in" s_ring_in A_ring_in _ := fun_mk (st := s_ring_in) l_ring_in c_ring_in k_ring_in
    have D_ring_in : Def l.prog w g mg base 7 "ring_in" s_ring_in ["book", "lot"] cf_ring_in := ⟨A_ring_in, _, PySem.W.mg_of X G a_ring_in, F_ring_in, d_ring_in D_demand D_is_lot D_rings_in b_all F_ring_in⟩
    have F__law_is_right : Fun g.K "_law_is_right" "_law_is_right" s__law_is_right A__law_is_right _ := fun_mk (st := s__law_is_right) l__law_is_right c__law_is_right k__law_is_right
    have D__law_is_right : Def l.prog w g mg base 8 "_law_is_right" s__law_is_right ["_law_tome", "_law_bases", "_law_rings", "_law_rows"] cf__law_is_right := ⟨A__law_is_right, _, PySem.W.mg_of X G a__law_is_right, F__law_is_right, d__law_is_right D__law_same D_bases_of D_closure_of D_is_free D_rank_on D_ring_in D_rings_of b_enumerate b_int b_list b_repr F__law_is_right⟩
    have F__law_odds : Fun g.K "_law_odds" "_law_odds" s__law_odds A__law_odds _ := fun_mk (st := s__law_odds) l__law_odds c__law_odds k__law_odds
    have D__law_odds : Def l.prog w g mg base 1 "_law_odds" s__law_odds ["_law_width"] cf__law_odds := ⟨A__law_odds, _, PySem.W.mg_of X G a__law_odds, F__law_odds, d__law_odds  F__law_odds⟩
    have F__law_heard : Fun g.K "_law_heard" "_law_heard" s__law_heard A__law_heard _ := fun_mk (st := s__law_heard) l__law_heard c__law_heard k__law_heard
    have S__law_heard : Sd l.prog w g mg base "_law_heard" s__law_heard "_law_ask" ["_law_ask", "error", "_law_sorts"] cf__law_heard := d__law_heard b_ValueError b_isinstance K_ShelfError I_HallError I_InvalidPaper I_LiveError I_NotUsable I_PaperError I_TextError I_ValueError X_at X_word (PySem.W.mg_of X G a__law_heard) F__law_heard (F__law_heard.binds fun _ _ _ _ _ _ us hl => match us, hl with | [_], _ => rfl)
    have F__law_are_refused : Fun g.K "_law_are_refused" "_law_are_refused" s__law_are_refused A__law_are_refused _ := fun_mk (st := s__law_are_refused) l__law_are_refused c__law_are_refused k__law_are_refused
    have M__law_are_refused : MkL g mg base (.ref cc__law_are_refused) ((envOfC "_law_are_refused" (defScope s__law_are_refused) 0 0 .none).qual ++ "<lambda>") := ⟨cc__law_are_refused, PP__law_are_refused, rfl, TB (cc__law_are_refused, PP__law_are_refused) (by simp), by show _ ∈ [(PP__law_are_refused, ((envOfC "_law_are_refused" (defScope s__law_are_refused) 0 0 .none).qual ++ "<lambda>"))]; simp, fun p hp e => by
      have hp : p ∈ [(PP__law_are_refused, ((envOfC "_law_are_refused" (defScope s__law_are_refused) 0 0 .none).qual ++ "<lambda>"))] := hp
      simp only [List.mem_cons, List.not_mem_nil, or_false] at hp
      rcases hp with rfl
      · rfl⟩
    have D__law_are_refused : Def l.prog w g mg base 10 "_law_are_refused" s__law_are_refused ["_law_tome", "_law_odd"] cf__law_are_refused := ⟨A__law_are_refused, _, PySem.W.mg_of X G a__law_are_refused, F__law_are_refused, d__law_are_refused D__law_same D_closure_of D_is_free D_rank_on D_ring_in S__law_heard F__law_are_refused M__law_are_refused⟩
    have F_law : Fun g.K "law" "law" s_law fa _ := fun_mk (st := s_law) l_law c_law k_law
    exact d_law D__law_are_refused D__law_draw D__law_feed D__law_is_right D__law_odds D__law_tomes b_len F_law
end Lw

set_option Elab.async false
set_option linter.all false
set_option maxRecDepth 100000
set_option maxHeartbeats 4000000
namespace Lw
open PySem PySem.Spec Pev L2
def TM : Pv := match cf__law_tomes [] [] with | .ok v _ => v | _ => .non
theorem ev_tomes (S : Sto) : cf__law_tomes [] S = .ok TM S := by kernel_rfl
end Lw

set_option Elab.async false
set_option linter.all false
set_option maxRecDepth 100000
set_option maxHeartbeats 4000000
namespace Lw
open PySem PySem.Spec Pev L2
def feed (ns : List Int) (sp lf dr : Int) : Ent := [("cells", .lst (ns.map Pv.int)), ("next", .int sp), ("kept", .int lf), ("laps", .int dr)]
section
variable (ns : List Int) (sp lf dr x : Int)
theorem g1 : getE (feed ns sp lf dr) "cells" = some (.lst (ns.map Pv.int)) := by rfl
theorem g2 : getE (feed ns sp lf dr) "next" = some (.int sp) := by rfl
theorem g3 : getE (feed ns sp lf dr) "kept" = some (.int lf) := by rfl
theorem g4 : getE (feed ns sp lf dr) "laps" = some (.int dr) := by rfl
theorem p2 : putE (feed ns sp lf dr) "next" (.int x) = feed ns x lf dr := by rfl
theorem p3 : putE (feed ns sp lf dr) "kept" (.int x) = feed ns sp x dr := by rfl
theorem p4 : putE (feed ns sp lf dr) "laps" (.int x) = feed ns sp lf x := by rfl
theorem uf : (unlikeE (feed ns sp lf dr) && Nat.ble (feed ns sp lf dr).length 1000) = true := by rfl
end
theorem toDs_ints : ∀ ns : List Int, toDs (ns.map Pv.int) = some (ns.map PyData.int)
  | [] => rfl
  | n :: r => by simp only [List.map_cons, toDs, toD, toDs_ints r]
def finS : ResS → Res Pv
  | .nx _ S' => .ok .non S'
  | .rt v S' => .ok v S'
  | .exc c fs _ S' => .exc c fs S'
  | _ => .stuck
theorem runB_fin {n : Nat} {r : EvS} {vs : List Pv} {S : Sto} : runB n r vs S = finS (r (vs.map .val ++ List.replicate (n - vs.length) .un) S) := by
  unfold runB
  cases r (vs.map .val ++ List.replicate (n - vs.length) .un) S <;> rfl
theorem seq_nx {r1 r2 : EvS} {env env' : List Slot} {S S' : Sto} (h : r1 env S = .nx env' S') : evSeqS r1 r2 env S = r2 env' S' := by unfold evSeqS; rw [h]
theorem seq_rt {r1 r2 : EvS} {env : List Slot} {S S' : Sto} {v : Pv} (h : r1 env S = .rt v S') : evSeqS r1 r2 env S = .rt v S' := by unfold evSeqS; rw [h]
theorem if_t {rc : EvF} {a b : EvS} {env : List Slot} {S S' : Sto} (h : rc env S = .ok (.bl true) S') : evIfS rc a b env S = a env S' := by unfold evIfS evT; rw [h]; rfl
theorem if_f {rc : EvF} {a b : EvS} {env : List Slot} {S S' : Sto} (h : rc env S = .ok (.bl false) S') : evIfS rc a b env S = b env S' := by unfold evIfS evT; rw [h]; rfl
theorem asg_nm {i : Nat} {ra : EvF} {env : List Slot} {S S' : Sto} {v : Pv} {s : Slot} (h : ra env S = .ok v S') (h2 : env[i]? = some s) (h3 : s.pinned = false) : evAsg (.nm i) ra env S = .nx (env.set i (.val v)) S' := by
  unfold evAsg Res.toS bindT; rw [h]; simp only [h2, h3]
theorem ret_ok {ra : EvF} {env : List Slot} {S S' : Sto} {v : Pv} (h : ra env S = .ok v S') : evRet ra env S = .rt v S' := by unfold evRet Res.toS; rw [h]
theorem ev_feed (ns : List Int) (h : ns.length ≤ 63) : cf__law_feed [.scr (ns.map Pv.int)] [] = .ok (.mref 0) [feed ns 0 0 0] := by
  have hc : cutP (ns.map Pv.int) none (some 63) = ns.map Pv.int := by
    unfold cutP
    rw [HT.sIx_none, List.drop_zero, Nat.sub_zero]
    have e : HT.sIx (ns.map Pv.int).length (ns.map Pv.int).length (some 63) = min 63 (ns.map Pv.int).length := HT.sIx_nat _ _ 63
    rw [e]
    exact List.take_of_length_le (by rw [List.length_map]; omega)
  have e1 : evB gList (evCons (evSl (evVar 0) (fun _ S => .ok none S) (evP (evCon (.int 63)))) evNil) [.val (.scr (ns.map Pv.int))] [] = .ok (.lst (ns.map Pv.int)) [] := by
    simp only [evB, evCons, evNil, gList, evSl, evVar, evP, evCon, Res.bind, slP, List.getElem?_cons_zero, hc]
  unfold cf__law_feed b__law_feed
  rw [runB_fin]
  refine congrArg finS (ret_ok (v := .mref 0) (S' := [feed ns 0 0 0]) ?_)
  show evDisp _ [.val (.scr (ns.map Pv.int))] [] = _
  simp only [evDisp, evItems, e1, evCon, Res.bind, List.map_cons, List.map_nil]
  rfl
section
variable (ns : List Int) (sp lf dr hi : Int) (post : Sto) (e2 e3 e4 e5 e6 : Slot)
/-- the feed's entries in whatever slots -/
theorem sub_at {k : Str} {v : Pv} {env : List Slot} {S : Sto} {es : Ent} (h0 : env[0]? = some (.val (.mref 0))) (hS : S[0]? = some es) (hg : getE es k = some v) : evSub (evVar 0) (evCon (.str k)) env S = .ok v S := by
  simp only [evSub, evVar, evCon, h0, hS, hg, Res.bind]
theorem put_at {k : Str} {v : Pv} {re : EvF} {env : List Slot} {S : Sto} {es : Ent} (h0 : env[0]? = some (.val (.mref 0))) (hS : S[0]? = some es) (hu : (unlikeE es && Nat.ble es.length 1000) = true) (hr : re env S = .ok v S) : evPutD (evVar 0) (evCon (.str k)) re env S = .nx env (S.set 0 (putE es k v)) := by
  simp only [evPutD, evVar, evCon, h0, hS, hu, hr, Res.toS]
theorem op2 {g : Pv → Pv → Option Pv} {ra rb : EvF} {env : List Slot} {S : Sto} {a b v : Pv} (ha : ra env S = .ok a S) (hb : rb env S = .ok b S) (hg : g a b = some v) : ev2 g ra rb env S = .ok v S := by
  simp only [ev2, ha, hb, hg, Res.bind]
theorem one {g : List Pv → Option Pv} {ra : EvF} {env : List Slot} {S : Sto} {a v : Pv} (ha : ra env S = .ok a S) (hg : g [a] = some v) : evB g (evCons ra evNil) env S = .ok v S := by
  simp only [evB, evCons, evNil, ha, hg, Res.bind]
theorem sub_lst {ra rb : EvF} {env : List Slot} {S : Sto} {xs : List Pv} {v : Pv} (h : ra env S = .ok (.lst xs) S) (h2 : ev2 ixP ra rb env S = .ok v S) : evSub ra rb env S = .ok v S := by
  unfold evSub; rw [h]; exact h2
theorem var_at {i : Nat} {v : Pv} {env : List Slot} {S : Sto} (h : env[i]? = some (.val v)) : evVar i env S = .ok v S := by simp only [evVar, h]
theorem con_at {v : Pv} {env : List Slot} {S : Sto} : evCon v env S = .ok v S := rfl
end
theorem shaped_ints : ∀ ns : List Int, SeqAt.shaped (.list (ns.map PyData.int)) = true
  | [] => rfl
  | n :: r => by
    have := shaped_ints r
    simp only [List.map_cons, SeqAt.shaped] at this ⊢
    first | exact this | simp_all [SeqAt.shaped]
theorem if_shaped (ns : List Int) : (SeqAt.shaped (.list (ns.map PyData.int)) && SeqAt.shaped (.list [])) = true := by rw [shaped_ints]; rfl
/-- what is drawn -/
theorem ev_draw (ns : List Int) (hl : ns.length ≤ 63) (sp lf dr hi : Int) (hsp : 0 ≤ sp) (hlf : 0 ≤ lf) (h0 : 0 < hi) (h1 : hi < 1073741824) (post : Sto) :
    ∃ r sp' lf' dr', cf__law_draw [.mref 0, .int hi] (feed ns sp lf dr :: post) = .ok (.int r) (feed ns sp' lf' dr' :: post) ∧ 0 ≤ r ∧ r < hi ∧ 0 ≤ sp' ∧ 0 ≤ lf' := by
  have d1 : (decide (0 < hi) && decide (hi < 1073741824)) = true := by simp [h0, h1]
  have d2 : decide (0 < hi) = true := by simp [h0]
  have mo : ∀ a : Int, opMod (.int a) (.int hi) = some (.int (a % hi)) := fun a => by simp only [opMod, d2]
  have di : ∀ a : Int, opDiv (.int a) (.int hi) = some (.int (a / hi)) := fun a => by simp only [opDiv, d1]
  unfold cf__law_draw b__law_draw
  rw [runB_fin]
  show ∃ r sp' lf' dr', finS (evSeqS _ _ [.val (.mref 0), .val (.int hi), .un, .un, .un, .un] (feed ns sp lf dr :: post)) = _ ∧ _
  rw [seq_nx (put_at (v := .int (dr + 1)) rfl rfl (uf ns sp lf dr) (op2 (sub_at rfl rfl (g4 ns sp lf dr)) con_at rfl))]
  rw [p4]
  show ∃ r sp' lf' dr', finS (evSeqS _ _ [.val (.mref 0), .val (.int hi), .un, .un, .un, .un] (feed ns sp lf (dr + 1) :: post)) = _ ∧ _
  by_cases hp : 0 < lf
  · rw [seq_rt (v := .int (lf % hi)) (S' := feed ns sp (lf / hi) (dr + 1) :: post) ?_]
    · exact ⟨_, _, _, _, rfl, Int.emod_nonneg _ (by omega), Int.emod_lt_of_pos _ h0, hsp, Int.ediv_nonneg hlf (by omega)⟩
    · rw [if_t (op2 (sub_at rfl rfl (g3 ns sp lf (dr + 1))) con_at (by simp only [cGt, decide_eq_true hp]))]
      rw [seq_nx (asg_nm (v := .int (lf % hi)) (op2 (one (sub_at rfl rfl (g3 ns sp lf (dr + 1))) rfl) (var_at rfl) (mo _)) rfl rfl)]
      rw [seq_nx (put_at (v := .int (lf / hi)) rfl rfl (uf ns sp lf (dr + 1)) (op2 (sub_at rfl rfl (g3 ns sp lf (dr + 1))) (var_at rfl) (di _)))]
      rw [p3]
      exact ret_ok (var_at rfl)
  · have hf : ev2 cGt (evSub (evVar 0) (evCon (.str "kept"))) (evCon (.int 0)) [.val (.mref 0), .val (.int hi), .un, .un, .un, .un] (feed ns sp lf (dr + 1) :: post) = .ok (.bl false) (feed ns sp lf (dr + 1) :: post) := op2 (sub_at rfl rfl (g3 ns sp lf (dr + 1))) con_at (by simp only [cGt, decide_eq_false hp])
    rw [seq_nx (env' := [.val (.mref 0), .val (.int hi), .un, .un, .un, .un]) (S' := feed ns sp lf (dr + 1) :: post) (if_f (b := evSkip) hf)]
    rw [seq_nx (asg_nm (v := .int sp) (sub_at rfl rfl (g2 ns sp lf (dr + 1))) rfl rfl)]
    rw [seq_nx (put_at (v := .int (sp + 1)) rfl rfl (uf ns sp lf (dr + 1)) (op2 (var_at rfl) con_at rfl))]
    rw [p2]
    show ∃ r sp' lf' dr', finS (evSeqS _ _ [.val (.mref 0), .val (.int hi), .un, .val (.int sp), .un, .un] (feed ns (sp + 1) lf (dr + 1) :: post)) = _ ∧ _
    have hcell : ∃ cell : Int, (evIf (ev2 cNe (evSub (evVar 0) (evCon (.str "cells"))) (evLst evNil)) (evSub (evSub (evVar 0) (evCon (.str "cells"))) (ev2 opMod (evB gInt (evCons (evVar 3) evNil)) (evB gLen (evCons (evSub (evVar 0) (evCon (.str "cells"))) evNil)))) (evCon (.int 5926))) [.val (.mref 0), .val (.int hi), .un, .val (.int sp), .un, .un] (feed ns (sp + 1) lf (dr + 1) :: post) = .ok (.int cell) (feed ns (sp + 1) lf (dr + 1) :: post) := by
      have hv : evSub (evVar 0) (evCon (.str "cells")) [.val (.mref 0), .val (.int hi), .un, .val (.int sp), .un, .un] (feed ns (sp + 1) lf (dr + 1) :: post) = .ok (.lst (ns.map Pv.int)) (feed ns (sp + 1) lf (dr + 1) :: post) := sub_at rfl rfl (g1 ns (sp + 1) lf (dr + 1))
      cases ns with
      | nil => exact ⟨5926, by rfl⟩
      | cons c cs =>
        have hne : cNe (.lst ((c :: cs).map Pv.int)) (.lst []) = some (.bl true) := by
          unfold cNe eqD
          simp only [toD, toDs_ints, toDs]
          rw [if_shaped (c :: cs)]
          rfl
        have hlen : gLen [.lst ((c :: cs).map Pv.int)] = some (.int ((c :: cs).length : Nat)) := by
          unfold gLen
          simp
        have hpos : (0 : Int) < ((c :: cs).length : Nat) := by simp
        have hm : opMod (.int sp) (.int ((c :: cs).length : Nat)) = some (.int (sp % ((c :: cs).length : Nat))) := by simp only [opMod, decide_eq_true hpos]
        obtain ⟨k, hk1, hk2⟩ : ∃ k : Nat, sp % (((c :: cs).length : Nat) : Int) = (k : Int) ∧ k < (c :: cs).length := by
          have a1 := Int.emod_nonneg sp (show (((c :: cs).length : Nat) : Int) ≠ 0 by omega)
          have a2 := Int.emod_lt_of_pos sp hpos
          exact ⟨(sp % (((c :: cs).length : Nat) : Int)).toNat, by omega, by omega⟩
        have hix : ixP (.lst ((c :: cs).map Pv.int)) (.int (k : Int)) = some (.int ((c :: cs)[k]'hk2)) := by
          unfold ixP
          simp only
          rw [atI_nat]
          rw [List.getElem?_map, List.getElem?_eq_getElem hk2]
          rfl
        refine ⟨(c :: cs)[k]'hk2, ?_⟩
        have ht : evT (ev2 cNe (evSub (evVar 0) (evCon (.str "cells"))) (evLst evNil)) [.val (.mref 0), .val (.int hi), .un, .val (.int sp), .un, .un] (feed (c :: cs) (sp + 1) lf (dr + 1) :: post) = .ok true (feed (c :: cs) (sp + 1) lf (dr + 1) :: post) := by
          unfold evT
          rw [op2 hv (b := .lst []) (by rfl) hne]
          rfl
        unfold evIf
        rw [ht]
        simp only [Res.bind]
        exact sub_lst hv (op2 hv (op2 (one (var_at rfl) rfl) (one hv hlen) hm) (by rw [hk1]; exact hix))
    obtain ⟨cell, hcell⟩ := hcell
    rw [seq_nx (asg_nm hcell rfl rfl)]
    show ∃ r sp' lf' dr', finS (evSeqS _ _ [.val (.mref 0), .val (.int hi), .un, .val (.int sp), .val (.int cell), .un] (feed ns (sp + 1) lf (dr + 1) :: post)) = _ ∧ _
    have hlen2 : gLen [.lst (ns.map Pv.int)] = some (.int (ns.length : Nat)) := by
      unfold gLen
      simp
    have hpow : ev2 opPow (evCon (.int 10)) (evCon (.int 18)) [.val (.mref 0), .val (.int hi), .un, .val (.int sp), .val (.int cell), .un] (feed ns (sp + 1) lf (dr + 1) :: post) = .ok (.int 1000000000000000000) (feed ns (sp + 1) lf (dr + 1) :: post) := by rfl
    have hge := op2 (g := cGe) (v := .bl (decide (1000000000000000000 ≤ cell))) (var_at (i := 4) (env := [.val (.mref 0), .val (.int hi), .un, .val (.int sp), .val (.int cell), .un]) rfl) hpow rfl
    have hlt := op2 (g := cLt) (v := .bl (decide (sp < (ns.length : Nat)))) (var_at (i := 3) (S := feed ns (sp + 1) lf (dr + 1) :: post) (env := [.val (.mref 0), .val (.int hi), .un, .val (.int sp), .val (.int cell), .un]) rfl) (one (sub_at rfl rfl (g1 ns (sp + 1) lf (dr + 1))) hlen2) rfl
    by_cases hb : 1000000000000000000 ≤ cell ∧ sp < (ns.length : Nat)
    · rw [seq_rt (v := .int (cell % hi)) (S' := feed ns (sp + 1) (cell / hi) (dr + 1) :: post) ?_]
      · exact ⟨_, _, _, _, rfl, Int.emod_nonneg _ (by omega), Int.emod_lt_of_pos _ h0, by omega, Int.ediv_nonneg (by omega) (by omega)⟩
      · have ha : evAnd (ev2 cGe (evVar 4) (ev2 opPow (evCon (.int 10)) (evCon (.int 18)))) (ev2 cLt (evVar 3) (evB gLen (evCons (evSub (evVar 0) (evCon (.str "cells"))) evNil))) [.val (.mref 0), .val (.int hi), .un, .val (.int sp), .val (.int cell), .un] (feed ns (sp + 1) lf (dr + 1) :: post) = .ok (.bl true) (feed ns (sp + 1) lf (dr + 1) :: post) := by
          unfold evAnd
          rw [hge, decide_eq_true hb.1]
          simp only [Res.bind, tru]
          rw [hlt, decide_eq_true hb.2]
        rw [if_t ha]
        rw [seq_nx (put_at (v := .int (cell / hi)) rfl rfl (uf ns (sp + 1) lf (dr + 1)) (op2 (var_at rfl) (var_at rfl) (di _)))]
        rw [p3]
        exact ret_ok (op2 (one (var_at rfl) rfl) (var_at rfl) (mo _))
    · have ha : evAnd (ev2 cGe (evVar 4) (ev2 opPow (evCon (.int 10)) (evCon (.int 18)))) (ev2 cLt (evVar 3) (evB gLen (evCons (evSub (evVar 0) (evCon (.str "cells"))) evNil))) [.val (.mref 0), .val (.int hi), .un, .val (.int sp), .val (.int cell), .un] (feed ns (sp + 1) lf (dr + 1) :: post) = .ok (.bl false) (feed ns (sp + 1) lf (dr + 1) :: post) := by
        unfold evAnd
        by_cases hb1 : 1000000000000000000 ≤ cell
        · rw [hge, decide_eq_true hb1]
          simp only [Res.bind, tru]
          rw [hlt, decide_eq_false (fun z => hb ⟨hb1, z⟩)]
        · rw [hge, decide_eq_false hb1]
          rfl
      rw [seq_nx (env' := [.val (.mref 0), .val (.int hi), .un, .val (.int sp), .val (.int cell), .un]) (S' := feed ns (sp + 1) lf (dr + 1) :: post) (if_f (b := evSkip) ha)]
      have ml : ∀ a b : Int, 0 ≤ a → a < 18446744073709551616 → opMul (.int a) (.int b) = some (.int (a * b)) := fun a b h1 h2 => by
        have : big64 a = true := by unfold big64; exact Nat.ble_eq_true_of_le (by omega)
        simp only [opMul, this, Bool.true_or]
      have gi : ∀ a : Int, gInt [.int a] = some (.int a) := fun _ => rfl
      rw [seq_nx (asg_nm (op2 (one (op2 (op2 (op2 (one (var_at rfl) (gi cell)) con_at rfl) (op2 con_at (sub_at rfl rfl (g4 ns (sp + 1) lf (dr + 1))) rfl) rfl) con_at rfl) (gi _)) con_at rfl) rfl rfl)]
      generalize hmx : (cell % 1000000399 + 86143 * (dr + 1) + 161) % 2146437311 = mx
      have x0 : 0 ≤ mx := by rw [← hmx]; exact Int.emod_nonneg _ (by decide)
      have x1 : mx < 2146437311 := by rw [← hmx]; exact Int.emod_lt_of_pos _ (by decide)
      show ∃ r sp' lf' dr', finS (evSeqS _ _ [.val (.mref 0), .val (.int hi), .un, .val (.int sp), .val (.int cell), .val (.int mx)] (feed ns (sp + 1) lf (dr + 1) :: post)) = _ ∧ _
      rw [seq_nx (asg_nm (op2 (one (op2 (op2 (op2 (var_at (i := 5) rfl) (var_at (i := 5) rfl) (ml mx mx x0 (by omega))) (op2 con_at (sub_at rfl rfl (g4 ns (sp + 1) lf (dr + 1))) rfl) rfl) con_at rfl) (gi _)) con_at rfl) rfl rfl)]
      generalize hmy : (mx * mx + 7700323 * (dr + 1) + 419) % 2146437071 = my
      have y0 : 0 ≤ my := by rw [← hmy]; exact Int.emod_nonneg _ (by decide)
      have y1 : my < 2146437071 := by rw [← hmy]; exact Int.emod_lt_of_pos _ (by decide)
      show ∃ r sp' lf' dr', finS (evRet _ [.val (.mref 0), .val (.int hi), .un, .val (.int sp), .val (.int cell), .val (.int my)] (feed ns (sp + 1) lf (dr + 1) :: post)) = _ ∧ _
      rw [ret_ok (op2 (one (op2 (op2 (one (op2 (op2 (var_at (i := 5) rfl) (var_at (i := 5) rfl) (ml my my y0 (by omega))) (op2 con_at (var_at (i := 5) rfl) (ml 401 my (by decide) (by decide))) rfl) (gi _)) con_at rfl) con_at rfl) (gi _)) (var_at (i := 1) rfl) (mo _))]
      exact ⟨_, _, _, _, rfl, Int.emod_nonneg _ (by omega), Int.emod_lt_of_pos _ h0, by omega, hlf⟩
/-- the law, whatever the script -/
theorem law_ev : ∀ ns : List Int, ns.length ≤ 63 → (∀ z ∈ ns, Builtin.Int.intBits z ≤ 1048576) → ∃ S', cf_law [.scr (ns.map Pv.int)] [] = .ok (.bl true) S' := by
  intro ns hl _
  obtain ⟨r, sp, lf, dr, h, r0, r4, _, _⟩ := ev_draw ns hl 0 0 0 7 (by decide) (by decide) (by decide) (by decide) []
  refine ⟨[feed ns sp lf dr], ?_⟩
  have hf := ev_feed ns hl
  unfold cf_law b_law
  rw [runB_fin]
  show finS (evSeqS _ _ [.val (.scr (ns.map Pv.int)), .un, .un, .un, .un, .un, .un, .un, .un] []) = _
  have c1 : evCall cf__law_feed [0] 1 0 (evCons (evVar 0) evNil) evNil [.val (.scr (ns.map Pv.int)), .un, .un, .un, .un, .un, .un, .un, .un] [] = .ok (.mref 0) [feed ns 0 0 0] := hf
  rw [seq_nx (asg_nm c1 rfl rfl)]
  show finS (evSeqS _ _ [.val (.scr (ns.map Pv.int)), .val (.mref 0), .un, .un, .un, .un, .un, .un, .un] [feed ns 0 0 0]) = _
  have c3 : evCall cf__law_tomes [] 0 0 evNil evNil [.val (.scr (ns.map Pv.int)), .val (.mref 0), .un, .un, .un, .un, .un, .un, .un] [feed ns 0 0 0] = .ok TM [feed ns 0 0 0] := ev_tomes _
  rw [seq_nx (asg_nm c3 rfl rfl)]
  show finS (evSeqS _ _ [.val (.scr (ns.map Pv.int)), .val (.mref 0), .val TM, .un, .un, .un, .un, .un, .un] [feed ns 0 0 0]) = _
  have c2 : evCall cf__law_draw [0, 1] 2 0 (evCons (evVar 1) (evCons (evB gLen (evCons (evVar 2) evNil)) evNil)) evNil [.val (.scr (ns.map Pv.int)), .val (.mref 0), .val TM, .un, .un, .un, .un, .un, .un] [feed ns 0 0 0] = .ok (.int r) [feed ns sp lf dr] := h
  rw [seq_nx (asg_nm c2 rfl rfl)]
  show finS (evSeqS _ _ [.val (.scr (ns.map Pv.int)), .val (.mref 0), .val TM, .val (.int r), .un, .un, .un, .un, .un] [feed ns sp lf dr]) = _
  generalize [feed ns sp lf dr] = S
  generalize Slot.val (.scr (ns.map Pv.int)) = s0
  have hr : r = 0 ∨ r = 1 ∨ r = 2 ∨ r = 3 ∨ r = 4 ∨ r = 5 ∨ r = 6 := by omega
  rcases hr with rfl | rfl | rfl | rfl | rfl | rfl | rfl
  · kernel_rfl
  · kernel_rfl
  · kernel_rfl
  · kernel_rfl
  · kernel_rfl
  · kernel_rfl
  · kernel_rfl
end Lw

set_option Elab.async false
open PySem PySem.W PyProof.Rows
set_option maxRecDepth 100000 in
set_option maxHeartbeats 0 in
theorem PySem.Challenge.cw_starshelves_k06_free_lots_told_holds : PySem.Challenge.rw_starshelves_k06_free_lots_told.Holds := by
  w_on; o_law; k_head; (case hw => w_witness2)
  k_fill
  refine Pev.walk_G (l := PySem.Challenge.rw_starshelves_k06_free_lots_told) (n := 63) (k := 11) (x := "_law_script") rfl (by decide) rfl ⟨rfl, by decide, by decide⟩ (fun w h Y => km_in_of Y) ?F ?CX
  case CX => exact fun w H s e s' z => Pev.cx_false _ _ _ _ _ z
  case F =>
    intro w mg fa h Y KX G hmg
    have hT := km_tabs_of Y
    refine' Lw.all_mk KX G hmg Lw.law_ev ?a__law_feed ?l__law_feed ?c__law_feed ?k__law_feed ?a__law_tomes ?l__law_tomes ?c__law_tomes ?k__law_tomes ?a__law_draw ?l__law_draw ?c__law_draw ?k__law_draw ?a__law_same ?l__law_same ?c__law_same ?k__law_same ?a_all_lots ?l_all_lots ?c_all_lots ?k_all_lots ?a_less_times ?l_less_times ?c_less_times ?k_less_times ?a_reduced ?l_reduced ?c_reduced ?k_reduced ?a_lead_of ?l_lead_of ?c_lead_of ?k_lead_of ?a_inverse_of ?l_inverse_of ?c_inverse_of ?k_inverse_of ?a_grown ?l_grown ?c_grown ?k_grown ?a_ranks_of ?l_ranks_of ?c_ranks_of ?k_ranks_of ?a_free_lots ?l_free_lots ?c_free_lots ?k_free_lots ?a_bases_in ?l_bases_in ?c_bases_in ?k_bases_in ?a_bases_of ?l_bases_of ?c_bases_of ?k_bases_of ?a_rest_in ?l_rest_in ?c_rest_in ?k_rest_in ?a_lacking_one ?l_lacking_one ?c_lacking_one ?k_lacking_one ?a_rings_in ?l_rings_in ?c_rings_in ?k_rings_in ?a_rings_of ?l_rings_of ?c_rings_of ?k_rings_of ?a_demand ?l_demand ?c_demand ?k_demand ?a_settled ?l_settled ?c_settled ?k_settled ?a_picked ?l_picked ?c_picked ?k_picked ?a_rank_at ?l_rank_at ?c_rank_at ?k_rank_at ?a_is_integer ?l_is_integer ?c_is_integer ?k_is_integer ?a_is_number ?l_is_number ?c_is_number ?k_is_number ?a_is_set_of_numbers ?l_is_set_of_numbers ?c_is_set_of_numbers ?k_is_set_of_numbers ?a_is_lot ?l_is_lot ?c_is_lot ?k_is_lot ?a_rank_on ?l_rank_on ?c_rank_on ?k_rank_on ?a_is_free ?l_is_free ?c_is_free ?k_is_free ?a_closure_of ?l_closure_of ?c_closure_of ?k_closure_of ?a_ring_in ?l_ring_in ?c_ring_in ?k_ring_in ?a__law_is_right ?l__law_is_right ?c__law_is_right ?k__law_is_right ?a__law_odds ?l__law_odds ?c__law_odds ?k__law_odds ?a__law_heard ?l__law_heard ?c__law_heard ?k__law_heard ?a__law_are_refused ?l__law_are_refused ?c__law_are_refused ?k__law_are_refused ?x__law_are_refused ?y__law_are_refused ?h__law_are_refused ?z__law_are_refused ?m__law_are_refused ?a_law ?l_law ?c_law ?k_law ?n_ValueError ?n_all ?n_bool ?n_enumerate ?n_int ?n_isinstance ?n_len ?n_list ?n_range ?n_repr ?n_sorted ?n_tuple ?n_zip ?a_NotUsable ?a_ShelfError ?a_PaperError ?a_HallError ?a_LiveError ?a_TextError ?a_InvalidPaper ?xL_NotUsable ?xB_NotUsable ?sa_NotUsable ?eC_NotUsable ?tC_NotUsable ?kC_NotUsable ?iC_NotUsable ?tI_NotUsable ?lI_NotUsable ?cI_NotUsable ?kI2_NotUsable ?no_NotUsable_0 ?no_NotUsable_1 ?e1_NotUsable ?e2_NotUsable ?e3_NotUsable ?e4_NotUsable ?e5_NotUsable ?xf_NotUsable_at ?xf_NotUsable_word ?is_NotUsable_HallError ?is_NotUsable_InvalidPaper ?is_NotUsable_LiveError ?is_NotUsable_NotUsable ?is_NotUsable_PaperError ?is_NotUsable_TextError ?is_NotUsable_ValueError ?ct_NotUsable_ShelfError ?e6 ?e7
    (case a__law_feed => k_is)
    (case l__law_feed => k_is)
    (case c__law_feed => k_is)
    (case k__law_feed => k_is)
    (case a__law_tomes => k_is)
    (case l__law_tomes => k_is)
    (case c__law_tomes => k_is)
    (case k__law_tomes => k_is)
    (case a__law_draw => k_is)
    (case l__law_draw => k_is)
    (case c__law_draw => k_is)
    (case k__law_draw => k_is)
    (case a__law_same => k_is)
    (case l__law_same => k_is)
    (case c__law_same => k_is)
    (case k__law_same => k_is)
    (case a_all_lots => k_is)
    (case l_all_lots => k_is)
    (case c_all_lots => k_is)
    (case k_all_lots => k_is)
    (case a_less_times => k_is)
    (case l_less_times => k_is)
    (case c_less_times => k_is)
    (case k_less_times => k_is)
    (case a_reduced => k_is)
    (case l_reduced => k_is)
    (case c_reduced => k_is)
    (case k_reduced => k_is)
    (case a_lead_of => k_is)
    (case l_lead_of => k_is)
    (case c_lead_of => k_is)
    (case k_lead_of => k_is)
    (case a_inverse_of => k_is)
    (case l_inverse_of => k_is)
    (case c_inverse_of => k_is)
    (case k_inverse_of => k_is)
    (case a_grown => k_is)
    (case l_grown => k_is)
    (case c_grown => k_is)
    (case k_grown => k_is)
    (case a_ranks_of => k_is)
    (case l_ranks_of => k_is)
    (case c_ranks_of => k_is)
    (case k_ranks_of => k_is)
    (case a_free_lots => k_is)
    (case l_free_lots => k_is)
    (case c_free_lots => k_is)
    (case k_free_lots => k_is)
    (case a_bases_in => k_is)
    (case l_bases_in => k_is)
    (case c_bases_in => k_is)
    (case k_bases_in => k_is)
    (case a_bases_of => k_is)
    (case l_bases_of => k_is)
    (case c_bases_of => k_is)
    (case k_bases_of => k_is)
    (case a_rest_in => k_is)
    (case l_rest_in => k_is)
    (case c_rest_in => k_is)
    (case k_rest_in => k_is)
    (case a_lacking_one => k_is)
    (case l_lacking_one => k_is)
    (case c_lacking_one => k_is)
    (case k_lacking_one => k_is)
    (case a_rings_in => k_is)
    (case l_rings_in => k_is)
    (case c_rings_in => k_is)
    (case k_rings_in => k_is)
    (case a_rings_of => k_is)
    (case l_rings_of => k_is)
    (case c_rings_of => k_is)
    (case k_rings_of => k_is)
    (case a_demand => k_is)
    (case l_demand => k_is)
    (case c_demand => k_is)
    (case k_demand => k_is)
    (case a_settled => k_is)
    (case l_settled => k_is)
    (case c_settled => k_is)
    (case k_settled => k_is)
    (case a_picked => k_is)
    (case l_picked => k_is)
    (case c_picked => k_is)
    (case k_picked => k_is)
    (case a_rank_at => k_is)
    (case l_rank_at => k_is)
    (case c_rank_at => k_is)
    (case k_rank_at => k_is)
    (case a_is_integer => k_is)
    (case l_is_integer => k_is)
    (case c_is_integer => k_is)
    (case k_is_integer => k_is)
    (case a_is_number => k_is)
    (case l_is_number => k_is)
    (case c_is_number => k_is)
    (case k_is_number => k_is)
    (case a_is_set_of_numbers => k_is)
    (case l_is_set_of_numbers => k_is)
    (case c_is_set_of_numbers => k_is)
    (case k_is_set_of_numbers => k_is)
    (case a_is_lot => k_is)
    (case l_is_lot => k_is)
    (case c_is_lot => k_is)
    (case k_is_lot => k_is)
    (case a_rank_on => k_is)
    (case l_rank_on => k_is)
    (case c_rank_on => k_is)
    (case k_rank_on => k_is)
    (case a_is_free => k_is)
    (case l_is_free => k_is)
    (case c_is_free => k_is)
    (case k_is_free => k_is)
    (case a_closure_of => k_is)
    (case l_closure_of => k_is)
    (case c_closure_of => k_is)
    (case k_closure_of => k_is)
    (case a_ring_in => k_is)
    (case l_ring_in => k_is)
    (case c_ring_in => k_is)
    (case k_ring_in => k_is)
    (case a__law_is_right => k_is)
    (case l__law_is_right => k_is)
    (case c__law_is_right => k_is)
    (case k__law_is_right => k_is)
    (case a__law_odds => k_is)
    (case l__law_odds => k_is)
    (case c__law_odds => k_is)
    (case k__law_odds => k_is)
    (case a__law_heard => k_is)
    (case l__law_heard => k_is)
    (case c__law_heard => k_is)
    (case k__law_heard => k_is)
    (case a__law_are_refused => k_is)
    (case l__law_are_refused => k_is)
    (case c__law_are_refused => k_is)
    (case k__law_are_refused => k_is)
    (case x__law_are_refused => k_is)
    (case y__law_are_refused => exact rfl)
    (case h__law_are_refused => kernel_rfl)
    (case z__law_are_refused => kernel_rfl)
    (case m__law_are_refused => exact hT _ (by simp))
    (case a_law => k_is)
    (case l_law => k_is)
    (case c_law => k_is)
    (case k_law => k_is)
    (case n_ValueError => k_is)
    (case n_all => k_is)
    (case n_bool => k_is)
    (case n_enumerate => k_is)
    (case n_int => k_is)
    (case n_isinstance => k_is)
    (case n_len => k_is)
    (case n_list => k_is)
    (case n_range => k_is)
    (case n_repr => k_is)
    (case n_sorted => k_is)
    (case n_tuple => k_is)
    (case n_zip => k_is)
    (case a_NotUsable => k_is)
    (case a_ShelfError => k_is)
    (case a_PaperError => k_is)
    (case a_HallError => k_is)
    (case a_LiveError => k_is)
    (case a_TextError => k_is)
    (case a_InvalidPaper => k_is)
    (case xL_NotUsable => k_is)
    (case xB_NotUsable => decide +kernel)
    (case sa_NotUsable => k_is)
    (case eC_NotUsable => k_is)
    (case tC_NotUsable => k_is)
    (case kC_NotUsable => k_is)
    (case iC_NotUsable => k_is)
    (case tI_NotUsable => k_is)
    (case lI_NotUsable => k_is)
    (case cI_NotUsable => k_is)
    (case kI2_NotUsable => k_is)
    (case no_NotUsable_0 => k_is)
    (case no_NotUsable_1 => k_is)
    (case e1_NotUsable => k_is)
    (case e2_NotUsable => k_is)
    (case e3_NotUsable => k_is)
    (case e4_NotUsable => k_is)
    (case e5_NotUsable => k_is)
    (case xf_NotUsable_at => k_is)
    (case xf_NotUsable_word => k_is)
    (case is_NotUsable_HallError => kernel_rfl)
    (case is_NotUsable_InvalidPaper => kernel_rfl)
    (case is_NotUsable_LiveError => kernel_rfl)
    (case is_NotUsable_NotUsable => kernel_rfl)
    (case is_NotUsable_PaperError => kernel_rfl)
    (case is_NotUsable_TextError => kernel_rfl)
    (case is_NotUsable_ValueError => kernel_rfl)
    (case ct_NotUsable_ShelfError => kernel_rfl)
    (case e6 => k_is)
    (case e7 => k_is)

