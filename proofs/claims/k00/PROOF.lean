import PyProof.Rows.All
import Wide.All
import OpenK.AllK
import Wide.FinOn
import HandS.ForMost
import HandS.Wide
import HandS.IsInst
import HandS.SortInts
import HandS.Codes
import HandS.Walk
import HandS.Conv
import HandS.TupAny
import HandS.TupMul
import HandS.Style
import HandS.Lambda
import HandS.EndTab
import HandS.WordsExc
import KE.KSortedM
import KE.KExcInit
import PySem.Challenge.RW_textmovers_k00_names_texts_and_turns
import HandS.EndOwn
import KE.KNest
set_option Elab.async false
set_option linter.all false
set_option maxRecDepth 100000
set_option maxHeartbeats 2000000
namespace My
open PySem PySem.Spec PyProof.Rows L2
/-- a ** n of ints of any size, together below 2 ^ 27 bits -/
def CPowB (i j : Int) : Prop := 0 ≤ j ∧ (Builtin.Int.intBits i : Int) * j ≤ 2 ^ 27
theorem op_powB {X : Cx} : OpR X (binaryOp .Pow) (rI CPowB fun i j => .int (i ^ j.toNat)) := opI fun _ _ _ _ _ _ _ hc q => pow_int hc.1 hc.2 q
/-! ### heaps -/
theorem Same.new {H H' : Hp} {p : Addr} {o : HO} (s : Same H H') (h : H' p = none) : Same H (upd H' p o) := fun b u e => by
  have q := s b u e
  rw [upd_ne (ne_of_none q h)]
  exact q
theorem same_new {H : Hp} {p : Addr} {o : HO} (h : H p = none) : Same H (upd H p o) := Same.new (Same.refl H) h
/-- a list that is being made is written again -/
theorem Same.lst {H : Hp} {D : Addr} {o : HO} (h : H D = none) : Same H (upd H D o) := same_new h
/-! ### comprehensions whose turns change nothing else -/
theorem take_snoc {α : Type} : ∀ {l : List α} {i : Nat} {x : α}, l[i]? = some x → l.take (i + 1) = l.take i ++ [x]
  | [], i, x, h => by simp at h
  | a :: l, 0, x, h => by
    have e : a = x := by simpa using h
    simp [e]
  | a :: l, i + 1, x, h => by
    have ih := take_snoc (l := l) (i := i) (x := x) (by simpa using h)
    simp [ih]
theorem tyes_if {σ : L2.St} {H : Hp} {F G : Hp → Prop} (h : F H) : tYes σ H (fun b H3 => if b = true then F H3 else G H3) := by
  show (if true = true then F H else G H)
  rw [if_pos rfl]
  exact h
theorem perm_erase {α : Type} : ∀ {l : List α} {i : Nat} (h : i < l.length), (l[i] :: l.eraseIdx i).Perm l
  | [], i, h => absurd h (by simp)
  | a :: l, 0, h => List.Perm.refl _
  | a :: l, i + 1, h => by
    have ih := perm_erase (l := l) (i := i) (by simpa using h)
    show ((l[i]'(by simpa using h)) :: a :: l.eraseIdx i).Perm (a :: l)
    exact (List.Perm.swap a _ _).trans (ih.cons a)
theorem wipe1 (σ : L2.St) (j : Nat) (v : Option V) : wipe ((wipe σ [j]).set j v) [j] = wipe σ [j] := by
  show ((σ.set j none).set j v).set j none = σ.set j none
  rw [List.set_set, List.set_set]
section
variable {J : It} {G : Hp → Prop} {xs : List V} {tt : TT} {te : TE} {σ : L2.St} {H1 : Hp} {D : Addr} {Qd : Hp → Prop} {j : Nat}
theorem lc_fm (w : Walk J xs.length G (YAt xs)) (p : V → Bool) (f : V → V) (hn : xs.length ≤ 100000) (hG : ∀ ys, G (upd H1 D (.lst ys)))
    (ht : ∀ x ∈ xs, ∀ ys (R : Bool → Hp → Prop), R (p x) (upd H1 D (.lst ys)) → tt ((wipe σ [j]).set j (some x)) (upd H1 D (.lst ys)) R)
    (he : ∀ x ∈ xs, p x = true → ∀ ys (R : VK), R (f x) (upd H1 D (.lst ys)) → te ((wipe σ [j]).set j (some x)) (upd H1 D (.lst ys)) R)
    (hd : Qd (upd H1 D (.lst ((xs.filter p).map f)))) :
    ∃ W : Nat → Nat → Hp → Prop, (∃ m, W 0 m (upd H1 D (.lst []))) ∧ ∀ i m H, W i m H →
      (J.stop i H ∧ Qd H) ∨ (J.go i H ∧ ∃ Nx : Hp → Prop, (∀ H', Nx H' → ∃ m', m' < m ∧ W (i + 1) m' H') ∧ ∀ x H', J.yld i H x H' → gName j x (wipe σ [j]) H' fun σ2 H2 => wipe σ2 [j] = wipe σ [j] ∧ tt σ2 H2 fun b H3 =>
        if b = true then te σ2 H3 fun y H4 => ∃ acc, H4 D = some (.lst acc) ∧ acc.length < sizeLine ∧ Nx (upd H4 D (.lst (acc ++ [y]))) else Nx H3) := by
  refine lc_it w (Pv := fun i H => H = upd H1 D (.lst (((xs.take i).filter p).map f))) rfl (fun i H _ e => by rw [e]; exact hG _) ?_ (fun H e => by rw [e, List.take_length]; exact hd)
  rintro i x H H' hi rfl ⟨rfl, hx⟩
  have hm : x ∈ xs := List.mem_of_getElem? hx
  have hs := take_snoc hx
  refine ⟨wipe1 σ j _, ht x hm _ _ ?_⟩
  have hlen : (((xs.take i).filter p).map f).length < sizeLine := by
    rw [List.length_map, sizeLine_eq]
    have := List.length_filter_le p (xs.take i)
    have := List.length_take_le i xs
    omega
  cases hp : p x with
  | true =>
    refine iteT (he x hm hp _ _ ⟨_, upd_same, hlen, ?_⟩)
    show upd (upd H1 D _) D _ = upd H1 D _
    rw [upd_upd, hs, List.filter_append, List.map_append]
    simp [hp]
  | false =>
    refine iteF ?_
    show upd H1 D _ = upd H1 D _
    rw [hs, List.filter_append, List.map_append]
    simp [hp]
/-- all are taken -/
theorem lc_m (w : Walk J xs.length G (YAt xs)) (f : V → V) (hn : xs.length ≤ 100000) (hG : ∀ ys, G (upd H1 D (.lst ys)))
    (he : ∀ x ∈ xs, ∀ ys (R : VK), R (f x) (upd H1 D (.lst ys)) → te ((wipe σ [j]).set j (some x)) (upd H1 D (.lst ys)) R)
    (hd : Qd (upd H1 D (.lst (xs.map f)))) :
    ∃ W : Nat → Nat → Hp → Prop, (∃ m, W 0 m (upd H1 D (.lst []))) ∧ ∀ i m H, W i m H →
      (J.stop i H ∧ Qd H) ∨ (J.go i H ∧ ∃ Nx : Hp → Prop, (∀ H', Nx H' → ∃ m', m' < m ∧ W (i + 1) m' H') ∧ ∀ x H', J.yld i H x H' → gName j x (wipe σ [j]) H' fun σ2 H2 => wipe σ2 [j] = wipe σ [j] ∧ tYes σ2 H2 fun b H3 =>
        if b = true then te σ2 H3 fun y H4 => ∃ acc, H4 D = some (.lst acc) ∧ acc.length < sizeLine ∧ Nx (upd H4 D (.lst (acc ++ [y]))) else Nx H3) :=
  lc_fm w (fun _ => true) f hn hG (fun _ _ _ _ r => r) (fun x hx _ => he x hx) (by rw [List.filter_eq_self.mpr (fun _ _ => rfl)]; exact hd)
end
/-- the signs of a text, each a text -/
def signs (z : Str) : List V := z.cps.toList.map fun c => .str ⟨#[c]⟩
theorem signs_len (z : Str) : (signs z).length = z.length := by simp [signs, Str.length]
theorem walk_signs {z : Str} : Walk (Its z) (signs z).length (fun _ => True) (YAt (signs z)) := by
  have w : Walk (Its z) z.cps.size (fun _ => True) (fun i H v H' => H' = H ∧ ∃ c, z.cps[i]? = some c ∧ v = .str ⟨#[c]⟩) := walk_str
  have e : (signs z).length = z.cps.size := by simp [signs]
  rw [e]
  refine w.mono (fun _ h => h) fun i H x H' hi _ ⟨h1, c, h2, h3⟩ => ⟨h1, ?_⟩
  unfold signs
  rw [List.getElem?_map, Array.getElem?_toList, h2, h3]
  rfl
/-- the ints lo, lo + 1, .. -/
def rng (lo : Int) (n : Nat) : List V := (List.range n).map fun (i : Nat) => .int (lo + i)
theorem rng_len (lo : Int) (n : Nat) : (rng lo n).length = n := by simp [rng]
theorem walk_rng {lo : Int} {n : Nat} : Walk (Itr lo n) (rng lo n).length (fun _ => True) (YAt (rng lo n)) := by
  rw [rng_len]
  refine walk_range.mono (fun _ h => h) fun i H x H' hi _ ⟨h1, h2⟩ => ⟨h1, ?_⟩
  unfold rng
  rw [List.getElem?_map, List.getElem?_range hi, h2]
  rfl
/-! ### rules told of a written part by its name -/
section
variable {X : Cx} (K : PySem.W.Frag)
theorem ixL (h : X.K = K := by rfl) : IxR X (rIxL K) := h ▸ ix_list
theorem ixT (h : X.K = K := by rfl) : IxR X (rIxT K) := h ▸ ix_tup
theorem ixU (h : X.K = K := by rfl) : IxR X (rIx K) := h ▸ ix_seq
theorem slL (h : X.K = K := by rfl) : SlR X (rSlL K) := h ▸ sl_list
theorem slT (h : X.K = K := by rfl) : SlR X (rSlA K) := h ▸ sl_tupA
def rLenS (K : PySem.W.Frag) : List V → Hp → VK → Prop := fun xs H Q => ∃ p ys, xs = [.ref p] ∧ (SqL K H p ys ∨ SqT K H p ys) ∧ Q (.int ys.length) H
theorem lenS (h : X.K = K := by rfl) : CallR X (.builtin "len") (rLenS K) := h ▸ call_len_seq
def rLenU (K : PySem.W.Frag) : List V → Hp → VK → Prop := fun xs H Q => ∃ x n, xs = [x] ∧ LenV K x H n ∧ Q (.int n) H
theorem lenU (h : X.K = K := by rfl) : CallR X (.builtin "len") (rLenU K) := h ▸ call_len
theorem sumK (hc : X.calm = true) (h : X.K = K := by rfl) : CallR X (.builtin "sum") (rSum K) := h ▸ cr_sum hc
theorem allK (hc : X.calm = true) (h : X.K = K := by rfl) : CallR X (.builtin "all") (rAll K) := h ▸ cr_all hc
def rListOf (K : PySem.W.Frag) : List V → Hp → VK → Prop := fun xs H Q => ∃ p ys, xs = [.ref p] ∧ (SqL K H p ys ∨ SqT K H p ys) ∧ ∀ l, H l = none → Q (.ref l) (upd H l (.lst ys))
theorem listK (h : X.K = K := by rfl) : CallR X (.type "list") (rListOf K) := h ▸ call_list_of
def rTupOf (K : PySem.W.Frag) : List V → Hp → VK → Prop := fun xs H Q => ∃ p ys, xs = [.ref p] ∧ ((SqL K H p ys ∧ ∀ l, H l = none → Q (.ref l) (upd H l (.tup ys))) ∨ (SqT K H p ys ∧ Q (.ref p) H))
theorem tupK (h : X.K = K := by rfl) : CallR X (.type "tuple") (rTupOf K) := h ▸ call_tuple_of
theorem isiK (h : X.K = K := by rfl) : CallR X (.builtin "isinstance") (rIsi K) := h ▸ call_isi
theorem inK (h : X.K = K := by rfl) : OpR X (compareOp .In) (rIn K false) := h ▸ op_in_seq
theorem notInK (h : X.K = K := by rfl) : OpR X (compareOp .NotIn) (rIn K true) := h ▸ op_notIn_seq
theorem eqK (hu : X.A.units + 64 < cLine) (h : X.K = K := by rfl) : OpR X (compareOp .Eq) (rEqD K) := h ▸ op_eqD hu
theorem neK (hu : X.A.units + 64 < cLine) (h : X.K = K := by rfl) : OpR X (compareOp .NotEq) (rNeD K) := h ▸ op_neD hu
theorem catT (h : X.K = K := by rfl) : OpR X (binaryOp .Add) (rCatA K) := h ▸ op_catA
theorem repT (h : X.K = K := by rfl) : OpR X (binaryOp .Mult) (rRepT K) := h ▸ op_repT
theorem piL {l tg : Expr} {tl : TE} (hl : PE X l tl) (h : X.K = K := by rfl) : PI X tg l (iList K tl) := h ▸ pi_list hl
theorem piT {l tg : Expr} {tl : TE} (hl : PE X l tl) (h : X.K = K := by rfl) : PI X tg l (iTup K tl) := h ▸ pi_tup hl
theorem bmK {T : String} {r : V → List V → Hp → VK → Prop} {id : String} {name : Str} {o e : Expr} {es : List Expr} {to : TE} {t : TA} {apos cpos : Pos} (pa : PlainAttrs T) (slot : Slot T name id) (hty : typeOf (.builtin id) = pure (.type "method_descriptor")) (hm : MtR X id r) (ho : PE X o to) (ha : PA X (e :: es) t)
    (h : X.K = K := by rfl) (hbase : attributeBase o name X.env (eval o X.env) = eval o X.env := by rfl)
    (hfew : ((backTo cpos (starEach (e :: es) X.env)).all (fun x => !x.1) && (backToKw cpos (keywordEach [] X.env)).all (fun x => x.1.isSome)
      && decide ((e :: es).length + ([] : List Keyword).length + (if ([] : List Keyword).isEmpty then 0 else 1) < 30)) = true := by rfl)
    (hline : (apos.endLine == cpos.line) = true := by rfl) (hs : starEach (e :: es) X.env = (false, eval e X.env) :: starEach es X.env := by rfl) (hplain : (backTo cpos (starEach es X.env)).any (·.1) = false := by rfl) :
    PE X (.Call (.Attribute o name apos) (e :: es) [] cpos) (tBM K T r to t) := h ▸ pe_bm pa slot hty hm ho ha hbase hfew hline hs hplain
end
/-! ### an expression, then a word on its value -/
def tCutE (t : TE) : TE := fun σ H Q => ∃ R : VK, t σ H R ∧ ∀ v H', R v H' → Q v H'
theorem pe_cut {X : Cx} {e : Expr} {t : TE} (he : PE X e t) : PE X e (tCutE t) := by
  refine ⟨fun pins s σ H Q I h => ?_⟩
  obtain ⟨R, h1, h2⟩ := h
  exact thn (he.run pins s σ H R I h1) fun u s1 ⟨v, H1, I1, r1, q1⟩ => ⟨v, H1, I1, r1, h2 v H1 q1⟩
/-! ### flat values as data -/
def dat : V → PyData
  | .bl b => .bool b
  | .int i => .int i
  | .str x => .str x
  | _ => .none
theorem Dp_flat {K : PySem.W.Frag} {H : Hp} {v : V} (h : flatV v = true) : Dp K H v (dat v) := by
  cases v with
  | non => exact .non
  | bl b => exact .bl b
  | int i => exact .int i
  | str x => exact .str x
  | byt b => cases h
  | flt b => cases h
  | ref a => cases h
  | ty n => cases h
theorem Dp_flats {K : PySem.W.Frag} {H : Hp} : ∀ {xs : List V}, xs.all flatV = true → DpAll K H xs (xs.map dat)
  | [], _ => .nil
  | x :: xs, h => by
    rw [List.all_cons, Bool.and_eq_true] at h
    exact .cons (Dp_flat h.1) (Dp_flats h.2)
/-- ascii -/
def asc : V → Bool
  | .str z => z.cps.toList.all fun c => decide (c < 128)
  | _ => true
theorem lay_flat {v : V} (h : asc v = true) : (dat v).canLay0 = true := by
  cases v with
  | str z =>
    have h : (z.cps.toList.all fun c => decide (c < 128)) = true := h
    show PyData.canLay0 (.str z) = true
    unfold PyData.canLay0 PyData.strOk
    rw [Array.all_eq_true']
    intro c hc
    have := of_decide_eq_true (List.all_eq_true.mp h c (by simpa using hc))
    simp
    omega
  | _ => rfl
theorem lay_flats : ∀ {xs : List V}, xs.all asc = true → PyData.canLayAll0 (xs.map dat) = true
  | [], _ => by unfold PyData.canLayAll0; rfl
  | x :: xs, h => by
    rw [List.all_cons, Bool.and_eq_true] at h
    show PyData.canLayAll0 (dat x :: xs.map dat) = true
    unfold PyData.canLayAll0
    rw [lay_flat h.1, lay_flats h.2] <;> rfl
theorem depth_flats : ∀ {xs : List V}, PyData.depthAll (xs.map dat) = 0
  | [] => by unfold PyData.depthAll; rfl
  | x :: xs => by
    show PyData.depthAll (dat x :: xs.map dat) = 0
    unfold PyData.depthAll
    rw [depth_flats]
    cases x <;> rfl
theorem shaped_lst {xs : List V} (h : xs.all asc = true) : SeqAt.shaped (.list (xs.map dat)) = true := by
  unfold SeqAt.shaped
  have e1 : PyData.canLay0 (.list (xs.map dat)) = true := by
    unfold PyData.canLay0
    exact lay_flats h
  have e2 : PyData.depth (.list (xs.map dat)) ≤ 64 := by
    unfold PyData.depth
    rw [depth_flats]
    decide
  rw [e1, decide_eq_true e2] <;> rfl
theorem shaped_tup {xs : List V} (h : xs.all asc = true) : SeqAt.shaped (.tuple (xs.map dat)) = true := by
  unfold SeqAt.shaped
  have e1 : PyData.canLay0 (.tuple (xs.map dat)) = true := by
    unfold PyData.canLay0
    exact lay_flats h
  have e2 : PyData.depth (.tuple (xs.map dat)) ≤ 64 := by
    unfold PyData.depth
    rw [depth_flats]
    decide
  rw [e1, decide_eq_true e2] <;> rfl
theorem eqv_dat {x y : V} (hx : flatV x = true) (hy : flatV y = true) : PyData.eqv (dat x) (dat y) = eqV x y := by
  cases x <;> cases y <;> first | rfl | (cases hx; done) | (cases hy; done) | (unfold PyData.eqv; rfl)
/-- two lists of flat values are equal -/
def eqVs : List V → List V → Bool
  | [], [] => true
  | x :: xs, y :: ys => eqV x y && eqVs xs ys
  | _, _ => false
theorem eqv_dats : ∀ {xs ys : List V}, xs.all flatV = true → ys.all flatV = true → PyData.eqvAll (xs.map dat) (ys.map dat) = eqVs xs ys
  | [], [], _, _ => by unfold PyData.eqvAll eqVs; rfl
  | [], y :: ys, _, _ => by show PyData.eqvAll [] (dat y :: ys.map dat) = _; unfold PyData.eqvAll eqVs; rfl
  | x :: xs, [], _, _ => by show PyData.eqvAll (dat x :: xs.map dat) [] = _; unfold PyData.eqvAll eqVs; rfl
  | x :: xs, y :: ys, hx, hy => by
    rw [List.all_cons, Bool.and_eq_true] at hx hy
    show PyData.eqvAll (dat x :: xs.map dat) (dat y :: ys.map dat) = _
    unfold PyData.eqvAll eqVs
    rw [eqv_dat hx.1 hy.1, eqv_dats hx.2 hy.2]
theorem eqv_lst {xs ys : List V} (hx : xs.all flatV = true) (hy : ys.all flatV = true) : PyData.eqv (.list (xs.map dat)) (.list (ys.map dat)) = eqVs xs ys := by
  unfold PyData.eqv
  exact eqv_dats hx hy
theorem eqVs_nil {xs : List V} : eqVs xs [] = xs.isEmpty := by
  cases xs <;> rfl
theorem eqVs_ints : ∀ {a b : List Int}, eqVs (a.map V.int) (b.map V.int) = decide (a = b)
  | [], [] => rfl
  | [], y :: ys => rfl
  | x :: xs, [] => rfl
  | x :: xs, y :: ys => by
    show ((x == y) && eqVs (xs.map V.int) (ys.map V.int)) = _
    rw [eqVs_ints]
    by_cases h : x = y
    · by_cases h2 : xs = ys
      · rw [h, h2]; simp
      · simp [h2]
    · simp [h]
/-- == of a list and a written or made list of flat values -/
theorem rEq_lst {K : PySem.W.Frag} {H : Hp} {a b : Addr} {xs ys : List V} {Q : VK} (ha : SqL K H a xs) (hb : SqL K H b ys) (fx : xs.all flatV = true) (fy : ys.all flatV = true) (ax : xs.all asc = true) (ay : ys.all asc = true)
    (q : Q (.bl (eqVs xs ys)) H) : rEqD K (.ref a) (.ref b) H Q :=
  ⟨_, _, .lst ha (Dp_flats fx), .lst hb (Dp_flats fy), shaped_lst ax, shaped_lst ay, by rw [eqv_lst fx fy]; exact q⟩
theorem rNe_lst {K : PySem.W.Frag} {H : Hp} {a b : Addr} {xs ys : List V} {Q : VK} (ha : SqL K H a xs) (hb : SqL K H b ys) (fx : xs.all flatV = true) (fy : ys.all flatV = true) (ax : xs.all asc = true) (ay : ys.all asc = true)
    (q : Q (.bl (!eqVs xs ys)) H) : rNeD K (.ref a) (.ref b) H Q :=
  ⟨_, _, .lst ha (Dp_flats fx), .lst hb (Dp_flats fy), shaped_lst ax, shaped_lst ay, by rw [eqv_lst fx fy]; exact q⟩
/-! ### the urn of draws -/
def UrnL (xs : List V) : Prop := ∃ g m c : Int, xs = [.int g, .int m, .int c] ∧ 0 ≤ g ∧ 0 ≤ m ∧ m < 2 ^ 61 ∧ 0 ≤ c
def UrnOk (H : Hp) (u : Addr) : Prop := ∃ xs, H u = some (.lst xs) ∧ UrnL xs
/-- u is drawn from, all else is as it was -/
def Drew (u : Addr) (H H' : Hp) : Prop := UrnOk H' u ∧ ∀ b o, b ≠ u → H b = some o → H' b = some o
theorem Drew.of {u : Addr} {H H' : Hp} (h : UrnOk H u) (s : Same H H') : Drew u H H' := by
  obtain ⟨xs, h1, h2⟩ := h
  exact ⟨⟨xs, s _ _ h1, h2⟩, fun b o _ e => s b o e⟩
theorem Drew.trans {u : Addr} {H H1 H2 : Hp} (a : Drew u H H1) (b : Drew u H1 H2) : Drew u H H2 := ⟨b.1, fun c o n e => b.2 c o n (a.2 c o n e)⟩
theorem Drew.same {u : Addr} {H H1 H2 : Hp} (a : Drew u H H1) (b : Same H1 H2) : Drew u H H2 := a.trans (Drew.of a.1 b)
theorem Drew.new {u p : Addr} {H H1 : Hp} {o : HO} (a : Drew u H H1) (h : H1 p = none) : Drew u H (upd H1 p o) := a.same (same_new h)
theorem Drew.free {u p : Addr} {H H' : Hp} (a : Drew u H H') (h : H' p = none) : H p = none := by
  cases q : H p with
  | none => rfl
  | some o =>
    obtain ⟨xs, h1, _⟩ := a.1
    have n : p ≠ u := fun z => by
      rw [z, h1] at h
      cases h
    rw [a.2 p o n q] at h
    cases h
theorem Drew.seq {K : PySem.W.Frag} {u a : Addr} {H H' : Hp} {xs : List V} (d : Drew u H H') (n : a ≠ u) (h : SqL K H a xs) : SqL K H' a xs := by
  rcases h with (h | ⟨o, h⟩) | h
  · exact .inl (.inl (d.2 _ _ n h))
  · exact .inl (.inr ⟨o, d.2 _ _ n h⟩)
  · exact .inr h
theorem Drew.seqT {K : PySem.W.Frag} {u a : Addr} {H H' : Hp} {xs : List V} (d : Drew u H H') (n : a ≠ u) (h : SqT K H a xs) : SqT K H' a xs := by
  rcases h with (h | ⟨o, h⟩) | h
  · exact .inl (.inl (d.2 _ _ n h))
  · exact .inl (.inr ⟨o, d.2 _ _ n h⟩)
  · exact .inr h
theorem UrnOk.ne {H : Hp} {u p : Addr} (h : UrnOk H u) (n : H p = none) : p ≠ u := fun z => by
  obtain ⟨xs, h1, _⟩ := h
  rw [z, h1] at n
  cases n
theorem get_map {ns : List Int} {i : Nat} (h : i < ns.length) : (ns.map V.int)[i]? = some (.int ns[i]) := by
  simp [h]
theorem cut_first (xs : List Int) : cutV (xs.map V.int) none (some 1) = (xs.take 1).map V.int := by
  cases xs with
  | nil => rfl
  | cons a l =>
    simp [cutV, HT.sIx]
    try omega
theorem pow_pos_ : (0 : Int) < (10 ^ (53 : Int).toNat) ^ (11 : Int).toNat := by decide +kernel
def spUrn (K : PySem.W.Frag) : Sp := fun vs H Q _ => ∃ (a : Addr) (ns : List Int) (k : Int), vs = [.ref a, .int k] ∧ SqL K H a (ns.map V.int) ∧ 0 ≤ k ∧
  ∀ H' p, Same H H' → H p = none → UrnOk H' p → Q (.ref p) H'
def spDip : Sp := fun vs H Q _ => ∃ (u : Addr) (t : Int), vs = [.ref u, .int t] ∧ UrnOk H u ∧ 0 < t ∧ t.natAbs < 2 ^ 8000 ∧
  ∀ H' r, Drew u H H' → 0 ≤ r → r < t → Q (.int r) H'
/-- an item of a list or a sign of a text is drawn -/
def spOneOf (K : PySem.W.Frag) : Sp := fun vs H Q _ => ∃ (u : Addr), UrnOk H u ∧
  ((∃ (a : Addr) (xs : List V), vs = [.ref u, .ref a] ∧ a ≠ u ∧ SqL K H a xs ∧ 0 < xs.length ∧ xs.length ≤ 1000000 ∧ ∀ H' x, Drew u H H' → x ∈ xs → Q x H') ∨
   (∃ z : Str, vs = [.ref u, .str z] ∧ 0 < z.length ∧ z.length ≤ 1000000 ∧ ∀ H' c, Drew u H H' → c ∈ z.cps.toList → Q (.str ⟨#[c]⟩) H'))
/-- a list's items in another order -/
def spShuffled (K : PySem.W.Frag) : Sp := fun vs H Q _ => ∃ (u a : Addr) (xs : List V), vs = [.ref u, .ref a] ∧ UrnOk H u ∧ a ≠ u ∧ SqL K H a xs ∧ xs.length ≤ 1000 ∧
  ∀ H' p ys, Drew u H H' → H p = none → H' p = some (.lst ys) → ys.Perm xs → Q (.ref p) H'
theorem small_abs {t : Int} {n : Nat} (h0 : 0 ≤ t) (h : t ≤ n) (hn : n < 2 ^ 8000) : t.natAbs < 2 ^ 8000 := by omega
theorem atI_of {xs : List V} {r : Int} (h0 : 0 ≤ r) (h1 : r < xs.length) : atI xs r = some (xs[r.toNat]'(by omega)) :=
  at_of (j := r.toNat) (by omega) (List.getElem?_eq_getElem (by omega))
theorem atC_of {xs : List Nat} {r : Int} (h0 : 0 ≤ r) (h1 : r < xs.length) : atI xs r = some (xs[r.toNat]'(by omega)) := by
  have e : ixN xs.length r = some r.toNat := by
    unfold ixN
    rw [if_pos h0, if_pos h1]
  unfold atI
  rw [e]
  exact List.getElem?_eq_getElem (by omega)
end My

set_option Elab.async false
set_option linter.all false
set_option maxRecDepth 100000
set_option maxHeartbeats 4000000
/-! ### sorted(t), t a tuple of ints -/
namespace PyProof.Rows
open PySem PySem.Spec PySem.Calls
namespace TupSort
section
variable {prog : Program} {w : World} {A : Around} {E : Value → Shared → Prop} {s : Shared}
theorem collected {a : Addr} {o : Obj} {vs : List Value} {n : Nat} {Q : List Value → Shared → Prop} (e1 : s.heap.get? a = some o) (e2 : o.cls = .type "tuple") (e3 : o.data = .seq vs.toArray n) (e4 : vs.length ≤ sizeLine)
    (q : Q vs { s with heap := (s.heap.push (seqObj "list" #[] 0)).update s.heap.objs.size (Obj.mapSeq (· ++ vs.toArray)) }) : wpAny (model prog w) A (collect (.ref a)) Q E s := by
  unfold collect
  refine (wpAny_bind (wpAny_runValue (codeAny_builtin entry_proto_collect' ?_)))
  show wpAny _ _ (do again (.builtin "list.__iadd__" ⟨[← newList [], Value.ref a], []⟩)) _ _ s
  refine (wpAny_bind (wpAny_newList (wpAny_pure ⟨Code.quiet_builtin _ (by decide +kernel), codeAny_builtin entry_list_iadd' ?_⟩)))
  show wpAny _ _ (Builtin.List.listExtendWith (Value.ref s.heap.objs.size) (Value.ref a) (Value.ref s.heap.objs.size)) _ _ { s with heap := s.heap.push (seqObj "list" #[] 0) }
  unfold Builtin.List.listExtendWith
  have e5 : (s.heap.push (seqObj "list" #[] 0)).get? a = some o := Heap.get?_push_of_some _ e1
  refine wpAny_bind (wpAny_typeOf (T := "tuple") ⟨o, e5, e2⟩ ?_)
  rw [if_pos (by first | rfl | decide | simp)]
  refine wpAny_bind (listItems_at e5 e3 ?_)
  refine wpAny_bind (listItems_at (xs := #[]) (n := 0) (Heap.get?_push_size _ (by rfl)) (by rfl) ?_)
  rw [if_neg (fun z => by simp at z)]
  refine wpAny_bind (listUpdate_at (n := 0) (xs := #[]) (Heap.get?_push_size _ (by rfl)) (by rfl) ?_ (Nat.zero_le _) (by show (#[] ++ vs.toArray).size ≤ sizeLine + 1; simp only [Array.size_append, List.size_toArray, List.length_nil]; omega))
  refine (wpAny_pure ?_)
  show wpAny (model prog w) A (do
      let o ← load s.heap.objs.size
      match o.data with
      | Data.seq xs _ => pure xs.toList
      | _ => unsupported "internal:collect") Q E _
  refine wpAny_bind (wpAny_load (get?_update_seq (Heap.get?_push_size _ (by rfl)) _) ?_)
  show wpAny _ _ (pure ((#[] : Array Value) ++ vs.toArray).toList) Q E _
  have e6 : ((#[] : Array Value) ++ vs.toArray).toList = vs := by simp
  rw [e6]
  exact (wpAny_pure q)
theorem sortedT {a : Addr} {o : Obj} {vs : List Value} {ns : List Int} {n : Nat} {Q : Value → Shared → Prop} (e1 : s.heap.get? a = some o) (e2 : o.cls = .type "tuple") (e3 : o.data = .seq vs.toArray n) (hI : IntsAre vs ns) (h64 : vs.length < 64)
    (q : ∀ (out : Array Value) (ns' : List Int), IntsAre out.toList ns' → ns'.Perm ns → ns'.Pairwise (· ≤ ·) → Q (.ref (s.heap.objs.size + 1)) { s with heap := sortedAll s.heap vs out }) :
    wpAny (model prog w) A (call (.builtin "sorted") [.ref a]) Q E s := by
  refine (Calls.call_function_entry kind_sorted plain_sorted entry_sorted (args_sorted1 _) ?_)
  unfold Builtin.«sorted»
  refine (wpAny_bind (m := checkCount "sorted" 1 1 _) (wpAny_pure ?_))
  refine wpAny_bind (collected e1 e2 e3 (by rw [sizeLine_eq]; omega) ?_)
  refine (wpAny_bind (wpAny_newList ?_))
  have z1 : ((s.heap.push (seqObj "list" #[] 0)).update s.heap.objs.size (Obj.mapSeq (· ++ vs.toArray))).objs.size = s.heap.objs.size + 1 := by rw [Heap.size_update, size_push']
  have z2 : (((s.heap.push (seqObj "list" #[] 0)).update s.heap.objs.size (Obj.mapSeq (· ++ vs.toArray))).push (seqObj "list" vs.toArray 0)).get? (s.heap.objs.size + 1) = some (seqObj "list" vs.toArray 0) := by rw [← z1]; exact Heap.get?_push_size _ rfl
  show wpAny _ _ _ _ _ (Shared.mk (((s.heap.push (seqObj "list" #[] 0)).update s.heap.objs.size (Obj.mapSeq (· ++ vs.toArray))).push (seqObj "list" vs.toArray 0)) _ _ _ _)
  rw [z1]
  refine wpAny_bind (wpAny_holding (wpAny_call_entry slot_list_sort ⟨_, z2, rfl⟩ entry_list_sort (list_sort_tree z2 hI h64 fun out ns' b1 b2 b3 => ⟨_, rfl, ?_⟩) (args_list_sort _)))
  exact (wpAny_pure ⟨_, rfl, q out ns' b1 b2 b3⟩)
end
end TupSort
end PyProof.Rows
namespace My
open PySem PySem.Spec PyProof.Rows L2
def rSortT (K : PySem.W.Frag) : List V → Hp → VK → Prop := fun vs H Q => ∃ (a : Addr) (ns : List Int), vs = [V.ref a] ∧ SqT K H a (ns.map V.int) ∧ ns.length < 64 ∧
  ∀ (ns' : List Int) (p : Addr), ns'.Perm ns → ns'.Pairwise (· ≤ ·) → H p = none → Q (.ref p) (upd H p (.lst (ns'.map V.int)))
theorem sortT {X : Cx} (K : PySem.W.Frag) (hK : X.K = K := by rfl) : CallR X (.builtin "sorted") (rSortT K) := by
  subst hK
  intro pins s σ H vs us Q I r h
  obtain ⟨a, ns, rfl, hs, h64, q⟩ := h
  obtain ⟨its, rv, hl, _⟩ := I.tuple hs
  rw [Vals.ref1 r]
  obtain ⟨o, ho, hc, n, hd⟩ := hl
  have hi := rv.ints
  refine TupSort.sortedT ho hc hd hi (by rw [hi.length]; exact h64) fun out ns' h1 h2 h3 => ?_
  obtain ⟨ep, he'⟩ := PyProof.Rows.sortedAll_at s.heap its out
  refine ⟨.ref _, upd H (s.heap.objs.size + 1) (.lst (ns'.map V.int)), I.laid (t' := s.toks) (fun _ _ => PyProof.Rows.sortedAll_old) (Nat.le_succ _) ⟨?_, out.toList, ep, vals_of_ints h1, he'⟩, rfl, q ns' _ h2 h3 (I.hok.fresh (Nat.le_succ _))⟩
  rw [List.length_map, h2.length_eq, sizeLine_eq]
  omega
/-! ### an arrangement of 0, 1, .. -/
theorem perm_of_sub : ∀ {l ns : List Int}, l.Nodup → (∀ x ∈ l, x ∈ ns) → l.length = ns.length → l.Perm ns
  | [], ns, _, _, hl => by
    have e : ns = [] := List.eq_nil_of_length_eq_zero (by simpa using hl.symm)
    rw [e]
  | a :: l, ns, hn, hs, hl => by
    obtain ⟨h1, h2⟩ := List.nodup_cons.mp hn
    have ha : a ∈ ns := hs a List.mem_cons_self
    have p := List.perm_cons_erase ha
    have ih := perm_of_sub (l := l) (ns := ns.erase a) h2 (fun x hx => by
      have ne : x ≠ a := fun z => h1 (z ▸ hx)
      exact (List.mem_erase_of_ne ne).mpr (hs x (List.mem_cons_of_mem _ hx))) (by rw [List.length_erase_of_mem ha, ← hl]; simp)
    exact (ih.cons a).trans p.symm
def upto (n : Nat) : List Int := (List.range n).map fun (i : Nat) => (i : Int)
theorem upto_len (n : Nat) : (upto n).length = n := by simp [upto]
theorem mem_upto {n : Nat} {z : Int} : z ∈ upto n ↔ 0 ≤ z ∧ z < n := by
  unfold upto
  rw [List.mem_map]
  constructor
  · rintro ⟨i, hi, rfl⟩
    have := List.mem_range.mp hi
    omega
  · intro ⟨h0, h1⟩
    exact ⟨z.toNat, List.mem_range.mpr (by omega), by omega⟩
theorem upto_nodup (n : Nat) : (upto n).Nodup := by
  unfold upto
  rw [List.nodup_iff_pairwise_ne]
  exact List.Pairwise.map _ (fun a b h => by omega) (List.nodup_range (n := n))
theorem upto_up (n : Nat) : (upto n).Pairwise (· ≤ ·) := by
  unfold upto
  exact List.Pairwise.map _ (fun a b h => by omega) (List.pairwise_lt_range (n := n))
/-- sorted as 0, 1, .. just if as many and each is there -/
theorem sorted_upto {ns ns' : List Int} {n : Nat} (hp : ns'.Perm ns) (hu : ns'.Pairwise (· ≤ ·)) : decide (ns' = upto n) = (decide (ns.length = n) && (upto n).all fun l => decide (l ∈ ns)) := by
  by_cases h : ns.length = n ∧ ∀ l ∈ upto n, l ∈ ns
  · have p : (upto n).Perm ns := perm_of_sub (upto_nodup n) h.2 (by rw [upto_len, h.1])
    have e : ns' = upto n := PySem.W.ksm_same (hp.trans p.symm) hu (upto_up n)
    rw [decide_eq_true e, decide_eq_true h.1, Bool.true_and]
    exact (List.all_eq_true.mpr fun l hl => decide_eq_true (h.2 l hl)).symm
  · have ne : ¬ ns' = upto n := fun z => h ⟨by rw [← hp.length_eq, z, upto_len], fun l hl => hp.mem_iff.mp (z ▸ hl)⟩
    rw [decide_eq_false ne]
    cases q : (decide (ns.length = n) && (upto n).all fun l => decide (l ∈ ns)) with
    | false => rfl
    | true =>
      rw [Bool.and_eq_true, decide_eq_true_eq, List.all_eq_true] at q
      exact absurd ⟨q.1, fun l hl => of_decide_eq_true (q.2 l hl)⟩ h
end My

set_option Elab.async false
set_option linter.all false
set_option maxRecDepth 100000
set_option maxHeartbeats 4000000
/-! ### the first field of a new exception of an own class over any built-in error -/
namespace PySem
namespace ExAny
open PySem.W PySem.Calls PyProof.Rows PySem.HandSPX
section
open Builtin Builtin.ObjectAttr
variable {prog : Program} {w : World} {A : Around} {E : Value → Shared → Prop} {R : Result → Shared → Prop} {hp : Heap} {g : Array GenState} {d : Drawn} {t : Nat} {os : OsState}
theorem first_field {B : String} {bmB : List Value} {K : Frag} {f : Str} {tk : Tok} {v : Value} {x C : Addr} {fv : Array Value} {cd : ClassData} (SF : StoreFacts B bmB "object.__setattr__" "object")
    (X : K.In hp) (ex : hp.get? x = some { cls := .ref C, data := .fields fv }) (ec : clsIn K C = some cd) (eh : cd.hasDict = true) (eo : excOver K C bmB = true) (no : findIn K (.ref C) f = some none)
    (q : ∀ h' tk' dx, (∀ b o, b ≠ x → hp.get? b = some o → h'.get? b = some o) → hp.objs.size ≤ dx → dx ≠ x → h'.get? x = some { cls := .ref C, dict := some dx, data := .fields fv } →
      h'.Ns1 dx (fun y => if y = f then some v else none) → R (.ok (.ret .none)) ⟨h', g, d, tk', os⟩) :
    codeAny (model prog w) A (.call (.builtin "object.__setattr__") ⟨[.ref x, .str f tk, v], []⟩) R ⟨hp, g, d, t, os⟩ := by
  have tk0 : takerIn K C f = some none := by
    unfold takerIn
    rw [no] <;> rfl
  have xs : x ≠ hp.objs.size := Nat.ne_of_lt (Heap.lt_size ex)
  refine osa_openX (s := ⟨hp, g, d, t, os⟩) SF X (⟨ex, rfl, rfl, trivial⟩ : InstAt hp x { cls := .ref C, data := .fields fv } C none) eo tk0 (fun b => ?_)
  have lc : Looks (model prog w) hp (classData C) cd := looks_clsIn X ec
  obtain ⟨nm, bs, mro, ns, qn, hd, sn, sb, ab, col, dl⟩ := cd
  dsimp only at eh
  subst eh
  show wpAny _ _ (storeInOwnDict (.ref x) (.ref C) (.str f tk) f v b) _ _ _
  unfold storeInOwnDict ownDictForStores
  repeat (first | with_reducible refine store_in_new ?_ ?_ | with_reducible refine wpAny_loadPart_at ex ?_ | with_reducible refine lc.at ?_ | wp_step)
  · exact ⟨_, #[], _, Eq.trans (Heap.get?_update_ne _ _ _ _ xs.symm) (Heap.get?_push_at rfl rfl), rfl, fun e he => absurd he (by simp), fun _ => rfl⟩
  · intro h' tk' n1 sb
    have e1 : (hp.push { cls := .type "dict", data := .dict #[] }).get? x = some { cls := .ref C, data := .fields fv } := Heap.get?_push_of_some _ ex
    refine q h' tk' hp.objs.size (fun b o nb ho => ?_) (Nat.le_refl _) xs.symm (Eq.trans (sb.2 x xs) (Heap.get?_update_self _ e1 rfl)) n1
    exact Eq.trans (sb.2 b (Nat.ne_of_lt (Heap.lt_size ho))) (Eq.trans (Heap.get?_update_ne _ _ _ _ nb) (Heap.get?_push_of_some _ ho))
end
end ExAny
end PySem

set_option Elab.async false
set_option linter.all false
set_option maxRecDepth 100000
set_option maxHeartbeats 4000000
namespace PySem
namespace ExInvalidNumber
abbrev bmInvalidNumber : List Value := [.type "IndexError", .type "LookupError", .type "Exception", .type "BaseException", .type "object"]
open PySem.W PySem.Calls PyProof.Rows PySem.HandSPX
/-! ### the text of __init__ -/
def iA (p1 p2 : Pos) : Arguments := { posonlyargs := [], args := [{ arg := "self", annotation := none, pos := p1 }, { arg := "value", annotation := none, pos := p2 }], vararg := none, kwonlyargs := [], kw_defaults := [], kwarg := none, defaults := [] }
def iB (q1 q2 q3 q4 : Pos) : List Stmt := [.Assign [.Attribute (.Name "self" q1) "value" q2] (.Name "value" q3) q4]
def iS : Scope := { kind := .function, names := [(PySem.Str.ofString "self", .local), (PySem.Str.ofString "value", .local)], isGenerator := false, isCoroutine := false, more := [] }
/-- what the written part says of Low, at C, and of its __init__, at fI -/
structure TxtInvalidNumber (K : Frag) (mg : Str → Option Value) (C fI : Addr) : Prop where
  gC : mg "InvalidNumber" = some (.ref C)
  cls : ∃ nm q N bs bm sn sub ab col dd k0 k1 k2 k3 k5, K.lookup C = some (excClassObj nm q C N bs bm true sn sub ab col dd k0 k1 k2 k3 k5 "IndexError.__new__") ∧ excTail bmInvalidNumber bm = true
  sa : findIn K (.ref C) "__setattr__" = some (some (.builtin "object.__setattr__"))
  ga : findIn K (.ref C) "__getattribute__" = some (some (.builtin "BaseException.__getattribute__"))
  gg : findIn K (.ref C) "__getattr__" = some none
  noN : findIn K (.ref C) "value" = some none
  iC : findIn K (.ref C) "__init__" = some (some (.ref fI))
  tC : typeIn K (.ref fI) = some (.type "function")
  kC : keepIn K (.ref C) = true
  exC : subIn K (.ref C) (.type "BaseException") = some true
  tyC : typeIn K (.ref C) = some (.type "type")
  hdC : hasDictIn K C = true
  te : exmOne K (.ref C) (.ref C) = some true
  fn : ∃ (oc : Value) (od : Option Addr) (doc pm : Value) (an : Option Addr) (cdv ct : Value) (osl : Array (Option Value)) (p1 p2 q1 q2 q3 q4 : Pos),
    K.lookup fI = some ⟨oc, od, .func (fnOf "__init__" "InvalidNumber.__init__" (iA p1 p2) (iB q1 q2 q3 q4) iS .none .none doc pm an cdv ct), osl⟩ ∧ codeIn K cdv "InvalidNumber.__init__" = true
theorem one_size (v : Value) : [v].length ≤ sizeLine := by
  rw [sizeLine_eq]
  exact (by decide : 1 ≤ 16777216)
theorem kept_but {K : Frag} {h h' : Heap} {x : Addr} (X : K.In h) (hx : K.lookup x = none) (k : ∀ b o, b ≠ x → h.get? b = some o → h'.get? b = some o) : K.In h' := fun a o e =>
  k a o (fun z => by rw [z, hx] at e; cases e) (X a o e)
theorem ldC {M : Model} {s : Shared} {name : Str} {scope : Scope} {L a : Addr} {cd : Value} {m : Str → Option Value} {x : Str} {pos : Pos} {v : Value} {Q : Value → Shared → Prop} {A : Around} {E : Value → Shared → Prop} (hn : s.heap.Ns L m) (hv : m x = some v) (h : Q v s)
    (hk : scope.kind = .function := by rfl) (hl : (envOfC name scope L a cd).kindOf x = some .local := by rfl) (hd : (x == ("__debug__" : Str)) = false := by decide) :
    wpAny M A (eval (.Name x pos) (envOfC name scope L a cd)) Q E s := wpAny_Name (wpAny_loadName_local hk hl hn hv h) hd
/-- what __init__ leaves of a fresh exception at x -/
structure InitEnd (h h' : Heap) (x C dx t1 : Addr) (v : Value) : Prop where
  keep : ∀ b o, b ≠ x → h.get? b = some o → h'.get? b = some o
  obj : h'.get? x = some { cls := .ref C, dict := some dx, data := .fields #[.ref t1, .none, .none, .none, .bool false, .none] }
  dbig : h.objs.size ≤ dx
  dne : dx ≠ x
  ns : h'.Ns1 dx (fun y => if y = "value" then some v else none)
/-- a made Low -/
structure OwnMade (h h' : Heap) (e C d : Addr) (v : Value) : Prop where
  keep : ∀ b o, h.get? b = some o → h'.get? b = some o
  new : h.objs.size ≤ e
  obj : ∃ oe vs, h'.get? e = some oe ∧ oe.cls = .ref C ∧ oe.dict = some d ∧ oe.data = .fields vs ∧ vs[1]? = some .none
  dbig : h.objs.size ≤ d
  dne : d ≠ e
  ns : h'.Ns1 d (fun y => if y = "value" then some v else none)
section
variable {prog : Program} {w : World} {A : Around} {E : Value → Shared → Prop} {R : Result → Shared → Prop} {s : Shared} {K : Frag} {mg : Str → Option Value} {C fI : Addr}
theorem init_InvalidNumber (T : TxtInvalidNumber K mg C fI) {x t0 : Addr} {v : Value} (X : K.In s.heap) (hlim : s.heap.NoLimit) (hx : s.heap.get? x = some (excO C t0)) (hnx : K.lookup x = none) (hroom : A.depth < recursionLimit)
    (hq : ∀ h' tk dx, InitEnd s.heap h' x C dx t0 v → R (.ok (.ret .none)) { s with heap := h', toks := tk }) :
    codeAny (model prog w) A (.call (.ref fI) ⟨[.ref x, v], []⟩) R s := by
  obtain ⟨oc, od, doc, pm, an, cdv, ct, osl, p1, p2, q1, q2, q3, q4, ho, hcd⟩ := T.fn
  obtain ⟨nm, q, N, bs, bm, sn, sub, ab, col, dd, k0, k1, k2, k3, k5, hC, hbm⟩ := T.cls
  have hcl : clsIn K C = some { name := nm, bases := bs, mro := .ref C :: bm, ns := N, qualname := q, hasDict := true, slotNames := sn, subclasses := sub, abstract := ab, collection := col, hasDel := false } := by unfold clsIn; rw [hC] <;> rfl
  refine Att.call_fn (binds := [("self", .ref x), ("value", v)]) X hlim ho hcd hroom (BindsTo.of_eq (by first | rfl | with_unfolding_all rfl)) (by first | rfl | decide | with_unfolding_all rfl) (fun s₁ IC => ?_) rfl rfl rfl
  obtain ⟨h₁, tk₁, rfl⟩ := IC.toInCall.same
  have k : ∀ b o, s.heap.get? b = some o → h₁.get? b = some o := IC.toInCall.keep
  have hn := IC.toInCall.ns
  have hxL : s.heap.objs.size ≠ x := Nat.ne_of_gt (Heap.lt_size hx)
  have X₁ : K.In h₁ := X.keeps k
  have hx₁ := k _ _ hx
  -- self.by = by
  show wpAny _ _ (execs _ _) _ _ _
  refine wpAny_execs_cons (plainObj_wpAny_Assign_Attribute ?_)
  refine ldC (v := v) hn (by first | rfl | with_unfolding_all rfl | kernel_rfl) (ldC (v := .ref x) hn (by first | rfl | with_unfolding_all rfl | kernel_rfl) ?_)
  refine set_plain X₁ (ox := excO C t0) (od := none) ⟨hx₁, rfl, rfl, trivial⟩ T.sa ?_
  have over : excOver K C bmInvalidNumber = true := by
    unfold excOver
    rw [hcl]
    show ((C == C) && excTail bmInvalidNumber bm) = true
    rw [hbm, beq_self_eq_true]
    rfl
  refine ExAny.first_field F.store_IndexError X₁ hx₁ hcl rfl over T.noN (fun h₃ tk₃ dx k₃ dn dne hx₃ hn₃ => ?_)
  show wpAny _ _ (execs _ _) _ _ _
  have z : s.heap.objs.size < h₁.objs.size := hn.lt
  exact wpAny_execs_nil (hq h₃ tk₃ dx ⟨fun b o hb e => k₃ b o hb (k b o e), hx₃, Nat.le_of_lt (Nat.lt_of_lt_of_le z dn), dne, hn₃⟩)
theorem made_InvalidNumber (T : TxtInvalidNumber K mg C fI) {v : Value} (X : K.In s.heap) (hlim : s.heap.NoLimit) (hroom : A.depth + 1 < recursionLimit)
    (hq : ∀ h' tk e d, OwnMade s.heap h' e C d v → R (.ok (.ret (.ref e))) { s with heap := h', toks := tk }) :
    codeAny (model prog w) A (.call (.ref C) ⟨[v], []⟩) R s := by
  obtain ⟨nm, q, N, bs, bm, sn, sub, ab, col, dd, k0, k1, k2, k3, k5, hC, hbm⟩ := T.cls
  obtain ⟨hp, g, dr, tk, os⟩ := s
  have k : ∀ b o, hp.get? b = some o → ((hp.push (kdv_tup [v])).push (excO C hp.objs.size)).get? b = some o := fun b o e => Heap.get?_push_of_some _ (Heap.get?_push_of_some _ e)
  have hget : ((hp.push (kdv_tup [v])).push (excO C hp.objs.size)).get? (hp.objs.size + 1) = some (excO C hp.objs.size) := by heap_get
  have hnx : K.lookup (hp.objs.size + 1) = none := by
    cases e : K.lookup (hp.objs.size + 1) with
    | none => rfl
    | some o =>
      have z : hp.get? (hp.objs.size + 1) = some o := X _ _ e
      exact absurd (Nat.lt_of_succ_lt (Heap.lt_size z)) (Nat.lt_irrefl _)
  refine call_own F.excBase_IndexError (fun X => excTail_contains X bm hbm) (X _ _ hC) (looks_findIn X T.iC) (fun self => bind_fn X self T.tC) (one_size v) ?_
  refine init_InvalidNumber (s := ⟨(hp.push (kdv_tup [v])).push (excO C hp.objs.size), g, dr, tk, os⟩) T (X.keeps k) (hlim.keeps k) hget hnx ?_ fun h' tk' dx ⟨k', hx, dn, dne, hns⟩ => ?_
  · show A.depth + 1 < recursionLimit
    exact hroom
  · have old : ∀ b o, hp.get? b = some o → h'.get? b = some o := fun b o e => k' b o (Nat.ne_of_lt (Nat.lt_succ_of_lt (Heap.lt_size e))) (k b o e)
    have z : hp.objs.size + 1 + 1 ≤ dx := by
      first
        | (simpa only [Heap.size_push] using dn)
        | exact dn
        | (have q := dn; rw [Heap.size_push, Heap.size_push] at q; exact q)
    exact ⟨rfl, hq h' tk' (hp.objs.size + 1) dx ⟨old, Nat.le_succ _, ⟨_, _, hx, rfl, rfl, rfl, rfl⟩, Nat.le_trans (Nat.le_trans (Nat.le_succ _) (Nat.le_succ _)) z, dne, hns⟩⟩
end
end ExInvalidNumber
end PySem
namespace L2
open PySem PySem.Spec PyProof.Rows
theorem relO_InvalidNumber {v : V} {v' : Value} (r : RelV v v') (f : Str) : RelO (List.lookup f [(("value" : Str), v)]) (if f = "value" then some v' else none) := by
  by_cases hw : f = "value"
  · subst hw
    rw [if_pos rfl]
    have q : List.lookup ("value" : Str) [(("value" : Str), v)] = some v := by simp [List.lookup]
    rw [q]
    exact r
  · rw [if_neg hw]
    have qw : (f == ("value" : Str)) = false := by simpa using hw
    have q2 : List.lookup f [(("value" : Str), v)] = none := by simp [List.lookup, qw]
    rw [q2]
    trivial
section
variable {X : Cx} {C fI : Addr}
/-- Low(e) -/
def tMkInvalidNumber (C : Addr) (ta : TA) : St → Hp → XK → Prop := fun σ H Q => ta σ H fun vs H1 => ∃ v, vs = [v] ∧ ∀ d, H1 d = none → Q (.ref C) (some d) (upd H1 d (.xd [(("value" : Str), v)]))
theorem pmk_InvalidNumber {a : Expr} {ta : TA} {p pos : Pos} {k : Nat} (T : PySem.ExInvalidNumber.TxtInvalidNumber X.K X.mg C fI) (hr : Room k X.A) (ha : PA X [a] ta) (hg : Gl X "InvalidNumber" := by rfl)
    (he : starEach (a :: []) X.env = (false, eval a X.env) :: starEach [] X.env := by rfl) (hpl : (backTo pos (starEach [] X.env)).any (·.1) = false := by rfl) :
    PMk X (.Call (.Name "InvalidNumber" p) [a] [] pos) (tMkInvalidNumber C ta) := by
  intro pins s σ H Q I h
  refine wpAny_Call_Name_kw (ld_glob I hg T.gC ?_)
  refine PySem.W.callWith_K (h₀ := X.base) I.ok.mod.kin T.kC (thn (ha.run pos pins s σ H _ I h) fun us s1 hh => ?_) he hpl
  obtain ⟨vs, H1, I1, r1, v, ev, q1⟩ := hh
  subst ev
  refine ⟨I1.kIn, ?_⟩
  cases r1 with
  | cons rv rn =>
    rename_i v' us'
    cases rn
    show wpAny _ _ (call (.ref C) [v']) _ _ _
    have hlim := I1.nolimit
    obtain ⟨hp, g, dr, tk, os⟩ := s1
    refine wpAny_call (PySem.ExInvalidNumber.made_InvalidNumber T I1.kIn hlim (by have := hr.dp; omega) fun h' tk' e d M => ?_)
    show MkP X pins σ Q (.ref e) ⟨h', g, dr, tk', os⟩
    obtain ⟨oe, fv, hoe, hc, hd, hdat, h1⟩ := M.obj
    have hns := M.ns
    obtain ⟨G', g1, g2⟩ := restrict h' fun b => decide (b ≠ e)
    have gk : ∀ b, b ≠ e → G'.get? b = h'.get? b := fun b hb => g1 b (decide_eq_true hb)
    have ge : G'.get? e = none := g2 e (by simp)
    have old : ∀ b o, hp.get? b = some o → G'.get? b = some o := fun b o q => (gk b (Nat.ne_of_lt (Nat.lt_of_lt_of_le (Heap.lt_size q) M.new))).trans (M.keep b o q)
    have ob : ObjOk X.prog X.w (upd H1 d (.xd [(("value" : Str), v)])) G' d (.xd [(("value" : Str), v)]) :=
      ⟨_, hns.at (fun o q => (gk d M.dne).trans q), fun f => relO_InvalidNumber rv f⟩
    have J : Inv X pins σ (upd H1 d (.xd [(("value" : Str), v)])) ⟨G', g, dr, tk', os⟩ := I1.laid (t' := tk') old M.dbig ob
    refine ⟨e, oe, fv, ⟨G', g, dr, tk', os⟩, _, .ref C, some d, rfl, J, fun b o q => ?_, ge, hoe, ⟨hc, hd⟩, hdat, h1, ?_, rfl, I1.bare, raises_own T.exC T.tyC, q1 d (I1.hok.fresh M.dbig)⟩
    · by_cases hb : b = e
      · have q' : G'.get? b = some o := q
        rw [hb, ge] at q'; cases q'
      · exact (gk b hb).symm.trans q
    · rw [upd_ne (Ne.symm M.dne)]
      exact I1.hok.fresh M.new
/-- raise Low(e) -/
def tRaiseInvalidNumber (C : Addr) (W : WX) (ta : TA) : TS := fun _ σ H => tMkInvalidNumber C ta σ H fun cls d H' => W cls d σ H'
theorem ps_raiseInvalidNumber {a : Expr} {ta : TA} {W : WX} {p pos pos2 : Pos} {k : Nat} (hc : X.calm = true) (T : PySem.ExInvalidNumber.TxtInvalidNumber X.K X.mg C fI) (hr : Room k X.A) (tk : Takes X W) (ha : PA X [a] ta) (hg : Gl X "InvalidNumber" := by rfl)
    (he : starEach (a :: []) X.env = (false, eval a X.env) :: starEach [] X.env := by rfl) (hpl : (backTo pos (starEach [] X.env)).any (·.1) = false := by rfl) :
    PS X (.Raise (some (.Call (.Name "InvalidNumber" p) [a] [] pos)) none pos2) (tRaiseInvalidNumber C W ta) := ps_raise hc tk (pmk_InvalidNumber T hr ha hg he hpl)
/-- low.by, low the exception that the suite holds (at a; its class cls, its dict d) -/
def tByInvalidNumber (C : Addr) (a : Addr) (cls : Value) (d : Option Addr) (te : TE) : TE := fun σ H Q => te σ H fun x H1 => x = .ref a ∧ cls = .ref C ∧ ∃ (dd : Addr) (v : V), d = some dd ∧ H1 dd = some (.xd [(("value" : Str), v)]) ∧ Q v H1
theorem pe_byInvalidNumber {a : Addr} {oe : Obj} {cls : Value} {d : Option Addr} {pn : List (Addr × Obj)} {e : Expr} {te : TE} {pos : Pos} (T : PySem.ExInvalidNumber.TxtInvalidNumber X.K X.mg C fI) (hz : Zc cls d oe) (hf : ∃ vs, oe.data = .fields vs) (he : PE (X.suite a ((a, oe) :: pn)) e te)
    (hb : attributeBase e "value" X.env (eval e X.env) = eval e X.env := by rfl) :
    PE (X.suite a ((a, oe) :: pn)) (.Attribute e "value" pos) (tByInvalidNumber C a cls d te) := by
  refine ⟨fun pins s σ H Q I h => ?_⟩
  refine attr_of hb (thn (he.run pins s σ H _ I h) fun u s1 hh => ?_)
  obtain ⟨x, H1, I1, rx, ex, ec, dd, v, ed, ea, q⟩ := hh
  subst ex
  obtain rfl : u = Value.ref a := rx
  subst ec
  subst ed
  obtain ⟨ha, _⟩ := I1.pin (a, oe) (List.mem_append_left _ List.mem_cons_self)
  obtain ⟨vs, hd⟩ := hf
  have hx : ObjOk X.prog X.w H1 s1.heap dd (.xd [(("value" : Str), v)]) := I1.hok dd _ ea
  obtain ⟨mA, hns, hr⟩ := hx
  obtain ⟨od, ho, hl⟩ := lookIn_ns hns
  have l : List.lookup ("value" : Str) [(("value" : Str), v)] = some v := by simp [List.lookup]
  obtain ⟨u, hu, ru⟩ := RelO.some_of (v := v) (o := mA "value") (by rw [← l]; exact hr "value")
  have J : PySem.W.InstAt s1.heap a oe C (some od) := ⟨ha, hz.1, by unfold PySem.W.notCls; rw [hd] <;> rfl, by rw [hz.2]; exact ho⟩
  exact HandSPX.exc_get I1.kIn J T.ga T.gg T.exC (PySem.W.findObj_own T.hdC T.noN rfl (by rw [hl, hu])) (handed_of ru) ⟨v, H1, I1.tok _, ru, q⟩
end
end L2



set_option Elab.async false
set_option linter.all false
set_option maxRecDepth 100000
set_option maxHeartbeats 4000000
/-! ### t[::-1], t a tuple; s * n, s a text -/
namespace PySem
namespace TupRev
open PySem.Spec PySem.Calls PyProof.Rows L2 HT
section
variable {prog : Program} {w : World} {A : Around} {E : Value → Shared → Prop} {s : Shared}
theorem adj (n : Nat) : Builtin.Slice.sliceAdjust none none (-1) (n : Int) = ((n : Int) - 1, -1) := by
  unfold Builtin.Slice.sliceAdjust
  first
    | rfl
    | simp
theorem plc (n : Nat) : Builtin.Slice.slicePlaces ((n : Int) - 1) (-1) (-1) = n := by
  unfold Builtin.Slice.slicePlaces
  have h1 : ¬ ((-1 : Int) > 0) := by decide
  rw [if_neg h1]
  split
  · have e : ((n : Int) - 1 - -1 - 1) / (- -1) = (n : Int) - 1 := by
      rw [show (- -1 : Int) = 1 by decide, Int.ediv_one]
      omega
    rw [e]
    omega
  · omega
theorem applied {sl : Addr} {vl vu vs : Value} {n : Nat} {Q : Int × Int × Nat → Shared → Prop} (hs : s.heap.IsSliceOf sl vl vu vs) (pl : IsPart vl none) (pu : IsPart vu none) (ps : IsPart vs (some (-1)))
    (h : Q ((n : Int) - 1, -1, n) s) : wpAny (model prog w) A (Builtin.Slice.sliceApplied (.ref sl) (pure (n : Int))) Q E s := by
  obtain ⟨os, o1, o2, o3⟩ := id hs
  unfold Builtin.Slice.sliceApplied Builtin.Slice.sliceFields
  refine wpAny_bind (wpAny_bind (wpAny_field o1 o3 (x := vl) rfl (wpAny_bind (wpAny_field o1 o3 (x := vu) rfl (wpAny_bind (wpAny_field o1 o3 (x := vs) rfl (wpAny_pure ?_)))))))
  refine wpAny_bind (slicePart_ ps ?_)
  show wpAny _ _ (if ((-1 : Int) == 0) = true then _ else _) _ _ s
  rw [if_neg (by decide)]
  refine wpAny_bind (slicePart_ pl (wpAny_bind (slicePart_ pu (wpAny_bind (wpAny_pure ?_)))))
  show wpAny _ _ (match Builtin.Slice.sliceAdjust none none (-1) (n : Int) with | (lo, hi) => pure (lo, (-1 : Int), Builtin.Slice.slicePlaces lo hi (-1))) _ _ s
  rw [adj n]
  show wpAny _ _ (pure ((n : Int) - 1, (-1 : Int), Builtin.Slice.slicePlaces ((n : Int) - 1) (-1) (-1))) _ _ s
  rw [plc]
  exact wpAny_pure h
theorem fm_congr {α β : Type} {f g : α → Option β} : ∀ {l : List α}, (∀ x ∈ l, f x = g x) → l.filterMap f = l.filterMap g
  | [], _ => rfl
  | a :: l, h => by
    rw [List.filterMap_cons, List.filterMap_cons, h a List.mem_cons_self, fm_congr fun x hx => h x (List.mem_cons_of_mem _ hx)]
theorem pick (xs : Array Value) : ((List.range xs.size).filterMap fun (m : Nat) => xs[((xs.size : Int) - 1 + (m : Int) * (-1)).toNat]?).toArray = xs.toList.reverse.toArray := by
  have e : (List.range xs.size).filterMap (fun (m : Nat) => xs[((xs.size : Int) - 1 + (m : Int) * (-1)).toNat]?) = (List.range xs.size).filterMap ((fun i => xs[i]?) ∘ fun k => xs.size - 1 - k) := by
    refine fm_congr fun m hm => ?_
    have := List.mem_range.mp hm
    have q : ((xs.size : Int) - 1 + (m : Int) * (-1)).toNat = xs.size - 1 - m := by omega
    rw [q]
    rfl
  rw [e, ← List.filterMap_map, PySem.W.krv_range, List.filterMap_reverse, PySem.W.krv_all]
theorem getItem_rev {t sl : Addr} {items : Array Value} {vl vu vs : Value} {Q : Value → Shared → Prop} (ht : IsTup s.heap t items) (hs : s.heap.IsSliceOf sl vl vu vs) (pl : IsPart vl none) (pu : IsPart vu none) (ps : IsPart vs (some (-1)))
    (h : Q (.ref s.heap.objs.size) { s with heap := s.heap.push { cls := .type "tuple", data := .seq items.toList.reverse.toArray } }) (hsz : items.size ≤ sizeLine) :
    wpAny (model prog w) A (getItem (.ref t) (.ref sl)) Q E s := by
  have hz : sizeOk (.seq items.toList.reverse.toArray) := by
    show items.toList.reverse.toArray.size ≤ sizeLine
    rw [List.size_toArray, List.length_reverse, Array.length_toList]
    exact hsz
  obtain ⟨os, o1, o2, o3⟩ := id hs
  have ty : s.TypeIs (.ref sl) "slice" := ⟨os, o1, o2⟩
  unfold getItem
  try with_reducible refine wpAny_holding ?_
  (first | refine wpAny_bind (wpAny_pure ?_) | skip)
  refine (wpAny_bind (wpAny_sequenceKey ht.typeIs (by decide) ?_))
  refine (wpAny_bind (wpAny_callSpecial?_slot (name := Str.ofString "__getitem__") ht.typeIs PyProof.Rows.slot_tuple_getitem (wpAny_call_entry PyProof.Rows.slot_tuple_getitem ht.typeIs entry_tuple_getitem ?_ (args_tuple_getitem _ _))))
  show wpAny _ _ (Builtin.Tuple.tupleItemsOf (.ref t) >>= _) _ _ s
  refine wpAny_bind (tupleItemsOf_ ht ?_)
  refine wpAny_bind (wpAny_typeOf ty ?_)
  rw [if_pos (by decide)]
  refine wpAny_bind (applied hs pl pu ps ?_)
  show wpAny _ _ (if (((items.size : Int) - 1 == 0) && ((-1 : Int) == 1) && (items.size == items.size)) = true then _ else _) _ _ s
  have no : ¬ ((((items.size : Int) - 1 == 0) && ((-1 : Int) == 1) && (items.size == items.size)) = true) := by
    rw [show ((-1 : Int) == 1) = false by decide, Bool.and_false, Bool.false_and]
    decide
  rw [if_neg no, pick]
  (first
    | exact wpAny_bind (m := Builtin.Tuple.tupleExact _) (wpAny_newObj_type (wpAny_pure ⟨_, rfl, wpAny_pure h⟩) hz)
    | exact wpAny_bind (m := Builtin.Tuple.tupleExact _) (wpAny_newObj_type (wpAny_bind (wpAny_pure (wpAny_pure ⟨_, rfl, wpAny_pure h⟩))) hz)
    | exact wpAny_bind (wpAny_bind (m := Builtin.Tuple.tupleExact _) (wpAny_newObj_type (wpAny_pure (wpAny_pure ⟨_, rfl, wpAny_pure h⟩)) hz))
    | exact wpAny_bind (wpAny_bind (m := Builtin.Tuple.tupleExact _) (wpAny_newObj_type (wpAny_pure ⟨_, rfl, wpAny_pure h⟩) hz)))
end
end TupRev
end PySem
namespace My
open PySem PySem.Spec PyProof.Rows L2
def tRevT (K : PySem.W.Frag) (te : TE) : TE := fun σ H Q => te σ H fun x H1 => ∃ a xs, x = .ref a ∧ SqT K H1 a xs ∧ ∀ p, H1 p = none → Q (.ref p) (upd H1 p (.tup xs.reverse))
theorem pe_sliceRev_T {X : Cx} (K : PySem.W.Frag) {e : Expr} {te : TE} {k : Nat} {p1 p2 p3 pos : Pos} (he : PE X e te) (hK : X.K = K := by rfl) : PE X (.Subscript e (.Slice none none (some (.UnaryOp .USub (.Constant (.int 1) k p1) p2)) p3) pos) (tRevT K te) := by
  subst hK
  refine ⟨fun pins s σ H Q I h => ?_⟩
  refine Subscript_ (thn (he.run pins s σ H _ I h) fun v s1 ⟨x, H1, I1, r1, q1⟩ => ?_)
  obtain ⟨a, xs, ex, hx, q⟩ := q1
  subst ex
  cases r1
  have st : PO X (some (.UnaryOp .USub (.Constant (.int 1) k p1) p2)) (tPart (tUn (rU fun i => .int (-i)) (tC (.int 1)))) := (po_some (pe_un un_neg pe_int))
  refine wpAny_Slice (thn (po_none.run pins s1 σ H1 (fun o H2 => o = none ∧ H2 = H1) I1 ⟨rfl, rfl⟩) fun vl s2 ⟨l, H2, I2, pl, el, e2⟩ => ?_)
  subst el e2
  refine thn (po_none.run pins s2 σ H2 (fun o H3 => o = none ∧ H3 = H2) I2 ⟨rfl, rfl⟩) fun vu s3 ⟨u, H3, I3, pu, eu, e3⟩ => ?_
  subst eu e3
  refine thn (st.run pins s3 σ H3 (fun o H4 => o = some (-1) ∧ H4 = H3) I3 ⟨1, rfl, -1, rfl, rfl, rfl⟩) fun vs s4 ⟨o, H4, I4, ps, eo, e4⟩ => ?_
  subst eo e4
  have J : Inv X pins σ H4 { s4 with heap := s4.heap.push { cls := .type "slice", data := .fields #[vl, vu, vs] } } := I4.kept (t' := s4.toks) fun b ob q => Heap.get?_push_of_some _ q
  obtain ⟨its, r, ht, hz⟩ := J.tuple hx
  have hl := r.length
  show wpAny (model X.prog X.w) X.A (subscriptTail e (.Slice none none (some (.UnaryOp .USub (.Constant (.int 1) k p1) p2)) p3) (.ref a) (.ref s4.heap.objs.size)) (EP X pins σ Q) X.xe { s4 with heap := s4.heap.push { cls := .type "slice", data := .fields #[vl, vu, vs] } }
  refine tail_any (ops := [.ref a, .ref s4.heap.objs.size]) ht.typeIs (PyProof.Rows.slot_tuple_getitem.lookup) ?_ (by with_unfolding_all rfl)
  refine TupRev.getItem_rev ht (Heap.IsSliceOf.new _ vl vu vs) pl pu ps ?_ (by rw [List.size_toArray]; omega)
  refine ⟨.ref _, _, J.laid (t' := s4.toks) (o := .tup xs.reverse) (fun b ob q => Heap.get?_push_of_some _ q) (Nat.le_refl _) ?_, rfl, q _ (J.hok.fresh (Nat.le_refl _))⟩
  exact ⟨by rw [List.length_reverse]; exact hz, _, r.reverse, IsTup.new _ _⟩
/-- s * n -/
def rRepS : R2 := fun x y H Q => ∃ (z : Str) (n : Int), x = .str z ∧ y = .int n ∧ 2 ≤ n ∧ n ≤ 1000 ∧ z.length = 1 ∧ ∀ z', z'.length = n.toNat → (∀ c ∈ z'.cps.toList, c ∈ z.cps.toList) → Q (.str z') H
theorem fold_app (l : List (Array Nat)) : ∀ a : Array Nat, (l.foldl (· ++ ·) a).toList = a.toList ++ (l.map Array.toList).flatten := by
  induction l with
  | nil => intro a; simp
  | cons x l ih =>
    intro a
    rw [List.foldl_cons, ih]
    simp
theorem op_rep_str {X : Cx} : OpR X (binaryOp .Mult) rRepS := by
  intro pins s σ H x y v u Q I rx ry h
  obtain ⟨z, n, rfl, rfl, h2, h3, hz, q⟩ := h
  obtain ⟨t, rfl⟩ := rx
  obtain ⟨t2, rfl⟩ := ry
  have e : (Txt.mul z n).cps.toList = (List.replicate n.toNat z.cps.toList).flatten := by
    unfold Txt.mul
    rw [if_neg (by omega), if_neg (by rw [hz]; simp; omega)]
    rw [fold_app]
    simp
  refine SB.mul (n := n) ⟨?_, fun _ _ => ?_, fun _ _ => ?_⟩ fun t' k => ⟨.str (Txt.mul z n), H, I.tok _, ⟨_, rfl⟩, q _ ?_ ?_⟩
  · rw [decide_eq_false (by omega), decide_eq_false (by omega)] <;> rfl
  · rw [hz]
    have : (1000 : Int) ≤ (2 ^ 63 - 1) / n := by
      rw [Int.le_ediv_iff_mul_le (by omega)]
      have : (1000 : Int) * n ≤ 1000 * 1000 := Int.mul_le_mul_of_nonneg_left h3 (by decide)
      omega
    omega
  · rw [hz]
    unfold Builtin.Str.tooLong
    rw [Nat.one_mul]
    refine decide_eq_false ?_
    have : n.toNat ≤ 1000 := by omega
    have := sizeLine_eq
    simp only [Nat.not_lt]
    omega
  · show (Txt.mul z n).cps.size = _
    rw [← Array.length_toList, e, List.length_flatten, List.map_replicate, List.sum_replicate_nat]
    have : z.cps.toList.length = 1 := by rw [Array.length_toList]; exact hz
    rw [this]
    omega
  · intro c hc
    rw [e] at hc
    obtain ⟨l, hl, hcl⟩ := List.mem_flatten.mp hc
    rw [(List.mem_replicate.mp hl).2] at hcl
    exact hcl
end My

set_option Elab.async false
set_option linter.all false
set_option maxRecDepth 100000
set_option maxHeartbeats 2000000
namespace My
open PySem PySem.Spec PyProof.Rows L2
def top (i : Nat) : Stmt := PySem.Challenge.pw_textmovers_k00_names_texts_and_turns.main.body.getD i (.Pass ⟨0, 0, 0, 0⟩)
abbrev s_is_whole : Stmt := top 1
abbrev n_is_whole : List Str := ["value"]
abbrev p_is_whole : List Str := ["value"]
theorem sc_is_whole : FnScope n_is_whole p_is_whole (defScope s_is_whole) := ⟨rfl, rfl, rfl, by decide +kernel, rfl, by decide +kernel, by decide +kernel⟩
abbrev s_is_between : Stmt := top 2
abbrev n_is_between : List Str := ["value", "low", "high"]
abbrev p_is_between : List Str := ["value", "low", "high"]
theorem sc_is_between : FnScope n_is_between p_is_between (defScope s_is_between) := ⟨rfl, rfl, rfl, by decide +kernel, rfl, by decide +kernel, by decide +kernel⟩
abbrev s_InvalidNumber_init : Stmt := inClass (top 4) 0
abbrev n_InvalidNumber_init : List Str := ["self", "value"]
abbrev p_InvalidNumber_init : List Str := ["self", "value"]
theorem sc_InvalidNumber_init : FnScope n_InvalidNumber_init p_InvalidNumber_init (defScope s_InvalidNumber_init) := ⟨rfl, rfl, rfl, by decide +kernel, rfl, by decide +kernel, by decide +kernel⟩
abbrev s_InvalidNumber_str : Stmt := inClass (top 4) 1
abbrev n_InvalidNumber_str : List Str := ["self"]
abbrev p_InvalidNumber_str : List Str := ["self"]
theorem sc_InvalidNumber_str : FnScope n_InvalidNumber_str p_InvalidNumber_str (defScope s_InvalidNumber_str) := ⟨rfl, rfl, rfl, by decide +kernel, rfl, by decide +kernel, by decide +kernel⟩
abbrev s_is_name : Stmt := top 12
abbrev n_is_name : List Str := ["value", "sign"]
abbrev p_is_name : List Str := ["value"]
theorem sc_is_name : FnScope n_is_name p_is_name (defScope s_is_name) := ⟨rfl, rfl, rfl, by decide +kernel, rfl, by decide +kernel, by decide +kernel⟩
abbrev s_is_text : Stmt := top 13
abbrev n_is_text : List Str := ["letters", "value", "sign"]
abbrev p_is_text : List Str := ["letters", "value"]
theorem sc_is_text : FnScope n_is_text p_is_text (defScope s_is_text) := ⟨rfl, rfl, rfl, by decide +kernel, rfl, by decide +kernel, by decide +kernel⟩
abbrev s_is_turn : Stmt := top 14
abbrev n_is_turn : List Str := ["letters", "value", "letter", "part"]
abbrev p_is_turn : List Str := ["letters", "value"]
theorem sc_is_turn : FnScope n_is_turn p_is_turn (defScope s_is_turn) := ⟨rfl, rfl, rfl, by decide +kernel, rfl, by decide +kernel, by decide +kernel⟩
abbrev s_check_letters : Stmt := top 15
abbrev n_check_letters : List Str := ["letters"]
abbrev p_check_letters : List Str := ["letters"]
theorem sc_check_letters : FnScope n_check_letters p_check_letters (defScope s_check_letters) := ⟨rfl, rfl, rfl, by decide +kernel, rfl, by decide +kernel, by decide +kernel⟩
abbrev s_urn : Stmt := top 17
abbrev n_urn : List Str := ["_law_script", "_law_at", "_law_cell", "_law_great", "_law_mixed"]
abbrev p_urn : List Str := ["_law_script", "_law_at"]
theorem sc_urn : FnScope n_urn p_urn (defScope s_urn) := ⟨rfl, rfl, rfl, by decide +kernel, rfl, by decide +kernel, by decide +kernel⟩
abbrev s_dip : Stmt := top 18
abbrev n_dip : List Str := ["_law_urn_here", "_law_total", "_law_one", "_law_two", "_law_found"]
abbrev p_dip : List Str := ["_law_urn_here", "_law_total"]
theorem sc_dip : FnScope n_dip p_dip (defScope s_dip) := ⟨rfl, rfl, rfl, by decide +kernel, rfl, by decide +kernel, by decide +kernel⟩
abbrev s_one_of : Stmt := top 19
abbrev n_one_of : List Str := ["_law_urn_here", "_law_items"]
abbrev p_one_of : List Str := ["_law_urn_here", "_law_items"]
theorem sc_one_of : FnScope n_one_of p_one_of (defScope s_one_of) := ⟨rfl, rfl, rfl, by decide +kernel, rfl, by decide +kernel, by decide +kernel⟩
abbrev s_shuffled : Stmt := top 20
abbrev n_shuffled : List Str := ["_law_urn_here", "_law_items", "_law_waits", "_law_turn_here"]
abbrev p_shuffled : List Str := ["_law_urn_here", "_law_items"]
theorem sc_shuffled : FnScope n_shuffled p_shuffled (defScope s_shuffled) := ⟨rfl, rfl, rfl, by decide +kernel, rfl, by decide +kernel, by decide +kernel⟩
abbrev s_turn : Stmt := top 21
abbrev n_turn : List Str := ["_law_urn_here", "_law_letters"]
abbrev p_turn : List Str := ["_law_urn_here", "_law_letters"]
theorem sc_turn : FnScope n_turn p_turn (defScope s_turn) := ⟨rfl, rfl, rfl, by decide +kernel, rfl, by decide +kernel, by decide +kernel⟩
abbrev s_text : Stmt := top 22
abbrev n_text : List Str := ["_law_urn_here", "_law_letters", "_law_most", "_law_turn_here"]
abbrev p_text : List Str := ["_law_urn_here", "_law_letters", "_law_most"]
theorem sc_text : FnScope n_text p_text (defScope s_text) := ⟨rfl, rfl, rfl, by decide +kernel, rfl, by decide +kernel, by decide +kernel⟩
abbrev s_is_some_name : Stmt := top 23
abbrev n_is_some_name : List Str := ["_law_value", "_law_sign"]
abbrev p_is_some_name : List Str := ["_law_value"]
theorem sc_is_some_name : FnScope n_is_some_name p_is_some_name (defScope s_is_some_name) := ⟨rfl, rfl, rfl, by decide +kernel, rfl, by decide +kernel, by decide +kernel⟩
abbrev s_is_some_text : Stmt := top 24
abbrev n_is_some_text : List Str := ["_law_letters", "_law_value", "_law_sign"]
abbrev p_is_some_text : List Str := ["_law_letters", "_law_value"]
theorem sc_is_some_text : FnScope n_is_some_text p_is_some_text (defScope s_is_some_text) := ⟨rfl, rfl, rfl, by decide +kernel, rfl, by decide +kernel, by decide +kernel⟩
abbrev s_is_some_turn : Stmt := top 25
abbrev n_is_some_turn : List Str := ["_law_letters", "_law_value", "_law_one"]
abbrev p_is_some_turn : List Str := ["_law_letters", "_law_value"]
theorem sc_is_some_turn : FnScope n_is_some_turn p_is_some_turn (defScope s_is_some_turn) := ⟨rfl, rfl, rfl, by decide +kernel, rfl, by decide +kernel, by decide +kernel⟩
abbrev s_put_in : Stmt := top 26
abbrev n_put_in : List Str := ["_law_urn_here", "_law_text_here", "_law_signs", "_law_spot"]
abbrev p_put_in : List Str := ["_law_urn_here", "_law_text_here", "_law_signs"]
theorem sc_put_in : FnScope n_put_in p_put_in (defScope s_put_in) := ⟨rfl, rfl, rfl, by decide +kernel, rfl, by decide +kernel, by decide +kernel⟩
abbrev s_near_values : Stmt := top 27
abbrev n_near_values : List Str := ["_law_urn_here", "_law_letters", "_law_word", "_law_text_here", "_law_turn_here", "_law_size", "_law_found", "_law_one"]
abbrev p_near_values : List Str := ["_law_urn_here", "_law_letters"]
theorem sc_near_values : FnScope n_near_values p_near_values (defScope s_near_values) := ⟨rfl, rfl, rfl, by decide +kernel, rfl, by decide +kernel, by decide +kernel⟩
abbrev s_refused : Stmt := top 28
abbrev n_refused : List Str := ["_law_call", "error"]
abbrev p_refused : List Str := ["_law_call"]
theorem sc_refused : FnScope n_refused p_refused (defScope s_refused) := ⟨rfl, rfl, rfl, by decide +kernel, rfl, by decide +kernel, by decide +kernel⟩
abbrev s_law : Stmt := top 29
abbrev n_law : List Str := ["_law_script", "_law_at", "_law_told", "_law_urn_here", "_law_letters", "_law_value", "_law_due", "_law_odd"]
abbrev p_law : List Str := ["_law_script"]
theorem sc_law : FnScope n_law p_law (defScope s_law) := ⟨rfl, rfl, rfl, by decide +kernel, rfl, by decide +kernel, by decide +kernel⟩
structure Tx (K : PySem.W.Frag) (mg : Str → Option Value) where
  C_InvalidNumber : Addr
  i_InvalidNumber : Addr
  x_InvalidNumber : ExInvalidNumber.TxtInvalidNumber K mg C_InvalidNumber i_InvalidNumber
  all : mg "all" = none
  list : mg "list" = none
  tuple : mg "tuple" = none
  range : mg "range" = none
  isinstance : mg "isinstance" = none
  int : mg "int" = none
  repr : mg "repr" = none
  max : mg "max" = none
  str : mg "str" = none
  sorted : mg "sorted" = none
  bool : mg "bool" = none
  len : mg "len" = none
  abs : mg "abs" = none
  min : mg "min" = none
  sum : mg "sum" = none
  t_MAX_TEXT : Tok
  g_MAX_TEXT : mg "MAX_TEXT" = some (.int 200 t_MAX_TEXT)
  t_MAX_STATES : Tok
  g_MAX_STATES : mg "MAX_STATES" = some (.int 8 t_MAX_STATES)
  t_MAX_RESTS : Tok
  g_MAX_RESTS : mg "MAX_RESTS" = some (.int 60 t_MAX_RESTS)
  t_MAX_NAME : Tok
  g_MAX_NAME : mg "MAX_NAME" = some (.int 8 t_MAX_NAME)
  t_NAME_SIGNS : Tok
  g_NAME_SIGNS : mg "NAME_SIGNS" = some (.str "abcdefghijklmnopqrstuvwxyz" t_NAME_SIGNS)
  t_DIGITS : Tok
  g_DIGITS : mg "DIGITS" = some (.str "0123" t_DIGITS)
  f_is_whole : Addr
  d_is_whole : FuncData
  F_is_whole : Fun K "is_whole" "is_whole" s_is_whole f_is_whole d_is_whole
  m_is_whole : mg "is_whole" = some (.ref f_is_whole)
  b_is_whole : Binds K d_is_whole p_is_whole []
  f_is_between : Addr
  d_is_between : FuncData
  F_is_between : Fun K "is_between" "is_between" s_is_between f_is_between d_is_between
  m_is_between : mg "is_between" = some (.ref f_is_between)
  b_is_between : Binds K d_is_between p_is_between []
  f_is_name : Addr
  d_is_name : FuncData
  F_is_name : Fun K "is_name" "is_name" s_is_name f_is_name d_is_name
  m_is_name : mg "is_name" = some (.ref f_is_name)
  b_is_name : Binds K d_is_name p_is_name []
  f_is_text : Addr
  d_is_text : FuncData
  F_is_text : Fun K "is_text" "is_text" s_is_text f_is_text d_is_text
  m_is_text : mg "is_text" = some (.ref f_is_text)
  b_is_text : Binds K d_is_text p_is_text []
  f_is_turn : Addr
  d_is_turn : FuncData
  F_is_turn : Fun K "is_turn" "is_turn" s_is_turn f_is_turn d_is_turn
  m_is_turn : mg "is_turn" = some (.ref f_is_turn)
  b_is_turn : Binds K d_is_turn p_is_turn []
  f_check_letters : Addr
  d_check_letters : FuncData
  F_check_letters : Fun K "check_letters" "check_letters" s_check_letters f_check_letters d_check_letters
  m_check_letters : mg "check_letters" = some (.ref f_check_letters)
  b_check_letters : Binds K d_check_letters p_check_letters []
  f_urn : Addr
  d_urn : FuncData
  F_urn : Fun K "_law_urn" "_law_urn" s_urn f_urn d_urn
  m_urn : mg "_law_urn" = some (.ref f_urn)
  b_urn : Binds K d_urn p_urn []
  f_dip : Addr
  d_dip : FuncData
  F_dip : Fun K "_law_dip" "_law_dip" s_dip f_dip d_dip
  m_dip : mg "_law_dip" = some (.ref f_dip)
  b_dip : Binds K d_dip p_dip []
  f_one_of : Addr
  d_one_of : FuncData
  F_one_of : Fun K "_law_one_of" "_law_one_of" s_one_of f_one_of d_one_of
  m_one_of : mg "_law_one_of" = some (.ref f_one_of)
  b_one_of : Binds K d_one_of p_one_of []
  f_shuffled : Addr
  d_shuffled : FuncData
  F_shuffled : Fun K "_law_shuffled" "_law_shuffled" s_shuffled f_shuffled d_shuffled
  m_shuffled : mg "_law_shuffled" = some (.ref f_shuffled)
  b_shuffled : Binds K d_shuffled p_shuffled []
  f_turn : Addr
  d_turn : FuncData
  F_turn : Fun K "_law_turn" "_law_turn" s_turn f_turn d_turn
  m_turn : mg "_law_turn" = some (.ref f_turn)
  b_turn : Binds K d_turn p_turn []
  f_text : Addr
  d_text : FuncData
  F_text : Fun K "_law_text" "_law_text" s_text f_text d_text
  m_text : mg "_law_text" = some (.ref f_text)
  b_text : Binds K d_text p_text []
  f_is_some_name : Addr
  d_is_some_name : FuncData
  F_is_some_name : Fun K "_law_is_some_name" "_law_is_some_name" s_is_some_name f_is_some_name d_is_some_name
  m_is_some_name : mg "_law_is_some_name" = some (.ref f_is_some_name)
  b_is_some_name : Binds K d_is_some_name p_is_some_name []
  f_is_some_text : Addr
  d_is_some_text : FuncData
  F_is_some_text : Fun K "_law_is_some_text" "_law_is_some_text" s_is_some_text f_is_some_text d_is_some_text
  m_is_some_text : mg "_law_is_some_text" = some (.ref f_is_some_text)
  b_is_some_text : Binds K d_is_some_text p_is_some_text []
  f_is_some_turn : Addr
  d_is_some_turn : FuncData
  F_is_some_turn : Fun K "_law_is_some_turn" "_law_is_some_turn" s_is_some_turn f_is_some_turn d_is_some_turn
  m_is_some_turn : mg "_law_is_some_turn" = some (.ref f_is_some_turn)
  b_is_some_turn : Binds K d_is_some_turn p_is_some_turn []
  f_put_in : Addr
  d_put_in : FuncData
  F_put_in : Fun K "_law_put_in" "_law_put_in" s_put_in f_put_in d_put_in
  m_put_in : mg "_law_put_in" = some (.ref f_put_in)
  b_put_in : Binds K d_put_in p_put_in []
  f_near_values : Addr
  d_near_values : FuncData
  F_near_values : Fun K "_law_near_values" "_law_near_values" s_near_values f_near_values d_near_values
  m_near_values : mg "_law_near_values" = some (.ref f_near_values)
  b_near_values : Binds K d_near_values p_near_values []
  f_refused : Addr
  d_refused : FuncData
  F_refused : Fun K "_law_refused" "_law_refused" s_refused f_refused d_refused
  m_refused : mg "_law_refused" = some (.ref f_refused)
  b_refused : Binds K d_refused p_refused []
  f_law : Addr
  d_law : FuncData
  F_law : Fun K "law" "law" s_law f_law d_law
  m_law : mg "law" = some (.ref f_law)
  b_law : Binds K d_law p_law []
section
variable {P : Program} {w : World} {K : PySem.W.Frag} {mg : Str → Option Value} {base : Heap}
theorem ok_urn (T : Tx K mg) : FnOk P w K mg base CX0 1 T.f_urn T.d_urn p_urn (spUrn K) := by
  refine T.F_urn.ok sc_urn (fun vs H Q E h => ?_) (fun cdv A outer s H vs Q E hr h => ?_)
  · obtain ⟨a, ns, k, rfl, _⟩ := h
    rfl
  · obtain ⟨a, ns, k, rfl, hS, hk, q⟩ := h
    refine ⟨_, (C8.pss_cut (ps_set (i := 2) sc_urn.nd rfl (by first | exact Or.inl rfl | exact Or.inr rfl) (pe_ifExp (pt_cmpR op_lt (pv 1) (pe_callB (lenS K) (by rfl) T.len (by decide +kernel) (pa_cons (pv 0) pa_nil)) (nomark _)) (pe_ix (ixL K) (pv 0) (pv 1) (fun _ _ => rfl)) (pe_op op_add (pe_op op_add (pe_callB (sumK K rfl) (by rfl) T.sum (by decide +kernel) (pa_cons (pe_slice (slL K) (pv 0) po_none (po_some pe_int)) pa_nil)) (pe_op op_mul pe_int (pv 1))) pe_int)))
    (pss_cons (ps_set (i := 3) sc_urn.nd rfl (by first | exact Or.inl rfl | exact Or.inr rfl) (pe_op op_mod (pe_callTy call_int1 (by rfl) T.int (by decide +kernel) (pa_cons (pe_callB call_abs (by rfl) T.abs (by decide +kernel) (pa_cons (pv 2) pa_nil)) pa_nil)) (pe_op op_powB (pe_op op_powB pe_int pe_int) pe_int)))
    (pss_cons (ps_set (i := 4) sc_urn.nd rfl (by first | exact Or.inl rfl | exact Or.inr rfl) (pe_op op_add (pe_op op_add (pe_op op_add (pe_op op_mul (pe_op op_mod (pe_callTy call_int1 (by rfl) T.int (by decide +kernel) (pa_cons (pv 3) pa_nil)) pe_int) pe_int) (pe_op op_mul pe_int (pv 1))) (pe_op op_mul pe_int (pe_callTy call_int1 (by rfl) T.int (by decide +kernel) (pa_cons (pe_cmpR op_lt (pv 2) pe_int (nomark _)) pa_nil)))) pe_int))
    (pss_one (ps_ret (pe_lst (pa_cons (pe_callB (call_max2 rfl) (by rfl) T.max (by decide +kernel) (pa_cons pe_int (pa_cons (pe_op op_sub (pv 3) (pe_op op_powB pe_int pe_int)) pa_nil))) (pa_cons (pe_op op_mod (pe_callTy call_int1 (by rfl) T.int (by decide +kernel) (pa_cons (pv 4) pa_nil)) pe_int) (pa_cons pe_int pa_nil))))))))), ?_⟩
    refine ⟨fun σ H' => ∃ z : Int, σ = [some (.ref a), some (.int k), some (.int z), none, none] ∧ Same H H', ?_, ?_⟩
    · refine ⟨_, rfl, _, rfl, a, _, rfl, .inl hS, _, _, rfl, rfl, _, rfl, ?_⟩
      refine ite2 (fun hc => ?_) (fun hc => ?_)
      · have hc : k < ((ns.map V.int).length : Nat) := of_decide_eq_true hc
        rw [List.length_map] at hc
        refine ⟨_, rfl, _, rfl, a, _, k, .int ns[k.toNat], rfl, rfl, hS, at_of (j := k.toNat) (by omega) (get_map (by omega)), ?_⟩
        exact ⟨_, rfl, Same.refl H⟩
      · refine ⟨_, rfl, _, rfl, _, _, rfl, hS, fun p hp => ?_⟩
        refine ⟨p, ns.take 1, rfl, by rw [cut_first]; exact .of upd_same, _, rfl, _, _, rfl, rfl, .inl ⟨by decide, by decide⟩, _, _, rfl, rfl, _, _, rfl, rfl, ?_⟩
        exact ⟨_, rfl, Same.new (Same.refl H) hp⟩
    · rintro σ H' ⟨z, rfl, sm⟩
      refine ⟨_, rfl, _, rfl, .inl ⟨_, rfl, _, _, rfl, rfl, ⟨by decide, by decide +kernel⟩, _, _, rfl, rfl, ⟨by decide, by decide +kernel⟩, _, _, rfl, rfl, pow_pos_, ?_⟩⟩
      have hg0 : 0 ≤ (if z < 0 then -z else z) % (10 ^ (53 : Int).toNat) ^ (11 : Int).toNat := Int.emod_nonneg _ (Int.ne_of_gt pow_pos_)
      generalize (if z < 0 then -z else z) % (10 ^ (53 : Int).toNat) ^ (11 : Int).toNat = g at hg0 ⊢
      refine ⟨_, rfl, .inl ⟨_, rfl, _, _, rfl, rfl, by show (0 : Int) < 2305843009213693907; decide, _, _, rfl, rfl, .inr ⟨by decide, by decide⟩, _, rfl, _, _, rfl, rfl, .inl ⟨by decide, by decide⟩, _, _, rfl, rfl, ?_⟩⟩
      refine ⟨_, rfl, _, _, rfl, rfl, .inr ⟨_, rfl, _, _, rfl, rfl, .inl ⟨by decide, by decide⟩, _, _, rfl, rfl, _, _, rfl, rfl, ?_⟩⟩
      have hm0 : 0 ≤ g % 2305843009213693907 * 1000211 + 8017 * k + 37 * (if decide (z < 0) = true then 1 else 0) + 19 := by
        have := Int.emod_nonneg g (show (2305843009213693907 : Int) ≠ 0 by decide)
        split <;> omega
      generalize g % 2305843009213693907 * 1000211 + 8017 * k + 37 * (if decide (z < 0) = true then 1 else 0) + 19 = m at hm0 ⊢
      refine ⟨_, rfl, _, _, rfl, rfl, ⟨by decide, by decide +kernel⟩, _, _, rfl, rfl, _, _, rfl, ?_⟩
      refine ⟨_, rfl, .inl ⟨_, rfl, _, _, rfl, rfl, by show (0 : Int) < 2305843009213693951; decide, by show 3 ≤ sizeLine; decide, fun p hp => ?_⟩⟩
      refine q _ p (Same.new sm hp) (Same.free sm hp) ⟨_, upd_same, _, _, _, rfl, ?_, Int.emod_nonneg _ (by decide), Int.lt_of_lt_of_le (Int.emod_lt_of_pos _ (by decide)) (by decide), by decide⟩
      split <;> omega
theorem ok_dip (T : Tx K mg) : FnOk P w K mg base CX0 1 T.f_dip T.d_dip p_dip spDip := by
  refine T.F_dip.ok sc_dip (fun vs H Q E h => ?_) (fun cdv A outer s H vs Q E hr h => ?_)
  · obtain ⟨u, t, rfl, _⟩ := h
    rfl
  · obtain ⟨u, t, rfl, ⟨xs, hu, g, m, c, rfl, g0, m0, m1, c0⟩, t0, t1, q⟩ := h
    refine ⟨_, (pss_cons (ps_if (pt_cmpR op_gt (pe_ix (ixL K) (pv 0) pe_int (fun _ _ => rfl)) pe_int (nomark _))
      (pss_cons (ps_set (i := 4) sc_dip.nd rfl (by first | exact Or.inl rfl | exact Or.inr rfl) (pe_op op_mod (pe_callTy call_int1 (by rfl) T.int (by decide +kernel) (pa_cons (pe_ix (ixL K) (pv 0) pe_int (fun _ _ => rfl)) pa_nil)) (pv 1)))
    (pss_cons (ps_asg (pe_op op_fdivW (pe_ix (ixL K) (pv 0) pe_int (fun _ _ => rfl)) (pv 1)) (pg_sub (pv 0) pe_int set_list))
    (pss_one (ps_ret (pv 4)))))
      pss_nil)
    (pss_cons (ps_asg (pe_op op_add (pe_ix (ixL K) (pv 0) pe_int (fun _ _ => rfl)) pe_int) (pg_sub (pv 0) pe_int set_list))
    (pss_cons (ps_set (i := 2) sc_dip.nd rfl (by first | exact Or.inl rfl | exact Or.inr rfl) (pe_op op_mod (pe_callTy call_int1 (by rfl) T.int (by decide +kernel) (pa_cons (pe_op op_add (pe_ix (ixL K) (pv 0) pe_int (fun _ _ => rfl)) (pe_op op_mul pe_int (pe_ix (ixL K) (pv 0) pe_int (fun _ _ => rfl)))) pa_nil)) pe_int))
    (pss_cons (ps_set (i := 3) sc_dip.nd rfl (by first | exact Or.inl rfl | exact Or.inr rfl) (pe_op op_add (pe_op op_mulW (pe_op op_mod (pe_callTy call_int1 (by rfl) T.int (by decide +kernel) (pa_cons (pe_op op_mulW (pv 2) (pv 2)) pa_nil)) pe_int) (pv 2)) (pe_op op_mul pe_int (pe_ix (ixL K) (pv 0) pe_int (fun _ _ => rfl)))))
    (pss_one (ps_ret (pe_op op_mod (pe_callTy call_int1 (by rfl) T.int (by decide +kernel) (pa_cons (pe_op op_fdivW (pe_op op_mod (pe_callTy call_int1 (by rfl) T.int (by decide +kernel) (pa_cons (pv 3) pa_nil)) pe_int) pe_int) pa_nil)) (pv 1)))))))), ?_⟩
    refine ⟨_, rfl, u, _, _, _, rfl, rfl, SqL.of hu, rfl, _, _, rfl, rfl, _, rfl, ?_⟩
    refine ite2 (fun hc => ?_) (fun hc => ?_)
    · refine ⟨_, rfl, u, _, _, _, rfl, rfl, SqL.of hu, rfl, .inl ⟨_, rfl, _, rfl, _, _, rfl, rfl, t0, ?_⟩⟩
      refine ⟨_, rfl, u, _, _, _, rfl, rfl, SqL.of hu, rfl, _, rfl, _, _, rfl, rfl, wide_div t0 t1 (by decide) (by decide), ?_⟩
      refine ⟨_, rfl, u, _, _, _, rfl, rfl, hu, rfl, ?_⟩
      refine ⟨_, rfl, q _ _ ⟨⟨_, upd_same, _, _, _, rfl, Int.ediv_nonneg g0 (Int.le_of_lt t0), m0, m1, c0⟩, fun b o hb e => by rw [upd_ne hb]; exact e⟩ (Int.emod_nonneg _ (Int.ne_of_gt t0)) (Int.emod_lt_of_pos _ t0)⟩
    · refine ⟨_, rfl, u, _, _, _, rfl, rfl, SqL.of hu, rfl, _, _, rfl, rfl, ?_⟩
      refine ⟨_, rfl, u, _, _, _, rfl, rfl, hu, rfl, ?_⟩
      refine ⟨_, rfl, u, _, _, _, rfl, rfl, SqL.of upd_same, rfl, ?_⟩
      refine ⟨_, rfl, u, _, _, _, rfl, rfl, SqL.of upd_same, rfl, _, _, rfl, rfl, .inl ⟨by decide, by decide⟩, _, _, rfl, rfl, .inl ⟨_, rfl, _, _, rfl, rfl, by show (0 : Int) < 2305843009213693951; decide, ?_⟩⟩
      have hon : ((m + 1048589 * (c + 1)) % 2305843009213693951).natAbs < 2 ^ 61 := by
        have h0 := Int.emod_nonneg (m + 1048589 * (c + 1)) (show (2305843009213693951 : Int) ≠ 0 by decide)
        have h1 := Int.emod_lt_of_pos (m + 1048589 * (c + 1)) (show (0 : Int) < 2305843009213693951 by decide)
        omega
      refine ⟨_, rfl, _, rfl, _, _, rfl, rfl, wide_mul (a := 61) (b := 61) hon hon (by decide) (by decide) (by decide), .inl ⟨_, rfl, _, _, rfl, rfl, by show (0 : Int) < 2305843009213693921; decide, ?_⟩⟩
      have htn : ((m + 1048589 * (c + 1)) % 2305843009213693951 * ((m + 1048589 * (c + 1)) % 2305843009213693951) % 2305843009213693921).natAbs < 2 ^ 61 := by
        have h0 := Int.emod_nonneg ((m + 1048589 * (c + 1)) % 2305843009213693951 * ((m + 1048589 * (c + 1)) % 2305843009213693951)) (show (2305843009213693921 : Int) ≠ 0 by decide)
        have h1 := Int.emod_lt_of_pos ((m + 1048589 * (c + 1)) % 2305843009213693951 * ((m + 1048589 * (c + 1)) % 2305843009213693951)) (show (0 : Int) < 2305843009213693921 by decide)
        omega
      refine ⟨_, rfl, _, _, rfl, rfl, wide_mul (a := 61) (b := 61) htn hon (by decide) (by decide) (by decide), ?_⟩
      refine ⟨_, rfl, u, _, _, _, rfl, rfl, SqL.of upd_same, rfl, _, _, rfl, rfl, .inl ⟨by decide, by decide⟩, _, _, rfl, rfl, ?_⟩
      refine ⟨_, rfl, .inl ⟨_, rfl, _, _, rfl, rfl, by show (0 : Int) < 2305843009213693907; decide, _, _, rfl, rfl, ⟨by decide, by decide +kernel⟩, .inl ⟨_, rfl, _, rfl, _, _, rfl, rfl, t0, ?_⟩⟩⟩
      refine q _ _ ⟨⟨_, upd_same, _, _, _, rfl, g0, m0, m1, by omega⟩, fun b o hb e => by rw [upd_ne hb]; exact e⟩ (Int.emod_nonneg _ (Int.ne_of_gt t0)) (Int.emod_lt_of_pos _ t0)
theorem ok_one_of (T : Tx K mg) : FnOk P w K mg base CX0 2 T.f_one_of T.d_one_of p_one_of (spOneOf K) := by
  refine T.F_one_of.ok sc_one_of (fun vs H Q E h => ?_) (fun cdv A outer s H vs Q E hr h => ?_)
  · obtain ⟨u, _, ⟨a, xs, rfl, _⟩ | ⟨z, rfl, _⟩⟩ := h <;> rfl
  · obtain ⟨u, hu, h⟩ := h
    refine ⟨_, (pss_one (ps_ret (pe_ix (ixU K) (pv 1) (pe_call (ok_dip T) (hr.mono (by decide)) rfl T.m_dip T.F_dip.kp T.b_dip .nil pass0 (pa_cons (pv 0) (pa_cons (pe_callB (lenU K) (by rfl) T.len (by decide +kernel) (pa_cons (pv 1) pa_nil)) pa_nil))) (fun _ _ => rfl)))), ?_⟩
    rcases h with ⟨a, xs, rfl, hn, hS, h0, h1, q⟩ | ⟨z, rfl, h0, h1, q⟩
    · refine ⟨_, rfl, _, rfl, _, rfl, _, _, rfl, .inl ⟨_, hS, rfl⟩, u, _, rfl, hu, by omega, small_abs (n := 1000000) (by omega) (by omega) (by decide +kernel), fun H' r hd r0 r1 => ?_⟩
      refine .inl ⟨a, xs, r, _, rfl, rfl, hd.seq hn hS, atI_of r0 r1, q _ _ hd (List.getElem_mem _)⟩
    · refine ⟨_, rfl, _, rfl, _, rfl, _, _, rfl, ⟨by rw [sizeLine_eq]; omega, rfl⟩, u, _, rfl, hu, by omega, small_abs (n := 1000000) (by omega) (by omega) (by decide +kernel), fun H' r hd r0 r1 => ?_⟩
      have e : z.length = z.cps.toList.length := by simp [Str.length]
      rw [e] at r1
      refine .inr (.inr ⟨z, r, _, rfl, rfl, by rw [sizeLine_eq]; omega, atC_of r0 r1, q _ _ hd (List.getElem_mem _)⟩)
theorem ok_shuffled (T : Tx K mg) : FnOk P w K mg base CX0 2 T.f_shuffled T.d_shuffled p_shuffled (spShuffled K) := by
  refine T.F_shuffled.ok sc_shuffled (fun vs H Q E h => ?_) (fun cdv A outer s H vs Q E hr h => ?_)
  · obtain ⟨u, a, xs, rfl, _⟩ := h
    rfl
  · obtain ⟨u, a, xs, rfl, hu, hn, hS, hl, q⟩ := h
    refine ⟨_, (pss_cons (ps_set (i := 2) sc_shuffled.nd rfl (by first | exact Or.inl rfl | exact Or.inr rfl) (pe_callTy (listK K) (by rfl) T.list (by decide +kernel) (pa_cons (pv 1) pa_nil)))
    (pss_one (ps_ret (pe_lc (own := [("_law_turn_here", 3)]) (g := gName 3) (tt := tYes) rfl sc_shuffled.nd (pi_range1 (by rfl) T.range (pa_cons (pe_callB (lenS K) (by rfl) T.len (by decide +kernel) (pa_cons (pv 1) pa_nil)) pa_nil)) (blkOk_by (N := n_shuffled) (sc := defScope s_shuffled) (by decide +kernel)) (fun _ _ _ _ _ => pg_name (i := 3) sc_shuffled.nd rfl (Or.inl rfl)) (fun _ _ _ _ _ => by exact pts_nil) (fun _ _ _ _ _ => by exact (bmK K PySem.F.plainAttrs_list PySem.F.slot_list_pop PySem.F.type_list_pop mt_popAt (by exact (pv 2)) (by exact (pa_cons (pe_call (ok_dip T) (hr.mono (by decide)) rfl T.m_dip T.F_dip.kp T.b_dip .nil pass0 (pa_cons (pv 0) (pa_cons (pe_callB (lenS K) (by rfl) T.len (by decide +kernel) (pa_cons (pv 2) pa_nil)) pa_nil))) pa_nil)))))))), ?_⟩
    refine ⟨_, rfl, a, xs, rfl, .inl hS, fun W hW => ?_⟩
    have hWu := hu.ne hW
    refine ⟨_, rfl, a, xs, rfl, .inl ((same_new hW).seq hS), _, rfl, by omega, by omega, fun D hD => ?_⟩
    have hDW : D ≠ W := fun z => by
      rw [z, upd_same] at hD
      cases hD
    refine lc_range (Pv := fun i H' => ∃ acc waits, H' D = some (.lst acc) ∧ H' W = some (.lst waits) ∧ (acc ++ waits).Perm xs ∧ acc.length = i ∧ UrnOk H' u ∧ ∀ b o, b ≠ u → H b = some o → H' b = some o)
      ⟨[], xs, upd_same, by rw [upd_ne hDW.symm, upd_same], List.Perm.refl _, rfl, ?_, fun b o _ e => by rw [upd_ne (ne_of_none ((same_new hW) b o e) hD)]; exact (same_new hW) b o e⟩ ?_ ?_
    · exact ((Drew.of hu (same_new hW)).new hD).1
    · rintro i H' hi ⟨acc, waits, hacc, hwt, hp, hlen, hu', hk⟩
      have hc : acc.length + waits.length = xs.length := by
        have := hp.length_eq
        rwa [List.length_append] at this
      refine ⟨wipe1 _ _ _, tyes_if ?_⟩
      have hWu' : W ≠ u := hWu
      refine ⟨_, rfl, .inl ⟨rfl, _, SqL.of hwt⟩, _, rfl, _, rfl, W, waits, rfl, .inl (SqL.of hwt), u, _, rfl, hu', by omega, small_abs (n := 1000) (by omega) (by omega) (by decide +kernel), fun H2 r hd r0 r1 => ?_⟩
      have hwt2 := hd.2 _ _ hWu' hwt
      have hix : seqIndex? r waits.length = some r.toNat := by
        unfold seqIndex?
        simp
        omega
      refine ⟨W, waits, r, r.toNat, waits[r.toNat]'(by omega), rfl, rfl, hwt2, by omega, by omega, hix, List.getElem?_eq_getElem (by omega), ?_⟩
      have hDu : D ≠ u := fun z => by
        obtain ⟨ys, h1, _⟩ := hu
        rw [z, upd_ne hWu.symm, h1] at hD
        cases hD
      refine ⟨acc, by rw [upd_ne hDW]; exact hd.2 _ _ hDu hacc, by rw [sizeLine_eq]; omega, acc ++ [waits[r.toNat]'(by omega)], waits.eraseIdx r.toNat, upd_same, by rw [upd_ne hDW.symm, upd_same], ?_, by simp [hlen], ?_, ?_⟩
      · refine List.Perm.trans ?_ hp
        rw [List.append_assoc]
        refine List.Perm.append_left _ ?_
        rw [List.singleton_append]
        exact perm_erase (by omega)
      · obtain ⟨ys, h1, h2⟩ := hd.1
        exact ⟨ys, by rw [upd_ne hDu.symm, upd_ne hWu.symm]; exact h1, h2⟩
      · intro b o hb e
        have e1 := hd.2 _ _ hb (hk b o hb e)
        rw [upd_ne (fun z => ?_), upd_ne (fun z => ?_)]
        · exact e1
        · rw [z, hW] at e
          cases e
        · have : H D = none := (same_new hW).free hD
          rw [z, this] at e
          cases e
    · rintro H' ⟨acc, waits, hacc, hwt, hp, hlen, hu', hk⟩
      have hw0 : waits = [] := by
        have := hp.length_eq
        rw [List.length_append] at this
        have e : (((xs.length : Nat) : Int)).toNat = xs.length := by omega
        rw [e] at hlen
        exact List.eq_nil_of_length_eq_zero (by omega)
      subst hw0
      rw [List.append_nil] at hp
      exact q H' D acc ⟨hu', hk⟩ ((same_new hW).free hD) hacc hp
end
end My

set_option Elab.async false
set_option linter.all false
set_option maxRecDepth 100000
set_option maxHeartbeats 2000000
namespace My
open PySem PySem.Spec PyProof.Rows L2
/-! ### the values that are judged -/
def flatG : V → Bool
  | .str z => decide (z.length ≤ 1000) && z.cps.toList.all fun c => decide (c < 128)
  | v => flatV v
theorem flatG_V {v : V} (h : flatG v = true) : flatV v = true := by
  cases v <;> first | rfl | exact h
theorem flatG_all {xs : List V} (h : xs.all flatG = true) : xs.all flatV = true :=
  List.all_eq_true.mpr fun x hx => flatG_V (List.all_eq_true.mp h x hx)
inductive Gd (H : Hp) : V → Prop where
  | non : Gd H .non
  | bl (b : Bool) : Gd H (.bl b)
  | int (i : Int) : Gd H (.int i)
  | str (z : Str) (h : z.length ≤ 1000) (ha : ∀ c ∈ z.cps.toList, c < 128) : Gd H (.str z)
  | tup (a : Addr) (xs : List V) (h : H a = some (.tup xs)) (hf : xs.all flatG = true) (hl : xs.length ≤ 60) : Gd H (.ref a)
  | lst (a : Addr) (xs : List V) (h : H a = some (.lst xs)) : Gd H (.ref a)
  | dct (a : Addr) (kvs : List (Key × V)) (h : H a = some (.dK kvs)) : Gd H (.ref a)
theorem Gd.same {H H' : Hp} {v : V} (g : Gd H v) (s : Same H H') : Gd H' v := by
  cases g with
  | non => exact .non
  | bl b => exact .bl b
  | int i => exact .int i
  | str z h ha => exact .str z h ha
  | tup a xs h hf hl => exact .tup a xs (s _ _ h) hf hl
  | lst a xs h => exact .lst a xs (s _ _ h)
  | dct a kvs h => exact .dct a kvs (s _ _ h)
theorem Gd.flat {H : Hp} {v : V} (h : flatG v = true) : Gd H v := by
  cases v with
  | non => exact .non
  | bl b => exact .bl b
  | int i => exact .int i
  | str z =>
    have h : (decide (z.length ≤ 1000) && z.cps.toList.all fun c => decide (c < 128)) = true := h
    rw [Bool.and_eq_true, decide_eq_true_eq, List.all_eq_true] at h
    exact .str z h.1 fun c hc => of_decide_eq_true (h.2 c hc)
  | byt b => cases h
  | flt b => cases h
  | ref a => cases h
  | ty n => cases h
def wholeB : V → Bool
  | .int _ => true
  | _ => false
def betweenB (v : V) (lo hi : Int) : Bool := match v with
  | .int n => decide (lo ≤ n) && decide (n ≤ hi)
  | _ => false
def signB (lo hi : Nat) (v : V) : Bool := match v with
  | .str z => z.cps.toList.all fun c => decide (lo ≤ c) && decide (c ≤ hi)
  | _ => false
def nameB (v : V) : Bool := match v with
  | .str z => decide (1 ≤ z.length) && decide (z.length ≤ 8) && signB 97 122 v
  | _ => false
def textB (n : Nat) (v : V) : Bool := match v with
  | .str z => decide (z.length ≤ 200) && signB 48 (47 + n) v
  | _ => false
/-! ### the judges of the package -/
def spWhole : Sp := fun vs H Q _ => ∃ v, vs = [v] ∧ Gd H v ∧ Q (.bl (wholeB v)) H
def spBetween : Sp := fun vs H Q _ => ∃ v lo hi, vs = [v, .int lo, .int hi] ∧ Gd H v ∧ Q (.bl (betweenB v lo hi)) H
def spName : Sp := fun vs H Q _ => ∃ v, vs = [v] ∧ Gd H v ∧ ∀ H', Same H H' → Q (.bl (nameB v)) H'
def spCheck (C : Addr) : Sp := fun vs H Q E => ∃ v, vs = [v] ∧ Gd H v ∧ (betweenB v 2 4 = true → Q .non H) ∧ (betweenB v 2 4 = false → ∀ d, H d = none → E (.ref C) (some d) (upd H d (.xd [("value", v)])))
section
variable {P : Program} {w : World} {K : PySem.W.Frag} {mg : Str → Option Value} {base : Heap}
theorem kitT {a b : String} {r : Bool} (h : kitB a b = some r) : PySem.W.kitOne K (.type a) (.type b) = some r := kit_ty h
theorem ok_is_whole (T : Tx K mg) : FnOk P w K mg base CX0 1 T.f_is_whole T.d_is_whole p_is_whole spWhole := by
  refine T.F_is_whole.ok sc_is_whole (fun vs H Q E h => ?_) (fun cdv A outer s H vs Q E hr h => ?_)
  · obtain ⟨v, rfl, _⟩ := h
    rfl
  · obtain ⟨v, rfl, g, q⟩ := h
    refine ⟨_, (pss_one (ps_ret (pe_and (pe_callB (isiK K) (by rfl) T.isinstance (by decide +kernel) (pa_cons (pv 0) (pa_cons (pe_bltn (v := .ty "int") (by rfl) T.int (by decide +kernel) rfl) pa_nil))) (pe_one (pe_not (pe_callB (isiK K) (by rfl) T.isinstance (by decide +kernel) (pa_cons (pv 0) (pa_cons (pe_bltn (v := .ty "bool") (by rfl) T.bool (by decide +kernel) rfl) pa_nil)))))))), ?_⟩
    cases g with
    | non => exact ⟨_, rfl, _, _, _, _, false, rfl, .ty _, .base .non, kitT (by decide +kernel), _, rfl, q⟩
    | bl b => exact ⟨_, rfl, _, _, _, _, true, rfl, .ty _, .base (.bl b), kitT (by decide +kernel), _, rfl, _, rfl, _, _, _, _, true, rfl, .ty _, .base (.bl b), kitT (by decide +kernel), _, rfl, q⟩
    | int i => exact ⟨_, rfl, _, _, _, _, true, rfl, .ty _, .base (.int i), kitT (by decide +kernel), _, rfl, _, rfl, _, _, _, _, false, rfl, .ty _, .base (.int i), kitT (by decide +kernel), _, rfl, q⟩
    | str z h ha => exact ⟨_, rfl, _, _, _, _, false, rfl, .ty _, .base (.str z), kitT (by decide +kernel), _, rfl, q⟩
    | tup a xs h hf hl => exact ⟨_, rfl, _, _, _, _, false, rfl, .ty _, .base (.tup h), kitT (by decide +kernel), _, rfl, q⟩
    | lst a xs h => exact ⟨_, rfl, _, _, _, _, false, rfl, .ty _, .base (.lst h), kitT (by decide +kernel), _, rfl, q⟩
    | dct a kvs h => exact ⟨_, rfl, _, _, _, _, false, rfl, .ty _, .base (.dK h), kitT (by decide +kernel), _, rfl, q⟩
theorem ok_is_between (T : Tx K mg) : FnOk P w K mg base CX0 2 T.f_is_between T.d_is_between p_is_between spBetween := by
  refine T.F_is_between.ok sc_is_between (fun vs H Q E h => ?_) (fun cdv A outer s H vs Q E hr h => ?_)
  · obtain ⟨v, lo, hi, rfl, _⟩ := h
    rfl
  · obtain ⟨v, lo, hi, rfl, g, q⟩ := h
    refine ⟨_, (pss_one (ps_ret (pe_and (pe_call (ok_is_whole T) (hr.mono (by decide)) rfl T.m_is_whole T.F_is_whole.kp T.b_is_whole .nil pass0 (pa_cons (pv 0) pa_nil)) (pe_one (pe_chain op_le op_le (pv 1) (pv 0) (pv 2)))))), ?_⟩
    refine ⟨_, rfl, _, rfl, g, _, rfl, ?_⟩
    cases g with
    | int i =>
      refine ⟨_, rfl, _, rfl, _, _, rfl, rfl, _, rfl, ?_⟩
      refine ite2 (fun hc => ?_) (fun hc => ?_)
      · refine ⟨_, rfl, _, _, rfl, rfl, ?_⟩
        have e : betweenB (.int i) lo hi = decide (i ≤ hi) := by
          show (decide (lo ≤ i) && decide (i ≤ hi)) = _
          rw [hc, Bool.true_and]
        rw [e] at q
        exact q
      · have e : betweenB (.int i) lo hi = false := by
          show (decide (lo ≤ i) && decide (i ≤ hi)) = _
          rw [Bool.not_eq_true _ |>.mp hc, Bool.false_and]
        rw [e] at q
        exact q
    | non => exact q
    | bl b => exact q
    | str z h ha => exact q
    | tup a xs h hf hl => exact q
    | lst a xs h => exact q
    | dct a kvs h => exact q
theorem ok_check_letters (T : Tx K mg) : FnOk P w K mg base (L2.CX P w) 4 T.f_check_letters T.d_check_letters p_check_letters (spCheck T.C_InvalidNumber) := by
  refine T.F_check_letters.okX sc_check_letters (fun vs H Q E h => ?_) (fun cdv A outer s H vs Q E hr h => ?_)
  · obtain ⟨v, rfl, _⟩ := h
    rfl
  · obtain ⟨v, rfl, g, q1, q2⟩ := h
    refine ⟨_, (pss_one (ps_if (pt_not (pt_val (pe_call (ok_is_between T) (hr.mono (by decide)) rfl T.m_is_between T.F_is_between.kp T.b_is_between .nil pass0 (pa_cons (pv 0) (pa_cons pe_int (pa_cons pe_int pa_nil))))))
      (pss_one (ps_raiseInvalidNumber rfl T.x_InvalidNumber (hr.mono (Nat.le_refl _)) (takes_of rfl rfl rfl rfl) (by exact (pa_cons (pv 0) pa_nil))))
      pss_nil)), ?_⟩
    refine ⟨_, rfl, v, 2, 4, rfl, g, _, rfl, ?_⟩
    cases e : betweenB v 2 4 with
    | true => exact q1 e
    | false => exact ⟨_, rfl, v, rfl, fun d hd => q2 e d hd⟩
end
end My

set_option Elab.async false
set_option linter.all false
set_option maxRecDepth 100000
set_option maxHeartbeats 2000000
namespace My
open PySem PySem.Spec PyProof.Rows L2
theorem az_mem (c : Nat) : decide (c ∈ ("abcdefghijklmnopqrstuvwxyz" : Str).cps.toList) = (decide (97 ≤ c) && decide (c ≤ 122)) := by
  have e : ("abcdefghijklmnopqrstuvwxyz" : Str).cps.toList = List.range' 97 26 := by decide +kernel
  rw [e]
  by_cases h : 97 ≤ c ∧ c ≤ 122
  · rw [decide_eq_true h.1, decide_eq_true h.2]
    exact decide_eq_true (List.mem_range'.mpr ⟨c - 97, by omega, by omega⟩)
  · have n : c ∉ List.range' 97 26 := fun z => by
      obtain ⟨i, h1, h2⟩ := List.mem_range'.mp z
      omega
    rw [decide_eq_false n]
    by_cases h1 : 97 ≤ c
    · have h2 : ¬ c ≤ 122 := fun z => h ⟨h1, z⟩
      rw [decide_eq_false h2, Bool.and_false]
    · rw [decide_eq_false h1, Bool.false_and]
theorem all_map_bl (l : List Bool) : (l.map V.bl).map (fun v => v) = l.map V.bl := List.map_id' _
theorem signs_map (z : Str) (f : Nat → V) : (signs z).map (fun v => match v with | .str y => f (y.cps.toList.headD 0) | _ => .non) = z.cps.toList.map f := by
  unfold signs
  rw [List.map_map]
  exact List.map_congr_left fun c _ => rfl
/-- what a sign is asked -/
def atSign (f : Nat → V) (v : V) : V := match v with
  | .str y => f (y.cps.toList.headD 0)
  | _ => .non
def isSign (f : Nat → Bool) (v : V) : Bool := match v with
  | .str y => f (y.cps.toList.headD 0)
  | _ => false
theorem signs_at (z : Str) (f : Nat → V) : (signs z).map (atSign f) = z.cps.toList.map f := by
  unfold signs
  rw [List.map_map]
  exact List.map_congr_left fun c _ => rfl
theorem mem_signs {z : Str} {v : V} (h : v ∈ signs z) : ∃ c, c ∈ z.cps.toList ∧ v = .str ⟨#[c]⟩ := by
  obtain ⟨c, hc, e⟩ := List.mem_map.mp h
  exact ⟨c, hc, e.symm⟩
/-! ### the texts' signs by the letters -/
theorem dig_mem (n : Nat) (h : n = 2 ∨ n = 3 ∨ n = 4) (c : Nat) : decide (c ∈ (cutS "0123" none (some (n : Int))).cps.toList) = (decide (48 ≤ c) && decide (c ≤ 47 + n)) := by
  have e : (cutS "0123" none (some (n : Int))).cps.toList = List.range' 48 n := by
    rcases h with rfl | rfl | rfl <;> decide +kernel
  rw [e]
  by_cases q : 48 ≤ c ∧ c ≤ 47 + n
  · rw [decide_eq_true q.1, decide_eq_true q.2]
    exact decide_eq_true (List.mem_range'.mpr ⟨c - 48, by omega, by omega⟩)
  · have nm : c ∉ List.range' 48 n := fun z => by
      obtain ⟨i, h1, h2⟩ := List.mem_range'.mp z
      omega
    rw [decide_eq_false nm]
    by_cases h1 : 48 ≤ c
    · have h2 : ¬ c ≤ 47 + n := fun z => q ⟨h1, z⟩
      rw [decide_eq_false h2, Bool.and_false]
    · rw [decide_eq_false h1, Bool.false_and]
def spText (C : Addr) : Sp := fun vs H Q E => ∃ l v, vs = [l, v] ∧ Gd H l ∧ Gd H v ∧
  (∀ n : Nat, l = .int n → (n = 2 ∨ n = 3 ∨ n = 4) → ∀ H', Same H H' → Q (.bl (textB n v)) H') ∧
  (betweenB l 2 4 = false → ∀ d, H d = none → E (.ref C) (some d) (upd H d (.xd [("value", l)])))
theorem between24 {v : V} (h : betweenB v 2 4 = true) : ∃ n : Nat, v = .int n ∧ (n = 2 ∨ n = 3 ∨ n = 4) := by
  cases v with
  | int i =>
    have h : (decide (2 ≤ i) && decide (i ≤ 4)) = true := h
    rw [Bool.and_eq_true, decide_eq_true_eq, decide_eq_true_eq] at h
    exact ⟨i.toNat, by rw [Int.toNat_of_nonneg (by omega)], by omega⟩
  | _ => cases h
section
variable {P : Program} {w : World} {K : PySem.W.Frag} {mg : Str → Option Value} {base : Heap}
theorem ok_is_name (T : Tx K mg) : FnOk P w K mg base CX0 1 T.f_is_name T.d_is_name p_is_name spName := by
  refine T.F_is_name.ok sc_is_name (fun vs H Q E h => ?_) (fun cdv A outer s H vs Q E hr h => ?_)
  · obtain ⟨v, rfl, _⟩ := h
    rfl
  · obtain ⟨v, rfl, g, q⟩ := h
    refine ⟨_, (pss_cons (ps_if (PW.pt (pw_or (pt_not (pt_val (pe_callB (isiK K) (by rfl) T.isinstance (by decide +kernel) (pa_cons (pv 0) (pa_cons (pe_bltn (v := .ty "str") (by rfl) T.str (by decide +kernel) rfl) pa_nil))))) (pw_or1 (pt_not (pt_chain op_le op_le pe_int (pe_callB call_len_str (by rfl) T.len (by decide +kernel) (pa_cons (pv 0) pa_nil)) (pe_glob (v := .int 8) rfl T.g_MAX_NAME ⟨_, rfl⟩))))))
      (pss_one (ps_ret pe_bl))
      pss_nil)
    (pss_one (ps_ret (pe_callB (allK K rfl) (by rfl) T.all (by decide +kernel) (pa_cons (pe_lc (own := [("sign", 1)]) (g := gName 1) (tt := tYes) rfl sc_is_name.nd (pi_str (pv 0)) (blkOk_by (N := n_is_name) (sc := defScope s_is_name) (by decide +kernel)) (fun _ _ _ _ _ => pg_name (i := 1) sc_is_name.nd rfl (Or.inl rfl)) (fun _ _ _ _ _ => by exact pts_nil) (fun _ _ _ _ _ => by exact (pe_cmpR op_in_sign (pv 1) (pe_glob (v := .str "abcdefghijklmnopqrstuvwxyz") rfl T.g_NAME_SIGNS ⟨_, rfl⟩) (by rfl)))) pa_nil))))), ?_⟩
    cases g with
    | non => exact ⟨_, rfl, _, _, _, _, false, rfl, .ty _, .base .non, kitT (by decide +kernel), _, rfl, q H (Same.refl H)⟩
    | bl b => exact ⟨_, rfl, _, _, _, _, false, rfl, .ty _, .base (.bl b), kitT (by decide +kernel), _, rfl, q H (Same.refl H)⟩
    | int i => exact ⟨_, rfl, _, _, _, _, false, rfl, .ty _, .base (.int i), kitT (by decide +kernel), _, rfl, q H (Same.refl H)⟩
    | tup a xs h hf hl => exact ⟨_, rfl, _, _, _, _, false, rfl, .ty _, .base (.tup h), kitT (by decide +kernel), _, rfl, q H (Same.refl H)⟩
    | lst a xs h => exact ⟨_, rfl, _, _, _, _, false, rfl, .ty _, .base (.lst h), kitT (by decide +kernel), _, rfl, q H (Same.refl H)⟩
    | dct a kvs h => exact ⟨_, rfl, _, _, _, _, false, rfl, .ty _, .base (.dK h), kitT (by decide +kernel), _, rfl, q H (Same.refl H)⟩
    | str z h ha =>
      refine ⟨_, rfl, _, _, _, _, true, rfl, .ty _, .base (.str z), kitT (by decide +kernel), _, rfl, ?_⟩
      refine ⟨_, rfl, z, rfl, by rw [sizeLine_eq]; omega, _, _, rfl, rfl, _, rfl, ?_⟩
      refine ite2 (fun h1 => ?_) (fun h1 => ?_)
      · refine ⟨_, _, rfl, rfl, _, rfl, ?_⟩
        refine ite2 (fun h2 => ?_) (fun h2 => ?_)
        · have e : nameB (.str z) = false := by
            show (decide (1 ≤ z.length) && decide (z.length ≤ 8) && signB 97 122 (.str z)) = false
            have h2 : ¬ ((z.length : Nat) : Int) ≤ 8 := by simpa using h2
            rw [decide_eq_false (by omega : ¬ z.length ≤ 8), Bool.and_false, Bool.false_and]
          rw [e] at q
          exact q H (Same.refl H)
        · have h2 : ((z.length : Nat) : Int) ≤ 8 := by simpa using h2
          have h1 : (1 : Int) ≤ (z.length : Nat) := of_decide_eq_true h1
          refine ⟨_, rfl, z, rfl, fun D hD => lc_m (j := 1) walk_signs (atSign fun c => .bl (decide (97 ≤ c) && decide (c ≤ 122))) (by rw [signs_len]; omega) (fun _ => trivial) (fun x hx ys R r => ?_) ?_⟩
          · obtain ⟨c, hc, rfl⟩ := mem_signs hx
            exact ⟨_, rfl, c, _, rfl, rfl, by rw [az_mem]; exact r⟩
          · refine ⟨D, z.cps.toList.map (fun c => decide (97 ≤ c) && decide (c ≤ 122)), rfl, .of (by rw [signs_at, List.map_map]; exact upd_same), ?_⟩
            have e : nameB (.str z) = (z.cps.toList.map (fun c => decide (97 ≤ c) && decide (c ≤ 122))).all id := by
              show (decide (1 ≤ z.length) && decide (z.length ≤ 8) && signB 97 122 (.str z)) = _
              rw [decide_eq_true (by omega : 1 ≤ z.length), decide_eq_true (by omega : z.length ≤ 8), List.all_map]
              rfl
            rw [e] at q
            exact q _ (same_new hD)
      · have e : nameB (.str z) = false := by
          show (decide (1 ≤ z.length) && decide (z.length ≤ 8) && signB 97 122 (.str z)) = false
          have h1 : ¬ (1 : Int) ≤ (z.length : Nat) := by simpa using h1
          rw [decide_eq_false (by omega : ¬ 1 ≤ z.length), Bool.false_and, Bool.false_and]
        rw [e] at q
        exact ⟨_, rfl, q H (Same.refl H)⟩
theorem ok_is_text (T : Tx K mg) : FnOk P w K mg base (L2.CX P w) 5 T.f_is_text T.d_is_text p_is_text (spText T.C_InvalidNumber) := by
  refine T.F_is_text.okX sc_is_text (fun vs H Q E h => ?_) (fun cdv A outer s H vs Q E hr h => ?_)
  · obtain ⟨l, v, rfl, _⟩ := h
    rfl
  · obtain ⟨l, v, rfl, gl, g, q, qe⟩ := h
    refine ⟨_, (pss_cons (ps_expr (pe_call (ok_check_letters T) (hr.mono (by decide)) rfl T.m_check_letters T.F_check_letters.kp T.b_check_letters .nil (passes_call (takes_of rfl rfl rfl rfl) (fun _ _ _ _ z => z)) (pa_cons (pv 0) pa_nil)))
    (pss_cons (ps_if (PW.pt (pw_or (pt_not (pt_val (pe_callB (isiK K) (by rfl) T.isinstance (by decide +kernel) (pa_cons (pv 1) (pa_cons (pe_bltn (v := .ty "str") (by rfl) T.str (by decide +kernel) rfl) pa_nil))))) (pw_or1 (pt_cmpR op_gt (pe_callB call_len_str (by rfl) T.len (by decide +kernel) (pa_cons (pv 1) pa_nil)) (pe_glob (v := .int 200) rfl T.g_MAX_TEXT ⟨_, rfl⟩) (nomark _)))))
      (pss_one (ps_ret pe_bl))
      pss_nil)
    (pss_one (ps_ret (pe_callB (allK K rfl) (by rfl) T.all (by decide +kernel) (pa_cons (pe_lc (own := [("sign", 2)]) (g := gName 2) (tt := tYes) rfl sc_is_text.nd (pi_str (pv 1)) (blkOk_by (N := n_is_text) (sc := defScope s_is_text) (by decide +kernel)) (fun _ _ _ _ _ => pg_name (i := 2) sc_is_text.nd rfl (Or.inl rfl)) (fun _ _ _ _ _ => by exact pts_nil) (fun _ _ _ _ _ => by exact (pe_cmpR op_in_sign (pv 2) (pe_slice sl_str (pe_glob (v := .str "0123") rfl T.g_DIGITS ⟨_, rfl⟩) po_none (po_some (pv 0))) (by rfl)))) pa_nil)))))), ?_⟩
    refine ⟨_, rfl, l, rfl, gl, fun hb => ?_, qe⟩
    obtain ⟨n, rfl, hn⟩ := between24 hb
    have q := q n rfl hn
    have nt : ∀ u : V, (∀ z, u ≠ .str z) → textB n u = false := fun u hu => by
      cases u with
      | str z => exact absurd rfl (hu z)
      | _ => rfl
    cases g with
    | non => exact ⟨_, rfl, _, _, _, _, false, rfl, .ty _, .base .non, kitT (by decide +kernel), _, rfl, q H (Same.refl H)⟩
    | bl b => exact ⟨_, rfl, _, _, _, _, false, rfl, .ty _, .base (.bl b), kitT (by decide +kernel), _, rfl, q H (Same.refl H)⟩
    | int i => exact ⟨_, rfl, _, _, _, _, false, rfl, .ty _, .base (.int i), kitT (by decide +kernel), _, rfl, q H (Same.refl H)⟩
    | tup a xs h hf hl => exact ⟨_, rfl, _, _, _, _, false, rfl, .ty _, .base (.tup h), kitT (by decide +kernel), _, rfl, q H (Same.refl H)⟩
    | lst a xs h => exact ⟨_, rfl, _, _, _, _, false, rfl, .ty _, .base (.lst h), kitT (by decide +kernel), _, rfl, q H (Same.refl H)⟩
    | dct a kvs h => exact ⟨_, rfl, _, _, _, _, false, rfl, .ty _, .base (.dK h), kitT (by decide +kernel), _, rfl, q H (Same.refl H)⟩
    | str z h ha =>
      refine ⟨_, rfl, _, _, _, _, true, rfl, .ty _, .base (.str z), kitT (by decide +kernel), _, rfl, ?_⟩
      refine ⟨_, rfl, z, rfl, by rw [sizeLine_eq]; omega, _, _, rfl, rfl, _, rfl, ?_⟩
      refine ite2 (fun h1 => ?_) (fun h1 => ?_)
      · have e : textB n (.str z) = false := by
          show (decide (z.length ≤ 200) && signB 48 (47 + n) (.str z)) = false
          have h1 : (200 : Int) < (z.length : Nat) := of_decide_eq_true h1
          rw [decide_eq_false (by omega : ¬ z.length ≤ 200), Bool.false_and]
        rw [e] at q
        exact q H (Same.refl H)
      · have h1 : ¬ (200 : Int) < (z.length : Nat) := by simpa using h1
        refine ⟨_, rfl, z, rfl, fun D hD => lc_m (j := 2) walk_signs (atSign fun c => .bl (decide (48 ≤ c) && decide (c ≤ 47 + n))) (by rw [signs_len]; omega) (fun _ => trivial) (fun x hx ys R r => ?_) ?_⟩
        · obtain ⟨c, hc, rfl⟩ := mem_signs hx
          refine ⟨_, rfl, _, rfl, _, rfl, _, rfl, by decide, c, _, rfl, rfl, ?_⟩
          rw [dig_mem n hn]
          exact r
        · refine ⟨D, z.cps.toList.map (fun c => decide (48 ≤ c) && decide (c ≤ 47 + n)), rfl, .of (by rw [signs_at, List.map_map]; exact upd_same), ?_⟩
          have e : textB n (.str z) = (z.cps.toList.map (fun c => decide (48 ≤ c) && decide (c ≤ 47 + n))).all id := by
            show (decide (z.length ≤ 200) && signB 48 (47 + n) (.str z)) = _
            rw [decide_eq_true (by omega : z.length ≤ 200), List.all_map]
            rfl
          rw [e] at q
          exact q _ (same_new hD)
end
end My

set_option Elab.async false
set_option linter.all false
set_option maxRecDepth 100000
set_option maxHeartbeats 2000000
namespace My
open PySem PySem.Spec PyProof.Rows L2
def turnL (n : Nat) (xs : List V) : Bool := decide (xs.length = n) && xs.all wholeB && (upto n).all fun l => inV (.int l) xs
def turnB (H : Hp) (n : Nat) (v : V) : Bool := match v with
  | .ref a => (match H a with
    | some (.tup xs) => turnL n xs
    | _ => false)
  | _ => false
theorem turnB_tup {H : Hp} {n : Nat} {a : Addr} {xs : List V} (h : H a = some (.tup xs)) : turnB H n (.ref a) = turnL n xs := by
  show (match H a with | some (.tup xs) => turnL n xs | _ => false) = _
  rw [h]
theorem turnB_lst {H : Hp} {n : Nat} {a : Addr} {xs : List V} (h : H a = some (.lst xs)) : turnB H n (.ref a) = false := by
  show (match H a with | some (.tup xs) => turnL n xs | _ => false) = _
  rw [h]
theorem turnB_dct {H : Hp} {n : Nat} {a : Addr} {kvs : List (Key × V)} (h : H a = some (.dK kvs)) : turnB H n (.ref a) = false := by
  show (match H a with | some (.tup xs) => turnL n xs | _ => false) = _
  rw [h]
def spTurn (C : Addr) : Sp := fun vs H Q E => ∃ l v, vs = [l, v] ∧ Gd H l ∧ Gd H v ∧
  (∀ n : Nat, l = .int n → (n = 2 ∨ n = 3 ∨ n = 4) → ∀ H', Same H H' → Q (.bl (turnB H n v)) H') ∧
  (betweenB l 2 4 = false → ∀ d, H d = none → E (.ref C) (some d) (upd H d (.xd [("value", l)])))
theorem rng_upto (n : Nat) : rng 0 n = (upto n).map V.int := by
  unfold rng upto
  rw [List.map_map]
  exact List.map_congr_left fun i _ => by simp
theorem one_lt (a b : Nat) : decide ([a] < [b]) = decide (a < b) := by
  by_cases h : a < b
  · rw [decide_eq_true h]
    exact decide_eq_true (List.cons_lt_cons_iff.mpr (.inl h))
  · rw [decide_eq_false h]
    refine decide_eq_false fun z => ?_
    rcases List.cons_lt_cons_iff.mp z with q | ⟨_, q⟩
    · exact h q
    · exact absurd q (by decide)
theorem signs_flat {z : Str} (p : V → Bool) : (((signs z).filter p).map fun v => v).all flatV = true := by
  rw [List.map_id']
  refine List.all_eq_true.mpr fun x hx => ?_
  obtain ⟨c, _, rfl⟩ := mem_signs (List.mem_filter.mp hx).1
  rfl
theorem signs_asc {z : Str} (h : ∀ c ∈ z.cps.toList, c < 128) (p : V → Bool) : (((signs z).filter p).map fun v => v).all asc = true := by
  rw [List.map_id']
  refine List.all_eq_true.mpr fun x hx => ?_
  obtain ⟨c, hc, rfl⟩ := mem_signs (List.mem_filter.mp hx).1
  show (([c] : List Nat).all fun c => decide (c < 128)) = true
  simp [h c hc]
theorem none_left (z : Str) (f : Nat → Bool) : ((signs z).filter (isSign fun c => !f c)).isEmpty = z.cps.toList.all f := by
  unfold signs
  generalize z.cps.toList = l
  induction l with
  | nil => rfl
  | cons c l ih =>
    rw [List.map_cons, List.filter_cons, List.all_cons]
    show (if (!f c) = true then _ else _ : List V).isEmpty = _
    cases f c with
    | true =>
      rw [if_neg (by decide), ih, Bool.true_and]
    | false =>
      rw [if_pos (by decide)]
      rfl
def spSomeText : Sp := fun vs H Q _ => ∃ (n : Nat) (v : V), vs = [.int n, v] ∧ (n = 2 ∨ n = 3 ∨ n = 4) ∧ Gd H v ∧ ∀ H', Same H H' → Q (.bl (textB n v)) H'
def spSomeTurn : Sp := fun vs H Q _ => ∃ (n : Nat) (v : V), vs = [.int n, v] ∧ (n = 2 ∨ n = 3 ∨ n = 4) ∧ Gd H v ∧ ∀ H', Same H H' → Q (.bl (turnB H n v)) H'
theorem flatG_asc {v : V} (h : flatG v = true) : asc v = true := by
  cases v with
  | str z =>
    have h : (decide (z.length ≤ 1000) && z.cps.toList.all fun c => decide (c < 128)) = true := h
    rw [Bool.and_eq_true] at h
    exact h.2
  | _ => rfl
theorem rgV_upto (n : Nat) : rgV 0 (n : Int) = (upto n).map V.int := by
  unfold rgV upto
  rw [List.map_map]
  have e : ((n : Int) - 0).toNat = n := by omega
  rw [e]
  exact List.map_congr_left fun i _ => by simp
theorem ints_of : ∀ {xs : List V}, xs.all wholeB = true → ∃ ns : List Int, xs = ns.map V.int
  | [], _ => ⟨[], rfl⟩
  | x :: xs, h => by
    rw [List.all_cons, Bool.and_eq_true] at h
    obtain ⟨ns, rfl⟩ := ints_of h.2
    cases x with
    | int i => exact ⟨i :: ns, rfl⟩
    | _ => cases h.1
theorem all_flat_ints (ns : List Int) : (ns.map V.int).all flatV = true := List.all_eq_true.mpr fun x hx => by
  obtain ⟨i, _, rfl⟩ := List.mem_map.mp hx
  rfl
theorem all_asc_ints (ns : List Int) : (ns.map V.int).all asc = true := List.all_eq_true.mpr fun x hx => by
  obtain ⟨i, _, rfl⟩ := List.mem_map.mp hx
  rfl
theorem in_ints (l : Int) : ∀ ns : List Int, inV (.int l) (ns.map V.int) = decide (l ∈ ns)
  | [] => rfl
  | x :: ns => by
    show ((x == l) || inV (.int l) (ns.map V.int)) = _
    rw [in_ints l ns]
    by_cases h : x = l
    · subst h
      simp
    · have h2 : ¬ l = x := fun z => h z.symm
      simp [h, h2]
section
variable {P : Program} {w : World} {K : PySem.W.Frag} {mg : Str → Option Value} {base : Heap}
theorem ok_is_turn (T : Tx K mg) : FnOk P w K mg base (L2.CX P w) 5 T.f_is_turn T.d_is_turn p_is_turn (spTurn T.C_InvalidNumber) := by
  refine T.F_is_turn.okX sc_is_turn (fun vs H Q E h => ?_) (fun cdv A outer s H vs Q E hr h => ?_)
  · obtain ⟨l, v, rfl, _⟩ := h
    rfl
  · obtain ⟨l, v, rfl, gl, g, q, qe⟩ := h
    refine ⟨_, (pss_cons (ps_expr (pe_call (ok_check_letters T) (hr.mono (by decide)) rfl T.m_check_letters T.F_check_letters.kp T.b_check_letters .nil (passes_call (takes_of rfl rfl rfl rfl) (fun _ _ _ _ z => z)) (pa_cons (pv 0) pa_nil)))
    (pss_cons (ps_if (PW.pt (pw_or (pt_not (pt_val (pe_callB (isiK K) (by rfl) T.isinstance (by decide +kernel) (pa_cons (pv 1) (pa_cons (pe_bltn (v := .ty "tuple") (by rfl) T.tuple (by decide +kernel) rfl) pa_nil))))) (pw_or1 (pt_cmpR op_ne (pe_callB (lenS K) (by rfl) T.len (by decide +kernel) (pa_cons (pv 1) pa_nil)) (pv 0) (nomark _)))))
      (pss_one (ps_ret pe_bl))
      pss_nil)
    (pss_cons (ps_if (pt_not (pt_val (pe_callB (allK K rfl) (by rfl) T.all (by decide +kernel) (pa_cons (pe_lc (own := [("part", 3)]) (g := gName 3) (tt := tYes) rfl sc_is_turn.nd (piT K (pv 1)) (blkOk_by (N := n_is_turn) (sc := defScope s_is_turn) (by decide +kernel)) (fun _ _ _ _ _ => pg_name (i := 3) sc_is_turn.nd rfl (Or.inl rfl)) (fun _ _ _ _ _ => by exact pts_nil) (fun _ _ _ _ _ => by exact (pe_call (ok_is_whole T) (hr.mono (by decide)) rfl T.m_is_whole T.F_is_whole.kp T.b_is_whole .nil pass0 (pa_cons (pv 3) pa_nil)))) pa_nil))))
      (pss_one (ps_ret pe_bl))
      pss_nil)
    (pss_one (ps_ret (pe_callB (allK K rfl) (by rfl) T.all (by decide +kernel) (pa_cons (pe_lc (own := [("letter", 2)]) (g := gName 2) (tt := tYes) rfl sc_is_turn.nd (pi_range1 (by rfl) T.range (pa_cons (pv 0) pa_nil)) (blkOk_by (N := n_is_turn) (sc := defScope s_is_turn) (by decide +kernel)) (fun _ _ _ _ _ => pg_name (i := 2) sc_is_turn.nd rfl (Or.inl rfl)) (fun _ _ _ _ _ => by exact pts_nil) (fun _ _ _ _ _ => by exact (pe_cmpR (inK K) (pv 2) (pv 1) (by rfl)))) pa_nil))))))), ?_⟩
    refine ⟨_, rfl, l, rfl, gl, fun hb => ?_, qe⟩
    obtain ⟨n, rfl, hn⟩ := between24 hb
    have q := q n rfl hn
    cases g with
    | non => exact ⟨_, rfl, _, _, _, _, false, rfl, .ty _, .base .non, kitT (by decide +kernel), _, rfl, q H (Same.refl H)⟩
    | bl b => exact ⟨_, rfl, _, _, _, _, false, rfl, .ty _, .base (.bl b), kitT (by decide +kernel), _, rfl, q H (Same.refl H)⟩
    | int i => exact ⟨_, rfl, _, _, _, _, false, rfl, .ty _, .base (.int i), kitT (by decide +kernel), _, rfl, q H (Same.refl H)⟩
    | str z h ha => exact ⟨_, rfl, _, _, _, _, false, rfl, .ty _, .base (.str z), kitT (by decide +kernel), _, rfl, q H (Same.refl H)⟩
    | lst a xs h =>
      rw [turnB_lst h] at q
      exact ⟨_, rfl, _, _, _, _, false, rfl, .ty _, .base (.lst h), kitT (by decide +kernel), _, rfl, q H (Same.refl H)⟩
    | dct a kvs h =>
      rw [turnB_dct h] at q
      exact ⟨_, rfl, _, _, _, _, false, rfl, .ty _, .base (.dK h), kitT (by decide +kernel), _, rfl, q H (Same.refl H)⟩
    | tup a xs h hf hl =>
      rw [turnB_tup h] at q
      refine ⟨_, rfl, _, _, _, _, true, rfl, .ty _, .base (.tup h), kitT (by decide +kernel), _, rfl, ?_⟩
      refine ⟨_, rfl, a, xs, rfl, .inr (SqT.of h), _, rfl, rfl, _, rfl, ?_⟩
      by_cases hlen : xs.length = n
      · have e1 : decide (V.int ((xs.length : Nat) : Int) = V.int (n : Int)) = true := decide_eq_true (by rw [hlen])
        show (if (!decide (V.int ((xs.length : Nat) : Int) = V.int (n : Int))) = true then _ else _ : Prop)
        rw [e1]
        refine iteF ?_
        refine ⟨_, rfl, a, rfl, ⟨xs, SqT.of h⟩, fun D hD => lc_m (j := 3) (walk_tup (K := K) (a := a) (xs := xs)) (fun v => .bl (wholeB v)) (by omega) (fun ys => SqT.of (same_new hD _ _ h)) (fun x hx ys R r => ?_) ?_⟩
        · exact ⟨_, rfl, x, rfl, .flat (List.all_eq_true.mp hf x hx), r⟩
        · refine ⟨D, xs.map wholeB, rfl, .of (by rw [List.map_map]; exact upd_same), _, rfl, ?_⟩
          have e2 : (xs.map wholeB).all id = xs.all wholeB := by rw [List.all_map]; rfl
          rw [e2]
          cases ew : xs.all wholeB with
          | false =>
            have e : turnL n xs = false := by
              show (decide (xs.length = n) && xs.all wholeB && _) = false
              rw [ew, Bool.and_false, Bool.false_and]
            rw [e] at q
            exact q _ (same_new hD)
          | true =>
            have ht := same_new (o := HO.lst (xs.map fun v => V.bl (wholeB v))) hD _ _ h
            refine ⟨_, rfl, (n : Int), rfl, by omega, by omega, fun D2 hD2 => ?_⟩
            refine lc_m (j := 2) walk_rng (fun v => .bl (inV v xs)) (by rw [rng_len]; omega) (fun _ => trivial) (fun x hx ys R r => ?_) ?_
            · have fx : flatV x = true := by
                obtain ⟨i, _, rfl⟩ := List.mem_map.mp hx
                rfl
              exact ⟨_, rfl, _, rfl, a, xs, rfl, .inr (SqT.of (same_new hD2 _ _ ht)), fx, flatG_all hf, r⟩
            · have e3 : (((n : Nat) : Int)).toNat = n := by omega
              rw [e3, rng_upto, List.map_map]
              refine ⟨D2, (upto n).map (fun l => inV (.int l) xs), rfl, .of (by rw [List.map_map]; exact upd_same), ?_⟩
              have e : turnL n xs = ((upto n).map (fun l => inV (.int l) xs)).all id := by
                show (decide (xs.length = n) && xs.all wholeB && _) = _
                rw [ew, decide_eq_true hlen, List.all_map]
                rfl
              rw [e] at q
              exact q _ (Same.new (same_new hD) hD2)
      · have e1 : decide (V.int ((xs.length : Nat) : Int) = V.int (n : Int)) = false := decide_eq_false (fun z => by
          injection z with z
          omega)
        show (if (!decide (V.int ((xs.length : Nat) : Int) = V.int (n : Int))) = true then _ else _ : Prop)
        rw [e1]
        refine iteT ?_
        have e : turnL n xs = false := by
          show (decide (xs.length = n) && xs.all wholeB && _) = false
          rw [decide_eq_false hlen, Bool.false_and, Bool.false_and]
        rw [e] at q
        exact q H (Same.refl H)
theorem ok_is_some_name (T : Tx K mg) : FnOk P w K mg base CX0 1 T.f_is_some_name T.d_is_some_name p_is_some_name spName := by
  refine T.F_is_some_name.ok sc_is_some_name (fun vs H Q E h => ?_) (fun cdv A outer s H vs Q E hr h => ?_)
  · obtain ⟨v, rfl, _⟩ := h
    rfl
  · obtain ⟨v, rfl, g, q⟩ := h
    refine ⟨_, (pss_cons (ps_if (PW.pt (pw_or (pt_not (pt_val (pe_callB (isiK K) (by rfl) T.isinstance (by decide +kernel) (pa_cons (pv 0) (pa_cons (pe_bltn (v := .ty "str") (by rfl) T.str (by decide +kernel) rfl) pa_nil))))) (pw_or1 (pt_not (pt_chain op_le op_le pe_int (pe_callB call_len_str (by rfl) T.len (by decide +kernel) (pa_cons (pv 0) pa_nil)) pe_int)))))
      (pss_one (ps_ret pe_bl))
      pss_nil)
    (pss_one (ps_ret (pe_cmpR (eqK K hr.units) (pe_lc (own := [("_law_sign", 1)]) (g := gName 1)  rfl sc_is_some_name.nd (pi_str (pv 0)) (blkOk_by (N := n_is_some_name) (sc := defScope s_is_some_name) (by decide +kernel)) (fun _ _ _ _ _ => pg_name (i := 1) sc_is_some_name.nd rfl (Or.inl rfl)) (fun _ _ _ _ _ => by exact (pts_one (pt_not (pt_chain op_le_str op_le_str pe_str (pv 1) pe_str)))) (fun _ _ _ _ _ => by exact (pv 1))) (pe_lst pa_nil) (nomark _))))), ?_⟩
    cases g with
    | non => exact ⟨_, rfl, _, _, _, _, false, rfl, .ty _, .base .non, kitT (by decide +kernel), _, rfl, q H (Same.refl H)⟩
    | bl b => exact ⟨_, rfl, _, _, _, _, false, rfl, .ty _, .base (.bl b), kitT (by decide +kernel), _, rfl, q H (Same.refl H)⟩
    | int i => exact ⟨_, rfl, _, _, _, _, false, rfl, .ty _, .base (.int i), kitT (by decide +kernel), _, rfl, q H (Same.refl H)⟩
    | tup a xs h hf hl => exact ⟨_, rfl, _, _, _, _, false, rfl, .ty _, .base (.tup h), kitT (by decide +kernel), _, rfl, q H (Same.refl H)⟩
    | lst a xs h => exact ⟨_, rfl, _, _, _, _, false, rfl, .ty _, .base (.lst h), kitT (by decide +kernel), _, rfl, q H (Same.refl H)⟩
    | dct a kvs h => exact ⟨_, rfl, _, _, _, _, false, rfl, .ty _, .base (.dK h), kitT (by decide +kernel), _, rfl, q H (Same.refl H)⟩
    | str z h ha =>
      refine ⟨_, rfl, _, _, _, _, true, rfl, .ty _, .base (.str z), kitT (by decide +kernel), _, rfl, ?_⟩
      refine ⟨_, rfl, z, rfl, by rw [sizeLine_eq]; omega, _, _, rfl, rfl, _, rfl, ?_⟩
      refine ite2 (fun h1 => ?_) (fun h1 => ?_)
      · refine ⟨_, _, rfl, rfl, _, rfl, ?_⟩
        refine ite2 (fun h2 => ?_) (fun h2 => ?_)
        · have e : nameB (.str z) = false := by
            show (decide (1 ≤ z.length) && decide (z.length ≤ 8) && signB 97 122 (.str z)) = false
            have h2 : ¬ ((z.length : Nat) : Int) ≤ 8 := by simpa using h2
            rw [decide_eq_false (by omega : ¬ z.length ≤ 8), Bool.and_false, Bool.false_and]
          rw [e] at q
          exact q H (Same.refl H)
        · have h2 : ((z.length : Nat) : Int) ≤ 8 := by simpa using h2
          have h1 : (1 : Int) ≤ (z.length : Nat) := of_decide_eq_true h1
          refine ⟨_, rfl, z, rfl, fun D hD => lc_fm (j := 1) walk_signs (isSign fun c => !(decide (97 ≤ c) && decide (c ≤ 122))) (fun v => v) (by rw [signs_len]; omega) (fun _ => trivial) (fun x hx ys R r => ?_) (fun x hx _ ys R r => ⟨_, rfl, r⟩) ?_⟩
          · obtain ⟨c, hc, rfl⟩ := mem_signs hx
            refine ⟨_, rfl, _, _, rfl, rfl, _, rfl, ?_⟩
            show (if (!decide ([c] < [97])) = true then _ else _ : Prop)
            rw [one_lt]
            by_cases c1 : c < 97
            · rw [decide_eq_true c1]
              refine iteF ⟨_, rfl, ?_⟩
              have e : isSign (fun c => !(decide (97 ≤ c) && decide (c ≤ 122))) (.str ⟨#[c]⟩) = true := by
                show (!(decide (97 ≤ c) && decide (c ≤ 122))) = true
                rw [decide_eq_false (by omega : ¬ 97 ≤ c)]
                rfl
              rw [e] at r
              exact r
            · rw [decide_eq_false c1]
              refine iteT ⟨_, _, rfl, rfl, _, rfl, ?_⟩
              have e : isSign (fun c => !(decide (97 ≤ c) && decide (c ≤ 122))) (.str ⟨#[c]⟩) = !(!decide ([122] < [c])) := by
                show (!(decide (97 ≤ c) && decide (c ≤ 122))) = _
                rw [one_lt, decide_eq_true (by omega : 97 ≤ c), Bool.true_and]
                by_cases c2 : c ≤ 122
                · rw [decide_eq_true c2, decide_eq_false (by omega : ¬ 122 < c)] <;> rfl
                · rw [decide_eq_false c2, decide_eq_true (by omega : 122 < c)] <;> rfl
              rw [e] at r
              exact r
          · refine ⟨by decide, fun p hp => ?_⟩
            refine rEq_lst (.of (same_new hp _ _ upd_same)) (.of upd_same) (signs_flat _) rfl (signs_asc ha _) rfl ?_
            rw [eqVs_nil, List.map_id']
            have e : nameB (.str z) = ((signs z).filter (isSign fun c => !(decide (97 ≤ c) && decide (c ≤ 122)))).isEmpty := by
              show (decide (1 ≤ z.length) && decide (z.length ≤ 8) && signB 97 122 (.str z)) = _
              rw [decide_eq_true (by omega : 1 ≤ z.length), decide_eq_true (by omega : z.length ≤ 8), Bool.true_and, Bool.true_and, none_left]
              rfl
            rw [e] at q
            exact q _ (Same.new (same_new hD) (by rw [List.map_id'] at hp; exact hp))
      · have e : nameB (.str z) = false := by
          show (decide (1 ≤ z.length) && decide (z.length ≤ 8) && signB 97 122 (.str z)) = false
          have h1 : ¬ (1 : Int) ≤ (z.length : Nat) := by simpa using h1
          rw [decide_eq_false (by omega : ¬ 1 ≤ z.length), Bool.false_and, Bool.false_and]
        rw [e] at q
        exact ⟨_, rfl, q H (Same.refl H)⟩
theorem ok_is_some_text (T : Tx K mg) : FnOk P w K mg base CX0 1 T.f_is_some_text T.d_is_some_text p_is_some_text spSomeText := by
  refine T.F_is_some_text.ok sc_is_some_text (fun vs H Q E h => ?_) (fun cdv A outer s H vs Q E hr h => ?_)
  · obtain ⟨n, v, rfl, _⟩ := h
    rfl
  · obtain ⟨n, v, rfl, hn, g, q⟩ := h
    refine ⟨_, (pss_one (ps_ret (pe_and (pe_callB (isiK K) (by rfl) T.isinstance (by decide +kernel) (pa_cons (pv 1) (pa_cons (pe_bltn (v := .ty "str") (by rfl) T.str (by decide +kernel) rfl) pa_nil))) (pe_and (pe_cmpR op_le (pe_callB call_len_str (by rfl) T.len (by decide +kernel) (pa_cons (pv 1) pa_nil)) pe_int (nomark _)) (pe_one (pe_cmpR (eqK K hr.units) (pe_lc (own := [("_law_sign", 2)]) (g := gName 2)  rfl sc_is_some_text.nd (pi_str (pv 1)) (blkOk_by (N := n_is_some_text) (sc := defScope s_is_some_text) (by decide +kernel)) (fun _ _ _ _ _ => pg_name (i := 2) sc_is_some_text.nd rfl (Or.inl rfl)) (fun _ _ _ _ _ => by exact (pts_one (pt_cmpR op_notIn_sign (pv 2) (pe_slice sl_str pe_str po_none (po_some (pv 0))) (by rfl)))) (fun _ _ _ _ _ => by exact (pv 2))) (pe_lst pa_nil) (nomark _))))))), ?_⟩
    cases g with
    | non => exact ⟨_, rfl, _, _, _, _, false, rfl, .ty _, .base .non, kitT (by decide +kernel), _, rfl, q H (Same.refl H)⟩
    | bl b => exact ⟨_, rfl, _, _, _, _, false, rfl, .ty _, .base (.bl b), kitT (by decide +kernel), _, rfl, q H (Same.refl H)⟩
    | int i => exact ⟨_, rfl, _, _, _, _, false, rfl, .ty _, .base (.int i), kitT (by decide +kernel), _, rfl, q H (Same.refl H)⟩
    | tup a xs h hf hl => exact ⟨_, rfl, _, _, _, _, false, rfl, .ty _, .base (.tup h), kitT (by decide +kernel), _, rfl, q H (Same.refl H)⟩
    | lst a xs h => exact ⟨_, rfl, _, _, _, _, false, rfl, .ty _, .base (.lst h), kitT (by decide +kernel), _, rfl, q H (Same.refl H)⟩
    | dct a kvs h => exact ⟨_, rfl, _, _, _, _, false, rfl, .ty _, .base (.dK h), kitT (by decide +kernel), _, rfl, q H (Same.refl H)⟩
    | str z h ha =>
      refine ⟨_, rfl, _, _, _, _, true, rfl, .ty _, .base (.str z), kitT (by decide +kernel), _, rfl, ?_⟩
      refine ⟨_, rfl, z, rfl, by rw [sizeLine_eq]; omega, _, _, rfl, rfl, _, rfl, ?_⟩
      refine ite2 (fun h1 => ?_) (fun h1 => ?_)
      · have h1 : ((z.length : Nat) : Int) ≤ 200 := of_decide_eq_true h1
        refine ⟨_, rfl, z, rfl, fun D hD => lc_fm (j := 2) walk_signs (isSign fun c => !(decide (48 ≤ c) && decide (c ≤ 47 + n))) (fun v => v) (by rw [signs_len]; omega) (fun _ => trivial) (fun x hx ys R r => ?_) (fun x hx _ ys R r => ⟨_, rfl, r⟩) ?_⟩
        · obtain ⟨c, hc, rfl⟩ := mem_signs hx
          refine ⟨_, rfl, _, rfl, _, rfl, _, rfl, by decide, c, _, rfl, rfl, _, rfl, ?_⟩
          rw [dig_mem n hn]
          exact r
        · refine ⟨by decide, fun p hp => ?_⟩
          refine rEq_lst (.of (same_new hp _ _ upd_same)) (.of upd_same) (signs_flat _) rfl (signs_asc ha _) rfl ?_
          rw [eqVs_nil, List.map_id']
          have e : textB n (.str z) = ((signs z).filter (isSign fun c => !(decide (48 ≤ c) && decide (c ≤ 47 + n)))).isEmpty := by
            show (decide (z.length ≤ 200) && signB 48 (47 + n) (.str z)) = _
            rw [decide_eq_true (by omega : z.length ≤ 200), Bool.true_and, none_left]
            rfl
          rw [e] at q
          exact q _ (Same.new (same_new hD) (by rw [List.map_id'] at hp; exact hp))
      · have e : textB n (.str z) = false := by
          show (decide (z.length ≤ 200) && signB 48 (47 + n) (.str z)) = false
          have h1 : ¬ ((z.length : Nat) : Int) ≤ 200 := by simpa using h1
          rw [decide_eq_false (by omega : ¬ z.length ≤ 200), Bool.false_and]
        rw [e] at q
        exact q H (Same.refl H)
theorem ok_is_some_turn (T : Tx K mg) : FnOk P w K mg base CX0 1 T.f_is_some_turn T.d_is_some_turn p_is_some_turn spSomeTurn := by
  refine T.F_is_some_turn.ok sc_is_some_turn (fun vs H Q E h => ?_) (fun cdv A outer s H vs Q E hr h => ?_)
  · obtain ⟨n, v, rfl, _⟩ := h
    rfl
  · obtain ⟨n, v, rfl, hn, g, q⟩ := h
    refine ⟨_, (pss_cons (ps_if (PW.pt (pw_or (pt_not (pt_val (pe_callB (isiK K) (by rfl) T.isinstance (by decide +kernel) (pa_cons (pv 1) (pa_cons (pe_bltn (v := .ty "tuple") (by rfl) T.tuple (by decide +kernel) rfl) pa_nil))))) (pw_or1 (pt_cmpR (neK K hr.units) (pe_lc (own := [("_law_one", 2)]) (g := gName 2)  rfl sc_is_some_turn.nd (piT K (pv 1)) (blkOk_by (N := n_is_some_turn) (sc := defScope s_is_some_turn) (by decide +kernel)) (fun _ _ _ _ _ => pg_name (i := 2) sc_is_some_turn.nd rfl (Or.inl rfl)) (fun _ _ _ _ _ => by exact (pts_one (PW.pt (pw_or (pt_not (pt_val (pe_callB (isiK K) (by rfl) T.isinstance (by decide +kernel) (pa_cons (pv 2) (pa_cons (pe_bltn (v := .ty "int") (by rfl) T.int (by decide +kernel) rfl) pa_nil))))) (pw_or1 (pt_val (pe_callB (isiK K) (by rfl) T.isinstance (by decide +kernel) (pa_cons (pv 2) (pa_cons (pe_bltn (v := .ty "bool") (by rfl) T.bool (by decide +kernel) rfl) pa_nil))))))))) (fun _ _ _ _ _ => by exact (pv 2))) (pe_lst pa_nil) (nomark _)))))
      (pss_one (ps_ret pe_bl))
      pss_nil)
    (pss_one (ps_ret (pe_cmpR (eqK K hr.units) (pe_callB (sortT K) (by rfl) T.sorted (by decide +kernel) (pa_cons (pv 1) pa_nil)) (pe_listRg rfl rfl T.list (prg_1 rfl T.range (pv 0))) (nomark _))))), ?_⟩
    cases g with
    | non => exact ⟨_, rfl, _, _, _, _, false, rfl, .ty _, .base .non, kitT (by decide +kernel), _, rfl, q H (Same.refl H)⟩
    | bl b => exact ⟨_, rfl, _, _, _, _, false, rfl, .ty _, .base (.bl b), kitT (by decide +kernel), _, rfl, q H (Same.refl H)⟩
    | int i => exact ⟨_, rfl, _, _, _, _, false, rfl, .ty _, .base (.int i), kitT (by decide +kernel), _, rfl, q H (Same.refl H)⟩
    | str z h ha => exact ⟨_, rfl, _, _, _, _, false, rfl, .ty _, .base (.str z), kitT (by decide +kernel), _, rfl, q H (Same.refl H)⟩
    | lst a xs h =>
      rw [turnB_lst h] at q
      exact ⟨_, rfl, _, _, _, _, false, rfl, .ty _, .base (.lst h), kitT (by decide +kernel), _, rfl, q H (Same.refl H)⟩
    | dct a kvs h =>
      rw [turnB_dct h] at q
      exact ⟨_, rfl, _, _, _, _, false, rfl, .ty _, .base (.dK h), kitT (by decide +kernel), _, rfl, q H (Same.refl H)⟩
    | tup a xs h hf hl =>
      rw [turnB_tup h] at q
      refine ⟨_, rfl, _, _, _, _, true, rfl, .ty _, .base (.tup h), kitT (by decide +kernel), _, rfl, ?_⟩
      refine ⟨_, rfl, a, rfl, ⟨xs, SqT.of h⟩, fun D hD => lc_fm (j := 2) (walk_tup (K := K) (a := a) (xs := xs)) (fun v => !wholeB v) (fun v => v) (by omega) (fun ys => SqT.of (same_new hD _ _ h)) (fun x hx ys R r => ?_) (fun x hx _ ys R r => ⟨_, rfl, r⟩) ?_⟩
      · have gx : Gd (upd H D (.lst ys)) x := .flat (List.all_eq_true.mp hf x hx)
        cases gx with
        | non => exact ⟨_, rfl, _, _, _, _, false, rfl, .ty _, .base .non, kitT (by decide +kernel), _, rfl, r⟩
        | bl b => exact ⟨_, rfl, _, _, _, _, true, rfl, .ty _, .base (.bl b), kitT (by decide +kernel), _, rfl, _, rfl, _, _, _, _, true, rfl, .ty _, .base (.bl b), kitT (by decide +kernel), _, rfl, r⟩
        | int i => exact ⟨_, rfl, _, _, _, _, true, rfl, .ty _, .base (.int i), kitT (by decide +kernel), _, rfl, _, rfl, _, _, _, _, false, rfl, .ty _, .base (.int i), kitT (by decide +kernel), _, rfl, r⟩
        | str z h ha => exact ⟨_, rfl, _, _, _, _, false, rfl, .ty _, .base (.str z), kitT (by decide +kernel), _, rfl, r⟩
        | tup b ys h hf2 hl => exact Bool.noConfusion (show false = true from List.all_eq_true.mp hf _ hx)
        | lst b ys h => exact Bool.noConfusion (show false = true from List.all_eq_true.mp hf _ hx)
        | dct b kvs h => exact Bool.noConfusion (show false = true from List.all_eq_true.mp hf _ hx)
      · rw [List.map_id']
        refine ⟨by decide, fun p hp => ?_⟩
        have fl : (xs.filter fun v => !wholeB v).all flatV = true := List.all_eq_true.mpr fun x hx => flatG_V (List.all_eq_true.mp hf x (List.mem_filter.mp hx).1)
        have fa : (xs.filter fun v => !wholeB v).all asc = true := List.all_eq_true.mpr fun x hx => flatG_asc (List.all_eq_true.mp hf x (List.mem_filter.mp hx).1)
        refine rNe_lst (.of (same_new hp _ _ upd_same)) (.of upd_same) fl rfl fa rfl ⟨_, rfl, ?_⟩
        rw [eqVs_nil]
        cases ew : xs.all wholeB with
        | false =>
          have e : turnL n xs = false := by
            show (decide (xs.length = n) && xs.all wholeB && _) = false
            rw [ew, Bool.and_false, Bool.false_and]
          have e2 : (xs.filter fun v => !wholeB v).isEmpty = false := by
            cases q2 : (xs.filter fun v => !wholeB v).isEmpty with
            | false => rfl
            | true =>
              have q3 := List.isEmpty_iff.mp q2
              have : xs.all wholeB = true := List.all_eq_true.mpr fun x hx => by
                cases q4 : wholeB x with
                | true => rfl
                | false =>
                  have : x ∈ xs.filter fun v => !wholeB v := List.mem_filter.mpr ⟨hx, by rw [q4]; rfl⟩
                  rw [q3] at this
                  cases this
              rw [ew] at this
              cases this
          rw [e] at q
          rw [e2]
          exact q _ (Same.new (same_new hD) hp)
        | true =>
          have e2 : (xs.filter fun v => !wholeB v) = [] := List.filter_eq_nil_iff.mpr fun x hx => by
            rw [List.all_eq_true.mp ew x hx]
            decide
          obtain ⟨ns, rfl⟩ := ints_of ew
          have sm := Same.new (o := HO.lst []) (same_new (o := HO.lst ((ns.map V.int).filter fun v => !wholeB v)) hD) hp
          have ht := sm _ _ h
          rw [e2] at hp ⊢
          rw [e2] at ht sm
          rw [List.length_map] at hl
          refine ⟨_, rfl, a, ns, rfl, SqT.of ht, by omega, fun ns' p2 hp2 hu hn2 => ?_⟩
          refine ⟨_, rfl, (n : Int), rfl, ⟨by omega, by omega⟩, fun p3 hp3 => ?_⟩
          have e3 : rgV 0 (n : Int) = (upto n).map V.int := rgV_upto n
          rw [e3]
          refine rEq_lst (.of (same_new hp3 _ _ upd_same)) (.of upd_same) (all_flat_ints _) (all_flat_ints _) (all_asc_ints _) (all_asc_ints _) ?_
          rw [eqVs_ints, sorted_upto hp2 hu]
          have e : turnL n (ns.map V.int) = (decide (ns.length = n) && (upto n).all fun l => decide (l ∈ ns)) := by
            show (decide ((ns.map V.int).length = n) && (ns.map V.int).all wholeB && (upto n).all fun l => inV (.int l) (ns.map V.int)) = _
            rw [ew, Bool.and_true, List.length_map]
            refine congrArg _ (List.all_congr rfl fun l => ?_)
            exact in_ints l ns
          rw [e] at q
          exact q _ (Same.new (Same.new sm hn2) hp3)
end
end My

set_option Elab.async false
set_option linter.all false
set_option maxRecDepth 100000
set_option maxHeartbeats 2000000
namespace My
open PySem PySem.Spec PyProof.Rows L2
def unint : V → Int
  | .int i => i
  | _ => 0
theorem perm_ints {ys : List V} {l : List Int} (h : ys.Perm (l.map V.int)) : ∃ ns : List Int, ys = ns.map V.int ∧ ns.Perm l := by
  have hw : ys.all wholeB = true := List.all_eq_true.mpr fun x hx => by
    obtain ⟨i, _, rfl⟩ := List.mem_map.mp (h.mem_iff.mp hx)
    rfl
  obtain ⟨ns, rfl⟩ := ints_of hw
  refine ⟨ns, rfl, ?_⟩
  have e : ∀ k : List Int, (k.map V.int).map unint = k := fun k => by
    rw [List.map_map]
    exact List.map_id' k
  have q := h.map unint
  rw [e, e] at q
  exact q
/-- plain signs -/
def Asc (z : Str) : Prop := ∀ c ∈ z.cps.toList, c < 128
def spTurnOf : Sp := fun vs H Q _ => ∃ (u : Addr) (n : Nat), vs = [.ref u, .int n] ∧ UrnOk H u ∧ n ≤ 60 ∧
  ∀ (H' : Hp) (p : Addr) (ns : List Int), Drew u H H' → H p = none → H' p = some (.tup (ns.map V.int)) → ns.Perm (upto n) → Q (.ref p) H'
def spTextOf : Sp := fun vs H Q _ => ∃ (u : Addr) (n m : Nat), vs = [.ref u, .int n, .int m] ∧ UrnOk H u ∧ (n = 2 ∨ n = 3 ∨ n = 4) ∧ m ≤ 100 ∧
  ∀ (H' : Hp) (z : Str), Drew u H H' → z.length ≤ m → (∀ c ∈ z.cps.toList, 48 ≤ c ∧ c < 48 + n) → Q (.str z) H'
theorem join0 : ∀ ys : List Str, (Txt.join ⟨#[]⟩ ys).cps.toList = (ys.map fun y => y.cps.toList).flatten := by
  intro ys
  rw [TL.join_eq]
  show TL.tl (Str.join ⟨#[]⟩ ys) = _
  rw [TL.tl_join]
  show TL.joinL [] (ys.map TL.tl) = (ys.map TL.tl).flatten
  generalize ys.map TL.tl = l
  induction l with
  | nil => rfl
  | cons a r ih =>
    cases r with
    | nil => simp [TL.joinL]
    | cons b r =>
      show a ++ ([] ++ TL.joinL [] (b :: r)) = _
      rw [ih]
      rfl
theorem len_tl (z : Str) : z.length = z.cps.toList.length := by simp [Str.length]
theorem flat_len : ∀ {l : List (List Nat)}, (∀ x ∈ l, x.length = 1) → l.flatten.length = l.length
  | [], _ => rfl
  | a :: l, h => by
    rw [List.flatten_cons, List.length_append, h a List.mem_cons_self, flat_len fun x hx => h x (List.mem_cons_of_mem _ hx), List.length_cons]
    omega
theorem digit_str {r : Int} {n : Nat} (hn : n = 2 ∨ n = 3 ∨ n = 4) (h0 : 0 ≤ r) (h1 : r < n) : (toString r : Str).length = 1 ∧ ∀ c ∈ (toString r : Str).cps.toList, 48 ≤ c ∧ c < 48 + n := by
  have : r = 0 ∨ r = 1 ∨ r = 2 ∨ r = 3 := by omega
  rcases this with rfl | rfl | rfl | rfl
  · have e : (toString (0 : Int) : Str).cps.toList = [48] := by decide +kernel
    rw [len_tl, e]
    refine ⟨rfl, fun c hc => ?_⟩
    rw [List.mem_singleton] at hc
    omega
  · have e : (toString (1 : Int) : Str).cps.toList = [49] := by decide +kernel
    rw [len_tl, e]
    refine ⟨rfl, fun c hc => ?_⟩
    rw [List.mem_singleton] at hc
    omega
  · have e : (toString (2 : Int) : Str).cps.toList = [50] := by decide +kernel
    rw [len_tl, e]
    refine ⟨rfl, fun c hc => ?_⟩
    rw [List.mem_singleton] at hc
    omega
  · have e : (toString (3 : Int) : Str).cps.toList = [51] := by decide +kernel
    rw [len_tl, e]
    refine ⟨rfl, fun c hc => ?_⟩
    rw [List.mem_singleton] at hc
    omega
theorem log_small {r : Int} (h0 : 0 ≤ r) (h1 : r < 1000) : r.natAbs.log2 < 1920 := by
  have h : r.natAbs < 2 ^ 10 := by omega
  by_cases z : r.natAbs = 0
  · rw [z]
    decide
  · exact Nat.lt_of_lt_of_le ((Nat.log2_lt z).mpr h) (by decide)
section
variable {P : Program} {w : World} {K : PySem.W.Frag} {mg : Str → Option Value} {base : Heap}
theorem ok_turn (T : Tx K mg) : FnOk P w K mg base CX0 3 T.f_turn T.d_turn p_turn spTurnOf := by
  refine T.F_turn.ok sc_turn (fun vs H Q E h => ?_) (fun cdv A outer s H vs Q E hr h => ?_)
  · obtain ⟨u, n, rfl, _⟩ := h
    rfl
  · obtain ⟨u, n, rfl, hu, hn, q⟩ := h
    refine ⟨_, (pss_one (ps_ret (pe_callTy (tupK K) (by rfl) T.tuple (by decide +kernel) (pa_cons (pe_call (ok_shuffled T) (hr.mono (by decide)) rfl T.m_shuffled T.F_shuffled.kp T.b_shuffled .nil pass0 (pa_cons (pv 0) (pa_cons (pe_listRg rfl rfl T.list (prg_1 rfl T.range (pv 1))) pa_nil))) pa_nil)))), ?_⟩
    refine ⟨_, rfl, _, rfl, n, rfl, ⟨by omega, by omega, by omega, by omega, by omega⟩, fun W hW => ?_⟩
    have sW := same_new (o := HO.lst (rgV 0 n)) hW
    refine ⟨u, W, rgV 0 n, rfl, (Drew.of hu sW).1, hu.ne hW, .of upd_same, by rw [rgV_length]; omega, fun H' p ys hd hp hy pm => ?_⟩
    rw [rgV_upto] at pm
    obtain ⟨ns, rfl, pm2⟩ := perm_ints pm
    refine ⟨p, _, rfl, .inl ⟨.of hy, fun t ht => ?_⟩⟩
    have d1 : Drew u H H' := (Drew.of hu sW).trans hd
    exact q _ t ns (d1.new ht) (d1.free ht) upd_same pm2
theorem ok_text (T : Tx K mg) : FnOk P w K mg base CX0 2 T.f_text T.d_text p_text spTextOf := by
  refine T.F_text.ok sc_text (fun vs H Q E h => ?_) (fun cdv A outer s H vs Q E hr h => ?_)
  · obtain ⟨u, n, m, rfl, _⟩ := h
    rfl
  · obtain ⟨u, n, m, rfl, hu, hn, hm, q⟩ := h
    refine ⟨_, (pss_one (ps_ret (pe_join pe_str (pe_lc (own := [("_law_turn_here", 3)]) (g := gName 3) (tt := tYes) rfl sc_text.nd (pi_range1 (by rfl) T.range (pa_cons (pe_call (ok_dip T) (hr.mono (by decide)) rfl T.m_dip T.F_dip.kp T.b_dip .nil pass0 (pa_cons (pv 0) (pa_cons (pe_op op_add (pv 2) pe_int) pa_nil))) pa_nil)) (blkOk_by (N := n_text) (sc := defScope s_text) (by decide +kernel)) (fun _ _ _ _ _ => pg_name (i := 3) sc_text.nd rfl (Or.inl rfl)) (fun _ _ _ _ _ => by exact pts_nil) (fun _ _ _ _ _ => by exact (pe_callTy call_str_int (by rfl) T.str (by decide +kernel) (pa_cons (pe_call (ok_dip T) (hr.mono (by decide)) rfl T.m_dip T.F_dip.kp T.b_dip .nil pass0 (pa_cons (pv 0) (pa_cons (pv 1) pa_nil))) pa_nil))))))), ?_⟩
    refine ⟨⟨_, rfl⟩, _, rfl, _, rfl, _, _, rfl, rfl, u, _, rfl, hu, by omega, small_abs (n := 101) (by omega) (by omega) (by decide +kernel), fun H1 r hd r0 r1 => ?_⟩
    refine ⟨r, rfl, by omega, by omega, fun D hD => ?_⟩
    have hDu := hd.1.ne hD
    refine lc_range (Pv := fun i H' => ∃ ys : List Str, H' D = some (.lst (ys.map V.str)) ∧ ys.length = i ∧ (∀ y ∈ ys, y.length = 1 ∧ ∀ c ∈ y.cps.toList, 48 ≤ c ∧ c < 48 + n) ∧ Drew u H H')
      ⟨[], upd_same, rfl, fun _ h => absurd h (by simp), hd.new hD⟩ ?_ ?_
    · rintro i H' hi ⟨ys, hy, hl, hc, d⟩
      refine ⟨wipe1 _ _ _, tyes_if ?_⟩
      refine ⟨_, rfl, _, rfl, u, _, rfl, d.1, by omega, small_abs (n := 4) (by omega) (by omega) (by decide +kernel), fun H2 x d2 x0 x1 => ?_⟩
      refine ⟨x, rfl, log_small x0 (by omega), ?_⟩
      refine ⟨ys.map V.str, d2.2 _ _ hDu hy, by rw [List.length_map, sizeLine_eq]; omega, ys ++ [(toString x : Str)], by rw [List.map_append]; exact upd_same, by simp [hl], fun y hm => ?_, ?_⟩
      · rcases List.mem_append.mp hm with hm | hm
        · exact hc y hm
        · rw [List.mem_singleton.mp hm]
          exact digit_str hn x0 x1
      · have d3 := d.trans d2
        obtain ⟨zs, h1, h2⟩ := d3.1
        refine ⟨⟨zs, by rw [upd_ne hDu.symm]; exact h1, h2⟩, fun b o hb e => ?_⟩
        rw [upd_ne (fun z => ?_)]
        · exact d3.2 b o hb e
        · rw [z, hd.free hD] at e
          cases e
    · rintro H' ⟨ys, hy, hl, hc, d⟩
      have hlen : ∀ x ∈ ys.map (fun y => y.cps.toList), x.length = 1 := fun x hx => by
        obtain ⟨y, hm, rfl⟩ := List.mem_map.mp hx
        rw [← len_tl]
        exact (hc y hm).1
      have hsum : (ys.map (·.length)).sum ≤ ys.length := by
        have : ∀ l : List Str, (∀ y ∈ l, y.length = 1) → (l.map (·.length)).sum ≤ l.length := by
          intro l
          induction l with
          | nil => intro _; simp
          | cons a l ih =>
            intro h
            rw [List.map_cons, List.sum_cons, h a List.mem_cons_self, List.length_cons]
            have := ih fun y hy => h y (List.mem_cons_of_mem _ hy)
            omega
        exact this ys fun y hy => (hc y hy).1
      refine ⟨_, D, ys, rfl, rfl, .inl (.of hy), ?_, q _ _ d ?_ ?_⟩
      · show (ys.map (·.length)).sum + ys.length * 0 ≤ 16777216
        omega
      · rw [len_tl]
        show (Txt.join ⟨#[]⟩ ys).cps.toList.length ≤ m
        rw [join0, flat_len hlen, List.length_map]
        omega
      · intro c hc2
        have hc2 : c ∈ (Txt.join ⟨#[]⟩ ys).cps.toList := hc2
        rw [join0] at hc2
        obtain ⟨l, hl, hcl⟩ := List.mem_flatten.mp hc2
        obtain ⟨y, hm, rfl⟩ := List.mem_map.mp hl
        exact (hc y hm).2 c hcl
end
end My

set_option Elab.async false
set_option linter.all false
set_option maxRecDepth 100000
set_option maxHeartbeats 4000000
namespace My
open PySem PySem.Spec PyProof.Rows L2
theorem Gd.drew {H H' : Hp} {u : Addr} {v : V} (g : Gd H v) (hu : UrnOk H u) (d : Drew u H H') : Gd H' v := by
  obtain ⟨us, h1, _⟩ := hu
  cases g with
  | non => exact .non
  | bl b => exact .bl b
  | int i => exact .int i
  | str z h ha => exact .str z h ha
  | tup a xs h hf hl => exact .tup a xs (d.2 _ _ (fun z => by rw [z, h1] at h; cases h) h) hf hl
  | lst a xs h =>
    by_cases e : a = u
    · subst e
      obtain ⟨zs, h2, _⟩ := d.1
      exact .lst a zs h2
    · exact .lst a xs (d.2 _ _ e h)
  | dct a kvs h => exact .dct a kvs (d.2 _ _ (fun z => by rw [z, h1] at h; cases h) h)
theorem cutS_len (z : Str) (lo hi : Option Int) : (cutS z lo hi).length ≤ z.length := by
  rw [len_tl, len_tl]
  show ((z.cps.toList.drop _).take _).length ≤ _
  rw [List.length_take, List.length_drop]
  omega
theorem cutS_mem {z : Str} {lo hi : Option Int} {c : Nat} (h : c ∈ (cutS z lo hi).cps.toList) : c ∈ z.cps.toList := by
  have h : c ∈ (z.cps.toList.drop (HT.sIx z.length 0 lo)).take (HT.sIx z.length z.length hi - HT.sIx z.length 0 lo) := h
  exact List.mem_of_mem_drop (List.mem_of_mem_take h)
theorem app_len (x y : Str) : (x ++ y).length = x.length + y.length := by
  rw [len_tl, len_tl, len_tl]
  show (TL.tl (x ++ y)).length = _
  rw [TL.tl_append, List.length_append]
theorem app_mem {x y : Str} {c : Nat} (h : c ∈ (x ++ y).cps.toList) : c ∈ x.cps.toList ∨ c ∈ y.cps.toList := by
  have h : c ∈ TL.tl (x ++ y) := h
  rw [TL.tl_append] at h
  exact List.mem_append.mp h
theorem asc_lit {z : Str} {c : Nat} (h : (z.cps.toList.all fun c => decide (c < 128)) = true) (hc : c ∈ z.cps.toList) : c < 128 := of_decide_eq_true (List.all_eq_true.mp h c hc)
theorem Asc.cut {z : Str} (h : Asc z) (lo hi : Option Int) : Asc (cutS z lo hi) := fun c hc => h c (cutS_mem hc)
theorem Asc.app {x y : Str} (h1 : Asc x) (h2 : Asc y) : Asc (x ++ y) := fun c hc => (app_mem hc).elim (h1 c) (h2 c)
def spPutIn (K : PySem.W.Frag) : Sp := fun vs H Q _ => ∃ (u a : Addr) (z : Str) (ys : List Str), vs = [.ref u, .str z, .ref a] ∧ UrnOk H u ∧ a ≠ u ∧ SqL K H a (ys.map V.str) ∧ 0 < ys.length ∧ ys.length ≤ 100 ∧
  (∀ y ∈ ys, y.length ≤ 1 ∧ Asc y) ∧ z.length ≤ 100 ∧ Asc z ∧ ∀ (H' : Hp) (z' : Str), Drew u H H' → z'.length ≤ 300 → Asc z' → Q (.str z') H'
section
variable {P : Program} {w : World} {K : PySem.W.Frag} {mg : Str → Option Value} {base : Heap}
theorem ok_put_in (T : Tx K mg) : FnOk P w K mg base CX0 3 T.f_put_in T.d_put_in p_put_in (spPutIn K) := by
  refine T.F_put_in.ok sc_put_in (fun vs H Q E h => ?_) (fun cdv A outer s H vs Q E hr h => ?_)
  · obtain ⟨u, a, z, ys, rfl, _⟩ := h
    rfl
  · obtain ⟨u, a, z, ys, rfl, hu, hn, hS, l0, l1, hy, hz, haz, q⟩ := h
    refine ⟨_, (pss_cons (ps_set (i := 3) sc_put_in.nd rfl (by first | exact Or.inl rfl | exact Or.inr rfl) (pe_call (ok_dip T) (hr.mono (by decide)) rfl T.m_dip T.F_dip.kp T.b_dip .nil pass0 (pa_cons (pv 0) (pa_cons (pe_op op_add (pe_callB call_len_str (by rfl) T.len (by decide +kernel) (pa_cons (pv 1) pa_nil)) pe_int) pa_nil))))
    (pss_one (ps_ret (pe_op op_add_str (pe_op op_add_str (pe_slice sl_str (pv 1) po_none (po_some (pv 3))) (pe_call (ok_one_of T) (hr.mono (by decide)) rfl T.m_one_of T.F_one_of.kp T.b_one_of .nil pass0 (pa_cons (pv 0) (pa_cons (pv 2) pa_nil)))) (pe_slice sl_str (pv 1) (po_some (pe_op op_add (pv 3) (pe_call (ok_dip T) (hr.mono (by decide)) rfl T.m_dip T.F_dip.kp T.b_dip .nil pass0 (pa_cons (pv 0) (pa_cons pe_int pa_nil))))) po_none))))), ?_⟩
    refine ⟨_, rfl, _, rfl, z, rfl, by rw [sizeLine_eq]; omega, _, _, rfl, rfl, u, _, rfl, hu, by omega, small_abs (n := 101) (by omega) (by omega) (by decide +kernel), fun H1 r hd r0 r1 => ?_⟩
    refine ⟨_, rfl, _, rfl, _, rfl, z, rfl, by rw [sizeLine_eq]; omega, _, rfl, _, rfl, u, hd.1, .inl ⟨a, ys.map V.str, rfl, hn, hd.seq hn hS, by rw [List.length_map]; exact l0, by rw [List.length_map]; omega, fun H2 x d2 hx => ?_⟩⟩
    obtain ⟨y, hm, rfl⟩ := List.mem_map.mp hx
    obtain ⟨y1, y2⟩ := hy y hm
    have c1 := cutS_len z none (some r)
    refine ⟨_, _, rfl, rfl, by rw [sizeLine_eq]; omega, _, rfl, _, rfl, _, rfl, u, _, rfl, d2.1, by decide, by decide +kernel, fun H3 r2 d3 s0 s1 => ?_⟩
    refine ⟨_, _, rfl, rfl, _, rfl, z, rfl, by rw [sizeLine_eq]; omega, ?_⟩
    have c2 := cutS_len z (some (r + r2)) none
    have e := app_len (cutS z none (some r)) y
    refine ⟨_, _, rfl, rfl, by rw [sizeLine_eq]; omega, q _ _ ((hd.trans d2).trans d3) ?_ ((Asc.app (haz.cut _ _) y2).app (haz.cut _ _))⟩
    rw [app_len]
    omega
end
end My

set_option Elab.async false
set_option linter.all false
set_option maxRecDepth 100000
set_option maxHeartbeats 8000000
namespace My
open PySem PySem.Spec PyProof.Rows L2
theorem grow {H : Hp} {p : Addr} {o : HO} {vs : List V} {v : V} (g : ∀ x ∈ vs, Gd H x) (h : H p = none) (n : Gd (upd H p o) v) : ∀ x ∈ vs ++ [v], Gd (upd H p o) x := fun x hx =>
  (List.mem_append.mp hx).elim (fun q => (g x q).same (same_new h)) fun q => by rw [List.mem_singleton.mp q]; exact n
theorem more {H : Hp} {vs : List V} {v : V} (g : ∀ x ∈ vs, Gd H x) (n : Gd H v) : ∀ x ∈ vs ++ [v], Gd H x := fun x hx =>
  (List.mem_append.mp hx).elim (g x) fun q => by rw [List.mem_singleton.mp q]; exact n
theorem keep {H H' : Hp} {vs : List V} (g : ∀ x ∈ vs, Gd H x) (s : Same H H') : ∀ x ∈ vs, Gd H' x := fun x hx => (g x hx).same s
theorem none_yet {H : Hp} : ∀ x ∈ ([] : List V), Gd H x := fun _ h => absurd h (by simp)
/-- a tuple of flat values, all else as it was -/
def TupR (k : Nat) (H : Hp) : VK := fun v H' => ∃ a xs, v = .ref a ∧ H' a = some (.tup xs) ∧ xs.all flatG = true ∧ xs.length ≤ k ∧ Same H H'
theorem allG_cut {xs : List V} (h : xs.all flatG = true) (lo hi : Option Int) : (cutV xs lo hi).all flatG = true := List.all_eq_true.mpr fun x hx => by
  have hx : x ∈ (xs.drop (HT.sIx xs.length 0 lo)).take (HT.sIx xs.length xs.length hi - HT.sIx xs.length 0 lo) := hx
  exact List.all_eq_true.mp h x (List.mem_of_mem_drop (List.mem_of_mem_take hx))
theorem allG_app {xs ys : List V} (h : xs.all flatG = true) (h2 : ys.all flatG = true) : (xs ++ ys).all flatG = true := by
  rw [List.all_append, h, h2] <;> rfl
theorem allG_ints (ns : List Int) : (ns.map V.int).all flatG = true := List.all_eq_true.mpr fun x hx => by
  obtain ⟨i, _, rfl⟩ := List.mem_map.mp hx
  rfl
theorem slice_R {K : PySem.W.Frag} {H : Hp} {a : Addr} {xs : List V} (lo hi : Option Int) (h : H a = some (.tup xs)) {k : Nat} (hf : xs.all flatG = true) (hl : xs.length ≤ k) : rSlA K (.ref a) lo hi H (TupR k H) :=
  ⟨a, xs, rfl, .of h, fun _ => ⟨a, xs, rfl, h, hf, hl, Same.refl H⟩, fun _ p hp => ⟨p, _, rfl, upd_same, allG_cut hf _ _, Nat.le_trans (cutV_length xs lo hi) hl, same_new hp⟩⟩
theorem cat_R {K : PySem.W.Frag} {H0 H : Hp} {a b : Addr} {xs ys : List V} (s : Same H0 H) (h : H a = some (.tup xs)) (h2 : H b = some (.tup ys)) (hf : xs.all flatG = true) (hf2 : ys.all flatG = true) {k : Nat} (hl : xs.length + ys.length ≤ k) (hk : k ≤ 50) : rCatA K (.ref a) (.ref b) H (TupR k H0) :=
  ⟨a, b, xs, ys, rfl, rfl, .of h, .of h2, by rw [sizeLine_eq]; omega, fun _ => ⟨b, ys, rfl, h2, hf2, by omega, s⟩, fun _ _ => ⟨a, xs, rfl, h, hf, by omega, s⟩, fun _ _ p hp => ⟨p, _, rfl, upd_same, allG_app hf hf2, by rw [List.length_append]; omega, Same.new s hp⟩⟩
theorem new_lst {H : Hp} {p : Addr} {vs : List V} (xs : List V) (g : ∀ x ∈ vs, Gd H x) (h : H p = none) : ∀ x ∈ vs ++ [.ref p], Gd (upd H p (.lst xs)) x := grow g h (.lst p xs upd_same)
theorem new_tup {H : Hp} {p : Addr} {vs : List V} (xs : List V) (g : ∀ x ∈ vs, Gd H x) (h : H p = none) (hf : xs.all flatG = true) (hl : xs.length ≤ 60) : ∀ x ∈ vs ++ [.ref p], Gd (upd H p (.tup xs)) x := grow g h (.tup p xs upd_same hf hl)
theorem new_dct {H : Hp} {p : Addr} {vs : List V} (kvs : List (Key × V)) (g : ∀ x ∈ vs, Gd H x) (h : H p = none) : ∀ x ∈ vs ++ [.ref p], Gd (upd H p (.dK kvs)) x := grow g h (.dct p kvs upd_same)
theorem allG_rg (a b : Int) : (rgV a b).all flatG = true := List.all_eq_true.mpr fun x hx => by
  obtain ⟨i, _, rfl⟩ := List.mem_map.mp hx
  rfl
theorem allG_strs {l : List Str} (h : ∀ y ∈ l, y.length ≤ 1000 ∧ Asc y) : (l.map V.str).all flatG = true := List.all_eq_true.mpr fun x hx => by
  obtain ⟨y, hm, rfl⟩ := List.mem_map.mp hx
  obtain ⟨h1, h2⟩ := h y hm
  show (decide (y.length ≤ 1000) && y.cps.toList.all fun c => decide (c < 128)) = true
  rw [decide_eq_true h1, Bool.true_and]
  exact List.all_eq_true.mpr fun c hc => decide_eq_true (h2 c hc)
/-- what stands behind the rows of near_values -/
def NV (H : Hp) (u : Addr) (n k : Nat) (σ : L2.St) (H' : Hp) : Prop := ∃ (word text : Str) (t F : Addr) (ns : List Int) (size : Int) (xs : List V),
  σ = [some (.ref u), some (.int n), some (.str word), some (.str text), some (.ref t), some (.int size), some (.ref F), none] ∧ Drew u H H' ∧ (word.length ≤ 20 ∧ Asc word) ∧ (text.length ≤ 20 ∧ Asc text) ∧
  H' t = some (.tup (ns.map V.int)) ∧ ns.Perm (upto n) ∧ 2 ≤ size ∧ size ≤ 300 ∧ H' F = some (.lst xs) ∧ F ≠ u ∧ t ≠ u ∧ H F = none ∧ xs.length ≤ k ∧ ∀ x ∈ xs, Gd H' x
/-- found = found + [vs] -/
theorem nv_next {H H1 H2 : Hp} {u : Addr} {n k : Nat} {word text : Str} {t F : Addr} {ns : List Int} {size : Int} {xs vs : List V} {D : L2.St → Hp → Prop} (hd : Drew u H H1) (hw : word.length ≤ 20 ∧ Asc word) (ht : text.length ≤ 20 ∧ Asc text) (h1 : H1 t = some (.tup (ns.map V.int))) (pm : ns.Perm (upto n)) (s0 : 2 ≤ size)
    (s1 : size ≤ 300) (hF : H1 F = some (.lst xs)) (nF : F ≠ u) (nt : t ≠ u) (hF0 : H F = none) (hk : xs.length ≤ k) (hg : ∀ x ∈ xs, Gd H1 x) (d : Drew u H1 H2) (hv : ∀ x ∈ vs, Gd H2 x) (hl : vs.length ≤ 20) (hk2 : k ≤ 100)
    (q : ∀ σ H', NV H u n (k + vs.length) σ H' → D σ H') :
    vs.length ≤ sizeLine ∧ ∀ p, H2 p = none → rCat (.ref F) (.ref p) (upd H2 p (.lst vs)) fun x H' => gName 6 x [some (.ref u), some (.int n), some (.str word), some (.str text), some (.ref t), some (.int size), some (.ref F), none] H' D := by
  refine ⟨by rw [sizeLine_eq]; omega, fun p hp => ?_⟩
  have hF2 : H2 F = some (.lst xs) := d.2 _ _ nF hF
  have sp := same_new (o := HO.lst vs) hp
  refine ⟨F, p, xs, vs, rfl, rfl, sp _ _ hF2, upd_same, by rw [sizeLine_eq]; omega, fun r hr => q _ _ ?_⟩
  have sr := same_new (o := HO.lst (xs ++ vs)) hr
  have d2 : Drew u H1 (upd (upd H2 p (.lst vs)) r (.lst (xs ++ vs))) := (d.same sp).same sr
  have d3 : Drew u H (upd (upd H2 p (.lst vs)) r (.lst (xs ++ vs))) := hd.trans d2
  have hrH : H r = none := (hd.trans (d.same sp)).free hr
  refine ⟨word, text, t, r, ns, size, xs ++ vs, rfl, d3, hw, ht, d2.2 _ _ nt h1, pm, s0, s1, upd_same, (d.same sp).1.ne hr, nt, hrH, by rw [List.length_append]; omega, fun x hx => ?_⟩
  rcases List.mem_append.mp hx with hx | hx
  · exact (hg x hx).drew hd.1 d2
  · exact ((hv x hx).same sp).same sr
theorem join_one {ys : List Str} (h : ∀ y ∈ ys, y.length = 1 ∧ Asc y) : (Txt.join ⟨#[]⟩ ys).length = ys.length ∧ Asc (Txt.join ⟨#[]⟩ ys) ∧ (ys.map (·.length)).sum = ys.length := by
  refine ⟨?_, fun c hc => ?_, ?_⟩
  · rw [len_tl, join0, flat_len fun x hx => ?_, List.length_map]
    obtain ⟨y, hm, rfl⟩ := List.mem_map.mp hx
    rw [← len_tl]
    exact (h y hm).1
  · rw [join0] at hc
    obtain ⟨l, hl, hcl⟩ := List.mem_flatten.mp hc
    obtain ⟨y, hm, rfl⟩ := List.mem_map.mp hl
    exact (h y hm).2 c hcl
  · have key : ∀ l : List Str, (∀ y ∈ l, y.length = 1) → (l.map (·.length)).sum = l.length := by
      intro l
      induction l with
      | nil => intro _; rfl
      | cons a l ih =>
        intro h
        rw [List.map_cons, List.sum_cons, h a List.mem_cons_self, List.length_cons, ih fun y hy => h y (List.mem_cons_of_mem _ hy)]
        omega
    exact key ys fun y hy => (h y hy).1
theorem az_asc {c : Nat} (h : c ∈ ("abcdefghijklmnopqrstuvwxyz" : Str).cps.toList) : c < 128 := by
  have e := az_mem c
  rw [decide_eq_true h] at e
  have := (Bool.and_eq_true_iff.mp e.symm).2
  have := of_decide_eq_true this
  omega
def spNear : Sp := fun vs H Q _ => ∃ (u : Addr) (n : Nat), vs = [.ref u, .int n] ∧ UrnOk H u ∧ (n = 2 ∨ n = 3 ∨ n = 4) ∧
  ∀ (H' : Hp) (p : Addr) (xs : List V), Drew u H H' → H p = none → H' p = some (.lst xs) → xs.length ≤ 100 → (∀ x ∈ xs, Gd H' x) → Q (.ref p) H'
section
variable {P : Program} {w : World} {K : PySem.W.Frag} {mg : Str → Option Value} {base : Heap}
theorem ok_near_values (T : Tx K mg) : FnOk P w K mg base CX0 4 T.f_near_values T.d_near_values p_near_values spNear := by
  refine T.F_near_values.ok sc_near_values (fun vs H Q E h => ?_) (fun cdv A outer s H vs Q E hr h => ?_)
  · obtain ⟨u, n, rfl, _⟩ := h
    rfl
  · obtain ⟨u, n, rfl, hu, hn, q⟩ := h
    refine ⟨_, (C8.pss_cut (ps_set (i := 2) sc_near_values.nd rfl (by first | exact Or.inl rfl | exact Or.inr rfl) (pe_join pe_str (pe_lc (own := [("_law_turn_here", 4)]) (g := gName 4) (tt := tYes) rfl sc_near_values.nd (pi_range1 (by rfl) T.range (pa_cons (pe_call (ok_dip T) (hr.mono (by decide)) rfl T.m_dip T.F_dip.kp T.b_dip .nil pass0 (pa_cons (pv 0) (pa_cons pe_int pa_nil))) pa_nil)) (blkOk_by (N := n_near_values) (sc := defScope s_near_values) (by decide +kernel)) (fun _ _ _ _ _ => pg_name (i := 4) sc_near_values.nd rfl (Or.inl rfl)) (fun _ _ _ _ _ => by exact pts_nil) (fun _ _ _ _ _ => by exact (pe_call (ok_one_of T) (hr.mono (by decide)) rfl T.m_one_of T.F_one_of.kp T.b_one_of .nil pass0 (pa_cons (pv 0) (pa_cons pe_str pa_nil)))))))
    (C8.pss_cut (ps_par3 (i := 3) (j := 4) (l := 5) (by rfl) sc_near_values.nd rfl rfl rfl (by decide) (by decide) (by decide) rfl rfl rfl (pa_cons (pe_call (ok_text T) (hr.mono (by decide)) rfl T.m_text T.F_text.kp T.b_text .nil pass0 (pa_cons (pv 0) (pa_cons (pv 1) (pa_cons pe_int pa_nil)))) (pa_cons (pe_call (ok_turn T) (hr.mono (by decide)) rfl T.m_turn T.F_turn.kp T.b_turn .nil pass0 (pa_cons (pv 0) (pa_cons (pv 1) pa_nil))) (pa_cons (pe_call (ok_one_of T) (hr.mono (by decide)) rfl T.m_one_of T.F_one_of.kp T.b_one_of .nil pass0 (pa_cons (pv 0) (pa_cons (pe_lst (pa_cons pe_int (pa_cons pe_int (pa_cons pe_int (pa_cons pe_int pa_nil))))) pa_nil))) pa_nil))) (by rfl))
    (C8.pss_cut (ps_set (i := 6) sc_near_values.nd rfl (by first | exact Or.inl rfl | exact Or.inr rfl) (pe_lst (pa_cons (pv 2) (pa_cons (pe_call (ok_put_in T) (hr.mono (by decide)) rfl T.m_put_in T.F_put_in.kp T.b_put_in .nil pass0 (pa_cons (pv 0) (pa_cons (pv 2) (pa_cons (pe_lst (pa_cons pe_str (pa_cons pe_str (pa_cons pe_str (pa_cons pe_str (pa_cons pe_str (pa_cons pe_str (pa_cons pe_str pa_nil)))))))) pa_nil)))) (pa_cons (pv 3) pa_nil)))))
    (C8.pss_cut (ps_set (i := 6) sc_near_values.nd rfl (by first | exact Or.inl rfl | exact Or.inr rfl) (pe_op op_cat (pv 6) (pe_lst (pa_cons (pe_call (ok_put_in T) (hr.mono (by decide)) rfl T.m_put_in T.F_put_in.kp T.b_put_in .nil pass0 (pa_cons (pv 0) (pa_cons (pv 3) (pa_cons (pe_lst (pa_cons pe_str (pa_cons pe_str (pa_cons pe_str (pa_cons pe_str (pa_cons pe_str (pa_cons pe_str (pa_cons pe_str (pa_cons pe_str (pa_cons pe_str pa_nil)))))))))) pa_nil)))) (pa_cons (pe_op op_rep_str (pe_callTy call_str_int (by rfl) T.str (by decide +kernel) (pa_cons (pe_call (ok_dip T) (hr.mono (by decide)) rfl T.m_dip T.F_dip.kp T.b_dip .nil pass0 (pa_cons (pv 0) (pa_cons (pv 1) pa_nil))) pa_nil)) (pv 5)) (pa_cons (pv 4) pa_nil))))))
    (C8.pss_cut (ps_set (i := 6) sc_near_values.nd rfl (by first | exact Or.inl rfl | exact Or.inr rfl) (pe_op op_cat (pv 6) (pe_lst (pa_cons (pe_callTy (listK K) (by rfl) T.list (by decide +kernel) (pa_cons (pv 4) pa_nil)) (pa_cons (pe_cut (pe_slice (slT K) (pv 4) (po_some pe_int) po_none)) (pa_cons (pe_cut (pe_op (catT K) (pv 4) (pe_cut (pe_slice (slT K) (pv 4) po_none (po_some pe_int))))) (pa_cons (pe_cut (pe_op (catT K) (pe_cut (pe_slice (slT K) (pv 4) po_none (po_some (pe_un un_neg pe_int)))) (pe_tup (pa_cons (pv 1) pa_nil)))) (pa_cons (pe_sliceRev_T K (pv 4)) (pa_cons (pe_op (repT K) (pe_tup (pa_cons pe_int pa_nil)) (pv 1)) pa_nil)))))))))
    (C8.pss_cut (ps_set (i := 6) sc_near_values.nd rfl (by first | exact Or.inl rfl | exact Or.inr rfl) (pe_op op_cat (pv 6) (pe_lst (pa_cons (pe_callTy (tupK K) (by rfl) T.tuple (by decide +kernel) (pa_cons (pe_lc (own := [("_law_one", 7)]) (g := gName 7) (tt := tYes) rfl sc_near_values.nd (piT K (pv 4)) (blkOk_by (N := n_near_values) (sc := defScope s_near_values) (by decide +kernel)) (fun _ _ _ _ _ => pg_name (i := 7) sc_near_values.nd rfl (Or.inl rfl)) (fun _ _ _ _ _ => by exact pts_nil) (fun _ _ _ _ _ => by exact (pe_callTy call_str_int (by rfl) T.str (by decide +kernel) (pa_cons (pv 7) pa_nil)))) pa_nil)) (pa_cons (pe_callTy (tupK K) (by rfl) T.tuple (by decide +kernel) (pa_cons (pe_lc (own := [("_law_one", 7)]) (g := gName 7) (tt := tYes) rfl sc_near_values.nd (piT K (pv 4)) (blkOk_by (N := n_near_values) (sc := defScope s_near_values) (by decide +kernel)) (fun _ _ _ _ _ => pg_name (i := 7) sc_near_values.nd rfl (Or.inl rfl)) (fun _ _ _ _ _ => by exact pts_nil) (fun _ _ _ _ _ => by exact (pe_op op_sub (pv 7) pe_int))) pa_nil)) (pa_cons (pe_callTy (tupK K) (by rfl) T.tuple (by decide +kernel) (pa_cons (pe_lc (own := [("_law_one", 7)]) (g := gName 7) (tt := tYes) rfl sc_near_values.nd (piT K (pv 4)) (blkOk_by (N := n_near_values) (sc := defScope s_near_values) (by decide +kernel)) (fun _ _ _ _ _ => pg_name (i := 7) sc_near_values.nd rfl (Or.inl rfl)) (fun _ _ _ _ _ => by exact pts_nil) (fun _ _ _ _ _ => by exact (pe_cmpR op_eq (pv 7) pe_int (nomark _)))) pa_nil)) pa_nil))))))
    (C8.pss_cut (ps_set (i := 6) sc_near_values.nd rfl (by first | exact Or.inl rfl | exact Or.inr rfl) (pe_op op_cat (pv 6) (pe_lst (pa_cons (pe_tupRg rfl rfl T.tuple (prg_1 rfl T.range (pv 1))) (pa_cons (pe_cut (pe_op (catT K) (pe_tup (pa_cons pe_int (pa_cons pe_bl pa_nil))) (pe_tupRg rfl rfl T.tuple (prg_2 rfl T.range pe_int (pv 1))))) (pa_cons (pe_tup (pa_cons (pv 3) pa_nil)) (pa_cons (pe_lst (pa_cons (pv 3) pa_nil)) (pa_cons (pe_lst (pa_cons (pv 2) pa_nil)) (pa_cons (pe_disp (pps_cons pe_int pe_int pps_nil) (by rfl) (by rfl) (fun z => by cases z) (by decide)) (pa_cons (pe_tup (pa_cons pe_int (pa_cons pe_int pa_nil))) (pa_cons (pe_tup (pa_cons pe_int (pa_cons pe_int (pa_cons pe_int pa_nil)))) (pa_cons (pe_tup (pa_cons pe_int (pa_cons pe_int (pa_cons pe_int (pa_cons pe_int pa_nil))))) pa_nil))))))))))))
    (pss_one (ps_ret (pe_op op_cat (pv 6) (pe_lst (pa_cons pe_non (pa_cons pe_bl (pa_cons pe_bl (pa_cons pe_int (pa_cons pe_int (pa_cons (pe_op op_powB pe_int pe_int) (pa_cons pe_str (pa_cons pe_str (pa_cons pe_str (pa_cons pe_str (pa_cons (pe_tup pa_nil) (pa_cons (pe_lst pa_nil) (pa_cons pe_dnewK (pa_cons (pe_op (repT K) (pe_tup (pa_cons pe_non pa_nil)) (pv 1)) (pa_cons (pe_tup (pa_cons (pe_op op_powB pe_int pe_int) (pa_cons pe_int pa_nil))) pa_nil)))))))))))))))))))))))))), ?_⟩
    -- word
    refine ⟨fun σ H' => ∃ word : Str, σ = [some (.ref u), some (.int n), some (.str word), none, none, none, none, none] ∧ Drew u H H' ∧ word.length ≤ 20 ∧ Asc word, ?_, ?_⟩
    · refine ⟨⟨_, rfl⟩, _, rfl, u, _, rfl, hu, by decide, by decide +kernel, fun H1 r hd r0 r1 => ⟨r, rfl, by omega, by omega, fun D hD => ?_⟩⟩
      have hDu := hd.1.ne hD
      refine lc_range (Pv := fun i H' => ∃ ys : List Str, H' D = some (.lst (ys.map V.str)) ∧ ys.length = i ∧ (∀ y ∈ ys, y.length = 1 ∧ Asc y) ∧ Drew u H H')
        ⟨[], upd_same, rfl, fun _ h => absurd h (by simp), hd.new hD⟩ ?_ ?_
      · rintro i H' hi ⟨ys, hy, hl, hc, d⟩
        refine ⟨wipe1 _ _ _, tyes_if ?_⟩
        refine ⟨_, rfl, u, d.1, .inr ⟨_, rfl, by decide, by decide, fun H2 c d2 hcm => ?_⟩⟩
        refine ⟨ys.map V.str, d2.2 _ _ hDu hy, by rw [List.length_map, sizeLine_eq]; omega, ys ++ [(⟨#[c]⟩ : Str)], by rw [List.map_append]; exact upd_same, by simp [hl], fun y hm => ?_, ?_⟩
        · rcases List.mem_append.mp hm with hm | hm
          · exact hc y hm
          · rw [List.mem_singleton.mp hm]
            refine ⟨rfl, fun c2 h2 => ?_⟩
            have h2 : c2 ∈ [c] := h2
            rw [List.mem_singleton.mp h2]
            exact az_asc hcm
        · have d3 := d.trans d2
          obtain ⟨zs, h1, h2⟩ := d3.1
          refine ⟨⟨zs, by rw [upd_ne hDu.symm]; exact h1, h2⟩, fun b o hb e => ?_⟩
          rw [upd_ne (fun z => ?_)]
          · exact d3.2 b o hb e
          · rw [z, hd.free hD] at e
            cases e
      · rintro H' ⟨ys, hy, hl, hc, d⟩
        obtain ⟨j1, j2, j3⟩ := join_one hc
        exact ⟨_, D, ys, rfl, rfl, .inl (.of hy), by rw [j3]; show ys.length + ys.length * 0 ≤ 16777216; omega, _, rfl, d, by show (Txt.join ⟨#[]⟩ ys).length ≤ 20; rw [j1]; omega, j2⟩
    rintro σ H1 ⟨word, rfl, d1, hw⟩
    -- text, turn, size
    refine ⟨fun σ H' => ∃ (text : Str) (t : Addr) (ns : List Int) (size : Int), σ = [some (.ref u), some (.int n), some (.str word), some (.str text), some (.ref t), some (.int size), none, none] ∧ Drew u H H' ∧ (text.length ≤ 20 ∧ Asc text) ∧ H' t = some (.tup (ns.map V.int)) ∧ ns.Perm (upto n) ∧ 2 ≤ size ∧ size ≤ 300 ∧ t ≠ u, ?_, ?_⟩
    · refine ⟨_, rfl, _, rfl, u, n, 9, rfl, d1.1, hn, by decide, fun H2 text d2 hl hc => ?_⟩
      refine ⟨_, rfl, _, rfl, u, n, rfl, d2.1, by omega, fun H3 t ns d3 ht ht2 pm => ?_⟩
      refine ⟨_, rfl, by decide, fun W hW => ?_⟩
      refine ⟨u, (d3.new hW).1, .inl ⟨W, _, rfl, d3.1.ne hW, .of upd_same, by decide, by decide, fun H4 x d4 hx => ?_⟩⟩
      have htu : t ≠ u := d2.1.ne ht
      have hx : x = .int 199 ∨ x = .int 200 ∨ x = .int 201 ∨ x = .int 300 := by simpa using hx
      have dd := ((d1.trans d2).trans (d3.new hW)).trans d4
      have e := d4.2 _ _ htu (same_new hW _ _ ht2)
      have ha : Asc text := fun c hcm => by have := hc c hcm; omega
      rcases hx with rfl | rfl | rfl | rfl
      · exact ⟨_, _, _, rfl, text, t, ns, 199, rfl, dd, ⟨by omega, ha⟩, e, pm, by decide, by decide, htu⟩
      · exact ⟨_, _, _, rfl, text, t, ns, 200, rfl, dd, ⟨by omega, ha⟩, e, pm, by decide, by decide, htu⟩
      · exact ⟨_, _, _, rfl, text, t, ns, 201, rfl, dd, ⟨by omega, ha⟩, e, pm, by decide, by decide, htu⟩
      · exact ⟨_, _, _, rfl, text, t, ns, 300, rfl, dd, ⟨by omega, ha⟩, e, pm, by decide, by decide, htu⟩
    rintro σ H2 ⟨text, t, ns, size, rfl, d2, ht, et, pm, z0, z1, htu⟩
    -- found, the first three
    refine ⟨NV H u n 3, ?_, ?_⟩
    · refine ⟨_, rfl, _, rfl, _, rfl, by decide, fun W hW => ?_⟩
      refine ⟨u, W, word, ["A", "0", "_", " ", "", "z", "\n"], rfl, (d2.new hW).1, d2.1.ne hW, .of upd_same, by decide, by decide, ?_, by omega, hw.2, fun H3 z' d3 l3 a3 => ?_⟩
      · intro y hy
        have : y = "A" ∨ y = "0" ∨ y = "_" ∨ y = " " ∨ y = "" ∨ y = "z" ∨ y = "\n" := by simpa using hy
        rcases this with rfl | rfl | rfl | rfl | rfl | rfl | rfl <;> exact ⟨by decide, fun c hc => asc_lit (by decide) hc⟩
      refine ⟨_, rfl, by show 3 ≤ sizeLine; decide, fun F hF => ?_⟩
      have dd := (d2.new hW).trans d3
      have e3 := d3.2 _ _ htu (same_new hW _ _ et)
      refine ⟨word, text, t, F, ns, size, _, rfl, dd.new hF, hw, ht, same_new hF _ _ e3, pm, z0, z1, upd_same, dd.1.ne hF, htu, dd.free hF, Nat.le_refl 3, fun x hx => ?_⟩
      have hx : x = .str word ∨ x = .str z' ∨ x = .str text := by simpa using hx
      rcases hx with rfl | rfl | rfl
      · exact .str _ (by omega) hw.2
      · exact .str _ (by omega) a3
      · exact .str _ (by omega) ht.2
    clear et htu z0 z1 ht d2 pm
    -- the next three
    rintro σ H3 ⟨word, text, t, F, ns, size, xs, rfl, dd, hw, ht, et, pm, z0, z1, hF, nF, htu, hF0, hk, hg⟩
    refine ⟨NV H u n 6, ?_, ?_⟩
    · refine ⟨_, rfl, _, rfl, _, rfl, by show 9 ≤ sizeLine; decide, fun W hW => ?_⟩
      have dW := Drew.of dd.1 (same_new (o := HO.lst [.str "0", .str "1", .str "2", .str "3", .str "4", .str "a", .str " ", .str "", .str "-"]) hW)
      refine ⟨u, W, text, ["0", "1", "2", "3", "4", "a", " ", "", "-"], rfl, dW.1, dd.1.ne hW, .of upd_same, by decide, by decide, ?_, by omega, ht.2, fun H4 z' d4 l4 a4 => ?_⟩
      · intro y hy
        have : y = "0" ∨ y = "1" ∨ y = "2" ∨ y = "3" ∨ y = "4" ∨ y = "a" ∨ y = " " ∨ y = "" ∨ y = "-" := by simpa using hy
        rcases this with rfl | rfl | rfl | rfl | rfl | rfl | rfl | rfl | rfl <;> exact ⟨by decide, fun c hc => asc_lit (by decide) hc⟩
      refine ⟨_, rfl, _, rfl, u, _, rfl, d4.1, by omega, small_abs (n := 4) (by omega) (by omega) (by decide +kernel), fun H5 r d5 r0 r1 => ?_⟩
      obtain ⟨s1, s2⟩ := digit_str hn r0 r1
      refine ⟨r, rfl, log_small r0 (by omega), _, rfl, _, size, rfl, rfl, z0, by omega, s1, fun z2 l2 c2 => ?_⟩
      refine ⟨_, rfl, ?_⟩
      refine nv_next (vs := [.str z', .str z2, .ref t]) dd hw ht et pm z0 z1 hF nF htu hF0 hk hg ((dW.trans d4).trans d5) (fun x hx => ?_) (by show 3 ≤ 20; decide) (by decide) (fun σ H' h => h)
      have hx : x = .str z' ∨ x = .str z2 ∨ x = .ref t := by simpa using hx
      have et5 := ((dW.trans d4).trans d5).2 _ _ htu et
      rcases hx with rfl | rfl | rfl
      · exact .str _ (by omega) a4
      · exact .str _ (by omega) fun c hc => by have := s2 c (c2 c hc); omega
      · exact .tup _ _ et5 (allG_ints _) (by rw [List.length_map, pm.length_eq, upto_len]; omega)
    clear et htu z0 z1 ht pm hF nF hF0 hk hg dd hw
    -- six tuples
    rintro σ H3 ⟨word, text, t, F, ns, size, xs, rfl, dd, hw, ht, et, pm, z0, z1, hF, nF, htu, hF0, hk, hg⟩
    refine ⟨NV H u n 12, ?_, ?_⟩
    · have hnl : (ns.map V.int).length = n := by rw [List.length_map, pm.length_eq, upto_len]
      refine ⟨_, rfl, _, rfl, t, _, rfl, .inr (.of et), fun a1 h1 => ?_⟩
      have S1 := same_new (o := HO.lst (ns.map V.int)) h1
      have G1 := new_lst (ns.map V.int) none_yet h1
      refine ⟨TupR 4 _, ⟨_, rfl, _, rfl, slice_R _ _ (S1 _ _ et) (allG_ints _) (by omega)⟩, ?_⟩
      rintro _ H4 ⟨a2, x2, rfl, e2, f2, l2, s2⟩
      have G2 := more (keep G1 s2) (.tup a2 x2 e2 f2 (by omega))
      have S2 := S1.trans s2
      refine ⟨TupR 8 H4, ⟨_, rfl, TupR 4 _, ⟨_, rfl, _, rfl, slice_R _ _ (S2 _ _ et) (allG_ints _) (by omega)⟩, ?_⟩, ?_⟩
      · rintro _ H5 ⟨b, y, rfl, e3, f3, l3, s3⟩
        exact cat_R s3 (s3 _ _ (S2 _ _ et)) e3 (allG_ints _) f3 (by omega) (by decide)
      rintro _ H5 ⟨a3, x3, rfl, e3, f3, l3, s3⟩
      have G3 := more (keep G2 s3) (.tup a3 x3 e3 f3 (by omega))
      have S3 := S2.trans s3
      refine ⟨TupR 8 H5, ⟨TupR 4 _, ⟨_, rfl, 1, rfl, _, rfl, slice_R _ _ (S3 _ _ et) (allG_ints _) (by omega)⟩, ?_⟩, ?_⟩
      · rintro _ H6 ⟨b, y, rfl, e4, f4, l4, s4⟩
        refine ⟨_, rfl, by show 1 ≤ sizeLine; decide, fun c hc => ?_⟩
        have sc := same_new (o := HO.tup [.int n]) hc
        exact cat_R (s4.trans sc) (sc _ _ e4) upd_same f4 rfl (by show y.length + 1 ≤ 8; omega) (by decide)
      rintro _ H6 ⟨a4, x4, rfl, e4, f4, l4, s4⟩
      have G4 := more (keep G3 s4) (.tup a4 x4 e4 f4 (by omega))
      have S4 := S3.trans s4
      refine ⟨_, rfl, t, _, rfl, .of (S4 _ _ et), fun a5 h5 => ?_⟩
      have S5 := Same.new (o := HO.tup (ns.map V.int).reverse) S4 h5
      have G5 := new_tup (ns.map V.int).reverse G4 h5 (by rw [← List.map_reverse]; exact allG_ints _) (by rw [List.length_reverse]; omega)
      refine ⟨by show 1 ≤ sizeLine; decide, fun a6 h6 => ?_⟩
      have S6 := Same.new (o := HO.tup [.int 0]) S5 h6
      have G6 := keep G5 (same_new (o := HO.tup [.int 0]) h6)
      refine ⟨_, rfl, a6, n, [.int 0], rfl, rfl, .of upd_same, by simp, by omega, by omega, by decide, fun a7 h7 => ?_⟩
      have G7 := new_tup (List.replicate (n : Int).toNat [V.int 0]).flatten G6 h7 (by
        refine List.all_eq_true.mpr fun x hx => ?_
        obtain ⟨l, hl, hxl⟩ := List.mem_flatten.mp hx
        rw [(List.mem_replicate.mp hl).2] at hxl
        rw [List.mem_singleton.mp hxl]
        rfl) (by rw [List.length_flatten, List.map_replicate, List.sum_replicate_nat]; simp; omega)
      have S7 := Same.new (o := HO.tup (List.replicate (n : Int).toNat [V.int 0]).flatten) S6 h7
      exact nv_next (vs := [.ref a1, .ref a2, .ref a3, .ref a4, .ref a5, .ref a7]) dd hw ht et pm z0 z1 hF nF htu hF0 hk hg (Drew.of dd.1 S7) G7 (by show 6 ≤ 20; decide) (by decide) (fun σ H' h => h)
    clear et htu z0 z1 ht pm hF nF hF0 hk hg dd hw
    -- three tuples by comprehensions
    rintro σ H3 ⟨word, text, t, F, ns, size, xs, rfl, dd, hw, ht, et, pm, z0, z1, hF, nF, htu, hF0, hk, hg⟩
    have hmem : ∀ i ∈ ns, 0 ≤ i ∧ i < n := fun i hi => mem_upto.mp (pm.mem_iff.mp hi)
    have hnl : (ns.map V.int).length = n := by rw [List.length_map, pm.length_eq, upto_len]
    refine ⟨NV H u n 15, ?_, ?_⟩
    · refine ⟨_, rfl, _, rfl, t, rfl, ⟨_, SqT.of et⟩, fun D hD => lc_m (j := 7) (walk_tup (K := K) (a := t) (xs := ns.map V.int)) (fun v => .str (toString (unint v) : Str)) (by omega) (fun ys => SqT.of (same_new hD _ _ et)) (fun x hx ys R r => ?_) ?_⟩
      · obtain ⟨i, hi, rfl⟩ := List.mem_map.mp hx
        obtain ⟨i0, i1⟩ := hmem i hi
        exact ⟨_, rfl, i, rfl, log_small i0 (by omega), r⟩
      have e1 : (ns.map V.int).map (fun v => V.str (toString (unint v) : Str)) = (ns.map fun i => (toString i : Str)).map V.str := by
        rw [List.map_map, List.map_map]
        exact List.map_congr_left fun i _ => rfl
      rw [e1]
      have S1 := same_new (o := HO.lst ((ns.map fun i => (toString i : Str)).map V.str)) hD
      refine ⟨D, _, rfl, .inl ⟨.of upd_same, fun a1 h1 => ?_⟩⟩
      have S2 := Same.new (o := HO.tup ((ns.map fun i => (toString i : Str)).map V.str)) S1 h1
      have G1 := new_tup ((ns.map fun i => (toString i : Str)).map V.str) none_yet h1 (allG_strs fun y hy => by
        obtain ⟨i, hi, rfl⟩ := List.mem_map.mp hy
        obtain ⟨i0, i1⟩ := hmem i hi
        obtain ⟨b1, b2⟩ := digit_str hn i0 i1
        exact ⟨by omega, fun c hc => by have := b2 c hc; omega⟩) (by rw [List.length_map, List.length_map]; rw [List.length_map] at hnl; omega)
      refine ⟨_, rfl, t, rfl, ⟨_, SqT.of (S2 _ _ et)⟩, fun D2 hD2 => lc_m (j := 7) (walk_tup (K := K) (a := t) (xs := ns.map V.int)) (fun v => .int (unint v - 1)) (by omega) (fun ys => SqT.of (same_new hD2 _ _ (S2 _ _ et))) (fun x hx ys R r => ?_) ?_⟩
      · obtain ⟨i, hi, rfl⟩ := List.mem_map.mp hx
        exact ⟨_, rfl, _, _, rfl, rfl, r⟩
      have e2 : (ns.map V.int).map (fun v => V.int (unint v - 1)) = (ns.map fun i => i - 1).map V.int := by
        rw [List.map_map, List.map_map]
        exact List.map_congr_left fun i _ => rfl
      rw [e2]
      have S3 := Same.new (o := HO.lst ((ns.map fun i => i - 1).map V.int)) S2 hD2
      have G2 := keep G1 (same_new (o := HO.lst ((ns.map fun i => i - 1).map V.int)) hD2)
      refine ⟨D2, _, rfl, .inl ⟨.of upd_same, fun a2 h2 => ?_⟩⟩
      have S4 := Same.new (o := HO.tup ((ns.map fun i => i - 1).map V.int)) S3 h2
      have G3 := new_tup ((ns.map fun i => i - 1).map V.int) G2 h2 (allG_ints _) (by rw [List.length_map, List.length_map]; rw [List.length_map] at hnl; omega)
      refine ⟨_, rfl, t, rfl, ⟨_, SqT.of (S4 _ _ et)⟩, fun D3 hD3 => lc_m (j := 7) (walk_tup (K := K) (a := t) (xs := ns.map V.int)) (fun v => .bl (decide (v = .int 1))) (by omega) (fun ys => SqT.of (same_new hD3 _ _ (S4 _ _ et))) (fun x hx ys R r => ?_) ?_⟩
      · obtain ⟨i, hi, rfl⟩ := List.mem_map.mp hx
        exact ⟨_, rfl, rfl, r⟩
      have S5 := Same.new (o := HO.lst ((ns.map V.int).map fun v => .bl (decide (v = .int 1)))) S4 hD3
      have G4 := keep G3 (same_new (o := HO.lst ((ns.map V.int).map fun v => .bl (decide (v = .int 1)))) hD3)
      refine ⟨D3, _, rfl, .inl ⟨.of upd_same, fun a3 h3 => ?_⟩⟩
      have S6 := Same.new (o := HO.tup ((ns.map V.int).map fun v => .bl (decide (v = .int 1)))) S5 h3
      have G5 := new_tup ((ns.map V.int).map fun v => V.bl (decide (v = .int 1))) G4 h3 (List.all_eq_true.mpr fun x hx => by
        obtain ⟨y, _, rfl⟩ := List.mem_map.mp hx
        rfl) (by rw [List.length_map]; omega)
      exact nv_next (vs := [.ref a1, .ref a2, .ref a3]) dd hw ht et pm z0 z1 hF nF htu hF0 hk hg (Drew.of dd.1 S6) G5 (by show 3 ≤ 20; decide) (by decide) (fun σ H' h => h)
    clear et htu z0 z1 ht pm hF nF hF0 hk hg dd hw hmem hnl
    -- nine more
    rintro σ H3 ⟨word, text, t, F, ns, size, xs, rfl, dd, hw, ht, et, pm, z0, z1, hF, nF, htu, hF0, hk, hg⟩
    refine ⟨NV H u n 24, ?_, ?_⟩
    · refine ⟨_, rfl, _, rfl, n, rfl, ⟨by omega, by omega, by omega, by omega, by omega⟩, fun a1 h1 => ?_⟩
      have S1 := same_new (o := HO.tup (rgV 0 n)) h1
      have G1 := new_tup (rgV 0 n) none_yet h1 (allG_rg _ _) (by rw [rgV_length]; omega)
      refine ⟨TupR 8 (upd H3 a1 (.tup (rgV 0 n))), ⟨by show 2 ≤ sizeLine; decide, fun b hb => ⟨_, rfl, 2, n, rfl, rfl, ⟨by omega, by omega, by omega, by omega, by omega⟩, fun c hc => ?_⟩⟩, ?_⟩
      · have sb := same_new (o := HO.tup [.int 0, .bl true]) hb
        have sc := Same.new (o := HO.tup (rgV 2 n)) sb hc
        exact cat_R sc (same_new hc _ _ upd_same) upd_same rfl (allG_rg _ _) (by rw [rgV_length]; show 2 + _ ≤ 8; omega) (by decide)
      rintro _ H4 ⟨a2, x2, rfl, e2, f2, l2, s2⟩
      have G2 := more (keep G1 s2) (.tup a2 x2 e2 f2 (by omega))
      have S2 := S1.trans s2
      have ft : flatG (.str text) = true := by
        show (decide (text.length ≤ 1000) && text.cps.toList.all fun c => decide (c < 128)) = true
        rw [decide_eq_true (by omega), Bool.true_and]
        exact List.all_eq_true.mpr fun c hc => decide_eq_true (ht.2 c hc)
      refine ⟨_, rfl, by show 1 ≤ sizeLine; decide, fun a3 h3 => ?_⟩
      have S3 := Same.new (o := HO.tup [.str text]) S2 h3
      have G3 := new_tup [.str text] G2 h3 (by rw [List.all_cons, ft]; rfl) (by show 1 ≤ 60; decide)
      refine ⟨_, rfl, by show 1 ≤ sizeLine; decide, fun a4 h4 => ?_⟩
      have S4 := Same.new (o := HO.lst [.str text]) S3 h4
      have G4 := new_lst [.str text] G3 h4
      refine ⟨_, rfl, by show 1 ≤ sizeLine; decide, fun a5 h5 => ?_⟩
      have S5 := Same.new (o := HO.lst [.str word]) S4 h5
      have G5 := new_lst [.str word] G4 h5
      intro a6 h6
      refine ⟨upd_same, [(Sum.inl 0, V.int 1)], rfl, by decide, ?_⟩
      rw [upd_upd]
      have S6 := Same.new (o := HO.dK (mergeK [] [(Sum.inl 0, V.int 1)])) S5 h6
      have G6 := new_dct (mergeK [] [(Sum.inl 0, V.int 1)]) G5 h6
      refine ⟨by show 2 ≤ sizeLine; decide, fun a7 h7 => ?_⟩
      have S7 := Same.new (o := HO.tup [.int 0, .int 1]) S6 h7
      have G7 := new_tup [.int 0, .int 1] G6 h7 rfl (by decide)
      refine ⟨by show 3 ≤ sizeLine; decide, fun a8 h8 => ?_⟩
      have S8 := Same.new (o := HO.tup [.int 1, .int 0, .int 2]) S7 h8
      have G8 := new_tup [.int 1, .int 0, .int 2] G7 h8 rfl (by decide)
      refine ⟨by show 4 ≤ sizeLine; decide, fun a9 h9 => ?_⟩
      have S9 := Same.new (o := HO.tup [.int 3, .int 2, .int 1, .int 0]) S8 h9
      have G9 := new_tup [.int 3, .int 2, .int 1, .int 0] G8 h9 rfl (by decide)
      exact nv_next (vs := [.ref a1, .ref a2, .ref a3, .ref a4, .ref a5, .ref a6, .ref a7, .ref a8, .ref a9]) dd hw ht et pm z0 z1 hF nF htu hF0 hk hg (Drew.of dd.1 S9) G9 (by show 9 ≤ 20; decide) (by decide) (fun σ H' h => h)
    clear et htu z0 z1 ht pm hF nF hF0 hk hg dd hw
    -- the last fifteen
    rintro σ H3 ⟨word, text, t, F, ns, size, xs, rfl, dd, hw, ht, et, pm, z0, z1, hF, nF, htu, hF0, hk, hg⟩
    refine ⟨_, rfl, _, _, rfl, rfl, ⟨by decide, by decide +kernel⟩, by show 0 ≤ sizeLine; decide, fun a1 h1 => ?_⟩
    have G0 : ∀ x ∈ [V.non, .bl true, .bl false, .int 0, .int 1, .int (10 ^ (64 : Int).toNat), .str "", .str "a", .str "0", .str "1023"], Gd H3 x := fun x hx => by
      have hx : x = .non ∨ x = .bl true ∨ x = .bl false ∨ x = .int 0 ∨ x = .int 1 ∨ x = .int (10 ^ (64 : Int).toNat) ∨ x = .str "" ∨ x = .str "a" ∨ x = .str "0" ∨ x = .str "1023" := by simpa only [List.mem_cons, List.not_mem_nil, or_false] using hx
      rcases hx with rfl | rfl | rfl | rfl | rfl | rfl | rfl | rfl | rfl | rfl <;> exact .flat (by decide +kernel)
    have S1 := same_new (o := HO.tup []) h1
    have G1 := new_tup [] G0 h1 rfl (by decide)
    refine ⟨by show 0 ≤ sizeLine; decide, fun a2 h2 => ?_⟩
    have S2 := Same.new (o := HO.lst []) S1 h2
    have G2 := new_lst [] G1 h2
    intro a3 h3
    have S3 := Same.new (o := HO.dK []) S2 h3
    have G3 := new_dct [] G2 h3
    refine ⟨by show 1 ≤ sizeLine; decide, fun a4 h4 => ?_⟩
    have S4 := Same.new (o := HO.tup [.non]) S3 h4
    have G4 := keep G3 (same_new (o := HO.tup [.non]) h4)
    refine ⟨_, rfl, a4, n, [.non], rfl, rfl, .of upd_same, by simp, by omega, by omega, by decide, fun a5 h5 => ?_⟩
    have S5 := Same.new (o := HO.tup (List.replicate (n : Int).toNat [V.non]).flatten) S4 h5
    have G5 := new_tup (List.replicate (n : Int).toNat [V.non]).flatten G4 h5 (by
      refine List.all_eq_true.mpr fun x hx => ?_
      obtain ⟨l, hl, hxl⟩ := List.mem_flatten.mp hx
      rw [(List.mem_replicate.mp hl).2] at hxl
      rw [List.mem_singleton.mp hxl]
      rfl) (by rw [List.length_flatten, List.map_replicate, List.sum_replicate_nat]; simp; omega)
    refine ⟨_, _, rfl, rfl, ⟨by decide, by decide +kernel⟩, by show 2 ≤ sizeLine; decide, fun a6 h6 => ?_⟩
    have S6 := Same.new (o := HO.tup [.int (10 ^ (64 : Int).toNat), .int 0]) S5 h6
    have G6 := new_tup [.int (10 ^ (64 : Int).toNat), .int 0] G5 h6 rfl (by decide)
    obtain ⟨b1, b2⟩ := nv_next (D := fun σ H' => NV H u n 39 σ H') (vs := [V.non, .bl true, .bl false, .int 0, .int 1, .int (10 ^ (64 : Int).toNat), .str "", .str "a", .str "0", .str "1023", .ref a1, .ref a2, .ref a3, .ref a5, .ref a6]) dd hw ht et pm z0 z1 hF nF htu hF0 hk hg (Drew.of dd.1 S6) G6 (by show 15 ≤ 20; decide) (by decide) (fun σ H' h => h)
    refine ⟨b1, fun p hp => ?_⟩
    have b3 := b2 p hp
    obtain ⟨l, b, x1, x2, e1, e2, c1, c2, c3, c4⟩ := b3
    refine ⟨l, b, x1, x2, e1, e2, c1, c2, c3, fun r hr => ?_⟩
    obtain ⟨word', text', t', F', ns', size', xs', es, dd', _, _, _, _, _, _, hF', _, _, hF0', hk', hg'⟩ := c4 r hr
    have e : V.ref r = V.ref F' := Option.some.inj (show some (V.ref r) = some (V.ref F') from by
      have := congrArg (fun l : L2.St => (l.getD 6 none)) es
      exact this)
    injection e with e
    subst e
    exact q _ r xs' dd' hF0' hF' (by omega) hg'
end
end My

set_option Elab.async false
set_option linter.all false
set_option maxRecDepth 100000
set_option maxHeartbeats 8000000
namespace My
open PySem PySem.Spec PyProof.Rows L2 LamX
/-! ### repr of a list, where no repr stands around -/
def rReprL (K : PySem.W.Frag) : List V → Hp → VK → Prop := fun xs H Q => ∃ (a : Addr) (d : PyData), xs = [.ref a] ∧ Dp K H (.ref a) d ∧ d.showable = true ∧ d.hasDict = false ∧ d.depth ≤ 8 ∧ d.shown.length ≤ sizeLine ∧ Q (.str d.shown) H
theorem reprL {X : Cx} (K : PySem.W.Frag) (hg : X.A.guards = some []) (hu : X.A.units + 64 < cLine) (hK : X.K = K := by rfl) : CallR X (.builtin "repr") (rReprL K) := by
  subst hK
  intro pins s σ H xs us Q I r h
  obtain ⟨a, d, rfl, hd, h1, h2, h3, h4, q⟩ := h
  obtain ⟨u, rfl, rx⟩ := vals1 r
  obtain ⟨as, rd⟩ := Dp.reads I d _ _ hd rx
  cases rx
  refine PySem.repr_of_reads' rd h1 (fun z => by rw [h2] at z; cases z) hg (by omega) (fun _ _ e => e) (fun h' u tk k => ?_) h4
  exact ⟨.str d.shown, H, I.kept (t' := tk) k, ⟨u, rfl⟩, q⟩
/-! ### what a def catches of the lambda that it calls -/
theorem takes_len {X : Cx} {W : WX} (t : Takes X W) : Takes X (fun cls d σ H => σ.length = X.N.length → W cls d σ H) := fun u s' ⟨a, B, sI, pins, σ, H, cls, d, e, I, nb, up, sky, na, os, ag, w⟩ =>
  t u s' ⟨a, B, sI, pins, σ, H, cls, d, e, I, nb, up, sky, na, os, ag, w I.len⟩
def TTref (C : Addr) : (XK → Hp → VK → Prop) → Hp → VK → Prop := fun tl H Q =>
  tl (fun cls d H' => cls = .ref C ∧ ∃ (dd : Addr) (v : V), d = some dd ∧ H' dd = some (.xd [("value", v)]) ∧ ∀ p, H' p = none → Q (.ref p) (upd H' p (.lst [v]))) H (fun _ H' => ([] : List V).length ≤ sizeLine ∧ ∀ p, H' p = none → Q (.ref p) (upd H' p (.lst [])))
theorem refused_gives {X : Cx} {C fI g : Addr} {cdg : Value} {q : Str} (xT : ExInvalidNumber.TxtInvalidNumber X.K X.mg C fI) :
    GivesTo X n_refused "_law_refused" (defScope s_refused) g cdg (defBody s_refused) "_law_call" q (TTref C) := by
  intro f c' s H Q tl act hc h
  refine ⟨_, pss_cons (ps_try_as (i := 1) (c := .ref C) (tb := fun W D σ H => ∃ Ech : XK, (∀ cls d (σ' : L2.St) H', σ'.length = 2 → Ech cls d H' → W cls d σ' H') ∧ σ[0]? = some (some (.ref f)) ∧ H c' = some (CodeO c' q) ∧ tl Ech H (fun _ H' => D.nx σ H'))
      (Wout := fun _ _ _ _ => False) rfl rfl sc_refused.nd rfl rfl ⟨rfl, by decide, .inl xT.gC⟩ L2.takes0 (fun W pn xe tk _ => ?_)
      (fun a oe cls d pn hz hf => pss_one (ps_ret (pe_lst (by exact (pa_cons (pe_byInvalidNumber xT hz hf (pv 1)) pa_nil)))))) (pss_one (ps_ret (pe_lst pa_nil))), ?_⟩
  · refine ⟨fun pins s' σ H' D I h' => ?_⟩
    obtain ⟨Ech, hW, h1, h2, h3⟩ := h'
    have hp := fun p1 p2 => act _ pn xe Ech p1 p2 (takes_len tk) (fun cls d σ' H' e hl => hW cls d σ' H' hl e)
    exact (pss_one (ps_expr (hp _ _))).run pins s' σ H' D I ⟨h1, h2, h3⟩
  · refine ⟨_, fun cls d σ' H' hl e => ?_, rfl, hc, h⟩
    obtain ⟨rfl, dd, v, rfl, hv, k⟩ := e
    match σ', hl with
    | [x0, x1], _ =>
      refine ⟨true, xT.te, fun _ a _ => ?_, fun z => Bool.noConfusion z⟩
      exact ⟨_, rfl, rfl, rfl, dd, v, rfl, hv, by show 1 ≤ sizeLine; decide, k⟩
end My

set_option Elab.async false
set_option linter.all false
set_option maxRecDepth 100000
set_option maxHeartbeats 16000000
namespace My
open PySem PySem.Spec PyProof.Rows L2 LamX
def LR (u : Addr) (H H' : Hp) : Prop := UrnOk H' u ∧ ∀ b o, b ≠ u → H b = some o → (∀ ps, o ≠ .tbl ps) → H' b = some o
theorem LR.drew {u : Addr} {H H1 H2 : Hp} (a : LR u H H1) (d : Drew u H1 H2) : LR u H H2 := ⟨d.1, fun b o n e t => d.2 b o n (a.2 b o n e t)⟩
theorem LR.same {u : Addr} {H H1 H2 : Hp} (a : LR u H H1) (s : Same H1 H2) : LR u H H2 := a.drew (Drew.of a.1 s)
theorem UrnOk.ext {u : Addr} {H H1 : Hp} (a : UrnOk H u) (e : ExtN H H1) : UrnOk H1 u := by
  obtain ⟨xs, h1, h2⟩ := a
  exact ⟨xs, e _ _ h1 (fun ps z => by cases z), h2⟩
theorem LR.ext {u : Addr} {H H1 H2 : Hp} (a : LR u H H1) (e : ExtN H1 H2) : LR u H H2 := ⟨a.1.ext e, fun b o n h t => e _ _ (a.2 b o n h t) t⟩
theorem LR.refl {u : Addr} {H : Hp} (a : UrnOk H u) : LR u H H := ⟨a, fun _ _ _ e _ => e⟩
theorem LR.seq {K : PySem.W.Frag} {u a : Addr} {H H' : Hp} {xs : List V} (d : LR u H H') (n : ∀ o, H a = some o → a ≠ u) (h : SqL K H a xs) : SqL K H' a xs := by
  rcases h with (h | ⟨o, h⟩) | h
  · exact .inl (.inl (d.2 _ _ (n _ h) h (fun ps z => by cases z)))
  · exact .inl (.inr ⟨o, d.2 _ _ (n _ h) h (fun ps z => by cases z)⟩)
  · exact .inr h
theorem Gd.ext {H H' : Hp} {v : V} (g : Gd H v) (e : ExtN H H') : Gd H' v := by
  cases g with
  | non => exact .non
  | bl b => exact .bl b
  | int i => exact .int i
  | str z h ha => exact .str z h ha
  | tup a xs h hf hl => exact .tup a xs (e _ _ h (fun ps z => by cases z)) hf hl
  | lst a xs h => exact .lst a xs (e _ _ h (fun ps z => by cases z))
  | dct a kvs h => exact .dct a kvs (e _ _ h (fun ps z => by cases z))
theorem Gd.lr {H H' : Hp} {u : Addr} {v : V} (g : Gd H v) (hu : UrnOk H u) (d : LR u H H') : Gd H' v := by
  obtain ⟨us, h1, _⟩ := hu
  cases g with
  | non => exact .non
  | bl b => exact .bl b
  | int i => exact .int i
  | str z h ha => exact .str z h ha
  | tup a xs h hf hl => exact .tup a xs (d.2 _ _ (fun z => by rw [z, h1] at h; cases h) h (fun ps z => by cases z)) hf hl
  | lst a xs h =>
    by_cases e : a = u
    · subst e
      obtain ⟨zs, h2, _⟩ := d.1
      exact .lst a zs h2
    · exact .lst a xs (d.2 _ _ e h (fun ps z => by cases z))
  | dct a kvs h => exact .dct a kvs (d.2 _ _ (fun z => by rw [z, h1] at h; cases h) h (fun ps z => by cases z))
theorem TabS_drew {u P : Addr} {q : Str} {H H' : Hp} (t : TabS H P q) (hu : UrnOk H u) (d : Drew u H H') : TabS H' P q := by
  obtain ⟨ps, h1, h2, h3⟩ := t
  obtain ⟨us, e1, _⟩ := hu
  refine ⟨ps, d.2 _ _ (fun z => by rw [z, e1] at h1; cases h1) h1, h2, fun pos cv hc => ?_⟩
  obtain ⟨c, c1, c2⟩ := h3 pos cv hc
  refine ⟨c, c1, d.2 _ _ (fun z => ?_) c2⟩
  rw [z, e1] at c2
  exact absurd (Option.some.inj c2) (fun y => by
    have y' : HO.lst us = HO.ext _ := y
    cases y')
theorem Tabs_drew {u : Addr} {T : List (Addr × Str)} {H H' : Hp} (t : Tabs T H) (hu : UrnOk H u) (d : Drew u H H') : Tabs T H' := fun p hp => TabS_drew (t p hp) hu d
/-! ### the values that are no numbers of letters -/
def Odd (H : Hp) (v : V) : Prop := v ∈ [V.int 0, .int 1, .int 5, .int (-2), .bl true, .non, .str "2", .int (10 ^ (60 : Int).toNat), .str ""] ∨
  (∃ a, v = .ref a ∧ H a = some (.tup [.int 2])) ∨ (∃ a, v = .ref a ∧ H a = some (.lst [.int 2]))
theorem odd_flat {v : V} (h : v ∈ [V.int 0, .int 1, .int 5, .int (-2), .bl true, .non, .str "2", .int (10 ^ (60 : Int).toNat), .str ""]) : flatG v = true ∧ flatV v = true ∧ betweenB v 2 4 = false ∧ (PyData.list [dat v]).showable = true ∧ (PyData.list [dat v]).hasDict = false ∧ (PyData.list [dat v]).depth ≤ 8 ∧ (PyData.list [dat v]).shown.length ≤ sizeLine := by
  have h : v = .int 0 ∨ v = .int 1 ∨ v = .int 5 ∨ v = .int (-2) ∨ v = .bl true ∨ v = .non ∨ v = .str "2" ∨ v = .int (10 ^ (60 : Int).toNat) ∨ v = .str "" := by simpa only [List.mem_cons, List.not_mem_nil, or_false] using h
  rcases h with rfl | rfl | rfl | rfl | rfl | rfl | rfl | rfl | rfl <;> refine ⟨?_, ?_, ?_, ?_, ?_, ?_, ?_⟩ <;> decide +kernel
theorem Odd.gd {H : Hp} {v : V} (h : Odd H v) : Gd H v := by
  rcases h with h | ⟨a, rfl, h⟩ | ⟨a, rfl, h⟩
  · exact .flat (odd_flat h).1
  · exact .tup a _ h rfl (by decide)
  · exact .lst a _ h
theorem Odd.no {H : Hp} {v : V} (h : Odd H v) : betweenB v 2 4 = false := by
  rcases h with h | ⟨a, rfl, h⟩ | ⟨a, rfl, h⟩
  · exact (odd_flat h).2.2.1
  · rfl
  · rfl
theorem Odd.dp {K : PySem.W.Frag} {H : Hp} {v : V} (h : Odd H v) : ∃ d, (∀ H', Same H H' → Dp K H' v d) ∧ (PyData.list [d]).showable = true ∧ (PyData.list [d]).hasDict = false ∧ (PyData.list [d]).depth ≤ 8 ∧ (PyData.list [d]).shown.length ≤ sizeLine := by
  rcases h with h | ⟨a, rfl, h⟩ | ⟨a, rfl, h⟩
  · obtain ⟨_, h2, _, h4⟩ := odd_flat h
    exact ⟨_, fun _ _ => Dp_flat h2, h4⟩
  · exact ⟨.tuple [.int 2], fun H' s => .tup (.of (s _ _ h)) (.cons (.int 2) .nil), by decide +kernel, by decide +kernel, by decide +kernel, by decide +kernel⟩
  · exact ⟨.list [.int 2], fun H' s => .lst (.of (s _ _ h)) (.cons (.int 2) .nil), by decide +kernel, by decide +kernel, by decide +kernel, by decide +kernel⟩
/-- a value's data stays what it is -/
theorem Odd.ext {H H' : Hp} {v : V} (h : Odd H v) (e : ExtN H H') : Odd H' v := by
  rcases h with h | ⟨a, rfl, h⟩ | ⟨a, rfl, h⟩
  · exact .inl h
  · exact .inr (.inl ⟨a, rfl, e _ _ h (fun ps z => by cases z)⟩)
  · exact .inr (.inr ⟨a, rfl, e _ _ h (fun ps z => by cases z)⟩)
theorem Odd.same {H H' : Hp} {v : V} (h : Odd H v) (e : Same H H') : Odd H' v := h.ext fun b o q _ => e b o q
theorem bools_show (a b c : Bool) : (PyData.list [.bool a, .bool b, .bool c]).showable = true ∧ (PyData.list [.bool a, .bool b, .bool c]).hasDict = false ∧ (PyData.list [.bool a, .bool b, .bool c]).depth ≤ 8 ∧ (PyData.list [.bool a, .bool b, .bool c]).shown.length ≤ sizeLine := by
  cases a <;> cases b <;> cases c <;> refine ⟨?_, ?_, ?_, ?_⟩ <;> decide +kernel
theorem dp3 {K : PySem.W.Frag} {H : Hp} {p : Addr} {a b c : Bool} (h : H p = some (.lst [.bl a, .bl b, .bl c])) : Dp K H (.ref p) (.list [.bool a, .bool b, .bool c]) := .lst (.of h) (.cons (.bl a) (.cons (.bl b) (.cons (.bl c) .nil)))
theorem nox_of {X : Cx} {B : List Stmt} {D : Ends} {σ : L2.St} {H : Hp} (h : ∃ t, PSs X.nox B t ∧ t D σ H) : ∃ t, PSs X B t ∧ t D σ H := by
  obtain ⟨t, h, q⟩ := h
  exact ⟨t, h.nox, q⟩
theorem ExtN.seq {K : PySem.W.Frag} {a : Addr} {H H' : Hp} {xs : List V} (d : ExtN H H') (h : SqL K H a xs) : SqL K H' a xs := by
  rcases h with (h | ⟨o, h⟩) | h
  · exact .inl (.inl (d _ _ h (fun ps z => by cases z)))
  · exact .inl (.inr ⟨o, d _ _ h (fun ps z => by cases z)⟩)
  · exact .inr h
theorem turnB_same {H H' : Hp} {n : Nat} {v : V} (g : Gd H v) (s : Same H H') : turnB H' n v = turnB H n v := by
  cases g with
  | tup a xs h _ _ => rw [turnB_tup h, turnB_tup (s _ _ h)]
  | lst a xs h => rw [turnB_lst h, turnB_lst (s _ _ h)]
  | dct a kvs h => rw [turnB_dct h, turnB_dct (s _ _ h)]
  | _ => rfl
theorem if_same {x : V} {H : Hp} {F G : Hp → Prop} (h : G H) : (fun (b : Bool) H3 => if b = true then F H3 else G H3) (!decide (x = x)) H := by
  show if (!decide (x = x)) = true then F H else G H
  rw [if_neg (by simp)]
  exact h
theorem threes {z : Str} {n : Int} {k : Nat} (hk : n.toNat = k) (h : z.length = n.toNat) (hc : ∀ c ∈ z.cps.toList, c ∈ (Str.ofString "3").cps.toList) : z.length = k ∧ (∀ c ∈ z.cps.toList, c < 128) ∧ textB 4 (.str z) = decide (k ≤ 200) := by
  have e : (Str.ofString "3").cps.toList = [51] := by decide +kernel
  rw [e] at hc
  have hc : ∀ c ∈ z.cps.toList, c = 51 := fun c m => by simpa using hc c m
  refine ⟨h.trans hk, fun c m => by rw [hc c m]; decide, ?_⟩
  have hs : signB 48 (47 + 4) (.str z) = true := by
    show (z.cps.toList.all fun c => decide (48 ≤ c) && decide (c ≤ 47 + 4)) = true
    exact List.all_eq_true.mpr fun c m => by rw [hc c m]; decide
  show (decide (z.length ≤ 200) && signB 48 (47 + 4) (.str z)) = _
  rw [hs, Bool.and_true, h, hk]
theorem btw_n {n : Nat} (hn : n = 2 ∨ n = 3 ∨ n = 4) : betweenB (.int n) 2 4 = true := by
  rcases hn with rfl | rfl | rfl <;> rfl
theorem int_nat {a b : Nat} (h : V.int a = V.int b) : a = b := by
  injection h with h
  omega
theorem spText_n {C : Addr} {n : Nat} {v : V} {H : Hp} {Q : VK} {E : XK} (hn : n = 2 ∨ n = 3 ∨ n = 4) (g : Gd H v) (q : ∀ H', Same H H' → Q (.bl (textB n v)) H') : spText C [.int n, v] H Q E :=
  ⟨_, _, rfl, .int _, g, fun m e _ H' s => int_nat e ▸ q H' s, fun z => by rw [btw_n hn] at z; cases z⟩
theorem spTurn_n {C : Addr} {n : Nat} {v : V} {H : Hp} {Q : VK} {E : XK} (hn : n = 2 ∨ n = 3 ∨ n = 4) (g : Gd H v) (q : ∀ H', Same H H' → Q (.bl (turnB H n v)) H') : spTurn C [.int n, v] H Q E :=
  ⟨_, _, rfl, .int _, g, fun m e _ H' s => int_nat e ▸ q H' s, fun z => by rw [btw_n hn] at z; cases z⟩
theorem no_n {l : V} (h : betweenB l 2 4 = false) {n : Nat} (e : l = .int n) (hn : n = 2 ∨ n = 3 ∨ n = 4) : False := by
  rw [e, btw_n hn] at h
  cases h
theorem spText_odd {C : Addr} {l v : V} {H : Hp} {Q : VK} {E : XK} (gl : Gd H l) (hl : betweenB l 2 4 = false) (g : Gd H v) (q : ∀ d, H d = none → E (.ref C) (some d) (upd H d (.xd [("value", l)]))) : spText C [l, v] H Q E :=
  ⟨_, _, rfl, gl, g, fun m e hn _ _ => (no_n hl e hn).elim, fun _ => q⟩
theorem spTurn_odd {C : Addr} {l v : V} {H : Hp} {Q : VK} {E : XK} (gl : Gd H l) (hl : betweenB l 2 4 = false) (g : Gd H v) (q : ∀ d, H d = none → E (.ref C) (some d) (upd H d (.xd [("value", l)]))) : spTurn C [l, v] H Q E :=
  ⟨_, _, rfl, gl, g, fun m e hn _ _ => (no_n hl e hn).elim, fun _ => q⟩
theorem ri0_nat {m : Nat} {H : Hp} {R : VK} (h : R (.int ((2 + m : Nat) : Int)) H) : rI0 (fun i j => V.int (i + j)) (.int 2) (.int m) H R :=
  ⟨_, _, rfl, rfl, by
    show R (V.int (2 + (m : Int))) H
    rw [show (2 : Int) + (m : Int) = ((2 + m : Nat) : Int) by omega]
    exact h⟩
theorem len_bound (n : Nat) (h : n ≤ 63) : -2 ^ 62 ≤ (if (if (n : Int) < 3 then (n : Int) else 3) > 1 then (if (n : Int) < 3 then (n : Int) else 3) else 1) ∧ (if (if (n : Int) < 3 then (n : Int) else 3) > 1 then (if (n : Int) < 3 then (n : Int) else 3) else 1) < 2 ^ 62 := by
  by_cases h1 : (n : Int) < 3 <;> simp only [h1, if_true, if_false] <;> constructor <;> split <;> omega
def qlam : Str := "law" ++ ".<locals>." ++ "<lambda>"
def spLaw (K : PySem.W.Frag) (Pt : Addr) : Sp := fun vs H Q _ => ∃ (a : Addr) (ns : List Int), vs = [.ref a] ∧ SqL K H a (ns.map V.int) ∧ ns.length ≤ 63 ∧ H Pt = some (.tbl #[]) ∧ ∀ H', Q (.bl true) H'
section
variable {P : Program} {w : World} {K : PySem.W.Frag} {mg : Str → Option Value} {base : Heap}
theorem law_runs (T : Tx K mg) {c Pt fa : Addr} {oc : Value} {od an : Option Addr} {kV doc pm ct : Value} {osl : Array (Option Value)} (TB : TabB base mg c Pt)
    (lk : K.lookup fa = some ⟨oc, od, .func (PySem.W.fnOf "law" "law" (defArgs s_law) (defBody s_law) (defScope s_law) .none kV doc pm an (.ref c) ct), osl⟩) (hcd : PySem.W.codeIn K (.ref c) "law" = true)
    {A : Around} {outer : List Env} {s : Shared} {H : Hp} {args : Args} {us : List Value} {vs : List V} {Q : VK} (hr9 : Room 12 A) (hg : A.guards = some []) (e0 : Env0 P w K mg base A outer s H)
    (hb : BindsTo s (PySem.W.fnOf "law" "law" (defArgs s_law) (defBody s_law) (defScope s_law) .none kV doc pm an (.ref c) ct) args (p_law.zip us)) (r : Vals vs us) (h : spLaw K Pt vs H Q E0) :
    codeAny (model P w) A (.call (.ref fa) args) (CR CX0 outer P w H s Q E0) s := by
  obtain ⟨a, ns, rfl, hS, hlen, hPt, q⟩ := h
  obtain ⟨oc2, od2, kV2, doc2, pm2, an2, cdv2, ct2, osl2, hfd, lk_refused, hc_refused⟩ := T.F_refused.ex
  have b_refused := T.b_refused
  rw [hfd] at lk_refused b_refused
  refine LamX.run_ofS (k := 11) lk hcd sc_law hr9 e0 hb r rfl fun hr => ?_
  have hgd : (A.deeper (envOfC "law" (defScope s_law) s.heap.objs.size fa (.ref c))).guards = some [] := hg
  let T0 : List (Addr × Str) := [(Pt, qlam)]
  have hmT : (Pt, qlam) ∈ T0 := List.mem_singleton.mpr rfl
  have huT : ∀ p ∈ T0, p.1 = Pt → p.2 = qlam := fun p hp _ => by rw [List.mem_singleton.mp hp]
  have hT0 : Tabs T0 H := fun p hp => by
    rw [List.mem_singleton.mp hp]
    exact TabS.nil hPt
  refine nox_of ?_
  refine ⟨_, (pss_cons (ps_for PassesOwn.never rfl (pi_range1 (by rfl) T.range (pa_cons (pe_callB (call_max2 rfl) (by rfl) T.max (by decide +kernel) (pa_cons pe_int (pa_cons (pe_callB (call_min2 rfl) (by rfl) T.min (by decide +kernel) (pa_cons pe_int (pa_cons (pe_callB (lenS K) (by rfl) T.len (by decide +kernel) (pa_cons (pv 0) pa_nil)) pa_nil))) pa_nil))) pa_nil)) (pg_name (i := 1) sc_law.nd rfl (by first | exact Or.inl rfl | exact Or.inr rfl))
    (pss_cons (ps_set (i := 3) sc_law.nd rfl (by first | exact Or.inl rfl | exact Or.inr rfl) (pe_call (ok_urn T) (hr.mono (by decide)) rfl T.m_urn T.F_urn.kp T.b_urn .nil pass0 (pa_cons (pv 0) (pa_cons (pv 1) pa_nil))))
    (pss_cons (ps_set (i := 4) sc_law.nd rfl (by first | exact Or.inl rfl | exact Or.inr rfl) (pe_op op_add pe_int (pe_call (ok_dip T) (hr.mono (by decide)) rfl T.m_dip T.F_dip.kp T.b_dip .nil pass0 (pa_cons (pv 3) (pa_cons pe_int pa_nil)))))
    (pss_one (ps_for PassesOwn.never rfl (piL K (pe_call (ok_near_values T) (hr.mono (by decide)) rfl T.m_near_values T.F_near_values.kp T.b_near_values .nil pass0 (pa_cons (pv 3) (pa_cons (pv 4) pa_nil)))) (pg_name (i := 5) sc_law.nd rfl (by first | exact Or.inl rfl | exact Or.inr rfl))
    (pss_cons (ps_set (i := 2) sc_law.nd rfl (by first | exact Or.inl rfl | exact Or.inr rfl) (pe_lst (pa_cons (pe_call (ok_is_name T) (hr.mono (by decide)) rfl T.m_is_name T.F_is_name.kp T.b_is_name .nil pass0 (pa_cons (pv 5) pa_nil)) (pa_cons (pe_call (ok_is_text T) (hr.mono (by decide)) rfl T.m_is_text T.F_is_text.kp T.b_is_text .nil passL (pa_cons (pv 4) (pa_cons (pv 5) pa_nil))) (pa_cons (pe_call (ok_is_turn T) (hr.mono (by decide)) rfl T.m_is_turn T.F_is_turn.kp T.b_is_turn .nil passL (pa_cons (pv 4) (pa_cons (pv 5) pa_nil))) pa_nil)))))
    (pss_cons (ps_set (i := 6) sc_law.nd rfl (by first | exact Or.inl rfl | exact Or.inr rfl) (pe_lst (pa_cons (pe_call (ok_is_some_name T) (hr.mono (by decide)) rfl T.m_is_some_name T.F_is_some_name.kp T.b_is_some_name .nil pass0 (pa_cons (pv 5) pa_nil)) (pa_cons (pe_call (ok_is_some_text T) (hr.mono (by decide)) rfl T.m_is_some_text T.F_is_some_text.kp T.b_is_some_text .nil pass0 (pa_cons (pv 4) (pa_cons (pv 5) pa_nil))) (pa_cons (pe_call (ok_is_some_turn T) (hr.mono (by decide)) rfl T.m_is_some_turn T.F_is_some_turn.kp T.b_is_some_turn .nil pass0 (pa_cons (pv 4) (pa_cons (pv 5) pa_nil))) pa_nil)))))
    (pss_cons (ps_if (pt_cmpR op_ne (pe_callB (reprL K hgd hr.units) (by rfl) T.repr (by decide +kernel) (pa_cons (pv 2) pa_nil)) (pe_callB (reprL K hgd hr.units) (by rfl) T.repr (by decide +kernel) (pa_cons (pv 6) pa_nil)) (nomark _))
      (pss_one (ps_ret pe_bl))
      pss_nil)
    (pss_cons (ps_set (i := 7) sc_law.nd rfl (by first | exact Or.inl rfl | exact Or.inr rfl) (pe_call (ok_one_of T) (hr.mono (by decide)) rfl T.m_one_of T.F_one_of.kp T.b_one_of .nil pass0 (pa_cons (pv 3) (pa_cons (pe_lst (pa_cons pe_int (pa_cons pe_int (pa_cons pe_int (pa_cons (pe_un un_neg pe_int) (pa_cons pe_bl (pa_cons pe_non (pa_cons pe_str (pa_cons (pe_tup (pa_cons pe_int pa_nil)) (pa_cons (pe_lst (pa_cons pe_int pa_nil)) (pa_cons (pe_op op_powB pe_int pe_int) (pa_cons pe_str pa_nil)))))))))))) pa_nil))))
    (pss_cons (ps_if (pt_cmpR op_ne (pe_callB (reprL K hgd hr.units) (by rfl) T.repr (by decide +kernel) (pa_cons (LamX.pe_lamcall (k := 5) (T := T0) (Ng := n_refused) (a := p_refused.headD Str.empty) rfl T.m_refused T.F_refused.kp lk_refused hc_refused b_refused sc_refused rfl (.inl rfl) (refused_gives T.x_InvalidNumber) TB rfl hmT huT (hr.mono (by decide)) (LamX.lamS_by (sc := defScope s_law) (by decide +kernel)) rfl (fun _ _ _ _ _ => rfl) (fun A outer s H E f c' hr2 => by exact (pe_call (ok_is_text T) (hr2.mono (by decide)) rfl T.m_is_text T.F_is_text.kp T.b_is_text .nil (passes_call (takes_of rfl rfl rfl rfl) (fun _ _ _ _ z => z)) (pa_cons (pv 7) (pa_cons (pv 5) pa_nil))))) pa_nil)) (pe_callB (reprL K hgd hr.units) (by rfl) T.repr (by decide +kernel) (pa_cons (pe_lst (pa_cons (pv 7) pa_nil)) pa_nil)) (nomark _))
      (pss_one (ps_ret pe_bl))
      pss_nil)
    (pss_one (ps_if (pt_cmpR op_ne (pe_callB (reprL K hgd hr.units) (by rfl) T.repr (by decide +kernel) (pa_cons (LamX.pe_lamcall (k := 5) (T := T0) (Ng := n_refused) (a := p_refused.headD Str.empty) rfl T.m_refused T.F_refused.kp lk_refused hc_refused b_refused sc_refused rfl (.inl rfl) (refused_gives T.x_InvalidNumber) TB rfl hmT huT (hr.mono (by decide)) (LamX.lamS_by (sc := defScope s_law) (by decide +kernel)) rfl (fun _ _ _ _ _ => rfl) (fun A outer s H E f c' hr2 => by exact (pe_call (ok_is_turn T) (hr2.mono (by decide)) rfl T.m_is_turn T.F_is_turn.kp T.b_is_turn .nil (passes_call (takes_of rfl rfl rfl rfl) (fun _ _ _ _ z => z)) (pa_cons (pv 7) (pa_cons (pv 5) pa_nil))))) pa_nil)) (pe_callB (reprL K hgd hr.units) (by rfl) T.repr (by decide +kernel) (pa_cons (pe_lst (pa_cons (pv 7) pa_nil)) pa_nil)) (nomark _))
      (pss_one (ps_ret pe_bl))
      pss_nil))))))))))))
    (pss_cons (ps_set (i := 2) sc_law.nd rfl (by first | exact Or.inl rfl | exact Or.inr rfl) (pe_lst (pa_cons (pe_call (ok_is_text T) (hr.mono (by decide)) rfl T.m_is_text T.F_is_text.kp T.b_is_text .nil passL (pa_cons pe_int (pa_cons pe_str pa_nil))) (pa_cons (pe_call (ok_is_text T) (hr.mono (by decide)) rfl T.m_is_text T.F_is_text.kp T.b_is_text .nil passL (pa_cons pe_int (pa_cons pe_str pa_nil))) (pa_cons (pe_call (ok_is_turn T) (hr.mono (by decide)) rfl T.m_is_turn T.F_is_turn.kp T.b_is_turn .nil passL (pa_cons pe_int (pa_cons (pe_tup (pa_cons pe_int (pa_cons pe_int (pa_cons pe_int pa_nil)))) pa_nil))) (pa_cons (pe_call (ok_is_turn T) (hr.mono (by decide)) rfl T.m_is_turn T.F_is_turn.kp T.b_is_turn .nil passL (pa_cons pe_int (pa_cons (pe_tup (pa_cons pe_int (pa_cons pe_int (pa_cons pe_int pa_nil)))) pa_nil))) (pa_cons (pe_call (ok_is_text T) (hr.mono (by decide)) rfl T.m_is_text T.F_is_text.kp T.b_is_text .nil passL (pa_cons pe_int (pa_cons (pe_op op_rep_str pe_str pe_int) pa_nil))) (pa_cons (pe_call (ok_is_text T) (hr.mono (by decide)) rfl T.m_is_text T.F_is_text.kp T.b_is_text .nil passL (pa_cons pe_int (pa_cons (pe_op op_rep_str pe_str pe_int) pa_nil))) pa_nil))))))))
    (pss_one (ps_ret (pe_and (pe_cmpR (eqK K hr.units) (pv 2) (pe_lst (pa_cons pe_bl (pa_cons pe_bl (pa_cons pe_bl (pa_cons pe_bl (pa_cons pe_bl (pa_cons pe_bl pa_nil))))))) (nomark _)) (pe_one (pe_cmpR (eqK K hr.units) (pe_lst (pa_cons (pe_glob (v := .int 200) rfl T.g_MAX_TEXT ⟨_, rfl⟩) (pa_cons (pe_glob (v := .int 8) rfl T.g_MAX_STATES ⟨_, rfl⟩) (pa_cons (pe_glob (v := .int 60) rfl T.g_MAX_RESTS ⟨_, rfl⟩) pa_nil)))) (pe_lst (pa_cons pe_int (pa_cons pe_int (pa_cons pe_int pa_nil)))) (nomark _)))))))), ?_⟩
  refine ⟨_, rfl, a, _, rfl, .inl hS, _, _, rfl, _, _, rfl, _, rfl, ?_, ?_, ?_⟩
  rotate_left
  rotate_left
  · refine for_range (Pv := fun _ σ H' => (∃ v1 v2 v3 v4 v5 v6 v7, σ = [some (.ref a), v1, v2, v3, v4, v5, v6, v7]) ∧ SqL K H' a (ns.map V.int) ∧ Tabs T0 H') ⟨⟨_, _, _, _, _, _, _, rfl⟩, hS, hT0⟩ ?_ ?_
    · rintro i σ H0 hi ⟨⟨v1, v2, v3, v4, v5, v6, v7, rfl⟩, hS0, hTb⟩
      refine ⟨_, rfl, _, rfl, a, ns, _, rfl, hS0, by omega, fun Hu u su hu0 hu => ?_⟩
      refine ⟨_, rfl, u, _, rfl, hu, by decide, by decide +kernel, fun Hd r hd r0 r1 => ?_⟩
      obtain ⟨m, rfl⟩ := Int.eq_ofNat_of_zero_le r0
      have hm : m < 3 := by omega
      have hn : 2 + m = 2 ∨ 2 + m = 3 ∨ 2 + m = 4 := by omega
      refine ri0_nat ?_
      generalize 2 + m = n at hn
      refine ⟨_, rfl, _, rfl, u, n, rfl, hd.1, hn, fun H1 p xs d1 hp0 hp hl hx => ?_⟩
      refine ⟨p, rfl, ⟨xs, SqL.of hp⟩, ?_⟩
      have hpu : p ≠ u := hd.1.ne hp0
      have L1 : LR u H1 H1 := LR.refl d1.1
      have X1 : ExtN H0 H1 := fun b o e _ => d1.2 b o (ne_of_none e hu0) (hd.2 b o (ne_of_none e hu0) (su b o e))
      have Tb1 : Tabs T0 H1 := Tabs_drew (Tabs_drew (hTb.ext su) hu hd) hd.1 d1
      refine for_list (xs := xs) (Pv := fun _ σ H' => (∃ w1 v2 v5 v6 v7, σ = [some (.ref a), w1, v2, some (.ref u), some (.int n), v5, v6, v7]) ∧ LR u H1 H' ∧ Tabs T0 H') ⟨⟨_, _, _, _, _, rfl⟩, L1, Tb1⟩ ?_ ?_ ?_
      · rintro j σ H' hj ⟨_, L, _⟩
        exact L.seq (fun _ _ => hpu) (SqL.of hp)
      · rintro j x σ H2 hj ⟨⟨w1, w2, w5, w6, w7, rfl⟩, L, Tb⟩
        have gx : Gd H2 x := (hx x (List.mem_of_getElem? hj)).lr d1.1 L
        refine ⟨_, rfl, x, rfl, gx, fun Ha sa => ?_⟩
        have nb : betweenB (.int n) 2 4 = false → False := fun z => by rw [btw_n hn] at z; cases z
        refine ⟨_, rfl, _, rfl, _, x, rfl, .int _, gx.ext (.of sa), fun m e _ Hb sb => ?_, fun z => (nb z).elim⟩
        rw [← int_nat e]
        refine ⟨_, rfl, _, rfl, _, x, rfl, .int _, gx.ext (.of (sa.trans sb)), fun m e _ Hc sc => ?_, fun z => (nb z).elim⟩
        rw [← int_nat e]
        refine ⟨by show 3 ≤ sizeLine; decide, fun pt hpt => ?_⟩
        have sp := same_new (o := .lst [.bl (nameB x), .bl (textB n x), .bl (turnB Hb n x)]) hpt
        have gb := gx.ext (.of (sa.trans sb))
        have gc := gx.ext (.of ((sa.trans sb).trans (sc.trans sp)))
        refine ⟨_, rfl, x, rfl, gc, fun He se => ?_⟩
        refine ⟨_, rfl, _, rfl, n, x, rfl, hn, gc.ext (.of se), fun Hf sf => ?_⟩
        refine ⟨_, rfl, _, rfl, n, x, rfl, hn, gc.ext (.of (se.trans sf)), fun Hg sg => ?_⟩
        rw [turnB_same gb (sc.trans (sp.trans (se.trans sf)))]
        refine ⟨by show 3 ≤ sizeLine; decide, fun pd hpd => ?_⟩
        have sp2 := same_new (o := .lst [.bl (nameB x), .bl (textB n x), .bl (turnB Hb n x)]) hpd
        have ht := sp2 _ _ (sg _ _ (sf _ _ (se _ _ (upd_same (H := Hc) (a := pt) (o := .lst [.bl (nameB x), .bl (textB n x), .bl (turnB Hb n x)])))))
        have hd2 : (upd Hg pd (.lst [.bl (nameB x), .bl (textB n x), .bl (turnB Hb n x)])) pd = _ := upd_same
        have L2 : LR u H1 (upd Hg pd (.lst [.bl (nameB x), .bl (textB n x), .bl (turnB Hb n x)])) := L.same (((sa.trans sb).trans (sc.trans sp)).trans (((se.trans sf).trans sg).trans sp2))
        have Tb2 : Tabs T0 (upd Hg pd (.lst [.bl (nameB x), .bl (textB n x), .bl (turnB Hb n x)])) := Tb.ext (((sa.trans sb).trans (sc.trans sp)).trans (((se.trans sf).trans sg).trans sp2))
        have gx2 := gx.ext (.of (((sa.trans sb).trans (sc.trans sp)).trans (((se.trans sf).trans sg).trans sp2)))
        generalize upd Hg pd (.lst [.bl (nameB x), .bl (textB n x), .bl (turnB Hb n x)]) = H3 at ht hd2 L2 Tb2 gx2
        obtain ⟨s1, s2, s3, s4⟩ := bools_show (nameB x) (textB n x) (turnB Hb n x)
        refine ⟨_, rfl, pt, _, rfl, dp3 ht, s1, s2, s3, s4, _, rfl, pd, _, rfl, dp3 hd2, s1, s2, s3, s4, rfl, _, rfl, ?_⟩
        refine if_same ?_
        refine ⟨_, rfl, _, rfl, by show 1 ≤ sizeLine; decide, fun q1 hq1 => ?_⟩
        refine ⟨by show 1 ≤ sizeLine; decide, fun q2 hq2 => ?_⟩
        refine ⟨_, _, rfl, rfl, ?_, by show 11 ≤ sizeLine; decide, fun q3 hq3 => ?_⟩
        · exact ⟨by decide, by decide +kernel⟩
        have z1 := same_new (o := .tup [.int 2]) hq1
        have z2 := same_new (o := .lst [.int 2]) hq2
        have z3 := same_new (o := .lst [.int 0, .int 1, .int 5, .int (-2), .bl true, .non, .str "2", .ref q1, .ref q2, .int (10 ^ (60 : Int).toNat), .str ""]) hq3
        have u12 := L2.same (z1.trans z2)
        have L3 := u12.same z3
        refine ⟨u, L3.1, .inl ⟨q3, _, rfl, u12.1.ne hq3, SqL.of upd_same, by show 0 < 11; decide, by show 11 ≤ 1000000; decide, fun H4 odd d4 ho => ?_⟩⟩
        have k1 := d4.2 _ _ (L2.1.ne hq1) (z3 _ _ (z2 _ _ (upd_same (H := H3) (a := q1) (o := .tup [.int 2]))))
        have k2 := d4.2 _ _ ((L2.same z1).1.ne hq2) (z3 _ _ (upd_same (H := upd H3 q1 (.tup [.int 2])) (a := q2) (o := .lst [.int 2])))
        have L4 := L3.drew d4
        have Tb4 : Tabs T0 H4 := Tabs_drew (Tb2.ext (z1.trans (z2.trans z3))) L3.1 d4
        have gy : Gd H4 x := (gx2.ext (.of (z1.trans (z2.trans z3)))).lr L3.1 ((LR.refl L3.1).drew d4)
        have hO : Odd H4 odd := by
          have ho : odd = .int 0 ∨ odd = .int 1 ∨ odd = .int 5 ∨ odd = .int (-2) ∨ odd = .bl true ∨ odd = .non ∨ odd = .str "2" ∨ odd = .ref q1 ∨ odd = .ref q2 ∨ odd = .int (10 ^ (60 : Int).toNat) ∨ odd = .str "" := by simpa only [List.mem_cons, List.not_mem_nil, or_false] using ho
          rcases ho with rfl | rfl | rfl | rfl | rfl | rfl | rfl | rfl | rfl | rfl | rfl
          all_goals first | exact .inr (.inl ⟨_, rfl, k1⟩) | exact .inr (.inr ⟨_, rfl, k2⟩) | exact .inl (by simp only [List.mem_cons, true_or, or_true])
        clear k1 k2 ho z1 z2 z3 d4
        refine ⟨Tb4, fun H5 e5 t5 => ⟨_, rfl, _, rfl, odd, x, rfl, (hO.ext e5).gd, gy.ext e5, fun m e hn _ _ => (no_n hO.no e hn).elim, fun _ dd hdd => ⟨rfl, dd, odd, rfl, upd_same, fun p1 hp1 => ?_⟩⟩⟩
        have Lx := L4
        have hOa := hO.ext e5
        obtain ⟨oda, oka, o1a, o2a, o3a, o4a⟩ := (hOa).dp (K := K)
        have y1 := same_new (o := .xd [("value", odd)]) hdd
        have y2 := same_new (o := .lst [odd]) hp1
        refine ⟨p1, _, rfl, .lst (.of upd_same) (.cons (oka _ (y1.trans y2)) .nil), o1a, o2a, o3a, o4a, _, rfl, by show 1 ≤ sizeLine; decide, fun p2 hp2 => ?_⟩
        have y3 := same_new (o := .lst [odd]) hp2
        refine ⟨p2, _, rfl, .lst (.of upd_same) (.cons (oka _ (y1.trans (y2.trans y3))) .nil), o1a, o2a, o3a, o4a, rfl, _, rfl, ?_⟩
        refine if_same ?_
        have La := (Lx.ext e5).same (y1.trans (y2.trans y3))
        have Ta : Tabs T0 _ := t5.ext (y1.trans (y2.trans y3))
        have ga := (gy.ext e5).ext (.of (y1.trans (y2.trans y3)))
        clear Lx
        have Lx := La
        have gy := ga
        have hOx := hOa.same (y1.trans (y2.trans y3))
        clear y1 y2 y3
        refine ⟨Ta, fun H6 e5 t5 => ⟨_, rfl, _, rfl, odd, x, rfl, (hOx.ext e5).gd, gy.ext e5, fun m e hn _ _ => (no_n hO.no e hn).elim, fun _ dd hdd => ⟨rfl, dd, odd, rfl, upd_same, fun p1 hp1 => ?_⟩⟩⟩
        have hOb := hOx.ext e5
        obtain ⟨odb, okb, o1b, o2b, o3b, o4b⟩ := (hOb).dp (K := K)
        have y1 := same_new (o := .xd [("value", odd)]) hdd
        have y2 := same_new (o := .lst [odd]) hp1
        refine ⟨p1, _, rfl, .lst (.of upd_same) (.cons (okb _ (y1.trans y2)) .nil), o1b, o2b, o3b, o4b, _, rfl, by show 1 ≤ sizeLine; decide, fun p2 hp2 => ?_⟩
        have y3 := same_new (o := .lst [odd]) hp2
        refine ⟨p2, _, rfl, .lst (.of upd_same) (.cons (okb _ (y1.trans (y2.trans y3))) .nil), o1b, o2b, o3b, o4b, rfl, _, rfl, ?_⟩
        refine if_same ?_
        have Lb := (Lx.ext e5).same (y1.trans (y2.trans y3))
        have Tb : Tabs T0 _ := t5.ext (y1.trans (y2.trans y3))
        have gb := (gy.ext e5).ext (.of (y1.trans (y2.trans y3)))
        exact ⟨⟨_, _, _, _, _, rfl⟩, Lb, Tb⟩
      · rintro σ H' ⟨⟨w1, w2, w5, w6, w7, rfl⟩, L, Tb⟩
        exact ⟨⟨_, _, _, _, _, _, _, rfl⟩, ExtN.seq (fun b o e z => L.2 b o (ne_of_none e hu0) (X1 b o e z) z) hS0, Tb⟩
    · rintro σ H' ⟨⟨v1, v2, v3, v4, v5, v6, v7, rfl⟩, hS0, hTb⟩
      refine ⟨_, _, rfl, .int _, .flat (by decide +kernel), fun m e _ Ha sa => ?_, fun z => by cases z⟩
      rw [← (int_nat e : 2 = m)]
      refine ⟨_, _, rfl, .int _, .flat (by decide +kernel), fun m e _ Hb sb => ?_, fun z => by cases z⟩
      rw [← (int_nat e : 2 = m)]
      refine ⟨by show 3 ≤ sizeLine; decide, fun p1 h1 => ?_⟩
      refine ⟨_, _, rfl, .int _, .tup p1 _ upd_same (by decide) (by decide), fun m e _ Hc sc => ?_, fun z => by cases z⟩
      rw [← (int_nat e : 3 = m), turnB_tup upd_same]
      refine ⟨by show 3 ≤ sizeLine; decide, fun p2 h2 => ?_⟩
      refine ⟨_, _, rfl, .int _, .tup p2 _ upd_same (by decide) (by decide), fun m e _ Hd sd => ?_, fun z => by cases z⟩
      rw [← (int_nat e : 3 = m), turnB_tup upd_same]
      refine ⟨_, _, rfl, rfl, by decide, by decide, by decide +kernel, fun z1 l1 c1 => ?_⟩
      obtain ⟨l1, c1, t1⟩ := threes (k := 200) (by decide) l1 c1
      refine ⟨_, _, rfl, .int _, .str z1 (by omega) c1, fun m e _ He se => ?_, fun z => by cases z⟩
      rw [← (int_nat e : 4 = m), t1]
      refine ⟨_, _, rfl, rfl, by decide, by decide, by decide +kernel, fun z2 l2 c2 => ?_⟩
      obtain ⟨l2, c2, t2⟩ := threes (k := 201) (by decide) l2 c2
      refine ⟨_, _, rfl, .int _, .str z2 (by omega) c2, fun m e _ Hf sf => ?_, fun z => by cases z⟩
      rw [← (int_nat e : 4 = m), t2]
      refine ⟨by show 6 ≤ sizeLine; decide, fun p3 h3 => ?_⟩
      rw [show textB 2 (.str "0110") = true by decide +kernel, show textB 2 (.str "012") = false by decide +kernel, show turnL 3 [.int 1, .int 2, .int 0] = true by decide +kernel, show turnL 3 [.int 1, .int 1, .int 0] = false by decide +kernel, show decide (200 ≤ 200) = true by decide, show decide (201 ≤ 200) = false by decide]
      refine ⟨_, rfl, by show 6 ≤ sizeLine; decide, fun p4 h4 => ?_⟩
      have y4 := same_new (o := .lst [.bl true, .bl false, .bl true, .bl false, .bl true, .bl false]) h4
      refine rEq_lst (.of (y4 _ _ upd_same)) (.of upd_same) (by decide +kernel) (by decide +kernel) (by decide +kernel) (by decide +kernel) ⟨true, by rw [show eqVs [V.bl true, .bl false, .bl true, .bl false, .bl true, .bl false] [.bl true, .bl false, .bl true, .bl false, .bl true, .bl false] = true by decide +kernel], ?_⟩
      rw [if_pos rfl]
      refine ⟨by show 3 ≤ sizeLine; decide, fun p5 h5 => ⟨by show 3 ≤ sizeLine; decide, fun p6 h6 => ?_⟩⟩
      have y6 := same_new (o := .lst [.int 200, .int 8, .int 60]) h6
      refine rEq_lst (.of (y6 _ _ upd_same)) (.of upd_same) (by decide +kernel) (by decide +kernel) (by decide +kernel) (by decide +kernel) ?_
      rw [show eqVs [V.int 200, .int 8, .int 60] [.int 200, .int 8, .int 60] = true by decide +kernel]
      exact q _
  · exact (len_bound _ (by rw [List.length_map]; exact hlen)).1
  · exact (len_bound _ (by rw [List.length_map]; exact hlen)).2
end
end My

set_option Elab.async false
set_option linter.all false
set_option maxRecDepth 100000
set_option maxHeartbeats 4000000
namespace My
open PySem PySem.Spec PyProof.Rows L2 LamX
/-! ### the call of the law from the outside: nothing is under way, so no repr is -/
section
variable {P : Program} {w : World} {K : PySem.W.Frag} {mg mb : Str → Option Value}
def lstO (us : List Value) : Obj := { cls := .type "list", data := .seq us.toArray }
def emptyT : Obj := { cls := .none, data := .fields #[] }
/-- tracked: the empty table at p; the script at a, unless the written part has it -/
def beginH (K : PySem.W.Frag) (a p : Addr) (us : List Value) (xs : List V) : Hp := fun b =>
  if b = p then some (.tbl #[]) else if b = a ∧ K.lookup a = none then some (.frz (lstO us) (.lst xs)) else none
theorem begin_tab {a p : Addr} {us : List Value} {xs : List V} : beginH K a p us xs p = some (.tbl #[]) := if_pos rfl
theorem begin_some {a p b : Addr} {us : List Value} {xs : List V} {u : HO} (h : beginH K a p us xs b = some u) : (b = p ∧ u = .tbl #[]) ∨ (b = a ∧ b ≠ p ∧ K.lookup a = none ∧ u = .frz (lstO us) (.lst xs)) := by
  unfold beginH at h
  split at h
  · next e => exact .inl ⟨e, (Option.some.inj h).symm⟩
  · next n =>
    split at h
    · next e => exact .inr ⟨e.1, n, e.2, (Option.some.inj h).symm⟩
    · cases h
/-- how the law's function is met where its call is run -/
def Meets0 (P : Program) (w : World) (K : PySem.W.Frag) (mg : Str → Option Value) (fa a c p : Addr) (ns : List Int) (s : Shared) : Prop :=
  ∀ (base : Heap) (H : Hp), Env0 P w K mg base callerA [] s H → TabB base mg c p → H p = some (.tbl #[]) → SqL K H a (ns.map V.int) →
    codeAny (model P w) callerA (.call (.ref fa) ⟨[.ref a], []⟩) (CR CX0 [] P w H s (fun v _ => v = .bl true) E0) s
theorem end_call {fa a c p : Addr} {s : Shared} {us : List Value} {ns : List Int} (k0 : K.In s.heap) (gns : s.heap.Ns mainGlobals mg) (bns : s.heap.Ns builtinsNs mb) (boot : ∀ x : Str, x ≠ "__name__" → mb x = bootBuiltins x) (nl : s.heap.NoLimit) (ng : s.gens = #[])
    (cp : PySem.W.CodeHd s.heap c p) (tp : s.heap.get? p = some emptyT) (np : K.lookup p = none)
    (bm : ∃ (m : Addr) (o : Obj), mg "__builtins__" = some (.ref m) ∧ m ≠ builtinsNs ∧ s.heap.get? m = some o ∧ o.cls = .type "module" ∧ o.dict = some builtinsNs ∧ o.data = .plain)
    (sa : s.heap.get? a = some (lstO us)) (hi : IntsAre us ns) (short : ns.length ≤ sizeLine) (run : Meets0 P w K mg fa a c p ns s) :
    codeAny (model P w) callerA (.call (.ref fa) ⟨[.ref a], []⟩) (fun r t => r = .ok (.ret (.bool true)) ∧ OldK s.heap t.heap ∧ t.os = s.os ∧ AllBare t.gens) s := by
  have nap : a ≠ p := fun z => by
    rw [z, tp] at sa
    exact Value.noConfusion (congrArg Obj.cls (Option.some.inj sa))
  have frees : ∀ {b : Addr} {o : Obj}, s.heap.get? b = some o → (∀ x n, o.data ≠ .seq x n) → o.data ≠ .fields #[] → beginH K a p us (ns.map V.int) b = none := fun {b o} e n1 n2 => by
    cases q : beginH K a p us (ns.map V.int) b with
    | none => rfl
    | some u =>
      rcases begin_some q with ⟨rfl, _⟩ | ⟨rfl, _⟩
      · exact (n2 (by rw [Option.some.inj (e.symm.trans tp)]; rfl)).elim
      · exact (n1 us.toArray _ (by rw [Option.some.inj (e.symm.trans sa)]; rfl)).elim
  have low : ∀ {b : Addr} {o : Obj}, s.heap.get? b = some o → (∀ x n, o.data ≠ .seq x n) → o.data ≠ .fields #[] → (hidT s.heap (beginH K a p us (ns.map V.int))).get? b = some o := fun e n1 n2 => hidT_get e (frees e n1 n2)
  have spaces : ∀ {b : Addr} {m : Str → Option Value}, s.heap.Ns b m → (hidT s.heap (beginH K a p us (ns.map V.int))).Ns b m := fun {b m} z => by
    obtain ⟨o, es, ep, e, d, rest⟩ := z
    exact ⟨o, es, ep, low e (fun x n z => by rw [d] at z; cases z) (fun z => by rw [d] at z; cases z), d, rest⟩
  have inK : K.In (hidT s.heap (beginH K a p us (ns.map V.int))) := fun b o e => hidT_get (k0 b o e) (by
    cases q : beginH K a p us (ns.map V.int) b with
    | none => rfl
    | some u =>
      rcases begin_some q with ⟨rfl, _⟩ | ⟨rfl, _, z, _⟩
      · rw [np] at e; cases e
      · rw [z] at e; cases e)
  have md : L2.Mod K mg (hidT s.heap (beginH K a p us (ns.map V.int))) := by
    obtain ⟨lm, l1, l2⟩ := nl
    exact ⟨inK, spaces gns, ⟨mb, spaces bns, boot⟩, ⟨lm, spaces l1, l2⟩⟩
  have rel := vals_ints hi
  have ok : HOk P w (beginH K a p us (ns.map V.int)) s.heap := fun b u q => by
    rcases begin_some q with ⟨rfl, rfl⟩ | ⟨rfl, _, _, rfl⟩
    · exact tp
    · exact ⟨sa, by rw [List.length_map]; exact short, us, _, rel, sa⟩
  have gp : mainGlobals ≠ p := fun z => by
    obtain ⟨o, es, ep, e, d, _⟩ := gns
    rw [z, tp] at e
    rw [← Option.some.inj e] at d
    cases d
  have tb : TabB (hidT s.heap (beginH K a p us (ns.map V.int))) mg c p := by
    refine ⟨?_, ?_, gp⟩
    · obtain ⟨o, xs, f1, f2, f3, f4, f5, f6, f7, e1, e2, e3, e4, rest⟩ := cp
      exact ⟨o, xs, f1, f2, f3, f4, f5, f6, f7, low e1 (fun x n z => by rw [e3] at z; cases z) (fun z => by rw [e3] at z; cases z; cases e4), e2, e3, e4, rest⟩
    · obtain ⟨m, o, m1, m2, m3, m4, m5, m6⟩ := bm
      refine ⟨m, o, m1, m2, fun z => ?_, fun z => ?_, low m3 (fun x n z => by rw [m6] at z; cases z) (fun z => by rw [m6] at z; cases z), m4, m5, m6⟩
      · obtain ⟨o', es, ep, e, d, _⟩ := gns
        rw [z, e] at m3
        rw [Option.some.inj m3, m6] at d
        cases d
      · rw [z, tp] at m3
        rw [← Option.some.inj m3] at m6
        cases m6
  have env : Env0 P w K mg (hidT s.heap (beginH K a p us (ns.map V.int))) callerA [] s (beginH K a p us (ns.map V.int)) :=
    { frames := rfl, mod := md, bs := fun _ _ => of_hidT, bsz := Nat.le_of_eq (hidT_size _ _), funs := trivial, frf := fun b hb => (List.not_mem_nil hb).elim, hok := ok, bare := .of_eq ng }
  have sq : SqL K (beginH K a p us (ns.map V.int)) a (ns.map V.int) := by
    cases q : K.lookup a with
    | none => exact .inl (.inr ⟨lstO us, (if_neg nap).trans (if_pos ⟨rfl, q⟩)⟩)
    | some o =>
      have e := (k0 a o q).symm.trans sa
      rw [Option.some.inj e] at q
      exact .inr ⟨_, us.toArray, _, q, rfl, rfl, rfl, by rw [List.size_toArray, hi.length]; exact short, by simpa using rel⟩
  refine codeAny_mono (run _ _ env tb begin_tab sq) fun r t z => ?_
  match r, z with
  | .error _, z => exact False.elim z
  | .ok .next, z => exact False.elim z
  | .ok .brk, z => exact False.elim z
  | .ok .cont, z => exact False.elim z
  | .ok (.ret u), z =>
    obtain ⟨v, H', os, bare, un, ok', rv, e⟩ := z
    have e : v = .bl true := e
    subst e
    have eu : u = Value.bool true := rv
    obtain ⟨more, gr⟩ := un.tbls p #[] begin_tab
    have tp' : t.heap.get? p = some { cls := .none, data := .fields (#[] ++ more) } := ok' p _ gr
    have stay : ∀ b o, b ≠ p → s.heap.get? b = some o → t.heap.get? b = some o := fun b o n e => by
      cases q : beginH K a p us (ns.map V.int) b with
      | none => exact un.keep b o e q (fun z => (List.not_mem_nil z).elim) (fun z => (List.not_mem_nil z).elim)
      | some y =>
        rcases begin_some q with ⟨z, _⟩ | ⟨z, _, _, ey⟩
        · exact (n z).elim
        · rw [ey] at q
          obtain ⟨e1, _⟩ := ok' b _ (un.frzs b _ _ q)
          obtain ⟨e2, _⟩ := ok b _ q
          exact (Option.some.inj (e.symm.trans e2)) ▸ e1
    refine ⟨by rw [eu], ⟨fun b o e => ?_, fun b o e => ?_⟩, os, bare⟩
    · by_cases n : b = p
      · subst n
        have eo : o = emptyT := Option.some.inj (e.symm.trans tp)
        subst eo
        exact .inr (.inl ⟨((cp).tab tp).isCodeTable, rfl, #[], more, rfl, tp'⟩)
      · exact .inl (stay b o n e)
    · by_cases n : b = p
      · exact ⟨_, n ▸ tp'⟩
      · exact ⟨o, stay b o n e⟩
end
end My

set_option Elab.async false
set_option linter.all false
set_option maxRecDepth 100000
set_option maxHeartbeats 4000000
namespace My
open PySem PySem.Spec PyProof.Rows L2 LamX
/-- an error class names itself behind except -/
theorem exm_own {K : PySem.W.Frag} {C : Addr} (e : PySem.W.subIn K (.ref C) (.type "BaseException") = some true) (i : PySem.W.isClsIn K C = true) (t : PySem.W.typeIn K (.ref C) = some (.type "type")) (s : PySem.W.subIn K (.ref C) (.ref C) = some true) :
    PySem.W.exmOne K (.ref C) (.ref C) = some true := by
  have i' : (PySem.W.clsIn K C).isSome = true := i
  have a1 : (PySem.W.subIn K (.ref C) (.type "BaseException") == some true) = true := by rw [e] <;> rfl
  have a2 : ((PySem.W.clsIn K C).isSome && PySem.W.typeIn K (.ref C) == some (.type "type")) = true := by rw [i', t] <;> rfl
  exact (if_pos a1).trans ((if_pos a2).trans s)
/-- what the head leaves of the law and of all that it reaches -/
def LawIs (K : PySem.W.Frag) (mg : Str → Option Value) (fa : Addr) : Prop :=
  ∃ (T : Tx K mg) (c p : Addr) (oc : Value) (od an : Option Addr) (kV doc pm ct : Value) (osl : Array (Option Value)),
    K.lookup fa = some ⟨oc, od, .func (PySem.W.fnOf "law" "law" (defArgs s_law) (defBody s_law) (defScope s_law) .none kV doc pm an (.ref c) ct), osl⟩ ∧ PySem.W.codeIn K (.ref c) "law" = true ∧ PySem.W.tabIn K "law" = some (c, p) ∧ K.lookup p = none
theorem tab_mk {K : PySem.W.Frag} {x : Str} {f c p : Addr} {oc : Value} {od : Option Addr} {fn : FuncData} {osl : Array (Option Value)} {ec : Value} {dc : Option Addr} {vs : Array Value} {sl : Array (Option Value)} (a : PySem.W.nsIn K mainGlobals x = some (some (.ref f)))
    (l : K.lookup f = some ⟨oc, od, .func fn, osl⟩) (k : K.lookup c = some ⟨ec, dc, .fields vs, sl⟩) (v : (vs[11]? : Option Value) = some (.ref p)) (hc : fn.code = .ref c := by rfl) : PySem.W.tabIn K x = some (c, p) := by
  unfold PySem.W.tabIn
  simp only [a, l, hc, k, v]
theorem the_walk {l : PySem.W.OpenLaw} {q : Program} {loose : List Str} {XP : (Str → Option Value) → Heap → Prop} {YP : World → Heap → Prop} {d dL : DefRec} {K : Params → PySem.W.Frag} (hn : l.most = some 63) (hdf : d.params.defaults = []) (hd : d.name = "law")
    (hr : (recsOf q).find? (fun e => e.name == ("law" : Str)) = some dL) (hY : ∀ (w : World) (h : Heap), YP w h → (K w.params).In h)
    (F : ∀ (w : World) (mg : Str → Option Value) (fa : Addr) (h : Heap), (K w.params).In h → h.Ns mainGlobals mg → mg "law" = some (.ref fa) → LawIs (K w.params) mg fa) :
    PySem.W.WalkO q loose XP YP l.row.toRowW d [] (fun f vs => PySem.call f vs) := by
  refine Att.attach_callB hn hdf fun w s₀ s mg mb fa o pm cd doc a us ns G Y ho hdat hcd hmg hobj hints hlen hbits hg => ?_
  have k0 := hY w _ Y
  rw [hd] at hmg
  obtain ⟨T, c, p, oc, od, an, kV, doc, pm, ct, osl, lk, hco, ht, hp⟩ := F w mg fa _ k0 G.T.g hmg
  obtain ⟨cp, tp⟩ := PySem.W.tab_of G.T k0 hr ht
  refine end_call k0 G.T.g G.T.b G.T.builtins G.T.nolimit hg cp tp hp G.T.bmain hobj hints (Nat.le_trans hlen (by decide)) fun base H env tb h0 hS => ?_
  exact law_runs T tb lk hco ⟨rfl, by decide, by decide⟩ rfl env (.of_eq rfl) (.cons (show L2.RelV (.ref a) (.ref a) from rfl) .nil) ⟨a, ns, rfl, hS, hlen, h0, fun _ => rfl⟩
theorem all_mk {K : PySem.W.Frag} {h : Heap} {mg : Str → Option Value} {fa : Addr} (X : K.In h) (G : h.Ns mainGlobals mg) (hfa : mg "law" = some (.ref fa))
    {C_InvalidNumber i_InvalidNumber : Addr} {nm_InvalidNumber qn_InvalidNumber : Str} {N_InvalidNumber : Addr} {bs_InvalidNumber : List Value} {sn_InvalidNumber : List Str} {sub_InvalidNumber : List Value} {ab_InvalidNumber : Bool} {col_InvalidNumber : Option Bool} {dd_InvalidNumber : Option Addr} {m0_InvalidNumber m1_InvalidNumber m2_InvalidNumber m3_InvalidNumber m5_InvalidNumber : Option Value} {oc_InvalidNumber dc_InvalidNumber pm_InvalidNumber cd_InvalidNumber ct_InvalidNumber : Value} {od_InvalidNumber an_InvalidNumber : Option Addr} {sl_InvalidNumber : Array (Option Value)} {p1_InvalidNumber p2_InvalidNumber q1_InvalidNumber q2_InvalidNumber q3_InvalidNumber q4_InvalidNumber : Pos}
    {t_MAX_TEXT : Tok}
    {t_MAX_STATES : Tok}
    {t_MAX_RESTS : Tok}
    {t_MAX_NAME : Tok}
    {t_NAME_SIGNS : Tok}
    {t_DIGITS : Tok}
    {f_is_whole : Addr} {oc_is_whole kV_is_whole dc_is_whole pm_is_whole ct_is_whole : Value} {od_is_whole an_is_whole : Option Addr} {sl_is_whole : Array (Option Value)} {cd_is_whole : Value}
    {f_is_between : Addr} {oc_is_between kV_is_between dc_is_between pm_is_between ct_is_between : Value} {od_is_between an_is_between : Option Addr} {sl_is_between : Array (Option Value)} {cd_is_between : Value}
    {f_is_name : Addr} {oc_is_name kV_is_name dc_is_name pm_is_name ct_is_name : Value} {od_is_name an_is_name : Option Addr} {sl_is_name : Array (Option Value)} {cd_is_name : Value}
    {f_is_text : Addr} {oc_is_text kV_is_text dc_is_text pm_is_text ct_is_text : Value} {od_is_text an_is_text : Option Addr} {sl_is_text : Array (Option Value)} {cd_is_text : Value}
    {f_is_turn : Addr} {oc_is_turn kV_is_turn dc_is_turn pm_is_turn ct_is_turn : Value} {od_is_turn an_is_turn : Option Addr} {sl_is_turn : Array (Option Value)} {cd_is_turn : Value}
    {f_check_letters : Addr} {oc_check_letters kV_check_letters dc_check_letters pm_check_letters ct_check_letters : Value} {od_check_letters an_check_letters : Option Addr} {sl_check_letters : Array (Option Value)} {cd_check_letters : Value}
    {f_urn : Addr} {oc_urn kV_urn dc_urn pm_urn ct_urn : Value} {od_urn an_urn : Option Addr} {sl_urn : Array (Option Value)} {cd_urn : Value}
    {f_dip : Addr} {oc_dip kV_dip dc_dip pm_dip ct_dip : Value} {od_dip an_dip : Option Addr} {sl_dip : Array (Option Value)} {cd_dip : Value}
    {f_one_of : Addr} {oc_one_of kV_one_of dc_one_of pm_one_of ct_one_of : Value} {od_one_of an_one_of : Option Addr} {sl_one_of : Array (Option Value)} {cd_one_of : Value}
    {f_shuffled : Addr} {oc_shuffled kV_shuffled dc_shuffled pm_shuffled ct_shuffled : Value} {od_shuffled an_shuffled : Option Addr} {sl_shuffled : Array (Option Value)} {cd_shuffled : Value}
    {f_turn : Addr} {oc_turn kV_turn dc_turn pm_turn ct_turn : Value} {od_turn an_turn : Option Addr} {sl_turn : Array (Option Value)} {cd_turn : Value}
    {f_text : Addr} {oc_text kV_text dc_text pm_text ct_text : Value} {od_text an_text : Option Addr} {sl_text : Array (Option Value)} {cd_text : Value}
    {f_is_some_name : Addr} {oc_is_some_name kV_is_some_name dc_is_some_name pm_is_some_name ct_is_some_name : Value} {od_is_some_name an_is_some_name : Option Addr} {sl_is_some_name : Array (Option Value)} {cd_is_some_name : Value}
    {f_is_some_text : Addr} {oc_is_some_text kV_is_some_text dc_is_some_text pm_is_some_text ct_is_some_text : Value} {od_is_some_text an_is_some_text : Option Addr} {sl_is_some_text : Array (Option Value)} {cd_is_some_text : Value}
    {f_is_some_turn : Addr} {oc_is_some_turn kV_is_some_turn dc_is_some_turn pm_is_some_turn ct_is_some_turn : Value} {od_is_some_turn an_is_some_turn : Option Addr} {sl_is_some_turn : Array (Option Value)} {cd_is_some_turn : Value}
    {f_put_in : Addr} {oc_put_in kV_put_in dc_put_in pm_put_in ct_put_in : Value} {od_put_in an_put_in : Option Addr} {sl_put_in : Array (Option Value)} {cd_put_in : Value}
    {f_near_values : Addr} {oc_near_values kV_near_values dc_near_values pm_near_values ct_near_values : Value} {od_near_values an_near_values : Option Addr} {sl_near_values : Array (Option Value)} {cd_near_values : Value}
    {f_refused : Addr} {oc_refused kV_refused dc_refused pm_refused ct_refused : Value} {od_refused an_refused : Option Addr} {sl_refused : Array (Option Value)} {cd_refused : Value}
    {f_law : Addr} {oc_law kV_law dc_law pm_law ct_law : Value} {od_law an_law : Option Addr} {sl_law : Array (Option Value)} {cd_law tb_law : Addr}
    {ec_law : Value} {dc9_law : Option Addr} {vs_law : Array Value} {sl9_law : Array (Option Value)}
    (aC_InvalidNumber : PySem.W.nsIn K mainGlobals "InvalidNumber" = some (some (.ref C_InvalidNumber)))
    (xC_InvalidNumber : K.lookup C_InvalidNumber = some (excClassObj nm_InvalidNumber qn_InvalidNumber C_InvalidNumber N_InvalidNumber bs_InvalidNumber [.type "IndexError", .type "LookupError", .type "Exception", .type "BaseException", .type "object"] true sn_InvalidNumber sub_InvalidNumber ab_InvalidNumber col_InvalidNumber dd_InvalidNumber m0_InvalidNumber m1_InvalidNumber m2_InvalidNumber m3_InvalidNumber m5_InvalidNumber "IndexError.__new__"))
    (sa_InvalidNumber : PySem.W.findIn K (.ref C_InvalidNumber) "__setattr__" = some (some (.builtin "object.__setattr__")))
    (ga_InvalidNumber : PySem.W.findIn K (.ref C_InvalidNumber) "__getattribute__" = some (some (.builtin "BaseException.__getattribute__")))
    (gg_InvalidNumber : PySem.W.findIn K (.ref C_InvalidNumber) "__getattr__" = some none)
    (nv_InvalidNumber : PySem.W.findIn K (.ref C_InvalidNumber) "value" = some none)
    (in_InvalidNumber : PySem.W.findIn K (.ref C_InvalidNumber) "__init__" = some (some (.ref i_InvalidNumber)))
    (ti_InvalidNumber : PySem.W.typeIn K (.ref i_InvalidNumber) = some (.type "function"))
    (li_InvalidNumber : K.lookup i_InvalidNumber = some ⟨oc_InvalidNumber, od_InvalidNumber, .func (PySem.W.fnOf "__init__" "InvalidNumber.__init__" (ExInvalidNumber.iA p1_InvalidNumber p2_InvalidNumber) (ExInvalidNumber.iB q1_InvalidNumber q2_InvalidNumber q3_InvalidNumber q4_InvalidNumber) ExInvalidNumber.iS .none .none dc_InvalidNumber pm_InvalidNumber an_InvalidNumber cd_InvalidNumber ct_InvalidNumber), sl_InvalidNumber⟩)
    (ci_InvalidNumber : PySem.W.codeIn K cd_InvalidNumber "InvalidNumber.__init__" = true)
    (kC_InvalidNumber : PySem.W.keepIn K (.ref C_InvalidNumber) = true)
    (eC_InvalidNumber : PySem.W.subIn K (.ref C_InvalidNumber) (.type "BaseException") = some true)
    (tC_InvalidNumber : PySem.W.typeIn K (.ref C_InvalidNumber) = some (.type "type"))
    (hC_InvalidNumber : PySem.W.hasDictIn K C_InvalidNumber = true)
    (ic_InvalidNumber : PySem.W.isClsIn K C_InvalidNumber = true)
    (sC_InvalidNumber : PySem.W.subIn K (.ref C_InvalidNumber) (.ref C_InvalidNumber) = some true)
    (z_all : PySem.W.nsIn K mainGlobals "all" = some none)
    (z_list : PySem.W.nsIn K mainGlobals "list" = some none)
    (z_tuple : PySem.W.nsIn K mainGlobals "tuple" = some none)
    (z_range : PySem.W.nsIn K mainGlobals "range" = some none)
    (z_isinstance : PySem.W.nsIn K mainGlobals "isinstance" = some none)
    (z_int : PySem.W.nsIn K mainGlobals "int" = some none)
    (z_repr : PySem.W.nsIn K mainGlobals "repr" = some none)
    (z_max : PySem.W.nsIn K mainGlobals "max" = some none)
    (z_str : PySem.W.nsIn K mainGlobals "str" = some none)
    (z_sorted : PySem.W.nsIn K mainGlobals "sorted" = some none)
    (z_bool : PySem.W.nsIn K mainGlobals "bool" = some none)
    (z_len : PySem.W.nsIn K mainGlobals "len" = some none)
    (z_abs : PySem.W.nsIn K mainGlobals "abs" = some none)
    (z_min : PySem.W.nsIn K mainGlobals "min" = some none)
    (z_sum : PySem.W.nsIn K mainGlobals "sum" = some none)
    (g_MAX_TEXT : PySem.W.nsIn K mainGlobals "MAX_TEXT" = some (some (.int 200 t_MAX_TEXT)))
    (g_MAX_STATES : PySem.W.nsIn K mainGlobals "MAX_STATES" = some (some (.int 8 t_MAX_STATES)))
    (g_MAX_RESTS : PySem.W.nsIn K mainGlobals "MAX_RESTS" = some (some (.int 60 t_MAX_RESTS)))
    (g_MAX_NAME : PySem.W.nsIn K mainGlobals "MAX_NAME" = some (some (.int 8 t_MAX_NAME)))
    (g_NAME_SIGNS : PySem.W.nsIn K mainGlobals "NAME_SIGNS" = some (some (.str "abcdefghijklmnopqrstuvwxyz" t_NAME_SIGNS)))
    (g_DIGITS : PySem.W.nsIn K mainGlobals "DIGITS" = some (some (.str "0123" t_DIGITS)))
    (a_is_whole : PySem.W.nsIn K mainGlobals "is_whole" = some (some (.ref f_is_whole)))
    (l_is_whole : K.lookup f_is_whole = some ⟨oc_is_whole, od_is_whole, .func (PySem.W.fnOf "is_whole" "is_whole" (defArgs s_is_whole) (defBody s_is_whole) (defScope s_is_whole) .none kV_is_whole dc_is_whole pm_is_whole an_is_whole cd_is_whole ct_is_whole), sl_is_whole⟩)
    (c_is_whole : PySem.W.codeIn K cd_is_whole "is_whole" = true)
    (k_is_whole : PySem.W.keepIn K (.ref f_is_whole) = true)
    (a_is_between : PySem.W.nsIn K mainGlobals "is_between" = some (some (.ref f_is_between)))
    (l_is_between : K.lookup f_is_between = some ⟨oc_is_between, od_is_between, .func (PySem.W.fnOf "is_between" "is_between" (defArgs s_is_between) (defBody s_is_between) (defScope s_is_between) .none kV_is_between dc_is_between pm_is_between an_is_between cd_is_between ct_is_between), sl_is_between⟩)
    (c_is_between : PySem.W.codeIn K cd_is_between "is_between" = true)
    (k_is_between : PySem.W.keepIn K (.ref f_is_between) = true)
    (a_is_name : PySem.W.nsIn K mainGlobals "is_name" = some (some (.ref f_is_name)))
    (l_is_name : K.lookup f_is_name = some ⟨oc_is_name, od_is_name, .func (PySem.W.fnOf "is_name" "is_name" (defArgs s_is_name) (defBody s_is_name) (defScope s_is_name) .none kV_is_name dc_is_name pm_is_name an_is_name cd_is_name ct_is_name), sl_is_name⟩)
    (c_is_name : PySem.W.codeIn K cd_is_name "is_name" = true)
    (k_is_name : PySem.W.keepIn K (.ref f_is_name) = true)
    (a_is_text : PySem.W.nsIn K mainGlobals "is_text" = some (some (.ref f_is_text)))
    (l_is_text : K.lookup f_is_text = some ⟨oc_is_text, od_is_text, .func (PySem.W.fnOf "is_text" "is_text" (defArgs s_is_text) (defBody s_is_text) (defScope s_is_text) .none kV_is_text dc_is_text pm_is_text an_is_text cd_is_text ct_is_text), sl_is_text⟩)
    (c_is_text : PySem.W.codeIn K cd_is_text "is_text" = true)
    (k_is_text : PySem.W.keepIn K (.ref f_is_text) = true)
    (a_is_turn : PySem.W.nsIn K mainGlobals "is_turn" = some (some (.ref f_is_turn)))
    (l_is_turn : K.lookup f_is_turn = some ⟨oc_is_turn, od_is_turn, .func (PySem.W.fnOf "is_turn" "is_turn" (defArgs s_is_turn) (defBody s_is_turn) (defScope s_is_turn) .none kV_is_turn dc_is_turn pm_is_turn an_is_turn cd_is_turn ct_is_turn), sl_is_turn⟩)
    (c_is_turn : PySem.W.codeIn K cd_is_turn "is_turn" = true)
    (k_is_turn : PySem.W.keepIn K (.ref f_is_turn) = true)
    (a_check_letters : PySem.W.nsIn K mainGlobals "check_letters" = some (some (.ref f_check_letters)))
    (l_check_letters : K.lookup f_check_letters = some ⟨oc_check_letters, od_check_letters, .func (PySem.W.fnOf "check_letters" "check_letters" (defArgs s_check_letters) (defBody s_check_letters) (defScope s_check_letters) .none kV_check_letters dc_check_letters pm_check_letters an_check_letters cd_check_letters ct_check_letters), sl_check_letters⟩)
    (c_check_letters : PySem.W.codeIn K cd_check_letters "check_letters" = true)
    (k_check_letters : PySem.W.keepIn K (.ref f_check_letters) = true)
    (a_urn : PySem.W.nsIn K mainGlobals "_law_urn" = some (some (.ref f_urn)))
    (l_urn : K.lookup f_urn = some ⟨oc_urn, od_urn, .func (PySem.W.fnOf "_law_urn" "_law_urn" (defArgs s_urn) (defBody s_urn) (defScope s_urn) .none kV_urn dc_urn pm_urn an_urn cd_urn ct_urn), sl_urn⟩)
    (c_urn : PySem.W.codeIn K cd_urn "_law_urn" = true)
    (k_urn : PySem.W.keepIn K (.ref f_urn) = true)
    (a_dip : PySem.W.nsIn K mainGlobals "_law_dip" = some (some (.ref f_dip)))
    (l_dip : K.lookup f_dip = some ⟨oc_dip, od_dip, .func (PySem.W.fnOf "_law_dip" "_law_dip" (defArgs s_dip) (defBody s_dip) (defScope s_dip) .none kV_dip dc_dip pm_dip an_dip cd_dip ct_dip), sl_dip⟩)
    (c_dip : PySem.W.codeIn K cd_dip "_law_dip" = true)
    (k_dip : PySem.W.keepIn K (.ref f_dip) = true)
    (a_one_of : PySem.W.nsIn K mainGlobals "_law_one_of" = some (some (.ref f_one_of)))
    (l_one_of : K.lookup f_one_of = some ⟨oc_one_of, od_one_of, .func (PySem.W.fnOf "_law_one_of" "_law_one_of" (defArgs s_one_of) (defBody s_one_of) (defScope s_one_of) .none kV_one_of dc_one_of pm_one_of an_one_of cd_one_of ct_one_of), sl_one_of⟩)
    (c_one_of : PySem.W.codeIn K cd_one_of "_law_one_of" = true)
    (k_one_of : PySem.W.keepIn K (.ref f_one_of) = true)
    (a_shuffled : PySem.W.nsIn K mainGlobals "_law_shuffled" = some (some (.ref f_shuffled)))
    (l_shuffled : K.lookup f_shuffled = some ⟨oc_shuffled, od_shuffled, .func (PySem.W.fnOf "_law_shuffled" "_law_shuffled" (defArgs s_shuffled) (defBody s_shuffled) (defScope s_shuffled) .none kV_shuffled dc_shuffled pm_shuffled an_shuffled cd_shuffled ct_shuffled), sl_shuffled⟩)
    (c_shuffled : PySem.W.codeIn K cd_shuffled "_law_shuffled" = true)
    (k_shuffled : PySem.W.keepIn K (.ref f_shuffled) = true)
    (a_turn : PySem.W.nsIn K mainGlobals "_law_turn" = some (some (.ref f_turn)))
    (l_turn : K.lookup f_turn = some ⟨oc_turn, od_turn, .func (PySem.W.fnOf "_law_turn" "_law_turn" (defArgs s_turn) (defBody s_turn) (defScope s_turn) .none kV_turn dc_turn pm_turn an_turn cd_turn ct_turn), sl_turn⟩)
    (c_turn : PySem.W.codeIn K cd_turn "_law_turn" = true)
    (k_turn : PySem.W.keepIn K (.ref f_turn) = true)
    (a_text : PySem.W.nsIn K mainGlobals "_law_text" = some (some (.ref f_text)))
    (l_text : K.lookup f_text = some ⟨oc_text, od_text, .func (PySem.W.fnOf "_law_text" "_law_text" (defArgs s_text) (defBody s_text) (defScope s_text) .none kV_text dc_text pm_text an_text cd_text ct_text), sl_text⟩)
    (c_text : PySem.W.codeIn K cd_text "_law_text" = true)
    (k_text : PySem.W.keepIn K (.ref f_text) = true)
    (a_is_some_name : PySem.W.nsIn K mainGlobals "_law_is_some_name" = some (some (.ref f_is_some_name)))
    (l_is_some_name : K.lookup f_is_some_name = some ⟨oc_is_some_name, od_is_some_name, .func (PySem.W.fnOf "_law_is_some_name" "_law_is_some_name" (defArgs s_is_some_name) (defBody s_is_some_name) (defScope s_is_some_name) .none kV_is_some_name dc_is_some_name pm_is_some_name an_is_some_name cd_is_some_name ct_is_some_name), sl_is_some_name⟩)
    (c_is_some_name : PySem.W.codeIn K cd_is_some_name "_law_is_some_name" = true)
    (k_is_some_name : PySem.W.keepIn K (.ref f_is_some_name) = true)
    (a_is_some_text : PySem.W.nsIn K mainGlobals "_law_is_some_text" = some (some (.ref f_is_some_text)))
    (l_is_some_text : K.lookup f_is_some_text = some ⟨oc_is_some_text, od_is_some_text, .func (PySem.W.fnOf "_law_is_some_text" "_law_is_some_text" (defArgs s_is_some_text) (defBody s_is_some_text) (defScope s_is_some_text) .none kV_is_some_text dc_is_some_text pm_is_some_text an_is_some_text cd_is_some_text ct_is_some_text), sl_is_some_text⟩)
    (c_is_some_text : PySem.W.codeIn K cd_is_some_text "_law_is_some_text" = true)
    (k_is_some_text : PySem.W.keepIn K (.ref f_is_some_text) = true)
    (a_is_some_turn : PySem.W.nsIn K mainGlobals "_law_is_some_turn" = some (some (.ref f_is_some_turn)))
    (l_is_some_turn : K.lookup f_is_some_turn = some ⟨oc_is_some_turn, od_is_some_turn, .func (PySem.W.fnOf "_law_is_some_turn" "_law_is_some_turn" (defArgs s_is_some_turn) (defBody s_is_some_turn) (defScope s_is_some_turn) .none kV_is_some_turn dc_is_some_turn pm_is_some_turn an_is_some_turn cd_is_some_turn ct_is_some_turn), sl_is_some_turn⟩)
    (c_is_some_turn : PySem.W.codeIn K cd_is_some_turn "_law_is_some_turn" = true)
    (k_is_some_turn : PySem.W.keepIn K (.ref f_is_some_turn) = true)
    (a_put_in : PySem.W.nsIn K mainGlobals "_law_put_in" = some (some (.ref f_put_in)))
    (l_put_in : K.lookup f_put_in = some ⟨oc_put_in, od_put_in, .func (PySem.W.fnOf "_law_put_in" "_law_put_in" (defArgs s_put_in) (defBody s_put_in) (defScope s_put_in) .none kV_put_in dc_put_in pm_put_in an_put_in cd_put_in ct_put_in), sl_put_in⟩)
    (c_put_in : PySem.W.codeIn K cd_put_in "_law_put_in" = true)
    (k_put_in : PySem.W.keepIn K (.ref f_put_in) = true)
    (a_near_values : PySem.W.nsIn K mainGlobals "_law_near_values" = some (some (.ref f_near_values)))
    (l_near_values : K.lookup f_near_values = some ⟨oc_near_values, od_near_values, .func (PySem.W.fnOf "_law_near_values" "_law_near_values" (defArgs s_near_values) (defBody s_near_values) (defScope s_near_values) .none kV_near_values dc_near_values pm_near_values an_near_values cd_near_values ct_near_values), sl_near_values⟩)
    (c_near_values : PySem.W.codeIn K cd_near_values "_law_near_values" = true)
    (k_near_values : PySem.W.keepIn K (.ref f_near_values) = true)
    (a_refused : PySem.W.nsIn K mainGlobals "_law_refused" = some (some (.ref f_refused)))
    (l_refused : K.lookup f_refused = some ⟨oc_refused, od_refused, .func (PySem.W.fnOf "_law_refused" "_law_refused" (defArgs s_refused) (defBody s_refused) (defScope s_refused) .none kV_refused dc_refused pm_refused an_refused cd_refused ct_refused), sl_refused⟩)
    (c_refused : PySem.W.codeIn K cd_refused "_law_refused" = true)
    (k_refused : PySem.W.keepIn K (.ref f_refused) = true)
    (a_law : PySem.W.nsIn K mainGlobals "law" = some (some (.ref f_law)))
    (l_law : K.lookup f_law = some ⟨oc_law, od_law, .func (PySem.W.fnOf "law" "law" (defArgs s_law) (defBody s_law) (defScope s_law) .none kV_law dc_law pm_law an_law (.ref cd_law) ct_law), sl_law⟩)
    (c_law : PySem.W.codeIn K (.ref cd_law) "law" = true)
    (k_law : PySem.W.keepIn K (.ref f_law) = true)
    (x_law : K.lookup cd_law = some ⟨ec_law, dc9_law, .fields vs_law, sl9_law⟩)
    (v_law : (vs_law[11]? : Option Value) = some (.ref tb_law))
    (free_law : K.lookup tb_law = none) :
    LawIs K mg fa := by
  have e := hfa.symm.trans (PySem.W.mg_of X G a_law)
  obtain rfl : f_law = fa := by cases e; rfl
  have F_is_whole := fun_mk (st := s_is_whole) l_is_whole c_is_whole k_is_whole
  have b_is_whole := F_is_whole.binds (ps := p_is_whole) fun _ _ _ _ _ _ us hl => match us, hl with | [_], _ => rfl
  have F_is_between := fun_mk (st := s_is_between) l_is_between c_is_between k_is_between
  have b_is_between := F_is_between.binds (ps := p_is_between) fun _ _ _ _ _ _ us hl => match us, hl with | [_, _, _], _ => rfl
  have F_is_name := fun_mk (st := s_is_name) l_is_name c_is_name k_is_name
  have b_is_name := F_is_name.binds (ps := p_is_name) fun _ _ _ _ _ _ us hl => match us, hl with | [_], _ => rfl
  have F_is_text := fun_mk (st := s_is_text) l_is_text c_is_text k_is_text
  have b_is_text := F_is_text.binds (ps := p_is_text) fun _ _ _ _ _ _ us hl => match us, hl with | [_, _], _ => rfl
  have F_is_turn := fun_mk (st := s_is_turn) l_is_turn c_is_turn k_is_turn
  have b_is_turn := F_is_turn.binds (ps := p_is_turn) fun _ _ _ _ _ _ us hl => match us, hl with | [_, _], _ => rfl
  have F_check_letters := fun_mk (st := s_check_letters) l_check_letters c_check_letters k_check_letters
  have b_check_letters := F_check_letters.binds (ps := p_check_letters) fun _ _ _ _ _ _ us hl => match us, hl with | [_], _ => rfl
  have F_urn := fun_mk (st := s_urn) l_urn c_urn k_urn
  have b_urn := F_urn.binds (ps := p_urn) fun _ _ _ _ _ _ us hl => match us, hl with | [_, _], _ => rfl
  have F_dip := fun_mk (st := s_dip) l_dip c_dip k_dip
  have b_dip := F_dip.binds (ps := p_dip) fun _ _ _ _ _ _ us hl => match us, hl with | [_, _], _ => rfl
  have F_one_of := fun_mk (st := s_one_of) l_one_of c_one_of k_one_of
  have b_one_of := F_one_of.binds (ps := p_one_of) fun _ _ _ _ _ _ us hl => match us, hl with | [_, _], _ => rfl
  have F_shuffled := fun_mk (st := s_shuffled) l_shuffled c_shuffled k_shuffled
  have b_shuffled := F_shuffled.binds (ps := p_shuffled) fun _ _ _ _ _ _ us hl => match us, hl with | [_, _], _ => rfl
  have F_turn := fun_mk (st := s_turn) l_turn c_turn k_turn
  have b_turn := F_turn.binds (ps := p_turn) fun _ _ _ _ _ _ us hl => match us, hl with | [_, _], _ => rfl
  have F_text := fun_mk (st := s_text) l_text c_text k_text
  have b_text := F_text.binds (ps := p_text) fun _ _ _ _ _ _ us hl => match us, hl with | [_, _, _], _ => rfl
  have F_is_some_name := fun_mk (st := s_is_some_name) l_is_some_name c_is_some_name k_is_some_name
  have b_is_some_name := F_is_some_name.binds (ps := p_is_some_name) fun _ _ _ _ _ _ us hl => match us, hl with | [_], _ => rfl
  have F_is_some_text := fun_mk (st := s_is_some_text) l_is_some_text c_is_some_text k_is_some_text
  have b_is_some_text := F_is_some_text.binds (ps := p_is_some_text) fun _ _ _ _ _ _ us hl => match us, hl with | [_, _], _ => rfl
  have F_is_some_turn := fun_mk (st := s_is_some_turn) l_is_some_turn c_is_some_turn k_is_some_turn
  have b_is_some_turn := F_is_some_turn.binds (ps := p_is_some_turn) fun _ _ _ _ _ _ us hl => match us, hl with | [_, _], _ => rfl
  have F_put_in := fun_mk (st := s_put_in) l_put_in c_put_in k_put_in
  have b_put_in := F_put_in.binds (ps := p_put_in) fun _ _ _ _ _ _ us hl => match us, hl with | [_, _, _], _ => rfl
  have F_near_values := fun_mk (st := s_near_values) l_near_values c_near_values k_near_values
  have b_near_values := F_near_values.binds (ps := p_near_values) fun _ _ _ _ _ _ us hl => match us, hl with | [_, _], _ => rfl
  have F_refused := fun_mk (st := s_refused) l_refused c_refused k_refused
  have b_refused := F_refused.binds (ps := p_refused) fun _ _ _ _ _ _ us hl => match us, hl with | [_], _ => rfl
  have F_law := fun_mk (st := s_law) l_law c_law k_law
  have b_law := F_law.binds (ps := p_law) fun _ _ _ _ _ _ us hl => match us, hl with | [_], _ => rfl
  exact ⟨{ C_InvalidNumber := C_InvalidNumber, i_InvalidNumber := i_InvalidNumber, x_InvalidNumber := { gC := PySem.W.mg_of X G aC_InvalidNumber, cls := ⟨nm_InvalidNumber, qn_InvalidNumber, N_InvalidNumber, bs_InvalidNumber, _, sn_InvalidNumber, sub_InvalidNumber, ab_InvalidNumber, col_InvalidNumber, dd_InvalidNumber, m0_InvalidNumber, m1_InvalidNumber, m2_InvalidNumber, m3_InvalidNumber, m5_InvalidNumber, xC_InvalidNumber, by decide +kernel⟩, sa := sa_InvalidNumber, ga := ga_InvalidNumber, gg := gg_InvalidNumber, noN := nv_InvalidNumber, iC := in_InvalidNumber, tC := ti_InvalidNumber, kC := kC_InvalidNumber, exC := eC_InvalidNumber, tyC := tC_InvalidNumber, hdC := hC_InvalidNumber, te := exm_own eC_InvalidNumber ic_InvalidNumber tC_InvalidNumber sC_InvalidNumber, fn := ⟨_, _, _, _, _, _, _, _, _, _, _, _, _, _, li_InvalidNumber, ci_InvalidNumber⟩ }, all := PySem.W.mg_none_of X G z_all, list := PySem.W.mg_none_of X G z_list, tuple := PySem.W.mg_none_of X G z_tuple, range := PySem.W.mg_none_of X G z_range, isinstance := PySem.W.mg_none_of X G z_isinstance, int := PySem.W.mg_none_of X G z_int, repr := PySem.W.mg_none_of X G z_repr, max := PySem.W.mg_none_of X G z_max, str := PySem.W.mg_none_of X G z_str, sorted := PySem.W.mg_none_of X G z_sorted, bool := PySem.W.mg_none_of X G z_bool, len := PySem.W.mg_none_of X G z_len, abs := PySem.W.mg_none_of X G z_abs, min := PySem.W.mg_none_of X G z_min, sum := PySem.W.mg_none_of X G z_sum, t_MAX_TEXT := t_MAX_TEXT, g_MAX_TEXT := PySem.W.mg_of X G g_MAX_TEXT, t_MAX_STATES := t_MAX_STATES, g_MAX_STATES := PySem.W.mg_of X G g_MAX_STATES, t_MAX_RESTS := t_MAX_RESTS, g_MAX_RESTS := PySem.W.mg_of X G g_MAX_RESTS, t_MAX_NAME := t_MAX_NAME, g_MAX_NAME := PySem.W.mg_of X G g_MAX_NAME, t_NAME_SIGNS := t_NAME_SIGNS, g_NAME_SIGNS := PySem.W.mg_of X G g_NAME_SIGNS, t_DIGITS := t_DIGITS, g_DIGITS := PySem.W.mg_of X G g_DIGITS, f_is_whole := f_is_whole, d_is_whole := _, F_is_whole := F_is_whole, m_is_whole := PySem.W.mg_of X G a_is_whole, b_is_whole := b_is_whole, f_is_between := f_is_between, d_is_between := _, F_is_between := F_is_between, m_is_between := PySem.W.mg_of X G a_is_between, b_is_between := b_is_between, f_is_name := f_is_name, d_is_name := _, F_is_name := F_is_name, m_is_name := PySem.W.mg_of X G a_is_name, b_is_name := b_is_name, f_is_text := f_is_text, d_is_text := _, F_is_text := F_is_text, m_is_text := PySem.W.mg_of X G a_is_text, b_is_text := b_is_text, f_is_turn := f_is_turn, d_is_turn := _, F_is_turn := F_is_turn, m_is_turn := PySem.W.mg_of X G a_is_turn, b_is_turn := b_is_turn, f_check_letters := f_check_letters, d_check_letters := _, F_check_letters := F_check_letters, m_check_letters := PySem.W.mg_of X G a_check_letters, b_check_letters := b_check_letters, f_urn := f_urn, d_urn := _, F_urn := F_urn, m_urn := PySem.W.mg_of X G a_urn, b_urn := b_urn, f_dip := f_dip, d_dip := _, F_dip := F_dip, m_dip := PySem.W.mg_of X G a_dip, b_dip := b_dip, f_one_of := f_one_of, d_one_of := _, F_one_of := F_one_of, m_one_of := PySem.W.mg_of X G a_one_of, b_one_of := b_one_of, f_shuffled := f_shuffled, d_shuffled := _, F_shuffled := F_shuffled, m_shuffled := PySem.W.mg_of X G a_shuffled, b_shuffled := b_shuffled, f_turn := f_turn, d_turn := _, F_turn := F_turn, m_turn := PySem.W.mg_of X G a_turn, b_turn := b_turn, f_text := f_text, d_text := _, F_text := F_text, m_text := PySem.W.mg_of X G a_text, b_text := b_text, f_is_some_name := f_is_some_name, d_is_some_name := _, F_is_some_name := F_is_some_name, m_is_some_name := PySem.W.mg_of X G a_is_some_name, b_is_some_name := b_is_some_name, f_is_some_text := f_is_some_text, d_is_some_text := _, F_is_some_text := F_is_some_text, m_is_some_text := PySem.W.mg_of X G a_is_some_text, b_is_some_text := b_is_some_text, f_is_some_turn := f_is_some_turn, d_is_some_turn := _, F_is_some_turn := F_is_some_turn, m_is_some_turn := PySem.W.mg_of X G a_is_some_turn, b_is_some_turn := b_is_some_turn, f_put_in := f_put_in, d_put_in := _, F_put_in := F_put_in, m_put_in := PySem.W.mg_of X G a_put_in, b_put_in := b_put_in, f_near_values := f_near_values, d_near_values := _, F_near_values := F_near_values, m_near_values := PySem.W.mg_of X G a_near_values, b_near_values := b_near_values, f_refused := f_refused, d_refused := _, F_refused := F_refused, m_refused := PySem.W.mg_of X G a_refused, b_refused := b_refused, f_law := f_law, d_law := _, F_law := F_law, m_law := PySem.W.mg_of X G a_law, b_law := b_law }, cd_law, tb_law, oc_law, od_law, an_law, kV_law, dc_law, pm_law, ct_law, sl_law, l_law, c_law, tab_mk a_law l_law x_law v_law, free_law⟩
end My

set_option Elab.async false
set_option maxRecDepth 100000
open PySem PySem.W PyProof.Rows in
set_option maxRecDepth 100000 in
set_option maxHeartbeats 0 in
theorem PySem.Challenge.cw_textmovers_k00_names_texts_and_turns_holds : PySem.Challenge.rw_textmovers_k00_names_texts_and_turns.Holds := by
  w_on; o_law; k_head; (case hw => w_witness2)
  k_fill
  refine My.the_walk (l := PySem.Challenge.rw_textmovers_k00_names_texts_and_turns) rfl rfl rfl rfl (fun w h Y => PySem.W.km_in_of Y) ?F
  case F =>
    intro w mg fa h KX G hmg
    refine' My.all_mk KX G hmg ?aC_InvalidNumber ?xC_InvalidNumber ?sa_InvalidNumber ?ga_InvalidNumber ?gg_InvalidNumber ?nv_InvalidNumber ?in_InvalidNumber ?ti_InvalidNumber ?li_InvalidNumber ?ci_InvalidNumber ?kC_InvalidNumber ?eC_InvalidNumber ?tC_InvalidNumber ?hC_InvalidNumber ?ic_InvalidNumber ?sC_InvalidNumber ?z_all ?z_list ?z_tuple ?z_range ?z_isinstance ?z_int ?z_repr ?z_max ?z_str ?z_sorted ?z_bool ?z_len ?z_abs ?z_min ?z_sum ?g_MAX_TEXT ?g_MAX_STATES ?g_MAX_RESTS ?g_MAX_NAME ?g_NAME_SIGNS ?g_DIGITS ?a_is_whole ?l_is_whole ?c_is_whole ?k_is_whole ?a_is_between ?l_is_between ?c_is_between ?k_is_between ?a_is_name ?l_is_name ?c_is_name ?k_is_name ?a_is_text ?l_is_text ?c_is_text ?k_is_text ?a_is_turn ?l_is_turn ?c_is_turn ?k_is_turn ?a_check_letters ?l_check_letters ?c_check_letters ?k_check_letters ?a_urn ?l_urn ?c_urn ?k_urn ?a_dip ?l_dip ?c_dip ?k_dip ?a_one_of ?l_one_of ?c_one_of ?k_one_of ?a_shuffled ?l_shuffled ?c_shuffled ?k_shuffled ?a_turn ?l_turn ?c_turn ?k_turn ?a_text ?l_text ?c_text ?k_text ?a_is_some_name ?l_is_some_name ?c_is_some_name ?k_is_some_name ?a_is_some_text ?l_is_some_text ?c_is_some_text ?k_is_some_text ?a_is_some_turn ?l_is_some_turn ?c_is_some_turn ?k_is_some_turn ?a_put_in ?l_put_in ?c_put_in ?k_put_in ?a_near_values ?l_near_values ?c_near_values ?k_near_values ?a_refused ?l_refused ?c_refused ?k_refused ?a_law ?l_law ?c_law ?k_law ?x_law ?v_law ?free_law
    (case aC_InvalidNumber => k_is)
    (case xC_InvalidNumber => k_is)
    (case sa_InvalidNumber => k_is)
    (case ga_InvalidNumber => k_is)
    (case gg_InvalidNumber => k_is)
    (case nv_InvalidNumber => k_is)
    (case in_InvalidNumber => k_is)
    (case ti_InvalidNumber => k_is)
    (case li_InvalidNumber => k_is)
    (case ci_InvalidNumber => k_is)
    (case kC_InvalidNumber => k_is)
    (case eC_InvalidNumber => k_is)
    (case tC_InvalidNumber => k_is)
    (case hC_InvalidNumber => k_is)
    (case ic_InvalidNumber => k_is)
    (case sC_InvalidNumber => first | rfl | k_is)
    (case z_all => k_is)
    (case z_list => k_is)
    (case z_tuple => k_is)
    (case z_range => k_is)
    (case z_isinstance => k_is)
    (case z_int => k_is)
    (case z_repr => k_is)
    (case z_max => k_is)
    (case z_str => k_is)
    (case z_sorted => k_is)
    (case z_bool => k_is)
    (case z_len => k_is)
    (case z_abs => k_is)
    (case z_min => k_is)
    (case z_sum => k_is)
    (case g_MAX_TEXT => k_is)
    (case g_MAX_STATES => k_is)
    (case g_MAX_RESTS => k_is)
    (case g_MAX_NAME => k_is)
    (case g_NAME_SIGNS => k_is)
    (case g_DIGITS => k_is)
    (case a_is_whole => k_is)
    (case l_is_whole => k_is)
    (case c_is_whole => k_is)
    (case k_is_whole => k_is)
    (case a_is_between => k_is)
    (case l_is_between => k_is)
    (case c_is_between => k_is)
    (case k_is_between => k_is)
    (case a_is_name => k_is)
    (case l_is_name => k_is)
    (case c_is_name => k_is)
    (case k_is_name => k_is)
    (case a_is_text => k_is)
    (case l_is_text => k_is)
    (case c_is_text => k_is)
    (case k_is_text => k_is)
    (case a_is_turn => k_is)
    (case l_is_turn => k_is)
    (case c_is_turn => k_is)
    (case k_is_turn => k_is)
    (case a_check_letters => k_is)
    (case l_check_letters => k_is)
    (case c_check_letters => k_is)
    (case k_check_letters => k_is)
    (case a_urn => k_is)
    (case l_urn => k_is)
    (case c_urn => k_is)
    (case k_urn => k_is)
    (case a_dip => k_is)
    (case l_dip => k_is)
    (case c_dip => k_is)
    (case k_dip => k_is)
    (case a_one_of => k_is)
    (case l_one_of => k_is)
    (case c_one_of => k_is)
    (case k_one_of => k_is)
    (case a_shuffled => k_is)
    (case l_shuffled => k_is)
    (case c_shuffled => k_is)
    (case k_shuffled => k_is)
    (case a_turn => k_is)
    (case l_turn => k_is)
    (case c_turn => k_is)
    (case k_turn => k_is)
    (case a_text => k_is)
    (case l_text => k_is)
    (case c_text => k_is)
    (case k_text => k_is)
    (case a_is_some_name => k_is)
    (case l_is_some_name => k_is)
    (case c_is_some_name => k_is)
    (case k_is_some_name => k_is)
    (case a_is_some_text => k_is)
    (case l_is_some_text => k_is)
    (case c_is_some_text => k_is)
    (case k_is_some_text => k_is)
    (case a_is_some_turn => k_is)
    (case l_is_some_turn => k_is)
    (case c_is_some_turn => k_is)
    (case k_is_some_turn => k_is)
    (case a_put_in => k_is)
    (case l_put_in => k_is)
    (case c_put_in => k_is)
    (case k_put_in => k_is)
    (case a_near_values => k_is)
    (case l_near_values => k_is)
    (case c_near_values => k_is)
    (case k_near_values => k_is)
    (case a_refused => k_is)
    (case l_refused => k_is)
    (case c_refused => k_is)
    (case k_refused => k_is)
    (case a_law => k_is)
    (case l_law => k_is)
    (case c_law => k_is)
    (case k_law => k_is)
    (case x_law => k_is)
    (case v_law => first | rfl | k_is)
    (case free_law => kernel_rfl)
#print axioms PySem.Challenge.cw_textmovers_k00_names_texts_and_turns_holds
