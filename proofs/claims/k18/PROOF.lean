import PyProof.Rows.All
import Wide.All
import OpenK.AllK
import Wide.FinOn
import HandS.ForMost
import HandS.Evl
import HandS.Wide
import HandS.Star
import HandS.Property
import HandS.IsInst
import HandS.ExcInit
import HandS.TryOnly
import HandS.ExcField
import HandS.TupAny
import HandS.Deep
import HandS.Conv
import HandS.Flow
import HandS.Style
import HandS.Walk
import HandS.Zip
import HandS.TupLe
import KE.KExcIs
import HandS.ExcValue
import HandS.ExcIs
import HandS.ExcOwn
import HandS.WordsExc
import HandS.More
import HandS.HotCalls
import KE.KOpsOwn
import OpenK.KMeth
import OpenK.KOps
import HandS.TupMul
import KE.KDictList
import HandS.Iter
import KE.GoesMore
import HandS.RevRange
import HandS.DictComp
import HandS.TryMany
import HandS.DictTup
import PyProof.TwoTypes
import PyProof.FactsAll.bool_2
import PyProof.FactsAll.int_3
import PySem.Challenge.RW_lookrows_k18_entries_of_tables
set_option Elab.async false
set_option linter.all false
set_option maxRecDepth 100000
namespace Lk
open PySem L2
/-- what was tracked stands, but what is listed, which is tracked still -/
def Kp (ms : List Addr) (H H' : Hp) : Prop := ∀ b o, H b = some o → (b ∉ ms ∧ H' b = some o) ∨ (b ∈ ms ∧ ∃ o', H' b = some o')
theorem Kp.refl (ms : List Addr) (H : Hp) : Kp ms H H := fun b o e => by
  by_cases h : b ∈ ms
  · exact .inr ⟨h, o, e⟩
  · exact .inl ⟨h, e⟩
theorem Kp.trans {ms : List Addr} {H H1 H2 : Hp} (a : Kp ms H H1) (c : Kp ms H1 H2) : Kp ms H H2 := fun b o e => by
  rcases a b o e with ⟨h, q⟩ | ⟨h, o', q⟩
  · exact c b o q
  · rcases c b o' q with ⟨h', _⟩ | ⟨_, z⟩
    · exact absurd h h'
    · exact .inr ⟨h, z⟩
theorem Kp.at {ms : List Addr} {H H' : Hp} {b : Addr} {o : HO} (k : Kp ms H H') (e : H b = some o) (n : b ∉ ms) : H' b = some o := by
  rcases k b o e with ⟨_, q⟩ | ⟨h, _⟩
  · exact q
  · exact absurd h n
theorem Kp.mono {ms ns : List Addr} {H H' : Hp} (k : Kp ms H H') (h : ∀ b ∈ ms, b ∈ ns) : Kp ns H H' := fun b o e => by
  rcases k b o e with ⟨n, q⟩ | ⟨n, o', q⟩
  · by_cases hb : b ∈ ns
    · exact .inr ⟨hb, o, q⟩
    · exact .inl ⟨hb, q⟩
  · exact .inr ⟨h b n, o', q⟩
theorem Kp.free {ms : List Addr} {H H' : Hp} {l : Addr} (k : Kp ms H H') (h : H' l = none) : H l = none := by
  cases q : H l with
  | none => rfl
  | some o =>
    rcases k l o q with ⟨_, z⟩ | ⟨_, o', z⟩
    · rw [z] at h; cases h
    · rw [z] at h; cases h
theorem Kp.new {ms : List Addr} {H H' : Hp} {p : Addr} {o : HO} (k : Kp ms H H') (h : H' p = none) : Kp ms H (upd H' p o) := fun b u e => by
  rcases k b u e with ⟨n, q⟩ | ⟨n, o', q⟩
  · exact .inl ⟨n, by rw [upd_ne (ne_of_none q h)]; exact q⟩
  · exact .inr ⟨n, o', by rw [upd_ne (ne_of_none q h)]; exact q⟩
/-- a listed one is changed, or one that is new since -/
theorem Kp.put {ms : List Addr} {H H' : Hp} {p : Addr} {o : HO} (k : Kp ms H H') (h : p ∈ ms ∨ H p = none) : Kp ms H (upd H' p o) := fun b u e => by
  by_cases hb : b = p
  · subst hb
    rcases h with h | h
    · exact .inr ⟨h, o, upd_same⟩
    · rw [h] at e; cases e
  · rcases k b u e with ⟨n, q⟩ | ⟨n, o', q⟩
    · exact .inl ⟨n, by rw [upd_ne hb]; exact q⟩
    · exact .inr ⟨n, o', by rw [upd_ne hb]; exact q⟩
theorem atI3 {α : Type} {a b c : α} : atI [a, b, c] 0 = some a ∧ atI [a, b, c] 1 = some b ∧ atI [a, b, c] 2 = some c := ⟨rfl, rfl, rfl⟩
/-! ### the pool of draws -/
def Pool (H : Hp) (p : Addr) (n : Nat) : Prop := ∃ a b c : Int, H p = some (.lst [.int a, .int b, .int c]) ∧ 0 ≤ a ∧ 0 ≤ b ∧ b < 1000000007 ∧ 0 ≤ c ∧ c ≤ (n : Int)
theorem Pool.mono {H : Hp} {p : Addr} {n m : Nat} (h : Pool H p n) (l : n ≤ m) : Pool H p m := by
  obtain ⟨a, b, c, e, h1, h2, h3, h4, h5⟩ := h
  exact ⟨a, b, c, e, h1, h2, h3, h4, by omega⟩
/-! ### rules whose new heaps are told by what they hold -/
section
variable {X : Cx} {K : PySem.W.Frag}
theorem opImp {f : Value → Value → Sem Value} {r r' : R2} (h : OpR X f r) (i : ∀ x y H Q, r' x y H Q → r x y H Q) : OpR X f r' := fun pins s σ H x y v u Q I rx ry q => h pins s σ H x y v u Q I rx ry (i x y H Q q)
theorem callImp {f : Value} {r r' : List V → Hp → VK → Prop} (h : CallR X f r) (i : ∀ xs H Q, r' xs H Q → r xs H Q) : CallR X f r' := fun pins s σ H xs us Q I rx q => h pins s σ H xs us Q I rx (i xs H Q q)
theorem slImp {r r' : V → Option Int → Option Int → Hp → VK → Prop} (h : SlR X r) (i : ∀ x l u H Q, r' x l u H Q → r x l u H Q) : SlR X r' := fun pins s σ H x v vl vu lo hi sl Q I rx hs pl pu q => h pins s σ H x v vl vu lo hi sl Q I rx hs pl pu (i _ _ _ _ _ q)
theorem mtImp {id : String} {r r' : V → List V → Hp → VK → Prop} (h : MtM X id r) (i : ∀ x vs H Q, r' x vs H Q → r x vs H Q) : MtM X id r' := fun pins s σ H x xs v us Q I rx rv q => h pins s σ H x xs v us Q I rx rv (i _ _ _ _ q)
theorem newK {H : Hp} {o : HO} {Q : VK} (h : ∀ p H2, H p = none → H2 p = some o → Kp [] H H2 → Q (.ref p) H2) : ∀ p, H p = none → Q (.ref p) (upd H p o) := fun p hp => h p _ hp upd_same ((Kp.refl [] H).new hp)
def tLstK (t : TA) : TE := fun σ H Q => t σ H fun xs H1 => xs.length ≤ sizeLine ∧ ∀ p H2, H1 p = none → H2 p = some (.lst xs) → Kp [] H1 H2 → Q (.ref p) H2
def tTupK (t : TA) : TE := fun σ H Q => t σ H fun xs H1 => xs.length ≤ sizeLine ∧ ∀ p H2, H1 p = none → H2 p = some (.tup xs) → Kp [] H1 H2 → Q (.ref p) H2
theorem pe_lstK {es : List Expr} {t : TA} {pos : Pos} (h : PA X es t) : PE X (.List es pos) (tLstK t) := by
  refine ⟨fun pins s σ H Q I hq => ?_⟩
  refine wpAny_List_spliced (thn (h.run pos pins s σ H _ I hq) fun us s1 ⟨xs, H1, I1, r, z, q⟩ => ⟨by rw [← r.length]; exact z, ?_⟩)
  have hf : H1 s1.heap.objs.size = none := I1.hok.fresh (Nat.le_refl _)
  refine ⟨.ref s1.heap.objs.size, upd H1 s1.heap.objs.size (.lst xs), I1.laid (t' := s1.toks) (fun b u e => Heap.get?_push_of_some _ e) (Nat.le_refl _) ?_, rfl, q _ _ hf upd_same ((Kp.refl [] H1).new hf)⟩
  exact ⟨z, us, 0, r, Heap.get?_push_size _ rfl⟩
theorem pe_tupK {es : List Expr} {t : TA} {pos : Pos} {xk} (h : PA X es t) : PE X (.Tuple es xk pos) (tTupK t) := by
  refine ⟨fun pins s σ H Q I hq => ?_⟩
  refine wpAny_Tuple_spliced (thn (h.run pos pins s σ H _ I hq) fun us s1 ⟨xs, H1, I1, r, z, q⟩ => ⟨by rw [← r.length]; exact z, ?_⟩)
  have hf : H1 s1.heap.objs.size = none := I1.hok.fresh (Nat.le_refl _)
  refine ⟨.ref s1.heap.objs.size, upd H1 s1.heap.objs.size (.tup xs), I1.laid (t' := s1.toks) (fun b u e => Heap.get?_push_of_some _ e) (Nat.le_refl _) ?_, rfl, q _ _ hf upd_same ((Kp.refl [] H1).new hf)⟩
  exact ⟨z, us, r, ⟨_, Heap.get?_push_size _ rfl, rfl, _, rfl⟩⟩
def rCatK : R2 := fun x y H Q => ∃ l b xs zs, x = .ref l ∧ y = .ref b ∧ H l = some (.lst xs) ∧ H b = some (.lst zs) ∧ xs.length + zs.length ≤ sizeLine ∧ ∀ p H2, H p = none → H2 p = some (.lst (xs ++ zs)) → Kp [] H H2 → Q (.ref p) H2
theorem op_catK : OpR X (binaryOp .Add) rCatK := opImp op_cat fun _ _ _ _ ⟨l, b, xs, zs, h1, h2, h3, h4, h5, q⟩ => ⟨l, b, xs, zs, h1, h2, h3, h4, h5, newK q⟩
def rSlLK (K : PySem.W.Frag) : V → Option Int → Option Int → Hp → VK → Prop := fun x lo hi H Q => ∃ a xs, x = .ref a ∧ SqL K H a xs ∧ ∀ p H2, H p = none → H2 p = some (.lst (cutV xs lo hi)) → Kp [] H H2 → Q (.ref p) H2
theorem sl_listK : SlR X (rSlLK X.K) := slImp sl_list fun _ _ _ _ _ ⟨a, xs, h1, h2, q⟩ => ⟨a, xs, h1, h2, newK q⟩
def rAppendK : V → List V → Hp → VK → Prop := fun x vs H Q => ∃ l xs y, x = .ref l ∧ vs = [y] ∧ H l = some (.lst xs) ∧ xs.length < sizeLine ∧ ∀ H2, H2 l = some (.lst (xs ++ [y])) → Kp [l] H H2 → Q .non H2
theorem mt_appendK : MtM X "list.append" rAppendK := mtImp mt_append fun _ _ H _ ⟨l, xs, y, h1, h2, h3, h4, q⟩ => ⟨l, xs, y, h1, h2, h3, h4, q _ upd_same ((Kp.refl [l] H).put (.inl (List.mem_singleton.mpr rfl)))⟩
def rSetLK : V → V → V → Hp → (Hp → Prop) → Prop := fun o i v H Q => ∃ p xs k j, o = .ref p ∧ i = .int k ∧ H p = some (.lst xs) ∧ ixN xs.length k = some j ∧ ∀ H2, H2 p = some (.lst (xs.set j v)) → Kp [p] H H2 → Q H2
theorem set_listK : PSet X rSetLK := fun pins s σ H o i v ov iv u Q I ro ri rv ⟨p, xs, k, j, h1, h2, h3, h4, q⟩ => set_list pins s σ H o i v ov iv u Q I ro ri rv ⟨p, xs, k, j, h1, h2, h3, h4, q _ upd_same ((Kp.refl [p] H).put (.inl (List.mem_singleton.mpr rfl)))⟩
/-- len, the number in the form that one wants -/
def rLenK (K : PySem.W.Frag) : List V → Hp → VK → Prop := fun xs H Q => ∃ p ys, ∃ n : Int, xs = [.ref p] ∧ (SqL K H p ys ∨ SqT K H p ys) ∧ (ys.length : Int) = n ∧ Q (.int n) H
theorem call_lenK : CallR X (.builtin "len") (rLenK X.K) := callImp call_len_seq fun _ _ _ ⟨p, ys, n, h1, h2, h3, q⟩ => ⟨p, ys, h1, h2, by subst h3; exact q⟩
/-- int(i) of an int -/
theorem call_intK : CallR X (.type "int") (fun xs H Q => ∃ i, xs = [.int i] ∧ Q (.int i) H) := callImp call_int1 fun _ _ _ h => .inl h
end
theorem Kp.at0 {H H' : Hp} {b : Addr} {o : HO} (k : Kp [] H H') (e : H b = some o) : H' b = some o := k.at e (by simp)
theorem Kp.at1 {H H' : Hp} {b m : Addr} {o : HO} (k : Kp [m] H H') (e : H b = some o) (n : b ≠ m) : H' b = some o := k.at e (by simpa using n)
theorem Kp.at2 {H H' : Hp} {b m1 m2 : Addr} {o : HO} (k : Kp [m1, m2] H H') (e : H b = some o) (n1 : b ≠ m1) (n2 : b ≠ m2) : H' b = some o := k.at e (by simp [n1, n2])
/-- one more step: what it changes is listed, or new since -/
theorem Kp.step {ms ns : List Addr} {H H1 H2 : Hp} (k : Kp ms H H1) (c : Kp ns H1 H2) (h : ∀ b ∈ ns, b ∈ ms ∨ H b = none) : Kp ms H H2 := fun b o e => by
  rcases k b o e with ⟨n, q⟩ | ⟨n, o', q⟩
  · rcases c b o q with ⟨_, z⟩ | ⟨hb, _⟩
    · exact .inl ⟨n, z⟩
    · rcases h b hb with z | z
      · exact absurd z n
      · rw [z] at e; cases e
  · rcases c b o' q with ⟨_, z⟩ | ⟨_, o2, z⟩
    · exact .inr ⟨n, o', z⟩
    · exact .inr ⟨n, o2, z⟩
theorem Kp.step0 {ms : List Addr} {H H1 H2 : Hp} (k : Kp ms H H1) (c : Kp [] H1 H2) : Kp ms H H2 := k.step c fun b h => nomatch h
/-- an item of a mapped list -/
theorem atI_list {α : Type} {xs : List α} {i : Int} (h0 : 0 ≤ i) (h1 : i < (xs.length : Int)) : ∃ x, xs[i.toNat]? = some x ∧ atI xs i = some x := by
  obtain ⟨k, rfl⟩ := Int.eq_ofNat_of_zero_le h0
  have hk : k < xs.length := by omega
  have e : xs[k]? = some xs[k] := List.getElem?_eq_getElem hk
  exact ⟨xs[k], e, atI_nat e⟩
theorem atI_map {α : Type} {f : α → V} {xs : List α} {i : Int} (h0 : 0 ≤ i) (h1 : i < (xs.length : Int)) : ∃ x, xs[i.toNat]? = some x ∧ atI (xs.map f) i = some (f x) := by
  obtain ⟨k, rfl⟩ := Int.eq_ofNat_of_zero_le h0
  have hk : k < xs.length := by omega
  have e : xs[k]? = some xs[k] := List.getElem?_eq_getElem hk
  exact ⟨xs[k], e, atI_nat (by rw [List.getElem?_map, e] <;> rfl)⟩
theorem Pool.at {H H' : Hp} {p : Addr} {n : Nat} {ms : List Addr} (h : Pool H p n) (k : Kp ms H H') (q : p ∉ ms) : Pool H' p n := by
  obtain ⟨a, b, c, e, z⟩ := h
  exact ⟨a, b, c, k.at e q, z⟩
/-! ### promises -/
def spCell (K : PySem.W.Frag) : Sp := fun vs H Q _ => ∃ (a : Addr) (ns : List Int) (k : Nat), vs = [.ref a, .int k] ∧ SqL K H a (ns.map V.int) ∧ ∀ x : Int, Q (.int x) H
def spPool : Sp := fun vs H Q _ => ∃ x : Int, vs = [.int x] ∧ ∀ p H', Kp [] H H' → H p = none → Pool H' p 0 → Q (.ref p) H'
def spTake : Sp := fun vs H Q _ => ∃ (p : Addr) (m : Int) (n : Nat), vs = [.ref p, .int m] ∧ Pool H p n ∧ 0 < m ∧ m < 1000000 ∧ n ≤ 1000000 ∧ ∀ (r : Int) H', 0 ≤ r → r < m → Kp [p] H H' → Pool H' p (n + 1) → Q (.int r) H'
end Lk
set_option Elab.async false
set_option linter.all false
set_option maxRecDepth 100000
namespace Lk
open PySem L2
theorem ifT {b : Bool} {A B : Prop} (hb : b = true) (h : A) : if b = true then A else B := by subst hb; exact h
theorem ifF {b : Bool} {A B : Prop} (hb : b = false) (h : B) : if b = true then A else B := by subst hb; exact h
theorem getMap {α β : Type} {f : α → β} {xs : List α} {i : Nat} {x : β} (h : (xs.map f)[i]? = some x) : ∃ y, xs[i]? = some y ∧ x = f y := by
  rw [List.getElem?_map] at h
  cases e : xs[i]? with
  | none => rw [e] at h; cases h
  | some y => rw [e] at h; exact ⟨y, rfl, (Option.some.inj h).symm⟩
theorem lt_of_get {α : Type} {xs : List α} {i : Nat} {x : α} (h : xs[i]? = some x) : i < xs.length := (List.getElem?_eq_some_iff.mp h).1
theorem updK {G : Hp → Prop} {H : Hp} {D : Addr} {o : HO} (h : ∀ H5, H5 D = some o → Kp [D] H H5 → G H5) : G (upd H D o) := h _ upd_same ((Kp.refl [D] H).put (.inl (List.mem_singleton.mpr rfl)))
theorem updN {G : Hp → Prop} {H : Hp} {D : Addr} {o : HO} (hn : H D = none) (h : ∀ H5, H5 D = some o → Kp [] H H5 → G H5) : G (upd H D o) := h _ upd_same ((Kp.refl [] H).new hn)
theorem slen {n : Nat} (h : n ≤ 16777216) : n ≤ sizeLine := by rw [sizeLine_eq]; exact h
theorem slenlt {n : Nat} (h : n < 16777216) : n < sizeLine := by rw [sizeLine_eq]; exact h
/-! ### texts as lists of signs -/
def ch (s : Str) : List Nat := s.cps.toList
theorem len_ch (s : Str) : s.length = (ch s).length := by unfold ch Str.length; rw [Array.length_toList]
theorem ch_append (a b : Str) : ch (a ++ b) = ch a ++ ch b := by
  show (a.cps ++ b.cps).toList = _
  rw [Array.toList_append]; rfl
theorem ch_one (c : Nat) : ch ⟨#[c]⟩ = [c] := rfl
theorem ch_ext {a b : Str} (h : ch a = ch b) : a = b := by
  cases a with | mk x => cases b with | mk y =>
    have : x.toList = y.toList := h
    rw [Array.toList_inj.mp this]
theorem len_append (a b : Str) : (a ++ b).length = a.length + b.length := by rw [len_ch, len_ch, len_ch, ch_append, List.length_append]
theorem len_one (c : Nat) : Str.length ⟨#[c]⟩ = 1 := rfl
theorem ch_to (z : Str) {k : Int} (h : 0 ≤ k) : ch (cutS z none (some k)) = (ch z).take k.toNat := by
  obtain ⟨n, rfl⟩ := Int.eq_ofNat_of_zero_le h
  show ((z.cps.toList.drop (HT.sIx z.length 0 none)).take (HT.sIx z.length z.length (some ((n : Nat) : Int)) - HT.sIx z.length 0 none)).toArray.toList = _
  rw [List.toList_toArray, HT.sIx_none, HT.sIx_nat]
  show List.take (min n z.length - 0) (ch z) = _
  rw [Nat.sub_zero, len_ch, Int.toNat_natCast]
  by_cases c : n ≤ (ch z).length
  · rw [Nat.min_eq_left c]
  · rw [Nat.min_eq_right (by omega), List.take_of_length_le (Nat.le_refl _), List.take_of_length_le (by omega)]
theorem ch_from (z : Str) {k : Int} (h : 0 ≤ k) : ch (cutS z (some k) none) = (ch z).drop k.toNat := by
  obtain ⟨n, rfl⟩ := Int.eq_ofNat_of_zero_le h
  show ((z.cps.toList.drop (HT.sIx z.length 0 (some ((n : Nat) : Int)))).take (HT.sIx z.length z.length none - HT.sIx z.length 0 (some ((n : Nat) : Int)))).toArray.toList = _
  rw [List.toList_toArray, HT.sIx_none, HT.sIx_nat]
  show List.take (z.length - min n z.length) (List.drop (min n z.length) (ch z)) = _
  rw [len_ch, Int.toNat_natCast]
  by_cases c : n ≤ (ch z).length
  · rw [Nat.min_eq_left c, List.take_of_length_le (by rw [List.length_drop]; exact Nat.le_refl _)]
  · rw [Nat.min_eq_right (by omega), List.drop_of_length_le (Nat.le_refl _), List.drop_of_length_le (by omega), List.take_nil]
theorem atS {z : Str} {i : Int} (h0 : 0 ≤ i) (h1 : i < (z.length : Int)) : ∃ c, (ch z)[i.toNat]? = some c ∧ atI z.cps.toList i = some c := atI_list (xs := ch z) h0 (by rw [← len_ch]; exact h1)
def isLet (c : Nat) : Bool := 97 ≤ c && c ≤ 122
def isAl (c : Nat) : Bool := isLet c || (48 ≤ c && c ≤ 57)
theorem al_of_let {c : Nat} (h : isLet c = true) : isAl c = true := by unfold isAl; rw [h]; rfl
/-- a name: a letter, then at most seven letters and digits -/
def Nm (s : Str) : Prop := ∃ c r, ch s = c :: r ∧ isLet c = true ∧ (∀ x ∈ r, isAl x = true) ∧ r.length ≤ 7
/-- a word that grows: its first sign and i more -/
def Wd (s : Str) (i : Nat) : Prop := ∃ c r, ch s = c :: r ∧ isLet c = true ∧ (∀ x ∈ r, isAl x = true) ∧ r.length = i
def lets : List Nat := [97, 98, 99, 100, 101, 102, 103, 104, 105, 106, 107, 108, 109, 110, 111, 112, 113, 114, 115, 116, 117, 118, 119, 120, 121, 122]
def als : List Nat := lets ++ [48, 49, 50, 51, 52, 53, 54, 55, 56, 57]
theorem ch_lets : ch ("abcdefghijklmnopqrstuvwxyz" : Str) = lets := by decide +kernel
theorem ch_als : ch (("abcdefghijklmnopqrstuvwxyz" : Str) ++ ("0123456789" : Str)) = als := by decide +kernel
theorem len_lets : Str.length ("abcdefghijklmnopqrstuvwxyz" : Str) = 26 := by decide +kernel
theorem len_als : Str.length (("abcdefghijklmnopqrstuvwxyz" : Str) ++ ("0123456789" : Str)) = 36 := by decide +kernel
theorem let_at {c : Nat} {i : Nat} (h : (ch ("abcdefghijklmnopqrstuvwxyz" : Str))[i]? = some c) : isLet c = true := by
  rw [ch_lets] at h
  have q : ∀ x ∈ lets, isLet x = true := by decide +kernel
  exact q c (List.mem_of_getElem? h)
theorem al_at {c : Nat} {i : Nat} (h : (ch (("abcdefghijklmnopqrstuvwxyz" : Str) ++ ("0123456789" : Str)))[i]? = some c) : isAl c = true := by
  rw [ch_als] at h
  have q : ∀ x ∈ als, isAl x = true := by decide +kernel
  exact q c (List.mem_of_getElem? h)
theorem Wd.one {c : Nat} (h : isLet c = true) : Wd ⟨#[c]⟩ 0 := ⟨c, [], rfl, h, (fun x z => absurd z List.not_mem_nil), rfl⟩
theorem Wd.more {s : Str} {i : Nat} {c : Nat} (w : Wd s i) (h : isAl c = true) : Wd (s ++ ⟨#[c]⟩) (i + 1) := by
  obtain ⟨a, r, e, h1, h2, h3⟩ := w
  refine ⟨a, r ++ [c], by rw [ch_append, e, ch_one]; rfl, h1, fun x hx => ?_, by rw [List.length_append, h3]; rfl⟩
  rcases List.mem_append.mp hx with q | q
  · exact h2 x q
  · rw [List.mem_singleton.mp q]; exact h
theorem Wd.len {s : Str} {i : Nat} (w : Wd s i) : s.length = i + 1 := by
  obtain ⟨a, r, e, _, _, h3⟩ := w
  rw [len_ch, e, List.length_cons, h3]
/-- the ways to make names: ss holds them -/
def Nms (ss : List Str) : Prop := ss.Nodup ∧ ∀ s ∈ ss, Nm s
theorem nodup_of_get {α : Type} {xs : List α} (h : ∀ (i j : Nat) (x : α), xs[i]? = some x → xs[j]? = some x → i = j) : xs.Nodup := by
  rw [List.nodup_iff_pairwise_ne, List.pairwise_iff_getElem]
  intro i j hi hj hij e
  have e1 : xs[i]? = some xs[i] := List.getElem?_eq_getElem hi
  have e2 : xs[j]? = some xs[i] := by rw [List.getElem?_eq_getElem hj, e]
  have := h i j xs[i] e1 e2
  omega
theorem get_inj {α : Type} {xs : List α} (hn : xs.Nodup) {i j : Nat} {x : α} (h1 : xs[i]? = some x) (h2 : xs[j]? = some x) : i = j := (List.getElem?_inj (lt_of_get h1) hn).mp (h1.trans h2.symm)
/-- beginnings of one word -/
theorem nms_takes {w : Str} {ss : List Str} (hw : Wd w 7) (hl : ss.length ≤ 8) (h : ∀ (j : Nat) s, ss[j]? = some s → ch s = (ch w).take (j + 1)) : Nms ss := by
  obtain ⟨c, r, e, h1, h2, h3⟩ := hw
  refine ⟨nodup_of_get fun i j x hi hj => ?_, fun s hs => ?_⟩
  · have a := h i x hi
    have b := h j x hj
    have li := lt_of_get hi
    have lj := lt_of_get hj
    have q : (List.take (i + 1) (ch w)).length = (List.take (j + 1) (ch w)).length := by rw [← a, ← b]
    rw [List.length_take, List.length_take, e, List.length_cons, h3] at q
    omega
  · obtain ⟨j, hj⟩ := List.getElem?_of_mem hs
    have a := h j s hj
    have lj := lt_of_get hj
    refine ⟨c, r.take j, by rw [a, e]; rfl, h1, fun x hx => h2 x (List.mem_of_mem_take hx), by rw [List.length_take]; omega⟩
/-- one sign changes within a stem -/
theorem nms_signs {pre post told : List Nat} {start : Nat} {ss : List Str} (hl : ss.length ≤ 8) (ht : told.Nodup) (hn : told.length = 26 ∨ told.length = 36)
    (h : ∀ (j : Nat) s, ss[j]? = some s → ∃ c, told[(start + 7 * j) % told.length]? = some c ∧ ch s = pre ++ c :: post)
    (hv : ∀ c ∈ told, ∃ a r, pre ++ c :: post = a :: r ∧ isLet a = true ∧ (∀ x ∈ r, isAl x = true) ∧ r.length ≤ 7) : Nms ss := by
  refine ⟨nodup_of_get fun i j x hi hj => ?_, fun s hs => ?_⟩
  · obtain ⟨a, ha, ea⟩ := h i x hi
    obtain ⟨b, hb, eb⟩ := h j x hj
    have li := lt_of_get hi
    have lj := lt_of_get hj
    rw [ea] at eb
    have eab : a = b := by
      have := List.append_cancel_left eb
      injection this
    rw [eab] at ha
    have la := lt_of_get ha
    have lb := lt_of_get hb
    have q : (start + 7 * i) % told.length = (start + 7 * j) % told.length := get_inj ht ha hb
    rcases hn with z | z <;> rw [z] at q <;> omega
  · obtain ⟨j, hj⟩ := List.getElem?_of_mem hs
    obtain ⟨c, hc, e⟩ := h j s hj
    obtain ⟨a, r, e2, h1, h2, h3⟩ := hv c (List.mem_of_getElem? hc)
    exact ⟨a, r, e.trans e2, h1, h2, h3⟩
end Lk
namespace Lk
open PySem L2
theorem all_snoc {α : Type} {P : Nat → α → Prop} {ss : List α} {i : Nat} {y : α} (h : ∀ (j : Nat) t, ss[j]? = some t → P j t) (hl : ss.length = i) (hy : P i y) : ∀ (j : Nat) t, (ss ++ [y])[j]? = some t → P j t := by
  intro j t e
  by_cases c : j < ss.length
  · rw [List.getElem?_append_left c] at e
    exact h j t e
  · rw [List.getElem?_append_right (by omega)] at e
    have q : j - ss.length = 0 := by
      have := lt_of_get e
      rw [List.length_singleton] at this
      omega
    rw [q] at e
    have e2 : y = t := Option.some.inj e
    have e3 : j = i := by omega
    subst e2; subst e3
    exact hy
/-- the signs of which one is put into a stem at the place pl -/
structure Told (t : Str) (pl : Int) : Prop where
  nd : (ch t).Nodup
  len : Str.length t = 26 ∨ Str.length t = 36
  ok : ∀ c ∈ ch t, isAl c = true ∧ (pl = 0 → isLet c = true)
theorem told_lets (pl : Int) : Told ("abcdefghijklmnopqrstuvwxyz" : Str) pl := by
  refine ⟨by rw [ch_lets]; decide +kernel, .inl len_lets, ?_⟩
  rw [ch_lets]
  intro c hc
  have q : ∀ x ∈ lets, isLet x = true := by decide +kernel
  exact ⟨al_of_let (q c hc), fun _ => q c hc⟩
theorem told_als {pl : Int} (h : ¬ pl = 0) : Told (("abcdefghijklmnopqrstuvwxyz" : Str) ++ ("0123456789" : Str)) pl := by
  refine ⟨by rw [ch_als]; decide +kernel, .inr len_als, ?_⟩
  rw [ch_als]
  intro c hc
  have q : ∀ x ∈ als, isAl x = true := by decide +kernel
  exact ⟨q c hc, fun z => absurd z h⟩
theorem Told.names {t w : Str} {k pl st : Int} {ss : List Str} (T : Told t pl) (hw : Wd w 7) (hk : 0 ≤ k) (hk7 : k < 8) (hp : 0 ≤ pl) (hpk : pl ≤ k) (hs : 0 ≤ st) (hl : ss.length ≤ 8)
    (h : ∀ (j : Nat) s, ss[j]? = some s → ∃ c, (ch t)[(st.toNat + 7 * j) % (ch t).length]? = some c ∧ ch s = (ch (cutS w none (some k))).take pl.toNat ++ c :: (ch (cutS w none (some k))).drop pl.toNat) : Nms ss := by
  obtain ⟨a, r, e, h1, h2, h3⟩ := hw
  refine nms_signs hl T.nd (by rw [← len_ch]; exact T.len) h fun c hc => ?_
  obtain ⟨o1, o2⟩ := T.ok c hc
  rw [ch_to _ hk, e]
  obtain ⟨k, rfl⟩ := Int.eq_ofNat_of_zero_le hk
  obtain ⟨pl, rfl⟩ := Int.eq_ofNat_of_zero_le hp
  rw [Int.toNat_natCast, Int.toNat_natCast]
  cases pl with
  | zero =>
    refine ⟨c, List.take k (a :: r), rfl, o2 rfl, fun x hx => ?_, by rw [List.length_take, List.length_cons, h3]; omega⟩
    rcases List.mem_cons.mp (List.mem_of_mem_take hx) with z | z
    · rw [z]; exact al_of_let h1
    · exact h2 x z
  | succ n =>
    have hk1 : k = (k - 1) + 1 := by omega
    rw [hk1]
    refine ⟨a, (List.take n (List.take (k - 1) r)) ++ c :: List.drop n (List.take (k - 1) r), rfl, h1, fun x hx => ?_, ?_⟩
    · rcases List.mem_append.mp hx with z | z
      · exact h2 x (List.mem_of_mem_take (List.mem_of_mem_take z))
      · rcases List.mem_cons.mp z with z | z
        · rw [z]; exact o1
        · exact h2 x (List.mem_of_mem_take (List.mem_of_mem_drop z))
    · rw [List.length_append, List.length_cons, List.length_take, List.length_drop, List.length_take, h3]
      omega
end Lk
namespace Lk
open PySem L2
theorem len_digits : Str.length ("0123456789" : Str) = 10 := by decide +kernel
theorem idx_mod {n : Nat} {s : Int} {k : Nat} (hs : 0 ≤ s) (hn : 0 < n) : Int.toNat ((s + 7 * (0 + (k : Int))) % (n : Int)) = (Int.toNat s + 7 * k) % n := by
  obtain ⟨a, rfl⟩ := Int.eq_ofNat_of_zero_le hs
  have e : ((a : Int) + 7 * (0 + (k : Int))) % (n : Int) = (((a + 7 * k) % n : Nat) : Int) := by
    rw [Int.natCast_emod]
    congr 1
    omega
  rw [e, Int.toNat_natCast, Int.toNat_natCast]
end Lk
namespace Lk
open PySem L2
theorem len_to (z : Str) {k : Int} (h : 0 ≤ k) : (cutS z none (some k)).length = min k.toNat z.length := by rw [len_ch, ch_to z h, List.length_take, len_ch]
theorem len_from (z : Str) {k : Int} (h : 0 ≤ k) : (cutS z (some k) none).length = z.length - k.toNat := by rw [len_ch, ch_from z h, List.length_drop, len_ch]
end Lk
set_option Elab.async false
set_option linter.all false
set_option maxRecDepth 100000
namespace Lk
open PySem L2
/-! ### (a, b) > (c, d) of ints -/
def pairGt (a b c d : Int) : Bool := if a = c then decide (d < b) else decide (c < a)
def rGtT (K : PySem.W.Frag) : R2 := fun u v H Q => ∃ (p q : Addr) (a b c d : Int), u = .ref p ∧ v = .ref q ∧ SqT K H p [.int a, .int b] ∧ SqT K H q [.int c, .int d] ∧ Q (.bl (pairGt a b c d)) H
theorem two_ints {a b : Int} {us : List Value} (r : Vals [V.int a, V.int b] us) : ∃ t t', us = [.int a t, .int b t'] := by
  cases r with | cons r1 r2 => cases r2 with | cons r3 r4 => cases r4; obtain ⟨t, rfl⟩ := r1; obtain ⟨t', rfl⟩ := r3; exact ⟨t, t', rfl⟩
theorem op_gtT {X : Cx} (hu : X.A.units < cLine) : OpR X (compareOp .Gt) (rGtT X.K) := by
  rintro pins s σ H _ _ v u Q I rx ry ⟨p, q, a, b, c, d, rfl, rfl, hp, hq, k⟩
  cases rx; cases ry
  obtain ⟨its, r1, p1, _⟩ := I.tuple hp; obtain ⟨its', r2, p2, _⟩ := I.tuple hq
  obtain ⟨t1, t2, rfl⟩ := two_ints r1; obtain ⟨t3, t4, rfl⟩ := two_ints r2
  have q1 : ∀ {x y : Int} {t t' : Tok}, SeqAt.EqAt X.A.in1 s (.int x t) (.int y t') (decide (x = y)) := fun {x y t t'} => by
    rw [← Bool.beq_eq_decide_eq]; exact SeqAt.EqAt.int_int _ _ _ _
  have R := Ob.RcOp.tuples_gt (A := X.A) (s := s) (e := fun j => if j = 0 then decide (a = c) else decide (b = d)) (r := fun j => if j = 0 then decide (c < a) else decide (d < b)) p1 p2 hu
    (fun j h1 h2 => match j, h1, h2 with | 0, _, _ => q1 | 1, _, _ => q1 | n + 2, h, _ => absurd h (by simp)) (fun j h1 h2 _ => match j, h1, h2 with | 0, _, _ => Ob.RcOp.gt_int _ _ _ _ | 1, _, _ => Ob.RcOp.gt_int _ _ _ _ | n + 2, h, _ => absurd h (by simp))
  refine R X.prog X.w X.xe _ ⟨.bl _, H, I, rfl, ?_⟩
  have e : Ob.lexAt (fun j => if j = 0 then decide (a = c) else decide (b = d)) (fun j => if j = 0 then decide (c < a) else decide (d < b)) (decide (2 > 2)) 0 2 = pairGt a b c d := by
    unfold pairGt
    show (if decide (a = c) = true then (if decide (b = d) = true then decide (2 > 2) else decide (d < b)) else decide (c < a)) = _
    by_cases h : a = c
    · rw [if_pos (decide_eq_true h), if_pos h]
      by_cases h2 : b = d
      · rw [if_pos (decide_eq_true h2), h2]; simp
      · rw [if_neg (by simpa using h2)]
    · rw [if_neg (by simpa using h), if_neg h]
  exact e ▸ k
/-! ### lists of objects: each one is told by φ, and stands apart from ms -/
abbrev Tell (α : Type) := Hp → Addr → α → Prop
def Stab {α : Type} (φ : Tell α) : Prop := ∀ H H' p x, (∀ o, H p = some o → H' p = some o) → φ H p x → φ H' p x
def LIn {α : Type} (φ : Tell α) (H : Hp) (ps : List Addr) (xs : List α) (ms : List Addr) : Prop := ps.length = xs.length ∧ ∀ (i : Nat) p x, ps[i]? = some p → xs[i]? = some x → p ∉ ms ∧ φ H p x
def Lst {α : Type} (φ : Tell α) (H : Hp) (a : Addr) (xs : List α) (ms : List Addr) : Prop := ∃ ps : List Addr, H a = some (.lst (ps.map V.ref)) ∧ LIn φ H ps xs ms
def tS : Tell (List Str) := fun H p r => H p = some (.lst (r.map V.str))
def tR : Tell (Str × Str × Int) := fun H p r => H p = some (.tup [.str r.1, .str r.2.1, .int r.2.2])
theorem tS_st : Stab tS := fun _ _ _ _ k h => k _ h
theorem tR_st : Stab tR := fun _ _ _ _ k h => k _ h
section
variable {α : Type} {φ : Tell α} {H H' : Hp} {a : Addr} {ps : List Addr} {xs : List α} {ms ns : List Addr}
theorem LIn.kp (st : Stab φ) (h : LIn φ H ps xs ms) (k : Kp ns H H') (hs : ∀ n ∈ ns, n ∈ ms) : LIn φ H' ps xs ms := ⟨h.1, fun i p x h1 h2 => by
  obtain ⟨n, q⟩ := h.2 i p x h1 h2
  exact ⟨n, st H H' p x (fun o e => k.at e (fun z => n (hs p z))) q⟩⟩
theorem Lst.kp (st : Stab φ) (h : Lst φ H a xs ms) (k : Kp ns H H') (ha : a ∉ ns) (hs : ∀ n ∈ ns, n ∈ ms) : Lst φ H' a xs ms := by
  obtain ⟨ps, e, q⟩ := h
  exact ⟨ps, k.at e ha, q.kp st k hs⟩
theorem LIn.at (h : LIn φ H ps xs ms) {i : Nat} {p : Addr} (e : ps[i]? = some p) : ∃ x, xs[i]? = some x ∧ p ∉ ms ∧ φ H p x := by
  have l := lt_of_get e
  rw [h.1] at l
  have e2 : xs[i]? = some xs[i] := List.getElem?_eq_getElem l
  exact ⟨xs[i], e2, h.2 i p _ e e2⟩
theorem LIn.snoc (h : LIn φ H ps xs ms) {p : Addr} {x : α} (n : p ∉ ms) (q : φ H p x) : LIn φ H (ps ++ [p]) (xs ++ [x]) ms := by
  refine ⟨by simp [h.1], fun i r y h1 h2 => ?_⟩
  by_cases c : i < ps.length
  · rw [List.getElem?_append_left c] at h1
    rw [List.getElem?_append_left (by have := h.1; omega)] at h2
    exact h.2 i r y h1 h2
  · rw [List.getElem?_append_right (by omega)] at h1
    rw [List.getElem?_append_right (by have := h.1; omega)] at h2
    have z : i - ps.length = 0 := by have := lt_of_get h1; simp at this; omega
    rw [z] at h1
    rw [show i - xs.length = 0 by have := h.1; omega] at h2
    cases Option.some.inj h1; cases Option.some.inj h2
    exact ⟨n, q⟩
theorem LIn.nil : LIn φ H [] ([] : List α) ms := ⟨rfl, fun i p x h => by simp at h⟩
theorem LIn.mono (h : LIn φ H ps xs ms) (hs : ∀ n ∈ ns, n ∈ ms) : LIn φ H ps xs ns := ⟨h.1, fun i p x h1 h2 => ⟨fun z => (h.2 i p x h1 h2).1 (hs p z), (h.2 i p x h1 h2).2⟩⟩
theorem Lst.mono (h : Lst φ H a xs ms) (hs : ∀ n ∈ ns, n ∈ ms) : Lst φ H a xs ns := by
  obtain ⟨ps, e, q⟩ := h
  exact ⟨ps, e, q.mono hs⟩
/-- what is told holds of an address that is tracked: one that is free is none of them -/
theorem LIn.ext (tr : ∀ p x, φ H p x → H p ≠ none) (h : LIn φ H ps xs ms) {m : Addr} (hm : H m = none) : LIn φ H ps xs (m :: ms) := ⟨h.1, fun i p x h1 h2 => by
  obtain ⟨n, q⟩ := h.2 i p x h1 h2
  refine ⟨fun z => ?_, q⟩
  rcases List.mem_cons.mp z with z | z
  · rw [z] at q; exact tr _ _ q hm
  · exact n z⟩
theorem LIn.take (h : LIn φ H ps xs ms) (n : Nat) : LIn φ H (ps.take n) (xs.take n) ms := ⟨by simp [h.1], fun i p x h1 h2 => by
  rw [List.getElem?_take] at h1 h2
  by_cases c : i < n
  · rw [if_pos c] at h1 h2; exact h.2 i p x h1 h2
  · rw [if_neg c] at h1; cases h1⟩
end
theorem tS_tr (H : Hp) (p : Addr) (x : List Str) (h : tS H p x) : H p ≠ none := fun z => by
  have : H p = some (.lst (x.map V.str)) := h
  rw [z] at this; cases this
theorem tR_tr (H : Hp) (p : Addr) (x : Str × Str × Int) (h : tR H p x) : H p ≠ none := fun z => by
  have : H p = some (.tup [.str x.1, .str x.2.1, .int x.2.2]) := h
  rw [z] at this; cases this
theorem cutV_to {α : Type} (f : α → V) (xs : List α) {k : Int} (h : 0 ≤ k) : cutV (xs.map f) none (some k) = (xs.take k.toNat).map f := by
  obtain ⟨n, rfl⟩ := Int.eq_ofNat_of_zero_le h
  unfold cutV
  rw [HT.sIx_none, HT.sIx_nat, Int.toNat_natCast, List.length_map]
  show List.take (min n xs.length - 0) (xs.map f) = _
  rw [Nat.sub_zero, List.map_take]
  by_cases c : n ≤ xs.length
  · rw [Nat.min_eq_left c]
  · rw [Nat.min_eq_right (by omega), List.take_of_length_le (by simp), List.take_of_length_le (by simp; omega)]
theorem cutV_from {α : Type} (f : α → V) (xs : List α) {k : Int} (h : 0 ≤ k) : cutV (xs.map f) (some k) none = (xs.drop k.toNat).map f := by
  obtain ⟨n, rfl⟩ := Int.eq_ofNat_of_zero_le h
  unfold cutV
  rw [HT.sIx_none, HT.sIx_nat, Int.toNat_natCast, List.length_map]
  by_cases c : n ≤ xs.length
  · rw [Nat.min_eq_left c, List.take_of_length_le (by simp), List.map_drop]
  · rw [Nat.min_eq_right (by omega), List.drop_of_length_le (by simp), List.take_nil, List.drop_of_length_le (by omega)]; rfl
theorem Nms.sub {ss ts : List Str} (h : Nms ss) (s : ts.Sublist ss) : Nms ts := ⟨h.1.sublist s, fun x hx => h.2 x (s.subset hx)⟩
theorem Nms.rev {ss : List Str} (h : Nms ss) : Nms ss.reverse := ⟨List.pairwise_reverse.mpr (h.1.imp fun z => Ne.symm z), fun x hx => h.2 x (List.mem_reverse.mp hx)⟩
end Lk
namespace Lk
open PySem L2
abbrev Rows (H : Hp) (a : Addr) (rows : List (List Str)) (ms : List Addr) : Prop := Lst tS H a rows ms
abbrev RowsIn (H : Hp) (ps : List Addr) (rows : List (List Str)) (ms : List Addr) : Prop := LIn tS H ps rows ms
abbrev Rules (H : Hp) (a : Addr) (rs : List (Str × Str × Int)) (ms : List Addr) : Prop := Lst tR H a rs ms
abbrev RulesIn (H : Hp) (ps : List Addr) (rs : List (Str × Str × Int)) (ms : List Addr) : Prop := LIn tR H ps rs ms
theorem notMem1 {a m : Addr} (h : a ≠ m) : a ∉ [m] := by simpa using h
theorem notMem2 {a m n : Addr} (h : a ≠ m) (h2 : a ≠ n) : a ∉ [m, n] := by simp [h, h2]
theorem notMem3 {a m n o : Addr} (h : a ≠ m) (h2 : a ≠ n) (h3 : a ≠ o) : a ∉ [m, n, o] := by simp [h, h2, h3]
theorem notMem4 {a m n o p : Addr} (h : a ≠ m) (h2 : a ≠ n) (h3 : a ≠ o) (h4 : a ≠ p) : a ∉ [m, n, o, p] := by simp [h, h2, h3, h4]
theorem notMem5 {a m n o p q : Addr} (h : a ≠ m) (h2 : a ≠ n) (h3 : a ≠ o) (h4 : a ≠ p) (h5 : a ≠ q) : a ∉ [m, n, o, p, q] := by simp [h, h2, h3, h4, h5]
theorem notMem6 {a m n o p q r : Addr} (h : a ≠ m) (h2 : a ≠ n) (h3 : a ≠ o) (h4 : a ≠ p) (h5 : a ≠ q) (h6 : a ≠ r) : a ∉ [m, n, o, p, q, r] := by simp [h, h2, h3, h4, h5, h6]
/-- what a drawn list of rules keeps: ws the steps' ranks -/
structure RulesOk (ss : List Str) (ws : List Int) (rs : List (Str × Str × Int)) : Prop where
  each : ∀ r ∈ rs, ∃ i j : Nat, ss[i]? = some r.1 ∧ ss[j]? = some r.2.1 ∧ i ≠ j ∧ 0 ≤ r.2.2 ∧ r.2.2 ≤ 99 ∧ (r.2.2 = 0 → pairGt (ws.getD i 0) i (ws.getD j 0) j = false)
  nd : (rs.map fun r => (r.1, r.2.1)).Nodup
theorem RulesOk.nil {ss : List Str} {ws : List Int} : RulesOk ss ws [] := ⟨fun r h => absurd h List.not_mem_nil, List.Pairwise.nil⟩
def other (a b : Str) : Str × Str × Int → Bool := fun r => !decide ((r.1, r.2.1) = (a, b))
theorem RulesOk.put {ss : List Str} {ws : List Int} {rs : List (Str × Str × Int)} {a b : Str} {s f g : Int} (R : RulesOk ss ws rs) (hf : 0 ≤ f) (hg : 0 ≤ g) (ha : ss[f.toNat]? = some a) (hb : ss[g.toNat]? = some b) (ne : ¬ f = g)
    (s0 : 0 ≤ s) (s1 : s ≤ 99) (z : s = 0 → pairGt (ws.getD f.toNat 0) f (ws.getD g.toNat 0) g = false) : RulesOk ss ws (rs.filter (other a b) ++ [(a, b, s)]) := by
  refine ⟨fun r h => ?_, ?_⟩
  · rcases List.mem_append.mp h with q | q
    · exact R.each r (List.mem_filter.mp q).1
    · rw [List.mem_singleton.mp q]
      refine ⟨f.toNat, g.toNat, ha, hb, by omega, s0, s1, fun e => ?_⟩
      have := z e
      rw [show ((f.toNat : Nat) : Int) = f by omega, show ((g.toNat : Nat) : Int) = g by omega]
      exact this
  · rw [List.map_append, List.nodup_append]
    refine ⟨R.nd.sublist (List.filter_sublist.map _), by simp, fun x hx y hy e => ?_⟩
    obtain ⟨r, hr, rfl⟩ := List.mem_map.mp hx
    have q := (List.mem_filter.mp hr).2
    simp only [List.map_cons, List.map_nil, List.mem_singleton] at hy
    rw [hy] at e
    unfold other at q
    rw [decide_eq_true e] at q
    exact Bool.noConfusion q
theorem pairGt_swap {a b c d : Int} (h : pairGt a b c d = true) : pairGt c d a b = false := by
  unfold pairGt at h ⊢
  by_cases e : a = c
  · rw [if_pos e] at h; rw [if_pos e.symm]
    have := of_decide_eq_true h
    exact decide_eq_false (by omega)
  · rw [if_neg e] at h; rw [if_neg (fun z => e z.symm)]
    have := of_decide_eq_true h
    exact decide_eq_false (by omega)
theorem getD_of {ws : List Int} {i : Nat} {x : Int} (h : ws[i]? = some x) : ws.getD i 0 = x := by rw [List.getD_eq_getElem?_getD, h]; rfl
theorem filter_take {α : Type} {p : α → Bool} {xs : List α} {i : Nat} {x : α} (h : xs[i]? = some x) : (xs.take (i + 1)).filter p = (xs.take i).filter p ++ (if p x = true then [x] else []) := by
  rw [List.take_add_one, h, List.filter_append]
  congr 1
  by_cases c : p x = true
  · rw [if_pos c]; simp [c]
  · rw [if_neg c]; simp [c]
theorem flat_snoc (rows : List (List Str)) (r : List Str) : (rows ++ [r]).flatten = rows.flatten ++ r := by simp
/-! ### data, for == -/
theorem dp_str {K : PySem.W.Frag} {H : Hp} (ss : List Str) : DpAll K H (ss.map V.str) (ss.map PyData.str) := by
  induction ss with
  | nil => exact .nil
  | cons x r ih => exact .cons (.str x) ih
theorem dp_strs {K : PySem.W.Frag} {H : Hp} {a : Addr} {ss : List Str} (h : H a = some (.lst (ss.map V.str))) : Dp K H (.ref a) (.list (ss.map PyData.str)) := .lst (SqL.of h) (dp_str ss)
theorem dp_strT {K : PySem.W.Frag} {H : Hp} {a : Addr} {ss : List Str} (h : H a = some (.tup (ss.map V.str))) : Dp K H (.ref a) (.tuple (ss.map PyData.str)) := .tup (SqT.of h) (dp_str ss)
end Lk
namespace Lk
open PySem L2
theorem eqvAll_map {α : Type} [DecidableEq α] {f : α → PyData} (hf : ∀ a b, PyData.eqv (f a) (f b) = decide (a = b)) : ∀ xs ys : List α, PyData.eqvAll (xs.map f) (ys.map f) = decide (xs = ys)
  | [], [] => by simp [PyData.eqvAll]
  | [], _ :: _ => by simp [PyData.eqvAll]
  | _ :: _, [] => by simp [PyData.eqvAll]
  | x :: xs, y :: ys => by
    rw [List.map_cons, List.map_cons, PyData.eqvAll, hf, eqvAll_map hf xs ys]
    by_cases h : x = y <;> by_cases h2 : xs = ys <;> simp [h, h2]
theorem eqv_str (a b : Str) : PyData.eqv (.str a) (.str b) = decide (a = b) := by rw [PyData.eqv]; by_cases h : a = b <;> simp [h]
theorem eqv_int (a b : Int) : PyData.eqv (.int a) (.int b) = decide (a = b) := by rw [PyData.eqv]; by_cases h : a = b <;> simp [h]
theorem eqv_bool (a b : Bool) : PyData.eqv (.bool a) (.bool b) = decide (a = b) := by rw [PyData.eqv]; cases a <;> cases b <;> rfl
theorem eqv_strs (xs ys : List Str) : PyData.eqv (.list (xs.map PyData.str)) (.list (ys.map PyData.str)) = decide (xs = ys) := by rw [PyData.eqv]; exact eqvAll_map eqv_str xs ys
theorem eqv_strT (xs ys : List Str) : PyData.eqv (.tuple (xs.map PyData.str)) (.tuple (ys.map PyData.str)) = decide (xs = ys) := by rw [PyData.eqv]; exact eqvAll_map eqv_str xs ys
theorem eqv_ints (xs ys : List Int) : PyData.eqv (.list (xs.map PyData.int)) (.list (ys.map PyData.int)) = decide (xs = ys) := by rw [PyData.eqv]; exact eqvAll_map eqv_int xs ys
theorem eqv_bools (xs ys : List Bool) : PyData.eqv (.list (xs.map PyData.bool)) (.list (ys.map PyData.bool)) = decide (xs = ys) := by rw [PyData.eqv]; exact eqvAll_map eqv_bool xs ys
theorem lay_map {α : Type} {f : α → PyData} : ∀ (xs : List α), (∀ x ∈ xs, (f x).canLay0 = true) → PyData.canLayAll0 (xs.map f) = true
  | [], _ => rfl
  | x :: xs, h => by
    rw [List.map_cons, PyData.canLayAll0, h x List.mem_cons_self, lay_map xs fun y hy => h y (List.mem_cons_of_mem _ hy)]; rfl
theorem dep_map {α : Type} {f : α → PyData} {n : Nat} : ∀ (xs : List α), (∀ x ∈ xs, (f x).depth ≤ n) → PyData.depthAll (xs.map f) ≤ n
  | [], _ => Nat.zero_le _
  | x :: xs, h => by
    rw [List.map_cons, PyData.depthAll]
    exact Nat.max_le.mpr ⟨h x List.mem_cons_self, dep_map xs fun y hy => h y (List.mem_cons_of_mem _ hy)⟩
theorem shaped_l {α : Type} {f : α → PyData} (xs : List α) (h1 : ∀ x ∈ xs, (f x).canLay0 = true) (h2 : ∀ x ∈ xs, (f x).depth ≤ 8) : SeqAt.shaped (.list (xs.map f)) = true ∧ SeqAt.shaped (.tuple (xs.map f)) = true := by
  have a := lay_map xs h1
  have b := dep_map xs h2
  constructor
  · unfold SeqAt.shaped; rw [PyData.canLay0, PyData.depth, a]; exact decide_eq_true (by omega)
  · unfold SeqAt.shaped; rw [PyData.canLay0, PyData.depth, a]; exact decide_eq_true (by omega)
theorem Nm.len {s : Str} (h : Nm s) : s.length ≤ 8 ∧ 1 ≤ s.length := by
  obtain ⟨c, r, e, _, _, l⟩ := h
  rw [len_ch, e, List.length_cons]
  omega
theorem al_small {c : Nat} (h : isAl c = true) : c < 128 := by
  unfold isAl isLet at h
  simp only [Bool.or_eq_true, Bool.and_eq_true, decide_eq_true_eq] at h
  omega
theorem Nm.ok {s : Str} (h : Nm s) : (PyData.str s).canLay0 = true := by
  rw [PyData.canLay0]
  obtain ⟨c, r, e, h1, h2, _⟩ := h
  have q : ∀ x ∈ s.cps.toList, x < 128 := fun x hx => by
    have hx : x ∈ ch s := hx
    rw [e] at hx
    rcases List.mem_cons.mp hx with z | z
    · rw [z]; exact al_small (al_of_let h1)
    · exact al_small (h2 x z)
  show s.cps.all (· < 0x110000) = true
  rw [← Array.all_toList, List.all_eq_true]
  intro x hx
  have := q x hx
  exact decide_eq_true (by omega)
theorem shaped_strs {ss : List Str} (h : ∀ s ∈ ss, Nm s) : SeqAt.shaped (.list (ss.map PyData.str)) = true := (shaped_l ss (fun x hx => (h x hx).ok) fun x _ => by rw [PyData.depth]; exact Nat.zero_le _).1
theorem shaped_strT {ss : List Str} (h : ∀ s ∈ ss, Nm s) : SeqAt.shaped (.tuple (ss.map PyData.str)) = true := (shaped_l ss (fun x hx => (h x hx).ok) fun x _ => by rw [PyData.depth]; exact Nat.zero_le _).2
theorem shaped_ints (ns : List Int) : SeqAt.shaped (.list (ns.map PyData.int)) = true := (shaped_l ns (fun x hx => rfl) fun x _ => by rw [PyData.depth]; exact Nat.zero_le _).1
theorem shaped_bools (ns : List Bool) : SeqAt.shaped (.list (ns.map PyData.bool)) = true := (shaped_l ns (fun x hx => rfl) fun x _ => by rw [PyData.depth]; exact Nat.zero_le _).1
theorem dp_int {K : PySem.W.Frag} {H : Hp} : ∀ ns : List Int, DpAll K H (ns.map V.int) (ns.map PyData.int)
  | [] => .nil
  | x :: r => .cons (.int x) (dp_int r)
theorem dp_bool {K : PySem.W.Frag} {H : Hp} : ∀ ns : List Bool, DpAll K H (ns.map V.bl) (ns.map PyData.bool)
  | [] => .nil
  | x :: r => .cons (.bl x) (dp_bool r)
theorem dp_ints {K : PySem.W.Frag} {H : Hp} {a : Addr} {ns : List Int} (h : H a = some (.lst (ns.map V.int))) : Dp K H (.ref a) (.list (ns.map PyData.int)) := .lst (SqL.of h) (dp_int ns)
theorem dp_bools {K : PySem.W.Frag} {H : Hp} {a : Addr} {ns : List Bool} (h : H a = some (.lst (ns.map V.bl))) : Dp K H (.ref a) (.list (ns.map PyData.bool)) := .lst (SqL.of h) (dp_bool ns)
end Lk
namespace Lk
open PySem L2
theorem three {x : Int} {i : Nat} (h : ([1, 1, 0, 2, 1, 3] : List Int)[i]? = some x) : 0 ≤ x ∧ x ≤ 3 := by
  have q : ∀ y ∈ ([1, 1, 0, 2, 1, 3] : List Int), 0 ≤ y ∧ y ≤ 3 := by decide
  exact q x (List.mem_of_getElem? h)
theorem shift9 {x : Int} {i : Nat} (h : ([0, 0, 1, 0, 2, 1, 3, 0, 1] : List Int)[i]? = some x) : 0 ≤ x ∧ x ≤ 99 := by
  have q : ∀ y ∈ ([0, 0, 1, 0, 2, 1, 3, 0, 1] : List Int), 0 ≤ y ∧ y ≤ 99 := by decide
  exact q x (List.mem_of_getElem? h)
end Lk
namespace Lk
open PySem L2
theorem allNm2 {a b : Str} (h1 : Nm a) (h2 : Nm b) : ∀ s ∈ [a, b], Nm s := fun s h => by
  rcases List.mem_cons.mp h with z | z
  · rw [z]; exact h1
  · rw [List.mem_singleton.mp z]; exact h2
theorem allNm1 {a : Str} (h1 : Nm a) : ∀ s ∈ [a], Nm s := fun s h => by rw [List.mem_singleton.mp h]; exact h1
theorem RulesOk.nm {ss : List Str} {ws : List Int} {rs : List (Str × Str × Int)} (R : RulesOk ss ws rs) (h : Nms ss) {r : Str × Str × Int} (hr : r ∈ rs) : Nm r.1 ∧ Nm r.2.1 := by
  obtain ⟨i, j, h1, h2, _⟩ := R.each r hr
  exact ⟨h.2 _ (List.mem_of_getElem? h1), h.2 _ (List.mem_of_getElem? h2)⟩
theorem get_eq {α : Type} {xs : List α} {i : Nat} {x y : α} (h : xs[i]? = some x) (h2 : xs[i]? = some y) : x = y := Option.some.inj (h.symm.trans h2)
theorem other_true {a b x y : Str} {r : Str × Str × Int} (h : ¬ ([r.1, r.2.1] = [x, y])) (ex : x = a) (ey : y = b) : other a b r = true := by
  subst ex; subst ey
  unfold other
  rw [decide_eq_false (fun z => h (by injection z with z1 z2; rw [z1, z2]))]; rfl
theorem other_false {a b x y : Str} {r : Str × Str × Int} (h : [r.1, r.2.1] = [x, y]) (ex : x = a) (ey : y = b) : ¬ other a b r = true := by
  subst ex; subst ey
  unfold other
  injection h with h1 h2
  injection h2 with h2 _
  rw [decide_eq_true (by rw [h1, h2])]; decide
theorem sw1 {ns : List Int} {f g x y : Int} (h : ¬ pairGt x f y g = true) (hx : ns[f.toNat]? = some x) (hy : ns[g.toNat]? = some y) : pairGt (ns.getD f.toNat 0) f (ns.getD g.toNat 0) g = false := by
  rw [getD_of hx, getD_of hy]; exact Bool.eq_false_iff.mpr h
theorem sw2 {ns : List Int} {f g x y a b : Int} (h : pairGt x f y g = true) (hx : ns[f.toNat]? = some x) (hy : ns[g.toNat]? = some y) (ea : a = g) (eb : b = f) : pairGt (ns.getD a.toNat 0) a (ns.getD b.toNat 0) b = false := by
  subst ea; subst eb
  rw [getD_of hx, getD_of hy]; exact pairGt_swap h
end Lk
namespace Lk
open PySem L2
theorem Kp.more {ms : List Addr} {H H' : Hp} (ns : List Addr) (k : Kp ms H H') : Kp (ms ++ ns) H H' := k.mono fun b hb => List.mem_append_left ns hb
theorem forall_mem2 {P : Addr → Prop} {a b : Addr} (h1 : P a) (h2 : P b) : ∀ x ∈ [a, b], P x := fun x h => by
  rcases List.mem_cons.mp h with z | z
  · rw [z]; exact h1
  · rw [List.mem_singleton.mp z]; exact h2
theorem forall_mem1 {P : Addr → Prop} {a : Addr} (h1 : P a) : ∀ x ∈ [a], P x := fun x h => by rw [List.mem_singleton.mp h]; exact h1
theorem forall_cons {P : Addr → Prop} {a : Addr} {l : List Addr} (h1 : P a) (h2 : ∀ x ∈ l, P x) : ∀ x ∈ a :: l, P x := fun x h => by
  rcases List.mem_cons.mp h with z | z
  · rw [z]; exact h1
  · exact h2 x z
theorem forall_mem3 {P : Addr → Prop} {a b c : Addr} (h1 : P a) (h2 : P b) (h3 : P c) : ∀ x ∈ [a, b, c], P x := forall_cons h1 (forall_mem2 h2 h3)
theorem forall_mem4 {P : Addr → Prop} {a b c d : Addr} (h1 : P a) (h2 : P b) (h3 : P c) (h4 : P d) : ∀ x ∈ [a, b, c, d], P x := forall_cons h1 (forall_mem3 h2 h3 h4)
theorem forall_mem5 {P : Addr → Prop} {a b c d e : Addr} (h1 : P a) (h2 : P b) (h3 : P c) (h4 : P d) (h5 : P e) : ∀ x ∈ [a, b, c, d, e], P x := forall_cons h1 (forall_mem4 h2 h3 h4 h5)
theorem ndec {P : Prop} [Decidable P] (h : (!decide P) = true) : ¬ P := fun z => by rw [decide_eq_true z] at h; exact Bool.noConfusion h
theorem nndec {P : Prop} [Decidable P] (h : ¬ (!decide P) = true) : P := Decidable.byContradiction fun z => h (by rw [decide_eq_false z]; rfl)
end Lk
namespace Lk
theorem put_len {α : Type} {rs : List α} {f : α → Bool} {n k : Nat} {x : α} (h : rs.length ≤ k) : ((rs.take n).filter f ++ [x]).length ≤ k + 1 := by
  rw [List.length_append, List.length_singleton]
  have a := List.length_filter_le f (rs.take n)
  rw [List.length_take] at a
  omega
end Lk
set_option Elab.async false
set_option linter.all false
set_option maxRecDepth 100000
set_option maxHeartbeats 2000000
namespace Lk
open PySem L2
/-! ### exceptions as values -/
/-- C(e, ..) as a value; the class's own __init__ keeps sp -/
def tMkE (C : Addr) (sp : Sp) (ta : TA) : TE := fun σ H Q => ta σ H fun vs H1 => vs.length ≤ 1000 ∧ ∀ a, H1 a = none → sp (.ref a :: vs) (upd H1 a (exo a C none)) (fun v H2 => v = .non ∧ Q (.ref a) H2) (fun _ _ _ => False)
section
variable {X : Cx}
theorem pe_mkE {CX : CXT} {x : Str} {C fI : Addr} {k : Nat} {fd : FuncData} {ps : List Str} {sp : Sp} {e : Expr} {es : List Expr} {ta : TA} {p pos : Pos} (T : OexC X.K C) (iC : PySem.W.findIn X.K (.ref C) "__init__" = some (some (.ref fI))) (tI : PySem.W.typeIn X.K (.ref fI) = some (.type "function"))
    (F1 : FnOk X.prog X.w X.K X.mg X.base CX k fI fd ps sp) (hr : Room (k + 1) X.A) (hb : Binds X.K fd ps []) (hx : Passes CX X (fun _ _ _ => False)) (hg : Gl X x) (hm : X.mg x = some (.ref C)) (ha : PA X (e :: es) ta)
    (hdb : (x == ("__debug__" : Str)) = false := by decide) (he : starEach (e :: es) X.env = (false, eval e X.env) :: starEach es X.env := by rfl) (hpl : (backTo pos (starEach es X.env)).any (·.1) = false := by rfl) :
    PE X (.Call (.Name x p) (e :: es) [] pos) (tMkE C sp ta) := by
  constructor
  rintro pins s0 σ G0 Q I0 hw
  obtain ⟨nm, q, N, bs, bm, sn, sub, ab, col, dd, k0, k1, k2, k3, k5, hC, hbm⟩ := T.cls
  apply wpAny_Call_Name_kw (ld_glob I0 hg hm _ hdb)
  apply PySem.W.callWith_K (h₀ := X.base) I0.ok.mod.kin T.kC _ he hpl
  refine thn (ha.run pos pins s0 σ G0 _ I0 hw) fun us s1 ⟨vs, G1, J1, rv, hz, hq⟩ => ⟨J1.kIn, ?_⟩
  obtain ⟨hp, gn, dr, tk, os⟩ := s1
  have big : hp.objs.size ≤ hp.objs.size + 1 := Nat.le_succ _
  have fr : G1 (hp.objs.size + 1) = none := J1.hok.fresh big
  have hs := hq _ fr
  generalize hh2 : (hp.push (PySem.W.kdv_tup us)).push (PySem.HandSPX.excO C hp.objs.size) = hp2
  have keep : ∀ b o, hp.get? b = some o → hp2.get? b = some o := by
    rw [← hh2]; exact fun b o e => Heap.get?_push_of_some _ (Heap.get?_push_of_some _ e)
  have there : hp2.get? (hp.objs.size + 1) = some (PySem.HandSPX.excO C hp.objs.size) := by rw [← hh2]; heap_get
  have J2 : Inv X pins σ (upd G1 (hp.objs.size + 1) (exo (hp.objs.size + 1) C none)) ⟨hp2, gn, dr, tk, os⟩ := J1.laid (t' := tk) (a := hp.objs.size + 1) keep big (exo_ok there)
  have r2 : Vals (V.ref (hp.objs.size + 1) :: vs) (Value.ref (hp.objs.size + 1) :: us) := .cons rfl rv
  have hl : (Value.ref (hp.objs.size + 1) :: us).length = ps.length := by rw [← r2.length]; exact F1.len _ _ _ _ hs
  have hus : us.length ≤ sizeLine := by rw [← Paired.length rv, sizeLine_eq]; omega
  have call := F1.run _ X.stack _ _ ⟨Value.ref (hp.objs.size + 1) :: us, []⟩ (Value.ref (hp.objs.size + 1) :: us) _ _ (fun _ _ _ => False) (hr.make C us []) (J2.env0.make C us []) (by
    have := hb _ (Value.ref (hp.objs.size + 1) :: us) J2.kIn (by simpa using hl)
    simpa using this) r2 hs
  show wpAny _ _ (PySem.call (.ref C) us) _ _ _
  refine wpAny_call (PySem.HandSPX.call_own PySem.F.excBase_ValueError (fun Y => PySem.HandSPX.refsVE_contains Y bm hbm) (J1.kIn _ _ hC) (PySem.W.looks_findIn J1.kIn iC) (fun self => PySem.W.bind_fn J1.kIn self tI) hus (by
    rw [hh2]
    refine codeAny_mono call fun r s' hr' => ?_
    cases r with
    | error er => exact hx pins σ _ _ er s' J2 hr'
    | ok fl =>
      cases fl <;> first | exact False.elim hr' | skip
      obtain ⟨v, G2, J3, rv3, ev, q2⟩ := J2.after hr'
      subst ev
      exact ⟨rv3, .ref (hp.objs.size + 1), G2, J3, rfl, q2⟩))
/-- C(), C without an __init__ of its own -/
def tMkE0 (C : Addr) : TE := fun _ H Q => ∀ a H2, H a = none → H2 a = some (ExO (.ref C) a) → Kp [] H H2 → Q (.ref a) H2
theorem pe_mkE0 {C : Addr} {bmB : List Value} {Bn newId initId : String} {x : Str} {p pos : Pos} (F : ExcBaseFacts Bn newId initId bmB) (ex : PySem.W.excIn X.K C bmB newId = true) (gC : X.mg x = some (.ref C)) (kC : PySem.W.keepIn X.K (.ref C) = true) (hg : Gl X x)
    (hdb : (x == ("__debug__" : Str)) = false := by decide) : PE X (.Call (.Name x p) [] [] pos) (tMkE0 C) := by
  constructor
  rintro pins s0 σ G0 Q I0 hw
  apply wpAny_Call_Name_kw (ld_glob I0 hg gC _ hdb)
  refine PySem.W.callWith_K0 I0.kIn kC ?_
  obtain ⟨bm, N, nm, qn, bs, hdct, sn, sub, ab, col, dd, k0, k1, k2, k3, k5, mN, hC, hN, hni, T⟩ := exc_obj I0.kIn ex
  refine wpAny_call_exc_subT F T hC hN hni (fun h' a hm => ?_) (Nat.zero_le _)
  have hn : G0 a = none := I0.hok.gone hm.new
  obtain ⟨t, ht, _, _⟩ := hm.there
  exact ⟨.ref a, upd G0 a (ExO (.ref C) a), I0.laidN hm.keeps hm.new hn (exO_ok ht ⟨rfl, rfl⟩ rfl rfl rfl (show 4 < 6 by decide)), rfl, hw a _ hn upd_same ((Kp.refl [] G0).new hn)⟩
/-- an exception of the class at C -/
def Exc (H : Hp) (a C : Addr) : Prop := (∃ d fs, H a = some (exo a C (some d)) ∧ H d = some (exd d fs)) ∨ H a = some (ExO (.ref C) a)
theorem Exc.inst {pins : List (Addr × Obj)} {σ : L2.St} {H : Hp} {s : Shared} {a C : Addr} (I : Inv X pins σ H s) (h : Exc H a C) : ∃ ox od, PySem.W.InstAt s.heap a ox C od := by
  rcases h with ⟨d, fs, h1, h2⟩ | h
  · obtain ⟨t1, e⟩ := exo_at I.hok h1
    obtain ⟨mA, hn, _⟩ := exd_at I.hok h2
    obtain ⟨od, ho, _⟩ := lookIn_ns hn
    exact ⟨_, some od, e, rfl, rfl, ho⟩
  · obtain ⟨⟨oe, vs, e, ⟨z1, z2⟩, dt, _⟩, _⟩ := I.hok a _ h
    refine ⟨oe, none, e, z1, ?_, ?_⟩
    · unfold PySem.W.notCls; rw [dt] <;> rfl
    · rw [z2]; trivial
/-- isinstance(e, c) -/
def rIsX (K : PySem.W.Frag) : List V → Hp → VK → Prop := fun xs H Q => ∃ (a D : Addr) (c : V) (cv : Value) (b : Bool), xs = [.ref a, c] ∧ Exc H a D ∧ L2.ExcC K D ∧ ClsV c cv ∧ PySem.W.kitOne K (.ref D) cv = some b ∧ Q (.bl b) H
theorem call_isX : CallR X (.builtin "isinstance") (rIsX X.K) := by
  rintro pins s σ H xs us Q I r ⟨a, D, c, cv, b, rfl, hE, hC, hc, hk, q⟩
  obtain ⟨u1, u2, rfl, r1, r2⟩ := vals2 r
  cases r1
  have e2 := hc.eq r2
  subst e2
  obtain ⟨ox, od, J⟩ := hE.inst I
  have hcl : (PySem.W.clsIn X.K D).isSome = true := by
    have := hC.hd
    unfold PySem.W.hasDictIn at this
    cases e : PySem.W.clsIn X.K D with
    | none => rw [e] at this; simp at this
    | some _ => rfl
  exact PySem.W.kia_one (PySem.W.kitx_exc hcl hC.hg hC.hk hC.hs hC.ha hC.hn hC.ht hC.hm) I.kIn J hk (fun z => nomatch z) fun tk => ⟨.bl b, H, I.tok tk, rfl, q⟩
/-- e.f -/
def tFldE (K : PySem.W.Frag) (f : Str) (te : TE) : TE := fun σ H Q => te σ H fun x H1 => ∃ (a C d : Addr) (fs : List (Str × V)) (v : V), x = .ref a ∧ H1 a = some (exo a C (some d)) ∧ H1 d = some (exd d fs) ∧ XfC K C ∧ PySem.W.findIn K (.ref C) f = some none ∧ fs.lookup f = some v ∧ Q v H1
theorem pe_fldE {e : Expr} {te : TE} {f : Str} {pos : Pos} (he : PE X e te) (hb : attributeBase e f X.env (eval e X.env) = eval e X.env := by rfl) : PE X (.Attribute e f pos) (tFldE X.K f te) := by
  constructor
  rintro pins s0 σ G0 Q I0 hw
  refine attr_of hb (thn (he.run pins s0 σ G0 _ I0 hw) ?_)
  rintro u s1 ⟨x, G1, J1, rx, a, C, d, fs, v, rfl, ha, hd, T, hno, hl, q⟩
  cases rx
  obtain ⟨t1, e1⟩ := exo_at J1.hok ha
  obtain ⟨mA, hn, hr⟩ := exd_at J1.hok hd
  obtain ⟨od, ho, hlk⟩ := lookIn_ns hn
  obtain ⟨u, hu, ru⟩ := RelO.some_of (v := v) (o := mA f) (by rw [← hl]; exact hr f)
  exact PySem.HandSPX.exc_get J1.kIn (od := some od) ⟨e1, rfl, rfl, ho⟩ T.ga T.gg T.exC (PySem.W.findObj_own T.hdC hno rfl (by rw [hlk, hu])) (handed_of ru) ⟨v, G1, J1.tok _, ru, q⟩
end
end Lk
namespace Lk
open PySem L2
theorem pe_fldEK {X : Cx} {K : PySem.W.Frag} (hK : X.K = K) {e : Expr} {te : TE} {f : Str} {pos : Pos} (he : PE X e te) (hb : attributeBase e f X.env (eval e X.env) = eval e X.env := by rfl) : PE X (.Attribute e f pos) (tFldE K f te) := by
  subst hK
  exact pe_fldE he hb
end Lk
set_option Elab.async false
set_option linter.all false
set_option maxRecDepth 100000
namespace Lk
open PySem PySem.Spec PyProof.Rows L2
/-! what an object of the program's own classes does: methods, len, in, subscripts, operators -/
section
variable {X : Cx} {CX : CXT} {k : Nat} {C f dx : Addr} {fs : List (Str × V)} {sp : Sp} {E : L2.St → XK} {m : Str} {pins : List (Addr × Obj)} {σ : L2.St} {H : Hp} {s : Shared} {Q : VK}
theorem pass0At {X : Cx} (σ : L2.St) : PassesAt CX0 X σ (fun _ _ _ => False) := fun _ _ _ _ _ _ h => h.elim
theorem passLAt {X : Cx} (σ : L2.St) : PassesAt (L2.CX X.prog X.w) X σ (fun _ _ _ => False) := fun _ _ _ _ _ _ h => by
  obtain ⟨_, _, _, _, _, _, _, _, _, _, _, _, z⟩ := h
  exact z.elim
/-- a def runs somewhere below the body -/
theorem run_in {A : Around} {us : List Value} {vs : List V} (F : FnR X.prog X.w X.K X.mg X.base CX k f sp) (hr : Room k A) (hf : A.frames = X.A.frames) (hx : PassesAt CX X σ (E σ)) (I : Inv X pins σ H s) (r : Vals vs us) (h : sp vs H Q (E σ)) :
    wpAny (model X.prog X.w) A (call (.ref f) us) (EP X pins σ Q) X.xe s := by
  have e := I.env0
  refine wpAny_call (codeAny_mono (F A X.stack s H us vs Q (E σ) hr ⟨by rw [hf]; exact e.frames, e.mod, e.bs, e.bsz, e.funs, e.frf, e.hok, e.bare⟩ r h) fun r s' hq => ?_)
  cases r with
  | error er => exact hx pins H s er s' I hq
  | ok fl => cases fl with
    | ret u => exact I.after hq
    | _ => exact False.elim hq
theorem inst_at (I : Inv X pins σ H s) (ea : H a = some (.ins C dx fs)) : ∃ od, PySem.W.InstAt s.heap a (PySem.W.instObj C dx) C (some od) := by
  obtain ⟨mA, O, _⟩ := ins_get I.hok ea
  obtain ⟨od, J, _⟩ := O.look
  exact ⟨od, J⟩
/-- o.m(e, ..) -/
def tMethN (C : Addr) (m : Str) (sp : Sp) (E : L2.St → XK) (ta : TE) (t : TA) : TE := fun σ H Q => ta σ H fun x H1 => ∃ a dx fs, x = .ref a ∧ H1 a = some (.ins C dx fs) ∧ fs.lookup m = none ∧ t σ H1 fun vs H2 => sp (x :: vs) H2 Q (E σ)
variable {o e : Expr} {es : List Expr} {ta tb : TE} {t : TA} {apos pos : Pos}
theorem pe_methN {pl : Sem Bool} (he : PE X o ta) (c : Cls X.K C) (hm : Meth X.K C m f)
    (F : FnR X.prog X.w X.K X.mg X.base CX k f sp) (hr : Room k X.A) (hx : ∀ σ, PassesAt CX X σ (E σ)) (ha : PA X (e :: es) t)
    (hst : starEach (e :: es) X.env = (false, eval e X.env) :: starEach es X.env := by rfl) (hpl : (backTo pos (starEach es X.env)).any (·.1) = false := by rfl)
    (ht : eval (.Call (.Attribute o m apos) (e :: es) [] pos) X.env = (eval o X.env >>= fun ov => standAt apos.atName >>= fun _ => holding [ov] (getMethod ov m pl) >>= fun z =>
      callWith pos z.1 z.2 (backTo pos (starEach (e :: es) X.env)) (backToKw pos (keywordEach [] X.env))) := by rfl) :
    PE X (.Call (.Attribute o m apos) (e :: es) [] pos) (tMethN C m sp E ta t) := ⟨fun pins s σ H Q I h => by
  refine PySem.W.methodCall_KW (pl := pl) (thn (he.run pins s σ H _ I h) fun u s1 ⟨x, H1, I1, rx, a, dx, fs, ex, ea, l, q⟩ => ?_) ht
  subst ex
  obtain rfl : u = Value.ref a := rx
  refine getmeth_ok I1 ea c hm l (PySem.W.callWith_K (first := [.ref a]) (h₀ := X.base) I1.ok.mod.kin hm.kp (thn (ha.run pos pins s1 σ H1 _ I1 q) fun us s2 ⟨vs, H2, I2, r, q2⟩ => ⟨I2.kIn, ?_⟩) hst hpl)
  exact run_in (us := .ref a :: us) (vs := .ref a :: vs) F hr rfl (hx σ) I2 (.cons rfl r) q2⟩
theorem pe_methN0 {pl : Sem Bool} (he : PE X o ta) (c : Cls X.K C) (hm : Meth X.K C m f)
    (F : FnR X.prog X.w X.K X.mg X.base CX k f sp) (hr : Room k X.A) (hx : ∀ σ, PassesAt CX X σ (E σ))
    (ht : eval (.Call (.Attribute o m apos) [] [] pos) X.env = (eval o X.env >>= fun ov => standAt apos.atName >>= fun _ => holding [ov] (getMethod ov m pl) >>= fun z =>
      callWith pos z.1 z.2 (backTo pos (starEach [] X.env)) (backToKw pos (keywordEach [] X.env))) := by rfl) :
    PE X (.Call (.Attribute o m apos) [] [] pos) (tMethN C m sp E ta tNil) := ⟨fun pins s σ H Q I h => by
  refine PySem.W.methodCall_KW (pl := pl) (thn (he.run pins s σ H _ I h) fun u s1 ⟨x, H1, I1, rx, a, dx, fs, ex, ea, l, q⟩ => ?_) ht
  subst ex
  obtain rfl : u = Value.ref a := rx
  exact getmeth_ok I1 ea c hm l (PySem.W.callWith_K0 (first := [.ref a]) I1.kIn hm.kp (run_in (us := [.ref a]) (vs := [.ref a]) F hr rfl (hx σ) I1 (.cons rfl .nil) q))⟩
/-- len(o) -/
def rLenO (C : Addr) (sp : Sp) : List V → Hp → VK → Prop := fun xs H Q => ∃ a dx fs, xs = [.ref a] ∧ H a = some (.ins C dx fs) ∧ sp [.ref a] H (fun v H' => ∃ n : Int, v = .int n ∧ (0 ≤ n ∧ n < 2 ^ 63) ∧ Q (.int n) H') fun _ _ _ => False
theorem call_lenO (hm : Meth X.K C "__len__" f) (F : FnR X.prog X.w X.K X.mg X.base CX k f sp) (hr : Room (k + 1) X.A) (hx : ∀ σ, PassesAt CX X σ fun _ _ _ => False) : CallR X (.builtin "len") (rLenO C sp) := by
  intro pins s σ H xs us Q I r h
  obtain ⟨a, dx, fs, rfl, ea, q⟩ := h
  obtain ⟨u, rfl, ru⟩ := vals1 r
  cases ru
  obtain ⟨od, J⟩ := inst_at I ea
  obtain ⟨m, hF⟩ := I.fr
  refine PySem.W.len_K hF I.ok.mod.kin J hm.at_ hm.fn (wpAny_mono (run_in (E := fun _ _ _ _ => False) (us := [.ref a]) (vs := [.ref a]) F hr.in1 rfl (hx σ) I (.cons rfl .nil) q) (fun v s' z => ?_) fun _ _ z => z)
  obtain ⟨w, H', I', rw', n, ew, hn, hq⟩ := z
  subst ew
  obtain ⟨t, rfl⟩ := rw'
  exact ⟨hn, .int n, H', I'.tok _, ⟨_, rfl⟩, hq⟩
/-- x in o, x not in o -/
def rInO (C : Addr) (sp : Sp) (neg : Bool) : R2 := fun x y H Q => ∃ a dx fs, y = .ref a ∧ H a = some (.ins C dx fs) ∧ sp [.ref a, x] H (fun v H' => ∃ b : Bool, v = .bl b ∧ Q (.bl (b != neg)) H') fun _ _ _ => False
theorem op_inO (hm : Meth X.K C "__contains__" f) (F : FnR X.prog X.w X.K X.mg X.base CX k f sp) (hr : Room k X.A) (hx : ∀ σ, PassesAt CX X σ fun _ _ _ => False) : OpR X (compareOp .In) (rInO C sp false) := by
  intro pins s σ H x y v u Q I rx ry h
  obtain ⟨a, dx, fs, rfl, ea, q⟩ := h
  cases ry
  obtain ⟨od, J⟩ := inst_at I ea
  obtain ⟨m, hF⟩ := I.fr
  refine PySem.W.in_K hF I.ok.mod.kin J hm.at_ hm.fn (wpAny_mono (run_in (E := fun _ _ _ _ => False) (us := [.ref a, v]) (vs := [.ref a, x]) F hr rfl (hx σ) I (.cons rfl (.cons rx .nil)) q) (fun v s' z => ?_) fun _ _ z => z)
  obtain ⟨w, H', I', rw', b, ew, hq⟩ := z
  subst ew
  cases rw'
  exact wpAny_truthy_bool ⟨.bl b, H', I', rfl, by cases b <;> exact hq⟩
theorem op_notInO (hm : Meth X.K C "__contains__" f) (F : FnR X.prog X.w X.K X.mg X.base CX k f sp) (hr : Room k X.A) (hx : ∀ σ, PassesAt CX X σ fun _ _ _ => False) : OpR X (compareOp .NotIn) (rInO C sp true) := by
  intro pins s σ H x y v u Q I rx ry h
  obtain ⟨a, dx, fs, rfl, ea, q⟩ := h
  cases ry
  obtain ⟨od, J⟩ := inst_at I ea
  obtain ⟨m, hF⟩ := I.fr
  refine PySem.W.notIn_K hF I.ok.mod.kin J hm.at_ hm.fn (wpAny_mono (run_in (E := fun _ _ _ _ => False) (us := [.ref a, v]) (vs := [.ref a, x]) F hr rfl (hx σ) I (.cons rfl (.cons rx .nil)) q) (fun v s' z => ?_) fun _ _ z => z)
  obtain ⟨w, H', I', rw', b, ew, hq⟩ := z
  subst ew
  cases rw'
  exact wpAny_truthy_bool ⟨.bl (!b), H', I', rfl, by cases b <;> exact hq⟩
/-- o[i] -/
def tGetO (C : Addr) (sp : Sp) (E : L2.St → XK) (ta tb : TE) : TE := fun σ H Q => ta σ H fun x H1 => tb σ H1 fun y H2 => ∃ a dx fs, x = .ref a ∧ H2 a = some (.ins C dx fs) ∧ sp [.ref a, y] H2 Q (E σ)
theorem pe_getO {i : Expr} (hm : Meth X.K C "__getitem__" f) (fi : PySem.W.fnIn X.K f = true) (F : FnR X.prog X.w X.K X.mg X.base CX k f sp) (hr : Room (k + 1) X.A) (hx : ∀ σ, PassesAt CX X σ (E σ)) (ha : PE X o ta) (hb : PE X i tb)
    (hsl : ∀ v u, subscripted i true v u = runValue (.builtin "lifetime.subscript" ⟨[v, u], []⟩) := by intro _ _; rfl) : PE X (.Subscript o i pos) (tGetO C sp E ta tb) := ⟨fun pins s σ H Q I h => by
  refine Subscript_ (binT ha hb I h fun v u s2 x y H2 I2 rx ry q => ?_)
  obtain ⟨a, dx, fs, rfl, ea, q⟩ := q
  cases rx
  obtain ⟨od, J⟩ := inst_at I2 ea
  obtain ⟨m, hF⟩ := I2.fr
  exact PySem.W.sub_K hF I2.ok.mod.kin J hm.at_ fi hm.fn (run_in (us := [.ref a, u]) (vs := [.ref a, y]) F hr.in1 rfl (hx σ) I2 (.cons rfl (.cons ry .nil)) q) (hsl _ _)⟩
/-- o[i] = v -/
def gSubO (C : Addr) (sp : Sp) (E : L2.St → XK) (to ti : TE) : TG := fun v σ H Q => to σ H fun x H1 => ti σ H1 fun i H2 => ∃ a dx fs, x = .ref a ∧ H2 a = some (.ins C dx fs) ∧ sp [.ref a, i, v] H2 (fun _ H3 => Q σ H3) (E σ)
theorem pg_setO {i : Expr} (hm : Meth X.K C "__setitem__" f) (hq : PySem.W.noSeq X.K C = true) (F : FnR X.prog X.w X.K X.mg X.base CX k f sp) (hr : Room k X.A) (hx : ∀ σ, PassesAt CX X σ (E σ)) (ho : PE X o ta) (hi : PE X i tb)
    (ha : ∀ v, assign (.Subscript o i pos) X.env v = (holding [v] (eval o X.env) >>= fun ov => holding [v, ov] (eval i X.env) >>= fun iv => standAt pos >>= fun _ => holding [v, ov, iv] (setItem ov iv v) >>= fun _ => release [v, ov, iv] []) := by intro _; rfl) :
    PG X (.Subscript o i pos) (gSubO C sp E ta tb) := by
  refine ⟨fun pins s σ H v u Q I r h => ?_⟩
  rw [ha]
  refine wpAny_bind (wpAny_holding (thn (ho.run pins s σ H _ I h) fun ov s1 ⟨x, H1, I1, rx, q1⟩ => ?_))
  refine wpAny_bind (wpAny_holding (thn (hi.run pins s1 σ H1 _ I1 q1) fun iv s2 ⟨y, H2, I2, ry, a, dx, fs, ex, ea, q⟩ => ?_))
  subst ex
  obtain rfl : ov = Value.ref a := rx
  obtain ⟨od, J⟩ := inst_at I2 ea
  obtain ⟨m, hF⟩ := I2.fr
  refine wpAny_bind (wpAny_standAt (wpAny_bind (wpAny_holding (PySem.W.ksp_setItem hF I2.ok.mod.kin J hq hm.at_ hm.fn (wpAny_mono (run_in (us := [.ref a, iv, u]) (vs := [.ref a, y, v]) F hr rfl (hx σ) I2 (.cons rfl (.cons ry (.cons r .nil))) q) (fun _ s' z => ?_) fun _ _ z => z)))))
  obtain ⟨w, H', I', _, hq'⟩ := z
  exact wpAny_release ⟨σ, H', I', hq'⟩
end
/-- a def with *v -/
theorem star_fn {P : Program} {w : World} {K : PySem.W.Frag} {mg : Str → Option Value} {base : Heap} {x qual pv : Str} {st : Stmt} {f : Addr} {fd : FuncData} {N ps : List Str} {k : Nat} {sp : Sp} (F : Fun K x qual st f fd) (S : FnScope N (ps ++ [pv]) (defScope st))
    (hb : ∀ (kV doc pm : Value) (an : Option Addr) (cdv ct : Value) (us rest : List Value), us.length = ps.length → bindArgs (PySem.W.fnOf x qual (defArgs st) (defBody st) (defScope st) .none kV doc pm an cdv ct) ⟨us ++ rest, []⟩ = (newTuple rest >>= fun t => pure (ps.zip us ++ [(pv, t)])))
    (hbody : ∀ (cdv : Value) (A : Around) (outer : List Env) (s : Shared) (H : Hp) (vs : List V) (Q : VK) (E : XK), Room k (A.deeper (envOfC qual (defScope st) s.heap.objs.size f cdv)) → sp vs H Q E →
      ∃ t, PSs (cxOf (L2.CX P w) P w K mg base N qual (defScope st) f cdv A outer s H E) (defBody st) t ∧ t { nx := fun _ H' => Q .non H', rt := Q } (start N vs) H) :
    FnR P w K mg base (L2.CX P w) (k + 1) f (fun vs H Q E => ∃ ws rest, vs = ws ++ rest ∧ ws.length = ps.length ∧ rest.length ≤ sizeLine ∧ ∀ p, H p = none → sp (ws ++ [V.ref p]) (upd H p (.tup rest)) Q E) := by
  obtain ⟨oc, od, kV, doc, pm, an, cdv, ct, osl, rfl, lk, hcd⟩ := F.ex
  exact StX.fn_star lk hcd S StX.cxUp (hb kV doc pm an cdv ct) fun A outer s H vs Q E hr h => hbody cdv A outer s H vs Q E hr h
end Lk
set_option Elab.async false
set_option linter.all false
set_option maxRecDepth 100000
set_option maxHeartbeats 2000000
namespace Lk
open PySem PySem.Spec PyProof.Rows L2
/-! a def that neither raises nor walks, called wherever there is room (also within an except suite) -/
def FnM (P : Program) (w : World) (K : PySem.W.Frag) (mg : Str → Option Value) (base : Heap) (k : Nat) (f : Addr) (sp : Sp) : Prop :=
  ∀ (A : Around) (outer : List Env) (s : Shared) (H : Hp) (us : List Value) (vs : List V) (Q : VK) (E : XK), L2H.RoomH k A → Env0 P w K mg base A outer s H → Vals vs us → sp vs H Q E →
    codeAny (model P w) A (.call (.ref f) ⟨us, []⟩) (CR CX0 outer P w H s Q E) s
theorem roomM {k : Nat} {A : Around} (r : Room k A) (h : Option Value) : L2H.RoomH k (A.mark h) := ⟨r.dp, r.un⟩
theorem huH {A : Around} {k : Nat} (r : L2H.RoomH k A) : A.units + 1 < cLine := by have := r.un; omega
/-- the context of its body -/
def cxM (P : Program) (w : World) (K : PySem.W.Frag) (mg : Str → Option Value) (base : Heap) (N : List Str) (qual : Str) (scope : Scope) (f : Addr) (cd : Value) (A : Around) (outer : List Env) (s : Shared) (H : Hp) (E : XK) : Cx :=
  { (cxOf CX0 P w K mg base N qual scope f cd A outer s H E).nox with calm := false }
theorem fnM_of {P : Program} {w : World} {K : PySem.W.Frag} {mg : Str → Option Value} {base : Heap} {k : Nat} {f : Addr} {x qual : Str} {st : Stmt} {fd : FuncData} {N ps : List Str} {sp : Sp} (F : Fun K x qual st f fd) (S : FnScope N ps (defScope st)) (hb : Binds K fd ps [])
    (len : ∀ vs H Q E, sp vs H Q E → vs.length = ps.length)
    (hbody : ∀ (cdv : Value) (A : Around) (outer : List Env) (s : Shared) (H : Hp) (vs : List V) (Q : VK) (E : XK), L2H.RoomH k (A.deeper (envOfC qual (defScope st) s.heap.objs.size f cdv)) → sp vs H Q E →
      ∃ t, PSs (cxM P w K mg base N qual (defScope st) f cdv A outer s H E) (defBody st) t ∧ t { nx := fun _ H' => Q .non H', rt := Q } (start N vs) H) : FnM P w K mg base (k + 1) f sp := by
  obtain ⟨oc, od, kV, doc, pm, an, cdv, ct, osl, rfl, lk, hcd⟩ := F.ex
  intro A outer s H us vs Q E hr e0 r hsp
  have hl := len _ _ _ _ hsp
  have KX : K.In s.heap := e0.mod.kin.keeps fun b o e => (e0.bs b o e).1
  have lim : s.heap.NoLimit := e0.mod.nolimit.keeps fun b o e => (e0.bs b o e).1
  have bt := hb s us KX (by rw [List.append_nil, ← r.length]; exact hl)
  rw [List.append_nil] at bt
  have kinds : ∀ y ∈ ps.zip us, (defScope st).names.lookup y.1 = some .local ∨ ((defScope st).names.lookup y.1 = some .cell ∧ ((cellsFrom (s.heap.objs.size + 1) (defScope st).names []).lookup y.1).isSome = true) := fun y hy =>
    (S.par y.1 (List.of_mem_zip (show (y.1, y.2) ∈ _ from hy)).1).imp_right fun q => ⟨q, PySem.W.cellsFrom_some _ _ _ (.inl q)⟩
  apply codeAny_call_function hr.depth (KX _ _ lk) rfl S.co S.gen rfl (PySem.W.codeRec_of KX hcd)
  refine bt _ _ _ _ (wpAny_newFunctionEnv_cells S.kind kinds fun env he s1 x => ?_)
  subst he
  refine ⟨lim.keeps x.toInCall.keep, codeAny_func ?_⟩
  obtain ⟨t, ht, hq⟩ := hbody cdv A outer s H vs Q E (hr.deeper _) hsp
  -- the body's beginning, as in a calm place
  have I : Inv (cxM P w K mg base N qual (defScope st) f cdv A outer s H E) [] (L2.start N vs) H s1 := by
    have hpl : ps.length ≤ N.length := by have := congrArg List.length S.pre; rw [List.length_take] at this; omega
    obtain ⟨h1, tk, rfl, hk⟩ := x.done
    have noA : ∀ b : Addr, b ∉ (cxM P w K mg base N qual (defScope st) f cdv A outer s H E).ex := fun b z => absurd (show b ∈ ([] : List Addr) from z) (by simp)
    have has : ∀ y, (defScope st).names.lookup y = some .cell ∨ (defScope st).names.lookup y = some .free → ∃ c, (cellsFrom (s.heap.objs.size + 1) (defScope st).names []).lookup y = some c := fun y hy => by
      rcases hy with hy | hy
      · exact cell_has hy
      · exact absurd rfl (S.nofree _ (PySem.mem_of_lookup hy))
    refine ⟨⟨e0.mod, S.kind, rfl, rfl, Nat.le_refl _, fun y z c h1 h2 => name_of_addr x.apart (PySem.mem_of_lookup h1) (PySem.mem_of_lookup h2), fun y hy => has y hy, fun y c _ h => Nat.le_of_lt (x.above y c (PySem.mem_of_lookup h)),
      (fun z => Bool.noConfusion (show false = true from z)), Around.frames_deeper e0.frames, .inr ⟨rfl, rfl⟩, fun b z => absurd z (noA b), e0.bs, e0.bsz, fun b _ _ => noA b, fun b z => absurd z (noA b), e0.funs, e0.frf⟩,
      rfl, e0.bare, Un.kept hk, ⟨_, x.toInCall.ns, fun i y v h1 h2 h3 => ?_⟩, fun y c h => ⟨_, x.cell y c h⟩, e0.hok.fresh (Nat.le_refl _), fun y c h => e0.hok.fresh (Nat.le_of_lt (x.above y c (PySem.mem_of_lookup h))), fun q hq => absurd hq (by simp [cxM, cxOf]), e0.hok.kept hk, ?_⟩
    · have hi : i < vs.length := by
        by_cases hi : i < vs.length
        · exact hi
        · unfold L2.start at h2
          rw [List.getElem?_append_right (by simpa using hi), List.getElem?_replicate] at h2
          split at h2 <;> cases h2
      have ha : vs[i]? = some v := by
        unfold L2.start at h2
        rw [List.getElem?_append_left (by simpa using hi), List.getElem?_map, List.getElem?_eq_getElem hi] at h2
        rw [List.getElem?_eq_getElem hi]
        exact Option.some.inj h2
      obtain ⟨u, hu, rv⟩ := r.get ha
      have hp : ps[i]? = some y := by
        rw [← S.pre, List.getElem?_take_of_lt (by omega)]; exact h1
      have nd : ps.Nodup := by rw [← S.pre]; exact S.nd.sublist (List.take_sublist _ _)
      refine ⟨u, rv, ?_⟩
      rcases S.par y (List.mem_of_getElem? hp) with kd | kd
      · exact .inl ⟨kd, bindL_get nd hp hu kd⟩
      · obtain ⟨c, e⟩ := cell_has (n := s.heap.objs.size + 1) kd
        refine .inr ⟨.inl kd, c, e, ?_⟩
        have q := x.cell y c e
        rwa [bindC_get nd hp hu (by show (defScope st).names.lookup y ≠ _; rw [kd]; decide)] at q
    · show (L2.start N vs).length = N.length
      unfold L2.start
      rw [List.length_append, List.length_map, List.length_replicate]
      omega
  refine wpAny_mono (ht.run [] s1 (L2.start N vs) H _ I hq) (fun fl s' hs => ?_) fun e s' hs => False.elim hs
  have last : ∀ {σ' : L2.St} {H' : Hp} {v : V} {u : Value}, Inv (cxM P w K mg base N qual (defScope st) f cdv A outer s H E) [] σ' H' s' → RelV v u → Q v H' → CE outer P w H s Q u s' := fun J rv q => ⟨_, _, J.os, J.bare, J.base, J.hok, rv, q⟩
  cases fl with
  | ret u => obtain ⟨v, σ', H', J, rv, q⟩ := hs; exact last J rv q
  | next => obtain ⟨σ', H', J, q⟩ := hs; exact last (v := V.non) (u := Value.none) J rfl q
  | brk => obtain ⟨_, _, _, q⟩ := hs; exact q.elim
  | cont => obtain ⟨_, _, _, q⟩ := hs; exact q.elim
section
variable {X : Cx} {k : Nat} {C f : Addr} {sp : Sp} {pins : List (Addr × Obj)} {σ : L2.St} {H : Hp} {s : Shared} {Q : VK}
theorem run_M {us : List Value} {vs : List V} (F : FnM X.prog X.w X.K X.mg X.base k f sp) (hr : L2H.RoomH k X.A) (I : Inv X pins σ H s) (r : Vals vs us) (h : sp vs H Q fun _ _ _ => False) : wpAny (model X.prog X.w) X.A (call (.ref f) us) (EP X pins σ Q) X.xe s := by
  refine wpAny_call (codeAny_mono (F X.A X.stack s H us vs Q _ hr I.env0 r h) fun r s' hq => ?_)
  cases r with
  | error e => exact hq.elim
  | ok fl => cases fl with
    | ret u => exact I.after hq
    | _ => exact False.elim hq
theorem op_inM (hm : Meth X.K C "__contains__" f) (F : FnM X.prog X.w X.K X.mg X.base k f sp) (hr : L2H.RoomH k X.A) : OpR X (compareOp .In) (rInO C sp false) := by
  intro pins s σ H x y v u Q I rx ry h
  obtain ⟨a, dx, fs, rfl, ea, q⟩ := h
  cases ry
  obtain ⟨od, J⟩ := inst_at I ea
  obtain ⟨m, hF⟩ := I.fr
  refine PySem.W.in_K hF I.ok.mod.kin J hm.at_ hm.fn (wpAny_mono (run_M (us := [.ref a, v]) (vs := [.ref a, x]) F hr I (.cons rfl (.cons rx .nil)) q) (fun v s' z => ?_) fun _ _ z => z)
  obtain ⟨w, H', I', rw', b, ew, hq⟩ := z
  subst ew
  cases rw'
  exact wpAny_truthy_bool ⟨.bl b, H', I', rfl, by cases b <;> exact hq⟩
end
end Lk
set_option Elab.async false
set_option linter.all false
set_option maxRecDepth 100000
namespace Lk
open PySem L2
/-! ### plain values, the store of what changes, runs -/
inductive PV where
  | non | bl (b : Bool) | int (i : Int) | str (x : Str) | ty (n : String) | lst (xs : List PV) | tup (xs : List PV) | m (h : Nat) | scr (ns : List Int) | exc (a d : Addr) (ns : List Str) (xs : List PV)
inductive Cell where
  | lst (xs : List PV) | dK (kvs : List (Key × PV)) | dT (kvs : List (List Key × PV)) | ins (C : String) (fs : List (Str × PV))
/-- locked or not, and what stands there -/
abbrev Ar := List (Option (Bool × Cell))
inductive Out (α : Type) where
  | ok (a : α) | ex (c : String) (fs : Option (List (Str × PV)))
def M (α : Type) := Ar → Option (Out α × Ar)
def M.bd {α β : Type} (u : M α) (k : α → M β) : M β := fun A => match u A with
  | none => none
  | some (.ok a, B) => k a B
  | some (.ex c fs, B) => some (.ex c fs, B)
instance : Monad M where
  pure a := fun A => some (.ok a, A)
  bind := M.bd
theorem M.pure_app {α : Type} (a : α) (A : Ar) : (pure a : M α) A = some (.ok a, A) := rfl
theorem M.bind_app {α β : Type} (u : M α) (k : α → M β) (A : Ar) : (u >>= k) A = match u A with
  | none => none
  | some (.ok a, B) => k a B
  | some (.ex c fs, B) => some (.ex c fs, B) := rfl
theorem M.bind_of {α β : Type} {u : M α} {k : α → M β} {A B : Ar} {a : α} (h : u A = some (.ok a, B)) : (u >>= k) A = k a B := by rw [M.bind_app, h]
theorem M.bind_inv {α β : Type} {u : M α} {k : α → M β} {A B : Ar} {o : Out β} (h : (u >>= k) A = some (o, B)) :
    (∃ a A1, u A = some (.ok a, A1) ∧ k a A1 = some (o, B)) ∨ (∃ c fs, u A = some (.ex c fs, B) ∧ o = .ex c fs) := by
  rw [M.bind_app] at h
  split at h
  · cases h
  · rename_i a A1 e; exact .inl ⟨a, A1, e, h⟩
  · rename_i c fs A1 e
    cases h; exact .inr ⟨c, fs, e, rfl⟩
/-- it stops -/
def bad {α : Type} : M α := fun _ => none
theorem bad_app {α : Type} (A : Ar) : (bad : M α) A = none := rfl
/-- a part that may be missing -/
def opt {α : Type} (o : Option α) : M α := fun A => o.map fun a => (.ok a, A)
theorem opt_some {α : Type} (a : α) (A : Ar) : opt (some a) A = some (.ok a, A) := rfl
theorem opt_inv {α : Type} {o : Option α} {A B : Ar} {z : Out α} (h : opt o A = some (z, B)) : ∃ a, o = some a ∧ z = .ok a ∧ B = A := by
  cases o with
  | none => cases h
  | some a => cases h; exact ⟨a, rfl, rfl, rfl⟩
/-- a part that the store tells -/
def ask {α : Type} (f : Ar → Option α) : M α := fun A => (f A).map fun a => (.ok a, A)
theorem ask_of {α : Type} {f : Ar → Option α} {A : Ar} {a : α} (h : f A = some a) : ask f A = some (.ok a, A) := by unfold ask; rw [h]; rfl
theorem ask_inv {α : Type} {f : Ar → Option α} {A B : Ar} {z : Out α} (h : ask f A = some (z, B)) : ∃ a, f A = some a ∧ z = .ok a ∧ B = A := by
  unfold ask at h
  cases e : f A with
  | none => rw [e] at h; cases h
  | some a => rw [e] at h; cases h; exact ⟨a, rfl, rfl, rfl⟩
/-! ### how they stand in the heap -/
structure Gx where
  K : PySem.W.Frag
  cn : String → Option Addr
mutual
inductive Rp (g : Gx) (F : Hp) (ρ : List Addr) : V → PV → Prop
  | non : Rp g F ρ .non .non
  | bl (b : Bool) : Rp g F ρ (.bl b) (.bl b)
  | int (i : Int) : Rp g F ρ (.int i) (.int i)
  | str (x : Str) : Rp g F ρ (.str x) (.str x)
  | ty (n : String) : Rp g F ρ (.ty n) (.ty n)
  | lst {a : Addr} {vs : List V} {xs : List PV} (h : F a = some (.lst vs)) (r : RpL g F ρ vs xs) : Rp g F ρ (.ref a) (.lst xs)
  | tup {a : Addr} {vs : List V} {xs : List PV} (h : F a = some (.tup vs)) (r : RpL g F ρ vs xs) : Rp g F ρ (.ref a) (.tup xs)
  | m {a : Addr} {h : Nat} (e : ρ[h]? = some a) : Rp g F ρ (.ref a) (.m h)
  | scr {a : Addr} {ns : List Int} (h : SqL g.K F a (ns.map V.int)) : Rp g F ρ (.ref a) (.scr ns)
  | exc {a d : Addr} {vs : List (Str × V)} {ns : List Str} {xs : List PV} (h : F d = some (.xd vs)) (e : vs.map (·.1) = ns) (r : RpL g F ρ (vs.map (·.2)) xs) : Rp g F ρ (.ref a) (.exc a d ns xs)
inductive RpL (g : Gx) (F : Hp) (ρ : List Addr) : List V → List PV → Prop
  | nil : RpL g F ρ [] []
  | cons {v : V} {vs : List V} {x : PV} {xs : List PV} (h : Rp g F ρ v x) (r : RpL g F ρ vs xs) : RpL g F ρ (v :: vs) (x :: xs)
end
def Le (F G : Hp) : Prop := ∀ a o, F a = some o → G a = some o
structure Ex (F : Hp) (ρ : List Addr) (F' : Hp) (ρ' : List Addr) : Prop where
  le : Le F F'
  pre : ∀ (i : Nat) (a : Addr), ρ[i]? = some a → ρ'[i]? = some a
theorem _root_.L2.SqL.le {K : PySem.W.Frag} {F G : Hp} {a : Addr} {xs : List V} (h : SqL K F a xs) (k : Le F G) : SqL K G a xs := by
  rcases h with (h | ⟨o, h⟩) | h
  · exact .inl (.inl (k _ _ h))
  · exact .inl (.inr ⟨o, k _ _ h⟩)
  · exact .inr h
theorem Ex.refl (F : Hp) (ρ : List Addr) : Ex F ρ F ρ := ⟨fun _ _ h => h, fun _ _ h => h⟩
theorem Ex.trans {F G J : Hp} {ρ τ υ : List Addr} (a : Ex F ρ G τ) (b : Ex G τ J υ) : Ex F ρ J υ := ⟨fun x o h => b.le x o (a.le x o h), fun i x h => b.pre i x (a.pre i x h)⟩
section
variable {g : Gx} {F G : Hp} {ρ τ : List Addr}
mutual
theorem Rp.mono (k : Ex F ρ G τ) : ∀ {v : V} {x : PV}, Rp g F ρ v x → Rp g G τ v x
  | _, _, .non => .non
  | _, _, .bl b => .bl b
  | _, _, .int i => .int i
  | _, _, .str x => .str x
  | _, _, .ty n => .ty n
  | _, _, .lst h r => .lst (k.le _ _ h) (RpL.mono k r)
  | _, _, .tup h r => .tup (k.le _ _ h) (RpL.mono k r)
  | _, _, .m e => .m (k.pre _ _ e)
  | _, _, .scr h => .scr (h.le k.le)
  | _, _, .exc h e r => .exc (k.le _ _ h) e (RpL.mono k r)
theorem RpL.mono (k : Ex F ρ G τ) : ∀ {vs : List V} {xs : List PV}, RpL g F ρ vs xs → RpL g G τ vs xs
  | _, _, .nil => .nil
  | _, _, .cons h r => .cons (Rp.mono k h) (RpL.mono k r)
end
theorem RpL.length : ∀ {vs : List V} {xs : List PV}, RpL g F ρ vs xs → vs.length = xs.length
  | _, _, .nil => rfl
  | _, _, .cons _ r => by simp [RpL.length r]
theorem RpL.get : ∀ {vs : List V} {xs : List PV} {i : Nat} {x : PV}, RpL g F ρ vs xs → xs[i]? = some x → ∃ v, vs[i]? = some v ∧ Rp g F ρ v x
  | _, _, _, _, .nil, e => by simp at e
  | _, _, 0, _, .cons r _, e => by simp at e; subst e; exact ⟨_, rfl, r⟩
  | _, _, i + 1, x, .cons _ t, e => by
    obtain ⟨v, h1, h2⟩ := RpL.get (i := i) (x := x) t (by simpa using e)
    exact ⟨v, by simpa using h1, h2⟩
theorem RpL.append : ∀ {vs ws : List V} {xs ys : List PV}, RpL g F ρ vs xs → RpL g F ρ ws ys → RpL g F ρ (vs ++ ws) (xs ++ ys)
  | _, _, _, _, .nil, s => s
  | _, _, _, _, .cons r t, s => .cons r (RpL.append t s)
theorem RpL.take : ∀ {vs : List V} {xs : List PV} (n : Nat), RpL g F ρ vs xs → RpL g F ρ (vs.take n) (xs.take n)
  | _, _, 0, _ => .nil
  | _, _, _ + 1, .nil => .nil
  | _, _, n + 1, .cons r t => .cons r (RpL.take n t)
theorem RpL.drop : ∀ {vs : List V} {xs : List PV} (n : Nat), RpL g F ρ vs xs → RpL g F ρ (vs.drop n) (xs.drop n)
  | _, _, 0, r => r
  | _, _, _ + 1, .nil => .nil
  | _, _, n + 1, .cons _ t => RpL.drop n t
theorem RpL.set {v : V} {x : PV} (r : Rp g F ρ v x) : ∀ {vs : List V} {xs : List PV} (i : Nat), RpL g F ρ vs xs → RpL g F ρ (vs.set i v) (xs.set i x)
  | _, _, _, .nil => .nil
  | _, _, 0, .cons _ t => .cons r t
  | _, _, i + 1, .cons q t => .cons q (RpL.set r i t)
theorem RpL.reverse {vs : List V} {xs : List PV} (r : RpL g F ρ vs xs) : RpL g F ρ vs.reverse xs.reverse := by
  induction r using RpL.rec (motive_1 := fun _ _ _ => True) with
  | nil => exact .nil
  | cons h t _ ih => simp only [List.reverse_cons]; exact ih.append (.cons h .nil)
  | _ => trivial
theorem Rp.int_inv {v : V} {i : Int} (r : Rp g F ρ v (.int i)) : v = .int i := by cases r; rfl
theorem Rp.str_inv {v : V} {i : Str} (r : Rp g F ρ v (.str i)) : v = .str i := by cases r; rfl
theorem Rp.bl_inv {v : V} {i : Bool} (r : Rp g F ρ v (.bl i)) : v = .bl i := by cases r; rfl
theorem Rp.non_inv {v : V} (r : Rp g F ρ v .non) : v = .non := by cases r; rfl
theorem RpL.ints {ns : List Int} : RpL g F ρ (ns.map V.int) (ns.map PV.int) := by
  induction ns with
  | nil => exact .nil
  | cons n ns ih => exact .cons (.int n) ih
end
def RpK {κ : Type} (g : Gx) (F : Hp) (ρ : List Addr) (ks : List (κ × V)) (kvs : List (κ × PV)) : Prop := ks.map (·.1) = kvs.map (·.1) ∧ RpL g F ρ (ks.map (·.2)) (kvs.map (·.2))
theorem RpK.mono {κ : Type} {g : Gx} {F G : Hp} {ρ τ : List Addr} {ks : List (κ × V)} {kvs : List (κ × PV)} (h : RpK g F ρ ks kvs) (k : Ex F ρ G τ) : RpK g G τ ks kvs := ⟨h.1, h.2.mono k⟩
def CellR (g : Gx) (F : Hp) (ρ : List Addr) : Cell → HO → Prop
  | .lst xs, o => ∃ vs, o = .lst vs ∧ RpL g F ρ vs xs
  | .dK kvs, o => ∃ ks, o = .dK ks ∧ RpK g F ρ ks kvs
  | .dT kvs, o => ∃ ks, o = .dT ks ∧ RpK g F ρ ks kvs
  | .ins C fs, o => ∃ a dx vs, g.cn C = some a ∧ o = .ins a dx vs ∧ RpK g F ρ vs fs
theorem CellR.mono {g : Gx} {F G : Hp} {ρ τ : List Addr} {c : Cell} {o : HO} (h : CellR g F ρ c o) (k : Ex F ρ G τ) : CellR g G τ c o := by
  cases c with
  | lst xs => obtain ⟨vs, e, r⟩ := h; exact ⟨vs, e, r.mono k⟩
  | dK xs => obtain ⟨vs, e, r⟩ := h; exact ⟨vs, e, r.mono k⟩
  | dT xs => obtain ⟨vs, e, r⟩ := h; exact ⟨vs, e, r.mono k⟩
  | ins C xs => obtain ⟨a, dx, vs, e1, e2, r⟩ := h; exact ⟨a, dx, vs, e1, e2, r.mono k⟩
theorem CellR.mut {g : Gx} {F : Hp} {ρ : List Addr} {c : Cell} {o : HO} (h : CellR g F ρ c o) : Mut (some o) ∧ ∀ z u, o ≠ .frz z u := by
  cases c with
  | lst xs => obtain ⟨vs, rfl, r⟩ := h; exact ⟨trivial, fun _ _ z => nomatch z⟩
  | dK xs => obtain ⟨vs, rfl, r⟩ := h; exact ⟨trivial, fun _ _ z => nomatch z⟩
  | dT xs => obtain ⟨vs, rfl, r⟩ := h; exact ⟨trivial, fun _ _ z => nomatch z⟩
  | ins C xs => obtain ⟨a, dx, vs, e1, rfl, r⟩ := h; exact ⟨trivial, fun _ _ z => nomatch z⟩
/-- what stands as it is: where, what, and whether it may be a locked cell -/
abbrev Lks := List (Addr × HO × Bool)
structure HR (g : Gx) (lk : Lks) (F : Hp) (ρ : List Addr) (A : Ar) (H : Hp) : Prop where
  sub : Le F H
  cell : ∀ (i : Nat) (l : Bool) (c : Cell), A[i]? = some (some (l, c)) → ∃ a o, ρ[i]? = some a ∧ F a = none ∧ CellR g F ρ c o ∧ Rd H a o ∧ (l = false → H a = some o)
  nd : ∀ (i j : Nat) (c d : Bool × Cell) (a : Addr), A[i]? = some (some c) → A[j]? = some (some d) → ρ[i]? = some a → ρ[j]? = some a → i = j
  len : ρ.length = A.length
  lks : ∀ x ∈ lk, H x.1 = some x.2.1 ∧ F x.1 = none
  lkn : ∀ x ∈ lk, ∀ (i : Nat) (c : Bool × Cell), A[i]? = some (some c) → ρ[i]? = some x.1 → c.1 = true ∧ x.2.2 = true
  lck : ∀ (i : Nat) (c : Cell) (a : Addr), A[i]? = some (some (true, c)) → ρ[i]? = some a → ∃ od u, (a, .frz od u, true) ∈ lk
  lkt : ∀ x ∈ lk, ∀ vs, x.2.1 ≠ .tup vs
structure SR (g : Gx) (F : Hp) (ρ : List Addr) (ε : List (Option PV)) (σ : St) : Prop where
  len : ε.length ≤ σ.length
  at_ : ∀ (i : Nat) (v : PV), ε[i]? = some (some v) → ∃ x, σ[i]? = some (some x) ∧ Rp g F ρ x v
section
variable {g : Gx} {lk : Lks} {F G : Hp} {ρ τ : List Addr} {A : Ar} {H H' : Hp} {ε : List (Option PV)} {σ : St} {p : Addr} {o : HO}
theorem SR.mono (s : SR g F ρ ε σ) (k : Ex F ρ G τ) : SR g G τ ε σ := ⟨s.len, fun i v e => let ⟨x, h, r⟩ := s.at_ i v e; ⟨x, h, r.mono k⟩⟩
theorem SR.set (s : SR g F ρ ε σ) (i : Nat) {x : V} {v : PV} (r : Rp g F ρ x v) : SR g F ρ (ε.set i (some v)) (σ.set i (some x)) := by
  refine ⟨by simp [s.len], fun j w e => ?_⟩
  by_cases h : i = j
  · subst h
    have hl : i < ε.length := by
      rcases Nat.lt_or_ge i ε.length with z | z
      · exact z
      · rw [List.getElem?_eq_none (by simpa using z)] at e; cases e
    rw [List.getElem?_set_self hl] at e
    cases e
    exact ⟨x, List.getElem?_set_self (Nat.lt_of_lt_of_le hl s.len), r⟩
  · rw [List.getElem?_set_ne h] at e ⊢
    exact s.at_ j w e
/-- fewer names are told -/
def Sub (ε δ : List (Option PV)) : Prop := δ.length ≤ ε.length ∧ ∀ (i : Nat) (v : PV), δ[i]? = some (some v) → ε[i]? = some (some v)
theorem SR.sub {δ : List (Option PV)} (s : SR g F ρ ε σ) (h : Sub ε δ) : SR g F ρ δ σ := ⟨Nat.le_trans h.1 s.len, fun i v e => s.at_ i v (h.2 i v e)⟩
/-- a new thing that is left as it is -/
theorem HR.frozen (h : HR g lk F ρ A H) {p : Addr} {o : HO} (hp : H p = none) : HR g lk (upd F p o) ρ A (upd H p o) ∧ Ex F ρ (upd F p o) ρ := by
  have hF : F p = none := by
    cases e : F p with
    | none => rfl
    | some u => have q := h.sub p u e; rw [hp] at q; cases q
  have k : Ex F ρ (upd F p o) ρ := ⟨fun a u e => by rw [upd_ne (by rintro rfl; rw [hF] at e; cases e)]; exact e, fun _ _ e => e⟩
  have rd : ∀ {a : Addr} {u : HO}, Rd H a u → Rd (upd H p o) a u ∧ a ≠ p := fun {a u} q => by
    have ne : a ≠ p := by
      rintro rfl
      rcases q with q | ⟨_, q⟩
      · rw [hp] at q; cases q
      · rw [hp] at q; cases q
    refine ⟨?_, ne⟩
    unfold Rd; rw [upd_ne ne]; exact q
  refine ⟨⟨fun a u e => ?_, fun i l c e => ?_, h.nd, h.len, fun x hx => ?_, h.lkn, h.lck, h.lkt⟩, k⟩
  · by_cases z : a = p
    · subst z; rw [upd_same] at e; cases e; exact upd_same
    · rw [upd_ne z] at e ⊢; exact h.sub a u e
  · obtain ⟨a, u, e1, e2, e3, e4, e5⟩ := h.cell i l c e
    obtain ⟨r, ne⟩ := rd e4
    exact ⟨a, u, e1, by rw [upd_ne ne]; exact e2, e3.mono k, r, fun q => by rw [upd_ne ne]; exact e5 q⟩
  · have := h.lks x hx
    have ne := ne_of_none this.1 hp
    rw [upd_ne ne, upd_ne ne]; exact this
/-- a new thing that may change -/
theorem HR.cells (h : HR g lk F ρ A H) {p : Addr} {o : HO} {c : Cell} (hp : H p = none) (r : CellR g F ρ c o) : HR g lk F (ρ ++ [p]) (A ++ [some (false, c)]) (upd H p o) ∧ Ex F ρ F (ρ ++ [p]) := by
  have hF : F p = none := by
    cases e : F p with
    | none => rfl
    | some u => have q := h.sub p u e; rw [hp] at q; cases q
  have k : Ex F ρ F (ρ ++ [p]) := ⟨fun _ _ e => e, fun i a e => by
    have hl : i < ρ.length := by
      rcases Nat.lt_or_ge i ρ.length with z | z
      · exact z
      · rw [List.getElem?_eq_none z] at e; cases e
    rw [List.getElem?_append_left hl]; exact e⟩
  have rd : ∀ {a : Addr} {u : HO}, Rd H a u → Rd (upd H p o) a u ∧ a ≠ p := fun {a u} q => by
    have ne : a ≠ p := by
      rintro rfl
      rcases q with q | ⟨_, q⟩
      · rw [hp] at q; cases q
      · rw [hp] at q; cases q
    refine ⟨?_, ne⟩
    unfold Rd; rw [upd_ne ne]; exact q
  have old : ∀ {i : Nat} {x : Bool × Cell}, A[i]? = some (some x) → i < ρ.length := fun {i x} e => by
    rw [h.len]
    rcases Nat.lt_or_ge i A.length with z | z
    · exact z
    · rw [List.getElem?_eq_none z] at e; cases e
  have at_ : ∀ {i : Nat} {x : Bool × Cell}, (A ++ [some (false, c)])[i]? = some (some x) → A[i]? = some (some x) ∨ (i = A.length ∧ x = (false, c)) := fun {i x} e => by
    rcases Nat.lt_trichotomy i A.length with z | z | z
    · rw [List.getElem?_append_left z] at e; exact .inl e
    · subst z; simp at e; exact .inr ⟨rfl, e.symm⟩
    · rw [List.getElem?_eq_none (by simp; omega)] at e; cases e
  have live : ∀ {i : Nat} {x : Bool × Cell} {a : Addr}, A[i]? = some (some x) → (ρ ++ [p])[i]? = some a → ρ[i]? = some a ∧ a ≠ p := fun {i x a} e ea => by
    rw [List.getElem?_append_left (old e)] at ea
    obtain ⟨b, u, e1, e2, e3, e4, e5⟩ := h.cell i x.1 x.2 e
    rw [ea] at e1; cases e1
    exact ⟨ea, (rd e4).2⟩
  refine ⟨⟨fun a u e => ?_, fun i l c' e => ?_, fun i j x y a ei ej ai aj => ?_, by simp [h.len], fun x hx => ?_, fun x hx i c' e ea => ?_, fun i c' a e ea => ?_, h.lkt⟩, k⟩
  · rw [upd_ne (ne_of_none (h.sub a u e) hp)]; exact h.sub a u e
  · rcases at_ e with e | ⟨hi, e⟩
    · obtain ⟨a, u, e1, e2, e3, e4, e5⟩ := h.cell i l c' e
      obtain ⟨r', ne⟩ := rd e4
      exact ⟨a, u, k.pre _ _ e1, e2, e3.mono k, r', fun q => by rw [upd_ne ne]; exact e5 q⟩
    · injection e with e1 e2; subst e2
      exact ⟨p, o, by rw [hi, ← h.len]; simp, hF, r.mono k, .inl upd_same, fun _ => upd_same⟩
  · rcases at_ ei with ei' | ⟨rfl, rfl⟩
    · rcases at_ ej with ej' | ⟨rfl, rfl⟩
      · exact h.nd i j x y a ei' ej' (live ei' ai).1 (live ej' aj).1
      · have := (live ei' ai).2
        rw [← h.len] at aj; simp at aj; exact absurd aj.symm this
    · rcases at_ ej with ej' | ⟨rfl, rfl⟩
      · have := (live ej' aj).2
        rw [← h.len] at ai; simp at ai; exact absurd ai.symm this
      · rfl
  · have := h.lks x hx
    rw [upd_ne (ne_of_none this.1 hp)]; exact this
  · rcases at_ e with e' | ⟨rfl, rfl⟩
    · exact h.lkn x hx i c' e' (live e' ea).1
    · rw [← h.len] at ea; simp at ea
      exact absurd ea.symm (ne_of_none (h.lks x hx).1 hp)
  · rcases at_ e with e' | ⟨_, z⟩
    · exact h.lck i c' a e' (live e' ea).1
    · cases z
/-- a cell is changed -/
theorem HR.write (h : HR g lk F ρ A H) {i : Nat} {c c' : Cell} {a : Addr} {o : HO} (e : A[i]? = some (some (false, c))) (ea : ρ[i]? = some a) (r : CellR g F ρ c' o) : HR g lk F ρ (A.set i (some (false, c'))) (upd H a o) := by
  obtain ⟨b, u, e1, e2, e3, e4, e5⟩ := h.cell i false c e
  rw [ea] at e1; cases e1
  have hl : i < A.length := by
    rcases Nat.lt_or_ge i A.length with z | z
    · exact z
    · rw [List.getElem?_eq_none z] at e; cases e
  refine ⟨fun b u q => ?_, fun j l c2 q => ?_, fun j k x y b ej ek bj bk => ?_, by simp [h.len], fun x hx => ?_, fun x hx j c2 q qa => ?_, fun j c2 b q qb => ?_, h.lkt⟩
  · have ne : b ≠ a := by rintro rfl; rw [e2] at q; cases q
    rw [upd_ne ne]; exact h.sub b u q
  · by_cases z : i = j
    · subst z
      rw [List.getElem?_set_self hl] at q; cases q
      exact ⟨a, o, ea, e2, r, .inl upd_same, fun _ => upd_same⟩
    · rw [List.getElem?_set_ne z] at q
      obtain ⟨b, v, f1, f2, f3, f4, f5⟩ := h.cell j l c2 q
      have ne : b ≠ a := by rintro rfl; exact z (h.nd i j _ _ b e q ea f1)
      exact ⟨b, v, f1, f2, f3, by unfold Rd at f4 ⊢; rw [upd_ne ne]; exact f4, fun w => by rw [upd_ne ne]; exact f5 w⟩
  · have w : ∀ {j : Nat} {x : Bool × Cell}, (A.set i (some (false, c')))[j]? = some (some x) → ∃ x', A[j]? = some (some x') := fun {j x} q => by
      by_cases z : i = j
      · subst z; exact ⟨_, e⟩
      · rw [List.getElem?_set_ne z] at q; exact ⟨_, q⟩
    obtain ⟨x', ex⟩ := w ej
    obtain ⟨y', ey⟩ := w ek
    exact h.nd j k x' y' b ex ey bj bk
  · have q := h.lks x hx
    have ne : x.1 ≠ a := by
      intro z
      have := (h.lkn x hx i _ e (by rw [z]; exact ea)).1
      cases this
    rw [upd_ne ne]; exact q
  · by_cases z : i = j
    · subst z
      rw [List.getElem?_set_self hl] at q; cases q
      have := (h.lkn x hx i _ e qa).1
      cases this
    · rw [List.getElem?_set_ne z] at q
      exact h.lkn x hx j c2 q qa
  · by_cases z : i = j
    · subst z
      rw [List.getElem?_set_self hl] at q; cases q
    · rw [List.getElem?_set_ne z] at q
      exact h.lck j c2 b q qb
/-- a cell is left as it is from now on -/
theorem HR.freeze (h : HR g lk F ρ A H) {i : Nat} {c : Cell} {a : Addr} (e : A[i]? = some (some (false, c))) (ea : ρ[i]? = some a) : ∃ o, H a = some o ∧ CellR g F ρ c o ∧ HR g lk (upd F a o) ρ (A.set i none) H ∧ Ex F ρ (upd F a o) ρ := by
  obtain ⟨b, u, e1, e2, e3, e4, e5⟩ := h.cell i false c e
  rw [ea] at e1; cases e1
  have k : Ex F ρ (upd F a u) ρ := ⟨fun b w q => by rw [upd_ne (by rintro rfl; rw [e2] at q; cases q)]; exact q, fun _ _ q => q⟩
  refine ⟨u, e5 rfl, e3, ⟨fun b w q => ?_, fun j l c2 q => ?_, fun j k x y b ej ek bj bk => ?_, by simp [h.len], fun x hx => ?_, fun x hx j c2 q qa => ?_, fun j c2 b q qb => ?_, h.lkt⟩, k⟩
  · by_cases z : b = a
    · subst z; rw [upd_same] at q; cases q; exact e5 rfl
    · rw [upd_ne z] at q; exact h.sub b w q
  · have z : i ≠ j := by
      rintro rfl
      rcases Nat.lt_or_ge i A.length with z | z
      · rw [List.getElem?_set_self z] at q; cases q
      · rw [List.getElem?_eq_none z] at e; cases e
    rw [List.getElem?_set_ne z] at q
    obtain ⟨b, v, f1, f2, f3, f4, f5⟩ := h.cell j l c2 q
    have ne : b ≠ a := by rintro rfl; exact z (h.nd i j _ _ b e q ea f1)
    exact ⟨b, v, f1, by rw [upd_ne ne]; exact f2, f3.mono k, f4, f5⟩
  · have w : ∀ {j : Nat} {x : Bool × Cell}, (A.set i none)[j]? = some (some x) → A[j]? = some (some x) := fun {j x} q => by
      by_cases z : i = j
      · subst z
        rcases Nat.lt_or_ge i A.length with z | z
        · rw [List.getElem?_set_self z] at q; cases q
        · rw [List.getElem?_eq_none (by simpa using z)] at q; cases q
      · rw [List.getElem?_set_ne z] at q; exact q
    exact h.nd j k x y b (w ej) (w ek) bj bk
  · have q := h.lks x hx
    have ne : x.1 ≠ a := by
      intro z
      have := (h.lkn x hx i _ e (by rw [z]; exact ea)).1
      cases this
    exact ⟨q.1, by rw [upd_ne ne]; exact q.2⟩
  · by_cases z : i = j
    · subst z
      rcases Nat.lt_or_ge i A.length with z | z
      · rw [List.getElem?_set_self z] at q; cases q
      · rw [List.getElem?_eq_none (by simpa using z)] at q; cases q
    · rw [List.getElem?_set_ne z] at q
      exact h.lkn x hx j c2 q qa
  · by_cases z : i = j
    · subst z
      rcases Nat.lt_or_ge i A.length with z | z
      · rw [List.getElem?_set_self z] at q; cases q
      · rw [List.getElem?_eq_none (by simpa using z)] at q; cases q
    · rw [List.getElem?_set_ne z] at q
      exact h.lck j c2 b q qb
/-- a new thing aside -/
theorem HR.aside (h : HR g lk F ρ A H) {p : Addr} {o : HO} (hp : H p = none) (ht : ∀ vs, o ≠ .tup vs := by intro _ z; cases z) : HR g ((p, o, false) :: lk) F ρ A (upd H p o) := by
  have hF : F p = none := by
    cases e : F p with
    | none => rfl
    | some u => have q := h.sub p u e; rw [hp] at q; cases q
  have rd : ∀ {a : Addr} {u : HO}, Rd H a u → a ≠ p := fun {a u} q => by
    rintro rfl
    rcases q with q | ⟨_, q⟩
    · rw [hp] at q; cases q
    · rw [hp] at q; cases q
  refine ⟨fun a u e => ?_, fun i l c e => ?_, h.nd, h.len, fun x hx => ?_, fun x hx i c e ea => ?_, fun i c a e ea => let ⟨od, u, m⟩ := h.lck i c a e ea; ⟨od, u, List.mem_cons_of_mem _ m⟩, fun x hx => (List.mem_cons.mp hx).elim (fun z => by rw [z]; exact ht) (h.lkt x)⟩
  · rw [upd_ne (ne_of_none (h.sub a u e) hp)]; exact h.sub a u e
  · obtain ⟨a, u, e1, e2, e3, e4, e5⟩ := h.cell i l c e
    have ne := rd e4
    exact ⟨a, u, e1, e2, e3, by unfold Rd at e4 ⊢; rw [upd_ne ne]; exact e4, fun q => by rw [upd_ne ne]; exact e5 q⟩
  · rcases List.mem_cons.mp hx with rfl | hx
    · exact ⟨upd_same, hF⟩
    · have := h.lks x hx
      rw [upd_ne (ne_of_none this.1 hp)]; exact this
  · rcases List.mem_cons.mp hx with rfl | hx
    · obtain ⟨b, u, e1, e2, e3, e4, e5⟩ := h.cell i c.1 c.2 e
      rw [ea] at e1; cases e1
      exact absurd rfl (rd e4)
    · exact h.lkn x hx i c e ea
/-- what was tracked stands -/
theorem HR.kp0 (h : HR g lk F ρ A H) (k : Kp [] H H') : HR g lk F ρ A H' :=
  ⟨fun a o e => k.at0 (h.sub a o e), fun i l c e => let ⟨a, o, e1, e2, e3, e4, e5⟩ := h.cell i l c e; ⟨a, o, e1, e2, e3, e4.elim (fun z => .inl (k.at0 z)) (fun ⟨ob, z⟩ => .inr ⟨ob, k.at0 z⟩), fun q => k.at0 (e5 q)⟩, h.nd, h.len, fun x hx => ⟨k.at0 (h.lks x hx).1, (h.lks x hx).2⟩, h.lkn, h.lck, h.lkt⟩
/-- and a new thing stands, left as it is -/
theorem HR.kpnew (h : HR g lk F ρ A H) (k : Kp [] H H') (hp : H p = none) (e : H' p = some o) : HR g lk (upd F p o) ρ A H' ∧ Ex F ρ (upd F p o) ρ := by
  obtain ⟨h1, k1⟩ := h.frozen (o := o) hp
  exact ⟨h1.kp0 fun b u q => .inl ⟨by simp, by
    by_cases z : b = p
    · subst z; rw [upd_same] at q; cases q; exact e
    · rw [upd_ne z] at q; exact k.at0 q⟩, k1⟩
/-- it is changed -/
theorem HR.aside_set (h : HR g ((p, o, false) :: lk) F ρ A H) (o' : HO) (hlk : ∀ x ∈ lk, x.1 ≠ p) (ht : ∀ vs, o' ≠ .tup vs := by intro _ z; cases z) : HR g ((p, o', false) :: lk) F ρ A (upd H p o') := by
  have hF := (h.lks _ List.mem_cons_self).2
  have hc : ∀ {i : Nat} {c : Bool × Cell} {a : Addr}, A[i]? = some (some c) → ρ[i]? = some a → a ≠ p := fun {i c a} e ea z => by
    have := (h.lkn _ List.mem_cons_self i c e (by rw [ea, z])).2
    cases this
  refine ⟨fun a u e => ?_, fun i l c e => ?_, h.nd, h.len, fun x hx => ?_, fun x hx i c e ea => ?_, fun i c a e ea => let ⟨od, u, m⟩ := h.lck i c a e ea; ⟨od, u, (List.mem_cons.mp m).elim (fun z => by cases z) (List.mem_cons_of_mem _)⟩, fun x hx => (List.mem_cons.mp hx).elim (fun z => by rw [z]; exact ht) (fun m => h.lkt x (List.mem_cons_of_mem _ m))⟩
  · have ne : a ≠ p := by rintro rfl; rw [hF] at e; cases e
    rw [upd_ne ne]; exact h.sub a u e
  · obtain ⟨a, u, e1, e2, e3, e4, e5⟩ := h.cell i l c e
    have ne := hc e e1
    exact ⟨a, u, e1, e2, e3, by unfold Rd at e4 ⊢; rw [upd_ne ne]; exact e4, fun q => by rw [upd_ne ne]; exact e5 q⟩
  · rcases List.mem_cons.mp hx with rfl | hx
    · exact ⟨upd_same, hF⟩
    · rw [upd_ne (hlk x hx)]; exact h.lks x (List.mem_cons_of_mem _ hx)
  · rcases List.mem_cons.mp hx with rfl | hx
    · exact h.lkn _ List.mem_cons_self i c e ea
    · exact h.lkn x (List.mem_cons_of_mem _ hx) i c e ea
/-- it is done, and left as it is -/
theorem HR.aside_end (h : HR g ((p, o, false) :: lk) F ρ A H) (hlk : ∀ x ∈ lk, x.1 ≠ p) : HR g lk (upd F p o) ρ A H ∧ Ex F ρ (upd F p o) ρ := by
  obtain ⟨hH, hF⟩ := h.lks _ List.mem_cons_self
  have k : Ex F ρ (upd F p o) ρ := ⟨fun b w q => by rw [upd_ne (by rintro rfl; rw [hF] at q; cases q)]; exact q, fun _ _ q => q⟩
  have hc : ∀ {i : Nat} {c : Bool × Cell} {a : Addr}, A[i]? = some (some c) → ρ[i]? = some a → a ≠ p := fun {i c a} e ea z => by
    have := (h.lkn _ List.mem_cons_self i c e (by rw [ea, z])).2
    cases this
  refine ⟨⟨fun b w q => ?_, fun i l c e => ?_, h.nd, h.len, fun x hx => ?_, fun x hx => h.lkn x (List.mem_cons_of_mem _ hx), fun i c a e ea => let ⟨od, u, m⟩ := h.lck i c a e ea; ⟨od, u, (List.mem_cons.mp m).elim (fun z => by cases z) id⟩, fun x hx => h.lkt x (List.mem_cons_of_mem _ hx)⟩, k⟩
  · by_cases z : b = p
    · subst z; rw [upd_same] at q; cases q; exact hH
    · rw [upd_ne z] at q; exact h.sub b w q
  · obtain ⟨a, u, e1, e2, e3, e4, e5⟩ := h.cell i l c e
    exact ⟨a, u, e1, by rw [upd_ne (hc e e1)]; exact e2, e3.mono k, e4, e5⟩
  · have q := h.lks x (List.mem_cons_of_mem _ hx)
    exact ⟨q.1, by rw [upd_ne (hlk x hx)]; exact q.2⟩
end
/-! ### what an expression, a test, a list of arguments does -/
def ExR (g : Gx) (F : Hp) (ρ : List Addr) (c : String) (fs : Option (List (Str × PV))) (cls : Value) (d : Option Addr) : Prop :=
  ∃ C, g.cn c = some C ∧ cls = .ref C ∧ match fs with
    | none => d = none
    | some l => ∃ dd vs, d = some dd ∧ F dd = some (.xd vs) ∧ RpK g F ρ vs l
def EndE (g : Gx) (W : WX) (σ : St) (Q : VK) (F : Hp) (ρ : List Addr) (H : Hp) : Out PV → Prop
  | .ok v => ∀ x, Rp g F ρ x v → Q x H
  | .ex c fs => ∀ cls d, ExR g F ρ c fs cls d → W cls d σ H
def EndT (g : Gx) (W : WX) (σ : St) (Q : Bool → Hp → Prop) (F : Hp) (ρ : List Addr) (H : Hp) : Out Bool → Prop
  | .ok v => Q v H
  | .ex c fs => ∀ cls d, ExR g F ρ c fs cls d → W cls d σ H
def EndA (g : Gx) (W : WX) (σ : St) (Q : List V → Hp → Prop) (F : Hp) (ρ : List Addr) (H : Hp) : Out (List PV) → Prop
  | .ok v => ∀ x, RpL g F ρ x v → Q x H
  | .ex c fs => ∀ cls d, ExR g F ρ c fs cls d → W cls d σ H
def SimE (g : Gx) (W : WX) (ε : List (Option PV)) (t : TE) (u : M PV) : Prop :=
  ∀ lk F ρ A σ H Q, HR g lk F ρ A H → SR g F ρ ε σ → ∀ o A', u A = some (o, A') → (∀ F' ρ' H', Ex F ρ F' ρ' → HR g lk F' ρ' A' H' → EndE g W σ Q F' ρ' H' o) → t σ H Q
def SimT (g : Gx) (W : WX) (ε : List (Option PV)) (t : TT) (u : M Bool) : Prop :=
  ∀ lk F ρ A σ H Q, HR g lk F ρ A H → SR g F ρ ε σ → ∀ o A', u A = some (o, A') → (∀ F' ρ' H', Ex F ρ F' ρ' → HR g lk F' ρ' A' H' → EndT g W σ Q F' ρ' H' o) → t σ H Q
def SimA (g : Gx) (W : WX) (ε : List (Option PV)) (t : TA) (u : M (List PV)) : Prop :=
  ∀ lk F ρ A σ H Q, HR g lk F ρ A H → SR g F ρ ε σ → ∀ o A', u A = some (o, A') → (∀ F' ρ' H', Ex F ρ F' ρ' → HR g lk F' ρ' A' H' → EndA g W σ Q F' ρ' H' o) → t σ H Q
def XE (g : Gx) (X : Cx) (W : WX) (ε : List (Option PV)) (e : Expr) (u : M PV) : Prop := ∃ t, PE X e t ∧ SimE g W ε t u
def XT (g : Gx) (X : Cx) (W : WX) (ε : List (Option PV)) (e : Expr) (u : M Bool) : Prop := ∃ t, PT X e t ∧ SimT g W ε t u
def XW (g : Gx) (X : Cx) (W : WX) (ε : List (Option PV)) (e : Expr) (u : M Bool) : Prop := ∃ t, PW X e t ∧ SimT g W ε t u
def XA (g : Gx) (X : Cx) (W : WX) (ε : List (Option PV)) (es : List Expr) (u : M (List PV)) : Prop := ∃ t, PA X es t ∧ SimA g W ε t u
/-- what is wanted where the run ends in an exception -/
def PX {α : Type} (g : Gx) (lk : Lks) (W : WX) (σ : St) (F : Hp) (ρ : List Addr) (A' : Ar) (o : Out α) : Prop :=
  ∀ c fs, o = .ex c fs → ∀ F' ρ' H', Ex F ρ F' ρ' → HR g lk F' ρ' A' H' → ∀ cls d, ExR g F' ρ' c fs cls d → W cls d σ H'
section
variable {g : Gx} {X : Cx} {W : WX} {ε : List (Option PV)} {a b e : Expr} {es : List Expr} {ua ub : M PV} {pos : Pos} {lk : Lks} {F G : Hp} {ρ τ : List Addr} {A A' : Ar} {σ : St} {H : Hp}
theorem PX.mono {α : Type} {o : Out α} (p : PX g lk W σ F ρ A' o) (k : Ex F ρ G τ) : PX g lk W σ G τ A' o := fun c fs h F' ρ' H' k' hh => p c fs h F' ρ' H' (k.trans k') hh
theorem PX.of_e {o : Out PV} {Q : VK} (post : ∀ F' ρ' H', Ex F ρ F' ρ' → HR g lk F' ρ' A' H' → EndE g W σ Q F' ρ' H' o) : PX g lk W σ F ρ A' o := fun c fs h F' ρ' H' k hh => by
  have := post F' ρ' H' k hh; subst h; exact this
theorem PX.of_t {o : Out Bool} {Q : Bool → Hp → Prop} (post : ∀ F' ρ' H', Ex F ρ F' ρ' → HR g lk F' ρ' A' H' → EndT g W σ Q F' ρ' H' o) : PX g lk W σ F ρ A' o := fun c fs h F' ρ' H' k hh => by
  have := post F' ρ' H' k hh; subst h; exact this
theorem PX.of_a {o : Out (List PV)} {Q : List V → Hp → Prop} (post : ∀ F' ρ' H', Ex F ρ F' ρ' → HR g lk F' ρ' A' H' → EndA g W σ Q F' ρ' H' o) : PX g lk W σ F ρ A' o := fun c fs h F' ρ' H' k hh => by
  have := post F' ρ' H' k hh; subst h; exact this
theorem SimE.step {β : Type} {t : TE} {u : M PV} {k : PV → M β} {o : Out β} {Q : VK} (ha : SimE g W ε t u) (hh : HR g lk F ρ A H) (s : SR g F ρ ε σ) (e : (u >>= k) A = some (o, A')) (px : PX g lk W σ F ρ A' o)
    (nx : ∀ F' ρ' A1 H' v x, Ex F ρ F' ρ' → HR g lk F' ρ' A1 H' → Rp g F' ρ' x v → k v A1 = some (o, A') → Q x H') : t σ H Q := by
  rcases M.bind_inv e with ⟨v, A1, e1, e2⟩ | ⟨c, fs, e1, rfl⟩
  · exact ha lk F ρ A σ H _ hh s _ A1 e1 fun F1 ρ1 H1 k1 h1 x rx => nx F1 ρ1 A1 H1 v x k1 h1 rx e2
  · exact ha lk F ρ A σ H _ hh s _ A' e1 fun F1 ρ1 H1 k1 h1 => px c fs rfl F1 ρ1 H1 k1 h1
theorem SimT.step {β : Type} {t : TT} {u : M Bool} {k : Bool → M β} {o : Out β} {Q : Bool → Hp → Prop} (ha : SimT g W ε t u) (hh : HR g lk F ρ A H) (s : SR g F ρ ε σ) (e : (u >>= k) A = some (o, A')) (px : PX g lk W σ F ρ A' o)
    (nx : ∀ F' ρ' A1 H' v, Ex F ρ F' ρ' → HR g lk F' ρ' A1 H' → k v A1 = some (o, A') → Q v H') : t σ H Q := by
  rcases M.bind_inv e with ⟨v, A1, e1, e2⟩ | ⟨c, fs, e1, rfl⟩
  · exact ha lk F ρ A σ H _ hh s _ A1 e1 fun F1 ρ1 H1 k1 h1 => nx F1 ρ1 A1 H1 v k1 h1 e2
  · exact ha lk F ρ A σ H _ hh s _ A' e1 fun F1 ρ1 H1 k1 h1 => px c fs rfl F1 ρ1 H1 k1 h1
theorem SimA.step {β : Type} {t : TA} {u : M (List PV)} {k : List PV → M β} {o : Out β} {Q : List V → Hp → Prop} (ha : SimA g W ε t u) (hh : HR g lk F ρ A H) (s : SR g F ρ ε σ) (e : (u >>= k) A = some (o, A')) (px : PX g lk W σ F ρ A' o)
    (nx : ∀ F' ρ' A1 H' v x, Ex F ρ F' ρ' → HR g lk F' ρ' A1 H' → RpL g F' ρ' x v → k v A1 = some (o, A') → Q x H') : t σ H Q := by
  rcases M.bind_inv e with ⟨v, A1, e1, e2⟩ | ⟨c, fs, e1, rfl⟩
  · exact ha lk F ρ A σ H _ hh s _ A1 e1 fun F1 ρ1 H1 k1 h1 x rx => nx F1 ρ1 A1 H1 v x k1 h1 rx e2
  · exact ha lk F ρ A σ H _ hh s _ A' e1 fun F1 ρ1 H1 k1 h1 => px c fs rfl F1 ρ1 H1 k1 h1
/-- the end of a run that is left as it is -/
theorem EndE.ok {o : Out PV} {v : PV} {x : V} {Q : VK} (post : ∀ F' ρ' H', Ex F ρ F' ρ' → HR g lk F' ρ' A' H' → EndE g W σ Q F' ρ' H' o) (eo : o = .ok v) (hh : HR g lk F ρ A' H) (r : Rp g F ρ x v) : Q x H := by
  have := post F ρ H (.refl F ρ) hh; subst eo; exact this x r
theorem EndE.okX {o : Out PV} {v : PV} {x : V} {Q : VK} (post : ∀ F' ρ' H', Ex F ρ F' ρ' → HR g lk F' ρ' A' H' → EndE g W σ Q F' ρ' H' o) (eo : o = .ok v) {H' : Hp} (k : Ex F ρ G τ) (hh : HR g lk G τ A' H') (r : Rp g G τ x v) : Q x H' := by
  have := post G τ H' k hh; subst eo; exact this x r
theorem EndT.ok {o : Out Bool} {v : Bool} {Q : Bool → Hp → Prop} (post : ∀ F' ρ' H', Ex F ρ F' ρ' → HR g lk F' ρ' A' H' → EndT g W σ Q F' ρ' H' o) (eo : o = .ok v) {H' : Hp} (k : Ex F ρ G τ) (hh : HR g lk G τ A' H') : Q v H' := by
  have := post G τ H' k hh; subst eo; exact this
theorem x_var {x : Str} (i : Nat) {v : PV} (h : PE X (.Name x pos) (tVar i)) (hv : ε[i]? = some (some v) := by rfl) : XE g X W ε (.Name x pos) (pure v) :=
  ⟨_, h, fun lk F ρ A σ H Q hh s o A' e post => by
    cases e
    obtain ⟨y, hy, r⟩ := s.at_ i v hv
    exact ⟨y, hy, EndE.ok post rfl hh r⟩⟩
theorem x_const {v : V} {x : PV} (h : PE X e (tC v)) (r : ∀ F ρ, Rp g F ρ v x) : XE g X W ε e (pure x) :=
  ⟨_, h, fun lk F ρ A σ H Q hh s o A' e post => by
    cases e
    exact EndE.ok post rfl hh (r F ρ)⟩
/-- an operator by values that leaves the store as it is -/
def V2 (g : Gx) (r : R2) (f : Ar → PV → PV → Option PV) : Prop := ∀ lk F ρ A H x y v w z (Q : VK), HR g lk F ρ A H → Rp g F ρ x v → Rp g F ρ y w → f A v w = some z →
  (∀ F' H', Ex F ρ F' ρ → HR g lk F' ρ A H' → ∀ q, Rp g F' ρ q z → Q q H') → r x y H Q
def u2 (f : Ar → PV → PV → Option PV) (ua ub : M PV) : M PV := ua >>= fun v => ub >>= fun w => ask fun A => f A v w
theorem x_op2 {r : R2} {f : Ar → PV → PV → Option PV} {ta tb : TE} (hr : V2 g r f) (ha : SimE g W ε ta ua) (hb : SimE g W ε tb ub) : SimE g W ε (tOp r ta tb) (u2 f ua ub) :=
  fun lk F ρ A σ H Q hh s o A' e post =>
    ha.step hh s e (.of_e post) fun F1 ρ1 A1 H1 v x k1 h1 rx e2 =>
      hb.step h1 (s.mono k1) e2 ((PX.of_e post).mono k1) fun F2 ρ2 A2 H2 w y k2 h2 ry e4 => by
        obtain ⟨z, ez, rfl, rfl⟩ := ask_inv e4
        exact hr lk F2 ρ2 _ H2 x y v w z Q h2 (rx.mono k2) ry ez fun F' H' k h => post F' ρ2 H' ((k1.trans k2).trans k) h
theorem x_op {op : Operator} {r : R2} {f : Ar → PV → PV → Option PV} (ho : OpR X (binaryOp op) r) (hr : V2 g r f) (ha : XE g X W ε a ua) (hb : XE g X W ε b ub) : XE g X W ε (.BinOp a op b pos) (u2 f ua ub) :=
  let ⟨_, p, s⟩ := ha; let ⟨_, q, t⟩ := hb; ⟨_, pe_op ho p q, x_op2 hr s t⟩
theorem x_ix {r : R2} {f : Ar → PV → PV → Option PV} (ho : IxR X r) (hr : V2 g r f) (ha : XE g X W ε a ua) (hb : XE g X W ε b ub) (hs : PlainIx b) : XE g X W ε (.Subscript a b pos) (u2 f ua ub) :=
  let ⟨_, p, s⟩ := ha; let ⟨_, q, t⟩ := hb; ⟨_, pe_ix ho p q hs, x_op2 hr s t⟩
end
end Lk
set_option Elab.async false
set_option linter.all false
set_option maxRecDepth 100000
set_option maxHeartbeats 4000000
namespace Lk
open PySem PySem.Spec PyProof.Rows L2
/-! ### a tuple times any int -/
theorem tmul_same (l : Addr) (items : Array Value) (n : Nat) (dd : Option Addr) (sl : Array (Option Value)) (x : Int) (u : Tok) (z0 : (decide (x < -(2 ^ 63)) || decide (x ≥ 2 ^ 63)) = false) (z1 : (items.isEmpty || x == 1) = true) :
    Meets (Builtin.«tuple.__mul__» ⟨[.ref l, .int x u], []⟩) (fun _ R s => s.heap.get? l = some ⟨.type "tuple", dd, .seq items n, sl⟩ ∧ R (.ok (.ret (Value.ref l))) s) :=
  .of_wp fun prog w A R s hs => by
    obtain ⟨hp, gg, d, tk, os⟩ := s
    obtain ⟨hl, h⟩ := hs
    have f1 := AutoSeq1.idx_int
    wp_walk using wpAny_loadPart' hl
    repeat (first
      | (refine wpAny_ite_false (decide_eq_false (by rw [z0]; exact Bool.false_ne_true)) ?_; wp_walk using wpAny_loadPart' hl)
      | (refine wpAny_ite_true (decide_eq_true (by rw [z1])) ?_; wp_walk using wpAny_loadPart' hl))
    exact ⟨_, rfl, h⟩
theorem tmul_none (l : Addr) (items : Array Value) (n : Nat) (dd : Option Addr) (sl : Array (Option Value)) (x : Int) (u : Tok) (z0 : (decide (x < -(2 ^ 63)) || decide (x ≥ 2 ^ 63)) = false) (z1 : (items.isEmpty || x == 1) = false) (z2 : (decide (x ≤ 0) || items.isEmpty) = true) :
    Meets (Builtin.«tuple.__mul__» ⟨[.ref l, .int x u], []⟩) (fun _ R s => s.heap.get? l = some ⟨.type "tuple", dd, .seq items n, sl⟩ ∧ R (.ok (.ret (Value.ref s.heap.objs.size))) { s with heap := s.heap.push ⟨Value.type "tuple", none, Data.seq #[] 0, #[]⟩, toks := s.toks }) :=
  .of_wp fun prog w A R s hs => by
    obtain ⟨hp, gg, d, tk, os⟩ := s
    obtain ⟨hl, h⟩ := hs
    have f1 := AutoSeq1.idx_int
    wp_walk using wpAny_loadPart' hl
    repeat (first
      | (refine wpAny_ite_false (decide_eq_false (by rw [z0]; exact Bool.false_ne_true)) ?_; wp_walk using wpAny_loadPart' hl)
      | (refine wpAny_ite_false (decide_eq_false (by rw [z1]; exact Bool.false_ne_true)) ?_; wp_walk using wpAny_loadPart' hl)
      | (refine wpAny_ite_true (decide_eq_true (by rw [z2])) ?_; wp_walk using wpAny_loadPart' hl))
    exact ⟨_, rfl, h⟩
def rRepA (K : PySem.W.Frag) : R2 := fun x y H Q => ∃ l k xs, x = .ref l ∧ y = .int k ∧ SqT K H l xs ∧ -(2 ^ 63) ≤ k ∧ k < 2 ^ 63 ∧ xs.length * k.toNat ≤ sizeLine ∧
  ((xs = [] ∨ k = 1) ∧ Q (.ref l) H ∨ ¬ (xs = [] ∨ k = 1) ∧ ∀ p, H p = none → Q (.ref p) (upd H p (.tup (List.replicate k.toNat xs).flatten)))
theorem op_repA {X : Cx} : OpR X (binaryOp .Mult) (rRepA X.K) := by
  intro pins s σ H x y v u Q I rx ry h
  obtain ⟨l, k, xs, rfl, rfl, hT, h1, h2, hz, q⟩ := h
  cases rx
  obtain ⟨t, rfl⟩ := ry
  obtain ⟨its, r, ⟨⟨cl0, dd, da, sl⟩, ho, hc, n, hd⟩, hs⟩ := I.tuple hT
  simp only at hc hd
  subst hc hd
  have hle : its.length = xs.length := r.length.symm
  have d0 : (decide (k < -(2 ^ 63)) || decide (k ≥ 2 ^ 63)) = false := by
    rw [decide_eq_false (show ¬ k < -(2 ^ 63) by omega), decide_eq_false (show ¬ k ≥ 2 ^ 63 by omega)]; rfl
  have em : its.toArray.isEmpty = true ↔ xs = [] := by
    rw [Array.isEmpty_iff_size_eq_zero, List.size_toArray, hle, List.length_eq_zero_iff]
  have sz : ((its.toArray.size : Nat) : Int) = (xs.length : Nat) := by rw [List.size_toArray, hle]
  rcases q with ⟨hc, q⟩ | ⟨hc, q⟩
  · have d1 : (its.toArray.isEmpty || k == 1) = true := by
      rw [Bool.or_eq_true, em, beq_iff_eq]; exact hc
    refine wpAny_binaryOp_repeat_ref (U := "int") (T := "tuple") (by decide) ⟨_, ho, rfl⟩ (fun s' => typeIs_int s' k t) noFill_tuple_mul F.fills_int_mul F.slot_int_rmul repeat_tuple F.slot_int_index.lookup
      (call_meets (T := "int") F.slot_int_rmul (typeIs_int s k t) F.entry_int_rmul (F.args_int_rmul_2 _ _) (int_rmul_tuple k t l its.toArray n dd sl)
        ⟨ho, rfl, ⟨_, ho, rfl⟩, call_meets (T := "tuple") F.slot_tuple_mul ⟨_, ho, rfl⟩ F.entry_tuple_mul (F.args_tuple_mul_2 _ _) (tmul_same l its.toArray n dd sl k t d0 d1) ⟨ho, ?_⟩⟩)
    exact ⟨.ref l, H, I, rfl, q⟩
  · have d1 : (its.toArray.isEmpty || k == 1) = false := by
      rw [Bool.eq_false_iff]; intro z; rw [Bool.or_eq_true, em, beq_iff_eq] at z; exact hc z
    have hne : its.toArray.isEmpty = false := (Bool.or_eq_false_iff.mp d1).1
    by_cases hk : k ≤ 0
    · have d2 : (decide (k ≤ 0) || its.toArray.isEmpty) = true := by rw [decide_eq_true hk]; rfl
      refine wpAny_binaryOp_repeat_ref (U := "int") (T := "tuple") (by decide) ⟨_, ho, rfl⟩ (fun s' => typeIs_int s' k t) noFill_tuple_mul F.fills_int_mul F.slot_int_rmul repeat_tuple F.slot_int_index.lookup
        (call_meets (T := "int") F.slot_int_rmul (typeIs_int s k t) F.entry_int_rmul (F.args_int_rmul_2 _ _) (int_rmul_tuple k t l its.toArray n dd sl)
          ⟨ho, rfl, ⟨_, ho, rfl⟩, call_meets (T := "tuple") F.slot_tuple_mul ⟨_, ho, rfl⟩ F.entry_tuple_mul (F.args_tuple_mul_2 _ _) (tmul_none l its.toArray n dd sl k t d0 d1 d2) ⟨ho, ?_⟩⟩)
      have e0 : (List.replicate k.toNat xs).flatten = [] := by
        have : k.toNat = 0 := by omega
        rw [this]; rfl
      rw [e0] at q
      refine ⟨V.ref s.heap.objs.size, _, I.laid (t' := s.toks) (o := .tup []) (fun b ob q => Heap.get?_push_of_some _ q) (Nat.le_refl _) ?_, rfl, q _ (I.hok.fresh (Nat.le_refl _))⟩
      exact ⟨Nat.zero_le _, [], .nil, IsTup.new _ _⟩
    · have d2 : (decide (k ≤ 0) || its.toArray.isEmpty) = false := by rw [decide_eq_false hk, hne]; rfl
      have kk : ((k.toNat : Nat) : Int) = k := Int.toNat_of_nonneg (by omega)
      have mm : ((its.toArray.size : Nat) : Int) * k ≤ (sizeLine : Nat) := by
        rw [sz, ← kk, ← Int.natCast_mul]; exact_mod_cast hz
      have sl9 : (sizeLine : Nat) ≤ 1000000000000 := by rw [sizeLine_eq]; omega
      have d4 : Builtin.Tuple.tupleTooMany (((its.toArray.size : Nat) : Int) * k) = false := by
        unfold Builtin.Tuple.tupleTooMany
        exact decide_eq_false (by omega)
      have fl : (List.replicate k.toNat its).flatten.length ≤ sizeLine := by
        rw [PyProof.Rows.lm_len_rep_flat, hle, Nat.mul_comm]; exact hz
      refine wpAny_binaryOp_repeat_ref (U := "int") (T := "tuple") (by decide) ⟨_, ho, rfl⟩ (fun s' => typeIs_int s' k t) noFill_tuple_mul F.fills_int_mul F.slot_int_rmul repeat_tuple F.slot_int_index.lookup
        (call_meets (T := "int") F.slot_int_rmul (typeIs_int s k t) F.entry_int_rmul (F.args_int_rmul_2 _ _) (int_rmul_tuple k t l its.toArray n dd sl)
          ⟨ho, rfl, ⟨_, ho, rfl⟩, call_meets (T := "tuple") F.slot_tuple_mul ⟨_, ho, rfl⟩ F.entry_tuple_mul (F.args_tuple_mul_2 _ _) (tuple_mulW l its.toArray n dd sl k t d0 d1 d2 (by omega) d4 (by rw [size_rep, List.size_toArray]; exact fl)) ⟨ho, ?_⟩⟩)
      rw [size_rep]
      refine ⟨V.ref s.heap.objs.size, _, I.laid (t' := s.toks) (o := .tup (List.replicate k.toNat xs).flatten) (fun b ob q => Heap.get?_push_of_some _ q) (Nat.le_refl _) ?_, rfl, q _ (I.hok.fresh (Nat.le_refl _))⟩
      exact ⟨by rw [PyProof.Rows.lm_len_rep_flat, Nat.mul_comm]; exact hz, _, r.rep k.toNat, IsTup.new _ _⟩
end Lk
set_option Elab.async false
set_option linter.all false
set_option maxRecDepth 100000
namespace Lk
open PySem L2
/-! ### values' operators -/
def dr (A : Ar) : PV → PV
  | .m h => match A[h]? with
    | some (some (_, .lst xs)) => .lst xs
    | _ => .m h
  | v => v
/-- a list that may be changed, too -/
def drW (A : Ar) : PV → PV
  | .m h => match A[h]? with
    | some (some (false, .lst xs)) => .lst xs
    | _ => .m h
  | v => v
theorem drW_dr {A : Ar} {v z : PV} (h : drW A v = z) (n : ∀ h, z ≠ .m h) : dr A v = z := by
  subst h
  cases v with
  | m k =>
    unfold drW at n ⊢
    unfold dr
    simp only at n ⊢
    split at n
    · rename_i xs e; rw [e]
    · exact absurd rfl (n k)
  | _ => rfl
def cellOf (A : Ar) : PV → Option Cell
  | .m h => match A[h]? with
    | some (some (_, c)) => some c
    | _ => none
  | _ => none
def sc : PV → Option V
  | .non => some .non
  | .bl b => some (.bl b)
  | .int i => some (.int i)
  | .str x => some (.str x)
  | _ => none
mutual
def toD : PV → Option PyData
  | .non => some .none
  | .bl b => some (.bool b)
  | .int i => some (.int i)
  | .str x => some (.str x)
  | .lst xs => (toDL xs).map .list
  | .tup xs => (toDL xs).map .tuple
  | _ => none
def toDL : List PV → Option (List PyData)
  | [] => some []
  | x :: xs => match toD x, toDL xs with
    | some d, some ds => some (d :: ds)
    | _, _ => none
end
section
variable {g : Gx} {lk : Lks} {F G : Hp} {ρ τ : List Addr} {A : Ar} {H : Hp} {x : V} {v : PV}
theorem lst_at {xs : List PV} (hh : HR g lk F ρ A H) (r : Rp g F ρ x v) (e : dr A v = .lst xs) : ∃ a vs, x = .ref a ∧ SqL g.K H a vs ∧ RpL g F ρ vs xs := by
  cases r with
  | lst h r => cases e; exact ⟨_, _, rfl, SqL.of (hh.sub _ _ h), r⟩
  | m er =>
    rename_i a h
    unfold dr at e
    simp only at e
    split at e
    · rename_i ys eA
      cases e
      obtain ⟨b, o, e1, e2, ⟨vs, rfl, r⟩, e4, e5⟩ := hh.cell _ _ _ eA
      rw [er] at e1; cases e1
      exact ⟨a, vs, rfl, .inl (e4.elim .inl .inr), r⟩
    · cases e
  | _ => cases e
theorem lstW_at {xs : List PV} (hh : HR g lk F ρ A H) (r : Rp g F ρ x v) (e : drW A v = .lst xs) : ∃ a vs, x = .ref a ∧ H a = some (.lst vs) ∧ RpL g F ρ vs xs := by
  cases r with
  | lst h r => cases e; exact ⟨_, _, rfl, hh.sub _ _ h, r⟩
  | m er =>
    rename_i a h
    unfold drW at e
    simp only at e
    split at e
    · rename_i ys eA
      cases e
      obtain ⟨b, o, e1, e2, ⟨vs, rfl, r⟩, e4, e5⟩ := hh.cell _ _ _ eA
      rw [er] at e1; cases e1
      exact ⟨a, vs, rfl, e5 rfl, r⟩
    · cases e
  | _ => cases e
theorem tup_at {xs : List PV} (hh : HR g lk F ρ A H) (r : Rp g F ρ x v) (e : dr A v = .tup xs) : ∃ a vs, x = .ref a ∧ H a = some (.tup vs) ∧ RpL g F ρ vs xs := by
  cases r with
  | tup h r => cases e; exact ⟨_, _, rfl, hh.sub _ _ h, r⟩
  | m er =>
    unfold dr at e
    simp only at e
    split at e <;> cases e
  | _ => cases e
theorem sc_at {y : V} (r : Rp g F ρ x v) (e : sc v = some y) : x = y := by
  cases r <;> first | (cases e; rfl) | cases e
mutual
theorem dp_at (hh : HR g lk F ρ A H) : ∀ {x : V} {v : PV} {d : PyData}, Rp g F ρ x v → toD v = some d → Dp g.K H x d
  | _, _, _, .non, e => by cases e; exact .non
  | _, _, _, .bl b, e => by cases e; exact .bl b
  | _, _, _, .int i, e => by cases e; exact .int i
  | _, _, _, .str y, e => by cases e; exact .str y
  | _, _, _, .ty n, e => by cases e
  | _, _, _, .lst (xs := xs) h r, e => by
    unfold toD at e
    cases q : toDL xs with
    | none => rw [q] at e; cases e
    | some ds => rw [q] at e; cases e; exact .lst (SqL.of (hh.sub _ _ h)) (dpL_at hh r q)
  | _, _, _, .tup (xs := xs) h r, e => by
    unfold toD at e
    cases q : toDL xs with
    | none => rw [q] at e; cases e
    | some ds => rw [q] at e; cases e; exact .tup (SqT.of (hh.sub _ _ h)) (dpL_at hh r q)
  | _, _, _, .m e', e => by cases e
  | _, _, _, .scr h, e => by cases e
  | _, _, _, .exc _ _ _, e => by cases e
theorem dpL_at (hh : HR g lk F ρ A H) : ∀ {xs : List V} {vs : List PV} {ds : List PyData}, RpL g F ρ xs vs → toDL vs = some ds → DpAll g.K H xs ds
  | _, _, _, .nil, e => by cases e; exact .nil
  | _, _, _, .cons (x := y) (xs := ys) h r, e => by
    unfold toDL at e
    cases q : toD y with
    | none => rw [q] at e; cases e
    | some d =>
      cases q2 : toDL ys with
      | none => rw [q, q2] at e; cases e
      | some ds => rw [q, q2] at e; cases e; exact .cons (dp_at hh h q) (dpL_at hh r q2)
end
theorem dpr_at (hh : HR g lk F ρ A H) {d : PyData} (r : Rp g F ρ x v) (e : toD (dr A v) = some d) : Dp g.K H x d := by
  cases v with
  | m h =>
    cases q : dr A (.m h) with
    | lst xs =>
      rw [q] at e
      unfold toD at e
      cases q2 : toDL xs with
      | none => rw [q2] at e; cases e
      | some ds =>
        rw [q2] at e; cases e
        obtain ⟨a, vs, rfl, e1, r1⟩ := lst_at hh r q
        exact .lst e1 (dpL_at hh r1 q2)
    | m k => rw [q] at e; cases e
    | _ => unfold dr at q; simp only at q; split at q <;> cases q
  | _ => exact dp_at hh r e
end
/-! the operators -/
def pAdd (A : Ar) (v w : PV) : Option PV := match drW A v, drW A w with
  | .int i, .int j => some (.int (i + j))
  | .str a, .str b => if a.length + b.length ≤ sizeLine then some (.str (a ++ b)) else none
  | .lst xs, .lst ys => if xs.length + ys.length ≤ sizeLine then some (.lst (xs ++ ys)) else none
  | .tup xs, .tup ys => if xs.length + ys.length ≤ sizeLine then some (.tup (xs ++ ys)) else none
  | _, _ => none
def pSub (A : Ar) (v w : PV) : Option PV := match v, w with
  | .int i, .int j => some (.int (i - j))
  | _, _ => none
def pMul (A : Ar) (v w : PV) : Option PV := match drW A v, drW A w with
  | .int i, .int j => if ((-(2 ^ 64) < i ∧ i < 2 ^ 64) ∨ (-(2 ^ 64) < j ∧ j < 2 ^ 64)) ∨ i.natAbs.log2 + j.natAbs.log2 < 1000000 then some (.int (i * j)) else none
  | .lst xs, .int k => if -(2 ^ 63) ≤ k ∧ k < 2 ^ 63 ∧ xs.length * k.toNat ≤ sizeLine then some (.lst (List.replicate k.toNat xs).flatten) else none
  | .tup xs, .int k => if -(2 ^ 63) ≤ k ∧ k < 2 ^ 63 ∧ xs.length * k.toNat ≤ sizeLine then some (.tup (List.replicate k.toNat xs).flatten) else none
  | _, _ => none
def pMod (A : Ar) (v w : PV) : Option PV := match v, w with
  | .int i, .int j => if 0 < j then some (.int (i % j)) else none
  | _, _ => none
def pDiv (A : Ar) (v w : PV) : Option PV := match v, w with
  | .int i, .int j => if 0 < j ∧ j < 1073741824 then some (.int (i / j)) else none
  | _, _ => none
def pPow (A : Ar) (v w : PV) : Option PV := match v, w with
  | .int i, .int j => if 0 ≤ j ∧ j ≤ 1000000 ∧ i.natAbs < 2 ^ 64 then some (.int (i ^ j.toNat)) else none
  | _, _ => none
def pEqB (A : Ar) (v w : PV) : Option Bool := match sc v, sc w with
  | some x, some y => if scal x y = true then some (decide (x = y)) else none
  | _, _ => match toD (dr A v), toD (dr A w) with
    | some d, some e => if SeqAt.shaped d = true ∧ SeqAt.shaped e = true then some (PyData.eqv d e) else none
    | _, _ => none
def pEq (A : Ar) (v w : PV) : Option PV := (pEqB A v w).map .bl
def pNe (A : Ar) (v w : PV) : Option PV := (pEqB A v w).map fun b => .bl (!b)
def pLt (A : Ar) (v w : PV) : Option PV := match v, w with
  | .int i, .int j => some (.bl (decide (i < j)))
  | _, _ => none
def pLe (A : Ar) (v w : PV) : Option PV := match v, w with
  | .int i, .int j => some (.bl (decide (i ≤ j)))
  | _, _ => none
def pGt (A : Ar) (v w : PV) : Option PV := match v, w with
  | .int i, .int j => some (.bl (decide (i > j)))
  | .tup [.int a, .int b], .tup [.int c, .int d] => some (.bl (pairGt a b c d))
  | _, _ => none
def pGe (A : Ar) (v w : PV) : Option PV := match v, w with
  | .int i, .int j => some (.bl (decide (i ≥ j)))
  | _, _ => none
def pIs (A : Ar) (v w : PV) : Option PV := match w with
  | .non => some (.bl (match v with | .non => true | _ => false))
  | _ => none
def pIsN (A : Ar) (v w : PV) : Option PV := match w with
  | .non => some (.bl (match v with | .non => false | _ => true))
  | _ => none
section
variable {g : Gx} {X : Cx} {lk : Lks} {F G : Hp} {ρ τ : List Addr} {A : Ar} {H : Hp} {x y : V} {v w : PV} {f : Value → Value → Sem Value}
theorem opOr {r r' : R2} (h : OpR X f r) (h' : OpR X f r') : OpR X f (fun x y H Q => r x y H Q ∨ r' x y H Q) := fun pins s σ H x y v u Q I rx ry q => q.elim (h pins s σ H x y v u Q I rx ry) (h' pins s σ H x y v u Q I rx ry)
theorem v2of {r : R2} {p : Ar → PV → PV → Option PV}
    (h : ∀ lk F ρ A H x y v w z (Q : VK), HR g lk F ρ A H → Rp g F ρ x v → Rp g F ρ y w → p A v w = some z → (∀ F' H', Ex F ρ F' ρ → HR g lk F' ρ A H' → ∀ q, Rp g F' ρ q z → Q q H') → r x y H Q) : V2 g r p := h
/-- what is wanted of a new list -/
theorem new_lst {xs : List V} {ys : List PV} {Q : VK} (hh : HR g lk F ρ A H) (r : RpL g F ρ xs ys) (q : ∀ F' H', Ex F ρ F' ρ → HR g lk F' ρ A H' → ∀ z, Rp g F' ρ z (.lst ys) → Q z H') : ∀ p, H p = none → Q (.ref p) (upd H p (.lst xs)) := fun p hp =>
  let ⟨h1, k⟩ := hh.frozen (o := .lst xs) hp
  q _ _ k h1 _ (.lst upd_same (r.mono k))
theorem new_tup {xs : List V} {ys : List PV} {Q : VK} (hh : HR g lk F ρ A H) (r : RpL g F ρ xs ys) (q : ∀ F' H', Ex F ρ F' ρ → HR g lk F' ρ A H' → ∀ z, Rp g F' ρ z (.tup ys) → Q z H') : ∀ p, H p = none → Q (.ref p) (upd H p (.tup xs)) := fun p hp =>
  let ⟨h1, k⟩ := hh.frozen (o := .tup xs) hp
  q _ _ k h1 _ (.tup upd_same (r.mono k))
def rAddU (K : PySem.W.Frag) : R2 := fun x y H Q => ((rI0 (fun i j => .int (i + j)) x y H Q ∨ (∃ i j, x = .str i ∧ y = .str j ∧ i.length + j.length ≤ sizeLine ∧ Q (.str (i ++ j)) H)) ∨ rCat x y H Q) ∨ rCatA K x y H Q
theorem op_addU : OpR X (binaryOp .Add) (rAddU X.K) := opOr (opOr (opOr op_add op_add_str) op_cat) op_catA
theorem dr_int {i : Int} (r : Rp g F ρ x v) (e : dr A v = .int i) : x = .int i := by
  cases r with
  | m er => unfold dr at e; simp only at e; split at e <;> cases e
  | _ => first | (cases e; rfl) | cases e
theorem dr_str {i : Str} (r : Rp g F ρ x v) (e : dr A v = .str i) : x = .str i := by
  cases r with
  | m er => unfold dr at e; simp only at e; split at e <;> cases e
  | _ => first | (cases e; rfl) | cases e
theorem v2_add : V2 g (rAddU g.K) pAdd := fun lk F ρ A H x y v w z Q hh rx ry e q => by
  unfold pAdd at e
  split at e
  · rename_i i j e1 e2; cases e
    exact .inl (.inl (.inl ⟨i, j, dr_int rx (drW_dr e1 nofun), dr_int ry (drW_dr e2 nofun), q F H (.refl F ρ) hh _ (.int _)⟩))
  · rename_i i j e1 e2
    split at e
    · rename_i hl; cases e
      exact .inl (.inl (.inr ⟨i, j, dr_str rx (drW_dr e1 nofun), dr_str ry (drW_dr e2 nofun), hl, q F H (.refl F ρ) hh _ (.str _)⟩))
    · cases e
  · rename_i xs ys e1 e2
    split at e
    · rename_i hl; cases e
      obtain ⟨a, vs, rfl, ha, ra⟩ := lstW_at hh rx e1
      obtain ⟨b, ws, rfl, hb, rb⟩ := lstW_at hh ry e2
      exact .inl (.inr ⟨a, b, vs, ws, rfl, rfl, ha, hb, by rw [ra.length, rb.length]; exact hl, new_lst hh (ra.append rb) q⟩)
    · cases e
  · rename_i xs ys e1 e2
    split at e
    · rename_i hl; cases e
      obtain ⟨a, vs, rfl, ha, ra⟩ := tup_at hh rx (drW_dr e1 nofun)
      obtain ⟨b, ws, rfl, hb, rb⟩ := tup_at hh ry (drW_dr e2 nofun)
      have t1 : ∀ {c : V} {u : PV} {zs : List PV}, Rp g F ρ c u → dr A u = .tup zs → Rp g F ρ c (.tup zs) := fun {c u zs} r e => by
        cases r with
        | tup h r => cases e; exact .tup h r
        | m er => unfold dr at e; simp only at e; split at e <;> cases e
        | _ => cases e
      refine .inr ⟨a, b, vs, ws, rfl, rfl, SqT.of ha, SqT.of hb, by rw [ra.length, rb.length]; exact hl, fun z => ?_, fun _ z => ?_, fun _ _ => new_tup hh (ra.append rb) q⟩
      · subst z; cases ra
        exact q F H (.refl F ρ) hh _ (t1 ry (drW_dr e2 nofun))
      · subst z; cases rb
        rw [List.append_nil] at q
        exact q F H (.refl F ρ) hh _ (t1 rx (drW_dr e1 nofun))
    · cases e
  · cases e
theorem v2_ints {c : Int → Int → Prop} {k : Int → Int → V} {kk : Int → Int → PV} {p : Ar → PV → PV → Option PV} (hp : ∀ A v w z, p A v w = some z → ∃ i j, v = .int i ∧ w = .int j ∧ c i j ∧ z = kk i j) (hk : ∀ i j (F : Hp) (ρ : List Addr), Rp g F ρ (k i j) (kk i j)) : V2 g (rI c k) p := fun lk F ρ A H x y v w z Q hh rx ry e q => by
  obtain ⟨i, j, rfl, rfl, hc, rfl⟩ := hp A v w z e
  exact ⟨i, j, rx.int_inv, ry.int_inv, hc, q F H (.refl F ρ) hh _ (hk i j F ρ)⟩
theorem v2_ints0 {k : Int → Int → V} {kk : Int → Int → PV} {p : Ar → PV → PV → Option PV} (hp : ∀ A v w z, p A v w = some z → ∃ i j, v = .int i ∧ w = .int j ∧ z = kk i j) (hk : ∀ i j (F : Hp) (ρ : List Addr), Rp g F ρ (k i j) (kk i j)) : V2 g (rI0 k) p := fun lk F ρ A H x y v w z Q hh rx ry e q => by
  obtain ⟨i, j, rfl, rfl, rfl⟩ := hp A v w z e
  exact ⟨i, j, rx.int_inv, ry.int_inv, q F H (.refl F ρ) hh _ (hk i j F ρ)⟩
theorem v2_sub : V2 g (rI0 fun i j => .int (i - j)) pSub := v2_ints0 (kk := fun i j => .int (i - j)) (fun A v w z e => by unfold pSub at e; split at e <;> cases e; exact ⟨_, _, rfl, rfl, rfl⟩) fun _ _ _ _ => .int _
theorem v2_mod : V2 g (rI (fun _ j => 0 < j) fun i j => .int (i % j)) pMod := v2_ints (kk := fun i j => .int (i % j)) (fun A v w z e => by
  unfold pMod at e; split at e
  · split at e <;> cases e; exact ⟨_, _, rfl, rfl, by assumption, rfl⟩
  · cases e) fun _ _ _ _ => .int _
theorem v2_div : V2 g (rI CDiv fun i j => .int (i / j)) pDiv := v2_ints (kk := fun i j => .int (i / j)) (fun A v w z e => by
  unfold pDiv at e; split at e
  · split at e <;> cases e; exact ⟨_, _, rfl, rfl, by assumption, rfl⟩
  · cases e) fun _ _ _ _ => .int _
theorem v2_pow : V2 g (rI CPow fun i j => .int (i ^ j.toNat)) pPow := v2_ints (kk := fun i j => .int (i ^ j.toNat)) (fun A v w z e => by
  unfold pPow at e; split at e
  · split at e <;> cases e; exact ⟨_, _, rfl, rfl, by assumption, rfl⟩
  · cases e) fun _ _ _ _ => .int _
theorem RpL.rep {xs : List V} {ys : List PV} (r : RpL g F ρ xs ys) : ∀ k : Nat, RpL g F ρ (List.replicate k xs).flatten (List.replicate k ys).flatten
  | 0 => .nil
  | k + 1 => by simp only [List.replicate_succ, List.flatten_cons]; exact r.append (RpL.rep r k)
def CMulB (i j : Int) : Prop := CMul i j ∨ CMulW i j
theorem op_mulU : OpR X (binaryOp .Mult) (fun x y H Q => (rI CMulB (fun i j => .int (i * j)) x y H Q ∨ rRep x y H Q) ∨ rRepA X.K x y H Q) := opOr (opOr (fun pins s σ H x y v u Q I rx ry ⟨i, j, e1, e2, hc, q⟩ => hc.elim (fun h => op_mul pins s σ H x y v u Q I rx ry ⟨i, j, e1, e2, h, q⟩) (fun h => op_mulW pins s σ H x y v u Q I rx ry ⟨i, j, e1, e2, h, q⟩)) op_rep) op_repA
theorem v2_mul : V2 g (fun x y H Q => (rI CMulB (fun i j => .int (i * j)) x y H Q ∨ rRep x y H Q) ∨ rRepA g.K x y H Q) pMul := fun lk F ρ A H x y v w z Q hh rx ry e q => by
  unfold pMul at e
  split at e
  · rename_i i j e1 e2
    split at e
    · rename_i hl; cases e
      exact .inl (.inl ⟨i, j, dr_int rx (drW_dr e1 nofun), dr_int ry (drW_dr e2 nofun), hl, q F H (.refl F ρ) hh _ (.int _)⟩)
    · cases e
  · rename_i xs k e1 e2
    split at e
    · rename_i hl; cases e
      obtain ⟨a, vs, rfl, ha, ra⟩ := lstW_at hh rx e1
      exact .inl (.inr ⟨a, k, vs, rfl, dr_int ry (drW_dr e2 nofun), ha, hl.1, hl.2.1, by rw [ra.length]; exact hl.2.2, new_lst hh (ra.rep _) q⟩)
    · cases e
  · rename_i xs k e1 e2
    split at e
    · rename_i hl; cases e
      obtain ⟨a, vs, rfl, ha, ra⟩ := tup_at hh rx (drW_dr e1 nofun)
      refine .inr ⟨a, k, vs, rfl, dr_int ry (drW_dr e2 nofun), SqT.of ha, hl.1, hl.2.1, by rw [ra.length]; exact hl.2.2, ?_⟩
      by_cases hc : vs = [] ∨ k = 1
      · refine .inl ⟨hc, q F H (.refl F ρ) hh _ ?_⟩
        have e9 : (List.replicate k.toNat xs).flatten = xs := by
          rcases hc with rfl | rfl
          · have : xs = [] := by have := ra.length; simpa using this.symm
            subst this; simp
          · simp
        rw [e9]
        have e1 := drW_dr e1 nofun
        cases rx with
        | tup h r => cases e1; exact .tup h r
        | m er => unfold dr at e1; simp only at e1; split at e1 <;> cases e1
        | _ => cases e1
      · exact .inr ⟨hc, new_tup hh (ra.rep _) q⟩
    · cases e
  · cases e
theorem v2_lt : V2 g (rI0 fun i j => .bl (decide (i < j))) pLt := v2_ints0 (kk := fun i j => .bl (decide (i < j))) (fun A v w z e => by unfold pLt at e; split at e <;> cases e; exact ⟨_, _, rfl, rfl, rfl⟩) fun _ _ _ _ => .bl _
theorem v2_le : V2 g (rI0 fun i j => .bl (decide (i ≤ j))) pLe := v2_ints0 (kk := fun i j => .bl (decide (i ≤ j))) (fun A v w z e => by unfold pLe at e; split at e <;> cases e; exact ⟨_, _, rfl, rfl, rfl⟩) fun _ _ _ _ => .bl _
theorem v2_ge : V2 g (rI0 fun i j => .bl (decide (i ≥ j))) pGe := v2_ints0 (kk := fun i j => .bl (decide (i ≥ j))) (fun A v w z e => by unfold pGe at e; split at e <;> cases e; exact ⟨_, _, rfl, rfl, rfl⟩) fun _ _ _ _ => .bl _
theorem op_gtU (hu : X.A.units < cLine) : OpR X (compareOp .Gt) (fun x y H Q => rI0 (fun i j => .bl (decide (i > j))) x y H Q ∨ rGtT X.K x y H Q) := opOr op_gt (op_gtT hu)
theorem v2_gt : V2 g (fun x y H Q => rI0 (fun i j => .bl (decide (i > j))) x y H Q ∨ rGtT g.K x y H Q) pGt := fun lk F ρ A H x y v w z Q hh rx ry e q => by
  unfold pGt at e
  split at e
  · cases e; exact .inl ⟨_, _, rx.int_inv, ry.int_inv, q F H (.refl F ρ) hh _ (.bl _)⟩
  · cases e
    obtain ⟨p, vs, rfl, hp, rp⟩ := tup_at (A := A) hh rx rfl
    obtain ⟨p', vs', rfl, hp', rp'⟩ := tup_at (A := A) hh ry rfl
    cases rp with | cons r1 r2 => cases r2 with | cons r3 r4 => cases r4 with | nil =>
    cases rp' with | cons s1 s2 => cases s2 with | cons s3 s4 => cases s4 with | nil =>
    cases r1; cases r3; cases s1; cases s3
    exact .inr ⟨p, p', _, _, _, _, rfl, rfl, SqT.of hp, SqT.of hp', q F H (.refl F ρ) hh _ (.bl _)⟩
  · cases e
theorem v2_is : V2 g (fun x y H Q => y = .non ∧ Q (.bl (decide (x = .non))) H) pIs := fun lk F ρ A H x y v w z Q hh rx ry e q => by
  unfold pIs at e
  split at e
  · cases e
    refine ⟨ry.non_inv, ?_⟩
    have := q F H (.refl F ρ) hh _ (.bl _)
    cases rx <;> exact this
  · cases e
theorem v2_isN : V2 g (fun x y H Q => y = .non ∧ Q (.bl (!decide (x = .non))) H) pIsN := fun lk F ρ A H x y v w z Q hh rx ry e q => by
  unfold pIsN at e
  split at e
  · cases e
    refine ⟨ry.non_inv, ?_⟩
    have := q F H (.refl F ρ) hh _ (.bl _)
    cases rx <;> exact this
  · cases e
theorem op_eqU (hu : X.A.units + 64 < cLine) : OpR X (compareOp .Eq) (fun x y H Q => rEq x y H Q ∨ rEqD X.K x y H Q) := opOr op_eq (op_eqD hu)
theorem op_neU (hu : X.A.units + 64 < cLine) : OpR X (compareOp .NotEq) (fun x y H Q => rNe x y H Q ∨ rNeD X.K x y H Q) := opOr op_ne (op_neD hu)
theorem pEqB_at {b : Bool} (hh : HR g lk F ρ A H) (rx : Rp g F ρ x v) (ry : Rp g F ρ y w) (e : pEqB A v w = some b) : (scal x y = true ∧ b = decide (x = y)) ∨ ∃ d d', Dp g.K H x d ∧ Dp g.K H y d' ∧ SeqAt.shaped d = true ∧ SeqAt.shaped d' = true ∧ b = PyData.eqv d d' := by
  unfold pEqB at e
  split at e
  · rename_i a c e1 e2
    split at e
    · cases e
      rw [sc_at rx e1, sc_at ry e2]
      exact .inl ⟨by assumption, rfl⟩
    · cases e
  · split at e
    · rename_i d d' e1 e2
      split at e
      · rename_i hs; cases e
        exact .inr ⟨d, d', dpr_at hh rx e1, dpr_at hh ry e2, hs.1, hs.2, rfl⟩
      · cases e
    · cases e
theorem v2_eq : V2 g (fun x y H Q => rEq x y H Q ∨ rEqD g.K x y H Q) pEq := fun lk F ρ A H x y v w z Q hh rx ry e q => by
  unfold pEq at e
  cases eb : pEqB A v w with
  | none => rw [eb] at e; cases e
  | some b =>
    rw [eb] at e; cases e
    have h := q F H (.refl F ρ) hh _ (.bl b)
    rcases pEqB_at hh rx ry eb with ⟨h1, h2⟩ | ⟨d, d', h1, h2, h3, h4, h5⟩
    · subst h2; exact .inl ⟨h1, h⟩
    · subst h5; exact .inr ⟨d, d', h1, h2, h3, h4, h⟩
theorem v2_ne : V2 g (fun x y H Q => rNe x y H Q ∨ rNeD g.K x y H Q) pNe := fun lk F ρ A H x y v w z Q hh rx ry e q => by
  unfold pNe at e
  cases eb : pEqB A v w with
  | none => rw [eb] at e; cases e
  | some b =>
    rw [eb] at e; cases e
    have h := q F H (.refl F ρ) hh _ (.bl (!b))
    rcases pEqB_at hh rx ry eb with ⟨h1, h2⟩ | ⟨d, d', h1, h2, h3, h4, h5⟩
    · subst h2; exact .inl ⟨h1, h⟩
    · subst h5; exact .inr ⟨d, d', h1, h2, h3, h4, h⟩
end
end Lk
set_option Elab.async false
set_option linter.all false
set_option maxRecDepth 100000
namespace Lk
open PySem PySem.Spec PyProof.Rows L2
/-! ### dicts -/
def keyK : PV → Option Key
  | .int i => some (.inl i)
  | .str x => some (.inr x)
  | _ => none
def keyKs : List PV → Option (List Key)
  | [] => some []
  | x :: xs => match keyK x, keyKs xs with
    | some k, some ks => some (k :: ks)
    | _, _ => none
def keyT : PV → Option (List Key)
  | .tup xs => keyKs xs
  | _ => none
section
variable {κ : Type} [DecidableEq κ]
def pLook (kvs : List (κ × PV)) (k : κ) : Option PV := (kvs.find? fun kv => decide (kv.1 = k)).map (·.2)
def pPut (kvs : List (κ × PV)) (k : κ) (v : PV) : List (κ × PV) :=
  if (kvs.any fun kv => decide (kv.1 = k)) = true then kvs.map (fun kv => if kv.1 = k then (kv.1, v) else kv) else kvs ++ [(k, v)]
def pDrop (kvs : List (κ × PV)) (k : κ) : List (κ × PV) := kvs.filter fun kv => decide (kv.1 ≠ k)
end
section
variable {g : Gx} {X : Cx} {lk : Lks} {F G : Hp} {ρ τ : List Addr} {A : Ar} {H : Hp} {x y : V} {v w : PV} {κ : Type} [DecidableEq κ]
theorem rpk_nil {ks : List (κ × V)} (h : RpK g F ρ ks []) : ks = [] := by
  have := h.1; cases ks with
  | nil => rfl
  | cons a b => simp at this
theorem rpk_cons {ks : List (κ × V)} {p : κ × PV} {kvs : List (κ × PV)} (h : RpK g F ρ ks (p :: kvs)) : ∃ z zs, ks = (p.1, z) :: zs ∧ Rp g F ρ z p.2 ∧ RpK g F ρ zs kvs := by
  obtain ⟨h1, h2⟩ := h
  cases ks with
  | nil => simp at h1
  | cons a b =>
    simp only [List.map_cons, List.cons.injEq] at h1 h2
    cases h2 with | cons r1 r2 =>
    refine ⟨a.2, b, ?_, r1, h1.2, r2⟩
    rw [← h1.1]
theorem rpk_mk {z : V} {zs : List (κ × V)} {p : κ × PV} {kvs : List (κ × PV)} (h : Rp g F ρ z p.2) (r : RpK g F ρ zs kvs) : RpK g F ρ ((p.1, z) :: zs) (p :: kvs) :=
  ⟨by simp only [List.map_cons]; rw [r.1], .cons h r.2⟩
theorem rpk_len {ks : List (κ × V)} {kvs : List (κ × PV)} (h : RpK g F ρ ks kvs) : ks.length = kvs.length := by
  have := h.2.length; simpa using this
theorem rpk_look {k : κ} : ∀ {kvs : List (κ × PV)} {ks : List (κ × V)}, RpK g F ρ ks kvs → (pLook kvs k = none → valV ks k = none) ∧ ∀ p, pLook kvs k = some p → ∃ z, valV ks k = some z ∧ Rp g F ρ z p
  | [], ks, h => by
    obtain rfl := rpk_nil h
    exact ⟨fun _ => rfl, fun p e => by cases e⟩
  | q :: kvs, ks, h => by
    obtain ⟨z, zs, rfl, r, t⟩ := rpk_cons h
    obtain ⟨i1, i2⟩ := rpk_look (k := k) t
    by_cases e : q.1 = k
    · rw [valV_pos (p := (q.1, z)) e]
      have : pLook (q :: kvs) k = some q.2 := by simp [pLook, List.find?_cons, e]
      rw [this]
      exact ⟨fun n => (nomatch n), fun p ep => by cases ep; exact ⟨z, rfl, r⟩⟩
    · rw [valV_neg (p := (q.1, z)) e]
      have : pLook (q :: kvs) k = pLook kvs k := by simp [pLook, List.find?_cons, e]
      rw [this]; exact ⟨i1, i2⟩
theorem rpk_any {k : κ} : ∀ {kvs : List (κ × PV)} {ks : List (κ × V)}, RpK g F ρ ks kvs → (ks.any fun kv => decide (kv.1 = k)) = (kvs.any fun kv => decide (kv.1 = k))
  | [], ks, h => by obtain rfl := rpk_nil h; rfl
  | q :: kvs, ks, h => by
    obtain ⟨z, zs, rfl, r, t⟩ := rpk_cons h
    rw [List.any_cons, List.any_cons, rpk_any t]
theorem rpk_map {k : κ} {z : V} {p : PV} (r : Rp g F ρ z p) : ∀ {kvs : List (κ × PV)} {ks : List (κ × V)}, RpK g F ρ ks kvs → RpK g F ρ (ks.map fun kv => if kv.1 = k then (kv.1, z) else kv) (kvs.map fun kv => if kv.1 = k then (kv.1, p) else kv)
  | [], ks, h => by obtain rfl := rpk_nil h; exact ⟨rfl, .nil⟩
  | q :: kvs, ks, h => by
    obtain ⟨u, zs, rfl, r1, t⟩ := rpk_cons h
    rw [List.map_cons, List.map_cons]
    by_cases e : q.1 = k
    · rw [if_pos e, if_pos e]
      exact rpk_mk (p := (q.1, p)) r (rpk_map r t)
    · rw [if_neg e, if_neg e]
      exact rpk_mk (p := q) r1 (rpk_map r t)
theorem rpk_append {a b : List (κ × V)} {c d : List (κ × PV)} (h : RpK g F ρ a c) (h' : RpK g F ρ b d) : RpK g F ρ (a ++ b) (c ++ d) := ⟨by simp [h.1, h'.1], by rw [List.map_append, List.map_append]; exact h.2.append h'.2⟩
theorem rpk_put {k : κ} {z : V} {p : PV} {kvs : List (κ × PV)} {ks : List (κ × V)} (h : RpK g F ρ ks kvs) (r : Rp g F ρ z p) : RpK g F ρ (putK ks k z) (pPut kvs k p) := by
  unfold putK pPut
  rw [rpk_any h]
  split
  · exact rpk_map r h
  · exact rpk_append h ⟨rfl, .cons r .nil⟩
theorem rpk_drop {k : κ} : ∀ {kvs : List (κ × PV)} {ks : List (κ × V)}, RpK g F ρ ks kvs → RpK g F ρ (dropK ks k) (pDrop kvs k)
  | [], ks, h => by obtain rfl := rpk_nil h; exact ⟨rfl, .nil⟩
  | q :: kvs, ks, h => by
    obtain ⟨u, zs, rfl, r1, t⟩ := rpk_cons h
    have ih := rpk_drop (k := k) t
    unfold dropK pDrop at ih ⊢
    rw [List.filter_cons, List.filter_cons]
    by_cases e : q.1 = k
    · simp only [e, ne_eq, not_true, decide_false, if_false, Bool.false_eq_true]; exact ih
    · simp only [e, ne_eq, not_false_iff, decide_true, if_true]; exact rpk_mk (p := q) r1 ih
theorem dK_at {kvs : List (Key × PV)} (hh : HR g lk F ρ A H) (r : Rp g F ρ x v) (e : cellOf A v = some (.dK kvs)) : ∃ a ks, x = .ref a ∧ Rd H a (.dK ks) ∧ RpK g F ρ ks kvs := by
  cases r with
  | m er =>
    rename_i a h
    unfold cellOf at e; simp only at e; split at e
    · rename_i l c q; cases e
      obtain ⟨b, o, e1, e2, ⟨ks, rfl, r⟩, e4, e5⟩ := hh.cell _ _ _ q
      rw [er] at e1; cases e1
      exact ⟨a, ks, rfl, e4, r⟩
    · cases e
  | _ => cases e
theorem dT_at {kvs : List (List Key × PV)} (hh : HR g lk F ρ A H) (r : Rp g F ρ x v) (e : cellOf A v = some (.dT kvs)) : ∃ a ks, x = .ref a ∧ Rd H a (.dT ks) ∧ RpK g F ρ ks kvs := by
  cases r with
  | m er =>
    rename_i a h
    unfold cellOf at e; simp only at e; split at e
    · rename_i l c q; cases e
      obtain ⟨b, o, e1, e2, ⟨ks, rfl, r⟩, e4, e5⟩ := hh.cell _ _ _ q
      rw [er] at e1; cases e1
      exact ⟨a, ks, rfl, e4, r⟩
    · cases e
  | _ => cases e
theorem keyK_at {k : Key} (r : Rp g F ρ x v) (e : keyK v = some k) : x = kV k := by
  cases r <;> first | (cases e; rfl) | cases e
theorem keyKs_at : ∀ {xs : List V} {vs : List PV} {ks : List Key}, RpL g F ρ xs vs → keyKs vs = some ks → xs = ks.map kV
  | _, _, _, .nil, e => by cases e; rfl
  | _, _, _, .cons (x := y) (xs := ys) h r, e => by
    unfold keyKs at e
    cases q : keyK y with
    | none => rw [q] at e; cases e
    | some k =>
      cases q2 : keyKs ys with
      | none => rw [q, q2] at e; cases e
      | some ks => rw [q, q2] at e; cases e; rw [keyK_at h q, keyKs_at r q2]; rfl
theorem keyT_at {k : List Key} (hh : HR g lk F ρ A H) (r : Rp g F ρ x v) (e : keyT v = some k) : ∃ b, x = .ref b ∧ H b = some (.tup (k.map kV)) := by
  cases r with
  | tup h r => exact ⟨_, rfl, by rw [← keyKs_at r e]; exact hh.sub _ _ h⟩
  | _ => cases e
/-- what a dict holds at a key -/
def pGet (A : Ar) (d k : PV) : Option (Option PV) := match cellOf A d with
  | some (.dK kvs) => (keyK k).map (pLook kvs)
  | some (.dT kvs) => (keyT k).map (pLook kvs)
  | _ => none
theorem pGet_at {o : Option PV} (hh : HR g lk F ρ A H) (rx : Rp g F ρ x v) (ry : Rp g F ρ y w) (e : pGet A v w = some o) : ∃ a r, x = .ref a ∧ DGet H a y r ∧ (o = none → r = none) ∧ ∀ p, o = some p → ∃ z, r = some z ∧ Rp g F ρ z p := by
  unfold pGet at e
  split at e
  · rename_i kvs q
    cases qk : keyK w with
    | none => rw [qk] at e; cases e
    | some k =>
      rw [qk] at e; cases e
      obtain ⟨a, ks, rfl, h1, h2⟩ := dK_at hh rx q
      exact ⟨a, valV ks k, rfl, .inl ⟨ks, k, h1, keyK_at ry qk, rfl⟩, (rpk_look h2).1, (rpk_look h2).2⟩
  · rename_i kvs q
    cases qk : keyT w with
    | none => rw [qk] at e; cases e
    | some k =>
      rw [qk] at e; cases e
      obtain ⟨a, ks, rfl, h1, h2⟩ := dT_at hh rx q
      obtain ⟨b, rfl, hb⟩ := keyT_at hh ry qk
      exact ⟨a, valV ks k, rfl, .inr ⟨ks, k, b, h1, rfl, hb, rfl⟩, (rpk_look h2).1, (rpk_look h2).2⟩
  · cases e
end
/-! ### in -/
def scs : List PV → Option (List V)
  | [] => some []
  | x :: xs => match sc x, scs xs with
    | some k, some ks => some (k :: ks)
    | _, _ => none
def pInB (A : Ar) (v w : PV) : Option Bool := match dr A w with
  | .lst ys => match toD (dr A v), toDL ys with
    | some d, some ds => if SeqAt.shaped d = true ∧ SeqAt.shaped (.list ds) = true then some (ds.any fun z => PyData.eqv z d) else none
    | _, _ => none
  | .tup ys => match sc v, scs ys with
    | some u, some us => if flatV u = true ∧ us.all flatV = true then some (inV u us) else none
    | _, _ => none
  | .str z => match v with
    | .str s => match s.cps.toList with
      | [c] => some (decide (c ∈ z.cps.toList))
      | _ => none
    | _ => none
  | .m h => (pGet A (.m h) v).map Option.isSome
  | _ => none
def pIn (A : Ar) (v w : PV) : Option PV := (pInB A v w).map .bl
def pNotIn (A : Ar) (v w : PV) : Option PV := (pInB A v w).map fun b => .bl (!b)
section
variable {g : Gx} {X : Cx} {lk : Lks} {F G : Hp} {ρ τ : List Addr} {A : Ar} {H : Hp} {x y : V} {v w : PV}
theorem scs_at : ∀ {xs : List V} {vs : List PV} {us : List V}, RpL g F ρ xs vs → scs vs = some us → xs = us
  | _, _, _, .nil, e => by cases e; rfl
  | _, _, _, .cons (x := y) (xs := ys) h r, e => by
    unfold scs at e
    cases q : sc y with
    | none => rw [q] at e; cases e
    | some k =>
      cases q2 : scs ys with
      | none => rw [q, q2] at e; cases e
      | some ks => rw [q, q2] at e; cases e; rw [sc_at h q, scs_at r q2]
def rDin (neg : Bool) : R2 := fun y x H Q => ∃ a o, x = .ref a ∧ DGet H a y o ∧ Q (.bl (if neg then !o.isSome else o.isSome)) H
theorem op_dIn (hu : X.A.units + 1 < cLine) : OpR X (compareOp .In) (rDin false) := fun pins s σ H y x u v Q I ry rx ⟨a, o, ex, gg, q⟩ => by
  subst ex; cases rx
  exact d_in hu I gg ry fun s' I' => ⟨.bl o.isSome, H, I', rfl, q⟩
theorem op_dNotIn (hu : X.A.units + 1 < cLine) : OpR X (compareOp .NotIn) (rDin true) := fun pins s σ H y x u v Q I ry rx ⟨a, o, ex, gg, q⟩ => by
  subst ex; cases rx
  exact d_notIn hu I gg ry fun s' I' => ⟨.bl (!o.isSome), H, I', rfl, q⟩
def rInU (K : PySem.W.Frag) : R2 := fun x y H Q => ((rInD K x y H Q ∨ rIn K false x y H Q) ∨ (∃ (c : Nat) (z : Str), x = .str ⟨#[c]⟩ ∧ y = .str z ∧ Q (.bl (decide (c ∈ z.cps.toList))) H)) ∨ rDin false x y H Q
def rNotInU (K : PySem.W.Frag) : R2 := fun x y H Q => ((rNotInD K x y H Q ∨ rIn K true x y H Q) ∨ (∃ (c : Nat) (z : Str), x = .str ⟨#[c]⟩ ∧ y = .str z ∧ Q (.bl (!decide (c ∈ z.cps.toList))) H)) ∨ rDin true x y H Q
theorem op_inU (hu : X.A.units + 65 < cLine) : OpR X (compareOp .In) (rInU X.K) := opOr (opOr (opOr (op_inD hu) op_in_seq) op_in_sign) (op_dIn (by omega))
theorem op_notInU (hu : X.A.units + 65 < cLine) : OpR X (compareOp .NotIn) (rNotInU X.K) := opOr (opOr (opOr (op_notInD hu) op_notIn_seq) op_notIn_sign) (op_dNotIn (by omega))
theorem pInB_at {b : Bool} (hh : HR g lk F ρ A H) (rx : Rp g F ρ x v) (ry : Rp g F ρ y w) (e : pInB A v w = some b) :
    (∃ d ds, Dp g.K H x d ∧ Dp g.K H y (.list ds) ∧ SeqAt.shaped d = true ∧ SeqAt.shaped (.list ds) = true ∧ b = ds.any fun z => PyData.eqv z d) ∨
    (∃ p us, y = .ref p ∧ SqT g.K H p us ∧ flatV x = true ∧ us.all flatV = true ∧ b = inV x us) ∨
    (∃ c z, x = .str ⟨#[c]⟩ ∧ y = .str z ∧ b = decide (c ∈ z.cps.toList)) ∨ ∃ a o, y = .ref a ∧ DGet H a x o ∧ b = o.isSome := by
  unfold pInB at e
  split at e
  · rename_i ys q
    split at e
    · rename_i d ds q1 q2
      split at e
      · rename_i hs; cases e
        obtain ⟨a, vs, rfl, e1, r1⟩ := lst_at hh ry q
        exact .inl ⟨d, ds, dpr_at hh rx q1, .lst e1 (dpL_at hh r1 q2), hs.1, hs.2, rfl⟩
      · cases e
    · cases e
  · rename_i ys q
    split at e
    · rename_i u us q1 q2
      split at e
      · rename_i hs; cases e
        obtain ⟨a, vs, rfl, e1, r1⟩ := tup_at hh ry q
        obtain rfl := sc_at rx q1
        obtain rfl := scs_at r1 q2
        exact .inr (.inl ⟨a, vs, rfl, SqT.of e1, hs.1, hs.2, rfl⟩)
      · cases e
    · cases e
  · rename_i z q
    split at e
    · rename_i s
      split at e
      · rename_i c hc; cases e
        have ez : s = ⟨#[c]⟩ := by
          cases s with | mk cps =>
          congr 1
          have := congrArg List.toArray hc
          simpa using this
        exact .inr (.inr (.inl ⟨c, z, by rw [rx.str_inv, ez], dr_str ry q, rfl⟩))
      · cases e
    · cases e
  · rename_i h q
    cases eg : pGet A (.m h) v with
    | none => rw [eg] at e; cases e
    | some o =>
      rw [eg] at e; cases e
      have ew : w = .m h := by
        cases w with
        | m k => unfold dr at q; simp only at q; split at q <;> cases q; rfl
        | _ => cases q
      subst ew
      obtain ⟨a, r, rfl, h1, h2, h3⟩ := pGet_at hh ry rx eg
      refine .inr (.inr (.inr ⟨a, r, rfl, h1, ?_⟩))
      cases o with
      | none => rw [h2 rfl]; rfl
      | some p => obtain ⟨z, ez, _⟩ := h3 p rfl; rw [ez]; rfl
  · cases e
theorem v2_in : V2 g (rInU g.K) pIn := fun lk F ρ A H x y v w z Q hh rx ry e q => by
  unfold pIn at e
  cases eb : pInB A v w with
  | none => rw [eb] at e; cases e
  | some b =>
    rw [eb] at e; cases e
    have h := q F H (.refl F ρ) hh _ (.bl b)
    rcases pInB_at hh rx ry eb with ⟨d, ds, h1, h2, h3, h4, rfl⟩ | ⟨p, us, h1, h2, h3, h4, rfl⟩ | ⟨c, z, h1, h2, rfl⟩ | ⟨a, o, h1, h2, rfl⟩
    · exact .inl (.inl (.inl ⟨d, ds, h1, h2, h3, h4, h⟩))
    · exact .inl (.inl (.inr ⟨p, us, h1, .inr h2, h3, h4, h⟩))
    · exact .inl (.inr ⟨c, z, h1, h2, h⟩)
    · exact .inr ⟨a, o, h1, h2, h⟩
theorem v2_notIn : V2 g (rNotInU g.K) pNotIn := fun lk F ρ A H x y v w z Q hh rx ry e q => by
  unfold pNotIn at e
  cases eb : pInB A v w with
  | none => rw [eb] at e; cases e
  | some b =>
    rw [eb] at e; cases e
    have h := q F H (.refl F ρ) hh _ (.bl (!b))
    rcases pInB_at hh rx ry eb with ⟨d, ds, h1, h2, h3, h4, rfl⟩ | ⟨p, us, h1, h2, h3, h4, rfl⟩ | ⟨c, z, h1, h2, rfl⟩ | ⟨a, o, h1, h2, rfl⟩
    · exact .inl (.inl (.inl ⟨d, ds, h1, h2, h3, h4, h⟩))
    · exact .inl (.inl (.inr ⟨p, us, h1, .inr h2, h3, h4, h⟩))
    · exact .inl (.inr ⟨c, z, h1, h2, h⟩)
    · exact .inr ⟨a, o, h1, h2, h⟩
end
/-! ### indices, slices, lengths -/
def pIx (A : Ar) (v w : PV) : Option PV := match dr A v, w with
  | .lst xs, .int i => atI xs i
  | .tup xs, .int i => atI xs i
  | .scr ns, .int i => (atI ns i).map .int
  | .str z, .int i => if z.length ≤ sizeLine then (atI z.cps.toList i).map fun c => .str ⟨#[c]⟩ else none
  | .m h, k => (pGet A (.m h) k).bind id
  | _, _ => none
def cutP (xs : List PV) (lo hi : Option Int) : List PV := (xs.drop (HT.sIx xs.length 0 lo)).take (HT.sIx xs.length xs.length hi - HT.sIx xs.length 0 lo)
def pSl (A : Ar) (v : PV) (lo hi : Option Int) : Option PV := match dr A v with
  | .lst xs => some (.lst (cutP xs lo hi))
  | .tup xs => some (.tup (cutP xs lo hi))
  | .str z => if z.length ≤ sizeLine then some (.str (cutS z lo hi)) else none
  | _ => none
def pLen (A : Ar) (v : PV) : Option PV := match dr A v with
  | .lst xs => some (.int xs.length)
  | .tup xs => some (.int xs.length)
  | .scr xs => some (.int xs.length)
  | .str z => if z.length ≤ sizeLine then some (.int z.length) else none
  | .m h => match cellOf A (.m h) with
    | some (.dK kvs) => some (.int kvs.length)
    | _ => none
  | _ => none
section
variable {g : Gx} {X : Cx} {lk : Lks} {F G : Hp} {ρ τ : List Addr} {A : Ar} {H : Hp} {x y : V} {v w : PV}
theorem rpl_at {xs : List V} {vs : List PV} {i : Int} {z : PV} (r : RpL g F ρ xs vs) (e : atI vs i = some z) : ∃ u, atI xs i = some u ∧ Rp g F ρ u z := by
  unfold atI at e ⊢
  rw [r.length]
  cases q : ixN vs.length i with
  | none => rw [q] at e; cases e
  | some j => rw [q] at e; exact r.get e
theorem dr_scr {ns : List Int} (r : Rp g F ρ x v) (e : dr A v = .scr ns) : ∃ a, x = .ref a ∧ SqL g.K F a (ns.map V.int) := by
  cases r with
  | scr h => cases e; exact ⟨_, rfl, h⟩
  | m er => unfold dr at e; simp only at e; split at e <;> cases e
  | _ => cases e
def rDix : R2 := fun x y H Q => ∃ a v, x = .ref a ∧ DGet H a y (some v) ∧ Q v H
theorem ix_dict (hu : X.A.units + 1 < cLine) : IxR X rDix := fun value slice pins s σ H x y v u Q I rx ry ⟨a, z, ex, gg, q⟩ hs => by
  subst ex; cases rx
  unfold subscriptTail
  refine wpAny_bind ?_
  have hT := dict_typeIs I gg
  rw [getitemInPython_of_ne hT.not_modules]
  refine wpAny_bind (wpAny_specialOf hT PySem.F.slot_dict_getitem.lookup ?_)
  have fin : wpAny (model X.prog X.w) X.A (subscripted slice false (.ref a) u) (fun r s₃ => wpAny (model X.prog X.w) X.A (letTemporaryGo value (.ref a) r >>= fun _ => pure r) (EP X pins σ Q) X.xe s₃) X.xe s := by
    rw [hs]
    exact wpAny_operating (wpAny_mono (d_getItem hu I gg ry fun w' s3 I3 rw' => (⟨z, H, I3, rw', q⟩ : EP X pins σ Q w' s3)) (fun r s₃ h₃ => wpAny_bind (wpAny_letTemporaryGo (wpAny_pure h₃))) fun _ _ x => x)
  first
    | exact wpAny_pure (wpAny_bind fin)
    | exact wpAny_bind (wpAny_pure (wpAny_bind fin))
    | exact wpAny_bind fin
def rIxU (K : PySem.W.Frag) : R2 := fun x y H Q => ((rIxL K x y H Q ∨ rIxT K x y H Q) ∨ rIxS x y H Q) ∨ rDix x y H Q
theorem ix_U (hu : X.A.units + 1 < cLine) : IxR X (rIxU X.K) := ((ix_list.or ix_tup).or ix_str).or (ix_dict hu)
theorem atI_mapint {ns : List Int} {i : Int} : atI (ns.map V.int) i = (atI ns i).map V.int := by
  unfold atI
  rw [List.length_map]
  cases ixN ns.length i <;> simp
theorem v2_ix : V2 g (rIxU g.K) pIx := fun lk F ρ A H x y v w z Q hh rx ry e q => by
  unfold pIx at e
  split at e
  · rename_i xs i q1
    obtain ⟨a, vs, rfl, e1, r1⟩ := lst_at hh rx q1
    obtain ⟨u, h1, h2⟩ := rpl_at r1 e
    exact .inl (.inl (.inl ⟨a, vs, i, u, rfl, ry.int_inv, e1, h1, q F H (.refl F ρ) hh _ h2⟩))
  · rename_i xs i q1
    obtain ⟨a, vs, rfl, e1, r1⟩ := tup_at hh rx q1
    obtain ⟨u, h1, h2⟩ := rpl_at r1 e
    exact .inl (.inl (.inr ⟨a, vs, i, u, rfl, ry.int_inv, SqT.of e1, h1, q F H (.refl F ρ) hh _ h2⟩))
  · rename_i ns i q1
    obtain ⟨a, rfl, h⟩ := dr_scr rx q1
    cases qn : atI ns i with
    | none => rw [qn] at e; cases e
    | some n =>
      rw [qn] at e; cases e
      exact .inl (.inl (.inl ⟨a, _, i, .int n, rfl, ry.int_inv, h.le hh.sub, by rw [atI_mapint, qn]; rfl, q F H (.refl F ρ) hh _ (.int n)⟩))
  · rename_i s i q1
    split at e
    · rename_i hl
      cases qn : atI s.cps.toList i with
      | none => rw [qn] at e; cases e
      | some c =>
        rw [qn] at e; cases e
        exact .inl (.inr ⟨s, i, c, dr_str rx q1, ry.int_inv, hl, qn, q F H (.refl F ρ) hh _ (.str _)⟩)
    · cases e
  · rename_i kk _ _ h q1
    have ev : v = .m h := by
      cases v with
      | m k => unfold dr at q1; simp only at q1; split at q1 <;> cases q1; rfl
      | _ => cases q1
    subst ev
    cases eg : pGet A (.m h) kk with
    | none => rw [eg] at e; cases e
    | some o =>
      rw [eg] at e
      cases o with
      | none => cases e
      | some p =>
        cases e
        obtain ⟨a, r, rfl, h1, h2, h3⟩ := pGet_at hh rx ry eg
        obtain ⟨z', rfl, rz⟩ := h3 _ rfl
        exact .inr ⟨a, z', rfl, h1, q F H (.refl F ρ) hh _ rz⟩
  · cases e
theorem rpl_cut {xs : List V} {vs : List PV} {lo hi : Option Int} (r : RpL g F ρ xs vs) : RpL g F ρ (cutV xs lo hi) (cutP vs lo hi) := by
  unfold cutV cutP; rw [r.length]; exact (r.drop _).take _
def rSlU (K : PySem.W.Frag) : V → Option Int → Option Int → Hp → VK → Prop := fun x l u H Q => (rSlL K x l u H Q ∨ rSlA K x l u H Q) ∨ rSlS x l u H Q
theorem sl_U : SlR X (rSlU X.K) := (sl_list.or sl_tupA).or sl_str
theorem cut_all {vs : List PV} {lo hi : Option Int} (h : HT.sIx vs.length 0 lo = 0 ∧ HT.sIx vs.length vs.length hi = vs.length) : cutP vs lo hi = vs := by
  unfold cutP; rw [h.1, h.2]; simp
theorem sl_at {lo hi : Option Int} {z : PV} {Q : VK} (hh : HR g lk F ρ A H) (rx : Rp g F ρ x v) (e : pSl A v lo hi = some z) (q : ∀ F' H', Ex F ρ F' ρ → HR g lk F' ρ A H' → ∀ q, Rp g F' ρ q z → Q q H') : rSlU g.K x lo hi H Q := by
  unfold pSl at e
  split at e
  · rename_i xs q1; cases e
    obtain ⟨a, vs, rfl, e1, r1⟩ := lst_at hh rx q1
    exact .inl (.inl ⟨a, vs, rfl, e1, new_lst hh (rpl_cut r1) q⟩)
  · rename_i xs q1; cases e
    obtain ⟨a, vs, rfl, e1, r1⟩ := tup_at hh rx q1
    refine .inl (.inr ⟨a, vs, rfl, SqT.of e1, fun hw => ?_, fun _ => new_tup hh (rpl_cut r1) q⟩)
    have t1 : Rp g F ρ (.ref a) (.tup xs) := by
      cases rx with
      | tup h r => cases q1; exact .tup h r
      | m er => unfold dr at q1; simp only at q1; split at q1 <;> cases q1
      | _ => cases q1
    refine q F H (.refl F ρ) hh _ ?_
    rw [r1.length] at hw
    rw [cut_all hw]; exact t1
  · rename_i s q1
    split at e
    · rename_i hl; cases e
      exact .inr ⟨s, dr_str rx q1, hl, q F H (.refl F ρ) hh _ (.str _)⟩
    · cases e
  · cases e
/-- a call by values of one thing -/
def V1 (g : Gx) (r : List V → Hp → VK → Prop) (p : Ar → PV → Option PV) : Prop := ∀ lk F ρ A H x v z (Q : VK), HR g lk F ρ A H → Rp g F ρ x v → p A v = some z →
  (∀ F' H', Ex F ρ F' ρ → HR g lk F' ρ A H' → ∀ q, Rp g F' ρ q z → Q q H') → r [x] H Q
theorem callOr {f : Value} {r r' : List V → Hp → VK → Prop} (h : CallR X f r) (h' : CallR X f r') : CallR X f (fun xs H Q => r xs H Q ∨ r' xs H Q) := fun pins s σ H xs us Q I rs q => q.elim (h pins s σ H xs us Q I rs) (h' pins s σ H xs us Q I rs)
def rLenU (K : PySem.W.Frag) : List V → Hp → VK → Prop := fun xs H Q => ((∃ p ys, ∃ n : Int, xs = [.ref p] ∧ (SqL K H p ys ∨ SqT K H p ys) ∧ (ys.length : Int) = n ∧ Q (.int n) H) ∨ (∃ z, xs = [.str z] ∧ z.length ≤ sizeLine ∧ Q (.int z.length) H)) ∨
  (∃ a kvs, xs = [V.ref a] ∧ Rd H a (.dK kvs) ∧ Q (.int kvs.length) H)
theorem call_lenU : CallR X (.builtin "len") (rLenU X.K) := callOr (callOr call_lenK call_len_str) fun pins s σ H xs us Q I r h => by
  obtain ⟨a, kvs, rfl, ha, q⟩ := h
  obtain ⟨u, rfl, ru⟩ := vals1 r
  cases ru
  exact d_len I ha fun t s' I' => ⟨.int kvs.length, H, I', ⟨t, rfl⟩, q⟩
theorem v1_len : V1 g (rLenU g.K) pLen := fun lk F ρ A H x v z Q hh rx e q => by
  unfold pLen at e
  split at e
  · rename_i xs q1; cases e
    obtain ⟨a, vs, rfl, e1, r1⟩ := lst_at hh rx q1
    exact .inl (.inl ⟨a, vs, _, rfl, .inl e1, by rw [r1.length], q F H (.refl F ρ) hh _ (.int _)⟩)
  · rename_i xs q1; cases e
    obtain ⟨a, vs, rfl, e1, r1⟩ := tup_at hh rx q1
    exact .inl (.inl ⟨a, vs, _, rfl, .inr (SqT.of e1), by rw [r1.length], q F H (.refl F ρ) hh _ (.int _)⟩)
  · rename_i ns q1; cases e
    obtain ⟨a, rfl, h⟩ := dr_scr rx q1
    exact .inl (.inl ⟨a, _, _, rfl, .inl (h.le hh.sub), by rw [List.length_map], q F H (.refl F ρ) hh _ (.int _)⟩)
  · rename_i s q1
    split at e
    · rename_i hl; cases e
      exact .inl (.inr ⟨s, by rw [dr_str rx q1], hl, q F H (.refl F ρ) hh _ (.int _)⟩)
    · cases e
  · rename_i h q1
    have ev : v = .m h := by
      cases v with
      | m k => unfold dr at q1; simp only at q1; split at q1 <;> cases q1; rfl
      | _ => cases q1
    subst ev
    split at e
    · rename_i kvs qc; cases e
      obtain ⟨a, ks, rfl, h1, h2⟩ := dK_at hh rx qc
      have := q F H (.refl F ρ) hh _ (.int kvs.length)
      rw [← rpk_len h2] at this
      exact .inr ⟨a, ks, rfl, h1, this⟩
    · cases e
  · cases e
/-! calls of built-ins of one thing -/
def pInt (A : Ar) (v : PV) : Option PV := match v with
  | .int i => some (.int i)
  | .bl b => some (.int (if b then 1 else 0))
  | _ => none
theorem v1_int : V1 g (fun xs H Q => (∃ i, xs = [.int i] ∧ Q (.int i) H) ∨ ∃ k, xs = [.bl k] ∧ Q (.int (if k then 1 else 0)) H) pInt := fun lk F ρ A H x v z Q hh rx e q => by
  unfold pInt at e
  split at e
  · cases e; exact .inl ⟨_, by rw [rx.int_inv], q F H (.refl F ρ) hh _ (.int _)⟩
  · cases e; exact .inr ⟨_, by rw [rx.bl_inv], q F H (.refl F ρ) hh _ (.int _)⟩
  · cases e
def pAbs (A : Ar) (v : PV) : Option PV := match v with
  | .int i => some (.int (if i < 0 then -i else i))
  | _ => none
theorem v1_abs : V1 g (fun xs H Q => ∃ i, xs = [.int i] ∧ Q (.int (if i < 0 then -i else i)) H) pAbs := fun lk F ρ A H x v z Q hh rx e q => by
  unfold pAbs at e
  split at e
  · cases e; exact ⟨_, by rw [rx.int_inv], q F H (.refl F ρ) hh _ (.int _)⟩
  · cases e
def pListOf (A : Ar) (v : PV) : Option PV := match dr A v with
  | .lst xs => some (.lst xs)
  | .tup xs => some (.lst xs)
  | _ => none
theorem v1_list : V1 g (fun xs H Q => ∃ p ys, xs = [.ref p] ∧ (SqL g.K H p ys ∨ SqT g.K H p ys) ∧ ∀ l, H l = none → Q (.ref l) (upd H l (.lst ys))) pListOf := fun lk F ρ A H x v z Q hh rx e q => by
  unfold pListOf at e
  split at e
  · rename_i xs q1; cases e
    obtain ⟨a, vs, rfl, e1, r1⟩ := lst_at hh rx q1
    exact ⟨a, vs, rfl, .inl e1, new_lst hh r1 q⟩
  · rename_i xs q1; cases e
    obtain ⟨a, vs, rfl, e1, r1⟩ := tup_at hh rx q1
    exact ⟨a, vs, rfl, .inr (SqT.of e1), new_lst hh r1 q⟩
  · cases e
def pTupOf (A : Ar) (v : PV) : Option PV := match dr A v with
  | .lst xs => some (.tup xs)
  | .tup xs => some (.tup xs)
  | _ => none
theorem v1_tup : V1 g (fun xs H Q => ∃ p ys, xs = [.ref p] ∧ ((SqL g.K H p ys ∧ ∀ l, H l = none → Q (.ref l) (upd H l (.tup ys))) ∨ (SqT g.K H p ys ∧ Q (.ref p) H))) pTupOf := fun lk F ρ A H x v z Q hh rx e q => by
  unfold pTupOf at e
  split at e
  · rename_i xs q1; cases e
    obtain ⟨a, vs, rfl, e1, r1⟩ := lst_at hh rx q1
    exact ⟨a, vs, rfl, .inl ⟨e1, new_tup hh r1 q⟩⟩
  · rename_i xs q1; cases e
    obtain ⟨a, vs, rfl, e1, r1⟩ := tup_at hh rx q1
    have t1 : Rp g F ρ (.ref a) (.tup xs) := by
      cases rx with
      | tup h r => cases q1; exact .tup h r
      | m er => unfold dr at q1; simp only at q1; split at q1 <;> cases q1
      | _ => cases q1
    exact ⟨a, vs, rfl, .inr ⟨SqT.of e1, q F H (.refl F ρ) hh _ t1⟩⟩
  · cases e
def bools : List PV → Option (List Bool)
  | [] => some []
  | .bl b :: xs => (bools xs).map (b :: ·)
  | _ => none
theorem bools_at : ∀ {vs : List PV} {xs : List V} {bs : List Bool}, RpL g F ρ xs vs → bools vs = some bs → xs = bs.map V.bl
  | [], _, _, .nil, e => by cases e; rfl
  | v :: vs, _, bs, .cons h r, e => by
    cases v <;> unfold bools at e <;> first | cases e | skip
    cases q : bools vs with
    | none => rw [q] at e; cases e
    | some cs => rw [q] at e; cases e; rw [h.bl_inv, bools_at r q]; rfl
def pAll (A : Ar) (v : PV) : Option PV := match dr A v with
  | .lst xs => (bools xs).map fun bs => .bl (bs.all id)
  | _ => none
def pAny (A : Ar) (v : PV) : Option PV := match dr A v with
  | .lst xs => (bools xs).map fun bs => .bl (bs.any id)
  | _ => none
theorem v1_all : V1 g (rAll g.K) pAll := fun lk F ρ A H x v z Q hh rx e q => by
  unfold pAll at e
  split at e
  · rename_i xs q1
    cases qb : bools xs with
    | none => rw [qb] at e; cases e
    | some bs =>
      rw [qb] at e; cases e
      obtain ⟨a, vs, rfl, e1, r1⟩ := lst_at hh rx q1
      obtain rfl := bools_at r1 qb
      exact ⟨a, bs, rfl, e1, q F H (.refl F ρ) hh _ (.bl _)⟩
  · cases e
theorem v1_any : V1 g (rAny g.K) pAny := fun lk F ρ A H x v z Q hh rx e q => by
  unfold pAny at e
  split at e
  · rename_i xs q1
    cases qb : bools xs with
    | none => rw [qb] at e; cases e
    | some bs =>
      rw [qb] at e; cases e
      obtain ⟨a, vs, rfl, e1, r1⟩ := lst_at hh rx q1
      obtain rfl := bools_at r1 qb
      exact ⟨a, bs, rfl, e1, q F H (.refl F ρ) hh _ (.bl _)⟩
  · cases e
/-! truth -/
def pTru (A : Ar) (v : PV) : Option Bool := match dr A v with
  | .non => some false
  | .bl b => some b
  | .int i => some (i != 0)
  | .str z => if z.length ≤ sizeLine then some ((z.length : Int) != 0) else none
  | .lst xs => some (!xs.isEmpty)
  | .tup xs => some (!xs.isEmpty)
  | _ => none
theorem rpl_empty {xs : List V} {vs : List PV} (r : RpL g F ρ xs vs) : xs.isEmpty = vs.isEmpty := by cases r <;> rfl
theorem tru_at {b : Bool} (hh : HR g lk F ρ A H) (rx : Rp g F ρ x v) (e : pTru A v = some b) : TruV g.K x H b := by
  unfold pTru at e
  split at e
  · rename_i q1; cases e
    have : x = .non := by
      cases rx with
      | m er => unfold dr at q1; simp only at q1; split at q1 <;> cases q1
      | _ => first | rfl | cases q1
    subst this; rfl
  · rename_i c q1; cases e
    have : x = .bl b := by
      cases rx with
      | m er => unfold dr at q1; simp only at q1; split at q1 <;> cases q1
      | _ => first | (cases q1; rfl) | cases q1
    subst this; rfl
  · rename_i i q1; cases e; rw [dr_int rx q1]; rfl
  · rename_i z q1
    split at e
    · rename_i hl; cases e; rw [dr_str rx q1]; exact ⟨hl, rfl⟩
    · cases e
  · rename_i xs q1; cases e
    obtain ⟨a, vs, rfl, e1, r1⟩ := lst_at hh rx q1
    exact .inl ⟨vs, e1, by rw [rpl_empty r1]⟩
  · rename_i xs q1; cases e
    obtain ⟨a, vs, rfl, e1, r1⟩ := tup_at hh rx q1
    exact .inr (.inl ⟨vs, SqT.of e1, by rw [rpl_empty r1]⟩)
  · cases e
end
end Lk
set_option Elab.async false
set_option linter.all false
set_option maxRecDepth 100000
namespace Lk
open PySem L2
/-! ### expressions, put together -/
def asB (v : PV) : M Bool := match v with
  | .bl b => pure b
  | _ => bad
def asI (v : PV) : M Int := match v with
  | .int b => pure b
  | _ => bad
def u1 (f : Ar → PV → Option PV) (ua : M PV) : M PV := ua >>= fun v => ask fun A => f A v
def uLst (us : M (List PV)) : M PV := us >>= fun xs => if xs.length ≤ sizeLine then pure (.lst xs) else bad
def uTup (us : M (List PV)) : M PV := us >>= fun xs => if xs.length ≤ sizeLine then pure (.tup xs) else bad
def uCons (ua : M PV) (us : M (List PV)) : M (List PV) := ua >>= fun x => us >>= fun xs => pure (x :: xs)
def uNewL (us : M (List PV)) : M PV := us >>= fun xs => if xs.length ≤ sizeLine then (fun A => some (.ok (.m A.length), A ++ [some (false, .lst xs)])) else bad
def uTru (ua : M PV) : M Bool := ua >>= fun v => ask fun A => pTru A v
def uNot (ua : M Bool) : M Bool := ua >>= fun b => pure (!b)
def uAnd (ua ub : M Bool) : M Bool := ua >>= fun b => if b = true then ub else pure false
def uOr (ua ub : M Bool) : M Bool := ua >>= fun b => if b = true then pure true else ub
def uAndV (ua ub : M PV) : M PV := ua >>= fun v => (ask fun A => pTru A v) >>= fun b => if b = true then ub else pure v
def uOrV (ua ub : M PV) : M PV := ua >>= fun v => (ask fun A => pTru A v) >>= fun b => if b = true then pure v else ub
def uNotV (ua : M PV) : M PV := uTru ua >>= fun b => pure (.bl (!b))
def uIfE (uc : M Bool) (ua ub : M PV) : M PV := uc >>= fun b => if b = true then ua else ub
theorem if_fail {p : Prop} [Decidable p] {α : Type} {u : M α} {A B : Ar} {o : Out α} (h : (if p then u else bad) A = some (o, B)) : p ∧ u A = some (o, B) := by
  by_cases hp : p
  · rw [if_pos hp] at h; exact ⟨hp, h⟩
  · rw [if_neg hp] at h; cases h
section
variable {g : Gx} {X : Cx} {W : WX} {ε : List (Option PV)} {a b c e : Expr} {es rest : List Expr} {ua ub : M PV} {us : M (List PV)} {uc ud : M Bool} {pos : Pos} {lk : Lks} {F G : Hp} {ρ τ : List Addr} {A A' : Ar} {σ : St} {H : Hp} {ta tb : TE} {tA : TA} {tT tU : TT}
theorem s_const {x : V} {v : PV} (r : ∀ F ρ, Rp g F ρ x v) : SimE g W ε (tC x) (pure v) := fun lk F ρ A σ H Q hh s o A' e post => by
  cases e; exact EndE.ok post rfl hh (r F ρ)
theorem x_int {n : Int} {k} : XE g X W ε (.Constant (.int n) k pos) (pure (.int n)) := ⟨_, pe_int, s_const fun _ _ => .int n⟩
theorem x_str {n : Str} {k} : XE g X W ε (.Constant (.str n) k pos) (pure (.str n)) := ⟨_, pe_str, s_const fun _ _ => .str n⟩
theorem x_bl {n : Bool} {k} : XE g X W ε (.Constant (.bool n) k pos) (pure (.bl n)) := ⟨_, pe_bl, s_const fun _ _ => .bl n⟩
theorem x_non {k} : XE g X W ε (.Constant .none k pos) (pure .non) := ⟨_, pe_non, s_const fun _ _ => .non⟩
theorem x_cmp {op : CmpOp} {r : R2} {f : Ar → PV → PV → Option PV} (ho : OpR X (compareOp op) r) (hr : V2 g r f) (ha : XE g X W ε a ua) (hb : XE g X W ε b ub) (hm : behindInMarks op b = false) : XE g X W ε (.Compare a [op] [b] pos) (u2 f ua ub) :=
  let ⟨_, p, s⟩ := ha; let ⟨_, q, t⟩ := hb; ⟨_, pe_cmpR ho p q hm, x_op2 hr s t⟩
theorem SimT.of {t : TE} {u : M PV} (h : SimE g W ε t u) : SimT g W ε (tTest t) (u >>= asB) := fun lk F ρ A σ H Q hh s o A' e post =>
  h.step hh s e (.of_t post) fun F1 ρ1 A1 H1 v x k1 h1 rx e2 => by
    cases v with
    | bl b => cases e2; exact ⟨b, rx.bl_inv, EndT.ok post rfl k1 h1⟩
    | _ => cases e2
theorem t_cmp {op : CmpOp} {r : R2} {f : Ar → PV → PV → Option PV} (ho : OpR X (compareOp op) r) (hr : V2 g r f) (ha : XE g X W ε a ua) (hb : XE g X W ε b ub) (hm : behindInMarks op b = false) : XT g X W ε (.Compare a [op] [b] pos) (u2 f ua ub >>= asB) :=
  let ⟨_, p, s⟩ := ha; let ⟨_, q, t⟩ := hb; ⟨_, pt_cmpR ho p q hm, .of (x_op2 hr s t)⟩
theorem t_tru (ha : XE g X W ε a ua) (hK : X.K = g.K) (he : ∀ whole, isTrue a X.env whole = (do let v ← whole; standAt a.pos; holding [v] (truthy v))) : XT g X W ε a (uTru ua) :=
  let ⟨_, p, s⟩ := ha; ⟨_, pt_truth p he, fun lk F ρ A σ H Q hh sr o A' e post =>
    s.step hh sr e (.of_t post) fun F1 ρ1 A1 H1 v x k1 h1 rx e2 => by
      obtain ⟨k, ek, rfl, rfl⟩ := ask_inv e2
      exact ⟨k, by rw [hK]; exact tru_at h1 rx ek, EndT.ok post rfl k1 h1⟩⟩
theorem t_not (ha : XT g X W ε a uc) : XT g X W ε (.UnaryOp .Not a pos) (uNot uc) :=
  let ⟨_, p, s⟩ := ha; ⟨_, pt_not p, fun lk F ρ A σ H Q hh sr o A' e post =>
    s.step hh sr e (.of_t post) fun F1 ρ1 A1 H1 v k1 h1 e2 => by cases e2; exact EndT.ok post rfl k1 h1⟩
theorem w_and1 (ha : XT g X W ε a uc) : XW g X W ε (.BoolOp .And [a] pos) uc := let ⟨_, p, s⟩ := ha; ⟨_, pw_and1 p, s⟩
theorem w_or1 (ha : XT g X W ε a uc) : XW g X W ε (.BoolOp .Or [a] pos) uc := let ⟨_, p, s⟩ := ha; ⟨_, pw_or1 p, s⟩
theorem EndT.mono' {o : Out Bool} {Q : Bool → Hp → Prop} (post : ∀ F' ρ' H', Ex F ρ F' ρ' → HR g lk F' ρ' A' H' → EndT g W σ Q F' ρ' H' o) (k : Ex F ρ G τ) : ∀ F' ρ' H', Ex G τ F' ρ' → HR g lk F' ρ' A' H' → EndT g W σ Q F' ρ' H' o := fun F' ρ' H' k' hh => post F' ρ' H' (k.trans k') hh
theorem EndE.mono' {o : Out PV} {Q : VK} (post : ∀ F' ρ' H', Ex F ρ F' ρ' → HR g lk F' ρ' A' H' → EndE g W σ Q F' ρ' H' o) (k : Ex F ρ G τ) : ∀ F' ρ' H', Ex G τ F' ρ' → HR g lk F' ρ' A' H' → EndE g W σ Q F' ρ' H' o := fun F' ρ' H' k' hh => post F' ρ' H' (k.trans k') hh
theorem EndA.mono' {o : Out (List PV)} {Q : List V → Hp → Prop} (post : ∀ F' ρ' H', Ex F ρ F' ρ' → HR g lk F' ρ' A' H' → EndA g W σ Q F' ρ' H' o) (k : Ex F ρ G τ) : ∀ F' ρ' H', Ex G τ F' ρ' → HR g lk F' ρ' A' H' → EndA g W σ Q F' ρ' H' o := fun F' ρ' H' k' hh => post F' ρ' H' (k.trans k') hh
theorem w_and (ha : XT g X W ε a uc) (hb : XW g X W ε (.BoolOp .And (b :: rest) pos) ud) : XW g X W ε (.BoolOp .And (a :: b :: rest) pos) (uAnd uc ud) :=
  let ⟨_, p, s⟩ := ha; let ⟨_, q, t⟩ := hb; ⟨_, pw_and p q, fun lk F ρ A σ H Q hh sr o A' e post =>
    s.step hh sr e (.of_t post) fun F1 ρ1 A1 H1 v k1 h1 e2 => by
      cases v with
      | true => exact ifT rfl (t lk F1 ρ1 A1 σ H1 Q h1 (sr.mono k1) o A' e2 (EndT.mono' post k1))
      | false => cases e2; exact ifF rfl (EndT.ok post rfl k1 h1)⟩
theorem w_or (ha : XT g X W ε a uc) (hb : XW g X W ε (.BoolOp .Or (b :: rest) pos) ud) : XW g X W ε (.BoolOp .Or (a :: b :: rest) pos) (uOr uc ud) :=
  let ⟨_, p, s⟩ := ha; let ⟨_, q, t⟩ := hb; ⟨_, pw_or p q, fun lk F ρ A σ H Q hh sr o A' e post =>
    s.step hh sr e (.of_t post) fun F1 ρ1 A1 H1 v k1 h1 e2 => by
      cases v with
      | false => exact ifF rfl (t lk F1 ρ1 A1 σ H1 Q h1 (sr.mono k1) o A' e2 (EndT.mono' post k1))
      | true => cases e2; exact ifT rfl (EndT.ok post rfl k1 h1)⟩
theorem t_w (ha : XW g X W ε a uc) : XT g X W ε a uc := let ⟨_, p, s⟩ := ha; ⟨_, p.pt, s⟩
theorem x_one {op : BoolOp} (ha : XE g X W ε a ua) (h : ∀ t, PE X a t → PE X (.BoolOp op [a] pos) t) : XE g X W ε (.BoolOp op [a] pos) ua := let ⟨_, p, s⟩ := ha; ⟨_, h _ p, s⟩
theorem x_and (hK : X.K = g.K) (ha : XE g X W ε a ua) (hb : XE g X W ε (.BoolOp .And (b :: rest) pos) ub) : XE g X W ε (.BoolOp .And (a :: b :: rest) pos) (uAndV ua ub) :=
  let ⟨_, p, s⟩ := ha; let ⟨_, q, t⟩ := hb; ⟨_, pe_andT p q, fun lk F ρ A σ H Q hh sr o A' e post =>
    s.step hh sr e (.of_e post) fun F1 ρ1 A1 H1 v x k1 h1 rx e2 => by
      rcases M.bind_inv e2 with ⟨k, A2, e3, e4⟩ | ⟨c, fs, e3, _⟩
      · obtain ⟨k', ek, z, rfl⟩ := ask_inv e3
        cases z
        refine ⟨k, by rw [hK]; exact tru_at h1 rx ek, ?_⟩
        cases k with
        | true => exact ifT rfl (t lk F1 ρ1 _ σ H1 Q h1 (sr.mono k1) o A' e4 (EndE.mono' post k1))
        | false => cases e4; exact ifF rfl (EndE.okX post rfl k1 h1 rx)
      · obtain ⟨k', ek, z, _⟩ := ask_inv e3; cases z⟩
theorem x_or (hK : X.K = g.K) (ha : XE g X W ε a ua) (hb : XE g X W ε (.BoolOp .Or (b :: rest) pos) ub) : XE g X W ε (.BoolOp .Or (a :: b :: rest) pos) (uOrV ua ub) :=
  let ⟨_, p, s⟩ := ha; let ⟨_, q, t⟩ := hb; ⟨_, pe_orT p q, fun lk F ρ A σ H Q hh sr o A' e post =>
    s.step hh sr e (.of_e post) fun F1 ρ1 A1 H1 v x k1 h1 rx e2 => by
      rcases M.bind_inv e2 with ⟨k, A2, e3, e4⟩ | ⟨c, fs, e3, _⟩
      · obtain ⟨k', ek, z, rfl⟩ := ask_inv e3
        cases z
        refine ⟨k, by rw [hK]; exact tru_at h1 rx ek, ?_⟩
        cases k with
        | false => exact ifF rfl (t lk F1 ρ1 _ σ H1 Q h1 (sr.mono k1) o A' e4 (EndE.mono' post k1))
        | true => cases e4; exact ifT rfl (EndE.okX post rfl k1 h1 rx)
      · obtain ⟨k', ek, z, _⟩ := ask_inv e3; cases z⟩
theorem x_not (hK : X.K = g.K) (ha : XE g X W ε a ua) : XE g X W ε (.UnaryOp .Not a pos) (uNotV ua) :=
  let ⟨_, p, s⟩ := ha; ⟨_, pe_notT p, fun lk F ρ A σ H Q hh sr o A' e post => by
    unfold uNotV uTru at e
    rcases M.bind_inv e with ⟨k, A2, e3, e4⟩ | ⟨c, fs, e3, rfl⟩
    · cases e4
      refine s.step hh sr e3 (fun _ _ z => nomatch z) fun F1 ρ1 A1 H1 v x k1 h1 rx e2 => ?_
      obtain ⟨k', ek, z, rfl⟩ := ask_inv e2
      cases z
      exact ⟨k, by rw [hK]; exact tru_at h1 rx ek, EndE.okX post rfl k1 h1 (.bl _)⟩
    · have px := PX.of_e post
      refine s.step (o := (Out.ex c fs : Out Bool)) hh sr e3 (fun c' fs' z => by cases z; exact px c fs rfl) fun F1 ρ1 A1 H1 v x k1 h1 rx e2 => ?_
      obtain ⟨k', ek, z, rfl⟩ := ask_inv e2; cases z⟩
theorem x_ifE (hc : XT g X W ε c uc) (ha : XE g X W ε a ua) (hb : XE g X W ε b ub) : XE g X W ε (.IfExp c a b pos) (uIfE uc ua ub) :=
  let ⟨_, p, s⟩ := hc; let ⟨_, q, t⟩ := ha; let ⟨_, r, u⟩ := hb; ⟨_, pe_ifExp p q r, fun lk F ρ A σ H Q hh sr o A' e post =>
    s.step hh sr e (.of_e post) fun F1 ρ1 A1 H1 v k1 h1 e2 => by
      cases v with
      | true => exact ifT rfl (t lk F1 ρ1 A1 σ H1 Q h1 (sr.mono k1) o A' e2 (EndE.mono' post k1))
      | false => exact ifF rfl (u lk F1 ρ1 A1 σ H1 Q h1 (sr.mono k1) o A' e2 (EndE.mono' post k1))⟩
theorem a_nil : XA g X W ε [] (pure []) := ⟨_, pa_nil, fun lk F ρ A σ H Q hh s o A' e post => by cases e; exact post F ρ H (.refl F ρ) hh _ .nil⟩
theorem a_cons (ha : XE g X W ε a ua) (hb : XA g X W ε es us) (hs : starEach (a :: es) X.env = (false, eval a X.env) :: starEach es X.env := by rfl) : XA g X W ε (a :: es) (uCons ua us) :=
  let ⟨_, p, s⟩ := ha; let ⟨_, q, t⟩ := hb; ⟨_, pa_cons p q hs, fun lk F ρ A σ H Q hh sr o A' e post =>
    s.step hh sr e (.of_a post) fun F1 ρ1 A1 H1 v x k1 h1 rx e2 =>
      t.step h1 (sr.mono k1) e2 ((PX.of_a post).mono k1) fun F2 ρ2 A2 H2 vs xs k2 h2 rxs e3 => by
        cases e3
        exact post F2 ρ2 H2 (k1.trans k2) h2 _ (.cons (rx.mono k2) rxs)⟩
theorem x_lst (h : XA g X W ε es us) : XE g X W ε (.List es pos) (uLst us) :=
  let ⟨_, p, s⟩ := h; ⟨_, pe_lst p, fun lk F ρ A σ H Q hh sr o A' e post =>
    s.step hh sr e (.of_e post) fun F1 ρ1 A1 H1 v x k1 h1 rx e2 => by
      obtain ⟨hl, e3⟩ := if_fail e2
      cases e3
      exact ⟨by rw [rx.length]; exact hl, new_lst h1 rx fun F' H' k h z r => EndE.okX post rfl (k1.trans k) h r⟩⟩
theorem x_tup {k} (h : XA g X W ε es us) : XE g X W ε (.Tuple es k pos) (uTup us) :=
  let ⟨_, p, s⟩ := h; ⟨_, pe_tup p, fun lk F ρ A σ H Q hh sr o A' e post =>
    s.step hh sr e (.of_e post) fun F1 ρ1 A1 H1 v x k1 h1 rx e2 => by
      obtain ⟨hl, e3⟩ := if_fail e2
      cases e3
      exact ⟨by rw [rx.length]; exact hl, new_tup h1 rx fun F' H' k h z r => EndE.okX post rfl (k1.trans k) h r⟩⟩
/-- a list that will change -/
theorem x_newL (h : XA g X W ε es us) : XE g X W ε (.List es pos) (uNewL us) :=
  let ⟨_, p, s⟩ := h; ⟨_, pe_lst p, fun lk F ρ A σ H Q hh sr o A' e post =>
    s.step hh sr e (.of_e post) fun F1 ρ1 A1 H1 v x k1 h1 rx e2 => by
      obtain ⟨hl, e3⟩ := if_fail e2
      cases e3
      refine ⟨by rw [rx.length]; exact hl, fun p hp => ?_⟩
      obtain ⟨h2, k2⟩ := h1.cells (o := .lst x) (c := .lst v) hp ⟨x, rfl, rx⟩
      exact EndE.okX post rfl (k1.trans k2) h2 (.m (by rw [← h1.len]; simp))⟩
/-- a builtin's call by values -/
theorem x_callB {id : String} {r : List V → Hp → VK → Prop} {f : Ar → PV → Option PV} {n : Str} {p' : Pos} (hr : V1 g r f) (hc : CallR X (.builtin id) r) (hg : Gl X n) (hm : X.mg n = none) (hv : bootBuiltins n = some (.builtin id)) (ha : XE g X W ε a ua) (hn : n ≠ "__name__" := by decide)
    (hdb : (n == ("__debug__" : Str)) = false := by decide) (hs : starEach [a] X.env = (false, eval a X.env) :: starEach [] X.env := by rfl) (hpl : (backTo pos (starEach [] X.env)).any (·.1) = false := by rfl) : XE g X W ε (.Call (.Name n p') [a] [] pos) (u1 f ua) :=
  let ⟨_, p, s⟩ := ha; ⟨_, pe_callB hc hg hm hv (pa_cons p pa_nil hs) hn hdb hs hpl, fun lk F ρ A σ H Q hh sr o A' e post =>
    s.step hh sr e (.of_e post) fun F1 ρ1 A1 H1 v x k1 h1 rx e2 => by
      obtain ⟨z, ez, rfl, rfl⟩ := ask_inv e2
      exact hr lk F1 ρ1 _ H1 x v z Q h1 rx ez fun F' H' k h q r => EndE.okX post rfl (k1.trans k) h r⟩
theorem x_callTy {T : String} {r : List V → Hp → VK → Prop} {f : Ar → PV → Option PV} {n : Str} {p' : Pos} (hr : V1 g r f) (hc : CallR X (.type T) r) (hg : Gl X n) (hm : X.mg n = none) (hv : bootBuiltins n = some (.type T)) (ha : XE g X W ε a ua) (hn : n ≠ "__name__" := by decide)
    (hdb : (n == ("__debug__" : Str)) = false := by decide) (hs : starEach [a] X.env = (false, eval a X.env) :: starEach [] X.env := by rfl) (hpl : (backTo pos (starEach [] X.env)).any (·.1) = false := by rfl) : XE g X W ε (.Call (.Name n p') [a] [] pos) (u1 f ua) :=
  let ⟨_, p, s⟩ := ha; ⟨_, pe_callTy hc hg hm hv (pa_cons p pa_nil hs) hn hdb hs hpl, fun lk F ρ A σ H Q hh sr o A' e post =>
    s.step hh sr e (.of_e post) fun F1 ρ1 A1 H1 v x k1 h1 rx e2 => by
      obtain ⟨z, ez, rfl, rfl⟩ := ask_inv e2
      exact hr lk F1 ρ1 _ H1 x v z Q h1 rx ez fun F' H' k h q r => EndE.okX post rfl (k1.trans k) h r⟩
end
/-! slices -/
def XO (g : Gx) (X : Cx) (W : WX) (ε : List (Option PV)) (e : Option Expr) (u : M (Option Int)) : Prop :=
  ∃ t, PO X e t ∧ ∀ lk F ρ A σ H Q, HR g lk F ρ A H → SR g F ρ ε σ → ∀ (β : Type) (k : Option Int → M β) (o : Out β) A', (u >>= k) A = some (o, A') → PX g lk W σ F ρ A' o →
    (∀ F' ρ' A1 H' i, Ex F ρ F' ρ' → HR g lk F' ρ' A1 H' → k i A1 = some (o, A') → Q i H') → t σ H Q
def uPart (ua : M PV) : M (Option Int) := ua >>= fun v => match v with
  | .int i => pure (some i)
  | _ => bad
def uSl (ua : M PV) (ul uh : M (Option Int)) : M PV := ua >>= fun v => ul >>= fun l => uh >>= fun h => ask fun A => pSl A v l h
section
variable {g : Gx} {X : Cx} {W : WX} {ε : List (Option PV)} {a b c e : Expr} {lo hi : Option Expr} {ua ub : M PV} {ul uh : M (Option Int)} {pos p2 : Pos}
theorem o_none : XO g X W ε none (pure none) := ⟨_, po_none, fun lk F ρ A σ H Q hh s β k o A' e px nx => nx F ρ A H none (.refl F ρ) hh e⟩
theorem o_some (ha : XE g X W ε a ua) : XO g X W ε (some a) (uPart ua) := let ⟨_, p, s⟩ := ha; ⟨_, po_some p, fun lk F ρ A σ H Q hh sr β k o A' e px nx => by
  have e' : (ua >>= fun v => (match v with | .int i => pure (some i) | _ => bad) >>= k) A = some (o, A') := by
    rw [M.bind_app] at e ⊢
    unfold uPart at e
    rw [M.bind_app] at e
    cases q : ua A with
    | none => rw [q] at e; cases e
    | some z =>
      rw [q] at e
      obtain ⟨z1, z2⟩ := z
      cases z1 with
      | ok v => exact e
      | ex c fs => exact e
  refine s.step hh sr e' px fun F1 ρ1 A1 H1 v x k1 h1 rx e2 => ?_
  rw [M.bind_app] at e2
  cases v with
  | int i => exact ⟨i, rx.int_inv, nx F1 ρ1 A1 H1 (some i) k1 h1 e2⟩
  | _ => cases e2⟩
theorem x_sl (hK : X.K = g.K) (ha : XE g X W ε a ua) (hl : XO g X W ε lo ul) (hh : XO g X W ε hi uh) : XE g X W ε (.Subscript a (.Slice lo hi none p2) pos) (uSl ua ul uh) :=
  let ⟨_, p, s⟩ := ha; let ⟨_, q, t⟩ := hl; let ⟨_, r, u⟩ := hh; ⟨_, pe_slice (sl_U (X := X)) p q r, fun lk F ρ A σ H Q hh sr o A' e post =>
    s.step hh sr e (.of_e post) fun F1 ρ1 A1 H1 v x k1 h1 rx e2 =>
      t lk F1 ρ1 A1 σ H1 _ h1 (sr.mono k1) _ _ o A' e2 ((PX.of_e post).mono k1) fun F2 ρ2 A2 H2 l k2 h2 e3 =>
        u lk F2 ρ2 A2 σ H2 _ h2 (sr.mono (k1.trans k2)) _ _ o A' e3 ((PX.of_e post).mono (k1.trans k2)) fun F3 ρ3 A3 H3 h k3 h3 e4 => by
          obtain ⟨z, ez, rfl, rfl⟩ := ask_inv e4
          rw [hK]
          exact sl_at h3 (rx.mono (k2.trans k3)) ez fun F' H' k hh q r => EndE.okX post rfl ((k1.trans (k2.trans k3)).trans k) hh r⟩
end
end Lk
set_option Elab.async false
set_option linter.all false
set_option maxRecDepth 100000
namespace Lk
open PySem L2
/-! ### statements -/
inductive Fl (β γ : Type) where
  | nx (b : β) | rt (v : PV) | bk (c : γ) | ct (c : γ)
abbrev Ev := List (Option PV)
inductive SubL : Ev → Ev → Prop
  | nil (ε : Ev) : SubL ε []
  | skip {a : Option PV} {ε δ : Ev} (h : SubL ε δ) : SubL (a :: ε) (none :: δ)
  | keep {v : PV} {ε δ : Ev} (h : SubL ε δ) : SubL (some v :: ε) (some v :: δ)
theorem SubL.sub : ∀ {ε δ : Ev}, SubL ε δ → Sub ε δ
  | _, _, .nil ε => ⟨Nat.zero_le _, fun i v e => by simp at e⟩
  | _, _, .skip h => ⟨by simp [h.sub.1], fun i v e => by
    cases i with
    | zero => simp at e
    | succ i => simp at e ⊢; exact h.sub.2 i v e⟩
  | _, _, .keep h => ⟨by simp [h.sub.1], fun i v e => by
    cases i with
    | zero => simpa using e
    | succ i => simp at e ⊢; exact h.sub.2 i v e⟩
def uSeq {α β γ : Type} (u : M (Fl α γ)) (k : α → M (Fl β γ)) : M (Fl β γ) := u >>= fun r => match r with
  | .nx b => k b
  | .rt v => pure (.rt v)
  | .bk c => pure (.bk c)
  | .ct c => pure (.ct c)
def exits {β γ : Type} (u : M (Fl Empty γ)) : M (Fl β γ) := uSeq u fun e => nomatch e
def uFor {β γ : Type} (f : PV → β → M (Fl β β)) : List PV → β → M (Fl β γ)
  | [], b => pure (.nx b)
  | x :: xs, b => f x b >>= fun r => match r with
    | .nx b' => uFor f xs b'
    | .ct b' => uFor f xs b'
    | .bk b' => pure (.nx b')
    | .rt v => pure (.rt v)
def uWhile {β γ : Type} (c : β → M Bool) (f : β → M (Fl β β)) : Nat → β → M (Fl β γ)
  | 0, _ => bad
  | n + 1, b => c b >>= fun t => if t = true then f b >>= fun r => match r with
    | .nx b' => uWhile c f n b'
    | .ct b' => uWhile c f n b'
    | .bk b' => pure (.nx b')
    | .rt v => pure (.rt v)
    else pure (.nx b)
def EndS {β γ : Type} (g : Gx) (W : WX) (εx : Ev) (D : Ends) (L : β → Ev) (Ll : γ → Ev) (F : Hp) (ρ : List Addr) (H : Hp) : Out (Fl β γ) → Prop
  | .ok (.nx b) => ∀ σ, SR g F ρ (L b) σ → D.nx σ H
  | .ok (.rt v) => ∀ x, Rp g F ρ x v → D.rt x H
  | .ok (.bk c) => ∀ σ, SR g F ρ (Ll c) σ → D.bk σ H
  | .ok (.ct c) => ∀ σ, SR g F ρ (Ll c) σ → D.ct σ H
  | .ex c fs => ∀ σ cls d, SR g F ρ εx σ → ExR g F ρ c fs cls d → W cls d σ H
def SimS {β γ : Type} (g : Gx) (W : WX) (εx ε : Ev) (L : β → Ev) (Ll : γ → Ev) (t : TS) (u : M (Fl β γ)) : Prop :=
  ∀ lk F ρ A σ H D, HR g lk F ρ A H → SR g F ρ ε σ → ∀ o A', u A = some (o, A') → (∀ F' ρ' H', Ex F ρ F' ρ' → HR g lk F' ρ' A' H' → EndS g W εx D L Ll F' ρ' H' o) → t D σ H
def XB {β γ : Type} (g : Gx) (X : Cx) (W : WX) (εx ε : Ev) (ss : List Stmt) (L : β → Ev) (Ll : γ → Ev) (u : M (Fl β γ)) : Prop := ∃ t, PSs X ss t ∧ SimS g W εx ε L Ll t u
def XS {β γ : Type} (g : Gx) (X : Cx) (W : WX) (εx ε : Ev) (s : Stmt) (L : β → Ev) (Ll : γ → Ev) (u : M (Fl β γ)) : Prop := ∃ t, PS X s t ∧ SimS g W εx ε L Ll t u
/-- a target: what it makes of a value, and the names behind it -/
def Same (ts : List Nat) (σ σ' : L2.St) : Prop := σ'.length = σ.length ∧ ∀ i, i ∉ ts → σ'[i]? = σ[i]?
theorem wipe_in {σ : L2.St} {i : Nat} : ∀ {vs : List Nat}, i ∈ vs → i < σ.length → (wipe σ vs)[i]? = some none
  | v :: vs, h, hl => by
    unfold wipe
    by_cases e : v = i
    · subst e; rw [List.getElem?_set_self (by rw [wipe_length]; exact hl)]
    · rw [List.getElem?_set_ne e]
      exact wipe_in ((List.mem_cons.mp h).resolve_left fun z => e z.symm) hl
theorem Same.wipe {ts vs : List Nat} {σ σ' : L2.St} (s : Same ts σ σ') (h : ∀ i ∈ ts, i ∈ vs) : L2.wipe σ' vs = L2.wipe σ vs := by
  apply List.ext_getElem?
  intro i
  by_cases hi : i ∈ vs
  · rcases Nat.lt_or_ge i σ.length with z | z
    · rw [wipe_in hi z, wipe_in hi (by rw [s.1]; exact z)]
    · rw [List.getElem?_eq_none (by rw [wipe_length, s.1]; exact z), List.getElem?_eq_none (by rw [wipe_length]; exact z)]
  · rw [wipe_out hi, wipe_out hi]; exact s.2 i fun z => hi (h i z)
theorem wipe_wipe {vs : List Nat} {σ : L2.St} : L2.wipe (L2.wipe σ vs) vs = L2.wipe σ vs := by
  apply List.ext_getElem?
  intro i
  by_cases hi : i ∈ vs
  · rcases Nat.lt_or_ge i σ.length with z | z
    · rw [wipe_in hi z, wipe_in hi (by rw [wipe_length]; exact z)]
    · rw [List.getElem?_eq_none (by rw [wipe_length, wipe_length]; exact z), List.getElem?_eq_none (by rw [wipe_length]; exact z)]
  · rw [wipe_out hi]
def XG {δ : Type} (g : Gx) (X : Cx) (ε : Ev) (tg : Expr) (ts : List Nat) (d : PV → Option δ) (Lg : δ → Ev) : Prop :=
  ∃ t, PG X tg t ∧ ∀ lk F ρ A H x v σ z (Q : L2.St → Hp → Prop), HR g lk F ρ A H → SR g F ρ ε σ → Rp g F ρ x v → d v = some z → (∀ σ', SR g F ρ (Lg z) σ' → Same ts σ σ' → Q σ' H) → t x σ H Q
/-- what a loop goes over -/
structure ItOk (g : Gx) (lk : Lks) (J : It) (F : Hp) (ρ : List Addr) (xs : List PV) : Prop where
  go : ∀ lk' F' ρ' A H i, (∀ x ∈ lk, x ∈ lk') → Ex F ρ F' ρ' → HR g lk' F' ρ' A H → i < xs.length → J.go i H ∧ ∀ x H', J.yld i H x H' → ∃ F'', Ex F' ρ' F'' ρ' ∧ HR g lk' F'' ρ' A H' ∧ ∃ v, xs[i]? = some v ∧ Rp g F'' ρ' x v
  stop : ∀ lk' F' ρ' A H i, (∀ x ∈ lk, x ∈ lk') → Ex F ρ F' ρ' → HR g lk' F' ρ' A H → xs.length = i → J.stop i H
def XI (g : Gx) (X : Cx) (W : WX) (ε : Ev) (tg iter : Expr) (u : M (List PV)) : Prop :=
  ∃ wi, PI X tg iter wi ∧ ∀ lk F ρ A σ H R, HR g lk F ρ A H → SR g F ρ ε σ → ∀ (β : Type) (k : List PV → M β) (o : Out β) A', (u >>= k) A = some (o, A') → PX g lk W σ F ρ A' o →
    (∀ F' ρ' A1 H' J xs, Ex F ρ F' ρ' → HR g lk F' ρ' A1 H' → ItOk g lk J F' ρ' xs → k xs A1 = some (o, A') → R J H') → wi σ H R
section
variable {g : Gx} {X : Cx} {W : WX} {εx ε : Ev} {a b c e tg iter : Expr} {rest ss ss' : List Stmt} {st : Stmt} {ua ub : M PV} {us : M (List PV)} {uc ud : M Bool} {pos : Pos} {lk : Lks} {F G : Hp} {ρ τ : List Addr} {A A' : Ar} {σ : L2.St} {H : Hp}
variable {α β γ δ : Type} {L : β → Ev} {Ll : γ → Ev} {L1 : α → Ev}
theorem PX.of_s {o : Out (Fl β γ)} {D : Ends} (s : SR g F ρ ε σ) (hx : SubL ε εx) (post : ∀ F' ρ' H', Ex F ρ F' ρ' → HR g lk F' ρ' A' H' → EndS g W εx D L Ll F' ρ' H' o) : PX g lk W σ F ρ A' o := fun c fs h F' ρ' H' k hh cls d r => by
  have := post F' ρ' H' k hh; subst h; exact this σ cls d ((s.mono k).sub hx.sub) r
theorem EndS.mono' {o : Out (Fl β γ)} {D : Ends} (post : ∀ F' ρ' H', Ex F ρ F' ρ' → HR g lk F' ρ' A' H' → EndS g W εx D L Ll F' ρ' H' o) (k : Ex F ρ G τ) : ∀ F' ρ' H', Ex G τ F' ρ' → HR g lk F' ρ' A' H' → EndS g W εx D L Ll F' ρ' H' o := fun F' ρ' H' k' hh => post F' ρ' H' (k.trans k') hh
theorem b_nil {x : β} (h : SubL ε (L x)) : XB g X W εx ε [] L Ll (pure (.nx x)) := ⟨_, pss_nil, fun lk F ρ A σ H D hh s o A' e post => by
  cases e; exact post F ρ H (.refl F ρ) hh σ (s.sub h.sub)⟩
theorem b_one {u : M (Fl β γ)} (h : XS g X W εx ε st L Ll u) : XB g X W εx ε [st] L Ll u := let ⟨_, p, s⟩ := h; ⟨_, pss_one p, s⟩
/-- one statement, then the rest -/
theorem b_seq {u : M (Fl α γ)} {k : α → M (Fl β γ)} (h : XS g X W εx ε st L1 Ll u) (hr : ∃ t, PSs X rest t ∧ ∀ x, SimS g W εx (L1 x) L Ll t (k x)) : XB g X W εx ε (st :: rest) L Ll (uSeq u k) :=
  let ⟨_, p, s⟩ := h; let ⟨t, q, r⟩ := hr; ⟨_, pss_cons p q, fun lk F ρ A σ H D hh sr o A' e post => by
    unfold uSeq at e
    rcases M.bind_inv e with ⟨f, A1, e1, e2⟩ | ⟨c, fs, e1, rfl⟩
    · refine s lk F ρ A σ H _ hh sr _ A1 e1 fun F1 ρ1 H1 k1 h1 => ?_
      cases f with
      | nx b => exact fun σ' s' => r b lk F1 ρ1 A1 σ' H1 D h1 s' o A' e2 (EndS.mono' post k1)
      | rt v => cases e2; exact fun x rx => post F1 ρ1 H1 k1 h1 x rx
      | bk c => cases e2; exact fun x rx => post F1 ρ1 H1 k1 h1 x rx
      | ct c => cases e2; exact fun x rx => post F1 ρ1 H1 k1 h1 x rx
    · exact s lk F ρ A σ H _ hh sr _ A' e1 fun F1 ρ1 H1 k1 h1 => post F1 ρ1 H1 k1 h1⟩
/-- the rest, for all that may stand ahead -/
theorem all_of {k : α → M (Fl β γ)} (h : ∀ x, XB g X W εx (L1 x) rest L Ll (k x)) : ∃ t, PSs X rest t ∧ ∀ x, SimS g W εx (L1 x) L Ll t (k x) := by
  refine ⟨fun D σ H => ∃ x, (Classical.choose (h x)) D σ H, ⟨fun pins s σ H D I ⟨x, q⟩ => ((Classical.choose_spec (h x)).1).run pins s σ H D I q⟩, fun x lk F ρ A σ H D hh sr o A' e post => ⟨x, (Classical.choose_spec (h x)).2 lk F ρ A σ H D hh sr o A' e post⟩⟩
theorem b_set {i : Nat} {x : Str} {pos' : Pos} {k : PV → M (Fl β γ)} (hx : SubL ε εx) (hN : X.N.Nodup) (hi : X.N[i]? = some x) (hl : Loc X.env.scope x) (he : XE g X W ε e ua) (hr : ∀ v, XB g X W εx (ε.set i (some v)) rest L Ll (k v))
    (hs : swapsWith e (some (.Name x pos')) pos.line X.env = pure false := by rfl) (hf : X.fn x = true ∨ X.env.scope.names.lookup x = some .local := by first | exact .inl rfl | exact .inr rfl | assumption) : XB g X W εx ε (.Assign [.Name x pos'] e pos :: rest) L Ll (ua >>= k) :=
  let ⟨_, p, s⟩ := he; let ⟨_, q, r⟩ := all_of hr; ⟨_, pss_cons (ps_set hN hi hl p hs hf) q, fun lk F ρ A σ H D hh sr o A' e post =>
    s.step hh sr e (.of_s sr hx post) fun F1 ρ1 A1 H1 v x k1 h1 rx e2 => r v lk F1 ρ1 A1 _ H1 D h1 ((sr.mono k1).set i rx) o A' e2 (EndS.mono' post k1)⟩
theorem b_expr {k : M (Fl β γ)} (hx : SubL ε εx) (he : XE g X W ε e ua) (hr : XB g X W εx ε rest L Ll k) (hs : swapsWith e none pos.line X.env = pure false := by rfl) : XB g X W εx ε (.Expr e pos :: rest) L Ll (ua >>= fun _ => k) :=
  let ⟨_, p, s⟩ := he; let ⟨_, q, r⟩ := hr; ⟨_, pss_cons (ps_expr p hs) q, fun lk F ρ A σ H D hh sr o A' e post =>
    s.step hh sr e (.of_s sr hx post) fun F1 ρ1 A1 H1 v x k1 h1 rx e2 => r lk F1 ρ1 A1 _ H1 D h1 (sr.mono k1) o A' e2 (EndS.mono' post k1)⟩
theorem b_ret (hx : SubL ε εx) (he : XE g X W ε e ua) : XB g X W εx ε [.Return (some e) pos] L Ll (ua >>= fun v => pure (.rt v)) :=
  let ⟨_, p, s⟩ := he; ⟨_, pss_one (ps_ret p), fun lk F ρ A σ H D hh sr o A' e post =>
    s.step hh sr e (.of_s sr hx post) fun F1 ρ1 A1 H1 v x k1 h1 rx e2 => by cases e2; exact post F1 ρ1 H1 k1 h1 x rx⟩
theorem b_retN : XB g X W εx ε [.Return none pos] L Ll (pure (.rt .non)) :=
  ⟨_, pss_one ps_retN, fun lk F ρ A σ H D hh sr o A' e post => by cases e; exact post F ρ H (.refl F ρ) hh _ .non⟩
theorem b_pass {k : M (Fl β γ)} (hr : XB g X W εx ε rest L Ll k) : XB g X W εx ε (.Pass pos :: rest) L Ll k :=
  let ⟨_, q, r⟩ := hr; ⟨_, pss_cons ps_pass q, r⟩
theorem b_break {x : γ} (h : SubL ε (Ll x)) : XB g X W εx ε [.Break pos] L Ll (pure (.bk x)) := ⟨_, pss_one ps_break, fun lk F ρ A σ H D hh s o A' e post => by
  cases e; exact post F ρ H (.refl F ρ) hh σ (s.sub h.sub)⟩
theorem b_cont {x : γ} (h : SubL ε (Ll x)) : XB g X W εx ε [.Continue pos] L Ll (pure (.ct x)) := ⟨_, pss_one ps_continue, fun lk F ρ A σ H D hh s o A' e post => by
  cases e; exact post F ρ H (.refl F ρ) hh σ (s.sub h.sub)⟩
/-- an if, of whatever end -/
theorem s_if {u1 u2 : M (Fl α γ)} (hx : SubL ε εx) (hc : XT g X W ε c uc) (ha : XB g X W εx ε ss L1 Ll u1) (hb : XB g X W εx ε ss' L1 Ll u2) : XS g X W εx ε (.If c ss ss' pos) L1 Ll (uc >>= fun b => if b = true then u1 else u2) :=
  let ⟨_, p, s⟩ := hc; let ⟨_, q, r⟩ := ha; let ⟨_, q', r'⟩ := hb; ⟨_, ps_if p q q', fun lk F ρ A σ H D hh sr o A' e post =>
    s.step hh sr e (.of_s sr hx post) fun F1 ρ1 A1 H1 v k1 h1 e2 => by
      cases v with
      | true => exact ifT rfl (r lk F1 ρ1 A1 σ H1 D h1 (sr.mono k1) o A' e2 (EndS.mono' post k1))
      | false => exact ifF rfl (r' lk F1 ρ1 A1 σ H1 D h1 (sr.mono k1) o A' e2 (EndS.mono' post k1))⟩
theorem b_if {u1 u2 : M (Fl β γ)} (hx : SubL ε εx) (hc : XT g X W ε c uc) (ha : XB g X W εx ε ss L Ll u1) (hb : XB g X W εx ε ss' L Ll u2) : XB g X W εx ε [.If c ss ss' pos] L Ll (uc >>= fun b => if b = true then u1 else u2) := b_one (s_if hx hc ha hb)
/-- an if whose first block never comes to its end -/
theorem b_ifX {u1 : M (Fl Empty γ)} {u2 : M (Fl β γ)} (hx : SubL ε εx) (hc : XT g X W ε c uc) (ha : XB g X W εx ε ss (fun e : Empty => nomatch e) Ll u1) (hb : XB g X W εx ε rest L Ll u2) : XB g X W εx ε (.If c ss [] pos :: rest) L Ll (uc >>= fun b => if b = true then exits u1 else u2) :=
  let ⟨_, p, s⟩ := hc; let ⟨_, q, r⟩ := ha; let ⟨_, q', r'⟩ := hb; ⟨_, pss_cons (ps_if p q pss_nil) q', fun lk F ρ A σ H D hh sr o A' e post =>
    s.step hh sr e (.of_s sr hx post) fun F1 ρ1 A1 H1 v k1 h1 e2 => by
      cases v with
      | false => exact ifF rfl (r' lk F1 ρ1 A1 σ H1 D h1 (sr.mono k1) o A' e2 (EndS.mono' post k1))
      | true =>
        refine ifT rfl ?_
        have e2 : exits u1 A1 = some (o, A') := e2
        unfold exits uSeq at e2
        rcases M.bind_inv e2 with ⟨f, A2, e3, e4⟩ | ⟨c, fs, e3, rfl⟩
        · refine r lk F1 ρ1 A1 σ H1 _ h1 (sr.mono k1) _ A2 e3 fun F2 ρ2 H2 k2 h2 => ?_
          cases f with
          | nx b => exact nomatch b
          | rt v => cases e4; exact fun x rx => post F2 ρ2 H2 (k1.trans k2) h2 x rx
          | bk c => cases e4; exact fun x rx => post F2 ρ2 H2 (k1.trans k2) h2 x rx
          | ct c => cases e4; exact fun x rx => post F2 ρ2 H2 (k1.trans k2) h2 x rx
        · exact r lk F1 ρ1 A1 σ H1 _ h1 (sr.mono k1) _ A' e3 fun F2 ρ2 H2 k2 h2 => post F2 ρ2 H2 (k1.trans k2) h2⟩
/-! targets -/
theorem g_name {i : Nat} {x : Str} (hN : X.N.Nodup) (hi : X.N[i]? = some x) (hl : Loc X.env.scope x) (hf : X.fn x = true ∨ X.env.scope.names.lookup x = some .local := by first | exact .inl rfl | exact .inr rfl | assumption) : XG g X ε (.Name x pos) [i] (fun v => some v) (fun v => ε.set i (some v)) :=
  ⟨_, pg_name hN hi hl hf, fun lk F ρ A H x v σ z Q hh s r e q => by cases e; exact q _ (s.set i r) ⟨by simp, fun j h => List.getElem?_set_ne (fun z => h (by simp [z]))⟩⟩
def dTup2 : PV → Option (PV × PV)
  | .tup [a, b] => some (a, b)
  | _ => none
theorem g_tup2 {i j : Nat} {x y : Str} {p1 p2 : Pos} {k : Nat} (hK : X.K = g.K) (hc : X.calm = true) (hN : X.N.Nodup) (hi : X.N[i]? = some x) (hl : Loc X.env.scope x) (hj : X.N[j]? = some y) (hl' : Loc X.env.scope y) (hn : (assignEach [.Name x p1, .Name y p2] X.env).length = 2 := by rfl)
    (hs : (assignEach [.Name x p1, .Name y p2] X.env).map (·.2) = assign (.Name x p1) X.env :: (assignEach [.Name y p2] X.env).map (·.2) := by rfl) (hs2 : (assignEach [.Name y p2] X.env).map (·.2) = assign (.Name y p2) X.env :: (assignEach [] X.env).map (·.2) := by rfl) (hst : (assignEach [.Name x p1, .Name y p2] X.env).findIdx? (·.1) = none := by rfl)
    (hf : X.fn x = true ∨ X.env.scope.names.lookup x = some .local := by first | exact .inl rfl | exact .inr rfl | assumption) (hf' : X.fn y = true ∨ X.env.scope.names.lookup y = some .local := by first | exact .inl rfl | exact .inr rfl | assumption) :
    XG g X ε (.Tuple [.Name x p1, .Name y p2] k pos) [i, j] dTup2 (fun z : PV × PV => (ε.set i (some z.1)).set j (some z.2)) :=
  ⟨_, pg_tup (n := 2) hc (pgs_cons (pg_name hN hi hl hf) (pgs_cons (pg_name hN hj hl' hf') pgs_nil hs2) hs) hn hst, fun lk F ρ A H x v σ z Q hh s r e q => by
    unfold dTup2 at e
    split at e
    · rename_i a b
      cases e
      obtain ⟨p, vs, rfl, hp, rp⟩ := tup_at (A := A) hh r rfl
      cases rp with | cons r1 r2 => cases r2 with | cons r3 r4 => cases r4 with | nil =>
      refine ⟨p, _, rfl, by rw [hK]; exact SqT.of hp, rfl, _, _, rfl, _, _, rfl, rfl, q _ ((s.set i r1).set j r3) ⟨by simp, fun l h => by rw [List.getElem?_set_ne (fun z => h (by simp [z])), List.getElem?_set_ne (fun z => h (by simp [z]))]⟩⟩
    · cases e⟩
/-! what is gone over -/
theorem PI.or {wi wi' : TI} (h : PI X tg iter wi) (h' : PI X tg iter wi') : PI X tg iter (fun σ H R => wi σ H R ∨ wi' σ H R) := ⟨fun pins s σ H R I q => q.elim (h.run pins s σ H R I) (h'.run pins s σ H R I)⟩
def seqOf (v : PV) : Option (List PV) := match v with
  | .lst xs => some xs
  | .tup xs => some xs
  | _ => none
theorem it_list {p : Addr} {vs : List V} {xs : List PV} (hp : F p = some (.lst vs)) (r : RpL g F ρ vs xs) : ItOk g lk (Itl g.K p) F ρ xs where
  go lk' F' ρ' A H i _ k hh hi := by
    have hH : H p = some (.lst vs) := hh.sub _ _ (k.le _ _ hp)
    obtain ⟨v, hv, rv⟩ := r.get (i := i) (x := xs[i]) (List.getElem?_eq_getElem hi)
    exact ⟨⟨vs, v, SqL.of hH, hv⟩, fun x H' ⟨e, y⟩ => by
      subst e
      have := y vs (SqL.of hH)
      rw [hv] at this; cases this
      exact ⟨F', .refl F' ρ', hh, xs[i], List.getElem?_eq_getElem hi, rv.mono k⟩⟩
  stop lk' F' ρ' A H i _ k hh hi := ⟨vs, SqL.of (hh.sub _ _ (k.le _ _ hp)), by rw [r.length]; exact Nat.le_of_eq hi⟩
theorem it_tup {p : Addr} {vs : List V} {xs : List PV} (hp : F p = some (.tup vs)) (r : RpL g F ρ vs xs) : ItOk g lk (Itt g.K p) F ρ xs where
  go lk' F' ρ' A H i _ k hh hi := by
    have hH : H p = some (.tup vs) := hh.sub _ _ (k.le _ _ hp)
    obtain ⟨v, hv, rv⟩ := r.get (i := i) (x := xs[i]) (List.getElem?_eq_getElem hi)
    exact ⟨⟨vs, v, SqT.of hH, hv⟩, fun x H' ⟨e, y⟩ => by
      subst e
      have := y vs (SqT.of hH)
      rw [hv] at this; cases this
      exact ⟨F', .refl F' ρ', hh, xs[i], List.getElem?_eq_getElem hi, rv.mono k⟩⟩
  stop lk' F' ρ' A H i _ k hh hi := ⟨vs, SqT.of (hh.sub _ _ (k.le _ _ hp)), by rw [r.length]; exact Nat.le_of_eq hi⟩
def uItems (ua : M PV) : M (List PV) := ua >>= fun v => opt (seqOf v)
theorem M.bind_assoc' {α β γ : Type} {u : M α} {k : α → M β} {j : β → M γ} : (u >>= k) >>= j = u >>= fun x => k x >>= j := by
  funext A
  rw [M.bind_app, M.bind_app, M.bind_app]
  cases u A with
  | none => rfl
  | some z =>
    obtain ⟨z1, z2⟩ := z
    cases z1 with
    | ok v => rfl
    | ex c fs => rfl
theorem bd_ok {α β : Type} {u : M α} {k : α → M β} {A B A' : Ar} {v : α} {o : Out β} (q : u A = some (.ok v, B)) (e : (u >>= k) A = some (o, A')) : k v B = some (o, A') := by rw [M.bind_app, q] at e; exact e
theorem bd_ex {α β : Type} {u : M α} {k : α → M β} {A B A' : Ar} {c : String} {fs : Option (List (Str × PV))} {o : Out β} (q : u A = some (.ex c fs, B)) (e : (u >>= k) A = some (o, A')) : o = .ex c fs ∧ A' = B := by rw [M.bind_app, q] at e; cases e; exact ⟨rfl, rfl⟩
theorem i_seq (hK : X.K = g.K) (ha : XE g X W ε a ua) : XI g X W ε tg a (uItems ua) :=
  let ⟨_, p, s⟩ := ha; ⟨_, PI.or (pi_list p) (pi_tup p), fun lk F ρ A σ H R hh sr β k o A' e px nx => by
    unfold uItems at e
    rw [M.bind_assoc'] at e
    cases q : ua A with
    | none => rw [M.bind_app, q] at e; cases e
    | some z =>
      obtain ⟨z1, z2⟩ := z
      cases z1 with
      | ex c fs =>
        obtain ⟨rfl, rfl⟩ := bd_ex q e
        exact .inl (s lk F ρ A σ H _ hh sr _ _ q fun F1 ρ1 H1 k1 h1 => px c fs rfl F1 ρ1 H1 k1 h1)
      | ok v =>
        have e := bd_ok q e
        cases v with
        | lst xs =>
          refine .inl (s lk F ρ A σ H _ hh sr _ _ q fun F1 ρ1 H1 k1 h1 x rx => ?_)
          cases rx with | lst hp r =>
          exact ⟨_, rfl, ⟨_, SqL.of (h1.sub _ _ hp)⟩, by rw [hK]; exact nx F1 ρ1 z2 H1 _ xs k1 h1 (it_list hp r) e⟩
        | tup xs =>
          refine .inr (s lk F ρ A σ H _ hh sr _ _ q fun F1 ρ1 H1 k1 h1 x rx => ?_)
          cases rx with | tup hp r =>
          exact ⟨_, rfl, ⟨_, SqT.of (h1.sub _ _ hp)⟩, by rw [hK]; exact nx F1 ρ1 z2 H1 _ xs k1 h1 (it_tup hp r) e⟩
        | _ => cases e⟩
def rangeOf (lo : Int) (n : Nat) : List PV := (List.range n).map fun i => .int (lo + (i : Nat))
theorem it_range {lo : Int} {n : Nat} : ItOk g lk (Itr lo n) F ρ (rangeOf lo n) where
  go lk' F' ρ' A H i _ k hh hi := by
    have hn : i < n := by simpa [rangeOf] using hi
    exact ⟨hn, fun x H' ⟨e, y⟩ => by
      subst e y
      exact ⟨F', .refl F' ρ', hh, .int (lo + i), by simp [rangeOf, hn], .int _⟩⟩
  stop lk' F' ρ' A H i _ k hh hi := show n ≤ i by rw [← hi]; simp [rangeOf]
def uRange1 (ua : M PV) : M (List PV) := ua >>= fun v => match v with
  | .int j => if -(2 ^ 62) ≤ j ∧ j < 2 ^ 62 then pure (rangeOf 0 j.toNat) else bad
  | _ => bad
def uRange2 (ua ub : M PV) : M (List PV) := ua >>= fun v => ub >>= fun w => match v, w with
  | .int i, .int j => if -(2 ^ 62) ≤ i ∧ i < 2 ^ 62 ∧ -(2 ^ 62) ≤ j ∧ j < 2 ^ 62 then pure (rangeOf i (j - i).toNat) else bad
  | _, _ => bad
theorem if_fail' {p : Prop} [Decidable p] {α β : Type} {u : M α} {k : α → M β} {A B : Ar} {o : Out β} (h : ((if p then u else bad) >>= k) A = some (o, B)) : p ∧ (u >>= k) A = some (o, B) := by
  by_cases hp : p
  · rw [if_pos hp] at h; exact ⟨hp, h⟩
  · rw [if_neg hp] at h; cases h
theorem i_range1 {p : Pos} (hg : Gl X "range") (hm : X.mg "range" = none) (ha : XE g X W ε a ua) (hs : starEach [a] X.env = [(false, eval a X.env)] := by rfl) (hs' : starEach [a] X.env = (false, eval a X.env) :: starEach [] X.env := by rfl) : XI g X W ε tg (.Call (.Name "range" p) [a] [] pos) (uRange1 ua) :=
  let ⟨_, p, s⟩ := ha; ⟨_, pi_range1 hg hm (pa_cons p pa_nil hs') hs, fun lk F ρ A σ H R hh sr β k o A' e px nx => by
    unfold uRange1 at e
    rw [M.bind_assoc'] at e
    exact s.step hh sr e px fun F1 ρ1 A1 H1 v x k1 h1 rx e2 => by
      cases v with
      | int j =>
        obtain ⟨hj, e3⟩ := if_fail' e2
        exact ⟨j, by rw [rx.int_inv], hj.1, hj.2, nx F1 ρ1 A1 H1 _ _ k1 h1 it_range e3⟩
      | _ => cases e2⟩
theorem i_range2 {p : Pos} (hg : Gl X "range") (hm : X.mg "range" = none) (ha : XE g X W ε a ua) (hb : XE g X W ε b ub) (hs : starEach [a, b] X.env = [(false, eval a X.env), (false, eval b X.env)] := by rfl) (hs1 : starEach [a, b] X.env = (false, eval a X.env) :: starEach [b] X.env := by rfl) (hs2 : starEach [b] X.env = (false, eval b X.env) :: starEach [] X.env := by rfl) : XI g X W ε tg (.Call (.Name "range" p) [a, b] [] pos) (uRange2 ua ub) :=
  let ⟨_, p, s⟩ := ha; let ⟨_, q, t⟩ := hb; ⟨_, pi_range2 hg hm (pa_cons p (pa_cons q pa_nil hs2) hs1) hs hs2, fun lk F ρ A σ H R hh sr β k o A' e px nx => by
    unfold uRange2 at e
    rw [M.bind_assoc'] at e
    exact s.step hh sr e px fun F1 ρ1 A1 H1 v x k1 h1 rx e2 => by
      rw [M.bind_assoc'] at e2
      exact t.step h1 (sr.mono k1) e2 (px.mono k1) fun F2 ρ2 A2 H2 w y k2 h2 ry e3 => by
        cases v with
        | int i =>
          cases w with
          | int j =>
            obtain ⟨hj, e4⟩ := if_fail' e3
            exact ⟨i, j, by rw [rx.int_inv, ry.int_inv], hj, nx F2 ρ2 A2 H2 _ _ (k1.trans k2) h2 it_range e4⟩
          | _ => cases e3
        | _ => cases e3⟩
/-! for -/
theorem s_for {ts : List Nat} {d : PV → Option δ} {Lb : α → Ev} {Lg : α → δ → Ev} {f : α → δ → M (Fl α α)} {b0 : α} (hx : SubL ε εx) (h0 : SubL ε (Lb b0)) (hp : PassesOwn (model X.prog X.w) X.A X.env X.xe) (hc : X.calm = true) (hi : XI g X W ε tg iter us)
    (hg : ∀ x, XG g X (Lb x) tg ts d (Lg x)) (hb : ∀ x z, XB g X W εx (Lg x z) ss Lb Lb (f x z)) (hf : ∀ x, foldedSetIterable iter X.env x = pure x := by intro _; rfl) :
    XS g X W εx ε (.For tg iter ss [] pos) Lb Ll (us >>= fun xs => uFor (fun v x => opt (d v) >>= f x) xs b0) := by
  obtain ⟨wi, p, s⟩ := hi
  obtain ⟨tg', q, hq⟩ : ∃ t, PG X tg t ∧ ∀ x, ∀ lk F ρ A H y v σ z (Q : L2.St → Hp → Prop), HR g lk F ρ A H → SR g F ρ (Lb x) σ → Rp g F ρ y v → d v = some z → (∀ σ', SR g F ρ (Lg x z) σ' → Same ts σ σ' → Q σ' H) → t y σ H Q := by
    refine ⟨fun y σ H Q => ∃ x, Classical.choose (hg x) y σ H Q, ⟨fun pins s σ H v u Q I r ⟨x, h⟩ => ((Classical.choose_spec (hg x)).1).run pins s σ H v u Q I r h⟩, fun x lk F ρ A H y v σ z Q hh sr r e h => ⟨x, (Classical.choose_spec (hg x)).2 lk F ρ A H y v σ z Q hh sr r e h⟩⟩
  obtain ⟨tb, r, hr⟩ : ∃ t, PSs X ss t ∧ ∀ x z, SimS g W εx (Lg x z) Lb Lb t (f x z) := by
    refine ⟨fun D σ H => ∃ x z, Classical.choose (hb x z) D σ H, ⟨fun pins s σ H D I ⟨x, z, h⟩ => ((Classical.choose_spec (hb x z)).1).run pins s σ H D I h⟩, fun x z lk F ρ A σ H D hh sr o A' e post => ⟨x, z, (Classical.choose_spec (hb x z)).2 lk F ρ A σ H D hh sr o A' e post⟩⟩
  refine ⟨_, ps_for hp hc p q r hf, fun lk F ρ A σ H D hh sr o A' e post => ?_⟩
  refine s lk F ρ A σ H _ hh sr _ _ o A' e (.of_s sr hx post) fun F1 ρ1 A1 H1 J xs k1 h1 it e1 => ?_
  refine ⟨fun i m σ H => m = xs.length - i ∧ i ≤ xs.length ∧ ∃ F2 ρ2 A2 x, Ex F1 ρ1 F2 ρ2 ∧ HR g lk F2 ρ2 A2 H ∧ SR g F2 ρ2 (Lb x) σ ∧ uFor (γ := γ) (fun v x => opt (d v) >>= f x) (xs.drop i) x A2 = some (o, A'), ⟨xs.length, by simp, Nat.zero_le _, F1, ρ1, A1, b0, .refl _ _, h1, (sr.mono k1).sub h0.sub, by simpa using e1⟩, ?_⟩
  rintro i m σ2 H2 ⟨rfl, hi, F2, ρ2, A2, x, k2, h2, s2, e2⟩
  by_cases hlt : i < xs.length
  · obtain ⟨go, yld⟩ := it.go lk F2 ρ2 A2 H2 i (fun _ h => h) k2 h2 hlt
    have hd : xs.drop i = xs[i] :: xs.drop (i + 1) := (List.drop_eq_getElem_cons hlt)
    rw [hd] at e2
    unfold uFor at e2
    refine .inr ⟨go, fun σ' H' => ∃ m', m' < xs.length - i ∧ (m' = xs.length - (i + 1) ∧ i + 1 ≤ xs.length ∧ ∃ F2 ρ2 A2 x, Ex F1 ρ1 F2 ρ2 ∧ HR g lk F2 ρ2 A2 H' ∧ SR g F2 ρ2 (Lb x) σ' ∧ uFor (γ := γ) (fun v x => opt (d v) >>= f x) (xs.drop (i + 1)) x A2 = some (o, A')), fun σ' H' h => h, fun y H3 hy => ?_⟩
    obtain ⟨F3, k3, h3, v, hv, rv⟩ := yld y H3 hy
    rw [List.getElem?_eq_getElem hlt] at hv
    obtain rfl := Option.some.inj hv
    rw [M.bind_assoc'] at e2
    rcases M.bind_inv e2 with ⟨z, A3, e3, e4⟩ | ⟨c, fs, e3, _⟩
    · obtain ⟨z', ed, zz, hA⟩ := opt_inv e3
      cases zz
      subst hA
      refine hq x lk F3 ρ2 A3 H3 y xs[i] σ2 z _ h3 (s2.mono k3) rv ed fun σ3 s3 _ => ?_
      rcases M.bind_inv e4 with ⟨fl, A4, e5, e6⟩ | ⟨c, fs, e5, rfl⟩
      · refine hr x z lk F3 ρ2 A3 σ3 H3 _ h3 s3 _ A4 e5 fun F4 ρ4 H4 k4 h4 => ?_
        have kk : Ex F1 ρ1 F4 ρ4 := (k2.trans k3).trans k4
        cases fl with
        | nx b => exact fun σ4 s4 => ⟨_, by omega, rfl, by omega, F4, ρ4, A4, b, kk, h4, s4, e6⟩
        | ct b => exact fun σ4 s4 => ⟨_, by omega, rfl, by omega, F4, ρ4, A4, b, kk, h4, s4, e6⟩
        | bk b => cases e6; exact fun σ4 s4 => post F4 ρ4 H4 (k1.trans kk) h4 σ4 s4
        | rt v => cases e6; exact fun w rw => post F4 ρ4 H4 (k1.trans kk) h4 w rw
      · exact hr x z lk F3 ρ2 A3 σ3 H3 _ h3 s3 _ A' e5 fun F4 ρ4 H4 k4 h4 => post F4 ρ4 H4 (k1.trans ((k2.trans k3).trans k4)) h4
    · obtain ⟨_, _, zz, _⟩ := opt_inv e3; cases zz
  · have ei : i = xs.length := by omega
    subst ei
    rw [List.drop_length] at e2
    cases e2
    exact .inl ⟨it.stop lk F2 ρ2 _ H2 _ (fun _ h => h) k2 h2 rfl, post F2 ρ2 H2 (k1.trans k2) h2 σ2 s2⟩
end
end Lk
set_option Elab.async false
set_option linter.all false
set_option maxRecDepth 100000
namespace Lk
open PySem PySem.Spec L2
open PyProof.Rows (envOfC)
/-! ### defs and their calls -/
def uDef (b : M (Fl Unit Empty)) : M PV := b >>= fun r => match r with
  | .nx _ => pure .non
  | .rt v => pure v
  | .bk e => nomatch e
  | .ct e => nomatch e
/-- what a call is to give -/
def EndC (g : Gx) (Q : VK) (E : XK) (F : Hp) (ρ : List Addr) (H : Hp) : Out PV → Prop
  | .ok v => ∀ x, Rp g F ρ x v → Q x H
  | .ex c fs => ∀ cls d, ExR g F ρ c fs cls d → E cls d H
def spU (g : Gx) (n : Nat) (fn : List PV → M PV) : Sp := fun vs H Q E => ∃ lk F ρ A ws o A', vs.length = n ∧ HR g lk F ρ A H ∧ RpL g F ρ vs ws ∧ fn ws A = some (o, A') ∧ ∀ F' ρ' H', Ex F ρ F' ρ' → HR g lk F' ρ' A' H' → EndC g Q E F' ρ' H' o
theorem sr_start {g : Gx} {F : Hp} {ρ : List Addr} {N : List Str} {vs : List V} {ws : List PV} (r : RpL g F ρ vs ws) : SR g F ρ (ws.map some) (L2.start N vs) := by
  refine ⟨by simp [L2.start, r.length], fun i v e => ?_⟩
  rw [List.getElem?_map] at e
  cases q : ws[i]? with
  | none => rw [q] at e; cases e
  | some w =>
    rw [q] at e; cases e
    obtain ⟨x, hx, rx⟩ := r.get q
    refine ⟨x, ?_, rx⟩
    unfold L2.start
    have hl : i < vs.length := by
      rcases Nat.lt_or_ge i vs.length with z | z
      · exact z
      · rw [List.getElem?_eq_none z] at hx; cases hx
    rw [List.getElem?_append_left (by simpa using hl), List.getElem?_map, hx]; rfl
theorem sr_start' {g : Gx} {F : Hp} {ρ : List Addr} {N : List Str} {vs : List V} {ws : List PV} {ε : Ev} {m : Nat} (r : RpL g F ρ vs ws) (he : ε = ws.map some ++ List.replicate m none) (hm : ws.length + m ≤ N.length) : SR g F ρ ε (L2.start N vs) := by
  subst he
  refine ⟨by have := r.length; simp [L2.start]; omega, fun i v e => ?_⟩
  rcases Nat.lt_or_ge i ws.length with z | z
  · rw [List.getElem?_append_left (by simpa using z)] at e
    exact (sr_start (N := N) r).at_ i v e
  · rw [List.getElem?_append_right (by simpa using z), List.getElem?_replicate] at e
    split at e <;> cases e
abbrev eW (E : XK) : WX := fun cls d _ H => E cls d H
section
variable {P : Program} {w : World} {g : Gx} {mg : Str → Option Value} {base : Heap} {x qual : Str} {st : Stmt} {f : Addr} {fd : FuncData} {N ps : List Str} {k : Nat}
abbrev dX (P : Program) (w : World) (g : Gx) (mg : Str → Option Value) (base : Heap) (N : List Str) (qual : Str) (st : Stmt) (f : Addr) (cdv : Value) (A : Around) (outer : List Env) (s : Shared) (H : Hp) (E : XK) : Cx :=
  cxOf (L2.CX P w) P w g.K mg base N qual (defScope st) f cdv A outer s H E
/-- a def that may raise -/
theorem def_ok {fn : List PV → M PV} {ub : List PV → M (Fl Unit Empty)} {m : Nat} (F : Fun g.K x qual st f fd) (S : FnScope N ps (defScope st)) (hm : ps.length + m = N.length) (hf : ∀ ws, ws.length = ps.length → fn ws = uDef (ub ws))
    (hb : ∀ (cdv : Value) (A : Around) (outer : List Env) (s : Shared) (H : Hp) (E : XK) (ws : List PV), ws.length = ps.length → Room k (A.deeper (envOfC qual (defScope st) s.heap.objs.size f cdv)) →
      XB (γ := Empty) (β := Unit) g (dX P w g mg base N qual st f cdv A outer s H E) (eW E) [] (ws.map some ++ List.replicate m none) (defBody st) (fun _ => []) (fun e => nomatch e) (ub ws)) : FnOk P w g.K mg base (L2.CX P w) (k + 1) f fd ps (spU g ps.length fn) := by
  refine F.okX S (fun vs H Q E h => ?_) (fun cdv A outer s H vs Q E hr h => ?_)
  · obtain ⟨_, _, _, _, _, _, _, h, _⟩ := h; exact h
  · obtain ⟨lk, F, ρ, Ar, ws, o, A', hl, hh, r, e, post⟩ := h
    have hw : ws.length = ps.length := by rw [← r.length]; exact hl
    obtain ⟨t, p, sm⟩ := hb cdv A outer s H E ws hw hr
    refine ⟨t, p, ?_⟩
    rw [hf ws hw] at e
    unfold uDef at e
    have sr : SR g F ρ (ws.map some ++ List.replicate m none) (L2.start N vs) := sr_start' r rfl (by omega)
    rcases M.bind_inv e with ⟨fl, A1, e1, e2⟩ | ⟨c, fs, e1, rfl⟩
    · refine sm lk F ρ Ar _ H _ hh sr _ A1 e1 fun F1 ρ1 H1 k1 h1 => ?_
      cases fl with
      | nx b => cases e2; exact fun _ _ => post F1 ρ1 H1 k1 h1 _ .non
      | rt v => cases e2; exact fun x rx => post F1 ρ1 H1 k1 h1 x rx
      | bk c => exact nomatch c
      | ct c => exact nomatch c
    · exact sm lk F ρ Ar _ H _ hh sr _ A' e1 fun F1 ρ1 H1 k1 h1 σ cls d _ er => post F1 ρ1 H1 k1 h1 cls d er
end
section
variable {g : Gx} {X : Cx} {W : WX} {εx ε : Ev} {a b c e o i tg iter elt : Expr} {es : List Expr} {rest ss ss' : List Stmt} {st : Stmt} {ua ub uo ui : M PV} {us : M (List PV)} {uc ud : M Bool} {pos apos : Pos} {lk : Lks} {F G : Hp} {ρ τ : List Addr} {A A' : Ar} {σ : L2.St} {H : Hp}
variable {α β γ δ : Type} {L : β → Ev} {Ll : γ → Ev} {L1 : α → Ev}
def uCall (us : M (List PV)) (fn : List PV → M PV) : M PV := us >>= fn
theorem run_sp {n : Nat} {fn : List PV → M PV} {vs : List V} {ws : List PV} {Q : VK} {out : Out PV} (hn : vs.length = n) (hh : HR g lk F ρ A H) (r : RpL g F ρ vs ws) (e : fn ws A = some (out, A')) (post : ∀ F' ρ' H', Ex F ρ F' ρ' → HR g lk F' ρ' A' H' → EndE g W σ Q F' ρ' H' out) :
    spU g n fn vs H Q (fun cls d H => W cls d σ H) := ⟨lk, F, ρ, A, ws, out, A', hn, hh, r, e, fun F' ρ' H' k h => by
  have := post F' ρ' H' k h
  cases out with
  | ok v => exact this
  | ex c fs => exact this⟩
theorem x_call {n : Nat} {fn : List PV → M PV} {x : Str} {p : Pos} {f : Addr} {k : Nat} {fd : FuncData} {ps : List Str} (Fk : FnOk X.prog X.w X.K X.mg X.base (L2.CX X.prog X.w) k f fd ps (spU g n fn)) (hr : Room k X.A) (hg : Gl X x) (hm : X.mg x = some (.ref f)) (hk : PySem.W.keepIn X.K (.ref f) = true) (hb : Binds X.K fd ps [])
    (hx : ∀ σ, PassesAt (L2.CX X.prog X.w) X σ (fun cls d H => W cls d σ H)) (hn : ∀ ws A z, fn ws A = some z → ws.length = n) (ha : XA g X W ε (e :: es) us) (hdb : (x == ("__debug__" : Str)) = false := by decide) (he : starEach (e :: es) X.env = (false, eval e X.env) :: starEach es X.env := by rfl) (hpl : (backTo pos (starEach es X.env)).any (·.1) = false := by rfl) :
    XE g X W ε (.Call (.Name x p) (e :: es) [] pos) (uCall us fn) :=
  let ⟨_, p, s⟩ := ha; ⟨_, pe_callS (E := fun σ cls d H => W cls d σ H) Fk hr hg hm hk hb hx p hdb he hpl, fun lk F ρ A σ H Q hh sr o A' e post =>
    s.step hh sr e (.of_e post) fun F1 ρ1 A1 H1 v x k1 h1 rx e2 => run_sp (by rw [rx.length]; exact hn _ _ _ e2) h1 rx e2 (EndE.mono' post k1)⟩
theorem x_call0 {fn : List PV → M PV} {x : Str} {p : Pos} {f : Addr} {k : Nat} {fd : FuncData} (Fk : FnOk X.prog X.w X.K X.mg X.base (L2.CX X.prog X.w) k f fd [] (spU g 0 fn)) (hr : Room k X.A) (hg : Gl X x) (hm : X.mg x = some (.ref f)) (hk : PySem.W.keepIn X.K (.ref f) = true) (hb : Binds X.K fd [] [])
    (hx : ∀ σ, PassesAt (L2.CX X.prog X.w) X σ (fun cls d H => W cls d σ H)) : True := trivial
def fn1 (f : PV → M PV) : List PV → M PV
  | [a] => f a
  | _ => bad
def fn2 (f : PV → PV → M PV) : List PV → M PV
  | [a, b] => f a b
  | _ => bad
def fn3 (f : PV → PV → PV → M PV) : List PV → M PV
  | [a, b, c] => f a b c
  | _ => bad
def fn4 (f : PV → PV → PV → PV → M PV) : List PV → M PV
  | [a, b, c, d] => f a b c d
  | _ => bad
def fn5 (f : PV → PV → PV → PV → PV → M PV) : List PV → M PV
  | [a, b, c, d, e] => f a b c d e
  | _ => bad
theorem fn1_len {f} (ws A z) (h : fn1 f ws A = some z) : ws.length = 1 := by unfold fn1 at h; split at h; rfl; cases h
theorem fn2_len {f} (ws A z) (h : fn2 f ws A = some z) : ws.length = 2 := by unfold fn2 at h; split at h; rfl; cases h
theorem fn3_len {f} (ws A z) (h : fn3 f ws A = some z) : ws.length = 3 := by unfold fn3 at h; split at h; rfl; cases h
theorem fn4_len {f} (ws A z) (h : fn4 f ws A = some z) : ws.length = 4 := by unfold fn4 at h; split at h; rfl; cases h
theorem fn5_len {f} (ws A z) (h : fn5 f ws A = some z) : ws.length = 5 := by unfold fn5 at h; split at h; rfl; cases h
/-! lists that change -/
def lstC (A : Ar) : PV → Option (List PV)
  | .m h => match A[h]? with
    | some (some (false, .lst xs)) => some xs
    | _ => none
  | _ => none
def appendM (o v : PV) : M PV := fun A => match o, lstC A o with
  | .m h, some xs => if xs.length < sizeLine then some (.ok .non, A.set h (some (false, .lst (xs ++ [v])))) else none
  | _, _ => none
def uAppend (uo ua : M PV) : M PV := uo >>= fun o => (ask fun A => lstC A o) >>= fun _ => ua >>= fun v => appendM o v
theorem cell_at {h : Nat} {l : Bool} {cc : Cell} {x : V} (hh : HR g lk F ρ A H) (r : Rp g F ρ x (.m h)) (e : A[h]? = some (some (l, cc))) : ∃ a o, x = .ref a ∧ ρ[h]? = some a ∧ CellR g F ρ cc o ∧ Rd H a o ∧ (l = false → H a = some o) := by
  cases r with | m er =>
  obtain ⟨a, o, e1, e2, e3, e4, e5⟩ := hh.cell _ _ _ e
  rw [er] at e1; cases e1
  exact ⟨_, o, rfl, er, e3, e4, e5⟩
theorem lstC_at {x : V} {v : PV} {xs : List PV} (hh : HR g lk F ρ A H) (r : Rp g F ρ x v) (e : lstC A v = some xs) : ∃ h a vs, v = .m h ∧ A[h]? = some (some (false, .lst xs)) ∧ x = .ref a ∧ ρ[h]? = some a ∧ H a = some (.lst vs) ∧ RpL g F ρ vs xs := by
  cases r with
  | m er =>
    rename_i a h
    unfold lstC at e
    simp only at e
    split at e
    · rename_i ys q; cases e
      obtain ⟨b, o, e1, e2, ⟨vs, rfl, rr⟩, e4, e5⟩ := hh.cell _ _ _ q
      rw [er] at e1; cases e1
      exact ⟨h, a, vs, rfl, q, rfl, er, e5 rfl, rr⟩
    · cases e
  | _ => cases e
theorem x_append (hb : ∀ to t, PE X o to → PE X a t → PE X e (tBM X.K "list" rAppend to (tCons t tNil))) (he : XE g X W ε o uo) (ha : XE g X W ε a ua) : XE g X W ε e (uAppend uo ua) :=
  let ⟨_, p, s⟩ := he; let ⟨_, q, t⟩ := ha; ⟨_, hb _ _ p q, fun lk F ρ A σ H Q hh sr o A' e post =>
    s.step hh sr e (.of_e post) fun F1 ρ1 A1 H1 v x k1 h1 rx e2 => by
      rcases M.bind_inv e2 with ⟨xs, A2, e3, e4⟩ | ⟨c, fs, e3, _⟩
      · obtain ⟨xs', e5, z, rfl⟩ := ask_inv e3
        cases z
        obtain ⟨h, l, vs, rfl, eA, rfl, er, eH, rr⟩ := lstC_at h1 rx e5
        refine ⟨.inl ⟨rfl, vs, SqL.of eH⟩, ?_⟩
        exact t.step h1 (sr.mono k1) e4 ((PX.of_e post).mono k1) fun F2 ρ2 A2 H2 w y k2 h2 ry e6 => by
          unfold appendM at e6
          split at e6
          · rename_i h' xs2 eh q2
            cases eh
            split at e6
            · rename_i hz
              cases e6
              obtain ⟨h', l', vs2, eh, eA2, el, er2, eH2, rr2⟩ := lstC_at h2 (rx.mono k2) q2
              cases eh; cases el
              refine ⟨l, vs2, y, rfl, rfl, eH2, by rw [rr2.length]; exact hz, ?_⟩
              exact EndE.okX post rfl (k1.trans k2) (h2.write eA2 er2 ⟨vs2 ++ [y], rfl, rr2.append (.cons ry .nil)⟩) .non
            · cases e6
          · cases e6
      · obtain ⟨_, _, z, _⟩ := ask_inv e3; cases z⟩
/-! a store into a list, a dict -/
def setM (o i v : PV) : M Unit := fun A => match o with
  | .m h => match A[h]? with
    | some (some (false, .lst xs)) => match i with
      | .int k => match ixN xs.length k with
        | some j => some (.ok (), A.set h (some (false, .lst (xs.set j v))))
        | none => none
      | _ => none
    | some (some (false, .dK kvs)) => match keyK i with
      | some k => if kvs.length < sizeLine then some (.ok (), A.set h (some (false, .dK (pPut kvs k v)))) else none
      | none => none
    | some (some (false, .dT kvs)) => match keyT i with
      | some k => if kvs.length < sizeLine then some (.ok (), A.set h (some (false, .dT (pPut kvs k v)))) else none
      | none => none
    | _ => none
  | _ => none
def rDSet : V → V → V → Hp → (Hp → Prop) → Prop := fun o i v H Q => ∃ a H', o = .ref a ∧ DPut H a i v H' ∧ Q H'
theorem set_dict (hu : X.A.units + 1 < cLine) : PSet X rDSet := fun pins s σ H o i v ov iv u Q I ro ri rv ⟨a, H', eo, gg, q⟩ => by
  subst eo; cases ro
  exact d_setItem hu I gg ri rv fun s' I' => ⟨H', I', q⟩
theorem PSet.or {r r' : V → V → V → Hp → (Hp → Prop) → Prop} (h : PSet X r) (h' : PSet X r') : PSet X (fun o i v H Q => r o i v H Q ∨ r' o i v H Q) := fun pins s σ H o i v ov iv u Q I ro ri rv q => q.elim (h pins s σ H o i v ov iv u Q I ro ri rv) (h' pins s σ H o i v ov iv u Q I ro ri rv)
def rSetU : V → V → V → Hp → (Hp → Prop) → Prop := fun o i v H Q => rSetL o i v H Q ∨ rDSet o i v H Q
theorem set_U (hu : X.A.units + 1 < cLine) : PSet X rSetU := PSet.or set_list (set_dict hu)
theorem set_at {x y z : V} {o i v : PV} {out : Out Unit} {Q : Hp → Prop} (hh : HR g lk F ρ A H) (rx : Rp g F ρ x o) (ry : Rp g F ρ y i) (rz : Rp g F ρ z v) (e : setM o i v A = some (out, A')) (post : ∀ H', HR g lk F ρ A' H' → Q H') : rSetU x y z H Q ∧ out = .ok () := by
  unfold setM at e
  split at e
  · rename_i h
    split at e
    · rename_i xs eA
      obtain ⟨p, o, rfl, er, ⟨vs, rfl, rr⟩, _, eH⟩ := cell_at hh rx eA
      split at e
      · rename_i k
        split at e
        · rename_i j ej; cases e
          exact ⟨.inl ⟨p, vs, k, j, rfl, ry.int_inv, eH rfl, by rw [rr.length]; exact ej, post _ (hh.write eA er ⟨_, rfl, rr.set rz j⟩)⟩, rfl⟩
        · cases e
      · cases e
    · rename_i kvs eA
      obtain ⟨p, o, rfl, er, ⟨vs, rfl, rr⟩, _, eH⟩ := cell_at hh rx eA
      split at e
      · rename_i k ek
        split at e
        · rename_i hz; cases e
          exact ⟨.inr ⟨p, _, rfl, .inl ⟨vs, k, eH rfl, keyK_at ry ek, by rw [rpk_len rr]; exact hz, rfl⟩, post _ (hh.write eA er ⟨_, rfl, rpk_put rr rz⟩)⟩, rfl⟩
        · cases e
      · cases e
    · rename_i kvs eA
      obtain ⟨p, o, rfl, er, ⟨vs, rfl, rr⟩, _, eH⟩ := cell_at hh rx eA
      split at e
      · rename_i k ek
        split at e
        · rename_i hz; cases e
          obtain ⟨b, rfl, hb⟩ := keyT_at hh ry ek
          exact ⟨.inr ⟨p, _, rfl, .inr ⟨vs, k, b, eH rfl, rfl, hb, by rw [rpk_len rr]; exact hz, rfl⟩, post _ (hh.write eA er ⟨_, rfl, rpk_put rr rz⟩)⟩, rfl⟩
        · cases e
      · cases e
    · cases e
  · cases e
/-- o[i] = a -/
theorem b_sub {k : M (Fl β γ)} (hx : SubL ε εx) (hu : X.A.units + 1 < cLine) (ha : XE g X W ε a ua) (ho : XE g X W ε o uo) (hi : XE g X W ε i ui) (hr : XB g X W εx ε rest L Ll k)
    (hb : ∀ ta to ti, PE X a ta → PE X o to → PE X i ti → PS X st (tAsg ta (gSub to ti rSetU))) : XB g X W εx ε (st :: rest) L Ll (ua >>= fun v => uo >>= fun o => ui >>= fun i => setM o i v >>= fun _ => k) :=
  let ⟨_, p, s⟩ := ha; let ⟨_, q, t⟩ := ho; let ⟨_, p', u⟩ := hi; let ⟨_, q', t'⟩ := hr; ⟨_, pss_cons (hb _ _ _ p q p') q', fun lk F ρ A σ H D hh sr o A' e post =>
    s.step hh sr e (.of_s sr hx post) fun F1 ρ1 A1 H1 v x k1 h1 rx e2 =>
      t.step h1 (sr.mono k1) e2 ((PX.of_s sr hx post).mono k1) fun F2 ρ2 A2 H2 w y k2 h2 ry e3 =>
        u.step h2 (sr.mono (k1.trans k2)) e3 ((PX.of_s sr hx post).mono (k1.trans k2)) fun F3 ρ3 A3 H3 z zz k3 h3 rz e4 => by
          have kk := (k1.trans k2).trans k3
          rcases M.bind_inv e4 with ⟨un, A4, e5, e6⟩ | ⟨c, fs, e5, _⟩
          · exact (set_at h3 (ry.mono k3) rz (rx.mono (k2.trans k3)) e5 fun H4 h4 => t' lk F3 ρ3 A4 σ H4 D h4 (sr.mono kk) o A' e6 (EndS.mono' post kk)).1
          · have := (set_at (Q := fun _ => True) h3 (ry.mono k3) rz (rx.mono (k2.trans k3)) e5 fun _ _ => trivial).2
            cases this⟩
/-! comprehensions -/
def noX {α : Type} (u : M α) : M α := fun A => match u A with
  | some (.ok a, B) => some (.ok a, B)
  | _ => none
def uComp (f : PV → M (Option PV)) : List PV → List PV → M (List PV)
  | [], acc => pure acc
  | x :: xs, acc => f x >>= fun o => uComp f xs (match o with | none => acc | some y => acc ++ [y])
def uLc (us : M (List PV)) (f : PV → M (Option PV)) : M PV := us >>= fun xs => if xs.length ≤ sizeLine then (noX (uComp f xs [])) >>= fun ys => pure (.lst ys) else bad
def uElt (ut : M Bool) (ue : M PV) : M (Option PV) := ut >>= fun b => if b = true then (ue >>= fun v => pure (some v)) else pure none
def wipeE (ε : Ev) : List Nat → Ev
  | [] => ε
  | v :: vs => (wipeE ε vs).set v none
theorem SR.none (s : SR g F ρ ε σ) (i : Nat) : SR g F ρ (ε.set i none) (σ.set i none) := by
  refine ⟨by simp [s.len], fun j w e => ?_⟩
  by_cases h : i = j
  · subst h
    rcases Nat.lt_or_ge i ε.length with z | z
    · rw [List.getElem?_set_self z] at e; cases e
    · rw [List.getElem?_eq_none (by simpa using z)] at e; cases e
  · rw [List.getElem?_set_ne h] at e ⊢
    exact s.at_ j w e
theorem SR.wipe (s : SR g F ρ ε σ) : ∀ vs : List Nat, SR g F ρ (wipeE ε vs) (L2.wipe σ vs)
  | [] => s
  | v :: vs => (SR.wipe s vs).none v
theorem noX_inv {α : Type} {u : M α} {A B : Ar} {o : Out α} (h : noX u A = some (o, B)) : ∃ a, o = .ok a ∧ u A = some (.ok a, B) := by
  unfold noX at h
  split at h
  · cases h; exact ⟨_, rfl, by assumption⟩
  · cases h
abbrev W0 : WX := fun _ _ _ _ => False
def XTs (g : Gx) (X : Cx) (W : WX) (ε : Ev) (ifs : List Expr) (u : M Bool) : Prop := ∃ t, PTs X ifs t ∧ SimT g W ε t u
theorem ts_nil : XTs g X W ε [] (pure true) := ⟨_, pts_nil, fun lk F ρ A σ H Q hh s o A' e post => by cases e; exact EndT.ok post rfl (.refl F ρ) hh⟩
theorem ts_one (h : XT g X W ε c uc) : XTs g X W ε [c] uc := let ⟨_, p, s⟩ := h; ⟨_, pts_one p, s⟩
abbrev Blk (X : Cx) (scope : Scope) (z : Shared × Hp × Addr × List (Str × Addr) × List Addr) : Cx := X.blk z.1 z.2.1 scope (compEnvC scope z.2.2.2.1 z.2.2.1 X.env) z.2.2.2.2
theorem lc_parts {ts : List Nat} {ifs : List Expr} {scope : Scope} {own : List (Str × Nat)} {d : PV → Option δ} {Lg : δ → Ev} {ut : δ → M Bool} {ue : δ → M PV} (hi : XI g X W ε tg iter us) (hts : ∀ i ∈ ts, i ∈ own.map (·.2))
    (hg : ∀ z, XG g (Blk X scope z) (wipeE ε (own.map (·.2))) tg ts d Lg) (ht : ∀ z q, XTs g (Blk X scope z) W0 (Lg q) ifs (ut q)) (he : ∀ z q, XE g (Blk X scope z) W0 (Lg q) elt (ue q)) :
    ∃ (wi : TI) (gg : TG) (tt : TT) (te : TE), PI X tg iter wi ∧ (∀ (s : Shared) (H : Hp) (C : Addr) (cl : List (Str × Addr)) (fp : List Addr), PG (X.blk s H scope (compEnvC scope cl C X.env) fp) tg gg) ∧ (∀ (s : Shared) (H : Hp) (C : Addr) (cl : List (Str × Addr)) (fp : List Addr), PTs (X.blk s H scope (compEnvC scope cl C X.env) fp) ifs tt) ∧
      (∀ (s : Shared) (H : Hp) (C : Addr) (cl : List (Str × Addr)) (fp : List Addr), PE (X.blk s H scope (compEnvC scope cl C X.env) fp) elt te) ∧ SimE g W ε (tLc wi gg tt te (own.map (·.2))) (uLc us (fun v => opt (d v) >>= fun q => uElt (ut q) (ue q))) := by
  obtain ⟨wi, p, s⟩ := hi
  refine ⟨wi, fun y σ H Q => ∀ z, Classical.choose (hg z) y σ H Q, fun σ H Q => ∃ q, ∀ z, Classical.choose (ht z q) σ H Q, fun σ H Q => ∃ q, ∀ z, Classical.choose (he z q) σ H Q, p,
    (fun a b c dd e => ⟨fun pins s σ H v u Q I r h => ((Classical.choose_spec (hg (a, b, c, dd, e))).1).run pins s σ H v u Q I r (h _)⟩),
    (fun a b c dd e => ⟨fun pins s σ H Q I ⟨q, h⟩ => ((Classical.choose_spec (ht (a, b, c, dd, e) q)).1).run pins s σ H Q I (h _)⟩),
    (fun a b c dd e => ⟨fun pins s σ H Q I ⟨q, h⟩ => ((Classical.choose_spec (he (a, b, c, dd, e) q)).1).run pins s σ H Q I (h _)⟩), fun lk F ρ A σ H Q hh sr o A' e post => ?_⟩
  have sg := fun z => (Classical.choose_spec (hg z)).2
  have st := fun z q => (Classical.choose_spec (ht z q)).2
  have se := fun z q => (Classical.choose_spec (he z q)).2
  refine s lk F ρ A σ H _ hh sr _ _ o A' e (.of_e post) fun F1 ρ1 A1 H1 J xs k1 h1 it e1 => ?_
  obtain ⟨hz, e2⟩ := if_fail e1
  obtain ⟨ys, A2, e5, e4⟩ : ∃ ys A2, uComp (fun v => opt (d v) >>= fun q => uElt (ut q) (ue q)) xs [] A1 = some (.ok ys, A2) ∧ (pure (.lst ys) : M PV) A2 = some (o, A') := by
    rcases M.bind_inv e2 with ⟨ys, A2, e3, e4⟩ | ⟨c, fs, e3, _⟩
    · obtain ⟨_, zz, e5⟩ := noX_inv e3
      cases zz
      exact ⟨ys, A2, e5, e4⟩
    · obtain ⟨_, zz, _⟩ := noX_inv e3; cases zz
  cases e4
  intro D hD
  have lkD : ∀ x ∈ lk, x.1 ≠ D := fun x hx => ne_of_none (h1.lks x hx).1 hD
  refine ⟨fun i m H => m = xs.length - i ∧ i ≤ xs.length ∧ ∃ F2 ρ2 A3 vs acc, Ex F1 ρ1 F2 ρ2 ∧ HR g ((D, .lst vs, false) :: lk) F2 ρ2 A3 H ∧ RpL g F2 ρ2 vs acc ∧ acc.length ≤ i ∧ uComp (fun v => opt (d v) >>= fun q => uElt (ut q) (ue q)) (xs.drop i) acc A3 = some (.ok ys, A'),
    ⟨xs.length, by simp, Nat.zero_le _, F1, ρ1, A1, [], [], .refl _ _, h1.aside hD, .nil, Nat.le_refl _, by simpa using e5⟩, ?_⟩
  rintro i m H2 ⟨rfl, hi, F2, ρ2, A3, vs, acc, k2, h2, ra, la, e6⟩
  by_cases hlt : i < xs.length
  · obtain ⟨go, yld⟩ := it.go _ F2 ρ2 A3 H2 i (fun x h => List.mem_cons_of_mem _ h) k2 h2 hlt
    have hd : xs.drop i = xs[i] :: xs.drop (i + 1) := (List.drop_eq_getElem_cons hlt)
    rw [hd] at e6
    unfold uComp at e6
    refine .inr ⟨go, fun H' => i + 1 ≤ xs.length ∧ ∃ F2 ρ2 A3 vs acc, Ex F1 ρ1 F2 ρ2 ∧ HR g ((D, .lst vs, false) :: lk) F2 ρ2 A3 H' ∧ RpL g F2 ρ2 vs acc ∧ acc.length ≤ i + 1 ∧ uComp (fun v => opt (d v) >>= fun q => uElt (ut q) (ue q)) (xs.drop (i + 1)) acc A3 = some (.ok ys, A'), fun H' h => ⟨_, by omega, rfl, h⟩, fun y H3 hy z => ?_⟩
    obtain ⟨F3, k3, h3, v, hv, rv⟩ := yld y H3 hy
    rw [List.getElem?_eq_getElem hlt] at hv
    obtain rfl := Option.some.inj hv
    rw [M.bind_assoc'] at e6
    rcases M.bind_inv e6 with ⟨q, A4, e7, e8⟩ | ⟨c, fs, e7, zz⟩
    · obtain ⟨q', ed, zz, hA⟩ := opt_inv e7
      cases zz
      subst hA
      have s3 := ((sr.mono ((k1.trans k2).trans k3)).wipe (own.map (·.2)))
      refine sg z _ F3 ρ2 A4 H3 y xs[i] _ q _ h3 s3 rv ed fun σ3 s4 sm => ?_
      refine ⟨by rw [sm.wipe hts, wipe_wipe], q, fun z' => ?_⟩
      unfold uElt at e8
      rw [M.bind_assoc'] at e8
      refine (st z' q).step h3 s4 e8 (fun c fs zz => nomatch zz) fun F4 ρ4 A5 H4 b k4 h4 e9 => ?_
      cases b with
      | true =>
        refine ifT rfl ⟨q, fun z2 => ?_⟩
        have e9 : ((ue q >>= fun v => pure (some v)) >>= fun o => uComp (fun v => opt (d v) >>= fun q => uElt (ut q) (ue q)) (xs.drop (i + 1)) (match o with | none => acc | some y => acc ++ [y])) A5 = some (.ok ys, A') := e9
        rw [M.bind_assoc'] at e9
        refine (se z2 q).step h4 (s4.mono k4) e9 (fun c fs zz => nomatch zz) fun F5 ρ5 A6 H5 w u k5 h5 ru e10 => ?_
        have kk := (k3.trans k4).trans k5
        exact ⟨vs, (h5.lks _ List.mem_cons_self).1, by rw [ra.length]; omega, by omega, F5, ρ5, A6, vs ++ [u], acc ++ [w], k2.trans kk, h5.aside_set _ lkD, (ra.mono kk).append (.cons ru .nil), by simp; omega, e10⟩
      | false =>
        exact ifF rfl ⟨by omega, F4, ρ4, A5, vs, acc, k2.trans (k3.trans k4), h4, ra.mono (k3.trans k4), by omega, e9⟩
    · cases zz
  · have ei : i = xs.length := by omega
    subst ei
    rw [List.drop_length] at e6
    cases e6
    obtain ⟨h3, k3⟩ := h2.aside_end lkD
    exact .inl ⟨it.stop _ F2 ρ2 _ H2 _ (fun x h => List.mem_cons_of_mem _ h) k2 h2 rfl, EndE.okX post rfl ((k1.trans k2).trans k3) h3 (.lst upd_same (ra.mono k3))⟩
theorem x_lc {ts : List Nat} {ifs : List Expr} {scope : Scope} {own : List (Str × Nat)} {d : PV → Option δ} {Lg : δ → Ev} {ut : δ → M Bool} {ue : δ → M PV} (hc : X.calm = true) (hN : X.N.Nodup) (hi : XI g X W ε tg iter us) (ok : BlkOk X.N X.env.scope scope own) (hts : ∀ i ∈ ts, i ∈ own.map (·.2))
    (hg : ∀ z, XG g (Blk X scope z) (wipeE ε (own.map (·.2))) tg ts d Lg) (ht : ∀ z q, XTs g (Blk X scope z) W0 (Lg q) ifs (ut q)) (he : ∀ z q, XE g (Blk X scope z) W0 (Lg q) elt (ue q)) (hs : ∀ x, foldedSetIterable iter X.env x = pure x := by intro _; rfl) :
    XE g X W ε (.ListComp elt [⟨tg, iter, ifs, 0⟩] scope pos) (uLc us (fun v => opt (d v) >>= fun q => uElt (ut q) (ue q))) :=
  let ⟨_, _, _, _, p1, p2, p3, p4, sm⟩ := lc_parts (W := W) (ε := ε) (us := us) hi hts hg ht he
  ⟨_, pe_lc hc hN p1 ok p2 p3 p4 hs, sm⟩
/-- name = [..] -/
theorem b_setLc {i : Nat} {y : Str} {py spos : Pos} {ts : List Nat} {ifs : List Expr} {scope : Scope} {own : List (Str × Nat)} {d : PV → Option δ} {Lg : δ → Ev} {ut : δ → M Bool} {ue : δ → M PV} {k : PV → M (Fl β γ)} (hx : SubL ε εx) (hc : X.calm = true) (hN : X.N.Nodup) (hy : X.N[i]? = some y) (hyl : X.env.scope.names.lookup y = some .local)
    (hsw : swapsWith (.ListComp elt [⟨tg, iter, ifs, 0⟩] scope pos) (some (.Name y py)) spos.line X.env = pure true) (hi : XI g X W ε tg iter us) (ok : BlkOk X.N X.env.scope scope own) (hts : ∀ i ∈ ts, i ∈ own.map (·.2))
    (hg : ∀ z, XG g (Blk X scope z) (wipeE ε (own.map (·.2))) tg ts d Lg) (ht : ∀ z q, XTs g (Blk X scope z) W0 (Lg q) ifs (ut q)) (he : ∀ z q, XE g (Blk X scope z) W0 (Lg q) elt (ue q)) (hr : ∀ v, XB g X W εx (ε.set i (some v)) rest L Ll (k v)) (hs : ∀ x, foldedSetIterable iter X.env x = pure x := by intro _; rfl) :
    XB g X W εx ε (.Assign [.Name y py] (.ListComp elt [⟨tg, iter, ifs, 0⟩] scope pos) spos :: rest) L Ll (uLc us (fun v => opt (d v) >>= fun q => uElt (ut q) (ue q)) >>= k) :=
  let ⟨_, _, _, _, p1, p2, p3, p4, s⟩ := lc_parts (W := W) (ε := ε) (us := us) hi hts hg ht he
  let ⟨_, q, r⟩ := all_of hr; ⟨_, pss_cons (ps_setLc hc hN hy hyl hsw p1 ok p2 p3 p4 hs) q, fun lk F ρ A σ H D hh sr o A' e post =>
    s.step hh sr e (.of_s sr hx post) fun F1 ρ1 A1 H1 v x k1 h1 rx e2 => r v lk F1 ρ1 A1 _ H1 D h1 ((sr.mono k1).set i rx) o A' e2 (EndS.mono' post k1)⟩
end
end Lk
set_option Elab.async false
set_option linter.all false
set_option maxRecDepth 100000
namespace Lk
open PySem PySem.Spec L2
open PyProof.Rows (envOfC)
/-! ### a def's own lists are gone behind it -/
mutual
def clB (n : Nat) : PV → Bool
  | .m h => decide (h < n)
  | .lst xs => clL n xs
  | .tup xs => clL n xs
  | .exc _ _ _ xs => clL n xs
  | _ => true
def clL (n : Nat) : List PV → Bool
  | [] => true
  | x :: xs => clB n x && clL n xs
end
def clC (n : Nat) : Cell → Bool
  | .lst xs => clL n xs
  | .dK kvs => clL n (kvs.map (·.2))
  | .dT kvs => clL n (kvs.map (·.2))
  | .ins _ fs => clL n (fs.map (·.2))
def clO (n : Nat) : Out PV → Bool
  | .ok v => clB n v
  | .ex _ none => true
  | .ex _ (some fs) => clL n (fs.map (·.2))
section
variable {g : Gx} {F G : Hp} {ρ τ : List Addr}
mutual
theorem Rp.cl : ∀ {x : V} {v : PV}, Rp g F ρ x v → clB ρ.length v = true
  | _, _, .non => by unfold clB; rfl
  | _, _, .bl _ => by unfold clB; rfl
  | _, _, .int _ => by unfold clB; rfl
  | _, _, .str _ => by unfold clB; rfl
  | _, _, .ty _ => by unfold clB; rfl
  | _, _, .lst h r => by unfold clB; exact RpL.cl r
  | _, _, .tup h r => by unfold clB; exact RpL.cl r
  | _, _, .m (h := h) e => by
    unfold clB
    rcases Nat.lt_or_ge h ρ.length with z | z
    · exact decide_eq_true z
    · rw [List.getElem?_eq_none z] at e; cases e
  | _, _, .scr _ => by unfold clB; rfl
  | _, _, .exc _ _ r => by unfold clB; exact RpL.cl r
theorem RpL.cl : ∀ {xs : List V} {vs : List PV}, RpL g F ρ xs vs → clL ρ.length vs = true
  | _, _, .nil => by unfold clL; rfl
  | _, _, .cons h r => by unfold clL; rw [Rp.cl h, RpL.cl r]; rfl
end
mutual
theorem Rp.shrink (hp : ∀ i, i < ρ.length → τ[i]? = ρ[i]?) : ∀ {x : V} {v : PV}, Rp g F τ x v → clB ρ.length v = true → Rp g F ρ x v
  | _, _, .non, _ => .non
  | _, _, .bl b, _ => .bl b
  | _, _, .int i, _ => .int i
  | _, _, .str z, _ => .str z
  | _, _, .ty n, _ => .ty n
  | _, _, .lst h r, c => by unfold clB at c; exact .lst h (RpL.shrink hp r c)
  | _, _, .tup h r, c => by unfold clB at c; exact .tup h (RpL.shrink hp r c)
  | _, _, .m (h := h) e, c => by
    unfold clB at c
    exact .m (by rw [← hp h (of_decide_eq_true c)]; exact e)
  | _, _, .scr h, _ => .scr h
  | _, _, .exc h e r, c => by unfold clB at c; exact .exc h e (RpL.shrink hp r c)
theorem RpL.shrink (hp : ∀ i, i < ρ.length → τ[i]? = ρ[i]?) : ∀ {xs : List V} {vs : List PV}, RpL g F τ xs vs → clL ρ.length vs = true → RpL g F ρ xs vs
  | _, _, .nil, _ => .nil
  | _, _, .cons h r, c => by
    unfold clL at c
    obtain ⟨c1, c2⟩ := Bool.and_eq_true_iff.mp c
    exact .cons (Rp.shrink hp h c1) (RpL.shrink hp r c2)
end
theorem CellR.cl {c : Cell} {o : HO} (h : CellR g F ρ c o) : clC ρ.length c = true := by
  cases c with
  | lst xs => obtain ⟨vs, _, r⟩ := h; exact r.cl
  | dK xs => obtain ⟨vs, _, r⟩ := h; exact r.2.cl
  | dT xs => obtain ⟨vs, _, r⟩ := h; exact r.2.cl
  | ins C xs => obtain ⟨a, dx, vs, _, _, r⟩ := h; exact r.2.cl
theorem CellR.shrink (hp : ∀ i, i < ρ.length → τ[i]? = ρ[i]?) {c : Cell} {o : HO} (h : CellR g F τ c o) (q : clC ρ.length c = true) : CellR g F ρ c o := by
  cases c with
  | lst xs => obtain ⟨vs, e, r⟩ := h; exact ⟨vs, e, r.shrink hp q⟩
  | dK xs => obtain ⟨vs, e, r⟩ := h; exact ⟨vs, e, r.1, r.2.shrink hp q⟩
  | dT xs => obtain ⟨vs, e, r⟩ := h; exact ⟨vs, e, r.1, r.2.shrink hp q⟩
  | ins C xs => obtain ⟨a, dx, vs, e1, e2, r⟩ := h; exact ⟨a, dx, vs, e1, e2, r.1, r.2.shrink hp q⟩
end
def okS (ws : List PV) (A B : Ar) (o : Out PV) : Prop :=
  A.length ≤ B.length ∧ clO A.length o = true ∧ ∀ i, i < A.length → B[i]? = A[i]? ∨ ((.m i) ∈ ws ∧ ∀ l c, B[i]? = some (some (l, c)) → clC A.length c = true)
open Classical in
noncomputable def inner (ws : List PV) (u : M PV) : M PV := fun A => match u A with
  | some (o, B) => if okS ws A B o then some (o, B.take A.length) else none
  | none => none
theorem inner_of {ws : List PV} {u : M PV} {A B : Ar} {o : Out PV} (h : u A = some (o, B)) (k : okS ws A B o) : inner ws u A = some (o, B.take A.length) := by
  unfold inner; rw [h]; exact if_pos k
theorem inner_inv {ws : List PV} {u : M PV} {A B : Ar} {o : Out PV} (h : inner ws u A = some (o, B)) : ∃ B', u A = some (o, B') ∧ okS ws A B' o ∧ B = B'.take A.length := by
  unfold inner at h
  split at h
  · rename_i o' B' e
    by_cases k : okS ws A B' o'
    · rw [if_pos k] at h; cases h; exact ⟨B', e, k, rfl⟩
    · rw [if_neg k] at h; cases h
  · cases h
section
variable {g : Gx} {lk : Lks} {F G : Hp} {ρ τ : List Addr} {A B : Ar} {H H' : Hp}
theorem HR.cut {ws : List PV} {o : Out PV} (h0 : HR g lk F ρ A H) (k : Ex F ρ G τ) (h : HR g lk G τ B H') (q : okS ws A B o) : HR g lk G ρ (B.take A.length) H' ∧ Ex F ρ G ρ ∧ (∀ i, i < ρ.length → τ[i]? = ρ[i]?) := by
  have hp : ∀ i, i < ρ.length → τ[i]? = ρ[i]? := fun i hi => by
    rw [List.getElem?_eq_getElem hi]; exact k.pre i _ (List.getElem?_eq_getElem hi)
  have at_ : ∀ {i : Nat} {x : Bool × Cell}, (B.take A.length)[i]? = some (some x) → i < ρ.length ∧ B[i]? = some (some x) := fun {i x} e => by
    rcases Nat.lt_or_ge i A.length with z | z
    · rw [List.getElem?_take_of_lt z] at e; exact ⟨by rw [h0.len]; exact z, e⟩
    · rw [List.getElem?_eq_none (by simp; omega)] at e; cases e
  have cl : ∀ {i : Nat} {l : Bool} {c : Cell}, i < ρ.length → B[i]? = some (some (l, c)) → clC ρ.length c = true := fun {i l c} hi e => by
    rcases q.2.2 i (by rw [← h0.len]; exact hi) with z | ⟨_, z⟩
    · rw [z] at e
      obtain ⟨a, o, _, _, r, _⟩ := h0.cell i l c e
      exact r.cl
    · rw [h0.len]; exact z l c e
  refine ⟨⟨h.sub, fun i l c e => ?_, fun i j x y a ei ej ai aj => ?_, by rw [h0.len, List.length_take]; have := q.1; omega, h.lks, fun x hx i c e ea => ?_, fun i c a e ea => ?_, h.lkt⟩, ⟨k.le, fun _ _ e => e⟩, hp⟩
  · obtain ⟨hi, e'⟩ := at_ e
    obtain ⟨a, o, e1, e2, e3, e4, e5⟩ := h.cell i l c e'
    exact ⟨a, o, by rw [← hp i hi]; exact e1, e2, e3.shrink hp (cl hi e'), e4, e5⟩
  · obtain ⟨hi, e1⟩ := at_ ei
    obtain ⟨hj, e2⟩ := at_ ej
    exact h.nd i j x y a e1 e2 (by rw [hp i hi]; exact ai) (by rw [hp j hj]; exact aj)
  · obtain ⟨hi, e'⟩ := at_ e
    exact h.lkn x hx i c e' (by rw [hp i hi]; exact ea)
  · obtain ⟨hi, e'⟩ := at_ e
    exact h.lck i c a e' (by rw [hp i hi]; exact ea)
end
section
variable {P : Program} {w : World} {g : Gx} {mg : Str → Option Value} {base : Heap} {x qual : Str} {st : Stmt} {f : Addr} {fd : FuncData} {N ps : List Str} {k : Nat}
theorem end_cut {lk : Lks} {F : Hp} {ρ : List Addr} {A B : Ar} {H : Hp} {ws : List PV} {o : Out PV} {Q : VK} {E : XK} (h0 : HR g lk F ρ A H) (q : okS ws A B o) (post : ∀ F' ρ' H', Ex F ρ F' ρ' → HR g lk F' ρ' (B.take A.length) H' → EndC g Q E F' ρ' H' o) :
    ∀ F' ρ' H', Ex F ρ F' ρ' → HR g lk F' ρ' B H' → EndC g Q E F' ρ' H' o := fun F' ρ' H' k h => by
  obtain ⟨h1, k1, hp⟩ := h0.cut k h q
  have p := post F' ρ H' k1 h1
  have qo := q.2.1
  rw [← h0.len] at qo
  cases o with
  | ok v => exact fun x rx => p x (rx.shrink hp qo)
  | ex c fs =>
    intro cls d ⟨C, e1, e2, e3⟩
    refine p cls d ⟨C, e1, e2, ?_⟩
    cases fs with
    | none => exact e3
    | some l => obtain ⟨dd, vs, z1, z2, z3⟩ := e3; exact ⟨dd, vs, z1, z2, z3.1, z3.2.shrink hp qo⟩
/-- a def that makes lists of its own -/
theorem def_okS {fn : List PV → M PV} {ub : List PV → M (Fl Unit Empty)} {m : Nat} (F : Fun g.K x qual st f fd) (S : FnScope N ps (defScope st)) (hm : ps.length + m = N.length) (hf : ∀ ws, ws.length = ps.length → fn ws = inner ws (uDef (ub ws)))
    (hb : ∀ (cdv : Value) (A : Around) (outer : List Env) (s : Shared) (H : Hp) (E : XK) (ws : List PV), ws.length = ps.length → Room k (A.deeper (envOfC qual (defScope st) s.heap.objs.size f cdv)) →
      XB (γ := Empty) (β := Unit) g (dX P w g mg base N qual st f cdv A outer s H E) (eW E) [] (ws.map some ++ List.replicate m none) (defBody st) (fun _ => []) (fun e => nomatch e) (ub ws)) : FnOk P w g.K mg base (L2.CX P w) (k + 1) f fd ps (spU g ps.length fn) := by
  have d0 := def_ok (P := P) (w := w) (mg := mg) (base := base) (fn := fun ws => if ws.length = ps.length then uDef (ub ws) else bad) F S hm (fun ws h => if_pos h) hb
  refine d0.imp fun vs H Q E h => ?_
  obtain ⟨lk, F, ρ, Ar, ws, o, A', hl, hh, r, e, post⟩ := h
  have hw : ws.length = ps.length := by rw [← r.length]; exact hl
  rw [hf ws hw] at e
  obtain ⟨B, e1, q, rfl⟩ := inner_inv e
  exact ⟨lk, F, ρ, Ar, ws, o, B, hl, hh, r, (congrFun (if_pos hw) Ar).trans e1, end_cut hh q post⟩
end
/-! a list is left as it is from here on -/
def freezeM (v : PV) : M PV := fun A => match v with
  | .m h => match A[h]? with
    | some (some (false, .lst xs)) => some (.ok (.lst xs), A.set h none)
    | _ => none
  | v => some (.ok v, A)
section
variable {g : Gx} {X : Cx} {W : WX} {εx ε : Ev} {ss : List Stmt} {lk : Lks} {F G : Hp} {ρ τ : List Addr} {A A' : Ar} {H : Hp} {β γ : Type} {L : β → Ev} {Ll : γ → Ev}
theorem freeze_at {x : V} {v z : PV} (hh : HR g lk F ρ A H) (r : Rp g F ρ x v) (e : freezeM v A = some (.ok z, A')) : ∃ F', Ex F ρ F' ρ ∧ HR g lk F' ρ A' H ∧ Rp g F' ρ x z := by
  unfold freezeM at e
  split at e
  · rename_i h
    split at e
    · rename_i xs eA
      cases e
      obtain ⟨a, o, rfl, er, ⟨vs, rfl, rr⟩, _, eH⟩ := cell_at hh r eA
      obtain ⟨u, h1, h2, h3, k⟩ := hh.freeze eA er
      rw [eH rfl] at h1; cases h1
      exact ⟨_, k, h3, .lst upd_same (rr.mono k)⟩
    · cases e
  · cases e; exact ⟨F, .refl F ρ, hh, r⟩
theorem b_freeze {v : PV} {k : PV → M (Fl β γ)} (i : Nat) (hi : ε[i]? = some (some v)) (hr : ∀ w, XB g X W εx (ε.set i (some w)) ss L Ll (k w)) : XB g X W εx ε ss L Ll (freezeM v >>= k) :=
  let ⟨t, p, s⟩ := all_of hr; ⟨t, p, fun lk F ρ A σ H D hh sr o A' e post => by
    rcases M.bind_inv e with ⟨w, A1, e1, e2⟩ | ⟨c, fs, e1, rfl⟩
    · obtain ⟨x, hx, r⟩ := sr.at_ i v hi
      obtain ⟨F1, k1, h1, r1⟩ := freeze_at hh r e1
      have s1 := (sr.mono k1).set i r1
      have es : σ.set i (some x) = σ := by
        apply List.ext_getElem?
        intro j
        by_cases h : i = j
        · subst h
          rw [List.getElem?_set_self (by
            rcases Nat.lt_or_ge i σ.length with z | z
            · exact z
            · rw [List.getElem?_eq_none z] at hx; cases hx), hx]
        · rw [List.getElem?_set_ne h]
      rw [es] at s1
      exact s w lk F1 ρ A1 σ H D h1 s1 o A' e2 (EndS.mono' post k1)
    · unfold freezeM at e1
      split at e1
      · split at e1 <;> cases e1
      · cases e1⟩
end
end Lk
set_option Elab.async false
set_option linter.all false
set_option maxRecDepth 100000
set_option maxHeartbeats 2000000
namespace Lk
open PySem L2
/-! ### data that only stands -/
theorem SqL.kp0 {K : PySem.W.Frag} {H H' : Hp} {a : Addr} {xs : List V} (h : SqL K H a xs) (k : Kp [] H H') : SqL K H' a xs := by
  rcases h with (h | ⟨o, h⟩) | h
  · exact .inl (.inl (k.at0 h))
  · exact .inl (.inr ⟨o, k.at0 h⟩)
  · exact .inr h
theorem SqT.kp0 {K : PySem.W.Frag} {H H' : Hp} {a : Addr} {xs : List V} (h : SqT K H a xs) (k : Kp [] H H') : SqT K H' a xs := by
  rcases h with (h | ⟨o, h⟩) | h
  · exact .inl (.inl (k.at0 h))
  · exact .inl (.inr ⟨o, k.at0 h⟩)
  · exact .inr h
mutual
theorem Dp.kp0 {K : PySem.W.Frag} {H H' : Hp} (k : Kp [] H H') : ∀ (d : PyData) (v : V), Dp K H v d → Dp K H' v d
  | .none, _, h => by cases h; exact .non
  | .bool b, _, h => by cases h; exact .bl b
  | .int i, _, h => by cases h; exact .int i
  | .str x, _, h => by cases h; exact .str x
  | .list ds, _, h => by
    cases h with
    | lst s r => exact .lst (SqL.kp0 s k) (DpAll.kp0 k ds _ r)
  | .tuple ds, _, h => by
    cases h with
    | tup s r => exact .tup (SqT.kp0 s k) (DpAll.kp0 k ds _ r)
  | .dict _, _, h => by cases h
theorem DpAll.kp0 {K : PySem.W.Frag} {H H' : Hp} (k : Kp [] H H') : ∀ (ds : List PyData) (vs : List V), DpAll K H vs ds → DpAll K H' vs ds
  | [], _, h => by cases h; exact .nil
  | d :: ds, _, h => by
    cases h with
    | cons a b => exact .cons (Dp.kp0 k d _ a) (DpAll.kp0 k ds _ b)
end
/-- v is data -/
def DatN (n : Nat) (K : PySem.W.Frag) (H : Hp) (v : V) (d : PyData) : Prop := Dp K H v d ∧ d.canLay0 = true ∧ d.depth ≤ n
abbrev Dat (K : PySem.W.Frag) (H : Hp) (v : V) (d : PyData) : Prop := DatN 4 K H v d
theorem Dat.kp0 {K : PySem.W.Frag} {H H' : Hp} {v : V} {d : PyData} (h : Dat K H v d) (k : Kp [] H H') : Dat K H' v d := ⟨Dp.kp0 k d v h.1, h.2⟩
theorem dat_int {K : PySem.W.Frag} {H : Hp} (i : Int) : Dat K H (.int i) (.int i) := ⟨.int i, rfl, by rw [PyData.depth]; omega⟩
theorem dat_non {K : PySem.W.Frag} {H : Hp} : Dat K H .non .none := ⟨.non, rfl, by rw [PyData.depth]; omega⟩
theorem dat_str {K : PySem.W.Frag} {H : Hp} {s : Str} (h : PyData.strOk s = true) : Dat K H (.str s) (.str s) := ⟨.str s, by rw [PyData.canLay0]; exact h, by rw [PyData.depth]; omega⟩
theorem ok_text (s : String) : PyData.strOk (Str.ofString s) = true := by
  rw [Str.ofString_eq_toList]
  unfold PyData.strOk
  rw [← Array.all_toList, List.all_eq_true]
  intro c hc
  have hc : c ∈ s.toList.map Char.toNat := by simpa using hc
  obtain ⟨x, _, rfl⟩ := List.mem_map.mp hc
  have := x.valid
  have h2 : x.toNat < 1114112 := by
    have h3 : UInt32.toNat x.val < 1114112 := by
      rcases this with h | h
      · exact Nat.lt_trans h (by decide)
      · exact h.2
    exact h3
  exact decide_eq_true h2
theorem ok_app {a b : Str} (ha : PyData.strOk a = true) (hb : PyData.strOk b = true) : PyData.strOk (a ++ b) = true := by
  unfold PyData.strOk at *
  rw [← Array.all_toList, List.all_eq_true] at *
  intro c hc
  have hc : c ∈ ch (a ++ b) := hc
  rw [ch_append] at hc
  rcases List.mem_append.mp hc with h | h
  · exact ha c h
  · exact hb c h
def dOf (d : PyData) : List PyData → PyData := fun l => .list (d :: l)
theorem dat_l1 {K : PySem.W.Frag} {H : Hp} {a : Addr} {i : Int} (h : H a = some (.lst [.int i])) : Dat K H (.ref a) (.list [.int i]) := ⟨.lst (SqL.of h) (.cons (.int i) .nil), rfl, by simp [PyData.depth, PyData.depthAll]⟩
theorem dat_t2 {K : PySem.W.Frag} {H : Hp} {a : Addr} {i : Int} {s : Str} (ok : PyData.strOk s = true) (h : H a = some (.tup [.int i, .str s])) : Dat K H (.ref a) (.tuple [.int i, .str s]) :=
  ⟨.tup (SqT.of h) (.cons (.int i) (.cons (.str s) .nil)), by simp [PyData.canLay0, PyData.canLayAll0, ok], by simp [PyData.depth, PyData.depthAll]⟩
theorem dat_mem {K : PySem.W.Frag} {H : Hp} {xs : List V} {i : Nat} {x : V} (h : ∀ y ∈ xs, ∃ d, Dat K H y d) (e : xs[i]? = some x) : ∃ d, Dat K H x d := h x (List.mem_of_getElem? e)
theorem forall_nil {α : Type} {P : α → Prop} : ∀ y ∈ ([] : List α), P y := fun y h => absurd h List.not_mem_nil
theorem forall_cons' {α : Type} {P : α → Prop} {x : α} {l : List α} (h : P x) (r : ∀ y ∈ l, P y) : ∀ y ∈ x :: l, P y := fun y m => by
  rcases List.mem_cons.mp m with z | z
  · rw [z]; exact h
  · exact r y z
/-- lists and tuples of data -/
def DatL (n : Nat) (K : PySem.W.Frag) (H : Hp) : List V → List PyData → Prop
  | [], [] => True
  | v :: vs, d :: ds => DatN n K H v d ∧ DatL n K H vs ds
  | _, _ => False
theorem DatL.all {n : Nat} {K : PySem.W.Frag} {H : Hp} : ∀ {vs : List V} {ds : List PyData}, DatL n K H vs ds → DpAll K H vs ds ∧ PyData.canLayAll0 ds = true ∧ PyData.depthAll ds ≤ n
  | [], [], _ => ⟨.nil, rfl, Nat.zero_le _⟩
  | [], _ :: _, h => h.elim
  | _ :: _, [], h => h.elim
  | v :: vs, d :: ds, h => by
    obtain ⟨⟨a, b, c⟩, r⟩ := h
    obtain ⟨x, y, z⟩ := DatL.all r
    exact ⟨.cons a x, by rw [PyData.canLayAll0, b, y]; rfl, by rw [PyData.depthAll]; exact Nat.max_le.mpr ⟨c, z⟩⟩
theorem shape_l {n : Nat} {K : PySem.W.Frag} {H : Hp} {vs : List V} {ds : List PyData} (h : DatL n K H vs ds) (hn : n ≤ 60 := by decide) : SeqAt.shaped (.list ds) = true := by
  obtain ⟨_, b, c⟩ := h.all
  unfold SeqAt.shaped
  rw [PyData.canLay0, PyData.depth, b]
  exact decide_eq_true (by omega)
theorem dat_tup {n : Nat} {K : PySem.W.Frag} {H : Hp} {a : Addr} {vs : List V} {ds : List PyData} (e : H a = some (.tup vs)) (h : DatL n K H vs ds) : DatN (n + 1) K H (.ref a) (.tuple ds) := by
  obtain ⟨x, b, c⟩ := h.all
  exact ⟨.tup (SqT.of e) x, by rw [PyData.canLay0]; exact b, by rw [PyData.depth]; omega⟩
theorem eqv_same {n : Nat} {K : PySem.W.Frag} {H : Hp} {vs : List V} {ds : List PyData} (h : DatL n K H vs ds) : PyData.eqv (.list ds) (.list ds) = true := SeqAt.eqv_refl _ (by rw [PyData.canLay0]; exact h.all.2.1)
theorem lg_ok {i : Int} (h0 : 0 ≤ i) (h : i < 1000000000) : i.natAbs.log2 < 1920 := Nat.lt_of_lt_of_le (PySem.Flt.log2_lt_of (n := i.natAbs) (k := 30) (by decide) (by omega)) (by decide)
theorem text_len {i : Int} (h0 : 0 ≤ i) (h : i < 1000000000) : (Str.ofString (toString i)).length ≤ 100 := by
  have q := int_text_length_le10 (a := i) (k := 9) (by decide) (by omega)
  rw [len_ch]
  unfold ch
  rw [Str.ofString_eq_toList, List.toList_toArray, List.length_map]
  have : (toString i).toList.length = (toString i).length := String.length_toList
  omega
end Lk
namespace Lk
open PySem L2
/-! ### what the inits keep -/
def spI1 (C : Addr) (f : Str) : Sp := fun vs H Q _ => ∃ (a : Addr) (v : V), vs = [.ref a, v] ∧ H a = some (exo a C none) ∧ ∀ d H', H' a = some (exo a C (some d)) → H' d = some (exd d [(f, v)]) → Kp [a] H H' → H d = none → Q .non H'
def spI2 (C : Addr) (f g : Str) : Sp := fun vs H Q _ => ∃ (a : Addr) (v u : V), vs = [.ref a, v, u] ∧ H a = some (exo a C none) ∧ ∀ d H', H' a = some (exo a C (some d)) → H' d = some (exd d [(g, u), (f, v)]) → Kp [a] H H' → H d = none → Q .non H'
theorem read1 {C a : Addr} {f : Str} {v : V} {H : Hp} {Q : VK} {K : PySem.W.Frag} (T : OexC K C) (nf : PySem.W.findIn K (.ref C) f = some none) (hA : H a = some (exo a C none))
    (q : ∀ d H', H' a = some (exo a C (some d)) → H' d = some (exd d [(f, v)]) → Kp [a] H H' → H d = none → Q .non H') (σ : L2.St) : ∃ b D : Addr, V.ref a = .ref b ∧ OexC K D ∧ PySem.W.findIn K (.ref D) f = some none ∧
      ((H b = some (exo b D none) ∧ ∀ dx, H dx = none → dx ≠ b → Q .non (upd (upd H dx (exd dx [(f, v)])) b (exo b D (some dx)))) ∨
        ∃ (dx : Addr) (fs : List (Str × V)), H b = some (exo b D (some dx)) ∧ H dx = some (exd dx fs) ∧ fs.length ≤ 900 ∧ Q .non (upd H dx (exd dx ((f, v) :: fs)))) := by
  refine ⟨a, C, rfl, T, nf, .inl ⟨hA, fun dx hn ne => ?_⟩⟩
  exact q dx _ upd_same (by rw [upd_ne ne]; exact upd_same) (((Kp.refl [a] H).new hn).put (.inl (List.mem_singleton.mpr rfl))) hn
theorem newE {H1 H2 : Hp} {a : Addr} {o : HO} (hn : H1 a = none) (k : Kp [a] (upd H1 a o) H2) : Kp [] H1 H2 := ((Kp.refl [] H1).new hn).step k fun b hb => .inr (by rw [List.mem_singleton.mp hb]; exact hn)
theorem newE_d {H1 : Hp} {a d : Addr} {o : HO} (hn : H1 a = none) (h : upd H1 a o d = none) : H1 d = none := by
  by_cases e : d = a
  · rw [e]; exact hn
  · rw [upd_ne e] at h; exact h
/-! ### rows of exceptions -/
inductive ExIn (e : Nat → Addr) (H : Hp) : List Addr → List Nat → Prop
  | nil : ExIn e H [] []
  | cons {p : Addr} {c : Nat} {ps : List Addr} {cs : List Nat} : Exc H p (e c) → ExIn e H ps cs → ExIn e H (p :: ps) (c :: cs)
theorem ExIn.at {e : Nat → Addr} {H : Hp} : ∀ {ps : List Addr} {cs : List Nat}, ExIn e H ps cs → ∀ {i : Nat} {p : Addr}, ps[i]? = some p → ∃ c, cs[i]? = some c ∧ Exc H p (e c)
  | _, _, .nil, i, p, h => by simp at h
  | _, _, .cons x r, 0, p, h => by
    have z := Option.some.inj h
    subst z
    exact ⟨_, rfl, x⟩
  | _, _, .cons x r, i + 1, p, h => r.at (i := i) (by simpa using h)
theorem Exc.kp0 {H H' : Hp} {a C : Addr} (h : Exc H a C) (k : Kp [] H H') : Exc H' a C := by
  rcases h with ⟨d, fs, h1, h2⟩ | h
  · exact .inl ⟨d, fs, k.at0 h1, k.at0 h2⟩
  · exact .inr (k.at0 h)
theorem ExIn.kp0 {e : Nat → Addr} {H H' : Hp} {ps : List Addr} {cs : List Nat} (h : ExIn e H ps cs) (k : Kp [] H H') : ExIn e H' ps cs := by
  induction h with
  | nil => exact .nil
  | cons x _ ih => exact .cons (x.kp0 k) ih
theorem ExIn.len {e : Nat → Addr} {H : Hp} {ps : List Addr} {cs : List Nat} (h : ExIn e H ps cs) : ps.length = cs.length := by
  induction h with
  | nil => rfl
  | cons _ _ ih => simp [ih]
def Exs (H : Hp) (l : Addr) (cs : List Nat) (e : Nat → Addr) : Prop := ∃ ps : List Addr, H l = some (.lst (ps.map V.ref)) ∧ ExIn e H ps cs
theorem Exs.kp0 {e : Nat → Addr} {H H' : Hp} {l : Addr} {cs : List Nat} (h : Exs H l cs e) (k : Kp [] H H') : Exs H' l cs e := by
  obtain ⟨ps, a, b⟩ := h
  exact ⟨ps, k.at0 a, b.kp0 k⟩
theorem range_at {s n i c : Nat} (h : (List.range' s n)[i]? = some c) : c = s + i ∧ i < n := by
  have l := lt_of_get h
  rw [List.length_range'] at l
  rw [List.getElem?_range' l] at h
  have := Option.some.inj h
  omega
end Lk
namespace Lk
open PySem L2
inductive NmIn (K : PySem.W.Frag) (H : Hp) : List Addr → List V → Prop
  | nil : NmIn K H [] []
  | cons {p : Addr} {v : V} {ps : List Addr} {vs : List V} : (∃ C d : Addr, H p = some (exo p C (some d)) ∧ H d = some (exd d [("name", v)]) ∧ XfC K C ∧ PySem.W.findIn K (.ref C) "name" = some none) → NmIn K H ps vs → NmIn K H (p :: ps) (v :: vs)
theorem NmIn.at {K : PySem.W.Frag} {H : Hp} : ∀ {ps : List Addr} {vs : List V}, NmIn K H ps vs → ∀ {i : Nat} {p : Addr}, ps[i]? = some p → ∃ v, vs[i]? = some v ∧ ∃ C d : Addr, H p = some (exo p C (some d)) ∧ H d = some (exd d [("name", v)]) ∧ XfC K C ∧ PySem.W.findIn K (.ref C) "name" = some none
  | _, _, .nil, i, p, h => by simp at h
  | _, _, .cons x r, 0, p, h => by
    have z := Option.some.inj h
    subst z
    exact ⟨_, rfl, x⟩
  | _, _, .cons x r, i + 1, p, h => r.at (i := i) (by simpa using h)
theorem NmIn.kp0 {K : PySem.W.Frag} {H H' : Hp} {ps : List Addr} {vs : List V} (h : NmIn K H ps vs) (k : Kp [] H H') : NmIn K H' ps vs := by
  induction h with
  | nil => exact .nil
  | cons x _ ih =>
    obtain ⟨C, d, h1, h2, h3⟩ := x
    exact .cons ⟨C, d, k.at0 h1, k.at0 h2, h3⟩ ih
theorem NmIn.full {K : PySem.W.Frag} {H : Hp} {ps : List Addr} {vs : List V} (h : NmIn K H ps vs) : vs.take ps.length = vs := by
  have e : ps.length = vs.length := by
    induction h with
    | nil => rfl
    | cons _ _ ih => simp [ih]
  rw [e, List.take_length]
theorem lk1 {f : Str} {v : V} : List.lookup f [(f, v)] = some v := by simp [List.lookup]
theorem lk2a {f g : Str} {v u : V} : List.lookup g [(g, u), (f, v)] = some u := by simp [List.lookup]
theorem lk2b {f g : Str} {v u : V} (h : (f == g) = false) : List.lookup f [(g, u), (f, v)] = some v := by simp [List.lookup, h]
theorem p59 : (0 : Int) < 10 ^ Int.toNat 59 := by decide +kernel
theorem marks_eq {c s i : Nat} {f : Int} (h : c = s + i) (hf : f = (s : Int)) : ((List.range 23).map fun k => decide (c = k)) = (List.range (Int.toNat 23)).map fun (k : Nat) => decide ((k : Int) = f + (i : Int)) := by
  show (List.range 23).map _ = (List.range 23).map _
  congr 1
  funext k
  subst hf
  by_cases e : c = k
  · rw [decide_eq_true e, decide_eq_true (by omega)]
  · rw [decide_eq_false e, decide_eq_false (by omega)]
end Lk
namespace Lk
theorem p9 : (0 : Int) < 10 ^ Int.toNat 9 := by decide +kernel
theorem e9 : (10 : Int) ^ Int.toNat 9 = 1000000000 := by decide +kernel
end Lk
namespace Lk
theorem take_le {α : Type} {xs names : List α} {k : Nat} (h : xs = names.take k) : xs.length ≤ names.length := by rw [h, List.length_take]; exact Nat.min_le_right _ _
end Lk
set_option Elab.async false
set_option linter.all false
set_option maxRecDepth 100000
set_option maxHeartbeats 2000000
namespace Lk
open PySem PySem.Spec PyProof.Rows L2
/-! tuple(d) of a dict: a new tuple of its keys -/
section
variable {prog : Program} {w : World} {A : Around} {E : Value → Shared → Prop} {s : Shared} {r d : Addr} {n : Nat} {P : Nat → Value → Prop} {OK : Heap → Prop}
theorem collect_src {Q : List Value → Shared → Prop} (S : PySem.W.KdlSrc prog w "dict" r d n P OK) (hh : A.handled = none) (ok : OK s.heap) (hn : n ≤ sizeLine)
    (hQ : ∀ (h' : Heap) (tk : Nat) (acc : Array Value), (∀ b o, s.heap.get? b = some o → h'.get? b = some o) → ItemsOf P acc n → Q acc.toList { s with heap := h', toks := tk }) :
    wpAny (model prog w) A (collect (.ref r)) Q E s := by
  unfold collect
  apply wpAny_bind
  apply wpAny_runValue
  apply codeAny_builtin F.entry_proto_collect
  rw [Around.under_plainId F.plain_proto_collect _]
  show wpAny _ A.in1 (newList [] >>= fun l => again (.builtin "list.__iadd__" ⟨[l, .ref r], []⟩)) _ _ s
  apply wpAny_bind
  refine wpAny_newObj_type (wpAny_pure ⟨plainId_quiet F.plain_list_iadd _, codeAny_builtin F.entry_list_iadd ?_⟩)
  rw [Around.under_plainId F.plain_list_iadd _]
  have lt := S.there _ ok
  have new : (s.heap.push { cls := .type "list", data := .seq ([] : List Value).toArray }).get? s.heap.objs.size = some { cls := .type "list", data := .seq #[] 0 } := Heap.get?_push_size _ rfl
  have old : ∀ b o, s.heap.get? b = some o → (s.heap.push { cls := .type "list", data := .seq ([] : List Value).toArray }).get? b = some o := fun b o q => Heap.get?_push_of_some _ q
  show wpAny _ A.in1 (Builtin.List.listExtendWith (.ref s.heap.objs.size) (.ref r) (.ref s.heap.objs.size)) _ _ _
  refine wpAny_mono (PySem.W.kdl_extend (A := A) (s := { s with heap := s.heap.push { cls := .type "list", data := .seq ([] : List Value).toArray } })
    (R := fun x s' => x = .ok (.ret (.ref s.heap.objs.size)) ∧ ∃ (h' : Heap) (tk : Nat) (acc : Array Value) (c' : Nat), s' = { s with heap := h', toks := tk } ∧ (∀ b o, s.heap.get? b = some o → h'.get? b = some o) ∧ h'.get? s.heap.objs.size = some { cls := .type "list", dict := none, data := .seq acc c', slots := #[] } ∧ ItemsOf P acc n)
    S hh (S.keep _ _ ok fun b _ o e => old b o e) _ (Nat.ne_of_gt lt.1) (Nat.ne_of_gt lt.2) _ 0 new
    (fun h' tk acc c' keep at_ items => ⟨rfl, h', tk, acc, c', rfl, fun b o q => keep b o (Nat.ne_of_lt (Heap.lt_size q)) (old b o q), at_, items⟩) hn) (fun fin s' h => ?_) (fun e s' h => absurd h.1 (by simp))
  have last : ∀ {s' : Shared}, (∃ (h' : Heap) (tk : Nat) (acc : Array Value) (c' : Nat), s' = { s with heap := h', toks := tk } ∧ (∀ b o, s.heap.get? b = some o → h'.get? b = some o) ∧ h'.get? s.heap.objs.size = some { cls := .type "list", dict := none, data := .seq acc c', slots := #[] } ∧ ItemsOf P acc n) →
      wpAny (model prog w) A (load s.heap.objs.size >>= fun o => match o.data with | .seq items _ => pure items.toList | _ => unsupported "a list's items") Q E s' := by
    rintro s' ⟨h', tk, acc, c', rfl, keep, at_, items⟩
    exact wpAny_bind (wpAny_load at_ (wpAny_pure (hQ h' tk acc keep items)))
  cases fin with
  | done f =>
    obtain ⟨e, h', tk, acc, c', rfl, keep, at_, items⟩ := h
    cases e
    show wpAny _ A (load s.heap.objs.size >>= _) _ _ _
    exact wpAny_bind (wpAny_load at_ (wpAny_pure (hQ h' tk acc keep items)))
  | again c' =>
    refine ⟨h.1, codeAny_mono h.2 fun x s'' z => ?_⟩
    obtain ⟨rfl, h', tk, acc, c', rfl, keep, at_, items⟩ := z
    show wpAny _ A (load s.heap.objs.size >>= _) _ _ _
    exact wpAny_bind (wpAny_load at_ (wpAny_pure (hQ h' tk acc keep items)))
theorem call_tuple_src {Q : Value → Shared → Prop} (S : PySem.W.KdlSrc prog w "dict" r d n P OK) (hh : A.handled = none) (ok : OK s.heap) (hn : n ≤ sizeLine)
    (hQ : ∀ (h' : Heap) (tk : Nat) (acc : Array Value), (∀ b o, s.heap.get? b = some o → h'.get? b = some o) → ItemsOf P acc n → Q (.ref h'.objs.size) { s with heap := h'.push { cls := .type "tuple", data := .seq acc }, toks := tk }) :
    wpAny (model prog w) A (call (.type "tuple") [.ref r]) Q E s := by
  have made : codeAny (model prog w) A.in1 (.call (.builtin "tuple.__new__") ⟨[.type "tuple", .ref r], []⟩) (wants (fun obj s₁ => s₁.TypeIs obj "tuple" ∧ Q obj s₁) E) s := by
    apply codeAny_of_tree
    show wpAny _ A.in1.in1 (checkBuiltinCall "tuple.__new__" ⟨[.type "tuple", .ref r], []⟩ >>= fun _ => again (.builtin "tuple.__new__" ⟨[.type "tuple", .ref r], []⟩)) _ _ s
    refine wpAny_bind (wpAny_of_eq (F.newCall_tuple_1 _) (wpAny_pure ⟨plainId_quiet F.plain_tuple_new _, codeAny_builtin F.entry_tuple_new ?_⟩))
    rw [Around.under_plainId F.plain_tuple_new _]
    have hsub := sub_tuple_self
    have hinit := init_tuple_lookup
    have hmh := madeHere_tuple
    have ty : s.TypeIs (.ref r) "dict" := S.type _ ok
    have hh1 : A.in1.in1.handled = none := hh
    wp_walk using wpAny_typeOf ty, collect_src (A := A.in1.in1) S hh1 ok hn
    intro h' tk acc keep items
    show wpAny _ _ (Builtin.Tuple.tupleExact acc.toList.toArray >>= fun v => ret v) _ _ _
    unfold Builtin.Tuple.tupleExact
    have e : acc.toList.toArray = acc := by simp
    refine wpAny_bind (wpAny_newObj_type (wpAny_pure ?_) (by show acc.toList.toArray.size ≤ sizeLine; rw [e, items.1]; exact hn))
    rw [e]
    exact ⟨⟨_, Heap.get?_push_size _ rfl, rfl⟩, hQ h' tk acc keep items⟩
  refine callType_codes (Q₁ := fun obj s₁ => s₁.TypeIs obj "tuple" ∧ Q obj s₁) F.called_tuple (F.typeCall_tuple_1 _) F.entry_object_init made fun obj s₁ h₁ => ?_
  exact ⟨h₁.1, F.args_object_init_2 obj _, object_init_meets F.called_tuple.init.lookup F.called_tuple.made (by decide) prog w A.in1 _ s₁ ⟨h₁.1, rfl, h₁.2⟩⟩
end
def rTupD : List V → Hp → VK → Prop := fun xs H Q => ∃ p kvs, xs = [.ref p] ∧ H p = some (.dK kvs) ∧ ∀ q, H q = none → Q (.ref q) (upd H q (.tup (kvs.map fun kv => kV kv.1)))
theorem call_tupD {X : Cx} (hc : X.calm = true) : CallR X (.type "tuple") rTupD := by
  rintro pins s σ H xs us Q I r ⟨p, kvs, rfl, hk, q⟩
  obtain ⟨u, rfl, rx⟩ := vals1 r
  obtain rfl : u = Value.ref p := rx
  obtain ⟨z, lo, vs, rk, hd⟩ := (show ObjOk X.prog X.w H s.heap p (.dK kvs) from I.hok p _ hk)
  obtain ⟨ep, hat⟩ := hd.dictAt
  have hl : kvs.length = vs.length := Paired.length rk
  refine call_tuple_src (PySem.W.kdl_dict (knd := mixKind X.prog X.w) (kvs := vs) (ep := ep) lo) (I.ok.hd hc) hat (by rw [← hl]; exact z) fun h' tk acc keep items => ?_
  have J : Inv X pins σ H { s with heap := h', toks := tk } := I.kept (t' := tk) keep
  have J2 : Inv X pins σ (upd H h'.objs.size (.tup (kvs.map fun kv => kV kv.1))) { s with heap := h'.push { cls := .type "tuple", data := .seq acc }, toks := tk } := by
    refine J.laid (t' := tk) (fun b o e => Heap.get?_push_of_some _ e) (Nat.le_refl _) (show ObjOk X.prog X.w _ _ _ (.tup (kvs.map fun kv => kV kv.1)) from ⟨by rw [List.length_map]; exact z, acc.toList, ?_, ?_⟩)
    · have el : acc.toList.length = acc.size := by simp
      refine vals_of_at (by rw [List.length_map, el, items.1, hl]) fun j x v h1 h2 => ?_
      obtain ⟨k, y, hky, hi⟩ := items.2 j v (by rw [← Array.getElem?_toList]; exact h2)
      have e2 : (kvs.map fun kv => kV kv.1)[j]? = some (kV k) := by
        have e1 : (kvs.map (·.1))[j]? = some k := by rw [KV.keys rk, List.getElem?_map, hky] <;> rfl
        rw [show (kvs.map fun kv => kV kv.1) = (kvs.map (·.1)).map kV by rw [List.map_map] <;> rfl, List.getElem?_map, e1] <;> rfl
      rw [e2] at h1
      cases h1
      exact keyIs_rel hi
    · have := IsTup.new h' acc.toList.toArray
      simpa using this
  exact ⟨.ref h'.objs.size, _, J2, rfl, q _ (J.hok.fresh (Nat.le_refl _))⟩
end Lk
set_option Elab.async false
set_option linter.all false
set_option maxRecDepth 100000
set_option maxHeartbeats 2000000
namespace Lk
open PySem PySem.Spec PyProof.Rows L2
/-! enumerate(t), t a tuple -/
theorem enumT_new (l : Addr) (items : Array Value) (n : Nat) (dct : Option Addr) (sl : Array (Option Value)) :
    Meets (Builtin.«enumerate.__new__» ⟨[.type "enumerate", .ref l], []⟩) (fun _ R s => s.heap.get? l = some { cls := .type "tuple", dict := dct, data := .seq items n, slots := sl } ∧
      R (.ok (.ret (.ref (s.heap.push { cls := .type "tuple_iterator", data := .fields #[.ref l, .int 0 0] }).objs.size)))
        { s with heap := (s.heap.push { cls := .type "tuple_iterator", data := .fields #[.ref l, .int 0 0] }).push { cls := .type "enumerate", data := .fields #[.none, .bool false, .ref s.heap.objs.size, rawInt 0, .none, .none] } }) :=
  .of_wp fun prog w A R s ⟨hl, h⟩ => by
    obtain ⟨hp, g, d, tk, os⟩ := s
    have hsub := sub_enumerate
    have hT : Heap.IsTuple (Shared.heap ⟨hp, g, d, tk, os⟩) l items := ⟨_, hl, rfl, n, rfl⟩
    wp_walk using AutoSeq1.wpAny_loadPart' hl
    refine wpAny_stack_any fun st => wpAny_pure ?_
    split
    · rename_i c _ _ _ _ _
      cases (c == Value.type "enumerate") <;> (wp_walk using AutoSeq1.wpAny_loadPart' hl, wpAny_pyIter_tuple hT; exact ⟨_, rfl, h⟩)
    · wp_walk using AutoSeq1.wpAny_loadPart' hl, wpAny_pyIter_tuple hT
      exact ⟨_, rfl, h⟩
section
variable {prog : Program} {w : World} {A : Around} {E : Value → Shared → Prop} {s : Shared}
theorem call_enumT {l : Addr} {items : Array Value} {Q : Value → Shared → Prop} (hT : s.heap.IsTuple l items)
    (h : ∀ h', IsEnum h' (s.heap.objs.size + 1) s.heap.objs.size 0 .none → h'.IsTupleIter s.heap.objs.size l 0 → h'.objs.size = s.heap.objs.size + 2 → (∀ b o, s.heap.get? b = some o → h'.get? b = some o) → Q (.ref (s.heap.objs.size + 1)) { s with heap := h' }) :
    wpAny (model prog w) A (call (.type "enumerate") [.ref l]) Q E s := by
  obtain ⟨⟨c, dct, dt, sl⟩, hl, hc, n, hd⟩ := hT
  obtain rfl : c = .type "tuple" := hc
  obtain rfl : dt = .seq items n := hd
  refine callType_new F.called_enumerate (by decide) (F.typeCall_enumerate_1 _) (F.newCall_enumerate_1 _) (fun obj => F.args_object_init_2 obj _) F.entry_enumerate_new (enumT_new l items n dct sl) ⟨hl, ?_⟩
  have z1 : (s.heap.push { cls := .type "tuple_iterator", data := .fields #[.ref l, .int 0 0] }).objs.size = s.heap.objs.size + 1 := Heap.size_push ..
  show _ ∧ _
  rw [z1]
  have en : IsEnum ((s.heap.push { cls := .type "tuple_iterator", data := .fields #[.ref l, .int 0 0] }).push { cls := .type "enumerate", data := .fields #[.none, .bool false, .ref s.heap.objs.size, rawInt 0, .none, .none] }) (s.heap.objs.size + 1) s.heap.objs.size 0 .none := by
    have := Heap.get?_push_size (s.heap.push { cls := .type "tuple_iterator", data := .fields #[.ref l, .int 0 0] }) (o := { cls := .type "enumerate", data := .fields #[.none, .bool false, .ref s.heap.objs.size, rawInt 0, .none, .none] }) rfl
    rwa [z1] at this
  exact ⟨⟨_, en, rfl⟩, h _ en ⟨_, Heap.get?_push_of_some _ (Heap.get?_push_size _ rfl), rfl, rfl⟩ (by rw [Heap.size_push, z1]) fun b o x => Heap.get?_push_of_some _ (Heap.get?_push_of_some _ x)⟩
end
/-- the tuple at a, each item in a new pair with its place -/
def ItET (K : PySem.W.Frag) (a : Addr) : It :=
  ⟨fun i H => ∃ (xs : List V) (x : V), SqT K H a xs ∧ xs[i]? = some x, fun i H v H' => ∃ T x, v = .ref T ∧ H T = none ∧ H' = upd H T (.tup [.int (i : Nat), x]) ∧ ∀ xs, SqT K H a xs → xs[i]? = some x, fun i H => ∃ xs : List V, SqT K H a xs ∧ xs.length = i⟩
theorem turn_enumT {P : Program} {w : World} {K : PySem.W.Frag} {elts : List Expr} {kk : Nat} {tpos : Pos} (a e it : Addr) (hai : a ≠ it) (hae : a ≠ e) :
    Turn P w K (.Tuple elts kk tpos) (ItET K a) [e, it] e (fun i h => (∃ old, IsEnum h e it ((i : Nat) : Int) old) ∧ h.IsTupleIter it a i ∧ e ≠ it) where
  mem := by simp
  obj := fun i h ⟨⟨old, he⟩, ⟨o, ho, hc, hd⟩, _⟩ b hb => by
    rcases (by simpa using hb : b = e ∨ b = it) with rfl | rfl
    · exact ⟨_, he, fun v q => nomatch q⟩
    · exact ⟨o, ho, fun v q => by rw [hd] at q; cases q⟩
  keep := fun i h h' st k => let ⟨⟨old, he⟩, hi, hne⟩ := st; ⟨⟨old, k e (by simp) _ he⟩, (let ⟨o, ho, r⟩ := hi; ⟨o, k it (by simp) o ho, r⟩), hne⟩
  item := by
    rintro X rfl rfl rfl hc i pins s σ H E I hf ⟨⟨old, he⟩, hit, hne⟩ ⟨xs, x, hq, hx⟩
    obtain ⟨its, rv, p, hz⟩ := I.tuple hq
    obtain ⟨u, hu, ru⟩ := rv.get hx
    have el : e < s.heap.objs.size := Heap.lt_size he
    have il : it < s.heap.objs.size := by obtain ⟨_, q, _⟩ := hit; exact Heap.lt_size q
    have al : a < s.heap.objs.size := p.lt
    have lt : i < its.toArray.size := by
      have := (List.getElem?_eq_some_iff.mp hu).1
      simpa using this
    refine wpAny_pyNext_enum_itemD (Draws.tuple (A := X.A.in1) (show X.A.in1.handled = none from I.ok.hd hc) it a hai its.toArray) he ⟨hit, p⟩ lt hne (by simp [hne, Ne.symm hae]) fun y h' tk hy ho hst hT hsz hk => ?_
    have ey : y = u := by
      have hy' : its[i]? = some y := by simpa using hy
      rw [hu] at hy'; exact (Option.some.inj hy').symm
    subst ey
    refine ⟨_, rfl, wpAny_letOwnedTupleGo_enum (s := { s with heap := h', toks := tk + 1 }) ho fun h'' he' sb => ?_⟩
    have hT2 : h''.get? s.heap.objs.size = some { cls := .type "tuple", data := .seq #[.int i tk, y] } := (sb.2 _ (Nat.ne_of_gt el)).trans hT
    have made : ObjOk X.prog X.w (upd H s.heap.objs.size (.tup [.int (i : Nat), x])) h'' s.heap.objs.size (.tup [.int (i : Nat), x]) :=
      ⟨by show 2 ≤ sizeLine; decide, [.int i tk, y], .cons ⟨_, rfl⟩ (.cons ru .nil), ⟨_, hT2, rfl, _, rfl⟩⟩
    have J : Inv X pins σ (upd H s.heap.objs.size (.tup [.int (i : Nat), x])) { s with heap := h'', toks := tk + 1 } :=
      I.turnedNew (t' := tk + 1) (ch := [e, it]) (fun b ob hb q => (sb.2 b (fun z => hb (by simp [z]))).trans (hk b ob (fun z => hb (by simp [z])) (fun z => hb (by simp [z])) q)) hf (Nat.le_refl _) made
    refine ⟨.ref s.heap.objs.size, _, J, rfl, ⟨_, x, rfl, I.hok.fresh (Nat.le_refl _), rfl, fun ys hy => by rw [I.tuple_inj hy hq]; exact hx⟩, ⟨⟨y, ?_⟩, (let ⟨o, q, r⟩ := hst.1; ⟨o, (sb.2 it (Ne.symm hne)).trans q, r⟩), hne⟩, fun b hb => ?_⟩
    · rw [show ((i + 1 : Nat) : Int) = (i : Int) + 1 by omega]; exact he'
    · have hb' : b < s.heap.objs.size := by
        rcases (by simpa using hb : b = e ∨ b = it) with rfl | rfl
        · exact el
        · exact il
      rw [upd_ne (Nat.ne_of_lt hb')]
      exact (hf b hb).1
  done := by
    rintro X rfl rfl rfl hc i pins s σ H E I hf ⟨⟨old, he⟩, hit, hne⟩ ⟨xs, hq, hx⟩
    obtain ⟨its, rv, p, hz⟩ := I.tuple hq
    obtain ⟨f0, f1, f2, f3, f4, f5⟩ := hf it (by simp)
    have n : i = its.toArray.size := by rw [List.size_toArray, ← rv.length]; exact hx.symm
    subst n
    exact wpAny_pyNext_enum_endD (Draws.tuple (A := X.A.in1) (show X.A.in1.handled = none from I.ok.hd hc) it a hai its.toArray) he ⟨hit, p⟩ fun h' eb => ⟨rfl, I.turned (t' := s.toks) (fun b o hb q => eb b o hb q) f0 f1 f3 f4 f5⟩
  self := fun A i s Q E st h => let ⟨⟨_, he⟩, _⟩ := st; wpAny_pyIter_enum he h

def iEnumT (K : PySem.W.Frag) (ta : TA) : TI := fun σ H R => ta σ H fun vs H1 => ∃ a xs, vs = [.ref a] ∧ SqT K H1 a xs ∧ R (ItET K a) H1
theorem pi_enumT {X : Cx} {e : Expr} {ta : TA} {p pos tpos : Pos} {elts : List Expr} {kk : Nat} (hg : Gl X "enumerate") (hm : X.mg "enumerate" = none) (ha : PA X [e] ta) (hs : starEach [e] X.env = [(false, eval e X.env)] := by rfl) :
    PI X (.Tuple elts kk tpos) (.Call (.Name "enumerate" p) [e] [] pos) (iEnumT X.K ta) := ⟨fun pins s σ H R I h => by
  refine Call_ (ld_blt I hg hm boot_enumerate (PyProof.Rows.callWith_type1 (thn (ha.run pos pins s σ H _ I h) fun us s1 ⟨vs, H1, I1, r1, a, xs, ex, hq, q⟩ => ?_) hs rfl))
  subst ex
  obtain ⟨u, rfl, ru⟩ := vals1 r1
  cases ru
  obtain ⟨its, rv, p', hz⟩ := I1.tuple hq
  have al := p'.lt
  refine call_enumT p' fun h' he hit hsz hk => wpAny_pyIter_enum he ?_
  refine ⟨s1.heap.objs.size + 1, [s1.heap.objs.size + 1, s1.heap.objs.size], _, _, H1, rfl, I1.kept (t' := s1.toks) hk, turn_enumT a (s1.heap.objs.size + 1) s1.heap.objs.size (Nat.ne_of_lt al) (Nat.ne_of_lt (Nat.lt_succ_of_lt al)), ⟨⟨.none, he⟩, hit, Nat.succ_ne_self _⟩, fun b hb => ?_, q⟩
  have hle : s1.heap.objs.size ≤ b := by
    rcases (by simpa using hb : b = s1.heap.objs.size + 1 ∨ b = s1.heap.objs.size) with rfl | rfl <;> omega
  exact I1.fpOk hle (I1.hok.fresh hle)⟩
theorem walk_enumT {K : PySem.W.Frag} {a : Addr} {xs : List V} : Walk (ItET K a) xs.length (fun H => SqT K H a xs) (YPair (fun i => some (.int (i : Nat))) (fun i => xs[i]?)) :=
  ⟨fun i _ hi q => ⟨xs, xs[i], q, by simp [hi]⟩, fun _ q => ⟨xs, q, rfl⟩, fun i H v H' _ q ⟨T, x, h1, h2, h3, h4⟩ => ⟨T, .int (i : Nat), x, h1, h2, h3, rfl, h4 xs q⟩⟩
end Lk
set_option Elab.async false
set_option linter.all false
set_option maxRecDepth 100000
namespace Lk
open PySem L2
/-! ### dicts by their pairs -/
theorem valV_none {κ : Type} [DecidableEq κ] {kvs : List (κ × V)} {k : κ} : valV kvs k = none ↔ k ∉ kvs.map (·.1) := by
  unfold valV
  rw [Option.map_eq_none_iff, List.find?_eq_none]
  constructor
  · intro h m
    obtain ⟨x, hx, e⟩ := List.mem_map.mp m
    exact h x hx (by simp [e])
  · intro h x hx e
    exact h (List.mem_map.mpr ⟨x, hx, of_decide_eq_true e⟩)
theorem valV_mem {κ : Type} [DecidableEq κ] {kvs : List (κ × V)} {k : κ} {v : V} (nd : (kvs.map (·.1)).Nodup) (h : (k, v) ∈ kvs) : valV kvs k = some v := by
  induction kvs with
  | nil => cases h
  | cons x r ih =>
    rw [List.map_cons, List.nodup_cons] at nd
    unfold valV
    rw [List.find?_cons]
    by_cases e : x.1 = k
    · rw [decide_eq_true e]
      rcases List.mem_cons.mp h with h | h
      · rw [← h]; rfl
      · exact absurd (List.mem_map.mpr ⟨_, h, e.symm⟩) nd.1
    · rw [decide_eq_false e]
      rcases List.mem_cons.mp h with h | h
      · exact absurd (by rw [← h]) e
      · exact ih nd.2 h
theorem valV_is {κ : Type} [DecidableEq κ] {kvs : List (κ × V)} {k : κ} : (valV kvs k).isSome = decide (k ∈ kvs.map (·.1)) := by
  cases e : valV kvs k with
  | none => rw [decide_eq_false (valV_none.mp e)]; rfl
  | some v =>
    rw [decide_eq_true]
    · rfl
    · by_cases m : k ∈ kvs.map (·.1)
      · exact m
      · rw [valV_none.mpr m] at e; cases e
theorem putK_new {κ : Type} [DecidableEq κ] {kvs : List (κ × V)} {k : κ} {v : V} (h : k ∉ kvs.map (·.1)) : putK kvs k v = kvs ++ [(k, v)] := by
  unfold putK
  rw [if_neg]
  intro e
  obtain ⟨x, hx, q⟩ := List.any_eq_true.mp e
  exact h (List.mem_map.mpr ⟨x, hx, of_decide_eq_true q⟩)
theorem putK_len {κ : Type} [DecidableEq κ] {kvs : List (κ × V)} {k : κ} {v : V} : (putK kvs k v).length ≤ kvs.length + 1 := by
  unfold putK
  split
  · simp
  · simp
/-! ### plans -/
abbrev Steps := List (Str × List Str)
/-- all steps, all files -/
abbrev stepsOf (S : Steps) : List Str := S.map (·.1)
abbrev filesOf (S : Steps) : List Str := S.flatMap (·.2)
/-- the dicts' pairs -/
def wK (S : Steps) (ts : List Addr) : List (Key × V) := (S.zip ts).map fun x => (.inr x.1.1, .ref x.2)
def rK (S : Steps) : List (Key × V) := S.flatMap fun s => s.2.map fun f => (.inr f, .str s.1)
def planFs (w wr ru le : Addr) : List (Str × V) := [("_writes", .ref w), ("_writer", .ref wr), ("_rules", .ref ru), ("_least", .ref le)]
theorem pf1 {w wr ru le : Addr} : (planFs w wr ru le).lookup ("_writes" : Str) = some (V.ref w) := rfl
theorem pf2 {w wr ru le : Addr} : (planFs w wr ru le).lookup ("_writer" : Str) = some (V.ref wr) := by
  unfold planFs; rw [List.lookup_cons, show (("_writer" : Str) == "_writes") = false by decide +kernel, List.lookup_cons, show (("_writer" : Str) == "_writer") = true by decide +kernel]
theorem pf3 {w wr ru le : Addr} : (planFs w wr ru le).lookup ("_rules" : Str) = some (V.ref ru) := by
  unfold planFs; rw [List.lookup_cons, show (("_rules" : Str) == "_writes") = false by decide +kernel, List.lookup_cons, show (("_rules" : Str) == "_writer") = false by decide +kernel, List.lookup_cons, show (("_rules" : Str) == "_rules") = true by decide +kernel]
theorem pf4 {w wr ru le : Addr} : (planFs w wr ru le).lookup ("_least" : Str) = some (V.ref le) := by
  unfold planFs; rw [List.lookup_cons, show (("_least" : Str) == "_writes") = false by decide +kernel, List.lookup_cons, show (("_least" : Str) == "_writer") = false by decide +kernel, List.lookup_cons, show (("_least" : Str) == "_rules") = false by decide +kernel, List.lookup_cons, show (("_least" : Str) == "_least") = true by decide +kernel]
theorem pfn {w wr ru le : Addr} {m : Str} (h : (["_writes", "_writer", "_rules", "_least"] : List Str).contains m = false) : (planFs w wr ru le).lookup m = none := by
  simp only [List.contains_cons, List.contains_nil, Bool.or_false, Bool.or_eq_false_iff] at h
  unfold planFs
  rw [List.lookup_cons, h.1, List.lookup_cons, h.2.1, List.lookup_cons, h.2.2.1, List.lookup_cons, h.2.2.2]
  rfl
/-- at a: a plan of the class at C with the steps S; its dicts -/
structure Plan (C : Addr) (H : Hp) (a w wr ru le : Addr) (S : Steps) : Prop where
  o : ∃ dx, H a = some (.ins C dx (planFs w wr ru le))
  W : ∃ ts : List Addr, H w = some (.dK (wK S ts)) ∧ ts.length = S.length ∧ ∀ (i : Nat) (t : Addr) (s : Str × List Str), ts[i]? = some t → S[i]? = some s → H t = some (.tup (s.2.map V.str))
  R : H wr = some (.dK (rK S))
  U : ∃ kvs, H ru = some (.dT kvs)
  L : ∃ kvs, H le = some (.dT kvs) ∧ kvs.length ≤ S.length
  n1 : w ≠ wr
  n2 : ru ≠ le
  ds : (stepsOf S).Nodup
  df : (filesOf S).Nodup
theorem keys_wK : ∀ {S : Steps} {ts : List Addr}, ts.length = S.length → (wK S ts).map (·.1) = (stepsOf S).map Sum.inr
  | [], [], _ => rfl
  | s :: S, t :: ts, h => by
    have := keys_wK (S := S) (ts := ts) (by simpa using h)
    unfold wK at this ⊢
    simp only [List.zip_cons_cons, List.map_cons, List.cons.injEq, true_and]
    exact this
theorem keys_rK {S : Steps} : (rK S).map (·.1) = (filesOf S).map Sum.inr := by
  unfold rK filesOf
  induction S with
  | nil => rfl
  | cons s S ih => simp only [List.flatMap_cons, List.map_append, ih, List.map_map]; rfl
theorem inr_mem {x : Str} {l : List Str} : (Sum.inr x : Key) ∈ l.map Sum.inr ↔ x ∈ l := by
  constructor
  · intro h; obtain ⟨y, hy, e⟩ := List.mem_map.mp h; cases e; exact hy
  · intro h; exact List.mem_map.mpr ⟨x, h, rfl⟩
theorem inr_nodup {l : List Str} (h : l.Nodup) : (l.map (Sum.inr : Str → Key)).Nodup := by
  rw [List.nodup_iff_pairwise_ne, List.pairwise_map]
  exact (List.nodup_iff_pairwise_ne.mp h).imp fun h e => h (Sum.inr.inj e)
theorem Plan.W_in {S : Steps} {ts : List Addr} {x : Str} (h : ts.length = S.length) : (valV (wK S ts) (.inr x)).isSome = decide (x ∈ stepsOf S) := by
  rw [valV_is, keys_wK h]
  exact decide_eq_decide.mpr inr_mem
theorem rK_in {S : Steps} {x : Str} : (valV (rK S) (.inr x)).isSome = decide (x ∈ filesOf S) := by
  rw [valV_is, keys_rK]
  exact decide_eq_decide.mpr inr_mem
theorem rK_at {S : Steps} (nd : (filesOf S).Nodup) {s : Str × List Str} (hs : s ∈ S) {f : Str} (hf : f ∈ s.2) : valV (rK S) (.inr f) = some (.str s.1) :=
  valV_mem (by rw [keys_rK]; exact inr_nodup nd) (by unfold rK; rw [List.mem_flatMap]; exact ⟨s, hs, List.mem_map.mpr ⟨f, hf, rfl⟩⟩)
theorem wK_at {S : Steps} {ts : List Addr} (h : ts.length = S.length) (nd : (stepsOf S).Nodup) {i : Nat} {s : Str × List Str} {t : Addr} (hs : S[i]? = some s) (ht : ts[i]? = some t) : valV (wK S ts) (.inr s.1) = some (.ref t) :=
  valV_mem (by rw [keys_wK h]; exact inr_nodup nd) (by
    unfold wK
    refine List.mem_map.mpr ⟨(s, t), List.mem_of_getElem? (i := i) ?_, rfl⟩
    rw [List.getElem?_zip_eq_some]
    exact ⟨hs, ht⟩)
theorem wK_snoc {S : Steps} {ts : List Addr} {s : Str × List Str} {t : Addr} (h : ts.length = S.length) : wK (S ++ [s]) (ts ++ [t]) = wK S ts ++ [(.inr s.1, .ref t)] := by
  unfold wK
  rw [List.zip_append h.symm, List.map_append]
  rfl
theorem rK_snoc {S : Steps} {s : Str × List Str} : rK (S ++ [s]) = rK S ++ s.2.map fun f => (.inr f, .str s.1) := by
  unfold rK
  rw [List.flatMap_append]
  simp
/-- what is changed is a list -/
def IsLst (H : Hp) (a : Addr) : Prop := ∃ xs, H a = some (.lst xs)
theorem Plan.kp {C : Addr} {H H' : Hp} {a w wr ru le : Addr} {S : Steps} {ms : List Addr} (h : Plan C H a w wr ru le S) (k : Kp ms H H') (hm : ∀ m ∈ ms, IsLst H m) : Plan C H' a w wr ru le S := by
  have keep : ∀ {b : Addr} {o : HO}, H b = some o → (∀ xs, o ≠ .lst xs) → H' b = some o := fun {b o} e ne => by
    refine k.at e fun hb => ?_
    obtain ⟨xs, e2⟩ := hm b hb
    rw [e] at e2
    exact ne xs (Option.some.inj e2)
  obtain ⟨dx, ho⟩ := h.o
  obtain ⟨ts, h1, h2, h3⟩ := h.W
  obtain ⟨ku, hu⟩ := h.U
  obtain ⟨kl, hl, hz⟩ := h.L
  exact ⟨⟨dx, keep ho (by intro xs z; cases z)⟩, ⟨ts, keep h1 (by intro xs z; cases z), h2, fun i t s e1 e2 => keep (h3 i t s e1 e2) (by intro xs z; cases z)⟩, keep h.R (by intro xs z; cases z),
    ⟨ku, keep hu (by intro xs z; cases z)⟩, ⟨kl, keep hl (by intro xs z; cases z), hz⟩, h.n1, h.n2, h.ds, h.df⟩
/-! ### what a raise leaves -/
theorem raise1 {C : Addr} {f : Str} {H : Hp} {v : V} {Q : XK} (h : ∀ d H', H d = none → Kp [] H H' → H' d = some (.xd [(f, v)]) → Q (.ref C) (some d) H') :
    [v].length ≤ 1000 ∧ ∀ a, H a = none → spI1 C f (.ref a :: ([v] ++ [])) (upd H a (exo a C none))
      (fun w H2 => w = .non ∧ ∃ (d : Addr) (fs : List (Str × V)), H2 a = some (exo a C (some d)) ∧ H2 d = some (exd d fs) ∧ H d = none ∧ Q (.ref C) (some d) (upd (del H2 a) d (.xd fs))) (fun _ _ _ => False) := by
  refine ⟨by simp, fun a ha => ⟨a, v, rfl, upd_same, fun d H' e1 e2 k hd => ?_⟩⟩
  have hda : d ≠ a := fun z => by rw [z, upd_same] at hd; cases hd
  have hd' : H d = none := by rwa [upd_ne hda] at hd
  refine ⟨rfl, d, _, e1, e2, hd', h d _ hd' (fun b o e => .inl ⟨by simp, ?_⟩) upd_same⟩
  have hba : b ≠ a := fun z => by rw [z, ha] at e; cases e
  have hbd : b ≠ d := fun z => by rw [z, hd'] at e; cases e
  rw [upd_ne hbd, del_ne hba]
  exact k.at (by rw [upd_ne hba]; exact e) (by simpa using hba)
end Lk
namespace Lk
open PySem L2
/-! ### names again -/
theorem Nm.head {x : Str} (h : Nm x) : ∃ c, isLet c = true ∧ atI x.cps.toList 0 = some c := by
  obtain ⟨c, r, e, l, _, _⟩ := h
  obtain ⟨d, h1, h2⟩ := atS (z := x) (i := 0) (by omega) (by rw [len_ch, e, List.length_cons]; omega)
  rw [e] at h1
  cases h1
  exact ⟨c, l, h2⟩
theorem Nm.sign {x : Str} (h : Nm x) {i c : Nat} (hc : (ch x)[i]? = some c) : isAl c = true := by
  obtain ⟨a, r, e, l, al, _⟩ := h
  rw [e] at hc
  cases i with
  | zero => cases hc; exact al_of_let l
  | succ i => exact al c (List.mem_of_getElem? hc)
theorem isLet_mem {c : Nat} (h : isLet c = true) : c ∈ lets := by
  unfold isLet at h
  have h1 : 97 ≤ c ∧ c ≤ 122 := by simpa using h
  have : c ∈ (List.range 123).drop 97 := by
    rw [List.range_eq_range', List.drop_range']
    rw [List.mem_range'_1]; omega
  rw [show (List.range 123).drop 97 = lets by decide +kernel] at this
  exact this
theorem let_in {c : Nat} (h : isLet c = true) : c ∈ (("abcdefghijklmnopqrstuvwxyz" : Str)).cps.toList := by
  show c ∈ ch _
  rw [ch_lets]; exact isLet_mem h
theorem al_in {c : Nat} (h : isAl c = true) : c ∈ (("abcdefghijklmnopqrstuvwxyz0123456789" : Str)).cps.toList := by
  show c ∈ ch _
  rw [show ch ("abcdefghijklmnopqrstuvwxyz0123456789" : Str) = als by decide +kernel]
  unfold isAl at h
  rcases Bool.or_eq_true_iff.mp h with q | q
  · exact List.mem_append.mpr (.inl (isLet_mem q))
  · have h1 : 48 ≤ c ∧ c ≤ 57 := by simpa using q
    refine List.mem_append.mpr (.inr ?_)
    have : c = 48 ∨ c = 49 ∨ c = 50 ∨ c = 51 ∨ c = 52 ∨ c = 53 ∨ c = 54 ∨ c = 55 ∨ c = 56 ∨ c = 57 := by omega
    simpa using this
theorem keysV_wK {S : Steps} {ts : List Addr} (h : ts.length = S.length) : ((wK S ts).map fun kv => kV kv.1) = (stepsOf S).map V.str := by
  rw [show ((wK S ts).map fun kv => kV kv.1) = ((wK S ts).map (·.1)).map kV by rw [List.map_map]; rfl, keys_wK h, List.map_map]; rfl
theorem keysV_rK {S : Steps} : ((rK S).map fun kv => kV kv.1) = (filesOf S).map V.str := by
  rw [show ((rK S).map fun kv => kV kv.1) = ((rK S).map (·.1)).map kV by rw [List.map_map]; rfl, keys_rK, List.map_map]; rfl
/-- whether a value is a step's name -/
def inSteps (S : Steps) : V → Bool
  | .str x => decide (x ∈ stepsOf S)
  | _ => false
def isStr : V → Bool
  | .str _ => true
  | _ => false
end Lk
namespace Lk
open PySem L2
/-- the first name at fault when a step x with the files fs is to be defined -/
def dupIn (F : List Str) : List Str → List Str → Option Str
  | _, [] => none
  | pre, f :: r => if f ∈ F ∨ f ∈ pre then some f else dupIn F (pre ++ [f]) r
def taken (S : Steps) (x : Str) (fs : List Str) : Option Str := if x ∈ stepsOf S then some x else dupIn (filesOf S) [] fs
end Lk
namespace Lk
open PySem L2
theorem inV_str {f : Str} {l : List Str} : inV (.str f) (l.map V.str) = decide (f ∈ l) := by
  unfold inV
  induction l with
  | nil => simp
  | cons a l ih =>
    rw [List.map_cons, List.any_cons, ih]
    show (decide (a = f) || _) = _
    by_cases e : a = f
    · subst e; simp
    · simp [e, Ne.symm e]
theorem flat_strs {l : List Str} : (l.map V.str).all flatV = true := by
  rw [List.all_eq_true]
  intro v hv
  obtain ⟨x, _, rfl⟩ := List.mem_map.mp hv
  rfl
theorem dupIn_none {F : List Str} : ∀ {fs pre : List Str}, (∀ (i : Nat) (f : Str), fs[i]? = some f → f ∉ F ∧ f ∉ pre ++ fs.take i) → dupIn F pre fs = none
  | [], _, _ => rfl
  | f :: r, pre, h => by
    have h0 := h 0 f rfl
    unfold dupIn
    rw [if_neg (fun z => z.elim h0.1 fun z => h0.2 (by simpa using z))]
    refine dupIn_none fun i g hg => ?_
    have := h (i + 1) g (by simpa using hg)
    rw [List.take_succ_cons] at this
    exact ⟨this.1, by simpa using this.2⟩
theorem dupIn_some {F : List Str} {g : Str} : ∀ {fs pre : List Str} {k : Nat}, (∀ (i : Nat) (f : Str), i < k → fs[i]? = some f → f ∉ F ∧ f ∉ pre ++ fs.take i) → fs[k]? = some g → (g ∈ F ∨ g ∈ pre ++ fs.take k) → dupIn F pre fs = some g
  | [], _, _, _, h, _ => by cases h
  | f :: r, pre, 0, _, h, hg => by
    have e : f = g := by simpa using h
    subst e
    unfold dupIn
    rw [if_pos (hg.imp_right fun z => by simpa using z)]
  | f :: r, pre, k + 1, hk, h, hg => by
    have h0 := hk 0 f (by omega) rfl
    unfold dupIn
    rw [if_neg (fun z => z.elim h0.1 fun z => h0.2 (by simpa using z))]
    refine dupIn_some (k := k) (fun i e hi he => ?_) (by simpa using h) (by simpa using hg)
    have := hk (i + 1) e (by omega) (by simpa using he)
    rw [List.take_succ_cons] at this
    exact ⟨this.1, by simpa using this.2⟩
theorem stepsOf_snoc {S : Steps} {s : Str × List Str} : stepsOf (S ++ [s]) = stepsOf S ++ [s.1] := by unfold stepsOf; simp
theorem filesOf_snoc {S : Steps} {s : Str × List Str} : filesOf (S ++ [s]) = filesOf S ++ s.2 := by unfold filesOf; simp
theorem nodup_snoc {α : Type} {l : List α} {x : α} (h : l.Nodup) (hx : x ∉ l) : (l ++ [x]).Nodup := by
  rw [List.nodup_append]; exact ⟨h, by simp, fun a ha b hb e => hx (by rw [List.mem_singleton.mp hb] at e; rw [← e]; exact ha)⟩
theorem nodup_more {F fs : List Str} (h : F.Nodup) (hf : ∀ (i : Nat) (f : Str), fs[i]? = some f → f ∉ F ∧ f ∉ fs.take i) : (F ++ fs).Nodup := by
  rw [List.nodup_append]
  refine ⟨h, nodup_of_get fun i j x hi hj => ?_, fun a ha b hb e => ?_⟩
  · rcases Nat.lt_trichotomy i j with q | q | q
    · exact absurd (List.mem_of_getElem? (i := i) (by rw [List.getElem?_take_of_lt q]; exact hi)) (hf j x hj).2
    · exact q
    · exact absurd (List.mem_of_getElem? (i := j) (by rw [List.getElem?_take_of_lt q]; exact hj)) (hf i x hi).2
  · subst e
    obtain ⟨i, hi⟩ := List.getElem?_of_mem hb
    exact (hf i a hi).1 ha
/-- behind a definition -/
theorem Plan.more {C : Addr} {H H' : Hp} {a w wr ru le p : Addr} {S : Steps} {x : Str} {fs : List Str} {ts : List Addr} {kvs : List (List Key × V)} (h : Plan C H a w wr ru le S) (k : Kp [w, wr, le] H H') (hw : H w = some (.dK (wK S ts))) (hl : ts.length = S.length)
    (hts : ∀ (i : Nat) (t : Addr) (s : Str × List Str), ts[i]? = some t → S[i]? = some s → H t = some (.tup (s.2.map V.str))) (hp : H p = some (.tup (fs.map V.str)))
    (hW : H' w = some (.dK (wK S ts ++ [(.inr x, .ref p)]))) (hR : H' wr = some (.dK (rK S ++ fs.map fun f => (.inr f, .str x)))) (hL : H' le = some (.dT kvs)) (hz : kvs.length ≤ S.length + 1)
    (hx : x ∉ stepsOf S) (hf : ∀ (i : Nat) (f : Str), fs[i]? = some f → f ∉ filesOf S ∧ f ∉ fs.take i) : Plan C H' a w wr ru le (S ++ [(x, fs)]) := by
  obtain ⟨dx, ho⟩ := h.o
  obtain ⟨ku, hu⟩ := h.U
  obtain ⟨kl, hle, _⟩ := h.L
  have keep : ∀ {b : Addr} {o : HO}, H b = some o → (∀ kvs, o ≠ .dK kvs) → b ≠ le → H' b = some o := fun {b o} e n1 n2 => k.at e (by
    intro z
    simp only [List.mem_cons, List.not_mem_nil, or_false] at z
    rcases z with z | z | z
    · rw [z, hw] at e; exact n1 _ (Option.some.inj e).symm
    · rw [z, h.R] at e; exact n1 _ (Option.some.inj e).symm
    · exact n2 z)
  have tupNe : ∀ {b : Addr} {xs : List V}, H b = some (.tup xs) → b ≠ le := fun {b xs} e => ne_of e hle (by intro z; cases z)
  refine ⟨⟨dx, keep ho (by intro _ z; cases z) (ne_of ho hle (by intro z; cases z))⟩, ⟨ts ++ [p], by rw [wK_snoc hl]; exact hW, by simp [hl], fun i t s e1 e2 => ?_⟩, by rw [rK_snoc]; exact hR, ⟨ku, keep hu (by intro _ z; cases z) h.n2⟩, ⟨kvs, hL, by simpa using hz⟩, h.n1, h.n2, ?_, ?_⟩
  · rw [List.getElem?_append] at e1 e2
    by_cases q : i < S.length
    · rw [if_pos (by rw [hl]; exact q)] at e1
      rw [if_pos q] at e2
      exact keep (hts i t s e1 e2) (by intro _ z; cases z) (tupNe (hts i t s e1 e2))
    · rw [if_neg (by rw [hl]; exact q)] at e1
      rw [if_neg q] at e2
      rw [hl] at e1
      cases n : i - S.length with
      | zero =>
        rw [n] at e1 e2
        cases e1; cases e2
        exact keep hp (by intro _ z; cases z) (tupNe hp)
      | succ m => rw [n] at e1; simp at e1
  · rw [stepsOf_snoc]; exact nodup_snoc h.ds hx
  · rw [filesOf_snoc]; exact nodup_more h.df hf
end Lk
namespace Lk
open PySem L2
/-- more values than places: two are alike -/
theorem pigeon {α : Type} [DecidableEq α] {f : Nat → α} : ∀ (n : Nat) (l : List α), (∀ i j, i < n → j < n → f i = f j → i = j) → (∀ i, i < n → f i ∈ l) → n ≤ l.length
  | 0, _, _, _ => Nat.zero_le _
  | n + 1, l, inj, h => by
    have hm := h n (Nat.lt_succ_self n)
    have := pigeon n (l.erase (f n)) (fun i j hi hj => inj i j (Nat.lt_succ_of_lt hi) (Nat.lt_succ_of_lt hj)) (fun i hi => (List.mem_erase_of_ne (fun e => by
      have := inj i n (Nat.lt_succ_of_lt hi) (Nat.lt_succ_self n) e; omega)).mpr (h i (Nat.lt_succ_of_lt hi)))
    rw [List.length_erase_of_mem hm] at this
    have : 0 < l.length := List.length_pos_of_mem hm
    omega
/-- the i-th candidate: a letter in front of the word's end -/
def cand (st : Nat) (w : Str) (i : Nat) : Str := (⟨#[lets.getD ((st + i) % 26) 0]⟩ : Str) ++ cutS w (some 1) none
theorem lets_nodup : lets.Nodup := by decide +kernel
theorem cand_nm {st : Nat} {w : Str} (h : Nm w) (i : Nat) : Nm (cand st w i) := by
  obtain ⟨c, r, e, _, al, z⟩ := h
  have lt : (st + i) % 26 < lets.length := Nat.mod_lt _ (by decide)
  refine ⟨lets.getD ((st + i) % 26) 0, r, ?_, ?_, al, z⟩
  · unfold cand
    rw [ch_append, ch_one, ch_from w (k := 1) (by omega), e]; rfl
  · have q : ∀ x ∈ lets, isLet x = true := by decide +kernel
    rw [List.getD_eq_getElem?_getD, List.getElem?_eq_getElem lt]
    exact q _ (List.getElem_mem lt)
theorem cand_inj {st : Nat} {w : Str} {i j : Nat} (hi : i < 26) (hj : j < 26) (e : cand st w i = cand st w j) : i = j := by
  have a : (st + i) % 26 < lets.length := Nat.mod_lt _ (by decide)
  have b : (st + j) % 26 < lets.length := Nat.mod_lt _ (by decide)
  have := congrArg ch e
  unfold cand at this
  rw [ch_append, ch_append, ch_one, ch_one, List.getD_eq_getElem?_getD, List.getD_eq_getElem?_getD, List.getElem?_eq_getElem a, List.getElem?_eq_getElem b] at this
  have h : lets[(st + i) % 26] = lets[(st + j) % 26] := (List.cons.inj this).1
  have := get_inj lets_nodup (List.getElem?_eq_getElem a) (by rw [List.getElem?_eq_getElem b, h])
  omega
theorem cand_free {st : Nat} {w : Str} {ss : List Str} (hz : ss.length ≤ 20) (h : ∀ i, i < 26 → cand st w i ∈ ss) : False := by
  have := pigeon (f := cand st w) 26 ss (fun i j hi hj => cand_inj hi hj) h
  omega
end Lk
namespace Lk
open PySem L2
theorem step_eq : ∀ {S : Steps} {s t : Str × List Str}, (stepsOf S).Nodup → s ∈ S → t ∈ S → s.1 = t.1 → s = t
  | [], _, _, _, h, _, _ => nomatch h
  | u :: S, s, t, nd, hs, ht, e => by
    have n1 := (List.nodup_cons.mp (show (u.1 :: stepsOf S).Nodup from nd)).1
    have n2 := (List.nodup_cons.mp (show (u.1 :: stepsOf S).Nodup from nd)).2
    rcases List.mem_cons.mp hs with h1 | h1
    · rcases List.mem_cons.mp ht with h2 | h2
      · rw [h1, h2]
      · exact absurd (List.mem_map.mpr ⟨t, h2, by rw [← e, h1]⟩) n1
    · rcases List.mem_cons.mp ht with h2 | h2
      · exact absurd (List.mem_map.mpr ⟨s, h1, by rw [e, h2]⟩) n1
      · exact step_eq n2 h1 h2 e
theorem file_eq : ∀ {S : Steps} {s t : Str × List Str} {f : Str}, (filesOf S).Nodup → s ∈ S → t ∈ S → f ∈ s.2 → f ∈ t.2 → s = t
  | [], _, _, _, _, h, _, _, _ => nomatch h
  | u :: S, s, t, f, nd, hs, ht, fs, ft => by
    have n := List.nodup_append.mp (show (u.2 ++ filesOf S).Nodup from nd)
    rcases List.mem_cons.mp hs with h1 | h1
    · rcases List.mem_cons.mp ht with h2 | h2
      · rw [h1, h2]
      · exact absurd rfl (n.2.2 f (by rw [← h1]; exact fs) f (List.mem_flatMap.mpr ⟨t, h2, ft⟩))
    · rcases List.mem_cons.mp ht with h2 | h2
      · exact absurd rfl (n.2.2 f (by rw [← h2]; exact ft) f (List.mem_flatMap.mpr ⟨s, h1, fs⟩))
      · exact file_eq n.2.1 h1 h2 fs ft
theorem rows_flat {S : Steps} : (S.map (·.2)).flatten = filesOf S := by unfold filesOf; rw [List.flatMap_def]
end Lk
namespace Lk
open PySem L2
theorem Plan.stay {C : Addr} {H H' : Hp} {a w wr ru le b : Addr} {S : Steps} {o : HO} (h : Plan C H a w wr ru le S) (k : Kp [w, wr, le] H H') (e : H b = some o) (n1 : ∀ kvs, o ≠ .dK kvs) (n2 : ∀ kvs, o ≠ .dT kvs) : H' b = some o := by
  obtain ⟨ts, hw, _⟩ := h.W
  obtain ⟨kl, hl, _⟩ := h.L
  refine k.at e fun z => ?_
  simp only [List.mem_cons, List.not_mem_nil, or_false] at z
  rcases z with z | z | z
  · rw [z, hw] at e; exact n1 _ (Option.some.inj e).symm
  · rw [z, h.R] at e; exact n1 _ (Option.some.inj e).symm
  · rw [z, hl] at e; exact n2 _ (Option.some.inj e).symm
theorem Plan.rows {C : Addr} {H H' : Hp} {a w wr ru le b : Addr} {S : Steps} {rows : List (List Str)} {ms : List Addr} (h : Plan C H a w wr ru le S) (k : Kp [w, wr, le] H H') (hr : Rows H b rows ms) : Rows H' b rows ms := by
  obtain ⟨ps, e, li⟩ := hr
  refine ⟨ps, h.stay k e (by intro _ z; cases z) (by intro _ z; cases z), li.1, fun i p x h1 h2 => ?_⟩
  obtain ⟨n, q⟩ := li.2 i p x h1 h2
  have q' : H p = some (.lst (x.map V.str)) := q
  exact ⟨n, h.stay k q' (by intro _ z; cases z) (by intro _ z; cases z)⟩
theorem zip_steps {ss : List Str} {rows : List (List Str)} (h : rows.length = ss.length) (i : Nat) : stepsOf ((ss.zip rows).take i) = ss.take i := by
  unfold stepsOf
  rw [List.map_take, show (ss.zip rows).map (·.1) = ss from List.map_fst_zip (by omega)]
theorem zip_rows {ss : List Str} {rows : List (List Str)} (h : rows.length = ss.length) (i : Nat) : ((ss.zip rows).take i).map (·.2) = rows.take i := by
  rw [List.map_take, show (ss.zip rows).map (·.2) = rows from List.map_snd_zip (by omega)]
theorem zip_files {ss : List Str} {rows : List (List Str)} (h : rows.length = ss.length) (i : Nat) : filesOf ((ss.zip rows).take i) = (rows.take i).flatten := by
  rw [← rows_flat, zip_rows h]
theorem zip_snoc {ss : List Str} {rows : List (List Str)} {i : Nat} {x : Str} {r : List Str} (hx : ss[i]? = some x) (hr : rows[i]? = some r) : (ss.zip rows).take (i + 1) = (ss.zip rows).take i ++ [(x, r)] := by
  rw [List.take_add_one, (List.getElem?_zip_eq_some (l₁ := ss) (l₂ := rows) (z := (x, r))).mpr ⟨hx, hr⟩]; rfl
theorem flat_take {rows : List (List Str)} {i : Nat} : ((rows.take i).flatten).Sublist rows.flatten := by
  have := congrArg List.flatten (List.take_append_drop i rows)
  rw [List.flatten_append] at this
  rw [← this]
  exact List.sublist_append_left _ _
/-- the next definition is free -/
theorem free_next {ss : List Str} {rows : List (List Str)} {i : Nat} {x : Str} {r : List Str} (h : rows.length = ss.length) (nd : ss.Nodup) (nf : rows.flatten.Nodup) (hx : ss[i]? = some x) (hr : rows[i]? = some r) : taken ((ss.zip rows).take i) x r = none := by
  unfold taken
  rw [zip_steps h, zip_files h, if_neg]
  · refine dupIn_none fun j f hf => ?_
    have s : ((rows.take (i + 1)).flatten) = (rows.take i).flatten ++ r := by rw [List.take_add_one, hr]; simp
    have n := nf.sublist (flat_take (rows := rows) (i := i + 1))
    rw [s, List.nodup_append] at n
    refine ⟨fun z => n.2.2 f z f (List.mem_of_getElem? hf) rfl, fun z => ?_⟩
    obtain ⟨m, hm⟩ := List.getElem?_of_mem (show f ∈ r.take j by simpa using z)
    have lm := lt_of_get hm
    rw [List.length_take] at lm
    rw [List.getElem?_take_of_lt (by omega)] at hm
    have := get_inj n.2.1 hm hf
    omega
  · intro z
    obtain ⟨m, hm⟩ := List.getElem?_of_mem z
    have lm := lt_of_get hm
    rw [List.length_take] at lm
    rw [List.getElem?_take_of_lt (by omega)] at hm
    have := get_inj nd hm hx
    omega
theorem taken_step {S : Steps} {x : Str} {fs : List Str} (h : x ∈ stepsOf S) : taken S x fs = some x := by unfold taken; rw [if_pos h]
theorem taken_file0 {S : Steps} {x f : Str} {r : List Str} (h : x ∉ stepsOf S) (hf : f ∈ filesOf S) : taken S x (f :: r) = some f := by unfold taken dupIn; rw [if_neg h, if_pos (.inl hf)]
theorem taken_file1 {S : Steps} {x g f : Str} {r : List Str} (h : x ∉ stepsOf S) (hg : g ∉ filesOf S) (hf : f ∈ filesOf S ∨ f = g) : taken S x (g :: f :: r) = some f := by
  unfold taken dupIn
  rw [if_neg h, if_neg (by simp [hg])]
  unfold dupIn
  rw [if_pos (hf.imp_right fun e => by simp [e])]
end Lk
set_option Elab.async false
set_option linter.all false
set_option maxRecDepth 100000
namespace Lk
open PySem L2
theorem hr65 {k : Nat} {A : Around} (hr : Room k A) : A.units + 65 < cLine := by have := hr.un; omega
/-! ### isinstance of a built-in type -/
def tyN (A : Ar) : PV → Option String
  | .non => some "NoneType"
  | .bl _ => some "bool"
  | .int _ => some "int"
  | .str _ => some "str"
  | .lst _ => some "list"
  | .tup _ => some "tuple"
  | .m h => match A[h]? with
    | some (some (false, .lst _)) => some "list"
    | some (some (false, .dK _)) => some "dict"
    | some (some (false, .dT _)) => some "dict"
    | _ => none
  | _ => none
section
variable {g : Gx} {X : Cx} {W : WX} {εx ε : Ev} {a b c e tg iter elt : Expr} {es : List Expr} {ua ub uc : M PV} {us : M (List PV)} {pos : Pos} {lk : Lks} {F G : Hp} {ρ τ : List Addr} {A A' : Ar} {σ : L2.St} {H : Hp}
variable {β γ δ : Type}
theorem tyN_at {x : V} {v : PV} {n : String} (hh : HR g lk F ρ A H) (r : Rp g F ρ x v) (e : tyN A v = some n) : TyX g.K H x (.type n) := by
  cases r with
  | non => cases e; exact .base .non
  | bl b => cases e; exact .base (.bl b)
  | int i => cases e; exact .base (.int i)
  | str z => cases e; exact .base (.str z)
  | lst h r => cases e; exact .base (.lst (hh.sub _ _ h))
  | tup h r => cases e; exact .base (.tup (hh.sub _ _ h))
  | m er =>
    unfold tyN at e
    simp only at e
    split at e <;> cases e
    · rename_i xs q
      obtain ⟨b, o, e1, e2, ⟨vs, rfl, _⟩, e4, e5⟩ := hh.cell _ _ _ q
      rw [er] at e1; cases e1; exact .base (.lst (e5 rfl))
    · rename_i xs q
      obtain ⟨b, o, e1, e2, ⟨vs, rfl, _⟩, e4, e5⟩ := hh.cell _ _ _ q
      rw [er] at e1; cases e1; exact .base (.dK (e5 rfl))
    · rename_i xs q
      obtain ⟨b, o, e1, e2, ⟨vs, rfl, _⟩, e4, e5⟩ := hh.cell _ _ _ q
      rw [er] at e1; cases e1; exact .base (.dT (e5 rfl))
  | ty n => cases e
  | scr h => cases e
  | exc _ _ _ => cases e
def pIsi (T : String) (A : Ar) (v : PV) : Option PV := (tyN A v).bind fun n => (L2.kitB n T).map .bl
theorem x_isi {T : String} {n : Str} {p1 p2 : Pos} (hK : X.K = g.K) (hg : Gl X "isinstance") (hm : X.mg "isinstance" = none) (hgT : Gl X n) (hmT : X.mg n = none) (hvT : bootBuiltins n = some (.type T)) (ha : XE g X W ε a ua) (hn : n ≠ "__name__" := by decide) (hdb : (n == ("__debug__" : Str)) = false := by decide)
    (hs : starEach [a, .Name n p2] X.env = (false, eval a X.env) :: starEach [.Name n p2] X.env := by rfl) (hs2 : starEach [.Name n p2] X.env = (false, eval (.Name n p2) X.env) :: starEach [] X.env := by rfl) (hpl : (backTo pos (starEach [.Name n p2] X.env)).any (·.1) = false := by rfl) :
    XE g X W ε (.Call (.Name "isinstance" p1) [a, .Name n p2] [] pos) (u1 (pIsi T) ua) :=
  let ⟨_, p, s⟩ := ha; ⟨_, pe_callB call_isi hg hm (by decide +kernel) (pa_cons p (pa_cons (pe_bltn (v := .ty T) hgT hmT hvT rfl hn hdb) pa_nil hs2) hs) (by decide) (by decide) hs hpl, fun lk F ρ A σ H Q hh sr o A' e post =>
    s.step hh sr e (.of_e post) fun F1 ρ1 A1 H1 v x k1 h1 rx e2 => by
      obtain ⟨z, ez, rfl, rfl⟩ := ask_inv e2
      unfold pIsi at ez
      cases q : tyN _ v with
      | none => rw [q] at ez; cases ez
      | some n =>
        rw [q] at ez
        simp only [Option.bind_some] at ez
        cases q2 : L2.kitB n T with
        | none => rw [q2] at ez; cases ez
        | some b =>
          rw [q2] at ez; cases ez
          exact ⟨x, .ty T, .type n, .type T, b, rfl, .ty T, by rw [hK]; exact tyN_at h1 rx q, kit_ty q2, EndE.okX post rfl k1 h1 (.bl b)⟩⟩
/-! a < b < c -/
def uChain (f f' : Ar → PV → PV → Option PV) (ua ub uc : M PV) : M PV := ua >>= fun v => ub >>= fun w => (ask fun A => f A v w) >>= fun r => asB r >>= fun k => if k = true then uc >>= fun y => ask fun A => f' A w y else pure (.bl false)
theorem s_chain {r r' : R2} {f f' : Ar → PV → PV → Option PV} {ta tb tc : TE} (hr : V2 g r f) (hr' : V2 g r' f') (ha : SimE g W ε ta ua) (hb : SimE g W ε tb ub) (hc : SimE g W ε tc uc) : SimE g W ε (tChain r r' ta tb tc) (uChain f f' ua ub uc) :=
  fun lk F ρ A σ H Q hh sr o A' e post =>
    ha.step hh sr e (.of_e post) fun F1 ρ1 A1 H1 v x k1 h1 rx e2 =>
      hb.step h1 (sr.mono k1) e2 ((PX.of_e post).mono k1) fun F2 ρ2 A2 H2 w y k2 h2 ry e3 => by
        rcases M.bind_inv e3 with ⟨z, A3, e4, e5⟩ | ⟨c, fs, e4, _⟩
        · obtain ⟨z', ez, zz, rfl⟩ := ask_inv e4
          cases zz
          refine hr lk F2 ρ2 _ H2 x y v w z _ h2 (rx.mono k2) ry ez fun F3 H3 k3 h3 q rq => ?_
          cases z with
          | bl b =>
            refine ⟨b, rq.bl_inv, ?_⟩
            cases b with
            | true =>
              refine ifT rfl ?_
              have kk := (k1.trans k2).trans k3
              exact hc.step h3 (sr.mono kk) e5 ((PX.of_e post).mono kk) fun F4 ρ4 A4 H4 u t k4 h4 rt e6 => by
                obtain ⟨z, ez, rfl, rfl⟩ := ask_inv e6
                exact hr' lk F4 ρ4 _ H4 y t w u z Q h4 (ry.mono (k3.trans k4)) rt ez fun F' H' k h => post F' ρ4 H' ((kk.trans k4).trans k) h
            | false => cases e5; exact ifF rfl (EndE.okX post rfl ((k1.trans k2).trans k3) h3 (.bl false))
          | _ => cases e5
        · obtain ⟨_, _, zz, _⟩ := ask_inv e4; cases zz
theorem x_chain {op op' : CmpOp} {r r' : R2} {f f' : Ar → PV → PV → Option PV} (ho : OpR X (compareOp op) r) (hr : V2 g r f) (ho' : OpR X (compareOp op') r') (hr' : V2 g r' f') (ha : XE g X W ε a ua) (hb : XE g X W ε b ub) (hc : XE g X W ε c uc)
    (hm : lastMarks [op, op'] [b, c] = false := by with_unfolding_all rfl) : XE g X W ε (.Compare a [op, op'] [b, c] pos) (uChain f f' ua ub uc) :=
  let ⟨_, p, s⟩ := ha; let ⟨_, q, t⟩ := hb; let ⟨_, p', u⟩ := hc; ⟨_, pe_chain ho ho' p q p' hm, s_chain hr hr' s t u⟩
theorem t_chain {op op' : CmpOp} {r r' : R2} {f f' : Ar → PV → PV → Option PV} (ho : OpR X (compareOp op) r) (hr : V2 g r f) (ho' : OpR X (compareOp op') r') (hr' : V2 g r' f') (ha : XE g X W ε a ua) (hb : XE g X W ε b ub) (hc : XE g X W ε c uc)
    (hm : lastMarks [op, op'] [b, c] = false := by with_unfolding_all rfl) : XT g X W ε (.Compare a [op, op'] [b, c] pos) (uChain f f' ua ub uc >>= asB) :=
  let ⟨_, p, s⟩ := ha; let ⟨_, q, t⟩ := hb; let ⟨_, p', u⟩ := hc; ⟨_, pt_chain ho ho' p q p' hm, .of (s_chain hr hr' s t u)⟩
/-! -a, xs[::-1] -/
def pNeg (A : Ar) (v : PV) : Option PV := match v with
  | .int i => some (.int (-i))
  | _ => none
theorem x_neg (ha : XE g X W ε a ua) : XE g X W ε (.UnaryOp .USub a pos) (u1 pNeg ua) :=
  let ⟨_, p, s⟩ := ha; ⟨_, pe_un un_neg p, fun lk F ρ A σ H Q hh sr o A' e post =>
    s.step hh sr e (.of_e post) fun F1 ρ1 A1 H1 v x k1 h1 rx e2 => by
      obtain ⟨z, ez, rfl, rfl⟩ := ask_inv e2
      unfold pNeg at ez
      split at ez
      · cases ez; exact ⟨_, rx.int_inv, EndE.okX post rfl k1 h1 (.int _)⟩
      · cases ez⟩
def pRev (A : Ar) (v : PV) : Option PV := match dr A v with
  | .lst xs => some (.lst xs.reverse)
  | _ => none
theorem x_rev {k : Nat} {p1 p2 p3 : Pos} (hK : X.K = g.K) (ha : XE g X W ε a ua) : XE g X W ε (.Subscript a (.Slice none none (some (.UnaryOp .USub (.Constant (.int 1) k p1) p2)) p3) pos) (u1 pRev ua) :=
  let ⟨_, p, s⟩ := ha; ⟨_, pe_revL p, fun lk F ρ A σ H Q hh sr o A' e post =>
    s.step hh sr e (.of_e post) fun F1 ρ1 A1 H1 v x k1 h1 rx e2 => by
      obtain ⟨z, ez, rfl, rfl⟩ := ask_inv e2
      unfold pRev at ez
      split at ez
      · rename_i xs q1; cases ez
        obtain ⟨a, vs, rfl, e1, r1⟩ := lst_at h1 rx q1
        exact ⟨a, vs, rfl, by rw [hK]; exact e1, new_lst h1 r1.reverse fun F' H' k h z r => EndE.okX post rfl (k1.trans k) h r⟩
      · cases ez⟩
/-! text sign by sign; enumerate; a range from its end -/
def signs (z : Str) : List PV := z.cps.toList.map fun c => .str ⟨#[c]⟩
theorem it_str {z : Str} : ItOk g lk (Its z) F ρ (signs z) where
  go lk' F' ρ' A H i _ k hh hi := by
    have hn : i < z.cps.size := by simpa [signs] using hi
    exact ⟨hn, fun x H' ⟨e, c, hc, hx⟩ => by
      subst e hx
      refine ⟨F', .refl F' ρ', hh, .str ⟨#[c]⟩, ?_, .str _⟩
      simp [signs, hc]⟩
  stop lk' F' ρ' A H i _ k hh hi := show z.cps.size ≤ i by rw [← hi]; simp [signs]
def uSigns (ua : M PV) : M (List PV) := ua >>= fun v => match v with
  | .str z => pure (signs z)
  | _ => bad
theorem i_str (ha : XE g X W ε a ua) : XI g X W ε tg a (uSigns ua) :=
  let ⟨_, p, s⟩ := ha; ⟨_, pi_str p, fun lk F ρ A σ H R hh sr β k o A' e px nx => by
    unfold uSigns at e
    rw [M.bind_assoc'] at e
    exact s.step hh sr e px fun F1 ρ1 A1 H1 v x k1 h1 rx e2 => by
      cases v with
      | str z => exact ⟨z, rx.str_inv, nx F1 ρ1 A1 H1 _ _ k1 h1 it_str e2⟩
      | _ => cases e2⟩
def numbered : Nat → List PV → List PV
  | _, [] => []
  | i, x :: xs => .tup [.int (i : Nat), x] :: numbered (i + 1) xs
theorem numbered_len : ∀ (i : Nat) (xs : List PV), (numbered i xs).length = xs.length
  | _, [] => rfl
  | i, x :: xs => by simp [numbered, numbered_len (i + 1) xs]
theorem numbered_at : ∀ (i : Nat) (xs : List PV) (j : Nat) (x : PV), xs[j]? = some x → (numbered i xs)[j]? = some (.tup [.int ((i + j : Nat) : Nat), x])
  | _, [], _, _, e => by simp at e
  | i, y :: xs, 0, x, e => by simp at e; subst e; rfl
  | i, y :: xs, j + 1, x, e => by
    have := numbered_at (i + 1) xs j x (by simpa using e)
    simp only [numbered, List.getElem?_cons_succ]
    rw [this]
    have : i + 1 + j = i + (j + 1) := by omega
    rw [this]
theorem it_enum {p : Addr} {vs : List V} {xs : List PV} (hp : F p = some (.lst vs)) (r : RpL g F ρ vs xs) : ItOk g lk (Ite g.K p) F ρ (numbered 0 xs) where
  go lk' F' ρ' A H i _ k hh hi := by
    rw [numbered_len] at hi
    have hH : H p = some (.lst vs) := hh.sub _ _ (k.le _ _ hp)
    obtain ⟨v, hv, rv⟩ := r.get (i := i) (x := xs[i]) (List.getElem?_eq_getElem hi)
    exact ⟨⟨vs, v, SqL.of hH, hv⟩, fun x H' ⟨T, z, e1, e2, e3, e4⟩ => by
      subst e1 e3
      have := e4 vs (SqL.of hH)
      rw [hv] at this; cases this
      obtain ⟨h2, k2⟩ := hh.frozen (o := .tup [.int (i : Nat), v]) e2
      refine ⟨_, k2, h2, _, numbered_at 0 xs i xs[i] (List.getElem?_eq_getElem hi), .tup upd_same ?_⟩
      rw [Nat.zero_add]
      exact .cons (.int _) (.cons ((rv.mono k).mono k2) .nil)⟩
  stop lk' F' ρ' A H i _ k hh hi := by
    rw [numbered_len] at hi
    exact ⟨vs, SqL.of (hh.sub _ _ (k.le _ _ hp)), by rw [r.length]; exact Nat.le_of_eq hi⟩
theorem it_enumT {p : Addr} {vs : List V} {xs : List PV} (hp : F p = some (.tup vs)) (r : RpL g F ρ vs xs) : ItOk g lk (ItET g.K p) F ρ (numbered 0 xs) where
  go lk' F' ρ' A H i _ k hh hi := by
    rw [numbered_len] at hi
    have hH : H p = some (.tup vs) := hh.sub _ _ (k.le _ _ hp)
    obtain ⟨v, hv, rv⟩ := r.get (i := i) (x := xs[i]) (List.getElem?_eq_getElem hi)
    exact ⟨⟨vs, v, SqT.of hH, hv⟩, fun x H' ⟨T, z, e1, e2, e3, e4⟩ => by
      subst e1 e3
      have := e4 vs (SqT.of hH)
      rw [hv] at this; cases this
      obtain ⟨h2, k2⟩ := hh.frozen (o := .tup [.int (i : Nat), v]) e2
      refine ⟨_, k2, h2, _, numbered_at 0 xs i xs[i] (List.getElem?_eq_getElem hi), .tup upd_same ?_⟩
      rw [Nat.zero_add]
      exact .cons (.int _) (.cons ((rv.mono k).mono k2) .nil)⟩
  stop lk' F' ρ' A H i _ k hh hi := by
    rw [numbered_len] at hi
    exact ⟨vs, SqT.of (hh.sub _ _ (k.le _ _ hp)), by rw [r.length]; exact hi⟩
def uEnum (ua : M PV) : M (List PV) := ua >>= fun v => opt ((seqOf v).map (numbered 0))
theorem i_enum {p tp : Pos} {elts : List Expr} {kk : Nat} (hK : X.K = g.K) (hg : Gl X "enumerate") (hm : X.mg "enumerate" = none) (ha : XE g X W ε a ua) (hs : starEach [a] X.env = [(false, eval a X.env)] := by rfl) (hs' : starEach [a] X.env = (false, eval a X.env) :: starEach [] X.env := by rfl) :
    XI g X W ε (.Tuple elts kk tp) (.Call (.Name "enumerate" p) [a] [] pos) (uEnum ua) :=
  let ⟨_, p, s⟩ := ha; ⟨_, PI.or (pi_enum hg hm (pa_cons p pa_nil hs') hs) (pi_enumT hg hm (pa_cons p pa_nil hs') hs), fun lk F ρ A σ H R hh sr β k o A' e px nx => by
    unfold uEnum at e
    rw [M.bind_assoc'] at e
    cases q : ua A with
    | none => rw [M.bind_app, q] at e; cases e
    | some z =>
      obtain ⟨z1, z2⟩ := z
      cases z1 with
      | ex c fs =>
        obtain ⟨rfl, rfl⟩ := bd_ex q e
        exact .inl (s lk F ρ A σ H _ hh sr _ _ q fun F1 ρ1 H1 k1 h1 => px c fs rfl F1 ρ1 H1 k1 h1)
      | ok v =>
        have e := bd_ok q e
        cases v with
        | lst xs =>
          refine .inl (s lk F ρ A σ H _ hh sr _ _ q fun F1 ρ1 H1 k1 h1 x rx => ?_)
          cases rx with | lst hp r =>
          exact ⟨_, _, rfl, SqL.of (h1.sub _ _ hp), by rw [hK]; exact nx F1 ρ1 z2 H1 _ _ k1 h1 (it_enum hp r) e⟩
        | tup xs =>
          refine .inr (s lk F ρ A σ H _ hh sr _ _ q fun F1 ρ1 H1 k1 h1 x rx => ?_)
          cases rx with | tup hp r =>
          exact ⟨_, _, rfl, SqT.of (h1.sub _ _ hp), by rw [hK]; exact nx F1 ρ1 z2 H1 _ _ k1 h1 (it_enumT hp r) e⟩
        | _ => cases e⟩
end
end Lk
set_option Elab.async false
set_option linter.all false
set_option maxRecDepth 100000
namespace Lk
open PySem PySem.Spec L2
open PyProof.Rows (envOfC)
/-! ### raise, try -/
def exM {α : Type} (c : String) (fs : Option (List (Str × PV))) : M α := fun A => some (.ex c fs, A)
def uTry {α γ : Type} (cs : List String) (c : String) (ub : M (Fl α γ)) (us : List Str → List PV → M (Fl α γ)) : M (Fl α γ) := fun A => match ub A with
  | some (.ex c' (some fs), B) => if c' = c then noX (us (fs.map (·.1)) (fs.map (·.2))) B else if c' ∈ cs then some (.ex c' (some fs), B) else none
  | some (.ex c' none, B) => if c' = c then none else if c' ∈ cs then some (.ex c' none, B) else none
  | some (.ok v, B) => some (.ok v, B)
  | none => none
section
variable {g : Gx} {X : Cx} {W : WX} {εx εt ε : Ev} {a b c e o tg iter elt : Expr} {es : List Expr} {rest ss body : List Stmt} {st b₀ : Stmt} {ua ub uc uo : M PV} {us : M (List PV)} {pos : Pos} {lk : Lks} {F G : Hp} {ρ τ : List Addr} {A A' : Ar} {σ : L2.St} {H : Hp}
variable {α β γ δ : Type} {L : β → Ev} {Ll : γ → Ev} {L1 : α → Ev}
theorem b_raise {cn : String} {C : Addr} {f : Str} (hx : SubL ε εx) (hC : g.cn cn = some C) (hc : X.calm = true) (tk : L2.Takes X W) (ha : XE g X W ε a ua) (hp : ∀ t, PE X a t → PMk X e (tMkO C (spI1 C f) [] (tCons t tNil))) :
    XB g X W εx ε (.Raise (some e) none pos :: rest) L Ll (ua >>= fun v => exM cn (some [(f, v)])) :=
  let ⟨_, p, s⟩ := ha; ⟨_, pss_cons (L2.ps_raise hc tk (hp _ p)) pss_never, fun lk F ρ A σ H D hh sr o A' e post =>
    s.step hh sr e (.of_s sr hx post) fun F1 ρ1 A1 H1 v x k1 h1 rx e2 => by
      cases e2
      exact raise1 (Q := fun cls d H => W cls d σ H) fun d H2 hd k hx2 => by
        obtain ⟨h2, k2⟩ := h1.kpnew k hd hx2
        exact post _ ρ1 H2 (k1.trans k2) h2 σ _ _ ((sr.mono (k1.trans k2)).sub hx.sub) ⟨C, hC, rfl, d, _, rfl, upd_same, rfl, .cons (rx.mono k2) .nil⟩⟩
/-- e.f of the exception that is handled -/
theorem x_xf {ad C : Addr} {oe : Obj} {cls : Value} {dd : Addr} {pn : List (Addr × Obj)} {n x : Str} {i : Nat} {ns : List Str} {xs : List PV} {p1 : Pos} (T : XfC X.K C) (hno : PySem.W.findIn X.K (.ref C) n = some none) (hz : Zc cls (some dd) oe) (hf : ∃ vs, oe.data = .fields vs) (hcl : cls = .ref C)
    (hi : ε[i]? = some (some (.exc ad dd ns xs))) (he : PE (X.suite ad ((ad, oe) :: pn)) (.Name x p1) (tVar i)) (hb : attributeBase (.Name x p1) n X.env (eval (.Name x p1) X.env) = eval (.Name x p1) X.env := by rfl) :
    XE g (X.suite ad ((ad, oe) :: pn)) W ε (.Attribute (.Name x p1) n pos) (opt ((ns.zip xs).lookup n)) :=
  ⟨_, pe_xf T hno hz hf he hb, fun lk F ρ A σ H Q hh sr o A' e post => by
    obtain ⟨v, ev, rfl, rfl⟩ := opt_inv e
    obtain ⟨y, hy, r⟩ := sr.at_ i _ hi
    cases r with | exc h en rr =>
    rename_i vs
    have look : ∀ {vs : List (Str × V)} {zs : List PV} {v : PV}, RpL g F ρ (vs.map (·.2)) zs → ((vs.map (·.1)).zip zs).lookup n = some v → ∃ w, vs.lookup n = some w ∧ Rp g F ρ w v := fun {vs} => by
      induction vs with
      | nil => intro zs v r e; simp at e
      | cons q vs ih =>
        obtain ⟨q, qv⟩ := q
        intro zs v r e
        cases r with | cons r1 r2 =>
        simp only [List.map_cons, List.zip_cons_cons, List.lookup_cons] at e ⊢
        cases hq : (n == q) with
        | true => rw [hq] at e; cases e; exact ⟨_, rfl, r1⟩
        | false => rw [hq] at e; exact ih r2 e
    rw [← en] at ev
    obtain ⟨w, hw, rw'⟩ := look rr ev
    exact ⟨_, hy, rfl, hcl, dd, vs, w, rfl, hh.sub _ _ h, hw, EndE.ok post rfl hh rw'⟩⟩
theorem s_try {cs : List String} {cn : String} {C : Addr} {x n : Str} {i : Nat} {np pos' : Pos} {ub : M (Fl α γ)} {us : List Str → List PV → M (Fl α γ)} (hx : SubL εt εx) (h0 : SubL ε εt) (hC : g.cn cn = some C) (hst : X.stack = X.env :: X.outer) (hfr : X.env.frame = some X.env.locals) (hN : X.N.Nodup) (hi : X.N[i]? = some n) (hln : X.env.kindOf n = some .local)
    (hc : Names X x (.ref C)) (tk : L2.Takes X W) (hem : ∀ c' C', (c' = cn ∨ c' ∈ cs) → g.cn c' = some C' → PySem.W.exmOne X.K (.ref C') (.ref C) = some (decide (c' = cn))) (hL : ∀ b, (L1 b).set i none = L1 b) (hLl : ∀ b, (Ll b).set i none = Ll b)
    (hb : ∀ (W' : WX) (pn : List (Addr × Obj)) (xe : Value → Shared → Prop), L2.Takes (X.tr pn xe) W' → PassesOwn (model X.prog X.w) X.A X.env xe → XB g (X.tr pn xe) W' εt ε body L1 Ll ub)
    (hs : ∀ (a : Addr) (oe : Obj) (cls : Value) (dd : Addr) (pn : List (Addr × Obj)) (ns : List Str) (xs : List PV), Zc cls (some dd) oe → (∃ vs, oe.data = .fields vs) → cls = .ref C → XB g (X.suite a ((a, oe) :: pn)) W0 [] (εt.set i (some (.exc a dd ns xs))) (b₀ :: ss) L1 Ll (us ns xs)) :
    XS g X W εx ε (.Try body [.ExceptHandler (some (.Name x np)) (some n) (b₀ :: ss) pos'] [] [] pos) L1 Ll (uTry cs cn ub us) := by
  refine ⟨_, L2.ps_try_as (tb := fun W' D σ H => ∀ pn xe (t : L2.Takes (X.tr pn xe) W') (p : PassesOwn (model X.prog X.w) X.A X.env xe), Classical.choose (hb W' pn xe t p) D σ H)
    (ts := fun a cls d D σ H => ∃ dd ns xs, d = some dd ∧ cls = .ref C ∧ ∀ (oe : Obj) (pn : List (Addr × Obj)) (hz : Zc cls (some dd) oe) (hf : ∃ vs, oe.data = .fields vs) (hcl : cls = .ref C), Classical.choose (hs a oe cls dd pn ns xs hz hf hcl) D σ H)
    hst hfr hN hi hln hc tk (fun W' pn xe t p => ⟨fun pins s σ H D I h => ((Classical.choose_spec (hb W' pn xe t p)).1).run pins s σ H D I (h pn xe t p)⟩)
    (fun a oe cls d pn hz hf => ⟨fun pins s σ H D I ⟨dd, ns, xs, hd, hcl, h⟩ => by subst hd; exact ((Classical.choose_spec (hs a oe cls dd pn ns xs hz hf hcl)).1).run pins s σ H D I (h oe pn hz hf hcl)⟩), fun lk F ρ A σ H D hh sr o A' e post pn xe t p => ?_⟩
  have sb := (Classical.choose_spec (hb _ pn xe t p)).2
  unfold uTry at e
  cases q : ub A with
  | none => rw [q] at e; cases e
  | some z =>
    obtain ⟨z1, z2⟩ := z
    rw [q] at e
    cases z1 with
    | ok fl =>
      cases e
      refine sb lk F ρ A σ H D hh sr _ _ q fun F1 ρ1 H1 k1 h1 => ?_
      have := post F1 ρ1 H1 k1 h1
      cases fl <;> exact this
    | ex c' fs =>
      refine sb lk F ρ A σ H D hh sr _ _ q fun F1 ρ1 H1 k1 h1 σ1 cls d s1 er => ?_
      obtain ⟨C', hC', rfl, er2⟩ := er
      have hin : c' = cn ∨ c' ∈ cs := by
        by_cases h1 : c' = cn
        · exact .inl h1
        · by_cases h2 : c' ∈ cs
          · exact .inr h2
          · cases fs with
            | none => simp only [if_neg h1, if_neg h2] at e; cases e
            | some fs => simp only [if_neg h1, if_neg h2] at e; cases e
      refine ⟨decide (c' = cn), hem c' C' hin hC', fun hy ad hn => ?_, fun hy => ?_⟩
      · have ec : c' = cn := of_decide_eq_true hy
        subst ec
        rw [hC] at hC'; cases hC'
        cases fs with
        | none => simp only [if_true] at e; cases e
        | some fs =>
          simp only [if_true] at e
          obtain ⟨dd, vs, rfl, hF, hr⟩ := er2
          obtain ⟨fl, rfl, e3⟩ := noX_inv e
          refine ⟨dd, fs.map (·.1), fs.map (·.2), rfl, rfl, fun oe pn hz hf hcl => ?_⟩
          have ss := (Classical.choose_spec (hs ad oe (.ref C) dd pn (fs.map (·.1)) (fs.map (·.2)) hz hf hcl)).2
          refine ss lk F1 ρ1 z2 _ H1 _ h1 (s1.set i (.exc hF hr.1 hr.2)) _ A' e3 fun F2 ρ2 H2 k2 h2 => ?_
          have po := post F2 ρ2 H2 (k1.trans k2) h2
          cases fl with
          | nx b => exact fun σ4 s4 => po _ (by have := s4.none i; rw [hL] at this; exact this)
          | rt v => exact po
          | bk b => exact fun σ4 s4 => po _ (by have := s4.none i; rw [hLl] at this; exact this)
          | ct b => exact fun σ4 s4 => po _ (by have := s4.none i; rw [hLl] at this; exact this)
      · have ne : ¬ c' = cn := of_decide_eq_false hy
        have hi2 : c' ∈ cs := hin.elim (fun z => (ne z).elim) id
        cases fs with
        | none =>
          simp only [if_neg ne, if_pos hi2] at e; cases e
          exact post F1 ρ1 H1 k1 h1 σ1 _ _ (s1.sub hx.sub) ⟨C', hC', rfl, er2⟩
        | some fs =>
          simp only [if_neg ne, if_pos hi2] at e; cases e
          exact post F1 ρ1 H1 k1 h1 σ1 _ _ (s1.sub hx.sub) ⟨C', hC', rfl, er2⟩
end
end Lk
set_option Elab.async false
set_option linter.all false
set_option maxRecDepth 100000
namespace Lk
open PySem PySem.Spec L2
open PyProof.Rows (envOfC)
/-! ### objects -/
def insOf (A : Ar) (C : String) (v : PV) : Option (List (Str × PV)) := match v with
  | .m h => match A[h]? with
    | some (some (false, .ins D fs)) => if D = C then some fs else none
    | _ => none
  | _ => none
def uFld (C : String) (f : Str) (uo : M PV) : M PV := uo >>= fun o => ask fun A => (insOf A C o).bind fun fs => fs.lookup f
def pPutF (f : Str) (v : PV) : List (Str × PV) → List (Str × PV)
  | [] => [(f, v)]
  | (h, x) :: r => if h = f then (h, v) :: r else (h, x) :: pPutF f v r
def setFM (C : String) (f : Str) (o v : PV) : M Unit := fun A => match o, insOf A C o with
  | .m h, some fs => if fs.length < 1000 then some (.ok (), A.set h (some (false, .ins C (pPutF f v fs)))) else none
  | _, _ => none
def newIns (C : String) : M PV := fun A => some (.ok (.m A.length), A ++ [some (false, .ins C [])])
def uMake (C : String) (us : M (List PV)) (fn : List PV → M PV) : M PV := us >>= fun ws => newIns C >>= fun h => fn (h :: ws) >>= fun r => match r with
  | .non => pure h
  | _ => bad
def isIns (C : String) (o : PV) : M Unit := ask fun A => (insOf A C o).map fun _ => ()
def noFld (C : String) (m : Str) (o : PV) : M Unit := ask fun A => (insOf A C o).bind fun fs => if (fs.lookup m).isNone then some () else none
def uMeth (C : String) (m : Str) (uo : M PV) (us : M (List PV)) (fn : List PV → M PV) : M PV := uo >>= fun o => noFld C m o >>= fun _ => us >>= fun ws => fn (o :: ws)
def uProp (C : String) (uo : M PV) (fn : List PV → M PV) : M PV := uo >>= fun o => isIns C o >>= fun _ => noX (fn [o])
section
variable {g : Gx} {X : Cx} {W : WX} {εx εt ε : Ev} {a b c e o tg iter elt : Expr} {es : List Expr} {rest ss body : List Stmt} {st b₀ : Stmt} {ua ub uc uo : M PV} {us : M (List PV)} {pos apos : Pos} {lk : Lks} {F G : Hp} {ρ τ : List Addr} {A A' : Ar} {σ : L2.St} {H : Hp}
variable {α β γ δ : Type} {L : β → Ev} {Ll : γ → Ev} {L1 : α → Ev}
theorem ins_at {C : String} {CA : Addr} {x : V} {v : PV} {fs : List (Str × PV)} (hC : g.cn C = some CA) (hh : HR g lk F ρ A H) (r : Rp g F ρ x v) (e : insOf A C v = some fs) :
    ∃ h p dx vs, v = .m h ∧ A[h]? = some (some (false, .ins C fs)) ∧ x = .ref p ∧ ρ[h]? = some p ∧ H p = some (.ins CA dx vs) ∧ RpK g F ρ vs fs := by
  cases r with
  | m er =>
    rename_i p h
    unfold insOf at e
    simp only at e
    split at e
    · rename_i D fs' q
      by_cases hD : D = C
      · rw [if_pos hD] at e; cases e; subst hD
        obtain ⟨b, ob, e1, e2, ⟨ca, dx, vs, h1, rfl, rr⟩, e4, e5⟩ := hh.cell _ _ _ q
        rw [er] at e1; cases e1
        rw [hC] at h1; cases h1
        exact ⟨h, p, dx, vs, rfl, q, rfl, er, e5 rfl, rr⟩
      · rw [if_neg hD] at e; cases e
    · cases e
  | _ => cases e
theorem rpk_lookup {f : Str} {v : PV} : ∀ {fs : List (Str × PV)} {vs : List (Str × V)}, RpK g F ρ vs fs → fs.lookup f = some v → ∃ w, vs.lookup f = some w ∧ Rp g F ρ w v
  | [], _, _, e => by simp at e
  | q :: fs, vs, h, e => by
    obtain ⟨z, zs, rfl, r, t⟩ := rpk_cons h
    obtain ⟨q1, q2⟩ := q
    simp only [List.lookup_cons] at e ⊢
    cases hq : (f == q1) with
    | true => simp only [hq] at e ⊢; cases e; exact ⟨z, rfl, r⟩
    | false => simp only [hq] at e ⊢; exact rpk_lookup t e
theorem rpk_lookup_none {f : Str} : ∀ {fs : List (Str × PV)} {vs : List (Str × V)}, RpK g F ρ vs fs → (fs.lookup f).isNone = true → vs.lookup f = none
  | [], vs, h, e => by obtain rfl := rpk_nil h; rfl
  | q :: fs, vs, h, e => by
    obtain ⟨z, zs, rfl, r, t⟩ := rpk_cons h
    obtain ⟨q1, q2⟩ := q
    simp only [List.lookup_cons] at e ⊢
    cases hq : (f == q1) with
    | true => simp only [hq] at e; cases e
    | false => simp only [hq] at e ⊢; exact rpk_lookup_none t e
theorem rpk_putF {f : Str} {z : V} {p : PV} (r : Rp g F ρ z p) : ∀ {fs : List (Str × PV)} {vs : List (Str × V)}, RpK g F ρ vs fs → RpK g F ρ (putF f z vs) (pPutF f p fs)
  | [], vs, h => by obtain rfl := rpk_nil h; exact ⟨rfl, .cons r .nil⟩
  | q :: fs, vs, h => by
    obtain ⟨u, zs, rfl, r1, t⟩ := rpk_cons h
    obtain ⟨q1, q2⟩ := q
    unfold putF pPutF
    by_cases e : q1 = f
    · rw [if_pos e, if_pos e]; exact rpk_mk (p := (q1, p)) r t
    · rw [if_neg e, if_neg e]; exact rpk_mk (p := (q1, q2)) r1 (rpk_putF r t)
theorem x_fld {C : String} {CA : Addr} {f : Str} (hC : g.cn C = some CA) (cl : Cls X.K CA) (nf : NoAttr X.K CA f) (ha : XE g X W ε a ua) (hb : attributeBase a f X.env (eval a X.env) = eval a X.env := by rfl) : XE g X W ε (.Attribute a f pos) (uFld C f ua) :=
  let ⟨_, p, s⟩ := ha; ⟨_, pe_fld p hb, fun lk F ρ A σ H Q hh sr o A' e post =>
    s.step hh sr e (.of_e post) fun F1 ρ1 A1 H1 v x k1 h1 rx e2 => by
      obtain ⟨z, ez, rfl, rfl⟩ := ask_inv e2
      cases q : insOf _ C v with
      | none => rw [q] at ez; cases ez
      | some fs =>
        rw [q] at ez
        obtain ⟨h, p, dx, vs, rfl, eA, rfl, er, eH, rr⟩ := ins_at hC h1 rx q
        obtain ⟨w, hw, rw'⟩ := rpk_lookup rr ez
        exact ⟨p, CA, dx, vs, w, rfl, eH, cl, nf, hw, EndE.okX post rfl k1 h1 rw'⟩⟩
theorem b_fld {C : String} {CA : Addr} {f : Str} {k : M (Fl β γ)} (hx : SubL ε εx) (hC : g.cn C = some CA) (cl : Cls X.K CA) (nf : NoAttr X.K CA f) (ha : XE g X W ε a ua) (ho : XE g X W ε o uo) (hr : XB g X W εx ε rest L Ll k)
    (hs : swapsWith a (some (.Attribute o f apos)) pos.line X.env = pure false := by rfl) : XB g X W εx ε (.Assign [.Attribute o f apos] a pos :: rest) L Ll (ua >>= fun v => uo >>= fun o => setFM C f o v >>= fun _ => k) :=
  let ⟨_, p, s⟩ := ha; let ⟨_, q, t⟩ := ho; let ⟨_, q', t'⟩ := hr; ⟨_, pss_cons (ps_fld q p hs) q', fun lk F ρ A σ H D hh sr o A' e post =>
    s.step hh sr e (.of_s sr hx post) fun F1 ρ1 A1 H1 v x k1 h1 rx e2 =>
      t.step h1 (sr.mono k1) e2 ((PX.of_s sr hx post).mono k1) fun F2 ρ2 A2 H2 w y k2 h2 ry e3 => by
        have kk := k1.trans k2
        rcases M.bind_inv e3 with ⟨un, A3, e4, e5⟩ | ⟨c, fs, e4, _⟩
        · unfold setFM at e4
          split at e4
          · rename_i h fs eo
            split at e4
            · rename_i hz
              cases e4
              obtain ⟨h', p, dx, vs, eh, eA, rfl, er, eH, rr⟩ := ins_at hC h2 ry eo
              cases eh
              refine ⟨p, CA, dx, vs, rfl, eH, cl, nf, by rw [rpk_len rr]; exact hz, ?_⟩
              exact t' lk F2 ρ2 _ σ _ D (h2.write (c' := .ins C (pPutF f v fs)) eA er ⟨CA, dx, _, hC, rfl, rpk_putF (rx.mono k2) rr⟩) (sr.mono kk) o A' e5 (EndS.mono' post kk)
            · cases e4
          · cases e4
        · unfold setFM at e4
          split at e4
          · split at e4 <;> cases e4
          · cases e4⟩
theorem HR.extra (h : HR g lk F ρ A H) {p : Addr} {ob : HO} (hp : H p = none) : HR g lk F ρ A (upd H p ob) := h.kp0 ((Kp.refl [] H).new hp)
/-- C(..) -/
theorem s_make {C : String} {CA : Addr} {n : Nat} {fn : List PV → M PV} {t : TA} (hC : g.cn C = some CA) (hn : ∀ ws A z, fn ws A = some z → ws.length = n) (s : SimA g W ε t us) (E : XK) (hE : ∀ cls d σ H, W cls d σ H → E cls d H) :
    SimE g W ε (tMake CA (spU g n fn) [] E t) (uMake C us fn) := fun lk F ρ A σ H Q hh sr o A' e post =>
    s.step hh sr e (.of_e post) fun F1 ρ1 A1 H1 v x k1 h1 rx e2 => by
      intro y dx hy hd ne
      have e2 : (fn (.m A1.length :: v) >>= fun r => match r with | .non => pure (.m A1.length) | _ => bad) (A1 ++ [some (false, .ins C [])]) = some (o, A') := e2
      have h2 := h1.extra (ob := .own y) hd
      obtain ⟨h3, k3⟩ := h2.cells (p := y) (o := .ins CA dx []) (c := .ins C []) (by rw [upd_ne ne.symm]; exact hy) ⟨CA, dx, [], hC, rfl, rfl, .nil⟩
      have rm : Rp g F1 (ρ1 ++ [y]) (.ref y) (.m A1.length) := .m (by rw [← h1.len]; simp)
      rcases M.bind_inv e2 with ⟨r, A2, e3, e4⟩ | ⟨c, fs, e3, rfl⟩
      · refine ⟨lk, F1, ρ1 ++ [y], _, .m A1.length :: v, _, A2, by simp [rx.length]; have := hn _ _ _ e3; simpa using this, h3, .cons rm (rx.mono k3 |> fun z => by rw [List.append_nil]; exact z), e3, fun F4 ρ4 H4 k4 h4 => ?_⟩
        intro z rz
        cases r with
        | non => cases e4; exact ⟨rz.non_inv, EndE.okX post rfl ((k1.trans k3).trans k4) h4 (rm.mono k4)⟩
        | _ => cases e4
      · refine ⟨lk, F1, ρ1 ++ [y], _, .m A1.length :: v, _, A', by simp [rx.length]; have := hn _ _ _ e3; simpa using this, h3, .cons rm (rx.mono k3 |> fun z => by rw [List.append_nil]; exact z), e3, fun F4 ρ4 H4 k4 h4 => ?_⟩
        exact fun cls d er => hE cls d σ H4 (post F4 ρ4 H4 ((k1.trans k3).trans k4) h4 cls d er)
theorem spU_raw {P : Program} {w : World} {mg : Str → Option Value} {base : Heap} {CX : CXT} {k : Nat} {f : Addr} {fd : FuncData} {ps : List Str} {n : Nat} {fn : List PV → M PV} (F : FnOk P w g.K mg base CX k f fd ps (spU g n fn)) (hb : Binds g.K fd ps []) : FnR P w g.K mg base CX k f (spU g n fn) :=
  (F.raw hb .nil).imp fun vs H Q E h => by rw [List.append_nil]; exact h
/-- o.m(..) -/
theorem s_meth {C : String} {CA : Addr} {m : Str} {n : Nat} {fn : List PV → M PV} {ta : TE} {t : TA} {sp : Sp} (hC : g.cn C = some CA) (hsp : ∀ vs H Q E, spU g vs.length fn vs H Q E → vs.length = n → sp vs H Q E) (hn : ∀ ws A z, fn ws A = some z → ws.length = n) (so : SimE g W ε ta uo) (s : SimA g W ε t us) :
    SimE g W ε (tMethN CA m sp (fun σ cls d H => W cls d σ H) ta t) (uMeth C m uo us fn) := fun lk F ρ A σ H Q hh sr o A' e post =>
    so.step hh sr e (.of_e post) fun F1 ρ1 A1 H1 v x k1 h1 rx e2 => by
      rcases M.bind_inv e2 with ⟨un, A2, e3, e4⟩ | ⟨c, fs, e3, _⟩
      · obtain ⟨un', e5, z, rfl⟩ := ask_inv e3
        cases q : insOf A2 C v with
        | none => rw [q] at e5; cases e5
        | some fs =>
          rw [q] at e5
          simp only [Option.bind_some] at e5
          by_cases hl : (fs.lookup m).isNone = true
          · obtain ⟨h, p, dx, vs, rfl, eA, rfl, er, eH, rr⟩ := ins_at hC h1 rx q
            refine ⟨p, dx, vs, rfl, eH, rpk_lookup_none rr hl, ?_⟩
            refine s.step h1 (sr.mono k1) e4 ((PX.of_e post).mono k1) fun F2 ρ2 A3 H2 ws xs k2 h2 rxs e6 => ?_
            have hlen : (V.ref p :: xs).length = n := by have := hn _ _ _ e6; simp at this; simp [rxs.length]; omega
            exact hsp _ _ _ _ (run_sp rfl h2 (.cons (rx.mono k2) rxs) e6 (EndE.mono' post (k1.trans k2))) hlen
          · rw [if_neg hl] at e5; cases e5
      · obtain ⟨_, _, z, _⟩ := ask_inv e3; cases z
theorem s_prop {C : String} {CA : Addr} {fn : List PV → M PV} {ta : TE} (hC : g.cn C = some CA) (so : SimE g W ε ta uo) : SimE g W ε (tProp CA (spU g 1 fn) [] (fun _ _ _ => False) ta) (uProp C uo fn) := fun lk F ρ A σ H Q hh sr o A' e post =>
    so.step hh sr e (.of_e post) fun F1 ρ1 A1 H1 v x k1 h1 rx e2 => by
      rcases M.bind_inv e2 with ⟨un, A2, e3, e4⟩ | ⟨c, fs, e3, _⟩
      · obtain ⟨un', e5, z, rfl⟩ := ask_inv e3
        obtain ⟨z, rfl, e6⟩ := noX_inv e4
        cases q : insOf A2 C v with
        | none => rw [q] at e5; cases e5
        | some fs =>
          obtain ⟨h, p, dx, vs, rfl, eA, rfl, er, eH, rr⟩ := ins_at hC h1 rx q
          exact ⟨p, dx, vs, rfl, eH, lk, F1, ρ1, A2, _, _, A', rfl, h1, .cons rx .nil, e6, fun F4 ρ4 H4 k4 h4 => post F4 ρ4 H4 (k1.trans k4) h4⟩
      · obtain ⟨_, _, z, _⟩ := ask_inv e3; cases z
end
end Lk
set_option Elab.async false
set_option linter.all false
set_option maxRecDepth 100000
namespace Lk
open PySem PySem.Spec L2
open PyProof.Rows (envOfC)
def newC (c : Cell) : M PV := fun A => some (.ok (.m A.length), A ++ [some (false, c)])
def uStar (ua : M PV) (us : M (List PV)) : M (List PV) := ua >>= fun v => opt (seqOf v) >>= fun xs => us >>= fun ys => pure (xs ++ ys)
def uRevRange (ua : M PV) : M (List PV) := ua >>= fun v => match v with
  | .int j => if -(2 ^ 62) ≤ j ∧ j < 2 ^ 62 then pure ((List.range j.toNat).map fun i => .int (((0 : Int) + ((j.toNat : Nat) : Int) - 1) + (i : Nat) * (-1))) else bad
  | _ => bad
def uDComp (f : PV → M (Option (Key × PV))) : List PV → List (Key × PV) → M (List (Key × PV))
  | [], acc => pure acc
  | x :: xs, acc => f x >>= fun o => uDComp f xs (match o with | none => acc | some y => pPut acc y.1 y.2)
def uDc (us : M (List PV)) (f : PV → M (Option (Key × PV))) : M PV := us >>= fun xs => if xs.length ≤ sizeLine then (noX (uDComp f xs [])) >>= fun kvs => newC (.dK kvs) else bad
def uDElt (ut : M Bool) (uk uv : M PV) : M (Option (Key × PV)) := ut >>= fun b => if b = true then (uk >>= fun k => uv >>= fun v => opt (keyK k) >>= fun kk => pure (some (kk, v))) else pure none
/-- the keys of a dict, as a tuple -/
def keyP : Key → PV
  | .inl i => .int i
  | .inr x => .str x
def pKeys (A : Ar) (v : PV) : Option PV := match v with
  | .m h => match A[h]? with
    | some (some (false, .dK kvs)) => some (.tup (kvs.map fun kv => keyP kv.1))
    | _ => none
  | _ => none
def uLenO (C : String) (uo : M PV) (fn : List PV → M PV) : M PV := uo >>= fun o => isIns C o >>= fun _ => noX (fn [o]) >>= fun r => match r with
  | .int n => if 0 ≤ n ∧ n < 2 ^ 63 then pure (.int n) else bad
  | _ => bad
section
variable {g : Gx} {X : Cx} {W : WX} {εx εt ε : Ev} {a b c e o tg iter elt : Expr} {es : List Expr} {rest ss body : List Stmt} {st b₀ : Stmt} {ua ub uc uo : M PV} {us : M (List PV)} {pos apos : Pos} {lk : Lks} {F G : Hp} {ρ τ : List Addr} {A A' : Ar} {σ : L2.St} {H : Hp} {p : Addr} {ob : HO}
variable {α β γ δ : Type} {L : β → Ev} {Ll : γ → Ev} {L1 : α → Ev}
theorem x_newDK : XE g X W ε (.Dict [] [] pos) (newC (.dK [])) := ⟨_, pe_dnewK, fun lk F ρ A σ H Q hh sr o A' e post => by
  cases e
  intro p hp
  obtain ⟨h1, k1⟩ := hh.cells (o := .dK []) (c := .dK []) hp ⟨[], rfl, rfl, .nil⟩
  exact EndE.okX post rfl k1 h1 (.m (by rw [← hh.len]; simp))⟩
theorem x_newDT : XE g X W ε (.Dict [] [] pos) (newC (.dT [])) := ⟨_, pe_dnewT, fun lk F ρ A σ H Q hh sr o A' e post => by
  cases e
  intro p hp
  obtain ⟨h1, k1⟩ := hh.cells (o := .dT []) (c := .dT []) hp ⟨[], rfl, rfl, .nil⟩
  exact EndE.okX post rfl k1 h1 (.m (by rw [← hh.len]; simp))⟩
theorem a_star {p1 : Pos} (hK : X.K = g.K) (ha : XE g X W ε a ua) (hb : XA g X W ε es us) (hs : starEach (.Starred a p1 :: es) X.env = (true, eval a X.env) :: starEach es X.env := by rfl) : XA g X W ε (.Starred a p1 :: es) (uStar ua us) :=
  let ⟨_, p, s⟩ := ha; let ⟨_, q, t⟩ := hb; ⟨_, StX.pa_star p q hs, fun lk F ρ A σ H Q hh sr o A' e post =>
    s.step hh sr e (.of_a post) fun F1 ρ1 A1 H1 v x k1 h1 rx e2 => by
      rcases M.bind_inv e2 with ⟨xs, A2, e3, e4⟩ | ⟨c, fs, e3, _⟩
      · obtain ⟨xs', e5, z, rfl⟩ := opt_inv e3
        cases z
        have fin : ∀ {vs : List V}, RpL g F1 ρ1 vs xs → _ := fun {vs} rr => t.step h1 (sr.mono k1) e4 ((PX.of_a post).mono k1) (Q := fun ys H2 => Q (vs ++ ys) H2) fun F2 ρ2 A3 H2 ys zs k2 h2 rz e6 => by
          cases e6
          exact post F2 ρ2 H2 (k1.trans k2) h2 _ ((rr.mono k2).append rz)
        cases v with
        | lst ys => cases e5; cases rx with | lst hp r => exact ⟨_, _, rfl, .inr (SqL.of (h1.sub _ _ hp)), fin r⟩
        | tup ys => cases e5; cases rx with | tup hp r => exact ⟨_, _, rfl, .inl (SqT.of (h1.sub _ _ hp)), fin r⟩
        | _ => cases e5
      · obtain ⟨_, _, z, _⟩ := opt_inv e3; cases z⟩
theorem it_rev {j : Int} {n : Nat} : ItOk g lk (Itc j (-1) n) F ρ ((List.range n).map fun i => .int (j + (i : Nat) * (-1))) where
  go lk' F' ρ' A H i _ k hh hi := by
    have hn : i < n := by simpa using hi
    exact ⟨hn, fun x H' ⟨e, y⟩ => by
      subst e y
      exact ⟨F', .refl F' ρ', hh, .int (j + (i : Nat) * (-1)), by simp [hn], .int _⟩⟩
  stop lk' F' ρ' A H i _ k hh hi := show n ≤ i by rw [← hi]; simp
theorem i_revRange {p1 p2 pp : Pos} (hg : Gl X "reversed") (hm : X.mg "reversed" = none) (hg2 : Gl X "range") (hm2 : X.mg "range" = none) (ha : XE g X W ε a ua) (hs : starEach [a] X.env = (false, eval a X.env) :: starEach [] X.env := by rfl)
    (hs2 : starEach [.Call (.Name "range" p1) [a] [] p2] X.env = (false, eval (.Call (.Name "range" p1) [a] [] p2) X.env) :: starEach [] X.env := by rfl) : XI g X W ε tg (.Call (.Name "reversed" pp) [.Call (.Name "range" p1) [a] [] p2] [] pos) (uRevRange ua) :=
  let ⟨_, p, s⟩ := ha; ⟨_, pi_revR hg hm (prg_1 hg2 hm2 p hs) hs2, fun lk F ρ A σ H R hh sr β k o A' e px nx => by
    unfold uRevRange at e
    rw [M.bind_assoc'] at e
    exact s.step hh sr e px fun F1 ρ1 A1 H1 v x k1 h1 rx e2 => by
      cases v with
      | int j =>
        obtain ⟨hj, e3⟩ := if_fail' e2
        refine ⟨j, rx.int_inv, by decide, by decide, hj.1, hj.2, ?_⟩
        rw [Int.sub_zero]
        exact nx F1 ρ1 A1 H1 _ _ k1 h1 it_rev e3
      | _ => cases e2⟩
theorem HR.aside_cell {cc : Cell} (h : HR g ((p, ob, false) :: lk) F ρ A H) (hlk : ∀ x ∈ lk, x.1 ≠ p) (r : CellR g F ρ cc ob) : HR g lk F (ρ ++ [p]) (A ++ [some (false, cc)]) H ∧ Ex F ρ F (ρ ++ [p]) := by
  obtain ⟨hH, hF⟩ := h.lks _ List.mem_cons_self
  have hc : ∀ {i : Nat} {c : Bool × Cell} {a : Addr}, A[i]? = some (some c) → ρ[i]? = some a → a ≠ p := fun {i c a} e ea z => by
    have := (h.lkn _ List.mem_cons_self i c e (by rw [ea, z])).2
    cases this
  have lt : ∀ {i : Nat} {a : Addr}, ρ[i]? = some a → i < ρ.length := fun {i a} e => by
    rcases Nat.lt_or_ge i ρ.length with z | z
    · exact z
    · rw [List.getElem?_eq_none z] at e; cases e
  have k : Ex F ρ F (ρ ++ [p]) := ⟨fun _ _ e => e, fun i a e => by rw [List.getElem?_append_left (lt e)]; exact e⟩
  have at_ : ∀ {i : Nat} {x : Bool × Cell}, (A ++ [some (false, cc)])[i]? = some (some x) → (i < ρ.length ∧ A[i]? = some (some x)) ∨ (i = A.length ∧ x = (false, cc)) := fun {i x} e => by
    rcases Nat.lt_trichotomy i A.length with z | z | z
    · rw [List.getElem?_append_left z] at e; exact .inl ⟨by rw [h.len]; exact z, e⟩
    · subst z; simp at e; exact .inr ⟨rfl, e.symm⟩
    · rw [List.getElem?_eq_none (by simp; omega)] at e; cases e
  have live : ∀ {i : Nat} {a : Addr}, i < ρ.length → (ρ ++ [p])[i]? = some a → ρ[i]? = some a := fun {i a} hi ea => by
    rw [List.getElem?_append_left hi] at ea; exact ea
  have last : ∀ {a : Addr}, (ρ ++ [p])[A.length]? = some a → a = p := fun {a} e => by rw [← h.len] at e; simp at e; exact e.symm
  refine ⟨⟨h.sub, fun i l c e => ?_, fun i j x y a ei ej ai aj => ?_, by simp [h.len], fun x hx => h.lks x (List.mem_cons_of_mem _ hx), fun x hx i c e ea => ?_, fun i c a e ea => ?_, fun x hx => h.lkt x (List.mem_cons_of_mem _ hx)⟩, k⟩
  · rcases at_ e with ⟨hi, e'⟩ | ⟨rfl, e'⟩
    · obtain ⟨a, u, e1, e2, e3, e4, e5⟩ := h.cell i l c e'
      exact ⟨a, u, k.pre _ _ e1, e2, e3.mono k, e4, e5⟩
    · cases e'
      exact ⟨p, ob, by rw [← h.len]; simp, hF, r.mono k, .inl hH, fun _ => hH⟩
  · rcases at_ ei with ⟨hi, e1⟩ | ⟨rfl, rfl⟩
    · rcases at_ ej with ⟨hj, e2⟩ | ⟨rfl, rfl⟩
      · exact h.nd i j x y a e1 e2 (live hi ai) (live hj aj)
      · exact absurd (last aj) (hc e1 (live hi ai))
    · rcases at_ ej with ⟨hj, e2⟩ | ⟨rfl, rfl⟩
      · exact absurd (last ai) (hc e2 (live hj aj))
      · rfl
  · rcases at_ e with ⟨hi, e'⟩ | ⟨rfl, rfl⟩
    · exact h.lkn x (List.mem_cons_of_mem _ hx) i c e' (live hi ea)
    · exact absurd (last ea) (hlk x hx)
  · rcases at_ e with ⟨hi, e'⟩ | ⟨_, z⟩
    · obtain ⟨od, u, m⟩ := h.lck i c a e' (live hi ea)
      exact ⟨od, u, (List.mem_cons.mp m).elim (fun z => by cases z) id⟩
    · cases z
theorem pPut_len {κ : Type} [DecidableEq κ] (kvs : List (κ × PV)) (k : κ) (v : PV) : (pPut kvs k v).length ≤ kvs.length + 1 := by
  unfold pPut
  split
  · simp
  · simp
theorem x_dc {ts : List Nat} {ifs : List Expr} {scope : Scope} {own : List (Str × Nat)} {d : PV → Option δ} {Lg : δ → Ev} {ut : δ → M Bool} {uk uv : δ → M PV} {kx vx : Expr} (hc : X.calm = true) (hN : X.N.Nodup) (hi : XI g X W ε tg iter us) (ok : BlkOk X.N X.env.scope scope own) (hts : ∀ i ∈ ts, i ∈ own.map (·.2))
    (hg : ∀ z, XG g (Blk X scope z) (wipeE ε (own.map (·.2))) tg ts d Lg) (ht : ∀ z q, XTs g (Blk X scope z) W0 (Lg q) ifs (ut q)) (hk : ∀ z q, XE g (Blk X scope z) W0 (Lg q) kx (uk q)) (he : ∀ z q, XE g (Blk X scope z) W0 (Lg q) vx (uv q)) (hs : ∀ x, foldedSetIterable iter X.env x = pure x := by intro _; rfl) :
    XE g X W ε (.DictComp kx vx [⟨tg, iter, ifs, 0⟩] scope pos) (uDc us (fun v => opt (d v) >>= fun q => uDElt (ut q) (uk q) (uv q))) := by
  obtain ⟨wi, p, s⟩ := hi
  refine ⟨_, pe_dc (own := own) (g := fun y σ H Q => ∀ z, Classical.choose (hg z) y σ H Q) (tt := fun σ H Q => ∃ q, ∀ z, Classical.choose (ht z q) σ H Q) (tk := fun σ H Q => ∃ q, ∀ z, Classical.choose (hk z q) σ H Q) (tv := fun σ H Q => ∃ q, ∀ z, Classical.choose (he z q) σ H Q) hc hN p ok
    (fun a b c dd e => ⟨fun pins s σ H v u Q I r h => ((Classical.choose_spec (hg (a, b, c, dd, e))).1).run pins s σ H v u Q I r (h _)⟩)
    (fun a b c dd e => ⟨fun pins s σ H Q I ⟨q, h⟩ => ((Classical.choose_spec (ht (a, b, c, dd, e) q)).1).run pins s σ H Q I (h _)⟩)
    (fun a b c dd e => ⟨fun pins s σ H Q I ⟨q, h⟩ => ((Classical.choose_spec (hk (a, b, c, dd, e) q)).1).run pins s σ H Q I (h _)⟩)
    (fun a b c dd e => ⟨fun pins s σ H Q I ⟨q, h⟩ => ((Classical.choose_spec (he (a, b, c, dd, e) q)).1).run pins s σ H Q I (h _)⟩) hs, fun lk F ρ A σ H Q hh sr o A' e post => ?_⟩
  have sg := fun z => (Classical.choose_spec (hg z)).2
  have st := fun z q => (Classical.choose_spec (ht z q)).2
  have sk := fun z q => (Classical.choose_spec (hk z q)).2
  have se := fun z q => (Classical.choose_spec (he z q)).2
  refine s lk F ρ A σ H _ hh sr _ _ o A' e (.of_e post) fun F1 ρ1 A1 H1 J xs k1 h1 it e1 => ?_
  obtain ⟨hz, e2⟩ := if_fail e1
  obtain ⟨ys, A2, e5, e4⟩ : ∃ ys A2, uDComp (fun v => opt (d v) >>= fun q => uDElt (ut q) (uk q) (uv q)) xs [] A1 = some (.ok ys, A2) ∧ newC (.dK ys) A2 = some (o, A') := by
    rcases M.bind_inv e2 with ⟨ys, A2, e3, e4⟩ | ⟨c, fs, e3, _⟩
    · obtain ⟨_, zz, e5⟩ := noX_inv e3
      cases zz
      exact ⟨ys, A2, e5, e4⟩
    · obtain ⟨_, zz, _⟩ := noX_inv e3; cases zz
  cases e4
  intro D hD
  have lkD : ∀ x ∈ lk, x.1 ≠ D := fun x hx => ne_of_none (h1.lks x hx).1 hD
  refine ⟨fun i m H => m = xs.length - i ∧ i ≤ xs.length ∧ ∃ F2 ρ2 A3 vs acc, Ex F1 ρ1 F2 ρ2 ∧ HR g ((D, .dK vs, false) :: lk) F2 ρ2 A3 H ∧ RpK g F2 ρ2 vs acc ∧ acc.length ≤ i ∧ uDComp (fun v => opt (d v) >>= fun q => uDElt (ut q) (uk q) (uv q)) (xs.drop i) acc A3 = some (.ok ys, A2),
    ⟨xs.length, by simp, Nat.zero_le _, F1, ρ1, A1, [], [], .refl _ _, h1.aside hD, ⟨rfl, .nil⟩, Nat.le_refl _, by simpa using e5⟩, ?_⟩
  rintro i m H2 ⟨rfl, hi, F2, ρ2, A3, vs, acc, k2, h2, ra, la, e6⟩
  by_cases hlt : i < xs.length
  · obtain ⟨go, yld⟩ := it.go _ F2 ρ2 A3 H2 i (fun x h => List.mem_cons_of_mem _ h) k2 h2 hlt
    have hd : xs.drop i = xs[i] :: xs.drop (i + 1) := (List.drop_eq_getElem_cons hlt)
    rw [hd] at e6
    unfold uDComp at e6
    refine .inr ⟨go, fun H' => i + 1 ≤ xs.length ∧ ∃ F2 ρ2 A3 vs acc, Ex F1 ρ1 F2 ρ2 ∧ HR g ((D, .dK vs, false) :: lk) F2 ρ2 A3 H' ∧ RpK g F2 ρ2 vs acc ∧ acc.length ≤ i + 1 ∧ uDComp (fun v => opt (d v) >>= fun q => uDElt (ut q) (uk q) (uv q)) (xs.drop (i + 1)) acc A3 = some (.ok ys, A2), fun H' h => ⟨_, by omega, rfl, h⟩, fun y H3 hy z => ?_⟩
    obtain ⟨F3, k3, h3, v, hv, rv⟩ := yld y H3 hy
    rw [List.getElem?_eq_getElem hlt] at hv
    obtain rfl := Option.some.inj hv
    rw [M.bind_assoc'] at e6
    rcases M.bind_inv e6 with ⟨q, A4, e7, e8⟩ | ⟨c, fs, e7, zz⟩
    · obtain ⟨q', ed, zz, hA⟩ := opt_inv e7
      cases zz
      subst hA
      have s3 := ((sr.mono ((k1.trans k2).trans k3)).wipe (own.map (·.2)))
      refine sg z _ F3 ρ2 A4 H3 y xs[i] _ q _ h3 s3 rv ed fun σ3 s4 sm => ?_
      refine ⟨by rw [sm.wipe hts, wipe_wipe], q, fun z' => ?_⟩
      unfold uDElt at e8
      rw [M.bind_assoc'] at e8
      refine (st z' q).step h3 s4 e8 (fun c fs zz => nomatch zz) fun F4 ρ4 A5 H4 b k4 h4 e9 => ?_
      cases b with
      | true =>
        refine ifT rfl ⟨q, fun z2 => ?_⟩
        have e9 : ((uk q >>= fun k => uv q >>= fun v => opt (keyK k) >>= fun kk => pure (some (kk, v))) >>= fun o => uDComp (fun v => opt (d v) >>= fun q => uDElt (ut q) (uk q) (uv q)) (xs.drop (i + 1)) (match o with | none => acc | some y => pPut acc y.1 y.2)) A5 = some (.ok ys, A2) := e9
        rw [M.bind_assoc'] at e9
        refine (sk z2 q).step h4 (s4.mono k4) e9 (fun c fs zz => nomatch zz) fun F5 ρ5 A6 H5 w u k5 h5 ru e10 => ⟨q, fun z3 => ?_⟩
        rw [M.bind_assoc'] at e10
        refine (se z3 q).step h5 (s4.mono (k4.trans k5)) e10 (fun c fs zz => nomatch zz) fun F6 ρ6 A7 H6 w2 u2 k6 h6 ru2 e11 => ?_
        rw [M.bind_assoc'] at e11
        rcases M.bind_inv e11 with ⟨kk, A8, e12, e13⟩ | ⟨c, fs, e12, zz⟩
        · obtain ⟨kk', ek, zz, rfl⟩ := opt_inv e12
          cases zz
          have kx := ((k3.trans k4).trans k5).trans k6
          have rv := ra.mono kx
          exact ⟨vs, kk, keyK_at ru ek, (h6.lks _ List.mem_cons_self).1, by rw [rpk_len rv]; omega, by omega, F6, ρ6, A8, _, pPut acc kk w2, k2.trans kx, h6.aside_set _ lkD, rpk_put rv ru2, Nat.le_trans (pPut_len _ _ _) (by omega), e13⟩
        · obtain ⟨_, _, zz, _⟩ := opt_inv e12; cases zz
      | false =>
        exact ifF rfl ⟨by omega, F4, ρ4, A5, vs, acc, k2.trans (k3.trans k4), h4, ra.mono (k3.trans k4), by omega, e9⟩
    · cases zz
  · have ei : i = xs.length := by omega
    subst ei
    rw [List.drop_length] at e6
    cases e6
    obtain ⟨h3, k3⟩ := h2.aside_cell (cc := .dK _) lkD ⟨vs, rfl, ra⟩
    exact .inl ⟨it.stop _ F2 ρ2 _ H2 _ (fun x h => List.mem_cons_of_mem _ h) k2 h2 rfl, EndE.okX post rfl ((k1.trans k2).trans k3) h3 (.m (by rw [← h2.len]; simp))⟩
theorem keyP_at (k : Key) : Rp g F ρ (kV k) (keyP k) := by cases k <;> first | exact .int _ | exact .str _
theorem v1_keys : V1 g rTupD pKeys := fun lk F ρ A H x v z Q hh rx e q => by
  unfold pKeys at e
  split at e
  · split at e
    · rename_i h kvs eA
      cases e
      obtain ⟨p, o, rfl, er, ⟨ks, rfl, rr⟩, _, eH⟩ := cell_at hh rx eA
      refine ⟨p, ks, rfl, eH rfl, ?_⟩
      have rl : ∀ {ks : List (Key × V)} {kvs : List (Key × PV)}, RpK g F ρ ks kvs → RpL g F ρ (ks.map fun kv => kV kv.1) (kvs.map fun kv => keyP kv.1) := fun {ks kvs} => by
        induction kvs generalizing ks with
        | nil => intro h; obtain rfl := rpk_nil h; exact .nil
        | cons q kvs ih =>
          intro h
          obtain ⟨z, zs, rfl, r, t⟩ := rpk_cons h
          exact .cons (keyP_at _) (ih t)
      exact new_tup hh (rl rr) q
    · cases e
  · cases e
theorem s_lenO {C : String} {CA : Addr} {fn : List PV → M PV} {ta : TE} (hC : g.cn C = some CA) (so : SimE g W ε ta uo) : SimE g W ε (tCB (rLenO CA (spU g 1 fn)) (tCons ta tNil)) (uLenO C uo fn) := fun lk F ρ A σ H Q hh sr o A' e post =>
    so.step hh sr e (.of_e post) fun F1 ρ1 A1 H1 v x k1 h1 rx e2 => by
      rcases M.bind_inv e2 with ⟨un, A2, e3, e4⟩ | ⟨c, fs, e3, _⟩
      · obtain ⟨un', e5, z, rfl⟩ := ask_inv e3
        rcases M.bind_inv e4 with ⟨r, A3, e6, e7⟩ | ⟨c, fs, e6, _⟩
        · obtain ⟨r', zz, e8⟩ := noX_inv e6
          cases zz
          cases q : insOf A2 C v with
          | none => rw [q] at e5; cases e5
          | some fs =>
            obtain ⟨h, p, dx, vs, rfl, eA, rfl, er, eH, rr⟩ := ins_at hC h1 rx q
            refine ⟨p, dx, vs, rfl, eH, lk, F1, ρ1, A2, _, _, A3, rfl, h1, .cons rx .nil, e8, fun F4 ρ4 H4 k4 h4 w rw' => ?_⟩
            cases r with
            | int n =>
              obtain ⟨hn, e9⟩ := if_fail e7
              cases e9
              exact ⟨n, rw'.int_inv, hn, EndE.okX post rfl (k1.trans k4) h4 (.int n)⟩
            | _ => cases e7
        · obtain ⟨_, zz, _⟩ := noX_inv e6; cases zz
      · obtain ⟨_, _, z, _⟩ := ask_inv e3; cases z
end
end Lk
set_option Elab.async false
set_option linter.all false
set_option maxRecDepth 100000
namespace Lk
open PySem PySem.Spec L2
open PyProof.Rows (envOfC)
/-! ### constructors that may raise; methods, properties and len as expressions; defs with *v; the law itself -/
section
variable {X : Cx} {CX : CXT} {k : Nat} {f C : Addr} {fd : FuncData} {ps : List Str} {sp : Sp} {E : L2.St → XK} {x m : Str} {p pos apos : Pos} {e o : Expr} {es : List Expr} {t : TA}
def tMakeS (C : Addr) (sp : Sp) (E : L2.St → XK) (t : TA) : TE := fun σ H Q => t σ H fun vs H1 => ∀ x dx, H1 x = none → H1 dx = none → dx ≠ x →
  sp (.ref x :: vs) (upd (upd H1 dx (.own x)) x (.ins C dx [])) (fun v H2 => v = .non ∧ Q (.ref x) H2) (E σ)
theorem run_makeS {pins : List (Addr × Obj)} {σ : L2.St} {H : Hp} {s : Shared} {Q : VK} {us : List Value} {vs : List V} (M : Mk X.K C f) (F : FnOk X.prog X.w X.K X.mg X.base CX k f fd ps sp) (hr : Room (k + 1) X.A) (hb : Binds X.K fd ps [])
    (px : PassesAt CX X σ (E σ)) (I : Inv X pins σ H s) (r : Vals vs us) (h : ∀ x dx, H x = none → H dx = none → dx ≠ x → sp (.ref x :: vs) (upd (upd H dx (.own x)) x (.ins C dx [])) (fun v H2 => v = .non ∧ Q (.ref x) H2) (E σ)) :
    wpAny (model X.prog X.w) X.A (call (.ref C) us) (EP X pins σ Q) X.xe s := by
  have free : ∀ n, s.heap.objs.size ≤ n → H n = none := fun n z => I.hok.fresh z
  have told := h (s.heap.objs.size + 1) s.heap.objs.size (free _ (Nat.le_succ _)) (free _ (Nat.le_refl _)) (Nat.ne_of_lt (Nat.lt_succ_self _))
  have J := I.made (C := C)
  have both : Vals (V.ref (s.heap.objs.size + 1) :: vs) ((Value.ref (s.heap.objs.size + 1) :: us) ++ ([] : List Value)) := (List.append_nil (Value.ref (s.heap.objs.size + 1) :: us)).symm ▸ Paired.cons rfl r
  have many : ((Value.ref (s.heap.objs.size + 1) :: us) ++ ([] : List Value)).length = ps.length := (both.length.symm.trans (F.len _ _ _ _ told))
  have ran := F.run _ X.stack _ _ ⟨Value.ref (s.heap.objs.size + 1) :: us, []⟩ _ _ _ (E σ) (hr.make C us []) (J.env0.make C us []) (hb _ (Value.ref (s.heap.objs.size + 1) :: us) J.kIn many) both told
  refine wpAny_call (make_map I.kIn M.makes M.init (beq_iff_eq.mp M.fn) (codeAny_mono ran fun out s' got => ?_))
  match out, got with
  | .error err, got => exact px pins _ _ err s' J got
  | .ok (.ret u), got =>
    obtain ⟨_, H3, J3, rv, ⟨rfl, q3⟩⟩ := J.after got
    exact ⟨rv, V.ref (s.heap.objs.size + 1), H3, J3, rfl, q3⟩
  | .ok .next, got => exact got.elim
  | .ok .brk, got => exact got.elim
  | .ok .cont, got => exact got.elim
theorem pe_makeS (M : Mk X.K C f) (F : FnOk X.prog X.w X.K X.mg X.base CX k f fd ps sp) (hr : Room (k + 1) X.A) (hg : Gl X x) (hm : X.mg x = some (.ref C)) (hb : Binds X.K fd ps []) (hx : ∀ σ, PassesAt CX X σ (E σ))
    (ha : PA X (e :: es) t) (hdb : (x == ("__debug__" : Str)) = false := by decide) (he : starEach (e :: es) X.env = (false, eval e X.env) :: starEach es X.env := by rfl) (hpl : (backTo pos (starEach es X.env)).any (·.1) = false := by rfl) :
    PE X (.Call (.Name x p) (e :: es) [] pos) (tMakeS C sp E t) := by
  refine ⟨fun pins s σ H Q I h => ?_⟩
  refine wpAny_Call_Name_kw (ld_glob I hg hm ?_ hdb)
  refine PySem.W.callWith_K (h₀ := X.base) I.ok.mod.kin M.kp (thn (ha.run pos pins s σ H _ I h) fun us s1 ⟨vs, H1, I1, r, q⟩ => ⟨I1.kIn, ?_⟩) he hpl
  exact run_makeS M F hr hb (hx σ) I1 r q
theorem pe_makeS0 (M : Mk X.K C f) (F : FnOk X.prog X.w X.K X.mg X.base CX k f fd ps sp) (hr : Room (k + 1) X.A) (hg : Gl X x) (hm : X.mg x = some (.ref C)) (hb : Binds X.K fd ps []) (hx : ∀ σ, PassesAt CX X σ (E σ))
    (hdb : (x == ("__debug__" : Str)) = false := by decide) : PE X (.Call (.Name x p) [] [] pos) (tMakeS C sp E tNil) := by
  refine ⟨fun pins s σ H Q I h => ?_⟩
  refine wpAny_Call_Name_kw (ld_glob I hg hm ?_ hdb)
  exact PySem.W.callWith_K0 I.kIn M.kp (run_makeS (us := []) M F hr hb (hx σ) I .nil h)
end
theorem passL {Y : Cx} : Passes (L2.CX Y.prog Y.w) Y (fun _ _ _ => False) := fun _ _ _ _ _ _ _ h => by
  obtain ⟨_, _, _, _, _, _, _, _, _, _, _, _, z⟩ := h
  exact z.elim
theorem passLn {Y : Cx} : Passes (L2.CX Y.prog Y.w) Y.nox (fun _ _ _ => False) := fun _ _ _ _ _ _ _ h => by
  obtain ⟨_, _, _, _, _, _, _, _, _, _, _, _, z⟩ := h
  exact z.elim
def fn0 (u : M PV) : List PV → M PV
  | [] => u
  | _ => bad
theorem fn0_len {u} (ws A z) (h : fn0 u ws A = some z) : ws.length = 0 := by unfold fn0 at h; split at h; rfl; cases h
def fnAt (n : Nat) (fn : List PV → M PV) : List PV → M PV := fun ws => if ws.length = n then fn ws else bad
theorem fnAt_len {n fn} (ws A z) (h : fnAt n fn ws A = some z) : ws.length = n := by
  unfold fnAt at h
  by_cases e : ws.length = n
  · exact e
  · rw [if_neg e] at h; cases h
def fnStar (n : Nat) (fn : List PV → M PV) : List PV → M PV := fun ws => if n ≤ ws.length ∧ (ws.drop n).length ≤ sizeLine then fn (ws.take n ++ [.tup (ws.drop n)]) else bad
def spStar (n : Nat) (sp : Sp) : Sp := fun vs H Q E => ∃ ws rest, vs = ws ++ rest ∧ ws.length = n ∧ rest.length ≤ sizeLine ∧ ∀ p, H p = none → sp (ws ++ [V.ref p]) (upd H p (.tup rest)) Q E
theorem rpl_append {g : Gx} {F : Hp} {ρ : List Addr} : ∀ {vs ws : List V} {xs ys : List PV}, RpL g F ρ vs xs → RpL g F ρ ws ys → RpL g F ρ (vs ++ ws) (xs ++ ys)
  | _, _, _, _, .nil, s => s
  | _, _, _, _, .cons r t, s => .cons r (rpl_append t s)
theorem rpl_take {g : Gx} {F : Hp} {ρ : List Addr} : ∀ {vs : List V} {xs : List PV} (n : Nat), RpL g F ρ vs xs → RpL g F ρ (vs.take n) (xs.take n)
  | _, _, 0, _ => by simp; exact .nil
  | _, _, _ + 1, .nil => .nil
  | _, _, n + 1, .cons r t => .cons r (rpl_take n t)
theorem rpl_drop {g : Gx} {F : Hp} {ρ : List Addr} : ∀ {vs : List V} {xs : List PV} (n : Nat), RpL g F ρ vs xs → RpL g F ρ (vs.drop n) (xs.drop n)
  | _, _, 0, h => h
  | _, _, _ + 1, .nil => .nil
  | _, _, n + 1, .cons r t => rpl_drop n t
theorem star_sp {g : Gx} {n m : Nat} {fn : List PV → M PV} (hfn : ∀ ws A z, fn ws A = some z → ws.length = n + 1) (vs : List V) (H : Hp) (Q : VK) (E : XK) (h : spU g vs.length (fnAt m (fnStar n fn)) vs H Q E) : spStar n (spU g (n + 1) fn) vs H Q E := by
  obtain ⟨lk, F, ρ, A, ws, o, A', hl, hh, r, e, post⟩ := h
  have hm := fnAt_len _ _ _ e
  unfold fnAt at e
  rw [if_pos hm] at e
  unfold fnStar at e
  by_cases c : n ≤ ws.length ∧ (ws.drop n).length ≤ sizeLine
  · rw [if_pos c] at e
    have hvl := r.length
    refine ⟨vs.take n, vs.drop n, (List.take_append_drop n vs).symm, by rw [List.length_take]; omega, by rw [(rpl_drop n r).length]; exact c.2, fun p hp => ?_⟩
    obtain ⟨h1, k⟩ := hh.frozen (o := .tup (vs.drop n)) hp
    refine ⟨lk, _, ρ, A, _, o, A', by simp; omega, h1, rpl_append ((rpl_take n r).mono k) (.cons (.tup upd_same ((rpl_drop n r).mono k)) .nil), e, fun F' ρ' H' k' h' => post F' ρ' H' (k.trans k') h'⟩
  · rw [if_neg c] at e; cases e
section
variable {g : Gx} {X : Cx} {W : WX} {εx εt ε : Ev} {a b c e o tg iter elt : Expr} {es : List Expr} {rest ss body : List Stmt} {st b₀ : Stmt} {ua ub uc uo : M PV} {us : M (List PV)} {pos apos : Pos} {lk : Lks} {F G : Hp} {ρ τ : List Addr} {A A' : Ar} {σ : L2.St} {H : Hp}
variable {α β γ δ : Type} {L : β → Ev} {Ll : γ → Ev} {L1 : α → Ev}
theorem s_makeS {C : String} {CA : Addr} {n : Nat} {fn : List PV → M PV} {t : TA} (hC : g.cn C = some CA) (hn : ∀ ws A z, fn ws A = some z → ws.length = n) (s : SimA g W ε t us) :
    SimE g W ε (tMakeS CA (spU g n fn) (fun σ cls d H => W cls d σ H) t) (uMake C us fn) := fun lk F ρ A σ H Q hh sr o A' e post =>
    s.step hh sr e (.of_e post) fun F1 ρ1 A1 H1 v x k1 h1 rx e2 => by
      intro y dx hy hd ne
      have e2 : (fn (.m A1.length :: v) >>= fun r => match r with | .non => pure (.m A1.length) | _ => bad) (A1 ++ [some (false, .ins C [])]) = some (o, A') := e2
      have h2 := h1.extra (ob := .own y) hd
      obtain ⟨h3, k3⟩ := h2.cells (p := y) (o := .ins CA dx []) (c := .ins C []) (by rw [upd_ne ne.symm]; exact hy) ⟨CA, dx, [], hC, rfl, rfl, .nil⟩
      have rm : Rp g F1 (ρ1 ++ [y]) (.ref y) (.m A1.length) := .m (by rw [← h1.len]; simp)
      rcases M.bind_inv e2 with ⟨r, A2, e3, e4⟩ | ⟨c, fs, e3, rfl⟩
      · refine ⟨lk, F1, ρ1 ++ [y], _, .m A1.length :: v, _, A2, by simp [rx.length]; have := hn _ _ _ e3; simpa using this, h3, .cons rm (rx.mono k3), e3, fun F4 ρ4 H4 k4 h4 => ?_⟩
        intro z rz
        cases r with
        | non => cases e4; exact ⟨rz.non_inv, EndE.okX post rfl ((k1.trans k3).trans k4) h4 (rm.mono k4)⟩
        | _ => cases e4
      · refine ⟨lk, F1, ρ1 ++ [y], _, .m A1.length :: v, _, A', by simp [rx.length]; have := hn _ _ _ e3; simpa using this, h3, .cons rm (rx.mono k3), e3, fun F4 ρ4 H4 k4 h4 => ?_⟩
        exact fun cls d er => post F4 ρ4 H4 ((k1.trans k3).trans k4) h4 cls d er
theorem x_make {C : String} {CA f : Addr} {n k : Nat} {fd : FuncData} {ps : List Str} {fn : List PV → M PV} {x : Str} {p : Pos} (hC : g.cn C = some CA) (M : Mk X.K CA f) (F : FnOk X.prog X.w X.K X.mg X.base (L2.CX X.prog X.w) k f fd ps (spU g n fn)) (hr : Room (k + 1) X.A) (hg : Gl X x) (hm : X.mg x = some (.ref CA)) (hb : Binds X.K fd ps [])
    (hx : ∀ σ, PassesAt (L2.CX X.prog X.w) X σ (fun cls d H => W cls d σ H)) (hn : ∀ ws A z, fn ws A = some z → ws.length = n) (ha : XA g X W ε (e :: es) us) (hdb : (x == ("__debug__" : Str)) = false := by decide) (he : starEach (e :: es) X.env = (false, eval e X.env) :: starEach es X.env := by rfl) (hpl : (backTo pos (starEach es X.env)).any (·.1) = false := by rfl) :
    XE g X W ε (.Call (.Name x p) (e :: es) [] pos) (uMake C us fn) := let ⟨_, p, s⟩ := ha; ⟨_, pe_makeS M F hr hg hm hb hx p hdb he hpl, s_makeS hC hn s⟩
theorem x_make0 {C : String} {CA f : Addr} {n k : Nat} {fd : FuncData} {ps : List Str} {fn : List PV → M PV} {x : Str} {p : Pos} (hC : g.cn C = some CA) (M : Mk X.K CA f) (F : FnOk X.prog X.w X.K X.mg X.base (L2.CX X.prog X.w) k f fd ps (spU g n fn)) (hr : Room (k + 1) X.A) (hg : Gl X x) (hm : X.mg x = some (.ref CA)) (hb : Binds X.K fd ps [])
    (hx : ∀ σ, PassesAt (L2.CX X.prog X.w) X σ (fun cls d H => W cls d σ H)) (hn : ∀ ws A z, fn ws A = some z → ws.length = n) (hdb : (x == ("__debug__" : Str)) = false := by decide) :
    XE g X W ε (.Call (.Name x p) [] [] pos) (uMake C (pure []) fn) := let ⟨_, _, s⟩ := a_nil (g := g) (X := X) (W := W) (ε := ε); ⟨_, pe_makeS0 M F hr hg hm hb hx hdb, fun lk F ρ A σ H Q hh sr o A' e post => s_makeS hC hn (t := tNil) (by exact fun lk F ρ A σ H Q hh sr o A' e post => by cases e; exact post F ρ H (.refl F ρ) hh [] .nil) lk F ρ A σ H Q hh sr o A' e post⟩
theorem x_meth {C : String} {CA f : Addr} {m : Str} {n k : Nat} {fn : List PV → M PV} {sp : Sp} {pl : Sem Bool} (hC : g.cn C = some CA) (c : Cls X.K CA) (hm : Meth X.K CA m f) (F : FnR X.prog X.w X.K X.mg X.base (L2.CX X.prog X.w) k f sp) (hr : Room k X.A)
    (hx : ∀ σ, PassesAt (L2.CX X.prog X.w) X σ (fun cls d H => W cls d σ H)) (hsp : ∀ vs H Q E, spU g vs.length fn vs H Q E → vs.length = n → sp vs H Q E) (hn : ∀ ws A z, fn ws A = some z → ws.length = n) (ho : XE g X W ε o uo) (ha : XA g X W ε (e :: es) us)
    (hst : starEach (e :: es) X.env = (false, eval e X.env) :: starEach es X.env := by rfl) (hpl : (backTo pos (starEach es X.env)).any (·.1) = false := by rfl)
    (ht : eval (.Call (.Attribute o m apos) (e :: es) [] pos) X.env = (eval o X.env >>= fun ov => standAt apos.atName >>= fun _ => holding [ov] (getMethod ov m pl) >>= fun z =>
      callWith pos z.1 z.2 (backTo pos (starEach (e :: es) X.env)) (backToKw pos (keywordEach [] X.env))) := by rfl) :
    XE g X W ε (.Call (.Attribute o m apos) (e :: es) [] pos) (uMeth C m uo us fn) := let ⟨_, q, s⟩ := ho; let ⟨_, p, t⟩ := ha; ⟨_, pe_methN q c hm F hr hx p hst hpl ht, s_meth hC hsp hn s t⟩
theorem x_meth0 {C : String} {CA f : Addr} {m : Str} {n k : Nat} {fn : List PV → M PV} {sp : Sp} {pl : Sem Bool} (hC : g.cn C = some CA) (c : Cls X.K CA) (hm : Meth X.K CA m f) (F : FnR X.prog X.w X.K X.mg X.base (L2.CX X.prog X.w) k f sp) (hr : Room k X.A)
    (hx : ∀ σ, PassesAt (L2.CX X.prog X.w) X σ (fun cls d H => W cls d σ H)) (hsp : ∀ vs H Q E, spU g vs.length fn vs H Q E → vs.length = n → sp vs H Q E) (hn : ∀ ws A z, fn ws A = some z → ws.length = n) (ho : XE g X W ε o uo)
    (ht : eval (.Call (.Attribute o m apos) [] [] pos) X.env = (eval o X.env >>= fun ov => standAt apos.atName >>= fun _ => holding [ov] (getMethod ov m pl) >>= fun z =>
      callWith pos z.1 z.2 (backTo pos (starEach [] X.env)) (backToKw pos (keywordEach [] X.env))) := by rfl) :
    XE g X W ε (.Call (.Attribute o m apos) [] [] pos) (uMeth C m uo (pure []) fn) := let ⟨_, q, s⟩ := ho; ⟨_, pe_methN0 q c hm F hr hx ht, s_meth hC hsp hn s (by exact fun lk F ρ A σ H Q hh sr o A' e post => by cases e; exact post F ρ H (.refl F ρ) hh [] .nil)⟩
theorem sp_len {n : Nat} {fn : List PV → M PV} (vs : List V) (H : Hp) (Q : VK) (E : XK) (h : spU g vs.length fn vs H Q E) (hl : vs.length = n) : spU g n fn vs H Q E := hl ▸ h
theorem x_prop {C : String} {CA f p : Addr} {n : Str} {k : Nat} {fd : FuncData} {ps : List Str} {fn : List PV → M PV} (hC : g.cn C = some CA) (c : Cls X.K CA) (hp : PropOf X.K CA n p f) (F : FnOk X.prog X.w X.K X.mg X.base (L2.CX X.prog X.w) k f fd ps (spU g 1 fn)) (hr : Room (k + 1) X.A) (hb : Binds X.K fd ps [])
    (ho : XE g X W ε o uo) (hab : attributeBase o n X.env (eval o X.env) = eval o X.env := by rfl) : XE g X W ε (.Attribute o n pos) (uProp C uo fn) := let ⟨_, q, s⟩ := ho; ⟨_, pe_prop q c hp F hr hb .nil passLn hab, s_prop hC s⟩
theorem x_lenO {C : String} {CA f : Addr} {n : Str} {k : Nat} {fn : List PV → M PV} {p : Pos} (hC : g.cn C = some CA) (hm : Meth X.K CA "__len__" f) (F : FnR X.prog X.w X.K X.mg X.base (L2.CX X.prog X.w) k f (spU g 1 fn)) (hr : Room (k + 1) X.A) (hg : Gl X "len") (hmg : X.mg "len" = none)
    (ho : XE g X W ε o uo) (hs : starEach [o] X.env = (false, eval o X.env) :: starEach [] X.env := by rfl) (hpl : (backTo pos (starEach [] X.env)).any (·.1) = false := by rfl) : XE g X W ε (.Call (.Name "len" p) [o] [] pos) (uLenO C uo fn) :=
  let ⟨_, q, s⟩ := ho; ⟨_, pe_callB (call_lenO hm F hr passLAt) hg hmg PySem.boot_len (pa_cons q pa_nil hs) (by decide) (by decide) hs hpl, s_lenO hC s⟩
end
section
variable {P : Program} {w : World} {g : Gx} {mg : Str → Option Value} {base : Heap} {x qual : Str} {st : Stmt} {f : Addr} {fd : FuncData} {N ps : List Str} {k : Nat}
/-- a def with *v -/
theorem def_star {pv : Str} {fn : List PV → M PV} {ub : List PV → M (Fl Unit Empty)} {m : Nat} (F : Fun g.K x qual st f fd) (S : FnScope N (ps ++ [pv]) (defScope st)) (hm : (ps ++ [pv]).length + m = N.length) (hf : ∀ ws, ws.length = (ps ++ [pv]).length → fn ws = uDef (ub ws))
    (hba : ∀ (kV doc pm : Value) (an : Option Addr) (cdv ct : Value) (us rest : List Value), us.length = ps.length → bindArgs (PySem.W.fnOf x qual (defArgs st) (defBody st) (defScope st) .none kV doc pm an cdv ct) ⟨us ++ rest, []⟩ = (newTuple rest >>= fun t => pure (ps.zip us ++ [(pv, t)])))
    (hb : ∀ (cdv : Value) (A : Around) (outer : List Env) (s : Shared) (H : Hp) (E : XK) (ws : List PV), ws.length = (ps ++ [pv]).length → Room k (A.deeper (envOfC qual (defScope st) s.heap.objs.size f cdv)) →
      XB (γ := Empty) (β := Unit) g (dX P w g mg base N qual st f cdv A outer s H E) (eW E) [] (ws.map some ++ List.replicate m none) (defBody st) (fun _ => []) (fun e => nomatch e) (ub ws)) :
    FnR P w g.K mg base (L2.CX P w) (k + 1) f (spStar ps.length (spU g (ps ++ [pv]).length fn)) := by
  refine star_fn F S hba (fun cdv A outer s H vs Q E hr h => ?_)
  obtain ⟨lk, F, ρ, Ar, ws, o, A', hl, hh, r, e, post⟩ := h
  have hw : ws.length = (ps ++ [pv]).length := by rw [← r.length]; exact hl
  obtain ⟨t, p, sm⟩ := hb cdv A outer s H E ws hw hr
  refine ⟨t, p, ?_⟩
  rw [hf ws hw] at e
  unfold uDef at e
  have sr : SR g F ρ (ws.map some ++ List.replicate m none) (L2.start N vs) := sr_start' r rfl (by omega)
  rcases M.bind_inv e with ⟨fl, A1, e1, e2⟩ | ⟨c, fs, e1, rfl⟩
  · refine sm lk F ρ Ar _ H _ hh sr _ A1 e1 fun F1 ρ1 H1 k1 h1 => ?_
    cases fl with
    | nx b => cases e2; exact fun _ _ => post F1 ρ1 H1 k1 h1 _ .non
    | rt v => cases e2; exact fun x rx => post F1 ρ1 H1 k1 h1 x rx
    | bk c => exact nomatch c
    | ct c => exact nomatch c
  · exact sm lk F ρ Ar _ H _ hh sr _ A' e1 fun F1 ρ1 H1 k1 h1 σ cls d _ er => post F1 ρ1 H1 k1 h1 cls d er
/-- the law itself: it raises nothing -/
def spL (g : Gx) (n : Nat) (fn : List PV → M PV) : Sp := fun vs H Q E => ∃ lk F ρ A ws v A', vs.length = n ∧ HR g lk F ρ A H ∧ RpL g F ρ vs ws ∧ fn ws A = some (.ok v, A') ∧ ∀ F' ρ' H', Ex F ρ F' ρ' → HR g lk F' ρ' A' H' → ∀ x, Rp g F' ρ' x v → Q x H'
theorem def_law {fn : List PV → M PV} {ub : List PV → M (Fl Unit Empty)} {m : Nat} (F : Fun g.K x qual st f fd) (S : FnScope N ps (defScope st)) (hm : ps.length + m = N.length) (hf : ∀ ws, ws.length = ps.length → fn ws = uDef (ub ws))
    (hb : ∀ (cdv : Value) (A : Around) (outer : List Env) (s : Shared) (H : Hp) (E : XK) (ws : List PV), ws.length = ps.length → Room k (A.deeper (envOfC qual (defScope st) s.heap.objs.size f cdv)) →
      XB (γ := Empty) (β := Unit) g (cxOf CX0 P w g.K mg base N qual (defScope st) f cdv A outer s H E).nox W0 [] (ws.map some ++ List.replicate m none) (defBody st) (fun _ => []) (fun e => nomatch e) (ub ws)) : FnOk P w g.K mg base CX0 (k + 1) f fd ps (spL g ps.length fn) := by
  refine F.ok S (fun vs H Q E h => ?_) (fun cdv A outer s H vs Q E hr h => ?_)
  · obtain ⟨_, _, _, _, _, _, _, h, _⟩ := h; exact h
  · obtain ⟨lk, F, ρ, Ar, ws, v, A', hl, hh, r, e, post⟩ := h
    have hw : ws.length = ps.length := by rw [← r.length]; exact hl
    obtain ⟨t, p, sm⟩ := hb cdv A outer s H E ws hw hr
    refine ⟨t, p, ?_⟩
    rw [hf ws hw] at e
    unfold uDef at e
    have sr : SR g F ρ (ws.map some ++ List.replicate m none) (L2.start N vs) := sr_start' r rfl (by omega)
    rcases M.bind_inv e with ⟨fl, A1, e1, e2⟩ | ⟨c, fs, e1, zz⟩
    · refine sm lk F ρ Ar _ H _ hh sr _ A1 e1 fun F1 ρ1 H1 k1 h1 => ?_
      cases fl with
      | nx b => cases e2; exact fun _ _ => post F1 ρ1 H1 k1 h1 _ .non
      | rt v => cases e2; exact fun x rx => post F1 ρ1 H1 k1 h1 x rx
      | bk c => exact nomatch c
      | ct c => exact nomatch c
    · cases zz
end
end Lk
set_option Elab.async false
set_option linter.all false
set_option maxRecDepth 100000
namespace Lk
open PySem PySem.Spec PyProof.Rows L2
/-! ### try with several clauses, each with its name -/
structure AsH where
  cls : Value
  slot : Nat
  suite : Addr → Value → Option Addr → TS
/-- what is left behind a suite: its name has no value -/
abbrev endAs (D : Ends) (i : Nat) : Ends := { nx := fun σ H => D.nx (σ.set i none) H, rt := D.rt, bk := fun σ H => D.bk (σ.set i none) H, ct := fun σ H => D.ct (σ.set i none) H }
def wEach (K : PySem.W.Frag) (W : WX) (D : Ends) : List AsH → WX
  | [] => W
  | h :: hs => fun cls d σ H => ∃ b, PySem.W.exmOne K cls h.cls = some b ∧ (b = true → ∀ a, H a = none → h.suite a cls d (endAs D h.slot) (σ.set h.slot (some (.ref a))) H) ∧ (b = false → wEach K W D hs cls d σ H)
inductive AsOk (X : Cx) : List ExceptHandler → List AsH → Prop
  | nil : AsOk X [] []
  | cons {x n : Str} {h : AsH} {b₀ : Stmt} {ss : List Stmt} {p q : Pos} {es : List ExceptHandler} {hs : List AsH} (names : Names X x h.cls) (at_ : X.N[h.slot]? = some n) (own : X.env.kindOf n = some .local)
      (run : ∀ (a : Addr) (ob : Obj) (cls : Value) (d : Option Addr) (pn : List (Addr × Obj)), Zc cls d ob → (∃ vs, ob.data = .fields vs) → PSs (X.suite a ((a, ob) :: pn)) (b₀ :: ss) (h.suite a cls d)) (rest : AsOk X es hs) : AsOk X (.ExceptHandler (some (.Name x p)) (some n) (b₀ :: ss) q :: es) (h :: hs)
section
variable {X : Cx} {body : List Stmt} {e₀ : ExceptHandler} {es : List ExceptHandler} {hs : List AsH} {pos : Pos} {tb : WX → TS} {W : WX}
theorem ps_tryEach (stk : X.stack = X.env :: X.outer) (loc : X.env.frame = some X.env.locals) (nd : X.N.Nodup) (tk : Takes X W)
    (hb : ∀ (W' : WX) (pn : List (Addr × Obj)) (xe : Value → Shared → Prop), Takes (X.tr pn xe) W' → PassesOwn (model X.prog X.w) X.A X.env xe → PSs (X.tr pn xe) body (tb W')) (all : AsOk X (e₀ :: es) hs) :
    PS X (.Try body (e₀ :: es) [] [] pos) (fun D σ H => tb (wEach X.K W D hs) D σ H) := ⟨fun pins s σ H D I wish => by
  have ok := I.ok
  have fr : X.A.frames = some (X.env :: X.outer) := ok.frames.trans (congrArg some stk)
  refine wpAny_Try_except (wpAny_mono ((hb (wEach X.K W D hs) (X.pn ++ pins) (fun e t₁ => wpAny (model X.prog X.w) X.A (noteFrame e X.env) (fun _ t₂ => wpAny (model X.prog X.w) X.A (setFlight e none) (fun _ t₃ =>
    wpAny (model X.prog X.w) X.A (handleBy e X.env (e₀ :: es)) (SP X pins D) X.xe t₃) X.xe t₂) X.xe t₁) (fun u t caught => ?_) PassesOwn.looking).run [] s σ H D (I.toTry _) wish) (fun fl t done => ?_) fun _ _ z => z)
  · obtain ⟨a, B, tI, pins2, τ, G, cls, d, rfl, I2, nb, up, sky, na, os, ag, w⟩ := caught
    have J := I2.ofTry ok
    show wpAny (model X.prog X.w) X.A (noteFrame (.ref a) X.env) _ _ _
    refine Sky.land Zc.steady fr loc (stk ▸ sky) fun k fly upk => ?_
    have Jk : Inv X pins τ G { t with heap := k } := J.landed nb fly.1 (up.trans upk) os ag
    obtain ⟨ob, vs, look, zc, dat⟩ := fly.there
    have notF : a ∉ frs (X.env :: X.outer) := fun hm => by
      obtain ⟨_, ob2, look2, no⟩ := fly.2.2.1.mem hm
      exact no _ ((Option.some.inj (look.symm.trans look2)) ▸ dat)
    have notL : a ≠ X.env.locals := fun z => notF (List.mem_filterMap.mpr ⟨_, List.mem_cons_self, by rw [loc, z]⟩)
    have notX : a ∉ X.fs := fun hm => by
      obtain ⟨v, hv, z⟩ := List.mem_filterMap.mp hm
      exact notF (List.mem_filterMap.mpr ⟨v, List.mem_cons_of_mem _ hv, z⟩)
    have Sk := Jk.suite look dat na notL notX
    suffices go : ∀ {es : List ExceptHandler} {hs : List AsH}, AsOk X es hs → wEach X.K W D hs cls d τ G → wpAny (model X.prog X.w) X.A (handleBy (.ref a) X.env es) (SP X pins D) X.xe { t with heap := k } from go all w
    intro es hs q
    induction q with
    | nil =>
      intro w
      obtain ⟨_, _, _, o1, _, T, _, _, l1, _, dd, f1, _⟩ := id fly
      refine wpAny_handleBy_nil ?_
      unfold PySem.passOn
      refine wpAny_bind (wpAny_field l1 dd f1 ?_)
      rw [if_neg (show ¬ (Value.ref T == Value.none) = true from by simp)]
      have up_ : wpAny (model X.prog X.w) X.A (setFlight (.ref a) X.env.frame) (fun _ t4 => wpAny (model X.prog X.w) X.A (throw (.ref a) : Sem Flow) (SP X pins D) X.xe t4) X.xe { t with heap := k } := by
        rw [loc]
        exact HandSPX.setFlight_upZ fly fun k4 held up4 => wpAny_throw (tk _ _ ⟨a, B, tI, pins, τ, G, cls, d, rfl, J, nb, (up.trans upk).trans up4, .inr (.inr (stk.symm ▸ held)), na, os, ag, w⟩)
      first | exact wpAny_bind (wpAny_pure (wpAny_bind up_)) | exact wpAny_bind up_
    | @cons x n h b₀ ss p q es2 hs2 names at_ own run rest ih =>
      rintro ⟨b, hit, yes, no⟩
      refine wpAny_handleBy_cons (codeAny_handlers_test ?_) (by intro q; cases q)
      have lt : PySem.W.Looks (model X.prog X.w) k (typeOf (.ref a)) cls := fun _ _ _ _ g z => wpAny_typeOf_ref (g _ _ look) (by rw [zc.1]; exact z)
      have lm := PySem.W.exm_one (M := model X.prog X.w) Jk.kIn lt hit
      have named : ∀ {Q E : Value → Shared → Prop}, Q h.cls { t with heap := k } → wpAny (model X.prog X.w) (X.A.mark (some (.ref a))) (eval (.Name x p) X.env) Q E { t with heap := k } := fun {Q E} g => by
        rcases names with ⟨n1, n2, n3 | ⟨n3, n4, n5⟩⟩
        · exact ld_glob (X := X.suite a ((a, ob) :: (X.pn ++ pins))) Sk n1 n3 g n2
        · exact ld_blt (X := X.suite a ((a, ob) :: (X.pn ++ pins))) Sk n1 n3 n4 g n5 n2
      refine named (lm.here ?_)
      match b, yes, no with
      | false, _, no => exact ih (no rfl)
      | true, yes, _ =>
        refine codeAny_handlers_suite_as (HandSPX.lands_againZ fly fun k4 fly4 up4 => ?_)
        have J4 : Inv X pins τ G { t with heap := k4 } := J.landed nb fly4.1 ((up.trans upk).trans up4) os ag
        obtain ⟨ob4, _, look4, zc4, dat4⟩ := fly4.there
        refine store_ok (X := X.suite a ((a, ob4) :: (X.pn ++ pins))) (v := .ref a) (J4.suite look4 dat4 na notL notX) nd at_ (.inl own) rfl (fun t5 S5 => ?_) (.inr own)
        refine wpAny_mono ((run a ob4 cls d (X.pn ++ pins) zc4 ⟨_, dat4⟩).run [] t5 _ G _ S5 (yes rfl a na)) (fun fl t6 fin => ?_) fun _ _ z => z.elim
        have away : ∀ {υ : L2.St} {G6 : Hp} {Q : Shared → Prop}, Inv (X.suite a ((a, ob4) :: (X.pn ++ pins))) [] υ G6 t6 → (∀ t7, Inv X pins (υ.set h.slot none) G6 t7 → Q t7) →
          wpAny (model X.prog X.w) X.A (do bindName X.env n .none; unbindBehindTheSuite X.env n q) (fun _ t7 => Q t7) X.xe t6 := fun S g => gone_ok (S.unsuite ok) nd at_ own g
        match fl, fin with
        | .next, ⟨_, _, S, g⟩ => exact away S fun t7 J7 => ⟨_, _, J7, g⟩
        | .brk, ⟨_, _, S, g⟩ => exact away S fun t7 J7 => ⟨_, _, J7, g⟩
        | .cont, ⟨_, _, S, g⟩ => exact away S fun t7 J7 => ⟨_, _, J7, g⟩
        | .ret u, ⟨_, _, _, S, rv, g⟩ => exact away S fun t7 J7 => ⟨_, _, _, J7, rv, g⟩
  · match fl, done with
    | .next, ⟨_, _, J, g⟩ => exact wpAny_execs_nil ⟨_, _, J.ofTry ok, g⟩
    | .brk, ⟨_, _, J, g⟩ => exact ⟨_, _, J.ofTry ok, g⟩
    | .cont, ⟨_, _, J, g⟩ => exact ⟨_, _, J.ofTry ok, g⟩
    | .ret u, ⟨_, _, _, J, rv, g⟩ => exact ⟨_, _, _, J.ofTry ok, rv, g⟩⟩
end
end Lk
set_option Elab.async false
set_option linter.all false
set_option maxRecDepth 100000
namespace Lk
open PySem PySem.Spec L2
open PyProof.Rows (envOfC)
/-! ### try with several clauses -/
abbrev Clauses (α γ : Type) := List (String × (List Str → List PV → M (Fl α γ)))
def uCatch {α γ : Type} (hs : Clauses α γ) (c : String) (fs : Option (List (Str × PV))) : M (Fl α γ) := match hs.lookup c with
  | some us => match fs with
    | some gs => noX (us (gs.map (·.1)) (gs.map (·.2)))
    | none => bad
  | none => exM c fs
def uTryN {α γ : Type} (cs : List String) (ub : M (Fl α γ)) (hs : Clauses α γ) : M (Fl α γ) := fun A => match ub A with
  | some (.ok v, B) => some (.ok v, B)
  | some (.ex c fs, B) => if c ∈ cs then uCatch hs c fs B else none
  | none => none
section
variable {g : Gx} {X : Cx} {W : WX} {εx εt ε : Ev} {rest ss body : List Stmt} {pos : Pos} {lk : Lks} {F G : Hp} {ρ τ : List Addr} {A A' : Ar} {σ : L2.St} {H : Hp}
variable {α β γ δ : Type} {L : β → Ev} {Ll : γ → Ev} {L1 : α → Ev}
inductive HX (g : Gx) (X : Cx) (εt : Ev) (L1 : α → Ev) (Ll : γ → Ev) : List ExceptHandler → Clauses α γ → Prop
  | nil : HX g X εt L1 Ll [] []
  | cons {cn : String} {C : Addr} {x n : Str} {i : Nat} {p q : Pos} {b₀ : Stmt} {ss : List Stmt} {es : List ExceptHandler} {hs : Clauses α γ} {us : List Str → List PV → M (Fl α γ)} (hC : g.cn cn = some C) (hc : Names X x (.ref C)) (hi : X.N[i]? = some n) (hln : X.env.kindOf n = some .local)
      (hL : ∀ b, (L1 b).set i none = L1 b) (hLl : ∀ b, (Ll b).set i none = Ll b)
      (hr : ∀ (a : Addr) (oe : Obj) (cls : Value) (dd : Addr) (pn : List (Addr × Obj)) (ns : List Str) (xs : List PV), Zc cls (some dd) oe → (∃ vs, oe.data = .fields vs) → cls = .ref C → XB g (X.suite a ((a, oe) :: pn)) W0 [] (εt.set i (some (.exc a dd ns xs))) (b₀ :: ss) L1 Ll (us ns xs))
      (rest : HX g X εt L1 Ll es hs) : HX g X εt L1 Ll (.ExceptHandler (some (.Name x p)) (some n) (b₀ :: ss) q :: es) ((cn, us) :: hs)
theorem catch_ {cs : List String} {es : List ExceptHandler} {hs : Clauses α γ} (h : HX g X εt L1 Ll es hs) (hx : SubL εt εx)
    (hem : ∀ h ∈ hs, ∀ c' C' C, c' ∈ cs → g.cn c' = some C' → g.cn h.1 = some C → PySem.W.exmOne X.K (.ref C') (.ref C) = some (decide (c' = h.1))) :
    ∃ l, AsOk X es l ∧ ∀ lk F ρ A σ H D o A' c C d fs, HR g lk F ρ A H → SR g F ρ εt σ → c ∈ cs → g.cn c = some C → ExR g F ρ c fs (.ref C) d → uCatch hs c fs A = some (o, A') →
      (∀ F' ρ' H', Ex F ρ F' ρ' → HR g lk F' ρ' A' H' → EndS g W εx D L1 Ll F' ρ' H' o) → wEach X.K W D l (.ref C) d σ H := by
  induction h with
  | nil =>
    refine ⟨[], .nil, fun lk F ρ A σ H D o A' c C d fs hh sr hin hC er e post => ?_⟩
    cases e
    exact post F ρ H (.refl F ρ) hh σ _ _ (sr.sub hx.sub) er
  | @cons cn C x n i p q b₀ ss es hs us hC hc hi hln hL hLl hr rest ih =>
    obtain ⟨l, ok, run⟩ := ih fun h hm => hem h (List.mem_cons_of_mem _ hm)
    refine ⟨⟨.ref C, i, fun a cls d D σ H => ∃ dd ns xs, d = some dd ∧ cls = .ref C ∧ ∀ (oe : Obj) (pn : List (Addr × Obj)) (hz : Zc cls (some dd) oe) (hf : ∃ vs, oe.data = .fields vs) (hcl : cls = .ref C), Classical.choose (hr a oe cls dd pn ns xs hz hf hcl) D σ H⟩ :: l,
      .cons hc hi hln (fun a oe cls d pn hz hf => ⟨fun pins s σ H D I ⟨dd, ns, xs, hd, hcl, h⟩ => by subst hd; exact ((Classical.choose_spec (hr a oe cls dd pn ns xs hz hf hcl)).1).run pins s σ H D I (h oe pn hz hf hcl)⟩) ok, fun lk F ρ A σ H D o A' c C' d fs hh sr hin hC' er e post => ?_⟩
    refine ⟨decide (c = cn), hem _ List.mem_cons_self c C' C hin hC' hC, fun hy ad hn => ?_, fun hy => ?_⟩
    · have ec : c = cn := of_decide_eq_true hy
      subst ec
      rw [hC] at hC'; cases hC'
      unfold uCatch at e
      rw [show ((c, us) :: hs).lookup c = some us by simp [List.lookup_cons]] at e
      obtain ⟨C2, hC2, z, er2⟩ := er
      cases fs with
      | none => cases e
      | some fs =>
        obtain ⟨dd, vs, rfl, hF, hrr⟩ := er2
        obtain ⟨fl, rfl, e3⟩ := noX_inv e
        refine ⟨dd, fs.map (·.1), fs.map (·.2), rfl, rfl, fun oe pn hz hf hcl => ?_⟩
        have s2 := (Classical.choose_spec (hr ad oe (.ref C) dd pn (fs.map (·.1)) (fs.map (·.2)) hz hf hcl)).2
        refine s2 lk F ρ A _ H _ hh (sr.set i (.exc hF hrr.1 hrr.2)) _ A' e3 fun F2 ρ2 H2 k2 h2 => ?_
        have po := post F2 ρ2 H2 k2 h2
        cases fl with
        | nx b => exact fun σ4 s4 => po _ (by have := s4.none i; rw [hL] at this; exact this)
        | rt v => exact po
        | bk b => exact fun σ4 s4 => po _ (by have := s4.none i; rw [hLl] at this; exact this)
        | ct b => exact fun σ4 s4 => po _ (by have := s4.none i; rw [hLl] at this; exact this)
    · have ne : ¬ c = cn := of_decide_eq_false hy
      refine run lk F ρ A σ H D o A' c C' d fs hh sr hin hC' er ?_ post
      unfold uCatch at e ⊢
      rw [show ((cn, us) :: hs).lookup c = hs.lookup c by rw [List.lookup_cons, show (c == cn) = false from beq_false_of_ne ne]] at e
      exact e
theorem s_tryN {cs : List String} {e₀ : ExceptHandler} {es : List ExceptHandler} {hs : Clauses α γ} {ub : M (Fl α γ)} (hx : SubL εt εx) (h0 : SubL ε εt) (hst : X.stack = X.env :: X.outer) (hfr : X.env.frame = some X.env.locals) (hN : X.N.Nodup) (tk : L2.Takes X W)
    (hem : ∀ h ∈ hs, ∀ c' C' C, c' ∈ cs → g.cn c' = some C' → g.cn h.1 = some C → PySem.W.exmOne X.K (.ref C') (.ref C) = some (decide (c' = h.1)))
    (hb : ∀ (W' : WX) (pn : List (Addr × Obj)) (xe : Value → Shared → Prop), L2.Takes (X.tr pn xe) W' → PassesOwn (model X.prog X.w) X.A X.env xe → XB g (X.tr pn xe) W' εt εt body L1 Ll ub) (hh : HX g X εt L1 Ll (e₀ :: es) hs) :
    XS g X W εx ε (.Try body (e₀ :: es) [] [] pos) L1 Ll (uTryN cs ub hs) := by
  obtain ⟨l, ok, run⟩ := catch_ (W := W) (cs := cs) hh hx hem
  refine ⟨_, ps_tryEach (tb := fun W' D σ H => ∀ pn xe (t : L2.Takes (X.tr pn xe) W') (p : PassesOwn (model X.prog X.w) X.A X.env xe), Classical.choose (hb W' pn xe t p) D σ H) hst hfr hN tk
    (fun W' pn xe t p => ⟨fun pins s σ H D I h => ((Classical.choose_spec (hb W' pn xe t p)).1).run pins s σ H D I (h pn xe t p)⟩) ok, fun lk F ρ A σ H D hh sr o A' e post pn xe t p => ?_⟩
  have sb := (Classical.choose_spec (hb _ pn xe t p)).2
  unfold uTryN at e
  cases q : ub A with
  | none => rw [q] at e; cases e
  | some z =>
    obtain ⟨z1, z2⟩ := z
    rw [q] at e
    cases z1 with
    | ok fl =>
      cases e
      refine sb lk F ρ A σ H D hh (sr.sub h0.sub) _ _ q fun F1 ρ1 H1 k1 h1 => ?_
      have := post F1 ρ1 H1 k1 h1
      cases fl <;> exact this
    | ex c fs =>
      by_cases hc : c ∈ cs
      · simp only [if_pos hc] at e
        refine sb lk F ρ A σ H D hh (sr.sub h0.sub) _ _ q fun F1 ρ1 H1 k1 h1 σ1 cls d s1 er => ?_
        obtain ⟨C, hC, rfl, er2⟩ := id er
        exact run lk F1 ρ1 z2 σ1 H1 D o A' c C d fs h1 s1 hc hC er e fun F2 ρ2 H2 k2 h2 => post F2 ρ2 H2 (k1.trans k2) h2
      · simp only [if_neg hc] at e; cases e
end
end Lk
set_option Elab.async false
set_option linter.all false
set_option maxRecDepth 100000
namespace Lk
open PySem PySem.Spec L2
open PyProof.Rows (envOfC)
/-! ### lists that a comprehension makes and that change; tuple targets; own [] -/
def uLcN (us : M (List PV)) (f : PV → M (Option PV)) : M PV := us >>= fun xs => if xs.length ≤ sizeLine then (noX (uComp f xs [])) >>= fun ys => newC (.lst ys) else bad
def uGetO (C : String) (uo ui : M PV) (fn : List PV → M PV) : M PV := uo >>= fun o => ui >>= fun i => isIns C o >>= fun _ => fn [o, i]
def uGet1 (uo uk : M PV) : M PV := uo >>= fun o => (ask fun A => match cellOf A o with | some (.dK _) => some () | some (.dT _) => some () | _ => none) >>= fun _ => uk >>= fun k => ask fun A => (pGet A o k).map fun r => r.getD .non
section
variable {g : Gx} {X : Cx} {W : WX} {εx ε : Ev} {a b c e o i tg iter elt : Expr} {es : List Expr} {rest ss ss' : List Stmt} {st : Stmt} {ua ub uo ui : M PV} {us : M (List PV)} {uc ud : M Bool} {pos apos : Pos} {lk : Lks} {F G : Hp} {ρ τ : List Addr} {A A' : Ar} {σ : L2.St} {H : Hp}
variable {α β γ δ : Type} {L : β → Ev} {Ll : γ → Ev} {L1 : α → Ev}
theorem b_tgt {ts : List Nat} {d : PV → Option δ} {Lg : δ → Ev} {k : δ → M (Fl β γ)} (hx : SubL ε εx) (he : XE g X W ε e ua) (hg : XG g X ε tg ts d Lg) (hr : ∀ z, XB g X W εx (Lg z) rest L Ll (k z)) (hs : swapsWithSole [tg] e pos.line X.env = pure false := by rfl) (hw : swappedStores [tg] e X.env = pure none := by rfl)
    (h1 : (assignEach [tg] X.env).map (·.2) = [assign tg X.env] := by rfl) : XB g X W εx ε (.Assign [tg] e pos :: rest) L Ll (ua >>= fun v => opt (d v) >>= k) :=
  let ⟨_, p, s⟩ := he; let ⟨_, p2, s2⟩ := hg; let ⟨_, q, r⟩ := all_of hr; ⟨_, pss_cons (ps_asg p p2 hs hw h1) q, fun lk F ρ A σ H D hh sr o A' e post =>
    s.step hh sr e (.of_s sr hx post) fun F1 ρ1 A1 H1 v x k1 h1 rx e2 => by
      rcases M.bind_inv e2 with ⟨z, A2, e3, e4⟩ | ⟨c, fs, e3, _⟩
      · obtain ⟨z', ed, zz, rfl⟩ := opt_inv e3
        cases zz
        exact s2 lk F1 ρ1 A2 H1 x v σ z _ h1 (sr.mono k1) rx ed fun σ2 sr2 _ => r z lk F1 ρ1 A2 σ2 H1 D h1 sr2 o A' e4 (EndS.mono' post k1)
      · obtain ⟨_, _, zz, _⟩ := opt_inv e3; cases zz⟩
theorem x_getO {C : String} {CA f : Addr} {k : Nat} {fn : List PV → M PV} (hC : g.cn C = some CA) (hm : Meth X.K CA "__getitem__" f) (fi : PySem.W.fnIn X.K f = true) (F : FnR X.prog X.w X.K X.mg X.base (L2.CX X.prog X.w) k f (spU g 2 fn)) (hr : Room (k + 1) X.A)
    (hx : ∀ σ, PassesAt (L2.CX X.prog X.w) X σ (fun cls d H => W cls d σ H)) (ho : XE g X W ε o uo) (hi : XE g X W ε i ui) (hsl : ∀ v u, subscripted i true v u = runValue (.builtin "lifetime.subscript" ⟨[v, u], []⟩) := by intro _ _; rfl) : XE g X W ε (.Subscript o i pos) (uGetO C uo ui fn) :=
  let ⟨_, q, s⟩ := ho; let ⟨_, p, t⟩ := hi; ⟨_, pe_getO (E := fun σ cls d H => W cls d σ H) hm fi F hr hx q p hsl, fun lk F ρ A σ H Q hh sr o A' e post =>
    s.step hh sr e (.of_e post) fun F1 ρ1 A1 H1 v x k1 h1 rx e2 => t.step h1 (sr.mono k1) e2 ((PX.of_e post).mono k1) fun F2 ρ2 A2 H2 w y k2 h2 ry e3 => by
      rcases M.bind_inv e3 with ⟨un, A3, e4, e5⟩ | ⟨c, fs, e4, _⟩
      · obtain ⟨un', e6, z, rfl⟩ := ask_inv e4
        cases q : insOf A3 C v with
        | none => rw [q] at e6; cases e6
        | some fs =>
          obtain ⟨h, p, dx, vs, rfl, eA, ex, er, eH, rr⟩ := ins_at hC h2 (rx.mono k2) q
          subst ex
          exact ⟨p, dx, vs, rfl, eH, run_sp rfl h2 (.cons (rx.mono k2) (.cons ry .nil)) e5 (EndE.mono' post (k1.trans k2))⟩
      · obtain ⟨_, _, z, _⟩ := ask_inv e4; cases z⟩
theorem b_setO {C : String} {CA f : Addr} {k : Nat} {fn : List PV → M PV} {kk : M (Fl β γ)} {spos : Pos} (hx : SubL ε εx) (hC : g.cn C = some CA) (hm : Meth X.K CA "__setitem__" f) (hq : PySem.W.noSeq X.K CA = true) (F : FnR X.prog X.w X.K X.mg X.base (L2.CX X.prog X.w) k f (spU g 3 fn)) (hr : Room k X.A)
    (hp : ∀ σ, PassesAt (L2.CX X.prog X.w) X σ (fun cls d H => W cls d σ H)) (ha : XE g X W ε a ua) (ho : XE g X W ε o uo) (hi : XE g X W ε i ui) (hk : XB g X W εx ε rest L Ll kk) (hs : swapsWithSole [.Subscript o i pos] a spos.line X.env = pure false := by rfl) (hw : swappedStores [.Subscript o i pos] a X.env = pure none := by rfl)
    (h1 : (assignEach [.Subscript o i pos] X.env).map (·.2) = [assign (.Subscript o i pos) X.env] := by rfl)
    (has : ∀ v, assign (.Subscript o i pos) X.env v = (holding [v] (eval o X.env) >>= fun ov => holding [v, ov] (eval i X.env) >>= fun iv => standAt pos >>= fun _ => holding [v, ov, iv] (setItem ov iv v) >>= fun _ => release [v, ov, iv] []) := by intro _; rfl) :
    XB g X W εx ε (.Assign [.Subscript o i pos] a spos :: rest) L Ll (ua >>= fun v => uo >>= fun o => ui >>= fun i => isIns C o >>= fun _ => fn [o, i, v] >>= fun _ => kk) :=
  let ⟨_, p0, s0⟩ := ha; let ⟨_, q, s⟩ := ho; let ⟨_, p, t⟩ := hi; let ⟨_, q9, s9⟩ := hk; ⟨_, pss_cons (ps_asg p0 (pg_setO (E := fun σ cls d H => W cls d σ H) hm hq F hr hp q p has) hs hw h1) q9, fun lk F ρ A σ H D hh sr o A' e post =>
    s0.step hh sr e (.of_s sr hx post) fun F0 ρ0 A0 H0 v0 x0 k0 h0 rx0 e1 => s.step h0 (sr.mono k0) e1 ((PX.of_s sr hx post).mono k0) fun F1 ρ1 A1 H1 v x k1 h1 rx e2 => t.step h1 (sr.mono (k0.trans k1)) e2 ((PX.of_s sr hx post).mono (k0.trans k1)) fun F2 ρ2 A2 H2 w y k2 h2 ry e3 => by
      have kx := (k0.trans k1).trans k2
      rcases M.bind_inv e3 with ⟨un, A3, e4, e5⟩ | ⟨c, fs, e4, _⟩
      · obtain ⟨un', e6, z, rfl⟩ := ask_inv e4
        cases q : insOf A3 C v with
        | none => rw [q] at e6; cases e6
        | some fs =>
          obtain ⟨h, p, dx, vs, rfl, eA, ex, er, eH, rr⟩ := ins_at hC h2 (rx.mono k2) q
          subst ex
          refine ⟨p, dx, vs, rfl, eH, ?_⟩
          rcases M.bind_inv e5 with ⟨r, A4, e7, e8⟩ | ⟨c, fs, e7, zz⟩
          · exact run_sp (W := W) (σ := σ) rfl h2 (.cons (rx.mono k2) (.cons ry (.cons (rx0.mono (k1.trans k2)) .nil))) e7 fun F' ρ' H' k' h' x rx' => s9 lk F' ρ' A4 σ H' D h' (sr.mono (kx.trans k')) o A' e8 (EndS.mono' post (kx.trans k'))
          · subst zz
            exact run_sp (W := W) (σ := σ) rfl h2 (.cons (rx.mono k2) (.cons ry (.cons (rx0.mono (k1.trans k2)) .nil))) e7 fun F' ρ' H' k' h' cls d er' => post F' ρ' H' (kx.trans k') h' σ cls d ((sr.mono (kx.trans k')).sub hx.sub) er'
      · obtain ⟨_, _, z, _⟩ := ask_inv e4; cases z⟩
theorem lc_partsN {ts : List Nat} {ifs : List Expr} {scope : Scope} {own : List (Str × Nat)} {d : PV → Option δ} {Lg : δ → Ev} {ut : δ → M Bool} {ue : δ → M PV} (hi : XI g X W ε tg iter us) (hts : ∀ i ∈ ts, i ∈ own.map (·.2))
    (hg : ∀ z, XG g (Blk X scope z) (wipeE ε (own.map (·.2))) tg ts d Lg) (ht : ∀ z q, XTs g (Blk X scope z) W0 (Lg q) ifs (ut q)) (he : ∀ z q, XE g (Blk X scope z) W0 (Lg q) elt (ue q)) :
    ∃ (wi : TI) (gg : TG) (tt : TT) (te : TE), PI X tg iter wi ∧ (∀ (s : Shared) (H : Hp) (C : Addr) (cl : List (Str × Addr)) (fp : List Addr), PG (X.blk s H scope (compEnvC scope cl C X.env) fp) tg gg) ∧ (∀ (s : Shared) (H : Hp) (C : Addr) (cl : List (Str × Addr)) (fp : List Addr), PTs (X.blk s H scope (compEnvC scope cl C X.env) fp) ifs tt) ∧
      (∀ (s : Shared) (H : Hp) (C : Addr) (cl : List (Str × Addr)) (fp : List Addr), PE (X.blk s H scope (compEnvC scope cl C X.env) fp) elt te) ∧ SimE g W ε (tLc wi gg tt te (own.map (·.2))) (uLcN us (fun v => opt (d v) >>= fun q => uElt (ut q) (ue q))) := by
  obtain ⟨wi, p, s⟩ := hi
  refine ⟨wi, fun y σ H Q => ∀ z, Classical.choose (hg z) y σ H Q, fun σ H Q => ∃ q, ∀ z, Classical.choose (ht z q) σ H Q, fun σ H Q => ∃ q, ∀ z, Classical.choose (he z q) σ H Q, p,
    (fun a b c dd e => ⟨fun pins s σ H v u Q I r h => ((Classical.choose_spec (hg (a, b, c, dd, e))).1).run pins s σ H v u Q I r (h _)⟩),
    (fun a b c dd e => ⟨fun pins s σ H Q I ⟨q, h⟩ => ((Classical.choose_spec (ht (a, b, c, dd, e) q)).1).run pins s σ H Q I (h _)⟩),
    (fun a b c dd e => ⟨fun pins s σ H Q I ⟨q, h⟩ => ((Classical.choose_spec (he (a, b, c, dd, e) q)).1).run pins s σ H Q I (h _)⟩), fun lk F ρ A σ H Q hh sr o A' e post => ?_⟩
  have sg := fun z => (Classical.choose_spec (hg z)).2
  have st := fun z q => (Classical.choose_spec (ht z q)).2
  have se := fun z q => (Classical.choose_spec (he z q)).2
  refine s lk F ρ A σ H _ hh sr _ _ o A' e (.of_e post) fun F1 ρ1 A1 H1 J xs k1 h1 it e1 => ?_
  obtain ⟨hz, e2⟩ := if_fail e1
  obtain ⟨ys, A2, e5, e4⟩ : ∃ ys A2, uComp (fun v => opt (d v) >>= fun q => uElt (ut q) (ue q)) xs [] A1 = some (.ok ys, A2) ∧ newC (.lst ys) A2 = some (o, A') := by
    rcases M.bind_inv e2 with ⟨ys, A2, e3, e4⟩ | ⟨c, fs, e3, _⟩
    · obtain ⟨_, zz, e5⟩ := noX_inv e3
      cases zz
      exact ⟨ys, A2, e5, e4⟩
    · obtain ⟨_, zz, _⟩ := noX_inv e3; cases zz
  cases e4
  intro D hD
  have lkD : ∀ x ∈ lk, x.1 ≠ D := fun x hx => ne_of_none (h1.lks x hx).1 hD
  refine ⟨fun i m H => m = xs.length - i ∧ i ≤ xs.length ∧ ∃ F2 ρ2 A3 vs acc, Ex F1 ρ1 F2 ρ2 ∧ HR g ((D, .lst vs, false) :: lk) F2 ρ2 A3 H ∧ RpL g F2 ρ2 vs acc ∧ acc.length ≤ i ∧ uComp (fun v => opt (d v) >>= fun q => uElt (ut q) (ue q)) (xs.drop i) acc A3 = some (.ok ys, A2),
    ⟨xs.length, by simp, Nat.zero_le _, F1, ρ1, A1, [], [], .refl _ _, h1.aside hD, .nil, Nat.le_refl _, by simpa using e5⟩, ?_⟩
  rintro i m H2 ⟨rfl, hi, F2, ρ2, A3, vs, acc, k2, h2, ra, la, e6⟩
  by_cases hlt : i < xs.length
  · obtain ⟨go, yld⟩ := it.go _ F2 ρ2 A3 H2 i (fun x h => List.mem_cons_of_mem _ h) k2 h2 hlt
    have hd : xs.drop i = xs[i] :: xs.drop (i + 1) := (List.drop_eq_getElem_cons hlt)
    rw [hd] at e6
    unfold uComp at e6
    refine .inr ⟨go, fun H' => i + 1 ≤ xs.length ∧ ∃ F2 ρ2 A3 vs acc, Ex F1 ρ1 F2 ρ2 ∧ HR g ((D, .lst vs, false) :: lk) F2 ρ2 A3 H' ∧ RpL g F2 ρ2 vs acc ∧ acc.length ≤ i + 1 ∧ uComp (fun v => opt (d v) >>= fun q => uElt (ut q) (ue q)) (xs.drop (i + 1)) acc A3 = some (.ok ys, A2), fun H' h => ⟨_, by omega, rfl, h⟩, fun y H3 hy z => ?_⟩
    obtain ⟨F3, k3, h3, v, hv, rv⟩ := yld y H3 hy
    rw [List.getElem?_eq_getElem hlt] at hv
    obtain rfl := Option.some.inj hv
    rw [M.bind_assoc'] at e6
    rcases M.bind_inv e6 with ⟨q, A4, e7, e8⟩ | ⟨c, fs, e7, zz⟩
    · obtain ⟨q', ed, zz, hA⟩ := opt_inv e7
      cases zz
      subst hA
      have s3 := ((sr.mono ((k1.trans k2).trans k3)).wipe (own.map (·.2)))
      refine sg z _ F3 ρ2 A4 H3 y xs[i] _ q _ h3 s3 rv ed fun σ3 s4 sm => ?_
      refine ⟨by rw [sm.wipe hts, wipe_wipe], q, fun z' => ?_⟩
      unfold uElt at e8
      rw [M.bind_assoc'] at e8
      refine (st z' q).step h3 s4 e8 (fun c fs zz => nomatch zz) fun F4 ρ4 A5 H4 b k4 h4 e9 => ?_
      cases b with
      | true =>
        refine ifT rfl ⟨q, fun z2 => ?_⟩
        have e9 : ((ue q >>= fun v => pure (some v)) >>= fun o => uComp (fun v => opt (d v) >>= fun q => uElt (ut q) (ue q)) (xs.drop (i + 1)) (match o with | none => acc | some y => acc ++ [y])) A5 = some (.ok ys, A2) := e9
        rw [M.bind_assoc'] at e9
        refine (se z2 q).step h4 (s4.mono k4) e9 (fun c fs zz => nomatch zz) fun F5 ρ5 A6 H5 w u k5 h5 ru e10 => ?_
        have kk := (k3.trans k4).trans k5
        exact ⟨vs, (h5.lks _ List.mem_cons_self).1, by rw [ra.length]; omega, by omega, F5, ρ5, A6, vs ++ [u], acc ++ [w], k2.trans kk, h5.aside_set _ lkD, (ra.mono kk).append (.cons ru .nil), by simp; omega, e10⟩
      | false =>
        exact ifF rfl ⟨by omega, F4, ρ4, A5, vs, acc, k2.trans (k3.trans k4), h4, ra.mono (k3.trans k4), by omega, e9⟩
    · cases zz
  · have ei : i = xs.length := by omega
    subst ei
    rw [List.drop_length] at e6
    cases e6
    obtain ⟨h3, k3⟩ := h2.aside_cell (cc := .lst _) lkD ⟨vs, rfl, ra⟩
    exact .inl ⟨it.stop _ F2 ρ2 _ H2 _ (fun x h => List.mem_cons_of_mem _ h) k2 h2 rfl, EndE.okX post rfl ((k1.trans k2).trans k3) h3 (.m (by rw [← h2.len]; simp))⟩
theorem x_lcN {ts : List Nat} {ifs : List Expr} {scope : Scope} {own : List (Str × Nat)} {d : PV → Option δ} {Lg : δ → Ev} {ut : δ → M Bool} {ue : δ → M PV} (hc : X.calm = true) (hN : X.N.Nodup) (hi : XI g X W ε tg iter us) (ok : BlkOk X.N X.env.scope scope own) (hts : ∀ i ∈ ts, i ∈ own.map (·.2))
    (hg : ∀ z, XG g (Blk X scope z) (wipeE ε (own.map (·.2))) tg ts d Lg) (ht : ∀ z q, XTs g (Blk X scope z) W0 (Lg q) ifs (ut q)) (he : ∀ z q, XE g (Blk X scope z) W0 (Lg q) elt (ue q)) (hs : ∀ x, foldedSetIterable iter X.env x = pure x := by intro _; rfl) :
    XE g X W ε (.ListComp elt [⟨tg, iter, ifs, 0⟩] scope pos) (uLcN us (fun v => opt (d v) >>= fun q => uElt (ut q) (ue q))) :=
  let ⟨_, _, _, _, p1, p2, p3, p4, sm⟩ := lc_partsN (W := W) (ε := ε) (us := us) hi hts hg ht he
  ⟨_, pe_lc hc hN p1 ok p2 p3 p4 hs, sm⟩
/-- name = [..] -/
theorem b_setLcN {i : Nat} {y : Str} {py spos : Pos} {ts : List Nat} {ifs : List Expr} {scope : Scope} {own : List (Str × Nat)} {d : PV → Option δ} {Lg : δ → Ev} {ut : δ → M Bool} {ue : δ → M PV} {k : PV → M (Fl β γ)} (hx : SubL ε εx) (hc : X.calm = true) (hN : X.N.Nodup) (hy : X.N[i]? = some y) (hyl : X.env.scope.names.lookup y = some .local)
    (hsw : swapsWith (.ListComp elt [⟨tg, iter, ifs, 0⟩] scope pos) (some (.Name y py)) spos.line X.env = pure true) (hi : XI g X W ε tg iter us) (ok : BlkOk X.N X.env.scope scope own) (hts : ∀ i ∈ ts, i ∈ own.map (·.2))
    (hg : ∀ z, XG g (Blk X scope z) (wipeE ε (own.map (·.2))) tg ts d Lg) (ht : ∀ z q, XTs g (Blk X scope z) W0 (Lg q) ifs (ut q)) (he : ∀ z q, XE g (Blk X scope z) W0 (Lg q) elt (ue q)) (hr : ∀ v, XB g X W εx (ε.set i (some v)) rest L Ll (k v)) (hs : ∀ x, foldedSetIterable iter X.env x = pure x := by intro _; rfl) :
    XB g X W εx ε (.Assign [.Name y py] (.ListComp elt [⟨tg, iter, ifs, 0⟩] scope pos) spos :: rest) L Ll (uLcN us (fun v => opt (d v) >>= fun q => uElt (ut q) (ue q)) >>= k) :=
  let ⟨_, _, _, _, p1, p2, p3, p4, s⟩ := lc_partsN (W := W) (ε := ε) (us := us) hi hts hg ht he
  let ⟨_, q, r⟩ := all_of hr; ⟨_, pss_cons (ps_setLc hc hN hy hyl hsw p1 ok p2 p3 p4 hs) q, fun lk F ρ A σ H D hh sr o A' e post =>
    s.step hh sr e (.of_s sr hx post) fun F1 ρ1 A1 H1 v x k1 h1 rx e2 => r v lk F1 ρ1 A1 _ H1 D h1 ((sr.mono k1).set i rx) o A' e2 (EndS.mono' post k1)⟩
end
end Lk
namespace Lk
open PySem PySem.Spec L2
section
variable {g : Gx} {X : Cx} {W : WX} {ε : Ev} {a o : Expr} {ua uo : M PV} {pos apos : Pos}
theorem x_get1 (hu : X.A.units + 1 < cLine) (ho : XE g X W ε o uo) (ha : XE g X W ε a ua) (m : M1 X o "get" apos a pos) : XE g X W ε (.Call (.Attribute o "get" apos) [a] [] pos) (uGet1 uo ua) :=
  let ⟨_, q, s⟩ := ho; let ⟨_, p, t⟩ := ha; ⟨_, pe_dget1 hu q p m, fun lk F ρ A σ H Q hh sr o A' e post =>
    s.step hh sr e (.of_e post) fun F1 ρ1 A1 H1 v x k1 h1 rx e2 => by
      rcases M.bind_inv e2 with ⟨un, A3, e4, e5⟩ | ⟨c, fs, e4, _⟩
      · obtain ⟨un', e6, z, rfl⟩ := ask_inv e4
        have hd : ∃ b, x = .ref b ∧ IsD H1 b := by
          cases hc : cellOf A3 v with
          | none => rw [hc] at e6; cases e6
          | some cc =>
            cases cc with
            | dK kvs => obtain ⟨b, ks, rfl, h2, _⟩ := dK_at h1 rx hc; exact ⟨b, rfl, .inl ⟨ks, h2⟩⟩
            | dT kvs => obtain ⟨b, ks, rfl, h2, _⟩ := dT_at h1 rx hc; exact ⟨b, rfl, .inr ⟨ks, h2⟩⟩
            | lst xs => rw [hc] at e6; cases e6
            | ins C fs => rw [hc] at e6; cases e6
        obtain ⟨b, rfl, hb⟩ := hd
        refine ⟨b, rfl, hb, ?_⟩
        refine t.step h1 (sr.mono k1) e5 ((PX.of_e post).mono k1) fun F2 ρ2 A2 H2 w y k2 h2 ry e7 => ?_
        obtain ⟨z, ez, rfl, rfl⟩ := ask_inv e7
        cases hg : pGet _ v w with
        | none => rw [hg] at ez; cases ez
        | some r =>
          rw [hg] at ez; cases ez
          obtain ⟨b2, r2, eb, dg, n1, n2⟩ := pGet_at h2 (rx.mono k2) ry hg
          cases eb
          refine ⟨r2, dg, EndE.okX post rfl (k1.trans k2) h2 ?_⟩
          cases r with
          | none => rw [n1 rfl]; exact .non
          | some p => obtain ⟨z, hz, rz⟩ := n2 p rfl; rw [hz]; exact rz
      · obtain ⟨_, _, z, _⟩ := ask_inv e4; cases z⟩
end
end Lk
set_option Elab.async false
set_option linter.all false
set_option maxRecDepth 100000
namespace Lk
open PySem PySem.Spec L2
/-! ### walks over dicts: the dict is locked, read, and free again behind the walk -/
def isDict : Cell → Bool
  | .dK _ => true
  | .dT _ => true
  | _ => false
def uLock {α : Type} (uo : M PV) (u : M α) : M α := fun A => match uo A with
  | some (.ok (.m h), _) => match A[h]? with
    | some (some (false, c)) => if isDict c = true then match u (A.set h (some (true, c))) with
      | some (.ok v, B) => match B[h]? with
        | some (some (true, c2)) => some (.ok v, B.set h (some (false, c2)))
        | _ => none
      | some (.ex e fs, B) => match B[h]? with
        | some (some (true, _)) => some (.ex e fs, B.set h none)
        | _ => none
      | none => none
      else none
    | _ => none
  | _ => none
theorem uLock_inv {α : Type} {uo : M PV} {u : M α} {A A' : Ar} {o : Out α} (h : uLock uo u A = some (o, A')) : ∃ i c, A[i]? = some (some (false, c)) ∧ isDict c = true ∧
    ((∃ v B c2, u (A.set i (some (true, c))) = some (.ok v, B) ∧ B[i]? = some (some (true, c2)) ∧ o = .ok v ∧ A' = B.set i (some (false, c2))) ∨ ∃ e fs B c2, u (A.set i (some (true, c))) = some (.ex e fs, B) ∧ B[i]? = some (some (true, c2)) ∧ o = .ex e fs ∧ A' = B.set i none) := by
  unfold uLock at h
  split at h
  · rename_i i B0 e0
    split at h
    · rename_i c e1
      by_cases hd : isDict c = true
      · rw [if_pos hd] at h
        refine ⟨i, c, e1, hd, ?_⟩
        split at h
        · rename_i v B e2
          split at h
          · rename_i c2 e3; cases h; exact .inl ⟨v, B, c2, e2, e3, rfl, rfl⟩
          · cases h
        · rename_i e fs B e2
          split at h
          · rename_i c2 e3; cases h; exact .inr ⟨e, fs, B, c2, e2, e3, rfl, rfl⟩
          · cases h
        · cases h
      · rw [if_neg hd] at h; cases h
    · cases h
  · cases h
section
variable {g : Gx} {lk : Lks} {F G : Hp} {ρ τ : List Addr} {A B : Ar} {H H' : Hp} {i : Nat} {c : Cell} {a : Addr} {o : HO} {od : Obj}
theorem lt_ar {x : Option (Bool × Cell)} (e : A[i]? = some x) : i < A.length := by
  rcases Nat.lt_or_ge i A.length with z | z
  · exact z
  · rw [List.getElem?_eq_none z] at e; cases e
theorem cell_nofrz (r : CellR g F ρ c o) : ∀ od u, o ≠ .frz od u := fun od u z => by
  subst z
  cases c with
  | lst xs => obtain ⟨_, z, _⟩ := r; cases z
  | dK xs => obtain ⟨_, z, _⟩ := r; cases z
  | dT xs => obtain ⟨_, z, _⟩ := r; cases z
  | ins C xs => obtain ⟨_, _, _, _, z, _⟩ := r; cases z
theorem HR.lock (h : HR g lk F ρ A H) (e : A[i]? = some (some (false, c))) (ea : ρ[i]? = some a) (eo : H a = some o) : HR g ((a, .frz od o, true) :: lk) F ρ (A.set i (some (true, c))) (upd H a (.frz od o)) := by
  obtain ⟨b, u, e1, e2, e3, e4, e5⟩ := h.cell i false c e
  rw [ea] at e1; cases e1
  have := e5 rfl
  rw [eo] at this; cases this
  have hl := lt_ar e
  have dif : ∀ {j : Nat} {x : Bool × Cell} {b : Addr}, i ≠ j → A[j]? = some (some x) → ρ[j]? = some b → b ≠ a := fun {j x b} z q qb y => z (h.nd i j _ _ a e q ea (y ▸ qb))
  have off : ∀ x ∈ lk, x.1 ≠ a := fun x hx z => by
    have := (h.lkn x hx i _ e (by rw [z]; exact ea)).1
    cases this
  refine ⟨fun b w q => ?_, fun j l c2 q => ?_, fun j k x y b ej ek bj bk => ?_, by simp [h.len], fun x hx => ?_, fun x hx j c2 q qa => ?_, fun j c2 b q qb => ?_, fun x hx => (List.mem_cons.mp hx).elim (fun z => by rw [z]; intro _ y; cases y) (h.lkt x)⟩
  · have ne : b ≠ a := by rintro rfl; rw [e2] at q; cases q
    rw [upd_ne ne]; exact h.sub b w q
  · by_cases z : i = j
    · subst z
      rw [List.getElem?_set_self hl] at q; cases q
      exact ⟨a, o, ea, e2, e3, .inr ⟨od, upd_same⟩, fun z => nomatch z⟩
    · rw [List.getElem?_set_ne z] at q
      obtain ⟨b, v, f1, f2, f3, f4, f5⟩ := h.cell j l c2 q
      have ne := dif z q f1
      exact ⟨b, v, f1, f2, f3, by unfold Rd at f4 ⊢; rw [upd_ne ne]; exact f4, fun w => by rw [upd_ne ne]; exact f5 w⟩
  · have w : ∀ {j : Nat} {x : Bool × Cell}, (A.set i (some (true, c)))[j]? = some (some x) → ∃ x', A[j]? = some (some x') := fun {j x} q => by
      by_cases z : i = j
      · subst z; exact ⟨_, e⟩
      · rw [List.getElem?_set_ne z] at q; exact ⟨_, q⟩
    obtain ⟨x', ex⟩ := w ej
    obtain ⟨y', ey⟩ := w ek
    exact h.nd j k x' y' b ex ey bj bk
  · rcases List.mem_cons.mp hx with rfl | hx
    · exact ⟨upd_same, e2⟩
    · rw [upd_ne (off x hx)]; exact h.lks x hx
  · by_cases z : i = j
    · subst z
      rw [List.getElem?_set_self hl] at q; cases q
      rcases List.mem_cons.mp hx with rfl | hx
      · exact ⟨rfl, rfl⟩
      · rw [ea] at qa; exact absurd (Option.some.inj qa).symm (off x hx)
    · rw [List.getElem?_set_ne z] at q
      rcases List.mem_cons.mp hx with rfl | hx
      · exact absurd rfl (dif z q qa)
      · exact h.lkn x hx j c2 q qa
  · by_cases z : i = j
    · subst z
      rw [ea] at qb; cases qb
      exact ⟨od, o, List.mem_cons_self⟩
    · rw [List.getElem?_set_ne z] at q
      obtain ⟨od2, u2, m⟩ := h.lck j c2 b q qb
      exact ⟨od2, u2, List.mem_cons_of_mem _ m⟩
theorem HR.unlock (h : HR g ((a, .frz od o, true) :: lk) F ρ A H) (e : A[i]? = some (some (true, c))) (ea : ρ[i]? = some a) (off : ∀ x ∈ lk, x.1 ≠ a) : H a = some (.frz od o) ∧ HR g lk F ρ (A.set i (some (false, c))) (upd H a o) := by
  obtain ⟨hH, hF⟩ := h.lks _ List.mem_cons_self
  obtain ⟨b, u, e1, e2, e3, e4, e5⟩ := h.cell i true c e
  rw [ea] at e1; cases e1
  have eu : u = o := by
    rcases e4 with z | ⟨od2, z⟩
    · rw [hH] at z; cases z; exact absurd rfl (cell_nofrz e3 od o)
    · rw [hH] at z; cases z; rfl
  subst eu
  have hl := lt_ar e
  have dif : ∀ {j : Nat} {x : Bool × Cell} {b : Addr}, i ≠ j → A[j]? = some (some x) → ρ[j]? = some b → b ≠ a := fun {j x b} z q qb y => z (h.nd i j _ _ a e q ea (y ▸ qb))
  refine ⟨hH, fun b w q => ?_, fun j l c2 q => ?_, fun j k x y b ej ek bj bk => ?_, by simp [h.len], fun x hx => ?_, fun x hx j c2 q qa => ?_, fun j c2 b q qb => ?_, fun x hx => h.lkt x (List.mem_cons_of_mem _ hx)⟩
  · have ne : b ≠ a := by rintro rfl; rw [hF] at q; cases q
    rw [upd_ne ne]; exact h.sub b w q
  · by_cases z : i = j
    · subst z
      rw [List.getElem?_set_self hl] at q; cases q
      exact ⟨a, u, ea, e2, e3, .inl upd_same, fun _ => upd_same⟩
    · rw [List.getElem?_set_ne z] at q
      obtain ⟨b, v, f1, f2, f3, f4, f5⟩ := h.cell j l c2 q
      have ne := dif z q f1
      exact ⟨b, v, f1, f2, f3, by unfold Rd at f4 ⊢; rw [upd_ne ne]; exact f4, fun w => by rw [upd_ne ne]; exact f5 w⟩
  · have w : ∀ {j : Nat} {x : Bool × Cell}, (A.set i (some (false, c)))[j]? = some (some x) → ∃ x', A[j]? = some (some x') := fun {j x} q => by
      by_cases z : i = j
      · subst z; exact ⟨_, e⟩
      · rw [List.getElem?_set_ne z] at q; exact ⟨_, q⟩
    obtain ⟨x', ex⟩ := w ej
    obtain ⟨y', ey⟩ := w ek
    exact h.nd j k x' y' b ex ey bj bk
  · rw [upd_ne (off x hx)]; exact h.lks x (List.mem_cons_of_mem _ hx)
  · by_cases z : i = j
    · subst z
      rw [ea] at qa; exact absurd (Option.some.inj qa).symm (off x hx)
    · rw [List.getElem?_set_ne z] at q
      exact h.lkn x (List.mem_cons_of_mem _ hx) j c2 q qa
  · by_cases z : i = j
    · subst z
      rw [List.getElem?_set_self hl] at q; cases q
    · rw [List.getElem?_set_ne z] at q
      obtain ⟨od2, u2, m⟩ := h.lck j c2 b q qb
      rcases List.mem_cons.mp m with y | m
      · cases y; exact absurd rfl (dif z q qb)
      · exact ⟨od2, u2, m⟩
theorem HR.lose (h : HR g ((a, .frz od o, true) :: lk) F ρ A H) (ea : ρ[i]? = some a) (e : A[i]? = some (some (true, c))) : HR g lk F ρ (A.set i none) H := by
  have w : ∀ {j : Nat} {x : Bool × Cell}, (A.set i none)[j]? = some (some x) → A[j]? = some (some x) ∧ i ≠ j := fun {j x} q => by
    by_cases z : i = j
    · subst z
      rw [List.getElem?_set_self (lt_ar e)] at q; cases q
    · rw [List.getElem?_set_ne z] at q; exact ⟨q, z⟩
  refine ⟨h.sub, fun j l c2 q => h.cell j l c2 (w q).1, fun j k x y b ej ek bj bk => h.nd j k x y b (w ej).1 (w ek).1 bj bk, by simp [h.len], fun x hx => h.lks x (List.mem_cons_of_mem _ hx), fun x hx j c2 q qa => h.lkn x (List.mem_cons_of_mem _ hx) j c2 (w q).1 qa, fun j c2 b q qb => ?_, fun x hx => h.lkt x (List.mem_cons_of_mem _ hx)⟩
  obtain ⟨od2, u2, m⟩ := h.lck j c2 b (w q).1 qb
  rcases List.mem_cons.mp m with y | m
  · cases y
    exact absurd (h.nd i j _ _ _ e (w q).1 ea qb) (w q).2
  · exact ⟨od2, u2, m⟩
end
section
variable {g : Gx} {X : Cx} {W : WX} {εx ε : Ev} {e tg iter : Expr} {st : Stmt} {ua uo : M PV} {pos : Pos} {lk : Lks} {F G : Hp} {ρ τ : List Addr} {A A' : Ar} {σ : L2.St} {H : Hp}
variable {α β γ : Type} {L1 : α → Ev} {Ll : γ → Ev}
theorem mut_dict {F : Hp} {ρ : List Addr} {c : Cell} {o : HO} (r : CellR g F ρ c o) (h : isDict c = true) : Mut (some o) := by
  cases c with
  | dK xs => obtain ⟨_, rfl, _⟩ := r; trivial
  | dT xs => obtain ⟨_, rfl, _⟩ := r; trivial
  | lst xs => cases h
  | ins C xs => cases h
/-- the dict that is locked: its place in the heap -/
theorem lock_of {i : Nat} {c : Cell} (hh : HR g lk F ρ A H) (e : A[i]? = some (some (false, c))) (hd : isDict c = true) : ∃ a o, ρ[i]? = some a ∧ H a = some o ∧ Mut (some o) ∧ (∀ x ∈ lk, x.1 ≠ a) ∧ ∀ od, HR g ((a, .frz od o, true) :: lk) F ρ (A.set i (some (true, c))) (upd H a (.frz od o)) := by
  obtain ⟨a, o, e1, e2, e3, e4, e5⟩ := hh.cell i false c e
  exact ⟨a, o, e1, e5 rfl, mut_dict e3 hd, (fun x hx z => nomatch (show false = true from (hh.lkn x hx i _ e (by rw [z]; exact e1)).1)), fun od => hh.lock e e1 (e5 rfl)⟩
theorem x_lock (uo : M PV) (h : XE g X W ε e ua) : XE g X W ε e (uLock uo ua) :=
  let ⟨_, p, s⟩ := h; ⟨_, pe_lock p, fun lk F ρ A σ H Q hh sr o A' ev post => by
    obtain ⟨i, c, e1, hd, run⟩ := uLock_inv ev
    obtain ⟨a, ob, ea, eo, mu, off, lock⟩ := lock_of hh e1 hd
    refine ⟨a, ob, eo, mu, fun od => ?_⟩
    rcases run with ⟨v, B, c2, er, eB, rfl, rfl⟩ | ⟨ec, fs, B, c2, er, eB, rfl, rfl⟩
    · refine s _ F ρ _ σ _ _ (lock od) sr _ B er fun F1 ρ1 H1 k1 h1 x rx => ?_
      obtain ⟨hf, h2⟩ := h1.unlock eB (k1.pre _ _ ea) off
      exact ⟨hf, post F1 ρ1 _ k1 h2 x rx⟩
    · refine s _ F ρ _ σ _ _ (lock od) sr _ B er fun F1 ρ1 H1 k1 h1 cls d r => ?_
      exact post F1 ρ1 _ k1 (h1.lose (k1.pre _ _ ea) eB) cls d r⟩
theorem s_lock {u : M (Fl α γ)} (uo : M PV) (h : XS g X W εx ε st L1 Ll u) : XS g X W εx ε st L1 Ll (uLock uo u) :=
  let ⟨_, p, s⟩ := h; ⟨_, ps_lock p, fun lk F ρ A σ H D hh sr o A' ev post => by
    obtain ⟨i, c, e1, hd, run⟩ := uLock_inv ev
    obtain ⟨a, ob, ea, eo, mu, off, lock⟩ := lock_of hh e1 hd
    refine ⟨a, ob, eo, mu, fun od => ?_⟩
    rcases run with ⟨v, B, c2, er, eB, rfl, rfl⟩ | ⟨ec, fs, B, c2, er, eB, rfl, rfl⟩
    · refine s _ F ρ _ σ _ _ (lock od) sr _ B er fun F1 ρ1 H1 k1 h1 => ?_
      obtain ⟨hf, h2⟩ := h1.unlock eB (k1.pre _ _ ea) off
      have po := post F1 ρ1 _ k1 h2
      cases v with
      | nx b => exact fun σ4 s4 => ⟨hf, po σ4 s4⟩
      | rt v => exact fun x rx => ⟨hf, po x rx⟩
      | bk b => exact fun σ4 s4 => ⟨hf, po σ4 s4⟩
      | ct b => exact fun σ4 s4 => ⟨hf, po σ4 s4⟩
    · refine s _ F ρ _ σ _ _ (lock od) sr _ B er fun F1 ρ1 H1 k1 h1 σ4 cls d s4 r => ?_
      exact post F1 ρ1 _ k1 (h1.lose (k1.pre _ _ ea) eB) σ4 cls d s4 r⟩
/-- what a walk over a locked dict gives -/
def keysOf (A : Ar) (v : PV) : Option (List PV) := match v with
  | .m h => match A[h]? with
    | some (some (true, .dK kvs)) => some (kvs.map fun kv => keyP kv.1)
    | some (some (true, .dT kvs)) => some (kvs.map fun kv => .tup (kv.1.map keyP))
    | _ => none
  | _ => none
def uKeys (uo : M PV) : M (List PV) := uo >>= fun v => ask fun A => keysOf A v
theorem it_keys {a : Addr} {od : Obj} {ks : List (Key × V)} {xs : List (Key × PV)} (m : (a, .frz od (.dK ks), true) ∈ lk) (r : ks.map (·.1) = xs.map (·.1)) : ItOk g lk (Itk a od ks) F ρ (xs.map fun kv => keyP kv.1) where
  go lk' F' ρ' A H i sub k hh hi := by
    have hl : ks.length = xs.length := by have := congrArg List.length r; simpa using this
    have hi' : i < xs.length := by simpa using hi
    refine ⟨⟨(hh.lks _ (sub _ m)).1, by omega⟩, fun x H' ⟨e, kk, v, ek, ex⟩ => ?_⟩
    subst e ex
    refine ⟨F', .refl F' ρ', hh, keyP kk, ?_, keyP_at kk⟩
    have := congrArg (fun l => l[i]?) r
    simp only [List.getElem?_map, ek, Option.map_some] at this
    rw [List.getElem?_map]
    cases hx : xs[i]? with
    | none => rw [hx] at this; cases this
    | some q => rw [hx] at this; simp at this; simp [this]
  stop lk' F' ρ' A H i sub k hh hi := ⟨(hh.lks _ (sub _ m)).1, by
    have hl : ks.length = xs.length := by have := congrArg List.length r; simpa using this
    simp at hi; omega⟩
/-- a tuple that stands in the heap belongs to what is left as it is -/
theorem HR.tuple {q : Addr} {vs : List V} (h : HR g lk F ρ A H) (e : H q = some (.tup vs)) : HR g lk (upd F q (.tup vs)) ρ A H ∧ Ex F ρ (upd F q (.tup vs)) ρ := by
  have k : Ex F ρ (upd F q (.tup vs)) ρ := ⟨fun b w z => by
    by_cases y : b = q
    · subst y; rw [upd_same, ← e, h.sub _ _ z]
    · rw [upd_ne y]; exact z, fun _ _ z => z⟩
  refine ⟨⟨fun b w z => ?_, fun i l c z => ?_, h.nd, h.len, fun x hx => ?_, h.lkn, h.lck, h.lkt⟩, k⟩
  · by_cases y : b = q
    · subst y; rw [upd_same] at z; cases z; exact e
    · rw [upd_ne y] at z; exact h.sub b w z
  · obtain ⟨a, o, e1, e2, e3, e4, e5⟩ := h.cell i l c z
    have ne : a ≠ q := by
      rintro rfl
      rcases e4 with y | ⟨od, y⟩
      · rw [e] at y; cases y
        cases c with
        | lst xs => obtain ⟨_, y, _⟩ := e3; cases y
        | dK xs => obtain ⟨_, y, _⟩ := e3; cases y
        | dT xs => obtain ⟨_, y, _⟩ := e3; cases y
        | ins C xs => obtain ⟨_, _, _, _, y, _⟩ := e3; cases y
      · rw [e] at y; cases y
    exact ⟨a, o, e1, by rw [upd_ne ne]; exact e2, e3.mono k, e4, e5⟩
  · have z := h.lks x hx
    have ne : x.1 ≠ q := fun y => by
      rw [y, e] at z
      exact h.lkt x hx vs (Option.some.inj z.1).symm
    exact ⟨z.1, by rw [upd_ne ne]; exact z.2⟩
theorem rpl_keys : ∀ (ks : List Key), RpL g F ρ (ks.map kV) (ks.map keyP)
  | [] => .nil
  | k :: ks => .cons (keyP_at k) (rpl_keys ks)
theorem it_keysT {a : Addr} {od : Obj} {ks : List (List Key × V)} {xs : List (List Key × PV)} (m : (a, .frz od (.dT ks), true) ∈ lk) (r : ks.map (·.1) = xs.map (·.1)) : ItOk g lk (Itkt a od ks) F ρ (xs.map fun kv => .tup (kv.1.map keyP)) where
  go lk' F' ρ' A H i sub k hh hi := by
    have hl : ks.length = xs.length := by have := congrArg List.length r; simpa using this
    have hi' : i < xs.length := by simpa using hi
    refine ⟨⟨(hh.lks _ (sub _ m)).1, by omega⟩, fun x H' ⟨e, kk, v, q, ek, ex, hq⟩ => ?_⟩
    subst e ex
    obtain ⟨h2, k2⟩ := hh.tuple hq
    refine ⟨_, k2, h2, .tup (kk.map keyP), ?_, .tup upd_same (rpl_keys kk)⟩
    have := congrArg (fun l => l[i]?) r
    simp only [List.getElem?_map, ek, Option.map_some] at this
    rw [List.getElem?_map]
    cases hx : xs[i]? with
    | none => rw [hx] at this; cases this
    | some q => rw [hx] at this; simp at this; simp [this]
  stop lk' F' ρ' A H i sub k hh hi := ⟨(hh.lks _ (sub _ m)).1, by
    have hl : ks.length = xs.length := by have := congrArg List.length r; simpa using this
    simp at hi; omega⟩
theorem i_keys (ho : XE g X W ε iter uo) : XI g X W ε tg iter (uKeys uo) :=
  let ⟨_, p, s⟩ := ho; ⟨_, pi_keys p, fun lk F ρ A σ H R hh sr β k o A' e px nx => by
    unfold uKeys at e
    rw [M.bind_assoc'] at e
    exact s.step hh sr e px fun F1 ρ1 A1 H1 v x k1 h1 rx e2 => by
      rcases M.bind_inv e2 with ⟨xs, A3, e3, e4⟩ | ⟨c, fs, e3, _⟩
      · obtain ⟨z, ez, zz, rfl⟩ := ask_inv e3
        cases zz
        unfold keysOf at ez
        split at ez
        · rename_i h
          split at ez
          · rename_i kvs eA
            cases ez
            cases rx with | m er =>
            rename_i a
            obtain ⟨od, u, m⟩ := h1.lck _ _ _ eA er
            obtain ⟨b, ob, f1, f2, ⟨ks, rfl, rr⟩, f4, _⟩ := h1.cell _ _ _ eA
            rw [er] at f1; cases f1
            have hH := (h1.lks _ m).1
            have eu : u = .dK ks := by
              rcases f4 with z | ⟨od2, z⟩
              · rw [hH] at z; cases z
              · rw [hH] at z; cases z; rfl
            subst eu
            exact ⟨a, od, rfl, .inl ⟨ks, hH, nx F1 ρ1 A3 H1 _ _ k1 h1 (it_keys m rr.1) e4⟩⟩
          · rename_i kvs eA
            cases ez
            cases rx with | m er =>
            rename_i a
            obtain ⟨od, u, m⟩ := h1.lck _ _ _ eA er
            obtain ⟨b, ob, f1, f2, ⟨ks, rfl, rr⟩, f4, _⟩ := h1.cell _ _ _ eA
            rw [er] at f1; cases f1
            have hH := (h1.lks _ m).1
            have eu : u = .dT ks := by
              rcases f4 with z | ⟨od2, z⟩
              · rw [hH] at z; cases z
              · rw [hH] at z; cases z; rfl
            subst eu
            exact ⟨a, od, rfl, .inr ⟨ks, hH, nx F1 ρ1 A3 H1 _ _ k1 h1 (it_keysT m rr.1) e4⟩⟩
          · cases ez
        · cases ez
      · obtain ⟨_, _, zz, _⟩ := ask_inv e3; cases zz⟩
end
end Lk
set_option Elab.async false
set_option linter.all false
set_option maxRecDepth 100000
namespace Lk
open PySem PySem.Spec L2 L2.DX
/-! ### d.pop(k, x) of a dict with tuple keys -/
def popTM (o k d : PV) : M PV := fun A => match o with
  | .m h => match A[h]? with
    | some (some (false, .dT kvs)) => match keyT k with
      | some kk => match pLook kvs kk with
        | some v => some (.ok v, A.set h (some (false, .dT (pDrop kvs kk))))
        | none => some (.ok d, A)
      | none => none
    | _ => none
  | _ => none
def isDT (A : Ar) (v : PV) : Option Unit := match v with
  | .m h => match A[h]? with
    | some (some (false, .dT _)) => some ()
    | _ => none
  | _ => none
def uPopT (uo uk ud : M PV) : M PV := uo >>= fun o => (ask fun A => isDT A o) >>= fun _ => uk >>= fun k => ud >>= fun d => popTM o k d
section
variable {g : Gx} {X : Cx} {W : WX} {ε : Ev} {a b e o : Expr} {ua ub uo : M PV} {pos apos : Pos}
theorem x_popT (hp : ∀ to t, PE X o to → PA X [a, b] t → PE X e (tBM X.K "dict" rPopT to t)) (ho : XE g X W ε o uo) (ha : XE g X W ε a ua) (hb : XE g X W ε b ub) (h1 : starEach [a, b] X.env = (false, eval a X.env) :: starEach [b] X.env := by rfl) (h2 : starEach [b] X.env = (false, eval b X.env) :: starEach [] X.env := by rfl) : XE g X W ε e (uPopT uo ua ub) :=
  let ⟨_, p, s⟩ := ho; let ⟨_, q, t⟩ := ha; let ⟨_, q2, t2⟩ := hb; ⟨_, hp _ _ p (pa_cons q (pa_cons q2 pa_nil h2) h1), fun lk F ρ A σ H Q hh sr o A' ev post =>
    s.step hh sr ev (.of_e post) fun F1 ρ1 A1 H1 v x k1 h1 rx e2 => by
      rcases M.bind_inv e2 with ⟨un, A2, e3, e4⟩ | ⟨c, fs, e3, _⟩
      · obtain ⟨un', e5, z, rfl⟩ := ask_inv e3
        have hd : ∃ p ks, x = .ref p ∧ H1 p = some (.dT ks) := by
          unfold isDT at e5
          split at e5
          · split at e5
            · rename_i h kvs eA
              obtain ⟨p, o, rfl, er, ⟨ks, rfl, rr⟩, _, eH⟩ := cell_at h1 rx eA
              exact ⟨p, ks, rfl, eH rfl⟩
            · cases e5
          · cases e5
        obtain ⟨p, ks, rfl, eH⟩ := hd
        refine ⟨?_, ?_⟩
        · exact .inr (.inr (.inl ⟨rfl, .inr ⟨ks, eH⟩⟩))
        · exact t.step h1 (sr.mono k1) e4 ((PX.of_e post).mono k1) fun F2 ρ2 A3 H2 w y k2 h2 ry e6 => t2.step h2 (sr.mono (k1.trans k2)) e6 ((PX.of_e post).mono (k1.trans k2)) fun F3 ρ3 A4 H3 d z k3 h3 rz e7 => by
            unfold popTM at e7
            split at e7
            · rename_i h
              split at e7
              · rename_i kvs eA
                split at e7
                · rename_i kk ek
                  obtain ⟨pp, ob, ep, er, ⟨ks3, rfl, rr⟩, _, eH3⟩ := cell_at h3 (rx.mono (k2.trans k3)) eA
                  cases ep
                  obtain ⟨bb, eb, hb⟩ := keyT_at h3 (ry.mono k3) ek
                  subst eb
                  have lk := rpk_look (k := kk) rr
                  refine ⟨p, ks3, kk, bb, z, rfl, rfl, eH3 rfl, hb, fun v en => ?_, fun en => ?_⟩
                  · cases hq : pLook kvs kk with
                    | none => rw [lk.1 hq] at en; cases en
                    | some q =>
                      rw [hq] at e7; cases e7
                      obtain ⟨v2, e8, r8⟩ := lk.2 q hq
                      rw [en] at e8; cases e8
                      exact EndE.okX post rfl ((k1.trans k2).trans k3) (h3.write (c' := .dT (pDrop kvs kk)) eA er ⟨_, rfl, rpk_drop rr⟩) r8
                  · cases hq : pLook kvs kk with
                    | some q => obtain ⟨v2, e8, _⟩ := lk.2 q hq; rw [en] at e8; cases e8
                    | none => rw [hq] at e7; cases e7; exact EndE.okX post rfl ((k1.trans k2).trans k3) h3 rz
                · cases e7
              · cases e7
            · cases e7
      · obtain ⟨_, _, z, _⟩ := ask_inv e3; cases z⟩
end
end Lk
set_option Elab.async false
set_option linter.all false
set_option maxRecDepth 100000
namespace Lk
open PySem PySem.Spec L2
/-! ### walks over lists that change: locked as dicts are; what is frozen is gone over as before -/
def isCell (c : Cell) : Bool := match c with
  | .ins _ _ => false
  | _ => true
def uLockL {α : Type} (uo : M PV) (u : M α) : M α := fun A => match uo A with
  | some (.ok (.m h), _) => match A[h]? with
    | some (some (false, c)) => if isCell c = true then match u (A.set h (some (true, c))) with
      | some (.ok v, B) => match B[h]? with
        | some (some (true, c2)) => some (.ok v, B.set h (some (false, c2)))
        | _ => none
      | some (.ex e fs, B) => match B[h]? with
        | some (some (true, _)) => some (.ex e fs, B.set h none)
        | _ => none
      | none => none
      else none
    | _ => none
  | _ => u A
theorem uLockL_inv {α : Type} {uo : M PV} {u : M α} {A A' : Ar} {o : Out α} (h : uLockL uo u A = some (o, A')) : (∃ i c, A[i]? = some (some (false, c)) ∧ isCell c = true ∧
    ((∃ v B c2, u (A.set i (some (true, c))) = some (.ok v, B) ∧ B[i]? = some (some (true, c2)) ∧ o = .ok v ∧ A' = B.set i (some (false, c2))) ∨ ∃ e fs B c2, u (A.set i (some (true, c))) = some (.ex e fs, B) ∧ B[i]? = some (some (true, c2)) ∧ o = .ex e fs ∧ A' = B.set i none)) ∨ u A = some (o, A') := by
  unfold uLockL at h
  split at h
  · rename_i i B0 e0
    split at h
    · rename_i c e1
      by_cases hd : isCell c = true
      · rw [if_pos hd] at h
        refine .inl ⟨i, c, e1, hd, ?_⟩
        split at h
        · rename_i v B e2
          split at h
          · rename_i c2 e3; cases h; exact .inl ⟨v, B, c2, e2, e3, rfl, rfl⟩
          · cases h
        · rename_i e fs B e2
          split at h
          · rename_i c2 e3; cases h; exact .inr ⟨e, fs, B, c2, e2, e3, rfl, rfl⟩
          · cases h
        · cases h
      · rw [if_neg hd] at h; cases h
    · cases h
  · exact .inr h
section
variable {g : Gx} {X : Cx} {W : WX} {εx ε : Ev} {e tg iter : Expr} {st : Stmt} {ua uo : M PV} {pos : Pos} {lk : Lks} {F G : Hp} {ρ τ : List Addr} {A A' : Ar} {σ : L2.St} {H : Hp}
variable {α β γ : Type} {L1 : α → Ev} {Ll : γ → Ev}
theorem mut_cell {F : Hp} {ρ : List Addr} {c : Cell} {o : HO} (r : CellR g F ρ c o) (h : isCell c = true) : Mut (some o) := by
  cases c with
  | dK xs => obtain ⟨_, rfl, _⟩ := r; trivial
  | dT xs => obtain ⟨_, rfl, _⟩ := r; trivial
  | lst xs => obtain ⟨_, rfl, _⟩ := r; trivial
  | ins C xs => cases h
theorem lockL_of {i : Nat} {c : Cell} (hh : HR g lk F ρ A H) (e : A[i]? = some (some (false, c))) (hd : isCell c = true) : ∃ a o, ρ[i]? = some a ∧ H a = some o ∧ Mut (some o) ∧ (∀ x ∈ lk, x.1 ≠ a) ∧ ∀ od, HR g ((a, .frz od o, true) :: lk) F ρ (A.set i (some (true, c))) (upd H a (.frz od o)) := by
  obtain ⟨a, o, e1, e2, e3, e4, e5⟩ := hh.cell i false c e
  exact ⟨a, o, e1, e5 rfl, mut_cell e3 hd, (fun x hx z => nomatch (show false = true from (hh.lkn x hx i _ e (by rw [z]; exact e1)).1)), fun od => hh.lock e e1 (e5 rfl)⟩
theorem x_lockL (uo : M PV) (h : XE g X W ε e ua) : XE g X W ε e (uLockL uo ua) :=
  let ⟨t, p, s⟩ := h; ⟨fun σ H Q => tLockE t σ H Q ∨ t σ H Q, ⟨fun pins s σ H Q I z => z.elim ((pe_lock p).run pins s σ H Q I) (p.run pins s σ H Q I)⟩, fun lk F ρ A σ H Q hh sr o A' ev post => by
    rcases uLockL_inv ev with ⟨i, c, e1, hd, run⟩ | run
    · refine .inl ?_
      obtain ⟨a, ob, ea, eo, mu, off, lock⟩ := lockL_of hh e1 hd
      refine ⟨a, ob, eo, mu, fun od => ?_⟩
      rcases run with ⟨v, B, c2, er, eB, rfl, rfl⟩ | ⟨ec, fs, B, c2, er, eB, rfl, rfl⟩
      · refine s _ F ρ _ σ _ _ (lock od) sr _ B er fun F1 ρ1 H1 k1 h1 x rx => ?_
        obtain ⟨hf, h2⟩ := h1.unlock eB (k1.pre _ _ ea) off
        exact ⟨hf, post F1 ρ1 _ k1 h2 x rx⟩
      · refine s _ F ρ _ σ _ _ (lock od) sr _ B er fun F1 ρ1 H1 k1 h1 cls d r => ?_
        exact post F1 ρ1 _ k1 (h1.lose (k1.pre _ _ ea) eB) cls d r
    · exact .inr (s lk F ρ A σ H Q hh sr o A' run post)⟩
theorem s_lockL {u : M (Fl α γ)} (uo : M PV) (h : XS g X W εx ε st L1 Ll u) : XS g X W εx ε st L1 Ll (uLockL uo u) :=
  let ⟨t, p, s⟩ := h; ⟨fun D σ H => tLock t D σ H ∨ t D σ H, ⟨fun pins s σ H D I z => z.elim ((ps_lock p).run pins s σ H D I) (p.run pins s σ H D I)⟩, fun lk F ρ A σ H D hh sr o A' ev post => by
    rcases uLockL_inv ev with ⟨i, c, e1, hd, run⟩ | run
    · refine .inl ?_
      obtain ⟨a, ob, ea, eo, mu, off, lock⟩ := lockL_of hh e1 hd
      refine ⟨a, ob, eo, mu, fun od => ?_⟩
      rcases run with ⟨v, B, c2, er, eB, rfl, rfl⟩ | ⟨ec, fs, B, c2, er, eB, rfl, rfl⟩
      · refine s _ F ρ _ σ _ _ (lock od) sr _ B er fun F1 ρ1 H1 k1 h1 => ?_
        obtain ⟨hf, h2⟩ := h1.unlock eB (k1.pre _ _ ea) off
        have po := post F1 ρ1 _ k1 h2
        cases v with
        | nx b => exact fun σ4 s4 => ⟨hf, po σ4 s4⟩
        | rt v => exact fun x rx => ⟨hf, po x rx⟩
        | bk b => exact fun σ4 s4 => ⟨hf, po σ4 s4⟩
        | ct b => exact fun σ4 s4 => ⟨hf, po σ4 s4⟩
      · refine s _ F ρ _ σ _ _ (lock od) sr _ B er fun F1 ρ1 H1 k1 h1 σ4 cls d s4 r => ?_
        exact post F1 ρ1 _ k1 (h1.lose (k1.pre _ _ ea) eB) σ4 cls d s4 r
    · exact .inr (s lk F ρ A σ H D hh sr o A' run post)⟩
/-- what is gone over: a list or tuple that stays, or a locked list -/
def seqA (A : Ar) (v : PV) : Option (List PV) := match v with
  | .lst xs => some xs
  | .tup xs => some xs
  | .m h => match A[h]? with
    | some (some (true, .lst xs)) => some xs
    | _ => none
  | _ => none
def uItemsA (ua : M PV) : M (List PV) := ua >>= fun v => ask fun A => seqA A v
theorem it_lock {a : Addr} {od : Obj} {vs : List V} {xs : List PV} (m : (a, .frz od (.lst vs), true) ∈ lk) (r : RpL g F ρ vs xs) : ItOk g lk (Itl g.K a) F ρ xs where
  go lk' F' ρ' A H i sub k hh hi := by
    have hq : SqL g.K H a vs := .inl (.inr ⟨od, (hh.lks _ (sub _ m)).1⟩)
    obtain ⟨v, hv, rv⟩ := r.get (i := i) (x := xs[i]) (List.getElem?_eq_getElem hi)
    exact ⟨⟨vs, v, hq, hv⟩, fun x H' ⟨e, y⟩ => by
      subst e
      have := y vs hq
      rw [hv] at this; cases this
      exact ⟨F', .refl F' ρ', hh, xs[i], List.getElem?_eq_getElem hi, rv.mono k⟩⟩
  stop lk' F' ρ' A H i sub k hh hi := ⟨vs, .inl (.inr ⟨od, (hh.lks _ (sub _ m)).1⟩), by rw [r.length]; exact Nat.le_of_eq hi⟩
theorem i_any (hK : X.K = g.K) (ha : XE g X W ε iter ua) : XI g X W ε tg iter (uItemsA ua) :=
  let ⟨_, p, s⟩ := ha; ⟨_, PI.or (pi_list p) (pi_tup p), fun lk F ρ A σ H R hh sr β k o A' e px nx => by
    unfold uItemsA at e
    rw [M.bind_assoc'] at e
    cases q : ua A with
    | none => rw [M.bind_app, q] at e; cases e
    | some z =>
      obtain ⟨z1, z2⟩ := z
      cases z1 with
      | ex c fs =>
        obtain ⟨rfl, rfl⟩ := bd_ex q e
        exact .inl (s lk F ρ A σ H _ hh sr _ _ q fun F1 ρ1 H1 k1 h1 => px c fs rfl F1 ρ1 H1 k1 h1)
      | ok v =>
        have e := bd_ok q e
        rcases M.bind_inv e with ⟨xs, A3, e3, e4⟩ | ⟨c, fs, e3, _⟩
        · obtain ⟨xs', ez, zz, rfl⟩ := ask_inv e3
          cases zz
          cases v with
          | lst ys =>
            cases ez
            refine .inl (s lk F ρ A σ H _ hh sr _ _ q fun F1 ρ1 H1 k1 h1 x rx => ?_)
            cases rx with | lst hp r =>
            exact ⟨_, rfl, ⟨_, SqL.of (h1.sub _ _ hp)⟩, by rw [hK]; exact nx F1 ρ1 A3 H1 _ xs k1 h1 (it_list hp r) e4⟩
          | tup ys =>
            cases ez
            refine .inr (s lk F ρ A σ H _ hh sr _ _ q fun F1 ρ1 H1 k1 h1 x rx => ?_)
            cases rx with | tup hp r =>
            exact ⟨_, rfl, ⟨_, SqT.of (h1.sub _ _ hp)⟩, by rw [hK]; exact nx F1 ρ1 A3 H1 _ xs k1 h1 (it_tup hp r) e4⟩
          | m h =>
            refine .inl (s lk F ρ A σ H _ hh sr _ _ q fun F1 ρ1 H1 k1 h1 x rx => ?_)
            unfold seqA at ez
            simp only at ez
            split at ez
            · rename_i ys eA
              cases ez
              cases rx with | m er =>
              rename_i a
              obtain ⟨od, u, m⟩ := h1.lck _ _ _ eA er
              obtain ⟨b, ob, f1, f2, ⟨vs, rfl, rr⟩, f4, _⟩ := h1.cell _ _ _ eA
              rw [er] at f1; cases f1
              have hH := (h1.lks _ m).1
              have eu : u = .lst vs := by
                rcases f4 with z | ⟨od2, z⟩
                · rw [hH] at z; cases z
                · rw [hH] at z; cases z; rfl
              subst eu
              exact ⟨a, rfl, ⟨vs, .inl (.inr ⟨od, hH⟩)⟩, by rw [hK]; exact nx F1 ρ1 A3 H1 _ _ k1 h1 (it_lock m rr) e4⟩
            · cases ez
          | _ => cases ez
        · obtain ⟨_, _, zz, _⟩ := ask_inv e3; cases zz⟩
end
end Lk
set_option Elab.async false
set_option linter.all false
set_option maxRecDepth 100000
namespace Lk
open PySem PySem.Spec L2
open PyProof.Rows (envOfC)
/-! ### operators of own objects -/
/-- the program's own operator: its def, its reflected def or none -/
structure OpO (K : PySem.W.Frag) (C f : Addr) (nm : String) : Prop where
  sf : PySem.W.selfFirst K C = true
  at_ : PySem.W.findIn K (.ref C) (PySem.dunder nm) = some (some (.ref f))
  fn : PySem.W.isFn K (.ref f) = true
  rv : PySem.W.findIn K (.ref C) (dunderR nm) = some none ∨ ∃ g : Addr, PySem.W.findIn K (.ref C) (dunderR nm) = some (some (.ref g))
/-- what isinstance asks of a class -/
structure IsO (K : PySem.W.Frag) (C : Addr) : Prop where
  ic : PySem.W.isClsIn K C = true
  tc : PySem.W.typeIn K (.ref C) = some (.type "type")
  ca : PySem.W.findIn K (.ref C) "__class__" = some (some (.builtin "object.__class__"))
  cn : PySem.W.specialIn K (.builtin "object.__class__") "__get__" = some (some (.builtin "getset_descriptor.__get__"))
  ct : PySem.W.takesIn K (.builtin "object.__class__") = some true
  cm : PySem.W.mroIn K C (.type "object") = some true
def plainT (T : String) : Bool := T == "int" || T == "bool" || T == "str" || T == "NoneType" || T == "tuple" || T == "list" || T == "dict"
theorem plainT_cases {T : String} (h : plainT T = true) : T = "int" ∨ T = "bool" ∨ T = "str" ∨ T = "NoneType" ∨ T = "tuple" ∨ T = "list" ∨ T = "dict" := by
  simpa [plainT, or_assoc] using h
theorem sub_own {K : PySem.W.Frag} {C : Addr} {T : String} (h : plainT T = true) : PySem.W.subIn K (.type T) (.ref C) = some false := by
  have go : ∀ (l : List Value), (∀ v ∈ l, ∃ n, v = .type n) → l.contains (.ref C) = false := fun l hl => by
    rw [List.contains_eq_any_beq, List.any_eq_false]
    intro v hv q
    obtain ⟨n, rfl⟩ := hl v hv
    cases beq_iff_eq.mp q
  have e : ∀ l, fastBuiltinMro T = some l → (∀ v ∈ l, ∃ n, v = .type n) → PySem.W.subIn K (.type T) (.ref C) = some false := fun l e hl => by
    show (fastBuiltinMro T).map (·.contains (.ref C)) = some false
    rw [e, Option.map_some, go l hl]
  rcases plainT_cases h with rfl | rfl | rfl | rfl | rfl | rfl | rfl
  · exact e [.type "int", .type "object"] (by decide +kernel) (by simp)
  · exact e [.type "bool", .type "int", .type "object"] (by decide +kernel) (by simp)
  · exact e [.type "str", .type "object"] (by decide +kernel) (by simp)
  · exact e [.type "NoneType", .type "object"] (by decide +kernel) (by simp)
  · exact e [.type "tuple", .type "object"] (by decide +kernel) (by simp)
  · exact e [.type "list", .type "object"] (by decide +kernel) (by simp)
  · exact e [.type "dict", .type "object"] (by decide +kernel) (by simp)
def knownOp (nm : String) : Bool := nm == "add" || nm == "mul" || nm == "and" || nm == "or" || nm == "lshift" || nm == "rshift"
theorem look_plain {T nm : String} (h : plainT T = true) (hn : knownOp nm = true) : (∃ a, fastLookup T (PySem.dunder nm) = some a) ∧ ∃ a, fastLookup T (dunderR nm) = some a := by
  have key : (fastLookup T (PySem.dunder nm)).isSome = true ∧ (fastLookup T (dunderR nm)).isSome = true := by
    have hn' : nm = "add" ∨ nm = "mul" ∨ nm = "and" ∨ nm = "or" ∨ nm = "lshift" ∨ nm = "rshift" := by simpa [knownOp, or_assoc] using hn
    rcases plainT_cases h with rfl | rfl | rfl | rfl | rfl | rfl | rfl <;> rcases hn' with rfl | rfl | rfl | rfl | rfl | rfl <;> exact ⟨by decide +kernel, by decide +kernel⟩
  exact ⟨Option.isSome_iff_exists.mp key.1, Option.isSome_iff_exists.mp key.2⟩
section
variable {prog : Program} {w : World} {A : Around} {E : Value → Shared → Prop} {s : Shared} {K : PySem.W.Frag} {x C L f g : Addr} {h₀ : Heap} {m : Str → Option Value} {ox : Obj} {od : Option Obj} {T : String} {b : Value}
theorem left_own {op : Operator} {Q : Value → Shared → Prop} (Fm : PyProof.Rows.Fr h₀ L s.heap m) (X0 : K.In h₀) (I : PySem.W.InstAt s.heap x ox C od) (hT : PySem.W.Looks (model prog w) s.heap (typeOf b) (.type T)) (hp : plainT T = true) (hk : knownOp op.info.2 = true) (O : OpO K C f op.info.2)
    (h : wpAny (model prog w) A (call (.ref f) [.ref x, b]) (PySem.W.CmpBack Q) E s) : wpAny (model prog w) A (binaryOp op (.ref x) b) Q E s := by
  obtain ⟨sf, hs, hf, rv⟩ := O
  obtain ⟨⟨fo, e1⟩, ro, e2⟩ := look_plain hp hk
  have Y := X0.keeps Fm.keep
  have hsub := sub_own (K := K) (C := C) hp
  obtain ⟨cd, rest, hcd, hm⟩ := PySem.W.ksp_first sf
  obtain ⟨rc, hr, hq⟩ : ∃ rc, PySem.W.findIn K (.ref C) (dunderR op.info.2) = some rc ∧ (rc = none ∨ ∃ g : Addr, rc = some (.ref g)) := by
    rcases rv with e | ⟨g, e⟩
    · exact ⟨_, e, .inl rfl⟩
    · exact ⟨_, e, .inr ⟨g, rfl⟩⟩
  rcases hi : op.info with ⟨sym, nm'⟩
  rw [hi] at hs hr e1 e2
  dsimp only at hs hr e1 e2
  have fst := PySem.W.ksp_try Y I hs hf h
  obtain ⟨hh, gg, d, tt, os⟩ := s
  have K1 : PySem.W.Looks (model prog w) hh (typeOf (.ref x)) (.ref C) := I.type
  have K3 : PySem.W.Looks (model prog w) hh (fillsNumberSlot (.ref C) nm') true := PySem.W.fills_K Y hcd hm hs
  have K4 : PySem.W.Looks (model prog w) hh (fillsNumberSlot (.type T) nm') ((fo.isSome && !isSeqSlot fo) || (ro.isSome && !isSeqSlot ro)) := PySem.W.ksp_fillsT (K := K) Y e1 e2
  have K5 : PySem.W.Looks (model prog w) hh (isSubtype (.type T) (.ref C)) false := PySem.W.looks_subIn Y hsub
  have K6 : PySem.W.Looks (model prog w) hh (numberSlotInPython (.ref C) nm') true := PySem.W.ksp_inPy Y hs hr hq
  have K7 : PySem.W.Looks (model prog w) hh (numberSlotInPython (.type T) nm') false := PySem.W.Looks.of_pure rfl
  have K8 : PySem.W.Looks (model prog w) hh (typeLookup (.type T) (dunderR nm')) ro := PySem.W.looks_findIn (K := K) Y e2
  generalize ((fo.isSome && !isSeqSlot fo) || (ro.isSome && !isSeqSlot ro)) = rgt at K4
  have ne : (Value.ref C == Value.type T) = false := Bool.eq_false_iff.mpr fun q => by cases beq_iff_eq.mp q
  simp only [binaryOp, hi]
  refine wpAny_holding (wpAny_bind ?_)
  unfold binaryOp1
  refine wpAny_bind (K1.at (wpAny_bind (hT.at (wpAny_bind (K3.at ?_)))))
  simp only [ne, Bool.false_eq_true, if_false]
  cases rgt with
  | false =>
    ksp_lk
    refine wpAny_mono fst (fun r s' z => ?_) fun _ _ z => z
    obtain ⟨v, rfl, q⟩ := z
    ksp_lk
    exact q
  | true =>
    ksp_lk
    refine wpAny_mono fst (fun r s' z => ?_) fun _ _ z => z
    obtain ⟨v, rfl, q⟩ := z
    ksp_lk
    exact q
theorem intmul_ins {t : Tok} {i : Int} {dx : Addr} (hx : s.heap.get? x = some (PySem.W.instObj C dx)) {Q : Fin → Shared → Prop} (h : Q (.done (.ret .notImplemented)) s) : wpAny (model prog w) A (Builtin.«int.__mul__» ⟨[.int i t, .ref x], []⟩) Q E s := by
  obtain ⟨hp, gg, d, tk, os⟩ := s
  unfold PySem.W.instObj at hx
  wp_walk using wpAny_loadPart' hx
  exact h
theorem bolmul_ins {i : Bool} {dx : Addr} (hx : s.heap.get? x = some (PySem.W.instObj C dx)) {Q : Fin → Shared → Prop} (h : Q (.done (.ret .notImplemented)) s) : wpAny (model prog w) A (Builtin.«int.__mul__» ⟨[.bool i, .ref x], []⟩) Q E s := by
  obtain ⟨hp, gg, d, tk, os⟩ := s
  unfold PySem.W.instObj at hx
  wp_walk using wpAny_loadPart' hx
  exact h
/-- b * o, b of a built-in type: the object's own reflected def -/
structure RevO (K : PySem.W.Frag) (C f g : Addr) : Prop where
  sf : PySem.W.selfFirst K C = true
  at_ : PySem.W.findIn K (.ref C) (PySem.dunder "mul") = some (some (.ref f))
  rv : PySem.W.findIn K (.ref C) (dunderR "mul") = some (some (.ref g))
  fn : PySem.W.isFn K (.ref g) = true
  ni : PySem.W.subIn K (.ref C) (.type "int") = some false
  nb : PySem.W.subIn K (.ref C) (.type "bool") = some false
theorem intmul_m {t : Tok} {i : Int} {dx : Addr} : Meets (Builtin.«int.__mul__» ⟨[.int i t, .ref x], []⟩) (fun _ R s => s.heap.get? x = some (PySem.W.instObj C dx) ∧ R (.ok (.ret Value.notImplemented)) s) :=
  .of_wp fun prog w A R s h => intmul_ins h.1 ⟨_, rfl, h.2⟩
theorem bolmul_m {i : Bool} {dx : Addr} : Meets (Builtin.«int.__mul__» ⟨[.bool i, .ref x], []⟩) (fun _ R s => s.heap.get? x = some (PySem.W.instObj C dx) ∧ R (.ok (.ret Value.notImplemented)) s) :=
  .of_wp fun prog w A R s h => bolmul_ins h.1 ⟨_, rfl, h.2⟩
theorem declI {t : Tok} {i : Int} {dx : Addr} {Q : Option Value → Shared → Prop} (hx : s.heap.get? x = some (PySem.W.instObj C dx)) (h : Q none s) : wpAny (model prog w) A (tryMethod (.int i t) (PySem.dunder "mul") (.ref x)) Q E s := by
  refine wpAny_tryMethod_declines (T := "int") (id := "int.__mul__") ?_ ?_ ?_
  · exact typeIs_int s i t
  · exact PySem.F.slot_int_mul
  · refine call_meets (T := "int") (name := PySem.dunder "mul") PySem.F.slot_int_mul ?_ PySem.F.entry_int_mul ?_ (intmul_m (C := C) (dx := dx)) ?_
    · exact typeIs_int s i t
    · exact PySem.F.args_int_mul_2 _ _
    · exact ⟨hx, rfl, h⟩
theorem declB {i : Bool} {dx : Addr} {Q : Option Value → Shared → Prop} (hx : s.heap.get? x = some (PySem.W.instObj C dx)) (h : Q none s) : wpAny (model prog w) A (tryMethod (.bool i) (PySem.dunder "mul") (.ref x)) Q E s := by
  refine wpAny_tryMethod_declines (T := "bool") (id := "int.__mul__") ?_ ?_ ?_
  · exact typeIs_bool s i
  · exact PySem.F.slot_bool_mul
  · refine call_meets (T := "bool") (name := PySem.dunder "mul") PySem.F.slot_bool_mul ?_ PySem.F.entry_int_mul ?_ (bolmul_m (C := C) (dx := dx)) ?_
    · exact typeIs_bool s i
    · exact PySem.F.args_int_mul_2 _ _
    · exact ⟨hx, rfl, h⟩
theorem right_any {l : Bool} {Q : Value → Shared → Prop} (Fm : PyProof.Rows.Fr h₀ L s.heap m) (X0 : K.In h₀) (I : PySem.W.InstAt s.heap x ox C od) (hT : PySem.W.Looks (model prog w) s.heap (typeOf b) (.type T)) (hl : fillsNumberSlot (.type T) "mul" = pure l) (O : RevO K C f g)
    (hn : l = true → PySem.W.subIn K (.ref C) (.type T) = some false) (hd : l = true → ∀ (Q : Option Value → Shared → Prop), Q none s → wpAny (model prog w) A (tryMethod b (PySem.dunder "mul") (.ref x)) Q E s)
    (h : wpAny (model prog w) A (call (.ref g) [.ref x, b]) (PySem.W.CmpBack Q) E s) : wpAny (model prog w) A (binaryOp .Mult b (.ref x)) Q E s := by
  obtain ⟨sf, hs, hr, hf, _, _⟩ := O
  have Y := X0.keeps Fm.keep
  obtain ⟨cd, rest, hcd, hm⟩ := PySem.W.ksp_first sf
  have fst := PySem.W.ksp_try Y I hr hf h
  obtain ⟨hh, gg, d, tt, os⟩ := s
  have K1 : PySem.W.Looks (model prog w) hh (typeOf (.ref x)) (.ref C) := I.type
  have K3 : PySem.W.Looks (model prog w) hh (fillsNumberSlot (.ref C) "mul") true := PySem.W.fills_K Y hcd hm hs
  have K4 : PySem.W.Looks (model prog w) hh (fillsNumberSlot (.type T) "mul") l := PySem.W.Looks.of_pure hl
  have K7 : PySem.W.Looks (model prog w) hh (numberSlotInPython (.type T) "mul") false := PySem.W.Looks.of_pure rfl
  have ne : (Value.type T == Value.ref C) = false := Bool.eq_false_iff.mpr fun q => by cases beq_iff_eq.mp q
  show wpAny (model prog w) A (holding [b, .ref x] (binaryOp1 "mul" b (.ref x) >>= _)) Q E _
  refine wpAny_holding (wpAny_bind ?_)
  unfold binaryOp1
  refine wpAny_bind (hT.at (wpAny_bind (K1.at (wpAny_bind (K4.at ?_)))))
  simp only [ne, Bool.false_eq_true, if_false]
  cases l with
  | false =>
    ksp_lk
    refine wpAny_mono fst (fun r s' z => ?_) fun _ _ z => z
    obtain ⟨v, rfl, q⟩ := z
    ksp_lk
    exact q
  | true =>
    have K5 : PySem.W.Looks (model prog w) hh (isSubtype (.ref C) (.type T)) false := PySem.W.looks_subIn Y (hn rfl)
    ksp_lk
    refine hd rfl _ ?_
    ksp_lk
    refine wpAny_mono fst (fun r s' z => ?_) fun _ _ z => z
    obtain ⟨v, rfl, q⟩ := z
    ksp_lk
    exact q
end
/-! ### the same over the layer -/
def uBinO (C : String) (uo ui : M PV) (fn : List PV → M PV) : M PV := uo >>= fun o => ui >>= fun i => isIns C o >>= fun _ => (ask fun A => if ((tyN A i).any plainT || (insOf A C i).isSome) = true then some () else none) >>= fun _ => fn [o, i]
def uMulR (C : String) (ui uo : M PV) (fn : List PV → M PV) : M PV := ui >>= fun i => uo >>= fun o => isIns C o >>= fun _ => (ask fun A => if (tyN A i).any (fun T => T == "int" || T == "bool" || T == "str" || T == "NoneType" || T == "tuple") = true then some () else none) >>= fun _ => fn [o, i]
def uNegO (C : String) (uo : M PV) (fn : List PV → M PV) : M PV := uo >>= fun o => isIns C o >>= fun _ => fn [o]
def uCmpO (C : String) (uo ui : M PV) (fn : List PV → M PV) : M PV := uBinO C uo ui fn
theorem ite_some {p : Prop} [Decidable p] {α : Type} {x y : α} (h : (if p then some x else none) = some y) : p ∧ x = y := by
  by_cases e : p
  · rw [if_pos e] at h; exact ⟨e, Option.some.inj h⟩
  · rw [if_neg e] at h; cases h
/-- a value's type as the model sees it -/
theorem look_ty {X : Cx} {pins : List (Addr × Obj)} {σ : L2.St} {H : Hp} {s : Shared} {M : Model} {x : V} {u t : Value} (I : Inv X pins σ H s) (rx : RelV x u) (ty : TyX X.K H x t) : PySem.W.Looks M s.heap (typeOf u) t := by
  obtain ⟨P, kx, hp, _⟩ := kit_of I rx ty
  exact kx.ty M _ I.kIn hp
theorem cmp_back {P : Value → Shared → Prop} {z : V} {v : Value} {s' : Shared} (r : RelV z v) (h : P v s') : PySem.W.CmpBack P v s' := by
  cases z with
  | non => cases (show v = Value.none from r); exact h
  | bl b => cases (show v = Value.bool b from r); exact h
  | int i => obtain ⟨t, e⟩ := (show ∃ t, v = Value.int i t from r); cases e; exact h
  | str x => obtain ⟨t, e⟩ := (show ∃ t, v = Value.str x t from r); cases e; exact h
  | byt b => obtain ⟨t, e⟩ := (show ∃ t, v = Value.bytes b t from r); cases e; exact h
  | flt b => obtain ⟨t, e⟩ := (show ∃ t, v = Value.float b t from r); cases e; exact h
  | ref a => cases (show v = Value.ref a from r); exact h
  | ty n => cases (show v = Value.type n from r); exact h
theorem ep_back {X : Cx} {pins : List (Addr × Obj)} {σ : L2.St} {Q : VK} {v : Value} {s' : Shared} (h : EP X pins σ Q v s') : PySem.W.CmpBack (EP X pins σ Q) v s' := by
  obtain ⟨z, H', I', r, q⟩ := h
  exact cmp_back r ⟨z, H', I', r, q⟩
section
variable {g : Gx} {X : Cx} {W : WX} {εx ε : Ev} {a b c e o i tg iter elt : Expr} {es : List Expr} {rest ss ss' : List Stmt} {st : Stmt} {ua ub uo ui : M PV} {us : M (List PV)} {uc ud : M Bool} {pos apos : Pos} {lk : Lks} {F G : Hp} {ρ τ : List Addr} {A A' : Ar} {σ : L2.St} {H : Hp}
/-- the readings: an object and what stands beside it, plain or of its class -/
def tBinO (K : PySem.W.Frag) (CA : Addr) (sp : Sp) (E : L2.St → XK) (ta tb : TE) : TE := fun σ H Q => ta σ H fun x H1 => tb σ H1 fun y H2 => ∃ p dx fs, x = .ref p ∧ H2 p = some (.ins CA dx fs) ∧ ((∃ T, plainT T = true ∧ TyX K H2 y (.type T)) ∨ ∃ q dy gs, y = .ref q ∧ H2 q = some (.ins CA dy gs)) ∧ sp [.ref p, y] H2 Q (E σ)
theorem pe_binO {op : Operator} {CA f : Addr} {k : Nat} {sp : Sp} {E : L2.St → XK} {ta tb : TE} (O : OpO X.K CA f op.info.2) (hk : knownOp op.info.2 = true) (F : FnR X.prog X.w X.K X.mg X.base (L2.CX X.prog X.w) k f sp) (hr : Room k X.A) (hx : ∀ σ, PassesAt (L2.CX X.prog X.w) X σ (E σ)) (ha : PE X a ta) (hb : PE X b tb) :
    PE X (.BinOp a op b pos) (tBinO X.K CA sp E ta tb) := ⟨fun pins s σ H Q I h => by
  refine wpAny_BinOp (binT ha hb I h fun v u s2 x y H2 I2 rx ry q => ?_)
  obtain ⟨p, dx, fs, rfl, ep, hy, q⟩ := q
  cases rx
  obtain ⟨od, J⟩ := inst_at I2 ep
  obtain ⟨m, hF⟩ := I2.fr
  have go := wpAny_mono (run_in (us := [.ref p, u]) (vs := [.ref p, y]) F hr rfl (hx σ) I2 (.cons rfl (.cons ry .nil)) q) (fun _ _ z => ep_back z) fun _ _ z => z
  rcases hy with ⟨T, hT, ty⟩ | ⟨q2, dy, gs, rfl, eq⟩
  · exact left_own hF I2.ok.mod.kin J (look_ty I2 ry ty) hT hk O go
  · cases ry
    obtain ⟨od', J'⟩ := inst_at I2 eq
    exact PySem.W.binop_K hF I2.ok.mod.kin J J'.type O.sf O.at_ O.fn go⟩
/-- the values in the readings -/
theorem oth_at {C : String} {CA : Addr} {y : V} {i : PV} (hC : g.cn C = some CA) (hh : HR g lk F ρ A H) (r : Rp g F ρ y i) (h : ((tyN A i).any plainT || (insOf A C i).isSome) = true) :
    (∃ T, plainT T = true ∧ TyX g.K H y (.type T)) ∨ ∃ q dy gs, y = .ref q ∧ H q = some (.ins CA dy gs) := by
  rcases Bool.or_eq_true_iff.mp h with h | h
  · cases e : tyN A i with
    | none => rw [e] at h; cases h
    | some T => rw [e] at h; exact .inl ⟨T, h, tyN_at hh r e⟩
  · obtain ⟨fs, e⟩ := Option.isSome_iff_exists.mp h
    obtain ⟨_, p, dx, vs, rfl, _, ex, _, eH, _⟩ := ins_at hC hh r e
    exact .inr ⟨p, dx, vs, ex, eH⟩
theorem isIns_inv {A : Ar} {C : String} {v : PV} {o : Out Unit} {B : Ar} (h : isIns C v A = some (o, B)) : ∃ fs, insOf A C v = some fs ∧ o = .ok () ∧ B = A := by
  obtain ⟨_, e, rfl, rfl⟩ := ask_inv h
  cases q : insOf B C v with
  | none => rw [q] at e; cases e
  | some fs => exact ⟨fs, rfl, rfl, rfl⟩
theorem s_binO {C : String} {CA f : Addr} {k : Nat} {fn : List PV → M PV} {ta tb : TE} (hK : X.K = g.K) (hC : g.cn C = some CA) (ho : SimE g W ε ta uo) (hi : SimE g W ε tb ui) :
    SimE g W ε (tBinO X.K CA (spU g 2 fn) (fun σ cls d H => W cls d σ H) ta tb) (uBinO C uo ui fn) := fun lk F ρ A σ H Q hh sr o A' e post =>
    ho.step hh sr e (.of_e post) fun F1 ρ1 A1 H1 v x k1 h1 rx e2 => hi.step h1 (sr.mono k1) e2 ((PX.of_e post).mono k1) fun F2 ρ2 A2 H2 w y k2 h2 ry e3 => by
      rcases M.bind_inv e3 with ⟨un, A3, e4, e5⟩ | ⟨c, fs, e4, _⟩
      · obtain ⟨fs, q, _, rfl⟩ := isIns_inv e4
        obtain ⟨h, p, dx, vs, rfl, eA, ex, er, eH, rr⟩ := ins_at hC h2 (rx.mono k2) q
        rcases M.bind_inv e5 with ⟨un, A4, e6, e7⟩ | ⟨c, fs, e6, _⟩
        · obtain ⟨_, e8, _, rfl⟩ := ask_inv e6
          obtain ⟨hc, _⟩ := ite_some e8
          subst ex
          exact ⟨p, dx, vs, rfl, eH, by rw [hK]; exact oth_at hC h2 ry hc, run_sp rfl h2 (.cons (rx.mono k2) (.cons ry .nil)) e7 (EndE.mono' post (k1.trans k2))⟩
        · obtain ⟨_, _, z, _⟩ := ask_inv e6; cases z
      · obtain ⟨_, _, z, _⟩ := isIns_inv e4; cases z
theorem x_binO {op : Operator} {C : String} {CA f : Addr} {k : Nat} {fn : List PV → M PV} (hK : X.K = g.K) (hC : g.cn C = some CA) (O : OpO X.K CA f op.info.2) (hk : knownOp op.info.2 = true) (F : FnR X.prog X.w X.K X.mg X.base (L2.CX X.prog X.w) k f (spU g 2 fn)) (hr : Room k X.A)
    (hx : ∀ σ, PassesAt (L2.CX X.prog X.w) X σ (fun cls d H => W cls d σ H)) (ha : XE g X W ε a ua) (hb : XE g X W ε b ub) : XE g X W ε (.BinOp a op b pos) (uBinO C ua ub fn) :=
  let ⟨_, q, s⟩ := ha; let ⟨_, p, t⟩ := hb; ⟨_, pe_binO (E := fun σ cls d H => W cls d σ H) O hk F hr hx q p, s_binO (k := k) (f := f) hK hC s t⟩
/-- what a plain value times an object asks -/
def tMulR (K : PySem.W.Frag) (CA : Addr) (sp : Sp) (E : L2.St → XK) (ta tb : TE) : TE := fun σ H Q => ta σ H fun x H1 => tb σ H1 fun y H2 => ∃ p dx fs, y = .ref p ∧ H2 p = some (.ins CA dx fs) ∧ ((∃ i, x = .int i) ∨ (∃ i, x = .bl i) ∨ TyX K H2 x (.type "str") ∨ TyX K H2 x (.type "NoneType") ∨ TyX K H2 x (.type "tuple")) ∧ sp [.ref p, x] H2 Q (E σ)
theorem noFill_non_mul : fillsNumberSlot (.type "NoneType") "mul" = pure false := by
  have e1 : typeLookup (.type "NoneType") (PySem.dunder "mul") = pure none := by rw [typeLookup_type, builtinLookup_eq_fast]; kernel_rfl
  have e2 : typeLookup (.type "NoneType") (dunderR "mul") = pure none := by rw [typeLookup_type, builtinLookup_eq_fast]; kernel_rfl
  simp only [fillsNumberSlot, e1, e2, pure_bind, Option.isSome_none, Bool.false_and, Bool.or_self]
theorem pe_mulR {CA f f' : Addr} {k : Nat} {sp : Sp} {E : L2.St → XK} {ta tb : TE} (O : RevO X.K CA f' f) (F : FnR X.prog X.w X.K X.mg X.base (L2.CX X.prog X.w) k f sp) (hr : Room k X.A) (hx : ∀ σ, PassesAt (L2.CX X.prog X.w) X σ (E σ)) (ha : PE X a ta) (hb : PE X b tb) :
    PE X (.BinOp a .Mult b pos) (tMulR X.K CA sp E ta tb) := ⟨fun pins s σ H Q I h => by
  refine wpAny_BinOp (binT ha hb I h fun v u s2 x y H2 I2 rx ry q => ?_)
  obtain ⟨p, dx, fs, rfl, ep, hy, q⟩ := q
  cases ry
  obtain ⟨od, J⟩ := inst_at I2 ep
  obtain ⟨m, hF⟩ := I2.fr
  have go := wpAny_mono (run_in (us := [.ref p, v]) (vs := [.ref p, x]) F hr rfl (hx σ) I2 (.cons rfl (.cons rx .nil)) q) (fun _ _ z => ep_back z) fun _ _ z => z
  have e0 := J.at_
  rcases hy with ⟨i, rfl⟩ | ⟨i, rfl⟩ | ty | ty | ty
  · obtain ⟨t, rfl⟩ := (show ∃ t, v = Value.int i t from rx)
    exact right_any hF I2.ok.mod.kin J (look_ty I2 rx (.base (.int i))) PySem.F.fills_int_mul O (fun _ => O.ni) (fun _ Q h => declI e0 h) go
  · obtain rfl := (show v = Value.bool i from rx)
    exact right_any hF I2.ok.mod.kin J (look_ty I2 rx (.base (.bl i))) PySem.F.fills_bool_mul O (fun _ => O.nb) (fun _ Q h => declB e0 h) go
  · exact right_any hF I2.ok.mod.kin J (look_ty I2 rx ty) noFill_str_mul O (fun z => nomatch z) (fun z => nomatch z) go
  · exact right_any hF I2.ok.mod.kin J (look_ty I2 rx ty) noFill_non_mul O (fun z => nomatch z) (fun z => nomatch z) go
  · exact right_any hF I2.ok.mod.kin J (look_ty I2 rx ty) noFill_tuple_mul O (fun z => nomatch z) (fun z => nomatch z) go⟩
theorem x_mulR {C : String} {CA f f' : Addr} {k : Nat} {fn : List PV → M PV} (hK : X.K = g.K) (hC : g.cn C = some CA) (O : RevO X.K CA f' f) (F : FnR X.prog X.w X.K X.mg X.base (L2.CX X.prog X.w) k f (spU g 2 fn)) (hr : Room k X.A)
    (hx : ∀ σ, PassesAt (L2.CX X.prog X.w) X σ (fun cls d H => W cls d σ H)) (ha : XE g X W ε a ua) (hb : XE g X W ε b ub) : XE g X W ε (.BinOp a .Mult b pos) (uMulR C ua ub fn) :=
  let ⟨_, p, t⟩ := ha; let ⟨_, q, s⟩ := hb; ⟨_, pe_mulR (E := fun σ cls d H => W cls d σ H) O F hr hx p q, fun lk F ρ A σ H Q hh sr o A' e post =>
    t.step hh sr e (.of_e post) fun F1 ρ1 A1 H1 w y k1 h1 ry e2 => s.step h1 (sr.mono k1) e2 ((PX.of_e post).mono k1) fun F2 ρ2 A2 H2 v x k2 h2 rx e3 => by
      rcases M.bind_inv e3 with ⟨un, A3, e4, e5⟩ | ⟨c, fs, e4, _⟩
      · obtain ⟨fs, q, _, rfl⟩ := isIns_inv e4
        obtain ⟨h, p, dx, vs, rfl, eA, ex, er, eH, rr⟩ := ins_at hC h2 rx q
        rcases M.bind_inv e5 with ⟨un, A4, e6, e7⟩ | ⟨c, fs, e6, _⟩
        · obtain ⟨_, e8, _, rfl⟩ := ask_inv e6
          obtain ⟨hc, _⟩ := ite_some e8
          subst ex
          have ry' := ry.mono k2
          refine ⟨p, dx, vs, rfl, eH, ?_, run_sp rfl h2 (.cons rx (.cons ry' .nil)) e7 (EndE.mono' post (k1.trans k2))⟩
          rw [hK]
          cases q2 : tyN A4 w with
          | none => rw [q2] at hc; cases hc
          | some T =>
            rw [q2] at hc
            have ty := tyN_at h2 ry' q2
            have hc : ((((T = "int" ∨ T = "bool") ∨ T = "str") ∨ T = "NoneType") ∨ T = "tuple") := by simpa using hc
            rcases hc with (((rfl | rfl) | rfl) | rfl) | rfl
            · cases w with
              | int i => exact .inl ⟨i, ry'.int_inv⟩
              | m h => unfold tyN at q2; simp only at q2; split at q2 <;> first | (exact absurd (Option.some.inj q2) (by decide)) | cases q2
              | scr _ => cases q2
              | exc _ _ _ _ => cases q2
              | ty _ => cases q2
              | _ => exact absurd (Option.some.inj q2) (by decide)
            · cases w with
              | bl i => exact .inr (.inl ⟨i, ry'.bl_inv⟩)
              | m h => unfold tyN at q2; simp only at q2; split at q2 <;> first | (exact absurd (Option.some.inj q2) (by decide)) | cases q2
              | scr _ => cases q2
              | exc _ _ _ _ => cases q2
              | ty _ => cases q2
              | _ => exact absurd (Option.some.inj q2) (by decide)
            · exact .inr (.inr (.inl ty))
            · exact .inr (.inr (.inr (.inl ty)))
            · exact .inr (.inr (.inr (.inr ty)))
        · obtain ⟨_, _, z, _⟩ := ask_inv e6; cases z
      · obtain ⟨_, _, z, _⟩ := isIns_inv e4; cases z⟩
/-- - o -/
theorem x_negO {C : String} {CA f : Addr} {k : Nat} {fn : List PV → M PV} (hC : g.cn C = some CA) (hm : Meth X.K CA "__neg__" f) (F : FnR X.prog X.w X.K X.mg X.base (L2.CX X.prog X.w) k f (spU g 1 fn)) (hr : Room k X.A)
    (hx : ∀ σ, PassesAt (L2.CX X.prog X.w) X σ (fun cls d H => W cls d σ H)) (ha : XE g X W ε a ua) : XE g X W ε (.UnaryOp .USub a pos) (uNegO C ua fn) :=
  let ⟨ta, p, s⟩ := ha; ⟨fun σ H Q => ta σ H fun x H1 => ∃ p dx fs, x = .ref p ∧ H1 p = some (.ins CA dx fs) ∧ spU g 1 fn [.ref p] H1 Q (fun cls d H => W cls d σ H), ⟨fun pins s σ H Q I h => PyProof.Rows.UnaryOp_ (thn (p.run pins s σ H _ I h) fun v s1 ⟨x, H1, I1, rx, q⟩ => by
      obtain ⟨p, dx, fs, rfl, ep, q⟩ := q
      cases rx
      obtain ⟨od, J⟩ := inst_at I1 ep
      obtain ⟨m, hF⟩ := I1.fr
      exact PySem.W.ksp_neg hF I1.ok.mod.kin J hm.at_ hm.fn (run_in (E := fun σ cls d H => W cls d σ H) (us := [.ref p]) (vs := [.ref p]) F hr rfl (hx σ) I1 (.cons rfl .nil) q))⟩, fun lk F ρ A σ H Q hh sr o A' e post =>
    s.step hh sr e (.of_e post) fun F1 ρ1 A1 H1 v x k1 h1 rx e2 => by
      rcases M.bind_inv e2 with ⟨un, A3, e4, e5⟩ | ⟨c, fs, e4, _⟩
      · obtain ⟨fs, q, _, rfl⟩ := isIns_inv e4
        obtain ⟨h, p, dx, vs, rfl, eA, ex, er, eH, rr⟩ := ins_at hC h1 rx q
        subst ex
        exact ⟨p, dx, vs, rfl, eH, run_sp rfl h1 (.cons rx .nil) e5 (EndE.mono' post k1)⟩
      · obtain ⟨_, _, z, _⟩ := isIns_inv e4; cases z⟩
/-- o == e, o <= e -/
theorem pe_cmpO {op : CmpOp} {CA f : Addr} {k : Nat} {sp : Sp} {E : L2.St → XK} {ta tb : TE} (hop : ∀ a b, compareOp op a b = richCompare op a b) (hm : Meth X.K CA (cmpInfo op).2.1 f) (F : FnR X.prog X.w X.K X.mg X.base (L2.CX X.prog X.w) k f sp) (hr : Room k X.A) (hx : ∀ σ, PassesAt (L2.CX X.prog X.w) X σ (E σ)) (ha : PE X a ta) (hb : PE X b tb)
    (hb' : behindInMarks op b = false) : PE X (.Compare a [op] [b] pos) (tBinO X.K CA sp E ta tb) := ⟨fun pins s σ H Q I h => by
  refine wpAny_Compare1 (binT ha hb I h fun v u s2 x y H2 I2 rx ry q => ?_) hb'
  obtain ⟨p, dx, fs, rfl, ep, hy, q⟩ := q
  cases rx
  obtain ⟨od, J⟩ := inst_at I2 ep
  obtain ⟨m, hF⟩ := I2.fr
  have go := wpAny_mono (run_in (us := [.ref p, u]) (vs := [.ref p, y]) F hr rfl (hx σ) I2 (.cons rfl (.cons ry .nil)) q) (fun _ _ z => ep_back z) fun _ _ z => z
  rw [hop]
  rcases hy with ⟨T, hT, ty⟩ | ⟨q2, dy, gs, rfl, eq⟩
  · exact PySem.W.cmp_K hr.units0 hF I2.ok.mod.kin J (look_ty I2 ry ty) (by unfold PySem.W.notFirst; rw [sub_own hT]; simp) hm.at_ hm.fn go
  · cases ry
    obtain ⟨od', J'⟩ := inst_at I2 eq
    exact PySem.W.cmp_K hr.units0 hF I2.ok.mod.kin J J'.type (by simp [PySem.W.notFirst]) hm.at_ hm.fn go⟩
theorem x_cmpO {op : CmpOp} {C : String} {CA f : Addr} {k : Nat} {fn : List PV → M PV} (hop : ∀ a b, compareOp op a b = richCompare op a b) (hK : X.K = g.K) (hC : g.cn C = some CA) (hm : Meth X.K CA (cmpInfo op).2.1 f) (F : FnR X.prog X.w X.K X.mg X.base (L2.CX X.prog X.w) k f (spU g 2 fn)) (hr : Room k X.A)
    (hx : ∀ σ, PassesAt (L2.CX X.prog X.w) X σ (fun cls d H => W cls d σ H)) (ha : XE g X W ε a ua) (hb : XE g X W ε b ub) (hb' : behindInMarks op b = false) : XE g X W ε (.Compare a [op] [b] pos) (uBinO C ua ub fn) :=
  let ⟨_, q, s⟩ := ha; let ⟨_, p, t⟩ := hb; ⟨_, pe_cmpO (E := fun σ cls d H => W cls d σ H) hop hm F hr hx q p hb', s_binO (k := k) (f := f) hK hC s t⟩
/-- isinstance(e, C), C the program's own -/
def isCls (A : Ar) (C : String) (v : PV) : Option Bool := match tyN A v with
  | some T => if plainT T = true then some false else none
  | none => if (insOf A C v).isSome = true then some true else none
theorem x_isC {C : String} {CA : Addr} {n : Str} {p1 p2 : Pos} (hK : X.K = g.K) (hC : g.cn C = some CA) (cl : Cls X.K CA) (J : IsO X.K CA) (hg : Gl X "isinstance") (hm : X.mg "isinstance" = none) (hgT : Gl X n) (hmT : X.mg n = some (.ref CA)) (ha : XE g X W ε a ua) (hn : n ≠ "__name__" := by decide) (hdb : (n == ("__debug__" : Str)) = false := by decide)
    (hs : starEach [a, .Name n p2] X.env = (false, eval a X.env) :: starEach [.Name n p2] X.env := by rfl) (hs2 : starEach [.Name n p2] X.env = (false, eval (.Name n p2) X.env) :: starEach [] X.env := by rfl) (hpl : (backTo pos (starEach [.Name n p2] X.env)).any (·.1) = false := by rfl) :
    XE g X W ε (.Call (.Name "isinstance" p1) [a, .Name n p2] [] pos) (u1 (fun A v => (isCls A C v).map .bl) ua) :=
  let ⟨_, p, s⟩ := ha; ⟨_, pe_callB call_isi hg hm (by decide +kernel) (pa_cons p (pa_cons (pe_glob (v := .ref CA) hgT hmT rfl hdb) pa_nil hs2) hs) (by decide) (by decide) hs hpl, fun lk F ρ A σ H Q hh sr o A' e post =>
    s.step hh sr e (.of_e post) fun F1 ρ1 A1 H1 v x k1 h1 rx e2 => by
      obtain ⟨z, ez, rfl, rfl⟩ := ask_inv e2
      have ez : (isCls A' C v).map .bl = some z := ez
      unfold isCls at ez
      cases q : tyN A' v with
      | some T =>
        rw [q] at ez
        simp only at ez
        by_cases hp : plainT T = true
        · rw [if_pos hp] at ez; cases ez
          have kt : PySem.W.kitOne X.K (.type T) (.ref CA) = some false := by
            have ne : (Value.type T == Value.ref CA) = false := Bool.eq_false_iff.mpr fun q => by cases beq_iff_eq.mp q
            unfold PySem.W.kitOne PySem.W.kitCls
            rw [ne]
            have ic : (PySem.W.clsIn X.K CA).isSome = true := J.ic
            simp [ic, J.tc, sub_own hp]
          exact ⟨x, .ref CA, .type T, .ref CA, false, rfl, .own _, by rw [hK]; exact tyN_at h1 rx q, kt, EndE.okX post rfl k1 h1 (.bl false)⟩
        · rw [if_neg hp] at ez; cases ez
      | none =>
        rw [q] at ez
        simp only at ez
        cases q2 : insOf _ C v with
        | none => rw [q2] at ez; cases ez
        | some fs =>
          rw [q2] at ez; cases ez
          obtain ⟨_, p, dx, vs, rfl, _, ex, _, eH, _⟩ := ins_at hC h1 rx q2
          subst ex
          have kt : PySem.W.kitOne X.K (.ref CA) (.ref CA) = some true := by unfold PySem.W.kitOne; simp
          exact ⟨_, .ref CA, .ref CA, .ref CA, true, rfl, .own _, .base (.ins eH cl J.ca J.cn J.ct J.cm), kt, EndE.okX post rfl k1 h1 (.bl true)⟩⟩
/-- a piece that is never reached -/
theorem x_bad {e : Expr} : XE g X W ε e bad := ⟨fun _ _ _ => False, ⟨fun _ _ _ _ _ _ h => h.elim⟩, fun lk F ρ A σ H Q hh sr o A' e post => nomatch e⟩
end
end Lk
set_option Elab.async false
set_option linter.all false
set_option maxRecDepth 100000
namespace Lk
open PySem PySem.Spec PyProof.Rows L2
/-! ### t[::-1], t a tuple -/
theorem adjust_rev (n : Nat) : Builtin.Slice.sliceAdjust none none (-1) (n : Int) = ((n : Int) - 1, -1) := by
  have h1 : ((-1 : Int) < 0) := by omega
  unfold Builtin.Slice.sliceAdjust
  simp only [h1, if_true]
theorem places_rev (n : Nat) : Builtin.Slice.slicePlaces ((n : Int) - 1) (-1) (-1) = n := by
  unfold Builtin.Slice.slicePlaces
  have h1 : ¬ ((-1 : Int) > 0) := by omega
  simp only [h1, if_false, Int.neg_neg, Int.ediv_one]
  split <;> omega
theorem fm_congr {α β : Type} {f g : α → Option β} : ∀ {l : List α}, (∀ x ∈ l, f x = g x) → l.filterMap f = l.filterMap g
  | [], _ => rfl
  | a :: l, h => by rw [List.filterMap_cons, List.filterMap_cons, h a List.mem_cons_self, fm_congr fun x hx => h x (List.mem_cons_of_mem _ hx)]
theorem pick_rev (xs : Array Value) : ((List.range xs.size).filterMap fun (m : Nat) => xs[((((xs.size : Nat) : Int) - 1) + (m : Int) * (-1)).toNat]?).toArray = xs.toList.reverse.toArray := by
  congr 1
  apply List.ext_getElem?
  intro i
  have e : ∀ m ∈ List.range xs.size, xs[((((xs.size : Nat) : Int) - 1) + (m : Int) * (-1)).toNat]? = xs.toList.reverse[m]? := fun m hm => by
    have hm := List.mem_range.mp hm
    rw [List.getElem?_reverse (by simpa using hm)]
    have : ((((xs.size : Nat) : Int) - 1) + (m : Int) * (-1)).toNat = xs.toList.length - 1 - m := by rw [Array.length_toList]; omega
    rw [this, Array.getElem?_toList]
  have e2 : (List.range xs.size).filterMap (fun (m : Nat) => xs[((((xs.size : Nat) : Int) - 1) + (m : Int) * (-1)).toNat]?) = (List.range xs.toList.reverse.length).filterMap (fun m => xs.toList.reverse[m]?) := by
    rw [List.length_reverse, Array.length_toList]
    exact fm_congr e
  rw [e2]
  congr 1
  generalize xs.toList.reverse = l
  clear e e2
  induction l with
  | nil => rfl
  | cons a l ih =>
    rw [List.length_cons, List.range_succ_eq_map, List.filterMap_cons, List.filterMap_map]
    show a :: _ = _
    have : ((fun m => (a :: l)[m]?) ∘ Nat.succ) = fun m => l[m]? := by funext m; simp
    rw [this, ih]
section
variable {prog : Program} {w : World} {A : Around} {E : Value → Shared → Prop} {s : Shared}
theorem applied_rev {sl : Addr} {vl vu vs : Value} {n : Nat} {Q : Int × Int × Nat → Shared → Prop} (hs : s.heap.IsSliceOf sl vl vu vs) (pl : IsPart vl none) (pu : IsPart vu none) (ps : IsPart vs (some (-1)))
    (h : Q ((n : Int) - 1, -1, n) s) : wpAny (model prog w) A (Builtin.Slice.sliceApplied (.ref sl) (pure (n : Int))) Q E s := by
  obtain ⟨os, h1, h2, h3⟩ := id hs
  unfold Builtin.Slice.sliceApplied Builtin.Slice.sliceFields
  refine wpAny_bind (wpAny_bind (wpAny_field h1 h3 (x := vl) rfl (wpAny_bind (wpAny_field h1 h3 (x := vu) rfl (wpAny_bind (wpAny_field h1 h3 (x := vs) rfl (wpAny_pure ?_)))))))
  refine wpAny_bind (HT.slicePart_ ps ?_)
  show wpAny _ _ (if ((-1 : Int) == 0) = true then _ else _) _ _ s
  rw [if_neg (by decide)]
  refine wpAny_bind (HT.slicePart_ pl (wpAny_bind (HT.slicePart_ pu (wpAny_bind (wpAny_pure ?_)))))
  show wpAny _ _ (match Builtin.Slice.sliceAdjust none none (-1) (n : Int) with | (lo, hi) => pure (lo, (-1 : Int), Builtin.Slice.slicePlaces lo hi (-1))) _ _ s
  rw [adjust_rev n]
  show wpAny _ _ (pure ((n : Int) - 1, (-1 : Int), Builtin.Slice.slicePlaces ((n : Int) - 1) (-1) (-1))) _ _ s
  rw [places_rev]
  exact wpAny_pure h
theorem item_tup_rev {t sl : Addr} {items : Array Value} {vl vu vs : Value} {Q : Value → Shared → Prop} (ht : IsTup s.heap t items) (hs : s.heap.IsSliceOf sl vl vu vs) (pl : IsPart vl none) (pu : IsPart vu none) (ps : IsPart vs (some (-1)))
    (h : Q (.ref s.heap.objs.size) { s with heap := s.heap.push { cls := .type "tuple", data := .seq items.toList.reverse.toArray } })
    (hsz : items.size ≤ sizeLine) : wpAny (model prog w) A (getItem (.ref t) (.ref sl)) Q E s := by
  have hfit : sizeOk (.seq items.toList.reverse.toArray) := by
    show items.toList.reverse.toArray.size ≤ sizeLine
    rw [List.size_toArray, List.length_reverse, Array.length_toList]; exact hsz
  obtain ⟨os, h1, h2, h3⟩ := id hs
  have hTy : s.TypeIs (.ref sl) "slice" := ⟨os, h1, h2⟩
  unfold getItem
  try with_reducible refine wpAny_holding ?_
  first | refine wpAny_bind (wpAny_pure ?_) | skip
  refine wpAny_bind (wpAny_sequenceKey ht.typeIs (by decide) ?_)
  refine wpAny_bind (wpAny_callSpecial?_slot (name := Str.ofString "__getitem__") ht.typeIs PyProof.Rows.slot_tuple_getitem
    (wpAny_call_entry PyProof.Rows.slot_tuple_getitem ht.typeIs entry_tuple_getitem ?_ (args_tuple_getitem _ _)))
  show wpAny _ _ (Builtin.Tuple.tupleItemsOf (.ref t) >>= _) _ _ s
  refine wpAny_bind (tupleItemsOf_ ht (wpAny_bind (wpAny_typeOf hTy ?_)))
  rw [if_pos (by decide)]
  refine wpAny_bind (applied_rev hs pl pu ps ?_)
  have no : ¬ ((((items.size : Nat) : Int) - 1 == 0 && (-1 : Int) == 1 && items.size == items.size) = true) := by simp
  show wpAny _ _ (if (((items.size : Nat) : Int) - 1 == 0 && (-1 : Int) == 1 && items.size == items.size) = true then _ else _) _ _ s
  rw [if_neg no, pick_rev]
  first
    | exact wpAny_bind (m := Builtin.Tuple.tupleExact _) (wpAny_newObj_type (wpAny_pure ⟨_, rfl, wpAny_pure h⟩) hfit)
    | exact wpAny_bind (m := Builtin.Tuple.tupleExact _) (wpAny_newObj_type (wpAny_bind (wpAny_pure (wpAny_pure ⟨_, rfl, wpAny_pure h⟩))) hfit)
    | exact wpAny_bind (wpAny_bind (m := Builtin.Tuple.tupleExact _) (wpAny_newObj_type (wpAny_pure (wpAny_pure ⟨_, rfl, wpAny_pure h⟩)) hfit))
    | exact wpAny_bind (wpAny_bind (m := Builtin.Tuple.tupleExact _) (wpAny_newObj_type (wpAny_pure ⟨_, rfl, wpAny_pure h⟩) hfit))
end
/-- xs[::-1], xs a list or a tuple -/
theorem rev_or {X : Cx} {e : Expr} {te : TE} {k : Nat} {p1 p2 p3 pos : Pos} (he : PE X e te) : PE X (.Subscript e (.Slice none none (some (.UnaryOp .USub (.Constant (.int 1) k p1) p2)) p3) pos)
    (fun σ H Q => te σ H fun x H1 => (∃ a xs, x = .ref a ∧ SqL X.K H1 a xs ∧ ∀ p, H1 p = none → Q (.ref p) (upd H1 p (.lst xs.reverse))) ∨ ∃ a xs, x = .ref a ∧ SqT X.K H1 a xs ∧ ∀ p, H1 p = none → Q (.ref p) (upd H1 p (.tup xs.reverse))) := by
  refine ⟨fun pins s σ H Q I h => ?_⟩
  refine Subscript_ (thn (he.run pins s σ H _ I h) fun v s1 ⟨x, H1, I1, r1, q1⟩ => ?_)
  have hst : PO X (some (.UnaryOp .USub (.Constant (.int 1) k p1) p2)) (tPart (tUn (rU fun i => .int (-i)) (tC (.int 1)))) := po_some (pe_un un_neg pe_int)
  refine wpAny_Slice (thn (po_none.run pins s1 σ H1 (fun o H2 => o = none ∧ H2 = H1) I1 ⟨rfl, rfl⟩) fun wl s2 ⟨l, H2, I2, pl, el, e2⟩ => ?_)
  subst el e2
  refine thn (po_none.run pins s2 σ H2 (fun o H3 => o = none ∧ H3 = H2) I2 ⟨rfl, rfl⟩) fun wu s3 ⟨u, H3, I3, pu, eu, e3⟩ => ?_
  subst eu e3
  refine thn (hst.run pins s3 σ H3 (fun o H4 => o = some (-1) ∧ H4 = H3) I3 ⟨1, rfl, -1, rfl, rfl, rfl⟩) fun ws s4 ⟨o, H4, I4, ps, eo, e4⟩ => ?_
  subst eo e4
  have J : Inv X pins σ H4 { s4 with heap := s4.heap.push { cls := .type "slice", data := .fields #[wl, wu, ws] } } := I4.kept (t' := s4.toks) fun b ob q => Heap.get?_push_of_some _ q
  rcases q1 with ⟨a, xs, ex, hx, q⟩ | ⟨a, xs, ex, hx, q⟩
  · subst ex
    cases r1
    obtain ⟨its, r, ht, hz⟩ := J.list hx
    have hl := r.length
    show wpAny (model X.prog X.w) X.A (subscriptTail e (.Slice none none (some (.UnaryOp .USub (.Constant (.int 1) k p1) p2)) p3) (.ref a) (.ref s4.heap.objs.size)) (EP X pins σ Q) X.xe { s4 with heap := s4.heap.push { cls := .type "slice", data := .fields #[wl, wu, ws] } }
    refine tail_any (ops := [.ref a, .ref s4.heap.objs.size]) ht.isList.typeIs (PySem.slot_list_getitem.lookup) ?_ (by with_unfolding_all rfl)
    refine wpAny_getItem_list_slice ht.isList (Heap.IsSliceOf.new _ wl wu ws) pl pu ps (by decide) ?_ (by rw [List.size_toArray]; omega)
    rw [PySem.W.krv_pick]
    refine ⟨V.ref _, _, J.laid (t' := s4.toks) (o := .lst xs.reverse) (fun b ob q => Heap.get?_push_of_some _ q) (Nat.le_refl _) ?_, rfl, q _ (J.hok.fresh (Nat.le_refl _))⟩
    exact ⟨by rw [List.length_reverse]; exact hz, _, 0, r.reverse, Heap.get?_push_size _ rfl⟩
  · subst ex
    cases r1
    obtain ⟨its, r, ht, hz⟩ := J.tuple hx
    have hl := r.length
    show wpAny (model X.prog X.w) X.A (subscriptTail e (.Slice none none (some (.UnaryOp .USub (.Constant (.int 1) k p1) p2)) p3) (.ref a) (.ref s4.heap.objs.size)) (EP X pins σ Q) X.xe { s4 with heap := s4.heap.push { cls := .type "slice", data := .fields #[wl, wu, ws] } }
    refine tail_any (ops := [.ref a, .ref s4.heap.objs.size]) ht.typeIs (PyProof.Rows.slot_tuple_getitem.lookup) ?_ (by with_unfolding_all rfl)
    refine item_tup_rev ht (Heap.IsSliceOf.new _ wl wu ws) pl pu ps ?_ (by rw [List.size_toArray]; omega)
    refine ⟨V.ref _, _, J.laid (t' := s4.toks) (o := .tup xs.reverse) (fun b ob q => Heap.get?_push_of_some _ q) (Nat.le_refl _) ?_, rfl, q _ (J.hok.fresh (Nat.le_refl _))⟩
    exact ⟨by rw [List.length_reverse]; omega, _, r.reverse, IsTup.new _ _⟩
end Lk
set_option Elab.async false
set_option linter.all false
set_option maxRecDepth 100000
namespace Lk
open PySem PySem.Spec L2
/-! ### in on objects; list(..) that changes -/
def uInO (C : String) (neg : Bool) (ux uo : M PV) (fn : List PV → M PV) : M PV := ux >>= fun x => uo >>= fun o => isIns C o >>= fun _ => noX (fn [o, x]) >>= fun r => match r with
  | .bl b => pure (.bl (b != neg))
  | _ => bad
def uListN (ua : M PV) : M PV := ua >>= fun v => (ask fun A => match pListOf A v with | some (.lst xs) => some xs | _ => none) >>= fun xs => newC (.lst xs)
section
variable {g : Gx} {X : Cx} {W : WX} {εx ε : Ev} {a b c e o i tg iter elt : Expr} {es : List Expr} {ua ub uo ui : M PV} {us : M (List PV)} {pos apos : Pos} {lk : Lks} {F G : Hp} {ρ τ : List Addr} {A A' : Ar} {σ : L2.St} {H : Hp}
theorem s_inO {C : String} {CA : Addr} {neg : Bool} {fn : List PV → M PV} {ta tb : TE} (hC : g.cn C = some CA) (sa : SimE g W ε ta ua) (so : SimE g W ε tb uo) : SimE g W ε (tOp (rInO CA (spU g 2 fn) neg) ta tb) (uInO C neg ua uo fn) := fun lk F ρ A σ H Q hh sr o A' e post =>
    sa.step hh sr e (.of_e post) fun F0 ρ0 A0 H0 v0 x0 k0 h0 rx0 e1 => so.step h0 (sr.mono k0) e1 ((PX.of_e post).mono k0) fun F1 ρ1 A1 H1 v x k1 h1 rx e2 => by
      rcases M.bind_inv e2 with ⟨un, A2, e3, e4⟩ | ⟨c, fs, e3, _⟩
      · obtain ⟨fs, q, _, rfl⟩ := isIns_inv e3
        rcases M.bind_inv e4 with ⟨r, A3, e6, e7⟩ | ⟨c, fs, e6, _⟩
        · obtain ⟨r', zz, e8⟩ := noX_inv e6
          cases zz
          obtain ⟨h, p, dx, vs, rfl, eA, ex, er, eH, rr⟩ := ins_at hC h1 rx q
          subst ex
          refine ⟨p, dx, vs, rfl, eH, lk, F1, ρ1, A2, _, _, A3, rfl, h1, .cons rx (.cons (rx0.mono k1) .nil), e8, fun F4 ρ4 H4 k4 h4 w rw' => ?_⟩
          cases r with
          | bl n =>
            cases e7
            exact ⟨n, rw'.bl_inv, EndE.okX post rfl ((k0.trans k1).trans k4) h4 (.bl _)⟩
          | _ => cases e7
        · obtain ⟨_, zz, _⟩ := noX_inv e6; cases zz
      · obtain ⟨_, _, z, _⟩ := isIns_inv e3; cases z
theorem x_inO {C : String} {CA f : Addr} {k : Nat} {fn : List PV → M PV} (hC : g.cn C = some CA) (hm : Meth X.K CA "__contains__" f) (F : FnR X.prog X.w X.K X.mg X.base (L2.CX X.prog X.w) k f (spU g 2 fn)) (hr : Room k X.A) (ha : XE g X W ε a ua) (hb : XE g X W ε b ub)
    (hm' : behindInMarks .In b = false) : XE g X W ε (.Compare a [.In] [b] pos) (uInO C false ua ub fn) :=
  let ⟨_, q, s⟩ := ha; let ⟨_, p, t⟩ := hb; ⟨_, pe_cmpR (op_inO hm F hr passLAt) q p hm', s_inO hC s t⟩
theorem x_notInO {C : String} {CA f : Addr} {k : Nat} {fn : List PV → M PV} (hC : g.cn C = some CA) (hm : Meth X.K CA "__contains__" f) (F : FnR X.prog X.w X.K X.mg X.base (L2.CX X.prog X.w) k f (spU g 2 fn)) (hr : Room k X.A) (ha : XE g X W ε a ua) (hb : XE g X W ε b ub)
    (hm' : behindInMarks .NotIn b = false) : XE g X W ε (.Compare a [.NotIn] [b] pos) (uInO C true ua ub fn) :=
  let ⟨_, q, s⟩ := ha; let ⟨_, p, t⟩ := hb; ⟨_, pe_cmpR (op_notInO hm F hr passLAt) q p hm', s_inO hC s t⟩
theorem x_listN {n : Str} {p' : Pos} (hK : X.K = g.K) (hg : Gl X n) (hm : X.mg n = none) (hv : bootBuiltins n = some (.type "list")) (ha : XE g X W ε a ua) (hn : n ≠ "__name__" := by decide)
    (hdb : (n == ("__debug__" : Str)) = false := by decide) (hs : starEach [a] X.env = (false, eval a X.env) :: starEach [] X.env := by rfl) (hpl : (backTo pos (starEach [] X.env)).any (·.1) = false := by rfl) : XE g X W ε (.Call (.Name n p') [a] [] pos) (uListN ua) :=
  let ⟨_, p, s⟩ := ha; ⟨_, pe_callTy call_list_of hg hm hv (pa_cons p pa_nil hs) hn hdb hs hpl, fun lk F ρ A σ H Q hh sr o A' e post =>
    s.step hh sr e (.of_e post) fun F1 ρ1 A1 H1 v x k1 h1 rx e2 => by
      rcases M.bind_inv e2 with ⟨xs, A2, e3, e4⟩ | ⟨c, fs, e3, _⟩
      · obtain ⟨xs', ez, zz, rfl⟩ := ask_inv e3
        cases zz
        cases e4
        have go : ∀ vs, RpL g F1 ρ1 vs xs → ∀ l, H1 l = none → Q (.ref l) (upd H1 l (.lst vs)) := fun vs r l hl => by
          obtain ⟨h2, k2⟩ := h1.cells (o := .lst vs) (c := .lst xs) hl ⟨vs, rfl, r⟩
          exact EndE.okX post rfl (k1.trans k2) h2 (.m (by rw [← h1.len]; simp))
        unfold pListOf at ez
        split at ez
        · rename_i ys q1
          split at q1
          · rename_i zs q2
            cases q1; cases ez
            obtain ⟨p, vs, rfl, e1, r1⟩ := lst_at h1 rx q2
            exact ⟨p, vs, rfl, .inl (by rw [hK]; exact e1), go vs r1⟩
          · rename_i zs q2
            cases q1; cases ez
            obtain ⟨p, vs, rfl, e1, r1⟩ := tup_at h1 rx q2
            exact ⟨p, vs, rfl, .inr (by rw [hK]; exact SqT.of e1), go vs r1⟩
          · cases q1
        · cases ez
      · obtain ⟨_, _, z, _⟩ := ask_inv e3; cases z⟩
def pRevA (A : Ar) (v : PV) : Option PV := match dr A v with
  | .lst xs => some (.lst xs.reverse)
  | .tup xs => some (.tup xs.reverse)
  | _ => none
theorem x_revA {k : Nat} {p1 p2 p3 : Pos} (hK : X.K = g.K) (ha : XE g X W ε a ua) : XE g X W ε (.Subscript a (.Slice none none (some (.UnaryOp .USub (.Constant (.int 1) k p1) p2)) p3) pos) (u1 pRevA ua) :=
  let ⟨ta, p, s⟩ := ha; ⟨fun σ H Q => ta σ H fun x H1 => (∃ a xs, x = .ref a ∧ SqL X.K H1 a xs ∧ ∀ p, H1 p = none → Q (.ref p) (upd H1 p (.lst xs.reverse))) ∨ ∃ a xs, x = .ref a ∧ SqT X.K H1 a xs ∧ ∀ p, H1 p = none → Q (.ref p) (upd H1 p (.tup xs.reverse)),
    rev_or p, fun lk F ρ A σ H Q hh sr o A' e post =>
    s.step hh sr e (.of_e post) fun F1 ρ1 A1 H1 v x k1 h1 rx e2 => by
      obtain ⟨z, ez, rfl, rfl⟩ := ask_inv e2
      unfold pRevA at ez
      split at ez
      · rename_i xs q1; cases ez
        obtain ⟨a, vs, rfl, e1, r1⟩ := lst_at h1 rx q1
        exact .inl ⟨a, vs, rfl, by rw [hK]; exact e1, new_lst h1 r1.reverse fun F' H' k h z r => EndE.okX post rfl (k1.trans k) h r⟩
      · rename_i xs q1; cases ez
        obtain ⟨a, vs, rfl, e1, r1⟩ := tup_at h1 rx q1
        exact .inr ⟨a, vs, rfl, by rw [hK]; exact SqT.of e1, new_tup h1 r1.reverse fun F' H' k h z r => EndE.okX post rfl (k1.trans k) h r⟩
      · cases ez⟩
/-- the same comparisons as tests -/
theorem pt_cmpO {op : CmpOp} {CA f : Addr} {k : Nat} {sp : Sp} {E : L2.St → XK} {ta tb : TE} (hop : ∀ a b, compareOp op a b = richCompare op a b) (hm : Meth X.K CA (cmpInfo op).2.1 f) (F : FnR X.prog X.w X.K X.mg X.base (L2.CX X.prog X.w) k f sp) (hr : Room k X.A) (hx : ∀ σ, PassesAt (L2.CX X.prog X.w) X σ (E σ)) (ha : PE X a ta) (hb : PE X b tb)
    (hb' : behindInMarks op b = false) : PT X (.Compare a [op] [b] pos) (tTest (tBinO X.K CA sp E ta tb)) := ⟨fun pins s σ H Q I h => by
  refine wpAny_isTrue_Compare1 (thn (ha.run pins s σ H _ I h) fun v s1 ⟨x, H1, I1, rx, q1⟩ => thn (hb.run pins s1 σ H1 _ I1 q1) fun u s2 ⟨y, H2, I2, ry, q⟩ => ?_) hb'
  obtain ⟨p, dx, fs, rfl, ep, hy, q⟩ := q
  cases rx
  obtain ⟨od, J⟩ := inst_at I2 ep
  obtain ⟨m, hF⟩ := I2.fr
  have go := wpAny_mono (run_in (us := [.ref p, u]) (vs := [.ref p, y]) F hr rfl (hx σ) I2 (.cons rfl (.cons ry .nil)) q) (fun _ _ z => ep_back z) fun _ _ z => z
  have fin : ∀ (c : Value) (s3 : Shared), EP X pins σ (fun x H' => ∃ k, x = .bl k ∧ Q k H') c s3 → wpAny (model X.prog X.w) X.A (truthy c) (fun k s' => ∃ H', Inv X pins σ H' s' ∧ Q k H') X.xe s3 := fun c s3 z => by
    obtain ⟨z, H3, I3, r3, k, e, q3⟩ := z
    subst e
    cases r3
    exact wpAny_truthy_bool ⟨H3, I3, q3⟩
  refine thn ?_ fin
  rw [hop]
  rcases hy with ⟨T, hT, ty⟩ | ⟨q2, dy, gs, rfl, eq⟩
  · exact PySem.W.cmp_K hr.units0 hF I2.ok.mod.kin J (look_ty I2 ry ty) (by unfold PySem.W.notFirst; rw [sub_own hT]; simp) hm.at_ hm.fn go
  · cases ry
    obtain ⟨od', J'⟩ := inst_at I2 eq
    exact PySem.W.cmp_K hr.units0 hF I2.ok.mod.kin J J'.type (by simp [PySem.W.notFirst]) hm.at_ hm.fn go⟩
theorem t_cmpO {op : CmpOp} {C : String} {CA f : Addr} {k : Nat} {fn : List PV → M PV} (hop : ∀ a b, compareOp op a b = richCompare op a b) (hK : X.K = g.K) (hC : g.cn C = some CA) (hm : Meth X.K CA (cmpInfo op).2.1 f) (F : FnR X.prog X.w X.K X.mg X.base (L2.CX X.prog X.w) k f (spU g 2 fn)) (hr : Room k X.A)
    (hx : ∀ σ, PassesAt (L2.CX X.prog X.w) X σ (fun cls d H => W cls d σ H)) (ha : XE g X W ε a ua) (hb : XE g X W ε b ub) (hb' : behindInMarks op b = false) : XT g X W ε (.Compare a [op] [b] pos) (uBinO C ua ub fn >>= asB) :=
  let ⟨_, q, s⟩ := ha; let ⟨_, p, t⟩ := hb; ⟨_, pt_cmpO (E := fun σ cls d H => W cls d σ H) hop hm F hr hx q p hb', .of (s_binO (k := k) (f := f) hK hC s t)⟩
theorem t_inO {C : String} {CA f : Addr} {k : Nat} {fn : List PV → M PV} (hC : g.cn C = some CA) (hm : Meth X.K CA "__contains__" f) (F : FnR X.prog X.w X.K X.mg X.base (L2.CX X.prog X.w) k f (spU g 2 fn)) (hr : Room k X.A) (ha : XE g X W ε a ua) (hb : XE g X W ε b ub)
    (hm' : behindInMarks .In b = false) : XT g X W ε (.Compare a [.In] [b] pos) (uInO C false ua ub fn >>= asB) :=
  let ⟨_, q, s⟩ := ha; let ⟨_, p, t⟩ := hb; ⟨_, pt_cmpR (op_inO hm F hr passLAt) q p hm', .of (s_inO hC s t)⟩
theorem t_notInO {C : String} {CA f : Addr} {k : Nat} {fn : List PV → M PV} (hC : g.cn C = some CA) (hm : Meth X.K CA "__contains__" f) (F : FnR X.prog X.w X.K X.mg X.base (L2.CX X.prog X.w) k f (spU g 2 fn)) (hr : Room k X.A) (ha : XE g X W ε a ua) (hb : XE g X W ε b ub)
    (hm' : behindInMarks .NotIn b = false) : XT g X W ε (.Compare a [.NotIn] [b] pos) (uInO C true ua ub fn >>= asB) :=
  let ⟨_, q, s⟩ := ha; let ⟨_, p, t⟩ := hb; ⟨_, pt_cmpR (op_notInO hm F hr passLAt) q p hm', .of (s_inO hC s t)⟩
/-- x is True, x is False -/
def pIsB (A : Ar) (v w : PV) : Option PV := match v, w with
  | .bl a, .bl b => some (.bl (decide (a = b)))
  | _, _ => none
def pNotB (A : Ar) (v w : PV) : Option PV := match v, w with
  | .bl a, .bl b => some (.bl (!decide (a = b)))
  | _, _ => none
theorem v2_isB : V2 g rIsB pIsB := fun lk F ρ A H x y v w z Q hh rx ry e q => by
  unfold pIsB at e
  split at e
  · cases e
    exact ⟨_, _, rx.bl_inv, ry.bl_inv, q F H (.refl F ρ) hh _ (.bl _)⟩
  · cases e
theorem v2_notB : V2 g rNotB pNotB := fun lk F ρ A H x y v w z Q hh rx ry e q => by
  unfold pNotB at e
  split at e
  · cases e
    exact ⟨_, _, rx.bl_inv, ry.bl_inv, q F H (.refl F ρ) hh _ (.bl _)⟩
  · cases e
end
end Lk
set_option Elab.async false
set_option linter.all false
set_option maxRecDepth 100000
namespace Lk
open PySem PySem.Spec L2
/-! ### lists of lists that change: enumerate, comprehensions as values, == by what the cells hold -/
def listD (f : PV → Option PyData) : List PV → Option (List PyData)
  | [] => some []
  | x :: xs => match f x, listD f xs with
    | some d, some ds => some (d :: ds)
    | _, _ => none
def toDA : Nat → Ar → PV → Option PyData
  | 0, _, _ => none
  | n + 1, A, v => match dr A v with
    | .non => some .none
    | .bl b => some (.bool b)
    | .int i => some (.int i)
    | .str z => some (.str z)
    | .lst xs => (listD (toDA n A) xs).map .list
    | .tup xs => (listD (toDA n A) xs).map .tuple
    | _ => none
def pEqA (A : Ar) (v w : PV) : Option PV := match toDA 64 A v, toDA 64 A w with
  | some d, some e => if SeqAt.shaped d = true ∧ SeqAt.shaped e = true then some (.bl (PyData.eqv d e)) else none
  | _, _ => none
def pNeA (A : Ar) (v w : PV) : Option PV := match toDA 64 A v, toDA 64 A w with
  | some d, some e => if SeqAt.shaped d = true ∧ SeqAt.shaped e = true then some (.bl (!PyData.eqv d e)) else none
  | _, _ => none
def uEnumA (ua : M PV) : M (List PV) := ua >>= fun v => ask fun A => (seqA A v).map (numbered 0)
section
variable {g : Gx} {X : Cx} {W : WX} {εx ε : Ev} {a b c e o i tg iter elt : Expr} {es : List Expr} {ua ub uo ui : M PV} {us : M (List PV)} {pos apos : Pos} {lk : Lks} {F G : Hp} {ρ τ : List Addr} {A A' : Ar} {σ : L2.St} {H : Hp}
variable {α β γ δ : Type}
theorem listD_at {f : PV → Option PyData} (h : ∀ {x : V} {v : PV} {d : PyData}, Rp g F ρ x v → f v = some d → Dp g.K H x d) : ∀ {xs : List V} {vs : List PV} {ds : List PyData}, RpL g F ρ xs vs → listD f vs = some ds → DpAll g.K H xs ds
  | _, _, _, .nil, e => by cases e; exact .nil
  | _, _, _, .cons (x := y) (xs := ys) r rs, e => by
    unfold listD at e
    cases q : f y with
    | none => rw [q] at e; cases e
    | some d =>
      cases q2 : listD f ys with
      | none => rw [q, q2] at e; cases e
      | some ds => rw [q, q2] at e; cases e; exact .cons (h r q) (listD_at h rs q2)
theorem dpA_at (hh : HR g lk F ρ A H) : ∀ (n : Nat) {x : V} {v : PV} {d : PyData}, Rp g F ρ x v → toDA n A v = some d → Dp g.K H x d
  | 0, _, _, _, _, e => by cases e
  | n + 1, x, v, d, r, e => by
    unfold toDA at e
    have base : ∀ u : PV, (∀ h, u ≠ .m h) → dr A v = u → Rp g F ρ x u ∨ ∃ xs, u = .lst xs := fun u hu q => by
      cases v with
      | m h =>
        unfold dr at q
        simp only at q
        split at q
        · exact .inr ⟨_, q.symm⟩
        · exact (hu _ q.symm).elim
      | _ => rw [← q]; exact .inl r
    split at e
    · rename_i q; cases e
      rcases base _ (fun h z => by cases z) q with r | ⟨_, z⟩
      · cases r; exact .non
      · cases z
    · rename_i b q; cases e
      rcases base _ (fun h z => by cases z) q with r | ⟨_, z⟩
      · cases r; exact .bl b
      · cases z
    · rename_i i q; cases e
      rcases base _ (fun h z => by cases z) q with r | ⟨_, z⟩
      · cases r; exact .int i
      · cases z
    · rename_i i q; cases e
      rcases base _ (fun h z => by cases z) q with r | ⟨_, z⟩
      · cases r; exact .str i
      · cases z
    · rename_i xs q
      cases q2 : listD (toDA n A) xs with
      | none => rw [q2] at e; cases e
      | some ds =>
        rw [q2] at e; cases e
        obtain ⟨a, vs, rfl, e1, r1⟩ := lst_at hh r q
        exact .lst e1 (listD_at (dpA_at hh n) r1 q2)
    · rename_i xs q
      cases q2 : listD (toDA n A) xs with
      | none => rw [q2] at e; cases e
      | some ds =>
        rw [q2] at e; cases e
        obtain ⟨a, vs, rfl, e1, r1⟩ := tup_at hh r q
        exact .tup (SqT.of e1) (listD_at (dpA_at hh n) r1 q2)
    · cases e
theorem v2_eqA : V2 g (fun x y H Q => rEq x y H Q ∨ rEqD g.K x y H Q) pEqA := fun lk F ρ A H x y v w z Q hh rx ry e q => by
  unfold pEqA at e
  split at e
  · rename_i d d' e1 e2
    split at e
    · rename_i hc
      cases e
      exact .inr ⟨d, d', dpA_at hh 64 rx e1, dpA_at hh 64 ry e2, hc.1, hc.2, q F H (.refl F ρ) hh _ (.bl _)⟩
    · cases e
  · cases e
theorem v2_neA : V2 g (fun x y H Q => rNe x y H Q ∨ rNeD g.K x y H Q) pNeA := fun lk F ρ A H x y v w z Q hh rx ry e q => by
  unfold pNeA at e
  split at e
  · rename_i d d' e1 e2
    split at e
    · rename_i hc
      cases e
      exact .inr ⟨d, d', dpA_at hh 64 rx e1, dpA_at hh 64 ry e2, hc.1, hc.2, q F H (.refl F ρ) hh _ (.bl _)⟩
    · cases e
  · cases e
theorem it_enumL {a : Addr} {od : Obj} {vs : List V} {xs : List PV} (m : (a, .frz od (.lst vs), true) ∈ lk) (r : RpL g F ρ vs xs) : ItOk g lk (Ite g.K a) F ρ (numbered 0 xs) where
  go lk' F' ρ' A H i sub k hh hi := by
    rw [numbered_len] at hi
    have hq : SqL g.K H a vs := .inl (.inr ⟨od, (hh.lks _ (sub _ m)).1⟩)
    obtain ⟨v, hv, rv⟩ := r.get (i := i) (x := xs[i]) (List.getElem?_eq_getElem hi)
    exact ⟨⟨vs, v, hq, hv⟩, fun x H' ⟨T, z, e1, e2, e3, e4⟩ => by
      subst e1 e3
      have := e4 vs hq
      rw [hv] at this; cases this
      obtain ⟨h2, k2⟩ := hh.frozen (o := .tup [.int (i : Nat), v]) e2
      refine ⟨_, k2, h2, _, numbered_at 0 xs i xs[i] (List.getElem?_eq_getElem hi), .tup upd_same ?_⟩
      rw [Nat.zero_add]
      exact .cons (.int _) (.cons ((rv.mono k).mono k2) .nil)⟩
  stop lk' F' ρ' A H i sub k hh hi := by
    rw [numbered_len] at hi
    exact ⟨vs, .inl (.inr ⟨od, (hh.lks _ (sub _ m)).1⟩), by rw [r.length]; exact Nat.le_of_eq hi⟩
theorem i_enumA {p tp : Pos} {elts : List Expr} {kk : Nat} (hK : X.K = g.K) (hg : Gl X "enumerate") (hm : X.mg "enumerate" = none) (ha : XE g X W ε a ua) (hs : starEach [a] X.env = [(false, eval a X.env)] := by rfl) (hs' : starEach [a] X.env = (false, eval a X.env) :: starEach [] X.env := by rfl) :
    XI g X W ε (.Tuple elts kk tp) (.Call (.Name "enumerate" p) [a] [] pos) (uEnumA ua) :=
  let ⟨_, p, s⟩ := ha; ⟨_, PI.or (pi_enum hg hm (pa_cons p pa_nil hs') hs) (pi_enumT hg hm (pa_cons p pa_nil hs') hs), fun lk F ρ A σ H R hh sr β k o A' e px nx => by
    unfold uEnumA at e
    rw [M.bind_assoc'] at e
    cases q : ua A with
    | none => rw [M.bind_app, q] at e; cases e
    | some z =>
      obtain ⟨z1, z2⟩ := z
      cases z1 with
      | ex c fs =>
        obtain ⟨rfl, rfl⟩ := bd_ex q e
        exact .inl (s lk F ρ A σ H _ hh sr _ _ q fun F1 ρ1 H1 k1 h1 => px c fs rfl F1 ρ1 H1 k1 h1)
      | ok v =>
        have e := bd_ok q e
        rcases M.bind_inv e with ⟨xs, A3, e3, e4⟩ | ⟨c, fs, e3, _⟩
        · obtain ⟨xs', ez, zz, rfl⟩ := ask_inv e3
          cases zz
          cases v with
          | lst ys =>
            cases ez
            refine .inl (s lk F ρ A σ H _ hh sr _ _ q fun F1 ρ1 H1 k1 h1 x rx => ?_)
            cases rx with | lst hp r =>
            exact ⟨_, _, rfl, SqL.of (h1.sub _ _ hp), by rw [hK]; exact nx F1 ρ1 A3 H1 _ _ k1 h1 (it_enum hp r) e4⟩
          | tup ys =>
            cases ez
            refine .inr (s lk F ρ A σ H _ hh sr _ _ q fun F1 ρ1 H1 k1 h1 x rx => ?_)
            cases rx with | tup hp r =>
            exact ⟨_, _, rfl, SqT.of (h1.sub _ _ hp), by rw [hK]; exact nx F1 ρ1 A3 H1 _ _ k1 h1 (it_enumT hp r) e4⟩
          | m h =>
            refine .inl (s lk F ρ A σ H _ hh sr _ _ q fun F1 ρ1 H1 k1 h1 x rx => ?_)
            cases eA : A3[h]? with
            | none => unfold seqA at ez; simp only [eA] at ez; cases ez
            | some cc =>
              cases cc with
              | none => unfold seqA at ez; simp only [eA] at ez; cases ez
              | some lc =>
                obtain ⟨l, cl⟩ := lc
                cases l with
                | false => unfold seqA at ez; simp only [eA] at ez; cases ez
                | true =>
                  cases cl with
                  | lst ys =>
                    have ez : (some ys).map (numbered 0) = some xs := by have := ez; unfold seqA at this; simpa only [eA] using this
                    cases ez
                    cases rx with | m er =>
                    rename_i a
                    obtain ⟨od, u, m⟩ := h1.lck _ _ _ eA er
                    obtain ⟨b, ob, f1, f2, ⟨vs, rfl, rr⟩, f4, _⟩ := h1.cell _ _ _ eA
                    rw [er] at f1; cases f1
                    have hH := (h1.lks _ m).1
                    have eu : u = .lst vs := by
                      rcases f4 with z | ⟨od2, z⟩
                      · rw [hH] at z; cases z
                      · rw [hH] at z; cases z; rfl
                    subst eu
                    exact ⟨a, vs, rfl, .inl (.inr ⟨od, hH⟩), by rw [hK]; exact nx F1 ρ1 A3 H1 _ _ k1 h1 (it_enumL m rr) e4⟩
                  | _ => unfold seqA at ez; simp only [eA] at ez; cases ez
          | _ => cases ez
        · obtain ⟨_, _, zz, _⟩ := ask_inv e3; cases zz⟩
theorem b_subA {εx ε : Ev} {rest : List Stmt} {spos : Pos} {L : β → Ev} {Ll : γ → Ev} {k : M (Fl β γ)} (hx : SubL ε εx) (hu : X.A.units + 1 < cLine) (ha : XE g X W ε a ua) (ho : XE g X W ε o uo) (hi : XE g X W ε i ui) (hr : XB g X W εx ε rest L Ll k)
    (hb : ∀ ta to ti, PE X a ta → PE X o to → PE X i ti → PS X (.Assign [.Subscript o i pos] a spos) (tAsg ta (gSub to ti rSetU))) : XB g X W εx ε (.Assign [.Subscript o i pos] a spos :: rest) L Ll (ua >>= fun v => uo >>= fun o => ui >>= fun i => setM o i v >>= fun _ => k) :=
  b_sub hx hu ha ho hi hr hb
end
end Lk
set_option Elab.async false
set_option linter.all false
set_option maxRecDepth 100000
namespace Lk
open PySem L2
namespace K18
noncomputable def b_is_name (a0 : PV) : M (Fl Unit Empty) := ((uOr (uNot (uTru (u1 (pIsi "str") (pure a0)))) (uNot ((uChain pLe pLe (pure (.int 1)) (u1 pLen (pure a0)) (pure (.int 8))) >>= asB))) >>= fun b1 => if b1 = true then exits
      ((pure (.bl false)) >>= fun v2 => pure (.rt v2))
      else
      ((uAndV (u2 pIn (u2 pIx (pure a0) (pure (.int 0))) (pure (.str ("abcdefghijklmnopqrstuvwxyz" : Str)))) (u1 pAll (uLc (uSigns (pure a0)) (fun v => opt ((fun v => some v) v) >>= fun z3 => uElt (pure true) (u2 pIn (pure z3) (pure (.str ("abcdefghijklmnopqrstuvwxyz0123456789" : Str)))))))) >>= fun v4 => pure (.rt v4)))
noncomputable def u_is_name (a0 : PV) : M PV := uDef (b_is_name a0)
noncomputable def b_is_integer (a0 : PV) : M (Fl Unit Empty) := ((uAndV (u1 (pIsi "int") (pure a0)) (uNotV (u1 (pIsi "bool") (pure a0)))) >>= fun v1 => pure (.rt v1))
noncomputable def u_is_integer (a0 : PV) : M PV := uDef (b_is_integer a0)
noncomputable def b_refuse_strangers (a0 a1 : PV) : M (Fl Unit Empty) := (uSeq (((uItems (pure a0)) >>= fun q5 => uFor (fun v (j1 : Unit) => opt ((fun v => some v) v) >>= fun x2 =>
      ((uOr (uNot (uTru (u1 (pIsi "str") (pure x2)))) ((u2 pNotIn (pure x2) (pure a1)) >>= asB)) >>= fun b3 => if b3 = true then
        ((pure x2) >>= fun v4 => exM "NoFile" (some [(("name" : Str), v4)]))
        else
        (pure (.nx ())))) q5 ())) fun j1 =>
      (pure (.nx ())))
noncomputable def u_refuse_strangers (a0 a1 : PV) : M PV := uDef (b_refuse_strangers a0 a1)
noncomputable def b_Bounds___init__ (a0 a1 : PV) : M (Fl Unit Empty) := (uSeq (uLockL (pure a1) ((uItemsA (pure a1)) >>= fun q5 => uFor (fun v (j1 : Unit) => opt ((fun v => some v) v) >>= fun x2 =>
      ((uNot (uTru (uCall (uCons (pure x2) (pure [])) (fn1 u_is_name)))) >>= fun b3 => if b3 = true then
        ((pure x2) >>= fun v4 => exM "BadName" (some [(("name" : Str), v4)]))
        else
        (pure (.nx ())))) q5 ())) fun j1 =>
      (uSeq (uLockL (pure a1) ((uEnumA (pure a1)) >>= fun q10 => uFor (fun v (j6 : Unit) => opt (dTup2 v) >>= fun x7 =>
      (((u2 pIn (pure x7.2) (uSl (pure a1) (pure none) (uPart (pure x7.1)))) >>= asB) >>= fun b8 => if b8 = true then
        ((pure x7.2) >>= fun v9 => exM "NameTaken" (some [(("name" : Str), v9)]))
        else
        (pure (.nx ())))) q10 ())) fun j6 =>
      ((u1 pTupOf (pure a1)) >>= fun e13 => (pure a0) >>= fun o14 => setFM "Bounds" ("_names" : Str) o14 e13 >>= fun _ =>
      ((newC (.dT [])) >>= fun e11 => (pure a0) >>= fun o12 => setFM "Bounds" ("_entries" : Str) o12 e11 >>= fun _ =>
      (pure (.nx ()))))))
noncomputable def u_Bounds___init__ (a0 a1 : PV) : M PV := uDef (b_Bounds___init__ a0 a1)
noncomputable def b_Bounds_names (a0 : PV) : M (Fl Unit Empty) := ((uFld "Bounds" ("_names" : Str) (pure a0)) >>= fun v1 => pure (.rt v1))
noncomputable def u_Bounds_names (a0 : PV) : M PV := uDef (b_Bounds_names a0)
noncomputable def b_Bounds___len__ (a0 : PV) : M (Fl Unit Empty) := ((u1 pLen (uFld "Bounds" ("_names" : Str) (pure a0))) >>= fun v1 => pure (.rt v1))
noncomputable def u_Bounds___len__ (a0 : PV) : M PV := uDef (b_Bounds___len__ a0)
noncomputable def b_Bounds___getitem__ (a0 a1 : PV) : M (Fl Unit Empty) := ((pure a1) >>= fun v2 => opt (dTup2 v2) >>= fun z1 =>
      ((uCall (uCons (uTup (uCons (pure z1.1) (uCons (pure z1.2) (pure [])))) (uCons (uFld "Bounds" ("_names" : Str) (pure a0)) (pure []))) (fn2 u_refuse_strangers)) >>= fun _ =>
      (((u2 pEq (pure z1.1) (pure z1.2)) >>= asB) >>= fun b3 => if b3 = true then exits
      ((pure (.int 0)) >>= fun v4 => pure (.rt v4))
      else
      ((uGet1 (uFld "Bounds" ("_entries" : Str) (pure a0)) (uTup (uCons (pure z1.1) (uCons (pure z1.2) (pure []))))) >>= fun v5 => pure (.rt v5)))))
noncomputable def u_Bounds___getitem__ (a0 a1 : PV) : M PV := uDef (b_Bounds___getitem__ a0 a1)
noncomputable def b_Bounds___setitem__ (a0 a1 a2 : PV) : M (Fl Unit Empty) := ((pure a1) >>= fun v2 => opt (dTup2 v2) >>= fun z1 =>
      ((uCall (uCons (uTup (uCons (pure z1.1) (uCons (pure z1.2) (pure [])))) (uCons (uFld "Bounds" ("_names" : Str) (pure a0)) (pure []))) (fn2 u_refuse_strangers)) >>= fun _ =>
      (((u2 pEq (pure z1.1) (pure z1.2)) >>= asB) >>= fun b3 => if b3 = true then exits
      ((pure z1.1) >>= fun v4 => exM "SameFile" (some [(("name" : Str), v4)]))
      else
      ((uAnd ((u2 pIsN (pure a2) (pure .non)) >>= asB) (uNot (uTru (uCall (uCons (pure a2) (pure [])) (fn1 u_is_integer))))) >>= fun b5 => if b5 = true then exits
      ((pure a2) >>= fun v6 => exM "BadNumber" (some [(("value" : Str), v6)]))
      else
      (((u2 pIs (pure a2) (pure .non)) >>= asB) >>= fun b7 => if b7 = true then
      ((uPopT (uFld "Bounds" ("_entries" : Str) (pure a0)) (uTup (uCons (pure z1.1) (uCons (pure z1.2) (pure [])))) (pure .non)) >>= fun _ =>
        (pure (.nx ())))
      else
      ((pure a2) >>= fun e8 => (uFld "Bounds" ("_entries" : Str) (pure a0)) >>= fun o9 => (uTup (uCons (pure z1.1) (uCons (pure z1.2) (pure [])))) >>= fun i10 => setM o9 i10 e8 >>= fun _ =>
        (pure (.nx ()))))))))
noncomputable def u_Bounds___setitem__ (a0 a1 a2 : PV) : M PV := uDef (b_Bounds___setitem__ a0 a1 a2)
noncomputable def b__law_cell (a0 a1 : PV) : M (Fl Unit Empty) := (((u2 pLt (pure a1) (u1 pLen (pure a0))) >>= asB) >>= fun b1 => if b1 = true then exits
      ((u2 pIx (pure a0) (pure a1)) >>= fun v2 => pure (.rt v2))
      else
      ((pure (.int 0)) >>= fun v3 => pure (.rt v3)))
noncomputable def u__law_cell (a0 a1 : PV) : M PV := uDef (b__law_cell a0 a1)
noncomputable def b__law_pool (a0 : PV) : M (Fl Unit Empty) := ((u2 pMul (pure (.int 2)) (pure a0)) >>= fun v1 =>
      (uSeq (((u2 pLt (pure a0) (pure (.int 0))) >>= asB) >>= fun b2 => if b2 = true then
      ((u2 pSub (u2 pSub (pure (.int 0)) (u2 pMul (pure (.int 2)) (pure a0))) (pure (.int 1))) >>= fun v4 =>
        (pure (.nx v4)))
      else
      (pure (.nx v1))) fun (j3 : PV) =>
      (((u2 pGe (pure j3) (u2 pPow (pure (.int 10)) (pure (.int 18)))) >>= asB) >>= fun b5 => if b5 = true then exits
      ((uNewL (uCons (pure j3) (uCons (u2 pMod (u1 pInt (pure j3)) (pure (.int 1000000007))) (uCons (pure (.int 0)) (pure []))))) >>= fun v6 => pure (.rt v6))
      else
      ((uNewL (uCons (pure (.int 0)) (uCons (u2 pMod (u1 pInt (pure j3)) (pure (.int 1000000007))) (uCons (pure (.int 0)) (pure []))))) >>= fun v7 => pure (.rt v7)))))
noncomputable def u__law_pool (a0 : PV) : M PV := uDef (b__law_pool a0)
noncomputable def b__law_take (a0 a1 : PV) : M (Fl Unit Empty) := (((u2 pGt (u2 pIx (pure a0) (pure (.int 0))) (pure (.int 0))) >>= asB) >>= fun b1 => if b1 = true then exits
      ((u2 pMod (u1 pInt (u2 pIx (pure a0) (pure (.int 0)))) (pure a1)) >>= fun v2 =>
        ((u2 pDiv (u2 pIx (pure a0) (pure (.int 0))) (pure a1)) >>= fun e4 => (pure a0) >>= fun o5 => (pure (.int 0)) >>= fun i6 => setM o5 i6 e4 >>= fun _ =>
        ((pure v2) >>= fun v3 => pure (.rt v3))))
      else
      ((u2 pAdd (u2 pIx (pure a0) (pure (.int 2))) (pure (.int 1))) >>= fun e9 => (pure a0) >>= fun o10 => (pure (.int 2)) >>= fun i11 => setM o10 i11 e9 >>= fun _ =>
      ((u2 pMod (u1 pInt (u2 pPow (u2 pAdd (u2 pAdd (u2 pIx (pure a0) (pure (.int 1))) (u2 pMul (pure (.int 7919)) (u2 pIx (pure a0) (pure (.int 2))))) (pure (.int 104729))) (pure (.int 5)))) (pure (.int 2147483647))) >>= fun v7 =>
      ((u2 pMod (u2 pMod (u1 pInt (u2 pMul (u2 pAdd (pure v7) (u2 pIx (pure a0) (pure (.int 2)))) (pure (.int 40692)))) (pure (.int 2147483629))) (pure a1)) >>= fun v8 => pure (.rt v8)))))
noncomputable def u__law_take (a0 a1 : PV) : M PV := uDef (b__law_take a0 a1)
noncomputable def b__law_names (a0 a1 : PV) : M (Fl Unit Empty) := ((pure (.str ("abcdefghijklmnopqrstuvwxyz" : Str))) >>= fun v1 =>
      ((u2 pAdd (pure v1) (pure (.str ("0123456789" : Str)))) >>= fun v2 =>
      ((u2 pIx (pure v1) (uCall (uCons (pure a0) (uCons (pure (.int 26)) (pure []))) (fn2 u__law_take))) >>= fun v3 =>
      (uSeq (((uRange1 (pure (.int 7))) >>= fun q7 => uFor (fun v (j4 : PV) => opt ((fun v => some v) v) >>= fun x5 =>
      ((u2 pAdd (pure j4) (u2 pIx (pure v2) (uCall (uCons (pure a0) (uCons (pure (.int 36)) (pure []))) (fn2 u__law_take)))) >>= fun v6 =>
        (pure (.nx v6)))) q7 v3)) fun j4 =>
      (((u2 pEq (uCall (uCons (pure a0) (uCons (pure (.int 3)) (pure []))) (fn2 u__law_take)) (pure (.int 0))) >>= asB) >>= fun b8 => if b8 = true then exits
      ((uLc (uRange1 (pure a1)) (fun v => opt ((fun v => some v) v) >>= fun z9 => uElt (pure true) (uSl (pure j4) (pure none) (uPart (u2 pAdd (pure z9) (pure (.int 1))))))) >>= fun v10 => pure (.rt v10))
      else
      ((uSl (pure j4) (pure none) (uPart (uCall (uCons (pure a0) (uCons (pure (.int 8)) (pure []))) (fn2 u__law_take)))) >>= fun v11 =>
      ((uCall (uCons (pure a0) (uCons (u2 pAdd (u1 pLen (pure v11)) (pure (.int 1))) (pure []))) (fn2 u__law_take)) >>= fun v12 =>
      ((uIfE ((u2 pEq (pure v12) (pure (.int 0))) >>= asB) (pure v1) (pure v2)) >>= fun v13 =>
      ((uCall (uCons (pure a0) (uCons (pure (.int 36)) (pure []))) (fn2 u__law_take)) >>= fun v14 =>
      ((uNewL (pure [])) >>= fun v15 =>
      (uSeq (((uRange1 (pure a1)) >>= fun q19 => uFor (fun v (j16 : Unit) => opt ((fun v => some v) v) >>= fun x17 =>
      ((u2 pIx (pure v13) (u2 pMod (u2 pAdd (pure v14) (u2 pMul (pure (.int 7)) (pure x17))) (u1 pLen (pure v13)))) >>= fun v18 =>
        ((uAppend (pure v15) (u2 pAdd (u2 pAdd (uSl (pure v11) (pure none) (uPart (pure v12))) (pure v18)) (uSl (pure v11) (uPart (pure v12)) (pure none)))) >>= fun _ =>
        (pure (.nx ()))))) q19 ())) fun j16 =>
      (freezeM v15 >>= fun w20 =>
      ((pure w20) >>= fun v21 => pure (.rt v21))))))))))))))
noncomputable def u__law_names (a0 a1 : PV) : M PV := inner [a0, a1] (uDef (b__law_names a0 a1))
noncomputable def b__law_stranger (a0 a1 : PV) : M (Fl Unit Empty) := ((pure (.str ("q" : Str))) >>= fun v1 =>
      (uSeq (((u2 pNe (pure a1) (uLst (pure []))) >>= asB) >>= fun b2 => if b2 = true then
      ((u2 pIx (pure a1) (uCall (uCons (pure a0) (uCons (u1 pLen (pure a1)) (pure []))) (fn2 u__law_take))) >>= fun v4 =>
        (pure (.nx v4)))
      else
      (pure (.nx v1))) fun (j3 : PV) =>
      ((pure (.str ("abcdefghijklmnopqrstuvwxyz" : Str))) >>= fun v5 =>
      ((uCall (uCons (pure a0) (uCons (pure (.int 26)) (pure []))) (fn2 u__law_take)) >>= fun v6 =>
      (uSeq (((uRange1 (pure (.int 26))) >>= fun q12 => uFor (fun v (j7 : Unit) => opt ((fun v => some v) v) >>= fun x8 =>
      ((u2 pAdd (u2 pIx (pure v5) (u2 pMod (u2 pAdd (pure v6) (pure x8)) (pure (.int 26)))) (uSl (pure j3) (uPart (pure (.int 1))) (pure none))) >>= fun v9 =>
        (((u2 pNotIn (pure v9) (pure a1)) >>= asB) >>= fun b10 => if b10 = true then
        ((pure v9) >>= fun v11 => pure (.rt v11))
        else
        (pure (.nx ()))))) q12 ())) fun j7 =>
      ((pure (.str ("nobody" : Str))) >>= fun v13 => pure (.rt v13)))))))
noncomputable def u__law_stranger (a0 a1 : PV) : M PV := uDef (b__law_stranger a0 a1)
noncomputable def b__law_entries (a0 : PV) : M (Fl Unit Empty) := ((uNewL (pure [])) >>= fun v1 =>
      (uSeq (((uItems (uProp "Bounds" (pure a0) (fn1 u_Bounds_names))) >>= fun q5 => uFor (fun v (j2 : Unit) => opt ((fun v => some v) v) >>= fun x3 =>
      ((uAppend (pure v1) (uLc (uItems (uProp "Bounds" (pure a0) (fn1 u_Bounds_names))) (fun v => opt ((fun v => some v) v) >>= fun z4 => uElt (pure true) (uGetO "Bounds" (pure a0) (uTup (uCons (pure x3) (uCons (pure z4) (pure [])))) (fn2 u_Bounds___getitem__))))) >>= fun _ =>
        (pure (.nx ())))) q5 ())) fun j2 =>
      (freezeM v1 >>= fun w6 =>
      ((pure w6) >>= fun v7 => pure (.rt v7)))))
noncomputable def u__law_entries (a0 : PV) : M PV := inner [a0] (uDef (b__law_entries a0))
noncomputable def b__law_whole (a0 : PV) : M (Fl Unit Empty) := ((uAndV (u1 (pIsi "int") (pure a0)) (uNotV (u1 (pIsi "bool") (pure a0)))) >>= fun v1 => pure (.rt v1))
noncomputable def u__law_whole (a0 : PV) : M PV := uDef (b__law_whole a0)
noncomputable def b__law_refusal (a0 a1 a2 a3 : PV) : M (Fl Unit Empty) := (uSeq (uTryN ["BadName", "NameTaken", "NoFile", "SameFile", "BadNumber"] (((pure a3) >>= fun e2 => (pure a0) >>= fun o3 => (uTup (uCons (pure a1) (uCons (pure a2) (pure [])))) >>= fun i4 => isIns "Bounds" o3 >>= fun _ => fn3 u_Bounds___setitem__ [o3, i4, e2] >>= fun _ =>
        (pure (.nx ())))) [("NoFile", fun ns xs =>
      ((uLst (uCons (pure (.str ("file" : Str))) (uCons (opt ((ns.zip xs).lookup ("name" : Str))) (pure [])))) >>= fun v7 => pure (.rt v7))), ("SameFile", fun ns xs =>
      ((uLst (uCons (pure (.str ("same" : Str))) (uCons (opt ((ns.zip xs).lookup ("name" : Str))) (pure [])))) >>= fun v6 => pure (.rt v6))), ("BadNumber", fun ns xs =>
      ((uLst (uCons (pure (.str ("number" : Str))) (uCons (opt ((ns.zip xs).lookup ("value" : Str))) (pure [])))) >>= fun v5 => pure (.rt v5)))]) fun (j1 : Unit) =>
      ((uLst (pure [])) >>= fun v8 => pure (.rt v8)))
noncomputable def u__law_refusal (a0 a1 a2 a3 : PV) : M PV := uDef (b__law_refusal a0 a1 a2 a3)
noncomputable def b__law_read (a0 a1 a2 : PV) : M (Fl Unit Empty) := (uSeq (uTry ["BadName", "NameTaken", "NoFile", "SameFile", "BadNumber"] "NoFile" (((uLst (uCons (uGetO "Bounds" (pure a0) (uTup (uCons (pure a1) (uCons (pure a2) (pure [])))) (fn2 u_Bounds___getitem__)) (pure []))) >>= fun v2 => pure (.rt v2))) (fun ns xs =>
      ((uLst (uCons (pure (.str ("file" : Str))) (uCons (opt ((ns.zip xs).lookup ("name" : Str))) (pure [])))) >>= fun v3 => pure (.rt v3)))) fun (j1 : Unit) =>
      (pure (.nx ())))
noncomputable def u__law_read (a0 a1 a2 : PV) : M PV := uDef (b__law_read a0 a1 a2)
noncomputable def b__law_twice (a0 a1 : PV) : M (Fl Unit Empty) := (uSeq (uTry ["BadName", "NameTaken", "NoFile", "SameFile", "BadNumber"] "NameTaken" (((uMake "Bounds" (uCons (pure a0) (pure [])) (fn2 u_Bounds___init__)) >>= fun _ =>
        (pure (.nx ())))) (fun ns xs =>
      ((u2 pEq (opt ((ns.zip xs).lookup ("name" : Str))) (pure a1)) >>= fun v2 => pure (.rt v2)))) fun (j1 : Unit) =>
      ((pure (.bl false)) >>= fun v3 => pure (.rt v3)))
noncomputable def u__law_twice (a0 a1 : PV) : M PV := uDef (b__law_twice a0 a1)
noncomputable def b__law_bad (a0 : PV) : M (Fl Unit Empty) := (uSeq (uTry ["BadName", "NameTaken", "NoFile", "SameFile", "BadNumber"] "BadName" (((uMake "Bounds" (uCons (pure a0) (pure [])) (fn2 u_Bounds___init__)) >>= fun _ =>
        (pure (.nx ())))) (fun ns xs =>
      ((u2 pEq (opt ((ns.zip xs).lookup ("name" : Str))) (pure (.str ("B" : Str)))) >>= fun v2 => pure (.rt v2)))) fun (j1 : Unit) =>
      ((pure (.bl false)) >>= fun v3 => pure (.rt v3)))
noncomputable def u__law_bad (a0 : PV) : M PV := uDef (b__law_bad a0)
noncomputable def b__law_refused (a0 a1 a2 a3 a4 : PV) : M (Fl Unit Empty) := ((uCall (uCons (pure a0) (uCons (pure a2) (pure []))) (fn2 u__law_stranger)) >>= fun v1 =>
      ((u2 pIx (uLst (uCons (pure (.bl true)) (uCons (pure (.str ("1" : Str))) (uCons (uTup (uCons (pure (.int 1)) (pure []))) (uCons (pure (.bl false)) (uCons (uLst (uCons (pure (.int 0)) (pure []))) (pure []))))))) (uCall (uCons (pure a0) (uCons (pure (.int 5)) (pure []))) (fn2 u__law_take))) >>= fun v2 =>
      (uSeq (((uRange1 (pure (.int 2))) >>= fun q12 => uFor (fun v (j3 : Unit) => opt ((fun v => some v) v) >>= fun x4 =>
      (((u2 pNe (uCall (uCons (pure a1) (uCons (pure v1) (uCons (pure a4) (uCons (u2 pIx (uLst (uCons (pure (.int 1)) (uCons (pure v2) (pure [])))) (pure x4)) (pure []))))) (fn4 u__law_refusal)) (uLst (uCons (pure (.str ("file" : Str))) (uCons (pure v1) (pure []))))) >>= asB) >>= fun b5 => if b5 = true then exits
        ((pure (.bl false)) >>= fun v6 => pure (.rt v6))
        else
        ((u2 pIx (uLst (uCons (pure .non) (uCons (pure v2) (pure [])))) (pure x4)) >>= fun v7 =>
        (((u2 pNe (uCall (uCons (pure a1) (uCons (pure a3) (uCons (pure v1) (uCons (pure v7) (pure []))))) (fn4 u__law_refusal)) (uLst (uCons (pure (.str ("file" : Str))) (uCons (pure v1) (pure []))))) >>= asB) >>= fun b8 => if b8 = true then exits
        ((pure (.bl false)) >>= fun v9 => pure (.rt v9))
        else
        (((u2 pNe (uCall (uCons (pure a1) (uCons (pure a3) (uCons (pure a3) (uCons (u2 pIx (uLst (uCons (pure (.int 0)) (uCons (pure v2) (pure [])))) (pure x4)) (pure []))))) (fn4 u__law_refusal)) (uLst (uCons (pure (.str ("same" : Str))) (uCons (pure a3) (pure []))))) >>= asB) >>= fun b10 => if b10 = true then
        ((pure (.bl false)) >>= fun v11 => pure (.rt v11))
        else
        (pure (.nx ()))))))) q12 ())) fun j3 =>
      (((u2 pNe (uCall (uCons (pure a1) (uCons (pure v1) (uCons (pure a4) (pure [])))) (fn3 u__law_read)) (uLst (uCons (pure (.str ("file" : Str))) (uCons (pure v1) (pure []))))) >>= asB) >>= fun b13 => if b13 = true then exits
      ((pure (.bl false)) >>= fun v14 => pure (.rt v14))
      else
      (((u2 pNe (uCall (uCons (pure a1) (uCons (pure a3) (uCons (pure v1) (pure [])))) (fn3 u__law_read)) (uLst (uCons (pure (.str ("file" : Str))) (uCons (pure v1) (pure []))))) >>= asB) >>= fun b15 => if b15 = true then exits
      ((pure (.bl false)) >>= fun v16 => pure (.rt v16))
      else
      ((uAnd ((u2 pNe (pure a3) (pure a4)) >>= asB) ((u2 pNe (uCall (uCons (pure a1) (uCons (pure a3) (uCons (pure a4) (uCons (pure v2) (pure []))))) (fn4 u__law_refusal)) (uLst (uCons (pure (.str ("number" : Str))) (uCons (pure v2) (pure []))))) >>= asB)) >>= fun b17 => if b17 = true then exits
      ((pure (.bl false)) >>= fun v18 => pure (.rt v18))
      else
      ((uCall (uCons (pure a0) (uCons (u2 pAdd (pure a2) (uLst (uCons (pure v1) (pure [])))) (pure []))) (fn2 u__law_stranger)) >>= fun v19 =>
      (uSeq (((uItems (uLst (uCons (uTup (uCons (pure v1) (uCons (pure v19) (pure [])))) (uCons (uTup (uCons (pure v19) (uCons (pure v1) (pure [])))) (uCons (uTup (uCons (pure v1) (uCons (pure v1) (pure [])))) (pure [])))))) >>= fun q26 => uFor (fun v (j20 : Unit) => opt (dTup2 v) >>= fun x21 =>
      (((u2 pNe (uCall (uCons (pure a1) (uCons (pure x21.1) (uCons (pure x21.2) (pure [])))) (fn3 u__law_read)) (uLst (uCons (pure (.str ("file" : Str))) (uCons (pure x21.1) (pure []))))) >>= asB) >>= fun b22 => if b22 = true then exits
        ((pure (.bl false)) >>= fun v23 => pure (.rt v23))
        else
        (((u2 pNe (uCall (uCons (pure a1) (uCons (pure x21.1) (uCons (pure x21.2) (uCons (u2 pIx (uLst (uCons (pure (.int 1)) (uCons (pure v2) (pure [])))) (u1 pInt (u2 pEq (pure x21.1) (pure v19)))) (pure []))))) (fn4 u__law_refusal)) (uLst (uCons (pure (.str ("file" : Str))) (uCons (pure x21.1) (pure []))))) >>= asB) >>= fun b24 => if b24 = true then
        ((pure (.bl false)) >>= fun v25 => pure (.rt v25))
        else
        (pure (.nx ()))))) q26 ())) fun j20 =>
      ((uOr (uNot (uTru (uCall (uCons (u2 pAdd (pure a2) (uLst (uCons (pure a3) (uCons (pure (.str ("B" : Str))) (pure []))))) (pure [])) (fn1 u__law_bad)))) (uNot (uTru (uCall (uCons (uLst (uCons (pure a3) (uCons (pure a3) (uCons (pure (.str ("B" : Str))) (pure []))))) (pure [])) (fn1 u__law_bad))))) >>= fun b27 => if b27 = true then exits
      ((pure (.bl false)) >>= fun v28 => pure (.rt v28))
      else
      ((uAndV (uCall (uCons (u2 pAdd (pure a2) (uLst (uCons (pure a3) (pure [])))) (uCons (pure a3) (pure []))) (fn2 u__law_twice)) (uCall (uCons (uTup (uCons (pure v1) (uCons (pure a3) (uCons (pure v1) (uCons (pure a3) (pure [])))))) (uCons (pure v1) (pure []))) (fn2 u__law_twice))) >>= fun v29 => pure (.rt v29)))))))))))
noncomputable def u__law_refused (a0 a1 a2 a3 a4 : PV) : M PV := uDef (b__law_refused a0 a1 a2 a3 a4)
noncomputable def b_law (a0 : PV) : M (Fl Unit Empty) := ((uCall (uCons (uCall (uCons (pure a0) (uCons (pure (.int 0)) (pure []))) (fn2 u__law_cell)) (pure [])) (fn1 u__law_pool)) >>= fun v1 =>
      ((uCall (uCons (pure v1) (uCons (uCall (uCons (pure v1) (uCons (pure (.int 7)) (pure []))) (fn2 u__law_take)) (pure []))) (fn2 u__law_names)) >>= fun v2 =>
      ((uListN (pure v2)) >>= fun v3 =>
      ((uMake "Bounds" (uCons (pure v3) (pure [])) (fn2 u_Bounds___init__)) >>= fun v4 =>
      (uSeq (((u2 pEq (uCall (uCons (pure v1) (uCons (pure (.int 2)) (pure []))) (fn2 u__law_take)) (pure (.int 0))) >>= asB) >>= fun b5 => if b5 = true then
      ((uMake "Bounds" (uCons (u1 pTupOf (pure v2)) (pure [])) (fn2 u_Bounds___init__)) >>= fun v7 =>
        (pure (.nx v7)))
      else
      (pure (.nx v4))) fun (j6 : PV) =>
      ((uAppend (pure v3) (pure (.str ("zz" : Str)))) >>= fun _ =>
      ((uNewL (pure [])) >>= fun v8 =>
      (uSeq (((uRange1 (u1 pLen (pure v2))) >>= fun q12 => uFor (fun v (j9 : Unit) => opt ((fun v => some v) v) >>= fun x10 =>
      ((uAppend (pure v8) (uLcN (uRange1 (u1 pLen (pure v2))) (fun v => opt ((fun v => some v) v) >>= fun z11 => uElt (pure true) (uIfE ((u2 pEq (pure x10) (pure z11)) >>= asB) (pure (.int 0)) (pure .non))))) >>= fun _ =>
        (pure (.nx ())))) q12 ())) fun j9 =>
      ((uCall (uCons (uCall (uCons (pure a0) (uCons (pure (.int 1)) (pure []))) (fn2 u__law_cell)) (pure [])) (fn1 u__law_pool)) >>= fun v13 =>
      (uSeq (((uRange1 (uCall (uCons (pure v13) (uCons (pure (.int 31)) (pure []))) (fn2 u__law_take))) >>= fun q40 => uFor (fun v (j14 : Unit) => opt ((fun v => some v) v) >>= fun x15 =>
      ((uOr ((u2 pNe (uProp "Bounds" (pure j6) (fn1 u_Bounds_names)) (u1 pTupOf (pure v2))) >>= asB) ((u2 pNe (uLenO "Bounds" (pure j6) (fn1 u_Bounds___len__)) (u1 pLen (pure v2))) >>= asB)) >>= fun b16 => if b16 = true then exits
        ((pure (.bl false)) >>= fun v17 => pure (.rt v17))
        else
        (((u2 pNeA (uCall (uCons (pure j6) (pure [])) (fn1 u__law_entries)) (pure v8)) >>= asB) >>= fun b18 => if b18 = true then exits
        ((pure (.bl false)) >>= fun v19 => pure (.rt v19))
        else
        (((u2 pEq (pure v2) (uLst (pure []))) >>= asB) >>= fun b20 => if b20 = true then exits
        ((pure (.bl true)) >>= fun v21 => pure (.rt v21))
        else
        ((uCall (uCons (pure v13) (uCons (u1 pLen (pure v2)) (pure []))) (fn2 u__law_take)) >>= fun v22 =>
        ((uCall (uCons (pure v13) (uCons (u1 pLen (pure v2)) (pure []))) (fn2 u__law_take)) >>= fun v23 =>
        ((uCall (uCons (pure v13) (uCons (pure (.int 5)) (pure []))) (fn2 u__law_take)) >>= fun v24 =>
        ((u2 pIx (pure v2) (pure v22)) >>= fun v25 =>
        ((u2 pIx (pure v2) (pure v23)) >>= fun v26 =>
        ((uAnd ((u2 pEq (pure v24) (pure (.int 0))) >>= asB) (uNot (uTru (uCall (uCons (pure v13) (uCons (pure j6) (uCons (pure v2) (uCons (pure v25) (uCons (pure v26) (pure [])))))) (fn5 u__law_refused))))) >>= fun b27 => if b27 = true then exits
        ((pure (.bl false)) >>= fun v28 => pure (.rt v28))
        else
        ((uAnd ((u2 pGt (pure v24) (pure (.int 0))) >>= asB) ((u2 pNe (pure v22) (pure v23)) >>= asB)) >>= fun b29 => if b29 = true then
        ((uCall (uCons (pure a0) (uCons (u2 pAdd (pure (.int 2)) (pure x15)) (pure []))) (fn2 u__law_cell)) >>= fun v30 =>
          ((u2 pMul (u2 pMod (u1 pAbs (pure v30)) (u2 pPow (pure (.int 10)) (pure (.int 60)))) (u2 pIx (uLst (uCons (pure (.int 1)) (uCons (u2 pSub (pure (.int 0)) (pure (.int 1))) (pure [])))) (uCall (uCons (pure v13) (uCons (pure (.int 2)) (pure []))) (fn2 u__law_take)))) >>= fun v31 =>
          ((u2 pIx (uLst (uCons (pure .non) (uCons (pure (.int 0)) (uCons (u2 pSub (uCall (uCons (pure v13) (uCons (pure (.int 9)) (pure []))) (fn2 u__law_take)) (pure (.int 4))) (uCons (pure v31) (pure [])))))) (u2 pSub (pure v24) (pure (.int 1)))) >>= fun e37 => (u2 pIx (pure v8) (pure v22)) >>= fun o38 => (pure v23) >>= fun i39 => setM o38 i39 e37 >>= fun _ =>
          ((u2 pIx (u2 pIx (pure v8) (pure v22)) (pure v23)) >>= fun e34 => (pure j6) >>= fun o35 => (uTup (uCons (pure v25) (uCons (pure v26) (pure [])))) >>= fun i36 => isIns "Bounds" o35 >>= fun _ => fn3 u_Bounds___setitem__ [o35, i36, e34] >>= fun _ =>
          ((uAnd ((u2 pIsN (u2 pIx (u2 pIx (pure v8) (pure v22)) (pure v23)) (pure .non)) >>= asB) (uNot (uTru (uCall (uCons (uGetO "Bounds" (pure j6) (uTup (uCons (pure v25) (uCons (pure v26) (pure [])))) (fn2 u_Bounds___getitem__)) (pure [])) (fn1 u__law_whole))))) >>= fun b32 => if b32 = true then
          ((pure (.bl false)) >>= fun v33 => pure (.rt v33))
          else
          (pure (.nx ())))))))
        else
        (pure (.nx ()))))))))))))) q40 ())) fun j14 =>
      ((u2 pEqA (uCall (uCons (pure j6) (pure [])) (fn1 u__law_entries)) (pure v8)) >>= fun v41 => pure (.rt v41))))))))))))
noncomputable def u_law (a0 : PV) : M PV := uDef (b_law a0)
end K18
end Lk
set_option Elab.async false
set_option linter.all false
set_option maxRecDepth 100000
set_option maxHeartbeats 8000000
namespace Lk
open PySem PySem.Spec L2
open PyProof.Rows (envOfC)
namespace K18
def top (i : Nat) : Stmt := PySem.Challenge.pw_lookrows_k18_entries_of_tables.main.body.getD i (.Pass ⟨0, 0, 0, 0⟩)
abbrev s_is_name : Stmt := top 13
abbrev N_is_name : List Str := ["x", "character"]
abbrev ps_is_name : List Str := ["x"]
theorem sc_is_name : FnScope N_is_name ps_is_name (defScope s_is_name) := ⟨rfl, rfl, rfl, by decide +kernel, rfl, by decide +kernel, by decide +kernel⟩
abbrev s_is_integer : Stmt := top 14
abbrev N_is_integer : List Str := ["x"]
abbrev ps_is_integer : List Str := ["x"]
theorem sc_is_integer : FnScope N_is_integer ps_is_integer (defScope s_is_integer) := ⟨rfl, rfl, rfl, by decide +kernel, rfl, by decide +kernel, by decide +kernel⟩
abbrev s_refuse_strangers : Stmt := top 16
abbrev N_refuse_strangers : List Str := ["names", "known", "name"]
abbrev ps_refuse_strangers : List Str := ["names", "known"]
theorem sc_refuse_strangers : FnScope N_refuse_strangers ps_refuse_strangers (defScope s_refuse_strangers) := ⟨rfl, rfl, rfl, by decide +kernel, rfl, by decide +kernel, by decide +kernel⟩
abbrev s_Bounds___init__ : Stmt := inClass (top 20) 0
abbrev N_Bounds___init__ : List Str := ["self", "names", "name", "place"]
abbrev ps_Bounds___init__ : List Str := ["self", "names"]
theorem sc_Bounds___init__ : FnScope N_Bounds___init__ ps_Bounds___init__ (defScope s_Bounds___init__) := ⟨rfl, rfl, rfl, by decide +kernel, rfl, by decide +kernel, by decide +kernel⟩
abbrev s_Bounds_names : Stmt := inClass (top 20) 1
abbrev N_Bounds_names : List Str := ["self"]
abbrev ps_Bounds_names : List Str := ["self"]
theorem sc_Bounds_names : FnScope N_Bounds_names ps_Bounds_names (defScope s_Bounds_names) := ⟨rfl, rfl, rfl, by decide +kernel, rfl, by decide +kernel, by decide +kernel⟩
abbrev s_Bounds___len__ : Stmt := inClass (top 20) 2
abbrev N_Bounds___len__ : List Str := ["self"]
abbrev ps_Bounds___len__ : List Str := ["self"]
theorem sc_Bounds___len__ : FnScope N_Bounds___len__ ps_Bounds___len__ (defScope s_Bounds___len__) := ⟨rfl, rfl, rfl, by decide +kernel, rfl, by decide +kernel, by decide +kernel⟩
abbrev s_Bounds___getitem__ : Stmt := inClass (top 20) 4
abbrev N_Bounds___getitem__ : List Str := ["self", "at", "a", "b"]
abbrev ps_Bounds___getitem__ : List Str := ["self", "at"]
theorem sc_Bounds___getitem__ : FnScope N_Bounds___getitem__ ps_Bounds___getitem__ (defScope s_Bounds___getitem__) := ⟨rfl, rfl, rfl, by decide +kernel, rfl, by decide +kernel, by decide +kernel⟩
abbrev s_Bounds___setitem__ : Stmt := inClass (top 20) 5
abbrev N_Bounds___setitem__ : List Str := ["self", "at", "worth", "a", "b"]
abbrev ps_Bounds___setitem__ : List Str := ["self", "at", "worth"]
theorem sc_Bounds___setitem__ : FnScope N_Bounds___setitem__ ps_Bounds___setitem__ (defScope s_Bounds___setitem__) := ⟨rfl, rfl, rfl, by decide +kernel, rfl, by decide +kernel, by decide +kernel⟩
abbrev s__law_cell : Stmt := top 28
abbrev N__law_cell : List Str := ["_law_script", "_law_k"]
abbrev ps__law_cell : List Str := ["_law_script", "_law_k"]
theorem sc__law_cell : FnScope N__law_cell ps__law_cell (defScope s__law_cell) := ⟨rfl, rfl, rfl, by decide +kernel, rfl, by decide +kernel, by decide +kernel⟩
abbrev s__law_pool : Stmt := top 29
abbrev N__law_pool : List Str := ["_law_cell_here", "_law_folded"]
abbrev ps__law_pool : List Str := ["_law_cell_here"]
theorem sc__law_pool : FnScope N__law_pool ps__law_pool (defScope s__law_pool) := ⟨rfl, rfl, rfl, by decide +kernel, rfl, by decide +kernel, by decide +kernel⟩
abbrev s__law_take : Stmt := top 30
abbrev N__law_take : List Str := ["_law_pool_here", "_law_many", "_law_draw", "_law_mixed"]
abbrev ps__law_take : List Str := ["_law_pool_here", "_law_many"]
theorem sc__law_take : FnScope N__law_take ps__law_take (defScope s__law_take) := ⟨rfl, rfl, rfl, by decide +kernel, rfl, by decide +kernel, by decide +kernel⟩
abbrev s__law_names : Stmt := top 31
abbrev N__law_names : List Str := ["_law_pool_here", "_law_many", "_law_letters", "_law_signs", "_law_word", "_law_k", "_law_stem", "_law_place", "_law_told", "_law_start", "_law_names_here", "_law_sign"]
abbrev ps__law_names : List Str := ["_law_pool_here", "_law_many"]
theorem sc__law_names : FnScope N__law_names ps__law_names (defScope s__law_names) := ⟨rfl, rfl, rfl, by decide +kernel, rfl, by decide +kernel, by decide +kernel⟩
abbrev s__law_stranger : Stmt := top 34
abbrev N__law_stranger : List Str := ["_law_pool_here", "_law_names_here", "_law_word", "_law_letters", "_law_start", "_law_k", "_law_one"]
abbrev ps__law_stranger : List Str := ["_law_pool_here", "_law_names_here"]
theorem sc__law_stranger : FnScope N__law_stranger ps__law_stranger (defScope s__law_stranger) := ⟨rfl, rfl, rfl, by decide +kernel, rfl, by decide +kernel, by decide +kernel⟩
abbrev s__law_entries : Stmt := top 32
abbrev N__law_entries : List Str := ["_law_bounds", "_law_entries_here", "_law_first", "_law_second"]
abbrev ps__law_entries : List Str := ["_law_bounds"]
theorem sc__law_entries : FnScope N__law_entries ps__law_entries (defScope s__law_entries) := ⟨rfl, rfl, rfl, by decide +kernel, rfl, by decide +kernel, by decide +kernel⟩
abbrev s__law_whole : Stmt := top 33
abbrev N__law_whole : List Str := ["_law_found"]
abbrev ps__law_whole : List Str := ["_law_found"]
theorem sc__law_whole : FnScope N__law_whole ps__law_whole (defScope s__law_whole) := ⟨rfl, rfl, rfl, by decide +kernel, rfl, by decide +kernel, by decide +kernel⟩
abbrev s__law_refusal : Stmt := top 35
abbrev N__law_refusal : List Str := ["_law_bounds", "_law_first", "_law_second", "_law_limit", "e"]
abbrev ps__law_refusal : List Str := ["_law_bounds", "_law_first", "_law_second", "_law_limit"]
theorem sc__law_refusal : FnScope N__law_refusal ps__law_refusal (defScope s__law_refusal) := ⟨rfl, rfl, rfl, by decide +kernel, rfl, by decide +kernel, by decide +kernel⟩
abbrev s__law_read : Stmt := top 36
abbrev N__law_read : List Str := ["_law_bounds", "_law_first", "_law_second", "e"]
abbrev ps__law_read : List Str := ["_law_bounds", "_law_first", "_law_second"]
theorem sc__law_read : FnScope N__law_read ps__law_read (defScope s__law_read) := ⟨rfl, rfl, rfl, by decide +kernel, rfl, by decide +kernel, by decide +kernel⟩
abbrev s__law_twice : Stmt := top 37
abbrev N__law_twice : List Str := ["_law_names_here", "_law_name", "e"]
abbrev ps__law_twice : List Str := ["_law_names_here", "_law_name"]
theorem sc__law_twice : FnScope N__law_twice ps__law_twice (defScope s__law_twice) := ⟨rfl, rfl, rfl, by decide +kernel, rfl, by decide +kernel, by decide +kernel⟩
abbrev s__law_bad : Stmt := top 38
abbrev N__law_bad : List Str := ["_law_names_here", "e"]
abbrev ps__law_bad : List Str := ["_law_names_here"]
theorem sc__law_bad : FnScope N__law_bad ps__law_bad (defScope s__law_bad) := ⟨rfl, rfl, rfl, by decide +kernel, rfl, by decide +kernel, by decide +kernel⟩
abbrev s__law_refused : Stmt := top 39
abbrev N__law_refused : List Str := ["_law_pool_here", "_law_bounds", "_law_names_here", "_law_first", "_law_second", "_law_new", "_law_wrong", "_law_kind", "_law_limit", "_law_far", "_law_one", "_law_two"]
abbrev ps__law_refused : List Str := ["_law_pool_here", "_law_bounds", "_law_names_here", "_law_first", "_law_second"]
theorem sc__law_refused : FnScope N__law_refused ps__law_refused (defScope s__law_refused) := ⟨rfl, rfl, rfl, by decide +kernel, rfl, by decide +kernel, by decide +kernel⟩
abbrev s_law : Stmt := top 40
abbrev N_law : List Str := ["_law_script", "_law_pool_here", "_law_names_here", "_law_given", "_law_bounds", "_law_due", "_law_i", "_law_j", "_law_deed", "_law_kind", "_law_first", "_law_second", "_law_great"]
abbrev ps_law : List Str := ["_law_script"]
theorem sc_law : FnScope N_law ps_law (defScope s_law) := ⟨rfl, rfl, rfl, by decide +kernel, rfl, by decide +kernel, by decide +kernel⟩
abbrev s_BadName___init__ : Stmt := inClass (top 3) 0
abbrev ps_BadName___init__ : List Str := ["self", "name"]
theorem sc_BadName___init__ : FnScope ps_BadName___init__ ps_BadName___init__ (defScope s_BadName___init__) := ⟨rfl, rfl, rfl, by decide +kernel, rfl, by decide +kernel, by decide +kernel⟩
abbrev s_NameTaken___init__ : Stmt := inClass (top 4) 0
abbrev ps_NameTaken___init__ : List Str := ["self", "name"]
theorem sc_NameTaken___init__ : FnScope ps_NameTaken___init__ ps_NameTaken___init__ (defScope s_NameTaken___init__) := ⟨rfl, rfl, rfl, by decide +kernel, rfl, by decide +kernel, by decide +kernel⟩
abbrev s_NoFile___init__ : Stmt := inClass (top 5) 0
abbrev ps_NoFile___init__ : List Str := ["self", "name"]
theorem sc_NoFile___init__ : FnScope ps_NoFile___init__ ps_NoFile___init__ (defScope s_NoFile___init__) := ⟨rfl, rfl, rfl, by decide +kernel, rfl, by decide +kernel, by decide +kernel⟩
abbrev s_SameFile___init__ : Stmt := inClass (top 6) 0
abbrev ps_SameFile___init__ : List Str := ["self", "name"]
theorem sc_SameFile___init__ : FnScope ps_SameFile___init__ ps_SameFile___init__ (defScope s_SameFile___init__) := ⟨rfl, rfl, rfl, by decide +kernel, rfl, by decide +kernel, by decide +kernel⟩
abbrev s_BadNumber___init__ : Stmt := inClass (top 7) 0
abbrev ps_BadNumber___init__ : List Str := ["self", "value"]
theorem sc_BadNumber___init__ : FnScope ps_BadNumber___init__ ps_BadNumber___init__ (defScope s_BadNumber___init__) := ⟨rfl, rfl, rfl, by decide +kernel, rfl, by decide +kernel, by decide +kernel⟩
structure Ad where
  (f_is_name f_is_integer f_refuse_strangers f_Bounds___init__ f_Bounds_names f_Bounds___len__ f_Bounds___getitem__ f_Bounds___setitem__ f__law_cell f__law_pool f__law_take f__law_names f__law_stranger f__law_entries f__law_whole f__law_refusal f__law_read f__law_twice f__law_bad f__law_refused f_law f_BadName___init__ f_NameTaken___init__ f_NoFile___init__ f_SameFile___init__ f_BadNumber___init__ : Addr)
  (d_is_name d_is_integer d_refuse_strangers d_Bounds___init__ d_Bounds_names d_Bounds___len__ d_Bounds___getitem__ d_Bounds___setitem__ d__law_cell d__law_pool d__law_take d__law_names d__law_stranger d__law_entries d__law_whole d__law_refusal d__law_read d__law_twice d__law_bad d__law_refused d_law d_BadName___init__ d_NameTaken___init__ d_NoFile___init__ d_SameFile___init__ d_BadNumber___init__ : FuncData)
  (C_BadName C_NameTaken C_NoFile C_SameFile C_BadNumber C_Bounds : Addr)
  (t_LETTERS t_LONGEST_NAME t_NAME_CHARACTERS : Tok)
  (p_Bounds_names : Addr)
structure Tx (g : Gx) (mg : Str → Option Value) (A : Ad) : Prop where
  c_LETTERS : mg "LETTERS" = some (.str "abcdefghijklmnopqrstuvwxyz" A.t_LETTERS)
  c_LONGEST_NAME : mg "LONGEST_NAME" = some (.int 8 A.t_LONGEST_NAME)
  c_NAME_CHARACTERS : mg "NAME_CHARACTERS" = some (.str "abcdefghijklmnopqrstuvwxyz0123456789" A.t_NAME_CHARACTERS)
  n_abs : mg "abs" = none
  n_all : mg "all" = none
  n_bool : mg "bool" = none
  n_enumerate : mg "enumerate" = none
  n_int : mg "int" = none
  n_isinstance : mg "isinstance" = none
  n_len : mg "len" = none
  n_list : mg "list" = none
  n_range : mg "range" = none
  n_str : mg "str" = none
  n_tuple : mg "tuple" = none
  F_is_name : Fun g.K "is_name" "is_name" s_is_name A.f_is_name A.d_is_name
  g_is_name : mg "is_name" = some (.ref A.f_is_name)
  F_is_integer : Fun g.K "is_integer" "is_integer" s_is_integer A.f_is_integer A.d_is_integer
  g_is_integer : mg "is_integer" = some (.ref A.f_is_integer)
  F_refuse_strangers : Fun g.K "refuse_strangers" "refuse_strangers" s_refuse_strangers A.f_refuse_strangers A.d_refuse_strangers
  g_refuse_strangers : mg "refuse_strangers" = some (.ref A.f_refuse_strangers)
  F_Bounds___init__ : Fun g.K "__init__" "Bounds.__init__" s_Bounds___init__ A.f_Bounds___init__ A.d_Bounds___init__
  F_Bounds_names : Fun g.K "names" "Bounds.names" s_Bounds_names A.f_Bounds_names A.d_Bounds_names
  F_Bounds___len__ : Fun g.K "__len__" "Bounds.__len__" s_Bounds___len__ A.f_Bounds___len__ A.d_Bounds___len__
  F_Bounds___getitem__ : Fun g.K "__getitem__" "Bounds.__getitem__" s_Bounds___getitem__ A.f_Bounds___getitem__ A.d_Bounds___getitem__
  F_Bounds___setitem__ : Fun g.K "__setitem__" "Bounds.__setitem__" s_Bounds___setitem__ A.f_Bounds___setitem__ A.d_Bounds___setitem__
  F__law_cell : Fun g.K "_law_cell" "_law_cell" s__law_cell A.f__law_cell A.d__law_cell
  g__law_cell : mg "_law_cell" = some (.ref A.f__law_cell)
  F__law_pool : Fun g.K "_law_pool" "_law_pool" s__law_pool A.f__law_pool A.d__law_pool
  g__law_pool : mg "_law_pool" = some (.ref A.f__law_pool)
  F__law_take : Fun g.K "_law_take" "_law_take" s__law_take A.f__law_take A.d__law_take
  g__law_take : mg "_law_take" = some (.ref A.f__law_take)
  F__law_names : Fun g.K "_law_names" "_law_names" s__law_names A.f__law_names A.d__law_names
  g__law_names : mg "_law_names" = some (.ref A.f__law_names)
  F__law_stranger : Fun g.K "_law_stranger" "_law_stranger" s__law_stranger A.f__law_stranger A.d__law_stranger
  g__law_stranger : mg "_law_stranger" = some (.ref A.f__law_stranger)
  F__law_entries : Fun g.K "_law_entries" "_law_entries" s__law_entries A.f__law_entries A.d__law_entries
  g__law_entries : mg "_law_entries" = some (.ref A.f__law_entries)
  F__law_whole : Fun g.K "_law_whole" "_law_whole" s__law_whole A.f__law_whole A.d__law_whole
  g__law_whole : mg "_law_whole" = some (.ref A.f__law_whole)
  F__law_refusal : Fun g.K "_law_refusal" "_law_refusal" s__law_refusal A.f__law_refusal A.d__law_refusal
  g__law_refusal : mg "_law_refusal" = some (.ref A.f__law_refusal)
  F__law_read : Fun g.K "_law_read" "_law_read" s__law_read A.f__law_read A.d__law_read
  g__law_read : mg "_law_read" = some (.ref A.f__law_read)
  F__law_twice : Fun g.K "_law_twice" "_law_twice" s__law_twice A.f__law_twice A.d__law_twice
  g__law_twice : mg "_law_twice" = some (.ref A.f__law_twice)
  F__law_bad : Fun g.K "_law_bad" "_law_bad" s__law_bad A.f__law_bad A.d__law_bad
  g__law_bad : mg "_law_bad" = some (.ref A.f__law_bad)
  F__law_refused : Fun g.K "_law_refused" "_law_refused" s__law_refused A.f__law_refused A.d__law_refused
  g__law_refused : mg "_law_refused" = some (.ref A.f__law_refused)
  F_law : Fun g.K "law" "law" s_law A.f_law A.d_law
  g_law : mg "law" = some (.ref A.f_law)
  F_BadName___init__ : Fun g.K "__init__" "BadName.__init__" s_BadName___init__ A.f_BadName___init__ A.d_BadName___init__
  oex_BadName : OexC g.K A.C_BadName
  ini_BadName : PySem.W.findIn g.K (.ref A.C_BadName) "__init__" = some (some (.ref A.f_BadName___init__))
  tin_BadName : PySem.W.typeIn g.K (.ref A.f_BadName___init__) = some (.type "function")
  xf_BadName : XfC g.K A.C_BadName
  g_BadName : mg "BadName" = some (.ref A.C_BadName)
  cn_BadName : g.cn "BadName" = some A.C_BadName
  nf_BadName_name : PySem.W.findIn g.K (.ref A.C_BadName) "name" = some none
  em_BadName_BadName : PySem.W.exmOne g.K (.ref A.C_BadName) (.ref A.C_BadName) = some true
  em_BadName_NameTaken : PySem.W.exmOne g.K (.ref A.C_BadName) (.ref A.C_NameTaken) = some false
  em_BadName_NoFile : PySem.W.exmOne g.K (.ref A.C_BadName) (.ref A.C_NoFile) = some false
  em_BadName_SameFile : PySem.W.exmOne g.K (.ref A.C_BadName) (.ref A.C_SameFile) = some false
  em_BadName_BadNumber : PySem.W.exmOne g.K (.ref A.C_BadName) (.ref A.C_BadNumber) = some false
  F_NameTaken___init__ : Fun g.K "__init__" "NameTaken.__init__" s_NameTaken___init__ A.f_NameTaken___init__ A.d_NameTaken___init__
  oex_NameTaken : OexC g.K A.C_NameTaken
  ini_NameTaken : PySem.W.findIn g.K (.ref A.C_NameTaken) "__init__" = some (some (.ref A.f_NameTaken___init__))
  tin_NameTaken : PySem.W.typeIn g.K (.ref A.f_NameTaken___init__) = some (.type "function")
  xf_NameTaken : XfC g.K A.C_NameTaken
  g_NameTaken : mg "NameTaken" = some (.ref A.C_NameTaken)
  cn_NameTaken : g.cn "NameTaken" = some A.C_NameTaken
  nf_NameTaken_name : PySem.W.findIn g.K (.ref A.C_NameTaken) "name" = some none
  em_NameTaken_BadName : PySem.W.exmOne g.K (.ref A.C_NameTaken) (.ref A.C_BadName) = some false
  em_NameTaken_NameTaken : PySem.W.exmOne g.K (.ref A.C_NameTaken) (.ref A.C_NameTaken) = some true
  em_NameTaken_NoFile : PySem.W.exmOne g.K (.ref A.C_NameTaken) (.ref A.C_NoFile) = some false
  em_NameTaken_SameFile : PySem.W.exmOne g.K (.ref A.C_NameTaken) (.ref A.C_SameFile) = some false
  em_NameTaken_BadNumber : PySem.W.exmOne g.K (.ref A.C_NameTaken) (.ref A.C_BadNumber) = some false
  F_NoFile___init__ : Fun g.K "__init__" "NoFile.__init__" s_NoFile___init__ A.f_NoFile___init__ A.d_NoFile___init__
  oex_NoFile : OexC g.K A.C_NoFile
  ini_NoFile : PySem.W.findIn g.K (.ref A.C_NoFile) "__init__" = some (some (.ref A.f_NoFile___init__))
  tin_NoFile : PySem.W.typeIn g.K (.ref A.f_NoFile___init__) = some (.type "function")
  xf_NoFile : XfC g.K A.C_NoFile
  g_NoFile : mg "NoFile" = some (.ref A.C_NoFile)
  cn_NoFile : g.cn "NoFile" = some A.C_NoFile
  nf_NoFile_name : PySem.W.findIn g.K (.ref A.C_NoFile) "name" = some none
  em_NoFile_BadName : PySem.W.exmOne g.K (.ref A.C_NoFile) (.ref A.C_BadName) = some false
  em_NoFile_NameTaken : PySem.W.exmOne g.K (.ref A.C_NoFile) (.ref A.C_NameTaken) = some false
  em_NoFile_NoFile : PySem.W.exmOne g.K (.ref A.C_NoFile) (.ref A.C_NoFile) = some true
  em_NoFile_SameFile : PySem.W.exmOne g.K (.ref A.C_NoFile) (.ref A.C_SameFile) = some false
  em_NoFile_BadNumber : PySem.W.exmOne g.K (.ref A.C_NoFile) (.ref A.C_BadNumber) = some false
  F_SameFile___init__ : Fun g.K "__init__" "SameFile.__init__" s_SameFile___init__ A.f_SameFile___init__ A.d_SameFile___init__
  oex_SameFile : OexC g.K A.C_SameFile
  ini_SameFile : PySem.W.findIn g.K (.ref A.C_SameFile) "__init__" = some (some (.ref A.f_SameFile___init__))
  tin_SameFile : PySem.W.typeIn g.K (.ref A.f_SameFile___init__) = some (.type "function")
  xf_SameFile : XfC g.K A.C_SameFile
  g_SameFile : mg "SameFile" = some (.ref A.C_SameFile)
  cn_SameFile : g.cn "SameFile" = some A.C_SameFile
  nf_SameFile_name : PySem.W.findIn g.K (.ref A.C_SameFile) "name" = some none
  em_SameFile_BadName : PySem.W.exmOne g.K (.ref A.C_SameFile) (.ref A.C_BadName) = some false
  em_SameFile_NameTaken : PySem.W.exmOne g.K (.ref A.C_SameFile) (.ref A.C_NameTaken) = some false
  em_SameFile_NoFile : PySem.W.exmOne g.K (.ref A.C_SameFile) (.ref A.C_NoFile) = some false
  em_SameFile_SameFile : PySem.W.exmOne g.K (.ref A.C_SameFile) (.ref A.C_SameFile) = some true
  em_SameFile_BadNumber : PySem.W.exmOne g.K (.ref A.C_SameFile) (.ref A.C_BadNumber) = some false
  F_BadNumber___init__ : Fun g.K "__init__" "BadNumber.__init__" s_BadNumber___init__ A.f_BadNumber___init__ A.d_BadNumber___init__
  oex_BadNumber : OexC g.K A.C_BadNumber
  ini_BadNumber : PySem.W.findIn g.K (.ref A.C_BadNumber) "__init__" = some (some (.ref A.f_BadNumber___init__))
  tin_BadNumber : PySem.W.typeIn g.K (.ref A.f_BadNumber___init__) = some (.type "function")
  xf_BadNumber : XfC g.K A.C_BadNumber
  g_BadNumber : mg "BadNumber" = some (.ref A.C_BadNumber)
  cn_BadNumber : g.cn "BadNumber" = some A.C_BadNumber
  nf_BadNumber_value : PySem.W.findIn g.K (.ref A.C_BadNumber) "value" = some none
  em_BadNumber_BadName : PySem.W.exmOne g.K (.ref A.C_BadNumber) (.ref A.C_BadName) = some false
  em_BadNumber_NameTaken : PySem.W.exmOne g.K (.ref A.C_BadNumber) (.ref A.C_NameTaken) = some false
  em_BadNumber_NoFile : PySem.W.exmOne g.K (.ref A.C_BadNumber) (.ref A.C_NoFile) = some false
  em_BadNumber_SameFile : PySem.W.exmOne g.K (.ref A.C_BadNumber) (.ref A.C_SameFile) = some false
  em_BadNumber_BadNumber : PySem.W.exmOne g.K (.ref A.C_BadNumber) (.ref A.C_BadNumber) = some true
  cl_Bounds : Cls g.K A.C_Bounds
  g_Bounds : mg "Bounds" = some (.ref A.C_Bounds)
  cn_Bounds : g.cn "Bounds" = some A.C_Bounds
  mk_Bounds : Mk g.K A.C_Bounds A.f_Bounds___init__
  nf_Bounds__names : PySem.W.findIn g.K (.ref A.C_Bounds) "_names" = some none
  nf_Bounds__entries : PySem.W.findIn g.K (.ref A.C_Bounds) "_entries" = some none
  p_Bounds_names : PropOf g.K A.C_Bounds "names" A.p_Bounds_names A.f_Bounds_names
  m_Bounds___len__ : Meth g.K A.C_Bounds "__len__" A.f_Bounds___len__
  m_Bounds___getitem__ : Meth g.K A.C_Bounds "__getitem__" A.f_Bounds___getitem__
  m_Bounds___setitem__ : Meth g.K A.C_Bounds "__setitem__" A.f_Bounds___setitem__
  fi_Bounds___getitem__ : PySem.W.fnIn g.K A.f_Bounds___getitem__ = true
  ns_Bounds : PySem.W.noSeq g.K A.C_Bounds = true
section
variable {P : Program} {w : World} {g : Gx} {mg : Str → Option Value} {base : Heap} {A : Ad}
theorem Tx.b_is_name (T : Tx g mg A) : Binds g.K A.d_is_name ps_is_name [] := T.F_is_name.binds (fun _ _ _ _ _ _ us hl => match us, hl with | [_], _ => rfl)
theorem Tx.k_is_name (T : Tx g mg A) : PySem.W.keepIn g.K (.ref A.f_is_name) = true := T.F_is_name.kp
theorem Tx.b_is_integer (T : Tx g mg A) : Binds g.K A.d_is_integer ps_is_integer [] := T.F_is_integer.binds (fun _ _ _ _ _ _ us hl => match us, hl with | [_], _ => rfl)
theorem Tx.k_is_integer (T : Tx g mg A) : PySem.W.keepIn g.K (.ref A.f_is_integer) = true := T.F_is_integer.kp
theorem Tx.b_refuse_strangers (T : Tx g mg A) : Binds g.K A.d_refuse_strangers ps_refuse_strangers [] := T.F_refuse_strangers.binds (fun _ _ _ _ _ _ us hl => match us, hl with | [_, _], _ => rfl)
theorem Tx.k_refuse_strangers (T : Tx g mg A) : PySem.W.keepIn g.K (.ref A.f_refuse_strangers) = true := T.F_refuse_strangers.kp
theorem Tx.b_Bounds___init__ (T : Tx g mg A) : Binds g.K A.d_Bounds___init__ ps_Bounds___init__ [] := T.F_Bounds___init__.binds (fun _ _ _ _ _ _ us hl => match us, hl with | [_, _], _ => rfl)
theorem Tx.k_Bounds___init__ (T : Tx g mg A) : PySem.W.keepIn g.K (.ref A.f_Bounds___init__) = true := T.F_Bounds___init__.kp
theorem Tx.b_Bounds_names (T : Tx g mg A) : Binds g.K A.d_Bounds_names ps_Bounds_names [] := T.F_Bounds_names.binds (fun _ _ _ _ _ _ us hl => match us, hl with | [_], _ => rfl)
theorem Tx.k_Bounds_names (T : Tx g mg A) : PySem.W.keepIn g.K (.ref A.f_Bounds_names) = true := T.F_Bounds_names.kp
theorem Tx.b_Bounds___len__ (T : Tx g mg A) : Binds g.K A.d_Bounds___len__ ps_Bounds___len__ [] := T.F_Bounds___len__.binds (fun _ _ _ _ _ _ us hl => match us, hl with | [_], _ => rfl)
theorem Tx.k_Bounds___len__ (T : Tx g mg A) : PySem.W.keepIn g.K (.ref A.f_Bounds___len__) = true := T.F_Bounds___len__.kp
theorem Tx.b_Bounds___getitem__ (T : Tx g mg A) : Binds g.K A.d_Bounds___getitem__ ps_Bounds___getitem__ [] := T.F_Bounds___getitem__.binds (fun _ _ _ _ _ _ us hl => match us, hl with | [_, _], _ => rfl)
theorem Tx.k_Bounds___getitem__ (T : Tx g mg A) : PySem.W.keepIn g.K (.ref A.f_Bounds___getitem__) = true := T.F_Bounds___getitem__.kp
theorem Tx.b_Bounds___setitem__ (T : Tx g mg A) : Binds g.K A.d_Bounds___setitem__ ps_Bounds___setitem__ [] := T.F_Bounds___setitem__.binds (fun _ _ _ _ _ _ us hl => match us, hl with | [_, _, _], _ => rfl)
theorem Tx.k_Bounds___setitem__ (T : Tx g mg A) : PySem.W.keepIn g.K (.ref A.f_Bounds___setitem__) = true := T.F_Bounds___setitem__.kp
theorem Tx.b__law_cell (T : Tx g mg A) : Binds g.K A.d__law_cell ps__law_cell [] := T.F__law_cell.binds (fun _ _ _ _ _ _ us hl => match us, hl with | [_, _], _ => rfl)
theorem Tx.k__law_cell (T : Tx g mg A) : PySem.W.keepIn g.K (.ref A.f__law_cell) = true := T.F__law_cell.kp
theorem Tx.b__law_pool (T : Tx g mg A) : Binds g.K A.d__law_pool ps__law_pool [] := T.F__law_pool.binds (fun _ _ _ _ _ _ us hl => match us, hl with | [_], _ => rfl)
theorem Tx.k__law_pool (T : Tx g mg A) : PySem.W.keepIn g.K (.ref A.f__law_pool) = true := T.F__law_pool.kp
theorem Tx.b__law_take (T : Tx g mg A) : Binds g.K A.d__law_take ps__law_take [] := T.F__law_take.binds (fun _ _ _ _ _ _ us hl => match us, hl with | [_, _], _ => rfl)
theorem Tx.k__law_take (T : Tx g mg A) : PySem.W.keepIn g.K (.ref A.f__law_take) = true := T.F__law_take.kp
theorem Tx.b__law_names (T : Tx g mg A) : Binds g.K A.d__law_names ps__law_names [] := T.F__law_names.binds (fun _ _ _ _ _ _ us hl => match us, hl with | [_, _], _ => rfl)
theorem Tx.k__law_names (T : Tx g mg A) : PySem.W.keepIn g.K (.ref A.f__law_names) = true := T.F__law_names.kp
theorem Tx.b__law_stranger (T : Tx g mg A) : Binds g.K A.d__law_stranger ps__law_stranger [] := T.F__law_stranger.binds (fun _ _ _ _ _ _ us hl => match us, hl with | [_, _], _ => rfl)
theorem Tx.k__law_stranger (T : Tx g mg A) : PySem.W.keepIn g.K (.ref A.f__law_stranger) = true := T.F__law_stranger.kp
theorem Tx.b__law_entries (T : Tx g mg A) : Binds g.K A.d__law_entries ps__law_entries [] := T.F__law_entries.binds (fun _ _ _ _ _ _ us hl => match us, hl with | [_], _ => rfl)
theorem Tx.k__law_entries (T : Tx g mg A) : PySem.W.keepIn g.K (.ref A.f__law_entries) = true := T.F__law_entries.kp
theorem Tx.b__law_whole (T : Tx g mg A) : Binds g.K A.d__law_whole ps__law_whole [] := T.F__law_whole.binds (fun _ _ _ _ _ _ us hl => match us, hl with | [_], _ => rfl)
theorem Tx.k__law_whole (T : Tx g mg A) : PySem.W.keepIn g.K (.ref A.f__law_whole) = true := T.F__law_whole.kp
theorem Tx.b__law_refusal (T : Tx g mg A) : Binds g.K A.d__law_refusal ps__law_refusal [] := T.F__law_refusal.binds (fun _ _ _ _ _ _ us hl => match us, hl with | [_, _, _, _], _ => rfl)
theorem Tx.k__law_refusal (T : Tx g mg A) : PySem.W.keepIn g.K (.ref A.f__law_refusal) = true := T.F__law_refusal.kp
theorem Tx.b__law_read (T : Tx g mg A) : Binds g.K A.d__law_read ps__law_read [] := T.F__law_read.binds (fun _ _ _ _ _ _ us hl => match us, hl with | [_, _, _], _ => rfl)
theorem Tx.k__law_read (T : Tx g mg A) : PySem.W.keepIn g.K (.ref A.f__law_read) = true := T.F__law_read.kp
theorem Tx.b__law_twice (T : Tx g mg A) : Binds g.K A.d__law_twice ps__law_twice [] := T.F__law_twice.binds (fun _ _ _ _ _ _ us hl => match us, hl with | [_, _], _ => rfl)
theorem Tx.k__law_twice (T : Tx g mg A) : PySem.W.keepIn g.K (.ref A.f__law_twice) = true := T.F__law_twice.kp
theorem Tx.b__law_bad (T : Tx g mg A) : Binds g.K A.d__law_bad ps__law_bad [] := T.F__law_bad.binds (fun _ _ _ _ _ _ us hl => match us, hl with | [_], _ => rfl)
theorem Tx.k__law_bad (T : Tx g mg A) : PySem.W.keepIn g.K (.ref A.f__law_bad) = true := T.F__law_bad.kp
theorem Tx.b__law_refused (T : Tx g mg A) : Binds g.K A.d__law_refused ps__law_refused [] := T.F__law_refused.binds (fun _ _ _ _ _ _ us hl => match us, hl with | [_, _, _, _, _], _ => rfl)
theorem Tx.k__law_refused (T : Tx g mg A) : PySem.W.keepIn g.K (.ref A.f__law_refused) = true := T.F__law_refused.kp
theorem Tx.b_law (T : Tx g mg A) : Binds g.K A.d_law ps_law [] := T.F_law.binds (fun _ _ _ _ _ _ us hl => match us, hl with | [_], _ => rfl)
theorem Tx.k_law (T : Tx g mg A) : PySem.W.keepIn g.K (.ref A.f_law) = true := T.F_law.kp
theorem Tx.b_BadName___init__ (T : Tx g mg A) : Binds g.K A.d_BadName___init__ ps_BadName___init__ [] := T.F_BadName___init__.binds (fun _ _ _ _ _ _ us hl => match us, hl with | [_, _], _ => rfl)
theorem Tx.k_BadName___init__ (T : Tx g mg A) : PySem.W.keepIn g.K (.ref A.f_BadName___init__) = true := T.F_BadName___init__.kp
theorem Tx.b_NameTaken___init__ (T : Tx g mg A) : Binds g.K A.d_NameTaken___init__ ps_NameTaken___init__ [] := T.F_NameTaken___init__.binds (fun _ _ _ _ _ _ us hl => match us, hl with | [_, _], _ => rfl)
theorem Tx.k_NameTaken___init__ (T : Tx g mg A) : PySem.W.keepIn g.K (.ref A.f_NameTaken___init__) = true := T.F_NameTaken___init__.kp
theorem Tx.b_NoFile___init__ (T : Tx g mg A) : Binds g.K A.d_NoFile___init__ ps_NoFile___init__ [] := T.F_NoFile___init__.binds (fun _ _ _ _ _ _ us hl => match us, hl with | [_, _], _ => rfl)
theorem Tx.k_NoFile___init__ (T : Tx g mg A) : PySem.W.keepIn g.K (.ref A.f_NoFile___init__) = true := T.F_NoFile___init__.kp
theorem Tx.b_SameFile___init__ (T : Tx g mg A) : Binds g.K A.d_SameFile___init__ ps_SameFile___init__ [] := T.F_SameFile___init__.binds (fun _ _ _ _ _ _ us hl => match us, hl with | [_, _], _ => rfl)
theorem Tx.k_SameFile___init__ (T : Tx g mg A) : PySem.W.keepIn g.K (.ref A.f_SameFile___init__) = true := T.F_SameFile___init__.kp
theorem Tx.b_BadNumber___init__ (T : Tx g mg A) : Binds g.K A.d_BadNumber___init__ ps_BadNumber___init__ [] := T.F_BadNumber___init__.binds (fun _ _ _ _ _ _ us hl => match us, hl with | [_, _], _ => rfl)
theorem Tx.k_BadNumber___init__ (T : Tx g mg A) : PySem.W.keepIn g.K (.ref A.f_BadNumber___init__) = true := T.F_BadNumber___init__.kp
theorem Tx.emall (T : Tx g mg A) : ∀ n ∈ (["BadName", "NameTaken", "NoFile", "SameFile", "BadNumber"] : List String), ∀ c' C' C, c' ∈ (["BadName", "NameTaken", "NoFile", "SameFile", "BadNumber"] : List String) → g.cn c' = some C' → g.cn n = some C → PySem.W.exmOne g.K (.ref C') (.ref C) = some (decide (c' = n)) := by
  intro n hn c' C' C hc e1 e2
  simp only [List.mem_cons, List.not_mem_nil, or_false] at hn hc
  rcases hn with rfl | rfl | rfl | rfl | rfl <;> rcases hc with rfl | rfl | rfl | rfl | rfl
  · rw [T.cn_BadName] at e1; rw [T.cn_BadName] at e2; cases e1; cases e2; exact T.em_BadName_BadName
  · rw [T.cn_NameTaken] at e1; rw [T.cn_BadName] at e2; cases e1; cases e2; exact T.em_NameTaken_BadName
  · rw [T.cn_NoFile] at e1; rw [T.cn_BadName] at e2; cases e1; cases e2; exact T.em_NoFile_BadName
  · rw [T.cn_SameFile] at e1; rw [T.cn_BadName] at e2; cases e1; cases e2; exact T.em_SameFile_BadName
  · rw [T.cn_BadNumber] at e1; rw [T.cn_BadName] at e2; cases e1; cases e2; exact T.em_BadNumber_BadName
  · rw [T.cn_BadName] at e1; rw [T.cn_NameTaken] at e2; cases e1; cases e2; exact T.em_BadName_NameTaken
  · rw [T.cn_NameTaken] at e1; rw [T.cn_NameTaken] at e2; cases e1; cases e2; exact T.em_NameTaken_NameTaken
  · rw [T.cn_NoFile] at e1; rw [T.cn_NameTaken] at e2; cases e1; cases e2; exact T.em_NoFile_NameTaken
  · rw [T.cn_SameFile] at e1; rw [T.cn_NameTaken] at e2; cases e1; cases e2; exact T.em_SameFile_NameTaken
  · rw [T.cn_BadNumber] at e1; rw [T.cn_NameTaken] at e2; cases e1; cases e2; exact T.em_BadNumber_NameTaken
  · rw [T.cn_BadName] at e1; rw [T.cn_NoFile] at e2; cases e1; cases e2; exact T.em_BadName_NoFile
  · rw [T.cn_NameTaken] at e1; rw [T.cn_NoFile] at e2; cases e1; cases e2; exact T.em_NameTaken_NoFile
  · rw [T.cn_NoFile] at e1; rw [T.cn_NoFile] at e2; cases e1; cases e2; exact T.em_NoFile_NoFile
  · rw [T.cn_SameFile] at e1; rw [T.cn_NoFile] at e2; cases e1; cases e2; exact T.em_SameFile_NoFile
  · rw [T.cn_BadNumber] at e1; rw [T.cn_NoFile] at e2; cases e1; cases e2; exact T.em_BadNumber_NoFile
  · rw [T.cn_BadName] at e1; rw [T.cn_SameFile] at e2; cases e1; cases e2; exact T.em_BadName_SameFile
  · rw [T.cn_NameTaken] at e1; rw [T.cn_SameFile] at e2; cases e1; cases e2; exact T.em_NameTaken_SameFile
  · rw [T.cn_NoFile] at e1; rw [T.cn_SameFile] at e2; cases e1; cases e2; exact T.em_NoFile_SameFile
  · rw [T.cn_SameFile] at e1; rw [T.cn_SameFile] at e2; cases e1; cases e2; exact T.em_SameFile_SameFile
  · rw [T.cn_BadNumber] at e1; rw [T.cn_SameFile] at e2; cases e1; cases e2; exact T.em_BadNumber_SameFile
  · rw [T.cn_BadName] at e1; rw [T.cn_BadNumber] at e2; cases e1; cases e2; exact T.em_BadName_BadNumber
  · rw [T.cn_NameTaken] at e1; rw [T.cn_BadNumber] at e2; cases e1; cases e2; exact T.em_NameTaken_BadNumber
  · rw [T.cn_NoFile] at e1; rw [T.cn_BadNumber] at e2; cases e1; cases e2; exact T.em_NoFile_BadNumber
  · rw [T.cn_SameFile] at e1; rw [T.cn_BadNumber] at e2; cases e1; cases e2; exact T.em_SameFile_BadNumber
  · rw [T.cn_BadNumber] at e1; rw [T.cn_BadNumber] at e2; cases e1; cases e2; exact T.em_BadNumber_BadNumber
theorem Tx.emx_BadName (T : Tx g mg A) : ∀ c' C', (c' = "BadName" ∨ c' ∈ (["BadName", "NameTaken", "NoFile", "SameFile", "BadNumber"] : List String)) → g.cn c' = some C' → PySem.W.exmOne g.K (.ref C') (.ref A.C_BadName) = some (decide (c' = "BadName")) := by
  intro c' C' h e
  have h : c' ∈ (["BadName", "NameTaken", "NoFile", "SameFile", "BadNumber"] : List String) := h.elim (fun z => by rw [z]; decide) id
  simp only [List.mem_cons, List.not_mem_nil, or_false] at h
  rcases h with rfl | rfl | rfl | rfl | rfl
  · rw [T.cn_BadName] at e; cases e; exact T.em_BadName_BadName
  · rw [T.cn_NameTaken] at e; cases e; exact T.em_NameTaken_BadName
  · rw [T.cn_NoFile] at e; cases e; exact T.em_NoFile_BadName
  · rw [T.cn_SameFile] at e; cases e; exact T.em_SameFile_BadName
  · rw [T.cn_BadNumber] at e; cases e; exact T.em_BadNumber_BadName
theorem Tx.emx_NameTaken (T : Tx g mg A) : ∀ c' C', (c' = "NameTaken" ∨ c' ∈ (["BadName", "NameTaken", "NoFile", "SameFile", "BadNumber"] : List String)) → g.cn c' = some C' → PySem.W.exmOne g.K (.ref C') (.ref A.C_NameTaken) = some (decide (c' = "NameTaken")) := by
  intro c' C' h e
  have h : c' ∈ (["BadName", "NameTaken", "NoFile", "SameFile", "BadNumber"] : List String) := h.elim (fun z => by rw [z]; decide) id
  simp only [List.mem_cons, List.not_mem_nil, or_false] at h
  rcases h with rfl | rfl | rfl | rfl | rfl
  · rw [T.cn_BadName] at e; cases e; exact T.em_BadName_NameTaken
  · rw [T.cn_NameTaken] at e; cases e; exact T.em_NameTaken_NameTaken
  · rw [T.cn_NoFile] at e; cases e; exact T.em_NoFile_NameTaken
  · rw [T.cn_SameFile] at e; cases e; exact T.em_SameFile_NameTaken
  · rw [T.cn_BadNumber] at e; cases e; exact T.em_BadNumber_NameTaken
theorem Tx.emx_NoFile (T : Tx g mg A) : ∀ c' C', (c' = "NoFile" ∨ c' ∈ (["BadName", "NameTaken", "NoFile", "SameFile", "BadNumber"] : List String)) → g.cn c' = some C' → PySem.W.exmOne g.K (.ref C') (.ref A.C_NoFile) = some (decide (c' = "NoFile")) := by
  intro c' C' h e
  have h : c' ∈ (["BadName", "NameTaken", "NoFile", "SameFile", "BadNumber"] : List String) := h.elim (fun z => by rw [z]; decide) id
  simp only [List.mem_cons, List.not_mem_nil, or_false] at h
  rcases h with rfl | rfl | rfl | rfl | rfl
  · rw [T.cn_BadName] at e; cases e; exact T.em_BadName_NoFile
  · rw [T.cn_NameTaken] at e; cases e; exact T.em_NameTaken_NoFile
  · rw [T.cn_NoFile] at e; cases e; exact T.em_NoFile_NoFile
  · rw [T.cn_SameFile] at e; cases e; exact T.em_SameFile_NoFile
  · rw [T.cn_BadNumber] at e; cases e; exact T.em_BadNumber_NoFile
theorem Tx.emx_SameFile (T : Tx g mg A) : ∀ c' C', (c' = "SameFile" ∨ c' ∈ (["BadName", "NameTaken", "NoFile", "SameFile", "BadNumber"] : List String)) → g.cn c' = some C' → PySem.W.exmOne g.K (.ref C') (.ref A.C_SameFile) = some (decide (c' = "SameFile")) := by
  intro c' C' h e
  have h : c' ∈ (["BadName", "NameTaken", "NoFile", "SameFile", "BadNumber"] : List String) := h.elim (fun z => by rw [z]; decide) id
  simp only [List.mem_cons, List.not_mem_nil, or_false] at h
  rcases h with rfl | rfl | rfl | rfl | rfl
  · rw [T.cn_BadName] at e; cases e; exact T.em_BadName_SameFile
  · rw [T.cn_NameTaken] at e; cases e; exact T.em_NameTaken_SameFile
  · rw [T.cn_NoFile] at e; cases e; exact T.em_NoFile_SameFile
  · rw [T.cn_SameFile] at e; cases e; exact T.em_SameFile_SameFile
  · rw [T.cn_BadNumber] at e; cases e; exact T.em_BadNumber_SameFile
theorem Tx.emx_BadNumber (T : Tx g mg A) : ∀ c' C', (c' = "BadNumber" ∨ c' ∈ (["BadName", "NameTaken", "NoFile", "SameFile", "BadNumber"] : List String)) → g.cn c' = some C' → PySem.W.exmOne g.K (.ref C') (.ref A.C_BadNumber) = some (decide (c' = "BadNumber")) := by
  intro c' C' h e
  have h : c' ∈ (["BadName", "NameTaken", "NoFile", "SameFile", "BadNumber"] : List String) := h.elim (fun z => by rw [z]; decide) id
  simp only [List.mem_cons, List.not_mem_nil, or_false] at h
  rcases h with rfl | rfl | rfl | rfl | rfl
  · rw [T.cn_BadName] at e; cases e; exact T.em_BadName_BadNumber
  · rw [T.cn_NameTaken] at e; cases e; exact T.em_NameTaken_BadNumber
  · rw [T.cn_NoFile] at e; cases e; exact T.em_NoFile_BadNumber
  · rw [T.cn_SameFile] at e; cases e; exact T.em_SameFile_BadNumber
  · rw [T.cn_BadNumber] at e; cases e; exact T.em_BadNumber_BadNumber
theorem ok_BadName___init__ (T : Tx g mg A) : FnOk P w g.K mg base CX0 1 A.f_BadName___init__ A.d_BadName___init__ ps_BadName___init__ (spI1 A.C_BadName "name") := by
  refine T.F_BadName___init__.ok sc_BadName___init__ (fun vs H Q E h => ?_) (fun cdv Ar outer s H vs Q E hr h => ?_)
  · obtain ⟨a, v, rfl, _⟩ := h; rfl
  · obtain ⟨a, v, rfl, hA, q⟩ := h
    refine ⟨_, pss_one (ps_ost (pv 0) (pv 1)), ?_⟩
    exact ⟨_, rfl, _, rfl, read1 T.oex_BadName T.nf_BadName_name hA q []⟩
theorem ok_NameTaken___init__ (T : Tx g mg A) : FnOk P w g.K mg base CX0 1 A.f_NameTaken___init__ A.d_NameTaken___init__ ps_NameTaken___init__ (spI1 A.C_NameTaken "name") := by
  refine T.F_NameTaken___init__.ok sc_NameTaken___init__ (fun vs H Q E h => ?_) (fun cdv Ar outer s H vs Q E hr h => ?_)
  · obtain ⟨a, v, rfl, _⟩ := h; rfl
  · obtain ⟨a, v, rfl, hA, q⟩ := h
    refine ⟨_, pss_one (ps_ost (pv 0) (pv 1)), ?_⟩
    exact ⟨_, rfl, _, rfl, read1 T.oex_NameTaken T.nf_NameTaken_name hA q []⟩
theorem ok_NoFile___init__ (T : Tx g mg A) : FnOk P w g.K mg base CX0 1 A.f_NoFile___init__ A.d_NoFile___init__ ps_NoFile___init__ (spI1 A.C_NoFile "name") := by
  refine T.F_NoFile___init__.ok sc_NoFile___init__ (fun vs H Q E h => ?_) (fun cdv Ar outer s H vs Q E hr h => ?_)
  · obtain ⟨a, v, rfl, _⟩ := h; rfl
  · obtain ⟨a, v, rfl, hA, q⟩ := h
    refine ⟨_, pss_one (ps_ost (pv 0) (pv 1)), ?_⟩
    exact ⟨_, rfl, _, rfl, read1 T.oex_NoFile T.nf_NoFile_name hA q []⟩
theorem ok_SameFile___init__ (T : Tx g mg A) : FnOk P w g.K mg base CX0 1 A.f_SameFile___init__ A.d_SameFile___init__ ps_SameFile___init__ (spI1 A.C_SameFile "name") := by
  refine T.F_SameFile___init__.ok sc_SameFile___init__ (fun vs H Q E h => ?_) (fun cdv Ar outer s H vs Q E hr h => ?_)
  · obtain ⟨a, v, rfl, _⟩ := h; rfl
  · obtain ⟨a, v, rfl, hA, q⟩ := h
    refine ⟨_, pss_one (ps_ost (pv 0) (pv 1)), ?_⟩
    exact ⟨_, rfl, _, rfl, read1 T.oex_SameFile T.nf_SameFile_name hA q []⟩
theorem ok_BadNumber___init__ (T : Tx g mg A) : FnOk P w g.K mg base CX0 1 A.f_BadNumber___init__ A.d_BadNumber___init__ ps_BadNumber___init__ (spI1 A.C_BadNumber "value") := by
  refine T.F_BadNumber___init__.ok sc_BadNumber___init__ (fun vs H Q E h => ?_) (fun cdv Ar outer s H vs Q E hr h => ?_)
  · obtain ⟨a, v, rfl, _⟩ := h; rfl
  · obtain ⟨a, v, rfl, hA, q⟩ := h
    refine ⟨_, pss_one (ps_ost (pv 0) (pv 1)), ?_⟩
    exact ⟨_, rfl, _, rfl, read1 T.oex_BadNumber T.nf_BadNumber_value hA q []⟩
theorem ok_is_name (T : Tx g mg A) : FnOk P w g.K mg base (L2.CX P w) 1 A.f_is_name A.d_is_name ps_is_name (spU g 1 (fn1 u_is_name)) := by
  refine def_ok (m := 1) (ub := fun ws => match ws with | [a0] => b_is_name a0 | _ => bad) T.F_is_name sc_is_name (by decide) (fun ws h => ?_) (fun cdv Ar outer s H E ws h hr => ?_)
  · match ws, h with
    | [a0], _ => rfl
  · match ws, h with
    | [a0], _ =>
      exact (b_ifX (.nil _) (t_w (w_or (t_not (t_tru (x_isi (T := "str") rfl rfl T.n_isinstance rfl T.n_str (by decide +kernel) (x_var 0 (pv 0))) rfl (fun _ => rfl))) (w_or1 (t_not (t_chain op_le v2_le op_le v2_le x_int (x_callB v1_len call_lenU rfl T.n_len PySem.boot_len (x_var 0 (pv 0))) (x_const (v := (.int 8)) (pe_glob rfl T.c_LONGEST_NAME ⟨_, rfl⟩) (fun _ _ => .int _)))))))
          (b_ret (.nil _) x_bl)
          (b_ret (.nil _) (x_and rfl (x_cmp (op_inU (hr65 hr)) v2_in (x_ix (ix_U (hu_of hr)) v2_ix (x_var 0 (pv 0)) x_int (fun _ _ => rfl)) (x_const (v := (.str ("abcdefghijklmnopqrstuvwxyz" : Str))) (pe_glob rfl T.c_LETTERS ⟨_, rfl⟩) (fun _ _ => .str _)) rfl) (x_one (x_callB v1_all (cr_all rfl) rfl T.n_all (by decide +kernel) (x_lc rfl sc_is_name.nd (i_str (x_var 0 (pv 0))) (blkOk_by (own := [("character", 1)]) (N := N_is_name) (sc := defScope s_is_name) (by decide +kernel)) (by decide) (fun _ => (g_name (i := 1) sc_is_name.nd rfl (Or.inl rfl))) (fun _ z3 => ts_nil) (fun _ z3 => (x_cmp (op_inU (hr65 hr)) v2_in (x_var 1 (pv 1)) (x_const (v := (.str ("abcdefghijklmnopqrstuvwxyz0123456789" : Str))) (pe_glob rfl T.c_NAME_CHARACTERS ⟨_, rfl⟩) (fun _ _ => .str _)) rfl)))) (fun _ h => pe_one h)))))
theorem ok_is_integer (T : Tx g mg A) : FnOk P w g.K mg base (L2.CX P w) 1 A.f_is_integer A.d_is_integer ps_is_integer (spU g 1 (fn1 u_is_integer)) := by
  refine def_ok (m := 0) (ub := fun ws => match ws with | [a0] => b_is_integer a0 | _ => bad) T.F_is_integer sc_is_integer (by decide) (fun ws h => ?_) (fun cdv Ar outer s H E ws h hr => ?_)
  · match ws, h with
    | [a0], _ => rfl
  · match ws, h with
    | [a0], _ =>
      exact (b_ret (.nil _) (x_and rfl (x_isi (T := "int") rfl rfl T.n_isinstance rfl T.n_int (by decide +kernel) (x_var 0 (pv 0))) (x_one (x_not rfl (x_isi (T := "bool") rfl rfl T.n_isinstance rfl T.n_bool (by decide +kernel) (x_var 0 (pv 0)))) (fun _ h => pe_one h))))
theorem ok_refuse_strangers (T : Tx g mg A) : FnOk P w g.K mg base (L2.CX P w) 3 A.f_refuse_strangers A.d_refuse_strangers ps_refuse_strangers (spU g 2 (fn2 u_refuse_strangers)) := by
  refine def_ok (m := 1) (ub := fun ws => match ws with | [a0, a1] => b_refuse_strangers a0 a1 | _ => bad) T.F_refuse_strangers sc_refuse_strangers (by decide) (fun ws h => ?_) (fun cdv Ar outer s H E ws h hr => ?_)
  · match ws, h with
    | [a0, a1], _ => rfl
  · match ws, h with
    | [a0, a1], _ =>
      exact (b_seq (L1 := fun (j1 : Unit) => [some a0, some a1, none]) ((s_for (ts := [2]) (b0 := ()) (d := (fun v => some v)) (Lb := fun (j1 : Unit) => [some a0, some a1, none]) (.nil _) (.keep (.keep (.skip (.nil _)))) (passes_of rfl) rfl (i_seq rfl (x_var 0 (pv 0))) (fun j1 => (g_name (i := 2) sc_refuse_strangers.nd rfl (Or.inl rfl))) (fun j1 x2 =>
          (b_if (.nil _) (t_w (w_or (t_not (t_tru (x_isi (T := "str") rfl rfl T.n_isinstance rfl T.n_str (by decide +kernel) (x_var 2 (pv 2))) rfl (fun _ => rfl))) (w_or1 (t_cmp (op_notInU (hr65 hr)) v2_notIn (x_var 2 (pv 2)) (x_var 1 (pv 1)) rfl))))
            (b_raise (.nil _) T.cn_NoFile rfl (takes_of rfl rfl rfl rfl) (x_var 2 (pv 2)) (fun _ h => pmk_oex T.oex_NoFile T.ini_NoFile T.tin_NoFile (ok_NoFile___init__ T) (hr.mono (by decide)) T.b_NoFile___init__ .nil pass0 rfl T.g_NoFile (pa_cons h pa_nil)))
            (b_nil (x := ()) (.keep (.keep (.skip (.nil _))))))))) (all_of (fun j1 =>
          (b_nil (x := ()) (.nil _)))))
theorem ok_Bounds___init__ (T : Tx g mg A) : FnOk P w g.K mg base (L2.CX P w) 3 A.f_Bounds___init__ A.d_Bounds___init__ ps_Bounds___init__ (spU g 2 (fn2 u_Bounds___init__)) := by
  refine def_ok (m := 2) (ub := fun ws => match ws with | [a0, a1] => b_Bounds___init__ a0 a1 | _ => bad) T.F_Bounds___init__ sc_Bounds___init__ (by decide) (fun ws h => ?_) (fun cdv Ar outer s H E ws h hr => ?_)
  · match ws, h with
    | [a0, a1], _ => rfl
  · match ws, h with
    | [a0, a1], _ =>
      exact (b_seq (L1 := fun (j1 : Unit) => [some a0, some a1, none, none]) (s_lockL (pure a1) (s_for (ts := [2]) (b0 := ()) (d := (fun v => some v)) (Lb := fun (j1 : Unit) => [some a0, some a1, none, none]) (.nil _) (.keep (.keep (.skip (.skip (.nil _))))) (passes_of rfl) rfl (i_any rfl (x_var 1 (pv 1))) (fun j1 => (g_name (i := 2) sc_Bounds___init__.nd rfl (Or.inl rfl))) (fun j1 x2 =>
          (b_if (.nil _) (t_not (t_tru (x_call (ok_is_name T) (hr.mono (by decide)) rfl T.g_is_name T.k_is_name T.b_is_name (fun σ => passAt (takes_of rfl rfl rfl rfl) σ) fn1_len (a_cons (x_var 2 (pv 2)) a_nil)) rfl (fun _ => rfl)))
            (b_raise (.nil _) T.cn_BadName rfl (takes_of rfl rfl rfl rfl) (x_var 2 (pv 2)) (fun _ h => pmk_oex T.oex_BadName T.ini_BadName T.tin_BadName (ok_BadName___init__ T) (hr.mono (by decide)) T.b_BadName___init__ .nil pass0 rfl T.g_BadName (pa_cons h pa_nil)))
            (b_nil (x := ()) (.keep (.keep (.skip (.skip (.nil _)))))))))) (all_of (fun j1 =>
          (b_seq (L1 := fun (j6 : Unit) => [some a0, some a1, none, none]) (s_lockL (pure a1) (s_for (ts := [3, 2]) (b0 := ()) (d := dTup2) (Lb := fun (j6 : Unit) => [some a0, some a1, none, none]) (.nil _) (.keep (.keep (.skip (.skip (.nil _))))) (passes_of rfl) rfl (i_enumA rfl rfl T.n_enumerate (x_var 1 (pv 1))) (fun j6 => (g_tup2 (i := 3) (j := 2) rfl rfl sc_Bounds___init__.nd rfl (Or.inl rfl) rfl (Or.inl rfl))) (fun j6 x7 =>
          (b_if (.nil _) (t_cmp (op_inU (hr65 hr)) v2_in (x_var 2 (pv 2)) (x_sl rfl (x_var 1 (pv 1)) o_none (o_some (x_var 3 (pv 3)))) rfl)
            (b_raise (.nil _) T.cn_NameTaken rfl (takes_of rfl rfl rfl rfl) (x_var 2 (pv 2)) (fun _ h => pmk_oex T.oex_NameTaken T.ini_NameTaken T.tin_NameTaken (ok_NameTaken___init__ T) (hr.mono (by decide)) T.b_NameTaken___init__ .nil pass0 rfl T.g_NameTaken (pa_cons h pa_nil)))
            (b_nil (x := ()) (.keep (.keep (.skip (.skip (.nil _)))))))))) (all_of (fun j6 =>
          (b_fld (.nil _) T.cn_Bounds T.cl_Bounds T.nf_Bounds__names (x_callTy v1_tup call_tuple_of rfl T.n_tuple (by decide +kernel) (x_var 1 (pv 1))) (x_var 0 (pv 0))
          (b_fld (.nil _) T.cn_Bounds T.cl_Bounds T.nf_Bounds__entries x_newDT (x_var 0 (pv 0))
          (b_nil (x := ()) (.nil _))))))))))
theorem ok_Bounds_names (T : Tx g mg A) : FnOk P w g.K mg base (L2.CX P w) 1 A.f_Bounds_names A.d_Bounds_names ps_Bounds_names (spU g 1 (fn1 u_Bounds_names)) := by
  refine def_ok (m := 0) (ub := fun ws => match ws with | [a0] => b_Bounds_names a0 | _ => bad) T.F_Bounds_names sc_Bounds_names (by decide) (fun ws h => ?_) (fun cdv Ar outer s H E ws h hr => ?_)
  · match ws, h with
    | [a0], _ => rfl
  · match ws, h with
    | [a0], _ =>
      exact (b_ret (.nil _) (x_fld T.cn_Bounds T.cl_Bounds T.nf_Bounds__names (x_var 0 (pv 0))))
theorem ok_Bounds___len__ (T : Tx g mg A) : FnOk P w g.K mg base (L2.CX P w) 1 A.f_Bounds___len__ A.d_Bounds___len__ ps_Bounds___len__ (spU g 1 (fn1 u_Bounds___len__)) := by
  refine def_ok (m := 0) (ub := fun ws => match ws with | [a0] => b_Bounds___len__ a0 | _ => bad) T.F_Bounds___len__ sc_Bounds___len__ (by decide) (fun ws h => ?_) (fun cdv Ar outer s H E ws h hr => ?_)
  · match ws, h with
    | [a0], _ => rfl
  · match ws, h with
    | [a0], _ =>
      exact (b_ret (.nil _) (x_callB v1_len call_lenU rfl T.n_len PySem.boot_len (x_fld T.cn_Bounds T.cl_Bounds T.nf_Bounds__names (x_var 0 (pv 0)))))
theorem ok_Bounds___getitem__ (T : Tx g mg A) : FnOk P w g.K mg base (L2.CX P w) 4 A.f_Bounds___getitem__ A.d_Bounds___getitem__ ps_Bounds___getitem__ (spU g 2 (fn2 u_Bounds___getitem__)) := by
  refine def_ok (m := 2) (ub := fun ws => match ws with | [a0, a1] => b_Bounds___getitem__ a0 a1 | _ => bad) T.F_Bounds___getitem__ sc_Bounds___getitem__ (by decide) (fun ws h => ?_) (fun cdv Ar outer s H E ws h hr => ?_)
  · match ws, h with
    | [a0, a1], _ => rfl
  · match ws, h with
    | [a0, a1], _ =>
      exact (b_tgt (.nil _) (x_var 1 (pv 1)) (g_tup2 (i := 2) (j := 3) rfl rfl sc_Bounds___getitem__.nd rfl (Or.inl rfl) rfl (Or.inl rfl)) (fun z1 =>
          (b_expr (.nil _) (x_call (ok_refuse_strangers T) (hr.mono (by decide)) rfl T.g_refuse_strangers T.k_refuse_strangers T.b_refuse_strangers (fun σ => passAt (takes_of rfl rfl rfl rfl) σ) fn2_len (a_cons (x_tup (a_cons (x_var 2 (pv 2)) (a_cons (x_var 3 (pv 3)) a_nil))) (a_cons (x_fld T.cn_Bounds T.cl_Bounds T.nf_Bounds__names (x_var 0 (pv 0))) a_nil)))
          (b_ifX (.nil _) (t_cmp (op_eqU hr.units) v2_eq (x_var 2 (pv 2)) (x_var 3 (pv 3)) (nomark _))
          (b_ret (.nil _) x_int)
          (b_ret (.nil _) (x_get1 (hu_of hr) (x_fld T.cn_Bounds T.cl_Bounds T.nf_Bounds__entries (x_var 0 (pv 0))) (x_tup (a_cons (x_var 2 (pv 2)) (a_cons (x_var 3 (pv 3)) a_nil))) ⟨rfl, rfl, rfl, rfl⟩))))))
theorem ok_Bounds___setitem__ (T : Tx g mg A) : FnOk P w g.K mg base (L2.CX P w) 4 A.f_Bounds___setitem__ A.d_Bounds___setitem__ ps_Bounds___setitem__ (spU g 3 (fn3 u_Bounds___setitem__)) := by
  refine def_ok (m := 2) (ub := fun ws => match ws with | [a0, a1, a2] => b_Bounds___setitem__ a0 a1 a2 | _ => bad) T.F_Bounds___setitem__ sc_Bounds___setitem__ (by decide) (fun ws h => ?_) (fun cdv Ar outer s H E ws h hr => ?_)
  · match ws, h with
    | [a0, a1, a2], _ => rfl
  · match ws, h with
    | [a0, a1, a2], _ =>
      exact (b_tgt (.nil _) (x_var 1 (pv 1)) (g_tup2 (i := 3) (j := 4) rfl rfl sc_Bounds___setitem__.nd rfl (Or.inl rfl) rfl (Or.inl rfl)) (fun z1 =>
          (b_expr (.nil _) (x_call (ok_refuse_strangers T) (hr.mono (by decide)) rfl T.g_refuse_strangers T.k_refuse_strangers T.b_refuse_strangers (fun σ => passAt (takes_of rfl rfl rfl rfl) σ) fn2_len (a_cons (x_tup (a_cons (x_var 3 (pv 3)) (a_cons (x_var 4 (pv 4)) a_nil))) (a_cons (x_fld T.cn_Bounds T.cl_Bounds T.nf_Bounds__names (x_var 0 (pv 0))) a_nil)))
          (b_ifX (.nil _) (t_cmp (op_eqU hr.units) v2_eq (x_var 3 (pv 3)) (x_var 4 (pv 4)) (nomark _))
          (b_raise (.nil _) T.cn_SameFile rfl (takes_of rfl rfl rfl rfl) (x_var 3 (pv 3)) (fun _ h => pmk_oex T.oex_SameFile T.ini_SameFile T.tin_SameFile (ok_SameFile___init__ T) (hr.mono (by decide)) T.b_SameFile___init__ .nil pass0 rfl T.g_SameFile (pa_cons h pa_nil)))
          (b_ifX (.nil _) (t_w (w_and (t_cmp op_notN v2_isN (x_var 2 (pv 2)) x_non (nomark _)) (w_and1 (t_not (t_tru (x_call (ok_is_integer T) (hr.mono (by decide)) rfl T.g_is_integer T.k_is_integer T.b_is_integer (fun σ => passAt (takes_of rfl rfl rfl rfl) σ) fn1_len (a_cons (x_var 2 (pv 2)) a_nil)) rfl (fun _ => rfl))))))
          (b_raise (.nil _) T.cn_BadNumber rfl (takes_of rfl rfl rfl rfl) (x_var 2 (pv 2)) (fun _ h => pmk_oex T.oex_BadNumber T.ini_BadNumber T.tin_BadNumber (ok_BadNumber___init__ T) (hr.mono (by decide)) T.b_BadNumber___init__ .nil pass0 rfl T.g_BadNumber (pa_cons h pa_nil)))
          (b_if (.nil _) (t_cmp op_isN v2_is (x_var 2 (pv 2)) x_non (nomark _))
          (b_expr (.nil _) (x_popT (fun _ _ h1 h2 => pe_bm PySem.F.plainAttrs_dict PySem.F.slot_dict_pop PySem.F.type_dict_pop (L2.DX.mt_popT (hu_of hr)) h1 h2) (x_fld T.cn_Bounds T.cl_Bounds T.nf_Bounds__entries (x_var 0 (pv 0))) (x_tup (a_cons (x_var 3 (pv 3)) (a_cons (x_var 4 (pv 4)) a_nil))) x_non)
            (b_nil (x := ()) (.nil _)))
          (b_subA (.nil _) (hu_of hr) (x_var 2 (pv 2)) (x_fld T.cn_Bounds T.cl_Bounds T.nf_Bounds__entries (x_var 0 (pv 0))) (x_tup (a_cons (x_var 3 (pv 3)) (a_cons (x_var 4 (pv 4)) a_nil)))
            (b_nil (x := ()) (.nil _)) (fun _ _ _ h1 h2 h3 => ps_asg h1 (pg_sub h2 h3 (set_U (hu_of hr)))))))))))
theorem ok__law_cell (T : Tx g mg A) : FnOk P w g.K mg base (L2.CX P w) 3 A.f__law_cell A.d__law_cell ps__law_cell (spU g 2 (fn2 u__law_cell)) := by
  refine def_ok (m := 0) (ub := fun ws => match ws with | [a0, a1] => b__law_cell a0 a1 | _ => bad) T.F__law_cell sc__law_cell (by decide) (fun ws h => ?_) (fun cdv Ar outer s H E ws h hr => ?_)
  · match ws, h with
    | [a0, a1], _ => rfl
  · match ws, h with
    | [a0, a1], _ =>
      exact (b_ifX (.nil _) (t_cmp op_lt v2_lt (x_var 1 (pv 1)) (x_callB v1_len call_lenU rfl T.n_len PySem.boot_len (x_var 0 (pv 0))) (nomark _))
          (b_ret (.nil _) (x_ix (ix_U (hu_of hr)) v2_ix (x_var 0 (pv 0)) (x_var 1 (pv 1)) (fun _ _ => rfl)))
          (b_ret (.nil _) x_int))
theorem ok__law_pool (T : Tx g mg A) : FnOk P w g.K mg base (L2.CX P w) 1 A.f__law_pool A.d__law_pool ps__law_pool (spU g 1 (fn1 u__law_pool)) := by
  refine def_ok (m := 1) (ub := fun ws => match ws with | [a0] => b__law_pool a0 | _ => bad) T.F__law_pool sc__law_pool (by decide) (fun ws h => ?_) (fun cdv Ar outer s H E ws h hr => ?_)
  · match ws, h with
    | [a0], _ => rfl
  · match ws, h with
    | [a0], _ =>
      exact (b_set (i := 1) (.nil _) sc__law_pool.nd rfl (Or.inl rfl) (x_op op_mulU v2_mul x_int (x_var 0 (pv 0))) (fun v1 =>
          (b_seq (L1 := fun (j3 : PV) => [some a0, some j3]) (s_if (.nil _) (t_cmp op_lt v2_lt (x_var 0 (pv 0)) x_int (nomark _))
          (b_set (i := 1) (.nil _) sc__law_pool.nd rfl (Or.inl rfl) (x_op op_sub v2_sub (x_op op_sub v2_sub x_int (x_op op_mulU v2_mul x_int (x_var 0 (pv 0)))) x_int) (fun v4 =>
            (b_nil (x := v4) (.keep (.keep (.nil _))))))
          (b_nil (x := v1) (.keep (.keep (.nil _))))) (all_of (fun j3 =>
          (b_ifX (.nil _) (t_cmp op_ge v2_ge (x_var 1 (pv 1)) (x_op op_pow v2_pow x_int x_int) (nomark _))
          (b_ret (.nil _) (x_newL (a_cons (x_var 1 (pv 1)) (a_cons (x_op op_mod v2_mod (x_callTy v1_int call_int1 rfl T.n_int (by decide +kernel) (x_var 1 (pv 1))) x_int) (a_cons x_int a_nil)))))
          (b_ret (.nil _) (x_newL (a_cons x_int (a_cons (x_op op_mod v2_mod (x_callTy v1_int call_int1 rfl T.n_int (by decide +kernel) (x_var 1 (pv 1))) x_int) (a_cons x_int a_nil)))))))))))
theorem ok__law_take (T : Tx g mg A) : FnOk P w g.K mg base (L2.CX P w) 1 A.f__law_take A.d__law_take ps__law_take (spU g 2 (fn2 u__law_take)) := by
  refine def_ok (m := 2) (ub := fun ws => match ws with | [a0, a1] => b__law_take a0 a1 | _ => bad) T.F__law_take sc__law_take (by decide) (fun ws h => ?_) (fun cdv Ar outer s H E ws h hr => ?_)
  · match ws, h with
    | [a0, a1], _ => rfl
  · match ws, h with
    | [a0, a1], _ =>
      exact (b_ifX (.nil _) (t_cmp (op_gtU hr.units0) v2_gt (x_ix (ix_U (hu_of hr)) v2_ix (x_var 0 (pv 0)) x_int (fun _ _ => rfl)) x_int (nomark _))
          (b_set (i := 2) (.nil _) sc__law_take.nd rfl (Or.inl rfl) (x_op op_mod v2_mod (x_callTy v1_int call_int1 rfl T.n_int (by decide +kernel) (x_ix (ix_U (hu_of hr)) v2_ix (x_var 0 (pv 0)) x_int (fun _ _ => rfl))) (x_var 1 (pv 1))) (fun v2 =>
            (b_subA (.nil _) (hu_of hr) (x_op op_fdiv v2_div (x_ix (ix_U (hu_of hr)) v2_ix (x_var 0 (pv 0)) x_int (fun _ _ => rfl)) (x_var 1 (pv 1))) (x_var 0 (pv 0)) x_int
            (b_ret (.nil _) (x_var 2 (pv 2))) (fun _ _ _ h1 h2 h3 => ps_asg h1 (pg_sub h2 h3 (set_U (hu_of hr)))))))
          (b_subA (.nil _) (hu_of hr) (x_op op_addU v2_add (x_ix (ix_U (hu_of hr)) v2_ix (x_var 0 (pv 0)) x_int (fun _ _ => rfl)) x_int) (x_var 0 (pv 0)) x_int
          (b_set (i := 3) (.nil _) sc__law_take.nd rfl (Or.inl rfl) (x_op op_mod v2_mod (x_callTy v1_int call_int1 rfl T.n_int (by decide +kernel) (x_op op_pow v2_pow (x_op op_addU v2_add (x_op op_addU v2_add (x_ix (ix_U (hu_of hr)) v2_ix (x_var 0 (pv 0)) x_int (fun _ _ => rfl)) (x_op op_mulU v2_mul x_int (x_ix (ix_U (hu_of hr)) v2_ix (x_var 0 (pv 0)) x_int (fun _ _ => rfl)))) x_int) x_int)) x_int) (fun v7 =>
          (b_ret (.nil _) (x_op op_mod v2_mod (x_op op_mod v2_mod (x_callTy v1_int call_int1 rfl T.n_int (by decide +kernel) (x_op op_mulU v2_mul (x_op op_addU v2_add (x_var 3 (pv 3)) (x_ix (ix_U (hu_of hr)) v2_ix (x_var 0 (pv 0)) x_int (fun _ _ => rfl))) x_int)) x_int) (x_var 1 (pv 1)))))) (fun _ _ _ h1 h2 h3 => ps_asg h1 (pg_sub h2 h3 (set_U (hu_of hr))))))
theorem ok__law_names (T : Tx g mg A) : FnOk P w g.K mg base (L2.CX P w) 3 A.f__law_names A.d__law_names ps__law_names (spU g 2 (fn2 u__law_names)) := by
  refine def_okS (m := 10) (ub := fun ws => match ws with | [a0, a1] => b__law_names a0 a1 | _ => bad) T.F__law_names sc__law_names (by decide) (fun ws h => ?_) (fun cdv Ar outer s H E ws h hr => ?_)
  · match ws, h with
    | [a0, a1], _ => rfl
  · match ws, h with
    | [a0, a1], _ =>
      exact (b_set (i := 2) (.nil _) sc__law_names.nd rfl (Or.inl rfl) x_str (fun v1 =>
          (b_set (i := 3) (.nil _) sc__law_names.nd rfl (Or.inl rfl) (x_op op_addU v2_add (x_var 2 (pv 2)) x_str) (fun v2 =>
          (b_set (i := 4) (.nil _) sc__law_names.nd rfl (Or.inr rfl) (x_ix (ix_U (hu_of hr)) v2_ix (x_var 2 (pv 2)) (x_call (ok__law_take T) (hr.mono (by decide)) rfl T.g__law_take T.k__law_take T.b__law_take (fun σ => passAt (takes_of rfl rfl rfl rfl) σ) fn2_len (a_cons (x_var 0 (pv 0)) (a_cons x_int a_nil))) (fun _ _ => rfl)) (fun v3 =>
          (b_seq (L1 := fun (j4 : PV) => [some a0, some a1, some v1, some v2, some j4, none, none, none, none, none, none, none]) ((s_for (ts := [5]) (b0 := v3) (d := (fun v => some v)) (Lb := fun (j4 : PV) => [some a0, some a1, some v1, some v2, some j4, none, none, none, none, none, none, none]) (.nil _) (.keep (.keep (.keep (.keep (.keep (.skip (.skip (.skip (.skip (.skip (.skip (.skip (.nil _))))))))))))) (passes_of rfl) rfl (i_range1 rfl T.n_range x_int) (fun j4 => (g_name (i := 5) sc__law_names.nd rfl (Or.inl rfl))) (fun j4 x5 =>
          (b_set (i := 4) (.nil _) sc__law_names.nd rfl (Or.inr rfl) (x_op op_addU v2_add (x_var 4 (pv 4)) (x_ix (ix_U (hu_of hr)) v2_ix (x_var 3 (pv 3)) (x_call (ok__law_take T) (hr.mono (by decide)) rfl T.g__law_take T.k__law_take T.b__law_take (fun σ => passAt (takes_of rfl rfl rfl rfl) σ) fn2_len (a_cons (x_var 0 (pv 0)) (a_cons x_int a_nil))) (fun _ _ => rfl))) (fun v6 =>
            (b_nil (x := v6) (.keep (.keep (.keep (.keep (.keep (.skip (.skip (.skip (.skip (.skip (.skip (.skip (.nil _))))))))))))))))))) (all_of (fun j4 =>
          (b_ifX (.nil _) (t_cmp (op_eqU hr.units) v2_eq (x_call (ok__law_take T) (hr.mono (by decide)) rfl T.g__law_take T.k__law_take T.b__law_take (fun σ => passAt (takes_of rfl rfl rfl rfl) σ) fn2_len (a_cons (x_var 0 (pv 0)) (a_cons x_int a_nil))) x_int (nomark _))
          (b_ret (.nil _) (x_lc rfl sc__law_names.nd (i_range1 rfl T.n_range (x_var 1 (pv 1))) (blkOk_by (own := [("_law_k", 5)]) (N := N__law_names) (sc := defScope s__law_names) (by decide +kernel)) (by decide) (fun _ => (g_name (i := 5) sc__law_names.nd rfl (Or.inl rfl))) (fun _ z9 => ts_nil) (fun _ z9 => (x_sl rfl (x_var 4 (pv 4)) o_none (o_some (x_op op_addU v2_add (x_var 5 (pv 5)) x_int))))))
          (b_set (i := 6) (.nil _) sc__law_names.nd rfl (Or.inl rfl) (x_sl rfl (x_var 4 (pv 4)) o_none (o_some (x_call (ok__law_take T) (hr.mono (by decide)) rfl T.g__law_take T.k__law_take T.b__law_take (fun σ => passAt (takes_of rfl rfl rfl rfl) σ) fn2_len (a_cons (x_var 0 (pv 0)) (a_cons x_int a_nil))))) (fun v11 =>
          (b_set (i := 7) (.nil _) sc__law_names.nd rfl (Or.inl rfl) (x_call (ok__law_take T) (hr.mono (by decide)) rfl T.g__law_take T.k__law_take T.b__law_take (fun σ => passAt (takes_of rfl rfl rfl rfl) σ) fn2_len (a_cons (x_var 0 (pv 0)) (a_cons (x_op op_addU v2_add (x_callB v1_len call_lenU rfl T.n_len PySem.boot_len (x_var 6 (pv 6))) x_int) a_nil))) (fun v12 =>
          (b_set (i := 8) (.nil _) sc__law_names.nd rfl (Or.inl rfl) (x_ifE (t_cmp (op_eqU hr.units) v2_eq (x_var 7 (pv 7)) x_int (nomark _)) (x_var 2 (pv 2)) (x_var 3 (pv 3))) (fun v13 =>
          (b_set (i := 9) (.nil _) sc__law_names.nd rfl (Or.inl rfl) (x_call (ok__law_take T) (hr.mono (by decide)) rfl T.g__law_take T.k__law_take T.b__law_take (fun σ => passAt (takes_of rfl rfl rfl rfl) σ) fn2_len (a_cons (x_var 0 (pv 0)) (a_cons x_int a_nil))) (fun v14 =>
          (b_set (i := 10) (.nil _) sc__law_names.nd rfl (Or.inl rfl) (x_newL a_nil) (fun v15 =>
          (b_seq (L1 := fun (j16 : Unit) => [some a0, some a1, some v1, some v2, some j4, none, some v11, some v12, some v13, some v14, some v15, none]) ((s_for (ts := [5]) (b0 := ()) (d := (fun v => some v)) (Lb := fun (j16 : Unit) => [some a0, some a1, some v1, some v2, some j4, none, some v11, some v12, some v13, some v14, some v15, none]) (.nil _) (.keep (.keep (.keep (.keep (.keep (.skip (.keep (.keep (.keep (.keep (.keep (.skip (.nil _))))))))))))) (passes_of rfl) rfl (i_range1 rfl T.n_range (x_var 1 (pv 1))) (fun j16 => (g_name (i := 5) sc__law_names.nd rfl (Or.inl rfl))) (fun j16 x17 =>
          (b_set (i := 11) (.nil _) sc__law_names.nd rfl (Or.inl rfl) (x_ix (ix_U (hu_of hr)) v2_ix (x_var 8 (pv 8)) (x_op op_mod v2_mod (x_op op_addU v2_add (x_var 9 (pv 9)) (x_op op_mulU v2_mul x_int (x_var 5 (pv 5)))) (x_callB v1_len call_lenU rfl T.n_len PySem.boot_len (x_var 8 (pv 8)))) (fun _ _ => rfl)) (fun v18 =>
            (b_expr (.nil _) (x_append (fun _ _ h1 h2 => pe_bm PySem.F.plainAttrs_list PySem.F.slot_list_append PySem.F.type_list_append mt_append h1 (pa_cons h2 pa_nil)) (x_var 10 (pv 10)) (x_op op_addU v2_add (x_op op_addU v2_add (x_sl rfl (x_var 6 (pv 6)) o_none (o_some (x_var 7 (pv 7)))) (x_var 11 (pv 11))) (x_sl rfl (x_var 6 (pv 6)) (o_some (x_var 7 (pv 7))) o_none)))
            (b_nil (x := ()) (.keep (.keep (.keep (.keep (.keep (.skip (.keep (.keep (.keep (.keep (.keep (.skip (.nil _)))))))))))))))))))) (all_of (fun j16 =>
          (b_freeze 10 rfl (fun w20 => 
          (b_ret (.nil _) (x_var 10 (pv 10))))))))))))))))))))))))))))
theorem ok__law_stranger (T : Tx g mg A) : FnOk P w g.K mg base (L2.CX P w) 3 A.f__law_stranger A.d__law_stranger ps__law_stranger (spU g 2 (fn2 u__law_stranger)) := by
  refine def_ok (m := 5) (ub := fun ws => match ws with | [a0, a1] => b__law_stranger a0 a1 | _ => bad) T.F__law_stranger sc__law_stranger (by decide) (fun ws h => ?_) (fun cdv Ar outer s H E ws h hr => ?_)
  · match ws, h with
    | [a0, a1], _ => rfl
  · match ws, h with
    | [a0, a1], _ =>
      exact (b_set (i := 2) (.nil _) sc__law_stranger.nd rfl (Or.inl rfl) x_str (fun v1 =>
          (b_seq (L1 := fun (j3 : PV) => [some a0, some a1, some j3, none, none, none, none]) (s_if (.nil _) (t_cmp (op_neU hr.units) v2_ne (x_var 1 (pv 1)) (x_lst a_nil) (nomark _))
          (b_set (i := 2) (.nil _) sc__law_stranger.nd rfl (Or.inl rfl) (x_ix (ix_U (hu_of hr)) v2_ix (x_var 1 (pv 1)) (x_call (ok__law_take T) (hr.mono (by decide)) rfl T.g__law_take T.k__law_take T.b__law_take (fun σ => passAt (takes_of rfl rfl rfl rfl) σ) fn2_len (a_cons (x_var 0 (pv 0)) (a_cons (x_callB v1_len call_lenU rfl T.n_len PySem.boot_len (x_var 1 (pv 1))) a_nil))) (fun _ _ => rfl)) (fun v4 =>
            (b_nil (x := v4) (.keep (.keep (.keep (.skip (.skip (.skip (.skip (.nil _)))))))))))
          (b_nil (x := v1) (.keep (.keep (.keep (.skip (.skip (.skip (.skip (.nil _)))))))))) (all_of (fun j3 =>
          (b_set (i := 3) (.nil _) sc__law_stranger.nd rfl (Or.inl rfl) x_str (fun v5 =>
          (b_set (i := 4) (.nil _) sc__law_stranger.nd rfl (Or.inl rfl) (x_call (ok__law_take T) (hr.mono (by decide)) rfl T.g__law_take T.k__law_take T.b__law_take (fun σ => passAt (takes_of rfl rfl rfl rfl) σ) fn2_len (a_cons (x_var 0 (pv 0)) (a_cons x_int a_nil))) (fun v6 =>
          (b_seq (L1 := fun (j7 : Unit) => [some a0, some a1, some j3, some v5, some v6, none, none]) ((s_for (ts := [5]) (b0 := ()) (d := (fun v => some v)) (Lb := fun (j7 : Unit) => [some a0, some a1, some j3, some v5, some v6, none, none]) (.nil _) (.keep (.keep (.keep (.keep (.keep (.skip (.skip (.nil _)))))))) (passes_of rfl) rfl (i_range1 rfl T.n_range x_int) (fun j7 => (g_name (i := 5) sc__law_stranger.nd rfl (Or.inl rfl))) (fun j7 x8 =>
          (b_set (i := 6) (.nil _) sc__law_stranger.nd rfl (Or.inl rfl) (x_op op_addU v2_add (x_ix (ix_U (hu_of hr)) v2_ix (x_var 3 (pv 3)) (x_op op_mod v2_mod (x_op op_addU v2_add (x_var 4 (pv 4)) (x_var 5 (pv 5))) x_int) (fun _ _ => rfl)) (x_sl rfl (x_var 2 (pv 2)) (o_some x_int) o_none)) (fun v9 =>
            (b_if (.nil _) (t_cmp (op_notInU (hr65 hr)) v2_notIn (x_var 6 (pv 6)) (x_var 1 (pv 1)) rfl)
            (b_ret (.nil _) (x_var 6 (pv 6)))
            (b_nil (x := ()) (.keep (.keep (.keep (.keep (.keep (.skip (.skip (.nil _))))))))))))))) (all_of (fun j7 =>
          (b_ret (.nil _) x_str)))))))))))))
theorem ok__law_entries (T : Tx g mg A) : FnOk P w g.K mg base (L2.CX P w) 6 A.f__law_entries A.d__law_entries ps__law_entries (spU g 1 (fn1 u__law_entries)) := by
  refine def_okS (m := 3) (ub := fun ws => match ws with | [a0] => b__law_entries a0 | _ => bad) T.F__law_entries sc__law_entries (by decide) (fun ws h => ?_) (fun cdv Ar outer s H E ws h hr => ?_)
  · match ws, h with
    | [a0], _ => rfl
  · match ws, h with
    | [a0], _ =>
      exact (b_set (i := 1) (.nil _) sc__law_entries.nd rfl (Or.inl rfl) (x_newL a_nil) (fun v1 =>
          (b_seq (L1 := fun (j2 : Unit) => [some a0, some v1, none, none]) ((s_for (ts := [2]) (b0 := ()) (d := (fun v => some v)) (Lb := fun (j2 : Unit) => [some a0, some v1, none, none]) (.nil _) (.keep (.keep (.skip (.skip (.nil _))))) (passes_of rfl) rfl (i_seq rfl (x_prop T.cn_Bounds T.cl_Bounds T.p_Bounds_names (ok_Bounds_names T) (hr.mono (by decide)) T.b_Bounds_names (x_var 0 (pv 0)))) (fun j2 => (g_name (i := 2) sc__law_entries.nd rfl (Or.inr rfl))) (fun j2 x3 =>
          (b_expr (.nil _) (x_append (fun _ _ h1 h2 => pe_bm PySem.F.plainAttrs_list PySem.F.slot_list_append PySem.F.type_list_append mt_append h1 (pa_cons h2 pa_nil)) (x_var 1 (pv 1)) (x_lc rfl sc__law_entries.nd (i_seq rfl (x_prop T.cn_Bounds T.cl_Bounds T.p_Bounds_names (ok_Bounds_names T) (hr.mono (by decide)) T.b_Bounds_names (x_var 0 (pv 0)))) (blkOk_by (own := [("_law_second", 3)]) (N := N__law_entries) (sc := defScope s__law_entries) (by decide +kernel)) (by decide) (fun _ => (g_name (i := 3) sc__law_entries.nd rfl (Or.inl rfl))) (fun _ z4 => ts_nil) (fun _ z4 => (x_getO T.cn_Bounds T.m_Bounds___getitem__ T.fi_Bounds___getitem__ (spU_raw (ok_Bounds___getitem__ T) T.b_Bounds___getitem__) (hr.mono (by decide)) (fun σ => passLAt σ) (x_var 0 (pv 0)) (x_tup (a_cons (x_var 2 (pv 2)) (a_cons (x_var 3 (pv 3)) a_nil)))))))
            (b_nil (x := ()) (.keep (.keep (.skip (.skip (.nil _)))))))))) (all_of (fun j2 =>
          (b_freeze 1 rfl (fun w6 => 
          (b_ret (.nil _) (x_var 1 (pv 1))))))))))
theorem ok__law_whole (T : Tx g mg A) : FnOk P w g.K mg base (L2.CX P w) 1 A.f__law_whole A.d__law_whole ps__law_whole (spU g 1 (fn1 u__law_whole)) := by
  refine def_ok (m := 0) (ub := fun ws => match ws with | [a0] => b__law_whole a0 | _ => bad) T.F__law_whole sc__law_whole (by decide) (fun ws h => ?_) (fun cdv Ar outer s H E ws h hr => ?_)
  · match ws, h with
    | [a0], _ => rfl
  · match ws, h with
    | [a0], _ =>
      exact (b_ret (.nil _) (x_and rfl (x_isi (T := "int") rfl rfl T.n_isinstance rfl T.n_int (by decide +kernel) (x_var 0 (pv 0))) (x_one (x_not rfl (x_isi (T := "bool") rfl rfl T.n_isinstance rfl T.n_bool (by decide +kernel) (x_var 0 (pv 0)))) (fun _ h => pe_one h))))
theorem ok__law_refusal (T : Tx g mg A) : FnOk P w g.K mg base (L2.CX P w) 6 A.f__law_refusal A.d__law_refusal ps__law_refusal (spU g 4 (fn4 u__law_refusal)) := by
  refine def_ok (m := 1) (ub := fun ws => match ws with | [a0, a1, a2, a3] => b__law_refusal a0 a1 a2 a3 | _ => bad) T.F__law_refusal sc__law_refusal (by decide) (fun ws h => ?_) (fun cdv Ar outer s H E ws h hr => ?_)
  · match ws, h with
    | [a0, a1, a2, a3], _ => rfl
  · match ws, h with
    | [a0, a1, a2, a3], _ =>
      exact (b_seq (L1 := fun (j1 : Unit) => [some a0, some a1, some a2, some a3, none]) (s_tryN (εt := [some a0, some a1, some a2, some a3, none]) (cs := ["BadName", "NameTaken", "NoFile", "SameFile", "BadNumber"]) (.nil _) (.keep (.keep (.keep (.keep (.skip (.nil _)))))) rfl rfl sc__law_refusal.nd (takes_of rfl rfl rfl rfl) (fun h hm c' C' C hc e1 e2 => T.emall h.1 (by simp only [List.mem_cons, List.not_mem_nil, or_false] at hm; rcases hm with rfl | rfl | rfl <;> simp) c' C' C hc e1 e2) (fun W' pn xe tk px =>
          (b_setO (.keep (.keep (.keep (.keep (.skip (.nil _)))))) T.cn_Bounds T.m_Bounds___setitem__ T.ns_Bounds (spU_raw (ok_Bounds___setitem__ T) T.b_Bounds___setitem__) (hr.mono (by decide)) (fun σ => passAt tk σ) (x_var 3 (pv 3)) (x_var 0 (pv 0)) (x_tup (a_cons (x_var 1 (pv 1)) (a_cons (x_var 2 (pv 2)) a_nil)))
            (b_nil (x := ()) (.keep (.keep (.keep (.keep (.skip (.nil _))))))))) (.cons (i := 4) T.cn_NoFile ⟨rfl, by decide, .inl T.g_NoFile⟩ rfl rfl (fun _ => rfl) (fun e => nomatch e) (fun a oe cls dd pn ns xs hz hf hcl =>
          (b_ret (.nil _) (x_lst (a_cons x_str (a_cons (x_xf (i := 4) T.xf_NoFile T.nf_NoFile_name hz hf hcl rfl (pv 4)) a_nil))))) (.cons (i := 4) T.cn_SameFile ⟨rfl, by decide, .inl T.g_SameFile⟩ rfl rfl (fun _ => rfl) (fun e => nomatch e) (fun a oe cls dd pn ns xs hz hf hcl =>
          (b_ret (.nil _) (x_lst (a_cons x_str (a_cons (x_xf (i := 4) T.xf_SameFile T.nf_SameFile_name hz hf hcl rfl (pv 4)) a_nil))))) (.cons (i := 4) T.cn_BadNumber ⟨rfl, by decide, .inl T.g_BadNumber⟩ rfl rfl (fun _ => rfl) (fun e => nomatch e) (fun a oe cls dd pn ns xs hz hf hcl =>
          (b_ret (.nil _) (x_lst (a_cons x_str (a_cons (x_xf (i := 4) T.xf_BadNumber T.nf_BadNumber_value hz hf hcl rfl (pv 4)) a_nil))))) .nil)))) (all_of (fun j1 =>
          (b_ret (.nil _) (x_lst a_nil)))))
theorem ok__law_read (T : Tx g mg A) : FnOk P w g.K mg base (L2.CX P w) 6 A.f__law_read A.d__law_read ps__law_read (spU g 3 (fn3 u__law_read)) := by
  refine def_ok (m := 1) (ub := fun ws => match ws with | [a0, a1, a2] => b__law_read a0 a1 a2 | _ => bad) T.F__law_read sc__law_read (by decide) (fun ws h => ?_) (fun cdv Ar outer s H E ws h hr => ?_)
  · match ws, h with
    | [a0, a1, a2], _ => rfl
  · match ws, h with
    | [a0, a1, a2], _ =>
      exact (b_seq (L1 := fun (j1 : Unit) => [some a0, some a1, some a2, none]) (s_try (i := 3) (εt := [some a0, some a1, some a2, none]) (cs := ["BadName", "NameTaken", "NoFile", "SameFile", "BadNumber"]) (.nil _) (.keep (.keep (.keep (.skip (.nil _))))) T.cn_NoFile rfl rfl sc__law_read.nd rfl rfl ⟨rfl, by decide, .inl T.g_NoFile⟩ (takes_of rfl rfl rfl rfl) T.emx_NoFile (fun _ => rfl) (fun e => nomatch e) (fun W' pn xe tk px =>
          (b_ret (.keep (.keep (.keep (.skip (.nil _))))) (x_lst (a_cons (x_getO T.cn_Bounds T.m_Bounds___getitem__ T.fi_Bounds___getitem__ (spU_raw (ok_Bounds___getitem__ T) T.b_Bounds___getitem__) (hr.mono (by decide)) (fun σ => passAt tk σ) (x_var 0 (pv 0)) (x_tup (a_cons (x_var 1 (pv 1)) (a_cons (x_var 2 (pv 2)) a_nil)))) a_nil)))) (fun a oe cls dd pn ns xs hz hf hcl =>
          (b_ret (.nil _) (x_lst (a_cons x_str (a_cons (x_xf (i := 3) T.xf_NoFile T.nf_NoFile_name hz hf hcl rfl (pv 3)) a_nil)))))) (all_of (fun j1 =>
          (b_nil (x := ()) (.nil _)))))
theorem ok__law_twice (T : Tx g mg A) : FnOk P w g.K mg base (L2.CX P w) 5 A.f__law_twice A.d__law_twice ps__law_twice (spU g 2 (fn2 u__law_twice)) := by
  refine def_ok (m := 1) (ub := fun ws => match ws with | [a0, a1] => b__law_twice a0 a1 | _ => bad) T.F__law_twice sc__law_twice (by decide) (fun ws h => ?_) (fun cdv Ar outer s H E ws h hr => ?_)
  · match ws, h with
    | [a0, a1], _ => rfl
  · match ws, h with
    | [a0, a1], _ =>
      exact (b_seq (L1 := fun (j1 : Unit) => [some a0, some a1, none]) (s_try (i := 2) (εt := [some a0, some a1, none]) (cs := ["BadName", "NameTaken", "NoFile", "SameFile", "BadNumber"]) (.nil _) (.keep (.keep (.skip (.nil _)))) T.cn_NameTaken rfl rfl sc__law_twice.nd rfl rfl ⟨rfl, by decide, .inl T.g_NameTaken⟩ (takes_of rfl rfl rfl rfl) T.emx_NameTaken (fun _ => rfl) (fun e => nomatch e) (fun W' pn xe tk px =>
          (b_expr (.keep (.keep (.skip (.nil _)))) (x_make T.cn_Bounds T.mk_Bounds (ok_Bounds___init__ T) (hr.mono (by decide)) rfl T.g_Bounds T.b_Bounds___init__ (fun σ => passAt tk σ) fn2_len (a_cons (x_var 0 (pv 0)) a_nil))
            (b_nil (x := ()) (.keep (.keep (.skip (.nil _))))))) (fun a oe cls dd pn ns xs hz hf hcl =>
          (b_ret (.nil _) (x_cmp (op_eqU hr.units) v2_eq (x_xf (i := 2) T.xf_NameTaken T.nf_NameTaken_name hz hf hcl rfl (pv 2)) (x_var 1 (pv 1)) (nomark _))))) (all_of (fun j1 =>
          (b_ret (.nil _) x_bl))))
theorem ok__law_bad (T : Tx g mg A) : FnOk P w g.K mg base (L2.CX P w) 5 A.f__law_bad A.d__law_bad ps__law_bad (spU g 1 (fn1 u__law_bad)) := by
  refine def_ok (m := 1) (ub := fun ws => match ws with | [a0] => b__law_bad a0 | _ => bad) T.F__law_bad sc__law_bad (by decide) (fun ws h => ?_) (fun cdv Ar outer s H E ws h hr => ?_)
  · match ws, h with
    | [a0], _ => rfl
  · match ws, h with
    | [a0], _ =>
      exact (b_seq (L1 := fun (j1 : Unit) => [some a0, none]) (s_try (i := 1) (εt := [some a0, none]) (cs := ["BadName", "NameTaken", "NoFile", "SameFile", "BadNumber"]) (.nil _) (.keep (.skip (.nil _))) T.cn_BadName rfl rfl sc__law_bad.nd rfl rfl ⟨rfl, by decide, .inl T.g_BadName⟩ (takes_of rfl rfl rfl rfl) T.emx_BadName (fun _ => rfl) (fun e => nomatch e) (fun W' pn xe tk px =>
          (b_expr (.keep (.skip (.nil _))) (x_make T.cn_Bounds T.mk_Bounds (ok_Bounds___init__ T) (hr.mono (by decide)) rfl T.g_Bounds T.b_Bounds___init__ (fun σ => passAt tk σ) fn2_len (a_cons (x_var 0 (pv 0)) a_nil))
            (b_nil (x := ()) (.keep (.skip (.nil _)))))) (fun a oe cls dd pn ns xs hz hf hcl =>
          (b_ret (.nil _) (x_cmp (op_eqU hr.units) v2_eq (x_xf (i := 1) T.xf_BadName T.nf_BadName_name hz hf hcl rfl (pv 1)) x_str (nomark _))))) (all_of (fun j1 =>
          (b_ret (.nil _) x_bl))))
theorem ok__law_refused (T : Tx g mg A) : FnOk P w g.K mg base (L2.CX P w) 7 A.f__law_refused A.d__law_refused ps__law_refused (spU g 5 (fn5 u__law_refused)) := by
  refine def_ok (m := 7) (ub := fun ws => match ws with | [a0, a1, a2, a3, a4] => b__law_refused a0 a1 a2 a3 a4 | _ => bad) T.F__law_refused sc__law_refused (by decide) (fun ws h => ?_) (fun cdv Ar outer s H E ws h hr => ?_)
  · match ws, h with
    | [a0, a1, a2, a3, a4], _ => rfl
  · match ws, h with
    | [a0, a1, a2, a3, a4], _ =>
      exact (b_set (i := 5) (.nil _) sc__law_refused.nd rfl (Or.inl rfl) (x_call (ok__law_stranger T) (hr.mono (by decide)) rfl T.g__law_stranger T.k__law_stranger T.b__law_stranger (fun σ => passAt (takes_of rfl rfl rfl rfl) σ) fn2_len (a_cons (x_var 0 (pv 0)) (a_cons (x_var 2 (pv 2)) a_nil))) (fun v1 =>
          (b_set (i := 6) (.nil _) sc__law_refused.nd rfl (Or.inl rfl) (x_ix (ix_U (hu_of hr)) v2_ix (x_lst (a_cons x_bl (a_cons x_str (a_cons (x_tup (a_cons x_int a_nil)) (a_cons x_bl (a_cons (x_lst (a_cons x_int a_nil)) a_nil)))))) (x_call (ok__law_take T) (hr.mono (by decide)) rfl T.g__law_take T.k__law_take T.b__law_take (fun σ => passAt (takes_of rfl rfl rfl rfl) σ) fn2_len (a_cons (x_var 0 (pv 0)) (a_cons x_int a_nil))) (fun _ _ => rfl)) (fun v2 =>
          (b_seq (L1 := fun (j3 : Unit) => [some a0, some a1, some a2, some a3, some a4, some v1, some v2, none, none, none, none, none]) ((s_for (ts := [7]) (b0 := ()) (d := (fun v => some v)) (Lb := fun (j3 : Unit) => [some a0, some a1, some a2, some a3, some a4, some v1, some v2, none, none, none, none, none]) (.nil _) (.keep (.keep (.keep (.keep (.keep (.keep (.keep (.skip (.skip (.skip (.skip (.skip (.nil _))))))))))))) (passes_of rfl) rfl (i_range1 rfl T.n_range x_int) (fun j3 => (g_name (i := 7) sc__law_refused.nd rfl (Or.inl rfl))) (fun j3 x4 =>
          (b_ifX (.nil _) (t_cmp (op_neU hr.units) v2_ne (x_call (ok__law_refusal T) (hr.mono (by decide)) rfl T.g__law_refusal T.k__law_refusal T.b__law_refusal (fun σ => passAt (takes_of rfl rfl rfl rfl) σ) fn4_len (a_cons (x_var 1 (pv 1)) (a_cons (x_var 5 (pv 5)) (a_cons (x_var 4 (pv 4)) (a_cons (x_ix (ix_U (hu_of hr)) v2_ix (x_lst (a_cons x_int (a_cons (x_var 6 (pv 6)) a_nil))) (x_var 7 (pv 7)) (fun _ _ => rfl)) a_nil))))) (x_lst (a_cons x_str (a_cons (x_var 5 (pv 5)) a_nil))) (nomark _))
            (b_ret (.nil _) x_bl)
            (b_set (i := 8) (.nil _) sc__law_refused.nd rfl (Or.inl rfl) (x_ix (ix_U (hu_of hr)) v2_ix (x_lst (a_cons x_non (a_cons (x_var 6 (pv 6)) a_nil))) (x_var 7 (pv 7)) (fun _ _ => rfl)) (fun v7 =>
            (b_ifX (.nil _) (t_cmp (op_neU hr.units) v2_ne (x_call (ok__law_refusal T) (hr.mono (by decide)) rfl T.g__law_refusal T.k__law_refusal T.b__law_refusal (fun σ => passAt (takes_of rfl rfl rfl rfl) σ) fn4_len (a_cons (x_var 1 (pv 1)) (a_cons (x_var 3 (pv 3)) (a_cons (x_var 5 (pv 5)) (a_cons (x_var 8 (pv 8)) a_nil))))) (x_lst (a_cons x_str (a_cons (x_var 5 (pv 5)) a_nil))) (nomark _))
            (b_ret (.nil _) x_bl)
            (b_if (.nil _) (t_cmp (op_neU hr.units) v2_ne (x_call (ok__law_refusal T) (hr.mono (by decide)) rfl T.g__law_refusal T.k__law_refusal T.b__law_refusal (fun σ => passAt (takes_of rfl rfl rfl rfl) σ) fn4_len (a_cons (x_var 1 (pv 1)) (a_cons (x_var 3 (pv 3)) (a_cons (x_var 3 (pv 3)) (a_cons (x_ix (ix_U (hu_of hr)) v2_ix (x_lst (a_cons x_int (a_cons (x_var 6 (pv 6)) a_nil))) (x_var 7 (pv 7)) (fun _ _ => rfl)) a_nil))))) (x_lst (a_cons x_str (a_cons (x_var 3 (pv 3)) a_nil))) (nomark _))
            (b_ret (.nil _) x_bl)
            (b_nil (x := ()) (.keep (.keep (.keep (.keep (.keep (.keep (.keep (.skip (.skip (.skip (.skip (.skip (.nil _)))))))))))))))))))))) (all_of (fun j3 =>
          (b_ifX (.nil _) (t_cmp (op_neU hr.units) v2_ne (x_call (ok__law_read T) (hr.mono (by decide)) rfl T.g__law_read T.k__law_read T.b__law_read (fun σ => passAt (takes_of rfl rfl rfl rfl) σ) fn3_len (a_cons (x_var 1 (pv 1)) (a_cons (x_var 5 (pv 5)) (a_cons (x_var 4 (pv 4)) a_nil)))) (x_lst (a_cons x_str (a_cons (x_var 5 (pv 5)) a_nil))) (nomark _))
          (b_ret (.nil _) x_bl)
          (b_ifX (.nil _) (t_cmp (op_neU hr.units) v2_ne (x_call (ok__law_read T) (hr.mono (by decide)) rfl T.g__law_read T.k__law_read T.b__law_read (fun σ => passAt (takes_of rfl rfl rfl rfl) σ) fn3_len (a_cons (x_var 1 (pv 1)) (a_cons (x_var 3 (pv 3)) (a_cons (x_var 5 (pv 5)) a_nil)))) (x_lst (a_cons x_str (a_cons (x_var 5 (pv 5)) a_nil))) (nomark _))
          (b_ret (.nil _) x_bl)
          (b_ifX (.nil _) (t_w (w_and (t_cmp (op_neU hr.units) v2_ne (x_var 3 (pv 3)) (x_var 4 (pv 4)) (nomark _)) (w_and1 (t_cmp (op_neU hr.units) v2_ne (x_call (ok__law_refusal T) (hr.mono (by decide)) rfl T.g__law_refusal T.k__law_refusal T.b__law_refusal (fun σ => passAt (takes_of rfl rfl rfl rfl) σ) fn4_len (a_cons (x_var 1 (pv 1)) (a_cons (x_var 3 (pv 3)) (a_cons (x_var 4 (pv 4)) (a_cons (x_var 6 (pv 6)) a_nil))))) (x_lst (a_cons x_str (a_cons (x_var 6 (pv 6)) a_nil))) (nomark _)))))
          (b_ret (.nil _) x_bl)
          (b_set (i := 9) (.nil _) sc__law_refused.nd rfl (Or.inl rfl) (x_call (ok__law_stranger T) (hr.mono (by decide)) rfl T.g__law_stranger T.k__law_stranger T.b__law_stranger (fun σ => passAt (takes_of rfl rfl rfl rfl) σ) fn2_len (a_cons (x_var 0 (pv 0)) (a_cons (x_op op_addU v2_add (x_var 2 (pv 2)) (x_lst (a_cons (x_var 5 (pv 5)) a_nil))) a_nil))) (fun v19 =>
          (b_seq (L1 := fun (j20 : Unit) => [some a0, some a1, some a2, some a3, some a4, some v1, some v2, none, none, some v19, none, none]) ((s_for (ts := [10, 11]) (b0 := ()) (d := dTup2) (Lb := fun (j20 : Unit) => [some a0, some a1, some a2, some a3, some a4, some v1, some v2, none, none, some v19, none, none]) (.nil _) (.keep (.keep (.keep (.keep (.keep (.keep (.keep (.skip (.skip (.keep (.skip (.skip (.nil _))))))))))))) (passes_of rfl) rfl (i_seq rfl (x_lst (a_cons (x_tup (a_cons (x_var 5 (pv 5)) (a_cons (x_var 9 (pv 9)) a_nil))) (a_cons (x_tup (a_cons (x_var 9 (pv 9)) (a_cons (x_var 5 (pv 5)) a_nil))) (a_cons (x_tup (a_cons (x_var 5 (pv 5)) (a_cons (x_var 5 (pv 5)) a_nil))) a_nil))))) (fun j20 => (g_tup2 (i := 10) (j := 11) rfl rfl sc__law_refused.nd rfl (Or.inl rfl) rfl (Or.inl rfl))) (fun j20 x21 =>
          (b_ifX (.nil _) (t_cmp (op_neU hr.units) v2_ne (x_call (ok__law_read T) (hr.mono (by decide)) rfl T.g__law_read T.k__law_read T.b__law_read (fun σ => passAt (takes_of rfl rfl rfl rfl) σ) fn3_len (a_cons (x_var 1 (pv 1)) (a_cons (x_var 10 (pv 10)) (a_cons (x_var 11 (pv 11)) a_nil)))) (x_lst (a_cons x_str (a_cons (x_var 10 (pv 10)) a_nil))) (nomark _))
            (b_ret (.nil _) x_bl)
            (b_if (.nil _) (t_cmp (op_neU hr.units) v2_ne (x_call (ok__law_refusal T) (hr.mono (by decide)) rfl T.g__law_refusal T.k__law_refusal T.b__law_refusal (fun σ => passAt (takes_of rfl rfl rfl rfl) σ) fn4_len (a_cons (x_var 1 (pv 1)) (a_cons (x_var 10 (pv 10)) (a_cons (x_var 11 (pv 11)) (a_cons (x_ix (ix_U (hu_of hr)) v2_ix (x_lst (a_cons x_int (a_cons (x_var 6 (pv 6)) a_nil))) (x_callTy v1_int call_int1 rfl T.n_int (by decide +kernel) (x_cmp (op_eqU hr.units) v2_eq (x_var 10 (pv 10)) (x_var 9 (pv 9)) (nomark _))) (fun _ _ => rfl)) a_nil))))) (x_lst (a_cons x_str (a_cons (x_var 10 (pv 10)) a_nil))) (nomark _))
            (b_ret (.nil _) x_bl)
            (b_nil (x := ()) (.keep (.keep (.keep (.keep (.keep (.keep (.keep (.skip (.skip (.keep (.skip (.skip (.nil _))))))))))))))))))) (all_of (fun j20 =>
          (b_ifX (.nil _) (t_w (w_or (t_not (t_tru (x_call (ok__law_bad T) (hr.mono (by decide)) rfl T.g__law_bad T.k__law_bad T.b__law_bad (fun σ => passAt (takes_of rfl rfl rfl rfl) σ) fn1_len (a_cons (x_op op_addU v2_add (x_var 2 (pv 2)) (x_lst (a_cons (x_var 3 (pv 3)) (a_cons x_str a_nil)))) a_nil)) rfl (fun _ => rfl))) (w_or1 (t_not (t_tru (x_call (ok__law_bad T) (hr.mono (by decide)) rfl T.g__law_bad T.k__law_bad T.b__law_bad (fun σ => passAt (takes_of rfl rfl rfl rfl) σ) fn1_len (a_cons (x_lst (a_cons (x_var 3 (pv 3)) (a_cons (x_var 3 (pv 3)) (a_cons x_str a_nil)))) a_nil)) rfl (fun _ => rfl))))))
          (b_ret (.nil _) x_bl)
          (b_ret (.nil _) (x_and rfl (x_call (ok__law_twice T) (hr.mono (by decide)) rfl T.g__law_twice T.k__law_twice T.b__law_twice (fun σ => passAt (takes_of rfl rfl rfl rfl) σ) fn2_len (a_cons (x_op op_addU v2_add (x_var 2 (pv 2)) (x_lst (a_cons (x_var 3 (pv 3)) a_nil))) (a_cons (x_var 3 (pv 3)) a_nil))) (x_one (x_call (ok__law_twice T) (hr.mono (by decide)) rfl T.g__law_twice T.k__law_twice T.b__law_twice (fun σ => passAt (takes_of rfl rfl rfl rfl) σ) fn2_len (a_cons (x_tup (a_cons (x_var 5 (pv 5)) (a_cons (x_var 3 (pv 3)) (a_cons (x_var 5 (pv 5)) (a_cons (x_var 3 (pv 3)) a_nil))))) (a_cons (x_var 5 (pv 5)) a_nil))) (fun _ h => pe_one h))))))))))))))))))))
theorem ok_law (T : Tx g mg A) : FnOk P w g.K mg base CX0 8 A.f_law A.d_law ps_law (spL g 1 (fn1 u_law)) := by
  refine def_law (m := 12) (ub := fun ws => match ws with | [a0] => b_law a0 | _ => bad) T.F_law sc_law (by decide) (fun ws h => ?_) (fun cdv Ar outer s H E ws h hr => ?_)
  · match ws, h with
    | [a0], _ => rfl
  · match ws, h with
    | [a0], _ =>
      exact (b_set (i := 1) (.nil _) sc_law.nd rfl (Or.inl rfl) (x_call (ok__law_pool T) (hr.mono (by decide)) rfl T.g__law_pool T.k__law_pool T.b__law_pool (fun σ => passLAt σ) fn1_len (a_cons (x_call (ok__law_cell T) (hr.mono (by decide)) rfl T.g__law_cell T.k__law_cell T.b__law_cell (fun σ => passLAt σ) fn2_len (a_cons (x_var 0 (pv 0)) (a_cons x_int a_nil))) a_nil)) (fun v1 =>
          (b_set (i := 2) (.nil _) sc_law.nd rfl (Or.inl rfl) (x_call (ok__law_names T) (hr.mono (by decide)) rfl T.g__law_names T.k__law_names T.b__law_names (fun σ => passLAt σ) fn2_len (a_cons (x_var 1 (pv 1)) (a_cons (x_call (ok__law_take T) (hr.mono (by decide)) rfl T.g__law_take T.k__law_take T.b__law_take (fun σ => passLAt σ) fn2_len (a_cons (x_var 1 (pv 1)) (a_cons x_int a_nil))) a_nil))) (fun v2 =>
          (b_set (i := 3) (.nil _) sc_law.nd rfl (Or.inl rfl) (x_listN rfl rfl T.n_list (by decide +kernel) (x_var 2 (pv 2))) (fun v3 =>
          (b_set (i := 4) (.nil _) sc_law.nd rfl (Or.inl rfl) (x_make T.cn_Bounds T.mk_Bounds (ok_Bounds___init__ T) (hr.mono (by decide)) rfl T.g_Bounds T.b_Bounds___init__ (fun σ => passLAt σ) fn2_len (a_cons (x_var 3 (pv 3)) a_nil)) (fun v4 =>
          (b_seq (L1 := fun (j6 : PV) => [some a0, some v1, some v2, some v3, some j6, none, none, none, none, none, none, none, none]) (s_if (.nil _) (t_cmp (op_eqU hr.units) v2_eq (x_call (ok__law_take T) (hr.mono (by decide)) rfl T.g__law_take T.k__law_take T.b__law_take (fun σ => passLAt σ) fn2_len (a_cons (x_var 1 (pv 1)) (a_cons x_int a_nil))) x_int (nomark _))
          (b_set (i := 4) (.nil _) sc_law.nd rfl (Or.inl rfl) (x_make T.cn_Bounds T.mk_Bounds (ok_Bounds___init__ T) (hr.mono (by decide)) rfl T.g_Bounds T.b_Bounds___init__ (fun σ => passLAt σ) fn2_len (a_cons (x_callTy v1_tup call_tuple_of rfl T.n_tuple (by decide +kernel) (x_var 2 (pv 2))) a_nil)) (fun v7 =>
            (b_nil (x := v7) (.keep (.keep (.keep (.keep (.keep (.skip (.skip (.skip (.skip (.skip (.skip (.skip (.skip (.nil _)))))))))))))))))
          (b_nil (x := v4) (.keep (.keep (.keep (.keep (.keep (.skip (.skip (.skip (.skip (.skip (.skip (.skip (.skip (.nil _)))))))))))))))) (all_of (fun j6 =>
          (b_expr (.nil _) (x_append (fun _ _ h1 h2 => pe_bm PySem.F.plainAttrs_list PySem.F.slot_list_append PySem.F.type_list_append mt_append h1 (pa_cons h2 pa_nil)) (x_var 3 (pv 3)) x_str)
          (b_set (i := 5) (.nil _) sc_law.nd rfl (Or.inl rfl) (x_newL a_nil) (fun v8 =>
          (b_seq (L1 := fun (j9 : Unit) => [some a0, some v1, some v2, some v3, some j6, some v8, none, none, none, none, none, none, none]) ((s_for (ts := [6]) (b0 := ()) (d := (fun v => some v)) (Lb := fun (j9 : Unit) => [some a0, some v1, some v2, some v3, some j6, some v8, none, none, none, none, none, none, none]) (.nil _) (.keep (.keep (.keep (.keep (.keep (.keep (.skip (.skip (.skip (.skip (.skip (.skip (.skip (.nil _)))))))))))))) PassesOwn.never rfl (i_range1 rfl T.n_range (x_callB v1_len call_lenU rfl T.n_len PySem.boot_len (x_var 2 (pv 2)))) (fun j9 => (g_name (i := 6) sc_law.nd rfl (Or.inr rfl))) (fun j9 x10 =>
          (b_expr (.nil _) (x_append (fun _ _ h1 h2 => pe_bm PySem.F.plainAttrs_list PySem.F.slot_list_append PySem.F.type_list_append mt_append h1 (pa_cons h2 pa_nil)) (x_var 5 (pv 5)) (x_lcN rfl sc_law.nd (i_range1 rfl T.n_range (x_callB v1_len call_lenU rfl T.n_len PySem.boot_len (x_var 2 (pv 2)))) (blkOk_by (own := [("_law_j", 7)]) (N := N_law) (sc := defScope s_law) (by decide +kernel)) (by decide) (fun _ => (g_name (i := 7) sc_law.nd rfl (Or.inl rfl))) (fun _ z11 => ts_nil) (fun _ z11 => (x_ifE (t_cmp (op_eqU hr.units) v2_eq (x_var 6 (pv 6)) (x_var 7 (pv 7)) (nomark _)) x_int x_non))))
            (b_nil (x := ()) (.keep (.keep (.keep (.keep (.keep (.keep (.skip (.skip (.skip (.skip (.skip (.skip (.skip (.nil _))))))))))))))))))) (all_of (fun j9 =>
          (b_set (i := 1) (.nil _) sc_law.nd rfl (Or.inl rfl) (x_call (ok__law_pool T) (hr.mono (by decide)) rfl T.g__law_pool T.k__law_pool T.b__law_pool (fun σ => passLAt σ) fn1_len (a_cons (x_call (ok__law_cell T) (hr.mono (by decide)) rfl T.g__law_cell T.k__law_cell T.b__law_cell (fun σ => passLAt σ) fn2_len (a_cons (x_var 0 (pv 0)) (a_cons x_int a_nil))) a_nil)) (fun v13 =>
          (b_seq (L1 := fun (j14 : Unit) => [some a0, some v13, some v2, some v3, some j6, some v8, none, none, none, none, none, none, none]) ((s_for (ts := [8]) (b0 := ()) (d := (fun v => some v)) (Lb := fun (j14 : Unit) => [some a0, some v13, some v2, some v3, some j6, some v8, none, none, none, none, none, none, none]) (.nil _) (.keep (.keep (.keep (.keep (.keep (.keep (.skip (.skip (.skip (.skip (.skip (.skip (.skip (.nil _)))))))))))))) PassesOwn.never rfl (i_range1 rfl T.n_range (x_call (ok__law_take T) (hr.mono (by decide)) rfl T.g__law_take T.k__law_take T.b__law_take (fun σ => passLAt σ) fn2_len (a_cons (x_var 1 (pv 1)) (a_cons x_int a_nil)))) (fun j14 => (g_name (i := 8) sc_law.nd rfl (Or.inl rfl))) (fun j14 x15 =>
          (b_ifX (.nil _) (t_w (w_or (t_cmp (op_neU hr.units) v2_ne (x_prop T.cn_Bounds T.cl_Bounds T.p_Bounds_names (ok_Bounds_names T) (hr.mono (by decide)) T.b_Bounds_names (x_var 4 (pv 4))) (x_callTy v1_tup call_tuple_of rfl T.n_tuple (by decide +kernel) (x_var 2 (pv 2))) (nomark _)) (w_or1 (t_cmp (op_neU hr.units) v2_ne (x_lenO (n := "len") T.cn_Bounds T.m_Bounds___len__ (spU_raw (ok_Bounds___len__ T) T.b_Bounds___len__) (hr.mono (by decide)) rfl T.n_len (x_var 4 (pv 4))) (x_callB v1_len call_lenU rfl T.n_len PySem.boot_len (x_var 2 (pv 2))) (nomark _)))))
            (b_ret (.nil _) x_bl)
            (b_ifX (.nil _) (t_cmp (op_neU hr.units) v2_neA (x_call (ok__law_entries T) (hr.mono (by decide)) rfl T.g__law_entries T.k__law_entries T.b__law_entries (fun σ => passLAt σ) fn1_len (a_cons (x_var 4 (pv 4)) a_nil)) (x_var 5 (pv 5)) (nomark _))
            (b_ret (.nil _) x_bl)
            (b_ifX (.nil _) (t_cmp (op_eqU hr.units) v2_eq (x_var 2 (pv 2)) (x_lst a_nil) (nomark _))
            (b_ret (.nil _) x_bl)
            (b_set (i := 6) (.nil _) sc_law.nd rfl (Or.inr rfl) (x_call (ok__law_take T) (hr.mono (by decide)) rfl T.g__law_take T.k__law_take T.b__law_take (fun σ => passLAt σ) fn2_len (a_cons (x_var 1 (pv 1)) (a_cons (x_callB v1_len call_lenU rfl T.n_len PySem.boot_len (x_var 2 (pv 2))) a_nil))) (fun v22 =>
            (b_set (i := 7) (.nil _) sc_law.nd rfl (Or.inl rfl) (x_call (ok__law_take T) (hr.mono (by decide)) rfl T.g__law_take T.k__law_take T.b__law_take (fun σ => passLAt σ) fn2_len (a_cons (x_var 1 (pv 1)) (a_cons (x_callB v1_len call_lenU rfl T.n_len PySem.boot_len (x_var 2 (pv 2))) a_nil))) (fun v23 =>
            (b_set (i := 9) (.nil _) sc_law.nd rfl (Or.inl rfl) (x_call (ok__law_take T) (hr.mono (by decide)) rfl T.g__law_take T.k__law_take T.b__law_take (fun σ => passLAt σ) fn2_len (a_cons (x_var 1 (pv 1)) (a_cons x_int a_nil))) (fun v24 =>
            (b_set (i := 10) (.nil _) sc_law.nd rfl (Or.inl rfl) (x_ix (ix_U (hu_of hr)) v2_ix (x_var 2 (pv 2)) (x_var 6 (pv 6)) (fun _ _ => rfl)) (fun v25 =>
            (b_set (i := 11) (.nil _) sc_law.nd rfl (Or.inl rfl) (x_ix (ix_U (hu_of hr)) v2_ix (x_var 2 (pv 2)) (x_var 7 (pv 7)) (fun _ _ => rfl)) (fun v26 =>
            (b_ifX (.nil _) (t_w (w_and (t_cmp (op_eqU hr.units) v2_eq (x_var 9 (pv 9)) x_int (nomark _)) (w_and1 (t_not (t_tru (x_call (ok__law_refused T) (hr.mono (by decide)) rfl T.g__law_refused T.k__law_refused T.b__law_refused (fun σ => passLAt σ) fn5_len (a_cons (x_var 1 (pv 1)) (a_cons (x_var 4 (pv 4)) (a_cons (x_var 2 (pv 2)) (a_cons (x_var 10 (pv 10)) (a_cons (x_var 11 (pv 11)) a_nil)))))) rfl (fun _ => rfl))))))
            (b_ret (.nil _) x_bl)
            (b_if (.nil _) (t_w (w_and (t_cmp (op_gtU hr.units0) v2_gt (x_var 9 (pv 9)) x_int (nomark _)) (w_and1 (t_cmp (op_neU hr.units) v2_ne (x_var 6 (pv 6)) (x_var 7 (pv 7)) (nomark _)))))
            (b_set (i := 12) (.nil _) sc_law.nd rfl (Or.inl rfl) (x_call (ok__law_cell T) (hr.mono (by decide)) rfl T.g__law_cell T.k__law_cell T.b__law_cell (fun σ => passLAt σ) fn2_len (a_cons (x_var 0 (pv 0)) (a_cons (x_op op_addU v2_add x_int (x_var 8 (pv 8))) a_nil))) (fun v30 =>
              (b_set (i := 12) (.nil _) sc_law.nd rfl (Or.inl rfl) (x_op op_mulU v2_mul (x_op op_mod v2_mod (x_callB v1_abs call_abs rfl T.n_abs (by decide +kernel) (x_var 12 (pv 12))) (x_op op_pow v2_pow x_int x_int)) (x_ix (ix_U (hu_of hr)) v2_ix (x_lst (a_cons x_int (a_cons (x_op op_sub v2_sub x_int x_int) a_nil))) (x_call (ok__law_take T) (hr.mono (by decide)) rfl T.g__law_take T.k__law_take T.b__law_take (fun σ => passLAt σ) fn2_len (a_cons (x_var 1 (pv 1)) (a_cons x_int a_nil))) (fun _ _ => rfl))) (fun v31 =>
              (b_subA (.nil _) (hu_of hr) (x_ix (ix_U (hu_of hr)) v2_ix (x_lst (a_cons x_non (a_cons x_int (a_cons (x_op op_sub v2_sub (x_call (ok__law_take T) (hr.mono (by decide)) rfl T.g__law_take T.k__law_take T.b__law_take (fun σ => passLAt σ) fn2_len (a_cons (x_var 1 (pv 1)) (a_cons x_int a_nil))) x_int) (a_cons (x_var 12 (pv 12)) a_nil))))) (x_op op_sub v2_sub (x_var 9 (pv 9)) x_int) (fun _ _ => rfl)) (x_ix (ix_U (hu_of hr)) v2_ix (x_var 5 (pv 5)) (x_var 6 (pv 6)) (fun _ _ => rfl)) (x_var 7 (pv 7))
              (b_setO (.nil _) T.cn_Bounds T.m_Bounds___setitem__ T.ns_Bounds (spU_raw (ok_Bounds___setitem__ T) T.b_Bounds___setitem__) (hr.mono (by decide)) (fun σ => passLAt σ) (x_ix (ix_U (hu_of hr)) v2_ix (x_ix (ix_U (hu_of hr)) v2_ix (x_var 5 (pv 5)) (x_var 6 (pv 6)) (fun _ _ => rfl)) (x_var 7 (pv 7)) (fun _ _ => rfl)) (x_var 4 (pv 4)) (x_tup (a_cons (x_var 10 (pv 10)) (a_cons (x_var 11 (pv 11)) a_nil)))
              (b_if (.nil _) (t_w (w_and (t_cmp op_notN v2_isN (x_ix (ix_U (hu_of hr)) v2_ix (x_ix (ix_U (hu_of hr)) v2_ix (x_var 5 (pv 5)) (x_var 6 (pv 6)) (fun _ _ => rfl)) (x_var 7 (pv 7)) (fun _ _ => rfl)) x_non (nomark _)) (w_and1 (t_not (t_tru (x_call (ok__law_whole T) (hr.mono (by decide)) rfl T.g__law_whole T.k__law_whole T.b__law_whole (fun σ => passLAt σ) fn1_len (a_cons (x_getO T.cn_Bounds T.m_Bounds___getitem__ T.fi_Bounds___getitem__ (spU_raw (ok_Bounds___getitem__ T) T.b_Bounds___getitem__) (hr.mono (by decide)) (fun σ => passLAt σ) (x_var 4 (pv 4)) (x_tup (a_cons (x_var 10 (pv 10)) (a_cons (x_var 11 (pv 11)) a_nil)))) a_nil)) rfl (fun _ => rfl))))))
              (b_ret (.nil _) x_bl)
              (b_nil (x := ()) (.keep (.keep (.keep (.keep (.keep (.keep (.skip (.skip (.skip (.skip (.skip (.skip (.skip (.nil _))))))))))))))))) (fun _ _ _ h1 h2 h3 => ps_asg h1 (pg_sub h2 h3 (set_U (hu_of hr)))))))))
            (b_nil (x := ()) (.keep (.keep (.keep (.keep (.keep (.keep (.skip (.skip (.skip (.skip (.skip (.skip (.skip (.nil _))))))))))))))))))))))))))))))))) (all_of (fun j14 =>
          (b_ret (.nil _) (x_cmp (op_eqU hr.units) v2_eqA (x_call (ok__law_entries T) (hr.mono (by decide)) rfl T.g__law_entries T.k__law_entries T.b__law_entries (fun σ => passLAt σ) fn1_len (a_cons (x_var 4 (pv 4)) a_nil)) (x_var 5 (pv 5)) (nomark _)))))))))))))))))))))))))
end
end K18
end Lk
set_option Elab.async false
set_option linter.all false
set_option maxRecDepth 100000
namespace Lk
open PySem L2
/-! ### what a plain function gives: Q what it returns, E what it raises -/
abbrev EQ := String → Option (List (Str × PV)) → Ar → Prop
def wp {α : Type} (u : M α) (A : Ar) (Q : α → Ar → Prop) (E : EQ) : Prop := match u A with
  | some (.ok v, B) => Q v B
  | some (.ex c fs, B) => E c fs B
  | none => False
abbrev nE : EQ := fun _ _ _ => False
section
variable {α β γ : Type} {u : M α} {k : α → M β} {A B : Ar} {Q Q' : α → Ar → Prop} {R : β → Ar → Prop} {E E' : EQ}
theorem wp_of {v : α} (h : u A = some (.ok v, B)) (q : Q v B) : wp u A Q E := by unfold wp; rw [h]; exact q
theorem wp_run (h : wp u A Q nE) : ∃ v B, u A = some (.ok v, B) ∧ Q v B := by
  unfold wp at h
  split at h
  · rename_i v B e; exact ⟨v, B, e, h⟩
  · exact h.elim
  · exact h.elim
theorem wp_mono (h : wp u A Q E) (q : ∀ v B, Q v B → Q' v B) (e : ∀ c fs B, E c fs B → E' c fs B) : wp u A Q' E' := by
  unfold wp at h ⊢
  split at h
  · rename_i v B ev; exact q _ _ h
  · exact e _ _ _ h
  · exact h.elim
theorem wp_pure {v : α} : wp (pure v) A Q E ↔ Q v A := Iff.rfl
theorem wp_bind : wp (u >>= k) A R E ↔ wp u A (fun v B => wp (k v) B R E) E := by
  unfold wp
  rw [M.bind_app]
  cases u A with
  | none => exact Iff.rfl
  | some z =>
    obtain ⟨z1, z2⟩ := z
    cases z1 <;> exact Iff.rfl
theorem wp_ask {f : Ar → Option α} : wp (ask f) A Q E ↔ ∃ z, f A = some z ∧ Q z A := by
  unfold wp ask
  cases f A with
  | none => exact ⟨fun h => h.elim, fun ⟨z, h, _⟩ => by cases h⟩
  | some z => exact ⟨fun h => ⟨z, rfl, h⟩, fun ⟨w, h, q⟩ => by cases h; exact q⟩
theorem wp_opt {o : Option α} : wp (opt o) A Q E ↔ ∃ z, o = some z ∧ Q z A := by
  unfold wp opt
  cases o with
  | none => exact ⟨fun h => h.elim, fun ⟨z, h, _⟩ => by cases h⟩
  | some z => exact ⟨fun h => ⟨z, rfl, h⟩, fun ⟨w, h, q⟩ => by cases h; exact q⟩
theorem wp_bad : wp (bad : M α) A Q E ↔ False := Iff.rfl
theorem wp_ite {p : Prop} [Decidable p] {u v : M α} : wp (if p then u else v) A Q E ↔ if p then wp u A Q E else wp v A Q E := by
  by_cases h : p
  · rw [if_pos h, if_pos h]
  · rw [if_neg h, if_neg h]
theorem wp_noX : wp (noX u) A Q E ↔ wp u A Q nE := by
  unfold wp noX
  cases u A with
  | none => exact Iff.rfl
  | some z =>
    obtain ⟨z1, z2⟩ := z
    cases z1 <;> exact Iff.rfl
end
section
variable {A B : Ar} {Q : PV → Ar → Prop} {QB : Bool → Ar → Prop} {QL : List PV → Ar → Prop} {QI : Option Int → Ar → Prop} {E : EQ} {ua ub : M PV} {us : M (List PV)} {uc ud : M Bool}
theorem wp_u1 {f : Ar → PV → Option PV} : wp (u1 f ua) A Q E ↔ wp ua A (fun v B => ∃ z, f B v = some z ∧ Q z B) E := by unfold u1; rw [wp_bind]; simp only [wp_ask]
theorem wp_u2 {f : Ar → PV → PV → Option PV} : wp (u2 f ua ub) A Q E ↔ wp ua A (fun v B => wp ub B (fun w C => ∃ z, f C v w = some z ∧ Q z C) E) E := by unfold u2; rw [wp_bind]; simp only [wp_bind, wp_ask]
theorem wp_cons : wp (uCons ua us) A QL E ↔ wp ua A (fun x B => wp us B (fun xs C => QL (x :: xs) C) E) E := by unfold uCons; rw [wp_bind]; simp only [wp_bind, wp_pure]
theorem wp_call {fn : List PV → M PV} : wp (uCall us fn) A Q E ↔ wp us A (fun xs B => wp (fn xs) B Q E) E := by unfold uCall; rw [wp_bind]
theorem wp_lst : wp (uLst us) A Q E ↔ wp us A (fun xs B => xs.length ≤ sizeLine ∧ Q (.lst xs) B) E := by
  unfold uLst; rw [wp_bind]
  have : ∀ xs : List PV, ∀ B, wp (if xs.length ≤ sizeLine then pure (.lst xs) else bad) B Q E ↔ xs.length ≤ sizeLine ∧ Q (.lst xs) B := fun xs B => by
    by_cases h : xs.length ≤ sizeLine
    · rw [if_pos h, wp_pure]; exact ⟨fun q => ⟨h, q⟩, fun q => q.2⟩
    · rw [if_neg h, wp_bad]; exact ⟨fun q => q.elim, fun q => h q.1⟩
  simp only [this]
theorem wp_tup : wp (uTup us) A Q E ↔ wp us A (fun xs B => xs.length ≤ sizeLine ∧ Q (.tup xs) B) E := by
  unfold uTup; rw [wp_bind]
  have : ∀ xs : List PV, ∀ B, wp (if xs.length ≤ sizeLine then pure (.tup xs) else bad) B Q E ↔ xs.length ≤ sizeLine ∧ Q (.tup xs) B := fun xs B => by
    by_cases h : xs.length ≤ sizeLine
    · rw [if_pos h, wp_pure]; exact ⟨fun q => ⟨h, q⟩, fun q => q.2⟩
    · rw [if_neg h, wp_bad]; exact ⟨fun q => q.elim, fun q => h q.1⟩
  simp only [this]
theorem wp_star {ua : M PV} : wp (uStar ua us) A QL E ↔ wp ua A (fun v B => ∃ xs, seqOf v = some xs ∧ wp us B (fun ys C => QL (xs ++ ys) C) E) E := by
  unfold uStar; rw [wp_bind]; simp only [wp_bind, wp_opt, wp_pure]
theorem wp_tru : wp (uTru ua) A QB E ↔ wp ua A (fun v B => ∃ z, pTru B v = some z ∧ QB z B) E := by unfold uTru; rw [wp_bind]; simp only [wp_ask]
theorem wp_not : wp (uNot uc) A QB E ↔ wp uc A (fun b B => QB (!b) B) E := by unfold uNot; rw [wp_bind]; simp only [wp_pure]
theorem wp_and : wp (uAnd uc ud) A QB E ↔ wp uc A (fun b B => if b = true then wp ud B QB E else QB false B) E := by unfold uAnd; rw [wp_bind]; simp only [wp_ite, wp_pure]
theorem wp_or : wp (uOr uc ud) A QB E ↔ wp uc A (fun b B => if b = true then QB true B else wp ud B QB E) E := by unfold uOr; rw [wp_bind]; simp only [wp_ite, wp_pure]
theorem wp_andV : wp (uAndV ua ub) A Q E ↔ wp ua A (fun v B => ∃ b, pTru B v = some b ∧ if b = true then wp ub B Q E else Q v B) E := by unfold uAndV; rw [wp_bind]; simp only [wp_bind, wp_ask, wp_ite, wp_pure]
theorem wp_orV : wp (uOrV ua ub) A Q E ↔ wp ua A (fun v B => ∃ b, pTru B v = some b ∧ if b = true then Q v B else wp ub B Q E) E := by unfold uOrV; rw [wp_bind]; simp only [wp_bind, wp_ask, wp_ite, wp_pure]
theorem wp_notV : wp (uNotV ua) A Q E ↔ wp ua A (fun v B => ∃ b, pTru B v = some b ∧ Q (.bl (!b)) B) E := by unfold uNotV; rw [wp_bind]; simp only [wp_tru, wp_pure]
theorem wp_asB {v : PV} : wp (asB v) A QB E ↔ ∃ b, v = .bl b ∧ QB b A := by
  cases v with
  | bl b => exact ⟨fun h => ⟨b, rfl, h⟩, fun ⟨c, e, q⟩ => by cases e; exact q⟩
  | _ => exact ⟨fun h => h.elim, fun ⟨c, e, q⟩ => by cases e⟩
theorem wp_part : wp (uPart ua) A QI E ↔ wp ua A (fun v B => ∃ i, v = .int i ∧ QI (some i) B) E := by
  unfold uPart; rw [wp_bind]
  have : ∀ v : PV, ∀ B, wp (match v with | .int i => pure (some i) | _ => (bad : M (Option Int))) B QI E ↔ ∃ i, v = .int i ∧ QI (some i) B := fun v B => by
    cases v with
    | int i => exact ⟨fun h => ⟨i, rfl, h⟩, fun ⟨c, e, q⟩ => by cases e; exact q⟩
    | _ => exact ⟨fun h => h.elim, fun ⟨c, e, q⟩ => by cases e⟩
  exact ⟨fun h => wp_mono h (fun v B q => (this v B).mp q) fun _ _ _ z => z, fun h => wp_mono h (fun v B q => (this v B).mpr q) fun _ _ _ z => z⟩
theorem wp_sl {ul uh : M (Option Int)} : wp (uSl ua ul uh) A Q E ↔ wp ua A (fun v B => wp ul B (fun l C => wp uh C (fun h D => ∃ z, pSl D v l h = some z ∧ Q z D) E) E) E := by unfold uSl; rw [wp_bind]; simp only [wp_bind, wp_ask]
theorem wp_items {us : M PV} : wp (uItems us) A QL E ↔ wp us A (fun v B => ∃ xs, seqOf v = some xs ∧ QL xs B) E := by unfold uItems; rw [wp_bind]; simp only [wp_opt]
theorem wp_enum {us : M PV} : wp (uEnum us) A QL E ↔ wp us A (fun v B => ∃ xs, seqOf v = some xs ∧ QL (numbered 0 xs) B) E := by
  unfold uEnum; rw [wp_bind]; simp only [wp_opt]
  have : ∀ v : PV, ∀ B, (∃ z, Option.map (numbered 0) (seqOf v) = some z ∧ QL z B) ↔ ∃ xs, seqOf v = some xs ∧ QL (numbered 0 xs) B := fun v B => by
    cases seqOf v with
    | none => exact ⟨fun ⟨z, e, _⟩ => (by cases e), fun ⟨z, e, _⟩ => (by cases e)⟩
    | some xs => exact ⟨fun ⟨z, e, q⟩ => (by cases e; exact ⟨xs, rfl, q⟩), fun ⟨z, e, q⟩ => by cases e; exact ⟨_, rfl, q⟩⟩
  simp only [this]
theorem wp_signs : wp (uSigns ua) A QL E ↔ wp ua A (fun v B => ∃ z, v = .str z ∧ QL (signs z) B) E := by
  unfold uSigns; rw [wp_bind]
  have : ∀ v : PV, ∀ B, wp (match v with | .str z => pure (signs z) | _ => (bad : M (List PV))) B QL E ↔ ∃ z, v = .str z ∧ QL (signs z) B := fun v B => by
    cases v with
    | str i => exact ⟨fun h => ⟨i, rfl, h⟩, fun ⟨c, e, q⟩ => by cases e; exact q⟩
    | _ => exact ⟨fun h => h.elim, fun ⟨c, e, q⟩ => by cases e⟩
  exact ⟨fun h => wp_mono h (fun v B q => (this v B).mp q) fun _ _ _ z => z, fun h => wp_mono h (fun v B q => (this v B).mpr q) fun _ _ _ z => z⟩
theorem wp_range1 : wp (uRange1 ua) A QL E ↔ wp ua A (fun v B => ∃ j, v = .int j ∧ (-(2 ^ 62) ≤ j ∧ j < 2 ^ 62) ∧ QL (rangeOf 0 j.toNat) B) E := by
  unfold uRange1; rw [wp_bind]
  have : ∀ v : PV, ∀ B, wp (match v with | .int j => if -(2 ^ 62) ≤ j ∧ j < 2 ^ 62 then pure (rangeOf 0 j.toNat) else (bad : M (List PV)) | _ => (bad : M (List PV))) B QL E ↔ ∃ j, v = .int j ∧ (-(2 ^ 62) ≤ j ∧ j < 2 ^ 62) ∧ QL (rangeOf 0 j.toNat) B := fun v B => by
    cases v with
    | int j =>
      by_cases h : -(2 ^ 62) ≤ j ∧ j < 2 ^ 62
      · simp only [if_pos h]; exact ⟨fun q => ⟨j, rfl, h, q⟩, fun ⟨c, e, _, q⟩ => by cases e; exact q⟩
      · simp only [if_neg h]; exact ⟨fun q => q.elim, fun ⟨c, e, k, q⟩ => by cases e; exact h k⟩
    | _ => exact ⟨fun h => h.elim, fun ⟨c, e, q⟩ => by cases e⟩
  exact ⟨fun h => wp_mono h (fun v B q => (this v B).mp q) fun _ _ _ z => z, fun h => wp_mono h (fun v B q => (this v B).mpr q) fun _ _ _ z => z⟩
end
section
variable {α β γ : Type} {A B : Ar} {QF : Fl β γ → Ar → Prop} {Q : PV → Ar → Prop} {E : EQ}
theorem wp_seq {u : M (Fl α γ)} {k : α → M (Fl β γ)} : wp (uSeq u k) A QF E ↔ wp u A (fun r B => match r with | .nx b => wp (k b) B QF E | .rt v => QF (.rt v) B | .bk c => QF (.bk c) B | .ct c => QF (.ct c) B) E := by
  unfold uSeq; rw [wp_bind]
  exact ⟨fun h => wp_mono h (fun r B q => by cases r <;> exact q) fun _ _ _ z => z, fun h => wp_mono h (fun r B q => by cases r <;> exact q) fun _ _ _ z => z⟩
theorem wp_exits {u : M (Fl Empty γ)} : wp (exits u) A QF E ↔ wp u A (fun r B => match r with | .nx b => nomatch b | .rt v => QF (.rt v) B | .bk c => QF (.bk c) B | .ct c => QF (.ct c) B) E := by
  unfold exits; rw [wp_seq]
  exact ⟨fun h => wp_mono h (fun r B q => by cases r with | nx b => exact nomatch b | _ => exact q) fun _ _ _ z => z, fun h => wp_mono h (fun r B q => by cases r with | nx b => exact nomatch b | _ => exact q) fun _ _ _ z => z⟩
theorem wp_def {b : M (Fl Unit Empty)} : wp (uDef b) A Q E ↔ wp b A (fun r B => match r with | .nx _ => Q .non B | .rt v => Q v B | .bk e => nomatch e | .ct e => nomatch e) E := by
  unfold uDef; rw [wp_bind]
  exact ⟨fun h => wp_mono h (fun r B q => by cases r with | bk b => exact nomatch b | ct b => exact nomatch b | _ => exact q) fun _ _ _ z => z, fun h => wp_mono h (fun r B q => by cases r with | bk b => exact nomatch b | ct b => exact nomatch b | _ => exact q) fun _ _ _ z => z⟩
theorem wp_exM {α : Type} {c : String} {fs : Option (List (Str × PV))} {Q : α → Ar → Prop} : wp (exM c fs : M α) A Q E ↔ E c fs A := Iff.rfl
theorem wp_try {cs : List String} {c : String} {ub : M (Fl α γ)} {us : List Str → List PV → M (Fl α γ)} {QF : Fl α γ → Ar → Prop}
    (h : wp ub A QF (fun c' fs B => ∃ gs, fs = some gs ∧ if c' = c then wp (us (gs.map (·.1)) (gs.map (·.2))) B QF nE else c' ∈ cs ∧ E c' fs B)) : wp (uTry cs c ub us) A QF E := by
  unfold wp uTry at *
  split at h
  · rename_i v B e; rw [e]; exact h
  · rename_i c' fs B e
    rw [e]
    obtain ⟨gs, rfl, h⟩ := h
    dsimp only
    by_cases hc : c' = c
    · rw [if_pos hc] at h ⊢
      have := wp_noX (E := E).mpr h
      unfold wp at this; exact this
    · rw [if_neg hc] at h ⊢
      rw [if_pos h.1]; exact h.2
  · exact h.elim
theorem wp_for {f : PV → β → M (Fl β β)} {γ : Type} {QF : Fl β γ → Ar → Prop} (inv : Nat → β → Ar → Prop) {xs : List PV} {b : β} (h0 : inv 0 b A)
    (hs : ∀ (i : Nat) x b A, xs[i]? = some x → inv i b A → wp (f x b) A (fun r B => match r with | .nx b' => inv (i + 1) b' B | .ct b' => inv (i + 1) b' B | .bk b' => QF (.nx b') B | .rt v => QF (.rt v) B) E)
    (hq : ∀ b A, inv xs.length b A → QF (.nx b) A) : wp (uFor f xs b) A QF E := by
  suffices h : ∀ (ys : List PV) (i : Nat) b A, xs.drop i = ys → i ≤ xs.length → inv i b A → wp (uFor f ys b) A QF E from h xs 0 b A rfl (Nat.zero_le _) h0
  intro ys
  induction ys with
  | nil =>
    intro i b A e hi h
    have : i = xs.length := by have := congrArg List.length e; simp at this; omega
    subst this
    exact hq b A h
  | cons x ys ih =>
    intro i b A e hi h
    have hlt : i < xs.length := by have := congrArg List.length e; simp at this; omega
    have hx : xs[i]? = some x := by
      have := congrArg (fun l => l[0]?) e
      simpa using this
    have hd : xs.drop (i + 1) = ys := by
      have := congrArg List.tail e
      simpa using this
    unfold uFor
    rw [wp_bind]
    refine wp_mono (hs i x b A hx h) (fun r B q => ?_) fun _ _ _ z => z
    cases r with
    | nx b' => exact ih (i + 1) b' B hd (by omega) q
    | ct b' => exact ih (i + 1) b' B hd (by omega) q
    | bk b' => exact q
    | rt v => exact q
theorem wp_comp {f : PV → M (Option PV)} {QL : List PV → Ar → Prop} (inv : Nat → List PV → Ar → Prop) {xs : List PV} (h0 : inv 0 [] A)
    (hs : ∀ (i : Nat) x acc A, xs[i]? = some x → inv i acc A → wp (f x) A (fun o B => inv (i + 1) (match o with | none => acc | some y => acc ++ [y]) B) E)
    (hq : ∀ ys A, inv xs.length ys A → QL ys A) : wp (uComp f xs []) A QL E := by
  suffices h : ∀ (ys : List PV) (i : Nat) acc A, xs.drop i = ys → i ≤ xs.length → inv i acc A → wp (uComp f ys acc) A QL E from h xs 0 [] A rfl (Nat.zero_le _) h0
  intro ys
  induction ys with
  | nil =>
    intro i b A e hi h
    have : i = xs.length := by have := congrArg List.length e; simp at this; omega
    subst this
    exact hq b A h
  | cons x ys ih =>
    intro i b A e hi h
    have hlt : i < xs.length := by have := congrArg List.length e; simp at this; omega
    have hx : xs[i]? = some x := by
      have := congrArg (fun l => l[0]?) e
      simpa using this
    have hd : xs.drop (i + 1) = ys := by
      have := congrArg List.tail e
      simpa using this
    unfold uComp
    rw [wp_bind]
    exact wp_mono (hs i x b A hx h) (fun r B q => ih (i + 1) _ B hd (by omega) q) fun _ _ _ z => z
theorem wp_lc {us : M (List PV)} {f : PV → M (Option PV)} : wp (uLc us f) A Q E ↔ wp us A (fun xs B => xs.length ≤ sizeLine ∧ wp (uComp f xs []) B (fun ys C => Q (.lst ys) C) nE) E := by
  unfold uLc; rw [wp_bind]
  have : ∀ xs : List PV, ∀ B, wp (if xs.length ≤ sizeLine then (noX (uComp f xs [])) >>= fun ys => pure (.lst ys) else bad) B Q E ↔ xs.length ≤ sizeLine ∧ wp (uComp f xs []) B (fun ys C => Q (.lst ys) C) nE := fun xs B => by
    by_cases h : xs.length ≤ sizeLine
    · rw [if_pos h, wp_bind, wp_noX]; simp only [wp_pure]; exact ⟨fun q => ⟨h, q⟩, fun q => q.2⟩
    · rw [if_neg h, wp_bad]; exact ⟨fun q => q.elim, fun q => h q.1⟩
  simp only [this]
theorem wp_elt {ut : M Bool} {ue : M PV} {QO : Option PV → Ar → Prop} : wp (uElt ut ue) A QO E ↔ wp ut A (fun b B => if b = true then wp ue B (fun v C => QO (some v) C) E else QO none B) E := by unfold uElt; rw [wp_bind]; simp only [wp_ite, wp_bind, wp_pure]
end
theorem fn1_app {f : PV → M PV} {a : PV} : fn1 f [a] = f a := rfl
theorem fn2_app {f : PV → PV → M PV} {a b : PV} : fn2 f [a, b] = f a b := rfl
theorem fn3_app {f : PV → PV → PV → M PV} {a b c : PV} : fn3 f [a, b, c] = f a b c := rfl
/-- a pool's cell, drawn from at most n times -/
def PoolC (n : Nat) (c : Option (Bool × Cell)) : Prop := ∃ a b d : Int, c = some (false, .lst [.int a, .int b, .int d]) ∧ 0 ≤ a ∧ 0 ≤ b ∧ b < 1000000007 ∧ 0 ≤ d ∧ d ≤ n
theorem PoolC.mono {n m : Nat} {c : Option (Bool × Cell)} (h : PoolC n c) (k : n ≤ m) : PoolC m c := by
  obtain ⟨a, b, d, e, h1, h2, h3, h4, h5⟩ := h
  exact ⟨a, b, d, e, h1, h2, h3, h4, by omega⟩
end Lk
set_option Elab.async false
set_option linter.all false
set_option maxRecDepth 100000
namespace Lk
open PySem L2
/-! ### objects and dicts, the same way -/
section
variable {A B : Ar} {Q : PV → Ar → Prop} {QU : Unit → Ar → Prop} {QB : Bool → Ar → Prop} {QL : List PV → Ar → Prop} {E : EQ} {ua uo : M PV} {us : M (List PV)} {fn : List PV → M PV} {C : String} {f m : Str}
theorem wp_newC {c : Cell} : wp (newC c) A Q E ↔ Q (.m A.length) (A ++ [some (false, c)]) := Iff.rfl
theorem wp_fld : wp (uFld C f uo) A Q E ↔ wp uo A (fun o B => ∃ z, ((insOf B C o).bind fun fs => fs.lookup f) = some z ∧ Q z B) E := by unfold uFld; rw [wp_bind]; simp only [wp_ask]
theorem wp_do {u : M Unit} : (∃ B, u A = some (.ok (), B) ∧ QU () B) → wp u A QU E := fun ⟨B, e, q⟩ => wp_of e q
theorem wp_make : wp (uMake C us fn) A Q E ↔ wp us A (fun ws B => wp (fn (.m B.length :: ws)) (B ++ [some (false, .ins C [])]) (fun r D => r = .non ∧ Q (.m B.length) D) E) E := by
  unfold uMake; rw [wp_bind]
  have h : ∀ ws B, wp (newIns C >>= fun h => fn (h :: ws) >>= fun r => match r with | .non => pure h | _ => bad) B Q E ↔ wp (fn (.m B.length :: ws)) (B ++ [some (false, .ins C [])]) (fun r D => r = .non ∧ Q (.m B.length) D) E := fun ws B => by
    show wp (fn (.m B.length :: ws) >>= fun r => match r with | .non => pure (.m B.length) | _ => bad) (B ++ [some (false, .ins C [])]) Q E ↔ _
    rw [wp_bind]
    exact ⟨fun h => wp_mono h (fun r D q => by cases r <;> first | exact ⟨rfl, q⟩ | exact q.elim) fun _ _ _ z => z, fun h => wp_mono h (fun r D ⟨e, q⟩ => by subst e; exact q) fun _ _ _ z => z⟩
  exact ⟨fun q => wp_mono q (fun ws B z => (h ws B).mp z) fun _ _ _ z => z, fun q => wp_mono q (fun ws B z => (h ws B).mpr z) fun _ _ _ z => z⟩
theorem wp_prop : wp (uProp C uo fn) A Q E ↔ wp uo A (fun o B => ∃ fs, insOf B C o = some fs ∧ wp (fn [o]) B Q nE) E := by
  unfold uProp; rw [wp_bind]
  have h : ∀ o B, wp (isIns C o >>= fun _ => noX (fn [o])) B Q E ↔ ∃ fs, insOf B C o = some fs ∧ wp (fn [o]) B Q nE := fun o B => by
    rw [wp_bind]; unfold isIns; rw [wp_ask]
    cases insOf B C o with
    | none => exact ⟨fun ⟨z, e, _⟩ => (by cases e), fun ⟨z, e, _⟩ => (by cases e)⟩
    | some fs => exact ⟨fun ⟨z, _, q⟩ => ⟨fs, rfl, wp_noX.mp q⟩, fun ⟨z, _, q⟩ => ⟨(), rfl, wp_noX.mpr q⟩⟩
  exact ⟨fun q => wp_mono q (fun ws B z => (h ws B).mp z) fun _ _ _ z => z, fun q => wp_mono q (fun ws B z => (h ws B).mpr z) fun _ _ _ z => z⟩
theorem wp_meth : wp (uMeth C m uo us fn) A Q E ↔ wp uo A (fun o B => ∃ fs, insOf B C o = some fs ∧ (fs.lookup m).isNone = true ∧ wp us B (fun ws D => wp (fn (o :: ws)) D Q E) E) E := by
  unfold uMeth; rw [wp_bind]
  have h : ∀ o B, wp (noFld C m o >>= fun _ => us >>= fun ws => fn (o :: ws)) B Q E ↔ ∃ fs, insOf B C o = some fs ∧ (fs.lookup m).isNone = true ∧ wp us B (fun ws D => wp (fn (o :: ws)) D Q E) E := fun o B => by
    rw [wp_bind]; unfold noFld; rw [wp_ask]
    cases insOf B C o with
    | none => exact ⟨fun ⟨z, e, _⟩ => (by cases e), fun ⟨z, e, _⟩ => (by cases e)⟩
    | some fs =>
      by_cases hz : (fs.lookup m).isNone = true
      · simp only [Option.bind_some, if_pos hz]
        exact ⟨fun ⟨z, _, q⟩ => ⟨fs, rfl, hz, wp_bind.mp q⟩, fun ⟨z, e, _, q⟩ => ⟨(), trivial, wp_bind.mpr (by cases e; exact q)⟩⟩
      · simp only [Option.bind_some, if_neg hz]
        exact ⟨fun ⟨z, e, q⟩ => (by cases e), fun ⟨z, e, k, q⟩ => (by cases e; exact (hz k).elim)⟩
  exact ⟨fun q => wp_mono q (fun ws B z => (h ws B).mp z) fun _ _ _ z => z, fun q => wp_mono q (fun ws B z => (h ws B).mpr z) fun _ _ _ z => z⟩
theorem wp_lenO : wp (uLenO C uo fn) A Q E ↔ wp uo A (fun o B => ∃ fs, insOf B C o = some fs ∧ wp (fn [o]) B (fun r D => ∃ n : Int, r = .int n ∧ (0 ≤ n ∧ n < 2 ^ 63) ∧ Q (.int n) D) nE) E := by
  unfold uLenO; rw [wp_bind]
  have h : ∀ o B, wp (isIns C o >>= fun _ => noX (fn [o]) >>= fun r => match r with | .int n => if 0 ≤ n ∧ n < 2 ^ 63 then pure (.int n) else bad | _ => bad) B Q E ↔ ∃ fs, insOf B C o = some fs ∧ wp (fn [o]) B (fun r D => ∃ n : Int, r = .int n ∧ (0 ≤ n ∧ n < 2 ^ 63) ∧ Q (.int n) D) nE := fun o B => by
    rw [wp_bind]; unfold isIns; rw [wp_ask]
    have g : wp (noX (fn [o]) >>= fun r => match r with | .int n => if 0 ≤ n ∧ n < 2 ^ 63 then pure (.int n) else bad | _ => bad) B Q E ↔ wp (fn [o]) B (fun r D => ∃ n : Int, r = .int n ∧ (0 ≤ n ∧ n < 2 ^ 63) ∧ Q (.int n) D) nE := by
      rw [wp_bind, wp_noX]
      refine ⟨fun h => wp_mono h (fun r D q => ?_) fun _ _ _ z => z, fun h => wp_mono h (fun r D q => ?_) fun _ _ _ z => z⟩
      · cases r with
        | int n =>
          by_cases hn : 0 ≤ n ∧ n < 2 ^ 63
          · simp only [if_pos hn] at q; exact ⟨n, rfl, hn, q⟩
          · simp only [if_neg hn] at q; exact q.elim
        | _ => exact q.elim
      · obtain ⟨n, rfl, hn, q⟩ := q
        simp only [if_pos hn]; exact q
    cases insOf B C o with
    | none => exact ⟨fun ⟨z, e, _⟩ => (by cases e), fun ⟨z, e, _⟩ => (by cases e)⟩
    | some fs => exact ⟨fun ⟨z, _, q⟩ => ⟨fs, rfl, g.mp q⟩, fun ⟨z, _, q⟩ => ⟨(), rfl, g.mpr q⟩⟩
  exact ⟨fun q => wp_mono q (fun ws B z => (h ws B).mp z) fun _ _ _ z => z, fun q => wp_mono q (fun ws B z => (h ws B).mpr z) fun _ _ _ z => z⟩
theorem wp_revRange : wp (uRevRange ua) A QL E ↔ wp ua A (fun v B => ∃ j, v = .int j ∧ (-(2 ^ 62) ≤ j ∧ j < 2 ^ 62) ∧ QL ((List.range j.toNat).map fun i => .int (((0 : Int) + ((j.toNat : Nat) : Int) - 1) + (i : Nat) * (-1))) B) E := by
  unfold uRevRange; rw [wp_bind]
  refine ⟨fun h => wp_mono h (fun r D q => ?_) fun _ _ _ z => z, fun h => wp_mono h (fun r D q => ?_) fun _ _ _ z => z⟩
  · cases r with
    | int n =>
      by_cases hn : -(2 ^ 62) ≤ n ∧ n < 2 ^ 62
      · simp only [if_pos hn] at q; exact ⟨n, rfl, hn, q⟩
      · simp only [if_neg hn] at q; exact q.elim
    | _ => exact q.elim
  · obtain ⟨n, rfl, hn, q⟩ := q
    simp only [if_pos hn]; exact q
theorem wp_dcomp {f : PV → M (Option (Key × PV))} {QK : List (Key × PV) → Ar → Prop} (inv : Nat → List (Key × PV) → Ar → Prop) {xs : List PV} (h0 : inv 0 [] A)
    (hs : ∀ (i : Nat) x acc A, xs[i]? = some x → inv i acc A → wp (f x) A (fun o B => inv (i + 1) (match o with | none => acc | some y => pPut acc y.1 y.2) B) E)
    (hq : ∀ ys A, inv xs.length ys A → QK ys A) : wp (uDComp f xs []) A QK E := by
  suffices h : ∀ (ys : List PV) (i : Nat) acc A, xs.drop i = ys → i ≤ xs.length → inv i acc A → wp (uDComp f ys acc) A QK E from h xs 0 [] A rfl (Nat.zero_le _) h0
  intro ys
  induction ys with
  | nil =>
    intro i b A e hi h
    have : i = xs.length := by have := congrArg List.length e; simp at this; omega
    subst this
    exact hq b A h
  | cons x ys ih =>
    intro i b A e hi h
    have hlt : i < xs.length := by have := congrArg List.length e; simp at this; omega
    have hx : xs[i]? = some x := by
      have := congrArg (fun l => l[0]?) e
      simpa using this
    have hd : xs.drop (i + 1) = ys := by
      have := congrArg List.tail e
      simpa using this
    unfold uDComp
    rw [wp_bind]
    exact wp_mono (hs i x b A hx h) (fun r B q => ih (i + 1) _ B hd (by omega) q) fun _ _ _ z => z
theorem wp_dc {f : PV → M (Option (Key × PV))} : wp (uDc us f) A Q E ↔ wp us A (fun xs B => xs.length ≤ sizeLine ∧ wp (uDComp f xs []) B (fun kvs D => Q (.m D.length) (D ++ [some (false, .dK kvs)])) nE) E := by
  unfold uDc; rw [wp_bind]
  have : ∀ xs : List PV, ∀ B, wp (if xs.length ≤ sizeLine then (noX (uDComp f xs [])) >>= fun kvs => newC (.dK kvs) else bad) B Q E ↔ xs.length ≤ sizeLine ∧ wp (uDComp f xs []) B (fun kvs D => Q (.m D.length) (D ++ [some (false, .dK kvs)])) nE := fun xs B => by
    by_cases h : xs.length ≤ sizeLine
    · rw [if_pos h, wp_bind, wp_noX]; exact ⟨fun q => ⟨h, q⟩, fun q => q.2⟩
    · rw [if_neg h, wp_bad]; exact ⟨fun q => q.elim, fun q => h q.1⟩
  simp only [this]
theorem wp_delt {ut : M Bool} {uk uv : M PV} {QO : Option (Key × PV) → Ar → Prop} : wp (uDElt ut uk uv) A QO E ↔ wp ut A (fun b B => if b = true then wp uk B (fun k C => wp uv C (fun v D => ∃ kk, keyK k = some kk ∧ QO (some (kk, v)) D) E) E else QO none B) E := by unfold uDElt; rw [wp_bind]; simp only [wp_ite, wp_bind, wp_opt, wp_pure]
theorem insOf_at {R S : Ar} {fs : List (Str × PV)} : insOf (R ++ some (false, .ins C fs) :: S) C (.m R.length) = some fs := by simp [insOf]
theorem setFM_at {R S : Ar} {fs : List (Str × PV)} {v : PV} (h : fs.length < 1000) : setFM C f (.m R.length) v (R ++ some (false, .ins C fs) :: S) = some (.ok (), R ++ some (false, .ins C (pPutF f v fs)) :: S) := by
  unfold setFM
  rw [insOf_at]
  simp [h]
end
theorem pPutF_nil {f : Str} {v : PV} : pPutF f v [] = [(f, v)] := rfl
theorem pPutF_ne {f h : Str} {v x : PV} {r : List (Str × PV)} (n : h ≠ f) : pPutF f v ((h, x) :: r) = (h, x) :: pPutF f v r := if_neg n
theorem pPutF_len {f : Str} {v : PV} : ∀ {r : List (Str × PV)}, (pPutF f v r).length ≤ r.length + 1
  | [] => Nat.le_refl _
  | (h, x) :: r => by
    unfold pPutF
    by_cases e : h = f
    · rw [if_pos e]; simp
    · rw [if_neg e]; have := pPutF_len (f := f) (v := v) (r := r); simp; omega
end Lk
set_option Elab.async false
set_option linter.all false
set_option maxRecDepth 100000
namespace Lk
open PySem L2
/-! ### own operators and subscripts, the same way -/
section
variable {A B : Ar} {Q : PV → Ar → Prop} {E : EQ} {uo ui : M PV} {fn : List PV → M PV} {C : String}
theorem wp_isIns {o : PV} {QU : Unit → Ar → Prop} : wp (isIns C o) A QU E ↔ (∃ fs, insOf A C o = some fs) ∧ QU () A := by
  unfold isIns; rw [wp_ask]
  cases insOf A C o with
  | none => exact ⟨fun ⟨z, e, _⟩ => (by cases e), fun ⟨⟨fs, e⟩, _⟩ => (by cases e)⟩
  | some fs => exact ⟨fun ⟨z, _, q⟩ => ⟨⟨fs, rfl⟩, q⟩, fun ⟨_, q⟩ => ⟨(), rfl, q⟩⟩
theorem wp_guard {p : Ar → Bool} {QU : Unit → Ar → Prop} : wp (ask fun A => if p A = true then some () else none) A QU E ↔ p A = true ∧ QU () A := by
  rw [wp_ask]
  by_cases h : p A = true
  · simp only [if_pos h]; exact ⟨fun ⟨z, _, q⟩ => ⟨h, q⟩, fun ⟨_, q⟩ => ⟨(), trivial, q⟩⟩
  · simp only [if_neg h]; exact ⟨fun ⟨z, e, _⟩ => (by cases e), fun ⟨k, _⟩ => (h k).elim⟩
theorem wp_binO : wp (uBinO C uo ui fn) A Q E ↔ wp uo A (fun o B => wp ui B (fun i D => (∃ fs, insOf D C o = some fs) ∧ ((tyN D i).any plainT || (insOf D C i).isSome) = true ∧ wp (fn [o, i]) D Q E) E) E := by
  unfold uBinO; simp only [wp_bind, wp_isIns, wp_guard]
theorem wp_mulR : wp (uMulR C ui uo fn) A Q E ↔ wp ui A (fun i B => wp uo B (fun o D => (∃ fs, insOf D C o = some fs) ∧ (tyN D i).any (fun T => T == "int" || T == "bool" || T == "str" || T == "NoneType" || T == "tuple") = true ∧ wp (fn [o, i]) D Q E) E) E := by
  unfold uMulR; simp only [wp_bind, wp_isIns, wp_guard]
theorem wp_negO : wp (uNegO C uo fn) A Q E ↔ wp uo A (fun o D => (∃ fs, insOf D C o = some fs) ∧ wp (fn [o]) D Q E) E := by
  unfold uNegO; simp only [wp_bind, wp_isIns]
theorem wp_getO : wp (uGetO C uo ui fn) A Q E ↔ wp uo A (fun o B => wp ui B (fun i D => (∃ fs, insOf D C o = some fs) ∧ wp (fn [o, i]) D Q E) E) E := by
  unfold uGetO; simp only [wp_bind, wp_isIns]
end
def mkL (xs : List PV) : M PV := fun A => some (.ok (.m A.length), A ++ [some (false, .lst xs)])
theorem wp_newL {us : M (List PV)} {A : Ar} {Q : PV → Ar → Prop} {E : EQ} : wp (uNewL us) A Q E ↔ wp us A (fun xs B => xs.length ≤ sizeLine ∧ Q (.m B.length) (B ++ [some (false, .lst xs)])) E := by
  have e : uNewL us = us >>= fun xs => if xs.length ≤ sizeLine then mkL xs else bad := rfl
  rw [e, wp_bind]
  refine ⟨fun h => wp_mono h (fun xs B q => ?_) fun _ _ _ z => z, fun h => wp_mono h (fun xs B q => ?_) fun _ _ _ z => z⟩
  · by_cases l : xs.length ≤ sizeLine
    · rw [if_pos l] at q; exact ⟨l, q⟩
    · rw [if_neg l] at q; exact q.elim
  · rw [if_pos q.1]; exact q.2
theorem wp_append {uo ua : M PV} {A : Ar} {Q : PV → Ar → Prop} {E : EQ} : wp (uAppend uo ua) A Q E ↔ wp uo A (fun o B => ∃ xs, lstC B o = some xs ∧ wp ua B (fun v C => wp (appendM o v) C Q E) E) E := by
  unfold uAppend; rw [wp_bind]; simp only [wp_bind, wp_ask]
theorem lst_end {D : Ar} {xs : List PV} : lstC (D ++ [some (false, .lst xs)]) (.m D.length) = some xs := by unfold lstC; simp
theorem app_end {D : Ar} {xs : List PV} {v : PV} {Q : PV → Ar → Prop} {E : EQ} (hl : xs.length ≤ 1000) (q : Q .non (D ++ [some (false, .lst (xs ++ [v]))])) : wp (appendM (.m D.length) v) (D ++ [some (false, .lst xs)]) Q E := by
  have hs : xs.length < sizeLine := slenlt (by omega)
  have e : (D ++ [some (false, Cell.lst xs)]).set D.length (some (false, .lst (xs ++ [v]))) = D ++ [some (false, .lst (xs ++ [v]))] := by simp
  refine wp_of (v := .non) (B := D ++ [some (false, .lst (xs ++ [v]))]) ?_ q
  have go : ∀ A : Ar, lstC A (.m D.length) = some xs → appendM (.m D.length) v A = some (.ok .non, A.set D.length (some (false, .lst (xs ++ [v])))) := fun A q => by
    unfold appendM
    split
    · rename_i h' ys e1 e2
      rw [q] at e2
      cases e2
      cases e1
      exact if_pos hs
    · rename_i n
      exact (n _ _ rfl q).elim
  rw [go _ lst_end, e]
theorem frz_end {D : Ar} {xs : List PV} {Q : PV → Ar → Prop} {E : EQ} (q : Q (.lst xs) (D ++ [none])) : wp (freezeM (.m D.length)) (D ++ [some (false, .lst xs)]) Q E := by
  refine wp_of ?_ q
  unfold freezeM
  simp
theorem wp_ifE {uc : M Bool} {ua ub : M PV} {A : Ar} {Q : PV → Ar → Prop} {E : EQ} : wp (uIfE uc ua ub) A Q E ↔ wp uc A (fun b B => if b = true then wp ua B Q E else wp ub B Q E) E := by unfold uIfE; rw [wp_bind]; simp only [wp_ite]
theorem wp_inner {ws : List PV} {u : M PV} {A : Ar} {Q : PV → Ar → Prop} {E : EQ} (h : wp u A (fun v B => okS ws A B (.ok v) ∧ Q v (B.take A.length)) (fun c fs B => okS ws A B (.ex c fs) ∧ E c fs (B.take A.length))) : wp (inner ws u) A Q E := by
  unfold wp at h
  split at h
  · rename_i v B e
    unfold wp; rw [inner_of e h.1]; exact h.2
  · rename_i c fs B e
    unfold wp; rw [inner_of e h.1]; exact h.2
  · exact h.elim
theorem wp_chain {f f' : Ar → PV → PV → Option PV} {ua ub uc : M PV} {A : Ar} {Q : PV → Ar → Prop} {E : EQ} : wp (uChain f f' ua ub uc) A Q E ↔ wp ua A (fun v B => wp ub B (fun w C => ∃ r, f C v w = some r ∧ ∃ b, r = .bl b ∧ if b = true then wp uc C (fun y D => ∃ z, f' D w y = some z ∧ Q z D) E else Q (.bl false) C) E) E := by
  unfold uChain; simp only [wp_bind, wp_ask, wp_asB, wp_ite, wp_pure]
theorem lst_mid {D R : Ar} {xs : List PV} : lstC (D ++ some (false, .lst xs) :: R) (.m D.length) = some xs := by unfold lstC; simp
theorem app_mid {D R : Ar} {xs : List PV} {v : PV} {Q : PV → Ar → Prop} {E : EQ} (hl : xs.length ≤ 1000) (q : Q .non (D ++ some (false, .lst (xs ++ [v])) :: R)) : wp (appendM (.m D.length) v) (D ++ some (false, .lst xs) :: R) Q E := by
  have hs : xs.length < sizeLine := slenlt (by omega)
  have e : (D ++ some (false, Cell.lst xs) :: R).set D.length (some (false, .lst (xs ++ [v]))) = D ++ some (false, .lst (xs ++ [v])) :: R := by simp
  refine wp_of (v := .non) (B := D ++ some (false, .lst (xs ++ [v])) :: R) ?_ q
  have go : ∀ A : Ar, lstC A (.m D.length) = some xs → appendM (.m D.length) v A = some (.ok .non, A.set D.length (some (false, .lst (xs ++ [v])))) := fun A q => by
    unfold appendM
    split
    · rename_i h' ys e1 e2
      rw [q] at e2
      cases e2
      cases e1
      exact if_pos hs
    · rename_i n
      exact (n _ _ rfl q).elim
  rw [go _ lst_mid, e]
theorem frz_mid {D R : Ar} {xs : List PV} {Q : PV → Ar → Prop} {E : EQ} (q : Q (.lst xs) (D ++ none :: R)) : wp (freezeM (.m D.length)) (D ++ some (false, .lst xs) :: R) Q E := by
  refine wp_of ?_ q
  unfold freezeM
  simp
theorem okS_same {ws : List PV} {A B : Ar} {o : Out PV} (e : B.take A.length = A) (ho : clO A.length o = true) : okS ws A B o := by
  have hl : A.length ≤ B.length := by
    have := congrArg List.length e
    rw [List.length_take] at this; omega
  refine ⟨hl, ho, fun i hi => .inl ?_⟩
  have : (B.take A.length)[i]? = A[i]? := by rw [e]
  rw [List.getElem?_take, if_pos hi] at this; exact this
section
variable {α : Type} {A : Ar} {Q : α → Ar → Prop} {E : EQ} {u : M α}
theorem wp_lockP {v : PV} (hv : ∀ h, v ≠ .m h) : wp (uLockL (pure v) u) A Q E ↔ wp u A Q E := by
  have e : uLockL (pure v) u A = u A := by
    unfold uLockL
    rw [M.pure_app]
    cases v with
    | m h => exact (hv h rfl).elim
    | _ => rfl
  unfold wp; rw [e]
theorem wp_lockM {j : Nat} {xs : List PV} (e : A[j]? = some (some (false, .lst xs))) (h : wp u (A.set j (some (true, .lst xs))) (fun v B => ∃ c2, B[j]? = some (some (true, c2)) ∧ Q v (B.set j (some (false, c2)))) (fun c fs B => ∃ c2, B[j]? = some (some (true, c2)) ∧ E c fs (B.set j none))) :
    wp (uLockL (pure (.m j)) u) A Q E := by
  unfold wp at h
  split at h
  · rename_i v B ev
    obtain ⟨c2, e2, q⟩ := h
    refine wp_of (v := v) (B := B.set j (some (false, c2))) ?_ q
    unfold uLockL
    simp only [M.pure_app, e, isCell, if_true, ev, e2]
  · rename_i c fs B ev
    obtain ⟨c2, e2, q⟩ := h
    have : uLockL (pure (.m j)) u A = some (.ex c fs, B.set j none) := by
      unfold uLockL
      simp only [M.pure_app, e, isCell, if_true, ev, e2]
    unfold wp; rw [this]; exact q
  · exact h.elim
theorem wp_itemsA {ua : M PV} {QL : List PV → Ar → Prop} : wp (uItemsA ua) A QL E ↔ wp ua A (fun v B => ∃ xs, seqA B v = some xs ∧ QL xs B) E := by unfold uItemsA; rw [wp_bind]; simp only [wp_ask]
end
theorem wp_listN {ua : M PV} {A : Ar} {Q : PV → Ar → Prop} {E : EQ} : wp (uListN ua) A Q E ↔ wp ua A (fun v B => ∃ xs, pListOf B v = some (.lst xs) ∧ Q (.m B.length) (B ++ [some (false, .lst xs)])) E := by
  unfold uListN; rw [wp_bind]
  refine ⟨fun h => wp_mono h (fun v B q => ?_) fun _ _ _ z => z, fun h => wp_mono h (fun v B q => ?_) fun _ _ _ z => z⟩
  · rw [wp_bind, wp_ask] at q
    obtain ⟨xs, e, q⟩ := q
    split at e
    · rename_i ys e2; cases e; exact ⟨_, e2, q⟩
    · cases e
  · obtain ⟨xs, e, q⟩ := q
    rw [wp_bind, wp_ask]
    exact ⟨xs, by rw [e], q⟩
theorem wp_inO {C : String} {neg : Bool} {ux uo : M PV} {fn : List PV → M PV} {A : Ar} {Q : PV → Ar → Prop} {E : EQ} : wp (uInO C neg ux uo fn) A Q E ↔ wp ux A (fun x B => wp uo B (fun o D => (∃ fs, insOf D C o = some fs) ∧ wp (fn [o, x]) D (fun r G => ∃ b : Bool, r = .bl b ∧ Q (.bl (b != neg)) G) nE) E) E := by
  unfold uInO
  simp only [wp_bind, wp_isIns, wp_noX]
  refine ⟨fun h => wp_mono h (fun x B q => wp_mono q (fun o D q => ⟨q.1, wp_mono q.2 (fun r G q => ?_) fun _ _ _ z => z⟩) fun _ _ _ z => z) fun _ _ _ z => z,
    fun h => wp_mono h (fun x B q => wp_mono q (fun o D q => ⟨q.1, wp_mono q.2 (fun r G q => ?_) fun _ _ _ z => z⟩) fun _ _ _ z => z) fun _ _ _ z => z⟩
  · cases r with
    | bl b => exact ⟨b, rfl, q⟩
    | _ => exact q.elim
  · obtain ⟨b, rfl, q⟩ := q; exact q
theorem lst_at' {C : Ar} {j : Nat} {xs : List PV} (e : C[j]? = some (some (false, .lst xs))) : lstC C (.m j) = some xs := by unfold lstC; simp only [e]
theorem app_at {C : Ar} {j : Nat} {xs : List PV} {v : PV} {Q : PV → Ar → Prop} {E : EQ} (e : C[j]? = some (some (false, .lst xs))) (hl : xs.length ≤ 1000) (q : Q .non (C.set j (some (false, .lst (xs ++ [v]))))) : wp (appendM (.m j) v) C Q E := by
  have hs : xs.length < sizeLine := slenlt (by omega)
  refine wp_of (v := .non) ?_ q
  unfold appendM
  split
  · rename_i h' ys e1 e2
    rw [lst_at' e] at e2
    cases e2
    cases e1
    exact if_pos hs
  · rename_i n
    exact (n _ _ rfl (lst_at' e)).elim
theorem wp_enumA {ua : M PV} {A : Ar} {QL : List PV → Ar → Prop} {E : EQ} : wp (uEnumA ua) A QL E ↔ wp ua A (fun v B => ∃ xs, seqA B v = some xs ∧ QL (numbered 0 xs) B) E := by
  unfold uEnumA; rw [wp_bind]; simp only [wp_ask]
  refine ⟨fun h => wp_mono h (fun v B ⟨z, e, q⟩ => ?_) fun _ _ _ z => z, fun h => wp_mono h (fun v B ⟨xs, e, q⟩ => ⟨numbered 0 xs, by rw [e]; rfl, q⟩) fun _ _ _ z => z⟩
  cases e2 : seqA B v with
  | none => rw [e2] at e; cases e
  | some xs => rw [e2] at e; cases e; exact ⟨xs, rfl, q⟩
theorem wp_tryN {α γ : Type} {cs : List String} {ub : M (Fl α γ)} {hs : Clauses α γ} {A : Ar} {QF : Fl α γ → Ar → Prop} {E : EQ}
    (h : wp ub A QF (fun c' fs B => c' ∈ cs ∧ match hs.lookup c' with | some us => ∃ gs, fs = some gs ∧ wp (us (gs.map (·.1)) (gs.map (·.2))) B QF nE | none => E c' fs B)) : wp (uTryN cs ub hs) A QF E := by
  unfold wp uTryN at *
  split at h
  · rename_i v B e; rw [e]; exact h
  · rename_i c' fs B e
    rw [e]
    obtain ⟨hc, h⟩ := h
    dsimp only
    rw [if_pos hc]
    unfold uCatch
    split at h
    · rename_i us e2
      obtain ⟨gs, rfl, h⟩ := h
      rw [e2]
      have := wp_noX (E := E).mpr h
      unfold wp at this; exact this
    · rename_i e2
      rw [e2]; exact h
  · exact h.elim
def isDct (A : Ar) (v : PV) : Prop := (∃ k, cellOf A v = some (.dK k)) ∨ ∃ k, cellOf A v = some (.dT k)
theorem wp_get1 {uo uk : M PV} {A : Ar} {Q : PV → Ar → Prop} {E : EQ} (h : wp uo A (fun o B => isDct B o ∧ wp uk B (fun k D => ∃ r, pGet D o k = some r ∧ Q (r.getD .non) D) E) E) : wp (uGet1 uo uk) A Q E := by
  unfold uGet1; rw [wp_bind]
  refine wp_mono h (fun o B ⟨hd, q⟩ => ?_) fun _ _ _ z => z
  simp only [wp_bind, wp_ask]
  refine ⟨(), ?_, wp_mono q (fun k D ⟨r, e, q⟩ => ⟨r.getD .non, by rw [e]; rfl, q⟩) fun _ _ _ z => z⟩
  rcases hd with ⟨k, e⟩ | ⟨k, e⟩ <;> rw [e]
theorem pop_at {A : Ar} {h : Nat} {kvs : List (List Key × PV)} {k : PV} {kk : List Key} {d : PV} {Q : PV → Ar → Prop} {E : EQ} (e : A[h]? = some (some (false, .dT kvs))) (hk : keyT k = some kk)
    (q : ∀ v, Q v (A.set h (some (false, .dT (pDrop kvs kk))))) : wp (popTM (.m h) k d) A Q E := by
  cases e2 : pLook kvs kk with
  | some v =>
    refine wp_of (v := v) ?_ (q v)
    unfold popTM; simp only [e, hk, e2]
  | none =>
    have hd : pDrop kvs kk = kvs := by
      unfold pDrop
      rw [List.filter_eq_self]
      intro x hx
      refine decide_eq_true fun z => ?_
      unfold pLook at e2
      rw [Option.map_eq_none_iff, List.find?_eq_none] at e2
      exact e2 x hx (decide_eq_true z)
    have hs : A.set h (some (false, .dT (pDrop kvs kk))) = A := by
      rw [hd]
      apply List.ext_getElem?
      intro i
      rw [List.getElem?_set]
      by_cases z : h = i
      · subst z; rw [if_pos rfl, if_pos (List.getElem?_eq_some_iff.mp e).choose, e]
      · rw [if_neg z]
    have := q d
    rw [hs] at this
    refine wp_of (v := d) ?_ this
    unfold popTM; simp only [e, hk, e2]
theorem wp_popT {uo uk ud : M PV} {A : Ar} {Q : PV → Ar → Prop} {E : EQ} (h : wp uo A (fun o B => isDT B o = some () ∧ wp uk B (fun k C => wp ud C (fun d D => wp (popTM o k d) D Q E) E) E) E) : wp (uPopT uo uk ud) A Q E := by
  unfold uPopT; rw [wp_bind]
  refine wp_mono h (fun o B ⟨hd, q⟩ => ?_) fun _ _ _ z => z
  simp only [wp_bind, wp_ask]
  exact ⟨(), hd, q⟩
theorem set_dT {A : Ar} {h : Nat} {kvs : List (List Key × PV)} {k v : PV} {kk : List Key} (e : A[h]? = some (some (false, .dT kvs))) (hk : keyT k = some kk) (hl : kvs.length < 10000) : setM (.m h) k v A = some (.ok (), A.set h (some (false, .dT (pPut kvs kk v)))) := by
  have : kvs.length < sizeLine := slenlt (by omega)
  unfold setM; simp only [e, hk, if_pos this]
theorem set_lst {A : Ar} {h : Nat} {xs : List PV} {j : Nat} {v : PV} (e : A[h]? = some (some (false, .lst xs))) (hj : j < xs.length) : setM (.m h) (.int (j : Nat)) v A = some (.ok (), A.set h (some (false, .lst (xs.set j v)))) := by
  have : ixN xs.length (j : Nat) = some j := by unfold ixN; rw [if_pos (by omega), if_pos (by omega)]; simp
  unfold setM; simp only [e, this]
theorem look_drop {κ : Type} [DecidableEq κ] {kvs : List (κ × PV)} {k k' : κ} : pLook (pDrop kvs k) k' = if k = k' then none else pLook kvs k' := by
  unfold pLook pDrop
  induction kvs with
  | nil => by_cases h : k = k' <;> simp [h]
  | cons a l ih =>
    rw [List.filter_cons]
    by_cases e : a.1 = k
    · rw [if_neg (by simp [e]), ih]
      by_cases h : k = k'
      · rw [if_pos h, if_pos h]
      · rw [if_neg h, if_neg h, List.find?_cons, decide_eq_false (fun z => h (e.symm.trans z))]
    · rw [if_pos (by simp [e]), List.find?_cons, List.find?_cons]
      by_cases h : a.1 = k'
      · rw [decide_eq_true h, if_neg (fun z => e (h.trans z.symm))]
      · rw [decide_eq_false h]; exact ih
theorem putP_len {κ : Type} [DecidableEq κ] {kvs : List (κ × PV)} {k : κ} {v : PV} : (pPut kvs k v).length ≤ kvs.length + 1 := by
  unfold pPut; split <;> simp
theorem dropP_len {κ : Type} [DecidableEq κ] {kvs : List (κ × PV)} {k : κ} : (pDrop kvs k).length ≤ kvs.length := List.length_filter_le _ _
theorem fn4_app {f : PV → PV → PV → PV → M PV} {a b c d : PV} : fn4 f [a, b, c, d] = f a b c d := rfl
theorem fn5_app {f : PV → PV → PV → PV → PV → M PV} {a b c d e : PV} : fn5 f [a, b, c, d, e] = f a b c d e := rfl
theorem wp_lcN {us : M (List PV)} {f : PV → M (Option PV)} {A : Ar} {Q : PV → Ar → Prop} {E : EQ} : wp (uLcN us f) A Q E ↔ wp us A (fun xs B => xs.length ≤ sizeLine ∧ wp (uComp f xs []) B (fun ys C => Q (.m C.length) (C ++ [some (false, .lst ys)])) nE) E := by
  unfold uLcN; rw [wp_bind]
  have : ∀ xs : List PV, ∀ B, wp (if xs.length ≤ sizeLine then (noX (uComp f xs [])) >>= fun ys => newC (.lst ys) else bad) B Q E ↔ xs.length ≤ sizeLine ∧ wp (uComp f xs []) B (fun ys C => Q (.m C.length) (C ++ [some (false, .lst ys)])) nE := fun xs B => by
    by_cases h : xs.length ≤ sizeLine
    · rw [if_pos h, wp_bind, wp_noX]; exact ⟨fun q => ⟨h, q⟩, fun q => q.2⟩
    · rw [if_neg h, wp_bad]; exact ⟨fun q => q.elim, fun q => h q.1⟩
  simp only [this]
end Lk
set_option Elab.async false
set_option linter.all false
set_option maxRecDepth 100000
namespace Lk
open PySem L2
namespace K18
theorem take_run {n : Nat} {c : Option (Bool × Cell)} {k : Int} (hc : PoolC n c) (hn : n ≤ 2 ^ 40) (h0 : 0 < k) (h1 : k < 2 ^ 30) :
    ∃ (r : Int) (c' : Option (Bool × Cell)), 0 ≤ r ∧ r < k ∧ PoolC (n + 1) c' ∧ ∀ R, u__law_take (.m 0) (.int k) (c :: R) = some (.ok (.int r), c' :: R) := by
  obtain ⟨a, b, d, rfl, ha, hb, hb', hd, hd'⟩ := hc
  by_cases hp : 0 < a
  · refine ⟨a % k, some (false, .lst [.int (a / k), .int b, .int d]), Int.emod_nonneg _ (by omega), Int.emod_lt_of_pos _ h0, ⟨a / k, b, d, rfl, Int.ediv_nonneg ha (by omega), hb, hb', hd, by omega⟩, fun R => ?_⟩
    have k2 : k < 1073741824 := h1
    simp [u__law_take, b__law_take, uDef, u1, u2, ask, M.bind_app, M.pure_app, pIx, dr, drW, atI, ixN, pGt, asB, exits, uSeq, pMod, pInt, pDiv, setM, hp, h0, k2]
  · have e : a = 0 := by omega
    subst e
    refine ⟨((b + 7919 * (d + 1) + 104729) ^ 5 % 2147483647 + (d + 1)) * 40692 % 2147483629 % k, some (false, .lst [.int 0, .int b, .int (d + 1)]), Int.emod_nonneg _ (by omega), Int.emod_lt_of_pos _ h0, ⟨0, b, d + 1, rfl, by omega, hb, hb', by omega, by omega⟩, fun R => ?_⟩
    have g2 : (b + 7919 * (d + 1) + 104729).natAbs < 2 ^ 64 := by omega
    have g2' : (b + 7919 * (d + 1) + 104729).natAbs < 18446744073709551616 := g2
    simp [u__law_take, b__law_take, uDef, u1, u2, ask, M.bind_app, M.pure_app, pIx, dr, drW, atI, ixN, pGt, asB, exits, uSeq, pMod, pInt, pDiv, setM, pAdd, pMul, pPow, g2', h0]
theorem cell_run {ns : List Int} {k : Int} (h0 : 0 ≤ k) : ∃ i : Int, ∀ A, u__law_cell (.scr ns) (.int k) A = some (.ok (.int i), A) := by
  by_cases h : k < ns.length
  · have hk : k.toNat < ns.length := by omega
    refine ⟨ns[k.toNat], fun A => ?_⟩
    simp [u__law_cell, b__law_cell, uDef, u1, u2, ask, M.bind_app, M.pure_app, pLt, pLen, dr, asB, exits, uSeq, pIx, atI, ixN, h, h0, hk]
  · exact ⟨0, fun A => by simp [u__law_cell, b__law_cell, uDef, u1, u2, ask, M.bind_app, M.pure_app, pLt, pLen, dr, asB, exits, uSeq, pIx, atI, ixN, h, h0]⟩
theorem pool_run (i : Int) : ∃ c, PoolC 0 c ∧ ∀ A, u__law_pool (.int i) A = some (.ok (.m A.length), A ++ [c]) := by
  have go : ∀ j : Int, 0 ≤ j → PoolC 0 (some (false, .lst [if j ≥ 10 ^ 18 then .int j else .int 0, .int (j % 1000000007), .int 0])) := fun j hj => by
    by_cases h : j ≥ 10 ^ 18
    · rw [if_pos h]; exact ⟨j, _, 0, rfl, hj, Int.emod_nonneg _ (by decide), Int.emod_lt_of_pos _ (by decide), by decide, by decide⟩
    · rw [if_neg h]; exact ⟨0, _, 0, rfl, by decide, Int.emod_nonneg _ (by decide), Int.emod_lt_of_pos _ (by decide), by decide, by decide⟩
  have hs : ¬ sizeLine < 3 := by decide
  have hs : 3 ≤ sizeLine := by decide
  by_cases h : i < 0
  · refine ⟨_, go (0 - 2 * i - 1) (by omega), fun A => ?_⟩
    by_cases h2 : 0 - 2 * i - 1 ≥ 10 ^ 18
    · have h3 : 1000000000000000000 ≤ -(2 * i) - 1 := by omega
      simp [u__law_pool, b__law_pool, uDef, u1, u2, ask, M.bind_app, M.pure_app, dr, drW, pLt, asB, exits, uSeq, pMod, pInt, pSub, pMul, pPow, pGe, uNewL, uCons, h, h2, hs, h3]
    · have h3 : ¬ 1000000000000000000 ≤ -(2 * i) - 1 := by omega
      simp [u__law_pool, b__law_pool, uDef, u1, u2, ask, M.bind_app, M.pure_app, dr, drW, pLt, asB, exits, uSeq, pMod, pInt, pSub, pMul, pPow, pGe, uNewL, uCons, h, h2, hs, h3]
  · refine ⟨_, go (2 * i) (by omega), fun A => ?_⟩
    by_cases h2 : 2 * i ≥ 10 ^ 18
    · have h3 : 1000000000000000000 ≤ 2 * i := by omega
      simp [u__law_pool, b__law_pool, uDef, u1, u2, ask, M.bind_app, M.pure_app, dr, drW, pLt, asB, exits, uSeq, pMod, pInt, pSub, pMul, pPow, pGe, uNewL, uCons, h, h2, hs, h3]
    · have h3 : ¬ 1000000000000000000 ≤ 2 * i := by omega
      simp [u__law_pool, b__law_pool, uDef, u1, u2, ask, M.bind_app, M.pure_app, dr, drW, pLt, asB, exits, uSeq, pMod, pInt, pSub, pMul, pPow, pGe, uNewL, uCons, h, h2, hs, h3]
theorem take_wp {n : Nat} {c : Option (Bool × Cell)} {k : Int} {R : Ar} {Q : PV → Ar → Prop} {E : EQ} (hc : PoolC n c) (hn : n ≤ 2 ^ 40) (h0 : 0 < k) (h1 : k < 2 ^ 30)
    (q : ∀ (r : Int) c', 0 ≤ r → r < k → PoolC (n + 1) c' → Q (.int r) (c' :: R)) : wp (u__law_take (.m 0) (.int k)) (c :: R) Q E := by
  obtain ⟨r, c', h2, h3, h4, h5⟩ := take_run hc hn h0 h1
  exact wp_of (h5 R) (q r c' h2 h3 h4)
theorem cell_wp {ns : List Int} {k : Int} {A : Ar} {Q : PV → Ar → Prop} {E : EQ} (h0 : 0 ≤ k) (q : ∀ i : Int, Q (.int i) A) : wp (u__law_cell (.scr ns) (.int k)) A Q E := by
  obtain ⟨i, h⟩ := cell_run (ns := ns) h0
  exact wp_of (h A) (q i)
theorem pool_wp {i : Int} {A : Ar} {Q : PV → Ar → Prop} {E : EQ} (q : ∀ c, PoolC 0 c → Q (.m A.length) (A ++ [c])) : wp (u__law_pool (.int i)) A Q E := by
  obtain ⟨c, hc, h⟩ := pool_run i
  exact wp_of (h A) (q c hc)
/-! small texts -/
def Sx (L : Nat) (z : Str) : Prop := z.length ≤ L ∧ ∀ x ∈ ch z, x < 1114112
theorem Sx.mono {L M : Nat} {z : Str} (h : Sx L z) (k : L ≤ M) : Sx M z := ⟨Nat.le_trans h.1 k, h.2⟩
theorem Sx.app {L M : Nat} {y z : Str} (h : Sx L y) (k : Sx M z) : Sx (L + M) (y ++ z) := ⟨by rw [len_append]; exact Nat.add_le_add h.1 k.1, fun x hx => by
  rw [ch_append] at hx
  rcases List.mem_append.mp hx with q | q
  · exact h.2 x q
  · exact k.2 x q⟩
theorem Sx.to {L : Nat} {z : Str} {k : Int} (h : Sx L z) (hk : 0 ≤ k) : Sx L (cutS z none (some k)) := ⟨by rw [len_to z hk]; have := h.1; omega, fun x hx => by
  rw [ch_to z hk] at hx; exact h.2 x (List.mem_of_mem_take hx)⟩
theorem Sx.from {L : Nat} {z : Str} {k : Int} (h : Sx L z) (hk : 0 ≤ k) : Sx L (cutS z (some k) none) := ⟨by rw [len_from z hk]; have := h.1; omega, fun x hx => by
  rw [ch_from z hk] at hx; exact h.2 x (List.mem_of_mem_drop hx)⟩
theorem p_addS {A : Ar} {a b : Str} {L M : Nat} (h : Sx L a) (k : Sx M b) (hl : L + M ≤ 10000) : pAdd A (.str a) (.str b) = some (.str (a ++ b)) := by
  have : a.length + b.length ≤ sizeLine := slen (by have := h.1; have := k.1; omega)
  simp [pAdd, drW, this]
theorem p_ixS {A : Ar} {z : Str} {L : Nat} {i : Int} (h : Sx L z) (hl : L ≤ 10000) (h0 : 0 ≤ i) (h1 : i < z.length) : ∃ c, pIx A (.str z) (.int i) = some (.str ⟨#[c]⟩) ∧ Sx 1 ⟨#[c]⟩ ∧ (ch z)[i.toNat]? = some c := by
  obtain ⟨c, e1, e2⟩ := atS h0 h1
  refine ⟨c, ?_, ⟨Nat.le_refl _, fun x hx => ?_⟩, e1⟩
  · have : z.length ≤ sizeLine := slen (by have := h.1; omega)
    simp [pIx, dr, this]
    simpa using e2
  · rw [List.mem_singleton.mp hx]; exact h.2 c (List.mem_of_getElem? e1)
theorem p_slS {A : Ar} {z : Str} {L : Nat} {lo hi : Option Int} (h : Sx L z) (hl : L ≤ 10000) : pSl A (.str z) lo hi = some (.str (cutS z lo hi)) := by
  have : z.length ≤ sizeLine := slen (by have := h.1; omega)
  simp [pSl, dr, this]
theorem p_lenS {A : Ar} {z : Str} {L : Nat} (h : Sx L z) (hl : L ≤ 10000) : pLen A (.str z) = some (.int z.length) := by
  have : z.length ≤ sizeLine := slen (by have := h.1; omega)
  simp [pLen, dr, this]
theorem p_mod {A : Ar} {i j : Int} (h : 0 < j) : pMod A (.int i) (.int j) = some (.int (i % j)) := by simp [pMod, h]
theorem p_eqI {A : Ar} {i j : Int} : pEq A (.int i) (.int j) = some (.bl (decide (i = j))) := by
  simp [pEq, pEqB, sc, scal]
def sLets : Str := "abcdefghijklmnopqrstuvwxyz"
def sDigs : Str := "0123456789"
def sOth : Str := " !\"#$&'()*+,-./:;<=>?@ABCDEFGHIJKLMNOPQRSTUVWXYZ[\\]^_`{|}~"
theorem sx_lets : Sx 26 ("abcdefghijklmnopqrstuvwxyz" : Str) := ⟨by decide +kernel, by decide +kernel⟩
theorem sx_digs : Sx 10 ("0123456789" : Str) := ⟨by decide +kernel, by decide +kernel⟩
theorem sx_oth : Sx 58 (" !\"#$&'()*+,-./:;<=>?@ABCDEFGHIJKLMNOPQRSTUVWXYZ[\\]^_`{|}~" : Str) := ⟨by decide +kernel, by decide +kernel⟩
theorem sx_abc : Sx 9 ("abcdefghi" : Str) := ⟨by decide +kernel, by decide +kernel⟩
end K18
end Lk
set_option Elab.async false
set_option linter.all false
set_option maxRecDepth 100000
namespace Lk
open PySem L2
namespace K18
theorem pow40 {n : Nat} (h : n ≤ 1000000) : n ≤ 2 ^ 40 := Nat.le_trans h (by decide)
theorem p_addI {A : Ar} {i j : Int} : pAdd A (.int i) (.int j) = some (.int (i + j)) := rfl
theorem eq_ite {p : Prop} [Decidable p] {P Q : Prop} (h1 : p → P) (h2 : ¬ p → Q) : if decide p = true then P else Q := by
  by_cases h : p
  · rw [if_pos (decide_eq_true h)]; exact h1 h
  · rw [if_neg (by simpa using h)]; exact h2 h
theorem range_at {lo : Int} {n i : Nat} {x : PV} (h : (rangeOf lo n)[i]? = some x) : x = .int (lo + i) ∧ i < n := by
  unfold rangeOf at h
  rw [List.getElem?_map] at h
  by_cases hi : i < n
  · rw [List.getElem?_range hi] at h; cases h; exact ⟨rfl, hi⟩
  · rw [List.getElem?_eq_none (by simpa using hi)] at h; cases h
theorem range_len {lo : Int} {n : Nat} : (rangeOf lo n).length = n := by simp [rangeOf]
def nmB (z : Str) : Bool := match ch z with
  | [] => false
  | c :: r => decide (r.length ≤ 7) && decide (c ∈ lets) && (c :: r).all fun x => decide (x ∈ als)
def isN : PV → Bool
  | .str z => nmB z
  | _ => false
theorem ch_als2 : ch ("abcdefghijklmnopqrstuvwxyz0123456789" : Str) = als := by decide +kernel
theorem sx_als2 : Sx 36 ("abcdefghijklmnopqrstuvwxyz0123456789" : Str) := ⟨by decide +kernel, by decide +kernel⟩
theorem p_inS {A : Ar} {c : Nat} {z : Str} : pIn A (.str ⟨#[c]⟩) (.str z) = some (.bl (decide (c ∈ ch z))) := rfl
theorem p_notInS {A : Ar} {c : Nat} {z : Str} : pNotIn A (.str ⟨#[c]⟩) (.str z) = some (.bl (!decide (c ∈ ch z))) := rfl
theorem signs_at {z : Str} {i : Nat} {x : PV} (h : (signs z)[i]? = some x) : ∃ c, (ch z)[i]? = some c ∧ x = .str ⟨#[c]⟩ := by
  unfold signs at h
  obtain ⟨c, h1, h2⟩ := getMap h
  exact ⟨c, h1, h2⟩
theorem signs_len {z : Str} : (signs z).length = z.length := by simp [signs, Str.length]
theorem take_snoc {α : Type} {l : List α} {i : Nat} {c : α} (h : l[i]? = some c) : l.take (i + 1) = l.take i ++ [c] := by
  have hl := lt_of_get h
  rw [List.take_succ, h]; rfl
theorem bools_map : ∀ {α : Type} (l : List α) (f : α → Bool), bools (l.map fun x => .bl (f x)) = some (l.map f)
  | _, [], f => rfl
  | _, x :: l, f => by simp [bools, bools_map l f]
/-- what may stand in a list: a short text or no text at all -/
inductive WdOk : PV → Prop
  | str (z : Str) (h : Sx 100 z) : WdOk (.str z)
  | non : WdOk .non
  | int (i : Int) : WdOk (.int i)
  | bl (b : Bool) : WdOk (.bl b)
  | tup (xs : List PV) : WdOk (.tup xs)
  | lst (xs : List PV) : WdOk (.lst xs)
theorem isi_str {A : Ar} {z : Str} : pIsi "str" A (.str z) = some (.bl true) := rfl
theorem isi_not {A : Ar} {w : PV} (h : WdOk w) (hs : ∀ z, w ≠ .str z) : pIsi "str" A w = some (.bl false) := by
  cases h with
  | str z _ => exact (hs z rfl).elim
  | _ => rfl
theorem isN_not {w : PV} (hs : ∀ z, w ≠ .str z) : isN w = false := by
  cases w with
  | str z => exact (hs z rfl).elim
  | _ => rfl
theorem is_str (w : PV) : (∃ z, w = .str z) ∨ ∀ z, w ≠ .str z := by
  cases w with
  | str z => exact .inl ⟨z, rfl⟩
  | _ => exact .inr fun z e => nomatch e
theorem is_name_wp {w : PV} {A : Ar} {Q : PV → Ar → Prop} {E : EQ} (hw : WdOk w) (q : Q (.bl (isN w)) A) : wp (u_is_name w) A Q E := by
  unfold u_is_name b_is_name
  simp only [wp_pure, wp_bind, wp_ask, wp_opt, wp_bad, wp_ite, wp_noX, wp_u1, wp_u2, wp_cons, wp_call, wp_lst, wp_tup, wp_star, wp_tru, wp_not, wp_and, wp_or, wp_andV, wp_orV, wp_notV, wp_asB, wp_part, wp_sl, wp_items, wp_enum, wp_signs, wp_range1, wp_seq, wp_exits, wp_def, wp_exM, wp_lc, wp_elt, fn1_app, fn2_app, fn3_app, if_true, Bool.false_eq_true, if_false]
  rcases is_str w with ⟨z, rfl⟩ | hs
  · cases hw with | str _ sz =>
    refine ⟨_, isi_str, _, rfl, ?_⟩
    rw [if_neg (by decide)]
    simp only [wp_chain, wp_u1, wp_pure]
    refine ⟨_, p_lenS sz (by decide), _, rfl, _, rfl, ?_⟩
    have hq : isN (.str z) = nmB z := rfl
    rw [hq] at q
    refine eq_ite (fun h1 => ⟨_, rfl, _, rfl, ?_⟩) (fun h1 => ⟨_, rfl, ?_⟩)
    · by_cases h8 : (z.length : Int) ≤ 8
      · rw [if_neg (by simp [h8])]
        have hz1 : 1 ≤ z.length := by omega
        obtain ⟨c, e1, s1, e2⟩ := p_ixS (A := A) (i := 0) sz (by decide) (by decide) (by omega)
        obtain ⟨c', r, ez⟩ : ∃ c' r, ch z = c' :: r := by
          cases e : ch z with
          | nil => rw [len_ch, e] at hz1; exact absurd hz1 (by decide)
          | cons c' r => exact ⟨c', r, rfl⟩
        have ec : c' = c := by rw [ez] at e2; exact Option.some.inj e2
        subst ec
        have hr : r.length ≤ 7 := by have : z.length = r.length + 1 := by rw [len_ch, ez]; rfl
                                     omega
        have hn : nmB z = (decide (c' ∈ lets) && (c' :: r).all fun x => decide (x ∈ als)) := by
          unfold nmB; rw [ez]; simp [hr]
        rw [hn] at q
        refine ⟨_, e1, _, p_inS, _, rfl, ?_⟩
        rw [ch_lets]
        refine eq_ite (fun hc => ⟨_, rfl, slen (by rw [signs_len]; omega), ?_⟩) fun hc => ?_
        · rw [decide_eq_true hc, Bool.true_and, ← ez] at q
          refine wp_comp (fun i acc B => B = A ∧ acc = ((ch z).take i).map fun x => .bl (decide (x ∈ als))) ⟨rfl, rfl⟩ (fun i x acc B hx ⟨hB, hacc⟩ => ?_) fun ys B ⟨hB, hacc⟩ => ?_
          · subst hB hacc
            obtain ⟨d, hd, rfl⟩ := signs_at hx
            simp only [wp_pure, wp_bind, wp_ask, wp_opt, wp_bad, wp_ite, wp_noX, wp_u1, wp_u2, wp_cons, wp_call, wp_lst, wp_tup, wp_star, wp_tru, wp_not, wp_and, wp_or, wp_andV, wp_orV, wp_notV, wp_asB, wp_part, wp_sl, wp_items, wp_enum, wp_signs, wp_range1, wp_seq, wp_exits, wp_def, wp_exM, wp_lc, wp_elt, fn1_app, fn2_app, fn3_app, if_true, Bool.false_eq_true, if_false]
            refine ⟨_, rfl, ?_⟩
            refine ⟨_, p_inS, trivial, ?_⟩
            rw [take_snoc hd, List.map_append, ch_als2]; rfl
          · subst hB hacc
            rw [signs_len, len_ch, List.take_length]
            refine ⟨_, ?_, q⟩
            show (bools _).map _ = _
            rw [bools_map]
            simp [List.all_map]
        · rw [decide_eq_false hc, Bool.false_and] at q
          rw [decide_eq_false hc]; exact q
      · rw [if_pos (by simp [h8])]
        have : nmB z = false := by
          unfold nmB
          split
          · rfl
          · rename_i c r e
            have hl : z.length = r.length + 1 := by rw [len_ch, e]; rfl
            rw [decide_eq_false (show ¬ r.length ≤ 7 by omega)]; rfl
        rw [this] at q; exact q
    · rw [if_pos (by decide)]
      have : nmB z = false := by
        unfold nmB
        split
        · rfl
        · rename_i c r e
          have hl : z.length = r.length + 1 := by rw [len_ch, e]; rfl
          exact (h1 (by omega)).elim
      rw [this] at q; exact q
  · refine ⟨_, isi_not hw hs, _, rfl, ?_⟩
    rw [if_pos (by decide)]
    rw [isN_not hs] at q
    exact q
theorem p_gtI {A : Ar} {i j : Int} : pGt A (.int i) (.int j) = some (.bl (decide (i > j))) := rfl
end K18
end Lk
set_option Elab.async false
set_option linter.all false
set_option maxRecDepth 100000
namespace Lk
open PySem L2
namespace K18
/-! data: what is compared -/
theorem sx_ok {L : Nat} {z : Str} (h : Sx L z) : PyData.strOk z = true := by
  unfold PyData.strOk
  rw [← Array.all_toList, List.all_eq_true]
  intro x hx
  exact decide_eq_true (h.2 x hx)
def Dt (n : Nat) (v : PV) : Prop := ∃ d, toD v = some d ∧ d.canLay0 = true ∧ d.depth ≤ n ∧ PyData.eqv d d = true
theorem Dt.mono {n m : Nat} {v : PV} (h : Dt n v) (k : n ≤ m) : Dt m v := by
  obtain ⟨d, a, b, c, e⟩ := h; exact ⟨d, a, b, by omega, e⟩
theorem Dt.str {n L : Nat} {z : Str} (h : Sx L z) : Dt n (.str z) := ⟨.str z, rfl, sx_ok h, Nat.zero_le _, by show (z == z) = true; simp⟩
theorem Dt.int {n : Nat} (i : Int) : Dt n (.int i) := ⟨.int i, rfl, rfl, Nat.zero_le _, by show (i == i) = true; simp⟩
theorem Dt.bl {n : Nat} (b : Bool) : Dt n (.bl b) := ⟨.bool b, rfl, rfl, Nat.zero_le _, by show (b == b) = true; simp⟩
theorem Dt.non {n : Nat} : Dt n .non := ⟨.none, rfl, rfl, Nat.zero_le _, rfl⟩
theorem Dt.all {n : Nat} : ∀ {xs : List PV}, (∀ x ∈ xs, Dt n x) → ∃ ds, toDL xs = some ds ∧ PyData.canLayAll0 ds = true ∧ PyData.depthAll ds ≤ n ∧ PyData.eqvAll ds ds = true
  | [], _ => ⟨[], rfl, rfl, Nat.zero_le _, rfl⟩
  | x :: xs, h => by
    obtain ⟨d, a1, a2, a3, a4⟩ := h x List.mem_cons_self
    obtain ⟨ds, b1, b2, b3, b4⟩ := Dt.all fun y hy => h y (List.mem_cons_of_mem _ hy)
    refine ⟨d :: ds, ?_, ?_, ?_, ?_⟩
    · show (match toD x, toDL xs with | some d, some ds => some (d :: ds) | _, _ => none) = _
      rw [a1, b1]
    · show (PyData.canLay0 d && PyData.canLayAll0 ds) = true
      rw [a2, b2]; rfl
    · show max (PyData.depth d) (PyData.depthAll ds) ≤ n
      omega
    · show (PyData.eqv d d && PyData.eqvAll ds ds) = true
      rw [a4, b4]; rfl
theorem Dt.lst {n : Nat} {xs : List PV} (h : ∀ x ∈ xs, Dt n x) : Dt (n + 1) (.lst xs) := by
  obtain ⟨ds, b1, b2, b3, b4⟩ := Dt.all h
  refine ⟨.list ds, ?_, b2, ?_, b4⟩
  · show (toDL xs).map _ = _
    rw [b1]; rfl
  · show PyData.depthAll ds + 1 ≤ n + 1
    omega
theorem Dt.tup {n : Nat} {xs : List PV} (h : ∀ x ∈ xs, Dt n x) : Dt (n + 1) (.tup xs) := by
  obtain ⟨ds, b1, b2, b3, b4⟩ := Dt.all h
  refine ⟨.tuple ds, ?_, b2, ?_, b4⟩
  · show (toDL xs).map _ = _
    rw [b1]; rfl
  · show PyData.depthAll ds + 1 ≤ n + 1
    omega
theorem shp {d : PyData} {n : Nat} (a : d.canLay0 = true) (b : d.depth ≤ n) (hn : n ≤ 64) : SeqAt.shaped d = true := by
  unfold SeqAt.shaped
  rw [Bool.and_eq_true]
  exact ⟨a, decide_eq_true (by omega)⟩
/-- a list or a tuple is equal to itself -/
theorem p_eq_self {A : Ar} {n : Nat} {xs : List PV} (h : ∀ x ∈ xs, Dt n x) (hn : n ≤ 60) : pEqB A (.lst xs) (.lst xs) = some true := by
  obtain ⟨d, a, b, c, e⟩ := Dt.lst h
  show (match toD (.lst xs), toD (.lst xs) with | some d, some e => if SeqAt.shaped d = true ∧ SeqAt.shaped e = true then some (PyData.eqv d e) else none | _, _ => none) = _
  rw [a]
  have := shp b c (by omega)
  exact (if_pos ⟨this, this⟩).trans (by rw [e])
theorem p_eq_selfT {A : Ar} {n : Nat} {xs : List PV} (h : ∀ x ∈ xs, Dt n x) (hn : n ≤ 60) : pEqB A (.tup xs) (.tup xs) = some true := by
  obtain ⟨d, a, b, c, e⟩ := Dt.tup h
  show (match toD (.tup xs), toD (.tup xs) with | some d, some e => if SeqAt.shaped d = true ∧ SeqAt.shaped e = true then some (PyData.eqv d e) else none | _, _ => none) = _
  rw [a]
  have := shp b c (by omega)
  exact (if_pos ⟨this, this⟩).trans (by rw [e])
/-- lists of texts -/
theorem toDL_str : ∀ (ss : List Str), toDL (ss.map PV.str) = some (ss.map PyData.str)
  | [] => rfl
  | s :: ss => by
    show (match toD (.str s), toDL (ss.map PV.str) with | some d, some ds => some (d :: ds) | _, _ => none) = _
    rw [toDL_str ss]; rfl
theorem lay_str : ∀ {ss : List Str}, (∀ s ∈ ss, Sx 100 s) → PyData.canLayAll0 (ss.map PyData.str) = true
  | [], _ => rfl
  | s :: ss, h => by
    show (PyData.strOk s && PyData.canLayAll0 (ss.map PyData.str)) = true
    rw [sx_ok (h s List.mem_cons_self), lay_str fun x hx => h x (List.mem_cons_of_mem _ hx)]; rfl
theorem dep_str : ∀ (ss : List Str), PyData.depthAll (ss.map PyData.str) = 0
  | [] => rfl
  | s :: ss => by
    show max 0 (PyData.depthAll (ss.map PyData.str)) = 0
    rw [dep_str ss]; rfl
theorem eqv_str : ∀ (ss tt : List Str), PyData.eqvAll (ss.map PyData.str) (tt.map PyData.str) = decide (ss = tt)
  | [], [] => rfl
  | [], t :: tt => rfl
  | s :: ss, [] => rfl
  | s :: ss, t :: tt => by
    show ((s == t) && PyData.eqvAll (ss.map PyData.str) (tt.map PyData.str)) = _
    rw [eqv_str ss tt]
    by_cases h1 : s = t
    · by_cases h2 : ss = tt
      · subst h1 h2; simp
      · simp [h1, h2]
    · simp [h1]
theorem shapedL {ss : List Str} (h : ∀ s ∈ ss, Sx 100 s) : SeqAt.shaped (.list (ss.map PyData.str)) = true := by
  refine shp (n := 1) (lay_str h) ?_ (by decide)
  show PyData.depthAll (ss.map PyData.str) + 1 ≤ 1
  rw [dep_str]; decide
theorem shapedT {ss : List Str} (h : ∀ s ∈ ss, Sx 100 s) : SeqAt.shaped (.tuple (ss.map PyData.str)) = true := by
  refine shp (n := 1) (lay_str h) ?_ (by decide)
  show PyData.depthAll (ss.map PyData.str) + 1 ≤ 1
  rw [dep_str]; decide
theorem p_eqSL {A : Ar} {ss tt : List Str} (h : ∀ s ∈ ss, Sx 100 s) (k : ∀ s ∈ tt, Sx 100 s) : pEqB A (.lst (ss.map PV.str)) (.lst (tt.map PV.str)) = some (decide (ss = tt)) := by
  have e : ∀ ss : List Str, toD (.lst (ss.map PV.str)) = some (.list (ss.map PyData.str)) := fun ss => by
    show (toDL _).map _ = _
    rw [toDL_str]; rfl
  show (match toD (.lst (ss.map PV.str)), toD (.lst (tt.map PV.str)) with | some d, some e => if SeqAt.shaped d = true ∧ SeqAt.shaped e = true then some (PyData.eqv d e) else none | _, _ => none) = _
  rw [e, e]
  exact (if_pos ⟨shapedL h, shapedL k⟩).trans (congrArg some (eqv_str ss tt))
theorem p_eqST {A : Ar} {ss tt : List Str} (h : ∀ s ∈ ss, Sx 100 s) (k : ∀ s ∈ tt, Sx 100 s) : pEqB A (.tup (ss.map PV.str)) (.tup (tt.map PV.str)) = some (decide (ss = tt)) := by
  have e : ∀ ss : List Str, toD (.tup (ss.map PV.str)) = some (.tuple (ss.map PyData.str)) := fun ss => by
    show (toDL _).map _ = _
    rw [toDL_str]; rfl
  show (match toD (.tup (ss.map PV.str)), toD (.tup (tt.map PV.str)) with | some d, some e => if SeqAt.shaped d = true ∧ SeqAt.shaped e = true then some (PyData.eqv d e) else none | _, _ => none) = _
  rw [e, e]
  exact (if_pos ⟨shapedT h, shapedT k⟩).trans (congrArg some (eqv_str ss tt))
theorem any_str {t : Str} : ∀ (ss : List Str), (ss.any fun z => z == t) = decide (t ∈ ss) := fun ss => by
  by_cases h : t ∈ ss
  · rw [decide_eq_true h]; exact List.any_eq_true.mpr ⟨t, h, by simp⟩
  · rw [decide_eq_false h]; exact List.any_eq_false.mpr fun x hx z => h (by rw [← eq_of_beq z]; exact hx)
theorem p_inSL {A : Ar} {t : Str} {ss : List Str} (ht : Sx 100 t) (h : ∀ s ∈ ss, Sx 100 s) : pInB A (.str t) (.lst (ss.map PV.str)) = some (decide (t ∈ ss)) := by
  show (match toD (.str t), toDL (ss.map PV.str) with | some d, some ds => if SeqAt.shaped d = true ∧ SeqAt.shaped (.list ds) = true then some (ds.any fun z => PyData.eqv z d) else none | _, _ => none) = _
  rw [toDL_str]
  have h0 : SeqAt.shaped (.str t) = true := shp (n := 0) (sx_ok ht) (Nat.zero_le _) (by decide)
  refine (if_pos ⟨h0, shapedL h⟩).trans ?_
  rw [List.any_map]
  show some (ss.any fun z => z == t) = _
  rw [any_str]
theorem scs_map : ∀ (ss : List Str), scs (ss.map PV.str) = some (ss.map V.str)
  | [] => rfl
  | s :: ss => by
    show (match sc (.str s), scs (ss.map PV.str) with | some k, some ks => some (k :: ks) | _, _ => none) = _
    rw [scs_map ss]; rfl
theorem flat_map (ss : List Str) : (ss.map V.str).all flatV = true := by
  rw [List.all_map]; exact List.all_eq_true.mpr fun _ _ => rfl
theorem p_inST {A : Ar} {t : Str} {ss : List Str} : pInB A (.str t) (.tup (ss.map PV.str)) = some (decide (t ∈ ss)) := by
  show (match sc (.str t), scs (ss.map PV.str) with | some u, some us => if flatV u = true ∧ us.all flatV = true then some (inV u us) else none | _, _ => none) = _
  rw [scs_map]
  refine (if_pos ⟨rfl, flat_map ss⟩).trans ?_
  unfold inV
  rw [List.any_map]
  show some (ss.any fun z => z == t) = _
  rw [any_str]
theorem cut_to {xs : List PV} {k : Nat} : cutP xs none (some (k : Int)) = xs.take k := by
  unfold cutP
  rw [HT.sIx_none, HT.sIx_nat, List.drop_zero, Nat.sub_zero]
  by_cases c : k ≤ xs.length
  · rw [Nat.min_eq_left c]
  · rw [Nat.min_eq_right (by omega), List.take_of_length_le (Nat.le_refl _), List.take_of_length_le (by omega)]
theorem numb_at : ∀ (i : Nat) (xs : List PV) (j : Nat) (x : PV), (numbered i xs)[j]? = some x → ∃ y, xs[j]? = some y ∧ x = .tup [.int ((i + j : Nat) : Int), y]
  | _, [], _, _, h => by simp [numbered] at h
  | i, y :: ys, 0, x, h => by
    simp only [numbered, List.getElem?_cons_zero] at h
    cases h; exact ⟨y, rfl, rfl⟩
  | i, y :: ys, j + 1, x, h => by
    simp only [numbered, List.getElem?_cons_succ] at h
    obtain ⟨z, h1, h2⟩ := numb_at (i + 1) ys j x h
    exact ⟨z, by simpa using h1, by rw [h2]; congr 3; omega⟩
/-! all names: texts -/
theorem names_of : ∀ {ws : List PV}, (∀ w ∈ ws, isN w = true) → ∃ ss : List Str, ws = ss.map PV.str
  | [], _ => ⟨[], rfl⟩
  | w :: ws, h => by
    obtain ⟨ss, rfl⟩ := names_of fun x hx => h x (List.mem_cons_of_mem _ hx)
    cases w with
    | str z => exact ⟨z :: ss, rfl⟩
    | _ => exact nomatch (show false = true from h _ List.mem_cons_self)
/-- the names are looked at, one after another -/
theorem check_wp {γ : Type} {f : PV → Unit → M (Fl Unit Unit)} {ws : List PV} {A : Ar} {QF : Fl Unit γ → Ar → Prop} {E : EQ} (h : ∀ w ∈ ws, WdOk w)
    (hf : ∀ w, WdOk w → wp (f w ()) A (fun r C => r = .nx () ∧ C = A ∧ isN w = true) (fun c fs C => isN w = false ∧ c = "BadName" ∧ fs = some [(("name" : Str), w)] ∧ C = A))
    (hg : (∀ w ∈ ws, isN w = true) → QF (.nx ()) A) (hb : ∀ w, ws.find? (fun w => !isN w) = some w → E "BadName" (some [(("name" : Str), w)]) A) : wp (uFor f ws ()) A QF E := by
  refine wp_for (fun i _ B => B = A ∧ ∀ w ∈ ws.take i, isN w = true) ⟨rfl, by simp⟩ (fun i x b B hx ⟨hB, hi⟩ => ?_) fun b B ⟨hB, hi⟩ => ?_
  · subst hB
    refine wp_mono (hf x (h x (List.mem_of_getElem? hx))) (fun r C ⟨e1, e2, e3⟩ => ?_) fun c fs C ⟨e1, e2, e3, e4⟩ => ?_
    · subst e1 e2
      refine ⟨rfl, fun w hw => ?_⟩
      rw [take_snoc hx] at hw
      rcases List.mem_append.mp hw with z | z
      · exact hi w z
      · rw [List.mem_singleton.mp z]; exact e3
    · subst e2 e3 e4
      refine hb x ?_
      have hlt := lt_of_get hx
      have : ws = ws.take i ++ x :: ws.drop (i + 1) := by
        have hd : ws.drop i = x :: ws.drop (i + 1) := by
          rw [List.drop_eq_getElem_cons hlt]
          rw [List.getElem?_eq_getElem hlt] at hx
          rw [Option.some.inj hx]
        rw [← hd, List.take_append_drop]
      rw [this, List.find?_append, List.find?_eq_none.mpr (fun w hw => by rw [hi w hw]; decide)]
      simp [e1]
  · subst hB
    rw [List.take_length] at hi
    exact hg hi
theorem take_nodup {ss : List Str} {i : Nat} {t : Str} (h : ss.Nodup) (e : ss[i]? = some t) : t ∉ ss.take i := fun hm => by
  obtain ⟨j, hj, ej⟩ := List.mem_iff_getElem.mp hm
  rw [List.length_take] at hj
  rw [List.getElem_take] at ej
  obtain ⟨hi, ei⟩ := List.getElem?_eq_some_iff.mp e
  have := (List.getElem_inj (h₀ := by omega) (h₁ := hi) h).mp (ej.trans ei.symm)
  omega
/-- one turn of the check of names -/
theorem nameBody {w : PV} {A : Ar} (hw : WdOk w) : wp (α := Fl Unit Unit) ((uNot (uTru (uCall (uCons (pure w) (pure [])) (fn1 u_is_name)))) >>= fun b3 => if b3 = true then ((pure w) >>= fun v4 => exM "BadName" (some [(("name" : Str), v4)])) else (pure (.nx ()))) A
    (fun r C => r = .nx () ∧ C = A ∧ isN w = true) (fun c fs C => isN w = false ∧ c = "BadName" ∧ fs = some [(("name" : Str), w)] ∧ C = A) := by
  simp only [wp_pure, wp_bind, wp_ask, wp_opt, wp_bad, wp_ite, wp_noX, wp_u1, wp_u2, wp_cons, wp_call, wp_lst, wp_tup, wp_star, wp_tru, wp_not, wp_and, wp_or, wp_andV, wp_orV, wp_notV, wp_asB, wp_part, wp_sl, wp_items, wp_enum, wp_signs, wp_range1, wp_seq, wp_exits, wp_def, wp_exM, wp_lc, wp_elt, fn1_app, fn2_app, fn3_app, if_true, Bool.false_eq_true, if_false]
  refine is_name_wp hw ⟨_, rfl, ?_⟩
  cases h : isN w with
  | true => rw [if_neg (by decide)]; simp
  | false => rw [if_pos (by decide)]; simp
end K18
end Lk
set_option Elab.async false
set_option linter.all false
set_option maxRecDepth 100000
namespace Lk
open PySem L2
namespace K18
/-! ### a pool anywhere -/
/-- the store is A but for the pool at h -/
def Pl (A : Ar) (h n : Nat) (B : Ar) : Prop := ∃ c, PoolC n c ∧ h < A.length ∧ B = A.set h c
theorem set_self {α : Type} {A : List α} {h : Nat} {c : α} (e : A[h]? = some c) : A.set h c = A := by
  apply List.ext_getElem?
  intro i
  rw [List.getElem?_set]
  by_cases q : h = i
  · subst q
    rw [if_pos rfl, if_pos (lt_of_get e), e]
  · rw [if_neg q]
theorem Pl.of {A : Ar} {h n : Nat} {c : Option (Bool × Cell)} (e : A[h]? = some c) (hc : PoolC n c) : Pl A h n A := ⟨c, hc, lt_of_get e, (set_self e).symm⟩
theorem Pl.len {A B : Ar} {h n : Nat} (p : Pl A h n B) : B.length = A.length := by obtain ⟨c, _, _, rfl⟩ := p; simp
theorem Pl.lt {A B : Ar} {h n : Nat} (p : Pl A h n B) : h < A.length := by obtain ⟨c, _, q, rfl⟩ := p; exact q
theorem Pl.get {A B : Ar} {h n i : Nat} (p : Pl A h n B) (hi : i ≠ h) : B[i]? = A[i]? := by obtain ⟨c, _, _, rfl⟩ := p; exact List.getElem?_set_ne (Ne.symm hi)
theorem Pl.at_ {A B : Ar} {h n : Nat} (p : Pl A h n B) : ∃ c, PoolC n c ∧ B[h]? = some c := by obtain ⟨c, hc, q, rfl⟩ := p; exact ⟨c, hc, by simp [q]⟩
theorem Pl.mono {A B : Ar} {h n m : Nat} (p : Pl A h n B) (k : n ≤ m) : Pl A h m B := by obtain ⟨c, hc, q, rfl⟩ := p; exact ⟨c, hc.mono k, q, rfl⟩
theorem Pl.trans {A B C : Ar} {h n m : Nat} (p : Pl A h n B) (q : Pl B h m C) : Pl A h m C := by
  obtain ⟨c, _, l, rfl⟩ := p; obtain ⟨d, hd, _, rfl⟩ := q
  exact ⟨d, hd, l, by simp⟩
theorem Pl.app {A B S : Ar} {h n : Nat} (p : Pl A h n B) : Pl (A ++ S) h n (B ++ S) := by
  obtain ⟨c, hc, l, rfl⟩ := p
  exact ⟨c, hc, by simp; omega, by rw [List.set_append_left _ _ l]⟩
theorem Pl.cut {A B S : Ar} {h n : Nat} (p : Pl (A ++ S) h n B) (l : h < A.length) : Pl A h n (B.take A.length) := by
  obtain ⟨c, hc, _, rfl⟩ := p
  exact ⟨c, hc, l, by rw [List.set_append_left _ _ l, List.take_left' (by simp)]⟩
theorem take_at {n h : Nat} {c : Option (Bool × Cell)} {k : Int} {A : Ar} (e : A[h]? = some c) (hc : PoolC n c) (hn : n ≤ 2 ^ 40) (h0 : 0 < k) (h1 : k < 2 ^ 30) :
    ∃ (r : Int) (c' : Option (Bool × Cell)), 0 ≤ r ∧ r < k ∧ PoolC (n + 1) c' ∧ u__law_take (.m h) (.int k) A = some (.ok (.int r), A.set h c') := by
  have hl := lt_of_get e
  obtain ⟨a, b, d, rfl, ha, hb, hb', hd, hd'⟩ := hc
  have k2 : k < 1073741824 := h1
  by_cases hp : 0 < a
  · refine ⟨a % k, some (false, .lst [.int (a / k), .int b, .int d]), Int.emod_nonneg _ (by omega), Int.emod_lt_of_pos _ h0, ⟨a / k, b, d, rfl, Int.ediv_nonneg ha (by omega), hb, hb', hd, by omega⟩, ?_⟩
    simp [u__law_take, b__law_take, uDef, u1, u2, ask, M.bind_app, M.pure_app, pIx, dr, drW, atI, ixN, pGt, asB, exits, uSeq, pMod, pInt, pDiv, setM, hp, h0, k2, e]
  · have e0 : a = 0 := by omega
    subst e0
    refine ⟨((b + 7919 * (d + 1) + 104729) ^ 5 % 2147483647 + (d + 1)) * 40692 % 2147483629 % k, some (false, .lst [.int 0, .int b, .int (d + 1)]), Int.emod_nonneg _ (by omega), Int.emod_lt_of_pos _ h0, ⟨0, b, d + 1, rfl, by omega, hb, hb', by omega, by omega⟩, ?_⟩
    have g2 : (b + 7919 * (d + 1) + 104729).natAbs < 2 ^ 64 := by omega
    have g2' : (b + 7919 * (d + 1) + 104729).natAbs < 18446744073709551616 := g2
    have e2 : ∀ x : Option (Bool × Cell), (A.set h x)[h]? = some x := fun x => by simp [hl]
    simp [u__law_take, b__law_take, uDef, u1, u2, ask, M.bind_app, M.pure_app, pIx, dr, drW, atI, ixN, pGt, asB, exits, uSeq, pMod, pInt, pDiv, setM, pAdd, pMul, pPow, g2', h0, e, e2]
theorem take_pl {A B : Ar} {h n : Nat} {k : Int} {Q : PV → Ar → Prop} {E : EQ} (p : Pl A h n B) (hn : n + 1 ≤ 1000000) (h0 : 0 < k) (h1 : k < 2 ^ 30)
    (q : ∀ (r : Int) B', 0 ≤ r → r < k → Pl A h (n + 1) B' → Q (.int r) B') : wp (u__law_take (.m h) (.int k)) B Q E := by
  obtain ⟨c, hc, e⟩ := p.at_
  obtain ⟨r, c', a1, a2, a3, a4⟩ := take_at e hc (pow40 (by omega)) h0 h1
  exact wp_of a4 (q r _ a1 a2 (p.trans ⟨c', a3, by rw [p.len]; exact p.lt, rfl⟩))
theorem clL_str (n : Nat) : ∀ (ss : List Str), clL n (ss.map PV.str) = true
  | [] => by unfold clL; rfl
  | s :: ss => by show clL n (PV.str s :: ss.map PV.str) = true; unfold clL; rw [clL_str n ss]; unfold clB; rfl
theorem pool_cl {n m : Nat} {l : Bool} {c : Cell} (h : PoolC n (some (l, c))) : clC m c = true := by
  obtain ⟨a, b, d, e, _⟩ := h
  cases e
  unfold clC clL clB clL clB clL clB clL; rfl
/-- what a def with its own list leaves behind: the pool alone is changed -/
theorem Pl.okS {A B : Ar} {h n : Nat} {ws : List PV} {o : Out PV} (p : Pl A h n (B.take A.length)) (hl : A.length ≤ B.length) (ho : clO A.length o = true) (hw : (.m h) ∈ ws) : okS ws A B o := by
  refine ⟨hl, ho, fun i hi => ?_⟩
  have hb : B[i]? = (B.take A.length)[i]? := by rw [List.getElem?_take, if_pos hi]
  by_cases e : i = h
  · subst e
    refine .inr ⟨hw, fun l c q => ?_⟩
    obtain ⟨c', hc, e2⟩ := p.at_
    rw [hb, e2] at q
    cases q
    exact pool_cl hc
  · rw [hb, p.get e]; exact .inl rfl
/-! ### names -/
theorem let_lt {c : Nat} (h : isLet c = true) : c < 1114112 := by
  unfold isLet at h; simp at h; omega
theorem al_lt {c : Nat} (h : isAl c = true) : c < 1114112 := by
  unfold isAl isLet at h; simp at h; omega
theorem nm_sx {s : Str} (h : Nm s) : Sx 8 s := by
  obtain ⟨c, r, e, h1, h2, h3⟩ := h
  refine ⟨by rw [len_ch, e, List.length_cons]; omega, fun x hx => ?_⟩
  rw [e] at hx
  rcases List.mem_cons.mp hx with z | z
  · rw [z]; exact let_lt h1
  · exact al_lt (h2 x z)
theorem let_mem {c : Nat} (h : isLet c = true) : c ∈ lets := by
  have : ∀ c, c < 128 → isLet c = true → c ∈ lets := by decide +kernel
  exact this c (by unfold isLet at h; simp at h; omega) h
theorem al_mem {c : Nat} (h : isAl c = true) : c ∈ als := by
  have : ∀ c, c < 128 → isAl c = true → c ∈ als := by decide +kernel
  exact this c (by unfold isAl isLet at h; simp at h; omega) h
theorem nm_nmB {s : Str} (h : Nm s) : nmB s = true := by
  obtain ⟨c, r, e, h1, h2, h3⟩ := h
  unfold K18.nmB
  rw [e]
  simp only [Bool.and_eq_true, decide_eq_true_eq, List.all_eq_true]
  refine ⟨⟨h3, let_mem h1⟩, fun x hx => ?_⟩
  rcases List.mem_cons.mp hx with z | z
  · rw [z]; exact al_mem (al_of_let h1)
  · exact al_mem (h2 x z)
theorem wd_sx {w : Str} {i : Nat} (h : Wd w i) : Sx (1 + i) w := by
  obtain ⟨c, r, e, h1, h2, h3⟩ := h
  refine ⟨by rw [len_ch, e, List.length_cons]; omega, fun x hx => ?_⟩
  rw [e] at hx
  rcases List.mem_cons.mp hx with z | z
  · rw [z]; exact let_lt h1
  · exact al_lt (h2 x z)
theorem al_ix {A : Ar} {r : Int} (h0 : 0 ≤ r) (h1 : r < 36) : ∃ c, pIx A (.str (("abcdefghijklmnopqrstuvwxyz" : Str) ++ ("0123456789" : Str))) (.int r) = some (.str ⟨#[c]⟩) ∧ isAl c = true ∧ Sx 1 ⟨#[c]⟩ := by
  obtain ⟨c, e1, e2, e3⟩ := p_ixS (A := A) (i := r) (sx_lets.app sx_digs) (by decide) h0 (by rw [len_als]; exact h1)
  exact ⟨c, e1, al_at e3, e2⟩
theorem let_ix {A : Ar} {r : Int} (h0 : 0 ≤ r) (h1 : r < 26) : ∃ c, pIx A (.str ("abcdefghijklmnopqrstuvwxyz" : Str)) (.int r) = some (.str ⟨#[c]⟩) ∧ isLet c = true ∧ Sx 1 ⟨#[c]⟩ ∧ (ch ("abcdefghijklmnopqrstuvwxyz" : Str))[r.toNat]? = some c := by
  obtain ⟨c, e1, e2, e3⟩ := p_ixS (A := A) (i := r) sx_lets (by decide) h0 (by rw [len_lets]; exact h1)
  exact ⟨c, e1, let_at e3, e2, e3⟩
theorem names_wp {A B : Ar} {h n : Nat} {many : Int} {Q : PV → Ar → Prop} {E : EQ} (p : Pl A h n B) (hn : n + 20 ≤ 1000000) (m0 : 0 ≤ many) (m8 : many ≤ 8)
    (q : ∀ ss B', Nms ss → (ss.length : Int) = many → Pl A h (n + 20) B' → Q (.lst (ss.map PV.str)) B') : wp (u__law_names (.m h) (.int many)) B Q E := by
  unfold u__law_names b__law_names
  refine wp_inner ?_
  have hlB : h < B.length := by rw [p.len]; exact p.lt
  have fin : ∀ (ss : List Str) (C : Ar) (S : Ar), Nms ss → (ss.length : Int) = many → C.length = (B ++ S).length → Pl (A ++ S) h (n + 20) C → okS [.m h, .int many] B C (.ok (.lst (ss.map PV.str))) ∧ Q (.lst (ss.map PV.str)) (C.take B.length) := fun ss C S hs hm hC hp => by
    have hp' : Pl A h (n + 20) (C.take B.length) := by rw [p.len]; exact hp.cut p.lt
    have hpB : Pl B h (n + 20) (C.take B.length) := by
      obtain ⟨c, hc, l, e⟩ := hp'
      obtain ⟨c0, _, _, e0⟩ := p
      exact ⟨c, hc, hlB, by rw [e, e0]; simp⟩
    refine ⟨hpB.okS (by rw [hC]; simp) ?_ (by simp), q ss _ hs hm hp'⟩
    show clB B.length (.lst (ss.map PV.str)) = true
    unfold clB; exact clL_str _ _
  simp only [wp_pure, wp_bind, wp_ask, wp_opt, wp_bad, wp_ite, wp_noX, wp_u1, wp_u2, wp_cons, wp_call, wp_lst, wp_tup, wp_star, wp_tru, wp_not, wp_and, wp_or, wp_andV, wp_orV, wp_notV, wp_asB, wp_part, wp_sl, wp_items, wp_enum, wp_signs, wp_range1, wp_seq, wp_exits, wp_def, wp_exM, wp_lc, wp_elt, fn1_app, fn2_app, fn3_app, if_true, Bool.false_eq_true, if_false]
  refine ⟨_, p_addS sx_lets sx_digs (by decide), take_pl p (by omega) (by decide) (by decide) fun r B1 h1 h2 p1 => ?_⟩
  obtain ⟨a, ea, la, sa, _⟩ := let_ix (A := B1) h1 h2
  refine ⟨_, ea, 7, rfl, ⟨by decide, by decide⟩, ?_⟩
  refine wp_for (fun i (b : PV) C => ∃ z, b = .str z ∧ Wd z i ∧ i ≤ 7 ∧ Pl A h (n + 1 + i) C) ⟨_, rfl, Wd.one la, Nat.zero_le _, p1⟩ (fun i x b C hx hI => ?_) fun b C hI => ?_
  · obtain ⟨z, rfl, wz, i7, pC⟩ := hI
    obtain ⟨_, hi⟩ := range_at hx
    have hi : i < 7 := hi
    simp only [wp_pure, wp_bind, wp_ask, wp_opt, wp_bad, wp_ite, wp_noX, wp_u1, wp_u2, wp_cons, wp_call, wp_lst, wp_tup, wp_star, wp_tru, wp_not, wp_and, wp_or, wp_andV, wp_orV, wp_notV, wp_asB, wp_part, wp_sl, wp_items, wp_enum, wp_signs, wp_range1, wp_seq, wp_exits, wp_def, wp_exM, wp_lc, wp_elt, fn1_app, fn2_app, fn3_app, if_true, Bool.false_eq_true, if_false]
    refine ⟨_, rfl, take_pl pC (by omega) (by decide) (by decide) fun r3 C' h5 h6 pC' => ?_⟩
    obtain ⟨c, ec, lc, sc⟩ := al_ix (A := C') h5 h6
    exact ⟨_, ec, _, p_addS (wd_sx wz) sc (by omega), _, rfl, wz.more lc, by omega, pC'.mono (by omega)⟩
  · obtain ⟨w, rfl, wz, _, pC⟩ := hI
    rw [range_len] at wz pC
    have wz : Wd w 7 := wz
    have pC : Pl A h (n + 8) C := pC
    have sw : Sx 8 w := wd_sx wz
    refine take_pl pC (by omega) (by decide) (by decide) fun r3 C1 h3 h4 pC1 => ⟨_, p_eqI, _, rfl, eq_ite (fun e0 => ?_) fun e0 => ?_⟩
    · refine ⟨many, rfl, ⟨by omega, by omega⟩, slen (by rw [range_len]; omega), ?_⟩
      refine wp_comp (fun i acc D => D = C1 ∧ ∃ ss : List Str, acc = ss.map PV.str ∧ ss.length = i ∧ ∀ (j : Nat) s, ss[j]? = some s → ch s = (ch w).take (j + 1)) ⟨rfl, [], rfl, rfl, fun j s z => by simp at z⟩ (fun i x acc D hx ⟨hD, ss, hacc, hl, hh⟩ => ?_) fun ys D ⟨hD, ss, hacc, hl, hh⟩ => ?_
      · subst hD hacc
        obtain ⟨rfl, hi⟩ := range_at hx
        simp only [wp_pure, wp_bind, wp_ask, wp_opt, wp_bad, wp_ite, wp_noX, wp_u1, wp_u2, wp_cons, wp_call, wp_lst, wp_tup, wp_star, wp_tru, wp_not, wp_and, wp_or, wp_andV, wp_orV, wp_notV, wp_asB, wp_part, wp_sl, wp_items, wp_enum, wp_signs, wp_range1, wp_seq, wp_exits, wp_def, wp_exM, wp_lc, wp_elt, fn1_app, fn2_app, fn3_app, if_true, Bool.false_eq_true, if_false]
        refine ⟨_, rfl, _, p_addI, _, rfl, _, p_slS sw (by decide), trivial, ss ++ [cutS w none (some (0 + (i : Nat) + 1))], by simp, by simp [hl], all_snoc hh hl ?_⟩
        rw [ch_to w (by omega)]
        congr 1
        omega
      · subst hD hacc
        rw [range_len] at hl
        have hs : Nms ss := nms_takes wz (by omega) hh
        have := fin ss D [] hs (by omega) (by rw [List.append_nil, pC1.len, p.len]) (by rw [List.append_nil]; exact pC1.mono (by omega))
        exact this
    · refine take_pl pC1 (by omega) (by decide) (by decide) fun k C2 k0 k8 pC2 => ⟨k, rfl, _, p_slS sw (by decide), _, p_lenS (sw.to k0) (by decide), _, p_addI, ?_⟩
      have hkl : (cutS w none (some k)).length = k.toNat := by
        rw [len_to w k0, wz.len]; omega
      rw [hkl]
      refine take_pl pC2 (by omega) (by omega) (by omega) fun pl C3 pl0 pl1 pC3 => ?_
      simp only [wp_ifE, wp_bind, wp_u2, wp_pure, wp_asB]
      refine ⟨_, p_eqI, _, rfl, ?_⟩
      refine eq_ite (fun e9 => ?_) fun e9 => ?_
      have T := told_lets pl
      have st : Sx 36 ("abcdefghijklmnopqrstuvwxyz" : Str) := sx_lets.mono (by decide)
      generalize ("abcdefghijklmnopqrstuvwxyz" : Str) = t at T st ⊢
      rotate_left
      have T := told_als e9
      have st : Sx 36 (("abcdefghijklmnopqrstuvwxyz" : Str) ++ ("0123456789" : Str)) := sx_lets.app sx_digs
      generalize (("abcdefghijklmnopqrstuvwxyz" : Str) ++ ("0123456789" : Str)) = t at T st ⊢
      all_goals
        refine take_pl pC3 (by omega) (by decide) (by decide) fun s0 C4 s1 s2 pC4 => ?_
        simp only [wp_newL, wp_pure]
        refine ⟨slen (by simp), many, rfl, ⟨by omega, by omega⟩, ?_⟩
        have htl : t.length = 26 ∨ t.length = 36 := T.len
        have skl : Sx 8 (cutS w none (some k)) := sw.to k0
        refine wp_for (fun i _ D => ∃ ss : List Str, D = C4 ++ [some (false, .lst (ss.map PV.str))] ∧ ss.length = i ∧ i ≤ 8 ∧ ∀ (j : Nat) s, ss[j]? = some s → ∃ c, (ch t)[(s0.toNat + 7 * j) % (ch t).length]? = some c ∧ ch s = (ch (cutS w none (some k))).take pl.toNat ++ c :: (ch (cutS w none (some k))).drop pl.toNat)
          ⟨[], rfl, rfl, Nat.zero_le _, fun j s z => by simp at z⟩ (fun i x b D hx ⟨ss, hD, hl, h8, hh⟩ => ?_) fun b D ⟨ss, hD, hl, h8, hh⟩ => ?_
        · subst hD
          obtain ⟨rfl, hi⟩ := range_at hx
          have m0 : 0 ≤ (s0 + 7 * (0 + (i : Nat))) % (t.length : Int) := Int.emod_nonneg _ (by omega)
          have m1 : (s0 + 7 * (0 + (i : Nat))) % (t.length : Int) < t.length := Int.emod_lt_of_pos _ (by omega)
          obtain ⟨c, ec, sc, gc⟩ := p_ixS (A := C4 ++ [some (false, .lst (ss.map PV.str))]) (i := (s0 + 7 * (0 + (i : Nat))) % (t.length : Int)) st (by decide) m0 m1
          have mulI : ∀ A : Ar, pMul A (.int 7) (.int (0 + (i : Nat))) = some (.int (7 * (0 + (i : Nat)))) := fun A => by
            simp only [pMul, drW]
            rw [if_pos (.inl (.inl (by omega)))]
          simp only [wp_bind, wp_opt, wp_u2, wp_pure, wp_u1, wp_append, wp_sl, wp_part]
          refine ⟨_, rfl, _, mulI _, _, p_addI, _, p_lenS st (by decide), _, p_mod (by omega), _, ec, _, lst_end, pl, rfl, _, p_slS skl (by decide), _, p_addS (skl.to pl0) sc (by decide), pl, rfl, _, p_slS skl (by decide), _, p_addS ((skl.to pl0).app sc) (skl.from pl0) (by decide), ?_⟩
          refine app_end (by simp; omega) ⟨ss ++ [cutS (cutS w none (some k)) none (some pl) ++ ⟨#[c]⟩ ++ cutS (cutS w none (some k)) (some pl) none], by simp, by simp [hl], by omega, all_snoc hh hl ?_⟩
          refine ⟨c, ?_, ?_⟩
          · rw [len_ch] at gc
            rw [idx_mod s1 (by rw [← len_ch]; omega)] at gc
            exact gc
          · rw [ch_append, ch_append, ch_one, ch_to _ pl0, ch_from _ pl0, List.append_assoc]; rfl
        · subst hD
          rw [range_len] at hl
          have hs : Nms ss := T.names wz k0 k8 pl0 (by omega) s1 (by omega) hh
          refine frz_end ?_
          have := fin ss (C4 ++ [none]) [none] hs (by omega) (by simp [pC4.len, p.len]) (Pl.app (pC4.mono (by omega)))
          exact this
end K18
end Lk
set_option Elab.async false
set_option linter.all false
set_option maxRecDepth 100000
namespace Lk
open PySem L2
namespace K18
/-! ### a name that is not there -/
theorem sub_len {α : Type} [BEq α] [LawfulBEq α] : ∀ {l m : List α}, l.Nodup → (∀ x ∈ l, x ∈ m) → l.length ≤ m.length
  | [], _, _, _ => Nat.zero_le _
  | x :: l, m, hn, h => by
    obtain ⟨h1, h2⟩ := List.nodup_cons.mp hn
    have hx := h x List.mem_cons_self
    have := sub_len (m := m.erase x) h2 fun y hy => (List.mem_erase_of_ne (fun e => h1 (by rw [← e]; exact hy))).mpr (h y (List.mem_cons_of_mem _ hy))
    rw [List.length_erase_of_mem hx] at this
    have := List.length_pos_of_mem hx
    rw [List.length_cons]; omega
theorem p_neSL {A : Ar} {ss tt : List Str} (h : ∀ s ∈ ss, Sx 100 s) (k : ∀ s ∈ tt, Sx 100 s) : pNe A (.lst (ss.map PV.str)) (.lst (tt.map PV.str)) = some (.bl (!decide (ss = tt))) := by unfold pNe; rw [p_eqSL h k]; rfl
theorem ix_str {A : Ar} {ss : List Str} {i : Int} (h0 : 0 ≤ i) (h1 : i < ss.length) : ∃ s, pIx A (.lst (ss.map PV.str)) (.int i) = some (.str s) ∧ s ∈ ss ∧ ss[i.toNat]? = some s := by
  have hl : i.toNat < ss.length := by omega
  refine ⟨ss[i.toNat], ?_, List.getElem_mem hl, List.getElem?_eq_getElem hl⟩
  show atI (ss.map PV.str) i = _
  unfold atI ixN
  rw [if_pos h0, if_pos (by rw [List.length_map]; exact h1)]
  simp [List.getElem?_eq_getElem hl]
theorem bnot_ite {p : Prop} [Decidable p] {P Q : Prop} (h1 : ¬ p → P) (h2 : p → Q) : if (!decide p) = true then P else Q := by
  by_cases h : p
  · rw [if_neg (by simp [h])]; exact h2 h
  · rw [if_pos (by simp [h])]; exact h1 h
theorem stranger_wp {A B : Ar} {h n : Nat} {ss : List Str} {Q : PV → Ar → Prop} {E : EQ} (p : Pl A h n B) (hn : n + 10 ≤ 1000000) (hs : ∀ s ∈ ss, Nm s) (hl : ss.length < 26)
    (q : ∀ z B', Nm z → z ∉ ss → Pl A h (n + 10) B' → Q (.str z) B') : wp (u__law_stranger (.m h) (.lst (ss.map PV.str))) B Q E := by
  unfold u__law_stranger b__law_stranger
  simp only [wp_pure, wp_bind, wp_ask, wp_opt, wp_bad, wp_ite, wp_noX, wp_u1, wp_u2, wp_cons, wp_call, wp_lst, wp_tup, wp_star, wp_tru, wp_not, wp_and, wp_or, wp_andV, wp_orV, wp_notV, wp_asB, wp_part, wp_sl, wp_items, wp_enum, wp_signs, wp_range1, wp_seq, wp_exits, wp_def, wp_exM, wp_lc, wp_elt, fn1_app, fn2_app, fn3_app, if_true, Bool.false_eq_true, if_false]
  have sx : ∀ s ∈ ss, Sx 100 s := fun s z => (nm_sx (hs s z)).mono (by decide)
  refine ⟨slen (by simp), _, p_neSL (tt := []) sx (fun s z => absurd z List.not_mem_nil), _, rfl, ?_⟩
  have nq : Nm ("q" : Str) := ⟨113, [], by decide +kernel, by decide +kernel, fun x z => absurd z List.not_mem_nil, by decide⟩
  have rest : ∀ (w : Str) (C : Ar) (QF : Fl Unit Empty → Ar → Prop), (∀ z B', Nm z → z ∉ ss → Pl A h (n + 10) B' → QF (.rt (.str z)) B') → Nm w → Pl A h (n + 1) C → wp (u__law_take (.m h) (.int 26)) C
      (fun v B => wp (uFor (fun v_1 (j7 : Unit) => (opt (some v_1) >>= fun x8 => (u2 pAdd (u2 pIx (pure (PV.str ("abcdefghijklmnopqrstuvwxyz" : Str))) (u2 pMod (u2 pAdd (pure v) (pure x8)) (pure (PV.int 26)))) (uSl (pure (PV.str w)) (uPart (pure (PV.int 1))) (pure none))) >>= fun v9 =>
        (u2 pNotIn (pure v9) (pure (PV.lst (ss.map PV.str))) >>= asB) >>= fun b10 => if b10 = true then (pure v9) >>= fun v11 => pure (Fl.rt v11) else pure (Fl.nx ()))) (rangeOf 0 (26 : Int).toNat) ()) B QF E) E := fun w C QF q nw pC => by
    refine take_pl pC (by omega) (by decide) (by decide) fun st C1 s0 s1 pC1 => ?_
    obtain ⟨c0, r0, ew, hc0, hr0, hr7⟩ := nw
    have nw : Nm w := ⟨c0, r0, ew, hc0, hr0, hr7⟩
    have sw := nm_sx nw
    have cand : ∀ i : Nat, i < 26 → ∃ c, isLet c = true ∧ lets[(st.toNat + i) % 26]? = some c ∧ (∀ A : Ar, pIx A (.str ("abcdefghijklmnopqrstuvwxyz" : Str)) (.int ((st + (0 + (i : Nat))) % 26)) = some (.str ⟨#[c]⟩)) ∧ Sx 1 ⟨#[c]⟩ := fun i hi => by
      have m0 : 0 ≤ (st + (0 + (i : Nat))) % 26 := Int.emod_nonneg _ (by decide)
      have m1 : (st + (0 + (i : Nat))) % 26 < 26 := Int.emod_lt_of_pos _ (by decide)
      obtain ⟨c, e1, e2, e3, e4⟩ := let_ix (A := []) m0 m1
      refine ⟨c, e2, ?_, fun A => by obtain ⟨c', f1, f2, f3, f4⟩ := let_ix (A := A) m0 m1; rw [e4] at f4; cases f4; exact f1, e3⟩
      rw [ch_lets] at e4
      have : ((st + (0 + (i : Nat))) % 26).toNat = (st.toNat + i) % 26 := by omega
      rw [this] at e4; exact e4
    have chd : ∀ c, ch (⟨#[c]⟩ ++ cutS w (some 1) none) = c :: r0 := fun c => by
      rw [ch_append, ch_one, ch_from w (by decide), ew]; rfl
    refine wp_for (fun i _ D => D = C1 ∧ i ≤ 26 ∧ ∀ j, j < i → ∃ c s, lets[(st.toNat + j) % 26]? = some c ∧ ch s = c :: r0 ∧ s ∈ ss) ⟨rfl, Nat.zero_le _, fun j z => absurd z (Nat.not_lt_zero _)⟩ (fun i x b D hx ⟨hD, hi, hj⟩ => ?_) fun b D ⟨hD, hi, hj⟩ => ?_
    · subst hD
      obtain ⟨rfl, hi⟩ := range_at hx
      have hi : i < 26 := hi
      obtain ⟨c, lc, gc, ec, sc⟩ := cand i hi
      have sz : Sx 9 (⟨#[c]⟩ ++ cutS w (some 1) none) := (sc.app (sw.from (k := 1) (by decide))).mono (by decide)
      have nz : Nm (⟨#[c]⟩ ++ cutS w (some 1) none) := ⟨c, r0, chd c, lc, hr0, hr7⟩
      simp only [wp_pure, wp_bind, wp_ask, wp_opt, wp_bad, wp_ite, wp_noX, wp_u1, wp_u2, wp_cons, wp_call, wp_lst, wp_tup, wp_star, wp_tru, wp_not, wp_and, wp_or, wp_andV, wp_orV, wp_notV, wp_asB, wp_part, wp_sl, wp_items, wp_enum, wp_signs, wp_range1, wp_seq, wp_exits, wp_def, wp_exM, wp_lc, wp_elt, fn1_app, fn2_app, fn3_app, if_true, Bool.false_eq_true, if_false]
      refine ⟨_, rfl, _, p_addI, _, p_mod (by decide), _, ec _, 1, rfl, _, p_slS sw (by decide), _, p_addS sc (sw.from (k := 1) (by decide)) (by decide), .bl (!decide ((⟨#[c]⟩ ++ cutS w (some 1) none : Str) ∈ ss)), ?_, _, rfl, bnot_ite (fun hm => ?_) fun hm => ?_⟩
      · unfold pNotIn; rw [p_inSL (sz.mono (by decide)) sx]; rfl
      · exact q _ _ nz hm (pC1.mono (by omega))
      · refine ⟨trivial, by omega, fun j hj' => ?_⟩
        by_cases e : j = i
        · subst e; exact ⟨c, _, gc, chd c, hm⟩
        · exact hj j (by omega)
    · exfalso
      rw [range_len] at hj
      have hj : ∀ j, j < 26 → ∃ c s, lets[(st.toNat + j) % 26]? = some c ∧ ch s = c :: r0 ∧ s ∈ ss := hj
      have all : ∀ c ∈ lets, c ∈ ss.map fun s => (ch s).headD 0 := fun c hc => by
        obtain ⟨j, hjl, ej⟩ := List.mem_iff_getElem.mp hc
        have hj2 : j < 26 := hjl
        obtain ⟨c', s, e1, e2, e3⟩ := hj ((j + 26 - st.toNat % 26) % 26) (by omega)
        have : (st.toNat + (j + 26 - st.toNat % 26) % 26) % 26 = j := by omega
        rw [this, List.getElem?_eq_getElem hjl, ej] at e1
        cases e1
        exact List.mem_map.mpr ⟨s, e3, by rw [e2]; rfl⟩
      have := sub_len (show lets.Nodup by decide +kernel) all
      rw [List.length_map] at this
      have : lets.length = 26 := rfl
      omega
  refine bnot_ite (fun e => ?_) fun e => ?_
  · have h0 : 0 < ss.length := by
      cases ss with
      | nil => exact (e rfl).elim
      | cons a l => simp
    refine ⟨_, rfl, take_pl p (by omega) (by simp; omega) (by simp; omega) fun r C h1 h2 pC => ?_⟩
    obtain ⟨s, es, ms, _⟩ := ix_str (A := C) (ss := ss) h1 (by simpa using h2)
    exact ⟨_, es, wp_mono (rest s C _ (fun z B' a b c => q z B' a b c) (hs s ms) pC) (fun v B z => ⟨26, rfl, ⟨by decide, by decide⟩, z⟩) fun _ _ _ z => z⟩
  · exact wp_mono (rest _ B _ (fun z B' a b c => q z B' a b c) nq (p.mono (by omega))) (fun v B z => ⟨26, rfl, ⟨by decide, by decide⟩, z⟩) fun _ _ _ z => z
end K18
end Lk
set_option Elab.async false
set_option linter.all false
set_option maxRecDepth 100000
namespace Lk
open PySem L2
namespace K18
/-! ### numbers, strangers -/
/-- values without cells -/
inductive Kd : PV → Prop
  | non : Kd .non
  | int (i : Int) : Kd (.int i)
  | bl (b : Bool) : Kd (.bl b)
  | str (z : Str) : Kd (.str z)
  | tup (xs : List PV) : Kd (.tup xs)
  | lst (xs : List PV) : Kd (.lst xs)
def isI : PV → Bool
  | .int _ => true
  | _ => false
def isC : PV → Bool
  | .int i => decide (0 ≤ i)
  | _ => false
theorem kb1 : L2.kitB "bool" "int" = some true := by decide +kernel
theorem kb2 : L2.kitB "str" "int" = some false := by decide +kernel
theorem kb3 : L2.kitB "NoneType" "int" = some false := by decide +kernel
theorem kb4 : L2.kitB "tuple" "int" = some false := by decide +kernel
theorem kb5 : L2.kitB "list" "int" = some false := by decide +kernel
theorem kb6 : L2.kitB "int" "int" = some true := by decide +kernel
theorem kb7 : L2.kitB "int" "bool" = some false := by decide +kernel
theorem kb8 : L2.kitB "bool" "bool" = some true := by decide +kernel
theorem isi_of {A : Ar} {w : PV} {n T : String} {b : Bool} (h : tyN A w = some n) (k : L2.kitB n T = some b) : pIsi T A w = some (.bl b) := by
  unfold pIsi; rw [h, Option.bind_some, k]; rfl
theorem is_integer_wp {w : PV} {A : Ar} {Q : PV → Ar → Prop} {E : EQ} (hw : Kd w) (q : Q (.bl (isI w)) A) : wp (u_is_integer w) A Q E := by
  unfold u_is_integer b_is_integer
  simp only [wp_pure, wp_bind, wp_ask, wp_opt, wp_bad, wp_ite, wp_noX, wp_u1, wp_u2, wp_cons, wp_call, wp_lst, wp_tup, wp_star, wp_tru, wp_not, wp_and, wp_or, wp_andV, wp_orV, wp_notV, wp_asB, wp_part, wp_sl, wp_items, wp_enum, wp_signs, wp_range1, wp_seq, wp_exits, wp_def, wp_exM, wp_lc, wp_elt, fn1_app, fn2_app, fn3_app, if_true, Bool.false_eq_true, if_false]
  cases hw with
  | int i => exact ⟨_, isi_of (n := "int") rfl kb6, _, rfl, by rw [if_pos rfl]; exact ⟨_, isi_of (n := "int") rfl kb7, _, rfl, q⟩⟩
  | bl b => exact ⟨_, isi_of (n := "bool") rfl kb1, _, rfl, by rw [if_pos rfl]; exact ⟨_, isi_of (n := "bool") rfl kb8, _, rfl, q⟩⟩
  | non => exact ⟨_, isi_of (n := "NoneType") rfl kb3, _, rfl, by rw [if_neg (by decide)]; exact q⟩
  | str z => exact ⟨_, isi_of (n := "str") rfl kb2, _, rfl, by rw [if_neg (by decide)]; exact q⟩
  | tup xs => exact ⟨_, isi_of (n := "tuple") rfl kb4, _, rfl, by rw [if_neg (by decide)]; exact q⟩
  | lst xs => exact ⟨_, isi_of (n := "list") rfl kb5, _, rfl, by rw [if_neg (by decide)]; exact q⟩
/-- what is in a list, a tuple, a dict of texts -/
def Has (A : Ar) (v : PV) (kn : Str → Bool) : Prop := ∀ s, Sx 100 s → pInB A (.str s) v = some (kn s)
theorem strangers_wp {ss : List Str} {v known : PV} {kn : Str → Bool} {A : Ar} {Q : PV → Ar → Prop} {E : EQ} (hv : seqOf v = some (ss.map PV.str)) (hs : ∀ s ∈ ss, Sx 100 s) (hk : Has A known kn)
    (q0 : (∀ s ∈ ss, kn s = true) → Q .non A) (q1 : ∀ s, ss.find? (fun s => !kn s) = some s → E "NoFile" (some [(("name" : Str), .str s)]) A) : wp (u_refuse_strangers v known) A Q E := by
  unfold u_refuse_strangers b_refuse_strangers
  simp only [wp_pure, wp_bind, wp_ask, wp_opt, wp_bad, wp_ite, wp_noX, wp_u1, wp_u2, wp_cons, wp_call, wp_lst, wp_tup, wp_star, wp_tru, wp_not, wp_and, wp_or, wp_andV, wp_orV, wp_notV, wp_asB, wp_part, wp_sl, wp_items, wp_enum, wp_signs, wp_range1, wp_seq, wp_exits, wp_def, wp_exM, wp_lc, wp_elt, fn1_app, fn2_app, fn3_app, if_true, Bool.false_eq_true, if_false]
  refine ⟨_, hv, wp_for (fun i _ B => B = A ∧ ∀ s ∈ ss.take i, kn s = true) ⟨rfl, by simp⟩ (fun i x b B hx ⟨hB, hi⟩ => ?_) fun b B ⟨hB, hi⟩ => ?_⟩
  · subst hB
    obtain ⟨t, et, rfl⟩ := getMap hx
    have st := hs t (List.mem_of_getElem? et)
    simp only [wp_pure, wp_bind, wp_ask, wp_opt, wp_bad, wp_ite, wp_noX, wp_u1, wp_u2, wp_cons, wp_call, wp_lst, wp_tup, wp_star, wp_tru, wp_not, wp_and, wp_or, wp_andV, wp_orV, wp_notV, wp_asB, wp_part, wp_sl, wp_items, wp_enum, wp_signs, wp_range1, wp_seq, wp_exits, wp_def, wp_exM, wp_lc, wp_elt, fn1_app, fn2_app, fn3_app, if_true, Bool.false_eq_true, if_false]
    refine ⟨_, rfl, _, isi_str, _, rfl, ?_⟩
    rw [if_neg (by decide)]
    refine ⟨.bl (!kn t), by unfold pNotIn; rw [hk t st]; rfl, _, rfl, ?_⟩
    cases hkt : kn t with
    | true =>
      rw [if_neg (by decide)]
      refine ⟨trivial, fun s hm => ?_⟩
      rw [take_snoc et] at hm
      rcases List.mem_append.mp hm with z | z
      · exact hi s z
      · rw [List.mem_singleton.mp z]; exact hkt
    | false =>
      rw [if_pos (by decide)]
      refine q1 t ?_
      have hlt := lt_of_get et
      have : ss = ss.take i ++ t :: ss.drop (i + 1) := by
        have hd : ss.drop i = t :: ss.drop (i + 1) := by
          rw [List.drop_eq_getElem_cons hlt]
          rw [List.getElem?_eq_getElem hlt] at et
          rw [Option.some.inj et]
        rw [← hd, List.take_append_drop]
      rw [this, List.find?_append, List.find?_eq_none.mpr (fun w hw => by rw [hi w hw]; decide)]
      simp [hkt]
  · subst hB
    rw [List.length_map, List.take_length] at hi
    exact q0 hi
/-- a list or a tuple of names -/
def Sq (v : PV) (ws : List PV) : Prop := v = .lst ws ∨ v = .tup ws
theorem Sq.seq {v : PV} {ws : List PV} (h : Sq v ws) : seqOf v = some ws := by rcases h with rfl | rfl <;> rfl
theorem Sq.tupOf {v : PV} {ws : List PV} {A : Ar} (h : Sq v ws) : pTupOf A v = some (.tup ws) := by rcases h with rfl | rfl <;> rfl
theorem Sq.has {v : PV} {ss : List Str} {A : Ar} (h : Sq v (ss.map PV.str)) (hs : ∀ s ∈ ss, Sx 100 s) : Has A v fun s => decide (s ∈ ss) := fun s hx => by
  rcases h with rfl | rfl
  · exact p_inSL hx hs
  · exact p_inST
/-! ### dicts of places -/
theorem look_put {κ : Type} [DecidableEq κ] {kvs : List (κ × PV)} {k k' : κ} {v : PV} : pLook (pPut kvs k v) k' = if k = k' then some v else pLook kvs k' := by
  unfold pPut
  by_cases h : (kvs.any fun kv => decide (kv.1 = k)) = true
  · rw [if_pos h]
    by_cases e : k = k'
    · subst e
      rw [if_pos rfl]
      unfold pLook
      have go : ∀ l : List (κ × PV), (l.any fun kv => decide (kv.1 = k)) = true → ((l.map fun kv => if kv.1 = k then (kv.1, v) else kv).find? fun kv => decide (kv.1 = k)).map (·.2) = some v := fun l => by
        induction l with
        | nil => intro h; cases h
        | cons a l ih =>
          intro h
          rw [List.map_cons, List.find?_cons]
          by_cases q : a.1 = k
          · rw [if_pos q, show decide ((a.1, v).1 = k) = true from decide_eq_true q]; rfl
          · rw [if_neg q, decide_eq_false q]
            refine ih ?_
            rw [List.any_cons, decide_eq_false q] at h
            exact h
      exact go kvs h
    · rw [if_neg e]
      unfold pLook
      have go : ∀ l : List (κ × PV), ((l.map fun kv => if kv.1 = k then (kv.1, v) else kv).find? fun kv => decide (kv.1 = k')).map (·.2) = (l.find? fun kv => decide (kv.1 = k')).map (·.2) := fun l => by
        induction l with
        | nil => rfl
        | cons a l ih =>
          rw [List.map_cons, List.find?_cons, List.find?_cons]
          by_cases q : a.1 = k
          · have n1 : ¬ a.1 = k' := fun z => e (q.symm.trans z)
            rw [if_pos q, show decide ((a.1, v).1 = k') = false from decide_eq_false n1]; exact ih
          · rw [if_neg q]
            by_cases q2 : a.1 = k'
            · rw [decide_eq_true q2]
            · rw [decide_eq_false q2]; exact ih
      exact go kvs
  · rw [if_neg h]
    unfold pLook
    rw [List.find?_append]
    by_cases e : k = k'
    · subst e
      rw [if_pos rfl]
      have : kvs.find? (fun kv => decide (kv.1 = k)) = none := List.find?_eq_none.mpr fun x hx z => h (List.any_eq_true.mpr ⟨x, hx, z⟩)
      rw [this]; simp
    · rw [if_neg e]
      simp [e]
/-- where the names come from: a list or tuple that stays, or a list that changes -/
inductive Src (A : Ar) : PV → List PV → Prop
  | lst (ws : List PV) : Src A (.lst ws) ws
  | tup (ws : List PV) : Src A (.tup ws) ws
  | cell {j : Nat} {ws : List PV} (e : A[j]? = some (some (false, .lst ws))) : Src A (.m j) ws
theorem Src.app {A S : Ar} {v : PV} {ws : List PV} (h : Src A v ws) : Src (A ++ S) v ws := by
  cases h with
  | lst ws => exact .lst _
  | tup ws => exact .tup _
  | cell e => exact .cell (by rw [List.getElem?_append_left (lt_of_get e)]; exact e)
theorem Src.tupOf {A : Ar} {v : PV} {ws : List PV} (h : Src A v ws) : pTupOf A v = some (.tup ws) := by
  cases h with
  | lst ws => rfl
  | tup ws => rfl
  | cell e => simp [pTupOf, dr, e]
theorem walk_wp {v : PV} {ss : List Str} {A : Ar} {γ : Type} {f : PV → Unit → M (Fl Unit Unit)} {QF : Fl Unit γ → Ar → Prop} {E : EQ} (hv : Src A v (ss.map PV.str)) (h : ∀ s ∈ ss, Nm s)
    (hf : ∀ A w, WdOk w → wp (f w ()) A (fun r C => r = .nx () ∧ C = A ∧ isN w = true) (fun c fs C => isN w = false ∧ c = "BadName" ∧ fs = some [(("name" : Str), w)] ∧ C = A))
    (q : QF (.nx ()) A) : wp (uLockL (pure v) ((uItemsA (pure v)) >>= fun xs => uFor f xs ())) A QF E := by
  have hw : ∀ w ∈ ss.map PV.str, WdOk w := fun w z => by obtain ⟨s, hs, rfl⟩ := List.mem_map.mp z; exact .str _ ((nm_sx (h s hs)).mono (by decide))
  have hn : ∀ w ∈ ss.map PV.str, isN w = true := fun w z => by obtain ⟨s, hs, rfl⟩ := List.mem_map.mp z; exact nm_nmB (h s hs)
  have nb : ∀ w, (ss.map PV.str).find? (fun w => !isN w) = some w → False := fun w hw => absurd (List.find?_some hw) (by rw [hn w (List.mem_of_find?_eq_some hw)]; decide)
  cases hv with
  | lst =>
    rw [wp_lockP (fun h z => by cases z)]
    simp only [wp_bind, wp_itemsA, wp_pure]
    exact ⟨_, rfl, check_wp hw (fun w => hf _ w) (fun _ => q) fun w hw => (nb w hw).elim⟩
  | tup =>
    rw [wp_lockP (fun h z => by cases z)]
    simp only [wp_bind, wp_itemsA, wp_pure]
    exact ⟨_, rfl, check_wp hw (fun w => hf _ w) (fun _ => q) fun w hw => (nb w hw).elim⟩
  | cell e =>
    rename_i j
    refine wp_lockM e ?_
    simp only [wp_bind, wp_itemsA, wp_pure]
    have e2 : (A.set j (some (true, Cell.lst (ss.map PV.str))))[j]? = some (some (true, .lst (ss.map PV.str))) := by simp [lt_of_get e]
    refine ⟨_, by unfold seqA; simp only [e2], check_wp hw (fun w => hf _ w) (fun _ => ⟨_, e2, ?_⟩) fun w hw => (nb w hw).elim⟩
    rw [List.set_set, set_self e]
    exact q
/-! ### what stays while a pool is drawn from and new things are made -/
def Kp (A : Ar) (p n : Nat) (D : Ar) : Prop := p < A.length ∧ (∃ c, PoolC n c ∧ D[p]? = some c) ∧ ∀ i, i < A.length → i ≠ p → D[i]? = A[i]?
theorem Kp.of {A : Ar} {p n : Nat} {c : Option (Bool × Cell)} (e : A[p]? = some c) (hc : PoolC n c) : Kp A p n A := ⟨lt_of_get e, ⟨c, hc, e⟩, fun _ _ _ => rfl⟩
theorem Kp.mono {A D : Ar} {p n m : Nat} (h : Kp A p n D) (k : n ≤ m) : Kp A p m D := by
  obtain ⟨h1, ⟨c, hc, e⟩, h2⟩ := h; exact ⟨h1, ⟨c, hc.mono k, e⟩, h2⟩
theorem Kp.app {A D S : Ar} {p n : Nat} (h : Kp A p n D) : Kp A p n (D ++ S) := by
  obtain ⟨h1, ⟨c, hc, e⟩, h2⟩ := h
  refine ⟨h1, ⟨c, hc, by rw [List.getElem?_append_left (lt_of_get e)]; exact e⟩, fun i hi hp => ?_⟩
  have := h2 i hi hp
  rw [List.getElem?_eq_getElem hi] at this
  rw [List.getElem?_append_left (lt_of_get this), this, List.getElem?_eq_getElem hi]
theorem Kp.pl {A D : Ar} {p n : Nat} (h : Kp A p n D) : Pl D p n D := by obtain ⟨_, ⟨c, hc, e⟩, _⟩ := h; exact Pl.of e hc
theorem Pl.kp0 {A : Ar} {p n : Nat} (h : Pl A p n A) : Kp A p n A := by obtain ⟨c, hc, e⟩ := h.at_; exact Kp.of e hc
theorem Kp.trans {A D B : Ar} {p n m : Nat} (h : Kp A p n D) (q : Pl D p m B) : Kp A p m B := by
  obtain ⟨h1, _, h2⟩ := h
  exact ⟨h1, q.at_, fun i hi hp => by rw [q.get hp]; exact h2 i hi hp⟩
theorem Kp.take {A B : Ar} {p n : Nat} {k : Int} {Q : PV → Ar → Prop} {E : EQ} (h : Kp A p n B) (hn : n + 1 ≤ 1000000) (h0 : 0 < k) (h1 : k < 2 ^ 30)
    (q : ∀ (r : Int) B', 0 ≤ r → r < k → Kp A p (n + 1) B' → Q (.int r) B') : wp (u__law_take (.m p) (.int k)) B Q E :=
  take_pl h.pl hn h0 h1 fun r B' a b c => q r B' a b (h.trans c)
/-! ### distinct looks, in order -/
def ddp (ss : List Str) : List Str := ss.foldl (fun acc s => if s ∈ acc then acc else acc ++ [s]) []
theorem ddp_snoc {ss : List Str} {s : Str} : ddp (ss ++ [s]) = if s ∈ ddp ss then ddp ss else ddp ss ++ [s] := by unfold ddp; rw [List.foldl_append]; rfl
theorem snoc_ind {α : Type} {P : List α → Prop} (h0 : P []) (hs : ∀ l a, P l → P (l ++ [a])) : ∀ l, P l := fun l => by
  suffices h : ∀ l : List α, P l.reverse by
    have := h l.reverse
    rw [List.reverse_reverse] at this; exact this
  intro l
  induction l with
  | nil => exact h0
  | cons a l ih => rw [List.reverse_cons]; exact hs _ _ ih
theorem mem_ddp {s : Str} : ∀ {ss : List Str}, s ∈ ddp ss ↔ s ∈ ss := fun {ss} => by
  refine snoc_ind (P := fun ss => s ∈ ddp ss ↔ s ∈ ss) (by simp [ddp]) (fun l a ih => ?_) ss
  rw [ddp_snoc, List.mem_append, List.mem_singleton]
  by_cases h : a ∈ ddp l
  · rw [if_pos h, ih]
    exact ⟨.inl, fun z => z.elim id fun e => by rw [e]; rw [e] at ih; exact ih.mp h⟩
  · rw [if_neg h, List.mem_append, List.mem_singleton, ih]
theorem ddp_nodup : ∀ (ss : List Str), (ddp ss).Nodup := fun ss => by
  refine snoc_ind (P := fun ss => (ddp ss).Nodup) (by simp [ddp]) (fun l a ih => ?_) ss
  rw [ddp_snoc]
  by_cases h : a ∈ ddp l
  · rw [if_pos h]; exact ih
  · rw [if_neg h]
    exact List.nodup_append.mpr ⟨ih, by simp, fun x hx y hy e => h (by rw [List.mem_singleton.mp hy] at e; rw [← e]; exact hx)⟩
theorem put_keys {κ : Type} [DecidableEq κ] {kvs : List (κ × PV)} {k : κ} {v : PV} : (pPut kvs k v).map (·.1) = if k ∈ kvs.map (·.1) then kvs.map (·.1) else kvs.map (·.1) ++ [k] := by
  unfold pPut
  by_cases h : (kvs.any fun kv => decide (kv.1 = k)) = true
  · have hm : k ∈ kvs.map (·.1) := by
      obtain ⟨x, hx, e⟩ := List.any_eq_true.mp h
      exact List.mem_map.mpr ⟨x, hx, of_decide_eq_true e⟩
    rw [if_pos h, if_pos hm, List.map_map]
    apply List.map_congr_left
    intro x _
    by_cases e : x.1 = k
    · simp [e]
    · simp [e]
  · have hm : k ∉ kvs.map (·.1) := fun z => h (by
      obtain ⟨x, hx, e⟩ := List.mem_map.mp z
      exact List.any_eq_true.mpr ⟨x, hx, decide_eq_true e⟩)
    rw [if_neg h, if_neg hm, List.map_append]; rfl
theorem sxs {ss : List Str} (hs : ∀ s ∈ ss, Nm s) : ∀ s ∈ ss, Sx 100 s := fun s z => (nm_sx (hs s z)).mono (by decide)
end K18
end Lk
set_option Elab.async false
set_option linter.all false
set_option maxRecDepth 100000
namespace Lk
open PySem L2
namespace K18
/-! ### tables of entries -/
abbrev bndF (h : Nat) (ss : List Str) : List (Str × PV) := [(("_names" : Str), .tup (ss.map PV.str)), (("_entries" : Str), .m (h + 1))]
/-- a table over ss whose entries are kvs -/
def BndAt (A : Ar) (h : Nat) (ss : List Str) (kvs : List (List Key × PV)) : Prop := A[h]? = some (some (false, .ins "Bounds" (bndF h ss))) ∧ A[h + 1]? = some (some (false, .dT kvs))
def bndS (R : Ar) (ss : List Str) : Ar := R ++ [some (false, .ins "Bounds" (bndF R.length ss)), some (false, .dT [])]
section
variable {A B R S : Ar} {h : Nat} {ss : List Str} {kvs : List (List Key × PV)} {Q : PV → Ar → Prop} {E : EQ}
theorem bndS_at : BndAt (bndS R ss) R.length ss [] := ⟨by simp [bndS], by simp [bndS]⟩
theorem BndAt.of (r : BndAt A h ss kvs) (e : ∀ i, i < A.length → h ≤ i → i ≤ h + 1 → B[i]? = A[i]?) : BndAt B h ss kvs :=
  ⟨by rw [e h (lt_of_get r.1) (by omega) (by omega)]; exact r.1, by rw [e (h + 1) (lt_of_get r.2) (by omega) (by omega)]; exact r.2⟩
theorem BndAt.app (r : BndAt A h ss kvs) : BndAt (A ++ S) h ss kvs := r.of fun i hi _ _ => List.getElem?_append_left hi
theorem BndAt.pre (r : BndAt A h ss kvs) (e : B.take A.length = A) : BndAt B h ss kvs := r.of fun i hi _ _ => by
  have : (B.take A.length)[i]? = A[i]? := by rw [e]
  rw [List.getElem?_take, if_pos hi] at this; exact this
theorem BndAt.ins (r : BndAt A h ss kvs) : insOf A "Bounds" (.m h) = some (bndF h ss) := by simp [insOf, r.1]
theorem BndAt.names (r : BndAt A h ss kvs) : ((insOf A "Bounds" (.m h)).bind fun fs => fs.lookup ("_names" : Str)) = some (.tup (ss.map PV.str)) := by rw [r.ins]; rfl
theorem BndAt.entries (r : BndAt A h ss kvs) : ((insOf A "Bounds" (.m h)).bind fun fs => fs.lookup ("_entries" : Str)) = some (.m (h + 1)) := by rw [r.ins]; rfl
/-- the walk over distinct names finds none twice -/
theorem twice_wp {v : PV} {γ : Type} {f : PV → Unit → M (Fl Unit Unit)} {QF : Fl Unit γ → Ar → Prop} (hv : Src A v (ss.map PV.str))
    (hf : ∀ (B : Ar) (i : Nat) t, (B = A ∨ ∃ j, v = .m j ∧ B = A.set j (some (true, .lst (ss.map PV.str)))) → ss[i]? = some t → wp (f (.tup [.int (i : Nat), .str t]) ()) B (fun r C => r = .nx () ∧ C = B) (fun _ _ _ => False))
    (q : QF (.nx ()) A) : wp (uLockL (pure v) ((uEnumA (pure v)) >>= fun xs => uFor f xs ())) A QF E := by
  have loop : ∀ (B : Ar) (QF' : Fl Unit γ → Ar → Prop) (E' : EQ), (B = A ∨ ∃ j, v = .m j ∧ B = A.set j (some (true, .lst (ss.map PV.str)))) → QF' (.nx ()) B → wp (uFor f (numbered 0 (ss.map PV.str)) ()) B QF' E' := fun B QF' E' hB q' => by
    refine wp_for (fun _ _ C => C = B) rfl (fun i x b C hx hC => ?_) fun b C hC => by rw [hC]; exact q'
    subst hC
    obtain ⟨y, hy, rfl⟩ := numb_at 0 _ i x hx
    obtain ⟨t, et, rfl⟩ := getMap hy
    rw [Nat.zero_add]
    exact wp_mono (hf C i t hB et) (fun r D ⟨e1, e2⟩ => by subst e1 e2; rfl) fun _ _ _ z => z.elim
  cases hv with
  | lst =>
    rw [wp_lockP (fun h z => by cases z)]
    simp only [wp_bind, wp_enumA, wp_pure]
    exact ⟨_, rfl, loop _ _ _ (.inl rfl) q⟩
  | tup =>
    rw [wp_lockP (fun h z => by cases z)]
    simp only [wp_bind, wp_enumA, wp_pure]
    exact ⟨_, rfl, loop _ _ _ (.inl rfl) q⟩
  | cell e =>
    rename_i j
    refine wp_lockM e ?_
    simp only [wp_bind, wp_enumA, wp_pure]
    have e2 : (A.set j (some (true, Cell.lst (ss.map PV.str))))[j]? = some (some (true, .lst (ss.map PV.str))) := by simp [lt_of_get e]
    refine ⟨_, by unfold seqA; simp only [e2], loop _ _ _ (.inr ⟨j, rfl, rfl⟩) ⟨_, e2, ?_⟩⟩
    rw [List.set_set, set_self e]
    exact q
theorem bnd_wp {v : PV} (hv : Src R v (ss.map PV.str)) (hs : ∀ s ∈ ss, Nm s) (hnd : ss.Nodup) (hl : ss.length ≤ 1000)
    (q : Q .non (bndS R ss)) : wp (u_Bounds___init__ (.m R.length) v) (R ++ [some (false, .ins "Bounds" [])]) Q E := by
  unfold u_Bounds___init__ b_Bounds___init__
  simp only [wp_pure, wp_bind, wp_ask, wp_opt, wp_bad, wp_ite, wp_noX, wp_u1, wp_u2, wp_cons, wp_call, wp_lst, wp_tup, wp_star, wp_tru, wp_not, wp_and, wp_or, wp_andV, wp_orV, wp_notV, wp_asB, wp_part, wp_sl, wp_items, wp_enum, wp_signs, wp_range1, wp_seq, wp_exits, wp_def, wp_exM, wp_lc, wp_elt, fn1_app, fn2_app, fn3_app, if_true, Bool.false_eq_true, if_false, wp_newC, wp_fld, wp_make, wp_prop, wp_meth, wp_lenO, wp_revRange, wp_dc, wp_delt, wp_binO, wp_mulR, wp_negO, wp_getO, wp_newL, wp_append, wp_ifE, wp_chain, wp_itemsA, wp_listN, wp_inO, wp_enumA, fn4_app, fn5_app, wp_lcN, wp_isIns]
  have hv' : Src (R ++ [some (false, .ins "Bounds" [])]) v (ss.map PV.str) := hv.app
  refine walk_wp hv' hs (fun A w hw => ?_) ?_
  · show wp (opt (some w) >>= _) _ _ _
    rw [wp_bind, wp_opt]
    exact ⟨w, rfl, nameBody hw⟩
  · refine twice_wp hv' (fun B i t hB et => ?_) ?_
    · have hcut : ∃ u, pSl B v none (some ((i : Nat) : Int)) = some u ∧ Sq u ((ss.take i).map PV.str) := by
        have cl : ∀ xs : List PV, cutP xs none (some ((i : Nat) : Int)) = xs.take i := fun xs => cut_to
        cases hv' with
        | lst => exact ⟨.lst (cutP _ none _), rfl, .inl (by rw [cl, List.map_take])⟩
        | tup => exact ⟨.tup (cutP _ none _), rfl, .inr (by rw [cl, List.map_take])⟩
        | cell e =>
          rename_i j
          have hd : dr B (.m j) = .lst (ss.map PV.str) := by
            rcases hB with rfl | ⟨j', ej, rfl⟩
            · simp [dr, e]
            · cases ej
              have : ((R ++ [some (false, Cell.ins "Bounds" [])]).set j (some (true, Cell.lst (ss.map PV.str))))[j]? = some (some (true, .lst (ss.map PV.str))) := List.getElem?_set_self (lt_of_get e)
              unfold dr; simp only [this]
          exact ⟨.lst (cutP _ none _), by unfold pSl; rw [hd], .inl (by rw [cl, List.map_take])⟩
      obtain ⟨u, eu, su⟩ := hcut
      have ht := hs t (List.mem_of_getElem? et)
      have hin : pIn B (.str t) u = some (.bl false) := by
        have h1 : pInB B (.str t) u = some (decide (t ∈ ss.take i)) := su.has (fun s z => (nm_sx (hs s (List.mem_of_mem_take z))).mono (by decide)) t ((nm_sx ht).mono (by decide))
        unfold pIn; rw [h1, decide_eq_false (take_nodup hnd et)]; rfl
      simp only [wp_pure, wp_bind, wp_ask, wp_opt, wp_bad, wp_ite, wp_noX, wp_u1, wp_u2, wp_cons, wp_call, wp_lst, wp_tup, wp_star, wp_tru, wp_not, wp_and, wp_or, wp_andV, wp_orV, wp_notV, wp_asB, wp_part, wp_sl, wp_items, wp_enum, wp_signs, wp_range1, wp_seq, wp_exits, wp_def, wp_exM, wp_lc, wp_elt, fn1_app, fn2_app, fn3_app, if_true, Bool.false_eq_true, if_false, wp_newC, wp_fld, wp_make, wp_prop, wp_meth, wp_lenO, wp_revRange, wp_dc, wp_delt, wp_binO, wp_mulR, wp_negO, wp_getO, wp_newL, wp_append, wp_ifE, wp_chain, wp_itemsA, wp_listN, wp_inO, wp_enumA, fn4_app, fn5_app, wp_lcN, wp_isIns]
      exact ⟨(.int (i : Nat), .str t), rfl, _, rfl, u, eu, _, hin, _, rfl, by rw [if_neg (by decide)]; exact ⟨trivial, trivial⟩⟩
    · refine ⟨_, hv'.tupOf, wp_do ⟨_, setFM_at (S := []) (by decide), ?_⟩⟩
      refine wp_do ?_
      rw [List.append_assoc, pPutF_nil]
      refine ⟨_, setFM_at (by simp), ?_⟩
      rw [pPutF_ne (by decide +kernel), pPutF_nil]
      have l1 : (R ++ [some (false, Cell.ins "Bounds" [(("_names" : Str), .tup (ss.map PV.str))])]).length = R.length + 1 := by simp
      rw [l1]
      exact q
theorem names_at (r : BndAt A h ss kvs) (q : Q (.tup (ss.map PV.str)) A) : wp (u_Bounds_names (.m h)) A Q E := by
  unfold u_Bounds_names b_Bounds_names
  simp only [wp_pure, wp_bind, wp_ask, wp_opt, wp_bad, wp_ite, wp_noX, wp_u1, wp_u2, wp_cons, wp_call, wp_lst, wp_tup, wp_star, wp_tru, wp_not, wp_and, wp_or, wp_andV, wp_orV, wp_notV, wp_asB, wp_part, wp_sl, wp_items, wp_enum, wp_signs, wp_range1, wp_seq, wp_exits, wp_def, wp_exM, wp_lc, wp_elt, fn1_app, fn2_app, fn3_app, if_true, Bool.false_eq_true, if_false, wp_newC, wp_fld, wp_make, wp_prop, wp_meth, wp_lenO, wp_revRange, wp_dc, wp_delt, wp_binO, wp_mulR, wp_negO, wp_getO, wp_newL, wp_append, wp_ifE, wp_chain, wp_itemsA, wp_listN, wp_inO, wp_enumA, fn4_app, fn5_app, wp_lcN, wp_isIns]
  exact ⟨_, r.names, q⟩
theorem blen_wp (r : BndAt A h ss kvs) (q : Q (.int ss.length) A) : wp (u_Bounds___len__ (.m h)) A Q E := by
  unfold u_Bounds___len__ b_Bounds___len__
  simp only [wp_pure, wp_bind, wp_ask, wp_opt, wp_bad, wp_ite, wp_noX, wp_u1, wp_u2, wp_cons, wp_call, wp_lst, wp_tup, wp_star, wp_tru, wp_not, wp_and, wp_or, wp_andV, wp_orV, wp_notV, wp_asB, wp_part, wp_sl, wp_items, wp_enum, wp_signs, wp_range1, wp_seq, wp_exits, wp_def, wp_exM, wp_lc, wp_elt, fn1_app, fn2_app, fn3_app, if_true, Bool.false_eq_true, if_false, wp_newC, wp_fld, wp_make, wp_prop, wp_meth, wp_lenO, wp_revRange, wp_dc, wp_delt, wp_binO, wp_mulR, wp_negO, wp_getO, wp_newL, wp_append, wp_ifE, wp_chain, wp_itemsA, wp_listN, wp_inO, wp_enumA, fn4_app, fn5_app, wp_lcN, wp_isIns]
  refine ⟨_, r.names, .int ((ss.map PV.str).length : Nat), rfl, ?_⟩
  rw [List.length_map]; exact q
theorem p_eqStr {a b : Str} : pEq A (.str a) (.str b) = some (.bl (decide (a = b))) := by
  unfold pEq pEqB
  simp [sc, scal]
theorem p_neStr {a b : Str} : pNe A (.str a) (.str b) = some (.bl (!decide (a = b))) := by
  unfold pNe pEqB
  simp [sc, scal]
/-- what the table holds for two names -/
def entV (kvs : List (List Key × PV)) (a b : Str) : PV := if a = b then .int 0 else (pLook kvs [.inr a, .inr b]).getD .non
theorem find_two {a b z : Str} {kn : Str → Bool} (h : [a, b].find? (fun s => !kn s) = some z) : (kn a = false ∧ z = a) ∨ (kn a = true ∧ kn b = false ∧ z = b) := by
  rw [List.find?_cons] at h
  cases e : kn a with
  | false => rw [e] at h; exact .inl ⟨rfl, (Option.some.inj h).symm⟩
  | true =>
    rw [e] at h
    have h : [b].find? (fun s => !kn s) = some z := h
    rw [List.find?_cons] at h
    cases e2 : kn b with
    | false => rw [e2] at h; exact .inr ⟨rfl, rfl, (Option.some.inj h).symm⟩
    | true => rw [e2] at h; cases h
/-- the first stranger of two names -/
def strg (ss : List Str) (a b : Str) : Option Str := [a, b].find? fun s => !decide (s ∈ ss)
theorem strg_none {ss : List Str} {a b : Str} (h : strg ss a b = none) : a ∈ ss ∧ b ∈ ss := by
  have := List.find?_eq_none.mp h
  refine ⟨?_, ?_⟩
  · have := this a (by simp)
    simpa using this
  · have := this b (by simp)
    simpa using this
theorem bstr_wp {a b : Str} (ha : Sx 100 a) (hb : Sx 100 b) (q0 : strg ss a b = none → Q .non A) (q1 : ∀ z, strg ss a b = some z → E "NoFile" (some [(("name" : Str), .str z)]) A) :
    wp (u_refuse_strangers (.tup [.str a, .str b]) (.tup (ss.map PV.str))) A Q E := by
  refine strangers_wp (ss := [a, b]) (kn := fun s => decide (s ∈ ss)) rfl (fun s hs => ?_) (fun s _ => p_inST) (fun hall => q0 ?_) fun s hs => q1 s hs
  · simp only [List.mem_cons, List.not_mem_nil, or_false] at hs
    rcases hs with rfl | rfl
    · exact ha
    · exact hb
  · refine List.find?_eq_none.mpr fun x hx => ?_
    rw [hall x hx]; simp
theorem bget_wp {a b : Str} (r : BndAt A h ss kvs) (ha : Sx 100 a) (hb : Sx 100 b) (q0 : strg ss a b = none → Q (entV kvs a b) A) (q1 : ∀ z, strg ss a b = some z → E "NoFile" (some [(("name" : Str), .str z)]) A) :
    wp (u_Bounds___getitem__ (.m h) (.tup [.str a, .str b])) A Q E := by
  unfold u_Bounds___getitem__ b_Bounds___getitem__
  simp only [wp_pure, wp_bind, wp_ask, wp_opt, wp_bad, wp_ite, wp_noX, wp_u1, wp_u2, wp_cons, wp_call, wp_lst, wp_tup, wp_star, wp_tru, wp_not, wp_and, wp_or, wp_andV, wp_orV, wp_notV, wp_asB, wp_part, wp_sl, wp_items, wp_enum, wp_signs, wp_range1, wp_seq, wp_exits, wp_def, wp_exM, wp_lc, wp_elt, fn1_app, fn2_app, fn3_app, if_true, Bool.false_eq_true, if_false, wp_newC, wp_fld, wp_make, wp_prop, wp_meth, wp_lenO, wp_revRange, wp_dc, wp_delt, wp_binO, wp_mulR, wp_negO, wp_getO, wp_newL, wp_append, wp_ifE, wp_chain, wp_itemsA, wp_listN, wp_inO, wp_enumA, fn4_app, fn5_app, wp_lcN, wp_isIns]
  refine ⟨(.str a, .str b), rfl, slen (by simp), _, r.names, bstr_wp ha hb (fun hn => ⟨_, p_eqStr, _, rfl, ?_⟩) q1⟩
  have q := q0 hn
  unfold entV at q
  refine eq_ite (fun e => ?_) fun e => ?_
  · rw [if_pos e] at q; exact q
  · rw [if_neg e] at q
    refine wp_get1 ?_
    simp only [wp_pure, wp_bind, wp_ask, wp_opt, wp_bad, wp_ite, wp_noX, wp_u1, wp_u2, wp_cons, wp_call, wp_lst, wp_tup, wp_star, wp_tru, wp_not, wp_and, wp_or, wp_andV, wp_orV, wp_notV, wp_asB, wp_part, wp_sl, wp_items, wp_enum, wp_signs, wp_range1, wp_seq, wp_exits, wp_def, wp_exM, wp_lc, wp_elt, fn1_app, fn2_app, fn3_app, if_true, Bool.false_eq_true, if_false, wp_newC, wp_fld, wp_make, wp_prop, wp_meth, wp_lenO, wp_revRange, wp_dc, wp_delt, wp_binO, wp_mulR, wp_negO, wp_getO, wp_newL, wp_append, wp_ifE, wp_chain, wp_itemsA, wp_listN, wp_inO, wp_enumA, fn4_app, fn5_app, wp_lcN, wp_isIns]
    refine ⟨_, r.entries, .inr ⟨kvs, by simp [cellOf, r.2]⟩, slen (by simp), pLook kvs [.inr a, .inr b], by simp [pGet, cellOf, r.2, keyT, keyKs, keyK], q⟩
theorem bset_wp {a b : Str} {w : PV} (r : BndAt A h ss kvs) (ha : Sx 100 a) (hb : Sx 100 b) (hw : Kd w) (hl : kvs.length < 10000)
    (qn : strg ss a b = none → a ≠ b → w = .non → Q .non (A.set (h + 1) (some (false, .dT (pDrop kvs [.inr a, .inr b])))))
    (qi : strg ss a b = none → a ≠ b → isI w = true → Q .non (A.set (h + 1) (some (false, .dT (pPut kvs [.inr a, .inr b] w)))))
    (q1 : ∀ z, strg ss a b = some z → E "NoFile" (some [(("name" : Str), .str z)]) A)
    (q2 : strg ss a b = none → a = b → E "SameFile" (some [(("name" : Str), .str a)]) A)
    (q3 : strg ss a b = none → a ≠ b → w ≠ .non → isI w = false → E "BadNumber" (some [(("value" : Str), w)]) A) :
    wp (u_Bounds___setitem__ (.m h) (.tup [.str a, .str b]) w) A Q E := by
  unfold u_Bounds___setitem__ b_Bounds___setitem__
  simp only [wp_pure, wp_bind, wp_ask, wp_opt, wp_bad, wp_ite, wp_noX, wp_u1, wp_u2, wp_cons, wp_call, wp_lst, wp_tup, wp_star, wp_tru, wp_not, wp_and, wp_or, wp_andV, wp_orV, wp_notV, wp_asB, wp_part, wp_sl, wp_items, wp_enum, wp_signs, wp_range1, wp_seq, wp_exits, wp_def, wp_exM, wp_lc, wp_elt, fn1_app, fn2_app, fn3_app, if_true, Bool.false_eq_true, if_false, wp_newC, wp_fld, wp_make, wp_prop, wp_meth, wp_lenO, wp_revRange, wp_dc, wp_delt, wp_binO, wp_mulR, wp_negO, wp_getO, wp_newL, wp_append, wp_ifE, wp_chain, wp_itemsA, wp_listN, wp_inO, wp_enumA, fn4_app, fn5_app, wp_lcN, wp_isIns]
  refine ⟨(.str a, .str b), rfl, slen (by simp), _, r.names, bstr_wp ha hb (fun hn => ⟨_, p_eqStr, _, rfl, ?_⟩) q1⟩
  refine eq_ite (fun e => q2 hn e) fun e => ?_
  by_cases hz : w = .non
  · subst hz
    refine ⟨_, rfl, _, rfl, ?_⟩
    rw [if_neg (by decide)]
    refine ⟨_, rfl, _, rfl, ?_⟩
    rw [if_pos (by decide)]
    refine wp_popT ?_
    simp only [wp_pure, wp_bind, wp_ask, wp_opt, wp_bad, wp_ite, wp_noX, wp_u1, wp_u2, wp_cons, wp_call, wp_lst, wp_tup, wp_star, wp_tru, wp_not, wp_and, wp_or, wp_andV, wp_orV, wp_notV, wp_asB, wp_part, wp_sl, wp_items, wp_enum, wp_signs, wp_range1, wp_seq, wp_exits, wp_def, wp_exM, wp_lc, wp_elt, fn1_app, fn2_app, fn3_app, if_true, Bool.false_eq_true, if_false, wp_newC, wp_fld, wp_make, wp_prop, wp_meth, wp_lenO, wp_revRange, wp_dc, wp_delt, wp_binO, wp_mulR, wp_negO, wp_getO, wp_newL, wp_append, wp_ifE, wp_chain, wp_itemsA, wp_listN, wp_inO, wp_enumA, fn4_app, fn5_app, wp_lcN, wp_isIns]
    exact ⟨_, r.entries, by simp [isDT, r.2], slen (by simp), pop_at r.2 rfl fun v => qn hn e rfl⟩
  · have i1 : pIsN A w .non = some (.bl true) := by cases hw <;> first | rfl | exact absurd rfl hz
    have i2 : pIs A w .non = some (.bl false) := by cases hw <;> first | rfl | exact absurd rfl hz
    refine ⟨_, i1, _, rfl, ?_⟩
    rw [if_pos (by decide)]
    refine is_integer_wp hw ⟨_, rfl, ?_⟩
    cases hi : isI w with
    | false => rw [if_pos (by decide)]; exact q3 hn e hz hi
    | true =>
      rw [if_neg (by decide)]
      refine ⟨_, i2, _, rfl, ?_⟩
      rw [if_neg (by decide)]
      exact ⟨_, r.entries, slen (by simp), wp_do ⟨_, set_dT r.2 rfl hl, qi hn e hi⟩⟩
end
end K18
end Lk
set_option Elab.async false
set_option linter.all false
set_option maxRecDepth 100000
namespace Lk
open PySem L2
namespace K18
/-! ### drawn lists of names -/
theorem drawn_comp {ss : List Str} {A B : Ar} {p n k : Nat} {QL : List PV → Ar → Prop} {E : EQ} (hp : Pl A p n B) (hn : n + k + 1 ≤ 1000000) (hl : 0 < ss.length) (hl2 : ss.length ≤ 1000)
    (q : ∀ (tt : List Str) B', tt.length = k → (∀ s ∈ tt, s ∈ ss) → Pl A p (n + k) B' → QL (tt.map PV.str) B') :
    wp (uComp (fun v => opt ((fun v => some v) v) >>= fun z4 => uElt (pure true) (u2 pIx (pure (.lst (ss.map PV.str))) (uCall (uCons (pure (.m p)) (uCons (u1 pLen (pure (.lst (ss.map PV.str)))) (pure []))) (fn2 u__law_take)))) (rangeOf 0 k) []) B QL E := by
  refine wp_comp (fun i acc B => (∃ tt : List Str, acc = tt.map PV.str ∧ tt.length = i ∧ ∀ s ∈ tt, s ∈ ss) ∧ i ≤ k ∧ Pl A p (n + i) B) ⟨⟨[], rfl, rfl, fun s z => absurd z List.not_mem_nil⟩, Nat.zero_le _, hp⟩ (fun i x acc B hx ⟨⟨tt, ha, hl, hm⟩, hik, hp⟩ => ?_) fun ws B4 ⟨⟨tt, ha, hl, hm⟩, hik, hp⟩ => ?_
  · subst ha
    obtain ⟨_, hi⟩ := range_at hx
    simp only [wp_pure, wp_bind, wp_ask, wp_opt, wp_bad, wp_ite, wp_noX, wp_u1, wp_u2, wp_cons, wp_call, wp_lst, wp_tup, wp_star, wp_tru, wp_not, wp_and, wp_or, wp_andV, wp_orV, wp_notV, wp_asB, wp_part, wp_sl, wp_items, wp_enum, wp_signs, wp_range1, wp_seq, wp_exits, wp_def, wp_exM, wp_lc, wp_elt, fn1_app, fn2_app, fn3_app, if_true, Bool.false_eq_true, if_false, wp_newC, wp_fld, wp_make, wp_prop, wp_meth, wp_lenO, wp_revRange, wp_dc, wp_delt, wp_binO, wp_mulR, wp_negO, wp_getO, wp_newL, wp_append, wp_ifE, wp_chain, wp_itemsA, wp_listN, wp_inO, wp_enumA, fn4_app, fn5_app, wp_lcN, wp_isIns]
    refine ⟨_, rfl, .int ((ss.map PV.str).length : Nat), rfl, ?_⟩
    rw [List.length_map]
    refine take_pl hp (by omega) (by omega) (by omega) fun r4 B5 h5 h6 p5 => ?_
    obtain ⟨s, es, ms, _⟩ := ix_str (A := B5) (ss := ss) h5 h6
    refine ⟨_, es, ⟨tt ++ [s], by simp, by simp [hl], fun t ht => ?_⟩, by omega, p5⟩
    rcases List.mem_append.mp ht with z | z
    · exact hm t z
    · rw [List.mem_singleton.mp z]; exact ms
  · subst ha
    rw [range_len] at hl hp
    exact q tt B4 hl hm hp
theorem p_neB {A : Ar} {b : Bool} : pNe A (.bl b) (.bl b) = some (.bl false) := by cases b <;> rfl
theorem p_addL {A : Ar} {xs ys : List PV} (h : xs.length + ys.length ≤ 10000) : pAdd A (.lst xs) (.lst ys) = some (.lst (xs ++ ys)) := by
  have : xs.length + ys.length ≤ sizeLine := slen (by omega)
  simp only [pAdd, drW, if_pos this]
theorem p_mulI {A : Ar} {i j : Int} (h : -(2 ^ 64) < i ∧ i < 2 ^ 64) : pMul A (.int i) (.int j) = some (.int (i * j)) := by
  simp only [pMul, drW]
  rw [if_pos (.inl (.inl h))]
end K18
end Lk
set_option Elab.async false
set_option linter.all false
set_option maxRecDepth 100000
set_option maxHeartbeats 1000000
namespace Lk
open PySem L2
namespace K18
theorem sx_of (s : String) (h : (Sx 100 (Str.ofString s)) := by exact ⟨by decide +kernel, by decide +kernel⟩) : Sx 100 (Str.ofString s) := h
theorem sx_file : Sx 100 ("file" : Str) := ⟨by decide +kernel, by decide +kernel⟩
theorem sx_same : Sx 100 ("same" : Str) := ⟨by decide +kernel, by decide +kernel⟩
theorem sx_number : Sx 100 ("number" : Str) := ⟨by decide +kernel, by decide +kernel⟩
theorem ne_self {A : Ar} {n : Nat} {xs : List PV} (h : ∀ x ∈ xs, Dt n x) (hn : n ≤ 60) : pNe A (.lst xs) (.lst xs) = some (.bl false) := by unfold pNe; rw [p_eq_self h hn]; rfl
theorem dt_pair {s : Str} {x : PV} (hs : Sx 100 s) (hx : Dt 3 x) : ∀ y ∈ [PV.str s, x], Dt 3 y := fun y hy => by
  simp only [List.mem_cons, List.not_mem_nil, or_false] at hy
  rcases hy with rfl | rfl
  · exact Dt.str hs
  · exact hx
section
variable {A : Ar} {h : Nat} {ss : List Str} {kvs : List (List Key × PV)} {Q : PV → Ar → Prop} {E : EQ}
def rowV (kvs : List (List Key × PV)) (ss : List Str) (a : Str) : PV := .lst (ss.map (entV kvs a))
theorem entries_wp (r : BndAt A h ss kvs) (hs : ∀ s ∈ ss, Nm s) (hl : ss.length ≤ 100) (hc : ∀ a b, entV kvs a b = .non ∨ ∃ i, entV kvs a b = .int i) (q : Q (.lst (ss.map (rowV kvs ss))) A) : wp (u__law_entries (.m h)) A Q E := by
  unfold u__law_entries b__law_entries
  refine wp_inner ?_
  simp only [wp_def, wp_bind, wp_newL, wp_pure, wp_seq, wp_items, wp_prop, wp_opt, fn1_app]
  refine ⟨slen (by simp), _, r.app.ins, names_at r.app ⟨_, rfl, ?_⟩⟩
  refine wp_for (fun i _ D => D = A ++ [some (false, .lst ((ss.take i).map (rowV kvs ss)))]) (by simp) (fun i x b D hx hD => ?_) fun b D hD => ?_
  · subst hD
    obtain ⟨t, et, rfl⟩ := getMap hx
    have ht := hs t (List.mem_of_getElem? et)
    have tl := lt_of_get et
    simp only [wp_pure, wp_bind, wp_ask, wp_opt, wp_bad, wp_ite, wp_noX, wp_u1, wp_u2, wp_cons, wp_call, wp_lst, wp_tup, wp_star, wp_tru, wp_not, wp_and, wp_or, wp_andV, wp_orV, wp_notV, wp_asB, wp_part, wp_sl, wp_items, wp_enum, wp_signs, wp_range1, wp_seq, wp_exits, wp_def, wp_exM, wp_lc, wp_elt, fn1_app, fn2_app, fn3_app, if_true, Bool.false_eq_true, if_false, wp_newC, wp_fld, wp_make, wp_prop, wp_meth, wp_lenO, wp_revRange, wp_dc, wp_delt, wp_binO, wp_mulR, wp_negO, wp_getO, wp_newL, wp_append, wp_ifE, wp_chain, wp_itemsA, wp_listN, wp_inO, wp_enumA, fn4_app, fn5_app, wp_lcN, wp_isIns]
    refine ⟨_, rfl, _, lst_end, _, r.app.ins, names_at r.app ⟨_, rfl, slen (by simp; omega), ?_⟩⟩
    refine wp_comp (fun j acc C => C = A ++ [some (false, .lst ((ss.take i).map (rowV kvs ss)))] ∧ acc = (ss.take j).map (entV kvs t)) ⟨rfl, rfl⟩ (fun j y acc C hy ⟨hC, ha⟩ => ?_) fun ys C ⟨hC, ha⟩ => ?_
    · subst hC ha
      obtain ⟨u, eu, rfl⟩ := getMap hy
      have hu := hs u (List.mem_of_getElem? eu)
      have hn : strg ss t u = none := List.find?_eq_none.mpr fun x hx => by
        simp only [List.mem_cons, List.not_mem_nil, or_false] at hx
        rcases hx with rfl | rfl
        · simp [List.mem_of_getElem? et]
        · simp [List.mem_of_getElem? eu]
      simp only [wp_pure, wp_bind, wp_ask, wp_opt, wp_bad, wp_ite, wp_noX, wp_u1, wp_u2, wp_cons, wp_call, wp_lst, wp_tup, wp_star, wp_tru, wp_not, wp_and, wp_or, wp_andV, wp_orV, wp_notV, wp_asB, wp_part, wp_sl, wp_items, wp_enum, wp_signs, wp_range1, wp_seq, wp_exits, wp_def, wp_exM, wp_lc, wp_elt, fn1_app, fn2_app, fn3_app, if_true, Bool.false_eq_true, if_false, wp_newC, wp_fld, wp_make, wp_prop, wp_meth, wp_lenO, wp_revRange, wp_dc, wp_delt, wp_binO, wp_mulR, wp_negO, wp_getO, wp_newL, wp_append, wp_ifE, wp_chain, wp_itemsA, wp_listN, wp_inO, wp_enumA, fn4_app, fn5_app, wp_lcN, wp_isIns]
      refine ⟨_, rfl, slen (by simp), ⟨_, r.app.ins⟩, bget_wp r.app ((nm_sx ht).mono (by decide)) ((nm_sx hu).mono (by decide)) (fun _ => ⟨rfl, ?_⟩) fun z hz => ?_⟩
      · rw [take_snoc eu, List.map_append]; rfl
      · rw [hn] at hz; cases hz
    · subst hC ha
      rw [List.length_map, List.take_length]
      refine app_end (by simp; omega) ?_
      rw [take_snoc et, List.map_append]; rfl
  · subst hD
    rw [List.length_map, List.take_length]
    refine frz_end ⟨okS_same (by simp) ?_, ?_⟩
    · show clB A.length (.lst _) = true
      unfold clB
      have c1 : ∀ (l : List Str) (a : Str), clL A.length (l.map (entV kvs a)) = true := fun l a => by
        induction l with
        | nil => unfold clL; rfl
        | cons b l ih =>
          rw [List.map_cons]; unfold clL; rw [ih]
          rcases hc a b with e | ⟨i, e⟩ <;> rw [e] <;> unfold clB <;> rfl
      have : ∀ l : List Str, clL A.length (l.map (rowV kvs ss)) = true := fun l => by
        induction l with
        | nil => unfold clL; rfl
        | cons a l ih => rw [List.map_cons]; unfold clL; rw [ih]; unfold rowV clB; rw [c1]; rfl
      exact this ss
    · have : (A ++ [none]).take A.length = A := by simp
      rw [this]; exact q
theorem read_wp {a b z : Str} (r : BndAt A h ss kvs) (ha : Sx 100 a) (hb : Sx 100 b) (hz : strg ss a b = some z) (q : Q (.lst [.str ("file" : Str), .str z]) A) : wp (u__law_read (.m h) (.str a) (.str b)) A Q E := by
  unfold u__law_read b__law_read
  simp only [wp_def, wp_seq]
  refine wp_try ?_
  simp only [wp_pure, wp_bind, wp_ask, wp_opt, wp_bad, wp_ite, wp_noX, wp_u1, wp_u2, wp_cons, wp_call, wp_lst, wp_tup, wp_star, wp_tru, wp_not, wp_and, wp_or, wp_andV, wp_orV, wp_notV, wp_asB, wp_part, wp_sl, wp_items, wp_enum, wp_signs, wp_range1, wp_seq, wp_exits, wp_def, wp_exM, wp_lc, wp_elt, fn1_app, fn2_app, fn3_app, if_true, Bool.false_eq_true, if_false, wp_newC, wp_fld, wp_make, wp_prop, wp_meth, wp_lenO, wp_revRange, wp_dc, wp_delt, wp_binO, wp_mulR, wp_negO, wp_getO, wp_newL, wp_append, wp_ifE, wp_chain, wp_itemsA, wp_listN, wp_inO, wp_enumA, fn4_app, fn5_app, wp_lcN, wp_isIns]
  refine ⟨slen (by simp), ⟨_, r.ins⟩, bget_wp r ha hb (fun hn => by rw [hz] at hn; cases hn) fun z' e => ?_⟩
  rw [hz] at e
  cases e
  refine ⟨_, rfl, ?_⟩
  rw [if_pos rfl]
  exact ⟨.str z, by simp, slen (by simp), q⟩
theorem refusal_wp {a b : Str} {w : PV} (r : BndAt A h ss kvs) (ha : Sx 100 a) (hb : Sx 100 b) (hw : Kd w) (hl : kvs.length < 10000)
    (q1 : ∀ z, strg ss a b = some z → Q (.lst [.str ("file" : Str), .str z]) A) (q2 : strg ss a b = none → a = b → Q (.lst [.str ("same" : Str), .str a]) A)
    (q3 : strg ss a b = none → a ≠ b → w ≠ .non → isI w = false → Q (.lst [.str ("number" : Str), w]) A)
    (no : strg ss a b = none → a ≠ b → w ≠ .non ∧ isI w = false) : wp (u__law_refusal (.m h) (.str a) (.str b) w) A Q E := by
  unfold u__law_refusal b__law_refusal
  simp only [wp_def, wp_seq]
  refine wp_tryN ?_
  simp only [wp_bind, wp_pure, wp_tup, wp_cons, wp_isIns, fn3_app]
  refine ⟨slen (by simp), ⟨_, r.ins⟩, bset_wp r ha hb hw hl (fun hn hab hz => absurd hz (no hn hab).1) (fun hn hab hi => by rw [(no hn hab).2] at hi; cases hi) (fun z hz => ?_) (fun hn hab => ?_) fun hn hab hz hi => ?_⟩
  · refine ⟨by decide, ?_⟩
    simp only [List.lookup]
    refine ⟨_, rfl, ?_⟩
    simp only [wp_pure, wp_bind, wp_ask, wp_opt, wp_bad, wp_ite, wp_noX, wp_u1, wp_u2, wp_cons, wp_call, wp_lst, wp_tup, wp_star, wp_tru, wp_not, wp_and, wp_or, wp_andV, wp_orV, wp_notV, wp_asB, wp_part, wp_sl, wp_items, wp_enum, wp_signs, wp_range1, wp_seq, wp_exits, wp_def, wp_exM, wp_lc, wp_elt, fn1_app, fn2_app, fn3_app, if_true, Bool.false_eq_true, if_false, wp_newC, wp_fld, wp_make, wp_prop, wp_meth, wp_lenO, wp_revRange, wp_dc, wp_delt, wp_binO, wp_mulR, wp_negO, wp_getO, wp_newL, wp_append, wp_ifE, wp_chain, wp_itemsA, wp_listN, wp_inO, wp_enumA, fn4_app, fn5_app, wp_lcN, wp_isIns]
    exact ⟨.str z, by simp, slen (by simp), q1 z hz⟩
  · refine ⟨by decide, ?_⟩
    simp only [List.lookup]
    refine ⟨_, rfl, ?_⟩
    simp only [wp_pure, wp_bind, wp_ask, wp_opt, wp_bad, wp_ite, wp_noX, wp_u1, wp_u2, wp_cons, wp_call, wp_lst, wp_tup, wp_star, wp_tru, wp_not, wp_and, wp_or, wp_andV, wp_orV, wp_notV, wp_asB, wp_part, wp_sl, wp_items, wp_enum, wp_signs, wp_range1, wp_seq, wp_exits, wp_def, wp_exM, wp_lc, wp_elt, fn1_app, fn2_app, fn3_app, if_true, Bool.false_eq_true, if_false, wp_newC, wp_fld, wp_make, wp_prop, wp_meth, wp_lenO, wp_revRange, wp_dc, wp_delt, wp_binO, wp_mulR, wp_negO, wp_getO, wp_newL, wp_append, wp_ifE, wp_chain, wp_itemsA, wp_listN, wp_inO, wp_enumA, fn4_app, fn5_app, wp_lcN, wp_isIns]
    exact ⟨.str a, by simp, slen (by simp), q2 hn hab⟩
  · refine ⟨by decide, ?_⟩
    simp only [List.lookup]
    refine ⟨_, rfl, ?_⟩
    simp only [wp_pure, wp_bind, wp_ask, wp_opt, wp_bad, wp_ite, wp_noX, wp_u1, wp_u2, wp_cons, wp_call, wp_lst, wp_tup, wp_star, wp_tru, wp_not, wp_and, wp_or, wp_andV, wp_orV, wp_notV, wp_asB, wp_part, wp_sl, wp_items, wp_enum, wp_signs, wp_range1, wp_seq, wp_exits, wp_def, wp_exM, wp_lc, wp_elt, fn1_app, fn2_app, fn3_app, if_true, Bool.false_eq_true, if_false, wp_newC, wp_fld, wp_make, wp_prop, wp_meth, wp_lenO, wp_revRange, wp_dc, wp_delt, wp_binO, wp_mulR, wp_negO, wp_getO, wp_newL, wp_append, wp_ifE, wp_chain, wp_itemsA, wp_listN, wp_inO, wp_enumA, fn4_app, fn5_app, wp_lcN, wp_isIns]
    exact ⟨w, by simp, slen (by simp), q3 hn hab hz hi⟩
/-- names with one that is none behind them -/
theorem bad_wp {tt : List Str} (hs : ∀ s ∈ tt, Nm s) (q : Q (.bl true) (A ++ [some (false, .ins "Bounds" [])])) : wp (u__law_bad (.lst (tt.map PV.str ++ [.str ("B" : Str)]))) A Q E := by
  unfold u__law_bad b__law_bad
  simp only [wp_def, wp_seq]
  refine wp_try ?_
  simp only [wp_pure, wp_bind, wp_ask, wp_opt, wp_bad, wp_ite, wp_noX, wp_u1, wp_u2, wp_cons, wp_call, wp_lst, wp_tup, wp_star, wp_tru, wp_not, wp_and, wp_or, wp_andV, wp_orV, wp_notV, wp_asB, wp_part, wp_sl, wp_items, wp_enum, wp_signs, wp_range1, wp_seq, wp_exits, wp_def, wp_exM, wp_lc, wp_elt, fn1_app, fn2_app, fn3_app, if_true, Bool.false_eq_true, if_false, wp_newC, wp_fld, wp_make, wp_prop, wp_meth, wp_lenO, wp_revRange, wp_dc, wp_delt, wp_binO, wp_mulR, wp_negO, wp_getO, wp_newL, wp_append, wp_ifE, wp_chain, wp_itemsA, wp_listN, wp_inO, wp_enumA, fn4_app, fn5_app, wp_lcN, wp_isIns]
  unfold u_Bounds___init__ b_Bounds___init__
  simp only [wp_pure, wp_bind, wp_ask, wp_opt, wp_bad, wp_ite, wp_noX, wp_u1, wp_u2, wp_cons, wp_call, wp_lst, wp_tup, wp_star, wp_tru, wp_not, wp_and, wp_or, wp_andV, wp_orV, wp_notV, wp_asB, wp_part, wp_sl, wp_items, wp_enum, wp_signs, wp_range1, wp_seq, wp_exits, wp_def, wp_exM, wp_lc, wp_elt, fn1_app, fn2_app, fn3_app, if_true, Bool.false_eq_true, if_false, wp_newC, wp_fld, wp_make, wp_prop, wp_meth, wp_lenO, wp_revRange, wp_dc, wp_delt, wp_binO, wp_mulR, wp_negO, wp_getO, wp_newL, wp_append, wp_ifE, wp_chain, wp_itemsA, wp_listN, wp_inO, wp_enumA, fn4_app, fn5_app, wp_lcN, wp_isIns]
  rw [wp_lockP (fun h z => by cases z)]
  simp only [wp_bind, wp_itemsA, wp_pure]
  have nB : isN (.str ("B" : Str)) = false := by decide +kernel
  have hn : ∀ w ∈ tt.map PV.str, isN w = true := fun w z => by obtain ⟨s, hs', rfl⟩ := List.mem_map.mp z; exact nm_nmB (hs s hs')
  have hw : ∀ w ∈ tt.map PV.str ++ [PV.str ("B" : Str)], WdOk w := fun w z => by
    rcases List.mem_append.mp z with z | z
    · obtain ⟨s, hs', rfl⟩ := List.mem_map.mp z; exact .str _ ((nm_sx (hs s hs')).mono (by decide))
    · rw [List.mem_singleton.mp z]; exact .str _ ⟨by decide +kernel, by decide +kernel⟩
  refine ⟨_, rfl, check_wp hw (fun w hw => ?_) (fun hall => ?_) fun w hf => ?_⟩
  · show wp (opt (some w) >>= _) _ _ _
    rw [wp_bind, wp_opt]
    exact ⟨w, rfl, nameBody hw⟩
  · have := hall (.str ("B" : Str)) (by simp)
    rw [nB] at this; cases this
  · rw [List.find?_append, List.find?_eq_none.mpr (fun w hw => by rw [hn w hw]; decide)] at hf
    have ew : w = .str ("B" : Str) := by
      rw [Option.none_or, List.find?_cons, nB] at hf
      exact (Option.some.inj hf).symm
    subst ew
    refine ⟨_, rfl, ?_⟩
    rw [if_pos rfl]
    exact ⟨.str ("B" : Str), by simp, .bl true, by rw [p_eqStr]; simp, q⟩
/-- names of which one comes twice -/
theorem twice_wp' {tt : List Str} {t : Str} {i : Nat} {v : PV} (hv : v = .lst (tt.map PV.str) ∨ v = .tup (tt.map PV.str)) (hs : ∀ s ∈ tt, Nm s) (hi : tt[i]? = some t) (hm : t ∈ tt.take i) (hb : ∀ j s, j < i → tt[j]? = some s → s ∉ tt.take j)
    (q : Q (.bl true) (A ++ [some (false, .ins "Bounds" [])])) : wp (u__law_twice v (.str t)) A Q E := by
  unfold u__law_twice b__law_twice
  simp only [wp_def, wp_seq]
  refine wp_try ?_
  simp only [wp_pure, wp_bind, wp_ask, wp_opt, wp_bad, wp_ite, wp_noX, wp_u1, wp_u2, wp_cons, wp_call, wp_lst, wp_tup, wp_star, wp_tru, wp_not, wp_and, wp_or, wp_andV, wp_orV, wp_notV, wp_asB, wp_part, wp_sl, wp_items, wp_enum, wp_signs, wp_range1, wp_seq, wp_exits, wp_def, wp_exM, wp_lc, wp_elt, fn1_app, fn2_app, fn3_app, if_true, Bool.false_eq_true, if_false, wp_newC, wp_fld, wp_make, wp_prop, wp_meth, wp_lenO, wp_revRange, wp_dc, wp_delt, wp_binO, wp_mulR, wp_negO, wp_getO, wp_newL, wp_append, wp_ifE, wp_chain, wp_itemsA, wp_listN, wp_inO, wp_enumA, fn4_app, fn5_app, wp_lcN, wp_isIns]
  unfold u_Bounds___init__ b_Bounds___init__
  simp only [wp_pure, wp_bind, wp_ask, wp_opt, wp_bad, wp_ite, wp_noX, wp_u1, wp_u2, wp_cons, wp_call, wp_lst, wp_tup, wp_star, wp_tru, wp_not, wp_and, wp_or, wp_andV, wp_orV, wp_notV, wp_asB, wp_part, wp_sl, wp_items, wp_enum, wp_signs, wp_range1, wp_seq, wp_exits, wp_def, wp_exM, wp_lc, wp_elt, fn1_app, fn2_app, fn3_app, if_true, Bool.false_eq_true, if_false, wp_newC, wp_fld, wp_make, wp_prop, wp_meth, wp_lenO, wp_revRange, wp_dc, wp_delt, wp_binO, wp_mulR, wp_negO, wp_getO, wp_newL, wp_append, wp_ifE, wp_chain, wp_itemsA, wp_listN, wp_inO, wp_enumA, fn4_app, fn5_app, wp_lcN, wp_isIns]
  have hsrc : Src (A ++ [some (false, Cell.ins "Bounds" [])]) v (tt.map PV.str) := by rcases hv with rfl | rfl <;> constructor
  refine walk_wp hsrc hs (fun A w hw => ?_) ?_
  · show wp (opt (some w) >>= _) _ _ _
    rw [wp_bind, wp_opt]
    exact ⟨w, rfl, nameBody hw⟩
  · have pl : ∀ h, v ≠ .m h := fun h z => by rcases hv with rfl | rfl <;> cases z
    have sq : Sq v (tt.map PV.str) := hv
    have sA : seqA (A ++ [some (false, Cell.ins "Bounds" [])]) v = some (tt.map PV.str) := by rcases hv with rfl | rfl <;> rfl
    rw [wp_lockP pl]
    simp only [wp_bind, wp_enumA, wp_pure]
    refine ⟨_, sA, wp_for (fun k _ B => B = A ++ [some (false, .ins "Bounds" [])] ∧ k ≤ i) ⟨rfl, Nat.zero_le _⟩ (fun k x b B hx ⟨hB, hk⟩ => ?_) fun b B ⟨hB, hk⟩ => ?_⟩
    · subst hB
      obtain ⟨y, hy, rfl⟩ := numb_at 0 _ k x hx
      obtain ⟨s, es, rfl⟩ := getMap hy
      rw [Nat.zero_add]
      have hcut : ∃ u, pSl (A ++ [some (false, Cell.ins "Bounds" [])]) v none (some ((k : Nat) : Int)) = some u ∧ Sq u ((tt.take k).map PV.str) := by
        have cl : ∀ xs : List PV, cutP xs none (some ((k : Nat) : Int)) = xs.take k := fun xs => cut_to
        rcases hv with rfl | rfl
        · exact ⟨.lst (cutP _ none _), rfl, .inl (by rw [cl, List.map_take])⟩
        · exact ⟨.tup (cutP _ none _), rfl, .inr (by rw [cl, List.map_take])⟩
      obtain ⟨u, eu, su⟩ := hcut
      have hin : pIn (A ++ [some (false, Cell.ins "Bounds" [])]) (.str s) u = some (.bl (decide (s ∈ tt.take k))) := by
        have h1 : pInB (A ++ [some (false, Cell.ins "Bounds" [])]) (.str s) u = some (decide (s ∈ tt.take k)) := su.has (fun s z => (nm_sx (hs s (List.mem_of_mem_take z))).mono (by decide)) s ((nm_sx (hs s (List.mem_of_getElem? es))).mono (by decide))
        unfold pIn; rw [h1]; rfl
      simp only [wp_pure, wp_bind, wp_ask, wp_opt, wp_bad, wp_ite, wp_noX, wp_u1, wp_u2, wp_cons, wp_call, wp_lst, wp_tup, wp_star, wp_tru, wp_not, wp_and, wp_or, wp_andV, wp_orV, wp_notV, wp_asB, wp_part, wp_sl, wp_items, wp_enum, wp_signs, wp_range1, wp_seq, wp_exits, wp_def, wp_exM, wp_lc, wp_elt, fn1_app, fn2_app, fn3_app, if_true, Bool.false_eq_true, if_false, wp_newC, wp_fld, wp_make, wp_prop, wp_meth, wp_lenO, wp_revRange, wp_dc, wp_delt, wp_binO, wp_mulR, wp_negO, wp_getO, wp_newL, wp_append, wp_ifE, wp_chain, wp_itemsA, wp_listN, wp_inO, wp_enumA, fn4_app, fn5_app, wp_lcN, wp_isIns]
      refine ⟨(.int (k : Nat), .str s), rfl, _, rfl, u, eu, _, hin, _, rfl, ?_⟩
      by_cases e : k = i
      · subst e
        rw [hi] at es
        cases es
        rw [if_pos (decide_eq_true hm)]
        refine ⟨_, rfl, ?_⟩
        exact ⟨.str t, by simp, .bl true, by rw [p_eqStr]; simp, q⟩
      · rw [if_neg (by simpa using hb k s (by omega) es)]
        exact ⟨trivial, by omega⟩
    · exfalso
      rw [numbered_len, List.length_map] at hk
      have := lt_of_get hi
      omega
theorem add1 {C : Ar} {tt : List Str} {a : Str} (hl : tt.length ≤ 100) : pAdd C (.lst (tt.map PV.str)) (.lst [.str a]) = some (.lst ((tt ++ [a]).map PV.str)) := by
  rw [p_addL (by rw [List.length_map]; simp; omega), List.map_append]; rfl
theorem add2 {C : Ar} {tt : List Str} {a : Str} {y : PV} (hl : tt.length ≤ 100) : pAdd C (.lst (tt.map PV.str)) (.lst [.str a, y]) = some (.lst ((tt ++ [a]).map PV.str ++ [y])) := by
  rw [p_addL (by rw [List.length_map]; simp; omega), List.map_append, List.append_assoc]; rfl
/-- what a table refuses; the table stays -/
theorem refused_wp {B : Ar} {p n : Nat} {a b : Str} (k : Kp B p n A) (r : BndAt A h ss kvs) (off : ¬ (h ≤ p ∧ p ≤ h + 1)) (hs : Nms ss) (hl : ss.length ≤ 8) (ha : a ∈ ss) (hb : b ∈ ss) (hk : kvs.length < 10000) (hn : n + 30 ≤ 1000000)
    (q : ∀ D, Kp B p (n + 30) D → (∀ i, i < A.length → i ≠ p → D[i]? = A[i]?) → Q (.bl true) D) : wp (u__law_refused (.m p) (.m h) (.lst (ss.map PV.str)) (.str a) (.str b)) A Q E := by
  unfold u__law_refused b__law_refused
  have na := hs.2 a ha
  have nb := hs.2 b hb
  have sa : Sx 100 a := (nm_sx na).mono (by decide)
  have sb : Sx 100 b := (nm_sx nb).mono (by decide)
  simp only [wp_pure, wp_bind, wp_ask, wp_opt, wp_bad, wp_ite, wp_noX, wp_u1, wp_u2, wp_cons, wp_call, wp_lst, wp_tup, wp_star, wp_tru, wp_not, wp_and, wp_or, wp_andV, wp_orV, wp_notV, wp_asB, wp_part, wp_sl, wp_items, wp_enum, wp_signs, wp_range1, wp_seq, wp_exits, wp_def, wp_exM, wp_lc, wp_elt, fn1_app, fn2_app, fn3_app, if_true, Bool.false_eq_true, if_false, wp_newC, wp_fld, wp_make, wp_prop, wp_meth, wp_lenO, wp_revRange, wp_dc, wp_delt, wp_binO, wp_mulR, wp_negO, wp_getO, wp_newL, wp_append, wp_ifE, wp_chain, wp_itemsA, wp_listN, wp_inO, wp_enumA, fn4_app, fn5_app, wp_lcN, wp_isIns]
  refine stranger_wp k.pl (by omega) hs.2 (by omega) fun z D1 nz mz p1 => ⟨slen (by simp), slen (by simp), slen (by simp), ?_⟩
  refine take_pl p1 (by omega) (by decide) (by decide) fun w0 D2 w1 w2 p2 => ?_
  have sz : Sx 100 z := (nm_sx nz).mono (by decide)
  have r2 : BndAt D2 h ss kvs := r.of fun i _ x y => p2.get (by omega)
  obtain ⟨w, ew, kw, iw, nw, dw⟩ : ∃ w, pIx D2 (.lst [.bl true, .str ("1" : Str), .tup [.int 1], .bl false, .lst [.int 0]]) (.int w0) = some w ∧ Kd w ∧ isI w = false ∧ w ≠ .non ∧ Dt 3 w := by
    have : w0 = 0 ∨ w0 = 1 ∨ w0 = 2 ∨ w0 = 3 ∨ w0 = 4 := by omega
    rcases this with rfl | rfl | rfl | rfl | rfl
    · exact ⟨_, rfl, .bl _, rfl, (by intro z; cases z), Dt.bl _⟩
    · exact ⟨_, rfl, .str _, rfl, (by intro z; cases z), Dt.str (L := 100) ⟨by decide +kernel, by decide +kernel⟩⟩
    · exact ⟨_, rfl, .tup _, rfl, (by intro z; cases z), Dt.tup (n := 2) fun y hy => by rw [List.mem_singleton.mp hy]; exact Dt.int _⟩
    · exact ⟨_, rfl, .bl _, rfl, (by intro z; cases z), Dt.bl _⟩
    · exact ⟨_, rfl, .lst _, rfl, (by intro z; cases z), Dt.lst (n := 2) fun y hy => by rw [List.mem_singleton.mp hy]; exact Dt.int _⟩
  refine ⟨w, ew, ?_⟩
  refine ⟨2, rfl, ⟨by decide, by decide⟩, ?_⟩
  have fz1 : ∀ c, strg ss z c = some z := fun c => by unfold strg; rw [List.find?_cons]; simp [mz]
  have fz2 : strg ss a z = some z := by unfold strg; rw [List.find?_cons]; simp [ha, mz]
  have faa : strg ss a a = none := List.find?_eq_none.mpr fun x hx => by simp at hx; rw [hx]; simp [ha]
  have fab : strg ss a b = none := List.find?_eq_none.mpr fun x hx => by
    simp only [List.mem_cons, List.not_mem_nil, or_false] at hx
    rcases hx with rfl | rfl
    · simp [ha]
    · simp [hb]
  have ix2 : ∀ (C : Ar) (x : PV) (i : Nat), i < 2 → Kd x → ∃ y, pIx C (.lst [x, w]) (.int (0 + (i : Nat))) = some y ∧ Kd y := fun C x i hi hx => by
    have : i = 0 ∨ i = 1 := by omega
    rcases this with rfl | rfl
    · exact ⟨x, rfl, hx⟩
    · exact ⟨w, rfl, kw⟩
  have Dn : ∀ (s : Str), Sx 100 s → ∀ C : Ar, pNe C (.lst [.str ("file" : Str), .str s]) (.lst [.str ("file" : Str), .str s]) = some (.bl false) := fun s h C => ne_self (dt_pair sx_file (Dt.str h)) (by decide)
  refine wp_for (fun _ _ C => C = D2) rfl (fun i x _ C hx hC => ?_) fun _ C hC => ?_
  · subst hC
    obtain ⟨rfl, hi⟩ := range_at hx
    have hi : i < 2 := hi
    obtain ⟨y1, e1, k1⟩ := ix2 C (.int 1) i hi (.int 1)
    obtain ⟨y2, e2, k2⟩ := ix2 C .non i hi .non
    obtain ⟨y3, e3, k3⟩ := ix2 C (.int 0) i hi (.int 0)
    simp only [wp_pure, wp_bind, wp_ask, wp_opt, wp_bad, wp_ite, wp_noX, wp_u1, wp_u2, wp_cons, wp_call, wp_lst, wp_tup, wp_star, wp_tru, wp_not, wp_and, wp_or, wp_andV, wp_orV, wp_notV, wp_asB, wp_part, wp_sl, wp_items, wp_enum, wp_signs, wp_range1, wp_seq, wp_exits, wp_def, wp_exM, wp_lc, wp_elt, fn1_app, fn2_app, fn3_app, if_true, Bool.false_eq_true, if_false, wp_newC, wp_fld, wp_make, wp_prop, wp_meth, wp_lenO, wp_revRange, wp_dc, wp_delt, wp_binO, wp_mulR, wp_negO, wp_getO, wp_newL, wp_append, wp_ifE, wp_chain, wp_itemsA, wp_listN, wp_inO, wp_enumA, fn4_app, fn5_app, wp_lcN, wp_isIns]
    refine ⟨_, rfl, slen (by simp), y1, e1, ?_⟩
    refine refusal_wp r2 sz sb k1 hk (fun z' hz' => ?_) (fun hn => by rw [fz1] at hn; cases hn) (fun hn => by rw [fz1] at hn; cases hn) (fun hn => by rw [fz1] at hn; cases hn)
    rw [fz1] at hz'
    cases hz'
    refine ⟨slen (by simp), _, Dn z sz _, _, rfl, ?_⟩
    rw [if_neg (by decide)]
    refine ⟨slen (by simp), y2, e2, ?_⟩
    refine refusal_wp r2 sa sz k2 hk (fun z' hz' => ?_) (fun hn => by rw [fz2] at hn; cases hn) (fun hn => by rw [fz2] at hn; cases hn) (fun hn => by rw [fz2] at hn; cases hn)
    rw [fz2] at hz'
    cases hz'
    refine ⟨slen (by simp), _, Dn z sz _, _, rfl, ?_⟩
    rw [if_neg (by decide)]
    refine ⟨slen (by simp), y3, e3, ?_⟩
    refine refusal_wp r2 sa sa k3 hk (fun z' hz' => by rw [faa] at hz'; cases hz') (fun _ _ => ?_) (fun _ hn => absurd rfl hn) (fun _ hn => absurd rfl hn)
    refine ⟨slen (by simp), _, ne_self (dt_pair sx_same (Dt.str sa)) (by decide), _, rfl, ?_⟩
    rw [if_neg (by decide)]
  · subst hC
    refine read_wp r2 sz sb (fz1 b) ⟨slen (by simp), _, Dn z sz _, _, rfl, ?_⟩
    rw [if_neg (by decide)]
    refine read_wp r2 sa sz fz2 ⟨slen (by simp), _, Dn z sz _, _, rfl, ?_⟩
    rw [if_neg (by decide)]
    refine ⟨_, p_neStr, _, rfl, ?_⟩
    have hss2 : ∀ s ∈ ss ++ [z], Nm s := fun s hm => by
      rcases List.mem_append.mp hm with q | q
      · exact hs.2 s q
      · rw [List.mem_singleton.mp q]; exact nz
    have fin : ∀ (D T : Ar), Pl A p (n + 21) D → Q (.bl true) (D ++ T) := fun D T pD => by
      have kD : Kp B p (n + 30) (D ++ T) := ((k.trans pD).app).mono (by omega)
      refine q _ kD fun i hi hp => ?_
      have := pD.get hp
      rw [List.getElem?_append_left (by rw [pD.len]; exact hi), this]
    refine bnot_ite (fun hab => ?_) fun hab => ?_
    refine refusal_wp r2 sa sb kw hk (fun z' hz' => by rw [fab] at hz'; cases hz') (fun _ hn => absurd hn hab) (fun _ _ _ _ => ?_) (fun _ _ => ⟨nw, iw⟩)
    refine ⟨slen (by simp), _, ne_self (dt_pair sx_number dw) (by decide), _, rfl, ?_⟩
    rw [if_neg (by decide)]
    all_goals
      refine ⟨slen (by simp), .lst ((ss ++ [z]).map PV.str), add1 (by omega), ?_⟩
      refine stranger_wp p2 (by omega) hss2 (by simp; omega) fun f D3 nf mf p3 => ⟨slen (by simp), slen (by simp), slen (by simp), slen (by simp), _, rfl, ?_⟩
      have r3 : BndAt D3 h ss kvs := r.of fun i _ x y => p3.get (by omega)
      have sf : Sx 100 f := (nm_sx nf).mono (by decide)
      have mf1 : f ∉ ss := fun q => mf (List.mem_append_left _ q)
      refine wp_for (fun _ _ D => D = D3) rfl (fun i x _ D hx hD => ?_) fun _ D hD => ?_
      · subst hD
        obtain ⟨one, two, rfl, h1, h2, h3⟩ : ∃ one two : Str, x = .tup [.str one, .str two] ∧ Sx 100 one ∧ Sx 100 two ∧ one ∉ ss := by
          have hx := List.mem_of_getElem? hx
          simp only [List.mem_cons, List.not_mem_nil, or_false] at hx
          rcases hx with rfl | rfl | rfl
          · exact ⟨_, _, rfl, sz, sf, mz⟩
          · exact ⟨_, _, rfl, sf, sz, mf1⟩
          · exact ⟨_, _, rfl, sz, sz, mz⟩
        have f1 : strg ss one two = some one := by unfold strg; rw [List.find?_cons]; simp [h3]
        obtain ⟨y, ey, ky⟩ : ∃ y, pIx D (.lst [.int 1, w]) (.int (if decide (one = f) = true then 1 else 0)) = some y ∧ Kd y := by
          by_cases e : one = f
          · rw [if_pos (decide_eq_true e)]; exact ⟨w, rfl, kw⟩
          · rw [if_neg (by simpa using e)]; exact ⟨.int 1, rfl, .int 1⟩
        simp only [wp_pure, wp_bind, wp_ask, wp_opt, wp_bad, wp_ite, wp_noX, wp_u1, wp_u2, wp_cons, wp_call, wp_lst, wp_tup, wp_star, wp_tru, wp_not, wp_and, wp_or, wp_andV, wp_orV, wp_notV, wp_asB, wp_part, wp_sl, wp_items, wp_enum, wp_signs, wp_range1, wp_seq, wp_exits, wp_def, wp_exM, wp_lc, wp_elt, fn1_app, fn2_app, fn3_app, if_true, Bool.false_eq_true, if_false, wp_newC, wp_fld, wp_make, wp_prop, wp_meth, wp_lenO, wp_revRange, wp_dc, wp_delt, wp_binO, wp_mulR, wp_negO, wp_getO, wp_newL, wp_append, wp_ifE, wp_chain, wp_itemsA, wp_listN, wp_inO, wp_enumA, fn4_app, fn5_app, wp_lcN, wp_isIns]
        refine ⟨(.str one, .str two), rfl, read_wp r3 h1 h2 f1 ⟨slen (by simp), _, Dn one h1 _, _, rfl, ?_⟩⟩
        rw [if_neg (by decide)]
        refine ⟨slen (by simp), _, p_eqStr, _, rfl, y, ey, ?_⟩
        refine refusal_wp r3 h1 h2 ky hk (fun z' hz' => ?_) (fun hn => by rw [f1] at hn; cases hn) (fun hn => by rw [f1] at hn; cases hn) (fun hn => by rw [f1] at hn; cases hn)
        rw [f1] at hz'
        cases hz'
        refine ⟨slen (by simp), _, Dn one h1 _, _, rfl, ?_⟩
        rw [if_neg (by decide)]
      · subst hD
        refine ⟨slen (by simp), .lst ((ss ++ [a]).map PV.str ++ [.str ("B" : Str)]), add2 (by omega), ?_⟩
        refine bad_wp (tt := ss ++ [a]) (fun s hm => ?_) ?_
        · rcases List.mem_append.mp hm with q | q
          · exact hs.2 s q
          · rw [List.mem_singleton.mp q]; exact na
        refine ⟨true, rfl, ?_⟩
        rw [if_neg (by decide)]
        refine ⟨slen (by simp), ?_⟩
        refine bad_wp (tt := [a, a]) (fun s hm => ?_) ?_
        · simp at hm; rw [hm]; exact na
        refine ⟨true, rfl, ?_⟩
        rw [if_neg (by decide)]
        have mem1 : ∀ s ∈ ss ++ [a], Nm s := fun s hm => by
          rcases List.mem_append.mp hm with q | q
          · exact hs.2 s q
          · rw [List.mem_singleton.mp q]; exact na
        refine ⟨slen (by simp), .lst ((ss ++ [a]).map PV.str), add1 (by omega), ?_⟩
        refine twice_wp' (tt := ss ++ [a]) (i := ss.length) (.inl rfl) mem1 (by simp) (by simp [ha]) (fun j s hj e => ?_) ?_
        · rw [List.getElem?_append_left hj] at e
          rw [List.take_append_of_le_length (by omega)]
          exact take_nodup hs.1 e
        refine ⟨true, rfl, ?_⟩
        rw [if_pos rfl]
        refine ⟨slen (by simp), ?_⟩
        have za : z ≠ a := fun e => mz (e ▸ ha)
        refine twice_wp' (tt := [z, a, z, a]) (i := 2) (.inr rfl) (fun s hm => ?_) rfl (by simp) (fun j s hj e => ?_) ?_
        · simp only [List.mem_cons, List.not_mem_nil, or_false] at hm
          rcases hm with rfl | rfl | rfl | rfl
          · exact nz
          · exact na
          · exact nz
          · exact na
        · have : j = 0 ∨ j = 1 := by omega
          rcases this with rfl | rfl
          · simp
          · simp at e; subst e; simp [Ne.symm za]
        · rw [List.append_assoc, List.append_assoc, List.append_assoc]
          exact fin D _ (p3.mono (by omega))
end
end K18
end Lk
set_option Elab.async false
set_option linter.all false
set_option maxRecDepth 100000
set_option maxHeartbeats 1000000
namespace Lk
open PySem L2
namespace K18
/-! the entries that are due: a list of lists that change -/
def DueAt (D : Ar) (hd : Nat) (ss : List Str) (kvs : List (List Key × PV)) : Prop :=
  D[hd]? = some (some (false, .lst ((List.range ss.length).map fun k => .m (hd + 1 + k)))) ∧ ∀ k s, ss[k]? = some s → D[hd + 1 + k]? = some (some (false, .lst (ss.map (entV kvs s))))
theorem DueAt.of {D D' : Ar} {hd : Nat} {ss : List Str} {kvs : List (List Key × PV)} (h : DueAt D hd ss kvs) (e : ∀ i, i < D.length → hd ≤ i → i ≤ hd + ss.length → D'[i]? = D[i]?) : DueAt D' hd ss kvs :=
  ⟨by rw [e hd (lt_of_get h.1) (Nat.le_refl _) (by omega)]; exact h.1, fun k s hk => by
    have hl := lt_of_get hk
    rw [e (hd + 1 + k) (lt_of_get (h.2 k s hk)) (by omega) (by omega)]; exact h.2 k s hk⟩
def IntE (kvs : List (List Key × PV)) : Prop := ∀ k v, pLook kvs k = some v → ∃ i, v = .int i
theorem IntE.ent {kvs : List (List Key × PV)} (h : IntE kvs) (a b : Str) : entV kvs a b = .non ∨ ∃ i, entV kvs a b = .int i := by
  unfold entV
  by_cases e : a = b
  · rw [if_pos e]; exact .inr ⟨_, rfl⟩
  · rw [if_neg e]
    cases q : pLook kvs [.inr a, .inr b] with
    | none => exact .inl rfl
    | some v => obtain ⟨i, rfl⟩ := h _ _ q; exact .inr ⟨i, rfl⟩
def dE : PV → PyData
  | .int i => .int i
  | _ => .none
theorem listD_map {α : Type} {f : PV → Option PyData} {g : α → PV} {k : α → PyData} : ∀ {l : List α}, (∀ x ∈ l, f (g x) = some (k x)) → listD f (l.map g) = some (l.map k)
  | [], _ => rfl
  | a :: l, h => by
    show (match f (g a), listD f (l.map g) with | some d, some ds => some (d :: ds) | _, _ => none) = _
    rw [h a List.mem_cons_self, listD_map fun x hx => h x (List.mem_cons_of_mem _ hx)]; rfl
section
variable {D : Ar} {hd : Nat} {ss : List Str} {kvs : List (List Key × PV)}
theorem ent_d (hc : IntE kvs) (n : Nat) (a b : Str) : toDA (n + 1) D (entV kvs a b) = some (dE (entV kvs a b)) := by
  rcases hc.ent a b with e | ⟨i, e⟩ <;> rw [e] <;> rfl
def dAll (kvs : List (List Key × PV)) (ss : List Str) : PyData := .list (ss.map fun a => .list (ss.map fun b => dE (entV kvs a b)))
theorem row_d (hc : IntE kvs) (n : Nat) (a : Str) : toDA (n + 2) D (rowV kvs ss a) = some (.list (ss.map fun b => dE (entV kvs a b))) := by
  show (listD (toDA (n + 1) D) (ss.map (entV kvs a))).map PyData.list = _
  rw [listD_map fun b _ => ent_d hc n a b]; rfl
theorem told_d (hc : IntE kvs) : toDA 64 D (.lst (ss.map (rowV kvs ss))) = some (dAll kvs ss) := by
  show (listD (toDA 63 D) (ss.map (rowV kvs ss))).map PyData.list = _
  rw [listD_map fun a _ => row_d hc 61 a]; rfl
theorem due_d (hc : IntE kvs) (h : DueAt D hd ss kvs) : toDA 64 D (.m hd) = some (dAll kvs ss) := by
  have e1 : dr D (.m hd) = .lst ((List.range ss.length).map fun k => .m (hd + 1 + k)) := by unfold dr; simp only [h.1]
  have e2 : toDA 64 D (.m hd) = (listD (toDA 63 D) ((List.range ss.length).map fun k => .m (hd + 1 + k))).map PyData.list := by
    show (match dr D (.m hd) with | .non => some PyData.none | .bl b => some (.bool b) | .int i => some (.int i) | .str z => some (.str z) | .lst xs => (listD (toDA 63 D) xs).map PyData.list | .tup xs => (listD (toDA 63 D) xs).map PyData.tuple | _ => none) = _
    rw [e1]
  rw [e2]
  have e3 : ∀ k ∈ List.range ss.length, toDA 63 D (.m (hd + 1 + k)) = some ((fun k => PyData.list (ss.map fun b => dE (entV kvs (ss.getD k "") b))) k) := fun k hk => by
    have hk := List.mem_range.mp hk
    have es : ss[k]? = some ss[k] := List.getElem?_eq_getElem hk
    have e4 : dr D (.m (hd + 1 + k)) = .lst (ss.map (entV kvs ss[k])) := by unfold dr; simp only [h.2 k _ es]
    show (match dr D (.m (hd + 1 + k)) with | .non => some PyData.none | .bl b => some (.bool b) | .int i => some (.int i) | .str z => some (.str z) | .lst xs => (listD (toDA 62 D) xs).map PyData.list | .tup xs => (listD (toDA 62 D) xs).map PyData.tuple | _ => none) = _
    rw [e4]
    show (listD (toDA 62 D) (ss.map (entV kvs ss[k]))).map PyData.list = _
    rw [listD_map fun b _ => ent_d hc 61 _ b]
    have : ss.getD k "" = ss[k] := by rw [List.getD_eq_getElem?_getD, es]; rfl
    show some (PyData.list (ss.map fun b => dE (entV kvs ss[k] b))) = some (PyData.list (ss.map fun b => dE (entV kvs (ss.getD k "") b)))
    rw [this]
  rw [listD_map e3]
  unfold dAll
  show some (PyData.list _) = some (PyData.list _)
  congr 2
  apply List.ext_getElem?
  intro i
  rw [List.getElem?_map, List.getElem?_map]
  by_cases hi : i < ss.length
  · rw [List.getElem?_range hi, List.getElem?_eq_getElem hi]
    have : ss.getD i "" = ss[i] := by rw [List.getD_eq_getElem?_getD, List.getElem?_eq_getElem hi]; rfl
    simp only [Option.map_some, this]
  · rw [List.getElem?_eq_none (by simpa using hi), List.getElem?_eq_none (by simpa using hi)]; rfl
theorem lay_row (f : Str → PV) : ∀ (l : List Str), PyData.canLayAll0 (l.map fun b => dE (f b)) = true ∧ PyData.depthAll (l.map fun b => dE (f b)) = 0
  | [] => ⟨rfl, rfl⟩
  | b :: l => by
    obtain ⟨h1, h2⟩ := lay_row f l
    have c1 : PyData.canLay0 (dE (f b)) = true ∧ PyData.depth (dE (f b)) = 0 := by unfold dE; split <;> exact ⟨rfl, rfl⟩
    refine ⟨?_, ?_⟩
    · show (PyData.canLay0 (dE (f b)) && PyData.canLayAll0 _) = true
      rw [c1.1, h1]; rfl
    · show max (PyData.depth (dE (f b))) (PyData.depthAll _) = 0
      rw [c1.2, h2]; rfl
theorem lay_all (ts : List Str) : ∀ (l : List Str), PyData.canLayAll0 (l.map fun a => PyData.list (ts.map fun b => dE (entV kvs a b))) = true ∧ PyData.depthAll (l.map fun a => PyData.list (ts.map fun b => dE (entV kvs a b))) ≤ 1
  | [] => ⟨rfl, Nat.zero_le _⟩
  | a :: l => by
    obtain ⟨h1, h2⟩ := lay_all ts l
    obtain ⟨c1, c2⟩ := lay_row (entV kvs a) ts
    refine ⟨?_, ?_⟩
    · show (PyData.canLayAll0 (ts.map fun b => dE (entV kvs a b)) && PyData.canLayAll0 _) = true
      rw [c1, h1]; rfl
    · show max (PyData.depthAll (ts.map fun b => dE (entV kvs a b)) + 1) (PyData.depthAll _) ≤ 1
      omega
theorem dAll_ok : SeqAt.shaped (dAll kvs ss) = true := by
  obtain ⟨h1, h2⟩ := lay_all (kvs := kvs) ss ss
  exact shp (n := 2) h1 (show PyData.depthAll _ + 1 ≤ 2 by omega) (by decide)
theorem eqv_row (f : Str → PV) : ∀ (l : List Str), PyData.eqvAll (l.map fun b => dE (f b)) (l.map fun b => dE (f b)) = true
  | [] => rfl
  | b :: l => by
    show (PyData.eqv (dE (f b)) (dE (f b)) && PyData.eqvAll _ _) = true
    have : PyData.eqv (dE (f b)) (dE (f b)) = true := by
      unfold dE; split
      · rename_i i _; show (i == i) = true; simp
      · rfl
    rw [this, eqv_row f l]; rfl
theorem dAll_eq : PyData.eqv (dAll kvs ss) (dAll kvs ss) = true := by
  show PyData.eqvAll _ _ = true
  suffices h : ∀ l : List Str, PyData.eqvAll (l.map fun a => PyData.list (ss.map fun b => dE (entV kvs a b))) (l.map fun a => PyData.list (ss.map fun b => dE (entV kvs a b))) = true from h ss
  intro l
  induction l with
  | nil => rfl
  | cons a l ih =>
    show (PyData.eqvAll (ss.map fun b => dE (entV kvs a b)) (ss.map fun b => dE (entV kvs a b)) && PyData.eqvAll _ _) = true
    rw [eqv_row (entV kvs a) ss, ih]; rfl
theorem ne_due (hc : IntE kvs) (h : DueAt D hd ss kvs) : pNeA D (.lst (ss.map (rowV kvs ss))) (.m hd) = some (.bl false) := by
  unfold pNeA
  rw [told_d hc, due_d hc h]
  refine (if_pos ⟨dAll_ok, dAll_ok⟩).trans ?_
  rw [dAll_eq]; rfl
theorem eq_due (hc : IntE kvs) (h : DueAt D hd ss kvs) : pEqA D (.lst (ss.map (rowV kvs ss))) (.m hd) = some (.bl true) := by
  unfold pEqA
  rw [told_d hc, due_d hc h]
  refine (if_pos ⟨dAll_ok, dAll_ok⟩).trans ?_
  rw [dAll_eq]
/-- the first entries -/
theorem row0 (hn : ss.Nodup) {i : Nat} {s : Str} (e : ss[i]? = some s) : (List.range ss.length).map (fun j => if i = j then PV.int 0 else .non) = ss.map (entV [] s) := by
  apply List.ext_getElem?
  intro j
  rw [List.getElem?_map, List.getElem?_map]
  by_cases hj : j < ss.length
  · rw [List.getElem?_range hj, List.getElem?_eq_getElem hj]
    have hej : ss[j]? = some ss[j] := List.getElem?_eq_getElem hj
    simp only [Option.map_some]
    unfold entV
    by_cases h : i = j
    · subst h
      rw [hej] at e
      cases e
      rw [if_pos rfl, if_pos rfl]
    · rw [if_neg h, if_neg (fun z => h (get_inj hn e (by rw [hej, z])))]; rfl
  · rw [List.getElem?_eq_none (by simpa using hj), List.getElem?_eq_none (by simpa using hj)]; rfl
/-- one entry set anew -/
theorem row_set (hn : ss.Nodup) {kvs' : List (List Key × PV)} {a b : Str} {j : Nat} {w : PV} (ej : ss[j]? = some b) (h : ∀ y, entV kvs' a y = if y = b then w else entV kvs a y) : (ss.map (entV kvs a)).set j w = ss.map (entV kvs' a) := by
  apply List.ext_getElem?
  intro k
  rw [List.getElem?_set, List.length_map, List.getElem?_map, List.getElem?_map]
  by_cases hk : j = k
  · subst hk
    rw [if_pos rfl, if_pos (lt_of_get ej), ej, Option.map_some, h b, if_pos rfl]
  · rw [if_neg hk]
    cases e : ss[k]? with
    | none => rfl
    | some y =>
      rw [Option.map_some, Option.map_some, h y, if_neg (fun z => hk (get_inj hn ej (by rw [e, z])))]
theorem key_eq {a b x y : Str} : ([Sum.inr a, Sum.inr b] : List Key) = [.inr x, .inr y] ↔ a = x ∧ b = y :=
  ⟨fun z => ⟨Sum.inr.inj (List.cons.inj z).1, Sum.inr.inj (List.cons.inj (List.cons.inj z).2).1⟩, fun ⟨h1, h2⟩ => by rw [h1, h2]⟩
theorem ent_put {a b : Str} {w : PV} (hab : a ≠ b) (x y : Str) : entV (pPut kvs [.inr a, .inr b] w) x y = if x = a ∧ y = b then w else entV kvs x y := by
  unfold entV
  rw [look_put]
  by_cases h : x = a ∧ y = b
  · rw [if_pos h, if_neg (by rw [h.1, h.2]; exact hab), if_pos (key_eq.mpr ⟨h.1.symm, h.2.symm⟩)]; rfl
  · rw [if_neg h, if_neg (fun z => h ⟨(key_eq.mp z).1.symm, (key_eq.mp z).2.symm⟩)]
theorem ent_drop {a b : Str} (hab : a ≠ b) (x y : Str) : entV (pDrop kvs [.inr a, .inr b]) x y = if x = a ∧ y = b then .non else entV kvs x y := by
  unfold entV
  rw [look_drop]
  by_cases h : x = a ∧ y = b
  · rw [if_pos h, if_neg (by rw [h.1, h.2]; exact hab), if_pos (key_eq.mpr ⟨h.1.symm, h.2.symm⟩)]; rfl
  · rw [if_neg h, if_neg (fun z => h ⟨(key_eq.mp z).1.symm, (key_eq.mp z).2.symm⟩)]
theorem IntE.put {k : List Key} {i : Int} (h : IntE kvs) : IntE (pPut kvs k (.int i)) := fun k' v e => by
  rw [look_put] at e
  by_cases q : k = k'
  · rw [if_pos q] at e; exact ⟨i, (Option.some.inj e).symm⟩
  · rw [if_neg q] at e; exact h _ _ e
theorem IntE.drop {k : List Key} (h : IntE kvs) : IntE (pDrop kvs k) := fun k' v e => by
  rw [look_drop] at e
  by_cases q : k = k'
  · rw [if_pos q] at e; cases e
  · rw [if_neg q] at e; exact h _ _ e
end
end K18
end Lk
set_option Elab.async false
set_option linter.all false
set_option maxRecDepth 100000
set_option maxHeartbeats 1000000
namespace Lk
open PySem L2
namespace K18
structure Iv (pp hb hd : Nat) (ss : List Str) (D : Ar) (n : Nat) (kvs : List (List Key × PV)) : Prop where
  pool : ∃ c, PoolC n c ∧ D[pp]? = some c
  bnd : BndAt D hb ss kvs
  due : DueAt D hd ss kvs
  int : IntE kvs
  len : kvs.length ≤ n
section
variable {pp hb hd n m : Nat} {ss : List Str} {D D' : Ar} {kvs kvs' : List (List Key × PV)} {Q : PV → Ar → Prop} {E : EQ}
theorem Iv.step (v : Iv pp hb hd ss D n kvs) (h1 : hb + 1 < hd) (h2 : hd + ss.length < pp) (e : ∀ i, i < D.length → i ≠ pp → D'[i]? = D[i]?) (hp : ∃ c, PoolC m c ∧ D'[pp]? = some c) (hnm : n ≤ m) : Iv pp hb hd ss D' m kvs :=
  ⟨hp, v.bnd.of fun i hi a b => e i hi (by omega), v.due.of fun i hi a b => e i hi (by omega), v.int, Nat.le_trans v.len hnm⟩
theorem Iv.pl (v : Iv pp hb hd ss D n kvs) : Pl D pp n D := by obtain ⟨c, hc, e⟩ := v.pool; exact Pl.of e hc
theorem Iv.take {k : Int} (v : Iv pp hb hd ss D n kvs) (h1 : hb + 1 < hd) (h2 : hd + ss.length < pp) (hn : n + 1 ≤ 1000000) (k0 : 0 < k) (k1 : k < 2 ^ 30)
    (q : ∀ (r : Int) D', 0 ≤ r → r < k → Iv pp hb hd ss D' (n + 1) kvs → Q (.int r) D') : wp (u__law_take (.m pp) (.int k)) D Q E :=
  take_pl v.pl hn k0 k1 fun r D' a b p => q r D' a b (v.step h1 h2 (fun i _ hi => p.get hi) p.at_ (by omega))
/-- one entry set in both -/
theorem Iv.write {i j : Nat} {a b : Str} {w : PV} (v : Iv pp hb hd ss D n kvs) (h1 : hb + 1 < hd) (h2 : hd + ss.length < pp) (hn : ss.Nodup) (ei : ss[i]? = some a) (ej : ss[j]? = some b)
    (hk : ∀ x y, entV kvs' x y = if x = a ∧ y = b then w else entV kvs x y) (hi : IntE kvs') (hl : kvs'.length ≤ n + 1) :
    Iv pp hb hd ss ((D.set (hd + 1 + i) (some (false, .lst ((ss.map (entV kvs a)).set j w)))).set (hb + 1) (some (false, .dT kvs'))) (n + 1) kvs' := by
  have li := lt_of_get ei
  have o1 : ∀ (k : Nat) (x y : Option (Bool × Cell)), k ≠ hd + 1 + i → k ≠ hb + 1 → ((D.set (hd + 1 + i) x).set (hb + 1) y)[k]? = D[k]? := fun k x y a b => by
    rw [List.getElem?_set_ne (Ne.symm b), List.getElem?_set_ne (Ne.symm a)]
  obtain ⟨c, hc, ec⟩ := v.pool
  refine ⟨⟨c, hc.mono (by omega), by rw [o1 _ _ _ (by omega) (by omega)]; exact ec⟩, ⟨by rw [o1 _ _ _ (by omega) (by omega)]; exact v.bnd.1, ?_⟩, ⟨by rw [o1 _ _ _ (by omega) (by omega)]; exact v.due.1, fun k s hs => ?_⟩, hi, hl⟩
  · exact List.getElem?_set_self (by rw [List.length_set]; exact lt_of_get v.bnd.2)
  · have lk := lt_of_get hs
    by_cases e : k = i
    · subst e
      rw [hs] at ei
      cases ei
      rw [List.getElem?_set_ne (by omega), List.getElem?_set_self (lt_of_get (v.due.2 k a hs))]
      rw [row_set hn ej fun y => by rw [hk a y]; simp]
    · rw [o1 _ _ _ (by omega) (by omega), v.due.2 k s hs]
      have : ∀ y, entV kvs' s y = entV kvs s y := fun y => by
        rw [hk s y, if_neg (fun z => e (get_inj hn hs (by rw [ei, z.1])))]
      have : entV kvs' s = entV kvs s := funext this
      rw [this]
theorem Iv.mono (v : Iv pp hb hd ss D n kvs) (k : n ≤ m) : Iv pp hb hd ss D m kvs := by
  obtain ⟨c, hc, e⟩ := v.pool
  exact ⟨⟨c, hc.mono k, e⟩, v.bnd, v.due, v.int, Nat.le_trans v.len k⟩
theorem p_neI {i j : Int} : pNe D (.int i) (.int j) = some (.bl (!decide (i = j))) := by unfold pNe pEqB; simp [sc, scal]
theorem p_neT (hs : ∀ s ∈ ss, Sx 100 s) : pNe D (.tup (ss.map PV.str)) (.tup (ss.map PV.str)) = some (.bl false) := by unfold pNe; rw [p_eqST hs hs]; simp
end
theorem whole_wp {w : PV} {A : Ar} {Q : PV → Ar → Prop} {E : EQ} {i : Int} (hw : w = .int i) (q : Q (.bl true) A) : wp (u__law_whole w) A Q E := by
  subst hw
  unfold u__law_whole b__law_whole
  simp only [wp_pure, wp_bind, wp_ask, wp_opt, wp_bad, wp_ite, wp_noX, wp_u1, wp_u2, wp_cons, wp_call, wp_lst, wp_tup, wp_star, wp_tru, wp_not, wp_and, wp_or, wp_andV, wp_orV, wp_notV, wp_asB, wp_part, wp_sl, wp_items, wp_enum, wp_signs, wp_range1, wp_seq, wp_exits, wp_def, wp_exM, wp_lc, wp_elt, fn1_app, fn2_app, fn3_app, if_true, Bool.false_eq_true, if_false]
  exact ⟨_, isi_of (n := "int") rfl kb6, _, rfl, by rw [if_pos rfl]; exact ⟨_, isi_of (n := "int") rfl kb7, _, rfl, q⟩⟩
theorem ix_nat {A : Ar} {xs : List PV} {i : Int} {v : PV} (h0 : 0 ≤ i) (h : xs[i.toNat]? = some v) : pIx A (.lst xs) (.int i) = some v := by
  have hl := lt_of_get h
  show atI xs _ = _
  unfold atI ixN
  rw [if_pos h0, if_pos (by omega)]
  exact h
theorem ix_cell {A : Ar} {h : Nat} {xs : List PV} {i : Int} {v : PV} (e : A[h]? = some (some (false, .lst xs))) (h0 : 0 ≤ i) (hv : xs[i.toNat]? = some v) : pIx A (.m h) (.int i) = some v := by
  have hl := lt_of_get hv
  have ed : dr A (.m h) = .lst xs := by unfold dr; simp only [e]
  have : pIx A (.m h) (.int i) = atI xs i := by unfold pIx; rw [ed]
  rw [this]
  unfold atI ixN
  rw [if_pos h0, if_pos (by omega)]
  exact hv
theorem law_wp (ns : List Int) : wp (u_law (.scr ns)) [] (fun v _ => v = .bl true) nE := by
  unfold u_law b_law
  simp only [wp_pure, wp_bind, wp_ask, wp_opt, wp_bad, wp_ite, wp_noX, wp_u1, wp_u2, wp_cons, wp_call, wp_lst, wp_tup, wp_star, wp_tru, wp_not, wp_and, wp_or, wp_andV, wp_orV, wp_notV, wp_asB, wp_part, wp_sl, wp_items, wp_enum, wp_signs, wp_range1, wp_seq, wp_exits, wp_def, wp_exM, wp_lc, wp_elt, fn1_app, fn2_app, fn3_app, if_true, Bool.false_eq_true, if_false, wp_newC, wp_fld, wp_make, wp_prop, wp_meth, wp_lenO, wp_revRange, wp_dc, wp_delt, wp_binO, wp_mulR, wp_negO, wp_getO, wp_newL, wp_append, wp_ifE, wp_chain, wp_itemsA, wp_listN, wp_inO, wp_enumA, fn4_app, fn5_app, wp_lcN, wp_isIns]
  refine cell_wp (by decide) fun i => pool_wp fun c hc => ?_
  refine take_pl (Pl.of (A := [c]) (h := 0) rfl hc) (by omega) (by decide) (by decide) fun r B1 h1 h2 p1 => ?_
  refine names_wp p1 (by omega) (by omega) (by omega) fun ss B2 hss hlen p2 => ?_
  have hl6 : ss.length ≤ 6 := by omega
  have b2 : B2.length = 1 := by rw [p2.len]; rfl
  have hsx : ∀ s ∈ ss, Sx 100 s := fun s z => (nm_sx (hss.2 s z)).mono (by decide)
  refine ⟨_, rfl, ?_⟩
  rw [b2]
  refine bnd_wp (.cell (j := 1) (by rw [List.getElem?_append_right (by omega), b2]; rfl)) hss.2 hss.1 (by omega) ⟨rfl, ?_⟩
  have l2 : (B2 ++ [some (false, Cell.lst (ss.map PV.str))]).length = 2 := by simp [b2]
  have rS := bndS_at (R := B2 ++ [some (false, Cell.lst (ss.map PV.str))]) (ss := ss)
  have gS : (bndS (B2 ++ [some (false, Cell.lst (ss.map PV.str))]) ss)[1]? = some (some (false, .lst (ss.map PV.str))) := by
    unfold bndS
    rw [List.getElem?_append_left (by rw [l2]; omega), List.getElem?_append_right (by omega), b2]; rfl
  have pS : Pl ([c] ++ ([some (false, Cell.lst (ss.map PV.str))] ++ [some (false, .ins "Bounds" (bndF (B2 ++ [some (false, Cell.lst (ss.map PV.str))]).length ss)), some (false, .dT [])])) 0 100 (bndS (B2 ++ [some (false, Cell.lst (ss.map PV.str))]) ss) := by
    unfold bndS; rw [List.append_assoc]; exact (p2.mono (by omega)).app
  have lS : (bndS (B2 ++ [some (false, Cell.lst (ss.map PV.str))]) ss).length = 4 := by unfold bndS; simp [b2]
  rw [l2] at rS ⊢
  generalize hgen : bndS (B2 ++ [some (false, Cell.lst (ss.map PV.str))]) ss = S at rS gS pS lS ⊢
  have pS' : Pl S 0 100 S := by obtain ⟨c, hc, e⟩ := pS.at_; exact Pl.of e hc
  refine take_pl pS' (by omega) (by decide) (by decide) fun v F v0 v2 pF => ⟨_, p_eqI, _, rfl, ?_⟩
  have pF : Pl S 0 101 F := pF
  have gF : F[1]? = some (some (false, .lst (ss.map PV.str))) := by rw [pF.get (by omega)]; exact gS
  have rF : BndAt F 2 ss [] := rS.of fun i _ a b => pF.get (by omega)
  have lF : F.length = 4 := by rw [pF.len, lS]
  refine eq_ite (fun e => ?_) fun e => ?_
  refine ⟨_, rfl, bnd_wp (.tup _) hss.2 hss.1 (by omega) ⟨rfl, ?_⟩⟩
  have gG : (bndS F ss)[1]? = some (some (false, .lst (ss.map PV.str))) := by unfold bndS; rw [List.getElem?_append_left (by omega)]; exact gF
  have rG : BndAt (bndS F ss) 4 ss [] := by have := bndS_at (R := F) (ss := ss); rw [lF] at this; exact this
  have lG : 6 ≤ (bndS F ss).length := by unfold bndS; simp [lF]
  rw [lF]
  have hbb : 4 ≤ 4 := Nat.le_refl _
  generalize bndS F ss = G at gG rG lG ⊢
  generalize hb4 : 4 = hb at rG hbb ⊢
  have hbS : hb + 1 < G.length := by omega
  have hb2 : 2 ≤ hb := by omega
  rotate_left
  have gG := gF
  have rG := rF
  have lG : 4 ≤ F.length := by omega
  generalize F = G at gG rG lG ⊢
  generalize hb4 : 2 = hb at rG ⊢
  have hbS : hb + 1 < G.length := by omega
  have hb2 : 2 ≤ hb := by omega
  all_goals
    refine ⟨_, lst_at' gG, app_at gG (by simp; omega) ?_⟩
    have rH : BndAt (G.set 1 (some (false, .lst (ss.map PV.str ++ [.str ("zz" : Str)])))) hb ss [] := rG.of fun i _ a b => by rw [List.getElem?_set_ne (by omega)]
    have lH : (G.set 1 (some (false, Cell.lst (ss.map PV.str ++ [.str ("zz" : Str)])))).length = G.length := by simp
    generalize G.set 1 (some (false, Cell.lst (ss.map PV.str ++ [.str ("zz" : Str)]))) = H at rH lH ⊢
    refine ⟨slen (by simp), ?_⟩
    refine ⟨.int ((ss.map PV.str).length : Nat), rfl, _, rfl, ?_⟩
    rw [List.length_map]
    refine ⟨⟨by omega, by omega⟩, ?_⟩
    refine wp_for (fun i _ D => i ≤ ss.length ∧ D = H ++ some (false, .lst ((List.range i).map fun k => .m (H.length + 1 + k))) :: (ss.take i).map fun s => some (false, Cell.lst (ss.map (entV [] s)))) ⟨Nat.zero_le _, rfl⟩ (fun i x _ D hx ⟨hi, hD⟩ => ?_) fun _ D ⟨hi, hD⟩ => ?_
    · subst hD
      obtain ⟨rfl, hil⟩ := range_at hx
      have hil : i < ss.length := by simpa using hil
      have es : ss[i]? = some ss[i] := List.getElem?_eq_getElem hil
      generalize hT : ((ss.take i).map fun s => some (false, Cell.lst (ss.map (entV [] s)))) = T
      have lT : T.length = i := by rw [← hT]; simp; omega
      simp only [wp_pure, wp_bind, wp_ask, wp_opt, wp_bad, wp_ite, wp_noX, wp_u1, wp_u2, wp_cons, wp_call, wp_lst, wp_tup, wp_star, wp_tru, wp_not, wp_and, wp_or, wp_andV, wp_orV, wp_notV, wp_asB, wp_part, wp_sl, wp_items, wp_enum, wp_signs, wp_range1, wp_seq, wp_exits, wp_def, wp_exM, wp_lc, wp_elt, fn1_app, fn2_app, fn3_app, if_true, Bool.false_eq_true, if_false, wp_newC, wp_fld, wp_make, wp_prop, wp_meth, wp_lenO, wp_revRange, wp_dc, wp_delt, wp_binO, wp_mulR, wp_negO, wp_getO, wp_newL, wp_append, wp_ifE, wp_chain, wp_itemsA, wp_listN, wp_inO, wp_enumA, fn4_app, fn5_app, wp_lcN, wp_isIns]
      refine ⟨_, rfl, _, lst_mid, .int ((ss.map PV.str).length : Nat), rfl, _, rfl, ?_⟩
      rw [List.length_map]
      refine ⟨⟨by omega, by omega⟩, slen (by rw [range_len]; omega), ?_⟩
      refine wp_comp (fun j acc C => C = H ++ some (false, .lst ((List.range i).map fun k => .m (H.length + 1 + k))) :: T ∧ acc = (List.range j).map fun j => if i = j then PV.int 0 else .non) ⟨rfl, rfl⟩ (fun j y acc C hy ⟨hC, ha⟩ => ?_) fun ys C ⟨hC, ha⟩ => ?_
      · subst hC ha
        obtain ⟨rfl, hj⟩ := range_at hy
        have e0 : ((0 : Int) + (i : Nat) = 0 + (j : Nat)) ↔ i = j := by omega
        simp only [wp_pure, wp_bind, wp_ask, wp_opt, wp_bad, wp_ite, wp_noX, wp_u1, wp_u2, wp_cons, wp_call, wp_lst, wp_tup, wp_star, wp_tru, wp_not, wp_and, wp_or, wp_andV, wp_orV, wp_notV, wp_asB, wp_part, wp_sl, wp_items, wp_enum, wp_signs, wp_range1, wp_seq, wp_exits, wp_def, wp_exM, wp_lc, wp_elt, fn1_app, fn2_app, fn3_app, if_true, Bool.false_eq_true, if_false, wp_newC, wp_fld, wp_make, wp_prop, wp_meth, wp_lenO, wp_revRange, wp_dc, wp_delt, wp_binO, wp_mulR, wp_negO, wp_getO, wp_newL, wp_append, wp_ifE, wp_chain, wp_itemsA, wp_listN, wp_inO, wp_enumA, fn4_app, fn5_app, wp_lcN, wp_isIns]
        refine ⟨_, rfl, _, p_eqI, _, rfl, eq_ite (fun e => ⟨trivial, ?_⟩) fun e => ⟨trivial, ?_⟩⟩
        · rw [List.range_succ, List.map_append, List.map_singleton, if_pos (e0.mp e)]
        · rw [List.range_succ, List.map_append, List.map_singleton, if_neg (fun z => e (e0.mpr z))]
      · subst hC ha
        have hr : (rangeOf 0 ((ss.length : Nat) : Int).toNat).length = ss.length := by rw [range_len]; simp
        rw [hr, row0 hss.1 es, List.append_assoc, List.cons_append]
        refine app_mid (by simp; omega) ⟨by omega, ?_⟩
        have e1 : (H ++ some (false, Cell.lst ((List.range i).map fun k => .m (H.length + 1 + k))) :: T).length = H.length + 1 + i := by simp [lT]; omega
        rw [e1, take_snoc es, List.map_append, ← hT, List.range_succ, List.map_append]; rfl
    · subst hD
      have hr : (rangeOf 0 ((ss.length : Nat) : Int).toNat).length = ss.length := by rw [range_len]; simp
      rw [hr, List.take_length]
      have dueH : DueAt (H ++ some (false, Cell.lst ((List.range ss.length).map fun k => .m (H.length + 1 + k))) :: ss.map fun s => some (false, Cell.lst (ss.map (entV [] s)))) H.length ss [] := by
        refine ⟨by simp, fun k s hk => ?_⟩
        have e1 : H.length + 1 + k - H.length = k + 1 := by omega
        rw [List.getElem?_append_right (by omega), e1, List.getElem?_cons_succ, List.getElem?_map, hk]; rfl
      have lD : (H ++ some (false, Cell.lst ((List.range ss.length).map fun k => .m (H.length + 1 + k))) :: ss.map fun s => some (false, Cell.lst (ss.map (entV [] s)))).length = H.length + 1 + ss.length := by simp; omega
      have rD : BndAt (H ++ some (false, Cell.lst ((List.range ss.length).map fun k => .m (H.length + 1 + k))) :: ss.map fun s => some (false, Cell.lst (ss.map (entV [] s)))) hb ss [] := rH.app
      generalize (H ++ some (false, Cell.lst ((List.range ss.length).map fun k => .m (H.length + 1 + k))) :: ss.map fun s => some (false, Cell.lst (ss.map (entV [] s)))) = D at dueH lD rD ⊢
      refine cell_wp (by decide) fun i2 => pool_wp fun c2 hc2 => ?_
      have iv0 : Iv D.length hb H.length ss (D ++ [c2]) 0 [] := ⟨⟨c2, hc2, by simp⟩, rD.app, dueH.of fun i hi _ _ => List.getElem?_append_left hi, (fun k v e => by cases e), Nat.le_refl _⟩
      have g1 : hb + 1 < H.length := by omega
      have g2 : H.length + ss.length < D.length := by omega
      generalize H.length = hd at iv0 g1 g2 ⊢
      generalize D.length = pp at iv0 g2 ⊢
      refine iv0.take g1 g2 (by omega) (by decide) (by decide) fun many D2 m0 m1 iv1 => ⟨_, rfl, ⟨by omega, by omega⟩, ?_⟩
      refine wp_for (fun i _ D => ∃ kvs, Iv pp hb hd ss D (100 * i + 1) kvs) ⟨[], by simpa using iv1⟩ (fun i x _ D hx ⟨kvs, iv⟩ => ?_) fun _ D ⟨kvs, iv⟩ => ?_
      · obtain ⟨rfl, hi⟩ := range_at hx
        have hi : i < 31 := by omega
        simp only [wp_pure, wp_bind, wp_ask, wp_opt, wp_bad, wp_ite, wp_noX, wp_u1, wp_u2, wp_cons, wp_call, wp_lst, wp_tup, wp_star, wp_tru, wp_not, wp_and, wp_or, wp_andV, wp_orV, wp_notV, wp_asB, wp_part, wp_sl, wp_items, wp_enum, wp_signs, wp_range1, wp_seq, wp_exits, wp_def, wp_exM, wp_lc, wp_elt, fn1_app, fn2_app, fn3_app, if_true, Bool.false_eq_true, if_false, wp_newC, wp_fld, wp_make, wp_prop, wp_meth, wp_lenO, wp_revRange, wp_dc, wp_delt, wp_binO, wp_mulR, wp_negO, wp_getO, wp_newL, wp_append, wp_ifE, wp_chain, wp_itemsA, wp_listN, wp_inO, wp_enumA, fn4_app, fn5_app, wp_lcN, wp_isIns]
        refine ⟨_, rfl, _, iv.bnd.ins, names_at iv.bnd ⟨_, rfl, _, p_neT hsx, _, rfl, ?_⟩⟩
        rw [if_neg (by decide)]
        refine ⟨_, iv.bnd.ins, blen_wp iv.bnd ⟨_, rfl, ⟨by omega, by omega⟩, .int ((ss.map PV.str).length : Nat), rfl, ?_⟩⟩
        rw [List.length_map]
        refine ⟨.bl false, by simp [p_neI], _, rfl, ?_⟩
        rw [if_neg (by decide)]
        refine entries_wp iv.bnd hss.2 (by omega) iv.int.ent ⟨_, ne_due iv.int iv.due, _, rfl, ?_⟩
        rw [if_neg (by decide)]
        refine ⟨slen (by simp), .bl (decide (ss = [])), by unfold pEq; rw [show (PV.lst []) = .lst (([] : List Str).map PV.str) from rfl, p_eqSL hsx (fun s z => absurd z List.not_mem_nil)]; rfl, _, rfl, ?_⟩
        refine eq_ite (fun _ => trivial) fun hne => ?_
        have hp : 0 < ss.length := List.length_pos_iff.mpr hne
        refine ⟨.int ((ss.map PV.str).length : Nat), rfl, ?_⟩
        rw [List.length_map]
        refine iv.take g1 g2 (by omega) (by omega) (by omega) fun r1 D3 a1 a2 iv3 => ⟨.int ((ss.map PV.str).length : Nat), rfl, ?_⟩
        rw [List.length_map]
        refine iv3.take g1 g2 (by omega) (by omega) (by omega) fun r2 D4 a3 a4 iv4 => ?_
        refine iv4.take g1 g2 (by omega) (by decide) (by decide) fun kd D5 a5 a6 iv5 => ?_
        obtain ⟨sa, e1, ma, ea⟩ := ix_str (A := D5) (ss := ss) a1 a2
        obtain ⟨sb, e2, mb, eb⟩ := ix_str (A := D5) (ss := ss) a3 a4
        obtain ⟨i1, rfl⟩ := Int.eq_ofNat_of_zero_le a1
        obtain ⟨j1, rfl⟩ := Int.eq_ofNat_of_zero_le a3
        rw [Int.toNat_natCast] at ea eb
        have sxa : Sx 100 sa := hsx sa ma
        have sxb : Sx 100 sb := hsx sb mb
        refine ⟨_, e1, _, e2, _, p_eqI, _, rfl, ?_⟩
        have iv6 := iv5.mono (show _ ≤ 100 * i + 60 by omega)
        refine eq_ite (fun k0 => ?_) fun k0 => ?_
        refine refused_wp iv5.pl.kp0 iv5.bnd (by omega) hss (by omega) ma mb (by have := iv5.len; omega) (by omega) fun D6 kD eD => ⟨_, rfl, ?_⟩
        rw [if_neg (by decide)]
        have iv7 : Iv pp hb hd ss D6 (100 * i + 60) kvs := iv5.step g1 g2 (fun i hi hp => eD i hi hp) (by obtain ⟨_, ⟨c, hc, e⟩, _⟩ := kD; exact ⟨c, hc.mono (by omega), e⟩) (by omega)
        clear iv6
        rotate_left
        have iv7 := iv6
        clear iv6
        generalize D5 = D6 at iv7 ⊢
        all_goals
          refine ⟨_, p_gtI, _, rfl, eq_ite (fun kp => ⟨.bl (!decide ((i1 : Int) = j1)), p_neI, _, rfl, bnot_ite (fun hij => ?_) fun hij => ⟨kvs, iv7.mono (by omega)⟩⟩) fun kp => ⟨kvs, iv7.mono (by omega)⟩⟩
          have hij' : i1 ≠ j1 := fun e => hij (by rw [e])
          have hab : sa ≠ sb := fun e => hij' (get_inj hss.1 ea (by rw [eb, e]))
          have fab : strg ss sa sb = none := List.find?_eq_none.mpr fun x hx => by
            simp only [List.mem_cons, List.not_mem_nil, or_false] at hx
            rcases hx with rfl | rfl
            · simp [ma]
            · simp [mb]
          refine ⟨_, p_addI, cell_wp (by omega) fun i3 => ⟨_, rfl, _, rfl, _, p_mod (by decide), _, rfl, slen (by simp), ?_⟩⟩
          refine iv7.take g1 g2 (by omega) (by decide) (by decide) fun s0 D7 s1 s2 iv8 => ?_
          obtain ⟨sg, es, hsg⟩ : ∃ sg : Int, pIx D7 (.lst [.int 1, .int (0 - 1)]) (.int s0) = some (.int sg) ∧ (-(2 ^ 64) < sg ∧ sg < 2 ^ 64) := by
            have : s0 = 0 ∨ s0 = 1 := by omega
            rcases this with rfl | rfl
            · exact ⟨1, rfl, by decide⟩
            · exact ⟨0 - 1, rfl, by decide⟩
          have mulJ : ∀ (A : Ar) (x : Int), pMul A (.int x) (.int sg) = some (.int (x * sg)) := fun A x => by
            simp only [pMul, drW]
            rw [if_pos (.inl (.inr hsg))]
          refine ⟨_, es, _, mulJ _ _, ?_⟩
          refine iv8.take g1 g2 (by omega) (by decide) (by decide) fun t0 D8 t1 t2 iv9 => ⟨_, rfl, slen (by simp), _, rfl, ?_⟩
          generalize (if i3 < 0 then -i3 else i3) % (10 : Int) ^ (60 : Int).toNat * sg = gr
          obtain ⟨w, ew, hw⟩ : ∃ w, pIx D8 (.lst [.non, .int 0, .int (t0 - 4), .int gr]) (.int (kd - 1)) = some w ∧ (w = .non ∨ ∃ z, w = .int z) := by
            have : kd = 1 ∨ kd = 2 ∨ kd = 3 ∨ kd = 4 := by omega
            rcases this with rfl | rfl | rfl | rfl
            · exact ⟨_, rfl, .inl rfl⟩
            · exact ⟨_, rfl, .inr ⟨_, rfl⟩⟩
            · exact ⟨_, rfl, .inr ⟨_, rfl⟩⟩
            · exact ⟨_, rfl, .inr ⟨_, rfl⟩⟩
          have li := lt_of_get ea
          have lj := lt_of_get eb
          have hnd : ((List.range ss.length).map fun k => PV.m (hd + 1 + k))[((i1 : Nat) : Int).toNat]? = some (.m (hd + 1 + i1)) := by
            rw [Int.toNat_natCast, List.getElem?_map, List.getElem?_range li]; rfl
          have row8 := iv9.due.2 i1 sa ea
          refine ⟨w, ew, _, ix_cell iv9.due.1 (by omega) hnd, wp_do ⟨_, set_lst row8 (by rw [List.length_map]; exact lj), ?_⟩⟩
          have due9 : (D8.set (hd + 1 + i1) (some (false, Cell.lst ((ss.map (entV kvs sa)).set j1 w))))[hd]? = some (some (false, .lst ((List.range ss.length).map fun k => PV.m (hd + 1 + k)))) := by
            rw [List.getElem?_set_ne (by omega)]; exact iv9.due.1
          have row9 : (D8.set (hd + 1 + i1) (some (false, Cell.lst ((ss.map (entV kvs sa)).set j1 w))))[hd + 1 + i1]? = some (some (false, .lst ((ss.map (entV kvs sa)).set j1 w))) := List.getElem?_set_self (lt_of_get row8)
          have bnd9 : BndAt (D8.set (hd + 1 + i1) (some (false, Cell.lst ((ss.map (entV kvs sa)).set j1 w)))) hb ss kvs := iv9.bnd.of fun i _ a b => by rw [List.getElem?_set_ne (by omega)]
          refine ⟨_, ix_cell due9 (by omega) hnd, w, ix_cell row9 (by omega) (by rw [Int.toNat_natCast, List.getElem?_set_self (by rw [List.length_map]; exact lj)]), slen (by simp), ⟨_, bnd9.ins⟩, ?_⟩
          have rest : ∀ kvs', (∀ x y, entV kvs' x y = if x = sa ∧ y = sb then w else entV kvs x y) → IntE kvs' → kvs'.length ≤ 100 * i + 60 + 1 + 1 + 1 →
              Iv pp hb hd ss ((D8.set (hd + 1 + i1) (some (false, Cell.lst ((ss.map (entV kvs sa)).set j1 w)))).set (hb + 1) (some (false, .dT kvs'))) (100 * i + 60 + 1 + 1 + 1) kvs' := fun kvs' hk hi hl => iv9.write g1 g2 hss.1 ea eb hk hi hl
          refine bset_wp bnd9 sxa sxb (by rcases hw with rfl | ⟨z, rfl⟩ <;> constructor) (by have := iv9.len; omega) (fun _ _ hz => ?_) (fun _ _ hz => ?_) (fun z hz => by rw [fab] at hz; cases hz) (fun _ h => absurd h hab) (fun _ _ hz hi => ?_)
          · subst hz
            have iv10 := rest _ (fun x y => ent_drop hab x y) iv9.int.drop (by have := iv9.len; have := dropP_len (kvs := kvs) (k := ([Sum.inr sa, Sum.inr sb] : List Key)); omega)
            have e10 : (ss.map (entV (pDrop kvs [Sum.inr sa, Sum.inr sb]) sa))[((j1 : Nat) : Int).toNat]? = some .non := by
              rw [Int.toNat_natCast, List.getElem?_map, eb, Option.map_some, ent_drop hab, if_pos ⟨rfl, rfl⟩]
            refine ⟨_, ix_cell iv10.due.1 (by omega) hnd, _, ix_cell (iv10.due.2 i1 sa ea) (by omega) e10, _, rfl, _, rfl, ?_⟩
            rw [if_neg (by decide)]
            exact ⟨_, iv10.mono (by omega)⟩
          · rcases hw with rfl | ⟨z, rfl⟩
            · cases hz
            have iv10 := rest _ (fun x y => ent_put hab x y) iv9.int.put (by have := iv9.len; have := putP_len (kvs := kvs) (k := ([Sum.inr sa, Sum.inr sb] : List Key)) (v := .int z); omega)
            have e10 : (ss.map (entV (pPut kvs [Sum.inr sa, Sum.inr sb] (.int z)) sa))[((j1 : Nat) : Int).toNat]? = some (.int z) := by
              rw [Int.toNat_natCast, List.getElem?_map, eb, Option.map_some, ent_put hab, if_pos ⟨rfl, rfl⟩]
            refine ⟨_, ix_cell iv10.due.1 (by omega) hnd, _, ix_cell (iv10.due.2 i1 sa ea) (by omega) e10, _, rfl, _, rfl, ?_⟩
            rw [if_pos rfl]
            refine ⟨slen (by simp), ⟨_, iv10.bnd.ins⟩, bget_wp iv10.bnd sxa sxb (fun _ => whole_wp (i := z) (by rw [ent_put hab, if_pos ⟨rfl, rfl⟩]) ⟨_, rfl, ?_⟩) fun z' hz' => by rw [fab] at hz'; cases hz'⟩
            rw [if_neg (by decide)]
            exact ⟨_, iv10.mono (by omega)⟩
          · rcases hw with rfl | ⟨z, rfl⟩
            · exact absurd rfl hz
            · cases hi
      · refine entries_wp iv.bnd hss.2 (by omega) iv.int.ent ⟨_, eq_due iv.int iv.due, rfl⟩
theorem law_true (ns : List Int) : ∃ A', u_law (.scr ns) [] = some (.ok (.bl true), A') := by
  obtain ⟨v, B, e, rfl⟩ := wp_run (law_wp ns)
  exact ⟨B, e⟩
end K18
end Lk
set_option Elab.async false
set_option linter.all false
set_option maxRecDepth 100000
namespace Lk
open PySem L2
/-- what the written part says of an exception class of the package: under LookError, under ValueError -/
abbrev lineOf (L : Addr) : List Value := [.ref L, .type "ValueError", .type "Exception", .type "BaseException", .type "object"]
structure Cl (K : PySem.W.Frag) (L C : Addr) : Prop where
  cls : ∃ cd, PySem.W.clsIn K C = some cd ∧ cd.mro = .ref C :: lineOf L
  tyC : PySem.W.typeIn K (.ref C) = some (.type "type")
theorem cl_of {K : PySem.W.Frag} {L C : Addr} {nm q N bs sn sub ab col dd k0 k1 k2 k3 k5}
    (h : K.lookup C = some (excClassObj nm q C N bs (lineOf L) true sn sub ab col dd k0 k1 k2 k3 k5 "ValueError.__new__")) (t : PySem.W.typeIn K (.ref C) = some (.type "type")) : Cl K L C := by
  refine ⟨⟨_, by unfold PySem.W.clsIn; rw [h] <;> rfl, rfl⟩, t⟩
theorem refs_line (L : Addr) : PySem.HandSPX.refsVE (lineOf L) = true := by
  show PySem.HandSPX.refsVE [.type "ValueError", .type "Exception", .type "BaseException", .type "object"] = true
  decide +kernel
theorem Cl.sub {K : PySem.W.Frag} {L C : Addr} (c : Cl K L C) (v : Value) : PySem.W.subIn K (.ref C) v = some ((Value.ref C :: lineOf L).contains v) := by
  obtain ⟨cd, h, m⟩ := c.cls
  show PySem.W.mroIn K C v = _
  unfold PySem.W.mroIn
  rw [h, Option.bind_some, m]
  rfl
theorem Cl.kit {K : PySem.W.Frag} {L C D : Addr} (c : Cl K L C) (d : Cl K L D) (ne : D ≠ L) : PySem.W.kitOne K (.ref C) (.ref D) = some (decide (C = D)) := by
  unfold PySem.W.kitOne
  by_cases e : C = D
  · subst e
    rw [if_pos (by simp), decide_eq_true rfl]
  · rw [if_neg (by simpa using e), decide_eq_false e]
    obtain ⟨cd, h, _⟩ := d.cls
    show (if ((PySem.W.clsIn K D).isSome && PySem.W.typeIn K (.ref D) == some (.type "type")) = true then PySem.W.subIn K (.ref C) (.ref D) else none) = _
    rw [if_pos (by rw [h, d.tyC]; rfl), c.sub]
    congr 1
    simp [lineOf, Ne.symm e, ne, fun z => e (Eq.symm z)]
theorem Cl.kitL {K : PySem.W.Frag} {L C : Addr} (c : Cl K L C) (hL : PySem.W.isClsIn K L = true) (tL : PySem.W.typeIn K (.ref L) = some (.type "type")) : PySem.W.kitOne K (.ref C) (.ref L) = some true := by
  unfold PySem.W.kitOne
  by_cases e : C = L
  · subst e; rw [if_pos (by simp)]
  · rw [if_neg (by simpa using e)]
    have hL : (PySem.W.clsIn K L).isSome = true := hL
    show (if ((PySem.W.clsIn K L).isSome && PySem.W.typeIn K (.ref L) == some (.type "type")) = true then PySem.W.subIn K (.ref C) (.ref L) else none) = _
    rw [if_pos (by rw [hL, tL]; rfl), c.sub]
    congr 1
    simp [lineOf]
theorem Cl.kitV {K : PySem.W.Frag} {L C : Addr} (c : Cl K L C) : PySem.W.kitOne K (.ref C) (.type "ValueError") = some true := by
  unfold PySem.W.kitOne
  rw [if_neg (by simp)]
  show (if PySem.W.kitMeta "ValueError" = true then PySem.W.subIn K (.ref C) (.type "ValueError") else none) = _
  rw [if_pos (by decide +kernel), c.sub]
  simp [lineOf]
theorem getD_inj {l : List Addr} (h : l.Nodup) {i j : Nat} (hi : i < l.length) (hj : j < l.length) : (l.getD i 0 = l.getD j 0) ↔ i = j := by
  rw [List.getD_eq_getElem?_getD, List.getD_eq_getElem?_getD, List.getElem?_eq_getElem hi, List.getElem?_eq_getElem hj]
  constructor
  · intro e
    exact get_inj h (List.getElem?_eq_getElem hi) (by rw [List.getElem?_eq_getElem hj]; exact congrArg some e.symm)
  · intro e; subst e; rfl
end Lk
namespace Lk
open PySem L2
theorem getD_mem {α : Type} {l : List α} {x : α} {i : Nat} (h : i < l.length) : l.getD i x ∈ l := by
  rw [List.getD_eq_getElem?_getD, List.getElem?_eq_getElem h]
  exact List.getElem_mem h
def sp_end (K : PySem.W.Frag) : Sp := fun vs H Q _ => ∃ (a : Addr) (ns : List Int), vs = [.ref a] ∧ SqL K H a (ns.map V.int) ∧ ns.length ≤ 63 ∧ ∀ H' : Hp, Kp [] H H' → Q (.bl true) H'
end Lk
namespace Lk
open PySem L2
/-- what «except S» takes: S itself -/
theorem exm_own {K : PySem.W.Frag} {S : Addr} (hB : PySem.W.subIn K (.ref S) (.type "BaseException") = some true) (hc : PySem.W.isClsIn K S = true) (ht : PySem.W.typeIn K (.ref S) = some (.type "type")) (hs : PySem.W.subIn K (.ref S) (.ref S) = some true) :
    PySem.W.exmOne K (.ref S) (.ref S) = some true := by
  have c : (PySem.W.clsIn K S).isSome = true := hc
  unfold PySem.W.exmOne PySem.W.kitCls
  simp [hB, ht, hs, c]
end Lk
set_option Elab.async false
set_option linter.all false
set_option maxRecDepth 100000
set_option maxHeartbeats 8000000
namespace Lk
open PySem L2
namespace K18
theorem exm_sub {K : PySem.W.Frag} {S T : Addr} {b : Bool} (hB : PySem.W.subIn K (.ref T) (.type "BaseException") = some true) (hc : PySem.W.isClsIn K T = true) (ht : PySem.W.typeIn K (.ref T) = some (.type "type")) (hs : PySem.W.subIn K (.ref S) (.ref T) = some b) :
    PySem.W.exmOne K (.ref S) (.ref T) = some b := by
  have c : (PySem.W.clsIn K T).isSome = true := hc
  unfold PySem.W.exmOne PySem.W.kitCls
  simp [hB, ht, hs, c]
def sp_last (K : PySem.W.Frag) : Sp := fun vs H Q _ => ∃ (a : Addr) (ns : List Int), vs = [.ref a] ∧ SqL K H a (ns.map V.int) ∧ ns.length ≤ 63 ∧ ∀ H' : Hp, Q (.bl true) H'
theorem last_of {g : Gx} {vs : List V} {H : Hp} {Q : VK} {E : XK} (h : sp_last g.K vs H Q E) : spL g 1 (fn1 u_law) vs H Q E := by
  obtain ⟨a, ns, rfl, hs, hl, q⟩ := h
  obtain ⟨A', e⟩ := law_true ns
  refine ⟨[], H, [], [], [.scr ns], .bl true, A', rfl, ⟨fun _ _ h => h, fun i l c e => ?_, fun i j x y a e => ?_, rfl, fun x h => absurd h List.not_mem_nil, fun x h => absurd h List.not_mem_nil, fun i c a e => ?_, fun x h => absurd h List.not_mem_nil⟩, .cons (.scr hs) .nil, e, fun F' ρ' H' k h x r => ?_⟩
  · simp at e
  · simp at e
  · simp at e
  · rw [r.bl_inv]; exact q H'
theorem all_mk {P : Program} {w : World} {K : PySem.W.Frag} {h : Heap} {mg : Str → Option Value} {fa : Addr} (X : K.In h) (G : h.Ns mainGlobals mg) (hfa : mg "law" = some (.ref fa))
    {C_BadName C_NameTaken C_NoFile C_SameFile C_BadNumber C_Bounds f_BadName___init__ f_NameTaken___init__ f_NoFile___init__ f_SameFile___init__ f_BadNumber___init__ f_is_name f_is_integer f_refuse_strangers f_Bounds___init__ f_Bounds_names p_Bounds_names f_Bounds___len__ f_Bounds___getitem__ f_Bounds___setitem__ f__law_cell f__law_pool f__law_take f__law_names f__law_stranger f__law_entries f__law_whole f__law_refusal f__law_read f__law_twice f__law_bad f__law_refused f_law L : Addr}
    {t_LETTERS : Tok}
    {t_LONGEST_NAME : Tok}
    {t_NAME_CHARACTERS : Tok}
    {nm_BadName q_BadName : Str} {N_BadName : Addr} {bs_BadName sub_BadName : List Value} {sn_BadName : List Str} {ab_BadName : Bool} {col_BadName : Option Bool} {dd_BadName : Option Addr} {x0_BadName x1_BadName x2_BadName x3_BadName x5_BadName : Option Value}
    {od_BadName___init__ an_BadName___init__ : Option Addr}
    {sl_BadName___init__ : Array (Option Value)}
    {oc_BadName___init__ kV_BadName___init__ dc_BadName___init__ pm_BadName___init__ cd_BadName___init__ ct_BadName___init__ : Value}
    {nm_NameTaken q_NameTaken : Str} {N_NameTaken : Addr} {bs_NameTaken sub_NameTaken : List Value} {sn_NameTaken : List Str} {ab_NameTaken : Bool} {col_NameTaken : Option Bool} {dd_NameTaken : Option Addr} {x0_NameTaken x1_NameTaken x2_NameTaken x3_NameTaken x5_NameTaken : Option Value}
    {od_NameTaken___init__ an_NameTaken___init__ : Option Addr}
    {sl_NameTaken___init__ : Array (Option Value)}
    {oc_NameTaken___init__ kV_NameTaken___init__ dc_NameTaken___init__ pm_NameTaken___init__ cd_NameTaken___init__ ct_NameTaken___init__ : Value}
    {nm_NoFile q_NoFile : Str} {N_NoFile : Addr} {bs_NoFile sub_NoFile : List Value} {sn_NoFile : List Str} {ab_NoFile : Bool} {col_NoFile : Option Bool} {dd_NoFile : Option Addr} {x0_NoFile x1_NoFile x2_NoFile x3_NoFile x5_NoFile : Option Value}
    {od_NoFile___init__ an_NoFile___init__ : Option Addr}
    {sl_NoFile___init__ : Array (Option Value)}
    {oc_NoFile___init__ kV_NoFile___init__ dc_NoFile___init__ pm_NoFile___init__ cd_NoFile___init__ ct_NoFile___init__ : Value}
    {nm_SameFile q_SameFile : Str} {N_SameFile : Addr} {bs_SameFile sub_SameFile : List Value} {sn_SameFile : List Str} {ab_SameFile : Bool} {col_SameFile : Option Bool} {dd_SameFile : Option Addr} {x0_SameFile x1_SameFile x2_SameFile x3_SameFile x5_SameFile : Option Value}
    {od_SameFile___init__ an_SameFile___init__ : Option Addr}
    {sl_SameFile___init__ : Array (Option Value)}
    {oc_SameFile___init__ kV_SameFile___init__ dc_SameFile___init__ pm_SameFile___init__ cd_SameFile___init__ ct_SameFile___init__ : Value}
    {nm_BadNumber q_BadNumber : Str} {N_BadNumber : Addr} {bs_BadNumber sub_BadNumber : List Value} {sn_BadNumber : List Str} {ab_BadNumber : Bool} {col_BadNumber : Option Bool} {dd_BadNumber : Option Addr} {x0_BadNumber x1_BadNumber x2_BadNumber x3_BadNumber x5_BadNumber : Option Value}
    {od_BadNumber___init__ an_BadNumber___init__ : Option Addr}
    {sl_BadNumber___init__ : Array (Option Value)}
    {oc_BadNumber___init__ kV_BadNumber___init__ dc_BadNumber___init__ pm_BadNumber___init__ cd_BadNumber___init__ ct_BadNumber___init__ : Value}
    {od_is_name an_is_name : Option Addr}
    {sl_is_name : Array (Option Value)}
    {oc_is_name kV_is_name dc_is_name pm_is_name cd_is_name ct_is_name : Value}
    {od_is_integer an_is_integer : Option Addr}
    {sl_is_integer : Array (Option Value)}
    {oc_is_integer kV_is_integer dc_is_integer pm_is_integer cd_is_integer ct_is_integer : Value}
    {od_refuse_strangers an_refuse_strangers : Option Addr}
    {sl_refuse_strangers : Array (Option Value)}
    {oc_refuse_strangers kV_refuse_strangers dc_refuse_strangers pm_refuse_strangers cd_refuse_strangers ct_refuse_strangers : Value}
    {od_Bounds___init__ an_Bounds___init__ : Option Addr}
    {sl_Bounds___init__ : Array (Option Value)}
    {oc_Bounds___init__ kV_Bounds___init__ dc_Bounds___init__ pm_Bounds___init__ cd_Bounds___init__ ct_Bounds___init__ : Value}
    {r_Bounds_names : List Value}
    {od_Bounds_names an_Bounds_names : Option Addr}
    {sl_Bounds_names : Array (Option Value)}
    {oc_Bounds_names kV_Bounds_names dc_Bounds_names pm_Bounds_names cd_Bounds_names ct_Bounds_names : Value}
    {od_Bounds___len__ an_Bounds___len__ : Option Addr}
    {sl_Bounds___len__ : Array (Option Value)}
    {oc_Bounds___len__ kV_Bounds___len__ dc_Bounds___len__ pm_Bounds___len__ cd_Bounds___len__ ct_Bounds___len__ : Value}
    {od_Bounds___getitem__ an_Bounds___getitem__ : Option Addr}
    {sl_Bounds___getitem__ : Array (Option Value)}
    {oc_Bounds___getitem__ kV_Bounds___getitem__ dc_Bounds___getitem__ pm_Bounds___getitem__ cd_Bounds___getitem__ ct_Bounds___getitem__ : Value}
    {od_Bounds___setitem__ an_Bounds___setitem__ : Option Addr}
    {sl_Bounds___setitem__ : Array (Option Value)}
    {oc_Bounds___setitem__ kV_Bounds___setitem__ dc_Bounds___setitem__ pm_Bounds___setitem__ cd_Bounds___setitem__ ct_Bounds___setitem__ : Value}
    {od__law_cell an__law_cell : Option Addr}
    {sl__law_cell : Array (Option Value)}
    {oc__law_cell kV__law_cell dc__law_cell pm__law_cell cd__law_cell ct__law_cell : Value}
    {od__law_pool an__law_pool : Option Addr}
    {sl__law_pool : Array (Option Value)}
    {oc__law_pool kV__law_pool dc__law_pool pm__law_pool cd__law_pool ct__law_pool : Value}
    {od__law_take an__law_take : Option Addr}
    {sl__law_take : Array (Option Value)}
    {oc__law_take kV__law_take dc__law_take pm__law_take cd__law_take ct__law_take : Value}
    {od__law_names an__law_names : Option Addr}
    {sl__law_names : Array (Option Value)}
    {oc__law_names kV__law_names dc__law_names pm__law_names cd__law_names ct__law_names : Value}
    {od__law_stranger an__law_stranger : Option Addr}
    {sl__law_stranger : Array (Option Value)}
    {oc__law_stranger kV__law_stranger dc__law_stranger pm__law_stranger cd__law_stranger ct__law_stranger : Value}
    {od__law_entries an__law_entries : Option Addr}
    {sl__law_entries : Array (Option Value)}
    {oc__law_entries kV__law_entries dc__law_entries pm__law_entries cd__law_entries ct__law_entries : Value}
    {od__law_whole an__law_whole : Option Addr}
    {sl__law_whole : Array (Option Value)}
    {oc__law_whole kV__law_whole dc__law_whole pm__law_whole cd__law_whole ct__law_whole : Value}
    {od__law_refusal an__law_refusal : Option Addr}
    {sl__law_refusal : Array (Option Value)}
    {oc__law_refusal kV__law_refusal dc__law_refusal pm__law_refusal cd__law_refusal ct__law_refusal : Value}
    {od__law_read an__law_read : Option Addr}
    {sl__law_read : Array (Option Value)}
    {oc__law_read kV__law_read dc__law_read pm__law_read cd__law_read ct__law_read : Value}
    {od__law_twice an__law_twice : Option Addr}
    {sl__law_twice : Array (Option Value)}
    {oc__law_twice kV__law_twice dc__law_twice pm__law_twice cd__law_twice ct__law_twice : Value}
    {od__law_bad an__law_bad : Option Addr}
    {sl__law_bad : Array (Option Value)}
    {oc__law_bad kV__law_bad dc__law_bad pm__law_bad cd__law_bad ct__law_bad : Value}
    {od__law_refused an__law_refused : Option Addr}
    {sl__law_refused : Array (Option Value)}
    {oc__law_refused kV__law_refused dc__law_refused pm__law_refused cd__law_refused ct__law_refused : Value}
    {od_law an_law : Option Addr}
    {sl_law : Array (Option Value)}
    {oc_law kV_law dc_law pm_law cd_law ct_law : Value}
    (y_LETTERS : PySem.W.nsIn K mainGlobals "LETTERS" = some (some (.str "abcdefghijklmnopqrstuvwxyz" t_LETTERS)))
    (y_LONGEST_NAME : PySem.W.nsIn K mainGlobals "LONGEST_NAME" = some (some (.int 8 t_LONGEST_NAME)))
    (y_NAME_CHARACTERS : PySem.W.nsIn K mainGlobals "NAME_CHARACTERS" = some (some (.str "abcdefghijklmnopqrstuvwxyz0123456789" t_NAME_CHARACTERS)))
    (z_abs : PySem.W.nsIn K mainGlobals "abs" = some none)
    (z_all : PySem.W.nsIn K mainGlobals "all" = some none)
    (z_bool : PySem.W.nsIn K mainGlobals "bool" = some none)
    (z_enumerate : PySem.W.nsIn K mainGlobals "enumerate" = some none)
    (z_int : PySem.W.nsIn K mainGlobals "int" = some none)
    (z_isinstance : PySem.W.nsIn K mainGlobals "isinstance" = some none)
    (z_len : PySem.W.nsIn K mainGlobals "len" = some none)
    (z_list : PySem.W.nsIn K mainGlobals "list" = some none)
    (z_range : PySem.W.nsIn K mainGlobals "range" = some none)
    (z_str : PySem.W.nsIn K mainGlobals "str" = some none)
    (z_tuple : PySem.W.nsIn K mainGlobals "tuple" = some none)
    (a_BadName : PySem.W.nsIn K mainGlobals "BadName" = some (some (.ref C_BadName)))
    (a_NameTaken : PySem.W.nsIn K mainGlobals "NameTaken" = some (some (.ref C_NameTaken)))
    (a_NoFile : PySem.W.nsIn K mainGlobals "NoFile" = some (some (.ref C_NoFile)))
    (a_SameFile : PySem.W.nsIn K mainGlobals "SameFile" = some (some (.ref C_SameFile)))
    (a_BadNumber : PySem.W.nsIn K mainGlobals "BadNumber" = some (some (.ref C_BadNumber)))
    (x_BadName : K.lookup C_BadName = some (excClassObj nm_BadName q_BadName C_BadName N_BadName bs_BadName (lineOf L) true sn_BadName sub_BadName ab_BadName col_BadName dd_BadName x0_BadName x1_BadName x2_BadName x3_BadName x5_BadName "ValueError.__new__"))
    (sa_BadName : PySem.W.findIn K (.ref C_BadName) "__setattr__" = some (some (.builtin "object.__setattr__")))
    (ga_BadName : PySem.W.findIn K (.ref C_BadName) "__getattribute__" = some (some (.builtin "BaseException.__getattribute__")))
    (gg_BadName : PySem.W.findIn K (.ref C_BadName) "__getattr__" = some none)
    (kC_BadName : PySem.W.keepIn K (.ref C_BadName) = true)
    (eC_BadName : PySem.W.subIn K (.ref C_BadName) (.type "BaseException") = some true)
    (tC_BadName : PySem.W.typeIn K (.ref C_BadName) = some (.type "type"))
    (hC_BadName : PySem.W.hasDictIn K C_BadName = true)
    (ic_BadName : PySem.W.isClsIn K C_BadName = true)
    (ss_BadName_BadName : PySem.W.subIn K (.ref C_BadName) (.ref C_BadName) = some true)
    (ss_BadName_NameTaken : PySem.W.subIn K (.ref C_BadName) (.ref C_NameTaken) = some false)
    (ss_BadName_NoFile : PySem.W.subIn K (.ref C_BadName) (.ref C_NoFile) = some false)
    (ss_BadName_SameFile : PySem.W.subIn K (.ref C_BadName) (.ref C_SameFile) = some false)
    (ss_BadName_BadNumber : PySem.W.subIn K (.ref C_BadName) (.ref C_BadNumber) = some false)
    (nf_BadName_name : PySem.W.findIn K (.ref C_BadName) "name" = some none)
    (a_BadName___init__ : PySem.W.findIn K (.ref C_BadName) "__init__" = some (some (.ref f_BadName___init__)))
    (l_BadName___init__ : K.lookup f_BadName___init__ = some ⟨oc_BadName___init__, od_BadName___init__, .func (PySem.W.fnOf "__init__" "BadName.__init__" (defArgs s_BadName___init__) (defBody s_BadName___init__) (defScope s_BadName___init__) .none kV_BadName___init__ dc_BadName___init__ pm_BadName___init__ an_BadName___init__ cd_BadName___init__ ct_BadName___init__), sl_BadName___init__⟩)
    (c_BadName___init__ : PySem.W.codeIn K cd_BadName___init__ "BadName.__init__" = true)
    (k_BadName___init__ : PySem.W.keepIn K (.ref f_BadName___init__) = true)
    (t_BadName___init__ : PySem.W.typeIn K (.ref f_BadName___init__) = some (.type "function"))
    (x_NameTaken : K.lookup C_NameTaken = some (excClassObj nm_NameTaken q_NameTaken C_NameTaken N_NameTaken bs_NameTaken (lineOf L) true sn_NameTaken sub_NameTaken ab_NameTaken col_NameTaken dd_NameTaken x0_NameTaken x1_NameTaken x2_NameTaken x3_NameTaken x5_NameTaken "ValueError.__new__"))
    (sa_NameTaken : PySem.W.findIn K (.ref C_NameTaken) "__setattr__" = some (some (.builtin "object.__setattr__")))
    (ga_NameTaken : PySem.W.findIn K (.ref C_NameTaken) "__getattribute__" = some (some (.builtin "BaseException.__getattribute__")))
    (gg_NameTaken : PySem.W.findIn K (.ref C_NameTaken) "__getattr__" = some none)
    (kC_NameTaken : PySem.W.keepIn K (.ref C_NameTaken) = true)
    (eC_NameTaken : PySem.W.subIn K (.ref C_NameTaken) (.type "BaseException") = some true)
    (tC_NameTaken : PySem.W.typeIn K (.ref C_NameTaken) = some (.type "type"))
    (hC_NameTaken : PySem.W.hasDictIn K C_NameTaken = true)
    (ic_NameTaken : PySem.W.isClsIn K C_NameTaken = true)
    (ss_NameTaken_BadName : PySem.W.subIn K (.ref C_NameTaken) (.ref C_BadName) = some false)
    (ss_NameTaken_NameTaken : PySem.W.subIn K (.ref C_NameTaken) (.ref C_NameTaken) = some true)
    (ss_NameTaken_NoFile : PySem.W.subIn K (.ref C_NameTaken) (.ref C_NoFile) = some false)
    (ss_NameTaken_SameFile : PySem.W.subIn K (.ref C_NameTaken) (.ref C_SameFile) = some false)
    (ss_NameTaken_BadNumber : PySem.W.subIn K (.ref C_NameTaken) (.ref C_BadNumber) = some false)
    (nf_NameTaken_name : PySem.W.findIn K (.ref C_NameTaken) "name" = some none)
    (a_NameTaken___init__ : PySem.W.findIn K (.ref C_NameTaken) "__init__" = some (some (.ref f_NameTaken___init__)))
    (l_NameTaken___init__ : K.lookup f_NameTaken___init__ = some ⟨oc_NameTaken___init__, od_NameTaken___init__, .func (PySem.W.fnOf "__init__" "NameTaken.__init__" (defArgs s_NameTaken___init__) (defBody s_NameTaken___init__) (defScope s_NameTaken___init__) .none kV_NameTaken___init__ dc_NameTaken___init__ pm_NameTaken___init__ an_NameTaken___init__ cd_NameTaken___init__ ct_NameTaken___init__), sl_NameTaken___init__⟩)
    (c_NameTaken___init__ : PySem.W.codeIn K cd_NameTaken___init__ "NameTaken.__init__" = true)
    (k_NameTaken___init__ : PySem.W.keepIn K (.ref f_NameTaken___init__) = true)
    (t_NameTaken___init__ : PySem.W.typeIn K (.ref f_NameTaken___init__) = some (.type "function"))
    (x_NoFile : K.lookup C_NoFile = some (excClassObj nm_NoFile q_NoFile C_NoFile N_NoFile bs_NoFile (lineOf L) true sn_NoFile sub_NoFile ab_NoFile col_NoFile dd_NoFile x0_NoFile x1_NoFile x2_NoFile x3_NoFile x5_NoFile "ValueError.__new__"))
    (sa_NoFile : PySem.W.findIn K (.ref C_NoFile) "__setattr__" = some (some (.builtin "object.__setattr__")))
    (ga_NoFile : PySem.W.findIn K (.ref C_NoFile) "__getattribute__" = some (some (.builtin "BaseException.__getattribute__")))
    (gg_NoFile : PySem.W.findIn K (.ref C_NoFile) "__getattr__" = some none)
    (kC_NoFile : PySem.W.keepIn K (.ref C_NoFile) = true)
    (eC_NoFile : PySem.W.subIn K (.ref C_NoFile) (.type "BaseException") = some true)
    (tC_NoFile : PySem.W.typeIn K (.ref C_NoFile) = some (.type "type"))
    (hC_NoFile : PySem.W.hasDictIn K C_NoFile = true)
    (ic_NoFile : PySem.W.isClsIn K C_NoFile = true)
    (ss_NoFile_BadName : PySem.W.subIn K (.ref C_NoFile) (.ref C_BadName) = some false)
    (ss_NoFile_NameTaken : PySem.W.subIn K (.ref C_NoFile) (.ref C_NameTaken) = some false)
    (ss_NoFile_NoFile : PySem.W.subIn K (.ref C_NoFile) (.ref C_NoFile) = some true)
    (ss_NoFile_SameFile : PySem.W.subIn K (.ref C_NoFile) (.ref C_SameFile) = some false)
    (ss_NoFile_BadNumber : PySem.W.subIn K (.ref C_NoFile) (.ref C_BadNumber) = some false)
    (nf_NoFile_name : PySem.W.findIn K (.ref C_NoFile) "name" = some none)
    (a_NoFile___init__ : PySem.W.findIn K (.ref C_NoFile) "__init__" = some (some (.ref f_NoFile___init__)))
    (l_NoFile___init__ : K.lookup f_NoFile___init__ = some ⟨oc_NoFile___init__, od_NoFile___init__, .func (PySem.W.fnOf "__init__" "NoFile.__init__" (defArgs s_NoFile___init__) (defBody s_NoFile___init__) (defScope s_NoFile___init__) .none kV_NoFile___init__ dc_NoFile___init__ pm_NoFile___init__ an_NoFile___init__ cd_NoFile___init__ ct_NoFile___init__), sl_NoFile___init__⟩)
    (c_NoFile___init__ : PySem.W.codeIn K cd_NoFile___init__ "NoFile.__init__" = true)
    (k_NoFile___init__ : PySem.W.keepIn K (.ref f_NoFile___init__) = true)
    (t_NoFile___init__ : PySem.W.typeIn K (.ref f_NoFile___init__) = some (.type "function"))
    (x_SameFile : K.lookup C_SameFile = some (excClassObj nm_SameFile q_SameFile C_SameFile N_SameFile bs_SameFile (lineOf L) true sn_SameFile sub_SameFile ab_SameFile col_SameFile dd_SameFile x0_SameFile x1_SameFile x2_SameFile x3_SameFile x5_SameFile "ValueError.__new__"))
    (sa_SameFile : PySem.W.findIn K (.ref C_SameFile) "__setattr__" = some (some (.builtin "object.__setattr__")))
    (ga_SameFile : PySem.W.findIn K (.ref C_SameFile) "__getattribute__" = some (some (.builtin "BaseException.__getattribute__")))
    (gg_SameFile : PySem.W.findIn K (.ref C_SameFile) "__getattr__" = some none)
    (kC_SameFile : PySem.W.keepIn K (.ref C_SameFile) = true)
    (eC_SameFile : PySem.W.subIn K (.ref C_SameFile) (.type "BaseException") = some true)
    (tC_SameFile : PySem.W.typeIn K (.ref C_SameFile) = some (.type "type"))
    (hC_SameFile : PySem.W.hasDictIn K C_SameFile = true)
    (ic_SameFile : PySem.W.isClsIn K C_SameFile = true)
    (ss_SameFile_BadName : PySem.W.subIn K (.ref C_SameFile) (.ref C_BadName) = some false)
    (ss_SameFile_NameTaken : PySem.W.subIn K (.ref C_SameFile) (.ref C_NameTaken) = some false)
    (ss_SameFile_NoFile : PySem.W.subIn K (.ref C_SameFile) (.ref C_NoFile) = some false)
    (ss_SameFile_SameFile : PySem.W.subIn K (.ref C_SameFile) (.ref C_SameFile) = some true)
    (ss_SameFile_BadNumber : PySem.W.subIn K (.ref C_SameFile) (.ref C_BadNumber) = some false)
    (nf_SameFile_name : PySem.W.findIn K (.ref C_SameFile) "name" = some none)
    (a_SameFile___init__ : PySem.W.findIn K (.ref C_SameFile) "__init__" = some (some (.ref f_SameFile___init__)))
    (l_SameFile___init__ : K.lookup f_SameFile___init__ = some ⟨oc_SameFile___init__, od_SameFile___init__, .func (PySem.W.fnOf "__init__" "SameFile.__init__" (defArgs s_SameFile___init__) (defBody s_SameFile___init__) (defScope s_SameFile___init__) .none kV_SameFile___init__ dc_SameFile___init__ pm_SameFile___init__ an_SameFile___init__ cd_SameFile___init__ ct_SameFile___init__), sl_SameFile___init__⟩)
    (c_SameFile___init__ : PySem.W.codeIn K cd_SameFile___init__ "SameFile.__init__" = true)
    (k_SameFile___init__ : PySem.W.keepIn K (.ref f_SameFile___init__) = true)
    (t_SameFile___init__ : PySem.W.typeIn K (.ref f_SameFile___init__) = some (.type "function"))
    (x_BadNumber : K.lookup C_BadNumber = some (excClassObj nm_BadNumber q_BadNumber C_BadNumber N_BadNumber bs_BadNumber (lineOf L) true sn_BadNumber sub_BadNumber ab_BadNumber col_BadNumber dd_BadNumber x0_BadNumber x1_BadNumber x2_BadNumber x3_BadNumber x5_BadNumber "ValueError.__new__"))
    (sa_BadNumber : PySem.W.findIn K (.ref C_BadNumber) "__setattr__" = some (some (.builtin "object.__setattr__")))
    (ga_BadNumber : PySem.W.findIn K (.ref C_BadNumber) "__getattribute__" = some (some (.builtin "BaseException.__getattribute__")))
    (gg_BadNumber : PySem.W.findIn K (.ref C_BadNumber) "__getattr__" = some none)
    (kC_BadNumber : PySem.W.keepIn K (.ref C_BadNumber) = true)
    (eC_BadNumber : PySem.W.subIn K (.ref C_BadNumber) (.type "BaseException") = some true)
    (tC_BadNumber : PySem.W.typeIn K (.ref C_BadNumber) = some (.type "type"))
    (hC_BadNumber : PySem.W.hasDictIn K C_BadNumber = true)
    (ic_BadNumber : PySem.W.isClsIn K C_BadNumber = true)
    (ss_BadNumber_BadName : PySem.W.subIn K (.ref C_BadNumber) (.ref C_BadName) = some false)
    (ss_BadNumber_NameTaken : PySem.W.subIn K (.ref C_BadNumber) (.ref C_NameTaken) = some false)
    (ss_BadNumber_NoFile : PySem.W.subIn K (.ref C_BadNumber) (.ref C_NoFile) = some false)
    (ss_BadNumber_SameFile : PySem.W.subIn K (.ref C_BadNumber) (.ref C_SameFile) = some false)
    (ss_BadNumber_BadNumber : PySem.W.subIn K (.ref C_BadNumber) (.ref C_BadNumber) = some true)
    (nf_BadNumber_value : PySem.W.findIn K (.ref C_BadNumber) "value" = some none)
    (a_BadNumber___init__ : PySem.W.findIn K (.ref C_BadNumber) "__init__" = some (some (.ref f_BadNumber___init__)))
    (l_BadNumber___init__ : K.lookup f_BadNumber___init__ = some ⟨oc_BadNumber___init__, od_BadNumber___init__, .func (PySem.W.fnOf "__init__" "BadNumber.__init__" (defArgs s_BadNumber___init__) (defBody s_BadNumber___init__) (defScope s_BadNumber___init__) .none kV_BadNumber___init__ dc_BadNumber___init__ pm_BadNumber___init__ an_BadNumber___init__ cd_BadNumber___init__ ct_BadNumber___init__), sl_BadNumber___init__⟩)
    (c_BadNumber___init__ : PySem.W.codeIn K cd_BadNumber___init__ "BadNumber.__init__" = true)
    (k_BadNumber___init__ : PySem.W.keepIn K (.ref f_BadNumber___init__) = true)
    (t_BadNumber___init__ : PySem.W.typeIn K (.ref f_BadNumber___init__) = some (.type "function"))
    (a_Bounds : PySem.W.nsIn K mainGlobals "Bounds" = some (some (.ref C_Bounds)))
    (pg_Bounds : PySem.W.plainGet K C_Bounds Str.empty = true)
    (hd_Bounds : PySem.W.hasDictIn K C_Bounds = true)
    (po_Bounds : PySem.W.plainOver K C_Bounds = true)
    (sa_Bounds : PySem.W.findIn K (.ref C_Bounds) "__setattr__" = some (some (.builtin "object.__setattr__")))
    (mk_Bounds : PySem.W.makesIn K C_Bounds = true)
    (kC_Bounds : PySem.W.keepIn K (.ref C_Bounds) = true)
    (nf_Bounds__names : PySem.W.findIn K (.ref C_Bounds) "_names" = some none)
    (nf_Bounds__entries : PySem.W.findIn K (.ref C_Bounds) "_entries" = some none)
    (a_is_name : PySem.W.nsIn K mainGlobals "is_name" = some (some (.ref f_is_name)))
    (l_is_name : K.lookup f_is_name = some ⟨oc_is_name, od_is_name, .func (PySem.W.fnOf "is_name" "is_name" (defArgs s_is_name) (defBody s_is_name) (defScope s_is_name) .none kV_is_name dc_is_name pm_is_name an_is_name cd_is_name ct_is_name), sl_is_name⟩)
    (c_is_name : PySem.W.codeIn K cd_is_name "is_name" = true)
    (k_is_name : PySem.W.keepIn K (.ref f_is_name) = true)
    (a_is_integer : PySem.W.nsIn K mainGlobals "is_integer" = some (some (.ref f_is_integer)))
    (l_is_integer : K.lookup f_is_integer = some ⟨oc_is_integer, od_is_integer, .func (PySem.W.fnOf "is_integer" "is_integer" (defArgs s_is_integer) (defBody s_is_integer) (defScope s_is_integer) .none kV_is_integer dc_is_integer pm_is_integer an_is_integer cd_is_integer ct_is_integer), sl_is_integer⟩)
    (c_is_integer : PySem.W.codeIn K cd_is_integer "is_integer" = true)
    (k_is_integer : PySem.W.keepIn K (.ref f_is_integer) = true)
    (a_refuse_strangers : PySem.W.nsIn K mainGlobals "refuse_strangers" = some (some (.ref f_refuse_strangers)))
    (l_refuse_strangers : K.lookup f_refuse_strangers = some ⟨oc_refuse_strangers, od_refuse_strangers, .func (PySem.W.fnOf "refuse_strangers" "refuse_strangers" (defArgs s_refuse_strangers) (defBody s_refuse_strangers) (defScope s_refuse_strangers) .none kV_refuse_strangers dc_refuse_strangers pm_refuse_strangers an_refuse_strangers cd_refuse_strangers ct_refuse_strangers), sl_refuse_strangers⟩)
    (c_refuse_strangers : PySem.W.codeIn K cd_refuse_strangers "refuse_strangers" = true)
    (k_refuse_strangers : PySem.W.keepIn K (.ref f_refuse_strangers) = true)
    (a_Bounds___init__ : PySem.W.findIn K (.ref C_Bounds) "__init__" = some (some (.ref f_Bounds___init__)))
    (l_Bounds___init__ : K.lookup f_Bounds___init__ = some ⟨oc_Bounds___init__, od_Bounds___init__, .func (PySem.W.fnOf "__init__" "Bounds.__init__" (defArgs s_Bounds___init__) (defBody s_Bounds___init__) (defScope s_Bounds___init__) .none kV_Bounds___init__ dc_Bounds___init__ pm_Bounds___init__ an_Bounds___init__ cd_Bounds___init__ ct_Bounds___init__), sl_Bounds___init__⟩)
    (c_Bounds___init__ : PySem.W.codeIn K cd_Bounds___init__ "Bounds.__init__" = true)
    (k_Bounds___init__ : PySem.W.keepIn K (.ref f_Bounds___init__) = true)
    (i_Bounds___init__ : PySem.W.isFn K (.ref f_Bounds___init__) = true)
    (pa_Bounds_names : PySem.W.findIn K (.ref C_Bounds) "names" = some (some (.ref p_Bounds_names)))
    (pg_Bounds_names : PySem.W.specialIn K (.ref p_Bounds_names) "__get__" = some (some (.builtin "property.__get__")))
    (pt_Bounds_names : PySem.W.takesIn K (.ref p_Bounds_names) = some true)
    (pr_Bounds_names : PySem.W.recIn K p_Bounds_names "property" = some (.ref f_Bounds_names :: r_Bounds_names))
    (l_Bounds_names : K.lookup f_Bounds_names = some ⟨oc_Bounds_names, od_Bounds_names, .func (PySem.W.fnOf "names" "Bounds.names" (defArgs s_Bounds_names) (defBody s_Bounds_names) (defScope s_Bounds_names) .none kV_Bounds_names dc_Bounds_names pm_Bounds_names an_Bounds_names cd_Bounds_names ct_Bounds_names), sl_Bounds_names⟩)
    (c_Bounds_names : PySem.W.codeIn K cd_Bounds_names "Bounds.names" = true)
    (k_Bounds_names : PySem.W.keepIn K (.ref f_Bounds_names) = true)
    (a_Bounds___len__ : PySem.W.findIn K (.ref C_Bounds) "__len__" = some (some (.ref f_Bounds___len__)))
    (l_Bounds___len__ : K.lookup f_Bounds___len__ = some ⟨oc_Bounds___len__, od_Bounds___len__, .func (PySem.W.fnOf "__len__" "Bounds.__len__" (defArgs s_Bounds___len__) (defBody s_Bounds___len__) (defScope s_Bounds___len__) .none kV_Bounds___len__ dc_Bounds___len__ pm_Bounds___len__ an_Bounds___len__ cd_Bounds___len__ ct_Bounds___len__), sl_Bounds___len__⟩)
    (c_Bounds___len__ : PySem.W.codeIn K cd_Bounds___len__ "Bounds.__len__" = true)
    (k_Bounds___len__ : PySem.W.keepIn K (.ref f_Bounds___len__) = true)
    (i_Bounds___len__ : PySem.W.isFn K (.ref f_Bounds___len__) = true)
    (a_Bounds___getitem__ : PySem.W.findIn K (.ref C_Bounds) "__getitem__" = some (some (.ref f_Bounds___getitem__)))
    (l_Bounds___getitem__ : K.lookup f_Bounds___getitem__ = some ⟨oc_Bounds___getitem__, od_Bounds___getitem__, .func (PySem.W.fnOf "__getitem__" "Bounds.__getitem__" (defArgs s_Bounds___getitem__) (defBody s_Bounds___getitem__) (defScope s_Bounds___getitem__) .none kV_Bounds___getitem__ dc_Bounds___getitem__ pm_Bounds___getitem__ an_Bounds___getitem__ cd_Bounds___getitem__ ct_Bounds___getitem__), sl_Bounds___getitem__⟩)
    (c_Bounds___getitem__ : PySem.W.codeIn K cd_Bounds___getitem__ "Bounds.__getitem__" = true)
    (k_Bounds___getitem__ : PySem.W.keepIn K (.ref f_Bounds___getitem__) = true)
    (i_Bounds___getitem__ : PySem.W.isFn K (.ref f_Bounds___getitem__) = true)
    (fi_Bounds___getitem__ : PySem.W.fnIn K f_Bounds___getitem__ = true)
    (a_Bounds___setitem__ : PySem.W.findIn K (.ref C_Bounds) "__setitem__" = some (some (.ref f_Bounds___setitem__)))
    (l_Bounds___setitem__ : K.lookup f_Bounds___setitem__ = some ⟨oc_Bounds___setitem__, od_Bounds___setitem__, .func (PySem.W.fnOf "__setitem__" "Bounds.__setitem__" (defArgs s_Bounds___setitem__) (defBody s_Bounds___setitem__) (defScope s_Bounds___setitem__) .none kV_Bounds___setitem__ dc_Bounds___setitem__ pm_Bounds___setitem__ an_Bounds___setitem__ cd_Bounds___setitem__ ct_Bounds___setitem__), sl_Bounds___setitem__⟩)
    (c_Bounds___setitem__ : PySem.W.codeIn K cd_Bounds___setitem__ "Bounds.__setitem__" = true)
    (k_Bounds___setitem__ : PySem.W.keepIn K (.ref f_Bounds___setitem__) = true)
    (i_Bounds___setitem__ : PySem.W.isFn K (.ref f_Bounds___setitem__) = true)
    (ns_Bounds : PySem.W.noSeq K C_Bounds = true)
    (a__law_cell : PySem.W.nsIn K mainGlobals "_law_cell" = some (some (.ref f__law_cell)))
    (l__law_cell : K.lookup f__law_cell = some ⟨oc__law_cell, od__law_cell, .func (PySem.W.fnOf "_law_cell" "_law_cell" (defArgs s__law_cell) (defBody s__law_cell) (defScope s__law_cell) .none kV__law_cell dc__law_cell pm__law_cell an__law_cell cd__law_cell ct__law_cell), sl__law_cell⟩)
    (c__law_cell : PySem.W.codeIn K cd__law_cell "_law_cell" = true)
    (k__law_cell : PySem.W.keepIn K (.ref f__law_cell) = true)
    (a__law_pool : PySem.W.nsIn K mainGlobals "_law_pool" = some (some (.ref f__law_pool)))
    (l__law_pool : K.lookup f__law_pool = some ⟨oc__law_pool, od__law_pool, .func (PySem.W.fnOf "_law_pool" "_law_pool" (defArgs s__law_pool) (defBody s__law_pool) (defScope s__law_pool) .none kV__law_pool dc__law_pool pm__law_pool an__law_pool cd__law_pool ct__law_pool), sl__law_pool⟩)
    (c__law_pool : PySem.W.codeIn K cd__law_pool "_law_pool" = true)
    (k__law_pool : PySem.W.keepIn K (.ref f__law_pool) = true)
    (a__law_take : PySem.W.nsIn K mainGlobals "_law_take" = some (some (.ref f__law_take)))
    (l__law_take : K.lookup f__law_take = some ⟨oc__law_take, od__law_take, .func (PySem.W.fnOf "_law_take" "_law_take" (defArgs s__law_take) (defBody s__law_take) (defScope s__law_take) .none kV__law_take dc__law_take pm__law_take an__law_take cd__law_take ct__law_take), sl__law_take⟩)
    (c__law_take : PySem.W.codeIn K cd__law_take "_law_take" = true)
    (k__law_take : PySem.W.keepIn K (.ref f__law_take) = true)
    (a__law_names : PySem.W.nsIn K mainGlobals "_law_names" = some (some (.ref f__law_names)))
    (l__law_names : K.lookup f__law_names = some ⟨oc__law_names, od__law_names, .func (PySem.W.fnOf "_law_names" "_law_names" (defArgs s__law_names) (defBody s__law_names) (defScope s__law_names) .none kV__law_names dc__law_names pm__law_names an__law_names cd__law_names ct__law_names), sl__law_names⟩)
    (c__law_names : PySem.W.codeIn K cd__law_names "_law_names" = true)
    (k__law_names : PySem.W.keepIn K (.ref f__law_names) = true)
    (a__law_stranger : PySem.W.nsIn K mainGlobals "_law_stranger" = some (some (.ref f__law_stranger)))
    (l__law_stranger : K.lookup f__law_stranger = some ⟨oc__law_stranger, od__law_stranger, .func (PySem.W.fnOf "_law_stranger" "_law_stranger" (defArgs s__law_stranger) (defBody s__law_stranger) (defScope s__law_stranger) .none kV__law_stranger dc__law_stranger pm__law_stranger an__law_stranger cd__law_stranger ct__law_stranger), sl__law_stranger⟩)
    (c__law_stranger : PySem.W.codeIn K cd__law_stranger "_law_stranger" = true)
    (k__law_stranger : PySem.W.keepIn K (.ref f__law_stranger) = true)
    (a__law_entries : PySem.W.nsIn K mainGlobals "_law_entries" = some (some (.ref f__law_entries)))
    (l__law_entries : K.lookup f__law_entries = some ⟨oc__law_entries, od__law_entries, .func (PySem.W.fnOf "_law_entries" "_law_entries" (defArgs s__law_entries) (defBody s__law_entries) (defScope s__law_entries) .none kV__law_entries dc__law_entries pm__law_entries an__law_entries cd__law_entries ct__law_entries), sl__law_entries⟩)
    (c__law_entries : PySem.W.codeIn K cd__law_entries "_law_entries" = true)
    (k__law_entries : PySem.W.keepIn K (.ref f__law_entries) = true)
    (a__law_whole : PySem.W.nsIn K mainGlobals "_law_whole" = some (some (.ref f__law_whole)))
    (l__law_whole : K.lookup f__law_whole = some ⟨oc__law_whole, od__law_whole, .func (PySem.W.fnOf "_law_whole" "_law_whole" (defArgs s__law_whole) (defBody s__law_whole) (defScope s__law_whole) .none kV__law_whole dc__law_whole pm__law_whole an__law_whole cd__law_whole ct__law_whole), sl__law_whole⟩)
    (c__law_whole : PySem.W.codeIn K cd__law_whole "_law_whole" = true)
    (k__law_whole : PySem.W.keepIn K (.ref f__law_whole) = true)
    (a__law_refusal : PySem.W.nsIn K mainGlobals "_law_refusal" = some (some (.ref f__law_refusal)))
    (l__law_refusal : K.lookup f__law_refusal = some ⟨oc__law_refusal, od__law_refusal, .func (PySem.W.fnOf "_law_refusal" "_law_refusal" (defArgs s__law_refusal) (defBody s__law_refusal) (defScope s__law_refusal) .none kV__law_refusal dc__law_refusal pm__law_refusal an__law_refusal cd__law_refusal ct__law_refusal), sl__law_refusal⟩)
    (c__law_refusal : PySem.W.codeIn K cd__law_refusal "_law_refusal" = true)
    (k__law_refusal : PySem.W.keepIn K (.ref f__law_refusal) = true)
    (a__law_read : PySem.W.nsIn K mainGlobals "_law_read" = some (some (.ref f__law_read)))
    (l__law_read : K.lookup f__law_read = some ⟨oc__law_read, od__law_read, .func (PySem.W.fnOf "_law_read" "_law_read" (defArgs s__law_read) (defBody s__law_read) (defScope s__law_read) .none kV__law_read dc__law_read pm__law_read an__law_read cd__law_read ct__law_read), sl__law_read⟩)
    (c__law_read : PySem.W.codeIn K cd__law_read "_law_read" = true)
    (k__law_read : PySem.W.keepIn K (.ref f__law_read) = true)
    (a__law_twice : PySem.W.nsIn K mainGlobals "_law_twice" = some (some (.ref f__law_twice)))
    (l__law_twice : K.lookup f__law_twice = some ⟨oc__law_twice, od__law_twice, .func (PySem.W.fnOf "_law_twice" "_law_twice" (defArgs s__law_twice) (defBody s__law_twice) (defScope s__law_twice) .none kV__law_twice dc__law_twice pm__law_twice an__law_twice cd__law_twice ct__law_twice), sl__law_twice⟩)
    (c__law_twice : PySem.W.codeIn K cd__law_twice "_law_twice" = true)
    (k__law_twice : PySem.W.keepIn K (.ref f__law_twice) = true)
    (a__law_bad : PySem.W.nsIn K mainGlobals "_law_bad" = some (some (.ref f__law_bad)))
    (l__law_bad : K.lookup f__law_bad = some ⟨oc__law_bad, od__law_bad, .func (PySem.W.fnOf "_law_bad" "_law_bad" (defArgs s__law_bad) (defBody s__law_bad) (defScope s__law_bad) .none kV__law_bad dc__law_bad pm__law_bad an__law_bad cd__law_bad ct__law_bad), sl__law_bad⟩)
    (c__law_bad : PySem.W.codeIn K cd__law_bad "_law_bad" = true)
    (k__law_bad : PySem.W.keepIn K (.ref f__law_bad) = true)
    (a__law_refused : PySem.W.nsIn K mainGlobals "_law_refused" = some (some (.ref f__law_refused)))
    (l__law_refused : K.lookup f__law_refused = some ⟨oc__law_refused, od__law_refused, .func (PySem.W.fnOf "_law_refused" "_law_refused" (defArgs s__law_refused) (defBody s__law_refused) (defScope s__law_refused) .none kV__law_refused dc__law_refused pm__law_refused an__law_refused cd__law_refused ct__law_refused), sl__law_refused⟩)
    (c__law_refused : PySem.W.codeIn K cd__law_refused "_law_refused" = true)
    (k__law_refused : PySem.W.keepIn K (.ref f__law_refused) = true)
    (a_law : PySem.W.nsIn K mainGlobals "law" = some (some (.ref f_law)))
    (l_law : K.lookup f_law = some ⟨oc_law, od_law, .func (PySem.W.fnOf "law" "law" (defArgs s_law) (defBody s_law) (defScope s_law) .none kV_law dc_law pm_law an_law cd_law ct_law), sl_law⟩)
    (c_law : PySem.W.codeIn K cd_law "law" = true)
    (k_law : PySem.W.keepIn K (.ref f_law) = true)
    : ∃ fd : FuncData, (∀ (s : Shared) (v : Value), BindsTo s fd ⟨[v], []⟩ [("_law_script", v)]) ∧ ∀ base : Heap, K.In base → base.Ns mainGlobals mg → FnOk P w K mg base CX0 8 fa fd ["_law_script"] (sp_last K) := by
  have e := (PySem.W.mg_of X G a_law).symm.trans hfa
  have e : f_law = fa := by injection e with e; injection e
  subst e
  have T : Tx ⟨K, fun x => [("BadName", C_BadName), ("NameTaken", C_NameTaken), ("NoFile", C_NoFile), ("SameFile", C_SameFile), ("BadNumber", C_BadNumber), ("Bounds", C_Bounds)].lookup x⟩ mg { t_LETTERS := t_LETTERS, t_LONGEST_NAME := t_LONGEST_NAME, t_NAME_CHARACTERS := t_NAME_CHARACTERS, C_BadName := C_BadName, C_NameTaken := C_NameTaken, C_NoFile := C_NoFile, C_SameFile := C_SameFile, C_BadNumber := C_BadNumber, C_Bounds := C_Bounds, f_BadName___init__ := f_BadName___init__, d_BadName___init__ := (PySem.W.fnOf "__init__" "BadName.__init__" (defArgs s_BadName___init__) (defBody s_BadName___init__) (defScope s_BadName___init__) .none kV_BadName___init__ dc_BadName___init__ pm_BadName___init__ an_BadName___init__ cd_BadName___init__ ct_BadName___init__), f_NameTaken___init__ := f_NameTaken___init__, d_NameTaken___init__ := (PySem.W.fnOf "__init__" "NameTaken.__init__" (defArgs s_NameTaken___init__) (defBody s_NameTaken___init__) (defScope s_NameTaken___init__) .none kV_NameTaken___init__ dc_NameTaken___init__ pm_NameTaken___init__ an_NameTaken___init__ cd_NameTaken___init__ ct_NameTaken___init__), f_NoFile___init__ := f_NoFile___init__, d_NoFile___init__ := (PySem.W.fnOf "__init__" "NoFile.__init__" (defArgs s_NoFile___init__) (defBody s_NoFile___init__) (defScope s_NoFile___init__) .none kV_NoFile___init__ dc_NoFile___init__ pm_NoFile___init__ an_NoFile___init__ cd_NoFile___init__ ct_NoFile___init__), f_SameFile___init__ := f_SameFile___init__, d_SameFile___init__ := (PySem.W.fnOf "__init__" "SameFile.__init__" (defArgs s_SameFile___init__) (defBody s_SameFile___init__) (defScope s_SameFile___init__) .none kV_SameFile___init__ dc_SameFile___init__ pm_SameFile___init__ an_SameFile___init__ cd_SameFile___init__ ct_SameFile___init__), f_BadNumber___init__ := f_BadNumber___init__, d_BadNumber___init__ := (PySem.W.fnOf "__init__" "BadNumber.__init__" (defArgs s_BadNumber___init__) (defBody s_BadNumber___init__) (defScope s_BadNumber___init__) .none kV_BadNumber___init__ dc_BadNumber___init__ pm_BadNumber___init__ an_BadNumber___init__ cd_BadNumber___init__ ct_BadNumber___init__), f_is_name := f_is_name, d_is_name := (PySem.W.fnOf "is_name" "is_name" (defArgs s_is_name) (defBody s_is_name) (defScope s_is_name) .none kV_is_name dc_is_name pm_is_name an_is_name cd_is_name ct_is_name), f_is_integer := f_is_integer, d_is_integer := (PySem.W.fnOf "is_integer" "is_integer" (defArgs s_is_integer) (defBody s_is_integer) (defScope s_is_integer) .none kV_is_integer dc_is_integer pm_is_integer an_is_integer cd_is_integer ct_is_integer), f_refuse_strangers := f_refuse_strangers, d_refuse_strangers := (PySem.W.fnOf "refuse_strangers" "refuse_strangers" (defArgs s_refuse_strangers) (defBody s_refuse_strangers) (defScope s_refuse_strangers) .none kV_refuse_strangers dc_refuse_strangers pm_refuse_strangers an_refuse_strangers cd_refuse_strangers ct_refuse_strangers), f_Bounds___init__ := f_Bounds___init__, d_Bounds___init__ := (PySem.W.fnOf "__init__" "Bounds.__init__" (defArgs s_Bounds___init__) (defBody s_Bounds___init__) (defScope s_Bounds___init__) .none kV_Bounds___init__ dc_Bounds___init__ pm_Bounds___init__ an_Bounds___init__ cd_Bounds___init__ ct_Bounds___init__), f_Bounds_names := f_Bounds_names, d_Bounds_names := (PySem.W.fnOf "names" "Bounds.names" (defArgs s_Bounds_names) (defBody s_Bounds_names) (defScope s_Bounds_names) .none kV_Bounds_names dc_Bounds_names pm_Bounds_names an_Bounds_names cd_Bounds_names ct_Bounds_names), p_Bounds_names := p_Bounds_names, f_Bounds___len__ := f_Bounds___len__, d_Bounds___len__ := (PySem.W.fnOf "__len__" "Bounds.__len__" (defArgs s_Bounds___len__) (defBody s_Bounds___len__) (defScope s_Bounds___len__) .none kV_Bounds___len__ dc_Bounds___len__ pm_Bounds___len__ an_Bounds___len__ cd_Bounds___len__ ct_Bounds___len__), f_Bounds___getitem__ := f_Bounds___getitem__, d_Bounds___getitem__ := (PySem.W.fnOf "__getitem__" "Bounds.__getitem__" (defArgs s_Bounds___getitem__) (defBody s_Bounds___getitem__) (defScope s_Bounds___getitem__) .none kV_Bounds___getitem__ dc_Bounds___getitem__ pm_Bounds___getitem__ an_Bounds___getitem__ cd_Bounds___getitem__ ct_Bounds___getitem__), f_Bounds___setitem__ := f_Bounds___setitem__, d_Bounds___setitem__ := (PySem.W.fnOf "__setitem__" "Bounds.__setitem__" (defArgs s_Bounds___setitem__) (defBody s_Bounds___setitem__) (defScope s_Bounds___setitem__) .none kV_Bounds___setitem__ dc_Bounds___setitem__ pm_Bounds___setitem__ an_Bounds___setitem__ cd_Bounds___setitem__ ct_Bounds___setitem__), f__law_cell := f__law_cell, d__law_cell := (PySem.W.fnOf "_law_cell" "_law_cell" (defArgs s__law_cell) (defBody s__law_cell) (defScope s__law_cell) .none kV__law_cell dc__law_cell pm__law_cell an__law_cell cd__law_cell ct__law_cell), f__law_pool := f__law_pool, d__law_pool := (PySem.W.fnOf "_law_pool" "_law_pool" (defArgs s__law_pool) (defBody s__law_pool) (defScope s__law_pool) .none kV__law_pool dc__law_pool pm__law_pool an__law_pool cd__law_pool ct__law_pool), f__law_take := f__law_take, d__law_take := (PySem.W.fnOf "_law_take" "_law_take" (defArgs s__law_take) (defBody s__law_take) (defScope s__law_take) .none kV__law_take dc__law_take pm__law_take an__law_take cd__law_take ct__law_take), f__law_names := f__law_names, d__law_names := (PySem.W.fnOf "_law_names" "_law_names" (defArgs s__law_names) (defBody s__law_names) (defScope s__law_names) .none kV__law_names dc__law_names pm__law_names an__law_names cd__law_names ct__law_names), f__law_stranger := f__law_stranger, d__law_stranger := (PySem.W.fnOf "_law_stranger" "_law_stranger" (defArgs s__law_stranger) (defBody s__law_stranger) (defScope s__law_stranger) .none kV__law_stranger dc__law_stranger pm__law_stranger an__law_stranger cd__law_stranger ct__law_stranger), f__law_entries := f__law_entries, d__law_entries := (PySem.W.fnOf "_law_entries" "_law_entries" (defArgs s__law_entries) (defBody s__law_entries) (defScope s__law_entries) .none kV__law_entries dc__law_entries pm__law_entries an__law_entries cd__law_entries ct__law_entries), f__law_whole := f__law_whole, d__law_whole := (PySem.W.fnOf "_law_whole" "_law_whole" (defArgs s__law_whole) (defBody s__law_whole) (defScope s__law_whole) .none kV__law_whole dc__law_whole pm__law_whole an__law_whole cd__law_whole ct__law_whole), f__law_refusal := f__law_refusal, d__law_refusal := (PySem.W.fnOf "_law_refusal" "_law_refusal" (defArgs s__law_refusal) (defBody s__law_refusal) (defScope s__law_refusal) .none kV__law_refusal dc__law_refusal pm__law_refusal an__law_refusal cd__law_refusal ct__law_refusal), f__law_read := f__law_read, d__law_read := (PySem.W.fnOf "_law_read" "_law_read" (defArgs s__law_read) (defBody s__law_read) (defScope s__law_read) .none kV__law_read dc__law_read pm__law_read an__law_read cd__law_read ct__law_read), f__law_twice := f__law_twice, d__law_twice := (PySem.W.fnOf "_law_twice" "_law_twice" (defArgs s__law_twice) (defBody s__law_twice) (defScope s__law_twice) .none kV__law_twice dc__law_twice pm__law_twice an__law_twice cd__law_twice ct__law_twice), f__law_bad := f__law_bad, d__law_bad := (PySem.W.fnOf "_law_bad" "_law_bad" (defArgs s__law_bad) (defBody s__law_bad) (defScope s__law_bad) .none kV__law_bad dc__law_bad pm__law_bad an__law_bad cd__law_bad ct__law_bad), f__law_refused := f__law_refused, d__law_refused := (PySem.W.fnOf "_law_refused" "_law_refused" (defArgs s__law_refused) (defBody s__law_refused) (defScope s__law_refused) .none kV__law_refused dc__law_refused pm__law_refused an__law_refused cd__law_refused ct__law_refused), f_law := f_law, d_law := (PySem.W.fnOf "law" "law" (defArgs s_law) (defBody s_law) (defScope s_law) .none kV_law dc_law pm_law an_law cd_law ct_law) } :=
    { c_LETTERS := PySem.W.mg_of X G y_LETTERS,
      c_LONGEST_NAME := PySem.W.mg_of X G y_LONGEST_NAME,
      c_NAME_CHARACTERS := PySem.W.mg_of X G y_NAME_CHARACTERS,
      n_abs := PySem.W.mg_none_of X G z_abs,
      n_all := PySem.W.mg_none_of X G z_all,
      n_bool := PySem.W.mg_none_of X G z_bool,
      n_enumerate := PySem.W.mg_none_of X G z_enumerate,
      n_int := PySem.W.mg_none_of X G z_int,
      n_isinstance := PySem.W.mg_none_of X G z_isinstance,
      n_len := PySem.W.mg_none_of X G z_len,
      n_list := PySem.W.mg_none_of X G z_list,
      n_range := PySem.W.mg_none_of X G z_range,
      n_str := PySem.W.mg_none_of X G z_str,
      n_tuple := PySem.W.mg_none_of X G z_tuple,
      cn_BadName := by rfl,
      cn_NameTaken := by rfl,
      cn_NoFile := by rfl,
      cn_SameFile := by rfl,
      cn_BadNumber := by rfl,
      cn_Bounds := by rfl,
      em_BadName_BadName := exm_sub eC_BadName ic_BadName tC_BadName ss_BadName_BadName,
      em_BadName_NameTaken := exm_sub eC_NameTaken ic_NameTaken tC_NameTaken ss_BadName_NameTaken,
      em_BadName_NoFile := exm_sub eC_NoFile ic_NoFile tC_NoFile ss_BadName_NoFile,
      em_BadName_SameFile := exm_sub eC_SameFile ic_SameFile tC_SameFile ss_BadName_SameFile,
      em_BadName_BadNumber := exm_sub eC_BadNumber ic_BadNumber tC_BadNumber ss_BadName_BadNumber,
      nf_BadName_name := nf_BadName_name,
      F_BadName___init__ := fun_mk (st := s_BadName___init__) l_BadName___init__ c_BadName___init__ k_BadName___init__,
      oex_BadName := ⟨⟨_, _, _, _, _, _, _, _, _, _, _, _, _, _, _, x_BadName, refs_line L⟩, sa_BadName, eC_BadName, tC_BadName, kC_BadName⟩,
      ini_BadName := a_BadName___init__,
      tin_BadName := t_BadName___init__,
      xf_BadName := ⟨ga_BadName, gg_BadName, eC_BadName, hC_BadName⟩,
      g_BadName := PySem.W.mg_of X G a_BadName,
      em_NameTaken_BadName := exm_sub eC_BadName ic_BadName tC_BadName ss_NameTaken_BadName,
      em_NameTaken_NameTaken := exm_sub eC_NameTaken ic_NameTaken tC_NameTaken ss_NameTaken_NameTaken,
      em_NameTaken_NoFile := exm_sub eC_NoFile ic_NoFile tC_NoFile ss_NameTaken_NoFile,
      em_NameTaken_SameFile := exm_sub eC_SameFile ic_SameFile tC_SameFile ss_NameTaken_SameFile,
      em_NameTaken_BadNumber := exm_sub eC_BadNumber ic_BadNumber tC_BadNumber ss_NameTaken_BadNumber,
      nf_NameTaken_name := nf_NameTaken_name,
      F_NameTaken___init__ := fun_mk (st := s_NameTaken___init__) l_NameTaken___init__ c_NameTaken___init__ k_NameTaken___init__,
      oex_NameTaken := ⟨⟨_, _, _, _, _, _, _, _, _, _, _, _, _, _, _, x_NameTaken, refs_line L⟩, sa_NameTaken, eC_NameTaken, tC_NameTaken, kC_NameTaken⟩,
      ini_NameTaken := a_NameTaken___init__,
      tin_NameTaken := t_NameTaken___init__,
      xf_NameTaken := ⟨ga_NameTaken, gg_NameTaken, eC_NameTaken, hC_NameTaken⟩,
      g_NameTaken := PySem.W.mg_of X G a_NameTaken,
      em_NoFile_BadName := exm_sub eC_BadName ic_BadName tC_BadName ss_NoFile_BadName,
      em_NoFile_NameTaken := exm_sub eC_NameTaken ic_NameTaken tC_NameTaken ss_NoFile_NameTaken,
      em_NoFile_NoFile := exm_sub eC_NoFile ic_NoFile tC_NoFile ss_NoFile_NoFile,
      em_NoFile_SameFile := exm_sub eC_SameFile ic_SameFile tC_SameFile ss_NoFile_SameFile,
      em_NoFile_BadNumber := exm_sub eC_BadNumber ic_BadNumber tC_BadNumber ss_NoFile_BadNumber,
      nf_NoFile_name := nf_NoFile_name,
      F_NoFile___init__ := fun_mk (st := s_NoFile___init__) l_NoFile___init__ c_NoFile___init__ k_NoFile___init__,
      oex_NoFile := ⟨⟨_, _, _, _, _, _, _, _, _, _, _, _, _, _, _, x_NoFile, refs_line L⟩, sa_NoFile, eC_NoFile, tC_NoFile, kC_NoFile⟩,
      ini_NoFile := a_NoFile___init__,
      tin_NoFile := t_NoFile___init__,
      xf_NoFile := ⟨ga_NoFile, gg_NoFile, eC_NoFile, hC_NoFile⟩,
      g_NoFile := PySem.W.mg_of X G a_NoFile,
      em_SameFile_BadName := exm_sub eC_BadName ic_BadName tC_BadName ss_SameFile_BadName,
      em_SameFile_NameTaken := exm_sub eC_NameTaken ic_NameTaken tC_NameTaken ss_SameFile_NameTaken,
      em_SameFile_NoFile := exm_sub eC_NoFile ic_NoFile tC_NoFile ss_SameFile_NoFile,
      em_SameFile_SameFile := exm_sub eC_SameFile ic_SameFile tC_SameFile ss_SameFile_SameFile,
      em_SameFile_BadNumber := exm_sub eC_BadNumber ic_BadNumber tC_BadNumber ss_SameFile_BadNumber,
      nf_SameFile_name := nf_SameFile_name,
      F_SameFile___init__ := fun_mk (st := s_SameFile___init__) l_SameFile___init__ c_SameFile___init__ k_SameFile___init__,
      oex_SameFile := ⟨⟨_, _, _, _, _, _, _, _, _, _, _, _, _, _, _, x_SameFile, refs_line L⟩, sa_SameFile, eC_SameFile, tC_SameFile, kC_SameFile⟩,
      ini_SameFile := a_SameFile___init__,
      tin_SameFile := t_SameFile___init__,
      xf_SameFile := ⟨ga_SameFile, gg_SameFile, eC_SameFile, hC_SameFile⟩,
      g_SameFile := PySem.W.mg_of X G a_SameFile,
      em_BadNumber_BadName := exm_sub eC_BadName ic_BadName tC_BadName ss_BadNumber_BadName,
      em_BadNumber_NameTaken := exm_sub eC_NameTaken ic_NameTaken tC_NameTaken ss_BadNumber_NameTaken,
      em_BadNumber_NoFile := exm_sub eC_NoFile ic_NoFile tC_NoFile ss_BadNumber_NoFile,
      em_BadNumber_SameFile := exm_sub eC_SameFile ic_SameFile tC_SameFile ss_BadNumber_SameFile,
      em_BadNumber_BadNumber := exm_sub eC_BadNumber ic_BadNumber tC_BadNumber ss_BadNumber_BadNumber,
      nf_BadNumber_value := nf_BadNumber_value,
      F_BadNumber___init__ := fun_mk (st := s_BadNumber___init__) l_BadNumber___init__ c_BadNumber___init__ k_BadNumber___init__,
      oex_BadNumber := ⟨⟨_, _, _, _, _, _, _, _, _, _, _, _, _, _, _, x_BadNumber, refs_line L⟩, sa_BadNumber, eC_BadNumber, tC_BadNumber, kC_BadNumber⟩,
      ini_BadNumber := a_BadNumber___init__,
      tin_BadNumber := t_BadNumber___init__,
      xf_BadNumber := ⟨ga_BadNumber, gg_BadNumber, eC_BadNumber, hC_BadNumber⟩,
      g_BadNumber := PySem.W.mg_of X G a_BadNumber,
      cl_Bounds := ⟨pg_Bounds, hd_Bounds, po_Bounds, sa_Bounds⟩,
      g_Bounds := PySem.W.mg_of X G a_Bounds,
      mk_Bounds := ⟨mk_Bounds, a_Bounds___init__, i_Bounds___init__, kC_Bounds⟩,
      nf_Bounds__names := nf_Bounds__names,
      nf_Bounds__entries := nf_Bounds__entries,
      F_is_name := fun_mk (st := s_is_name) l_is_name c_is_name k_is_name,
      g_is_name := PySem.W.mg_of X G a_is_name,
      F_is_integer := fun_mk (st := s_is_integer) l_is_integer c_is_integer k_is_integer,
      g_is_integer := PySem.W.mg_of X G a_is_integer,
      F_refuse_strangers := fun_mk (st := s_refuse_strangers) l_refuse_strangers c_refuse_strangers k_refuse_strangers,
      g_refuse_strangers := PySem.W.mg_of X G a_refuse_strangers,
      F_Bounds___init__ := fun_mk (st := s_Bounds___init__) l_Bounds___init__ c_Bounds___init__ k_Bounds___init__,
      F_Bounds_names := fun_mk (st := s_Bounds_names) l_Bounds_names c_Bounds_names k_Bounds_names,
      p_Bounds_names := ⟨pa_Bounds_names, pg_Bounds_names, pt_Bounds_names, ⟨_, pr_Bounds_names⟩⟩,
      F_Bounds___len__ := fun_mk (st := s_Bounds___len__) l_Bounds___len__ c_Bounds___len__ k_Bounds___len__,
      m_Bounds___len__ := ⟨a_Bounds___len__, i_Bounds___len__, k_Bounds___len__⟩,
      F_Bounds___getitem__ := fun_mk (st := s_Bounds___getitem__) l_Bounds___getitem__ c_Bounds___getitem__ k_Bounds___getitem__,
      fi_Bounds___getitem__ := fi_Bounds___getitem__,
      m_Bounds___getitem__ := ⟨a_Bounds___getitem__, i_Bounds___getitem__, k_Bounds___getitem__⟩,
      F_Bounds___setitem__ := fun_mk (st := s_Bounds___setitem__) l_Bounds___setitem__ c_Bounds___setitem__ k_Bounds___setitem__,
      ns_Bounds := ns_Bounds,
      m_Bounds___setitem__ := ⟨a_Bounds___setitem__, i_Bounds___setitem__, k_Bounds___setitem__⟩,
      F__law_cell := fun_mk (st := s__law_cell) l__law_cell c__law_cell k__law_cell,
      g__law_cell := PySem.W.mg_of X G a__law_cell,
      F__law_pool := fun_mk (st := s__law_pool) l__law_pool c__law_pool k__law_pool,
      g__law_pool := PySem.W.mg_of X G a__law_pool,
      F__law_take := fun_mk (st := s__law_take) l__law_take c__law_take k__law_take,
      g__law_take := PySem.W.mg_of X G a__law_take,
      F__law_names := fun_mk (st := s__law_names) l__law_names c__law_names k__law_names,
      g__law_names := PySem.W.mg_of X G a__law_names,
      F__law_stranger := fun_mk (st := s__law_stranger) l__law_stranger c__law_stranger k__law_stranger,
      g__law_stranger := PySem.W.mg_of X G a__law_stranger,
      F__law_entries := fun_mk (st := s__law_entries) l__law_entries c__law_entries k__law_entries,
      g__law_entries := PySem.W.mg_of X G a__law_entries,
      F__law_whole := fun_mk (st := s__law_whole) l__law_whole c__law_whole k__law_whole,
      g__law_whole := PySem.W.mg_of X G a__law_whole,
      F__law_refusal := fun_mk (st := s__law_refusal) l__law_refusal c__law_refusal k__law_refusal,
      g__law_refusal := PySem.W.mg_of X G a__law_refusal,
      F__law_read := fun_mk (st := s__law_read) l__law_read c__law_read k__law_read,
      g__law_read := PySem.W.mg_of X G a__law_read,
      F__law_twice := fun_mk (st := s__law_twice) l__law_twice c__law_twice k__law_twice,
      g__law_twice := PySem.W.mg_of X G a__law_twice,
      F__law_bad := fun_mk (st := s__law_bad) l__law_bad c__law_bad k__law_bad,
      g__law_bad := PySem.W.mg_of X G a__law_bad,
      F__law_refused := fun_mk (st := s__law_refused) l__law_refused c__law_refused k__law_refused,
      g__law_refused := PySem.W.mg_of X G a__law_refused,
      F_law := fun_mk (st := s_law) l_law c_law k_law,
      g_law := PySem.W.mg_of X G a_law }
  exact ⟨_, fun s v => .of_eq rfl, fun base _ _ => (ok_law (P := P) (w := w) (base := base) T).imp fun vs H Q E h => last_of h⟩
end K18
end Lk
open PySem PySem.W PyProof.Rows in
set_option maxRecDepth 100000 in
set_option maxHeartbeats 0 in
theorem PySem.Challenge.cw_lookrows_k18_entries_of_tables_holds : PySem.Challenge.rw_lookrows_k18_entries_of_tables.Holds := by
  w_on; o_law; k_head; (case hw => w_witness2)
  k_fill
  refine L2.walk_ofK (l := PySem.Challenge.rw_lookrows_k18_entries_of_tables) (n := 63) (k := 8) (x := "_law_script") (CX := L2.CX0) (sp := Lk.K18.sp_last) rfl (by decide) rfl ⟨rfl, by decide, by decide⟩ (fun w h Y => PySem.W.kIn_of Y) ?F (fun K H a ns hl _ hS => ⟨a, ns, rfl, hS, hl, fun H' => rfl⟩) (fun _ _ _ _ z => z)
  case F =>
    intro w mg fa h KX G hmg
    refine' Lk.K18.all_mk KX G hmg ?y_LETTERS ?y_LONGEST_NAME ?y_NAME_CHARACTERS ?z_abs ?z_all ?z_bool ?z_enumerate ?z_int ?z_isinstance ?z_len ?z_list ?z_range ?z_str ?z_tuple ?a_BadName ?a_NameTaken ?a_NoFile ?a_SameFile ?a_BadNumber ?x_BadName ?sa_BadName ?ga_BadName ?gg_BadName ?kC_BadName ?eC_BadName ?tC_BadName ?hC_BadName ?ic_BadName ?ss_BadName_BadName ?ss_BadName_NameTaken ?ss_BadName_NoFile ?ss_BadName_SameFile ?ss_BadName_BadNumber ?nf_BadName_name ?a_BadName___init__ ?l_BadName___init__ ?c_BadName___init__ ?k_BadName___init__ ?t_BadName___init__ ?x_NameTaken ?sa_NameTaken ?ga_NameTaken ?gg_NameTaken ?kC_NameTaken ?eC_NameTaken ?tC_NameTaken ?hC_NameTaken ?ic_NameTaken ?ss_NameTaken_BadName ?ss_NameTaken_NameTaken ?ss_NameTaken_NoFile ?ss_NameTaken_SameFile ?ss_NameTaken_BadNumber ?nf_NameTaken_name ?a_NameTaken___init__ ?l_NameTaken___init__ ?c_NameTaken___init__ ?k_NameTaken___init__ ?t_NameTaken___init__ ?x_NoFile ?sa_NoFile ?ga_NoFile ?gg_NoFile ?kC_NoFile ?eC_NoFile ?tC_NoFile ?hC_NoFile ?ic_NoFile ?ss_NoFile_BadName ?ss_NoFile_NameTaken ?ss_NoFile_NoFile ?ss_NoFile_SameFile ?ss_NoFile_BadNumber ?nf_NoFile_name ?a_NoFile___init__ ?l_NoFile___init__ ?c_NoFile___init__ ?k_NoFile___init__ ?t_NoFile___init__ ?x_SameFile ?sa_SameFile ?ga_SameFile ?gg_SameFile ?kC_SameFile ?eC_SameFile ?tC_SameFile ?hC_SameFile ?ic_SameFile ?ss_SameFile_BadName ?ss_SameFile_NameTaken ?ss_SameFile_NoFile ?ss_SameFile_SameFile ?ss_SameFile_BadNumber ?nf_SameFile_name ?a_SameFile___init__ ?l_SameFile___init__ ?c_SameFile___init__ ?k_SameFile___init__ ?t_SameFile___init__ ?x_BadNumber ?sa_BadNumber ?ga_BadNumber ?gg_BadNumber ?kC_BadNumber ?eC_BadNumber ?tC_BadNumber ?hC_BadNumber ?ic_BadNumber ?ss_BadNumber_BadName ?ss_BadNumber_NameTaken ?ss_BadNumber_NoFile ?ss_BadNumber_SameFile ?ss_BadNumber_BadNumber ?nf_BadNumber_value ?a_BadNumber___init__ ?l_BadNumber___init__ ?c_BadNumber___init__ ?k_BadNumber___init__ ?t_BadNumber___init__ ?a_Bounds ?pg_Bounds ?hd_Bounds ?po_Bounds ?sa_Bounds ?mk_Bounds ?kC_Bounds ?nf_Bounds__names ?nf_Bounds__entries ?a_is_name ?l_is_name ?c_is_name ?k_is_name ?a_is_integer ?l_is_integer ?c_is_integer ?k_is_integer ?a_refuse_strangers ?l_refuse_strangers ?c_refuse_strangers ?k_refuse_strangers ?a_Bounds___init__ ?l_Bounds___init__ ?c_Bounds___init__ ?k_Bounds___init__ ?i_Bounds___init__ ?pa_Bounds_names ?pg_Bounds_names ?pt_Bounds_names ?pr_Bounds_names ?l_Bounds_names ?c_Bounds_names ?k_Bounds_names ?a_Bounds___len__ ?l_Bounds___len__ ?c_Bounds___len__ ?k_Bounds___len__ ?i_Bounds___len__ ?a_Bounds___getitem__ ?l_Bounds___getitem__ ?c_Bounds___getitem__ ?k_Bounds___getitem__ ?i_Bounds___getitem__ ?fi_Bounds___getitem__ ?a_Bounds___setitem__ ?l_Bounds___setitem__ ?c_Bounds___setitem__ ?k_Bounds___setitem__ ?i_Bounds___setitem__ ?ns_Bounds ?a__law_cell ?l__law_cell ?c__law_cell ?k__law_cell ?a__law_pool ?l__law_pool ?c__law_pool ?k__law_pool ?a__law_take ?l__law_take ?c__law_take ?k__law_take ?a__law_names ?l__law_names ?c__law_names ?k__law_names ?a__law_stranger ?l__law_stranger ?c__law_stranger ?k__law_stranger ?a__law_entries ?l__law_entries ?c__law_entries ?k__law_entries ?a__law_whole ?l__law_whole ?c__law_whole ?k__law_whole ?a__law_refusal ?l__law_refusal ?c__law_refusal ?k__law_refusal ?a__law_read ?l__law_read ?c__law_read ?k__law_read ?a__law_twice ?l__law_twice ?c__law_twice ?k__law_twice ?a__law_bad ?l__law_bad ?c__law_bad ?k__law_bad ?a__law_refused ?l__law_refused ?c__law_refused ?k__law_refused ?a_law ?l_law ?c_law ?k_law
    (case y_LETTERS => k_is)
    (case y_LONGEST_NAME => k_is)
    (case y_NAME_CHARACTERS => k_is)
    (case z_abs => k_is)
    (case z_all => k_is)
    (case z_bool => k_is)
    (case z_enumerate => k_is)
    (case z_int => k_is)
    (case z_isinstance => k_is)
    (case z_len => k_is)
    (case z_list => k_is)
    (case z_range => k_is)
    (case z_str => k_is)
    (case z_tuple => k_is)
    (case a_BadName => k_is)
    (case a_NameTaken => k_is)
    (case a_NoFile => k_is)
    (case a_SameFile => k_is)
    (case a_BadNumber => k_is)
    (case x_BadName => k_is)
    (case sa_BadName => k_is)
    (case ga_BadName => k_is)
    (case gg_BadName => k_is)
    (case kC_BadName => k_is)
    (case eC_BadName => k_is)
    (case tC_BadName => k_is)
    (case hC_BadName => k_is)
    (case ic_BadName => k_is)
    (case ss_BadName_BadName => k_is)
    (case ss_BadName_NameTaken => k_is)
    (case ss_BadName_NoFile => k_is)
    (case ss_BadName_SameFile => k_is)
    (case ss_BadName_BadNumber => k_is)
    (case nf_BadName_name => k_is)
    (case a_BadName___init__ => k_is)
    (case l_BadName___init__ => k_is)
    (case c_BadName___init__ => k_is)
    (case k_BadName___init__ => k_is)
    (case t_BadName___init__ => k_is)
    (case x_NameTaken => k_is)
    (case sa_NameTaken => k_is)
    (case ga_NameTaken => k_is)
    (case gg_NameTaken => k_is)
    (case kC_NameTaken => k_is)
    (case eC_NameTaken => k_is)
    (case tC_NameTaken => k_is)
    (case hC_NameTaken => k_is)
    (case ic_NameTaken => k_is)
    (case ss_NameTaken_BadName => k_is)
    (case ss_NameTaken_NameTaken => k_is)
    (case ss_NameTaken_NoFile => k_is)
    (case ss_NameTaken_SameFile => k_is)
    (case ss_NameTaken_BadNumber => k_is)
    (case nf_NameTaken_name => k_is)
    (case a_NameTaken___init__ => k_is)
    (case l_NameTaken___init__ => k_is)
    (case c_NameTaken___init__ => k_is)
    (case k_NameTaken___init__ => k_is)
    (case t_NameTaken___init__ => k_is)
    (case x_NoFile => k_is)
    (case sa_NoFile => k_is)
    (case ga_NoFile => k_is)
    (case gg_NoFile => k_is)
    (case kC_NoFile => k_is)
    (case eC_NoFile => k_is)
    (case tC_NoFile => k_is)
    (case hC_NoFile => k_is)
    (case ic_NoFile => k_is)
    (case ss_NoFile_BadName => k_is)
    (case ss_NoFile_NameTaken => k_is)
    (case ss_NoFile_NoFile => k_is)
    (case ss_NoFile_SameFile => k_is)
    (case ss_NoFile_BadNumber => k_is)
    (case nf_NoFile_name => k_is)
    (case a_NoFile___init__ => k_is)
    (case l_NoFile___init__ => k_is)
    (case c_NoFile___init__ => k_is)
    (case k_NoFile___init__ => k_is)
    (case t_NoFile___init__ => k_is)
    (case x_SameFile => k_is)
    (case sa_SameFile => k_is)
    (case ga_SameFile => k_is)
    (case gg_SameFile => k_is)
    (case kC_SameFile => k_is)
    (case eC_SameFile => k_is)
    (case tC_SameFile => k_is)
    (case hC_SameFile => k_is)
    (case ic_SameFile => k_is)
    (case ss_SameFile_BadName => k_is)
    (case ss_SameFile_NameTaken => k_is)
    (case ss_SameFile_NoFile => k_is)
    (case ss_SameFile_SameFile => k_is)
    (case ss_SameFile_BadNumber => k_is)
    (case nf_SameFile_name => k_is)
    (case a_SameFile___init__ => k_is)
    (case l_SameFile___init__ => k_is)
    (case c_SameFile___init__ => k_is)
    (case k_SameFile___init__ => k_is)
    (case t_SameFile___init__ => k_is)
    (case x_BadNumber => k_is)
    (case sa_BadNumber => k_is)
    (case ga_BadNumber => k_is)
    (case gg_BadNumber => k_is)
    (case kC_BadNumber => k_is)
    (case eC_BadNumber => k_is)
    (case tC_BadNumber => k_is)
    (case hC_BadNumber => k_is)
    (case ic_BadNumber => k_is)
    (case ss_BadNumber_BadName => k_is)
    (case ss_BadNumber_NameTaken => k_is)
    (case ss_BadNumber_NoFile => k_is)
    (case ss_BadNumber_SameFile => k_is)
    (case ss_BadNumber_BadNumber => k_is)
    (case nf_BadNumber_value => k_is)
    (case a_BadNumber___init__ => k_is)
    (case l_BadNumber___init__ => k_is)
    (case c_BadNumber___init__ => k_is)
    (case k_BadNumber___init__ => k_is)
    (case t_BadNumber___init__ => k_is)
    (case a_Bounds => k_is)
    (case pg_Bounds => k_is)
    (case hd_Bounds => k_is)
    (case po_Bounds => k_is)
    (case sa_Bounds => k_is)
    (case mk_Bounds => k_is)
    (case kC_Bounds => k_is)
    (case nf_Bounds__names => k_is)
    (case nf_Bounds__entries => k_is)
    (case a_is_name => k_is)
    (case l_is_name => k_is)
    (case c_is_name => k_is)
    (case k_is_name => k_is)
    (case a_is_integer => k_is)
    (case l_is_integer => k_is)
    (case c_is_integer => k_is)
    (case k_is_integer => k_is)
    (case a_refuse_strangers => k_is)
    (case l_refuse_strangers => k_is)
    (case c_refuse_strangers => k_is)
    (case k_refuse_strangers => k_is)
    (case a_Bounds___init__ => k_is)
    (case l_Bounds___init__ => k_is)
    (case c_Bounds___init__ => k_is)
    (case k_Bounds___init__ => k_is)
    (case i_Bounds___init__ => k_is)
    (case pa_Bounds_names => k_is)
    (case pg_Bounds_names => k_is)
    (case pt_Bounds_names => k_is)
    (case pr_Bounds_names => k_is)
    (case l_Bounds_names => k_is)
    (case c_Bounds_names => k_is)
    (case k_Bounds_names => k_is)
    (case a_Bounds___len__ => k_is)
    (case l_Bounds___len__ => k_is)
    (case c_Bounds___len__ => k_is)
    (case k_Bounds___len__ => k_is)
    (case i_Bounds___len__ => k_is)
    (case a_Bounds___getitem__ => k_is)
    (case l_Bounds___getitem__ => k_is)
    (case c_Bounds___getitem__ => k_is)
    (case k_Bounds___getitem__ => k_is)
    (case i_Bounds___getitem__ => k_is)
    (case fi_Bounds___getitem__ => k_is)
    (case a_Bounds___setitem__ => k_is)
    (case l_Bounds___setitem__ => k_is)
    (case c_Bounds___setitem__ => k_is)
    (case k_Bounds___setitem__ => k_is)
    (case i_Bounds___setitem__ => k_is)
    (case ns_Bounds => k_is)
    (case a__law_cell => k_is)
    (case l__law_cell => k_is)
    (case c__law_cell => k_is)
    (case k__law_cell => k_is)
    (case a__law_pool => k_is)
    (case l__law_pool => k_is)
    (case c__law_pool => k_is)
    (case k__law_pool => k_is)
    (case a__law_take => k_is)
    (case l__law_take => k_is)
    (case c__law_take => k_is)
    (case k__law_take => k_is)
    (case a__law_names => k_is)
    (case l__law_names => k_is)
    (case c__law_names => k_is)
    (case k__law_names => k_is)
    (case a__law_stranger => k_is)
    (case l__law_stranger => k_is)
    (case c__law_stranger => k_is)
    (case k__law_stranger => k_is)
    (case a__law_entries => k_is)
    (case l__law_entries => k_is)
    (case c__law_entries => k_is)
    (case k__law_entries => k_is)
    (case a__law_whole => k_is)
    (case l__law_whole => k_is)
    (case c__law_whole => k_is)
    (case k__law_whole => k_is)
    (case a__law_refusal => k_is)
    (case l__law_refusal => k_is)
    (case c__law_refusal => k_is)
    (case k__law_refusal => k_is)
    (case a__law_read => k_is)
    (case l__law_read => k_is)
    (case c__law_read => k_is)
    (case k__law_read => k_is)
    (case a__law_twice => k_is)
    (case l__law_twice => k_is)
    (case c__law_twice => k_is)
    (case k__law_twice => k_is)
    (case a__law_bad => k_is)
    (case l__law_bad => k_is)
    (case c__law_bad => k_is)
    (case k__law_bad => k_is)
    (case a__law_refused => k_is)
    (case l__law_refused => k_is)
    (case c__law_refused => k_is)
    (case k__law_refused => k_is)
    (case a_law => k_is)
    (case l_law => k_is)
    (case c_law => k_is)
    (case k_law => k_is)
