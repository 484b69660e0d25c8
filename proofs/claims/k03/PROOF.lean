import PyProof.Rows.All
import Wide.All
import OpenK.AllK
import Wide.FinOn
import HandS.ForMost
import HandS.Evl
import HandS.Wide
import HandS.Star
import HandS.Property
import HandS.IsInst
import HandS.ExcInit
import HandS.TryOnly
import HandS.ExcField
import HandS.TupAny
import HandS.Deep
import HandS.Conv
import HandS.Flow
import HandS.Style
import HandS.Walk
import HandS.Zip
import HandS.TupLe
import KE.KExcIs
import HandS.ExcValue
import HandS.ExcIs
import HandS.ExcOwn
import HandS.WordsExc
import HandS.More
import HandS.HotCalls
import KE.KOpsOwn
import OpenK.KMeth
import OpenK.KOps
import KE.KDictList
import HandS.Iter
import KE.GoesMore
import PySem.Challenge.RW_lookrows_k03_steps_and_files
set_option Elab.async false
set_option linter.all false
set_option maxRecDepth 100000
namespace Lk
open PySem L2
/-- what was tracked stands, but what is listed, which is tracked still -/
def Kp (ms : List Addr) (H H' : Hp) : Prop := ∀ b o, H b = some o → (b ∉ ms ∧ H' b = some o) ∨ (b ∈ ms ∧ ∃ o', H' b = some o')
theorem Kp.refl (ms : List Addr) (H : Hp) : Kp ms H H := fun b o e => by
  by_cases h : b ∈ ms
  · exact .inr ⟨h, o, e⟩
  · exact .inl ⟨h, e⟩
theorem Kp.trans {ms : List Addr} {H H1 H2 : Hp} (a : Kp ms H H1) (c : Kp ms H1 H2) : Kp ms H H2 := fun b o e => by
  rcases a b o e with ⟨h, q⟩ | ⟨h, o', q⟩
  · exact c b o q
  · rcases c b o' q with ⟨h', _⟩ | ⟨_, z⟩
    · exact absurd h h'
    · exact .inr ⟨h, z⟩
theorem Kp.at {ms : List Addr} {H H' : Hp} {b : Addr} {o : HO} (k : Kp ms H H') (e : H b = some o) (n : b ∉ ms) : H' b = some o := by
  rcases k b o e with ⟨_, q⟩ | ⟨h, _⟩
  · exact q
  · exact absurd h n
theorem Kp.mono {ms ns : List Addr} {H H' : Hp} (k : Kp ms H H') (h : ∀ b ∈ ms, b ∈ ns) : Kp ns H H' := fun b o e => by
  rcases k b o e with ⟨n, q⟩ | ⟨n, o', q⟩
  · by_cases hb : b ∈ ns
    · exact .inr ⟨hb, o, q⟩
    · exact .inl ⟨hb, q⟩
  · exact .inr ⟨h b n, o', q⟩
theorem Kp.free {ms : List Addr} {H H' : Hp} {l : Addr} (k : Kp ms H H') (h : H' l = none) : H l = none := by
  cases q : H l with
  | none => rfl
  | some o =>
    rcases k l o q with ⟨_, z⟩ | ⟨_, o', z⟩
    · rw [z] at h; cases h
    · rw [z] at h; cases h
theorem Kp.new {ms : List Addr} {H H' : Hp} {p : Addr} {o : HO} (k : Kp ms H H') (h : H' p = none) : Kp ms H (upd H' p o) := fun b u e => by
  rcases k b u e with ⟨n, q⟩ | ⟨n, o', q⟩
  · exact .inl ⟨n, by rw [upd_ne (ne_of_none q h)]; exact q⟩
  · exact .inr ⟨n, o', by rw [upd_ne (ne_of_none q h)]; exact q⟩
/-- a listed one is changed, or one that is new since -/
theorem Kp.put {ms : List Addr} {H H' : Hp} {p : Addr} {o : HO} (k : Kp ms H H') (h : p ∈ ms ∨ H p = none) : Kp ms H (upd H' p o) := fun b u e => by
  by_cases hb : b = p
  · subst hb
    rcases h with h | h
    · exact .inr ⟨h, o, upd_same⟩
    · rw [h] at e; cases e
  · rcases k b u e with ⟨n, q⟩ | ⟨n, o', q⟩
    · exact .inl ⟨n, by rw [upd_ne hb]; exact q⟩
    · exact .inr ⟨n, o', by rw [upd_ne hb]; exact q⟩
theorem atI3 {α : Type} {a b c : α} : atI [a, b, c] 0 = some a ∧ atI [a, b, c] 1 = some b ∧ atI [a, b, c] 2 = some c := ⟨rfl, rfl, rfl⟩
/-! ### the pool of draws -/
def Pool (H : Hp) (p : Addr) (n : Nat) : Prop := ∃ a b c : Int, H p = some (.lst [.int a, .int b, .int c]) ∧ 0 ≤ a ∧ 0 ≤ b ∧ b < 1000000007 ∧ 0 ≤ c ∧ c ≤ (n : Int)
theorem Pool.mono {H : Hp} {p : Addr} {n m : Nat} (h : Pool H p n) (l : n ≤ m) : Pool H p m := by
  obtain ⟨a, b, c, e, h1, h2, h3, h4, h5⟩ := h
  exact ⟨a, b, c, e, h1, h2, h3, h4, by omega⟩
/-! ### rules whose new heaps are told by what they hold -/
section
variable {X : Cx} {K : PySem.W.Frag}
theorem opImp {f : Value → Value → Sem Value} {r r' : R2} (h : OpR X f r) (i : ∀ x y H Q, r' x y H Q → r x y H Q) : OpR X f r' := fun pins s σ H x y v u Q I rx ry q => h pins s σ H x y v u Q I rx ry (i x y H Q q)
theorem callImp {f : Value} {r r' : List V → Hp → VK → Prop} (h : CallR X f r) (i : ∀ xs H Q, r' xs H Q → r xs H Q) : CallR X f r' := fun pins s σ H xs us Q I rx q => h pins s σ H xs us Q I rx (i xs H Q q)
theorem slImp {r r' : V → Option Int → Option Int → Hp → VK → Prop} (h : SlR X r) (i : ∀ x l u H Q, r' x l u H Q → r x l u H Q) : SlR X r' := fun pins s σ H x v vl vu lo hi sl Q I rx hs pl pu q => h pins s σ H x v vl vu lo hi sl Q I rx hs pl pu (i _ _ _ _ _ q)
theorem mtImp {id : String} {r r' : V → List V → Hp → VK → Prop} (h : MtM X id r) (i : ∀ x vs H Q, r' x vs H Q → r x vs H Q) : MtM X id r' := fun pins s σ H x xs v us Q I rx rv q => h pins s σ H x xs v us Q I rx rv (i _ _ _ _ q)
theorem newK {H : Hp} {o : HO} {Q : VK} (h : ∀ p H2, H p = none → H2 p = some o → Kp [] H H2 → Q (.ref p) H2) : ∀ p, H p = none → Q (.ref p) (upd H p o) := fun p hp => h p _ hp upd_same ((Kp.refl [] H).new hp)
def tLstK (t : TA) : TE := fun σ H Q => t σ H fun xs H1 => xs.length ≤ sizeLine ∧ ∀ p H2, H1 p = none → H2 p = some (.lst xs) → Kp [] H1 H2 → Q (.ref p) H2
def tTupK (t : TA) : TE := fun σ H Q => t σ H fun xs H1 => xs.length ≤ sizeLine ∧ ∀ p H2, H1 p = none → H2 p = some (.tup xs) → Kp [] H1 H2 → Q (.ref p) H2
theorem pe_lstK {es : List Expr} {t : TA} {pos : Pos} (h : PA X es t) : PE X (.List es pos) (tLstK t) := by
  refine ⟨fun pins s σ H Q I hq => ?_⟩
  refine wpAny_List_spliced (thn (h.run pos pins s σ H _ I hq) fun us s1 ⟨xs, H1, I1, r, z, q⟩ => ⟨by rw [← r.length]; exact z, ?_⟩)
  have hf : H1 s1.heap.objs.size = none := I1.hok.fresh (Nat.le_refl _)
  refine ⟨.ref s1.heap.objs.size, upd H1 s1.heap.objs.size (.lst xs), I1.laid (t' := s1.toks) (fun b u e => Heap.get?_push_of_some _ e) (Nat.le_refl _) ?_, rfl, q _ _ hf upd_same ((Kp.refl [] H1).new hf)⟩
  exact ⟨z, us, 0, r, Heap.get?_push_size _ rfl⟩
theorem pe_tupK {es : List Expr} {t : TA} {pos : Pos} {xk} (h : PA X es t) : PE X (.Tuple es xk pos) (tTupK t) := by
  refine ⟨fun pins s σ H Q I hq => ?_⟩
  refine wpAny_Tuple_spliced (thn (h.run pos pins s σ H _ I hq) fun us s1 ⟨xs, H1, I1, r, z, q⟩ => ⟨by rw [← r.length]; exact z, ?_⟩)
  have hf : H1 s1.heap.objs.size = none := I1.hok.fresh (Nat.le_refl _)
  refine ⟨.ref s1.heap.objs.size, upd H1 s1.heap.objs.size (.tup xs), I1.laid (t' := s1.toks) (fun b u e => Heap.get?_push_of_some _ e) (Nat.le_refl _) ?_, rfl, q _ _ hf upd_same ((Kp.refl [] H1).new hf)⟩
  exact ⟨z, us, r, ⟨_, Heap.get?_push_size _ rfl, rfl, _, rfl⟩⟩
def rCatK : R2 := fun x y H Q => ∃ l b xs zs, x = .ref l ∧ y = .ref b ∧ H l = some (.lst xs) ∧ H b = some (.lst zs) ∧ xs.length + zs.length ≤ sizeLine ∧ ∀ p H2, H p = none → H2 p = some (.lst (xs ++ zs)) → Kp [] H H2 → Q (.ref p) H2
theorem op_catK : OpR X (binaryOp .Add) rCatK := opImp op_cat fun _ _ _ _ ⟨l, b, xs, zs, h1, h2, h3, h4, h5, q⟩ => ⟨l, b, xs, zs, h1, h2, h3, h4, h5, newK q⟩
def rSlLK (K : PySem.W.Frag) : V → Option Int → Option Int → Hp → VK → Prop := fun x lo hi H Q => ∃ a xs, x = .ref a ∧ SqL K H a xs ∧ ∀ p H2, H p = none → H2 p = some (.lst (cutV xs lo hi)) → Kp [] H H2 → Q (.ref p) H2
theorem sl_listK : SlR X (rSlLK X.K) := slImp sl_list fun _ _ _ _ _ ⟨a, xs, h1, h2, q⟩ => ⟨a, xs, h1, h2, newK q⟩
def rAppendK : V → List V → Hp → VK → Prop := fun x vs H Q => ∃ l xs y, x = .ref l ∧ vs = [y] ∧ H l = some (.lst xs) ∧ xs.length < sizeLine ∧ ∀ H2, H2 l = some (.lst (xs ++ [y])) → Kp [l] H H2 → Q .non H2
theorem mt_appendK : MtM X "list.append" rAppendK := mtImp mt_append fun _ _ H _ ⟨l, xs, y, h1, h2, h3, h4, q⟩ => ⟨l, xs, y, h1, h2, h3, h4, q _ upd_same ((Kp.refl [l] H).put (.inl (List.mem_singleton.mpr rfl)))⟩
def rSetLK : V → V → V → Hp → (Hp → Prop) → Prop := fun o i v H Q => ∃ p xs k j, o = .ref p ∧ i = .int k ∧ H p = some (.lst xs) ∧ ixN xs.length k = some j ∧ ∀ H2, H2 p = some (.lst (xs.set j v)) → Kp [p] H H2 → Q H2
theorem set_listK : PSet X rSetLK := fun pins s σ H o i v ov iv u Q I ro ri rv ⟨p, xs, k, j, h1, h2, h3, h4, q⟩ => set_list pins s σ H o i v ov iv u Q I ro ri rv ⟨p, xs, k, j, h1, h2, h3, h4, q _ upd_same ((Kp.refl [p] H).put (.inl (List.mem_singleton.mpr rfl)))⟩
/-- len, the number in the form that one wants -/
def rLenK (K : PySem.W.Frag) : List V → Hp → VK → Prop := fun xs H Q => ∃ p ys, ∃ n : Int, xs = [.ref p] ∧ (SqL K H p ys ∨ SqT K H p ys) ∧ (ys.length : Int) = n ∧ Q (.int n) H
theorem call_lenK : CallR X (.builtin "len") (rLenK X.K) := callImp call_len_seq fun _ _ _ ⟨p, ys, n, h1, h2, h3, q⟩ => ⟨p, ys, h1, h2, by subst h3; exact q⟩
/-- int(i) of an int -/
theorem call_intK : CallR X (.type "int") (fun xs H Q => ∃ i, xs = [.int i] ∧ Q (.int i) H) := callImp call_int1 fun _ _ _ h => .inl h
end
theorem Kp.at0 {H H' : Hp} {b : Addr} {o : HO} (k : Kp [] H H') (e : H b = some o) : H' b = some o := k.at e (by simp)
theorem Kp.at1 {H H' : Hp} {b m : Addr} {o : HO} (k : Kp [m] H H') (e : H b = some o) (n : b ≠ m) : H' b = some o := k.at e (by simpa using n)
theorem Kp.at2 {H H' : Hp} {b m1 m2 : Addr} {o : HO} (k : Kp [m1, m2] H H') (e : H b = some o) (n1 : b ≠ m1) (n2 : b ≠ m2) : H' b = some o := k.at e (by simp [n1, n2])
/-- one more step: what it changes is listed, or new since -/
theorem Kp.step {ms ns : List Addr} {H H1 H2 : Hp} (k : Kp ms H H1) (c : Kp ns H1 H2) (h : ∀ b ∈ ns, b ∈ ms ∨ H b = none) : Kp ms H H2 := fun b o e => by
  rcases k b o e with ⟨n, q⟩ | ⟨n, o', q⟩
  · rcases c b o q with ⟨_, z⟩ | ⟨hb, _⟩
    · exact .inl ⟨n, z⟩
    · rcases h b hb with z | z
      · exact absurd z n
      · rw [z] at e; cases e
  · rcases c b o' q with ⟨_, z⟩ | ⟨_, o2, z⟩
    · exact .inr ⟨n, o', z⟩
    · exact .inr ⟨n, o2, z⟩
theorem Kp.step0 {ms : List Addr} {H H1 H2 : Hp} (k : Kp ms H H1) (c : Kp [] H1 H2) : Kp ms H H2 := k.step c fun b h => nomatch h
/-- an item of a mapped list -/
theorem atI_list {α : Type} {xs : List α} {i : Int} (h0 : 0 ≤ i) (h1 : i < (xs.length : Int)) : ∃ x, xs[i.toNat]? = some x ∧ atI xs i = some x := by
  obtain ⟨k, rfl⟩ := Int.eq_ofNat_of_zero_le h0
  have hk : k < xs.length := by omega
  have e : xs[k]? = some xs[k] := List.getElem?_eq_getElem hk
  exact ⟨xs[k], e, atI_nat e⟩
theorem atI_map {α : Type} {f : α → V} {xs : List α} {i : Int} (h0 : 0 ≤ i) (h1 : i < (xs.length : Int)) : ∃ x, xs[i.toNat]? = some x ∧ atI (xs.map f) i = some (f x) := by
  obtain ⟨k, rfl⟩ := Int.eq_ofNat_of_zero_le h0
  have hk : k < xs.length := by omega
  have e : xs[k]? = some xs[k] := List.getElem?_eq_getElem hk
  exact ⟨xs[k], e, atI_nat (by rw [List.getElem?_map, e] <;> rfl)⟩
theorem Pool.at {H H' : Hp} {p : Addr} {n : Nat} {ms : List Addr} (h : Pool H p n) (k : Kp ms H H') (q : p ∉ ms) : Pool H' p n := by
  obtain ⟨a, b, c, e, z⟩ := h
  exact ⟨a, b, c, k.at e q, z⟩
/-! ### promises -/
def spCell (K : PySem.W.Frag) : Sp := fun vs H Q _ => ∃ (a : Addr) (ns : List Int) (k : Nat), vs = [.ref a, .int k] ∧ SqL K H a (ns.map V.int) ∧ ∀ x : Int, Q (.int x) H
def spPool : Sp := fun vs H Q _ => ∃ x : Int, vs = [.int x] ∧ ∀ p H', Kp [] H H' → H p = none → Pool H' p 0 → Q (.ref p) H'
def spTake : Sp := fun vs H Q _ => ∃ (p : Addr) (m : Int) (n : Nat), vs = [.ref p, .int m] ∧ Pool H p n ∧ 0 < m ∧ m < 1000000 ∧ n ≤ 1000000 ∧ ∀ (r : Int) H', 0 ≤ r → r < m → Kp [p] H H' → Pool H' p (n + 1) → Q (.int r) H'
end Lk
set_option Elab.async false
set_option linter.all false
set_option maxRecDepth 100000
namespace Lk
open PySem L2
theorem ifT {b : Bool} {A B : Prop} (hb : b = true) (h : A) : if b = true then A else B := by subst hb; exact h
theorem ifF {b : Bool} {A B : Prop} (hb : b = false) (h : B) : if b = true then A else B := by subst hb; exact h
theorem getMap {α β : Type} {f : α → β} {xs : List α} {i : Nat} {x : β} (h : (xs.map f)[i]? = some x) : ∃ y, xs[i]? = some y ∧ x = f y := by
  rw [List.getElem?_map] at h
  cases e : xs[i]? with
  | none => rw [e] at h; cases h
  | some y => rw [e] at h; exact ⟨y, rfl, (Option.some.inj h).symm⟩
theorem lt_of_get {α : Type} {xs : List α} {i : Nat} {x : α} (h : xs[i]? = some x) : i < xs.length := (List.getElem?_eq_some_iff.mp h).1
theorem updK {G : Hp → Prop} {H : Hp} {D : Addr} {o : HO} (h : ∀ H5, H5 D = some o → Kp [D] H H5 → G H5) : G (upd H D o) := h _ upd_same ((Kp.refl [D] H).put (.inl (List.mem_singleton.mpr rfl)))
theorem updN {G : Hp → Prop} {H : Hp} {D : Addr} {o : HO} (hn : H D = none) (h : ∀ H5, H5 D = some o → Kp [] H H5 → G H5) : G (upd H D o) := h _ upd_same ((Kp.refl [] H).new hn)
theorem slen {n : Nat} (h : n ≤ 16777216) : n ≤ sizeLine := by rw [sizeLine_eq]; exact h
theorem slenlt {n : Nat} (h : n < 16777216) : n < sizeLine := by rw [sizeLine_eq]; exact h
/-! ### texts as lists of signs -/
def ch (s : Str) : List Nat := s.cps.toList
theorem len_ch (s : Str) : s.length = (ch s).length := by unfold ch Str.length; rw [Array.length_toList]
theorem ch_append (a b : Str) : ch (a ++ b) = ch a ++ ch b := by
  show (a.cps ++ b.cps).toList = _
  rw [Array.toList_append]; rfl
theorem ch_one (c : Nat) : ch ⟨#[c]⟩ = [c] := rfl
theorem ch_ext {a b : Str} (h : ch a = ch b) : a = b := by
  cases a with | mk x => cases b with | mk y =>
    have : x.toList = y.toList := h
    rw [Array.toList_inj.mp this]
theorem len_append (a b : Str) : (a ++ b).length = a.length + b.length := by rw [len_ch, len_ch, len_ch, ch_append, List.length_append]
theorem len_one (c : Nat) : Str.length ⟨#[c]⟩ = 1 := rfl
theorem ch_to (z : Str) {k : Int} (h : 0 ≤ k) : ch (cutS z none (some k)) = (ch z).take k.toNat := by
  obtain ⟨n, rfl⟩ := Int.eq_ofNat_of_zero_le h
  show ((z.cps.toList.drop (HT.sIx z.length 0 none)).take (HT.sIx z.length z.length (some ((n : Nat) : Int)) - HT.sIx z.length 0 none)).toArray.toList = _
  rw [List.toList_toArray, HT.sIx_none, HT.sIx_nat]
  show List.take (min n z.length - 0) (ch z) = _
  rw [Nat.sub_zero, len_ch, Int.toNat_natCast]
  by_cases c : n ≤ (ch z).length
  · rw [Nat.min_eq_left c]
  · rw [Nat.min_eq_right (by omega), List.take_of_length_le (Nat.le_refl _), List.take_of_length_le (by omega)]
theorem ch_from (z : Str) {k : Int} (h : 0 ≤ k) : ch (cutS z (some k) none) = (ch z).drop k.toNat := by
  obtain ⟨n, rfl⟩ := Int.eq_ofNat_of_zero_le h
  show ((z.cps.toList.drop (HT.sIx z.length 0 (some ((n : Nat) : Int)))).take (HT.sIx z.length z.length none - HT.sIx z.length 0 (some ((n : Nat) : Int)))).toArray.toList = _
  rw [List.toList_toArray, HT.sIx_none, HT.sIx_nat]
  show List.take (z.length - min n z.length) (List.drop (min n z.length) (ch z)) = _
  rw [len_ch, Int.toNat_natCast]
  by_cases c : n ≤ (ch z).length
  · rw [Nat.min_eq_left c, List.take_of_length_le (by rw [List.length_drop]; exact Nat.le_refl _)]
  · rw [Nat.min_eq_right (by omega), List.drop_of_length_le (Nat.le_refl _), List.drop_of_length_le (by omega), List.take_nil]
theorem atS {z : Str} {i : Int} (h0 : 0 ≤ i) (h1 : i < (z.length : Int)) : ∃ c, (ch z)[i.toNat]? = some c ∧ atI z.cps.toList i = some c := atI_list (xs := ch z) h0 (by rw [← len_ch]; exact h1)
def isLet (c : Nat) : Bool := 97 ≤ c && c ≤ 122
def isAl (c : Nat) : Bool := isLet c || (48 ≤ c && c ≤ 57)
theorem al_of_let {c : Nat} (h : isLet c = true) : isAl c = true := by unfold isAl; rw [h]; rfl
/-- a name: a letter, then at most seven letters and digits -/
def Nm (s : Str) : Prop := ∃ c r, ch s = c :: r ∧ isLet c = true ∧ (∀ x ∈ r, isAl x = true) ∧ r.length ≤ 7
/-- a word that grows: its first sign and i more -/
def Wd (s : Str) (i : Nat) : Prop := ∃ c r, ch s = c :: r ∧ isLet c = true ∧ (∀ x ∈ r, isAl x = true) ∧ r.length = i
def lets : List Nat := [97, 98, 99, 100, 101, 102, 103, 104, 105, 106, 107, 108, 109, 110, 111, 112, 113, 114, 115, 116, 117, 118, 119, 120, 121, 122]
def als : List Nat := lets ++ [48, 49, 50, 51, 52, 53, 54, 55, 56, 57]
theorem ch_lets : ch ("abcdefghijklmnopqrstuvwxyz" : Str) = lets := by decide +kernel
theorem ch_als : ch (("abcdefghijklmnopqrstuvwxyz" : Str) ++ ("0123456789" : Str)) = als := by decide +kernel
theorem len_lets : Str.length ("abcdefghijklmnopqrstuvwxyz" : Str) = 26 := by decide +kernel
theorem len_als : Str.length (("abcdefghijklmnopqrstuvwxyz" : Str) ++ ("0123456789" : Str)) = 36 := by decide +kernel
theorem let_at {c : Nat} {i : Nat} (h : (ch ("abcdefghijklmnopqrstuvwxyz" : Str))[i]? = some c) : isLet c = true := by
  rw [ch_lets] at h
  have q : ∀ x ∈ lets, isLet x = true := by decide +kernel
  exact q c (List.mem_of_getElem? h)
theorem al_at {c : Nat} {i : Nat} (h : (ch (("abcdefghijklmnopqrstuvwxyz" : Str) ++ ("0123456789" : Str)))[i]? = some c) : isAl c = true := by
  rw [ch_als] at h
  have q : ∀ x ∈ als, isAl x = true := by decide +kernel
  exact q c (List.mem_of_getElem? h)
theorem Wd.one {c : Nat} (h : isLet c = true) : Wd ⟨#[c]⟩ 0 := ⟨c, [], rfl, h, (fun x z => absurd z List.not_mem_nil), rfl⟩
theorem Wd.more {s : Str} {i : Nat} {c : Nat} (w : Wd s i) (h : isAl c = true) : Wd (s ++ ⟨#[c]⟩) (i + 1) := by
  obtain ⟨a, r, e, h1, h2, h3⟩ := w
  refine ⟨a, r ++ [c], by rw [ch_append, e, ch_one]; rfl, h1, fun x hx => ?_, by rw [List.length_append, h3]; rfl⟩
  rcases List.mem_append.mp hx with q | q
  · exact h2 x q
  · rw [List.mem_singleton.mp q]; exact h
theorem Wd.len {s : Str} {i : Nat} (w : Wd s i) : s.length = i + 1 := by
  obtain ⟨a, r, e, _, _, h3⟩ := w
  rw [len_ch, e, List.length_cons, h3]
/-- the ways to make names: ss holds them -/
def Nms (ss : List Str) : Prop := ss.Nodup ∧ ∀ s ∈ ss, Nm s
theorem nodup_of_get {α : Type} {xs : List α} (h : ∀ (i j : Nat) (x : α), xs[i]? = some x → xs[j]? = some x → i = j) : xs.Nodup := by
  rw [List.nodup_iff_pairwise_ne, List.pairwise_iff_getElem]
  intro i j hi hj hij e
  have e1 : xs[i]? = some xs[i] := List.getElem?_eq_getElem hi
  have e2 : xs[j]? = some xs[i] := by rw [List.getElem?_eq_getElem hj, e]
  have := h i j xs[i] e1 e2
  omega
theorem get_inj {α : Type} {xs : List α} (hn : xs.Nodup) {i j : Nat} {x : α} (h1 : xs[i]? = some x) (h2 : xs[j]? = some x) : i = j := (List.getElem?_inj (lt_of_get h1) hn).mp (h1.trans h2.symm)
/-- beginnings of one word -/
theorem nms_takes {w : Str} {ss : List Str} (hw : Wd w 7) (hl : ss.length ≤ 8) (h : ∀ (j : Nat) s, ss[j]? = some s → ch s = (ch w).take (j + 1)) : Nms ss := by
  obtain ⟨c, r, e, h1, h2, h3⟩ := hw
  refine ⟨nodup_of_get fun i j x hi hj => ?_, fun s hs => ?_⟩
  · have a := h i x hi
    have b := h j x hj
    have li := lt_of_get hi
    have lj := lt_of_get hj
    have q : (List.take (i + 1) (ch w)).length = (List.take (j + 1) (ch w)).length := by rw [← a, ← b]
    rw [List.length_take, List.length_take, e, List.length_cons, h3] at q
    omega
  · obtain ⟨j, hj⟩ := List.getElem?_of_mem hs
    have a := h j s hj
    have lj := lt_of_get hj
    refine ⟨c, r.take j, by rw [a, e]; rfl, h1, fun x hx => h2 x (List.mem_of_mem_take hx), by rw [List.length_take]; omega⟩
/-- one sign changes within a stem -/
theorem nms_signs {pre post told : List Nat} {start : Nat} {ss : List Str} (hl : ss.length ≤ 8) (ht : told.Nodup) (hn : told.length = 26 ∨ told.length = 36)
    (h : ∀ (j : Nat) s, ss[j]? = some s → ∃ c, told[(start + 7 * j) % told.length]? = some c ∧ ch s = pre ++ c :: post)
    (hv : ∀ c ∈ told, ∃ a r, pre ++ c :: post = a :: r ∧ isLet a = true ∧ (∀ x ∈ r, isAl x = true) ∧ r.length ≤ 7) : Nms ss := by
  refine ⟨nodup_of_get fun i j x hi hj => ?_, fun s hs => ?_⟩
  · obtain ⟨a, ha, ea⟩ := h i x hi
    obtain ⟨b, hb, eb⟩ := h j x hj
    have li := lt_of_get hi
    have lj := lt_of_get hj
    rw [ea] at eb
    have eab : a = b := by
      have := List.append_cancel_left eb
      injection this
    rw [eab] at ha
    have la := lt_of_get ha
    have lb := lt_of_get hb
    have q : (start + 7 * i) % told.length = (start + 7 * j) % told.length := get_inj ht ha hb
    rcases hn with z | z <;> rw [z] at q <;> omega
  · obtain ⟨j, hj⟩ := List.getElem?_of_mem hs
    obtain ⟨c, hc, e⟩ := h j s hj
    obtain ⟨a, r, e2, h1, h2, h3⟩ := hv c (List.mem_of_getElem? hc)
    exact ⟨a, r, e.trans e2, h1, h2, h3⟩
end Lk
namespace Lk
open PySem L2
theorem all_snoc {α : Type} {P : Nat → α → Prop} {ss : List α} {i : Nat} {y : α} (h : ∀ (j : Nat) t, ss[j]? = some t → P j t) (hl : ss.length = i) (hy : P i y) : ∀ (j : Nat) t, (ss ++ [y])[j]? = some t → P j t := by
  intro j t e
  by_cases c : j < ss.length
  · rw [List.getElem?_append_left c] at e
    exact h j t e
  · rw [List.getElem?_append_right (by omega)] at e
    have q : j - ss.length = 0 := by
      have := lt_of_get e
      rw [List.length_singleton] at this
      omega
    rw [q] at e
    have e2 : y = t := Option.some.inj e
    have e3 : j = i := by omega
    subst e2; subst e3
    exact hy
/-- the signs of which one is put into a stem at the place pl -/
structure Told (t : Str) (pl : Int) : Prop where
  nd : (ch t).Nodup
  len : Str.length t = 26 ∨ Str.length t = 36
  ok : ∀ c ∈ ch t, isAl c = true ∧ (pl = 0 → isLet c = true)
theorem told_lets (pl : Int) : Told ("abcdefghijklmnopqrstuvwxyz" : Str) pl := by
  refine ⟨by rw [ch_lets]; decide +kernel, .inl len_lets, ?_⟩
  rw [ch_lets]
  intro c hc
  have q : ∀ x ∈ lets, isLet x = true := by decide +kernel
  exact ⟨al_of_let (q c hc), fun _ => q c hc⟩
theorem told_als {pl : Int} (h : ¬ pl = 0) : Told (("abcdefghijklmnopqrstuvwxyz" : Str) ++ ("0123456789" : Str)) pl := by
  refine ⟨by rw [ch_als]; decide +kernel, .inr len_als, ?_⟩
  rw [ch_als]
  intro c hc
  have q : ∀ x ∈ als, isAl x = true := by decide +kernel
  exact ⟨q c hc, fun z => absurd z h⟩
theorem Told.names {t w : Str} {k pl st : Int} {ss : List Str} (T : Told t pl) (hw : Wd w 7) (hk : 0 ≤ k) (hk7 : k < 8) (hp : 0 ≤ pl) (hpk : pl ≤ k) (hs : 0 ≤ st) (hl : ss.length ≤ 8)
    (h : ∀ (j : Nat) s, ss[j]? = some s → ∃ c, (ch t)[(st.toNat + 7 * j) % (ch t).length]? = some c ∧ ch s = (ch (cutS w none (some k))).take pl.toNat ++ c :: (ch (cutS w none (some k))).drop pl.toNat) : Nms ss := by
  obtain ⟨a, r, e, h1, h2, h3⟩ := hw
  refine nms_signs hl T.nd (by rw [← len_ch]; exact T.len) h fun c hc => ?_
  obtain ⟨o1, o2⟩ := T.ok c hc
  rw [ch_to _ hk, e]
  obtain ⟨k, rfl⟩ := Int.eq_ofNat_of_zero_le hk
  obtain ⟨pl, rfl⟩ := Int.eq_ofNat_of_zero_le hp
  rw [Int.toNat_natCast, Int.toNat_natCast]
  cases pl with
  | zero =>
    refine ⟨c, List.take k (a :: r), rfl, o2 rfl, fun x hx => ?_, by rw [List.length_take, List.length_cons, h3]; omega⟩
    rcases List.mem_cons.mp (List.mem_of_mem_take hx) with z | z
    · rw [z]; exact al_of_let h1
    · exact h2 x z
  | succ n =>
    have hk1 : k = (k - 1) + 1 := by omega
    rw [hk1]
    refine ⟨a, (List.take n (List.take (k - 1) r)) ++ c :: List.drop n (List.take (k - 1) r), rfl, h1, fun x hx => ?_, ?_⟩
    · rcases List.mem_append.mp hx with z | z
      · exact h2 x (List.mem_of_mem_take (List.mem_of_mem_take z))
      · rcases List.mem_cons.mp z with z | z
        · rw [z]; exact o1
        · exact h2 x (List.mem_of_mem_take (List.mem_of_mem_drop z))
    · rw [List.length_append, List.length_cons, List.length_take, List.length_drop, List.length_take, h3]
      omega
end Lk
namespace Lk
open PySem L2
theorem len_digits : Str.length ("0123456789" : Str) = 10 := by decide +kernel
theorem idx_mod {n : Nat} {s : Int} {k : Nat} (hs : 0 ≤ s) (hn : 0 < n) : Int.toNat ((s + 7 * (0 + (k : Int))) % (n : Int)) = (Int.toNat s + 7 * k) % n := by
  obtain ⟨a, rfl⟩ := Int.eq_ofNat_of_zero_le hs
  have e : ((a : Int) + 7 * (0 + (k : Int))) % (n : Int) = (((a + 7 * k) % n : Nat) : Int) := by
    rw [Int.natCast_emod]
    congr 1
    omega
  rw [e, Int.toNat_natCast, Int.toNat_natCast]
end Lk
namespace Lk
open PySem L2
theorem len_to (z : Str) {k : Int} (h : 0 ≤ k) : (cutS z none (some k)).length = min k.toNat z.length := by rw [len_ch, ch_to z h, List.length_take, len_ch]
theorem len_from (z : Str) {k : Int} (h : 0 ≤ k) : (cutS z (some k) none).length = z.length - k.toNat := by rw [len_ch, ch_from z h, List.length_drop, len_ch]
end Lk
set_option Elab.async false
set_option linter.all false
set_option maxRecDepth 100000
namespace Lk
open PySem L2
/-! ### (a, b) > (c, d) of ints -/
def pairGt (a b c d : Int) : Bool := if a = c then decide (d < b) else decide (c < a)
def rGtT (K : PySem.W.Frag) : R2 := fun u v H Q => ∃ (p q : Addr) (a b c d : Int), u = .ref p ∧ v = .ref q ∧ SqT K H p [.int a, .int b] ∧ SqT K H q [.int c, .int d] ∧ Q (.bl (pairGt a b c d)) H
theorem two_ints {a b : Int} {us : List Value} (r : Vals [V.int a, V.int b] us) : ∃ t t', us = [.int a t, .int b t'] := by
  cases r with | cons r1 r2 => cases r2 with | cons r3 r4 => cases r4; obtain ⟨t, rfl⟩ := r1; obtain ⟨t', rfl⟩ := r3; exact ⟨t, t', rfl⟩
theorem op_gtT {X : Cx} (hu : X.A.units < cLine) : OpR X (compareOp .Gt) (rGtT X.K) := by
  rintro pins s σ H _ _ v u Q I rx ry ⟨p, q, a, b, c, d, rfl, rfl, hp, hq, k⟩
  cases rx; cases ry
  obtain ⟨its, r1, p1, _⟩ := I.tuple hp; obtain ⟨its', r2, p2, _⟩ := I.tuple hq
  obtain ⟨t1, t2, rfl⟩ := two_ints r1; obtain ⟨t3, t4, rfl⟩ := two_ints r2
  have q1 : ∀ {x y : Int} {t t' : Tok}, SeqAt.EqAt X.A.in1 s (.int x t) (.int y t') (decide (x = y)) := fun {x y t t'} => by
    rw [← Bool.beq_eq_decide_eq]; exact SeqAt.EqAt.int_int _ _ _ _
  have R := Ob.RcOp.tuples_gt (A := X.A) (s := s) (e := fun j => if j = 0 then decide (a = c) else decide (b = d)) (r := fun j => if j = 0 then decide (c < a) else decide (d < b)) p1 p2 hu
    (fun j h1 h2 => match j, h1, h2 with | 0, _, _ => q1 | 1, _, _ => q1 | n + 2, h, _ => absurd h (by simp)) (fun j h1 h2 _ => match j, h1, h2 with | 0, _, _ => Ob.RcOp.gt_int _ _ _ _ | 1, _, _ => Ob.RcOp.gt_int _ _ _ _ | n + 2, h, _ => absurd h (by simp))
  refine R X.prog X.w X.xe _ ⟨.bl _, H, I, rfl, ?_⟩
  have e : Ob.lexAt (fun j => if j = 0 then decide (a = c) else decide (b = d)) (fun j => if j = 0 then decide (c < a) else decide (d < b)) (decide (2 > 2)) 0 2 = pairGt a b c d := by
    unfold pairGt
    show (if decide (a = c) = true then (if decide (b = d) = true then decide (2 > 2) else decide (d < b)) else decide (c < a)) = _
    by_cases h : a = c
    · rw [if_pos (decide_eq_true h), if_pos h]
      by_cases h2 : b = d
      · rw [if_pos (decide_eq_true h2), h2]; simp
      · rw [if_neg (by simpa using h2)]
    · rw [if_neg (by simpa using h), if_neg h]
  exact e ▸ k
/-! ### lists of objects: each one is told by φ, and stands apart from ms -/
abbrev Tell (α : Type) := Hp → Addr → α → Prop
def Stab {α : Type} (φ : Tell α) : Prop := ∀ H H' p x, (∀ o, H p = some o → H' p = some o) → φ H p x → φ H' p x
def LIn {α : Type} (φ : Tell α) (H : Hp) (ps : List Addr) (xs : List α) (ms : List Addr) : Prop := ps.length = xs.length ∧ ∀ (i : Nat) p x, ps[i]? = some p → xs[i]? = some x → p ∉ ms ∧ φ H p x
def Lst {α : Type} (φ : Tell α) (H : Hp) (a : Addr) (xs : List α) (ms : List Addr) : Prop := ∃ ps : List Addr, H a = some (.lst (ps.map V.ref)) ∧ LIn φ H ps xs ms
def tS : Tell (List Str) := fun H p r => H p = some (.lst (r.map V.str))
def tR : Tell (Str × Str × Int) := fun H p r => H p = some (.tup [.str r.1, .str r.2.1, .int r.2.2])
theorem tS_st : Stab tS := fun _ _ _ _ k h => k _ h
theorem tR_st : Stab tR := fun _ _ _ _ k h => k _ h
section
variable {α : Type} {φ : Tell α} {H H' : Hp} {a : Addr} {ps : List Addr} {xs : List α} {ms ns : List Addr}
theorem LIn.kp (st : Stab φ) (h : LIn φ H ps xs ms) (k : Kp ns H H') (hs : ∀ n ∈ ns, n ∈ ms) : LIn φ H' ps xs ms := ⟨h.1, fun i p x h1 h2 => by
  obtain ⟨n, q⟩ := h.2 i p x h1 h2
  exact ⟨n, st H H' p x (fun o e => k.at e (fun z => n (hs p z))) q⟩⟩
theorem Lst.kp (st : Stab φ) (h : Lst φ H a xs ms) (k : Kp ns H H') (ha : a ∉ ns) (hs : ∀ n ∈ ns, n ∈ ms) : Lst φ H' a xs ms := by
  obtain ⟨ps, e, q⟩ := h
  exact ⟨ps, k.at e ha, q.kp st k hs⟩
theorem LIn.at (h : LIn φ H ps xs ms) {i : Nat} {p : Addr} (e : ps[i]? = some p) : ∃ x, xs[i]? = some x ∧ p ∉ ms ∧ φ H p x := by
  have l := lt_of_get e
  rw [h.1] at l
  have e2 : xs[i]? = some xs[i] := List.getElem?_eq_getElem l
  exact ⟨xs[i], e2, h.2 i p _ e e2⟩
theorem LIn.snoc (h : LIn φ H ps xs ms) {p : Addr} {x : α} (n : p ∉ ms) (q : φ H p x) : LIn φ H (ps ++ [p]) (xs ++ [x]) ms := by
  refine ⟨by simp [h.1], fun i r y h1 h2 => ?_⟩
  by_cases c : i < ps.length
  · rw [List.getElem?_append_left c] at h1
    rw [List.getElem?_append_left (by have := h.1; omega)] at h2
    exact h.2 i r y h1 h2
  · rw [List.getElem?_append_right (by omega)] at h1
    rw [List.getElem?_append_right (by have := h.1; omega)] at h2
    have z : i - ps.length = 0 := by have := lt_of_get h1; simp at this; omega
    rw [z] at h1
    rw [show i - xs.length = 0 by have := h.1; omega] at h2
    cases Option.some.inj h1; cases Option.some.inj h2
    exact ⟨n, q⟩
theorem LIn.nil : LIn φ H [] ([] : List α) ms := ⟨rfl, fun i p x h => by simp at h⟩
theorem LIn.mono (h : LIn φ H ps xs ms) (hs : ∀ n ∈ ns, n ∈ ms) : LIn φ H ps xs ns := ⟨h.1, fun i p x h1 h2 => ⟨fun z => (h.2 i p x h1 h2).1 (hs p z), (h.2 i p x h1 h2).2⟩⟩
theorem Lst.mono (h : Lst φ H a xs ms) (hs : ∀ n ∈ ns, n ∈ ms) : Lst φ H a xs ns := by
  obtain ⟨ps, e, q⟩ := h
  exact ⟨ps, e, q.mono hs⟩
/-- what is told holds of an address that is tracked: one that is free is none of them -/
theorem LIn.ext (tr : ∀ p x, φ H p x → H p ≠ none) (h : LIn φ H ps xs ms) {m : Addr} (hm : H m = none) : LIn φ H ps xs (m :: ms) := ⟨h.1, fun i p x h1 h2 => by
  obtain ⟨n, q⟩ := h.2 i p x h1 h2
  refine ⟨fun z => ?_, q⟩
  rcases List.mem_cons.mp z with z | z
  · rw [z] at q; exact tr _ _ q hm
  · exact n z⟩
theorem LIn.take (h : LIn φ H ps xs ms) (n : Nat) : LIn φ H (ps.take n) (xs.take n) ms := ⟨by simp [h.1], fun i p x h1 h2 => by
  rw [List.getElem?_take] at h1 h2
  by_cases c : i < n
  · rw [if_pos c] at h1 h2; exact h.2 i p x h1 h2
  · rw [if_neg c] at h1; cases h1⟩
end
theorem tS_tr (H : Hp) (p : Addr) (x : List Str) (h : tS H p x) : H p ≠ none := fun z => by
  have : H p = some (.lst (x.map V.str)) := h
  rw [z] at this; cases this
theorem tR_tr (H : Hp) (p : Addr) (x : Str × Str × Int) (h : tR H p x) : H p ≠ none := fun z => by
  have : H p = some (.tup [.str x.1, .str x.2.1, .int x.2.2]) := h
  rw [z] at this; cases this
theorem cutV_to {α : Type} (f : α → V) (xs : List α) {k : Int} (h : 0 ≤ k) : cutV (xs.map f) none (some k) = (xs.take k.toNat).map f := by
  obtain ⟨n, rfl⟩ := Int.eq_ofNat_of_zero_le h
  unfold cutV
  rw [HT.sIx_none, HT.sIx_nat, Int.toNat_natCast, List.length_map]
  show List.take (min n xs.length - 0) (xs.map f) = _
  rw [Nat.sub_zero, List.map_take]
  by_cases c : n ≤ xs.length
  · rw [Nat.min_eq_left c]
  · rw [Nat.min_eq_right (by omega), List.take_of_length_le (by simp), List.take_of_length_le (by simp; omega)]
theorem cutV_from {α : Type} (f : α → V) (xs : List α) {k : Int} (h : 0 ≤ k) : cutV (xs.map f) (some k) none = (xs.drop k.toNat).map f := by
  obtain ⟨n, rfl⟩ := Int.eq_ofNat_of_zero_le h
  unfold cutV
  rw [HT.sIx_none, HT.sIx_nat, Int.toNat_natCast, List.length_map]
  by_cases c : n ≤ xs.length
  · rw [Nat.min_eq_left c, List.take_of_length_le (by simp), List.map_drop]
  · rw [Nat.min_eq_right (by omega), List.drop_of_length_le (by simp), List.take_nil, List.drop_of_length_le (by omega)]; rfl
theorem Nms.sub {ss ts : List Str} (h : Nms ss) (s : ts.Sublist ss) : Nms ts := ⟨h.1.sublist s, fun x hx => h.2 x (s.subset hx)⟩
theorem Nms.rev {ss : List Str} (h : Nms ss) : Nms ss.reverse := ⟨List.pairwise_reverse.mpr (h.1.imp fun z => Ne.symm z), fun x hx => h.2 x (List.mem_reverse.mp hx)⟩
end Lk
namespace Lk
open PySem L2
abbrev Rows (H : Hp) (a : Addr) (rows : List (List Str)) (ms : List Addr) : Prop := Lst tS H a rows ms
abbrev RowsIn (H : Hp) (ps : List Addr) (rows : List (List Str)) (ms : List Addr) : Prop := LIn tS H ps rows ms
abbrev Rules (H : Hp) (a : Addr) (rs : List (Str × Str × Int)) (ms : List Addr) : Prop := Lst tR H a rs ms
abbrev RulesIn (H : Hp) (ps : List Addr) (rs : List (Str × Str × Int)) (ms : List Addr) : Prop := LIn tR H ps rs ms
theorem notMem1 {a m : Addr} (h : a ≠ m) : a ∉ [m] := by simpa using h
theorem notMem2 {a m n : Addr} (h : a ≠ m) (h2 : a ≠ n) : a ∉ [m, n] := by simp [h, h2]
theorem notMem3 {a m n o : Addr} (h : a ≠ m) (h2 : a ≠ n) (h3 : a ≠ o) : a ∉ [m, n, o] := by simp [h, h2, h3]
theorem notMem4 {a m n o p : Addr} (h : a ≠ m) (h2 : a ≠ n) (h3 : a ≠ o) (h4 : a ≠ p) : a ∉ [m, n, o, p] := by simp [h, h2, h3, h4]
theorem notMem5 {a m n o p q : Addr} (h : a ≠ m) (h2 : a ≠ n) (h3 : a ≠ o) (h4 : a ≠ p) (h5 : a ≠ q) : a ∉ [m, n, o, p, q] := by simp [h, h2, h3, h4, h5]
theorem notMem6 {a m n o p q r : Addr} (h : a ≠ m) (h2 : a ≠ n) (h3 : a ≠ o) (h4 : a ≠ p) (h5 : a ≠ q) (h6 : a ≠ r) : a ∉ [m, n, o, p, q, r] := by simp [h, h2, h3, h4, h5, h6]
/-- what a drawn list of rules keeps: ws the steps' ranks -/
structure RulesOk (ss : List Str) (ws : List Int) (rs : List (Str × Str × Int)) : Prop where
  each : ∀ r ∈ rs, ∃ i j : Nat, ss[i]? = some r.1 ∧ ss[j]? = some r.2.1 ∧ i ≠ j ∧ 0 ≤ r.2.2 ∧ r.2.2 ≤ 99 ∧ (r.2.2 = 0 → pairGt (ws.getD i 0) i (ws.getD j 0) j = false)
  nd : (rs.map fun r => (r.1, r.2.1)).Nodup
theorem RulesOk.nil {ss : List Str} {ws : List Int} : RulesOk ss ws [] := ⟨fun r h => absurd h List.not_mem_nil, List.Pairwise.nil⟩
def other (a b : Str) : Str × Str × Int → Bool := fun r => !decide ((r.1, r.2.1) = (a, b))
theorem RulesOk.put {ss : List Str} {ws : List Int} {rs : List (Str × Str × Int)} {a b : Str} {s f g : Int} (R : RulesOk ss ws rs) (hf : 0 ≤ f) (hg : 0 ≤ g) (ha : ss[f.toNat]? = some a) (hb : ss[g.toNat]? = some b) (ne : ¬ f = g)
    (s0 : 0 ≤ s) (s1 : s ≤ 99) (z : s = 0 → pairGt (ws.getD f.toNat 0) f (ws.getD g.toNat 0) g = false) : RulesOk ss ws (rs.filter (other a b) ++ [(a, b, s)]) := by
  refine ⟨fun r h => ?_, ?_⟩
  · rcases List.mem_append.mp h with q | q
    · exact R.each r (List.mem_filter.mp q).1
    · rw [List.mem_singleton.mp q]
      refine ⟨f.toNat, g.toNat, ha, hb, by omega, s0, s1, fun e => ?_⟩
      have := z e
      rw [show ((f.toNat : Nat) : Int) = f by omega, show ((g.toNat : Nat) : Int) = g by omega]
      exact this
  · rw [List.map_append, List.nodup_append]
    refine ⟨R.nd.sublist (List.filter_sublist.map _), by simp, fun x hx y hy e => ?_⟩
    obtain ⟨r, hr, rfl⟩ := List.mem_map.mp hx
    have q := (List.mem_filter.mp hr).2
    simp only [List.map_cons, List.map_nil, List.mem_singleton] at hy
    rw [hy] at e
    unfold other at q
    rw [decide_eq_true e] at q
    exact Bool.noConfusion q
theorem pairGt_swap {a b c d : Int} (h : pairGt a b c d = true) : pairGt c d a b = false := by
  unfold pairGt at h ⊢
  by_cases e : a = c
  · rw [if_pos e] at h; rw [if_pos e.symm]
    have := of_decide_eq_true h
    exact decide_eq_false (by omega)
  · rw [if_neg e] at h; rw [if_neg (fun z => e z.symm)]
    have := of_decide_eq_true h
    exact decide_eq_false (by omega)
theorem getD_of {ws : List Int} {i : Nat} {x : Int} (h : ws[i]? = some x) : ws.getD i 0 = x := by rw [List.getD_eq_getElem?_getD, h]; rfl
theorem filter_take {α : Type} {p : α → Bool} {xs : List α} {i : Nat} {x : α} (h : xs[i]? = some x) : (xs.take (i + 1)).filter p = (xs.take i).filter p ++ (if p x = true then [x] else []) := by
  rw [List.take_add_one, h, List.filter_append]
  congr 1
  by_cases c : p x = true
  · rw [if_pos c]; simp [c]
  · rw [if_neg c]; simp [c]
theorem flat_snoc (rows : List (List Str)) (r : List Str) : (rows ++ [r]).flatten = rows.flatten ++ r := by simp
/-! ### data, for == -/
theorem dp_str {K : PySem.W.Frag} {H : Hp} (ss : List Str) : DpAll K H (ss.map V.str) (ss.map PyData.str) := by
  induction ss with
  | nil => exact .nil
  | cons x r ih => exact .cons (.str x) ih
theorem dp_strs {K : PySem.W.Frag} {H : Hp} {a : Addr} {ss : List Str} (h : H a = some (.lst (ss.map V.str))) : Dp K H (.ref a) (.list (ss.map PyData.str)) := .lst (SqL.of h) (dp_str ss)
theorem dp_strT {K : PySem.W.Frag} {H : Hp} {a : Addr} {ss : List Str} (h : H a = some (.tup (ss.map V.str))) : Dp K H (.ref a) (.tuple (ss.map PyData.str)) := .tup (SqT.of h) (dp_str ss)
end Lk
namespace Lk
open PySem L2
theorem eqvAll_map {α : Type} [DecidableEq α] {f : α → PyData} (hf : ∀ a b, PyData.eqv (f a) (f b) = decide (a = b)) : ∀ xs ys : List α, PyData.eqvAll (xs.map f) (ys.map f) = decide (xs = ys)
  | [], [] => by simp [PyData.eqvAll]
  | [], _ :: _ => by simp [PyData.eqvAll]
  | _ :: _, [] => by simp [PyData.eqvAll]
  | x :: xs, y :: ys => by
    rw [List.map_cons, List.map_cons, PyData.eqvAll, hf, eqvAll_map hf xs ys]
    by_cases h : x = y <;> by_cases h2 : xs = ys <;> simp [h, h2]
theorem eqv_str (a b : Str) : PyData.eqv (.str a) (.str b) = decide (a = b) := by rw [PyData.eqv]; by_cases h : a = b <;> simp [h]
theorem eqv_int (a b : Int) : PyData.eqv (.int a) (.int b) = decide (a = b) := by rw [PyData.eqv]; by_cases h : a = b <;> simp [h]
theorem eqv_bool (a b : Bool) : PyData.eqv (.bool a) (.bool b) = decide (a = b) := by rw [PyData.eqv]; cases a <;> cases b <;> rfl
theorem eqv_strs (xs ys : List Str) : PyData.eqv (.list (xs.map PyData.str)) (.list (ys.map PyData.str)) = decide (xs = ys) := by rw [PyData.eqv]; exact eqvAll_map eqv_str xs ys
theorem eqv_strT (xs ys : List Str) : PyData.eqv (.tuple (xs.map PyData.str)) (.tuple (ys.map PyData.str)) = decide (xs = ys) := by rw [PyData.eqv]; exact eqvAll_map eqv_str xs ys
theorem eqv_ints (xs ys : List Int) : PyData.eqv (.list (xs.map PyData.int)) (.list (ys.map PyData.int)) = decide (xs = ys) := by rw [PyData.eqv]; exact eqvAll_map eqv_int xs ys
theorem eqv_bools (xs ys : List Bool) : PyData.eqv (.list (xs.map PyData.bool)) (.list (ys.map PyData.bool)) = decide (xs = ys) := by rw [PyData.eqv]; exact eqvAll_map eqv_bool xs ys
theorem lay_map {α : Type} {f : α → PyData} : ∀ (xs : List α), (∀ x ∈ xs, (f x).canLay0 = true) → PyData.canLayAll0 (xs.map f) = true
  | [], _ => rfl
  | x :: xs, h => by
    rw [List.map_cons, PyData.canLayAll0, h x List.mem_cons_self, lay_map xs fun y hy => h y (List.mem_cons_of_mem _ hy)]; rfl
theorem dep_map {α : Type} {f : α → PyData} {n : Nat} : ∀ (xs : List α), (∀ x ∈ xs, (f x).depth ≤ n) → PyData.depthAll (xs.map f) ≤ n
  | [], _ => Nat.zero_le _
  | x :: xs, h => by
    rw [List.map_cons, PyData.depthAll]
    exact Nat.max_le.mpr ⟨h x List.mem_cons_self, dep_map xs fun y hy => h y (List.mem_cons_of_mem _ hy)⟩
theorem shaped_l {α : Type} {f : α → PyData} (xs : List α) (h1 : ∀ x ∈ xs, (f x).canLay0 = true) (h2 : ∀ x ∈ xs, (f x).depth ≤ 8) : SeqAt.shaped (.list (xs.map f)) = true ∧ SeqAt.shaped (.tuple (xs.map f)) = true := by
  have a := lay_map xs h1
  have b := dep_map xs h2
  constructor
  · unfold SeqAt.shaped; rw [PyData.canLay0, PyData.depth, a]; exact decide_eq_true (by omega)
  · unfold SeqAt.shaped; rw [PyData.canLay0, PyData.depth, a]; exact decide_eq_true (by omega)
theorem Nm.len {s : Str} (h : Nm s) : s.length ≤ 8 ∧ 1 ≤ s.length := by
  obtain ⟨c, r, e, _, _, l⟩ := h
  rw [len_ch, e, List.length_cons]
  omega
theorem al_small {c : Nat} (h : isAl c = true) : c < 128 := by
  unfold isAl isLet at h
  simp only [Bool.or_eq_true, Bool.and_eq_true, decide_eq_true_eq] at h
  omega
theorem Nm.ok {s : Str} (h : Nm s) : (PyData.str s).canLay0 = true := by
  rw [PyData.canLay0]
  obtain ⟨c, r, e, h1, h2, _⟩ := h
  have q : ∀ x ∈ s.cps.toList, x < 128 := fun x hx => by
    have hx : x ∈ ch s := hx
    rw [e] at hx
    rcases List.mem_cons.mp hx with z | z
    · rw [z]; exact al_small (al_of_let h1)
    · exact al_small (h2 x z)
  show s.cps.all (· < 0x110000) = true
  rw [← Array.all_toList, List.all_eq_true]
  intro x hx
  have := q x hx
  exact decide_eq_true (by omega)
theorem shaped_strs {ss : List Str} (h : ∀ s ∈ ss, Nm s) : SeqAt.shaped (.list (ss.map PyData.str)) = true := (shaped_l ss (fun x hx => (h x hx).ok) fun x _ => by rw [PyData.depth]; exact Nat.zero_le _).1
theorem shaped_strT {ss : List Str} (h : ∀ s ∈ ss, Nm s) : SeqAt.shaped (.tuple (ss.map PyData.str)) = true := (shaped_l ss (fun x hx => (h x hx).ok) fun x _ => by rw [PyData.depth]; exact Nat.zero_le _).2
theorem shaped_ints (ns : List Int) : SeqAt.shaped (.list (ns.map PyData.int)) = true := (shaped_l ns (fun x hx => rfl) fun x _ => by rw [PyData.depth]; exact Nat.zero_le _).1
theorem shaped_bools (ns : List Bool) : SeqAt.shaped (.list (ns.map PyData.bool)) = true := (shaped_l ns (fun x hx => rfl) fun x _ => by rw [PyData.depth]; exact Nat.zero_le _).1
theorem dp_int {K : PySem.W.Frag} {H : Hp} : ∀ ns : List Int, DpAll K H (ns.map V.int) (ns.map PyData.int)
  | [] => .nil
  | x :: r => .cons (.int x) (dp_int r)
theorem dp_bool {K : PySem.W.Frag} {H : Hp} : ∀ ns : List Bool, DpAll K H (ns.map V.bl) (ns.map PyData.bool)
  | [] => .nil
  | x :: r => .cons (.bl x) (dp_bool r)
theorem dp_ints {K : PySem.W.Frag} {H : Hp} {a : Addr} {ns : List Int} (h : H a = some (.lst (ns.map V.int))) : Dp K H (.ref a) (.list (ns.map PyData.int)) := .lst (SqL.of h) (dp_int ns)
theorem dp_bools {K : PySem.W.Frag} {H : Hp} {a : Addr} {ns : List Bool} (h : H a = some (.lst (ns.map V.bl))) : Dp K H (.ref a) (.list (ns.map PyData.bool)) := .lst (SqL.of h) (dp_bool ns)
end Lk
namespace Lk
open PySem L2
theorem three {x : Int} {i : Nat} (h : ([1, 1, 0, 2, 1, 3] : List Int)[i]? = some x) : 0 ≤ x ∧ x ≤ 3 := by
  have q : ∀ y ∈ ([1, 1, 0, 2, 1, 3] : List Int), 0 ≤ y ∧ y ≤ 3 := by decide
  exact q x (List.mem_of_getElem? h)
theorem shift9 {x : Int} {i : Nat} (h : ([0, 0, 1, 0, 2, 1, 3, 0, 1] : List Int)[i]? = some x) : 0 ≤ x ∧ x ≤ 99 := by
  have q : ∀ y ∈ ([0, 0, 1, 0, 2, 1, 3, 0, 1] : List Int), 0 ≤ y ∧ y ≤ 99 := by decide
  exact q x (List.mem_of_getElem? h)
end Lk
namespace Lk
open PySem L2
theorem allNm2 {a b : Str} (h1 : Nm a) (h2 : Nm b) : ∀ s ∈ [a, b], Nm s := fun s h => by
  rcases List.mem_cons.mp h with z | z
  · rw [z]; exact h1
  · rw [List.mem_singleton.mp z]; exact h2
theorem allNm1 {a : Str} (h1 : Nm a) : ∀ s ∈ [a], Nm s := fun s h => by rw [List.mem_singleton.mp h]; exact h1
theorem RulesOk.nm {ss : List Str} {ws : List Int} {rs : List (Str × Str × Int)} (R : RulesOk ss ws rs) (h : Nms ss) {r : Str × Str × Int} (hr : r ∈ rs) : Nm r.1 ∧ Nm r.2.1 := by
  obtain ⟨i, j, h1, h2, _⟩ := R.each r hr
  exact ⟨h.2 _ (List.mem_of_getElem? h1), h.2 _ (List.mem_of_getElem? h2)⟩
theorem get_eq {α : Type} {xs : List α} {i : Nat} {x y : α} (h : xs[i]? = some x) (h2 : xs[i]? = some y) : x = y := Option.some.inj (h.symm.trans h2)
theorem other_true {a b x y : Str} {r : Str × Str × Int} (h : ¬ ([r.1, r.2.1] = [x, y])) (ex : x = a) (ey : y = b) : other a b r = true := by
  subst ex; subst ey
  unfold other
  rw [decide_eq_false (fun z => h (by injection z with z1 z2; rw [z1, z2]))]; rfl
theorem other_false {a b x y : Str} {r : Str × Str × Int} (h : [r.1, r.2.1] = [x, y]) (ex : x = a) (ey : y = b) : ¬ other a b r = true := by
  subst ex; subst ey
  unfold other
  injection h with h1 h2
  injection h2 with h2 _
  rw [decide_eq_true (by rw [h1, h2])]; decide
theorem sw1 {ns : List Int} {f g x y : Int} (h : ¬ pairGt x f y g = true) (hx : ns[f.toNat]? = some x) (hy : ns[g.toNat]? = some y) : pairGt (ns.getD f.toNat 0) f (ns.getD g.toNat 0) g = false := by
  rw [getD_of hx, getD_of hy]; exact Bool.eq_false_iff.mpr h
theorem sw2 {ns : List Int} {f g x y a b : Int} (h : pairGt x f y g = true) (hx : ns[f.toNat]? = some x) (hy : ns[g.toNat]? = some y) (ea : a = g) (eb : b = f) : pairGt (ns.getD a.toNat 0) a (ns.getD b.toNat 0) b = false := by
  subst ea; subst eb
  rw [getD_of hx, getD_of hy]; exact pairGt_swap h
end Lk
namespace Lk
open PySem L2
theorem Kp.more {ms : List Addr} {H H' : Hp} (ns : List Addr) (k : Kp ms H H') : Kp (ms ++ ns) H H' := k.mono fun b hb => List.mem_append_left ns hb
theorem forall_mem2 {P : Addr → Prop} {a b : Addr} (h1 : P a) (h2 : P b) : ∀ x ∈ [a, b], P x := fun x h => by
  rcases List.mem_cons.mp h with z | z
  · rw [z]; exact h1
  · rw [List.mem_singleton.mp z]; exact h2
theorem forall_mem1 {P : Addr → Prop} {a : Addr} (h1 : P a) : ∀ x ∈ [a], P x := fun x h => by rw [List.mem_singleton.mp h]; exact h1
theorem forall_cons {P : Addr → Prop} {a : Addr} {l : List Addr} (h1 : P a) (h2 : ∀ x ∈ l, P x) : ∀ x ∈ a :: l, P x := fun x h => by
  rcases List.mem_cons.mp h with z | z
  · rw [z]; exact h1
  · exact h2 x z
theorem forall_mem3 {P : Addr → Prop} {a b c : Addr} (h1 : P a) (h2 : P b) (h3 : P c) : ∀ x ∈ [a, b, c], P x := forall_cons h1 (forall_mem2 h2 h3)
theorem forall_mem4 {P : Addr → Prop} {a b c d : Addr} (h1 : P a) (h2 : P b) (h3 : P c) (h4 : P d) : ∀ x ∈ [a, b, c, d], P x := forall_cons h1 (forall_mem3 h2 h3 h4)
theorem forall_mem5 {P : Addr → Prop} {a b c d e : Addr} (h1 : P a) (h2 : P b) (h3 : P c) (h4 : P d) (h5 : P e) : ∀ x ∈ [a, b, c, d, e], P x := forall_cons h1 (forall_mem4 h2 h3 h4 h5)
theorem ndec {P : Prop} [Decidable P] (h : (!decide P) = true) : ¬ P := fun z => by rw [decide_eq_true z] at h; exact Bool.noConfusion h
theorem nndec {P : Prop} [Decidable P] (h : ¬ (!decide P) = true) : P := Decidable.byContradiction fun z => h (by rw [decide_eq_false z]; rfl)
end Lk
namespace Lk
theorem put_len {α : Type} {rs : List α} {f : α → Bool} {n k : Nat} {x : α} (h : rs.length ≤ k) : ((rs.take n).filter f ++ [x]).length ≤ k + 1 := by
  rw [List.length_append, List.length_singleton]
  have a := List.length_filter_le f (rs.take n)
  rw [List.length_take] at a
  omega
end Lk
set_option Elab.async false
set_option linter.all false
set_option maxRecDepth 100000
set_option maxHeartbeats 2000000
namespace Lk
open PySem L2
/-! ### exceptions as values -/
/-- C(e, ..) as a value; the class's own __init__ keeps sp -/
def tMkE (C : Addr) (sp : Sp) (ta : TA) : TE := fun σ H Q => ta σ H fun vs H1 => vs.length ≤ 1000 ∧ ∀ a, H1 a = none → sp (.ref a :: vs) (upd H1 a (exo a C none)) (fun v H2 => v = .non ∧ Q (.ref a) H2) (fun _ _ _ => False)
section
variable {X : Cx}
theorem pe_mkE {CX : CXT} {x : Str} {C fI : Addr} {k : Nat} {fd : FuncData} {ps : List Str} {sp : Sp} {e : Expr} {es : List Expr} {ta : TA} {p pos : Pos} (T : OexC X.K C) (iC : PySem.W.findIn X.K (.ref C) "__init__" = some (some (.ref fI))) (tI : PySem.W.typeIn X.K (.ref fI) = some (.type "function"))
    (F1 : FnOk X.prog X.w X.K X.mg X.base CX k fI fd ps sp) (hr : Room (k + 1) X.A) (hb : Binds X.K fd ps []) (hx : Passes CX X (fun _ _ _ => False)) (hg : Gl X x) (hm : X.mg x = some (.ref C)) (ha : PA X (e :: es) ta)
    (hdb : (x == ("__debug__" : Str)) = false := by decide) (he : starEach (e :: es) X.env = (false, eval e X.env) :: starEach es X.env := by rfl) (hpl : (backTo pos (starEach es X.env)).any (·.1) = false := by rfl) :
    PE X (.Call (.Name x p) (e :: es) [] pos) (tMkE C sp ta) := by
  constructor
  rintro pins s0 σ G0 Q I0 hw
  obtain ⟨nm, q, N, bs, bm, sn, sub, ab, col, dd, k0, k1, k2, k3, k5, hC, hbm⟩ := T.cls
  apply wpAny_Call_Name_kw (ld_glob I0 hg hm _ hdb)
  apply PySem.W.callWith_K (h₀ := X.base) I0.ok.mod.kin T.kC _ he hpl
  refine thn (ha.run pos pins s0 σ G0 _ I0 hw) fun us s1 ⟨vs, G1, J1, rv, hz, hq⟩ => ⟨J1.kIn, ?_⟩
  obtain ⟨hp, gn, dr, tk, os⟩ := s1
  have big : hp.objs.size ≤ hp.objs.size + 1 := Nat.le_succ _
  have fr : G1 (hp.objs.size + 1) = none := J1.hok.fresh big
  have hs := hq _ fr
  generalize hh2 : (hp.push (PySem.W.kdv_tup us)).push (PySem.HandSPX.excO C hp.objs.size) = hp2
  have keep : ∀ b o, hp.get? b = some o → hp2.get? b = some o := by
    rw [← hh2]; exact fun b o e => Heap.get?_push_of_some _ (Heap.get?_push_of_some _ e)
  have there : hp2.get? (hp.objs.size + 1) = some (PySem.HandSPX.excO C hp.objs.size) := by rw [← hh2]; heap_get
  have J2 : Inv X pins σ (upd G1 (hp.objs.size + 1) (exo (hp.objs.size + 1) C none)) ⟨hp2, gn, dr, tk, os⟩ := J1.laid (t' := tk) (a := hp.objs.size + 1) keep big (exo_ok there)
  have r2 : Vals (V.ref (hp.objs.size + 1) :: vs) (Value.ref (hp.objs.size + 1) :: us) := .cons rfl rv
  have hl : (Value.ref (hp.objs.size + 1) :: us).length = ps.length := by rw [← r2.length]; exact F1.len _ _ _ _ hs
  have hus : us.length ≤ sizeLine := by rw [← Paired.length rv, sizeLine_eq]; omega
  have call := F1.run _ X.stack _ _ ⟨Value.ref (hp.objs.size + 1) :: us, []⟩ (Value.ref (hp.objs.size + 1) :: us) _ _ (fun _ _ _ => False) (hr.make C us []) (J2.env0.make C us []) (by
    have := hb _ (Value.ref (hp.objs.size + 1) :: us) J2.kIn (by simpa using hl)
    simpa using this) r2 hs
  show wpAny _ _ (PySem.call (.ref C) us) _ _ _
  refine wpAny_call (PySem.HandSPX.call_own PySem.F.excBase_ValueError (fun Y => PySem.HandSPX.refsVE_contains Y bm hbm) (J1.kIn _ _ hC) (PySem.W.looks_findIn J1.kIn iC) (fun self => PySem.W.bind_fn J1.kIn self tI) hus (by
    rw [hh2]
    refine codeAny_mono call fun r s' hr' => ?_
    cases r with
    | error er => exact hx pins σ _ _ er s' J2 hr'
    | ok fl =>
      cases fl <;> first | exact False.elim hr' | skip
      obtain ⟨v, G2, J3, rv3, ev, q2⟩ := J2.after hr'
      subst ev
      exact ⟨rv3, .ref (hp.objs.size + 1), G2, J3, rfl, q2⟩))
/-- C(), C without an __init__ of its own -/
def tMkE0 (C : Addr) : TE := fun _ H Q => ∀ a H2, H a = none → H2 a = some (ExO (.ref C) a) → Kp [] H H2 → Q (.ref a) H2
theorem pe_mkE0 {C : Addr} {bmB : List Value} {Bn newId initId : String} {x : Str} {p pos : Pos} (F : ExcBaseFacts Bn newId initId bmB) (ex : PySem.W.excIn X.K C bmB newId = true) (gC : X.mg x = some (.ref C)) (kC : PySem.W.keepIn X.K (.ref C) = true) (hg : Gl X x)
    (hdb : (x == ("__debug__" : Str)) = false := by decide) : PE X (.Call (.Name x p) [] [] pos) (tMkE0 C) := by
  constructor
  rintro pins s0 σ G0 Q I0 hw
  apply wpAny_Call_Name_kw (ld_glob I0 hg gC _ hdb)
  refine PySem.W.callWith_K0 I0.kIn kC ?_
  obtain ⟨bm, N, nm, qn, bs, hdct, sn, sub, ab, col, dd, k0, k1, k2, k3, k5, mN, hC, hN, hni, T⟩ := exc_obj I0.kIn ex
  refine wpAny_call_exc_subT F T hC hN hni (fun h' a hm => ?_) (Nat.zero_le _)
  have hn : G0 a = none := I0.hok.gone hm.new
  obtain ⟨t, ht, _, _⟩ := hm.there
  exact ⟨.ref a, upd G0 a (ExO (.ref C) a), I0.laidN hm.keeps hm.new hn (exO_ok ht ⟨rfl, rfl⟩ rfl rfl rfl (show 4 < 6 by decide)), rfl, hw a _ hn upd_same ((Kp.refl [] G0).new hn)⟩
/-- an exception of the class at C -/
def Exc (H : Hp) (a C : Addr) : Prop := (∃ d fs, H a = some (exo a C (some d)) ∧ H d = some (exd d fs)) ∨ H a = some (ExO (.ref C) a)
theorem Exc.inst {pins : List (Addr × Obj)} {σ : L2.St} {H : Hp} {s : Shared} {a C : Addr} (I : Inv X pins σ H s) (h : Exc H a C) : ∃ ox od, PySem.W.InstAt s.heap a ox C od := by
  rcases h with ⟨d, fs, h1, h2⟩ | h
  · obtain ⟨t1, e⟩ := exo_at I.hok h1
    obtain ⟨mA, hn, _⟩ := exd_at I.hok h2
    obtain ⟨od, ho, _⟩ := lookIn_ns hn
    exact ⟨_, some od, e, rfl, rfl, ho⟩
  · obtain ⟨⟨oe, vs, e, ⟨z1, z2⟩, dt, _⟩, _⟩ := I.hok a _ h
    refine ⟨oe, none, e, z1, ?_, ?_⟩
    · unfold PySem.W.notCls; rw [dt] <;> rfl
    · rw [z2]; trivial
/-- isinstance(e, c) -/
def rIsX (K : PySem.W.Frag) : List V → Hp → VK → Prop := fun xs H Q => ∃ (a D : Addr) (c : V) (cv : Value) (b : Bool), xs = [.ref a, c] ∧ Exc H a D ∧ L2.ExcC K D ∧ ClsV c cv ∧ PySem.W.kitOne K (.ref D) cv = some b ∧ Q (.bl b) H
theorem call_isX : CallR X (.builtin "isinstance") (rIsX X.K) := by
  rintro pins s σ H xs us Q I r ⟨a, D, c, cv, b, rfl, hE, hC, hc, hk, q⟩
  obtain ⟨u1, u2, rfl, r1, r2⟩ := vals2 r
  cases r1
  have e2 := hc.eq r2
  subst e2
  obtain ⟨ox, od, J⟩ := hE.inst I
  have hcl : (PySem.W.clsIn X.K D).isSome = true := by
    have := hC.hd
    unfold PySem.W.hasDictIn at this
    cases e : PySem.W.clsIn X.K D with
    | none => rw [e] at this; simp at this
    | some _ => rfl
  exact PySem.W.kia_one (PySem.W.kitx_exc hcl hC.hg hC.hk hC.hs hC.ha hC.hn hC.ht hC.hm) I.kIn J hk (fun z => nomatch z) fun tk => ⟨.bl b, H, I.tok tk, rfl, q⟩
/-- e.f -/
def tFldE (K : PySem.W.Frag) (f : Str) (te : TE) : TE := fun σ H Q => te σ H fun x H1 => ∃ (a C d : Addr) (fs : List (Str × V)) (v : V), x = .ref a ∧ H1 a = some (exo a C (some d)) ∧ H1 d = some (exd d fs) ∧ XfC K C ∧ PySem.W.findIn K (.ref C) f = some none ∧ fs.lookup f = some v ∧ Q v H1
theorem pe_fldE {e : Expr} {te : TE} {f : Str} {pos : Pos} (he : PE X e te) (hb : attributeBase e f X.env (eval e X.env) = eval e X.env := by rfl) : PE X (.Attribute e f pos) (tFldE X.K f te) := by
  constructor
  rintro pins s0 σ G0 Q I0 hw
  refine attr_of hb (thn (he.run pins s0 σ G0 _ I0 hw) ?_)
  rintro u s1 ⟨x, G1, J1, rx, a, C, d, fs, v, rfl, ha, hd, T, hno, hl, q⟩
  cases rx
  obtain ⟨t1, e1⟩ := exo_at J1.hok ha
  obtain ⟨mA, hn, hr⟩ := exd_at J1.hok hd
  obtain ⟨od, ho, hlk⟩ := lookIn_ns hn
  obtain ⟨u, hu, ru⟩ := RelO.some_of (v := v) (o := mA f) (by rw [← hl]; exact hr f)
  exact PySem.HandSPX.exc_get J1.kIn (od := some od) ⟨e1, rfl, rfl, ho⟩ T.ga T.gg T.exC (PySem.W.findObj_own T.hdC hno rfl (by rw [hlk, hu])) (handed_of ru) ⟨v, G1, J1.tok _, ru, q⟩
end
end Lk
namespace Lk
open PySem L2
theorem pe_fldEK {X : Cx} {K : PySem.W.Frag} (hK : X.K = K) {e : Expr} {te : TE} {f : Str} {pos : Pos} (he : PE X e te) (hb : attributeBase e f X.env (eval e X.env) = eval e X.env := by rfl) : PE X (.Attribute e f pos) (tFldE K f te) := by
  subst hK
  exact pe_fldE he hb
end Lk
set_option Elab.async false
set_option linter.all false
set_option maxRecDepth 100000
set_option maxHeartbeats 2000000
namespace Lk
open PySem L2
/-! ### data that only stands -/
theorem SqL.kp0 {K : PySem.W.Frag} {H H' : Hp} {a : Addr} {xs : List V} (h : SqL K H a xs) (k : Kp [] H H') : SqL K H' a xs := by
  rcases h with (h | ⟨o, h⟩) | h
  · exact .inl (.inl (k.at0 h))
  · exact .inl (.inr ⟨o, k.at0 h⟩)
  · exact .inr h
theorem SqT.kp0 {K : PySem.W.Frag} {H H' : Hp} {a : Addr} {xs : List V} (h : SqT K H a xs) (k : Kp [] H H') : SqT K H' a xs := by
  rcases h with (h | ⟨o, h⟩) | h
  · exact .inl (.inl (k.at0 h))
  · exact .inl (.inr ⟨o, k.at0 h⟩)
  · exact .inr h
mutual
theorem Dp.kp0 {K : PySem.W.Frag} {H H' : Hp} (k : Kp [] H H') : ∀ (d : PyData) (v : V), Dp K H v d → Dp K H' v d
  | .none, _, h => by cases h; exact .non
  | .bool b, _, h => by cases h; exact .bl b
  | .int i, _, h => by cases h; exact .int i
  | .str x, _, h => by cases h; exact .str x
  | .list ds, _, h => by
    cases h with
    | lst s r => exact .lst (SqL.kp0 s k) (DpAll.kp0 k ds _ r)
  | .tuple ds, _, h => by
    cases h with
    | tup s r => exact .tup (SqT.kp0 s k) (DpAll.kp0 k ds _ r)
  | .dict _, _, h => by cases h
theorem DpAll.kp0 {K : PySem.W.Frag} {H H' : Hp} (k : Kp [] H H') : ∀ (ds : List PyData) (vs : List V), DpAll K H vs ds → DpAll K H' vs ds
  | [], _, h => by cases h; exact .nil
  | d :: ds, _, h => by
    cases h with
    | cons a b => exact .cons (Dp.kp0 k d _ a) (DpAll.kp0 k ds _ b)
end
/-- v is data -/
def DatN (n : Nat) (K : PySem.W.Frag) (H : Hp) (v : V) (d : PyData) : Prop := Dp K H v d ∧ d.canLay0 = true ∧ d.depth ≤ n
abbrev Dat (K : PySem.W.Frag) (H : Hp) (v : V) (d : PyData) : Prop := DatN 4 K H v d
theorem Dat.kp0 {K : PySem.W.Frag} {H H' : Hp} {v : V} {d : PyData} (h : Dat K H v d) (k : Kp [] H H') : Dat K H' v d := ⟨Dp.kp0 k d v h.1, h.2⟩
theorem dat_int {K : PySem.W.Frag} {H : Hp} (i : Int) : Dat K H (.int i) (.int i) := ⟨.int i, rfl, by rw [PyData.depth]; omega⟩
theorem dat_non {K : PySem.W.Frag} {H : Hp} : Dat K H .non .none := ⟨.non, rfl, by rw [PyData.depth]; omega⟩
theorem dat_str {K : PySem.W.Frag} {H : Hp} {s : Str} (h : PyData.strOk s = true) : Dat K H (.str s) (.str s) := ⟨.str s, by rw [PyData.canLay0]; exact h, by rw [PyData.depth]; omega⟩
theorem ok_text (s : String) : PyData.strOk (Str.ofString s) = true := by
  rw [Str.ofString_eq_toList]
  unfold PyData.strOk
  rw [← Array.all_toList, List.all_eq_true]
  intro c hc
  have hc : c ∈ s.toList.map Char.toNat := by simpa using hc
  obtain ⟨x, _, rfl⟩ := List.mem_map.mp hc
  have := x.valid
  have h2 : x.toNat < 1114112 := by
    have h3 : UInt32.toNat x.val < 1114112 := by
      rcases this with h | h
      · exact Nat.lt_trans h (by decide)
      · exact h.2
    exact h3
  exact decide_eq_true h2
theorem ok_app {a b : Str} (ha : PyData.strOk a = true) (hb : PyData.strOk b = true) : PyData.strOk (a ++ b) = true := by
  unfold PyData.strOk at *
  rw [← Array.all_toList, List.all_eq_true] at *
  intro c hc
  have hc : c ∈ ch (a ++ b) := hc
  rw [ch_append] at hc
  rcases List.mem_append.mp hc with h | h
  · exact ha c h
  · exact hb c h
def dOf (d : PyData) : List PyData → PyData := fun l => .list (d :: l)
theorem dat_l1 {K : PySem.W.Frag} {H : Hp} {a : Addr} {i : Int} (h : H a = some (.lst [.int i])) : Dat K H (.ref a) (.list [.int i]) := ⟨.lst (SqL.of h) (.cons (.int i) .nil), rfl, by simp [PyData.depth, PyData.depthAll]⟩
theorem dat_t2 {K : PySem.W.Frag} {H : Hp} {a : Addr} {i : Int} {s : Str} (ok : PyData.strOk s = true) (h : H a = some (.tup [.int i, .str s])) : Dat K H (.ref a) (.tuple [.int i, .str s]) :=
  ⟨.tup (SqT.of h) (.cons (.int i) (.cons (.str s) .nil)), by simp [PyData.canLay0, PyData.canLayAll0, ok], by simp [PyData.depth, PyData.depthAll]⟩
theorem dat_mem {K : PySem.W.Frag} {H : Hp} {xs : List V} {i : Nat} {x : V} (h : ∀ y ∈ xs, ∃ d, Dat K H y d) (e : xs[i]? = some x) : ∃ d, Dat K H x d := h x (List.mem_of_getElem? e)
theorem forall_nil {α : Type} {P : α → Prop} : ∀ y ∈ ([] : List α), P y := fun y h => absurd h List.not_mem_nil
theorem forall_cons' {α : Type} {P : α → Prop} {x : α} {l : List α} (h : P x) (r : ∀ y ∈ l, P y) : ∀ y ∈ x :: l, P y := fun y m => by
  rcases List.mem_cons.mp m with z | z
  · rw [z]; exact h
  · exact r y z
/-- lists and tuples of data -/
def DatL (n : Nat) (K : PySem.W.Frag) (H : Hp) : List V → List PyData → Prop
  | [], [] => True
  | v :: vs, d :: ds => DatN n K H v d ∧ DatL n K H vs ds
  | _, _ => False
theorem DatL.all {n : Nat} {K : PySem.W.Frag} {H : Hp} : ∀ {vs : List V} {ds : List PyData}, DatL n K H vs ds → DpAll K H vs ds ∧ PyData.canLayAll0 ds = true ∧ PyData.depthAll ds ≤ n
  | [], [], _ => ⟨.nil, rfl, Nat.zero_le _⟩
  | [], _ :: _, h => h.elim
  | _ :: _, [], h => h.elim
  | v :: vs, d :: ds, h => by
    obtain ⟨⟨a, b, c⟩, r⟩ := h
    obtain ⟨x, y, z⟩ := DatL.all r
    exact ⟨.cons a x, by rw [PyData.canLayAll0, b, y]; rfl, by rw [PyData.depthAll]; exact Nat.max_le.mpr ⟨c, z⟩⟩
theorem shape_l {n : Nat} {K : PySem.W.Frag} {H : Hp} {vs : List V} {ds : List PyData} (h : DatL n K H vs ds) (hn : n ≤ 60 := by decide) : SeqAt.shaped (.list ds) = true := by
  obtain ⟨_, b, c⟩ := h.all
  unfold SeqAt.shaped
  rw [PyData.canLay0, PyData.depth, b]
  exact decide_eq_true (by omega)
theorem dat_tup {n : Nat} {K : PySem.W.Frag} {H : Hp} {a : Addr} {vs : List V} {ds : List PyData} (e : H a = some (.tup vs)) (h : DatL n K H vs ds) : DatN (n + 1) K H (.ref a) (.tuple ds) := by
  obtain ⟨x, b, c⟩ := h.all
  exact ⟨.tup (SqT.of e) x, by rw [PyData.canLay0]; exact b, by rw [PyData.depth]; omega⟩
theorem eqv_same {n : Nat} {K : PySem.W.Frag} {H : Hp} {vs : List V} {ds : List PyData} (h : DatL n K H vs ds) : PyData.eqv (.list ds) (.list ds) = true := SeqAt.eqv_refl _ (by rw [PyData.canLay0]; exact h.all.2.1)
theorem lg_ok {i : Int} (h0 : 0 ≤ i) (h : i < 1000000000) : i.natAbs.log2 < 1920 := Nat.lt_of_lt_of_le (PySem.Flt.log2_lt_of (n := i.natAbs) (k := 30) (by decide) (by omega)) (by decide)
theorem text_len {i : Int} (h0 : 0 ≤ i) (h : i < 1000000000) : (Str.ofString (toString i)).length ≤ 100 := by
  have q := int_text_length_le10 (a := i) (k := 9) (by decide) (by omega)
  rw [len_ch]
  unfold ch
  rw [Str.ofString_eq_toList, List.toList_toArray, List.length_map]
  have : (toString i).toList.length = (toString i).length := String.length_toList
  omega
end Lk
namespace Lk
open PySem L2
/-! ### what the inits keep -/
def spI1 (C : Addr) (f : Str) : Sp := fun vs H Q _ => ∃ (a : Addr) (v : V), vs = [.ref a, v] ∧ H a = some (exo a C none) ∧ ∀ d H', H' a = some (exo a C (some d)) → H' d = some (exd d [(f, v)]) → Kp [a] H H' → H d = none → Q .non H'
def spI2 (C : Addr) (f g : Str) : Sp := fun vs H Q _ => ∃ (a : Addr) (v u : V), vs = [.ref a, v, u] ∧ H a = some (exo a C none) ∧ ∀ d H', H' a = some (exo a C (some d)) → H' d = some (exd d [(g, u), (f, v)]) → Kp [a] H H' → H d = none → Q .non H'
theorem read1 {C a : Addr} {f : Str} {v : V} {H : Hp} {Q : VK} {K : PySem.W.Frag} (T : OexC K C) (nf : PySem.W.findIn K (.ref C) f = some none) (hA : H a = some (exo a C none))
    (q : ∀ d H', H' a = some (exo a C (some d)) → H' d = some (exd d [(f, v)]) → Kp [a] H H' → H d = none → Q .non H') (σ : L2.St) : ∃ b D : Addr, V.ref a = .ref b ∧ OexC K D ∧ PySem.W.findIn K (.ref D) f = some none ∧
      ((H b = some (exo b D none) ∧ ∀ dx, H dx = none → dx ≠ b → Q .non (upd (upd H dx (exd dx [(f, v)])) b (exo b D (some dx)))) ∨
        ∃ (dx : Addr) (fs : List (Str × V)), H b = some (exo b D (some dx)) ∧ H dx = some (exd dx fs) ∧ fs.length ≤ 900 ∧ Q .non (upd H dx (exd dx ((f, v) :: fs)))) := by
  refine ⟨a, C, rfl, T, nf, .inl ⟨hA, fun dx hn ne => ?_⟩⟩
  exact q dx _ upd_same (by rw [upd_ne ne]; exact upd_same) (((Kp.refl [a] H).new hn).put (.inl (List.mem_singleton.mpr rfl))) hn
theorem newE {H1 H2 : Hp} {a : Addr} {o : HO} (hn : H1 a = none) (k : Kp [a] (upd H1 a o) H2) : Kp [] H1 H2 := ((Kp.refl [] H1).new hn).step k fun b hb => .inr (by rw [List.mem_singleton.mp hb]; exact hn)
theorem newE_d {H1 : Hp} {a d : Addr} {o : HO} (hn : H1 a = none) (h : upd H1 a o d = none) : H1 d = none := by
  by_cases e : d = a
  · rw [e]; exact hn
  · rw [upd_ne e] at h; exact h
/-! ### rows of exceptions -/
inductive ExIn (e : Nat → Addr) (H : Hp) : List Addr → List Nat → Prop
  | nil : ExIn e H [] []
  | cons {p : Addr} {c : Nat} {ps : List Addr} {cs : List Nat} : Exc H p (e c) → ExIn e H ps cs → ExIn e H (p :: ps) (c :: cs)
theorem ExIn.at {e : Nat → Addr} {H : Hp} : ∀ {ps : List Addr} {cs : List Nat}, ExIn e H ps cs → ∀ {i : Nat} {p : Addr}, ps[i]? = some p → ∃ c, cs[i]? = some c ∧ Exc H p (e c)
  | _, _, .nil, i, p, h => by simp at h
  | _, _, .cons x r, 0, p, h => by
    have z := Option.some.inj h
    subst z
    exact ⟨_, rfl, x⟩
  | _, _, .cons x r, i + 1, p, h => r.at (i := i) (by simpa using h)
theorem Exc.kp0 {H H' : Hp} {a C : Addr} (h : Exc H a C) (k : Kp [] H H') : Exc H' a C := by
  rcases h with ⟨d, fs, h1, h2⟩ | h
  · exact .inl ⟨d, fs, k.at0 h1, k.at0 h2⟩
  · exact .inr (k.at0 h)
theorem ExIn.kp0 {e : Nat → Addr} {H H' : Hp} {ps : List Addr} {cs : List Nat} (h : ExIn e H ps cs) (k : Kp [] H H') : ExIn e H' ps cs := by
  induction h with
  | nil => exact .nil
  | cons x _ ih => exact .cons (x.kp0 k) ih
theorem ExIn.len {e : Nat → Addr} {H : Hp} {ps : List Addr} {cs : List Nat} (h : ExIn e H ps cs) : ps.length = cs.length := by
  induction h with
  | nil => rfl
  | cons _ _ ih => simp [ih]
def Exs (H : Hp) (l : Addr) (cs : List Nat) (e : Nat → Addr) : Prop := ∃ ps : List Addr, H l = some (.lst (ps.map V.ref)) ∧ ExIn e H ps cs
theorem Exs.kp0 {e : Nat → Addr} {H H' : Hp} {l : Addr} {cs : List Nat} (h : Exs H l cs e) (k : Kp [] H H') : Exs H' l cs e := by
  obtain ⟨ps, a, b⟩ := h
  exact ⟨ps, k.at0 a, b.kp0 k⟩
theorem range_at {s n i c : Nat} (h : (List.range' s n)[i]? = some c) : c = s + i ∧ i < n := by
  have l := lt_of_get h
  rw [List.length_range'] at l
  rw [List.getElem?_range' l] at h
  have := Option.some.inj h
  omega
end Lk
namespace Lk
open PySem L2
inductive NmIn (K : PySem.W.Frag) (H : Hp) : List Addr → List V → Prop
  | nil : NmIn K H [] []
  | cons {p : Addr} {v : V} {ps : List Addr} {vs : List V} : (∃ C d : Addr, H p = some (exo p C (some d)) ∧ H d = some (exd d [("name", v)]) ∧ XfC K C ∧ PySem.W.findIn K (.ref C) "name" = some none) → NmIn K H ps vs → NmIn K H (p :: ps) (v :: vs)
theorem NmIn.at {K : PySem.W.Frag} {H : Hp} : ∀ {ps : List Addr} {vs : List V}, NmIn K H ps vs → ∀ {i : Nat} {p : Addr}, ps[i]? = some p → ∃ v, vs[i]? = some v ∧ ∃ C d : Addr, H p = some (exo p C (some d)) ∧ H d = some (exd d [("name", v)]) ∧ XfC K C ∧ PySem.W.findIn K (.ref C) "name" = some none
  | _, _, .nil, i, p, h => by simp at h
  | _, _, .cons x r, 0, p, h => by
    have z := Option.some.inj h
    subst z
    exact ⟨_, rfl, x⟩
  | _, _, .cons x r, i + 1, p, h => r.at (i := i) (by simpa using h)
theorem NmIn.kp0 {K : PySem.W.Frag} {H H' : Hp} {ps : List Addr} {vs : List V} (h : NmIn K H ps vs) (k : Kp [] H H') : NmIn K H' ps vs := by
  induction h with
  | nil => exact .nil
  | cons x _ ih =>
    obtain ⟨C, d, h1, h2, h3⟩ := x
    exact .cons ⟨C, d, k.at0 h1, k.at0 h2, h3⟩ ih
theorem NmIn.full {K : PySem.W.Frag} {H : Hp} {ps : List Addr} {vs : List V} (h : NmIn K H ps vs) : vs.take ps.length = vs := by
  have e : ps.length = vs.length := by
    induction h with
    | nil => rfl
    | cons _ _ ih => simp [ih]
  rw [e, List.take_length]
theorem lk1 {f : Str} {v : V} : List.lookup f [(f, v)] = some v := by simp [List.lookup]
theorem lk2a {f g : Str} {v u : V} : List.lookup g [(g, u), (f, v)] = some u := by simp [List.lookup]
theorem lk2b {f g : Str} {v u : V} (h : (f == g) = false) : List.lookup f [(g, u), (f, v)] = some v := by simp [List.lookup, h]
theorem p59 : (0 : Int) < 10 ^ Int.toNat 59 := by decide +kernel
theorem marks_eq {c s i : Nat} {f : Int} (h : c = s + i) (hf : f = (s : Int)) : ((List.range 23).map fun k => decide (c = k)) = (List.range (Int.toNat 23)).map fun (k : Nat) => decide ((k : Int) = f + (i : Int)) := by
  show (List.range 23).map _ = (List.range 23).map _
  congr 1
  funext k
  subst hf
  by_cases e : c = k
  · rw [decide_eq_true e, decide_eq_true (by omega)]
  · rw [decide_eq_false e, decide_eq_false (by omega)]
end Lk
namespace Lk
theorem p9 : (0 : Int) < 10 ^ Int.toNat 9 := by decide +kernel
theorem e9 : (10 : Int) ^ Int.toNat 9 = 1000000000 := by decide +kernel
end Lk
namespace Lk
theorem take_le {α : Type} {xs names : List α} {k : Nat} (h : xs = names.take k) : xs.length ≤ names.length := by rw [h, List.length_take]; exact Nat.min_le_right _ _
end Lk
set_option Elab.async false
set_option linter.all false
set_option maxRecDepth 100000
namespace Lk
open PySem PySem.Spec PyProof.Rows L2
/-! what an object of the program's own classes does: methods, len, in, subscripts, operators -/
section
variable {X : Cx} {CX : CXT} {k : Nat} {C f dx : Addr} {fs : List (Str × V)} {sp : Sp} {E : L2.St → XK} {m : Str} {pins : List (Addr × Obj)} {σ : L2.St} {H : Hp} {s : Shared} {Q : VK}
theorem pass0At {X : Cx} (σ : L2.St) : PassesAt CX0 X σ (fun _ _ _ => False) := fun _ _ _ _ _ _ h => h.elim
theorem passLAt {X : Cx} (σ : L2.St) : PassesAt (L2.CX X.prog X.w) X σ (fun _ _ _ => False) := fun _ _ _ _ _ _ h => by
  obtain ⟨_, _, _, _, _, _, _, _, _, _, _, _, z⟩ := h
  exact z.elim
/-- a def runs somewhere below the body -/
theorem run_in {A : Around} {us : List Value} {vs : List V} (F : FnR X.prog X.w X.K X.mg X.base CX k f sp) (hr : Room k A) (hf : A.frames = X.A.frames) (hx : PassesAt CX X σ (E σ)) (I : Inv X pins σ H s) (r : Vals vs us) (h : sp vs H Q (E σ)) :
    wpAny (model X.prog X.w) A (call (.ref f) us) (EP X pins σ Q) X.xe s := by
  have e := I.env0
  refine wpAny_call (codeAny_mono (F A X.stack s H us vs Q (E σ) hr ⟨by rw [hf]; exact e.frames, e.mod, e.bs, e.bsz, e.funs, e.frf, e.hok, e.bare⟩ r h) fun r s' hq => ?_)
  cases r with
  | error er => exact hx pins H s er s' I hq
  | ok fl => cases fl with
    | ret u => exact I.after hq
    | _ => exact False.elim hq
theorem inst_at (I : Inv X pins σ H s) (ea : H a = some (.ins C dx fs)) : ∃ od, PySem.W.InstAt s.heap a (PySem.W.instObj C dx) C (some od) := by
  obtain ⟨mA, O, _⟩ := ins_get I.hok ea
  obtain ⟨od, J, _⟩ := O.look
  exact ⟨od, J⟩
/-- o.m(e, ..) -/
def tMethN (C : Addr) (m : Str) (sp : Sp) (E : L2.St → XK) (ta : TE) (t : TA) : TE := fun σ H Q => ta σ H fun x H1 => ∃ a dx fs, x = .ref a ∧ H1 a = some (.ins C dx fs) ∧ fs.lookup m = none ∧ t σ H1 fun vs H2 => sp (x :: vs) H2 Q (E σ)
variable {o e : Expr} {es : List Expr} {ta tb : TE} {t : TA} {apos pos : Pos}
theorem pe_methN {pl : Sem Bool} (he : PE X o ta) (c : Cls X.K C) (hm : Meth X.K C m f)
    (F : FnR X.prog X.w X.K X.mg X.base CX k f sp) (hr : Room k X.A) (hx : ∀ σ, PassesAt CX X σ (E σ)) (ha : PA X (e :: es) t)
    (hst : starEach (e :: es) X.env = (false, eval e X.env) :: starEach es X.env := by rfl) (hpl : (backTo pos (starEach es X.env)).any (·.1) = false := by rfl)
    (ht : eval (.Call (.Attribute o m apos) (e :: es) [] pos) X.env = (eval o X.env >>= fun ov => standAt apos.atName >>= fun _ => holding [ov] (getMethod ov m pl) >>= fun z =>
      callWith pos z.1 z.2 (backTo pos (starEach (e :: es) X.env)) (backToKw pos (keywordEach [] X.env))) := by rfl) :
    PE X (.Call (.Attribute o m apos) (e :: es) [] pos) (tMethN C m sp E ta t) := ⟨fun pins s σ H Q I h => by
  refine PySem.W.methodCall_KW (pl := pl) (thn (he.run pins s σ H _ I h) fun u s1 ⟨x, H1, I1, rx, a, dx, fs, ex, ea, l, q⟩ => ?_) ht
  subst ex
  obtain rfl : u = Value.ref a := rx
  refine getmeth_ok I1 ea c hm l (PySem.W.callWith_K (first := [.ref a]) (h₀ := X.base) I1.ok.mod.kin hm.kp (thn (ha.run pos pins s1 σ H1 _ I1 q) fun us s2 ⟨vs, H2, I2, r, q2⟩ => ⟨I2.kIn, ?_⟩) hst hpl)
  exact run_in (us := .ref a :: us) (vs := .ref a :: vs) F hr rfl (hx σ) I2 (.cons rfl r) q2⟩
theorem pe_methN0 {pl : Sem Bool} (he : PE X o ta) (c : Cls X.K C) (hm : Meth X.K C m f)
    (F : FnR X.prog X.w X.K X.mg X.base CX k f sp) (hr : Room k X.A) (hx : ∀ σ, PassesAt CX X σ (E σ))
    (ht : eval (.Call (.Attribute o m apos) [] [] pos) X.env = (eval o X.env >>= fun ov => standAt apos.atName >>= fun _ => holding [ov] (getMethod ov m pl) >>= fun z =>
      callWith pos z.1 z.2 (backTo pos (starEach [] X.env)) (backToKw pos (keywordEach [] X.env))) := by rfl) :
    PE X (.Call (.Attribute o m apos) [] [] pos) (tMethN C m sp E ta tNil) := ⟨fun pins s σ H Q I h => by
  refine PySem.W.methodCall_KW (pl := pl) (thn (he.run pins s σ H _ I h) fun u s1 ⟨x, H1, I1, rx, a, dx, fs, ex, ea, l, q⟩ => ?_) ht
  subst ex
  obtain rfl : u = Value.ref a := rx
  exact getmeth_ok I1 ea c hm l (PySem.W.callWith_K0 (first := [.ref a]) I1.kIn hm.kp (run_in (us := [.ref a]) (vs := [.ref a]) F hr rfl (hx σ) I1 (.cons rfl .nil) q))⟩
/-- len(o) -/
def rLenO (C : Addr) (sp : Sp) : List V → Hp → VK → Prop := fun xs H Q => ∃ a dx fs, xs = [.ref a] ∧ H a = some (.ins C dx fs) ∧ sp [.ref a] H (fun v H' => ∃ n : Int, v = .int n ∧ (0 ≤ n ∧ n < 2 ^ 63) ∧ Q (.int n) H') fun _ _ _ => False
theorem call_lenO (hm : Meth X.K C "__len__" f) (F : FnR X.prog X.w X.K X.mg X.base CX k f sp) (hr : Room (k + 1) X.A) (hx : ∀ σ, PassesAt CX X σ fun _ _ _ => False) : CallR X (.builtin "len") (rLenO C sp) := by
  intro pins s σ H xs us Q I r h
  obtain ⟨a, dx, fs, rfl, ea, q⟩ := h
  obtain ⟨u, rfl, ru⟩ := vals1 r
  cases ru
  obtain ⟨od, J⟩ := inst_at I ea
  obtain ⟨m, hF⟩ := I.fr
  refine PySem.W.len_K hF I.ok.mod.kin J hm.at_ hm.fn (wpAny_mono (run_in (E := fun _ _ _ _ => False) (us := [.ref a]) (vs := [.ref a]) F hr.in1 rfl (hx σ) I (.cons rfl .nil) q) (fun v s' z => ?_) fun _ _ z => z)
  obtain ⟨w, H', I', rw', n, ew, hn, hq⟩ := z
  subst ew
  obtain ⟨t, rfl⟩ := rw'
  exact ⟨hn, .int n, H', I'.tok _, ⟨_, rfl⟩, hq⟩
/-- x in o, x not in o -/
def rInO (C : Addr) (sp : Sp) (neg : Bool) : R2 := fun x y H Q => ∃ a dx fs, y = .ref a ∧ H a = some (.ins C dx fs) ∧ sp [.ref a, x] H (fun v H' => ∃ b : Bool, v = .bl b ∧ Q (.bl (b != neg)) H') fun _ _ _ => False
theorem op_inO (hm : Meth X.K C "__contains__" f) (F : FnR X.prog X.w X.K X.mg X.base CX k f sp) (hr : Room k X.A) (hx : ∀ σ, PassesAt CX X σ fun _ _ _ => False) : OpR X (compareOp .In) (rInO C sp false) := by
  intro pins s σ H x y v u Q I rx ry h
  obtain ⟨a, dx, fs, rfl, ea, q⟩ := h
  cases ry
  obtain ⟨od, J⟩ := inst_at I ea
  obtain ⟨m, hF⟩ := I.fr
  refine PySem.W.in_K hF I.ok.mod.kin J hm.at_ hm.fn (wpAny_mono (run_in (E := fun _ _ _ _ => False) (us := [.ref a, v]) (vs := [.ref a, x]) F hr rfl (hx σ) I (.cons rfl (.cons rx .nil)) q) (fun v s' z => ?_) fun _ _ z => z)
  obtain ⟨w, H', I', rw', b, ew, hq⟩ := z
  subst ew
  cases rw'
  exact wpAny_truthy_bool ⟨.bl b, H', I', rfl, by cases b <;> exact hq⟩
theorem op_notInO (hm : Meth X.K C "__contains__" f) (F : FnR X.prog X.w X.K X.mg X.base CX k f sp) (hr : Room k X.A) (hx : ∀ σ, PassesAt CX X σ fun _ _ _ => False) : OpR X (compareOp .NotIn) (rInO C sp true) := by
  intro pins s σ H x y v u Q I rx ry h
  obtain ⟨a, dx, fs, rfl, ea, q⟩ := h
  cases ry
  obtain ⟨od, J⟩ := inst_at I ea
  obtain ⟨m, hF⟩ := I.fr
  refine PySem.W.notIn_K hF I.ok.mod.kin J hm.at_ hm.fn (wpAny_mono (run_in (E := fun _ _ _ _ => False) (us := [.ref a, v]) (vs := [.ref a, x]) F hr rfl (hx σ) I (.cons rfl (.cons rx .nil)) q) (fun v s' z => ?_) fun _ _ z => z)
  obtain ⟨w, H', I', rw', b, ew, hq⟩ := z
  subst ew
  cases rw'
  exact wpAny_truthy_bool ⟨.bl (!b), H', I', rfl, by cases b <;> exact hq⟩
/-- o[i] -/
def tGetO (C : Addr) (sp : Sp) (E : L2.St → XK) (ta tb : TE) : TE := fun σ H Q => ta σ H fun x H1 => tb σ H1 fun y H2 => ∃ a dx fs, x = .ref a ∧ H2 a = some (.ins C dx fs) ∧ sp [.ref a, y] H2 Q (E σ)
theorem pe_getO {i : Expr} (hm : Meth X.K C "__getitem__" f) (fi : PySem.W.fnIn X.K f = true) (F : FnR X.prog X.w X.K X.mg X.base CX k f sp) (hr : Room (k + 1) X.A) (hx : ∀ σ, PassesAt CX X σ (E σ)) (ha : PE X o ta) (hb : PE X i tb)
    (hsl : ∀ v u, subscripted i true v u = runValue (.builtin "lifetime.subscript" ⟨[v, u], []⟩) := by intro _ _; rfl) : PE X (.Subscript o i pos) (tGetO C sp E ta tb) := ⟨fun pins s σ H Q I h => by
  refine Subscript_ (binT ha hb I h fun v u s2 x y H2 I2 rx ry q => ?_)
  obtain ⟨a, dx, fs, rfl, ea, q⟩ := q
  cases rx
  obtain ⟨od, J⟩ := inst_at I2 ea
  obtain ⟨m, hF⟩ := I2.fr
  exact PySem.W.sub_K hF I2.ok.mod.kin J hm.at_ fi hm.fn (run_in (us := [.ref a, u]) (vs := [.ref a, y]) F hr.in1 rfl (hx σ) I2 (.cons rfl (.cons ry .nil)) q) (hsl _ _)⟩
/-- o[i] = v -/
def gSubO (C : Addr) (sp : Sp) (E : L2.St → XK) (to ti : TE) : TG := fun v σ H Q => to σ H fun x H1 => ti σ H1 fun i H2 => ∃ a dx fs, x = .ref a ∧ H2 a = some (.ins C dx fs) ∧ sp [.ref a, i, v] H2 (fun _ H3 => Q σ H3) (E σ)
theorem pg_setO {i : Expr} (hm : Meth X.K C "__setitem__" f) (hq : PySem.W.noSeq X.K C = true) (F : FnR X.prog X.w X.K X.mg X.base CX k f sp) (hr : Room k X.A) (hx : ∀ σ, PassesAt CX X σ (E σ)) (ho : PE X o ta) (hi : PE X i tb)
    (ha : ∀ v, assign (.Subscript o i pos) X.env v = (holding [v] (eval o X.env) >>= fun ov => holding [v, ov] (eval i X.env) >>= fun iv => standAt pos >>= fun _ => holding [v, ov, iv] (setItem ov iv v) >>= fun _ => release [v, ov, iv] []) := by intro _; rfl) :
    PG X (.Subscript o i pos) (gSubO C sp E ta tb) := by
  refine ⟨fun pins s σ H v u Q I r h => ?_⟩
  rw [ha]
  refine wpAny_bind (wpAny_holding (thn (ho.run pins s σ H _ I h) fun ov s1 ⟨x, H1, I1, rx, q1⟩ => ?_))
  refine wpAny_bind (wpAny_holding (thn (hi.run pins s1 σ H1 _ I1 q1) fun iv s2 ⟨y, H2, I2, ry, a, dx, fs, ex, ea, q⟩ => ?_))
  subst ex
  obtain rfl : ov = Value.ref a := rx
  obtain ⟨od, J⟩ := inst_at I2 ea
  obtain ⟨m, hF⟩ := I2.fr
  refine wpAny_bind (wpAny_standAt (wpAny_bind (wpAny_holding (PySem.W.ksp_setItem hF I2.ok.mod.kin J hq hm.at_ hm.fn (wpAny_mono (run_in (us := [.ref a, iv, u]) (vs := [.ref a, y, v]) F hr rfl (hx σ) I2 (.cons rfl (.cons ry (.cons r .nil))) q) (fun _ s' z => ?_) fun _ _ z => z)))))
  obtain ⟨w, H', I', _, hq'⟩ := z
  exact wpAny_release ⟨σ, H', I', hq'⟩
end
/-- a def with *v -/
theorem star_fn {P : Program} {w : World} {K : PySem.W.Frag} {mg : Str → Option Value} {base : Heap} {x qual pv : Str} {st : Stmt} {f : Addr} {fd : FuncData} {N ps : List Str} {k : Nat} {sp : Sp} (F : Fun K x qual st f fd) (S : FnScope N (ps ++ [pv]) (defScope st))
    (hb : ∀ (kV doc pm : Value) (an : Option Addr) (cdv ct : Value) (us rest : List Value), us.length = ps.length → bindArgs (PySem.W.fnOf x qual (defArgs st) (defBody st) (defScope st) .none kV doc pm an cdv ct) ⟨us ++ rest, []⟩ = (newTuple rest >>= fun t => pure (ps.zip us ++ [(pv, t)])))
    (hbody : ∀ (cdv : Value) (A : Around) (outer : List Env) (s : Shared) (H : Hp) (vs : List V) (Q : VK) (E : XK), Room k (A.deeper (envOfC qual (defScope st) s.heap.objs.size f cdv)) → sp vs H Q E →
      ∃ t, PSs (cxOf (L2.CX P w) P w K mg base N qual (defScope st) f cdv A outer s H E) (defBody st) t ∧ t { nx := fun _ H' => Q .non H', rt := Q } (start N vs) H) :
    FnR P w K mg base (L2.CX P w) (k + 1) f (fun vs H Q E => ∃ ws rest, vs = ws ++ rest ∧ ws.length = ps.length ∧ rest.length ≤ sizeLine ∧ ∀ p, H p = none → sp (ws ++ [V.ref p]) (upd H p (.tup rest)) Q E) := by
  obtain ⟨oc, od, kV, doc, pm, an, cdv, ct, osl, rfl, lk, hcd⟩ := F.ex
  exact StX.fn_star lk hcd S StX.cxUp (hb kV doc pm an cdv ct) fun A outer s H vs Q E hr h => hbody cdv A outer s H vs Q E hr h
end Lk
set_option Elab.async false
set_option linter.all false
set_option maxRecDepth 100000
set_option maxHeartbeats 2000000
namespace Lk
open PySem PySem.Spec PyProof.Rows L2
/-! tuple(d) of a dict: a new tuple of its keys -/
section
variable {prog : Program} {w : World} {A : Around} {E : Value → Shared → Prop} {s : Shared} {r d : Addr} {n : Nat} {P : Nat → Value → Prop} {OK : Heap → Prop}
theorem collect_src {Q : List Value → Shared → Prop} (S : PySem.W.KdlSrc prog w "dict" r d n P OK) (hh : A.handled = none) (ok : OK s.heap) (hn : n ≤ sizeLine)
    (hQ : ∀ (h' : Heap) (tk : Nat) (acc : Array Value), (∀ b o, s.heap.get? b = some o → h'.get? b = some o) → ItemsOf P acc n → Q acc.toList { s with heap := h', toks := tk }) :
    wpAny (model prog w) A (collect (.ref r)) Q E s := by
  unfold collect
  apply wpAny_bind
  apply wpAny_runValue
  apply codeAny_builtin F.entry_proto_collect
  rw [Around.under_plainId F.plain_proto_collect _]
  show wpAny _ A.in1 (newList [] >>= fun l => again (.builtin "list.__iadd__" ⟨[l, .ref r], []⟩)) _ _ s
  apply wpAny_bind
  refine wpAny_newObj_type (wpAny_pure ⟨plainId_quiet F.plain_list_iadd _, codeAny_builtin F.entry_list_iadd ?_⟩)
  rw [Around.under_plainId F.plain_list_iadd _]
  have lt := S.there _ ok
  have new : (s.heap.push { cls := .type "list", data := .seq ([] : List Value).toArray }).get? s.heap.objs.size = some { cls := .type "list", data := .seq #[] 0 } := Heap.get?_push_size _ rfl
  have old : ∀ b o, s.heap.get? b = some o → (s.heap.push { cls := .type "list", data := .seq ([] : List Value).toArray }).get? b = some o := fun b o q => Heap.get?_push_of_some _ q
  show wpAny _ A.in1 (Builtin.List.listExtendWith (.ref s.heap.objs.size) (.ref r) (.ref s.heap.objs.size)) _ _ _
  refine wpAny_mono (PySem.W.kdl_extend (A := A) (s := { s with heap := s.heap.push { cls := .type "list", data := .seq ([] : List Value).toArray } })
    (R := fun x s' => x = .ok (.ret (.ref s.heap.objs.size)) ∧ ∃ (h' : Heap) (tk : Nat) (acc : Array Value) (c' : Nat), s' = { s with heap := h', toks := tk } ∧ (∀ b o, s.heap.get? b = some o → h'.get? b = some o) ∧ h'.get? s.heap.objs.size = some { cls := .type "list", dict := none, data := .seq acc c', slots := #[] } ∧ ItemsOf P acc n)
    S hh (S.keep _ _ ok fun b _ o e => old b o e) _ (Nat.ne_of_gt lt.1) (Nat.ne_of_gt lt.2) _ 0 new
    (fun h' tk acc c' keep at_ items => ⟨rfl, h', tk, acc, c', rfl, fun b o q => keep b o (Nat.ne_of_lt (Heap.lt_size q)) (old b o q), at_, items⟩) hn) (fun fin s' h => ?_) (fun e s' h => absurd h.1 (by simp))
  have last : ∀ {s' : Shared}, (∃ (h' : Heap) (tk : Nat) (acc : Array Value) (c' : Nat), s' = { s with heap := h', toks := tk } ∧ (∀ b o, s.heap.get? b = some o → h'.get? b = some o) ∧ h'.get? s.heap.objs.size = some { cls := .type "list", dict := none, data := .seq acc c', slots := #[] } ∧ ItemsOf P acc n) →
      wpAny (model prog w) A (load s.heap.objs.size >>= fun o => match o.data with | .seq items _ => pure items.toList | _ => unsupported "a list's items") Q E s' := by
    rintro s' ⟨h', tk, acc, c', rfl, keep, at_, items⟩
    exact wpAny_bind (wpAny_load at_ (wpAny_pure (hQ h' tk acc keep items)))
  cases fin with
  | done f =>
    obtain ⟨e, h', tk, acc, c', rfl, keep, at_, items⟩ := h
    cases e
    show wpAny _ A (load s.heap.objs.size >>= _) _ _ _
    exact wpAny_bind (wpAny_load at_ (wpAny_pure (hQ h' tk acc keep items)))
  | again c' =>
    refine ⟨h.1, codeAny_mono h.2 fun x s'' z => ?_⟩
    obtain ⟨rfl, h', tk, acc, c', rfl, keep, at_, items⟩ := z
    show wpAny _ A (load s.heap.objs.size >>= _) _ _ _
    exact wpAny_bind (wpAny_load at_ (wpAny_pure (hQ h' tk acc keep items)))
theorem call_tuple_src {Q : Value → Shared → Prop} (S : PySem.W.KdlSrc prog w "dict" r d n P OK) (hh : A.handled = none) (ok : OK s.heap) (hn : n ≤ sizeLine)
    (hQ : ∀ (h' : Heap) (tk : Nat) (acc : Array Value), (∀ b o, s.heap.get? b = some o → h'.get? b = some o) → ItemsOf P acc n → Q (.ref h'.objs.size) { s with heap := h'.push { cls := .type "tuple", data := .seq acc }, toks := tk }) :
    wpAny (model prog w) A (call (.type "tuple") [.ref r]) Q E s := by
  have made : codeAny (model prog w) A.in1 (.call (.builtin "tuple.__new__") ⟨[.type "tuple", .ref r], []⟩) (wants (fun obj s₁ => s₁.TypeIs obj "tuple" ∧ Q obj s₁) E) s := by
    apply codeAny_of_tree
    show wpAny _ A.in1.in1 (checkBuiltinCall "tuple.__new__" ⟨[.type "tuple", .ref r], []⟩ >>= fun _ => again (.builtin "tuple.__new__" ⟨[.type "tuple", .ref r], []⟩)) _ _ s
    refine wpAny_bind (wpAny_of_eq (F.newCall_tuple_1 _) (wpAny_pure ⟨plainId_quiet F.plain_tuple_new _, codeAny_builtin F.entry_tuple_new ?_⟩))
    rw [Around.under_plainId F.plain_tuple_new _]
    have hsub := sub_tuple_self
    have hinit := init_tuple_lookup
    have hmh := madeHere_tuple
    have ty : s.TypeIs (.ref r) "dict" := S.type _ ok
    have hh1 : A.in1.in1.handled = none := hh
    wp_walk using wpAny_typeOf ty, collect_src (A := A.in1.in1) S hh1 ok hn
    intro h' tk acc keep items
    show wpAny _ _ (Builtin.Tuple.tupleExact acc.toList.toArray >>= fun v => ret v) _ _ _
    unfold Builtin.Tuple.tupleExact
    have e : acc.toList.toArray = acc := by simp
    refine wpAny_bind (wpAny_newObj_type (wpAny_pure ?_) (by show acc.toList.toArray.size ≤ sizeLine; rw [e, items.1]; exact hn))
    rw [e]
    exact ⟨⟨_, Heap.get?_push_size _ rfl, rfl⟩, hQ h' tk acc keep items⟩
  refine callType_codes (Q₁ := fun obj s₁ => s₁.TypeIs obj "tuple" ∧ Q obj s₁) F.called_tuple (F.typeCall_tuple_1 _) F.entry_object_init made fun obj s₁ h₁ => ?_
  exact ⟨h₁.1, F.args_object_init_2 obj _, object_init_meets F.called_tuple.init.lookup F.called_tuple.made (by decide) prog w A.in1 _ s₁ ⟨h₁.1, rfl, h₁.2⟩⟩
end
def rTupD : List V → Hp → VK → Prop := fun xs H Q => ∃ p kvs, xs = [.ref p] ∧ H p = some (.dK kvs) ∧ ∀ q, H q = none → Q (.ref q) (upd H q (.tup (kvs.map fun kv => kV kv.1)))
theorem call_tupD {X : Cx} (hc : X.calm = true) : CallR X (.type "tuple") rTupD := by
  rintro pins s σ H xs us Q I r ⟨p, kvs, rfl, hk, q⟩
  obtain ⟨u, rfl, rx⟩ := vals1 r
  obtain rfl : u = Value.ref p := rx
  obtain ⟨z, lo, vs, rk, hd⟩ := (show ObjOk X.prog X.w H s.heap p (.dK kvs) from I.hok p _ hk)
  obtain ⟨ep, hat⟩ := hd.dictAt
  have hl : kvs.length = vs.length := Paired.length rk
  refine call_tuple_src (PySem.W.kdl_dict (knd := mixKind X.prog X.w) (kvs := vs) (ep := ep) lo) (I.ok.hd hc) hat (by rw [← hl]; exact z) fun h' tk acc keep items => ?_
  have J : Inv X pins σ H { s with heap := h', toks := tk } := I.kept (t' := tk) keep
  have J2 : Inv X pins σ (upd H h'.objs.size (.tup (kvs.map fun kv => kV kv.1))) { s with heap := h'.push { cls := .type "tuple", data := .seq acc }, toks := tk } := by
    refine J.laid (t' := tk) (fun b o e => Heap.get?_push_of_some _ e) (Nat.le_refl _) (show ObjOk X.prog X.w _ _ _ (.tup (kvs.map fun kv => kV kv.1)) from ⟨by rw [List.length_map]; exact z, acc.toList, ?_, ?_⟩)
    · have el : acc.toList.length = acc.size := by simp
      refine vals_of_at (by rw [List.length_map, el, items.1, hl]) fun j x v h1 h2 => ?_
      obtain ⟨k, y, hky, hi⟩ := items.2 j v (by rw [← Array.getElem?_toList]; exact h2)
      have e2 : (kvs.map fun kv => kV kv.1)[j]? = some (kV k) := by
        have e1 : (kvs.map (·.1))[j]? = some k := by rw [KV.keys rk, List.getElem?_map, hky] <;> rfl
        rw [show (kvs.map fun kv => kV kv.1) = (kvs.map (·.1)).map kV by rw [List.map_map] <;> rfl, List.getElem?_map, e1] <;> rfl
      rw [e2] at h1
      cases h1
      exact keyIs_rel hi
    · have := IsTup.new h' acc.toList.toArray
      simpa using this
  exact ⟨.ref h'.objs.size, _, J2, rfl, q _ (J.hok.fresh (Nat.le_refl _))⟩
end Lk
set_option Elab.async false
set_option linter.all false
set_option maxRecDepth 100000
set_option maxHeartbeats 2000000
namespace Lk
open PySem PySem.Spec PyProof.Rows L2
/-! enumerate(t), t a tuple -/
theorem enumT_new (l : Addr) (items : Array Value) (n : Nat) (dct : Option Addr) (sl : Array (Option Value)) :
    Meets (Builtin.«enumerate.__new__» ⟨[.type "enumerate", .ref l], []⟩) (fun _ R s => s.heap.get? l = some { cls := .type "tuple", dict := dct, data := .seq items n, slots := sl } ∧
      R (.ok (.ret (.ref (s.heap.push { cls := .type "tuple_iterator", data := .fields #[.ref l, .int 0 0] }).objs.size)))
        { s with heap := (s.heap.push { cls := .type "tuple_iterator", data := .fields #[.ref l, .int 0 0] }).push { cls := .type "enumerate", data := .fields #[.none, .bool false, .ref s.heap.objs.size, rawInt 0, .none, .none] } }) :=
  .of_wp fun prog w A R s ⟨hl, h⟩ => by
    obtain ⟨hp, g, d, tk, os⟩ := s
    have hsub := sub_enumerate
    have hT : Heap.IsTuple (Shared.heap ⟨hp, g, d, tk, os⟩) l items := ⟨_, hl, rfl, n, rfl⟩
    wp_walk using AutoSeq1.wpAny_loadPart' hl
    refine wpAny_stack_any fun st => wpAny_pure ?_
    split
    · rename_i c _ _ _ _ _
      cases (c == Value.type "enumerate") <;> (wp_walk using AutoSeq1.wpAny_loadPart' hl, wpAny_pyIter_tuple hT; exact ⟨_, rfl, h⟩)
    · wp_walk using AutoSeq1.wpAny_loadPart' hl, wpAny_pyIter_tuple hT
      exact ⟨_, rfl, h⟩
section
variable {prog : Program} {w : World} {A : Around} {E : Value → Shared → Prop} {s : Shared}
theorem call_enumT {l : Addr} {items : Array Value} {Q : Value → Shared → Prop} (hT : s.heap.IsTuple l items)
    (h : ∀ h', IsEnum h' (s.heap.objs.size + 1) s.heap.objs.size 0 .none → h'.IsTupleIter s.heap.objs.size l 0 → h'.objs.size = s.heap.objs.size + 2 → (∀ b o, s.heap.get? b = some o → h'.get? b = some o) → Q (.ref (s.heap.objs.size + 1)) { s with heap := h' }) :
    wpAny (model prog w) A (call (.type "enumerate") [.ref l]) Q E s := by
  obtain ⟨⟨c, dct, dt, sl⟩, hl, hc, n, hd⟩ := hT
  obtain rfl : c = .type "tuple" := hc
  obtain rfl : dt = .seq items n := hd
  refine callType_new F.called_enumerate (by decide) (F.typeCall_enumerate_1 _) (F.newCall_enumerate_1 _) (fun obj => F.args_object_init_2 obj _) F.entry_enumerate_new (enumT_new l items n dct sl) ⟨hl, ?_⟩
  have z1 : (s.heap.push { cls := .type "tuple_iterator", data := .fields #[.ref l, .int 0 0] }).objs.size = s.heap.objs.size + 1 := Heap.size_push ..
  show _ ∧ _
  rw [z1]
  have en : IsEnum ((s.heap.push { cls := .type "tuple_iterator", data := .fields #[.ref l, .int 0 0] }).push { cls := .type "enumerate", data := .fields #[.none, .bool false, .ref s.heap.objs.size, rawInt 0, .none, .none] }) (s.heap.objs.size + 1) s.heap.objs.size 0 .none := by
    have := Heap.get?_push_size (s.heap.push { cls := .type "tuple_iterator", data := .fields #[.ref l, .int 0 0] }) (o := { cls := .type "enumerate", data := .fields #[.none, .bool false, .ref s.heap.objs.size, rawInt 0, .none, .none] }) rfl
    rwa [z1] at this
  exact ⟨⟨_, en, rfl⟩, h _ en ⟨_, Heap.get?_push_of_some _ (Heap.get?_push_size _ rfl), rfl, rfl⟩ (by rw [Heap.size_push, z1]) fun b o x => Heap.get?_push_of_some _ (Heap.get?_push_of_some _ x)⟩
end
/-- the tuple at a, each item in a new pair with its place -/
def ItET (K : PySem.W.Frag) (a : Addr) : It :=
  ⟨fun i H => ∃ (xs : List V) (x : V), SqT K H a xs ∧ xs[i]? = some x, fun i H v H' => ∃ T x, v = .ref T ∧ H T = none ∧ H' = upd H T (.tup [.int (i : Nat), x]) ∧ ∀ xs, SqT K H a xs → xs[i]? = some x, fun i H => ∃ xs : List V, SqT K H a xs ∧ xs.length = i⟩
theorem turn_enumT {P : Program} {w : World} {K : PySem.W.Frag} {elts : List Expr} {kk : Nat} {tpos : Pos} (a e it : Addr) (hai : a ≠ it) (hae : a ≠ e) :
    Turn P w K (.Tuple elts kk tpos) (ItET K a) [e, it] e (fun i h => (∃ old, IsEnum h e it ((i : Nat) : Int) old) ∧ h.IsTupleIter it a i ∧ e ≠ it) where
  mem := by simp
  obj := fun i h ⟨⟨old, he⟩, ⟨o, ho, hc, hd⟩, _⟩ b hb => by
    rcases (by simpa using hb : b = e ∨ b = it) with rfl | rfl
    · exact ⟨_, he, fun v q => nomatch q⟩
    · exact ⟨o, ho, fun v q => by rw [hd] at q; cases q⟩
  keep := fun i h h' st k => let ⟨⟨old, he⟩, hi, hne⟩ := st; ⟨⟨old, k e (by simp) _ he⟩, (let ⟨o, ho, r⟩ := hi; ⟨o, k it (by simp) o ho, r⟩), hne⟩
  item := by
    rintro X rfl rfl rfl hc i pins s σ H E I hf ⟨⟨old, he⟩, hit, hne⟩ ⟨xs, x, hq, hx⟩
    obtain ⟨its, rv, p, hz⟩ := I.tuple hq
    obtain ⟨u, hu, ru⟩ := rv.get hx
    have el : e < s.heap.objs.size := Heap.lt_size he
    have il : it < s.heap.objs.size := by obtain ⟨_, q, _⟩ := hit; exact Heap.lt_size q
    have al : a < s.heap.objs.size := p.lt
    have lt : i < its.toArray.size := by
      have := (List.getElem?_eq_some_iff.mp hu).1
      simpa using this
    refine wpAny_pyNext_enum_itemD (Draws.tuple (A := X.A.in1) (show X.A.in1.handled = none from I.ok.hd hc) it a hai its.toArray) he ⟨hit, p⟩ lt hne (by simp [hne, Ne.symm hae]) fun y h' tk hy ho hst hT hsz hk => ?_
    have ey : y = u := by
      have hy' : its[i]? = some y := by simpa using hy
      rw [hu] at hy'; exact (Option.some.inj hy').symm
    subst ey
    refine ⟨_, rfl, wpAny_letOwnedTupleGo_enum (s := { s with heap := h', toks := tk + 1 }) ho fun h'' he' sb => ?_⟩
    have hT2 : h''.get? s.heap.objs.size = some { cls := .type "tuple", data := .seq #[.int i tk, y] } := (sb.2 _ (Nat.ne_of_gt el)).trans hT
    have made : ObjOk X.prog X.w (upd H s.heap.objs.size (.tup [.int (i : Nat), x])) h'' s.heap.objs.size (.tup [.int (i : Nat), x]) :=
      ⟨by show 2 ≤ sizeLine; decide, [.int i tk, y], .cons ⟨_, rfl⟩ (.cons ru .nil), ⟨_, hT2, rfl, _, rfl⟩⟩
    have J : Inv X pins σ (upd H s.heap.objs.size (.tup [.int (i : Nat), x])) { s with heap := h'', toks := tk + 1 } :=
      I.turnedNew (t' := tk + 1) (ch := [e, it]) (fun b ob hb q => (sb.2 b (fun z => hb (by simp [z]))).trans (hk b ob (fun z => hb (by simp [z])) (fun z => hb (by simp [z])) q)) hf (Nat.le_refl _) made
    refine ⟨.ref s.heap.objs.size, _, J, rfl, ⟨_, x, rfl, I.hok.fresh (Nat.le_refl _), rfl, fun ys hy => by rw [I.tuple_inj hy hq]; exact hx⟩, ⟨⟨y, ?_⟩, (let ⟨o, q, r⟩ := hst.1; ⟨o, (sb.2 it (Ne.symm hne)).trans q, r⟩), hne⟩, fun b hb => ?_⟩
    · rw [show ((i + 1 : Nat) : Int) = (i : Int) + 1 by omega]; exact he'
    · have hb' : b < s.heap.objs.size := by
        rcases (by simpa using hb : b = e ∨ b = it) with rfl | rfl
        · exact el
        · exact il
      rw [upd_ne (Nat.ne_of_lt hb')]
      exact (hf b hb).1
  done := by
    rintro X rfl rfl rfl hc i pins s σ H E I hf ⟨⟨old, he⟩, hit, hne⟩ ⟨xs, hq, hx⟩
    obtain ⟨its, rv, p, hz⟩ := I.tuple hq
    obtain ⟨f0, f1, f2, f3, f4, f5⟩ := hf it (by simp)
    have n : i = its.toArray.size := by rw [List.size_toArray, ← rv.length]; exact hx.symm
    subst n
    exact wpAny_pyNext_enum_endD (Draws.tuple (A := X.A.in1) (show X.A.in1.handled = none from I.ok.hd hc) it a hai its.toArray) he ⟨hit, p⟩ fun h' eb => ⟨rfl, I.turned (t' := s.toks) (fun b o hb q => eb b o hb q) f0 f1 f3 f4 f5⟩
  self := fun A i s Q E st h => let ⟨⟨_, he⟩, _⟩ := st; wpAny_pyIter_enum he h

def iEnumT (K : PySem.W.Frag) (ta : TA) : TI := fun σ H R => ta σ H fun vs H1 => ∃ a xs, vs = [.ref a] ∧ SqT K H1 a xs ∧ R (ItET K a) H1
theorem pi_enumT {X : Cx} {e : Expr} {ta : TA} {p pos tpos : Pos} {elts : List Expr} {kk : Nat} (hg : Gl X "enumerate") (hm : X.mg "enumerate" = none) (ha : PA X [e] ta) (hs : starEach [e] X.env = [(false, eval e X.env)] := by rfl) :
    PI X (.Tuple elts kk tpos) (.Call (.Name "enumerate" p) [e] [] pos) (iEnumT X.K ta) := ⟨fun pins s σ H R I h => by
  refine Call_ (ld_blt I hg hm boot_enumerate (PyProof.Rows.callWith_type1 (thn (ha.run pos pins s σ H _ I h) fun us s1 ⟨vs, H1, I1, r1, a, xs, ex, hq, q⟩ => ?_) hs rfl))
  subst ex
  obtain ⟨u, rfl, ru⟩ := vals1 r1
  cases ru
  obtain ⟨its, rv, p', hz⟩ := I1.tuple hq
  have al := p'.lt
  refine call_enumT p' fun h' he hit hsz hk => wpAny_pyIter_enum he ?_
  refine ⟨s1.heap.objs.size + 1, [s1.heap.objs.size + 1, s1.heap.objs.size], _, _, H1, rfl, I1.kept (t' := s1.toks) hk, turn_enumT a (s1.heap.objs.size + 1) s1.heap.objs.size (Nat.ne_of_lt al) (Nat.ne_of_lt (Nat.lt_succ_of_lt al)), ⟨⟨.none, he⟩, hit, Nat.succ_ne_self _⟩, fun b hb => ?_, q⟩
  have hle : s1.heap.objs.size ≤ b := by
    rcases (by simpa using hb : b = s1.heap.objs.size + 1 ∨ b = s1.heap.objs.size) with rfl | rfl <;> omega
  exact I1.fpOk hle (I1.hok.fresh hle)⟩
theorem walk_enumT {K : PySem.W.Frag} {a : Addr} {xs : List V} : Walk (ItET K a) xs.length (fun H => SqT K H a xs) (YPair (fun i => some (.int (i : Nat))) (fun i => xs[i]?)) :=
  ⟨fun i _ hi q => ⟨xs, xs[i], q, by simp [hi]⟩, fun _ q => ⟨xs, q, rfl⟩, fun i H v H' _ q ⟨T, x, h1, h2, h3, h4⟩ => ⟨T, .int (i : Nat), x, h1, h2, h3, rfl, h4 xs q⟩⟩
end Lk
set_option Elab.async false
set_option linter.all false
set_option maxRecDepth 100000
set_option maxHeartbeats 2000000
namespace Lk
open PySem PySem.Spec PyProof.Rows L2
/-! a def that neither raises nor walks, called wherever there is room (also within an except suite) -/
def FnM (P : Program) (w : World) (K : PySem.W.Frag) (mg : Str → Option Value) (base : Heap) (k : Nat) (f : Addr) (sp : Sp) : Prop :=
  ∀ (A : Around) (outer : List Env) (s : Shared) (H : Hp) (us : List Value) (vs : List V) (Q : VK) (E : XK), L2H.RoomH k A → Env0 P w K mg base A outer s H → Vals vs us → sp vs H Q E →
    codeAny (model P w) A (.call (.ref f) ⟨us, []⟩) (CR CX0 outer P w H s Q E) s
theorem roomM {k : Nat} {A : Around} (r : Room k A) (h : Option Value) : L2H.RoomH k (A.mark h) := ⟨r.dp, r.un⟩
theorem huH {A : Around} {k : Nat} (r : L2H.RoomH k A) : A.units + 1 < cLine := by have := r.un; omega
/-- the context of its body -/
def cxM (P : Program) (w : World) (K : PySem.W.Frag) (mg : Str → Option Value) (base : Heap) (N : List Str) (qual : Str) (scope : Scope) (f : Addr) (cd : Value) (A : Around) (outer : List Env) (s : Shared) (H : Hp) (E : XK) : Cx :=
  { (cxOf CX0 P w K mg base N qual scope f cd A outer s H E).nox with calm := false }
theorem fnM_of {P : Program} {w : World} {K : PySem.W.Frag} {mg : Str → Option Value} {base : Heap} {k : Nat} {f : Addr} {x qual : Str} {st : Stmt} {fd : FuncData} {N ps : List Str} {sp : Sp} (F : Fun K x qual st f fd) (S : FnScope N ps (defScope st)) (hb : Binds K fd ps [])
    (len : ∀ vs H Q E, sp vs H Q E → vs.length = ps.length)
    (hbody : ∀ (cdv : Value) (A : Around) (outer : List Env) (s : Shared) (H : Hp) (vs : List V) (Q : VK) (E : XK), L2H.RoomH k (A.deeper (envOfC qual (defScope st) s.heap.objs.size f cdv)) → sp vs H Q E →
      ∃ t, PSs (cxM P w K mg base N qual (defScope st) f cdv A outer s H E) (defBody st) t ∧ t { nx := fun _ H' => Q .non H', rt := Q } (start N vs) H) : FnM P w K mg base (k + 1) f sp := by
  obtain ⟨oc, od, kV, doc, pm, an, cdv, ct, osl, rfl, lk, hcd⟩ := F.ex
  intro A outer s H us vs Q E hr e0 r hsp
  have hl := len _ _ _ _ hsp
  have KX : K.In s.heap := e0.mod.kin.keeps fun b o e => (e0.bs b o e).1
  have lim : s.heap.NoLimit := e0.mod.nolimit.keeps fun b o e => (e0.bs b o e).1
  have bt := hb s us KX (by rw [List.append_nil, ← r.length]; exact hl)
  rw [List.append_nil] at bt
  have kinds : ∀ y ∈ ps.zip us, (defScope st).names.lookup y.1 = some .local ∨ ((defScope st).names.lookup y.1 = some .cell ∧ ((cellsFrom (s.heap.objs.size + 1) (defScope st).names []).lookup y.1).isSome = true) := fun y hy =>
    (S.par y.1 (List.of_mem_zip (show (y.1, y.2) ∈ _ from hy)).1).imp_right fun q => ⟨q, PySem.W.cellsFrom_some _ _ _ (.inl q)⟩
  apply codeAny_call_function hr.depth (KX _ _ lk) rfl S.co S.gen rfl (PySem.W.codeRec_of KX hcd)
  refine bt _ _ _ _ (wpAny_newFunctionEnv_cells S.kind kinds fun env he s1 x => ?_)
  subst he
  refine ⟨lim.keeps x.toInCall.keep, codeAny_func ?_⟩
  obtain ⟨t, ht, hq⟩ := hbody cdv A outer s H vs Q E (hr.deeper _) hsp
  -- the body's beginning, as in a calm place
  have I : Inv (cxM P w K mg base N qual (defScope st) f cdv A outer s H E) [] (L2.start N vs) H s1 := by
    have hpl : ps.length ≤ N.length := by have := congrArg List.length S.pre; rw [List.length_take] at this; omega
    obtain ⟨h1, tk, rfl, hk⟩ := x.done
    have noA : ∀ b : Addr, b ∉ (cxM P w K mg base N qual (defScope st) f cdv A outer s H E).ex := fun b z => absurd (show b ∈ ([] : List Addr) from z) (by simp)
    have has : ∀ y, (defScope st).names.lookup y = some .cell ∨ (defScope st).names.lookup y = some .free → ∃ c, (cellsFrom (s.heap.objs.size + 1) (defScope st).names []).lookup y = some c := fun y hy => by
      rcases hy with hy | hy
      · exact cell_has hy
      · exact absurd rfl (S.nofree _ (PySem.mem_of_lookup hy))
    refine ⟨⟨e0.mod, S.kind, rfl, rfl, Nat.le_refl _, fun y z c h1 h2 => name_of_addr x.apart (PySem.mem_of_lookup h1) (PySem.mem_of_lookup h2), fun y hy => has y hy, fun y c _ h => Nat.le_of_lt (x.above y c (PySem.mem_of_lookup h)),
      (fun z => Bool.noConfusion (show false = true from z)), Around.frames_deeper e0.frames, .inr ⟨rfl, rfl⟩, fun b z => absurd z (noA b), e0.bs, e0.bsz, fun b _ _ => noA b, fun b z => absurd z (noA b), e0.funs, e0.frf⟩,
      rfl, e0.bare, Un.kept hk, ⟨_, x.toInCall.ns, fun i y v h1 h2 h3 => ?_⟩, fun y c h => ⟨_, x.cell y c h⟩, e0.hok.fresh (Nat.le_refl _), fun y c h => e0.hok.fresh (Nat.le_of_lt (x.above y c (PySem.mem_of_lookup h))), fun q hq => absurd hq (by simp [cxM, cxOf]), e0.hok.kept hk, ?_⟩
    · have hi : i < vs.length := by
        by_cases hi : i < vs.length
        · exact hi
        · unfold L2.start at h2
          rw [List.getElem?_append_right (by simpa using hi), List.getElem?_replicate] at h2
          split at h2 <;> cases h2
      have ha : vs[i]? = some v := by
        unfold L2.start at h2
        rw [List.getElem?_append_left (by simpa using hi), List.getElem?_map, List.getElem?_eq_getElem hi] at h2
        rw [List.getElem?_eq_getElem hi]
        exact Option.some.inj h2
      obtain ⟨u, hu, rv⟩ := r.get ha
      have hp : ps[i]? = some y := by
        rw [← S.pre, List.getElem?_take_of_lt (by omega)]; exact h1
      have nd : ps.Nodup := by rw [← S.pre]; exact S.nd.sublist (List.take_sublist _ _)
      refine ⟨u, rv, ?_⟩
      rcases S.par y (List.mem_of_getElem? hp) with kd | kd
      · exact .inl ⟨kd, bindL_get nd hp hu kd⟩
      · obtain ⟨c, e⟩ := cell_has (n := s.heap.objs.size + 1) kd
        refine .inr ⟨.inl kd, c, e, ?_⟩
        have q := x.cell y c e
        rwa [bindC_get nd hp hu (by show (defScope st).names.lookup y ≠ _; rw [kd]; decide)] at q
    · show (L2.start N vs).length = N.length
      unfold L2.start
      rw [List.length_append, List.length_map, List.length_replicate]
      omega
  refine wpAny_mono (ht.run [] s1 (L2.start N vs) H _ I hq) (fun fl s' hs => ?_) fun e s' hs => False.elim hs
  have last : ∀ {σ' : L2.St} {H' : Hp} {v : V} {u : Value}, Inv (cxM P w K mg base N qual (defScope st) f cdv A outer s H E) [] σ' H' s' → RelV v u → Q v H' → CE outer P w H s Q u s' := fun J rv q => ⟨_, _, J.os, J.bare, J.base, J.hok, rv, q⟩
  cases fl with
  | ret u => obtain ⟨v, σ', H', J, rv, q⟩ := hs; exact last J rv q
  | next => obtain ⟨σ', H', J, q⟩ := hs; exact last (v := V.non) (u := Value.none) J rfl q
  | brk => obtain ⟨_, _, _, q⟩ := hs; exact q.elim
  | cont => obtain ⟨_, _, _, q⟩ := hs; exact q.elim
section
variable {X : Cx} {k : Nat} {C f : Addr} {sp : Sp} {pins : List (Addr × Obj)} {σ : L2.St} {H : Hp} {s : Shared} {Q : VK}
theorem run_M {us : List Value} {vs : List V} (F : FnM X.prog X.w X.K X.mg X.base k f sp) (hr : L2H.RoomH k X.A) (I : Inv X pins σ H s) (r : Vals vs us) (h : sp vs H Q fun _ _ _ => False) : wpAny (model X.prog X.w) X.A (call (.ref f) us) (EP X pins σ Q) X.xe s := by
  refine wpAny_call (codeAny_mono (F X.A X.stack s H us vs Q _ hr I.env0 r h) fun r s' hq => ?_)
  cases r with
  | error e => exact hq.elim
  | ok fl => cases fl with
    | ret u => exact I.after hq
    | _ => exact False.elim hq
theorem op_inM (hm : Meth X.K C "__contains__" f) (F : FnM X.prog X.w X.K X.mg X.base k f sp) (hr : L2H.RoomH k X.A) : OpR X (compareOp .In) (rInO C sp false) := by
  intro pins s σ H x y v u Q I rx ry h
  obtain ⟨a, dx, fs, rfl, ea, q⟩ := h
  cases ry
  obtain ⟨od, J⟩ := inst_at I ea
  obtain ⟨m, hF⟩ := I.fr
  refine PySem.W.in_K hF I.ok.mod.kin J hm.at_ hm.fn (wpAny_mono (run_M (us := [.ref a, v]) (vs := [.ref a, x]) F hr I (.cons rfl (.cons rx .nil)) q) (fun v s' z => ?_) fun _ _ z => z)
  obtain ⟨w, H', I', rw', b, ew, hq⟩ := z
  subst ew
  cases rw'
  exact wpAny_truthy_bool ⟨.bl b, H', I', rfl, by cases b <;> exact hq⟩
end
end Lk
set_option Elab.async false
set_option linter.all false
set_option maxRecDepth 100000
namespace Lk
open PySem L2
/-! ### dicts by their pairs -/
theorem valV_none {κ : Type} [DecidableEq κ] {kvs : List (κ × V)} {k : κ} : valV kvs k = none ↔ k ∉ kvs.map (·.1) := by
  unfold valV
  rw [Option.map_eq_none_iff, List.find?_eq_none]
  constructor
  · intro h m
    obtain ⟨x, hx, e⟩ := List.mem_map.mp m
    exact h x hx (by simp [e])
  · intro h x hx e
    exact h (List.mem_map.mpr ⟨x, hx, of_decide_eq_true e⟩)
theorem valV_mem {κ : Type} [DecidableEq κ] {kvs : List (κ × V)} {k : κ} {v : V} (nd : (kvs.map (·.1)).Nodup) (h : (k, v) ∈ kvs) : valV kvs k = some v := by
  induction kvs with
  | nil => cases h
  | cons x r ih =>
    rw [List.map_cons, List.nodup_cons] at nd
    unfold valV
    rw [List.find?_cons]
    by_cases e : x.1 = k
    · rw [decide_eq_true e]
      rcases List.mem_cons.mp h with h | h
      · rw [← h]; rfl
      · exact absurd (List.mem_map.mpr ⟨_, h, e.symm⟩) nd.1
    · rw [decide_eq_false e]
      rcases List.mem_cons.mp h with h | h
      · exact absurd (by rw [← h]) e
      · exact ih nd.2 h
theorem valV_is {κ : Type} [DecidableEq κ] {kvs : List (κ × V)} {k : κ} : (valV kvs k).isSome = decide (k ∈ kvs.map (·.1)) := by
  cases e : valV kvs k with
  | none => rw [decide_eq_false (valV_none.mp e)]; rfl
  | some v =>
    rw [decide_eq_true]
    · rfl
    · by_cases m : k ∈ kvs.map (·.1)
      · exact m
      · rw [valV_none.mpr m] at e; cases e
theorem putK_new {κ : Type} [DecidableEq κ] {kvs : List (κ × V)} {k : κ} {v : V} (h : k ∉ kvs.map (·.1)) : putK kvs k v = kvs ++ [(k, v)] := by
  unfold putK
  rw [if_neg]
  intro e
  obtain ⟨x, hx, q⟩ := List.any_eq_true.mp e
  exact h (List.mem_map.mpr ⟨x, hx, of_decide_eq_true q⟩)
theorem putK_len {κ : Type} [DecidableEq κ] {kvs : List (κ × V)} {k : κ} {v : V} : (putK kvs k v).length ≤ kvs.length + 1 := by
  unfold putK
  split
  · simp
  · simp
/-! ### plans -/
abbrev Steps := List (Str × List Str)
/-- all steps, all files -/
abbrev stepsOf (S : Steps) : List Str := S.map (·.1)
abbrev filesOf (S : Steps) : List Str := S.flatMap (·.2)
/-- the dicts' pairs -/
def wK (S : Steps) (ts : List Addr) : List (Key × V) := (S.zip ts).map fun x => (.inr x.1.1, .ref x.2)
def rK (S : Steps) : List (Key × V) := S.flatMap fun s => s.2.map fun f => (.inr f, .str s.1)
def planFs (w wr ru le : Addr) : List (Str × V) := [("_writes", .ref w), ("_writer", .ref wr), ("_rules", .ref ru), ("_least", .ref le)]
theorem pf1 {w wr ru le : Addr} : (planFs w wr ru le).lookup ("_writes" : Str) = some (V.ref w) := rfl
theorem pf2 {w wr ru le : Addr} : (planFs w wr ru le).lookup ("_writer" : Str) = some (V.ref wr) := by
  unfold planFs; rw [List.lookup_cons, show (("_writer" : Str) == "_writes") = false by decide +kernel, List.lookup_cons, show (("_writer" : Str) == "_writer") = true by decide +kernel]
theorem pf3 {w wr ru le : Addr} : (planFs w wr ru le).lookup ("_rules" : Str) = some (V.ref ru) := by
  unfold planFs; rw [List.lookup_cons, show (("_rules" : Str) == "_writes") = false by decide +kernel, List.lookup_cons, show (("_rules" : Str) == "_writer") = false by decide +kernel, List.lookup_cons, show (("_rules" : Str) == "_rules") = true by decide +kernel]
theorem pf4 {w wr ru le : Addr} : (planFs w wr ru le).lookup ("_least" : Str) = some (V.ref le) := by
  unfold planFs; rw [List.lookup_cons, show (("_least" : Str) == "_writes") = false by decide +kernel, List.lookup_cons, show (("_least" : Str) == "_writer") = false by decide +kernel, List.lookup_cons, show (("_least" : Str) == "_rules") = false by decide +kernel, List.lookup_cons, show (("_least" : Str) == "_least") = true by decide +kernel]
theorem pfn {w wr ru le : Addr} {m : Str} (h : (["_writes", "_writer", "_rules", "_least"] : List Str).contains m = false) : (planFs w wr ru le).lookup m = none := by
  simp only [List.contains_cons, List.contains_nil, Bool.or_false, Bool.or_eq_false_iff] at h
  unfold planFs
  rw [List.lookup_cons, h.1, List.lookup_cons, h.2.1, List.lookup_cons, h.2.2.1, List.lookup_cons, h.2.2.2]
  rfl
/-- at a: a plan of the class at C with the steps S; its dicts -/
structure Plan (C : Addr) (H : Hp) (a w wr ru le : Addr) (S : Steps) : Prop where
  o : ∃ dx, H a = some (.ins C dx (planFs w wr ru le))
  W : ∃ ts : List Addr, H w = some (.dK (wK S ts)) ∧ ts.length = S.length ∧ ∀ (i : Nat) (t : Addr) (s : Str × List Str), ts[i]? = some t → S[i]? = some s → H t = some (.tup (s.2.map V.str))
  R : H wr = some (.dK (rK S))
  U : ∃ kvs, H ru = some (.dT kvs)
  L : ∃ kvs, H le = some (.dT kvs) ∧ kvs.length ≤ S.length
  n1 : w ≠ wr
  n2 : ru ≠ le
  ds : (stepsOf S).Nodup
  df : (filesOf S).Nodup
theorem keys_wK : ∀ {S : Steps} {ts : List Addr}, ts.length = S.length → (wK S ts).map (·.1) = (stepsOf S).map Sum.inr
  | [], [], _ => rfl
  | s :: S, t :: ts, h => by
    have := keys_wK (S := S) (ts := ts) (by simpa using h)
    unfold wK at this ⊢
    simp only [List.zip_cons_cons, List.map_cons, List.cons.injEq, true_and]
    exact this
theorem keys_rK {S : Steps} : (rK S).map (·.1) = (filesOf S).map Sum.inr := by
  unfold rK filesOf
  induction S with
  | nil => rfl
  | cons s S ih => simp only [List.flatMap_cons, List.map_append, ih, List.map_map]; rfl
theorem inr_mem {x : Str} {l : List Str} : (Sum.inr x : Key) ∈ l.map Sum.inr ↔ x ∈ l := by
  constructor
  · intro h; obtain ⟨y, hy, e⟩ := List.mem_map.mp h; cases e; exact hy
  · intro h; exact List.mem_map.mpr ⟨x, h, rfl⟩
theorem inr_nodup {l : List Str} (h : l.Nodup) : (l.map (Sum.inr : Str → Key)).Nodup := by
  rw [List.nodup_iff_pairwise_ne, List.pairwise_map]
  exact (List.nodup_iff_pairwise_ne.mp h).imp fun h e => h (Sum.inr.inj e)
theorem Plan.W_in {S : Steps} {ts : List Addr} {x : Str} (h : ts.length = S.length) : (valV (wK S ts) (.inr x)).isSome = decide (x ∈ stepsOf S) := by
  rw [valV_is, keys_wK h]
  exact decide_eq_decide.mpr inr_mem
theorem rK_in {S : Steps} {x : Str} : (valV (rK S) (.inr x)).isSome = decide (x ∈ filesOf S) := by
  rw [valV_is, keys_rK]
  exact decide_eq_decide.mpr inr_mem
theorem rK_at {S : Steps} (nd : (filesOf S).Nodup) {s : Str × List Str} (hs : s ∈ S) {f : Str} (hf : f ∈ s.2) : valV (rK S) (.inr f) = some (.str s.1) :=
  valV_mem (by rw [keys_rK]; exact inr_nodup nd) (by unfold rK; rw [List.mem_flatMap]; exact ⟨s, hs, List.mem_map.mpr ⟨f, hf, rfl⟩⟩)
theorem wK_at {S : Steps} {ts : List Addr} (h : ts.length = S.length) (nd : (stepsOf S).Nodup) {i : Nat} {s : Str × List Str} {t : Addr} (hs : S[i]? = some s) (ht : ts[i]? = some t) : valV (wK S ts) (.inr s.1) = some (.ref t) :=
  valV_mem (by rw [keys_wK h]; exact inr_nodup nd) (by
    unfold wK
    refine List.mem_map.mpr ⟨(s, t), List.mem_of_getElem? (i := i) ?_, rfl⟩
    rw [List.getElem?_zip_eq_some]
    exact ⟨hs, ht⟩)
theorem wK_snoc {S : Steps} {ts : List Addr} {s : Str × List Str} {t : Addr} (h : ts.length = S.length) : wK (S ++ [s]) (ts ++ [t]) = wK S ts ++ [(.inr s.1, .ref t)] := by
  unfold wK
  rw [List.zip_append h.symm, List.map_append]
  rfl
theorem rK_snoc {S : Steps} {s : Str × List Str} : rK (S ++ [s]) = rK S ++ s.2.map fun f => (.inr f, .str s.1) := by
  unfold rK
  rw [List.flatMap_append]
  simp
/-- what is changed is a list -/
def IsLst (H : Hp) (a : Addr) : Prop := ∃ xs, H a = some (.lst xs)
theorem Plan.kp {C : Addr} {H H' : Hp} {a w wr ru le : Addr} {S : Steps} {ms : List Addr} (h : Plan C H a w wr ru le S) (k : Kp ms H H') (hm : ∀ m ∈ ms, IsLst H m) : Plan C H' a w wr ru le S := by
  have keep : ∀ {b : Addr} {o : HO}, H b = some o → (∀ xs, o ≠ .lst xs) → H' b = some o := fun {b o} e ne => by
    refine k.at e fun hb => ?_
    obtain ⟨xs, e2⟩ := hm b hb
    rw [e] at e2
    exact ne xs (Option.some.inj e2)
  obtain ⟨dx, ho⟩ := h.o
  obtain ⟨ts, h1, h2, h3⟩ := h.W
  obtain ⟨ku, hu⟩ := h.U
  obtain ⟨kl, hl, hz⟩ := h.L
  exact ⟨⟨dx, keep ho (by intro xs z; cases z)⟩, ⟨ts, keep h1 (by intro xs z; cases z), h2, fun i t s e1 e2 => keep (h3 i t s e1 e2) (by intro xs z; cases z)⟩, keep h.R (by intro xs z; cases z),
    ⟨ku, keep hu (by intro xs z; cases z)⟩, ⟨kl, keep hl (by intro xs z; cases z), hz⟩, h.n1, h.n2, h.ds, h.df⟩
/-! ### what a raise leaves -/
theorem raise1 {C : Addr} {f : Str} {H : Hp} {v : V} {Q : XK} (h : ∀ d H', H d = none → Kp [] H H' → H' d = some (.xd [(f, v)]) → Q (.ref C) (some d) H') :
    [v].length ≤ 1000 ∧ ∀ a, H a = none → spI1 C f (.ref a :: ([v] ++ [])) (upd H a (exo a C none))
      (fun w H2 => w = .non ∧ ∃ (d : Addr) (fs : List (Str × V)), H2 a = some (exo a C (some d)) ∧ H2 d = some (exd d fs) ∧ H d = none ∧ Q (.ref C) (some d) (upd (del H2 a) d (.xd fs))) (fun _ _ _ => False) := by
  refine ⟨by simp, fun a ha => ⟨a, v, rfl, upd_same, fun d H' e1 e2 k hd => ?_⟩⟩
  have hda : d ≠ a := fun z => by rw [z, upd_same] at hd; cases hd
  have hd' : H d = none := by rwa [upd_ne hda] at hd
  refine ⟨rfl, d, _, e1, e2, hd', h d _ hd' (fun b o e => .inl ⟨by simp, ?_⟩) upd_same⟩
  have hba : b ≠ a := fun z => by rw [z, ha] at e; cases e
  have hbd : b ≠ d := fun z => by rw [z, hd'] at e; cases e
  rw [upd_ne hbd, del_ne hba]
  exact k.at (by rw [upd_ne hba]; exact e) (by simpa using hba)
end Lk
namespace Lk
open PySem L2
/-! ### names again -/
theorem Nm.head {x : Str} (h : Nm x) : ∃ c, isLet c = true ∧ atI x.cps.toList 0 = some c := by
  obtain ⟨c, r, e, l, _, _⟩ := h
  obtain ⟨d, h1, h2⟩ := atS (z := x) (i := 0) (by omega) (by rw [len_ch, e, List.length_cons]; omega)
  rw [e] at h1
  cases h1
  exact ⟨c, l, h2⟩
theorem Nm.sign {x : Str} (h : Nm x) {i c : Nat} (hc : (ch x)[i]? = some c) : isAl c = true := by
  obtain ⟨a, r, e, l, al, _⟩ := h
  rw [e] at hc
  cases i with
  | zero => cases hc; exact al_of_let l
  | succ i => exact al c (List.mem_of_getElem? hc)
theorem isLet_mem {c : Nat} (h : isLet c = true) : c ∈ lets := by
  unfold isLet at h
  have h1 : 97 ≤ c ∧ c ≤ 122 := by simpa using h
  have : c ∈ (List.range 123).drop 97 := by
    rw [List.range_eq_range', List.drop_range']
    rw [List.mem_range'_1]; omega
  rw [show (List.range 123).drop 97 = lets by decide +kernel] at this
  exact this
theorem let_in {c : Nat} (h : isLet c = true) : c ∈ (("abcdefghijklmnopqrstuvwxyz" : Str)).cps.toList := by
  show c ∈ ch _
  rw [ch_lets]; exact isLet_mem h
theorem al_in {c : Nat} (h : isAl c = true) : c ∈ (("abcdefghijklmnopqrstuvwxyz0123456789" : Str)).cps.toList := by
  show c ∈ ch _
  rw [show ch ("abcdefghijklmnopqrstuvwxyz0123456789" : Str) = als by decide +kernel]
  unfold isAl at h
  rcases Bool.or_eq_true_iff.mp h with q | q
  · exact List.mem_append.mpr (.inl (isLet_mem q))
  · have h1 : 48 ≤ c ∧ c ≤ 57 := by simpa using q
    refine List.mem_append.mpr (.inr ?_)
    have : c = 48 ∨ c = 49 ∨ c = 50 ∨ c = 51 ∨ c = 52 ∨ c = 53 ∨ c = 54 ∨ c = 55 ∨ c = 56 ∨ c = 57 := by omega
    simpa using this
theorem keysV_wK {S : Steps} {ts : List Addr} (h : ts.length = S.length) : ((wK S ts).map fun kv => kV kv.1) = (stepsOf S).map V.str := by
  rw [show ((wK S ts).map fun kv => kV kv.1) = ((wK S ts).map (·.1)).map kV by rw [List.map_map]; rfl, keys_wK h, List.map_map]; rfl
theorem keysV_rK {S : Steps} : ((rK S).map fun kv => kV kv.1) = (filesOf S).map V.str := by
  rw [show ((rK S).map fun kv => kV kv.1) = ((rK S).map (·.1)).map kV by rw [List.map_map]; rfl, keys_rK, List.map_map]; rfl
/-- whether a value is a step's name -/
def inSteps (S : Steps) : V → Bool
  | .str x => decide (x ∈ stepsOf S)
  | _ => false
def isStr : V → Bool
  | .str _ => true
  | _ => false
end Lk
namespace Lk
open PySem L2
/-- the first name at fault when a step x with the files fs is to be defined -/
def dupIn (F : List Str) : List Str → List Str → Option Str
  | _, [] => none
  | pre, f :: r => if f ∈ F ∨ f ∈ pre then some f else dupIn F (pre ++ [f]) r
def taken (S : Steps) (x : Str) (fs : List Str) : Option Str := if x ∈ stepsOf S then some x else dupIn (filesOf S) [] fs
end Lk
namespace Lk
open PySem L2
theorem inV_str {f : Str} {l : List Str} : inV (.str f) (l.map V.str) = decide (f ∈ l) := by
  unfold inV
  induction l with
  | nil => simp
  | cons a l ih =>
    rw [List.map_cons, List.any_cons, ih]
    show (decide (a = f) || _) = _
    by_cases e : a = f
    · subst e; simp
    · simp [e, Ne.symm e]
theorem flat_strs {l : List Str} : (l.map V.str).all flatV = true := by
  rw [List.all_eq_true]
  intro v hv
  obtain ⟨x, _, rfl⟩ := List.mem_map.mp hv
  rfl
theorem dupIn_none {F : List Str} : ∀ {fs pre : List Str}, (∀ (i : Nat) (f : Str), fs[i]? = some f → f ∉ F ∧ f ∉ pre ++ fs.take i) → dupIn F pre fs = none
  | [], _, _ => rfl
  | f :: r, pre, h => by
    have h0 := h 0 f rfl
    unfold dupIn
    rw [if_neg (fun z => z.elim h0.1 fun z => h0.2 (by simpa using z))]
    refine dupIn_none fun i g hg => ?_
    have := h (i + 1) g (by simpa using hg)
    rw [List.take_succ_cons] at this
    exact ⟨this.1, by simpa using this.2⟩
theorem dupIn_some {F : List Str} {g : Str} : ∀ {fs pre : List Str} {k : Nat}, (∀ (i : Nat) (f : Str), i < k → fs[i]? = some f → f ∉ F ∧ f ∉ pre ++ fs.take i) → fs[k]? = some g → (g ∈ F ∨ g ∈ pre ++ fs.take k) → dupIn F pre fs = some g
  | [], _, _, _, h, _ => by cases h
  | f :: r, pre, 0, _, h, hg => by
    have e : f = g := by simpa using h
    subst e
    unfold dupIn
    rw [if_pos (hg.imp_right fun z => by simpa using z)]
  | f :: r, pre, k + 1, hk, h, hg => by
    have h0 := hk 0 f (by omega) rfl
    unfold dupIn
    rw [if_neg (fun z => z.elim h0.1 fun z => h0.2 (by simpa using z))]
    refine dupIn_some (k := k) (fun i e hi he => ?_) (by simpa using h) (by simpa using hg)
    have := hk (i + 1) e (by omega) (by simpa using he)
    rw [List.take_succ_cons] at this
    exact ⟨this.1, by simpa using this.2⟩
theorem stepsOf_snoc {S : Steps} {s : Str × List Str} : stepsOf (S ++ [s]) = stepsOf S ++ [s.1] := by unfold stepsOf; simp
theorem filesOf_snoc {S : Steps} {s : Str × List Str} : filesOf (S ++ [s]) = filesOf S ++ s.2 := by unfold filesOf; simp
theorem nodup_snoc {α : Type} {l : List α} {x : α} (h : l.Nodup) (hx : x ∉ l) : (l ++ [x]).Nodup := by
  rw [List.nodup_append]; exact ⟨h, by simp, fun a ha b hb e => hx (by rw [List.mem_singleton.mp hb] at e; rw [← e]; exact ha)⟩
theorem nodup_more {F fs : List Str} (h : F.Nodup) (hf : ∀ (i : Nat) (f : Str), fs[i]? = some f → f ∉ F ∧ f ∉ fs.take i) : (F ++ fs).Nodup := by
  rw [List.nodup_append]
  refine ⟨h, nodup_of_get fun i j x hi hj => ?_, fun a ha b hb e => ?_⟩
  · rcases Nat.lt_trichotomy i j with q | q | q
    · exact absurd (List.mem_of_getElem? (i := i) (by rw [List.getElem?_take_of_lt q]; exact hi)) (hf j x hj).2
    · exact q
    · exact absurd (List.mem_of_getElem? (i := j) (by rw [List.getElem?_take_of_lt q]; exact hj)) (hf i x hi).2
  · subst e
    obtain ⟨i, hi⟩ := List.getElem?_of_mem hb
    exact (hf i a hi).1 ha
/-- behind a definition -/
theorem Plan.more {C : Addr} {H H' : Hp} {a w wr ru le p : Addr} {S : Steps} {x : Str} {fs : List Str} {ts : List Addr} {kvs : List (List Key × V)} (h : Plan C H a w wr ru le S) (k : Kp [w, wr, le] H H') (hw : H w = some (.dK (wK S ts))) (hl : ts.length = S.length)
    (hts : ∀ (i : Nat) (t : Addr) (s : Str × List Str), ts[i]? = some t → S[i]? = some s → H t = some (.tup (s.2.map V.str))) (hp : H p = some (.tup (fs.map V.str)))
    (hW : H' w = some (.dK (wK S ts ++ [(.inr x, .ref p)]))) (hR : H' wr = some (.dK (rK S ++ fs.map fun f => (.inr f, .str x)))) (hL : H' le = some (.dT kvs)) (hz : kvs.length ≤ S.length + 1)
    (hx : x ∉ stepsOf S) (hf : ∀ (i : Nat) (f : Str), fs[i]? = some f → f ∉ filesOf S ∧ f ∉ fs.take i) : Plan C H' a w wr ru le (S ++ [(x, fs)]) := by
  obtain ⟨dx, ho⟩ := h.o
  obtain ⟨ku, hu⟩ := h.U
  obtain ⟨kl, hle, _⟩ := h.L
  have keep : ∀ {b : Addr} {o : HO}, H b = some o → (∀ kvs, o ≠ .dK kvs) → b ≠ le → H' b = some o := fun {b o} e n1 n2 => k.at e (by
    intro z
    simp only [List.mem_cons, List.not_mem_nil, or_false] at z
    rcases z with z | z | z
    · rw [z, hw] at e; exact n1 _ (Option.some.inj e).symm
    · rw [z, h.R] at e; exact n1 _ (Option.some.inj e).symm
    · exact n2 z)
  have tupNe : ∀ {b : Addr} {xs : List V}, H b = some (.tup xs) → b ≠ le := fun {b xs} e => ne_of e hle (by intro z; cases z)
  refine ⟨⟨dx, keep ho (by intro _ z; cases z) (ne_of ho hle (by intro z; cases z))⟩, ⟨ts ++ [p], by rw [wK_snoc hl]; exact hW, by simp [hl], fun i t s e1 e2 => ?_⟩, by rw [rK_snoc]; exact hR, ⟨ku, keep hu (by intro _ z; cases z) h.n2⟩, ⟨kvs, hL, by simpa using hz⟩, h.n1, h.n2, ?_, ?_⟩
  · rw [List.getElem?_append] at e1 e2
    by_cases q : i < S.length
    · rw [if_pos (by rw [hl]; exact q)] at e1
      rw [if_pos q] at e2
      exact keep (hts i t s e1 e2) (by intro _ z; cases z) (tupNe (hts i t s e1 e2))
    · rw [if_neg (by rw [hl]; exact q)] at e1
      rw [if_neg q] at e2
      rw [hl] at e1
      cases n : i - S.length with
      | zero =>
        rw [n] at e1 e2
        cases e1; cases e2
        exact keep hp (by intro _ z; cases z) (tupNe hp)
      | succ m => rw [n] at e1; simp at e1
  · rw [stepsOf_snoc]; exact nodup_snoc h.ds hx
  · rw [filesOf_snoc]; exact nodup_more h.df hf
end Lk
namespace Lk
open PySem L2
/-- more values than places: two are alike -/
theorem pigeon {α : Type} [DecidableEq α] {f : Nat → α} : ∀ (n : Nat) (l : List α), (∀ i j, i < n → j < n → f i = f j → i = j) → (∀ i, i < n → f i ∈ l) → n ≤ l.length
  | 0, _, _, _ => Nat.zero_le _
  | n + 1, l, inj, h => by
    have hm := h n (Nat.lt_succ_self n)
    have := pigeon n (l.erase (f n)) (fun i j hi hj => inj i j (Nat.lt_succ_of_lt hi) (Nat.lt_succ_of_lt hj)) (fun i hi => (List.mem_erase_of_ne (fun e => by
      have := inj i n (Nat.lt_succ_of_lt hi) (Nat.lt_succ_self n) e; omega)).mpr (h i (Nat.lt_succ_of_lt hi)))
    rw [List.length_erase_of_mem hm] at this
    have : 0 < l.length := List.length_pos_of_mem hm
    omega
/-- the i-th candidate: a letter in front of the word's end -/
def cand (st : Nat) (w : Str) (i : Nat) : Str := (⟨#[lets.getD ((st + i) % 26) 0]⟩ : Str) ++ cutS w (some 1) none
theorem lets_nodup : lets.Nodup := by decide +kernel
theorem cand_nm {st : Nat} {w : Str} (h : Nm w) (i : Nat) : Nm (cand st w i) := by
  obtain ⟨c, r, e, _, al, z⟩ := h
  have lt : (st + i) % 26 < lets.length := Nat.mod_lt _ (by decide)
  refine ⟨lets.getD ((st + i) % 26) 0, r, ?_, ?_, al, z⟩
  · unfold cand
    rw [ch_append, ch_one, ch_from w (k := 1) (by omega), e]; rfl
  · have q : ∀ x ∈ lets, isLet x = true := by decide +kernel
    rw [List.getD_eq_getElem?_getD, List.getElem?_eq_getElem lt]
    exact q _ (List.getElem_mem lt)
theorem cand_inj {st : Nat} {w : Str} {i j : Nat} (hi : i < 26) (hj : j < 26) (e : cand st w i = cand st w j) : i = j := by
  have a : (st + i) % 26 < lets.length := Nat.mod_lt _ (by decide)
  have b : (st + j) % 26 < lets.length := Nat.mod_lt _ (by decide)
  have := congrArg ch e
  unfold cand at this
  rw [ch_append, ch_append, ch_one, ch_one, List.getD_eq_getElem?_getD, List.getD_eq_getElem?_getD, List.getElem?_eq_getElem a, List.getElem?_eq_getElem b] at this
  have h : lets[(st + i) % 26] = lets[(st + j) % 26] := (List.cons.inj this).1
  have := get_inj lets_nodup (List.getElem?_eq_getElem a) (by rw [List.getElem?_eq_getElem b, h])
  omega
theorem cand_free {st : Nat} {w : Str} {ss : List Str} (hz : ss.length ≤ 20) (h : ∀ i, i < 26 → cand st w i ∈ ss) : False := by
  have := pigeon (f := cand st w) 26 ss (fun i j hi hj => cand_inj hi hj) h
  omega
end Lk
namespace Lk
open PySem L2
theorem step_eq : ∀ {S : Steps} {s t : Str × List Str}, (stepsOf S).Nodup → s ∈ S → t ∈ S → s.1 = t.1 → s = t
  | [], _, _, _, h, _, _ => nomatch h
  | u :: S, s, t, nd, hs, ht, e => by
    have n1 := (List.nodup_cons.mp (show (u.1 :: stepsOf S).Nodup from nd)).1
    have n2 := (List.nodup_cons.mp (show (u.1 :: stepsOf S).Nodup from nd)).2
    rcases List.mem_cons.mp hs with h1 | h1
    · rcases List.mem_cons.mp ht with h2 | h2
      · rw [h1, h2]
      · exact absurd (List.mem_map.mpr ⟨t, h2, by rw [← e, h1]⟩) n1
    · rcases List.mem_cons.mp ht with h2 | h2
      · exact absurd (List.mem_map.mpr ⟨s, h1, by rw [e, h2]⟩) n1
      · exact step_eq n2 h1 h2 e
theorem file_eq : ∀ {S : Steps} {s t : Str × List Str} {f : Str}, (filesOf S).Nodup → s ∈ S → t ∈ S → f ∈ s.2 → f ∈ t.2 → s = t
  | [], _, _, _, _, h, _, _, _ => nomatch h
  | u :: S, s, t, f, nd, hs, ht, fs, ft => by
    have n := List.nodup_append.mp (show (u.2 ++ filesOf S).Nodup from nd)
    rcases List.mem_cons.mp hs with h1 | h1
    · rcases List.mem_cons.mp ht with h2 | h2
      · rw [h1, h2]
      · exact absurd rfl (n.2.2 f (by rw [← h1]; exact fs) f (List.mem_flatMap.mpr ⟨t, h2, ft⟩))
    · rcases List.mem_cons.mp ht with h2 | h2
      · exact absurd rfl (n.2.2 f (by rw [← h2]; exact ft) f (List.mem_flatMap.mpr ⟨s, h1, fs⟩))
      · exact file_eq n.2.1 h1 h2 fs ft
theorem rows_flat {S : Steps} : (S.map (·.2)).flatten = filesOf S := by unfold filesOf; rw [List.flatMap_def]
end Lk
namespace Lk
open PySem L2
theorem Plan.stay {C : Addr} {H H' : Hp} {a w wr ru le b : Addr} {S : Steps} {o : HO} (h : Plan C H a w wr ru le S) (k : Kp [w, wr, le] H H') (e : H b = some o) (n1 : ∀ kvs, o ≠ .dK kvs) (n2 : ∀ kvs, o ≠ .dT kvs) : H' b = some o := by
  obtain ⟨ts, hw, _⟩ := h.W
  obtain ⟨kl, hl, _⟩ := h.L
  refine k.at e fun z => ?_
  simp only [List.mem_cons, List.not_mem_nil, or_false] at z
  rcases z with z | z | z
  · rw [z, hw] at e; exact n1 _ (Option.some.inj e).symm
  · rw [z, h.R] at e; exact n1 _ (Option.some.inj e).symm
  · rw [z, hl] at e; exact n2 _ (Option.some.inj e).symm
theorem Plan.rows {C : Addr} {H H' : Hp} {a w wr ru le b : Addr} {S : Steps} {rows : List (List Str)} {ms : List Addr} (h : Plan C H a w wr ru le S) (k : Kp [w, wr, le] H H') (hr : Rows H b rows ms) : Rows H' b rows ms := by
  obtain ⟨ps, e, li⟩ := hr
  refine ⟨ps, h.stay k e (by intro _ z; cases z) (by intro _ z; cases z), li.1, fun i p x h1 h2 => ?_⟩
  obtain ⟨n, q⟩ := li.2 i p x h1 h2
  have q' : H p = some (.lst (x.map V.str)) := q
  exact ⟨n, h.stay k q' (by intro _ z; cases z) (by intro _ z; cases z)⟩
theorem zip_steps {ss : List Str} {rows : List (List Str)} (h : rows.length = ss.length) (i : Nat) : stepsOf ((ss.zip rows).take i) = ss.take i := by
  unfold stepsOf
  rw [List.map_take, show (ss.zip rows).map (·.1) = ss from List.map_fst_zip (by omega)]
theorem zip_rows {ss : List Str} {rows : List (List Str)} (h : rows.length = ss.length) (i : Nat) : ((ss.zip rows).take i).map (·.2) = rows.take i := by
  rw [List.map_take, show (ss.zip rows).map (·.2) = rows from List.map_snd_zip (by omega)]
theorem zip_files {ss : List Str} {rows : List (List Str)} (h : rows.length = ss.length) (i : Nat) : filesOf ((ss.zip rows).take i) = (rows.take i).flatten := by
  rw [← rows_flat, zip_rows h]
theorem zip_snoc {ss : List Str} {rows : List (List Str)} {i : Nat} {x : Str} {r : List Str} (hx : ss[i]? = some x) (hr : rows[i]? = some r) : (ss.zip rows).take (i + 1) = (ss.zip rows).take i ++ [(x, r)] := by
  rw [List.take_add_one, (List.getElem?_zip_eq_some (l₁ := ss) (l₂ := rows) (z := (x, r))).mpr ⟨hx, hr⟩]; rfl
theorem flat_take {rows : List (List Str)} {i : Nat} : ((rows.take i).flatten).Sublist rows.flatten := by
  have := congrArg List.flatten (List.take_append_drop i rows)
  rw [List.flatten_append] at this
  rw [← this]
  exact List.sublist_append_left _ _
/-- the next definition is free -/
theorem free_next {ss : List Str} {rows : List (List Str)} {i : Nat} {x : Str} {r : List Str} (h : rows.length = ss.length) (nd : ss.Nodup) (nf : rows.flatten.Nodup) (hx : ss[i]? = some x) (hr : rows[i]? = some r) : taken ((ss.zip rows).take i) x r = none := by
  unfold taken
  rw [zip_steps h, zip_files h, if_neg]
  · refine dupIn_none fun j f hf => ?_
    have s : ((rows.take (i + 1)).flatten) = (rows.take i).flatten ++ r := by rw [List.take_add_one, hr]; simp
    have n := nf.sublist (flat_take (rows := rows) (i := i + 1))
    rw [s, List.nodup_append] at n
    refine ⟨fun z => n.2.2 f z f (List.mem_of_getElem? hf) rfl, fun z => ?_⟩
    obtain ⟨m, hm⟩ := List.getElem?_of_mem (show f ∈ r.take j by simpa using z)
    have lm := lt_of_get hm
    rw [List.length_take] at lm
    rw [List.getElem?_take_of_lt (by omega)] at hm
    have := get_inj n.2.1 hm hf
    omega
  · intro z
    obtain ⟨m, hm⟩ := List.getElem?_of_mem z
    have lm := lt_of_get hm
    rw [List.length_take] at lm
    rw [List.getElem?_take_of_lt (by omega)] at hm
    have := get_inj nd hm hx
    omega
theorem taken_step {S : Steps} {x : Str} {fs : List Str} (h : x ∈ stepsOf S) : taken S x fs = some x := by unfold taken; rw [if_pos h]
theorem taken_file0 {S : Steps} {x f : Str} {r : List Str} (h : x ∉ stepsOf S) (hf : f ∈ filesOf S) : taken S x (f :: r) = some f := by unfold taken dupIn; rw [if_neg h, if_pos (.inl hf)]
theorem taken_file1 {S : Steps} {x g f : Str} {r : List Str} (h : x ∉ stepsOf S) (hg : g ∉ filesOf S) (hf : f ∈ filesOf S ∨ f = g) : taken S x (g :: f :: r) = some f := by
  unfold taken dupIn
  rw [if_neg h, if_neg (by simp [hg])]
  unfold dupIn
  rw [if_pos (hf.imp_right fun e => by simp [e])]
end Lk
set_option Elab.async false
set_option linter.all false
set_option maxRecDepth 100000
namespace Lk
open PySem L2
/-- what the written part says of an exception class of the package: under LookError, under ValueError -/
abbrev lineOf (L : Addr) : List Value := [.ref L, .type "ValueError", .type "Exception", .type "BaseException", .type "object"]
structure Cl (K : PySem.W.Frag) (L C : Addr) : Prop where
  cls : ∃ cd, PySem.W.clsIn K C = some cd ∧ cd.mro = .ref C :: lineOf L
  tyC : PySem.W.typeIn K (.ref C) = some (.type "type")
theorem cl_of {K : PySem.W.Frag} {L C : Addr} {nm q N bs sn sub ab col dd k0 k1 k2 k3 k5}
    (h : K.lookup C = some (excClassObj nm q C N bs (lineOf L) true sn sub ab col dd k0 k1 k2 k3 k5 "ValueError.__new__")) (t : PySem.W.typeIn K (.ref C) = some (.type "type")) : Cl K L C := by
  refine ⟨⟨_, by unfold PySem.W.clsIn; rw [h] <;> rfl, rfl⟩, t⟩
theorem refs_line (L : Addr) : PySem.HandSPX.refsVE (lineOf L) = true := by
  show PySem.HandSPX.refsVE [.type "ValueError", .type "Exception", .type "BaseException", .type "object"] = true
  decide +kernel
theorem Cl.sub {K : PySem.W.Frag} {L C : Addr} (c : Cl K L C) (v : Value) : PySem.W.subIn K (.ref C) v = some ((Value.ref C :: lineOf L).contains v) := by
  obtain ⟨cd, h, m⟩ := c.cls
  show PySem.W.mroIn K C v = _
  unfold PySem.W.mroIn
  rw [h, Option.bind_some, m]
  rfl
theorem Cl.kit {K : PySem.W.Frag} {L C D : Addr} (c : Cl K L C) (d : Cl K L D) (ne : D ≠ L) : PySem.W.kitOne K (.ref C) (.ref D) = some (decide (C = D)) := by
  unfold PySem.W.kitOne
  by_cases e : C = D
  · subst e
    rw [if_pos (by simp), decide_eq_true rfl]
  · rw [if_neg (by simpa using e), decide_eq_false e]
    obtain ⟨cd, h, _⟩ := d.cls
    show (if ((PySem.W.clsIn K D).isSome && PySem.W.typeIn K (.ref D) == some (.type "type")) = true then PySem.W.subIn K (.ref C) (.ref D) else none) = _
    rw [if_pos (by rw [h, d.tyC]; rfl), c.sub]
    congr 1
    simp [lineOf, Ne.symm e, ne, fun z => e (Eq.symm z)]
theorem Cl.kitL {K : PySem.W.Frag} {L C : Addr} (c : Cl K L C) (hL : PySem.W.isClsIn K L = true) (tL : PySem.W.typeIn K (.ref L) = some (.type "type")) : PySem.W.kitOne K (.ref C) (.ref L) = some true := by
  unfold PySem.W.kitOne
  by_cases e : C = L
  · subst e; rw [if_pos (by simp)]
  · rw [if_neg (by simpa using e)]
    have hL : (PySem.W.clsIn K L).isSome = true := hL
    show (if ((PySem.W.clsIn K L).isSome && PySem.W.typeIn K (.ref L) == some (.type "type")) = true then PySem.W.subIn K (.ref C) (.ref L) else none) = _
    rw [if_pos (by rw [hL, tL]; rfl), c.sub]
    congr 1
    simp [lineOf]
theorem Cl.kitV {K : PySem.W.Frag} {L C : Addr} (c : Cl K L C) : PySem.W.kitOne K (.ref C) (.type "ValueError") = some true := by
  unfold PySem.W.kitOne
  rw [if_neg (by simp)]
  show (if PySem.W.kitMeta "ValueError" = true then PySem.W.subIn K (.ref C) (.type "ValueError") else none) = _
  rw [if_pos (by decide +kernel), c.sub]
  simp [lineOf]
theorem getD_inj {l : List Addr} (h : l.Nodup) {i j : Nat} (hi : i < l.length) (hj : j < l.length) : (l.getD i 0 = l.getD j 0) ↔ i = j := by
  rw [List.getD_eq_getElem?_getD, List.getD_eq_getElem?_getD, List.getElem?_eq_getElem hi, List.getElem?_eq_getElem hj]
  constructor
  · intro e
    exact get_inj h (List.getElem?_eq_getElem hi) (by rw [List.getElem?_eq_getElem hj]; exact congrArg some e.symm)
  · intro e; subst e; rfl
end Lk
namespace Lk
open PySem L2
theorem getD_mem {α : Type} {l : List α} {x : α} {i : Nat} (h : i < l.length) : l.getD i x ∈ l := by
  rw [List.getD_eq_getElem?_getD, List.getElem?_eq_getElem h]
  exact List.getElem_mem h
def sp_end (K : PySem.W.Frag) : Sp := fun vs H Q _ => ∃ (a : Addr) (ns : List Int), vs = [.ref a] ∧ SqL K H a (ns.map V.int) ∧ ns.length ≤ 63 ∧ ∀ H' : Hp, Kp [] H H' → Q (.bl true) H'
end Lk
namespace Lk
open PySem L2
/-- what «except S» takes: S itself -/
theorem exm_own {K : PySem.W.Frag} {S : Addr} (hB : PySem.W.subIn K (.ref S) (.type "BaseException") = some true) (hc : PySem.W.isClsIn K S = true) (ht : PySem.W.typeIn K (.ref S) = some (.type "type")) (hs : PySem.W.subIn K (.ref S) (.ref S) = some true) :
    PySem.W.exmOne K (.ref S) (.ref S) = some true := by
  have c : (PySem.W.clsIn K S).isSome = true := hc
  unfold PySem.W.exmOne PySem.W.kitCls
  simp [hB, ht, hs, c]
end Lk
set_option Elab.async false
set_option linter.all false
set_option maxRecDepth 100000
set_option maxHeartbeats 8000000
namespace Lk
open PySem L2
def top (i : Nat) : Stmt := PySem.Challenge.pw_lookrows_k03_steps_and_files.main.body.getD i (.Pass ⟨0, 0, 0, 0⟩)
abbrev s_is_name : Stmt := top 15
abbrev N_is_name : List Str := ["x", "character"]
abbrev ps_is_name : List Str := ["x"]
theorem sc_is_name : FnScope N_is_name ps_is_name (defScope s_is_name) := ⟨rfl, rfl, rfl, by decide +kernel, rfl, by decide +kernel, by decide +kernel⟩
abbrev s_Plan___init__ : Stmt := inClass (top 21) 0
abbrev N_Plan___init__ : List Str := ["self"]
abbrev ps_Plan___init__ : List Str := ["self"]
theorem sc_Plan___init__ : FnScope N_Plan___init__ ps_Plan___init__ (defScope s_Plan___init__) := ⟨rfl, rfl, rfl, by decide +kernel, rfl, by decide +kernel, by decide +kernel⟩
abbrev s_Plan___len__ : Stmt := inClass (top 21) 8
abbrev N_Plan___len__ : List Str := ["self"]
abbrev ps_Plan___len__ : List Str := ["self"]
theorem sc_Plan___len__ : FnScope N_Plan___len__ ps_Plan___len__ (defScope s_Plan___len__) := ⟨rfl, rfl, rfl, by decide +kernel, rfl, by decide +kernel, by decide +kernel⟩
abbrev s_Plan___contains__ : Stmt := inClass (top 21) 9
abbrev N_Plan___contains__ : List Str := ["self", "x"]
abbrev ps_Plan___contains__ : List Str := ["self", "x"]
theorem sc_Plan___contains__ : FnScope N_Plan___contains__ ps_Plan___contains__ (defScope s_Plan___contains__) := ⟨rfl, rfl, rfl, by decide +kernel, rfl, by decide +kernel, by decide +kernel⟩
abbrev s_Plan_steps : Stmt := inClass (top 21) 2
abbrev N_Plan_steps : List Str := ["self"]
abbrev ps_Plan_steps : List Str := ["self"]
theorem sc_Plan_steps : FnScope N_Plan_steps ps_Plan_steps (defScope s_Plan_steps) := ⟨rfl, rfl, rfl, by decide +kernel, rfl, by decide +kernel, by decide +kernel⟩
abbrev s_Plan_files : Stmt := inClass (top 21) 3
abbrev N_Plan_files : List Str := ["self"]
abbrev ps_Plan_files : List Str := ["self"]
theorem sc_Plan_files : FnScope N_Plan_files ps_Plan_files (defScope s_Plan_files) := ⟨rfl, rfl, rfl, by decide +kernel, rfl, by decide +kernel, by decide +kernel⟩
abbrev s_refuse_missing : Stmt := top 24
abbrev N_refuse_missing : List Str := ["plan", "step"]
abbrev ps_refuse_missing : List Str := ["plan", "step"]
theorem sc_refuse_missing : FnScope N_refuse_missing ps_refuse_missing (defScope s_refuse_missing) := ⟨rfl, rfl, rfl, by decide +kernel, rfl, by decide +kernel, by decide +kernel⟩
abbrev s_Plan_step_of : Stmt := inClass (top 21) 4
abbrev N_Plan_step_of : List Str := ["self", "file"]
abbrev ps_Plan_step_of : List Str := ["self", "file"]
theorem sc_Plan_step_of : FnScope N_Plan_step_of ps_Plan_step_of (defScope s_Plan_step_of) := ⟨rfl, rfl, rfl, by decide +kernel, rfl, by decide +kernel, by decide +kernel⟩
abbrev s_Plan_files_of : Stmt := inClass (top 21) 5
abbrev N_Plan_files_of : List Str := ["self", "step"]
abbrev ps_Plan_files_of : List Str := ["self", "step"]
theorem sc_Plan_files_of : FnScope N_Plan_files_of ps_Plan_files_of (defScope s_Plan_files_of) := ⟨rfl, rfl, rfl, by decide +kernel, rfl, by decide +kernel, by decide +kernel⟩
abbrev s_Plan_define : Stmt := inClass (top 21) 1
abbrev N_Plan_define : List Str := ["self", "step", "files", "name", "place", "file"]
abbrev ps_Plan_define : List Str := ["self", "step", "files"]
theorem sc_Plan_define : FnScope N_Plan_define ps_Plan_define (defScope s_Plan_define) := ⟨rfl, rfl, rfl, by decide +kernel, rfl, by decide +kernel, by decide +kernel⟩
abbrev s__law_cell : Stmt := top 29
abbrev N__law_cell : List Str := ["_law_script", "_law_k"]
abbrev ps__law_cell : List Str := ["_law_script", "_law_k"]
theorem sc__law_cell : FnScope N__law_cell ps__law_cell (defScope s__law_cell) := ⟨rfl, rfl, rfl, by decide +kernel, rfl, by decide +kernel, by decide +kernel⟩
abbrev s__law_pool : Stmt := top 30
abbrev N__law_pool : List Str := ["_law_cell_here", "_law_folded"]
abbrev ps__law_pool : List Str := ["_law_cell_here"]
theorem sc__law_pool : FnScope N__law_pool ps__law_pool (defScope s__law_pool) := ⟨rfl, rfl, rfl, by decide +kernel, rfl, by decide +kernel, by decide +kernel⟩
abbrev s__law_take : Stmt := top 31
abbrev N__law_take : List Str := ["_law_pool_here", "_law_many", "_law_draw", "_law_mixed"]
abbrev ps__law_take : List Str := ["_law_pool_here", "_law_many"]
theorem sc__law_take : FnScope N__law_take ps__law_take (defScope s__law_take) := ⟨rfl, rfl, rfl, by decide +kernel, rfl, by decide +kernel, by decide +kernel⟩
abbrev s__law_names : Stmt := top 32
abbrev N__law_names : List Str := ["_law_pool_here", "_law_many", "_law_letters", "_law_signs", "_law_word", "_law_k", "_law_stem", "_law_place", "_law_told", "_law_start", "_law_names_here", "_law_sign"]
abbrev ps__law_names : List Str := ["_law_pool_here", "_law_many"]
theorem sc__law_names : FnScope N__law_names ps__law_names (defScope s__law_names) := ⟨rfl, rfl, rfl, by decide +kernel, rfl, by decide +kernel, by decide +kernel⟩
abbrev s__law_parts : Stmt := top 33
abbrev N__law_parts : List Str := ["_law_pool_here", "_law_most", "_law_many", "_law_names_here", "_law_steps", "_law_files_here", "_law_left", "_law_step", "_law_count", "_law_ranks", "_law_rules", "_law_k", "_law_first", "_law_second", "_law_shift", "_law_rule"]
abbrev ps__law_parts : List Str := ["_law_pool_here", "_law_most"]
theorem sc__law_parts : FnScope N__law_parts ps__law_parts (defScope s__law_parts) := ⟨rfl, rfl, rfl, by decide +kernel, rfl, by decide +kernel, by decide +kernel⟩
abbrev s__law_define : Stmt := top 34
abbrev N__law_define : List Str := ["_law_plan", "_law_step", "_law_files_here"]
abbrev ps__law_define : List Str := ["_law_plan", "_law_step", "_law_files_here"]
theorem sc__law_define : FnScope N__law_define ps__law_define (defScope s__law_define) := ⟨rfl, rfl, rfl, by decide +kernel, rfl, by decide +kernel, by decide +kernel⟩
abbrev s__law_files : Stmt := top 35
abbrev N__law_files : List Str := ["_law_parts_here", "_law_files_here", "_law_row"]
abbrev ps__law_files : List Str := ["_law_parts_here"]
theorem sc__law_files : FnScope N__law_files ps__law_files (defScope s__law_files) := ⟨rfl, rfl, rfl, by decide +kernel, rfl, by decide +kernel, by decide +kernel⟩
abbrev s__law_stranger : Stmt := top 36
abbrev N__law_stranger : List Str := ["_law_pool_here", "_law_names_here", "_law_word", "_law_letters", "_law_start", "_law_k", "_law_one"]
abbrev ps__law_stranger : List Str := ["_law_pool_here", "_law_names_here"]
theorem sc__law_stranger : FnScope N__law_stranger ps__law_stranger (defScope s__law_stranger) := ⟨rfl, rfl, rfl, by decide +kernel, rfl, by decide +kernel, by decide +kernel⟩
abbrev s__law_as_told : Stmt := top 37
abbrev N__law_as_told : List Str := ["_law_plan", "_law_steps", "_law_files_here", "_law_every", "_law_row", "_law_step", "_law_file"]
abbrev ps__law_as_told : List Str := ["_law_plan", "_law_steps", "_law_files_here"]
theorem sc__law_as_told : FnScope N__law_as_told ps__law_as_told (defScope s__law_as_told) := ⟨rfl, rfl, rfl, by decide +kernel, rfl, by decide +kernel, by decide +kernel⟩
abbrev s__law_strange : Stmt := top 38
abbrev N__law_strange : List Str := ["_law_plan", "_law_file", "_law_step", "e", "_law_thing"]
abbrev ps__law_strange : List Str := ["_law_plan", "_law_file", "_law_step"]
theorem sc__law_strange : FnScope N__law_strange ps__law_strange (defScope s__law_strange) := ⟨rfl, rfl, rfl, by decide +kernel, rfl, by decide +kernel, by decide +kernel⟩
abbrev s__law_refused : Stmt := top 39
abbrev N__law_refused : List Str := ["_law_plan", "_law_step", "_law_files_here", "e"]
abbrev ps__law_refused : List Str := ["_law_plan", "_law_step", "_law_files_here"]
theorem sc__law_refused : FnScope N__law_refused ps__law_refused (defScope s__law_refused) := ⟨rfl, rfl, rfl, by decide +kernel, rfl, by decide +kernel, by decide +kernel⟩
abbrev s_law : Stmt := top 40
abbrev N_law : List Str := ["_law_script", "_law_pool_here", "_law_parts_here", "_law_plan", "_law_k", "_law_step", "_law_steps", "_law_files_here", "_law_file", "_law_new", "_law_again", "_law_there"]
abbrev ps_law : List Str := ["_law_script"]
theorem sc_law : FnScope N_law ps_law (defScope s_law) := ⟨rfl, rfl, rfl, by decide +kernel, rfl, by decide +kernel, by decide +kernel⟩
abbrev s_BadName___init__ : Stmt := inClass (top 3) 0
abbrev ps_BadName___init__ : List Str := ["self", "name"]
theorem sc_BadName___init__ : FnScope ps_BadName___init__ ps_BadName___init__ (defScope s_BadName___init__) := ⟨rfl, rfl, rfl, by decide +kernel, rfl, by decide +kernel, by decide +kernel⟩
abbrev s_NameTaken___init__ : Stmt := inClass (top 4) 0
abbrev ps_NameTaken___init__ : List Str := ["self", "name"]
theorem sc_NameTaken___init__ : FnScope ps_NameTaken___init__ ps_NameTaken___init__ (defScope s_NameTaken___init__) := ⟨rfl, rfl, rfl, by decide +kernel, rfl, by decide +kernel, by decide +kernel⟩
abbrev s_NoStep___init__ : Stmt := inClass (top 5) 0
abbrev ps_NoStep___init__ : List Str := ["self", "name"]
theorem sc_NoStep___init__ : FnScope ps_NoStep___init__ ps_NoStep___init__ (defScope s_NoStep___init__) := ⟨rfl, rfl, rfl, by decide +kernel, rfl, by decide +kernel, by decide +kernel⟩
abbrev s_NoFile___init__ : Stmt := inClass (top 6) 0
abbrev ps_NoFile___init__ : List Str := ["self", "name"]
theorem sc_NoFile___init__ : FnScope ps_NoFile___init__ ps_NoFile___init__ (defScope s_NoFile___init__) := ⟨rfl, rfl, rfl, by decide +kernel, rfl, by decide +kernel, by decide +kernel⟩
structure Ad where
  (C_BadName C_NameTaken C_NoStep C_NoFile C_Plan : Addr)
  (f_is_name f_Plan___init__ f_Plan___len__ f_Plan___contains__ f_Plan_steps f_Plan_files f_refuse_missing f_Plan_step_of f_Plan_files_of f_Plan_define f__law_cell f__law_pool f__law_take f__law_names f__law_parts f__law_define f__law_files f__law_stranger f__law_as_told f__law_strange f__law_refused f_law f_BadName___init__ f_NameTaken___init__ f_NoStep___init__ f_NoFile___init__ : Addr)
  (d_is_name d_Plan___init__ d_Plan___len__ d_Plan___contains__ d_Plan_steps d_Plan_files d_refuse_missing d_Plan_step_of d_Plan_files_of d_Plan_define d__law_cell d__law_pool d__law_take d__law_names d__law_parts d__law_define d__law_files d__law_stranger d__law_as_told d__law_strange d__law_refused d_law d_BadName___init__ d_NameTaken___init__ d_NoStep___init__ d_NoFile___init__ : FuncData)
  (t_LETTERS t_LONGEST_NAME t_NAME_CHARACTERS : Tok)
  (p_Plan_steps p_Plan_files : Addr)
def sp_is_name (K : PySem.W.Frag) (A : Ad) : Sp := fun vs H Q _ => ∃ x : Str, vs = [.str x] ∧ Nm x ∧ ∀ H', Kp [] H H' → Q (.bl true) H'

def sp_Plan___init__ (K : PySem.W.Frag) (A : Ad) : Sp := fun vs H Q _ => ∃ a dx : Addr, vs = [.ref a] ∧ H a = some (.ins A.C_Plan dx []) ∧ ∀ w wr ru le H', Kp [a] H H' → H w = none → H wr = none → H ru = none → H le = none → Plan A.C_Plan H' a w wr ru le [] → Q .non H'

def sp_Plan___len__ (K : PySem.W.Frag) (A : Ad) : Sp := fun vs H Q _ => ∃ (a w wr ru le : Addr) (S : Steps), vs = [.ref a] ∧ Plan A.C_Plan H a w wr ru le S ∧ Q (.int (S.length : Int)) H

def sp_Plan___contains__ (K : PySem.W.Frag) (A : Ad) : Sp := fun vs H Q _ => ∃ (a w wr ru le : Addr) (S : Steps) (x : V), vs = [.ref a, x] ∧ Plan A.C_Plan H a w wr ru le S ∧ (∃ t, TyX K H x t ∧ PySem.W.kitOne K t (.type "str") = some (isStr x)) ∧ Q (.bl (inSteps S x)) H

def sp_Plan_steps (K : PySem.W.Frag) (A : Ad) : Sp := fun vs H Q _ => ∃ (a w wr ru le : Addr) (S : Steps), vs = [.ref a] ∧ Plan A.C_Plan H a w wr ru le S ∧ ∀ t H', H t = none → H' t = some (.tup ((stepsOf S).map V.str)) → Kp [] H H' → Q (.ref t) H'

def sp_Plan_files (K : PySem.W.Frag) (A : Ad) : Sp := fun vs H Q _ => ∃ (a w wr ru le : Addr) (S : Steps), vs = [.ref a] ∧ Plan A.C_Plan H a w wr ru le S ∧ ∀ t H', H t = none → H' t = some (.tup ((filesOf S).map V.str)) → Kp [] H H' → Q (.ref t) H'

def sp_refuse_missing (K : PySem.W.Frag) (A : Ad) : Sp := fun vs H Q E => ∃ (a w wr ru le : Addr) (S : Steps) (x : Str), vs = [.ref a, .str x] ∧ Plan A.C_Plan H a w wr ru le S ∧ (x ∈ stepsOf S → Q .non H) ∧
  (x ∉ stepsOf S → ∀ d H', H d = none → Kp [] H H' → H' d = some (.xd [("name", .str x)]) → E (.ref A.C_NoStep) (some d) H')

def sp_Plan_step_of (K : PySem.W.Frag) (A : Ad) : Sp := fun vs H Q E => ∃ (a w wr ru le : Addr) (S : Steps) (x : Str), vs = [.ref a, .str x] ∧ Plan A.C_Plan H a w wr ru le S ∧ (∀ s ∈ S, x ∈ s.2 → Q (.str s.1) H) ∧
  (x ∉ filesOf S → ∀ d H', H d = none → Kp [] H H' → H' d = some (.xd [("name", .str x)]) → E (.ref A.C_NoFile) (some d) H')

def sp_Plan_files_of (K : PySem.W.Frag) (A : Ad) : Sp := fun vs H Q E => ∃ (a w wr ru le : Addr) (S : Steps) (x : Str), vs = [.ref a, .str x] ∧ Plan A.C_Plan H a w wr ru le S ∧ (∀ s ∈ S, s.1 = x → ∀ t, H t = some (.tup (s.2.map V.str)) → Q (.ref t) H) ∧
  (x ∉ stepsOf S → ∀ d H', H d = none → Kp [] H H' → H' d = some (.xd [("name", .str x)]) → E (.ref A.C_NoStep) (some d) H')

def sp_Plan_define (K : PySem.W.Frag) (A : Ad) : Sp := fun vs H Q E => ∃ (a w wr ru le : Addr) (S : Steps) (x : Str) (fs : List Str) (p : Addr), vs = [.ref a, .str x, .ref p] ∧ Plan A.C_Plan H a w wr ru le S ∧ H p = some (.tup (fs.map V.str)) ∧ Nm x ∧ (∀ f ∈ fs, Nm f) ∧
  S.length ≤ 1000 ∧ (filesOf S).length ≤ 1000 ∧ fs.length ≤ 1000 ∧ (taken S x fs = none → ∀ H', Kp [w, wr, le] H H' → Plan A.C_Plan H' a w wr ru le (S ++ [(x, fs)]) → Q .non H') ∧
  (∀ y, taken S x fs = some y → ∀ d H', H d = none → Kp [] H H' → H' d = some (.xd [("name", .str y)]) → E (.ref A.C_NameTaken) (some d) H')

def sp__law_cell (K : PySem.W.Frag) (A : Ad) : Sp := fun vs H Q _ => ∃ (a : Addr) (ns : List Int) (j : Int), vs = [.ref a, .int j] ∧ SqL K H a (ns.map V.int) ∧ 0 ≤ j ∧ ∀ (x : Int), Q (.int x) H
def sp__law_pool (K : PySem.W.Frag) (A : Ad) : Sp := fun vs H Q _ => ∃ (x : Int), vs = [.int x] ∧ ∀ (p : Addr) (H' : Hp), Kp [] H H' → (H p = none) → (Pool H' p 0) → Q (.ref p) H'
def sp__law_take (K : PySem.W.Frag) (A : Ad) : Sp := fun vs H Q _ => ∃ (p : Addr) (m : Int) (n : Nat), vs = [.ref p, .int m] ∧ Pool H p n ∧ 0 < m ∧ m < 1000000 ∧ n ≤ 1000000 ∧ ∀ (r : Int) (H' : Hp), Kp [p] H H' → (0 ≤ r) → (r < m) → (Pool H' p (n + 1)) → Q (.int r) H'
def sp__law_names (K : PySem.W.Frag) (A : Ad) : Sp := fun vs H Q _ => ∃ (p : Addr) (m : Int) (n : Nat), vs = [.ref p, .int m] ∧ Pool H p n ∧ 0 ≤ m ∧ m ≤ 8 ∧ n ≤ 900000 ∧ ∀ (l : Addr) (ss : List Str) (H' : Hp), Kp [p] H H' → (H l = none) → (H' l = some (.lst (ss.map V.str))) → ((ss.length : Int) = m) → (Nms ss) → (Pool H' p (n + 12)) → Q (.ref l) H'
def sp__law_parts (K : PySem.W.Frag) (A : Ad) : Sp := fun vs H Q _ => ∃ (p : Addr) (m : Int) (n : Nat), vs = [.ref p, .int m] ∧ Pool H p n ∧ 0 ≤ m ∧ m ≤ 8 ∧ n ≤ 800000 ∧ ∀ (l : Addr) (a : Addr) (b : Addr) (c : Addr) (ss : List Str) (rows : List (List Str)) (ws : List Int) (rs : List (Str × Str × Int)) (H' : Hp), Kp [p] H H' → (H l = none) → (H a = none) → (H b = none) → (H c = none) → (H' l = some (.lst [V.ref a, V.ref b, V.ref c])) → (H' a = some (.lst (ss.map V.str))) → (Rows H' b rows [p]) → (Rules H' c rs [p]) → ((ss.length : Int) ≤ m) → (Nms ss) → (rows.length = ss.length) → (Nms rows.flatten) → (∀ r ∈ rows, r.length ≤ 3) → (RulesOk ss ws rs) → (Pool H' p (n + 300)) → Q (.ref l) H'
def sp__law_define (K : PySem.W.Frag) (A : Ad) : Sp := fun vs H Q E => ∃ (a w wr ru le l : Addr) (S : Steps) (x : Str) (fs : List Str), vs = [.ref a, .str x, .ref l] ∧ Plan A.C_Plan H a w wr ru le S ∧ H l = some (.lst (fs.map V.str)) ∧ Nm x ∧ (∀ f ∈ fs, Nm f) ∧
  S.length ≤ 1000 ∧ (filesOf S).length ≤ 1000 ∧ fs.length ≤ 3 ∧ (taken S x fs = none → ∀ H', Kp [w, wr, le] H H' → Plan A.C_Plan H' a w wr ru le (S ++ [(x, fs)]) → Q .non H') ∧
  (∀ y, taken S x fs = some y → ∀ d H', H d = none → Kp [] H H' → H' d = some (.xd [("name", .str y)]) → E (.ref A.C_NameTaken) (some d) H')

def sp__law_files (K : PySem.W.Frag) (A : Ad) : Sp := fun vs H Q _ => ∃ (l b : Addr) (v : V) (rows : List (List Str)) (ms : List Addr), vs = [.ref l] ∧ H l = some (.lst [v, .ref b]) ∧ Rows H b rows ms ∧ rows.flatten.length ≤ 1000 ∧ ∀ r H', H r = none → Kp [] H H' → H' r = some (.lst (rows.flatten.map V.str)) → Q (.ref r) H'

def sp__law_stranger (K : PySem.W.Frag) (A : Ad) : Sp := fun vs H Q _ => ∃ (p l : Addr) (n : Nat) (ss : List Str), vs = [.ref p, .ref l] ∧ Pool H p n ∧ n ≤ 900000 ∧ H l = some (.lst (ss.map V.str)) ∧ (∀ s ∈ ss, Nm s) ∧ ss.length ≤ 20 ∧ ∀ y H', y ∉ ss → Nm y → Kp [p] H H' → Pool H' p (n + 2) → Q (.str y) H'

def sp__law_as_told (K : PySem.W.Frag) (A : Ad) : Sp := fun vs H Q _ => ∃ (a w wr ru le l b : Addr) (S : Steps) (ms : List Addr), vs = [.ref a, .ref l, .ref b] ∧ Plan A.C_Plan H a w wr ru le S ∧ H l = some (.lst ((stepsOf S).map V.str)) ∧ Rows H b (S.map (·.2)) ms ∧ S.length ≤ 1000 ∧ (filesOf S).length ≤ 1000 ∧ (∀ s ∈ stepsOf S, Nm s) ∧ (∀ f ∈ filesOf S, Nm f) ∧ ∀ H', Kp [] H H' → Q (.bl true) H'

def sp__law_strange (K : PySem.W.Frag) (A : Ad) : Sp := fun vs H Q _ => ∃ (a w wr ru le : Addr) (S : Steps) (f x : Str), vs = [.ref a, .str f, .str x] ∧ Plan A.C_Plan H a w wr ru le S ∧ f ∉ filesOf S ∧ x ∉ stepsOf S ∧ ∀ H', Kp [] H H' → Q (.bl true) H'

def sp__law_refused (K : PySem.W.Frag) (A : Ad) : Sp := fun vs H Q _ => ∃ (a w wr ru le l : Addr) (S : Steps) (x y : Str) (fs : List Str), vs = [.ref a, .str x, .ref l] ∧ Plan A.C_Plan H a w wr ru le S ∧ H l = some (.lst (fs.map V.str)) ∧ Nm x ∧ (∀ f ∈ fs, Nm f) ∧
  S.length ≤ 1000 ∧ (filesOf S).length ≤ 1000 ∧ fs.length ≤ 3 ∧ taken S x fs = some y ∧ ∀ H', Kp [] H H' → Q (.str y) H'

def sp_law (K : PySem.W.Frag) (A : Ad) : Sp := fun vs H Q _ => ∃ (a : Addr) (ns : List Int), vs = [.ref a] ∧ SqL K H a (ns.map V.int) ∧ ns.length ≤ 63 ∧ ∀ H', Kp [] H H' → Q (.bl true) H'

structure Tx (K : PySem.W.Frag) (mg : Str → Option Value) (A : Ad) : Prop where
  c_LETTERS : mg "LETTERS" = some (.str "abcdefghijklmnopqrstuvwxyz" A.t_LETTERS)
  c_LONGEST_NAME : mg "LONGEST_NAME" = some (.int 8 A.t_LONGEST_NAME)
  c_NAME_CHARACTERS : mg "NAME_CHARACTERS" = some (.str "abcdefghijklmnopqrstuvwxyz0123456789" A.t_NAME_CHARACTERS)
  n_all : mg "all" = none
  n_enumerate : mg "enumerate" = none
  n_int : mg "int" = none
  n_isinstance : mg "isinstance" = none
  n_len : mg "len" = none
  n_range : mg "range" = none
  n_str : mg "str" = none
  n_tuple : mg "tuple" = none
  n_zip : mg "zip" = none
  F_is_name : Fun K "is_name" "is_name" s_is_name A.f_is_name A.d_is_name
  g_is_name : mg "is_name" = some (.ref A.f_is_name)
  F_Plan___init__ : Fun K "__init__" "Plan.__init__" s_Plan___init__ A.f_Plan___init__ A.d_Plan___init__
  F_Plan___len__ : Fun K "__len__" "Plan.__len__" s_Plan___len__ A.f_Plan___len__ A.d_Plan___len__
  F_Plan___contains__ : Fun K "__contains__" "Plan.__contains__" s_Plan___contains__ A.f_Plan___contains__ A.d_Plan___contains__
  F_Plan_steps : Fun K "steps" "Plan.steps" s_Plan_steps A.f_Plan_steps A.d_Plan_steps
  F_Plan_files : Fun K "files" "Plan.files" s_Plan_files A.f_Plan_files A.d_Plan_files
  F_refuse_missing : Fun K "refuse_missing" "refuse_missing" s_refuse_missing A.f_refuse_missing A.d_refuse_missing
  g_refuse_missing : mg "refuse_missing" = some (.ref A.f_refuse_missing)
  F_Plan_step_of : Fun K "step_of" "Plan.step_of" s_Plan_step_of A.f_Plan_step_of A.d_Plan_step_of
  F_Plan_files_of : Fun K "files_of" "Plan.files_of" s_Plan_files_of A.f_Plan_files_of A.d_Plan_files_of
  F_Plan_define : Fun K "define" "Plan.define" s_Plan_define A.f_Plan_define A.d_Plan_define
  F__law_cell : Fun K "_law_cell" "_law_cell" s__law_cell A.f__law_cell A.d__law_cell
  g__law_cell : mg "_law_cell" = some (.ref A.f__law_cell)
  F__law_pool : Fun K "_law_pool" "_law_pool" s__law_pool A.f__law_pool A.d__law_pool
  g__law_pool : mg "_law_pool" = some (.ref A.f__law_pool)
  F__law_take : Fun K "_law_take" "_law_take" s__law_take A.f__law_take A.d__law_take
  g__law_take : mg "_law_take" = some (.ref A.f__law_take)
  F__law_names : Fun K "_law_names" "_law_names" s__law_names A.f__law_names A.d__law_names
  g__law_names : mg "_law_names" = some (.ref A.f__law_names)
  F__law_parts : Fun K "_law_parts" "_law_parts" s__law_parts A.f__law_parts A.d__law_parts
  g__law_parts : mg "_law_parts" = some (.ref A.f__law_parts)
  F__law_define : Fun K "_law_define" "_law_define" s__law_define A.f__law_define A.d__law_define
  g__law_define : mg "_law_define" = some (.ref A.f__law_define)
  F__law_files : Fun K "_law_files" "_law_files" s__law_files A.f__law_files A.d__law_files
  g__law_files : mg "_law_files" = some (.ref A.f__law_files)
  F__law_stranger : Fun K "_law_stranger" "_law_stranger" s__law_stranger A.f__law_stranger A.d__law_stranger
  g__law_stranger : mg "_law_stranger" = some (.ref A.f__law_stranger)
  F__law_as_told : Fun K "_law_as_told" "_law_as_told" s__law_as_told A.f__law_as_told A.d__law_as_told
  g__law_as_told : mg "_law_as_told" = some (.ref A.f__law_as_told)
  F__law_strange : Fun K "_law_strange" "_law_strange" s__law_strange A.f__law_strange A.d__law_strange
  g__law_strange : mg "_law_strange" = some (.ref A.f__law_strange)
  F__law_refused : Fun K "_law_refused" "_law_refused" s__law_refused A.f__law_refused A.d__law_refused
  g__law_refused : mg "_law_refused" = some (.ref A.f__law_refused)
  F_law : Fun K "law" "law" s_law A.f_law A.d_law
  g_law : mg "law" = some (.ref A.f_law)
  F_BadName___init__ : Fun K "__init__" "BadName.__init__" s_BadName___init__ A.f_BadName___init__ A.d_BadName___init__
  oex_BadName : OexC K A.C_BadName
  ini_BadName : PySem.W.findIn K (.ref A.C_BadName) "__init__" = some (some (.ref A.f_BadName___init__))
  tin_BadName : PySem.W.typeIn K (.ref A.f_BadName___init__) = some (.type "function")
  xf_BadName : XfC K A.C_BadName
  g_BadName : mg "BadName" = some (.ref A.C_BadName)
  em_BadName : PySem.W.exmOne K (.ref A.C_BadName) (.ref A.C_BadName) = some true
  nf_BadName_name : PySem.W.findIn K (.ref A.C_BadName) "name" = some none
  F_NameTaken___init__ : Fun K "__init__" "NameTaken.__init__" s_NameTaken___init__ A.f_NameTaken___init__ A.d_NameTaken___init__
  oex_NameTaken : OexC K A.C_NameTaken
  ini_NameTaken : PySem.W.findIn K (.ref A.C_NameTaken) "__init__" = some (some (.ref A.f_NameTaken___init__))
  tin_NameTaken : PySem.W.typeIn K (.ref A.f_NameTaken___init__) = some (.type "function")
  xf_NameTaken : XfC K A.C_NameTaken
  g_NameTaken : mg "NameTaken" = some (.ref A.C_NameTaken)
  em_NameTaken : PySem.W.exmOne K (.ref A.C_NameTaken) (.ref A.C_NameTaken) = some true
  nf_NameTaken_name : PySem.W.findIn K (.ref A.C_NameTaken) "name" = some none
  F_NoStep___init__ : Fun K "__init__" "NoStep.__init__" s_NoStep___init__ A.f_NoStep___init__ A.d_NoStep___init__
  oex_NoStep : OexC K A.C_NoStep
  ini_NoStep : PySem.W.findIn K (.ref A.C_NoStep) "__init__" = some (some (.ref A.f_NoStep___init__))
  tin_NoStep : PySem.W.typeIn K (.ref A.f_NoStep___init__) = some (.type "function")
  xf_NoStep : XfC K A.C_NoStep
  g_NoStep : mg "NoStep" = some (.ref A.C_NoStep)
  em_NoStep : PySem.W.exmOne K (.ref A.C_NoStep) (.ref A.C_NoStep) = some true
  nf_NoStep_name : PySem.W.findIn K (.ref A.C_NoStep) "name" = some none
  F_NoFile___init__ : Fun K "__init__" "NoFile.__init__" s_NoFile___init__ A.f_NoFile___init__ A.d_NoFile___init__
  oex_NoFile : OexC K A.C_NoFile
  ini_NoFile : PySem.W.findIn K (.ref A.C_NoFile) "__init__" = some (some (.ref A.f_NoFile___init__))
  tin_NoFile : PySem.W.typeIn K (.ref A.f_NoFile___init__) = some (.type "function")
  xf_NoFile : XfC K A.C_NoFile
  g_NoFile : mg "NoFile" = some (.ref A.C_NoFile)
  em_NoFile : PySem.W.exmOne K (.ref A.C_NoFile) (.ref A.C_NoFile) = some true
  nf_NoFile_name : PySem.W.findIn K (.ref A.C_NoFile) "name" = some none
  cl_Plan : Cls K A.C_Plan
  mk_Plan : Mk K A.C_Plan A.f_Plan___init__
  g_Plan : mg "Plan" = some (.ref A.C_Plan)
  nf_Plan__writes : NoAttr K A.C_Plan "_writes"
  nf_Plan__writer : NoAttr K A.C_Plan "_writer"
  nf_Plan__rules : NoAttr K A.C_Plan "_rules"
  nf_Plan__least : NoAttr K A.C_Plan "_least"
  m_Plan___len__ : Meth K A.C_Plan "__len__" A.f_Plan___len__
  m_Plan___contains__ : Meth K A.C_Plan "__contains__" A.f_Plan___contains__
  p_Plan_steps : PropOf K A.C_Plan "steps" A.p_Plan_steps A.f_Plan_steps
  p_Plan_files : PropOf K A.C_Plan "files" A.p_Plan_files A.f_Plan_files
  m_Plan_step_of : Meth K A.C_Plan "step_of" A.f_Plan_step_of
  m_Plan_files_of : Meth K A.C_Plan "files_of" A.f_Plan_files_of
  m_Plan_define : Meth K A.C_Plan "define" A.f_Plan_define
section
variable {P : Program} {w : World} {K : PySem.W.Frag} {mg : Str → Option Value} {base : Heap} {A : Ad}
theorem Tx.k_is_name (T : Tx K mg A) : PySem.W.keepIn K (.ref A.f_is_name) = true := T.F_is_name.kp
theorem Tx.b_is_name (T : Tx K mg A) : Binds K A.d_is_name ps_is_name [] := T.F_is_name.binds fun _ _ _ _ _ _ us hl => match us, hl with | [_], _ => rfl
theorem Tx.k_Plan___init__ (T : Tx K mg A) : PySem.W.keepIn K (.ref A.f_Plan___init__) = true := T.F_Plan___init__.kp
theorem Tx.b_Plan___init__ (T : Tx K mg A) : Binds K A.d_Plan___init__ ps_Plan___init__ [] := T.F_Plan___init__.binds fun _ _ _ _ _ _ us hl => match us, hl with | [_], _ => rfl
theorem Tx.k_Plan___len__ (T : Tx K mg A) : PySem.W.keepIn K (.ref A.f_Plan___len__) = true := T.F_Plan___len__.kp
theorem Tx.b_Plan___len__ (T : Tx K mg A) : Binds K A.d_Plan___len__ ps_Plan___len__ [] := T.F_Plan___len__.binds fun _ _ _ _ _ _ us hl => match us, hl with | [_], _ => rfl
theorem Tx.k_Plan___contains__ (T : Tx K mg A) : PySem.W.keepIn K (.ref A.f_Plan___contains__) = true := T.F_Plan___contains__.kp
theorem Tx.b_Plan___contains__ (T : Tx K mg A) : Binds K A.d_Plan___contains__ ps_Plan___contains__ [] := T.F_Plan___contains__.binds fun _ _ _ _ _ _ us hl => match us, hl with | [_, _], _ => rfl
theorem Tx.k_Plan_steps (T : Tx K mg A) : PySem.W.keepIn K (.ref A.f_Plan_steps) = true := T.F_Plan_steps.kp
theorem Tx.b_Plan_steps (T : Tx K mg A) : Binds K A.d_Plan_steps ps_Plan_steps [] := T.F_Plan_steps.binds fun _ _ _ _ _ _ us hl => match us, hl with | [_], _ => rfl
theorem Tx.k_Plan_files (T : Tx K mg A) : PySem.W.keepIn K (.ref A.f_Plan_files) = true := T.F_Plan_files.kp
theorem Tx.b_Plan_files (T : Tx K mg A) : Binds K A.d_Plan_files ps_Plan_files [] := T.F_Plan_files.binds fun _ _ _ _ _ _ us hl => match us, hl with | [_], _ => rfl
theorem Tx.k_refuse_missing (T : Tx K mg A) : PySem.W.keepIn K (.ref A.f_refuse_missing) = true := T.F_refuse_missing.kp
theorem Tx.b_refuse_missing (T : Tx K mg A) : Binds K A.d_refuse_missing ps_refuse_missing [] := T.F_refuse_missing.binds fun _ _ _ _ _ _ us hl => match us, hl with | [_, _], _ => rfl
theorem Tx.k_Plan_step_of (T : Tx K mg A) : PySem.W.keepIn K (.ref A.f_Plan_step_of) = true := T.F_Plan_step_of.kp
theorem Tx.b_Plan_step_of (T : Tx K mg A) : Binds K A.d_Plan_step_of ps_Plan_step_of [] := T.F_Plan_step_of.binds fun _ _ _ _ _ _ us hl => match us, hl with | [_, _], _ => rfl
theorem Tx.k_Plan_files_of (T : Tx K mg A) : PySem.W.keepIn K (.ref A.f_Plan_files_of) = true := T.F_Plan_files_of.kp
theorem Tx.b_Plan_files_of (T : Tx K mg A) : Binds K A.d_Plan_files_of ps_Plan_files_of [] := T.F_Plan_files_of.binds fun _ _ _ _ _ _ us hl => match us, hl with | [_, _], _ => rfl
theorem Tx.k_Plan_define (T : Tx K mg A) : PySem.W.keepIn K (.ref A.f_Plan_define) = true := T.F_Plan_define.kp
theorem Tx.k__law_cell (T : Tx K mg A) : PySem.W.keepIn K (.ref A.f__law_cell) = true := T.F__law_cell.kp
theorem Tx.b__law_cell (T : Tx K mg A) : Binds K A.d__law_cell ps__law_cell [] := T.F__law_cell.binds fun _ _ _ _ _ _ us hl => match us, hl with | [_, _], _ => rfl
theorem Tx.k__law_pool (T : Tx K mg A) : PySem.W.keepIn K (.ref A.f__law_pool) = true := T.F__law_pool.kp
theorem Tx.b__law_pool (T : Tx K mg A) : Binds K A.d__law_pool ps__law_pool [] := T.F__law_pool.binds fun _ _ _ _ _ _ us hl => match us, hl with | [_], _ => rfl
theorem Tx.k__law_take (T : Tx K mg A) : PySem.W.keepIn K (.ref A.f__law_take) = true := T.F__law_take.kp
theorem Tx.b__law_take (T : Tx K mg A) : Binds K A.d__law_take ps__law_take [] := T.F__law_take.binds fun _ _ _ _ _ _ us hl => match us, hl with | [_, _], _ => rfl
theorem Tx.k__law_names (T : Tx K mg A) : PySem.W.keepIn K (.ref A.f__law_names) = true := T.F__law_names.kp
theorem Tx.b__law_names (T : Tx K mg A) : Binds K A.d__law_names ps__law_names [] := T.F__law_names.binds fun _ _ _ _ _ _ us hl => match us, hl with | [_, _], _ => rfl
theorem Tx.k__law_parts (T : Tx K mg A) : PySem.W.keepIn K (.ref A.f__law_parts) = true := T.F__law_parts.kp
theorem Tx.b__law_parts (T : Tx K mg A) : Binds K A.d__law_parts ps__law_parts [] := T.F__law_parts.binds fun _ _ _ _ _ _ us hl => match us, hl with | [_, _], _ => rfl
theorem Tx.k__law_define (T : Tx K mg A) : PySem.W.keepIn K (.ref A.f__law_define) = true := T.F__law_define.kp
theorem Tx.b__law_define (T : Tx K mg A) : Binds K A.d__law_define ps__law_define [] := T.F__law_define.binds fun _ _ _ _ _ _ us hl => match us, hl with | [_, _, _], _ => rfl
theorem Tx.k__law_files (T : Tx K mg A) : PySem.W.keepIn K (.ref A.f__law_files) = true := T.F__law_files.kp
theorem Tx.b__law_files (T : Tx K mg A) : Binds K A.d__law_files ps__law_files [] := T.F__law_files.binds fun _ _ _ _ _ _ us hl => match us, hl with | [_], _ => rfl
theorem Tx.k__law_stranger (T : Tx K mg A) : PySem.W.keepIn K (.ref A.f__law_stranger) = true := T.F__law_stranger.kp
theorem Tx.b__law_stranger (T : Tx K mg A) : Binds K A.d__law_stranger ps__law_stranger [] := T.F__law_stranger.binds fun _ _ _ _ _ _ us hl => match us, hl with | [_, _], _ => rfl
theorem Tx.k__law_as_told (T : Tx K mg A) : PySem.W.keepIn K (.ref A.f__law_as_told) = true := T.F__law_as_told.kp
theorem Tx.b__law_as_told (T : Tx K mg A) : Binds K A.d__law_as_told ps__law_as_told [] := T.F__law_as_told.binds fun _ _ _ _ _ _ us hl => match us, hl with | [_, _, _], _ => rfl
theorem Tx.k__law_strange (T : Tx K mg A) : PySem.W.keepIn K (.ref A.f__law_strange) = true := T.F__law_strange.kp
theorem Tx.b__law_strange (T : Tx K mg A) : Binds K A.d__law_strange ps__law_strange [] := T.F__law_strange.binds fun _ _ _ _ _ _ us hl => match us, hl with | [_, _, _], _ => rfl
theorem Tx.k__law_refused (T : Tx K mg A) : PySem.W.keepIn K (.ref A.f__law_refused) = true := T.F__law_refused.kp
theorem Tx.b__law_refused (T : Tx K mg A) : Binds K A.d__law_refused ps__law_refused [] := T.F__law_refused.binds fun _ _ _ _ _ _ us hl => match us, hl with | [_, _, _], _ => rfl
theorem Tx.k_law (T : Tx K mg A) : PySem.W.keepIn K (.ref A.f_law) = true := T.F_law.kp
theorem Tx.b_law (T : Tx K mg A) : Binds K A.d_law ps_law [] := T.F_law.binds fun _ _ _ _ _ _ us hl => match us, hl with | [_], _ => rfl
theorem Tx.b_BadName___init__ (T : Tx K mg A) : Binds K A.d_BadName___init__ ps_BadName___init__ [] := T.F_BadName___init__.binds fun _ _ _ _ _ _ us hl => match us, hl with | [_, _], _ => rfl
theorem ok_BadName___init__ (T : Tx K mg A) : FnOk P w K mg base CX0 1 A.f_BadName___init__ A.d_BadName___init__ ps_BadName___init__ (spI1 A.C_BadName "name") := by
  refine T.F_BadName___init__.ok sc_BadName___init__ (fun vs H Q E h => ?_) (fun cdv Ar outer s H vs Q E hr h => ?_)
  · obtain ⟨a, v, rfl, _⟩ := h; rfl
  · obtain ⟨a, v, rfl, hA, q⟩ := h
    refine ⟨_, pss_one (ps_ost (pv 0) (pv 1)), ?_⟩
    exact ⟨_, rfl, _, rfl, read1 T.oex_BadName T.nf_BadName_name hA q []⟩
theorem Tx.b_NameTaken___init__ (T : Tx K mg A) : Binds K A.d_NameTaken___init__ ps_NameTaken___init__ [] := T.F_NameTaken___init__.binds fun _ _ _ _ _ _ us hl => match us, hl with | [_, _], _ => rfl
theorem ok_NameTaken___init__ (T : Tx K mg A) : FnOk P w K mg base CX0 1 A.f_NameTaken___init__ A.d_NameTaken___init__ ps_NameTaken___init__ (spI1 A.C_NameTaken "name") := by
  refine T.F_NameTaken___init__.ok sc_NameTaken___init__ (fun vs H Q E h => ?_) (fun cdv Ar outer s H vs Q E hr h => ?_)
  · obtain ⟨a, v, rfl, _⟩ := h; rfl
  · obtain ⟨a, v, rfl, hA, q⟩ := h
    refine ⟨_, pss_one (ps_ost (pv 0) (pv 1)), ?_⟩
    exact ⟨_, rfl, _, rfl, read1 T.oex_NameTaken T.nf_NameTaken_name hA q []⟩
theorem Tx.b_NoStep___init__ (T : Tx K mg A) : Binds K A.d_NoStep___init__ ps_NoStep___init__ [] := T.F_NoStep___init__.binds fun _ _ _ _ _ _ us hl => match us, hl with | [_, _], _ => rfl
theorem ok_NoStep___init__ (T : Tx K mg A) : FnOk P w K mg base CX0 1 A.f_NoStep___init__ A.d_NoStep___init__ ps_NoStep___init__ (spI1 A.C_NoStep "name") := by
  refine T.F_NoStep___init__.ok sc_NoStep___init__ (fun vs H Q E h => ?_) (fun cdv Ar outer s H vs Q E hr h => ?_)
  · obtain ⟨a, v, rfl, _⟩ := h; rfl
  · obtain ⟨a, v, rfl, hA, q⟩ := h
    refine ⟨_, pss_one (ps_ost (pv 0) (pv 1)), ?_⟩
    exact ⟨_, rfl, _, rfl, read1 T.oex_NoStep T.nf_NoStep_name hA q []⟩
theorem Tx.b_NoFile___init__ (T : Tx K mg A) : Binds K A.d_NoFile___init__ ps_NoFile___init__ [] := T.F_NoFile___init__.binds fun _ _ _ _ _ _ us hl => match us, hl with | [_, _], _ => rfl
theorem ok_NoFile___init__ (T : Tx K mg A) : FnOk P w K mg base CX0 1 A.f_NoFile___init__ A.d_NoFile___init__ ps_NoFile___init__ (spI1 A.C_NoFile "name") := by
  refine T.F_NoFile___init__.ok sc_NoFile___init__ (fun vs H Q E h => ?_) (fun cdv Ar outer s H vs Q E hr h => ?_)
  · obtain ⟨a, v, rfl, _⟩ := h; rfl
  · obtain ⟨a, v, rfl, hA, q⟩ := h
    refine ⟨_, pss_one (ps_ost (pv 0) (pv 1)), ?_⟩
    exact ⟨_, rfl, _, rfl, read1 T.oex_NoFile T.nf_NoFile_name hA q []⟩
theorem ok_is_name (T : Tx K mg A) : FnOk P w K mg base CX0 1 A.f_is_name A.d_is_name ps_is_name (sp_is_name K A) := by
  refine T.F_is_name.ok sc_is_name (fun vs H Q E h => ?_) (fun cdv Ar outer s H vs Q E hr h => ?_)
  · obtain ⟨x, rfl, _⟩ := h; rfl
  · obtain ⟨x, rfl, nm, q⟩ := h
    have nl := nm.len
    refine ⟨_, (pss_cons (ps_if (PW.pt (pw_or (pt_not (pt_val (pe_callB (r := rIsi K) call_isi (by rfl) T.n_isinstance (by decide +kernel) (pa_cons (pv 0) (pa_cons (pe_bltn (v := .ty "str") (u := .type "str") (by rfl) T.n_str (by decide +kernel) rfl) pa_nil))))) (pw_or1 (pt_not (pt_chain op_le op_le pe_int (pe_callB call_len_str (by rfl) T.n_len PySem.boot_len (pa_cons (pv 0) pa_nil)) (pe_glob (v := .int 8) rfl T.c_LONGEST_NAME ⟨_, rfl⟩))))))
  (pss_one (ps_ret pe_bl))
  pss_nil)
  (pss_one (ps_ret (pe_and (pe_cmpR op_in_sign (pe_ix ix_str (pv 0) pe_int (fun _ _ => rfl)) (pe_glob (v := .str "abcdefghijklmnopqrstuvwxyz") rfl T.c_LETTERS ⟨_, rfl⟩) rfl) (pe_one (pe_callB (r := rAll K) (cr_all rfl) (by rfl) T.n_all (by decide +kernel) (pa_cons (pe_lc (own := [("character", 1)]) (g := gName 1) (by rfl) sc_is_name.nd (pi_str (pv 0)) (blkOk_by (own := [("character", 1)]) (N := N_is_name) (sc := defScope s_is_name) (by decide +kernel)) (fun _ _ _ _ _ => (pg_name (i := 1) sc_is_name.nd rfl (Or.inl rfl))) (fun _ _ _ _ _ => pts_nil) (fun _ _ _ _ _ => (pe_cmpR op_in_sign (pv 1) (pe_glob (v := .str "abcdefghijklmnopqrstuvwxyz0123456789") rfl T.c_NAME_CHARACTERS ⟨_, rfl⟩) rfl))) pa_nil))))))), ?_⟩
    refine ⟨_, rfl, _, _, _, _, true, rfl, .ty _, .base (.str _), kit_ty (by decide +kernel), _, rfl, ifF rfl ?_⟩
    refine ⟨_, rfl, _, rfl, slen (by omega), _, _, rfl, rfl, _, rfl, ifT (decide_eq_true (by omega)) ?_⟩
    refine ⟨_, _, rfl, rfl, _, rfl, ifF (by rw [decide_eq_true (by omega)]; rfl) ?_⟩
    obtain ⟨c0, h0, h1⟩ := nm.head
    refine ⟨_, rfl, _, _, c0, rfl, rfl, slen (by omega), h1, _, _, rfl, rfl, _, rfl, ifT (decide_eq_true (let_in h0)) ?_⟩
    refine ⟨_, rfl, _, rfl, fun D hD => lc_it walk_str (fun i H' => H' D = some (.lst ((List.replicate i true).map V.bl)) ∧ Kp [] H H') ?_ (fun _ _ _ _ => trivial) ?_ ?_⟩
    · exact ⟨upd_same, (Kp.refl [] H).new hD⟩
    · rintro i _ H1 _ hi ⟨hd, k⟩ ⟨rfl, c, hc, rfl⟩
      refine ⟨rfl, ?_⟩
      unfold tYes
      refine ifT rfl ?_
      have hz : i < Str.length x := hi
      refine ⟨_, rfl, _, _, rfl, rfl, _, hd, slenlt (by simp; omega), ?_⟩
      refine ⟨?_, k.step ((Kp.refl [D] _).put (.inl (List.mem_singleton.mpr rfl))) (fun b hb => by rw [List.mem_singleton.mp hb]; exact .inr hD)⟩
      rw [upd_same, decide_eq_true (al_in (nm.sign (i := i) (by simpa [ch] using hc)))]
      simp [List.replicate_succ']
    · rintro H1 ⟨hd, k⟩
      refine ⟨_, _, rfl, SqL.of hd, ?_⟩
      have e : (List.replicate (Array.size x.cps) true).all id = true := by simp
      show Q (V.bl _) H1
      rw [e]
      exact q H1 k
theorem ok_Plan___init__ (T : Tx K mg A) : FnOk P w K mg base CX0 1 A.f_Plan___init__ A.d_Plan___init__ ps_Plan___init__ (sp_Plan___init__ K A) := by
  refine T.F_Plan___init__.ok sc_Plan___init__ (fun vs H Q E h => ?_) (fun cdv Ar outer s H vs Q E hr h => ?_)
  · obtain ⟨a, dx, rfl, _⟩ := h; rfl
  · obtain ⟨a, dx, rfl, ha, q⟩ := h
    refine ⟨_, (pss_cons (ps_fld (pv 0) pe_dnewK rfl)
  (pss_cons (ps_fld (pv 0) pe_dnewK rfl)
  (pss_cons (ps_fld (pv 0) pe_dnewT rfl)
  (pss_one (ps_fld (pv 0) pe_dnewT rfl))))), ?_⟩
    refine fun w hw => ?_
    have wa : w ≠ a := Ne.symm (ne_of_none ha hw)
    refine ⟨_, rfl, a, _, dx, _, rfl, (upd_ne wa.symm).trans ha, T.cl_Plan, T.nf_Plan__writes, (by show 0 < 1000; decide), ?_⟩
    generalize e1 : upd (upd H w (.dK [])) a _ = H1
    have a1 : H1 a = some (.ins A.C_Plan dx [("_writes", .ref w)]) := by rw [← e1]; exact upd_same
    have w1 : H1 w = some (.dK []) := by rw [← e1, upd_ne wa]; exact upd_same
    have k1 : Kp [a] H H1 := by rw [← e1]; exact ((Kp.refl [a] H).new hw).put (.inl (List.mem_singleton.mpr rfl))
    refine fun wr hwr => ?_
    have ne1 : a ≠ wr := ne_of_none a1 hwr
    have ne2 : w ≠ wr := ne_of_none w1 hwr
    refine ⟨_, rfl, a, _, dx, _, rfl, (upd_ne ne1).trans a1, T.cl_Plan, T.nf_Plan__writer, (by show 1 < 1000; decide), ?_⟩
    generalize e2 : upd (upd H1 wr (.dK [])) a _ = H2
    have a2 : H2 a = some (.ins A.C_Plan dx [("_writes", .ref w), ("_writer", .ref wr)]) := by rw [← e2, upd_same]; rfl
    have w2 : H2 w = some (.dK []) := by rw [← e2, upd_ne wa, upd_ne ne2]; exact w1
    have r2 : H2 wr = some (.dK []) := by rw [← e2, upd_ne ne1.symm]; exact upd_same
    have k2 : Kp [a] H1 H2 := by rw [← e2]; exact ((Kp.refl [a] H1).new hwr).put (.inl (List.mem_singleton.mpr rfl))
    refine fun ru hru => ?_
    have ne3 : a ≠ ru := ne_of_none a2 hru
    have ne4 : w ≠ ru := ne_of_none w2 hru
    have ne5 : wr ≠ ru := ne_of_none r2 hru
    refine ⟨_, rfl, a, _, dx, _, rfl, (upd_ne ne3).trans a2, T.cl_Plan, T.nf_Plan__rules, (by show 2 < 1000; decide), ?_⟩
    generalize e3 : upd (upd H2 ru (.dT [])) a _ = H3
    have a3 : H3 a = some (.ins A.C_Plan dx [("_writes", .ref w), ("_writer", .ref wr), ("_rules", .ref ru)]) := by rw [← e3, upd_same]; rfl
    have w3 : H3 w = some (.dK []) := by rw [← e3, upd_ne wa, upd_ne ne4]; exact w2
    have r3 : H3 wr = some (.dK []) := by rw [← e3, upd_ne ne1.symm, upd_ne ne5]; exact r2
    have u3 : H3 ru = some (.dT []) := by rw [← e3, upd_ne ne3.symm]; exact upd_same
    have k3 : Kp [a] H2 H3 := by rw [← e3]; exact ((Kp.refl [a] H2).new hru).put (.inl (List.mem_singleton.mpr rfl))
    refine fun le hle => ?_
    have ne6 : a ≠ le := ne_of_none a3 hle
    have ne7 : w ≠ le := ne_of_none w3 hle
    have ne8 : wr ≠ le := ne_of_none r3 hle
    have ne9 : ru ≠ le := ne_of_none u3 hle
    refine ⟨_, rfl, a, _, dx, _, rfl, (upd_ne ne6).trans a3, T.cl_Plan, T.nf_Plan__least, (by show 3 < 1000; decide), ?_⟩
    generalize e4 : upd (upd H3 le (.dT [])) a _ = H4
    have a4 : H4 a = some (.ins A.C_Plan dx (planFs w wr ru le)) := by rw [← e4, upd_same]; rfl
    have w4 : H4 w = some (.dK []) := by rw [← e4, upd_ne wa, upd_ne ne7]; exact w3
    have r4 : H4 wr = some (.dK []) := by rw [← e4, upd_ne ne1.symm, upd_ne ne8]; exact r3
    have u4 : H4 ru = some (.dT []) := by rw [← e4, upd_ne ne3.symm, upd_ne ne9]; exact u3
    have l4 : H4 le = some (.dT []) := by rw [← e4, upd_ne ne6.symm]; exact upd_same
    have k4 : Kp [a] H3 H4 := by rw [← e4]; exact ((Kp.refl [a] H3).new hle).put (.inl (List.mem_singleton.mpr rfl))
    have f2 : H wr = none := k1.free hwr
    have f3 : H ru = none := k1.free (k2.free hru)
    have f4 : H le = none := k1.free (k2.free (k3.free hle))
    exact q w wr ru le H4 (((k1.trans k2).trans k3).trans k4) hw f2 f3 f4 ⟨⟨dx, a4⟩, ⟨[], w4, rfl, fun i t s z => by simp at z⟩, r4, ⟨_, u4⟩, ⟨_, l4, Nat.le_refl 0⟩, ne2, ne9, List.nodup_nil, List.nodup_nil⟩
theorem ok_Plan___len__ (T : Tx K mg A) : FnOk P w K mg base CX0 1 A.f_Plan___len__ A.d_Plan___len__ ps_Plan___len__ (sp_Plan___len__ K A) := by
  refine T.F_Plan___len__.ok sc_Plan___len__ (fun vs H Q E h => ?_) (fun cdv Ar outer s H vs Q E hr h => ?_)
  · obtain ⟨a, w, wr, ru, le, S, rfl, _⟩ := h; rfl
  · obtain ⟨a, w, wr, ru, le, S, rfl, hp, q⟩ := h
    obtain ⟨dx, ho⟩ := hp.o
    obtain ⟨ts, hw, hl, _⟩ := hp.W
    refine ⟨_, (pss_one (ps_ret (pe_callB call_lenD (by rfl) T.n_len PySem.boot_len (pa_cons (pe_fld (pv 0) rfl) pa_nil)))), ?_⟩
    refine ⟨_, rfl, _, _, _, _, _, rfl, ho, T.cl_Plan, T.nf_Plan__writes, pf1, _, _, rfl, hw, ?_⟩
    have e : (wK S ts).length = S.length := by unfold wK; rw [List.length_map, List.length_zip, hl, Nat.min_self]
    show Q (V.int _) H
    rw [e]
    exact q
theorem fr_Plan___len__ (T : Tx K mg A) : FnR P w K mg base CX0 1 A.f_Plan___len__ (sp_Plan___len__ K A) := ((ok_Plan___len__ T).raw T.b_Plan___len__ .nil).imp fun vs H Q E h => by rw [List.append_nil]; exact h
theorem ok_Plan___contains__ (T : Tx K mg A) : FnOk P w K mg base CX0 1 A.f_Plan___contains__ A.d_Plan___contains__ ps_Plan___contains__ (sp_Plan___contains__ K A) := by
  refine T.F_Plan___contains__.ok sc_Plan___contains__ (fun vs H Q E h => ?_) (fun cdv Ar outer s H vs Q E hr h => ?_)
  · obtain ⟨a, w, wr, ru, le, S, x, rfl, _⟩ := h; rfl
  · obtain ⟨a, w, wr, ru, le, S, x, rfl, hp, ⟨t, ht, hk⟩, q⟩ := h
    obtain ⟨dx, ho⟩ := hp.o
    obtain ⟨ts, hw, hl, _⟩ := hp.W
    refine ⟨_, (pss_one (ps_ret (pe_and (pe_callB (r := rIsi K) call_isi (by rfl) T.n_isinstance (by decide +kernel) (pa_cons (pv 1) (pa_cons (pe_bltn (v := .ty "str") (u := .type "str") (by rfl) T.n_str (by decide +kernel) rfl) pa_nil))) (pe_one (pe_cmp (pc_din (hu_of hr) (pv 1) (pe_fld (pv 0) rfl))))))), ?_⟩
    refine ⟨_, rfl, _, _, t, _, isStr x, rfl, .ty _, ht, hk, _, rfl, ?_⟩
    cases x with
    | str x =>
      refine ifT rfl ?_
      refine ⟨_, rfl, _, rfl, _, _, _, _, _, rfl, ho, T.cl_Plan, T.nf_Plan__writes, pf1, _, _, rfl, DGet.k (k := Sum.inr x) hw, ?_⟩
      rw [Plan.W_in hl]; exact q
    | _ => exact ifF rfl q
theorem fm_Plan___contains__ (T : Tx K mg A) : FnM P w K mg base 1 A.f_Plan___contains__ (sp_Plan___contains__ K A) := by
  refine fnM_of T.F_Plan___contains__ sc_Plan___contains__ T.b_Plan___contains__ (fun vs H Q E h => ?_) (fun cdv Ar outer s H vs Q E hr h => ?_)
  · obtain ⟨a, w, wr, ru, le, S, x, rfl, _⟩ := h; rfl
  · obtain ⟨a, w, wr, ru, le, S, x, rfl, hp, ⟨t, ht, hk⟩, q⟩ := h
    obtain ⟨dx, ho⟩ := hp.o
    obtain ⟨ts, hw, hl, _⟩ := hp.W
    refine ⟨_, (pss_one (ps_ret (pe_and (pe_callB (r := rIsi K) call_isi (by rfl) T.n_isinstance (by decide +kernel) (pa_cons (pv 1) (pa_cons (pe_bltn (v := .ty "str") (u := .type "str") (by rfl) T.n_str (by decide +kernel) rfl) pa_nil))) (pe_one (pe_cmp (pc_din (huH hr) (pv 1) (pe_fld (pv 0) rfl))))))), ?_⟩
    refine ⟨_, rfl, _, _, t, _, isStr x, rfl, .ty _, ht, hk, _, rfl, ?_⟩
    cases x with
    | str x =>
      refine ifT rfl ?_
      refine ⟨_, rfl, _, rfl, _, _, _, _, _, rfl, ho, T.cl_Plan, T.nf_Plan__writes, pf1, _, _, rfl, DGet.k (k := Sum.inr x) hw, ?_⟩
      rw [Plan.W_in hl]; exact q
    | _ => exact ifF rfl q
theorem fr_Plan___contains__ (T : Tx K mg A) : FnR P w K mg base CX0 1 A.f_Plan___contains__ (sp_Plan___contains__ K A) := ((ok_Plan___contains__ T).raw T.b_Plan___contains__ .nil).imp fun vs H Q E h => by rw [List.append_nil]; exact h
theorem ok_Plan_steps (T : Tx K mg A) : FnOk P w K mg base CX0 1 A.f_Plan_steps A.d_Plan_steps ps_Plan_steps (sp_Plan_steps K A) := by
  refine T.F_Plan_steps.ok sc_Plan_steps (fun vs H Q E h => ?_) (fun cdv Ar outer s H vs Q E hr h => ?_)
  · obtain ⟨a, w, wr, ru, le, S, rfl, _⟩ := h; rfl
  · obtain ⟨a, w, wr, ru, le, S, rfl, hp, q⟩ := h
    obtain ⟨dx, ho⟩ := hp.o
    obtain ⟨ts, hw, hl, _⟩ := hp.W
    refine ⟨_, (pss_one (ps_ret (pe_callTy (r := rTupD) (call_tupD rfl) (by rfl) T.n_tuple (by decide +kernel) (pa_cons (pe_fld (pv 0) rfl) pa_nil)))), ?_⟩
    refine ⟨_, rfl, _, _, _, _, _, rfl, ho, T.cl_Plan, T.nf_Plan__writes, pf1, _, _, rfl, hw, fun t ht => ?_⟩
    refine q t _ ht ?_ ((Kp.refl [] H).new ht)
    rw [upd_same, keysV_wK hl]
theorem ok_Plan_files (T : Tx K mg A) : FnOk P w K mg base CX0 1 A.f_Plan_files A.d_Plan_files ps_Plan_files (sp_Plan_files K A) := by
  refine T.F_Plan_files.ok sc_Plan_files (fun vs H Q E h => ?_) (fun cdv Ar outer s H vs Q E hr h => ?_)
  · obtain ⟨a, w, wr, ru, le, S, rfl, _⟩ := h; rfl
  · obtain ⟨a, w, wr, ru, le, S, rfl, hp, q⟩ := h
    obtain ⟨dx, ho⟩ := hp.o
    refine ⟨_, (pss_one (ps_ret (pe_callTy (r := rTupD) (call_tupD rfl) (by rfl) T.n_tuple (by decide +kernel) (pa_cons (pe_fld (pv 0) rfl) pa_nil)))), ?_⟩
    refine ⟨_, rfl, _, _, _, _, _, rfl, ho, T.cl_Plan, T.nf_Plan__writer, pf2, _, _, rfl, hp.R, fun t ht => ?_⟩
    refine q t _ ht ?_ ((Kp.refl [] H).new ht)
    rw [upd_same, keysV_rK]
theorem ok_refuse_missing (T : Tx K mg A) : FnOk P w K mg base (L2.CX P w) 3 A.f_refuse_missing A.d_refuse_missing ps_refuse_missing (sp_refuse_missing K A) := by
  refine T.F_refuse_missing.okX sc_refuse_missing (fun vs H Q E h => ?_) (fun cdv Ar outer s H vs Q E hr h => ?_)
  · obtain ⟨a, w, wr, ru, le, S, x, rfl, _⟩ := h; rfl
  · obtain ⟨a, w, wr, ru, le, S, x, rfl, hp, q, qx⟩ := h
    refine ⟨_, (pss_one (ps_if (pt_cmpR (r := rInO A.C_Plan (sp_Plan___contains__ K A) true) (op_notInO T.m_Plan___contains__ (fr_Plan___contains__ T) (hr.mono (by decide)) (fun σ => pass0At σ)) (pv 1) (pv 0) rfl)
  (pss_one (ps_raise rfl (takes_of rfl rfl rfl rfl) (pmk_oex T.oex_NoStep T.ini_NoStep T.tin_NoStep (ok_NoStep___init__ T) (hr.mono (by decide)) T.b_NoStep___init__ .nil pass0 rfl T.g_NoStep (pa_cons (pv 1) pa_nil))))
  pss_nil)), ?_⟩
    obtain ⟨dx, ho⟩ := hp.o
    refine ⟨_, rfl, _, rfl, a, dx, _, rfl, ho, a, w, wr, ru, le, S, _, rfl, hp, ⟨_, .base (.str _), show _ = some true from kit_ty (by decide +kernel)⟩, _, rfl, _, rfl, ?_⟩
    by_cases hx : x ∈ stepsOf S
    · exact ifF (by simp [inSteps, hx]) (q hx)
    · exact ifT (by simp [inSteps, hx]) ⟨_, rfl, raise1 (qx hx)⟩
theorem ok_Plan_step_of (T : Tx K mg A) : FnOk P w K mg base (L2.CX P w) 3 A.f_Plan_step_of A.d_Plan_step_of ps_Plan_step_of (sp_Plan_step_of K A) := by
  refine T.F_Plan_step_of.okX sc_Plan_step_of (fun vs H Q E h => ?_) (fun cdv Ar outer s H vs Q E hr h => ?_)
  · obtain ⟨a, w, wr, ru, le, S, x, rfl, _⟩ := h; rfl
  · obtain ⟨a, w, wr, ru, le, S, x, rfl, hp, q, qx⟩ := h
    obtain ⟨dx, ho⟩ := hp.o
    refine ⟨_, (pss_cons (ps_if (PW.pt (pw_or (pt_not (pt_val (pe_callB (r := rIsi K) call_isi (by rfl) T.n_isinstance (by decide +kernel) (pa_cons (pv 1) (pa_cons (pe_bltn (v := .ty "str") (u := .type "str") (by rfl) T.n_str (by decide +kernel) rfl) pa_nil))))) (pw_or1 (pt_cmp (pc_dnotin (hu_of hr) (pv 1) (pe_fld (pv 0) rfl))))))
  (pss_one (ps_raise rfl (takes_of rfl rfl rfl rfl) (pmk_oex T.oex_NoFile T.ini_NoFile T.tin_NoFile (ok_NoFile___init__ T) (hr.mono (by decide)) T.b_NoFile___init__ .nil pass0 rfl T.g_NoFile (pa_cons (pv 1) pa_nil))))
  pss_nil)
  (pss_one (ps_ret (pe_dget (hu_of hr) (pe_fld (pv 0) rfl) (pv 1) (fun _ _ => rfl))))), ?_⟩
    refine ⟨_, rfl, _, _, _, _, true, rfl, .ty _, .base (.str _), kit_ty (by decide +kernel), _, rfl, ifF rfl ?_⟩
    refine ⟨_, rfl, _, rfl, _, _, _, _, _, rfl, ho, T.cl_Plan, T.nf_Plan__writer, pf2, _, _, rfl, DGet.k (k := Sum.inr x) hp.R, _, rfl, ?_⟩
    by_cases hx : x ∈ filesOf S
    · refine ifF (by rw [rK_in, decide_eq_true hx]; rfl) ?_
      obtain ⟨s, hs, hf⟩ := List.mem_flatMap.mp hx
      refine ⟨_, rfl, _, _, _, _, _, rfl, ho, T.cl_Plan, T.nf_Plan__writer, pf2, _, rfl, _, _, rfl, ?_, q s hs hf⟩
      rw [← rK_at hp.df hs hf]
      exact DGet.k (k := Sum.inr x) hp.R
    · exact ifT (by rw [rK_in, decide_eq_false hx]; rfl) ⟨_, rfl, raise1 (qx hx)⟩
theorem fr_Plan_step_of (T : Tx K mg A) : FnR P w K mg base (L2.CX P w) 3 A.f_Plan_step_of (sp_Plan_step_of K A) := ((ok_Plan_step_of T).raw T.b_Plan_step_of .nil).imp fun vs H Q E h => by rw [List.append_nil]; exact h
theorem ok_Plan_files_of (T : Tx K mg A) : FnOk P w K mg base (L2.CX P w) 4 A.f_Plan_files_of A.d_Plan_files_of ps_Plan_files_of (sp_Plan_files_of K A) := by
  refine T.F_Plan_files_of.okX sc_Plan_files_of (fun vs H Q E h => ?_) (fun cdv Ar outer s H vs Q E hr h => ?_)
  · obtain ⟨a, w, wr, ru, le, S, x, rfl, _⟩ := h; rfl
  · obtain ⟨a, w, wr, ru, le, S, x, rfl, hp, q, qx⟩ := h
    obtain ⟨dx, ho⟩ := hp.o
    obtain ⟨ts, hw, hl, hts⟩ := hp.W
    refine ⟨_, (pss_cons (ps_expr (pe_callS (ok_refuse_missing T) (hr.mono (by decide)) rfl T.g_refuse_missing T.k_refuse_missing T.b_refuse_missing (fun σ => passAt (takes_of rfl rfl rfl rfl) σ) (pa_cons (pv 0) (pa_cons (pv 1) pa_nil))))
  (pss_one (ps_ret (pe_dget (hu_of hr) (pe_fld (pv 0) rfl) (pv 1) (fun _ _ => rfl))))), ?_⟩
    refine ⟨_, rfl, _, rfl, a, w, wr, ru, le, S, x, rfl, hp, fun hx => ?_, qx⟩
    obtain ⟨s, hs, e⟩ := List.mem_map.mp hx
    obtain ⟨i, hi⟩ := List.getElem?_of_mem hs
    have lt : i < ts.length := by rw [hl]; exact lt_of_get hi
    have ht : ts[i]? = some ts[i] := List.getElem?_eq_getElem lt
    refine ⟨_, rfl, _, _, _, _, _, rfl, ho, T.cl_Plan, T.nf_Plan__writes, pf1, _, rfl, _, _, rfl, ?_, q s hs e ts[i] (hts i _ s ht hi)⟩
    rw [← wK_at hl hp.ds hi ht, e]
    exact DGet.k (k := Sum.inr x) hw
theorem fr_Plan_files_of (T : Tx K mg A) : FnR P w K mg base (L2.CX P w) 4 A.f_Plan_files_of (sp_Plan_files_of K A) := ((ok_Plan_files_of T).raw T.b_Plan_files_of .nil).imp fun vs H Q E h => by rw [List.append_nil]; exact h
theorem ok_Plan_define (T : Tx K mg A) : FnR P w K mg base (L2.CX P w) 3 A.f_Plan_define (fun vs H Q E => ∃ ws rest, vs = ws ++ rest ∧ ws.length = 2 ∧ rest.length ≤ sizeLine ∧ ∀ p, H p = none → sp_Plan_define K A (ws ++ [V.ref p]) (upd H p (.tup rest)) Q E) := by
  refine star_fn (ps := ["self", "step"]) (pv := "files") T.F_Plan_define sc_Plan_define (fun kV doc pm an cdv ct us rest hl => match us, hl with | [a, b], _ => match rest with | [] => rfl | r :: rs => rfl) (fun cdv Ar outer s H vs Q E hr h => ?_)
  obtain ⟨a, w, wr, ru, le, S, x, fs, p, rfl, hp, hf, nx, nf, z1, z2, z3, q, qx⟩ := h
  refine ⟨_, (pss_cons (ps_for (passes_of rfl) rfl (pi_tup (pe_tupK (pa_cons (pv 1) (StX.pa_star (pv 2) pa_nil)))) (pg_name (i := 3) sc_Plan_define.nd rfl (Or.inl rfl))
  (pss_one (ps_if (pt_not (pt_val (pe_call (ok_is_name T) (hr.mono (by decide)) rfl T.g_is_name T.k_is_name T.b_is_name .nil pass0 (pa_cons (pv 3) pa_nil))))
  (pss_one (ps_raise rfl (takes_of rfl rfl rfl rfl) (pmk_oex T.oex_BadName T.ini_BadName T.tin_BadName (ok_BadName___init__ T) (hr.mono (by decide)) T.b_BadName___init__ .nil pass0 rfl T.g_BadName (pa_cons (pv 3) pa_nil))))
  pss_nil)))
  (pss_cons (ps_if (pt_cmp (pc_din (hu_of hr) (pv 1) (pe_fld (pv 0) rfl)))
  (pss_one (ps_raise rfl (takes_of rfl rfl rfl rfl) (pmk_oex T.oex_NameTaken T.ini_NameTaken T.tin_NameTaken (ok_NameTaken___init__ T) (hr.mono (by decide)) T.b_NameTaken___init__ .nil pass0 rfl T.g_NameTaken (pa_cons (pv 1) pa_nil))))
  pss_nil)
  (pss_cons (ps_for (passes_of rfl) rfl (pi_enumT (by rfl) T.n_enumerate (pa_cons (pv 2) pa_nil)) (pg_tup rfl (pgs_cons (pg_name (i := 4) sc_Plan_define.nd rfl (Or.inl rfl)) (pgs_cons (pg_name (i := 5) sc_Plan_define.nd rfl (Or.inl rfl)) pgs_nil)))
  (pss_one (ps_if (PW.pt (pw_or (pt_cmp (pc_din (hu_of hr) (pv 5) (pe_fld (pv 0) rfl))) (pw_or1 (pt_cmpR (r := rIn K false) op_in_seq (pv 5) (pe_slice (r := rSlA K) sl_tupA (pv 2) po_none (po_some (pv 4))) rfl))))
  (pss_one (ps_raise rfl (takes_of rfl rfl rfl rfl) (pmk_oex T.oex_NameTaken T.ini_NameTaken T.tin_NameTaken (ok_NameTaken___init__ T) (hr.mono (by decide)) T.b_NameTaken___init__ .nil pass0 rfl T.g_NameTaken (pa_cons (pv 5) pa_nil))))
  pss_nil)))
  (pss_cons (ps_dput (hu_of hr) (pe_fld (pv 0) rfl) (pv 1) (pv 2) rfl)
  (pss_cons (ps_for (passes_of rfl) rfl (pi_tup (pv 2)) (pg_name (i := 5) sc_Plan_define.nd rfl (Or.inl rfl))
  (pss_one (ps_dput (hu_of hr) (pe_fld (pv 0) rfl) (pv 5) (pv 1) rfl)))
  (pss_one (ps_dput (hu_of hr) (pe_fld (pv 0) rfl) (pe_tupK (pa_cons (pv 1) (pa_cons (pv 1) pa_nil))) pe_int rfl))))))), ?_⟩
  obtain ⟨dx, ho⟩ := id hp.o
  obtain ⟨ts, hw, hl, hts⟩ := id hp.W
  obtain ⟨kl, hle, hz⟩ := id hp.L
  -- all are names
  refine ⟨_, rfl, _, rfl, p, _, rfl, .inl (SqT.of hf), slen (by simp; omega), fun t0 H1 hn1 ht1 k1 => ⟨_, rfl, ⟨_, SqT.of ht1⟩, for_tup (K := K) (a := t0) (xs := V.str x :: (fs.map V.str ++ []))
    (fun i σ H' => (∃ v, σ = [some (.ref a), some (.str x), some (.ref p), v, none, none]) ∧ Kp [] H1 H') ⟨⟨none, rfl⟩, Kp.refl [] H1⟩ (fun i σ H' _ z => SqT.of (z.2.at0 ht1)) ?_ ?_⟩⟩
  · rintro i y σ H2 hy ⟨⟨v, rfl⟩, k⟩
    obtain ⟨z, rfl, nz⟩ : ∃ z, y = .str z ∧ Nm z := by
      cases i with
      | zero => cases hy; exact ⟨x, rfl, nx⟩
      | succ i =>
        rw [List.getElem?_cons_succ, List.append_nil] at hy
        obtain ⟨z, hz, rfl⟩ := getMap hy
        exact ⟨z, rfl, nf z (List.mem_of_getElem? hz)⟩
    exact ⟨_, rfl, z, rfl, nz, fun H3 k3 => ⟨_, rfl, ifF rfl ⟨⟨_, rfl⟩, k.trans k3⟩⟩⟩
  rintro σ H2 ⟨⟨v, rfl⟩, k2'⟩
  have k2 : Kp [] H H2 := k1.trans k2'
  refine ⟨_, rfl, _, rfl, _, _, _, _, _, rfl, k2.at0 ho, T.cl_Plan, T.nf_Plan__writes, pf1, _, _, rfl, DGet.k (k := Sum.inr x) (k2.at0 hw), _, rfl, ?_⟩
  rw [Plan.W_in hl]
  by_cases hx : x ∈ stepsOf S
  · refine ifT (decide_eq_true hx) ⟨_, rfl, raise1 fun d H' hd hk he => qx x (by unfold taken; rw [if_pos hx]) d H' (k2.free hd) (k2.trans hk) he⟩
  refine ifF (decide_eq_false hx) ?_
  -- no file is there, none stands twice
  refine ⟨_, rfl, p, _, rfl, SqT.of (k2.at0 hf), for_it (walk_enumT (K := K) (a := p) (xs := fs.map V.str)) (fun i σ H' => (∃ v4 v5, σ = [some (.ref a), some (.str x), some (.ref p), v, v4, v5]) ∧ Kp [] H2 H' ∧ ∀ (j : Nat) (f : Str), j < i → fs[j]? = some f → f ∉ filesOf S ∧ f ∉ fs.take j)
    ⟨⟨none, none, rfl⟩, Kp.refl [] H2, fun j f z => absurd z (Nat.not_lt_zero j)⟩ (fun i σ H' _ z => SqT.of ((k2.trans z.2.1).at0 hf)) ?_ ?_⟩
  · rintro i _ σ H3 H4 hi ⟨⟨v4, v5, rfl⟩, k3, hd⟩ ⟨tt, _, _, rfl, hTn, hE, e1, hy⟩
    obtain rfl := Option.some.inj e1
    obtain ⟨f, hfi, rfl⟩ := getMap hy
    have li := lt_of_get hfi
    have hT : H4 tt = some (.tup [V.int (i : Nat), V.str f]) := by rw [hE]; exact upd_same
    have kT : Kp [] H3 H4 := by rw [hE]; exact (Kp.refl [] _).new hTn
    have k4 : Kp [] H2 H4 := k3.trans kT
    have k04 : Kp [] H H4 := k2.trans k4
    refine ⟨_, _, rfl, .inl (.inl hT), rfl, _, _, rfl, _, _, rfl, rfl, ?_⟩
    refine ⟨_, rfl, _, rfl, _, _, _, _, _, rfl, k04.at0 ho, T.cl_Plan, T.nf_Plan__writer, pf2, _, _, rfl, DGet.k (k := Sum.inr f) (k04.at0 hp.R), _, rfl, ?_⟩
    rw [rK_in]
    have bad : (f ∈ filesOf S ∨ f ∈ fs.take i) → taken S x fs = some f := fun z => by
      unfold taken; rw [if_neg hx]; exact dupIn_some (k := i) (fun j g hj hg => by simpa using hd j g hj hg) hfi (by simpa using z)
    by_cases h1 : f ∈ filesOf S
    · refine ifT (decide_eq_true h1) (ifT rfl ?_)
      exact ⟨_, rfl, raise1 fun d H' hd' hk he => qx f (bad (.inl h1)) d H' (k04.free hd') (k04.trans hk) he⟩
    refine ifF (decide_eq_false h1) ?_
    refine ⟨_, rfl, _, rfl, _, rfl, _, rfl, p, _, rfl, SqT.of (k04.at0 hf), fun z => ?_, fun _ u hu => ?_⟩
    · have z2 := z.2
      rw [HT.sIx_nat, List.length_map] at z2
      omega
    · generalize e5 : upd H4 u _ = H5
      have k5 : Kp [] H4 H5 := by rw [← e5]; exact (Kp.refl [] _).new hu
      have h5 : H5 u = some (.tup ((fs.take i).map V.str)) := by rw [← e5, upd_same, cutV_to V.str fs (k := (i : Int)) (by omega), Int.toNat_natCast]
      have k05 := k04.trans k5
      refine ⟨_, _, rfl, .inr (SqT.of h5), rfl, flat_strs, _, rfl, ?_⟩
      by_cases h2 : f ∈ fs.take i
      · refine ifT (by show inV _ _ = true; rw [inV_str]; exact decide_eq_true h2) ?_
        exact ⟨_, rfl, raise1 fun d H' hd' hk he => qx f (bad (.inr h2)) d H' (k05.free hd') (k05.trans hk) he⟩
      · refine ifF (by show inV _ _ = false; rw [inV_str]; exact decide_eq_false h2) ?_
        refine ⟨⟨_, _, rfl⟩, k4.trans k5, fun j g hj hg => ?_⟩
        rcases Nat.lt_succ_iff_lt_or_eq.mp hj with q' | q'
        · exact hd j g q' hg
        · subst q'
          rw [hfi] at hg; cases hg
          exact ⟨h1, h2⟩
  rintro σ H3 ⟨⟨v4, v5, rfl⟩, k3, hd⟩
  have hd' : ∀ (i : Nat) (f : Str), fs[i]? = some f → f ∉ filesOf S ∧ f ∉ fs.take i := fun i f hi => hd i f (by rw [List.length_map]; exact lt_of_get hi) hi
  have k03 : Kp [] H H3 := k2.trans k3
  -- the step
  have lw : (wK S ts).length = S.length := by unfold wK; rw [List.length_map, List.length_zip, hl, Nat.min_self]
  refine ⟨_, rfl, _, rfl, _, _, _, _, _, rfl, k03.at0 ho, T.cl_Plan, T.nf_Plan__writes, pf1, _, rfl, _, _, rfl, DPut.k (k := Sum.inr x) (k03.at0 hw) (slenlt (by rw [lw]; omega)), ?_⟩
  generalize e4 : upd H3 w _ = H4
  have w4 : H4 w = some (.dK (wK S ts ++ [(.inr x, .ref p)])) := by
    rw [← e4, upd_same, putK_new]
    rw [keys_wK hl]; exact fun z => hx (inr_mem.mp z)
  have k4 : Kp [w] H3 H4 := by rw [← e4]; exact (Kp.refl [w] _).put (.inl (List.mem_singleton.mpr rfl))
  have aw : a ≠ w := ne_of ho hw (by intro z; cases z)
  have pw : p ≠ w := ne_of hf hw (by intro z; cases z)
  have lew : le ≠ w := ne_of hle hw (by intro z; cases z)
  have o4 := k4.at1 (k03.at0 ho) aw
  have p4 := k4.at1 (k03.at0 hf) pw
  have r4 := k4.at1 (k03.at0 hp.R) hp.n1.symm
  have l4 := k4.at1 (k03.at0 hle) lew
  -- its files
  have lr : (rK S).length = (filesOf S).length := by rw [← List.length_map (f := (·.1)), keys_rK, List.length_map]
  refine ⟨_, rfl, p, rfl, ⟨_, SqT.of p4⟩, for_tup (K := K) (a := p) (xs := fs.map V.str) (fun i σ H' => (∃ v6, σ = [some (.ref a), some (.str x), some (.ref p), v, v4, v6]) ∧ Kp [wr] H4 H' ∧ H' wr = some (.dK (rK S ++ (fs.take i).map fun f => (.inr f, .str x))))
    ⟨⟨v5, rfl⟩, Kp.refl [wr] H4, by rw [r4]; simp⟩ (fun i σ H' _ z => SqT.of (z.2.1.at1 p4 (ne_of hf hp.R (by intro z; cases z)))) ?_ ?_⟩
  · rintro i y σ H5 hy ⟨⟨v6, rfl⟩, k5, r5⟩
    obtain ⟨f, hfi, rfl⟩ := getMap hy
    have li := lt_of_get hfi
    have awr : a ≠ wr := ne_of ho hp.R (by intro z; cases z)
    refine ⟨_, rfl, _, rfl, _, _, _, _, _, rfl, k5.at1 o4 awr, T.cl_Plan, T.nf_Plan__writer, pf2, _, rfl, _, _, rfl, DPut.k (k := Sum.inr f) r5 (slenlt (by rw [List.length_append, lr, List.length_map, List.length_take]; omega)), ?_⟩
    refine ⟨⟨_, rfl⟩, k5.put (.inl (List.mem_singleton.mpr rfl)), ?_⟩
    have nd := hd' i f hfi
    rw [upd_same, putK_new]
    · rw [List.take_add_one, hfi]; simp
    · rw [List.map_append, keys_rK]
      intro z
      rcases List.mem_append.mp z with z | z
      · exact nd.1 (inr_mem.mp z)
      · obtain ⟨g, hg, e⟩ := List.mem_map.mp z
        obtain ⟨g', hg', rfl⟩ := List.mem_map.mp hg
        cases e
        exact nd.2 hg'
  rintro σ H5 ⟨⟨v6, rfl⟩, k5, r5⟩
  rw [List.length_map, List.take_length] at r5
  have awr : a ≠ wr := ne_of ho hp.R (by intro z; cases z)
  have ler : le ≠ wr := ne_of hle hp.R (by intro z; cases z)
  have o5 := k5.at1 o4 awr
  have l5 := k5.at1 l4 ler
  have w5 := k5.at1 w4 hp.n1
  -- its least shift
  refine ⟨_, rfl, _, _, _, _, _, rfl, o5, T.cl_Plan, T.nf_Plan__least, pf4, _, rfl, _, rfl, (by show 2 ≤ sizeLine; decide), fun u H6 hnu hu k6 => ?_⟩
  refine ⟨_, _, rfl, DPut.t (k := [Sum.inr x, Sum.inr x]) (k6.at0 l5) hu (slenlt (by omega)), ?_⟩
  generalize e7 : upd H6 le _ = H7
  have k7 : Kp [le] H6 H7 := by rw [← e7]; exact (Kp.refl [le] _).put (.inl (List.mem_singleton.mpr rfl))
  have l7 : H7 le = some (.dT (putK kl [Sum.inr x, Sum.inr x] (.int 0))) := by rw [← e7]; exact upd_same
  have r7 := k7.at1 (k6.at0 r5) ler.symm
  have w7 := k7.at1 (k6.at0 w5) lew.symm
  have kk : Kp [w, wr, le] H H7 := by
    have m : ∀ {b : Addr} {l : List Addr}, (∀ c ∈ l, c ∈ [w, wr, le]) → ∀ c ∈ l, c ∈ [w, wr, le] ∨ H c = none := fun h c hc => .inl (h c hc)
    have s1 : Kp [w, wr, le] H H4 := (k03.mono (by simp)).step k4 (fun c hc => .inl (by simp [List.mem_singleton.mp hc]))
    have s2 : Kp [w, wr, le] H H5 := s1.step k5 (fun c hc => .inl (by simp [List.mem_singleton.mp hc]))
    exact (s2.step0 k6).step k7 (fun c hc => .inl (by simp [List.mem_singleton.mp hc]))
  have tn : taken S x fs = none := by
    unfold taken; rw [if_neg hx]; exact dupIn_none fun i f hi => by simpa using hd' i f hi
  have lp : (putK kl [Sum.inr x, Sum.inr x] (.int 0)).length ≤ S.length + 1 := by
    have := putK_len (kvs := kl) (k := [Sum.inr x, Sum.inr x]) (v := .int 0); omega
  exact q tn H7 kk (hp.more kk hw hl hts hf w7 r7 l7 lp hx hd')
/-- as it is called -/
def spDefine (C E1 : Addr) : Sp := fun vs H Q E => ∃ (a w wr ru le : Addr) (S : Steps) (x : Str) (fs : List Str), vs = .ref a :: .str x :: fs.map V.str ∧ Plan C H a w wr ru le S ∧ Nm x ∧ (∀ f ∈ fs, Nm f) ∧
  S.length ≤ 1000 ∧ (filesOf S).length ≤ 1000 ∧ fs.length ≤ 1000 ∧ (taken S x fs = none → ∀ H', Kp [w, wr, le] H H' → Plan C H' a w wr ru le (S ++ [(x, fs)]) → Q .non H') ∧
  (∀ y, taken S x fs = some y → ∀ d H', H d = none → Kp [] H H' → H' d = some (.xd [("name", .str y)]) → E (.ref E1) (some d) H')
theorem fr_Plan_define (T : Tx K mg A) : FnR P w K mg base (L2.CX P w) 3 A.f_Plan_define (spDefine A.C_Plan A.C_NameTaken) := (ok_Plan_define T).imp fun vs H Q E h => by
  obtain ⟨a, w, wr, ru, le, S, x, fs, rfl, hp, nx, nf, z1, z2, z3, q, qx⟩ := h
  refine ⟨[.ref a, .str x], fs.map V.str, rfl, rfl, slen (by simp; omega), fun p hn => ?_⟩
  have k0 : Kp [] H (upd H p (.tup (fs.map V.str))) := (Kp.refl [] H).new hn
  refine ⟨a, w, wr, ru, le, S, x, fs, p, rfl, hp.kp k0 (by simp), upd_same, nx, nf, z1, z2, z3, fun tn H' k P => q tn H' ?_ P, fun y ty d H' hd k he => qx y ty d H' (k0.free hd) (k0.trans k) he⟩
  exact (k0.mono (by simp)).step k (fun b hb => .inl hb)
theorem ok__law_cell (T : Tx K mg A) : FnOk P w K mg base CX0 1 A.f__law_cell A.d__law_cell ps__law_cell (sp__law_cell K A) := by
  refine T.F__law_cell.ok sc__law_cell (fun vs H Q E h => ?_) (fun cdv Ar outer s H vs Q E hr h => ?_)
  · obtain ⟨_, _, _, rfl, _⟩ := h
    rfl
  · obtain ⟨a, ns, j, rfl, g1, g2, q⟩ := h
    refine ⟨_, (pss_cons (ps_if (pt_cmpR op_lt (pv 1) (pe_callB (r := rLenK K) call_lenK (by rfl) T.n_len PySem.boot_len (pa_cons (pv 0) pa_nil)) (nomark _))
  (pss_one (ps_ret (pe_ix (r := rIxL K) ix_list (pv 0) (pv 1) (fun _ _ => rfl))))
  pss_nil)
  (pss_one (ps_ret pe_int))), ?_⟩
    refine ⟨_, rfl, _, rfl, _, _, ((ns).length : Int), rfl, .inl g1, (by simp), _, _, rfl, rfl, _, rfl, ite2 (fun hc3 => ?_) (fun hc3 => ?_)⟩
    · have hc3 : j < ((ns).length : Int) := by simpa using hc3
      refine ⟨_, rfl, _, rfl, ?_⟩
      obtain ⟨x4, hx5, hy6⟩ := atI_map (f := V.int) (xs := ns) (i := j) (by first | omega | assumption | decide | (simp; done) | (simp; omega)) (by first | omega | assumption | decide | (simp; done) | (simp; omega))
      refine ⟨_, _, _, _, rfl, rfl, g1, hy6, ?_⟩
      exact q x4
    · have hc3 : ¬ (j < ((ns).length : Int)) := by simpa using hc3
      exact q 0
theorem ok__law_pool (T : Tx K mg A) : FnOk P w K mg base CX0 1 A.f__law_pool A.d__law_pool ps__law_pool (sp__law_pool K A) := by
  refine T.F__law_pool.ok sc__law_pool (fun vs H Q E h => ?_) (fun cdv Ar outer s H vs Q E hr h => ?_)
  · obtain ⟨_, rfl, _⟩ := h
    rfl
  · obtain ⟨x, rfl, q⟩ := h
    refine ⟨_, (pss_cons (ps_set (i := 1) sc__law_pool.nd rfl (Or.inl rfl) (pe_op op_mul pe_int (pv 0)))
  (pss_cons (ps_if (pt_cmpR op_lt (pv 0) pe_int (nomark _))
  (pss_one (ps_set (i := 1) sc__law_pool.nd rfl (Or.inl rfl) (pe_op op_sub (pe_op op_sub pe_int (pe_op op_mul pe_int (pv 0))) pe_int)))
  pss_nil)
  (pss_cons (ps_if (pt_cmpR op_ge (pv 1) (pe_op op_pow pe_int pe_int) (nomark _))
  (pss_one (ps_ret (pe_lstK (pa_cons (pv 1) (pa_cons (pe_op op_mod (pe_callTy call_intK (by rfl) T.n_int (by decide +kernel) (pa_cons (pv 1) pa_nil)) pe_int) (pa_cons pe_int pa_nil))))))
  pss_nil)
  (pss_one (ps_ret (pe_lstK (pa_cons pe_int (pa_cons (pe_op op_mod (pe_callTy call_intK (by rfl) T.n_int (by decide +kernel) (pa_cons (pv 1) pa_nil)) pe_int) (pa_cons pe_int pa_nil))))))))), ?_⟩
    refine ⟨_, rfl, _, _, rfl, rfl, .inl (by decide), _, rfl, _, _, rfl, rfl, _, rfl, ite2 (fun hc1 => ?_) (fun hc1 => ?_)⟩
    · have hc1 : x < 0 := by simpa using hc1
      refine ⟨_, rfl, _, _, rfl, rfl, .inl (by decide), _, _, rfl, rfl, _, _, rfl, rfl, _, rfl, _, _, rfl, rfl, ⟨by first | decide | omega, by first | decide | omega, by first | decide | omega⟩, _, _, rfl, rfl, _, rfl, ite2 (fun hc2 => ?_) (fun hc2 => ?_)⟩
      · have hc2 : ((0 - (2 * x)) - 1) ≥ (10 ^ Int.toNat 18) := by simpa using hc2
        refine ⟨_, rfl, _, rfl, _, rfl, _, _, rfl, rfl, (by show (0 : Int) < 1000000007; first | decide | omega), (by show 3 ≤ sizeLine; decide), fun p3 H4 hn5 hp6 hk7 => ?_⟩
        exact q p3 H4 hk7 hn5 ⟨_, _, _, hp6, by omega, by omega, by omega, by omega, by omega⟩
      · have hc2 : ¬ (((0 - (2 * x)) - 1) ≥ (10 ^ Int.toNat 18)) := by simpa using hc2
        refine ⟨_, rfl, _, rfl, _, _, rfl, rfl, (by show (0 : Int) < 1000000007; first | decide | omega), (by show 3 ≤ sizeLine; decide), fun p8 H9 hn10 hp11 hk12 => ?_⟩
        exact q p8 H9 hk12 hn10 ⟨_, _, _, hp11, by omega, by omega, by omega, by omega, by omega⟩
    · have hc1 : ¬ (x < 0) := by simpa using hc1
      refine ⟨_, rfl, _, _, rfl, rfl, ⟨by first | decide | omega, by first | decide | omega, by first | decide | omega⟩, _, _, rfl, rfl, _, rfl, ite2 (fun hc13 => ?_) (fun hc13 => ?_)⟩
      · have hc13 : (2 * x) ≥ (10 ^ Int.toNat 18) := by simpa using hc13
        refine ⟨_, rfl, _, rfl, _, rfl, _, _, rfl, rfl, (by show (0 : Int) < 1000000007; first | decide | omega), (by show 3 ≤ sizeLine; decide), fun p14 H15 hn16 hp17 hk18 => ?_⟩
        exact q p14 H15 hk18 hn16 ⟨_, _, _, hp17, by omega, by omega, by omega, by omega, by omega⟩
      · have hc13 : ¬ ((2 * x) ≥ (10 ^ Int.toNat 18)) := by simpa using hc13
        refine ⟨_, rfl, _, rfl, _, _, rfl, rfl, (by show (0 : Int) < 1000000007; first | decide | omega), (by show 3 ≤ sizeLine; decide), fun p19 H20 hn21 hp22 hk23 => ?_⟩
        exact q p19 H20 hk23 hn21 ⟨_, _, _, hp22, by omega, by omega, by omega, by omega, by omega⟩
theorem ok__law_take (T : Tx K mg A) : FnOk P w K mg base CX0 1 A.f__law_take A.d__law_take ps__law_take (sp__law_take K A) := by
  refine T.F__law_take.ok sc__law_take (fun vs H Q E h => ?_) (fun cdv Ar outer s H vs Q E hr h => ?_)
  · obtain ⟨_, _, _, rfl, _⟩ := h
    rfl
  · obtain ⟨p, m, n, rfl, g1, g2, g3, g4, q⟩ := h
    refine ⟨_, (pss_cons (ps_if (pt_cmpR op_gt (pe_ix (r := rIxL K) ix_list (pv 0) pe_int (fun _ _ => rfl)) pe_int (nomark _))
  (pss_cons (ps_set (i := 2) sc__law_take.nd rfl (Or.inl rfl) (pe_op op_mod (pe_callTy call_intK (by rfl) T.n_int (by decide +kernel) (pa_cons (pe_ix (r := rIxL K) ix_list (pv 0) pe_int (fun _ _ => rfl)) pa_nil)) (pv 1)))
  (pss_cons (ps_asg (pe_op op_fdiv (pe_ix (r := rIxL K) ix_list (pv 0) pe_int (fun _ _ => rfl)) (pv 1)) (pg_sub (pv 0) pe_int set_listK))
  (pss_one (ps_ret (pv 2)))))
  pss_nil)
  (pss_cons (ps_asg (pe_op op_add (pe_ix (r := rIxL K) ix_list (pv 0) pe_int (fun _ _ => rfl)) pe_int) (pg_sub (pv 0) pe_int set_listK))
  (pss_cons (ps_set (i := 3) sc__law_take.nd rfl (Or.inl rfl) (pe_op op_mod (pe_callTy call_intK (by rfl) T.n_int (by decide +kernel) (pa_cons (pe_op op_pow (pe_op op_add (pe_op op_add (pe_ix (r := rIxL K) ix_list (pv 0) pe_int (fun _ _ => rfl)) (pe_op op_mul pe_int (pe_ix (r := rIxL K) ix_list (pv 0) pe_int (fun _ _ => rfl)))) pe_int) pe_int) pa_nil)) pe_int))
  (pss_one (ps_ret (pe_op op_mod (pe_op op_mod (pe_callTy call_intK (by rfl) T.n_int (by decide +kernel) (pa_cons (pe_op op_mul (pe_op op_add (pv 3) (pe_ix (r := rIxL K) ix_list (pv 0) pe_int (fun _ _ => rfl))) pe_int) pa_nil)) pe_int) (pv 1))))))), ?_⟩
    refine ⟨_, rfl, ?_⟩
    obtain ⟨a5, b6, c7, e8, z9, z91, z92, z93, z94⟩ := id g1
    refine ⟨_, _, _, _, rfl, rfl, (.inl (.inl e8)), rfl, _, _, rfl, rfl, _, rfl, ite2 (fun hc10 => ?_) (fun hc10 => ?_)⟩
    · have hc10 : a5 > 0 := by simpa using hc10
      refine ⟨_, rfl, _, _, _, _, rfl, rfl, (.inl (.inl e8)), rfl, _, rfl, _, rfl, _, _, rfl, rfl, (by show (0 : Int) < m; first | decide | omega), ?_⟩
      have em11 := Int.emod_nonneg a5 (show (m : Int) ≠ 0 by omega)
      have em12 := Int.emod_lt_of_pos a5 (show (0 : Int) < m by omega)
      refine ⟨_, rfl, _, _, _, _, rfl, rfl, (.inl (.inl e8)), rfl, _, rfl, _, _, rfl, rfl, ⟨by omega, by omega⟩, ?_⟩
      have em13 := Int.ediv_nonneg (show (0 : Int) ≤ a5 by omega) (show (0 : Int) ≤ m by omega)
      refine ⟨_, rfl, _, _, _, _, rfl, rfl, e8, rfl, fun H14 hp15 hk16 => ?_⟩
      refine ⟨_, rfl, ?_⟩
      exact q (a5 % m) H14 hk16 (by first | omega | assumption | decide | (simp; done) | (simp; omega)) (by first | omega | assumption | decide | (simp; done) | (simp; omega)) ⟨_, _, _, hp15, by omega, by omega, by omega, by omega, by omega⟩
    · have hc10 : ¬ (a5 > 0) := by simpa using hc10
      refine ⟨_, rfl, _, _, _, _, rfl, rfl, (.inl (.inl e8)), rfl, _, _, rfl, rfl, _, rfl, _, _, _, _, rfl, rfl, e8, rfl, fun H17 hp18 hk19 => ?_⟩
      refine ⟨_, rfl, _, _, _, _, rfl, rfl, (.inl (.inl hp18)), rfl, _, rfl, _, _, _, _, rfl, rfl, (.inl (.inl hp18)), rfl, _, _, rfl, rfl, .inl (by decide), _, _, rfl, rfl, _, _, rfl, rfl, _, _, rfl, rfl, ⟨by first | decide | omega, by first | decide | omega, by first | decide | omega⟩, _, rfl, _, _, rfl, rfl, (by show (0 : Int) < 2147483647; first | decide | omega), _, rfl, _, rfl, _, _, _, _, rfl, rfl, (.inl (.inl hp18)), rfl, _, _, rfl, rfl, _, _, rfl, rfl, .inr (by decide), _, rfl, _, _, rfl, rfl, (by show (0 : Int) < 2147483629; first | decide | omega), _, rfl, _, _, rfl, rfl, (by show (0 : Int) < m; first | decide | omega), ?_⟩
      have em20 := Int.emod_nonneg (((((((b6 + (7919 * (c7 + 1))) + 104729) ^ Int.toNat 5) % 2147483647) + (c7 + 1)) * 40692) % 2147483629) (show (m : Int) ≠ 0 by omega)
      have em21 := Int.emod_lt_of_pos (((((((b6 + (7919 * (c7 + 1))) + 104729) ^ Int.toNat 5) % 2147483647) + (c7 + 1)) * 40692) % 2147483629) (show (0 : Int) < m by omega)
      exact q ((((((((b6 + (7919 * (c7 + 1))) + 104729) ^ Int.toNat 5) % 2147483647) + (c7 + 1)) * 40692) % 2147483629) % m) H17 hk19 (by first | omega | assumption | decide | (simp; done) | (simp; omega)) (by first | omega | assumption | decide | (simp; done) | (simp; omega)) ⟨_, _, _, hp18, by omega, by omega, by omega, by omega, by omega⟩
theorem ok__law_names (T : Tx K mg A) : FnOk P w K mg base CX0 2 A.f__law_names A.d__law_names ps__law_names (sp__law_names K A) := by
  refine T.F__law_names.ok sc__law_names (fun vs H Q E h => ?_) (fun cdv Ar outer s H vs Q E hr h => ?_)
  · obtain ⟨_, _, _, rfl, _⟩ := h
    rfl
  · obtain ⟨p, m, n, rfl, g1, g2, g3, g4, q⟩ := h
    refine ⟨_, (pss_cons (ps_set (i := 2) sc__law_names.nd rfl (Or.inl rfl) pe_str)
  (pss_cons (ps_set (i := 3) sc__law_names.nd rfl (Or.inl rfl) (pe_op op_add_str (pv 2) pe_str))
  (pss_cons (ps_set (i := 4) sc__law_names.nd rfl (Or.inr rfl) (pe_ix ix_str (pv 2) (pe_call (ok__law_take T) (hr.mono (by decide)) rfl T.g__law_take T.k__law_take T.b__law_take .nil pass0 (pa_cons (pv 0) (pa_cons pe_int pa_nil))) (fun _ _ => rfl)))
  (pss_cons (ps_for PassesOwn.never rfl (pi_range1 rfl T.n_range (pa_cons pe_int pa_nil)) (pg_name (i := 5) sc__law_names.nd rfl (Or.inl rfl))
  (pss_one (ps_set (i := 4) sc__law_names.nd rfl (Or.inr rfl) (pe_op op_add_str (pv 4) (pe_ix ix_str (pv 3) (pe_call (ok__law_take T) (hr.mono (by decide)) rfl T.g__law_take T.k__law_take T.b__law_take .nil pass0 (pa_cons (pv 0) (pa_cons pe_int pa_nil))) (fun _ _ => rfl))))))
  (pss_cons (ps_if (pt_cmpR op_eq (pe_call (ok__law_take T) (hr.mono (by decide)) rfl T.g__law_take T.k__law_take T.b__law_take .nil pass0 (pa_cons (pv 0) (pa_cons pe_int pa_nil))) pe_int (nomark _))
  (pss_one (ps_ret (pe_lc (own := [("_law_k", 5)]) (g := gName 5) (by rfl) sc__law_names.nd (pi_range1 rfl T.n_range (pa_cons (pv 1) pa_nil)) (blkOk_by (own := [("_law_k", 5)]) (N := N__law_names) (sc := defScope s__law_names) (by decide +kernel)) (fun _ _ _ _ _ => (pg_name (i := 5) sc__law_names.nd rfl (Or.inl rfl))) (fun _ _ _ _ _ => pts_nil) (fun _ _ _ _ _ => (pe_slice sl_str (pv 4) po_none (po_some (pe_op op_add (pv 5) pe_int)))))))
  pss_nil)
  (pss_cons (ps_set (i := 6) sc__law_names.nd rfl (Or.inl rfl) (pe_slice sl_str (pv 4) po_none (po_some (pe_call (ok__law_take T) (hr.mono (by decide)) rfl T.g__law_take T.k__law_take T.b__law_take .nil pass0 (pa_cons (pv 0) (pa_cons pe_int pa_nil))))))
  (pss_cons (ps_set (i := 7) sc__law_names.nd rfl (Or.inl rfl) (pe_call (ok__law_take T) (hr.mono (by decide)) rfl T.g__law_take T.k__law_take T.b__law_take .nil pass0 (pa_cons (pv 0) (pa_cons (pe_op op_add (pe_callB call_len_str (by rfl) T.n_len PySem.boot_len (pa_cons (pv 6) pa_nil)) pe_int) pa_nil))))
  (Evl.pss_cut (ps_set (i := 8) sc__law_names.nd rfl (Or.inl rfl) (pe_ifExp (pt_cmpR op_eq (pv 7) pe_int (nomark _)) (pv 2) (pv 3)))
  (pss_cons (ps_set (i := 9) sc__law_names.nd rfl (Or.inl rfl) (pe_call (ok__law_take T) (hr.mono (by decide)) rfl T.g__law_take T.k__law_take T.b__law_take .nil pass0 (pa_cons (pv 0) (pa_cons pe_int pa_nil))))
  (pss_cons (ps_set (i := 10) sc__law_names.nd rfl (Or.inl rfl) (pe_lstK pa_nil))
  (pss_cons (ps_for PassesOwn.never rfl (pi_range1 rfl T.n_range (pa_cons (pv 1) pa_nil)) (pg_name (i := 5) sc__law_names.nd rfl (Or.inl rfl))
  (pss_cons (ps_set (i := 11) sc__law_names.nd rfl (Or.inl rfl) (pe_ix ix_str (pv 8) (pe_op op_mod (pe_op op_add (pv 9) (pe_op op_mul pe_int (pv 5))) (pe_callB call_len_str (by rfl) T.n_len PySem.boot_len (pa_cons (pv 8) pa_nil))) (fun _ _ => rfl)))
  (pss_one (ps_expr (pe_bm PySem.F.plainAttrs_list PySem.F.slot_list_append PySem.F.type_list_append mt_appendK (pv 10) (pa_cons (pe_op op_add_str (pe_op op_add_str (pe_slice sl_str (pv 6) po_none (po_some (pv 7))) (pv 11)) (pe_slice sl_str (pv 6) (po_some (pv 7)) po_none)) pa_nil))))))
  (pss_one (ps_ret (pv 10)))))))))))))), ?_⟩
    refine ⟨_, rfl, _, _, rfl, rfl, (by show Str.length ("abcdefghijklmnopqrstuvwxyz" : Str) + Str.length ("0123456789" : Str) ≤ sizeLine; exact slen (by first | omega | (simp only [len_append, len_one, len_lets, len_als, len_digits]; omega) | (rw [len_als]; omega) | (rw [len_lets]; omega))), _, rfl, _, rfl, p, 26, n, rfl, g1, (by first | omega | assumption | decide | (simp; done) | (simp; omega)), (by first | omega | assumption | decide | (simp; done) | (simp; omega)), (by first | omega | assumption | decide | (simp; done) | (simp; omega)), fun r5 H9 hk10 h6 h7 h8 => ?_⟩
    obtain ⟨x11, hx12, hy13⟩ := atS (z := ("abcdefghijklmnopqrstuvwxyz" : Str)) (i := r5) (by first | omega | assumption | decide | (simp; done) | (simp; omega)) (by first | omega | (rw [len_als]; omega) | (rw [len_lets]; omega) | (simp only [len_append, len_one]; omega))
    refine ⟨_, _, _, rfl, rfl, (by show Str.length ("abcdefghijklmnopqrstuvwxyz" : Str) ≤ sizeLine; exact slen (by first | omega | (simp only [len_append, len_one, len_lets, len_als, len_digits]; omega) | (rw [len_als]; omega) | (rw [len_lets]; omega))), hy13, _, rfl, (by first | omega | assumption | decide | (simp; done) | (simp; omega)), (by first | omega | assumption | decide | (simp; done) | (simp; omega)), for_range (lo := 0) (n := Int.toNat 7) (fun i σ H' => ∃ (w : Str) (v : Option V), σ = [some (V.ref p), some (V.int (m)), some (V.str (("abcdefghijklmnopqrstuvwxyz" : Str))), some (V.str ((("abcdefghijklmnopqrstuvwxyz" : Str) ++ ("0123456789" : Str)))), some (.str w), v, none, none, none, none, none, none] ∧ Kp [p] H9 H' ∧ (Wd w i) ∧ Pool H' p (n + 1 + i)) ?_ ?_ ?_⟩
    · exact ⟨⟨#[x11]⟩, none, rfl, ((Kp.refl [] H9).mono (by simp)), (Wd.one (let_at hx12)), (h8.mono (by omega))⟩
    · rintro i17 σ H16 hi18 ⟨w22, v23, rfl, k19, h20, h21⟩
      have hi18 : i17 < Int.toNat 7 := hi18
      have wl24 := Wd.len h20
      refine ⟨_, rfl, _, rfl, _, rfl, p, 36, (n + 1 + i17), rfl, h21, (by first | omega | assumption | decide | (simp; done) | (simp; omega)), (by first | omega | assumption | decide | (simp; done) | (simp; omega)), (by first | omega | assumption | decide | (simp; done) | (simp; omega)), fun r25 H29 hk30 h26 h27 h28 => ?_⟩
      obtain ⟨x31, hx32, hy33⟩ := atS (z := (("abcdefghijklmnopqrstuvwxyz" : Str) ++ ("0123456789" : Str))) (i := r25) (by first | omega | assumption | decide | (simp; done) | (simp; omega)) (by first | omega | (rw [len_als]; omega) | (rw [len_lets]; omega) | (simp only [len_append, len_one]; omega))
      have k34 : Kp [p] H9 H29 := k19.step hk30 (fun b hb => by rw [List.mem_singleton.mp hb]; exact .inl (by simp))
      refine ⟨_, _, _, rfl, rfl, (by show Str.length (("abcdefghijklmnopqrstuvwxyz" : Str) ++ ("0123456789" : Str)) ≤ sizeLine; exact slen (by first | omega | (simp only [len_append, len_one, len_lets, len_als, len_digits]; omega) | (rw [len_als]; omega) | (rw [len_lets]; omega))), hy33, _, _, rfl, rfl, (by show Str.length w22 + Str.length ⟨#[x31]⟩ ≤ sizeLine; exact slen (by first | omega | (simp only [len_append, len_one, len_lets, len_als, len_digits]; omega) | (rw [len_als]; omega) | (rw [len_lets]; omega))), ?_⟩
      exact ⟨(w22 ++ ⟨#[x31]⟩), some (V.int ((0 + (i17 : Int)))), rfl, k34, (h20.more (al_at hx32)), (h28.mono (by omega))⟩
    · rintro σ H35 ⟨w39, v40, rfl, k36, h37, h38⟩
      have wl41 := Wd.len h37
      refine ⟨_, rfl, p, 3, (n + 1 + (Int.toNat 7)), rfl, h38, (by first | omega | assumption | decide | (simp; done) | (simp; omega)), (by first | omega | assumption | decide | (simp; done) | (simp; omega)), (by first | omega | assumption | decide | (simp; done) | (simp; omega)), fun r42 H46 hk47 h43 h44 h45 => ?_⟩
      refine ⟨rfl, _, rfl, ite2 (fun hc48 => ?_) (fun hc48 => ?_)⟩
      · have hc48 : r42 = 0 := by simpa using hc48
        refine ⟨_, rfl, _, rfl, (by first | omega | assumption | decide | (simp; done) | (simp; omega)), (by first | omega | assumption | decide | (simp; done) | (simp; omega)), fun D49 hD50 => lc_range (lo := 0) (n := Int.toNat m) (fun i H' => ∃ (ss : List Str), H' D49 = some (.lst (ss.map V.str)) ∧ Kp [] H46 H' ∧ (ss.length = i) ∧ (∀ (j : Nat) (y : Str), ss[j]? = some y → ch y = (ch w39).take (j + 1))) ?_ ?_ ?_⟩
        · refine updN (G := fun H' => ∃ (ss : List Str), H' D49 = some (.lst (ss.map V.str)) ∧ Kp [] H46 H' ∧ (ss.length = 0) ∧ (∀ (j : Nat) (y : Str), ss[j]? = some y → ch y = (ch w39).take (j + 1))) hD50 (fun H51 hp52 hk53 => ?_)
          exact ⟨[], hp52, hk53, rfl, (fun j t h => by simp at h)⟩
        · rintro i55 H54 hi56 ⟨ss61, hd58, k57, h59, h60⟩
          have hi56 : i55 < Int.toNat m := hi56
          refine ⟨rfl, ?_⟩
          unfold tYes
          refine ifT rfl ?_
          refine ⟨_, rfl, _, rfl, _, _, rfl, rfl, _, rfl, _, rfl, (by show Str.length w39 ≤ sizeLine; exact slen (by first | omega | (simp only [len_append, len_one, len_lets, len_als, len_digits]; omega) | (rw [len_als]; omega) | (rw [len_lets]; omega))), ?_⟩
          have cl62 := len_to w39 (k := ((0 + (i55 : Int)) + 1)) (by omega)
          refine ⟨_, hd58, (by show ((ss61.map V.str)).length < sizeLine; refine slenlt ?_; first | (simp; done) | omega | (simp; omega) | (subst_vars; simp; omega)), updK (G := fun H' => ∃ (ss : List Str), H' D49 = some (.lst (ss.map V.str)) ∧ Kp [] H46 H' ∧ (ss.length = (i55 + 1)) ∧ (∀ (j : Nat) (y : Str), ss[j]? = some y → ch y = (ch w39).take (j + 1))) (fun H63 hp64 hk65 => ?_)⟩
          have k66 : Kp [] H46 H63 := k57.step hk65 (fun b hb => by rw [List.mem_singleton.mp hb]; exact .inr hD50)
          exact ⟨(ss61 ++ [(cutS w39 none (some ((0 + (i55 : Int)) + 1)))]), (show H63 D49 = some (.lst _) by first | exact hp64 | (rw [hp64]; simp)), k66, (by rw [List.length_append, h59]; rfl), (all_snoc (P := (fun (j : Nat) (y : Str) => ch y = (ch w39).take (j + 1))) h60 h59 (by show ch _ = _; rw [ch_to _ (by omega)]; congr 1; omega))⟩
        · rintro H67 ⟨ss72, hd69, k68, h70, h71⟩
          have k73 : Kp [p] H H35 := hk10.step k36 (fun b hb => by rw [List.mem_singleton.mp hb]; exact .inl (by simp))
          have k74 : Kp [p] H H46 := k73.step hk47 (fun b hb => by rw [List.mem_singleton.mp hb]; exact .inl (by simp))
          have f75 : Pool H67 p ((n + 1 + (Int.toNat 7)) + 1) := Pool.at h45 k68 (by simp)
          have k76 : Kp [p] H H67 := k74.step0 k68
          exact q D49 ss72 H67 k76 (k74.free hD50) hd69 (by first | omega | assumption | decide | (simp; done) | (simp; omega)) (nms_takes h37 (by omega) h71) (f75.mono (by omega))
      · have hc48 : ¬ (r42 = 0) := by simpa using hc48
        refine ⟨_, rfl, _, rfl, p, 8, ((n + 1 + (Int.toNat 7)) + 1), rfl, h45, (by first | omega | assumption | decide | (simp; done) | (simp; omega)), (by first | omega | assumption | decide | (simp; done) | (simp; omega)), (by first | omega | assumption | decide | (simp; done) | (simp; omega)), fun r77 H81 hk82 h78 h79 h80 => ?_⟩
        refine ⟨_, rfl, _, rfl, (by show Str.length w39 ≤ sizeLine; exact slen (by first | omega | (simp only [len_append, len_one, len_lets, len_als, len_digits]; omega) | (rw [len_als]; omega) | (rw [len_lets]; omega))), ?_⟩
        have cl83 := len_to w39 (k := r77) (by omega)
        refine ⟨_, rfl, _, rfl, _, rfl, (by show Str.length (cutS w39 none (some r77)) ≤ sizeLine; exact slen (by first | omega | (simp only [len_append, len_one, len_lets, len_als, len_digits]; omega) | (rw [len_als]; omega) | (rw [len_lets]; omega))), _, _, rfl, rfl, p, ((Str.length (cutS w39 none (some r77)) : Int) + 1), (((n + 1 + (Int.toNat 7)) + 1) + 1), rfl, h80, (by first | omega | assumption | decide | (simp; done) | (simp; omega)), (by first | omega | assumption | decide | (simp; done) | (simp; omega)), (by first | omega | assumption | decide | (simp; done) | (simp; omega)), fun r84 H88 hk89 h85 h86 h87 => ?_⟩
        refine ⟨fun σ H' => ∃ (t : Str), σ = [some (V.ref p), some (V.int (m)), some (V.str (("abcdefghijklmnopqrstuvwxyz" : Str))), some (V.str ((("abcdefghijklmnopqrstuvwxyz" : Str) ++ ("0123456789" : Str)))), some (V.str (w39)), v40, some (V.str ((cutS w39 none (some r77)))), some (V.int (r84)), some (.str t), none, none, none] ∧ Kp [] H88 H' ∧ (Told t r84), ?_, ?_⟩
        · refine ⟨_, rfl, rfl, _, rfl, ite2 (fun hc90 => ?_) (fun hc90 => ?_)⟩
          · have hc90 : r84 = 0 := by simpa using hc90
            refine ⟨_, rfl, ?_⟩
            exact ⟨("abcdefghijklmnopqrstuvwxyz" : Str), rfl, (Kp.refl [] H88), (by first | exact told_lets _ | exact told_als (by omega))⟩
          · have hc90 : ¬ (r84 = 0) := by simpa using hc90
            refine ⟨_, rfl, ?_⟩
            exact ⟨(("abcdefghijklmnopqrstuvwxyz" : Str) ++ ("0123456789" : Str)), rfl, (Kp.refl [] H88), (by first | exact told_lets _ | exact told_als (by omega))⟩
        · rintro σ H91 ⟨t, rfl, k92, h93⟩
          have told := h93; have tlen := told.len
          have f94 : Pool H91 p ((((n + 1 + (Int.toNat 7)) + 1) + 1) + 1) := Pool.at h87 k92 (by simp)
          refine ⟨_, rfl, p, 36, ((((n + 1 + (Int.toNat 7)) + 1) + 1) + 1), rfl, f94, (by first | omega | assumption | decide | (simp; done) | (simp; omega)), (by first | omega | assumption | decide | (simp; done) | (simp; omega)), (by first | omega | assumption | decide | (simp; done) | (simp; omega)), fun r95 H99 hk100 h96 h97 h98 => ?_⟩
          refine ⟨(by show 0 ≤ sizeLine; decide), fun p101 H102 hn103 hp104 hk105 => ?_⟩
          refine ⟨_, rfl, _, rfl, (by first | omega | assumption | decide | (simp; done) | (simp; omega)), (by first | omega | assumption | decide | (simp; done) | (simp; omega)), for_range (lo := 0) (n := Int.toNat m) (fun i σ H' => ∃ (ss : List Str) (v : Option V) (u : Option V), σ = [some (V.ref p), some (V.int (m)), some (V.str (("abcdefghijklmnopqrstuvwxyz" : Str))), some (V.str ((("abcdefghijklmnopqrstuvwxyz" : Str) ++ ("0123456789" : Str)))), some (V.str (w39)), v, some (V.str ((cutS w39 none (some r77)))), some (V.int (r84)), some (V.str (t)), some (V.int (r95)), some (V.ref p101), u] ∧ Kp [p101] H102 H' ∧ (ss.length = i) ∧ (∀ (j : Nat) (y : Str), ss[j]? = some y → ∃ c, (ch t)[(Int.toNat r95 + 7 * j) % (ch t).length]? = some c ∧ ch y = (ch (cutS w39 none (some r77))).take (Int.toNat r84) ++ c :: (ch (cutS w39 none (some r77))).drop (Int.toNat r84)) ∧ H' p101 = some (.lst (ss.map V.str))) ?_ ?_ ?_⟩
          · exact ⟨[], v40, none, rfl, ((Kp.refl [] H102).mono (by simp)), rfl, (fun j t h => by simp at h), (show H102 p101 = some (.lst ([].map V.str)) by rw [hp104]; simp)⟩
          · rintro i109 σ H108 hi110 ⟨ss115, v116, u117, rfl, k111, h112, h113, h114⟩
            have hi110 : i109 < Int.toNat m := hi110
            refine ⟨_, rfl, _, rfl, _, rfl, _, _, rfl, rfl, .inl (by decide), _, _, rfl, rfl, _, rfl, _, rfl, (by show Str.length t ≤ sizeLine; exact slen (by first | omega | (simp only [len_append, len_one, len_lets, len_als, len_digits]; omega) | (rw [len_als]; omega) | (rw [len_lets]; omega))), _, _, rfl, rfl, (by show (0 : Int) < (Str.length t : Int); first | decide | omega), ?_⟩
            have em118 := Int.emod_nonneg (r95 + (7 * (0 + (i109 : Int)))) (show ((Str.length t : Int) : Int) ≠ 0 by omega)
            have em119 := Int.emod_lt_of_pos (r95 + (7 * (0 + (i109 : Int)))) (show (0 : Int) < (Str.length t : Int) by omega)
            obtain ⟨x120, hx121, hy122⟩ := atS (z := t) (i := ((r95 + (7 * (0 + (i109 : Int)))) % (Str.length t : Int))) (by first | omega | assumption | decide | (simp; done) | (simp; omega)) (by first | omega | (rw [len_als]; omega) | (rw [len_lets]; omega) | (simp only [len_append, len_one]; omega))
            refine ⟨_, _, _, rfl, rfl, (by show Str.length t ≤ sizeLine; exact slen (by first | omega | (simp only [len_append, len_one, len_lets, len_als, len_digits]; omega) | (rw [len_als]; omega) | (rw [len_lets]; omega))), hy122, _, rfl, .inl ⟨rfl, _, SqL.of h114⟩, _, rfl, _, rfl, _, rfl, _, rfl, (by show Str.length (cutS w39 none (some r77)) ≤ sizeLine; exact slen (by first | omega | (simp only [len_append, len_one, len_lets, len_als, len_digits]; omega) | (rw [len_als]; omega) | (rw [len_lets]; omega))), ?_⟩
            have cl123 := len_to (cutS w39 none (some r77)) (k := r84) (by omega)
            refine ⟨_, rfl, _, _, rfl, rfl, (by show Str.length (cutS (cutS w39 none (some r77)) none (some r84)) + Str.length ⟨#[x120]⟩ ≤ sizeLine; exact slen (by first | omega | (simp only [len_append, len_one, len_lets, len_als, len_digits]; omega) | (rw [len_als]; omega) | (rw [len_lets]; omega))), _, rfl, _, rfl, _, rfl, _, rfl, (by show Str.length (cutS w39 none (some r77)) ≤ sizeLine; exact slen (by first | omega | (simp only [len_append, len_one, len_lets, len_als, len_digits]; omega) | (rw [len_als]; omega) | (rw [len_lets]; omega))), ?_⟩
            have cl124 := len_from (cutS w39 none (some r77)) (k := r84) (by omega)
            refine ⟨_, _, rfl, rfl, (by show Str.length ((cutS (cutS w39 none (some r77)) none (some r84)) ++ ⟨#[x120]⟩) + Str.length (cutS (cutS w39 none (some r77)) (some r84) none) ≤ sizeLine; exact slen (by first | omega | (simp only [len_append, len_one, len_lets, len_als, len_digits]; omega) | (rw [len_als]; omega) | (rw [len_lets]; omega))), _, _, _, rfl, rfl, h114, (by show ((ss115.map V.str)).length < sizeLine; refine slenlt ?_; first | (simp; done) | omega | (simp; omega) | (subst_vars; simp; omega)), fun H125 hp126 hk127 => ?_⟩
            have hp128 : H125 p101 = some (.lst ((ss115 ++ [(((cutS (cutS w39 none (some r77)) none (some r84)) ++ ⟨#[x120]⟩) ++ (cutS (cutS w39 none (some r77)) (some r84) none))]).map V.str)) := by rw [hp126]; simp
            have k129 : Kp [p101] H102 H125 := k111.step hk127 (fun b hb => by rw [List.mem_singleton.mp hb]; exact .inl (by simp))
            exact ⟨(ss115 ++ [(((cutS (cutS w39 none (some r77)) none (some r84)) ++ ⟨#[x120]⟩) ++ (cutS (cutS w39 none (some r77)) (some r84) none))]), some (V.int ((0 + (i109 : Int)))), some (V.str (⟨#[x120]⟩)), rfl, k129, (by rw [List.length_append, h112]; rfl), (all_snoc (P := (fun (j : Nat) (y : Str) => ∃ c, (ch t)[(Int.toNat r95 + 7 * j) % (ch t).length]? = some c ∧ ch y = (ch (cutS w39 none (some r77))).take (Int.toNat r84) ++ c :: (ch (cutS w39 none (some r77))).drop (Int.toNat r84))) h113 h112 ⟨_, (by rw [← len_ch, ← idx_mod (n := Str.length t) (by omega) (by omega)]; exact hx121), by rw [ch_append, ch_append, ch_one, ch_to _ (by omega), ch_from _ (by omega), List.append_assoc]; rfl⟩), hp128⟩
          · rintro σ H130 ⟨ss135, v136, u137, rfl, k131, h132, h133, h134⟩
            refine ⟨_, rfl, ?_⟩
            have k138 : Kp [p] H H35 := hk10.step k36 (fun b hb => by rw [List.mem_singleton.mp hb]; exact .inl (by simp))
            have k139 : Kp [p] H H46 := k138.step hk47 (fun b hb => by rw [List.mem_singleton.mp hb]; exact .inl (by simp))
            have k140 : Kp [p] H H81 := k139.step hk82 (fun b hb => by rw [List.mem_singleton.mp hb]; exact .inl (by simp))
            have k141 : Kp [p] H H88 := k140.step hk89 (fun b hb => by rw [List.mem_singleton.mp hb]; exact .inl (by simp))
            have k142 : Kp [p] H H91 := k141.step0 k92
            have k143 : Kp [p] H H99 := k142.step hk100 (fun b hb => by rw [List.mem_singleton.mp hb]; exact .inl (by simp))
            have k144 : Kp [] H99 H130 := hk105.step k131 (fun b hb => by rw [List.mem_singleton.mp hb]; exact .inr hn103)
            have f145 : Pool H130 p (((((n + 1 + (Int.toNat 7)) + 1) + 1) + 1) + 1) := Pool.at h98 k144 (by simp)
            have k146 : Kp [p] H H102 := k143.step0 hk105
            have k147 : Kp [p] H H130 := k146.step k131 (fun b hb => by rw [List.mem_singleton.mp hb]; exact .inr (k143.free hn103))
            exact q p101 ss135 H130 k147 (k143.free hn103) h134 (by first | omega | assumption | decide | (simp; done) | (simp; omega)) (Told.names told h37 (k := r77) (by omega) (by omega) (by omega) (by omega) (by omega) (by omega) h133) (f145.mono (by omega))
theorem ok__law_parts (T : Tx K mg A) : FnOk P w K mg base CX0 3 A.f__law_parts A.d__law_parts ps__law_parts (sp__law_parts K A) := by
  refine T.F__law_parts.ok sc__law_parts (fun vs H Q E h => ?_) (fun cdv Ar outer s H vs Q E hr h => ?_)
  · obtain ⟨_, _, _, rfl, _⟩ := h
    rfl
  · obtain ⟨p, m, n, rfl, g1, g2, g3, g4, q⟩ := h
    refine ⟨_, (pss_cons (ps_set (i := 2) sc__law_parts.nd rfl (Or.inl rfl) (pe_call (ok__law_take T) (hr.mono (by decide)) rfl T.g__law_take T.k__law_take T.b__law_take .nil pass0 (pa_cons (pv 0) (pa_cons (pe_op op_add (pv 1) pe_int) pa_nil))))
  (pss_cons (ps_set (i := 3) sc__law_parts.nd rfl (Or.inl rfl) (pe_call (ok__law_names T) (hr.mono (by decide)) rfl T.g__law_names T.k__law_names T.b__law_names .nil pass0 (pa_cons (pv 0) (pa_cons pe_int pa_nil))))
  (pss_cons (ps_set (i := 4) sc__law_parts.nd rfl (Or.inr rfl) (pe_slice (r := rSlLK K) sl_listK (pv 3) po_none (po_some (pv 2))))
  (pss_cons (ps_set (i := 5) sc__law_parts.nd rfl (Or.inl rfl) (pe_lstK pa_nil))
  (pss_cons (ps_set (i := 6) sc__law_parts.nd rfl (Or.inl rfl) (pe_revL (pv 3)))
  (Evl.pss_cut (ps_if (pt_cmpR op_eq (pe_call (ok__law_take T) (hr.mono (by decide)) rfl T.g__law_take T.k__law_take T.b__law_take .nil pass0 (pa_cons (pv 0) (pa_cons pe_int pa_nil))) pe_int (nomark _))
  (pss_one (ps_set (i := 6) sc__law_parts.nd rfl (Or.inl rfl) (pe_call (ok__law_names T) (hr.mono (by decide)) rfl T.g__law_names T.k__law_names T.b__law_names .nil pass0 (pa_cons (pv 0) (pa_cons pe_int pa_nil)))))
  pss_nil)
  (pss_cons (ps_for PassesOwn.never rfl (pi_list (pv 4)) (pg_name (i := 7) sc__law_parts.nd rfl (Or.inl rfl))
  (pss_cons (ps_set (i := 8) sc__law_parts.nd rfl (Or.inl rfl) (pe_ix (r := rIxL K) ix_list (pe_lstK (pa_cons pe_int (pa_cons pe_int (pa_cons pe_int (pa_cons pe_int (pa_cons pe_int (pa_cons pe_int pa_nil))))))) (pe_call (ok__law_take T) (hr.mono (by decide)) rfl T.g__law_take T.k__law_take T.b__law_take .nil pass0 (pa_cons (pv 0) (pa_cons pe_int pa_nil))) (fun _ _ => rfl)))
  (pss_cons (ps_expr (pe_bm PySem.F.plainAttrs_list PySem.F.slot_list_append PySem.F.type_list_append mt_appendK (pv 5) (pa_cons (pe_slice (r := rSlLK K) sl_listK (pv 6) po_none (po_some (pv 8))) pa_nil)))
  (pss_one (ps_set (i := 6) sc__law_parts.nd rfl (Or.inl rfl) (pe_slice (r := rSlLK K) sl_listK (pv 6) (po_some (pv 8)) po_none))))))
  (pss_cons (ps_setLc (i := 9) (own := [("_law_step", 7)]) (g := gName 7) (by rfl) sc__law_parts.nd rfl rfl (sw_true rfl rfl rfl (by decide +kernel)) (pi_list (pv 4)) (blkOk_by (own := [("_law_step", 7)]) (N := N__law_parts) (sc := defScope s__law_parts) (by decide +kernel)) (fun _ _ _ _ _ => (pg_name (i := 7) sc__law_parts.nd rfl (Or.inl rfl))) (fun _ _ _ _ _ => pts_nil) (fun _ _ _ _ _ => (pe_call (ok__law_take T) (hr.mono (by decide)) rfl T.g__law_take T.k__law_take T.b__law_take .nil pass0 (pa_cons (pv 0) (pa_cons pe_int pa_nil)))))
  (pss_cons (ps_set (i := 10) sc__law_parts.nd rfl (Or.inl rfl) (pe_lstK pa_nil))
  (pss_cons (ps_for PassesOwn.never rfl (pi_range1 rfl T.n_range (pa_cons (pe_call (ok__law_take T) (hr.mono (by decide)) rfl T.g__law_take T.k__law_take T.b__law_take .nil pass0 (pa_cons (pv 0) (pa_cons (pe_op op_add (pe_op op_mul pe_int (pv 2)) pe_int) pa_nil))) pa_nil)) (pg_name (i := 11) sc__law_parts.nd rfl (Or.inl rfl))
  (pss_cons (ps_set (i := 12) sc__law_parts.nd rfl (Or.inr rfl) (pe_call (ok__law_take T) (hr.mono (by decide)) rfl T.g__law_take T.k__law_take T.b__law_take .nil pass0 (pa_cons (pv 0) (pa_cons (pv 2) pa_nil))))
  (pss_cons (ps_set (i := 13) sc__law_parts.nd rfl (Or.inr rfl) (pe_call (ok__law_take T) (hr.mono (by decide)) rfl T.g__law_take T.k__law_take T.b__law_take .nil pass0 (pa_cons (pv 0) (pa_cons (pv 2) pa_nil))))
  (pss_cons (ps_set (i := 14) sc__law_parts.nd rfl (Or.inl rfl) (pe_ix (r := rIxL K) ix_list (pe_lstK (pa_cons pe_int (pa_cons pe_int (pa_cons pe_int (pa_cons pe_int (pa_cons pe_int (pa_cons pe_int (pa_cons pe_int (pa_cons pe_int (pa_cons pe_int pa_nil)))))))))) (pe_call (ok__law_take T) (hr.mono (by decide)) rfl T.g__law_take T.k__law_take T.b__law_take .nil pass0 (pa_cons (pv 0) (pa_cons pe_int pa_nil))) (fun _ _ => rfl)))
  (Evl.pss_cut (ps_if (pt_cmpR op_eq (pe_call (ok__law_take T) (hr.mono (by decide)) rfl T.g__law_take T.k__law_take T.b__law_take .nil pass0 (pa_cons (pv 0) (pa_cons pe_int pa_nil))) pe_int (nomark _))
  (pss_one (ps_set (i := 14) sc__law_parts.nd rfl (Or.inl rfl) (pe_call (ok__law_take T) (hr.mono (by decide)) rfl T.g__law_take T.k__law_take T.b__law_take .nil pass0 (pa_cons (pv 0) (pa_cons pe_int pa_nil)))))
  pss_nil)
  (Evl.pss_cut (ps_if (PW.pt (pw_and (pt_cmpR op_eq (pv 14) pe_int (nomark _)) (pw_and1 (pt_cmpR (r := rGtT K) (op_gtT hr.units0) (pe_tupK (pa_cons (pe_ix (r := rIxL K) ix_list (pv 9) (pv 12) (fun _ _ => rfl)) (pa_cons (pv 12) pa_nil))) (pe_tupK (pa_cons (pe_ix (r := rIxL K) ix_list (pv 9) (pv 13) (fun _ _ => rfl)) (pa_cons (pv 13) pa_nil))) (nomark _)))))
  (pss_cons (ps_set (i := 12) sc__law_parts.nd rfl (Or.inr rfl) (pe_op op_add (pv 12) (pv 13)))
  (pss_cons (ps_set (i := 13) sc__law_parts.nd rfl (Or.inr rfl) (pe_op op_sub (pv 12) (pv 13)))
  (pss_one (ps_set (i := 12) sc__law_parts.nd rfl (Or.inr rfl) (pe_op op_sub (pv 12) (pv 13))))))
  pss_nil)
  (pss_one (ps_if (pt_cmpR op_ne (pv 12) (pv 13) (nomark _))
  (pss_cons (ps_setLc (i := 10) (own := [("_law_rule", 15)]) (g := gName 15) (by rfl) sc__law_parts.nd rfl rfl (sw_true rfl rfl rfl (by decide +kernel)) (pi_list (pv 10)) (blkOk_by (own := [("_law_rule", 15)]) (N := N__law_parts) (sc := defScope s__law_parts) (by decide +kernel)) (fun _ _ _ _ _ => (pg_name (i := 15) sc__law_parts.nd rfl (Or.inl rfl))) (fun _ _ _ _ _ => (pts_one (pt_cmpR (r := rNeD K) (op_neD hr.units) (pe_tupK (pa_cons (pe_ix (r := rIxT K) ix_tup (pv 15) pe_int (fun _ _ => rfl)) (pa_cons (pe_ix (r := rIxT K) ix_tup (pv 15) pe_int (fun _ _ => rfl)) pa_nil))) (pe_tupK (pa_cons (pe_ix (r := rIxL K) ix_list (pv 4) (pv 12) (fun _ _ => rfl)) (pa_cons (pe_ix (r := rIxL K) ix_list (pv 4) (pv 13) (fun _ _ => rfl)) pa_nil))) (nomark _)))) (fun _ _ _ _ _ => (pv 15)))
  (pss_one (ps_expr (pe_bm PySem.F.plainAttrs_list PySem.F.slot_list_append PySem.F.type_list_append mt_appendK (pv 10) (pa_cons (pe_tupK (pa_cons (pe_ix (r := rIxL K) ix_list (pv 4) (pv 12) (fun _ _ => rfl)) (pa_cons (pe_ix (r := rIxL K) ix_list (pv 4) (pv 13) (fun _ _ => rfl)) (pa_cons (pv 14) pa_nil)))) pa_nil)))))
  pss_nil))))))))
  (pss_one (ps_ret (pe_lstK (pa_cons (pv 4) (pa_cons (pv 5) (pa_cons (pv 10) pa_nil)))))))))))))))), ?_⟩
    refine ⟨_, rfl, _, rfl, _, _, rfl, rfl, p, (m + 1), n, rfl, g1, (by first | omega | assumption | decide | (simp; done) | (simp; omega)), (by first | omega | assumption | decide | (simp; done) | (simp; omega)), (by first | omega | assumption | decide | (simp; done) | (simp; omega)), fun r5 H9 hk10 h6 h7 h8 => ?_⟩
    refine ⟨_, rfl, p, 8, (n + 1), rfl, h8, (by first | omega | assumption | decide | (simp; done) | (simp; omega)), (by first | omega | assumption | decide | (simp; done) | (simp; omega)), (by first | omega | assumption | decide | (simp; done) | (simp; omega)), fun l11 ss12 H18 hk19 h13 h14 h15 h16 h17 => ?_⟩
    refine ⟨_, rfl, _, rfl, _, rfl, _, _, rfl, (.inl (.inl h14)), fun p20 H21 hn22 hp23 hk24 => ?_⟩
    have hp25 : H21 p20 = some (.lst ((ss12.take (Int.toNat r5)).map V.str)) := by rw [hp23, cutV_to V.str ss12 (k := r5) (by omega)]
    have cl26 : (ss12.take (Int.toNat r5)).length = _ := List.length_take
    have nss := Nms.sub h16 (List.take_sublist (Int.toNat r5) _)
    refine ⟨(by show 0 ≤ sizeLine; decide), fun p27 H28 hn29 hp30 hk31 => ?_⟩
    have k32 : Kp [] H18 H28 := hk24.step0 hk31
    have f33 : H28 l11 = some (.lst (ss12.map V.str)) := k32.at0 h14 
    refine ⟨_, rfl, _, (ss12.map V.str), rfl, (.inl (.inl f33)), fun p34 hn36 => ?_⟩
    generalize hE37 : upd H28 p34 (.lst (ss12.map V.str).reverse) = H35
    have hp38 : H35 p34 = some (.lst ((ss12.reverse).map V.str)) := by rw [← hE37, List.map_reverse]; exact upd_same
    have hk39 : Kp [] H28 H35 := by rw [← hE37]; exact (Kp.refl [] _).new hn36
    refine ⟨fun σ H' => ∃ (q0 : Addr) (L0 : List Str), σ = [some (V.ref p), some (V.int (m)), some (V.int (r5)), some (V.ref l11), some (V.ref p20), some (V.ref p27), some (.ref q0), none, none, none, none, none, none, none, none, none] ∧ Kp [p] H35 H' ∧ (Nms L0) ∧ (q0 ≠ p) ∧ (q0 ≠ p27) ∧ Pool H' p (n + 30) ∧ H' q0 = some (.lst (L0.map V.str)), ?_, ?_⟩
    · have k40 : Kp [] H18 H35 := k32.step0 hk39
      have f41 : Pool H35 p ((n + 1) + 12) := Pool.at h17 k40 (by simp)
      refine ⟨_, rfl, p, 2, ((n + 1) + 12), rfl, f41, (by first | omega | assumption | decide | (simp; done) | (simp; omega)), (by first | omega | assumption | decide | (simp; done) | (simp; omega)), (by first | omega | assumption | decide | (simp; done) | (simp; omega)), fun r42 H46 hk47 h43 h44 h45 => ?_⟩
      refine ⟨rfl, _, rfl, ite2 (fun hc48 => ?_) (fun hc48 => ?_)⟩
      · have hc48 : r42 = 0 := by simpa using hc48
        refine ⟨_, rfl, p, 8, (((n + 1) + 12) + 1), rfl, h45, (by first | omega | assumption | decide | (simp; done) | (simp; omega)), (by first | omega | assumption | decide | (simp; done) | (simp; omega)), (by first | omega | assumption | decide | (simp; done) | (simp; omega)), fun l49 ss50 H56 hk57 h51 h52 h53 h54 h55 => ?_⟩
        have k58 : Kp [p] H35 H56 := hk47.step hk57 (fun b hb => by rw [List.mem_singleton.mp hb]; exact .inl (by simp))
        have ne59 : p ≠ l49 := ne_of_none (h45).choose_spec.choose_spec.choose_spec.1 h51
        have k60 : Kp [p] H28 H35 := Kp.more [p] hk39
        have k61 : Kp [p] H28 H46 := k60.step hk47 (fun b hb => by rw [List.mem_singleton.mp hb]; exact .inl (by simp))
        have f63 : Pool H21 p ((n + 1) + 12) := Pool.at h17 hk24 (by simp)
        have ne64 : p ≠ p27 := ne_of_none (f63).choose_spec.choose_spec.choose_spec.1 hn29
        have f62 : H46 p27 = some (.lst []) := k61.at1 hp30 ne64.symm
        have ne65 : p27 ≠ l49 := ne_of_none f62 h51
        exact ⟨l49, ss50, rfl, k58, (by first | assumption | exact Nms.rev h16), ne59.symm, ne65.symm, (h55.mono (by omega)), h52⟩
      · have hc48 : ¬ (r42 = 0) := by simpa using hc48
        have f66 : Pool H28 p ((n + 1) + 12) := Pool.at h17 k32 (by simp)
        have ne67 : p ≠ p34 := ne_of_none (f66).choose_spec.choose_spec.choose_spec.1 hn36
        have ne68 : p27 ≠ p34 := ne_of_none hp30 hn36
        have f69 : H46 p34 = some (.lst ((ss12.reverse).map V.str)) := hk47.at1 hp38 ne67.symm
        exact ⟨p34, (ss12.reverse), rfl, hk47, (by first | assumption | exact Nms.rev h16), ne67.symm, ne68.symm, (h45.mono (by omega)), f69⟩
    · rintro σ H70 ⟨q0, L0, rfl, k71, h72, h73, h74, h75, h76⟩
      have k77 : Kp [] H21 H35 := hk31.step0 hk39
      have k78 : Kp [p] H21 H35 := Kp.more [p] k77
      have k79 : Kp [p] H21 H70 := k78.step k71 (fun b hb => by rw [List.mem_singleton.mp hb]; exact .inl (by simp))
      have ne81 : p ≠ p20 := ne_of_none (h17).choose_spec.choose_spec.choose_spec.1 hn22
      have f80 : H70 p20 = some (.lst ((ss12.take (Int.toNat r5)).map V.str)) := k79.at1 hp25 ne81.symm
      refine ⟨_, rfl, _, rfl, ⟨_, (.inl (.inl f80))⟩, for_list (K := K) (a := p20) (xs := ((ss12.take (Int.toNat r5)).map V.str)) (fun i σ H' => ∃ (rows : List (List Str)) (q : Addr) (L : List Str) (v : Option V) (u : Option V), σ = [some (V.ref p), some (V.int (m)), some (V.int (r5)), some (V.ref l11), some (V.ref p20), some (V.ref p27), some (.ref q), v, u, none, none, none, none, none, none, none] ∧ Kp [p, p27] H70 H' ∧ (rows.length = i) ∧ (rows.flatten ++ L = L0) ∧ (∀ r ∈ rows, r.length ≤ 3) ∧ (q ≠ p) ∧ (q ≠ p27) ∧ Pool H' p (n + 40 + i) ∧ Rows H' p27 rows [p, p27] ∧ H' q = some (.lst (L.map V.str))) ?_ ?_ ?_ ?_⟩
      · have k84 : Kp [p] H28 H35 := Kp.more [p] hk39
        have k85 : Kp [p] H28 H70 := k84.step k71 (fun b hb => by rw [List.mem_singleton.mp hb]; exact .inl (by simp))
        have f87 : Pool H21 p ((n + 1) + 12) := Pool.at h17 hk24 (by simp)
        have ne88 : p ≠ p27 := ne_of_none (f87).choose_spec.choose_spec.choose_spec.1 hn29
        have f86 : H70 p27 = some (.lst []) := k85.at1 hp30 ne88.symm
        exact ⟨[], q0, L0, none, none, rfl, ((Kp.refl [] H70).mono (by simp)), rfl, rfl, (fun r h => absurd h List.not_mem_nil), h73, h74, (h75.mono (by omega)), ⟨[], f86, LIn.nil⟩, h76⟩
      · rintro i σ H89 hi ⟨rows99, q100, L101, v102, u103, rfl, k90, h91, h92, h93, h94, h95, h96, h97, h98⟩
        have ne105 : p20 ≠ p27 := ne_of_none hp25 hn29
        have f104 : H89 p20 = some (.lst ((ss12.take (Int.toNat r5)).map V.str)) := k90.at2 f80 ne81.symm ne105
        exact (.inl (.inl f104))
      · rintro i107 x123 σ H106 hi108 ⟨rows118, q119, L120, v121, u122, rfl, k109, h110, h111, h112, h113, h114, h115, h116, h117⟩
        obtain ⟨y124, hy125, rfl⟩ := getMap hi108
        have hl126 := lt_of_get hy125
        refine ⟨(by show 6 ≤ sizeLine; decide), fun p127 H128 hn129 hp130 hk131 => ?_⟩
        have f132 : Pool H128 p (n + 40 + i107) := Pool.at h115 hk131 (by simp)
        refine ⟨_, rfl, p, 6, (n + 40 + i107), rfl, f132, (by first | omega | assumption | decide | (simp; done) | (simp; omega)), (by first | omega | assumption | decide | (simp; done) | (simp; omega)), (by first | omega | assumption | decide | (simp; done) | (simp; omega)), fun r133 H137 hk138 h134 h135 h136 => ?_⟩
        have ne140 : p ≠ p127 := ne_of_none (h115).choose_spec.choose_spec.choose_spec.1 hn129
        have f139 : H137 p127 = some (.lst [V.int (1), V.int (1), V.int (0), V.int (2), V.int (1), V.int (3)]) := hk138.at1 hp130 ne140.symm
        obtain ⟨x141, hx142, hy143⟩ := atI_map (f := V.int) (xs := ([1, 1, 0, 2, 1, 3] : List Int)) (i := r133) (by first | omega | assumption | decide | (simp; done) | (simp; omega)) (by first | (simp; omega) | omega)
        refine ⟨_, _, _, _, rfl, rfl, (.inl (.inl f139)), hy143, ?_⟩
        have cnt := three hx142
        have k144 : Kp [p] H106 H128 := Kp.more [p] hk131
        have k145 : Kp [p] H106 H137 := k144.step hk138 (fun b hb => by rw [List.mem_singleton.mp hb]; exact .inl (by simp))
        have f147 : Pool H21 p ((n + 1) + 12) := Pool.at h17 hk24 (by simp)
        have ne148 : p ≠ p27 := ne_of_none (f147).choose_spec.choose_spec.choose_spec.1 hn29
        have f146 : Rows H137 p27 rows118 [p, p27] := Lst.kp tS_st h116 k145 (notMem1 ne148.symm) (by simp)
        refine ⟨_, rfl, ?_⟩
        obtain ⟨ps149, e150, l151⟩ := id f146
        have ll152 : ps149.length = _ := (l151).1
        have f153 : H137 q119 = some (.lst (L120.map V.str)) := k145.at1 h117 h113
        refine ⟨.inl ⟨rfl, _, SqL.of e150⟩, _, rfl, _, rfl, _, rfl, _, _, rfl, (.inl (.inl f153)), fun p154 H155 hn156 hp157 hk158 => ?_⟩
        have hp159 : H155 p154 = some (.lst ((L120.take (Int.toNat x141)).map V.str)) := by rw [hp157, cutV_to V.str L120 (k := x141) (by omega)]
        have cl160 : (L120.take (Int.toNat x141)).length = _ := List.length_take
        have f161 : H155 p27 = some (.lst (ps149.map V.ref)) := hk158.at0 e150 
        refine ⟨_, _, _, rfl, rfl, f161, (by show ((ps149.map V.ref)).length < sizeLine; refine slenlt ?_; first | (simp; done) | omega | (simp; omega) | (subst_vars; simp; omega)), fun H162 hp163 hk164 => ?_⟩
        have hp165 : H162 p27 = some (.lst ((ps149 ++ [p154]).map V.ref)) := by rw [hp163]; simp
        have k166 : Kp [p27] H137 H155 := Kp.more [p27] hk158
        have k167 : Kp [p27] H137 H162 := k166.step hk164 (fun b hb => by rw [List.mem_singleton.mp hb]; exact .inl (by simp))
        have f168 : RowsIn H162 ps149 rows118 [p, p27] := LIn.kp tS_st l151 k167 (by simp)
        have ne170 : p27 ≠ p154 := ne_of_none (f146).choose_spec.1 hn156
        have f169 : H162 p154 = some (.lst ((L120.take (Int.toNat x141)).map V.str)) := hk164.at1 hp159 ne170.symm
        have ne171 : p ≠ p154 := ne_of_none (h136).choose_spec.choose_spec.choose_spec.1 hn156
        have f172 : RowsIn H162 (ps149 ++ [p154]) (rows118 ++ [(L120.take (Int.toNat x141))]) [p, p27] := LIn.snoc f168 (notMem2 ne171.symm ne170.symm) f169
        have f173 : H162 q119 = some (.lst (L120.map V.str)) := k167.at1 f153 h114
        refine ⟨_, rfl, _, rfl, _, rfl, _, _, rfl, (.inl (.inl f173)), fun p174 H175 hn176 hp177 hk178 => ?_⟩
        have hp179 : H175 p174 = some (.lst ((L120.drop (Int.toNat x141)).map V.str)) := by rw [hp177, cutV_from V.str L120 (k := x141) (by omega)]
        have cl180 : (L120.drop (Int.toNat x141)).length = _ := List.length_drop
        have k181 : Kp [p, p27] H70 H128 := k109.step0 hk131
        have k182 : Kp [p, p27] H70 H137 := k181.step hk138 (fun b hb => by rw [List.mem_singleton.mp hb]; exact .inl (by simp))
        have k183 : Kp [p, p27] H70 H155 := k182.step0 hk158
        have k184 : Kp [p, p27] H70 H162 := k183.step hk164 (fun b hb => by rw [List.mem_singleton.mp hb]; exact .inl (by simp))
        have k185 : Kp [p, p27] H70 H175 := k184.step0 hk178
        have f186 : Pool H162 p ((n + 40 + i107) + 1) := Pool.at h136 k167 (notMem1 ne148)
        have ne187 : p ≠ p174 := ne_of_none (f186).choose_spec.choose_spec.choose_spec.1 hn176
        have ne188 : p27 ≠ p174 := ne_of_none hp165 hn176
        have f189 : Pool H175 p ((n + 40 + i107) + 1) := Pool.at f186 hk178 (by simp)
        have f190 : H175 p27 = some (.lst ((ps149 ++ [p154]).map V.ref)) := hk178.at0 hp165 
        have f191 : RowsIn H175 (ps149 ++ [p154]) (rows118 ++ [(L120.take (Int.toNat x141))]) [p, p27] := LIn.kp tS_st f172 hk178 (by simp)
        exact ⟨(rows118 ++ [(L120.take (Int.toNat x141))]), p174, (L120.drop (Int.toNat x141)), some (V.str (y124)), some (V.int (x141)), rfl, k185, (by rw [List.length_append, h110]; rfl), (by rw [flat_snoc, List.append_assoc, List.take_append_drop]; exact h111), (fun r h => (List.mem_append.mp h).elim (h112 r) fun z => by rw [List.mem_singleton.mp z, List.length_take]; have := three hx142; omega), ne187.symm, ne188.symm, (f189.mono (by omega)), ⟨(ps149 ++ [p154]), f190, f191⟩, hp179⟩
      · rintro σ H192 ⟨rows202, q203, L204, v205, u206, rfl, k193, h194, h195, h196, h197, h198, h199, h200, h201⟩
        try simp only [List.length_map] at h194 h195 h196 h197 h198 h199 h200 h201
        have ne208 : p20 ≠ p27 := ne_of_none hp25 hn29
        have f207 : H192 p20 = some (.lst ((ss12.take (Int.toNat r5)).map V.str)) := k193.at2 f80 ne81.symm ne208
        refine ⟨_, rfl, _, rfl, ⟨_, (.inl (.inl f207))⟩, fun D209 hD210 => lc_list (K := K) (a := p20) (xs := ((ss12.take (Int.toNat r5)).map V.str)) (fun i H' => ∃ (ns : List Int), H' D209 = some (.lst (ns.map V.int)) ∧ Kp [p] H192 H' ∧ (ns.length = i) ∧ Pool H' p (n + 60 + i)) ?_ ?_ ?_ ?_⟩
        · refine updN (G := fun H' => ∃ (ns : List Int), H' D209 = some (.lst (ns.map V.int)) ∧ Kp [p] H192 H' ∧ (ns.length = 0) ∧ Pool H' p (n + 60 + 0)) hD210 (fun H211 hp212 hk213 => ?_)
          have f214 : Pool H211 p (n + 40 + (((ss12.take (Int.toNat r5))).length)) := Pool.at h199 hk213 (by simp)
          exact ⟨[], hp212, (hk213.mono (by simp)), rfl, (f214.mono (by omega))⟩
        · rintro i H215 hi ⟨ns220, hd217, k216, h218, h219⟩
          have f221 : H215 p20 = some (.lst ((ss12.take (Int.toNat r5)).map V.str)) := k216.at1 f207 ne81.symm
          exact (.inl (.inl f221))
        · rintro i223 x230 H222 hi224 ⟨ns229, hd226, k225, h227, h228⟩
          obtain ⟨y231, hy232, rfl⟩ := getMap hi224
          have hl233 := lt_of_get hy232
          refine ⟨rfl, ?_⟩
          unfold tYes
          refine ifT rfl ?_
          refine ⟨_, rfl, p, 9, (n + 60 + i223), rfl, h228, (by first | omega | assumption | decide | (simp; done) | (simp; omega)), (by first | omega | assumption | decide | (simp; done) | (simp; omega)), (by first | omega | assumption | decide | (simp; done) | (simp; omega)), fun r234 H238 hk239 h235 h236 h237 => ?_⟩
          have ne241 : p ≠ D209 := ne_of_none (h199).choose_spec.choose_spec.choose_spec.1 hD210
          have f240 : H238 D209 = some (.lst (ns229.map V.int)) := hk239.at1 hd226 ne241.symm
          refine ⟨_, f240, (by show ((ns229.map V.int)).length < sizeLine; refine slenlt ?_; first | (simp; done) | omega | (simp; omega) | (subst_vars; simp; omega)), updK (G := fun H' => ∃ (ns : List Int), H' D209 = some (.lst (ns.map V.int)) ∧ Kp [p] H192 H' ∧ (ns.length = (i223 + 1)) ∧ Pool H' p (n + 60 + (i223 + 1))) (fun H242 hp243 hk244 => ?_)⟩
          have k245 : Kp [p] H192 H238 := k225.step hk239 (fun b hb => by rw [List.mem_singleton.mp hb]; exact .inl (by simp))
          have k246 : Kp [p] H192 H242 := k245.step hk244 (fun b hb => by rw [List.mem_singleton.mp hb]; exact .inr hD210)
          have f247 : Pool H242 p ((n + 60 + i223) + 1) := Pool.at h237 hk244 (notMem1 ne241)
          exact ⟨(ns229 ++ [r234]), (show H242 D209 = some (.lst _) by first | exact hp243 | (rw [hp243]; simp)), k246, (by rw [List.length_append, h227]; rfl), (f247.mono (by omega))⟩
        · rintro H248 ⟨ns253, hd250, k249, h251, h252⟩
          try simp only [List.length_map] at *
          refine ⟨(by show 0 ≤ sizeLine; decide), fun p254 H255 hn256 hp257 hk258 => ?_⟩
          have f259 : Pool H255 p (n + 60 + (((ss12.take (Int.toNat r5))).length)) := Pool.at h252 hk258 (by simp)
          refine ⟨_, rfl, _, rfl, _, _, rfl, rfl, .inl (by decide), _, _, rfl, rfl, p, ((2 * r5) + 1), (n + 60 + (((ss12.take (Int.toNat r5))).length)), rfl, f259, (by first | omega | assumption | decide | (simp; done) | (simp; omega)), (by first | omega | assumption | decide | (simp; done) | (simp; omega)), (by first | omega | assumption | decide | (simp; done) | (simp; omega)), fun r260 H264 hk265 h261 h262 h263 => ?_⟩
          refine ⟨_, rfl, (by first | omega | assumption | decide | (simp; done) | (simp; omega)), (by first | omega | assumption | decide | (simp; done) | (simp; omega)), for_range (lo := 0) (n := Int.toNat r260) (fun i σ H' => ∃ (rs : List (Str × Str × Int)) (c : Addr) (v1 : Option V) (v2 : Option V) (v3 : Option V) (v4 : Option V) (v5 : Option V), σ = [some (V.ref p), some (V.int (m)), some (V.int (r5)), some (V.ref l11), some (V.ref p20), some (V.ref p27), some (V.ref q203), v205, u206, some (V.ref D209), some (.ref c), v1, v2, v3, v4, none] ∧ Kp [p] H264 H' ∧ (RulesOk (ss12.take (Int.toNat r5)) ns253 rs) ∧ (c ≠ p) ∧ (rs.length ≤ i) ∧ (v5 = none) ∧ (H c = none) ∧ Pool H' p (n + 100 + 8 * i) ∧ Rules H' c rs [p]) ?_ ?_ ?_⟩
          · have ne268 : p ≠ p254 := ne_of_none (h252).choose_spec.choose_spec.choose_spec.1 hn256
            have k269 : Kp [p] H H18 := hk10.step hk19 (fun b hb => by rw [List.mem_singleton.mp hb]; exact .inl (by simp))
            have k270 : Kp [p] H H21 := k269.step0 hk24
            have k271 : Kp [p] H H28 := k270.step0 hk31
            have k272 : Kp [p] H H35 := k271.step0 hk39
            have k273 : Kp [p] H H70 := k272.step k71 (fun b hb => by rw [List.mem_singleton.mp hb]; exact .inl (by simp))
            have k274 : Kp [p] H H192 := k273.step k193 (forall_mem2 (.inl (by simp)) (.inr (k270.free hn29)))
            have k275 : Kp [p] H H248 := k274.step k249 (fun b hb => by rw [List.mem_singleton.mp hb]; exact .inl (by simp))
            have f276 : H264 p254 = some (.lst []) := hk265.at1 hp257 ne268.symm
            exact ⟨[], p254, none, none, none, none, none, rfl, ((Kp.refl [] H264).mono (by simp)), RulesOk.nil, ne268.symm, (Nat.zero_le _), rfl, (k275.free hn256), (h263.mono (by omega)), ⟨[], f276, LIn.nil⟩⟩
          · rintro i278 σ H277 hi279 ⟨rs288, c289, v1290, v2291, v3292, v4293, v5294, rfl, k280, h281, h282, h283, h284, h285, h286, h287⟩
            have hi279 : i278 < Int.toNat r260 := hi279
            refine ⟨_, rfl, _, rfl, p, r5, (n + 100 + 8 * i278), rfl, h286, (by first | omega | assumption | decide | (simp; done) | (simp; omega)), (by first | omega | assumption | decide | (simp; done) | (simp; omega)), (by first | omega | assumption | decide | (simp; done) | (simp; omega)), fun r295 H299 hk300 h296 h297 h298 => ?_⟩
            refine ⟨_, rfl, _, rfl, p, r5, ((n + 100 + 8 * i278) + 1), rfl, h298, (by first | omega | assumption | decide | (simp; done) | (simp; omega)), (by first | omega | assumption | decide | (simp; done) | (simp; omega)), (by first | omega | assumption | decide | (simp; done) | (simp; omega)), fun r301 H305 hk306 h302 h303 h304 => ?_⟩
            refine ⟨(by show 9 ≤ sizeLine; decide), fun p307 H308 hn309 hp310 hk311 => ?_⟩
            have f312 : Pool H308 p (((n + 100 + 8 * i278) + 1) + 1) := Pool.at h304 hk311 (by simp)
            refine ⟨_, rfl, p, 9, (((n + 100 + 8 * i278) + 1) + 1), rfl, f312, (by first | omega | assumption | decide | (simp; done) | (simp; omega)), (by first | omega | assumption | decide | (simp; done) | (simp; omega)), (by first | omega | assumption | decide | (simp; done) | (simp; omega)), fun r313 H317 hk318 h314 h315 h316 => ?_⟩
            have ne320 : p ≠ p307 := ne_of_none (h304).choose_spec.choose_spec.choose_spec.1 hn309
            have f319 : H317 p307 = some (.lst [V.int (0), V.int (0), V.int (1), V.int (0), V.int (2), V.int (1), V.int (3), V.int (0), V.int (1)]) := hk318.at1 hp310 ne320.symm
            obtain ⟨x321, hx322, hy323⟩ := atI_map (f := V.int) (xs := ([0, 0, 1, 0, 2, 1, 3, 0, 1] : List Int)) (i := r313) (by first | omega | assumption | decide | (simp; done) | (simp; omega)) (by first | (simp; omega) | omega)
            refine ⟨_, _, _, _, rfl, rfl, (.inl (.inl f319)), hy323, ?_⟩
            refine ⟨fun σ H' => ∃ (t0 : Int), σ = [some (V.ref p), some (V.int (m)), some (V.int (r5)), some (V.ref l11), some (V.ref p20), some (V.ref p27), some (V.ref q203), v205, u206, some (V.ref D209), some (V.ref c289), some (V.int ((0 + (i278 : Int)))), some (V.int (r295)), some (V.int (r301)), some (.int t0), none] ∧ Kp [p] H317 H' ∧ (0 ≤ t0) ∧ (t0 ≤ 99) ∧ Pool H' p (n + 100 + 8 * i278 + 5), ?_, ?_⟩
            · refine ⟨_, rfl, p, 9, ((((n + 100 + 8 * i278) + 1) + 1) + 1), rfl, h316, (by first | omega | assumption | decide | (simp; done) | (simp; omega)), (by first | omega | assumption | decide | (simp; done) | (simp; omega)), (by first | omega | assumption | decide | (simp; done) | (simp; omega)), fun r324 H328 hk329 h325 h326 h327 => ?_⟩
              refine ⟨rfl, _, rfl, ite2 (fun hc330 => ?_) (fun hc330 => ?_)⟩
              · have hc330 : r324 = 0 := by simpa using hc330
                refine ⟨_, rfl, p, 100, (((((n + 100 + 8 * i278) + 1) + 1) + 1) + 1), rfl, h327, (by first | omega | assumption | decide | (simp; done) | (simp; omega)), (by first | omega | assumption | decide | (simp; done) | (simp; omega)), (by first | omega | assumption | decide | (simp; done) | (simp; omega)), fun r331 H335 hk336 h332 h333 h334 => ?_⟩
                have k337 : Kp [p] H317 H335 := hk329.step hk336 (fun b hb => by rw [List.mem_singleton.mp hb]; exact .inl (by simp))
                exact ⟨r331, rfl, k337, (by first | omega | exact (shift9 (by assumption)).1), (by first | omega | exact (shift9 (by assumption)).2), (h334.mono (by omega))⟩
              · have hc330 : ¬ (r324 = 0) := by simpa using hc330
                exact ⟨x321, rfl, hk329, (by first | omega | exact (shift9 (by assumption)).1), (by first | omega | exact (shift9 (by assumption)).2), (h327.mono (by omega))⟩
            · rintro σ H338 ⟨t0, rfl, k339, h340, h341, h342⟩
              refine ⟨fun σ H' => ∃ (f0 : Int) (g0 : Int), σ = [some (V.ref p), some (V.int (m)), some (V.int (r5)), some (V.ref l11), some (V.ref p20), some (V.ref p27), some (V.ref q203), v205, u206, some (V.ref D209), some (V.ref c289), some (V.int ((0 + (i278 : Int)))), some (.int f0), some (.int g0), some (V.int (t0)), none] ∧ Kp [] H338 H' ∧ (0 ≤ f0) ∧ (f0 < r5) ∧ (0 ≤ g0) ∧ (g0 < r5) ∧ (t0 = 0 → pairGt (ns253.getD (Int.toNat f0) 0) f0 (ns253.getD (Int.toNat g0) 0) g0 = false), ?_, ?_⟩
              · refine ⟨_, rfl, rfl, _, rfl, ite2 (fun hc343 => ?_) (fun hc343 => ?_)⟩
                · have hc343 : t0 = 0 := by simpa using hc343
                  have k344 : Kp [p] H248 H255 := Kp.more [p] hk258
                  have k345 : Kp [p] H248 H264 := k344.step hk265 (fun b hb => by rw [List.mem_singleton.mp hb]; exact .inl (by simp))
                  have k346 : Kp [p] H248 H277 := k345.step k280 (fun b hb => by rw [List.mem_singleton.mp hb]; exact .inl (by simp))
                  have k347 : Kp [p] H248 H299 := k346.step hk300 (fun b hb => by rw [List.mem_singleton.mp hb]; exact .inl (by simp))
                  have k348 : Kp [p] H248 H305 := k347.step hk306 (fun b hb => by rw [List.mem_singleton.mp hb]; exact .inl (by simp))
                  have k349 : Kp [p] H248 H308 := k348.step0 hk311
                  have k350 : Kp [p] H248 H317 := k349.step hk318 (fun b hb => by rw [List.mem_singleton.mp hb]; exact .inl (by simp))
                  have k351 : Kp [p] H248 H338 := k350.step k339 (fun b hb => by rw [List.mem_singleton.mp hb]; exact .inl (by simp))
                  have ne353 : p ≠ D209 := ne_of_none (h199).choose_spec.choose_spec.choose_spec.1 hD210
                  have f352 : H338 D209 = some (.lst (ns253.map V.int)) := k351.at1 hd250 ne353.symm
                  refine ⟨_, rfl, _, rfl, ?_⟩
                  obtain ⟨x354, hx355, hy356⟩ := atI_map (f := V.int) (xs := ns253) (i := r295) (by first | omega | assumption | decide | (simp; done) | (simp; omega)) (by first | omega | assumption | decide | (simp; done) | (simp; omega))
                  refine ⟨_, _, _, _, rfl, rfl, (.inl (.inl f352)), hy356, _, rfl, (by show 2 ≤ sizeLine; decide), fun p357 H358 hn359 hp360 hk361 => ?_⟩
                  have f362 : H358 D209 = some (.lst (ns253.map V.int)) := hk361.at0 f352 
                  refine ⟨_, rfl, _, rfl, ?_⟩
                  obtain ⟨x363, hx364, hy365⟩ := atI_map (f := V.int) (xs := ns253) (i := r301) (by first | omega | assumption | decide | (simp; done) | (simp; omega)) (by first | omega | assumption | decide | (simp; done) | (simp; omega))
                  refine ⟨_, _, _, _, rfl, rfl, (.inl (.inl f362)), hy365, _, rfl, (by show 2 ≤ sizeLine; decide), fun p366 H367 hn368 hp369 hk370 => ?_⟩
                  have f371 : H367 p357 = some (.tup [V.int (x354), V.int (r295)]) := hk370.at0 hp360 
                  refine ⟨_, _, _, _, _, _, rfl, rfl, SqT.of f371, SqT.of hp369, _, rfl, ite2 (fun hc372 => ?_) (fun hc372 => ?_)⟩
                  · have hc372 : pairGt x354 r295 x363 r301 = true := by simpa using hc372
                    have k373 : Kp [] H338 H367 := hk361.step0 hk370
                    refine ⟨_, rfl, _, rfl, _, _, rfl, rfl, _, rfl, _, rfl, _, _, rfl, rfl, _, rfl, _, rfl, _, _, rfl, rfl, ?_⟩
                    exact ⟨((r295 + r301) - ((r295 + r301) - r301)), ((r295 + r301) - r301), rfl, k373, (by first | omega | assumption | decide | (simp; done) | (simp; omega)), (by first | omega | assumption | decide | (simp; done) | (simp; omega)), (by first | omega | assumption | decide | (simp; done) | (simp; omega)), (by first | omega | assumption | decide | (simp; done) | (simp; omega)), (by first | exact fun z => absurd z (by omega) | exact fun _ => sw1 (by assumption) (by assumption) (by assumption) | exact fun _ => sw2 (f := r295) (g := r301) (by assumption) (by assumption) (by assumption) (by omega) (by omega))⟩
                  · have hc372 : ¬ (pairGt x354 r295 x363 r301 = true) := by simpa using hc372
                    have k374 : Kp [] H338 H367 := hk361.step0 hk370
                    exact ⟨r295, r301, rfl, k374, (by first | omega | assumption | decide | (simp; done) | (simp; omega)), (by first | omega | assumption | decide | (simp; done) | (simp; omega)), (by first | omega | assumption | decide | (simp; done) | (simp; omega)), (by first | omega | assumption | decide | (simp; done) | (simp; omega)), (by first | exact fun z => absurd z (by omega) | exact fun _ => sw1 (by assumption) (by assumption) (by assumption) | exact fun _ => sw2 (f := r295) (g := r301) (by assumption) (by assumption) (by assumption) (by omega) (by omega))⟩
                · have hc343 : ¬ (t0 = 0) := by simpa using hc343
                  refine ifF rfl ?_
                  exact ⟨r295, r301, rfl, (Kp.refl [] H338), (by first | omega | assumption | decide | (simp; done) | (simp; omega)), (by first | omega | assumption | decide | (simp; done) | (simp; omega)), (by first | omega | assumption | decide | (simp; done) | (simp; omega)), (by first | omega | assumption | decide | (simp; done) | (simp; omega)), (by first | exact fun z => absurd z (by omega) | exact fun _ => sw1 (by assumption) (by assumption) (by assumption) | exact fun _ => sw2 (f := r295) (g := r301) (by assumption) (by assumption) (by assumption) (by omega) (by omega))⟩
              · rintro σ H375 ⟨f0, g0, rfl, k376, h377, h378, h379, h380, h381⟩
                refine ⟨_, rfl, _, rfl, rfl, _, rfl, ite2 (fun hc382 => ?_) (fun hc382 => ?_)⟩
                · have hc382 : ¬ (f0 = g0) := by simpa using hc382
                  obtain ⟨a0, ha0, _⟩ := atI_list (xs := (ss12.take (Int.toNat r5))) (i := f0) (by omega) (by omega)
                  obtain ⟨b0, hb0, _⟩ := atI_list (xs := (ss12.take (Int.toNat r5))) (i := g0) (by omega) (by omega)
                  have k383 : Kp [p] H277 H305 := hk300.step hk306 (fun b hb => by rw [List.mem_singleton.mp hb]; exact .inl (by simp))
                  have k384 : Kp [p] H277 H308 := k383.step0 hk311
                  have k385 : Kp [p] H277 H317 := k384.step hk318 (fun b hb => by rw [List.mem_singleton.mp hb]; exact .inl (by simp))
                  have k386 : Kp [p] H277 H338 := k385.step k339 (fun b hb => by rw [List.mem_singleton.mp hb]; exact .inl (by simp))
                  have k387 : Kp [p] H277 H375 := k386.step0 k376
                  have f388 : Rules H375 c289 rs288 [p] := Lst.kp tR_st h287 k387 (notMem1 h282) (by simp)
                  refine ⟨_, rfl, ?_⟩
                  obtain ⟨ps389, e390, l391⟩ := id f388
                  have ll392 : ps389.length = _ := (l391).1
                  refine ⟨_, rfl, ⟨_, (.inl (.inl e390))⟩, fun D393 hD394 => lc_list (K := K) (a := c289) (xs := (ps389.map V.ref)) (fun i H' => ∃ (qs : List Addr) (rs2 : List (Str × Str × Int)), H' D393 = some (.lst (qs.map V.ref)) ∧ Kp [] H375 H' ∧ (rs2 = (rs288.take i).filter (other a0 b0)) ∧ (qs.length ≤ i) ∧ RulesIn H' qs rs2 [p, D393]) ?_ ?_ ?_ ?_⟩
                  · refine updN (G := fun H' => ∃ (qs : List Addr) (rs2 : List (Str × Str × Int)), H' D393 = some (.lst (qs.map V.ref)) ∧ Kp [] H375 H' ∧ (rs2 = (rs288.take 0).filter (other a0 b0)) ∧ (qs.length ≤ 0) ∧ RulesIn H' qs rs2 [p, D393]) hD394 (fun H395 hp396 hk397 => ?_)
                    exact ⟨[], [], hp396, hk397, rfl, (Nat.zero_le _), LIn.nil⟩
                  · rintro i H398 hi ⟨qs404, rs2405, hd400, k399, h401, h402, h403⟩
                    have f406 : H398 c289 = some (.lst (ps389.map V.ref)) := k399.at0 e390 
                    exact (.inl (.inl f406))
                  · rintro i408 x417 H407 hi409 ⟨qs415, rs2416, hd411, k410, h412, h413, h414⟩
                    obtain ⟨y418, hy419, rfl⟩ := getMap hi409
                    have hl420 := lt_of_get hy419
                    obtain ⟨r421, hr422, hn423, hf424⟩ := LIn.at l391 hy419
                    have ne425 : y418 ≠ p := fun z => hn423 (by simp [z])
                    have hf424 : H375 y418 = some (.tup [V.str (r421.1), V.str (r421.2.1), V.int (r421.2.2)]) := hf424
                    refine ⟨rfl, ?_⟩
                    have f426 : H407 y418 = some (.tup [V.str (r421.1), V.str (r421.2.1), V.int (r421.2.2)]) := k410.at0 hf424 
                    refine ⟨_, rfl, _, _, _, _, rfl, rfl, (.inl (.inl f426)), rfl, _, rfl, _, _, _, _, rfl, rfl, (.inl (.inl f426)), rfl, (by show 2 ≤ sizeLine; decide), fun p427 H428 hn429 hp430 hk431 => ?_⟩
                    have k432 : Kp [p] H192 H255 := k249.step0 hk258
                    have k433 : Kp [p] H192 H264 := k432.step hk265 (fun b hb => by rw [List.mem_singleton.mp hb]; exact .inl (by simp))
                    have k434 : Kp [p] H192 H277 := k433.step k280 (fun b hb => by rw [List.mem_singleton.mp hb]; exact .inl (by simp))
                    have k435 : Kp [p] H192 H299 := k434.step hk300 (fun b hb => by rw [List.mem_singleton.mp hb]; exact .inl (by simp))
                    have k436 : Kp [p] H192 H305 := k435.step hk306 (fun b hb => by rw [List.mem_singleton.mp hb]; exact .inl (by simp))
                    have k437 : Kp [p] H192 H308 := k436.step0 hk311
                    have k438 : Kp [p] H192 H317 := k437.step hk318 (fun b hb => by rw [List.mem_singleton.mp hb]; exact .inl (by simp))
                    have k439 : Kp [p] H192 H338 := k438.step k339 (fun b hb => by rw [List.mem_singleton.mp hb]; exact .inl (by simp))
                    have k440 : Kp [p] H192 H375 := k439.step0 k376
                    have k441 : Kp [p] H192 H407 := k440.step0 k410
                    have k442 : Kp [p] H192 H428 := k441.step0 hk431
                    have f443 : H428 p20 = some (.lst ((ss12.take (Int.toNat r5)).map V.str)) := k442.at1 f207 ne81.symm
                    refine ⟨_, rfl, _, rfl, ?_⟩
                    obtain ⟨x444, hx445, hy446⟩ := atI_map (f := V.str) (xs := (ss12.take (Int.toNat r5))) (i := f0) (by first | omega | assumption | decide | (simp; done) | (simp; omega)) (by first | omega | assumption | decide | (simp; done) | (simp; omega))
                    refine ⟨_, _, _, _, rfl, rfl, (.inl (.inl f443)), hy446, _, rfl, _, rfl, ?_⟩
                    obtain ⟨x447, hx448, hy449⟩ := atI_map (f := V.str) (xs := (ss12.take (Int.toNat r5))) (i := g0) (by first | omega | assumption | decide | (simp; done) | (simp; omega)) (by first | omega | assumption | decide | (simp; done) | (simp; omega))
                    refine ⟨_, _, _, _, rfl, rfl, (.inl (.inl f443)), hy449, (by show 2 ≤ sizeLine; decide), fun p450 H451 hn452 hp453 hk454 => ?_⟩
                    have f455 : H451 p427 = some (.tup [V.str (r421.1), V.str (r421.2.1)]) := hk454.at0 hp430 
                    refine ⟨_, _, dp_strT (ss := [r421.1, r421.2.1]) f455, dp_strT (ss := [x444, x447]) hp453, (shaped_strT (allNm2 ((RulesOk.nm h281 nss (List.mem_of_getElem? hr422)).1) ((RulesOk.nm h281 nss (List.mem_of_getElem? hr422)).2))), (shaped_strT (allNm2 (nss.2 _ (List.mem_of_getElem? hx445)) (nss.2 _ (List.mem_of_getElem? hx448)))), _, rfl, ite2 (fun hc456 => ?_) (fun hc456 => ?_)⟩
                    · have hc456 : ¬ ([r421.1, r421.2.1] = [x444, x447]) := by rw [eqv_strT] at hc456; exact ndec hc456
                      have k457 : Kp [] H407 H451 := hk431.step0 hk454
                      have f458 : H451 D393 = some (.lst (qs415.map V.ref)) := k457.at0 hd411 
                      refine ⟨_, rfl, _, f458, (by show ((qs415.map V.ref)).length < sizeLine; refine slenlt ?_; first | (simp; done) | omega | (simp; omega) | (subst_vars; simp; omega)), updK (G := fun H' => ∃ (qs : List Addr) (rs2 : List (Str × Str × Int)), H' D393 = some (.lst (qs.map V.ref)) ∧ Kp [] H375 H' ∧ (rs2 = (rs288.take (i408 + 1)).filter (other a0 b0)) ∧ (qs.length ≤ (i408 + 1)) ∧ RulesIn H' qs rs2 [p, D393]) (fun H459 hp460 hk461 => ?_)⟩
                      have k462 : Kp [D393] H407 H451 := Kp.more [D393] k457
                      have k463 : Kp [D393] H407 H459 := k462.step hk461 (fun b hb => by rw [List.mem_singleton.mp hb]; exact .inl (by simp))
                      have f464 : RulesIn H459 qs415 rs2416 [p, D393] := LIn.kp tR_st h414 k463 (by simp)
                      have ne466 : y418 ≠ D393 := ne_of_none hf424 hD394
                      have f465 : H459 y418 = some (.tup [V.str (r421.1), V.str (r421.2.1), V.int (r421.2.2)]) := k463.at1 f426 ne466
                      have f467 : RulesIn H459 (qs415 ++ [y418]) (rs2416 ++ [(r421.1, r421.2.1, r421.2.2)]) [p, D393] := LIn.snoc f464 (notMem2 ne425 ne466) f465
                      have k468 : Kp [] H375 H428 := k410.step0 hk431
                      have k469 : Kp [] H375 H451 := k468.step0 hk454
                      have k470 : Kp [] H375 H459 := k469.step hk461 (fun b hb => by rw [List.mem_singleton.mp hb]; exact .inr hD394)
                      exact ⟨(qs415 ++ [y418]), (rs2416 ++ [(r421.1, r421.2.1, r421.2.2)]), (show H459 D393 = some (.lst _) by first | exact hp460 | (rw [hp460]; simp)), k470, (by rw [filter_take hr422, if_pos (other_true hc456 (get_eq hx445 ha0) (get_eq hx448 hb0))]; rw [h412]), (by rw [List.length_append]; have := h413; simp; omega), f467⟩
                    · have hc456 : [r421.1, r421.2.1] = [x444, x447] := by rw [eqv_strT] at hc456; exact nndec hc456
                      have k471 : Kp [] H407 H451 := hk431.step0 hk454
                      have f472 : H451 D393 = some (.lst (qs415.map V.ref)) := k471.at0 hd411 
                      have k473 : Kp [] H375 H428 := k410.step0 hk431
                      have k474 : Kp [] H375 H451 := k473.step0 hk454
                      have f475 : RulesIn H451 qs415 rs2416 [p, D393] := LIn.kp tR_st h414 k471 (by simp)
                      exact ⟨qs415, rs2416, f472, k474, (by rw [filter_take hr422, if_neg (other_false hc456 (get_eq hx445 ha0) (get_eq hx448 hb0))]; rw [h412, List.append_nil]), (by have := h413; omega), f475⟩
                  · rintro H476 ⟨qs482, rs2483, hd478, k477, h479, h480, h481⟩
                    try simp only [List.length_map] at *
                    have k484 : Kp [p] H192 H255 := k249.step0 hk258
                    have k485 : Kp [p] H192 H264 := k484.step hk265 (fun b hb => by rw [List.mem_singleton.mp hb]; exact .inl (by simp))
                    have k486 : Kp [p] H192 H277 := k485.step k280 (fun b hb => by rw [List.mem_singleton.mp hb]; exact .inl (by simp))
                    have k487 : Kp [p] H192 H299 := k486.step hk300 (fun b hb => by rw [List.mem_singleton.mp hb]; exact .inl (by simp))
                    have k488 : Kp [p] H192 H305 := k487.step hk306 (fun b hb => by rw [List.mem_singleton.mp hb]; exact .inl (by simp))
                    have k489 : Kp [p] H192 H308 := k488.step0 hk311
                    have k490 : Kp [p] H192 H317 := k489.step hk318 (fun b hb => by rw [List.mem_singleton.mp hb]; exact .inl (by simp))
                    have k491 : Kp [p] H192 H338 := k490.step k339 (fun b hb => by rw [List.mem_singleton.mp hb]; exact .inl (by simp))
                    have k492 : Kp [p] H192 H375 := k491.step0 k376
                    have k493 : Kp [p] H192 H476 := k492.step0 k477
                    have f494 : H476 p20 = some (.lst ((ss12.take (Int.toNat r5)).map V.str)) := k493.at1 f207 ne81.symm
                    refine ⟨_, rfl, .inl ⟨rfl, _, SqL.of hd478⟩, _, rfl, _, rfl, ?_⟩
                    obtain ⟨x495, hx496, hy497⟩ := atI_map (f := V.str) (xs := (ss12.take (Int.toNat r5))) (i := f0) (by first | omega | assumption | decide | (simp; done) | (simp; omega)) (by first | omega | assumption | decide | (simp; done) | (simp; omega))
                    refine ⟨_, _, _, _, rfl, rfl, (.inl (.inl f494)), hy497, _, rfl, _, rfl, ?_⟩
                    obtain ⟨x498, hx499, hy500⟩ := atI_map (f := V.str) (xs := (ss12.take (Int.toNat r5))) (i := g0) (by first | omega | assumption | decide | (simp; done) | (simp; omega)) (by first | omega | assumption | decide | (simp; done) | (simp; omega))
                    refine ⟨_, _, _, _, rfl, rfl, (.inl (.inl f494)), hy500, _, rfl, (by show 3 ≤ sizeLine; decide), fun p501 H502 hn503 hp504 hk505 => ?_⟩
                    have f506 : H502 D393 = some (.lst (qs482.map V.ref)) := hk505.at0 hd478 
                    refine ⟨_, _, _, rfl, rfl, f506, (by show ((qs482.map V.ref)).length < sizeLine; refine slenlt ?_; first | (simp; done) | omega | (simp; omega) | (subst_vars; simp; omega)), fun H507 hp508 hk509 => ?_⟩
                    have hp510 : H507 D393 = some (.lst ((qs482 ++ [p501]).map V.ref)) := by rw [hp508]; simp
                    have k511 : Kp [D393] H476 H502 := Kp.more [D393] hk505
                    have k512 : Kp [D393] H476 H507 := k511.step hk509 (fun b hb => by rw [List.mem_singleton.mp hb]; exact .inl (by simp))
                    have f513 : RulesIn H507 qs482 rs2483 [p, D393] := LIn.kp tR_st h481 k512 (by simp)
                    have ne515 : D393 ≠ p501 := ne_of_none hd478 hn503
                    have f514 : H507 p501 = some (.tup [V.str (x495), V.str (x498), V.int (t0)]) := hk509.at1 hp504 ne515.symm
                    have k516 : Kp [] H338 H476 := k376.step0 k477
                    have f517 : Pool H476 p (n + 100 + 8 * i278 + 5) := Pool.at h342 k516 (by simp)
                    have ne518 : p ≠ p501 := ne_of_none (f517).choose_spec.choose_spec.choose_spec.1 hn503
                    have f519 : RulesIn H507 (qs482 ++ [p501]) (rs2483 ++ [(x495, x498, t0)]) [p, D393] := LIn.snoc f513 (notMem2 ne518.symm ne515.symm) f514
                    have k520 : Kp [p] H264 H299 := k280.step hk300 (fun b hb => by rw [List.mem_singleton.mp hb]; exact .inl (by simp))
                    have k521 : Kp [p] H264 H305 := k520.step hk306 (fun b hb => by rw [List.mem_singleton.mp hb]; exact .inl (by simp))
                    have k522 : Kp [p] H264 H308 := k521.step0 hk311
                    have k523 : Kp [p] H264 H317 := k522.step hk318 (fun b hb => by rw [List.mem_singleton.mp hb]; exact .inl (by simp))
                    have k524 : Kp [p] H264 H338 := k523.step k339 (fun b hb => by rw [List.mem_singleton.mp hb]; exact .inl (by simp))
                    have k525 : Kp [p] H264 H375 := k524.step0 k376
                    have k526 : Kp [p] H264 H476 := k525.step0 k477
                    have k527 : Kp [p] H264 H502 := k526.step0 hk505
                    have k528 : Kp [p] H264 H507 := k527.step hk509 (fun b hb => by rw [List.mem_singleton.mp hb]; exact .inr (k525.free hD394))
                    have f529 : Pool H375 p (n + 100 + 8 * i278 + 5) := Pool.at h342 k376 (by simp)
                    have ne530 : p ≠ D393 := ne_of_none (f529).choose_spec.choose_spec.choose_spec.1 hD394
                    have k531 : Kp [p] H H18 := hk10.step hk19 (fun b hb => by rw [List.mem_singleton.mp hb]; exact .inl (by simp))
                    have k532 : Kp [p] H H21 := k531.step0 hk24
                    have k533 : Kp [p] H H28 := k532.step0 hk31
                    have k534 : Kp [p] H H35 := k533.step0 hk39
                    have k535 : Kp [p] H H70 := k534.step k71 (fun b hb => by rw [List.mem_singleton.mp hb]; exact .inl (by simp))
                    have k536 : Kp [p] H H192 := k535.step k193 (forall_mem2 (.inl (by simp)) (.inr (k532.free hn29)))
                    have k537 : Kp [p] H H248 := k536.step k249 (fun b hb => by rw [List.mem_singleton.mp hb]; exact .inl (by simp))
                    have k538 : Kp [p] H H255 := k537.step0 hk258
                    have k539 : Kp [p] H H264 := k538.step hk265 (fun b hb => by rw [List.mem_singleton.mp hb]; exact .inl (by simp))
                    have k540 : Kp [p] H H277 := k539.step k280 (fun b hb => by rw [List.mem_singleton.mp hb]; exact .inl (by simp))
                    have k541 : Kp [p] H H299 := k540.step hk300 (fun b hb => by rw [List.mem_singleton.mp hb]; exact .inl (by simp))
                    have k542 : Kp [p] H H305 := k541.step hk306 (fun b hb => by rw [List.mem_singleton.mp hb]; exact .inl (by simp))
                    have k543 : Kp [p] H H308 := k542.step0 hk311
                    have k544 : Kp [p] H H317 := k543.step hk318 (fun b hb => by rw [List.mem_singleton.mp hb]; exact .inl (by simp))
                    have k545 : Kp [p] H H338 := k544.step k339 (fun b hb => by rw [List.mem_singleton.mp hb]; exact .inl (by simp))
                    have k546 : Kp [p] H H375 := k545.step0 k376
                    have f547 : Pool H507 p (n + 100 + 8 * i278 + 5) := Pool.at f517 k512 (notMem1 ne530)
                    exact ⟨(rs2483 ++ [(x495, x498, t0)]), D393, some (V.int ((0 + (i278 : Int)))), some (V.int (f0)), some (V.int (g0)), some (V.int (t0)), none, rfl, k528, (by rw [h479, List.take_of_length_le (l := rs288) (by omega), get_eq hx496 ha0, get_eq hx499 hb0]; exact RulesOk.put h281 (by omega) (by omega) ha0 hb0 hc382 (by omega) (by omega) h381), ne530.symm, (by rw [h479]; exact put_len h283), rfl, (k546.free hD394), (f547.mono (by omega)), ⟨(qs482 ++ [p501]), hp510, (f519.mono (by simp))⟩⟩
                · have hc382 : f0 = g0 := by simpa using hc382
                  have k548 : Kp [p] H264 H299 := k280.step hk300 (fun b hb => by rw [List.mem_singleton.mp hb]; exact .inl (by simp))
                  have k549 : Kp [p] H264 H305 := k548.step hk306 (fun b hb => by rw [List.mem_singleton.mp hb]; exact .inl (by simp))
                  have k550 : Kp [p] H264 H308 := k549.step0 hk311
                  have k551 : Kp [p] H264 H317 := k550.step hk318 (fun b hb => by rw [List.mem_singleton.mp hb]; exact .inl (by simp))
                  have k552 : Kp [p] H264 H338 := k551.step k339 (fun b hb => by rw [List.mem_singleton.mp hb]; exact .inl (by simp))
                  have k553 : Kp [p] H264 H375 := k552.step0 k376
                  have f554 : Pool H375 p (n + 100 + 8 * i278 + 5) := Pool.at h342 k376 (by simp)
                  have k555 : Kp [p] H277 H305 := hk300.step hk306 (fun b hb => by rw [List.mem_singleton.mp hb]; exact .inl (by simp))
                  have k556 : Kp [p] H277 H308 := k555.step0 hk311
                  have k557 : Kp [p] H277 H317 := k556.step hk318 (fun b hb => by rw [List.mem_singleton.mp hb]; exact .inl (by simp))
                  have k558 : Kp [p] H277 H338 := k557.step k339 (fun b hb => by rw [List.mem_singleton.mp hb]; exact .inl (by simp))
                  have k559 : Kp [p] H277 H375 := k558.step0 k376
                  have f560 : Rules H375 c289 rs288 [p] := Lst.kp tR_st h287 k559 (notMem1 h282) (by simp)
                  exact ⟨rs288, c289, some (V.int ((0 + (i278 : Int)))), some (V.int (f0)), some (V.int (g0)), some (V.int (t0)), none, rfl, k553, h281, h282, (by first | omega | assumption | decide | (simp; done) | (simp; omega)), rfl, h285, (f554.mono (by omega)), f560⟩
          · rintro σ H561 ⟨rs570, c571, v1572, v2573, v3574, v4575, v5576, rfl, k562, h563, h564, h565, h566, h567, h568, h569⟩
            refine ⟨_, rfl, _, rfl, _, rfl, (by show 3 ≤ sizeLine; decide), fun p577 H578 hn579 hp580 hk581 => ?_⟩
            have k582 : Kp [p] H H18 := hk10.step hk19 (fun b hb => by rw [List.mem_singleton.mp hb]; exact .inl (by simp))
            have k583 : Kp [p] H H21 := k582.step0 hk24
            have k584 : Kp [p] H H28 := k583.step0 hk31
            have k585 : Kp [p] H H35 := k584.step0 hk39
            have k586 : Kp [p] H H70 := k585.step k71 (fun b hb => by rw [List.mem_singleton.mp hb]; exact .inl (by simp))
            have k587 : Kp [p] H H192 := k586.step k193 (forall_mem2 (.inl (by simp)) (.inr (k583.free hn29)))
            have k588 : Kp [p] H H248 := k587.step k249 (fun b hb => by rw [List.mem_singleton.mp hb]; exact .inl (by simp))
            have k589 : Kp [p] H H255 := k588.step0 hk258
            have k590 : Kp [p] H H264 := k589.step hk265 (fun b hb => by rw [List.mem_singleton.mp hb]; exact .inl (by simp))
            have k591 : Kp [p] H H561 := k590.step k562 (fun b hb => by rw [List.mem_singleton.mp hb]; exact .inl (by simp))
            have k592 : Kp [p] H192 H255 := k249.step0 hk258
            have k593 : Kp [p] H192 H264 := k592.step hk265 (fun b hb => by rw [List.mem_singleton.mp hb]; exact .inl (by simp))
            have k594 : Kp [p] H192 H561 := k593.step k562 (fun b hb => by rw [List.mem_singleton.mp hb]; exact .inl (by simp))
            have k595 : Kp [p] H192 H578 := k594.step0 hk581
            have f596 : H578 p20 = some (.lst ((ss12.take (Int.toNat r5)).map V.str)) := k595.at1 f207 ne81.symm
            have f598 : Pool H21 p ((n + 1) + 12) := Pool.at h17 hk24 (by simp)
            have ne599 : p ≠ p27 := ne_of_none (f598).choose_spec.choose_spec.choose_spec.1 hn29
            have f597 : Rows H578 p27 rows202 [p, p27] := Lst.kp tS_st h200 k595 (notMem1 ne599.symm) (by simp)
            have f600 : Rules H578 c571 rs570 [p] := Lst.kp tR_st h569 hk581 (by simp) (by simp)
            have f601 : Pool H578 p (n + 100 + 8 * (Int.toNat r260)) := Pool.at h568 hk581 (by simp)
            have k602 : Kp [p] H H578 := k591.step0 hk581
            exact q p577 p20 p27 c571 (ss12.take (Int.toNat r5)) rows202 ns253 rs570 H578 k602 (k591.free hn579) (k582.free hn22) (k583.free hn29) h567 hp580 f596 (f597.mono (by simp)) f600 (by rw [List.length_take]; omega) nss (by have := h194; omega) (Nms.sub h72 (by have q := h195; rw [← q]; exact List.sublist_append_left _ _)) h196 h563 (f601.mono (by omega))
theorem ok__law_define (T : Tx K mg A) : FnOk P w K mg base (L2.CX P w) 4 A.f__law_define A.d__law_define ps__law_define (sp__law_define K A) := by
  refine T.F__law_define.okX sc__law_define (fun vs H Q E h => ?_) (fun cdv Ar outer s H vs Q E hr h => ?_)
  · obtain ⟨a, w, wr, ru, le, l, S, x, fs, rfl, _⟩ := h; rfl
  · obtain ⟨a, w, wr, ru, le, l, S, x, fs, rfl, hp, hf, nx, nf, z1, z2, z3, q, qx⟩ := h
    refine ⟨_, (pss_one (ps_if (pt_cmpR op_eq (pe_callB (r := rLenK K) call_lenK (by rfl) T.n_len PySem.boot_len (pa_cons (pv 2) pa_nil)) pe_int (nomark _))
  (pss_one (ps_expr (pe_methN (pv 0) T.cl_Plan T.m_Plan_define (fr_Plan_define T) (hr.mono (by decide)) (fun σ => passAt (takes_of rfl rfl rfl rfl) σ) (pa_cons (pv 1) pa_nil))))
  (pss_one (ps_if (pt_cmpR op_eq (pe_callB (r := rLenK K) call_lenK (by rfl) T.n_len PySem.boot_len (pa_cons (pv 2) pa_nil)) pe_int (nomark _))
  (pss_one (ps_expr (pe_methN (pv 0) T.cl_Plan T.m_Plan_define (fr_Plan_define T) (hr.mono (by decide)) (fun σ => passAt (takes_of rfl rfl rfl rfl) σ) (pa_cons (pv 1) (pa_cons (pe_ix (r := rIxL K) ix_list (pv 2) pe_int (fun _ _ => rfl)) pa_nil)))))
  (pss_one (ps_if (pt_cmpR op_eq (pe_callB (r := rLenK K) call_lenK (by rfl) T.n_len PySem.boot_len (pa_cons (pv 2) pa_nil)) pe_int (nomark _))
  (pss_one (ps_expr (pe_methN (pv 0) T.cl_Plan T.m_Plan_define (fr_Plan_define T) (hr.mono (by decide)) (fun σ => passAt (takes_of rfl rfl rfl rfl) σ) (pa_cons (pv 1) (pa_cons (pe_ix (r := rIxL K) ix_list (pv 2) pe_int (fun _ _ => rfl)) (pa_cons (pe_ix (r := rIxL K) ix_list (pv 2) pe_int (fun _ _ => rfl)) pa_nil))))))
  (pss_one (ps_expr (pe_methN (pv 0) T.cl_Plan T.m_Plan_define (fr_Plan_define T) (hr.mono (by decide)) (fun σ => passAt (takes_of rfl rfl rfl rfl) σ) (pa_cons (pv 1) (pa_cons (pe_ix (r := rIxL K) ix_list (pv 2) pe_int (fun _ _ => rfl)) (pa_cons (pe_ix (r := rIxL K) ix_list (pv 2) pe_int (fun _ _ => rfl)) (pa_cons (pe_ix (r := rIxL K) ix_list (pv 2) pe_int (fun _ _ => rfl)) pa_nil))))))))))))), ?_⟩
    obtain ⟨dx, ho⟩ := hp.o
    have pn := @pfn w wr ru le "define" (by decide +kernel)
    rcases fs with _ | ⟨f, _ | ⟨g, _ | ⟨e, _ | ⟨b, r⟩⟩⟩⟩
    · refine ⟨_, rfl, _, _, 0, rfl, .inl (SqL.of hf), (by simp), rfl, _, rfl, ifT (by decide) ?_⟩
      exact ⟨_, rfl, a, dx, _, rfl, ho, pn, _, rfl, a, w, wr, ru, le, S, x, [], rfl, hp, nx, nf, z1, z2, by simp, q, qx⟩
    · have hl : SqL K H l [V.str f] := .inl (.inl hf)
      refine ⟨_, rfl, _, _, 1, rfl, .inl (SqL.of hf), (by simp), rfl, _, rfl, ifF (by decide) ?_⟩
      refine ⟨_, rfl, _, _, 1, rfl, .inl (SqL.of hf), (by simp), rfl, _, rfl, ifT (by decide) ?_⟩
      exact ⟨_, rfl, a, dx, _, rfl, ho, pn, _, rfl, _, rfl, _, _, _, _, rfl, rfl, hl, rfl, a, w, wr, ru, le, S, x, [f], rfl, hp, nx, nf, z1, z2, by simp, q, qx⟩
    · have hl : SqL K H l [V.str f, V.str g] := .inl (.inl hf)
      refine ⟨_, rfl, _, _, 2, rfl, .inl (SqL.of hf), (by simp), rfl, _, rfl, ifF (by decide) ?_⟩
      refine ⟨_, rfl, _, _, 2, rfl, .inl (SqL.of hf), (by simp), rfl, _, rfl, ifF (by decide) ?_⟩
      refine ⟨_, rfl, _, _, 2, rfl, .inl (SqL.of hf), (by simp), rfl, _, rfl, ifT (by decide) ?_⟩
      exact ⟨_, rfl, a, dx, _, rfl, ho, pn, _, rfl, _, rfl, _, _, _, _, rfl, rfl, hl, rfl, _, rfl, _, _, _, _, rfl, rfl, hl, rfl, a, w, wr, ru, le, S, x, [f, g], rfl, hp, nx, nf, z1, z2, by simp, q, qx⟩
    · have hl : SqL K H l [V.str f, V.str g, V.str e] := .inl (.inl hf)
      refine ⟨_, rfl, _, _, 3, rfl, .inl (SqL.of hf), (by simp), rfl, _, rfl, ifF (by decide) ?_⟩
      refine ⟨_, rfl, _, _, 3, rfl, .inl (SqL.of hf), (by simp), rfl, _, rfl, ifF (by decide) ?_⟩
      refine ⟨_, rfl, _, _, 3, rfl, .inl (SqL.of hf), (by simp), rfl, _, rfl, ifF (by decide) ?_⟩
      exact ⟨_, rfl, a, dx, _, rfl, ho, pn, _, rfl, _, rfl, _, _, _, _, rfl, rfl, hl, rfl, _, rfl, _, _, _, _, rfl, rfl, hl, rfl, _, rfl, _, _, _, _, rfl, rfl, hl, rfl, a, w, wr, ru, le, S, x, [f, g, e], rfl, hp, nx, nf, z1, z2, by simp, q, qx⟩
    · simp at z3
theorem ok__law_files (T : Tx K mg A) : FnOk P w K mg base CX0 1 A.f__law_files A.d__law_files ps__law_files (sp__law_files K A) := by
  refine T.F__law_files.ok sc__law_files (fun vs H Q E h => ?_) (fun cdv Ar outer s H vs Q E hr h => ?_)
  · obtain ⟨l, b, v, rows, ms, rfl, _⟩ := h; rfl
  · obtain ⟨l, b, v, rows, ms, rfl, hl, hr', hz, q⟩ := h
    refine ⟨_, (pss_cons (ps_set (i := 1) sc__law_files.nd rfl (Or.inl rfl) (pe_lstK pa_nil))
  (pss_cons (ps_for PassesOwn.never rfl (pi_list (pe_ix (r := rIxL K) ix_list (pv 0) pe_int (fun _ _ => rfl))) (pg_name (i := 2) sc__law_files.nd rfl (Or.inl rfl))
  (pss_one (ps_set (i := 1) sc__law_files.nd rfl (Or.inl rfl) (pe_op op_catK (pv 1) (pv 2)))))
  (pss_one (ps_ret (pv 1))))), ?_⟩
    obtain ⟨ps, e0, li⟩ := hr'
    refine ⟨by show 0 ≤ sizeLine; decide, fun p0 H1 hn0 hp0 k1 => ?_⟩
    refine ⟨_, rfl, _, _, _, _, rfl, rfl, .inl (.inl (k1.at0 hl)), rfl, b, rfl, ⟨_, SqL.of (k1.at0 e0)⟩, for_list (K := K) (a := b) (xs := ps.map V.ref)
      (fun i σ H' => ∃ (r : Addr) (v1 : Option V), σ = [some (.ref l), some (.ref r), v1] ∧ Kp [] H H' ∧ H r = none ∧ H' r = some (.lst (((rows.take i).flatten).map V.str))) ?_ ?_ ?_ ?_⟩
    · exact ⟨p0, none, rfl, k1, hn0, by rw [hp0]; rfl⟩
    · rintro i σ H2 _ ⟨r, v1, rfl, k, _, _⟩
      exact SqL.of (k.at0 e0)
    · rintro i y σ H2 hy ⟨r, v1, rfl, k, hn, hr2⟩
      obtain ⟨t, ht, rfl⟩ := getMap hy
      obtain ⟨row, hrow, _, hat⟩ := li.at ht
      have hat' : H t = some (.lst (row.map V.str)) := hat
      have sz : (rows.take (i + 1)).flatten = (rows.take i).flatten ++ row := by rw [List.take_add_one, hrow]; simp
      have le1 : ((rows.take (i + 1)).flatten).length ≤ rows.flatten.length := by
        have := congrArg List.length (congrArg List.flatten (List.take_append_drop (i + 1) rows))
        rw [List.flatten_append, List.length_append] at this; omega
      rw [sz, List.length_append] at le1
      refine ⟨_, rfl, _, rfl, _, _, _, _, rfl, rfl, hr2, k.at0 hat', (by show (List.map V.str _).length + (List.map V.str _).length ≤ sizeLine; rw [List.length_map, List.length_map]; exact slen (by omega)), fun p H3 hn3 hp3 k3 => ?_⟩
      refine ⟨p, _, rfl, k.trans k3, k.free hn3, ?_⟩
      rw [hp3, sz, List.map_append]
    · rintro σ H2 ⟨r, v1, rfl, k, hn, hr2⟩
      refine ⟨_, rfl, ?_⟩
      rw [List.length_map, li.1, List.take_length] at hr2
      exact q r H2 hn k hr2
theorem ok__law_stranger (T : Tx K mg A) : FnOk P w K mg base CX0 2 A.f__law_stranger A.d__law_stranger ps__law_stranger (sp__law_stranger K A) := by
  refine T.F__law_stranger.ok sc__law_stranger (fun vs H Q E h => ?_) (fun cdv Ar outer s H vs Q E hr h => ?_)
  · obtain ⟨p, l, n, ss, rfl, _⟩ := h; rfl
  · obtain ⟨p, l, n, ss, rfl, hpo, hn, hl, hs, hz, q⟩ := h
    refine ⟨_, (pss_cons (ps_set (i := 2) sc__law_stranger.nd rfl (Or.inl rfl) pe_str)
  (Evl.pss_cut (ps_if (pt_cmpR (r := rNeD K) (op_neD hr.units) (pv 1) (pe_lstK pa_nil) (nomark _))
  (pss_one (ps_set (i := 2) sc__law_stranger.nd rfl (Or.inl rfl) (pe_ix (r := rIxL K) ix_list (pv 1) (pe_call (ok__law_take T) (hr.mono (by decide)) rfl T.g__law_take T.k__law_take T.b__law_take .nil pass0 (pa_cons (pv 0) (pa_cons (pe_callB (r := rLenK K) call_lenK (by rfl) T.n_len PySem.boot_len (pa_cons (pv 1) pa_nil)) pa_nil))) (fun _ _ => rfl))))
  pss_nil)
  (pss_cons (ps_set (i := 3) sc__law_stranger.nd rfl (Or.inl rfl) pe_str)
  (pss_cons (ps_set (i := 4) sc__law_stranger.nd rfl (Or.inl rfl) (pe_call (ok__law_take T) (hr.mono (by decide)) rfl T.g__law_take T.k__law_take T.b__law_take .nil pass0 (pa_cons (pv 0) (pa_cons pe_int pa_nil))))
  (pss_cons (ps_for PassesOwn.never rfl (pi_range1 rfl T.n_range (pa_cons pe_int pa_nil)) (pg_name (i := 5) sc__law_stranger.nd rfl (Or.inl rfl))
  (pss_cons (ps_set (i := 6) sc__law_stranger.nd rfl (Or.inl rfl) (pe_op op_add_str (pe_ix ix_str (pv 3) (pe_op op_mod (pe_op op_add (pv 4) (pv 5)) pe_int) (fun _ _ => rfl)) (pe_slice sl_str (pv 2) (po_some pe_int) po_none)))
  (pss_one (ps_if (pt_cmpR (r := rIn K true) op_notIn_seq (pv 6) (pv 1) rfl)
  (pss_one (ps_ret (pv 6)))
  pss_nil))))
  (pss_one (ps_ret pe_str))))))), ?_⟩
    -- the word that is changed
    refine ⟨fun σ H' => ∃ wd : Str, σ = [some (.ref p), some (.ref l), some (.str wd), none, none, none, none] ∧ Nm wd ∧ Kp [p] H H' ∧ Pool H' p (n + 1), ?_, ?_⟩
    · refine ⟨_, rfl, by show 0 ≤ sizeLine; decide, fun p0 H1 hn0 hp0 k1 => ?_⟩
      have pl : l ≠ p := by
        obtain ⟨_, _, _, e, _⟩ := id hpo
        intro z; rw [z, e] at hl
        have := HO.lst.inj (Option.some.inj hl)
        cases ss with
        | nil => cases this
        | cons a r => cases this
      have hpo1 := Pool.at hpo k1 (by simp)
      have l1 := k1.at0 hl
      refine ⟨_, _, dp_strs l1, dp_strs (ss := []) hp0, shaped_strs hs, shaped_strs (ss := []) (fun s h => nomatch h), _, rfl, ?_⟩
      rw [eqv_strs]
      by_cases e : ss = []
      · refine ifF (by rw [e]; rfl) ⟨"q", rfl, ⟨113, [], by decide +kernel, by decide, fun x h => (by cases h), by decide⟩, k1.mono (by simp), hpo1.mono (by omega)⟩
      · refine ifT (by rw [decide_eq_false e]; rfl) ?_
        have hz0 : 0 < ss.length := List.length_pos_iff.mpr e
        refine ⟨_, rfl, _, rfl, _, rfl, _, _, (ss.length : Int), rfl, .inl (SqL.of l1), (by simp), p, (ss.length : Int), n, rfl, hpo1, (by omega), (by omega), (by omega), fun r H2 k2 h0 h1 hpo2 => ?_⟩
        obtain ⟨y, hy, hy2⟩ := atI_map (f := V.str) (xs := ss) (i := r) h0 h1
        refine ⟨_, _, _, _, rfl, rfl, .inl (.inl (k2.at1 l1 pl)), hy2, ?_⟩
        exact ⟨y, rfl, hs y (List.mem_of_getElem? hy), (k1.mono (by simp)).step k2 (fun b hb => .inl hb), hpo2⟩
    · rintro σ H1 ⟨wd, rfl, nw, k1, hpo1⟩
      have pl : l ≠ p := by
        obtain ⟨_, _, _, e, _⟩ := id hpo
        intro z; rw [z, e] at hl
        have := HO.lst.inj (Option.some.inj hl)
        cases ss with
        | nil => cases this
        | cons a r => cases this
      have l1 := k1.at1 hl pl
      refine ⟨_, rfl, p, 26, n + 1, rfl, hpo1, (by decide), (by decide), (by omega), fun st H2 k2 h0 h1 hpo2 => ?_⟩
      have l2 := k2.at1 l1 pl
      have k02 : Kp [p] H H2 := k1.step k2 (fun b hb => .inl hb)
      refine ⟨_, rfl, (by decide), (by decide), for_range (lo := 0) (n := 26) (fun i σ H' => (∃ v5 v6, σ = [some (.ref p), some (.ref l), some (.str wd), some (.str "abcdefghijklmnopqrstuvwxyz"), some (.int st), v5, v6]) ∧ Kp [] H2 H' ∧ ∀ j, j < i → cand st.toNat wd j ∈ ss) ?_ ?_ ?_⟩
      · exact ⟨⟨none, none, rfl⟩, Kp.refl [] H2, fun j z => absurd z (Nat.not_lt_zero j)⟩
      · rintro i σ H3 hi ⟨⟨v5, v6, rfl⟩, k3, hin⟩
        have wl := nw.len
        have e0 := Int.emod_nonneg (st + (0 + (i : Int))) (show (26 : Int) ≠ 0 by decide)
        have e1 := Int.emod_lt_of_pos (st + (0 + (i : Int))) (show (0 : Int) < 26 by decide)
        obtain ⟨c, hc, hc2⟩ := atS (z := "abcdefghijklmnopqrstuvwxyz") (i := (st + (0 + (i : Int))) % 26) e0 (by rw [len_lets]; exact e1)
        have ec : c = lets.getD ((st.toNat + i) % 26) 0 := by
          rw [ch_lets, show ((st + (0 + (i : Int))) % 26).toNat = (st.toNat + i) % 26 by omega] at hc
          rw [List.getD_eq_getElem?_getD, hc]; rfl
        refine ⟨_, rfl, _, rfl, _, rfl, _, _, rfl, rfl, _, _, rfl, rfl, (by show (0 : Int) < 26; decide), _, _, c, rfl, rfl, slen (by rw [len_lets]; decide), hc2, ?_⟩
        have lc := len_from wd (k := 1) (by omega)
        refine ⟨_, rfl, _, rfl, _, rfl, slen (by omega), _, _, rfl, rfl, slen (by rw [len_one]; omega), ?_⟩
        have ew : ((⟨#[c]⟩ : Str) ++ cutS wd (some 1) none) = cand st.toNat wd i := by unfold cand; rw [ec]
        refine ⟨_, rfl, _, rfl, _, _, rfl, .inl (SqL.of (k3.at0 l2)), rfl, flat_strs, _, rfl, ?_⟩
        rw [ew, inV_str]
        by_cases hm : cand st.toNat wd i ∈ ss
        · refine ifF (by simp [hm]) ⟨⟨_, _, rfl⟩, k3, fun j hj => ?_⟩
          rcases Nat.lt_succ_iff_lt_or_eq.mp hj with z | z
          · exact hin j z
          · rw [z]; exact hm
        · refine ifT (by simp [hm]) ⟨_, rfl, ?_⟩
          exact q _ H3 hm (cand_nm nw i) (k02.step0 k3) (Pool.at hpo2 k3 (by simp))
      · rintro σ H3 ⟨⟨v5, v6, rfl⟩, k3, hin⟩
        exact (cand_free hz hin).elim
theorem ok__law_as_told (T : Tx K mg A) : FnOk P w K mg base CX0 5 A.f__law_as_told A.d__law_as_told ps__law_as_told (sp__law_as_told K A) := by
  refine T.F__law_as_told.ok sc__law_as_told (fun vs H Q E h => ?_) (fun cdv Ar outer s H vs Q E hr h => ?_)
  · obtain ⟨a, w, wr, ru, le, l, b, S, ms, rfl, _⟩ := h; rfl
  · obtain ⟨a, w, wr, ru, le, l, b, S, ms, rfl, hp, hl, hb, z1, z2, ns, nf, q⟩ := h
    refine ⟨_, (pss_cons (ps_set (i := 3) sc__law_as_told.nd rfl (Or.inl rfl) (pe_lstK pa_nil))
  (pss_cons (ps_for PassesOwn.never rfl (pi_list (pv 2)) (pg_name (i := 4) sc__law_as_told.nd rfl (Or.inl rfl))
  (pss_one (ps_set (i := 3) sc__law_as_told.nd rfl (Or.inl rfl) (pe_op op_catK (pv 3) (pv 4)))))
  (pss_cons (ps_if (PW.pt (pw_or (pt_cmpR (r := rNeD K) (op_neD hr.units) (pe_prop (pv 0) T.cl_Plan T.p_Plan_steps (ok_Plan_steps T) (hr.mono (by decide)) T.b_Plan_steps .nil pass0 rfl) (pe_callTy call_tuple_of (by rfl) T.n_tuple (by decide +kernel) (pa_cons (pv 1) pa_nil)) (nomark _)) (pw_or (pt_cmpR (r := rNeD K) (op_neD hr.units) (pe_prop (pv 0) T.cl_Plan T.p_Plan_files (ok_Plan_files T) (hr.mono (by decide)) T.b_Plan_files .nil pass0 rfl) (pe_callTy call_tuple_of (by rfl) T.n_tuple (by decide +kernel) (pa_cons (pv 3) pa_nil)) (nomark _)) (pw_or1 (pt_cmpR op_ne (pe_callB (r := rLenO A.C_Plan (sp_Plan___len__ K A)) (call_lenO T.m_Plan___len__ (fr_Plan___len__ T) (hr.mono (by decide)) (fun σ => pass0At σ)) (by rfl) T.n_len PySem.boot_len (pa_cons (pv 0) pa_nil)) (pe_callB (r := rLenK K) call_lenK (by rfl) T.n_len PySem.boot_len (pa_cons (pv 1) pa_nil)) (nomark _))))))
  (pss_one (ps_ret pe_bl))
  pss_nil)
  (pss_cons (ps_if (PW.pt (pw_or (pt_not (pt_val (pe_callB (r := rIsi K) call_isi (by rfl) T.n_isinstance (by decide +kernel) (pa_cons (pe_prop (pv 0) T.cl_Plan T.p_Plan_steps (ok_Plan_steps T) (hr.mono (by decide)) T.b_Plan_steps .nil pass0 rfl) (pa_cons (pe_bltn (v := .ty "tuple") (u := .type "tuple") (by rfl) T.n_tuple (by decide +kernel) rfl) pa_nil))))) (pw_or1 (pt_not (pt_val (pe_callB (r := rIsi K) call_isi (by rfl) T.n_isinstance (by decide +kernel) (pa_cons (pe_prop (pv 0) T.cl_Plan T.p_Plan_files (ok_Plan_files T) (hr.mono (by decide)) T.b_Plan_files .nil pass0 rfl) (pa_cons (pe_bltn (v := .ty "tuple") (u := .type "tuple") (by rfl) T.n_tuple (by decide +kernel) rfl) pa_nil))))))))
  (pss_one (ps_ret pe_bl))
  pss_nil)
  (pss_cons (ps_for PassesOwn.never rfl (pi_zip (by rfl) T.n_zip (pa_cons (pv 1) (pa_cons (pv 2) pa_nil))) (pg_tup rfl (pgs_cons (pg_name (i := 5) sc__law_as_told.nd rfl (Or.inr rfl)) (pgs_cons (pg_name (i := 4) sc__law_as_told.nd rfl (Or.inl rfl)) pgs_nil)))
  (pss_cons (ps_if (PW.pt (pw_or (pt_cmpR (r := rNeD K) (op_neD hr.units) (pe_methN (E := fun _ _ _ _ => False) (pv 0) T.cl_Plan T.m_Plan_files_of (fr_Plan_files_of T) (hr.mono (by decide)) (fun σ => passLAt σ) (pa_cons (pv 5) pa_nil)) (pe_callTy call_tuple_of (by rfl) T.n_tuple (by decide +kernel) (pa_cons (pv 4) pa_nil)) (nomark _)) (pw_or1 (pt_cmpR (r := rInO A.C_Plan (sp_Plan___contains__ K A) true) (op_notInO T.m_Plan___contains__ (fr_Plan___contains__ T) (hr.mono (by decide)) (fun σ => pass0At σ)) (pv 5) (pv 0) rfl))))
  (pss_one (ps_ret pe_bl))
  pss_nil)
  (pss_one (ps_if (pt_cmpR (r := rNeD K) (op_neD hr.units) (pe_lc (own := [("_law_file", 6)]) (g := gName 6) (by rfl) sc__law_as_told.nd (pi_list (pv 4)) (blkOk_by (own := [("_law_file", 6)]) (N := N__law_as_told) (sc := defScope s__law_as_told) (by decide +kernel)) (fun _ _ _ _ _ => (pg_name (i := 6) sc__law_as_told.nd rfl (Or.inl rfl))) (fun _ _ _ _ _ => pts_nil) (fun _ _ _ _ _ => (pe_methN (E := fun _ _ _ _ => False) (pv 0) T.cl_Plan T.m_Plan_step_of (fr_Plan_step_of T) (hr.mono (by decide)) (fun σ => passLAt σ) (pa_cons (pv 6) pa_nil)))) (pe_lc (own := [("_law_file", 6)]) (g := gName 6) (by rfl) sc__law_as_told.nd (pi_list (pv 4)) (blkOk_by (own := [("_law_file", 6)]) (N := N__law_as_told) (sc := defScope s__law_as_told) (by decide +kernel)) (fun _ _ _ _ _ => (pg_name (i := 6) sc__law_as_told.nd rfl (Or.inl rfl))) (fun _ _ _ _ _ => pts_nil) (fun _ _ _ _ _ => (pv 5))) (nomark _))
  (pss_one (ps_ret pe_bl))
  pss_nil))))
  (pss_one (ps_ret pe_bl))))))), ?_⟩
    obtain ⟨dx, ho⟩ := hp.o
    obtain ⟨ps, e0, li⟩ := id hb
    have pn1 := @pfn w wr ru le "files_of" (by decide +kernel)
    have pn2 := @pfn w wr ru le "step_of" (by decide +kernel)
    refine ⟨by show 0 ≤ sizeLine; decide, fun p0 H1 hn0 hp0 k1 => ?_⟩
    refine ⟨_, rfl, b, rfl, ⟨_, SqL.of (k1.at0 e0)⟩, for_list (K := K) (a := b) (xs := ps.map V.ref)
      (fun i σ H' => ∃ (r : Addr) (v1 : Option V), σ = [some (.ref a), some (.ref l), some (.ref b), some (.ref r), v1, none, none] ∧ Kp [] H H' ∧ H' r = some (.lst ((((S.map (·.2)).take i).flatten).map V.str))) ?_ ?_ ?_ ?_⟩
    · exact ⟨p0, none, rfl, k1, by rw [hp0]; rfl⟩
    · rintro i σ H2 _ ⟨r, v1, rfl, k, _⟩
      exact SqL.of (k.at0 e0)
    · rintro i y σ H2 hy ⟨r, v1, rfl, k, hr2⟩
      obtain ⟨t, ht, rfl⟩ := getMap hy
      obtain ⟨row, hrow, _, hat⟩ := li.at ht
      have hat' : H t = some (.lst (row.map V.str)) := hat
      have sz : ((S.map (·.2)).take (i + 1)).flatten = ((S.map (·.2)).take i).flatten ++ row := by rw [List.take_add_one, hrow]; simp
      have le1 : (((S.map (·.2)).take (i + 1)).flatten).length ≤ (filesOf S).length := by
        have := congrArg List.length (congrArg List.flatten (List.take_append_drop (i + 1) (S.map (·.2))))
        rw [List.flatten_append, List.length_append, rows_flat] at this; omega
      rw [sz, List.length_append] at le1
      refine ⟨_, rfl, _, rfl, _, _, _, _, rfl, rfl, hr2, k.at0 hat', (by show (List.map V.str _).length + (List.map V.str _).length ≤ sizeLine; rw [List.length_map, List.length_map]; exact slen (by omega)), fun p H3 hn3 hp3 k3 => ?_⟩
      refine ⟨p, _, rfl, k.trans k3, ?_⟩
      rw [hp3, sz, List.map_append]
    rintro σ H2 ⟨r, v1, rfl, k2, hr2⟩
    rw [List.length_map, li.1, List.take_length, rows_flat] at hr2
    -- its steps, its files, their number
    have hp2 := hp.kp k2 (by simp)
    refine ⟨_, rfl, a, dx, _, rfl, k2.at0 ho, a, w, wr, ru, le, S, rfl, hp2, fun t3 H3 hn3 ht3 k3 => ?_⟩
    refine ⟨_, rfl, _, _, rfl, .inl ⟨SqL.of ((k2.trans k3).at0 hl), fun t4 hn4 => ?_⟩⟩
    generalize e4 : upd H3 t4 _ = H4
    have k4 : Kp [] H3 H4 := by rw [← e4]; exact (Kp.refl [] _).new hn4
    have h4 : H4 t4 = some (.tup ((stepsOf S).map V.str)) := by rw [← e4]; exact upd_same
    refine ⟨_, _, dp_strT (k4.at0 ht3), dp_strT h4, shaped_strT ns, shaped_strT ns, _, rfl, ifF (by rw [eqv_strT]; simp) ?_⟩
    have k04 := (k2.trans k3).trans k4
    have hp4 := hp.kp k04 (by simp)
    refine ⟨_, rfl, a, dx, _, rfl, k04.at0 ho, a, w, wr, ru, le, S, rfl, hp4, fun t5 H5 hn5 ht5 k5 => ?_⟩
    refine ⟨_, rfl, _, _, rfl, .inl ⟨SqL.of ((((k3.trans k4).trans k5)).at0 hr2), fun t6 hn6 => ?_⟩⟩
    generalize e6 : upd H5 t6 _ = H6
    have k6 : Kp [] H5 H6 := by rw [← e6]; exact (Kp.refl [] _).new hn6
    have h6 : H6 t6 = some (.tup ((filesOf S).map V.str)) := by rw [← e6]; exact upd_same
    refine ⟨_, _, dp_strT (k6.at0 ht5), dp_strT h6, shaped_strT nf, shaped_strT nf, _, rfl, ifF (by rw [eqv_strT]; simp) ?_⟩
    have k06 := (k04.trans k5).trans k6
    have hp6 := hp.kp k06 (by simp)
    refine ⟨_, rfl, a, dx, _, rfl, k06.at0 ho, a, w, wr, ru, le, S, rfl, hp6, _, rfl, ⟨by omega, by omega⟩, ?_⟩
    refine ⟨_, rfl, _, _, ((S.length : Nat) : Int), rfl, .inl (SqL.of (k06.at0 hl)), (by simp), rfl, _, rfl, ifF (by simp) ?_⟩
    -- they are tuples
    refine ⟨_, rfl, a, dx, _, rfl, k06.at0 ho, a, w, wr, ru, le, S, rfl, hp6, fun t7 H7 hn7 ht7 k7 => ?_⟩
    refine ⟨_, _, _, _, true, rfl, .ty _, .base (.tup ht7), kit_ty (by decide +kernel), _, rfl, ifF rfl ?_⟩
    have k07 := k06.trans k7
    have hp7 := hp.kp k07 (by simp)
    refine ⟨_, rfl, a, dx, _, rfl, k07.at0 ho, a, w, wr, ru, le, S, rfl, hp7, fun t8 H8 hn8 ht8 k8 => ?_⟩
    refine ⟨_, _, _, _, true, rfl, .ty _, .base (.tup ht8), kit_ty (by decide +kernel), _, rfl, ifF rfl ?_⟩
    have k08 := k07.trans k8
    -- step by step
    refine ⟨_, rfl, _, rfl, _, _, _, _, rfl, SqL.of (k08.at0 hl), SqL.of (k08.at0 e0), for_it (walk_zip (K := K) (a := l) (b := b) (xs := (stepsOf S).map V.str) (ys := ps.map V.ref) (n := S.length) (by rw [List.length_map, List.length_map, List.length_map, li.1, List.length_map, Nat.min_self]))
      (fun i σ H' => (∃ v4 v5, σ = [some (.ref a), some (.ref l), some (.ref b), some (.ref r), v4, v5, none]) ∧ Kp [] H8 H') ?_ ?_ ?_ ?_⟩
    · exact ⟨⟨v1, none, rfl⟩, Kp.refl [] H8⟩
    · rintro i σ H' _ ⟨_, k⟩
      exact ⟨SqL.of ((k08.trans k).at0 hl), SqL.of ((k08.trans k).at0 e0)⟩
    · rintro i _ σ H9 H10 hi ⟨⟨v4, v5, rfl⟩, k9⟩ ⟨tt, _, _, rfl, hTn, hE, e1, e2⟩
      obtain ⟨st, hst, rfl⟩ := getMap e1
      obtain ⟨s, hs, rfl⟩ := getMap hst
      obtain ⟨t, ht, rfl⟩ := getMap e2
      obtain ⟨row, hrow, _, hat⟩ := li.at ht
      rw [List.getElem?_map, hs] at hrow
      cases hrow
      have hat' : H t = some (.lst (s.2.map V.str)) := hat
      have sS : s ∈ S := List.mem_of_getElem? hs
      have hT : H10 tt = some (.tup [V.str s.1, V.ref t]) := by rw [hE]; exact upd_same
      have kT : Kp [] H9 H10 := by rw [hE]; exact (Kp.refl [] _).new hTn
      have k010 := (k08.trans k9).trans kT
      have hp10 := hp.kp k010 (by simp)
      have s1 : s.1 ∈ stepsOf S := List.mem_map.mpr ⟨s, sS, rfl⟩
      have nr : ∀ f ∈ s.2, Nm f := fun f hf => nf f (List.mem_flatMap.mpr ⟨s, sS, hf⟩)
      refine ⟨_, _, rfl, .inl (.inl hT), rfl, _, _, rfl, _, _, rfl, rfl, ?_⟩
      refine ⟨_, rfl, a, dx, _, rfl, k010.at0 ho, pn1, _, rfl, a, w, wr, ru, le, S, s.1, rfl, hp10, fun s' hs' e t' ht' => ?_, fun z => absurd s1 z⟩
      obtain rfl := step_eq hp.ds hs' sS e
      refine ⟨_, rfl, _, _, rfl, .inl ⟨SqL.of (k010.at0 hat'), fun u hu => ?_⟩⟩
      generalize e11 : upd H10 u _ = H11
      have k11 : Kp [] H10 H11 := by rw [← e11]; exact (Kp.refl [] _).new hu
      have h11 : H11 u = some (.tup (s'.2.map V.str)) := by rw [← e11]; exact upd_same
      refine ⟨_, _, dp_strT (k11.at0 ht'), dp_strT h11, shaped_strT nr, shaped_strT nr, _, rfl, ifF (by rw [eqv_strT]; simp) ?_⟩
      have k011 := k010.trans k11
      have hp11 := hp.kp k011 (by simp)
      refine ⟨_, rfl, _, rfl, a, dx, _, rfl, k011.at0 ho, a, w, wr, ru, le, S, .str s'.1, rfl, hp11, ⟨_, .base (.str _), show _ = some true from kit_ty (by decide +kernel)⟩, _, rfl, _, rfl, ifF (by simp [inSteps, s1]) ?_⟩
      -- the steps of its files
      have rl : s'.2.length ≤ 1000 := by
        have : s'.2.length ≤ (filesOf S).length := by
          have := (List.sublist_flatten_of_mem (List.mem_map.mpr ⟨s', sS, rfl⟩ : s'.2 ∈ S.map (·.2))).length_le
          rwa [rows_flat] at this
        omega
      refine ⟨_, rfl, t, rfl, ⟨_, SqL.of (k011.at0 hat')⟩, fun D hD => lc_list (K := K) (a := t) (xs := s'.2.map V.str) (fun j H' => H' D = some (.lst ((List.replicate j s'.1).map V.str)) ∧ Kp [] H11 H') ?_ ?_ ?_ ?_⟩
      · exact ⟨upd_same, (Kp.refl [] H11).new hD⟩
      · rintro j H' _ ⟨_, k⟩
        exact SqL.of ((k011.trans k).at0 hat')
      · rintro j y H' hy ⟨hd, k⟩
        obtain ⟨f, hf, rfl⟩ := getMap hy
        have fm := List.mem_of_getElem? hf
        have lj := lt_of_get hf
        have k0' := k011.trans k
        refine ⟨rfl, ?_⟩
        unfold tYes
        refine ifT rfl ?_
        refine ⟨_, rfl, a, dx, _, rfl, k0'.at0 ho, pn2, _, rfl, a, w, wr, ru, le, S, f, rfl, hp.kp k0' (by simp), fun s2 hs2 hf2 => ?_, fun z => absurd (List.mem_flatMap.mpr ⟨s', sS, fm⟩) z⟩
        obtain rfl := file_eq hp.df hs2 sS hf2 fm
        refine ⟨_, hd, slenlt (by simp; omega), ?_⟩
        refine ⟨?_, k.step ((Kp.refl [D] _).put (.inl (List.mem_singleton.mpr rfl))) (fun b hb => by rw [List.mem_singleton.mp hb]; exact .inr hD)⟩
        rw [upd_same, List.replicate_succ', List.map_append]; rfl
      rintro H12 ⟨hd12, k12⟩
      have k012 := k011.trans k12
      refine ⟨_, rfl, t, rfl, ⟨_, SqL.of (k012.at0 hat')⟩, fun D' hD' => lc_list (K := K) (a := t) (xs := s'.2.map V.str) (fun j H' => H' D' = some (.lst ((List.replicate j s'.1).map V.str)) ∧ Kp [] H12 H') ?_ ?_ ?_ ?_⟩
      · exact ⟨upd_same, (Kp.refl [] H12).new hD'⟩
      · rintro j H' _ ⟨_, k⟩
        exact SqL.of ((k012.trans k).at0 hat')
      · rintro j y H' hy ⟨hd, k⟩
        obtain ⟨f, hf, rfl⟩ := getMap hy
        have lj := lt_of_get hf
        refine ⟨rfl, ?_⟩
        unfold tYes
        refine ifT rfl ?_
        refine ⟨_, rfl, _, hd, slenlt (by simp; omega), ?_⟩
        refine ⟨?_, k.step ((Kp.refl [D'] _).put (.inl (List.mem_singleton.mpr rfl))) (fun b hb => by rw [List.mem_singleton.mp hb]; exact .inr hD')⟩
        rw [upd_same, List.replicate_succ', List.map_append]; rfl
      rintro H13 ⟨hd13, k13⟩
      have nm' : ∀ x ∈ List.replicate (s'.2.map V.str).length s'.1, Nm x := fun x hx => by rw [(List.mem_replicate.mp hx).2]; exact ns _ s1
      refine ⟨_, _, dp_strs (k13.at0 hd12), dp_strs hd13, shaped_strs nm', shaped_strs nm', _, rfl, ifF (by rw [eqv_strs]; simp) ?_⟩
      exact ⟨⟨_, _, rfl⟩, ((((k9.trans kT).trans k11).trans k12).trans k13)⟩
    · rintro σ H' ⟨⟨v4, v5, rfl⟩, k⟩
      exact q H' (k08.trans k)
theorem ok__law_strange (T : Tx K mg A) : FnOk P w K mg base CX0 5 A.f__law_strange A.d__law_strange ps__law_strange (sp__law_strange K A) := by
  refine T.F__law_strange.ok sc__law_strange (fun vs H Q E h => ?_) (fun cdv Ar outer s H vs Q E hr h => ?_)
  · obtain ⟨a, w, wr, ru, le, S, f, x, rfl, _⟩ := h; rfl
  · obtain ⟨a, w, wr, ru, le, S, f, x, rfl, hp, hf, hx, q⟩ := h
    refine ⟨_, (pss_cons (ps_try_as (i := 3) rfl rfl sc__law_strange.nd rfl rfl ⟨rfl, by decide, .inl T.g_NoFile⟩ takes0
  (fun W pn xe tk _ => (pss_cons (ps_expr (pe_methN (pv 0) T.cl_Plan T.m_Plan_step_of (fr_Plan_step_of T) (hr.mono (by decide)) (fun σ => passAt tk σ) (pa_cons (pv 1) pa_nil)))
  (pss_one (ps_ret pe_bl))))
  (fun a oe cls d pn hz hf => (pss_one (ps_if (pt_cmpR op_ne (pe_xf T.xf_NoFile T.nf_NoFile_name hz hf (pv 3)) (pv 1) (nomark _))
  (pss_one (ps_ret pe_bl))
  pss_nil))))
  (pss_cons (ps_try_as (i := 3) rfl rfl sc__law_strange.nd rfl rfl ⟨rfl, by decide, .inl T.g_NoStep⟩ takes0
  (fun W pn xe tk _ => (pss_cons (ps_expr (pe_methN (pv 0) T.cl_Plan T.m_Plan_files_of (fr_Plan_files_of T) (hr.mono (by decide)) (fun σ => passAt tk σ) (pa_cons (pv 2) pa_nil)))
  (pss_one (ps_ret pe_bl))))
  (fun a oe cls d pn hz hf => (pss_one (ps_if (PW.pt (pw_or (pt_cmpR op_ne (pe_xf T.xf_NoStep T.nf_NoStep_name hz hf (pv 3)) (pv 2) (nomark _)) (pw_or1 (pt_cmpR (r := rInO A.C_Plan (sp_Plan___contains__ K A) false) (op_inM T.m_Plan___contains__ (fm_Plan___contains__ T) (roomM (hr.mono (by decide)) _)) (pv 2) (pv 0) rfl))))
  (pss_one (ps_ret pe_bl))
  pss_nil))))
  (pss_one (ps_ret (pe_cmpR (r := rEqD K) (op_eqD hr.units) (pe_lc (own := [("_law_thing", 4)]) (g := gName 4) (by rfl) sc__law_strange.nd (pi_list (pe_lstK (pa_cons pe_non (pa_cons (pe_tupK (pa_cons (pv 2) (pa_cons (pv 2) pa_nil))) (pa_cons (pe_lstK (pa_cons (pv 2) pa_nil)) (pa_cons pe_dnewK (pa_cons pe_int pa_nil))))))) (blkOk_by (own := [("_law_thing", 4)]) (N := N__law_strange) (sc := defScope s__law_strange) (by decide +kernel)) (fun _ _ _ _ _ => (pg_name (i := 4) sc__law_strange.nd rfl (Or.inl rfl))) (fun _ _ _ _ _ => (pts_one (pt_cmpR (r := rInO A.C_Plan (sp_Plan___contains__ K A) false) (op_inO T.m_Plan___contains__ (fr_Plan___contains__ T) (hr.mono (by decide)) (fun σ => pass0At σ)) (pv 4) (pv 0) rfl))) (fun _ _ _ _ _ => (pv 4))) (pe_lstK pa_nil) (nomark _)))))), ?_⟩
    obtain ⟨dx, ho⟩ := hp.o
    have pn := @pfn w wr ru le "step_of" (by decide +kernel)
    have pn2 := @pfn w wr ru le "files_of" (by decide +kernel)
    refine ⟨_, rfl, a, dx, _, rfl, ho, pn, _, rfl, a, w, wr, ru, le, S, f, rfl, hp, fun s hs hf' => absurd (List.mem_flatMap.mpr ⟨s, hs, hf'⟩) hf, fun _ d H1 hd k1 he => ?_⟩
    refine ⟨true, T.em_NoFile, fun _ b hb => ?_, fun z => Bool.noConfusion z⟩
    refine ⟨_, rfl, rfl, rfl, d, _, _, rfl, he, lk1, _, rfl, rfl, _, rfl, ifF (by simp) ?_⟩
    have hp1 := hp.kp k1 (by simp)
    refine ⟨_, rfl, a, dx, _, rfl, k1.at0 ho, pn2, _, rfl, a, w, wr, ru, le, S, x, rfl, hp1, fun s hs e => absurd (List.mem_map.mpr ⟨s, hs, e⟩) hx, fun _ d2 H2 hd2 k2 he2 => ?_⟩
    refine ⟨true, T.em_NoStep, fun _ b2 hb2 => ?_, fun z => Bool.noConfusion z⟩
    have hp2 := hp1.kp k2 (by simp)
    have k02 := k1.trans k2
    have o2 := k02.at0 ho
    refine ⟨_, rfl, rfl, rfl, d2, _, _, rfl, he2, lk1, _, rfl, rfl, _, rfl, ifF (by simp) ?_⟩
    refine ⟨_, rfl, _, rfl, a, dx, _, rfl, o2, a, w, wr, ru, le, S, .str x, rfl, hp2, ⟨_, .base (.str _), show _ = some true from kit_ty (by decide +kernel)⟩, _, rfl, _, rfl, ifF (by simp [inSteps, hx]) ?_⟩
    -- things that are no steps
    refine ⟨_, rfl, _, rfl, (by show 2 ≤ sizeLine; decide), fun t H3 hn3 ht k3 => ⟨_, rfl, (by show 1 ≤ sizeLine; decide), fun l H4 hn4 hl k4 => fun e hne => ?_⟩⟩
    generalize e5 : upd H4 e (.dK []) = H5
    have k5 : Kp [] H4 H5 := by rw [← e5]; exact (Kp.refl [] _).new hne
    have h5 : H5 e = some (.dK []) := by rw [← e5]; exact upd_same
    refine ⟨(by show 5 ≤ sizeLine; decide), fun L H6 hn6 hL k6 => ⟨_, rfl, ⟨_, SqL.of hL⟩, fun D hD => lc_list (K := K) (a := L) (xs := [V.non, V.ref t, V.ref l, V.ref e, V.int 0]) (fun i H' => H' D = some (.lst []) ∧ Kp [] H6 H') ?_ ?_ ?_ ?_⟩⟩
    · exact ⟨upd_same, (Kp.refl [] H6).new hD⟩
    · rintro i H' _ ⟨_, k⟩
      exact SqL.of (k.at0 hL)
    · rintro i y H' hy ⟨hd', k⟩
      have kk : Kp [] H H' := ((((k02.trans k3).trans k4).trans k5).trans k6).trans k
      have hp' := hp.kp kk (by simp)
      have o' := kk.at0 ho
      have ty : ∃ tt, TyX K H' y tt ∧ PySem.W.kitOne K tt (.type "str") = some (isStr y) ∧ inSteps S y = false := by
        match i, hy with
        | 0, hy => cases hy; exact ⟨_, .base .non, show _ = some false from kit_ty (by decide +kernel), rfl⟩
        | 1, hy => cases hy; exact ⟨_, .base (.tup ((((k4.trans k5).trans k6).trans k).at0 ht)), show _ = some false from kit_ty (by decide +kernel), rfl⟩
        | 2, hy => cases hy; exact ⟨_, .base (.lst (((k5.trans k6).trans k).at0 hl)), show _ = some false from kit_ty (by decide +kernel), rfl⟩
        | 3, hy => cases hy; exact ⟨_, .base (.dK ((k6.trans k).at0 h5)), show _ = some false from kit_ty (by decide +kernel), rfl⟩
        | 4, hy => cases hy; exact ⟨_, .base (.int _), show _ = some false from kit_ty (by decide +kernel), rfl⟩
        | n + 5, hy => simp at hy
      obtain ⟨tt, ht', hk', hi'⟩ := ty
      refine ⟨rfl, _, rfl, _, rfl, a, dx, _, rfl, o', a, w, wr, ru, le, S, y, rfl, hp', ⟨tt, ht', hk'⟩, _, rfl, _, rfl, ifF (by rw [hi']; rfl) ?_⟩
      exact ⟨hd', k⟩
    · rintro H' ⟨hd', k⟩
      have kk : Kp [] H H' := ((((k02.trans k3).trans k4).trans k5).trans k6).trans k
      refine ⟨(by show 0 ≤ sizeLine; decide), fun u H7 hn7 hu k7 => ?_⟩
      refine ⟨_, _, .lst (SqL.of (k7.at0 hd')) .nil, .lst (SqL.of hu) .nil, (by decide +kernel), (by decide +kernel), ?_⟩
      exact q H7 (kk.trans k7)
theorem ok__law_refused (T : Tx K mg A) : FnOk P w K mg base CX0 5 A.f__law_refused A.d__law_refused ps__law_refused (sp__law_refused K A) := by
  refine T.F__law_refused.ok sc__law_refused (fun vs H Q E h => ?_) (fun cdv Ar outer s H vs Q E hr h => ?_)
  · obtain ⟨a, w, wr, ru, le, l, S, x, y, fs, rfl, _⟩ := h; rfl
  · obtain ⟨a, w, wr, ru, le, l, S, x, y, fs, rfl, hp, hf, nx, nf, z1, z2, z3, ty, q⟩ := h
    refine ⟨_, (pss_cons (ps_try_as (i := 3) rfl rfl sc__law_refused.nd rfl rfl ⟨rfl, by decide, .inl T.g_NameTaken⟩ takes0
  (fun W pn xe tk _ => (pss_one (ps_expr (pe_callS (ok__law_define T) (hr.mono (by decide)) rfl T.g__law_define T.k__law_define T.b__law_define (fun σ => passAt tk σ) (pa_cons (pv 0) (pa_cons (pv 1) (pa_cons (pv 2) pa_nil)))))))
  (fun a oe cls d pn hz hf => (pss_one (ps_ret (pe_xf T.xf_NameTaken T.nf_NameTaken_name hz hf (pv 3))))))
  (pss_one (ps_ret pe_non))), ?_⟩
    obtain ⟨dx, ho⟩ := hp.o
    refine ⟨_, rfl, _, rfl, _, rfl, a, w, wr, ru, le, l, S, x, fs, rfl, hp, hf, nx, nf, z1, z2, z3, fun tn => ?_, fun y' ty' d H' hd hk he => ?_⟩
    · rw [tn] at ty; cases ty
    · rw [ty] at ty'
      cases ty'
      refine ⟨true, T.em_NameTaken, fun _ b hb => ?_, fun z => Bool.noConfusion z⟩
      exact ⟨_, rfl, rfl, rfl, d, _, _, rfl, he, lk1, q H' hk⟩
theorem ok_law (T : Tx K mg A) : FnOk P w K mg base CX0 6 A.f_law A.d_law ps_law (sp_law K A) := by
  refine T.F_law.ok sc_law (fun vs H Q E h => ?_) (fun cdv Ar outer s H vs Q E hr h => ?_)
  · obtain ⟨a, ns, rfl, _⟩ := h; rfl
  · obtain ⟨a, ns, rfl, hs, hz, q⟩ := h
    refine ⟨_, (pss_cons (ps_set (i := 1) sc_law.nd rfl (Or.inl rfl) (pe_call (ok__law_pool T) (hr.mono (by decide)) rfl T.g__law_pool T.k__law_pool T.b__law_pool .nil pass0 (pa_cons (pe_call (ok__law_cell T) (hr.mono (by decide)) rfl T.g__law_cell T.k__law_cell T.b__law_cell .nil pass0 (pa_cons (pv 0) (pa_cons pe_int pa_nil))) pa_nil)))
  (pss_cons (ps_set (i := 2) sc_law.nd rfl (Or.inl rfl) (pe_call (ok__law_parts T) (hr.mono (by decide)) rfl T.g__law_parts T.k__law_parts T.b__law_parts .nil pass0 (pa_cons (pv 1) (pa_cons pe_int pa_nil))))
  (pss_cons (ps_set (i := 3) sc_law.nd rfl (Or.inl rfl) (pe_make0 T.mk_Plan (ok_Plan___init__ T) (hr.mono (by decide)) rfl T.g_Plan T.b_Plan___init__ .nil pass0))
  (pss_cons (ps_if (pt_not (pt_val (pe_call (ok__law_as_told T) (hr.mono (by decide)) rfl T.g__law_as_told T.k__law_as_told T.b__law_as_told .nil pass0 (pa_cons (pv 3) (pa_cons (pe_lstK pa_nil) (pa_cons (pe_lstK pa_nil) pa_nil))))))
  (pss_one (ps_ret pe_bl))
  pss_nil)
  (pss_cons (ps_for PassesOwn.never rfl (pi_enum (by rfl) T.n_enumerate (pa_cons (pe_ix (r := rIxL K) ix_list (pv 2) pe_int (fun _ _ => rfl)) pa_nil)) (pg_tup rfl (pgs_cons (pg_name (i := 4) sc_law.nd rfl (Or.inl rfl)) (pgs_cons (pg_name (i := 5) sc_law.nd rfl (Or.inl rfl)) pgs_nil)))
  (pss_cons (ps_expr (pe_callS (E := fun _ _ _ _ => False) (ok__law_define T) (hr.mono (by decide)) rfl T.g__law_define T.k__law_define T.b__law_define (fun σ => passLAt σ) (pa_cons (pv 3) (pa_cons (pv 5) (pa_cons (pe_ix (r := rIxL K) ix_list (pe_ix (r := rIxL K) ix_list (pv 2) pe_int (fun _ _ => rfl)) (pv 4) (fun _ _ => rfl)) pa_nil)))))
  (pss_cons (ps_set (i := 6) sc_law.nd rfl (Or.inl rfl) (pe_slice (r := rSlLK K) sl_listK (pe_ix (r := rIxL K) ix_list (pv 2) pe_int (fun _ _ => rfl)) po_none (po_some (pe_op op_add (pv 4) pe_int))))
  (pss_cons (ps_set (i := 7) sc_law.nd rfl (Or.inl rfl) (pe_call (ok__law_files T) (hr.mono (by decide)) rfl T.g__law_files T.k__law_files T.b__law_files .nil pass0 (pa_cons (pe_lstK (pa_cons (pv 6) (pa_cons (pe_slice (r := rSlLK K) sl_listK (pe_ix (r := rIxL K) ix_list (pv 2) pe_int (fun _ _ => rfl)) po_none (po_some (pe_op op_add (pv 4) pe_int))) pa_nil))) pa_nil)))
  (pss_cons (ps_set (i := 8) sc_law.nd rfl (Or.inl rfl) (pe_call (ok__law_stranger T) (hr.mono (by decide)) rfl T.g__law_stranger T.k__law_stranger T.b__law_stranger .nil pass0 (pa_cons (pv 1) (pa_cons (pv 7) pa_nil))))
  (pss_cons (ps_set (i := 9) sc_law.nd rfl (Or.inl rfl) (pe_call (ok__law_stranger T) (hr.mono (by decide)) rfl T.g__law_stranger T.k__law_stranger T.b__law_stranger .nil pass0 (pa_cons (pv 1) (pa_cons (pv 6) pa_nil))))
  (pss_cons (ps_set (i := 10) sc_law.nd rfl (Or.inl rfl) (pe_ix (r := rIxL K) ix_list (pv 6) (pe_call (ok__law_take T) (hr.mono (by decide)) rfl T.g__law_take T.k__law_take T.b__law_take .nil pass0 (pa_cons (pv 1) (pa_cons (pe_callB (r := rLenK K) call_lenK (by rfl) T.n_len PySem.boot_len (pa_cons (pv 6) pa_nil)) pa_nil))) (fun _ _ => rfl)))
  (pss_cons (ps_set (i := 11) sc_law.nd rfl (Or.inl rfl) (pe_ix (r := rIxL K) ix_list (pe_op op_catK (pv 7) (pe_lstK (pa_cons (pv 8) pa_nil))) (pe_call (ok__law_take T) (hr.mono (by decide)) rfl T.g__law_take T.k__law_take T.b__law_take .nil pass0 (pa_cons (pv 1) (pa_cons (pe_op op_add (pe_callB (r := rLenK K) call_lenK (by rfl) T.n_len PySem.boot_len (pa_cons (pv 7) pa_nil)) pe_int) pa_nil))) (fun _ _ => rfl)))
  (pss_cons (ps_if (PW.pt (pw_or (pt_cmpR op_ne (pe_call (ok__law_refused T) (hr.mono (by decide)) rfl T.g__law_refused T.k__law_refused T.b__law_refused .nil pass0 (pa_cons (pv 3) (pa_cons (pv 10) (pa_cons (pe_lstK (pa_cons (pv 8) pa_nil)) pa_nil)))) (pv 10) (nomark _)) (pw_or1 (pt_cmpR op_ne (pe_call (ok__law_refused T) (hr.mono (by decide)) rfl T.g__law_refused T.k__law_refused T.b__law_refused .nil pass0 (pa_cons (pv 3) (pa_cons (pv 10) (pa_cons (pe_lstK (pa_cons (pv 11) (pa_cons (pv 11) pa_nil))) pa_nil)))) (pv 10) (nomark _)))))
  (pss_one (ps_ret pe_bl))
  pss_nil)
  (pss_cons (ps_if (pt_cmpR op_ne (pe_call (ok__law_refused T) (hr.mono (by decide)) rfl T.g__law_refused T.k__law_refused T.b__law_refused .nil pass0 (pa_cons (pv 3) (pa_cons (pv 9) (pa_cons (pe_lstK (pa_cons (pv 8) (pa_cons (pv 8) pa_nil))) pa_nil)))) (pv 8) (nomark _))
  (pss_one (ps_ret pe_bl))
  pss_nil)
  (pss_cons (ps_if (PW.pt (pw_and (pt_cmpR (r := rIn K false) op_in_seq (pv 11) (pv 7) rfl) (pw_and1 (pt_cmpR op_ne (pe_call (ok__law_refused T) (hr.mono (by decide)) rfl T.g__law_refused T.k__law_refused T.b__law_refused .nil pass0 (pa_cons (pv 3) (pa_cons (pv 9) (pa_cons (pe_lstK (pa_cons (pv 8) (pa_cons (pv 11) pa_nil))) pa_nil)))) (pv 11) (nomark _)))))
  (pss_one (ps_ret pe_bl))
  pss_nil)
  (pss_cons (ps_if (PW.pt (pw_and (pt_cmpR (r := rIn K false) op_in_seq (pv 11) (pv 7) rfl) (pw_and1 (pt_cmpR op_ne (pe_call (ok__law_refused T) (hr.mono (by decide)) rfl T.g__law_refused T.k__law_refused T.b__law_refused .nil pass0 (pa_cons (pv 3) (pa_cons (pv 9) (pa_cons (pe_lstK (pa_cons (pv 11) (pa_cons (pv 8) (pa_cons (pv 8) pa_nil)))) pa_nil)))) (pv 11) (nomark _)))))
  (pss_one (ps_ret pe_bl))
  pss_nil)
  (pss_one (ps_if (PW.pt (pw_or (pt_not (pt_val (pe_call (ok__law_strange T) (hr.mono (by decide)) rfl T.g__law_strange T.k__law_strange T.b__law_strange .nil pass0 (pa_cons (pv 3) (pa_cons (pv 8) (pa_cons (pv 9) pa_nil)))))) (pw_or1 (pt_not (pt_val (pe_call (ok__law_as_told T) (hr.mono (by decide)) rfl T.g__law_as_told T.k__law_as_told T.b__law_as_told .nil pass0 (pa_cons (pv 3) (pa_cons (pv 6) (pa_cons (pe_slice (r := rSlLK K) sl_listK (pe_ix (r := rIxL K) ix_list (pv 2) pe_int (fun _ _ => rfl)) po_none (po_some (pe_op op_add (pv 4) pe_int))) pa_nil)))))))))
  (pss_one (ps_ret pe_bl))
  pss_nil))))))))))))))
  (pss_one (ps_ret pe_bl))))))), ?_⟩
    refine ⟨_, rfl, a, ns, 0, rfl, hs, by decide, fun x0 => ?_⟩
    refine ⟨x0, rfl, fun p H1 k1 hn1 hpo1 => ?_⟩
    refine ⟨_, rfl, p, 6, 0, rfl, hpo1, by decide, by decide, by decide, fun l sa b c ss rows ws rs H2 k2 nl nsa nb nc hl2 hsa2 hb2 hc2 z1 nms zr nmf zf _ hpo2 => ?_⟩
    have pl : H1 p ≠ none := by obtain ⟨_, _, _, e, _⟩ := id hpo1; rw [e]; intro z; cases z
    have ne1 : ∀ {q : Addr}, H1 q = none → q ≠ p := fun h z => pl (by rw [← z]; exact h)
    -- the plan
    refine fun pa dx n1 n2 n3 => ⟨pa, dx, rfl, upd_same, fun w wr ru le H4 k4' f1 f2 f3 f4 hp4 => ⟨rfl, ?_⟩⟩
    have k3 : Kp [] H2 (upd (upd H2 dx (.own pa)) pa (.ins A.C_Plan dx [])) := ((Kp.refl [] H2).new n2).new (by rw [upd_ne n3.symm]; exact n1)
    have k4 : Kp [] H2 H4 := k3.step k4' (fun b hb => .inr (by rw [List.mem_singleton.mp hb]; exact n1))
    have hpo4 : Pool H4 p 300 := Pool.at hpo2 k4 (by simp)
    have k14 : Kp [p] H1 H4 := k2.step0 k4
    have k04 : Kp [] H H4 := k1.step k14 (fun b hb => .inr (by rw [List.mem_singleton.mp hb]; exact hn1))
    refine ⟨_, rfl, by show 0 ≤ sizeLine; decide, fun q1 H5 hn5 hq5 k5 => ⟨by show 0 ≤ sizeLine; decide, fun q2 H6 hn6 hq6 k6 => ?_⟩⟩
    have k46 := k5.trans k6
    refine ⟨pa, w, wr, ru, le, q1, q2, [], [], rfl, hp4.kp k46 (by simp), k6.at0 hq5, ⟨[], hq6, LIn.nil⟩, by decide, by decide, (fun s h => nomatch h), (fun s h => nomatch h), fun H7 k7 => ⟨_, rfl, ifF rfl ?_⟩⟩
    have k47 := k46.trans k7
    have hp7 := hp4.kp k47 (by simp)
    have hpo7 := Pool.at hpo4 k47 (by simp)
    have k27 := k4.trans k47
    have hl7 := k27.at0 hl2
    have hsa7 := k27.at0 hsa2
    have hb7 : Rows H7 b rows [p] := Lst.kp tS_st hb2 k27 (by simp) (by simp)
    have k07 : Kp [] H H7 := k04.trans k47
    have nlp := ne1 nl
    have nsp := ne1 nsa
    have nbp := ne1 nb
    refine ⟨_, rfl, _, _, _, _, rfl, rfl, .inl (.inl hl7), rfl, _, _, rfl, SqL.of hsa7, for_it (walk_enum (K := K) (a := sa) (xs := ss.map V.str)) (fun i σ H' => (∃ v4 v5 v6 v7 v8 v9 v10 v11, σ = [some (.ref a), some (.ref p), some (.ref l), some (.ref pa), v4, v5, v6, v7, v8, v9, v10, v11]) ∧
      H' l = some (.lst [V.ref sa, V.ref b, V.ref c]) ∧ H' sa = some (.lst (ss.map V.str)) ∧ Rows H' b rows [p] ∧ Pool H' p (300 + 6 * i) ∧ Plan A.C_Plan H' pa w wr ru le ((ss.zip rows).take i) ∧ Kp [p, w, wr, le] H7 H') ?_ ?_ ?_ ?_⟩
    · exact ⟨⟨none, none, none, none, none, none, none, none, rfl⟩, hl7, hsa7, hb7, hpo7, hp7, Kp.refl _ _⟩
    · rintro i σ H' _ ⟨_, _, h, _⟩
      exact SqL.of h
    · rintro i _ σ H8 H9 hi ⟨⟨v4, v5, v6, v7, v8, v9, v10, v11, rfl⟩, hl8, hsa8, hb8, hpo8, hp8, k78⟩ ⟨tt, _, _, rfl, hTn, hE, e1, e2⟩
      obtain rfl := Option.some.inj e1
      obtain ⟨x, hx, rfl⟩ := getMap e2
      have hT : H9 tt = some (.tup [V.int (i : Nat), V.str x]) := by rw [hE]; exact upd_same
      have kT : Kp [] H8 H9 := by rw [hE]; exact (Kp.refl [] _).new hTn
      have li := lt_of_get hx
      have lr : i < rows.length := by omega
      obtain ⟨row, hrow⟩ : ∃ row, rows[i]? = some row := ⟨rows[i], List.getElem?_eq_getElem lr⟩
      refine ⟨_, _, rfl, .inl (.inl hT), rfl, _, _, rfl, _, _, rfl, rfl, ?_⟩
      -- the definition
      have hl9 := kT.at0 hl8
      have hsa9 := kT.at0 hsa8
      have hb9 : Rows H9 b rows [p] := Lst.kp tS_st hb8 kT (by simp) (by simp)
      have hp9 := hp8.kp kT (by simp)
      have hpo9 := Pool.at hpo8 kT (by simp)
      obtain ⟨ps, eb9, lin9⟩ := id hb9
      have lps : ps.length = rows.length := lin9.1
      obtain ⟨t, ht⟩ : ∃ t, ps[i]? = some t := ⟨ps[i], List.getElem?_eq_getElem (by omega)⟩
      have htr : H9 t = some (.lst (row.map V.str)) := (lin9.2 i t row ht hrow).2
      have xm : x ∈ ss := List.mem_of_getElem? hx
      have rm : row ∈ rows := List.mem_of_getElem? hrow
      have rn : ∀ f ∈ row, Nm f := fun f hf => nmf.2 f (List.mem_flatten.mpr ⟨row, rm, hf⟩)
      have l6 : ss.length ≤ 6 := by omega
      have sm : ∀ j, ((ss.zip rows).take j).length ≤ 1000 := fun j => by rw [List.length_take, List.length_zip]; omega
      have fl : rows.flatten.length ≤ 18 := by
        have q1 : ∀ (rs : List (List Str)) (m : Nat), rs.length ≤ m → (∀ r ∈ rs, r.length ≤ 3) → rs.flatten.length ≤ 3 * m := fun rs => by
          induction rs with
          | nil => intro m _ _; simp
          | cons r rs ih =>
            intro m h1 h2
            cases m with
            | zero => simp at h1
            | succ m =>
              have a1 := ih m (by simpa using h1) (fun r hr => h2 r (List.mem_cons_of_mem _ hr))
              have a2 := h2 r List.mem_cons_self
              rw [List.flatten_cons, List.length_append]; omega
        have := q1 rows 6 (by omega) zf
        omega
      have fm : ∀ j, (filesOf ((ss.zip rows).take j)).length ≤ 18 := fun j => by
        rw [zip_files zr]; exact Nat.le_trans (flat_take (rows := rows) (i := j)).length_le fl
      have tn := free_next zr nms.1 nmf.1 hx hrow
      refine ⟨_, rfl, _, rfl, _, rfl, _, _, _, _, rfl, rfl, .inl (.inl hl9), rfl, _, rfl, _, _, _, _, rfl, rfl, .inl (.inl eb9), atI_nat (by rw [List.getElem?_map, ht]; rfl), ?_⟩
      refine ⟨pa, w, wr, ru, le, t, _, x, row, rfl, hp9, htr, nms.2 x xm, rn, sm i, Nat.le_trans (fm i) (by decide), zf row rm, fun _ H10 k10 hp10' => ?_, fun y ty => by rw [tn] at ty; cases ty⟩
      rw [← zip_snoc hx hrow] at hp10'
      have hl10 := hp9.stay k10 hl9 (by intro _ z; cases z) (by intro _ z; cases z)
      have hsa10 := hp9.stay k10 hsa9 (by intro _ z; cases z) (by intro _ z; cases z)
      have hb10 : Rows H10 b rows [p] := hp9.rows k10 hb9
      have hpo10 : Pool H10 p (300 + 6 * i) := by
        obtain ⟨q1, q2, q3, e, z⟩ := id hpo9
        exact ⟨q1, q2, q3, hp9.stay k10 e (by intro _ z; cases z) (by intro _ z; cases z), z⟩
      have k710 : Kp [p, w, wr, le] H7 H10 := (k78.step0 kT).step k10 (fun b hb => .inl (List.mem_cons_of_mem _ hb))
      generalize hS : (ss.zip rows).take (i + 1) = S at hp10'
      have Sst : stepsOf S = ss.take (i + 1) := by rw [← hS]; exact zip_steps zr _
      have Srw : S.map (·.2) = rows.take (i + 1) := by rw [← hS]; exact zip_rows zr _
      have Sfl : filesOf S = (rows.take (i + 1)).flatten := by rw [← hS]; exact zip_files zr _
      have Sl : S.length ≤ 1000 := by rw [← hS]; exact sm _
      have Sf : (filesOf S).length ≤ 18 := by rw [← hS]; exact fm _
      have nS : ∀ y ∈ stepsOf S, Nm y := fun y hy => nms.2 y (List.mem_of_mem_take (by rw [← Sst]; exact hy))
      have nF : ∀ y ∈ filesOf S, Nm y := fun y hy => nmf.2 y ((flat_take (rows := rows) (i := i + 1)).subset (by rw [← Sfl]; exact hy))
      have S0 : 0 < (stepsOf S).length := by rw [Sst, List.length_take]; omega
      have S6 : (stepsOf S).length ≤ 6 := by rw [Sst, List.length_take]; omega
      have pp : IsLst H10 p := by obtain ⟨q1, q2, q3, e, _⟩ := id hpo10; exact ⟨_, e⟩
      have hpk : ∀ {H' : Hp}, Kp [p] H10 H' → Plan A.C_Plan H' pa w wr ru le S := fun k => hp10'.kp k (fun m hm => by rw [List.mem_singleton.mp hm]; exact pp)
      have np : ∀ {H' : Hp} {q : Addr}, Kp [p] H10 H' → H' q = none → q ≠ p := fun {H' q} k h z => by
        obtain ⟨xs, e⟩ := pp
        have := k.free h
        rw [z, e] at this; cases this
      -- the steps so far
      refine ⟨_, rfl, _, _, _, _, rfl, rfl, .inl (.inl hl10), rfl, _, rfl, _, _, rfl, rfl, _, rfl, _, _, rfl, SqL.of hsa10, fun st H11 hn11 hst11 k11 => ?_⟩
      have hst : H11 st = some (.lst ((stepsOf S).map V.str)) := by rw [hst11, cutV_to V.str ss (k := ((i : Nat) : Int) + 1) (by omega), Sst]; rfl
      have kst : st ≠ p := np (Kp.refl [p] H10) hn11
      -- the files so far
      refine ⟨_, rfl, _, rfl, _, _, _, _, rfl, rfl, .inl (.inl (k11.at0 hl10)), rfl, _, rfl, _, _, rfl, rfl, _, rfl, ?_⟩
      obtain ⟨ps', eb10, lin10⟩ := id hb10
      refine ⟨_, _, rfl, SqL.of (k11.at0 eb10), fun sb H12 hn12 hsb12 k12 => ?_⟩
      have hsb : Rows H12 sb (rows.take (i + 1)) [p] := ⟨ps'.take (i + 1), by rw [hsb12, cutV_to V.ref ps' (k := ((i : Nat) : Int) + 1) (by omega)]; rfl, (lin10.kp tS_st (k11.trans k12) (by simp)).take (i + 1)⟩
      refine ⟨by show 2 ≤ sizeLine; decide, fun L H13 hn13 hL k13 => ?_⟩
      refine ⟨L, sb, _, rows.take (i + 1), [p], rfl, hL, Lst.kp tS_st hsb k13 (by simp) (by simp), Nat.le_trans (by rw [← Sfl]; exact Sf) (by decide), fun r H14 hn14 k14' hr14' => ?_⟩
      have hr14 : H14 r = some (.lst ((filesOf S).map V.str)) := by rw [hr14', Sfl]
      have c14 : Kp [p] H10 H14 := ((((Kp.refl [p] H10).step0 k11).step0 k12).step0 k13).step0 k14'
      have krp : r ≠ p := np (((Kp.refl [p] H10).step0 k11).step0 (k12.trans k13)) hn14
      have hst14 := ((k12.trans k13).trans k14').at0 hst
      -- names that are strange
      refine ⟨_, rfl, _, rfl, p, r, 300 + 6 * i, filesOf S, rfl, Pool.at hpo10 (((k11.trans k12).trans k13).trans k14') (by simp), by omega, hr14, nF, by omega, fun y1 H15 y1n y1m k15 hpo15 => ?_⟩
      refine ⟨_, rfl, _, rfl, p, st, 300 + 6 * i + 2, stepsOf S, rfl, hpo15, by omega, k15.at1 hst14 kst, nS, by omega, fun y2 H16 y2n y2m k16 hpo16 => ?_⟩
      have k46' : Kp [p] H14 H16 := k15.step k16 (fun b hb => .inl hb)
      have hst16 := k46'.at1 hst14 kst
      have hr16 := k46'.at1 hr14 krp
      -- a step that is there
      refine ⟨_, rfl, _, rfl, _, rfl, _, _, (((stepsOf S).length : Nat) : Int), rfl, .inl (SqL.of hst16), (by simp), p, (((stepsOf S).length : Nat) : Int), 300 + 6 * i + 2 + 2, rfl, hpo16, by omega, by omega, by omega, fun i1 H17 k17 a1 b1 hpo17 => ?_⟩
      obtain ⟨z0, hz0, hz0'⟩ := atI_map (f := V.str) (xs := stepsOf S) (i := i1) a1 b1
      have z0m : z0 ∈ stepsOf S := List.mem_of_getElem? hz0
      have hst17 := k17.at1 hst16 kst
      have hr17 := k17.at1 hr16 krp
      refine ⟨_, _, _, _, rfl, rfl, .inl (.inl hst17), hz0', ?_⟩
      -- a file that is there, or the strange one
      refine ⟨_, rfl, _, rfl, by show 1 ≤ sizeLine; decide, fun q H18 hn18 hq18 k18 => ?_⟩
      refine ⟨_, _, _, _, rfl, rfl, k18.at0 hr17, hq18, (by show (List.map V.str _).length + 1 ≤ sizeLine; rw [List.length_map]; exact slen (by omega)), fun cc H19 hn19 hcc k19 => ?_⟩
      have c17 : Kp [p] H10 H17 := (c14.step k46' (fun b hb => .inl hb)).step k17 (fun b hb => .inl hb)
      have kcp : cc ≠ p := np (c17.step0 k18) hn19
      have hcc' : H19 cc = some (.lst ((filesOf S ++ [y1]).map V.str)) := by rw [hcc, List.map_append]; rfl
      have hr19 := (k18.trans k19).at0 hr17
      refine ⟨_, rfl, _, rfl, _, _, (((filesOf S).length : Nat) : Int), rfl, .inl (SqL.of hr19), (by simp), _, _, rfl, rfl, p, (((filesOf S).length : Nat) : Int) + 1, 300 + 6 * i + 2 + 2 + 1, rfl, Pool.at hpo17 (k18.trans k19) (by simp), by omega, by omega, by omega, fun i2 H20 k20 a2 b2 hpo20 => ?_⟩
      obtain ⟨t0, ht0, ht0'⟩ := atI_map (f := V.str) (xs := filesOf S ++ [y1]) (i := i2) a2 (by rw [List.length_append]; simpa using b2)
      have t0m : t0 ∈ filesOf S ++ [y1] := List.mem_of_getElem? ht0
      have t0n : Nm t0 := by
        rcases List.mem_append.mp t0m with z | z
        · exact nF _ z
        · rw [List.mem_singleton.mp z]; exact y1m
      refine ⟨_, _, _, _, rfl, rfl, .inl (.inl (k20.at1 hcc' kcp)), ht0', ?_⟩
      have c20 : Kp [p] H10 H20 := (c17.step0 (k18.trans k19)).step k20 (fun b hb => .inl hb)
      have hr20 := k20.at1 hr19 krp
      have hst20 := k20.at1 ((k18.trans k19).at0 hst17) kst
      have two : ∀ {u v : Str}, Nm u → Nm v → ∀ f ∈ [u, v], Nm f := fun hu hv f hf => by
        rcases List.mem_cons.mp hf with rfl | hf
        · exact hu
        · rw [List.mem_singleton.mp hf]; exact hv
      have Sf' : (filesOf S).length ≤ 1000 := Nat.le_trans Sf (by decide)
      -- refused: a step that is there
      refine ⟨_, rfl, _, rfl, _, rfl, by show 1 ≤ sizeLine; decide, fun l1 H21 hn21 hl21 k21 => ?_⟩
      have c21 := c20.step0 k21
      refine ⟨pa, w, wr, ru, le, l1, S, z0, z0, [y1], rfl, hpk c21, hl21, nS z0 z0m, (fun f hf => by rw [List.mem_singleton.mp hf]; exact y1m), Sl, Sf', (by show 1 ≤ 3; decide), taken_step z0m, fun H22 k22 => ⟨_, rfl, rfl, _, rfl, ifF (by simp) ?_⟩⟩
      have c22 := c21.step0 k22
      refine ⟨_, rfl, _, rfl, _, rfl, _, rfl, by show 2 ≤ sizeLine; decide, fun l2 H23 hn23 hl23 k23 => ?_⟩
      have c23 := c22.step0 k23
      refine ⟨pa, w, wr, ru, le, l2, S, z0, z0, [t0, t0], rfl, hpk c23, hl23, nS z0 z0m, two t0n t0n, Sl, Sf', (by show 2 ≤ 3; decide), taken_step z0m, fun H24 k24 => ⟨_, rfl, rfl, _, rfl, ifF (by simp) ?_⟩⟩
      have c24 := c23.step0 k24
      -- refused: a file twice
      refine ⟨_, rfl, _, rfl, _, rfl, _, rfl, by show 2 ≤ sizeLine; decide, fun l3 H25 hn25 hl25 k25 => ?_⟩
      have c25 := c24.step0 k25
      refine ⟨pa, w, wr, ru, le, l3, S, y2, y1, [y1, y1], rfl, hpk c25, hl25, y2m, two y1m y1m, Sl, Sf', (by show 2 ≤ 3; decide), taken_file1 y2n y1n (.inr rfl), fun H26 k26 => ⟨_, rfl, rfl, _, rfl, ifF (by simp) ?_⟩⟩
      have c26 := c25.step0 k26
      have k2026 : Kp [] H20 H26 := ((((k21.trans k22).trans k23).trans k24).trans k25).trans k26
      have hr26 := k2026.at0 hr20
      -- the end of the turn
      have last : ∀ {H' : Hp} {v6 v7 v8 v9 v10 v11 : Option V}, Kp [] H26 H' → (∃ v4 v5 u6 u7 u8 u9 u10 u11, [some (V.ref a), some (.ref p), some (.ref l), some (.ref pa), some (.int (i : Nat)), some (.str x), v6, v7, v8, v9, v10, v11] = [some (V.ref a), some (.ref p), some (.ref l), some (.ref pa), v4, v5, u6, u7, u8, u9, u10, u11]) ∧
          H' l = some (.lst [V.ref sa, V.ref b, V.ref c]) ∧ H' sa = some (.lst (ss.map V.str)) ∧ Rows H' b rows [p] ∧ Pool H' p (300 + 6 * (i + 1)) ∧ Plan A.C_Plan H' pa w wr ru le S ∧ Kp [p, w, wr, le] H7 H' := fun k => by
        have cc' := c26.step0 k
        refine ⟨⟨_, _, _, _, _, _, _, _, rfl⟩, cc'.at1 hl10 nlp, cc'.at1 hsa10 nsp, Lst.kp tS_st hb10 cc' (by simpa using nbp) (by simp), (Pool.at hpo20 (k2026.trans k) (by simp)).mono (by omega), hpk cc', k710.step cc' (fun b hb => .inl (by rw [List.mem_singleton.mp hb]; exact List.mem_cons_self))⟩
      by_cases hm : t0 ∈ filesOf S
      · refine ⟨_, rfl, _, rfl, _, _, rfl, .inl (SqL.of hr26), rfl, flat_strs, _, rfl, ifT (by show inV _ _ = true; rw [inV_str]; exact decide_eq_true hm) ?_⟩
        refine ⟨_, rfl, _, rfl, _, rfl, _, rfl, by show 2 ≤ sizeLine; decide, fun l4 H27 hn27 hl27 k27' => ?_⟩
        have c27 := c26.step0 k27'
        refine ⟨pa, w, wr, ru, le, l4, S, y2, t0, [y1, t0], rfl, hpk c27, hl27, y2m, two y1m t0n, Sl, Sf', (by show 2 ≤ 3; decide), taken_file1 y2n y1n (.inl hm), fun H28 k28 => ⟨_, rfl, rfl, _, rfl, ifF (by simp) ?_⟩⟩
        have c28 := c27.step0 k28
        have hr28 := (k27'.trans k28).at0 hr26
        refine ⟨_, rfl, _, rfl, _, _, rfl, .inl (SqL.of hr28), rfl, flat_strs, _, rfl, ifT (by show inV _ _ = true; rw [inV_str]; exact decide_eq_true hm) ?_⟩
        refine ⟨_, rfl, _, rfl, _, rfl, _, rfl, _, rfl, by show 3 ≤ sizeLine; decide, fun l5 H29 hn29 hl29 k29 => ?_⟩
        have c29 := c28.step0 k29
        refine ⟨pa, w, wr, ru, le, l5, S, y2, t0, [t0, y1, y1], rfl, hpk c29, hl29, y2m, (fun f hf => by
          rcases List.mem_cons.mp hf with rfl | hf
          · exact t0n
          · exact two y1m y1m f hf), Sl, Sf', (by show 3 ≤ 3; decide), taken_file0 y2n hm, fun H30 k30 => ⟨_, rfl, rfl, _, rfl, ifF (by simp) ?_⟩⟩
        have kB := ((k27'.trans k28).trans k29).trans k30
        have cB := c26.step0 kB
        refine ⟨_, rfl, _, rfl, _, rfl, pa, w, wr, ru, le, S, y1, y2, rfl, hpk cB, y1n, y2n, fun H31 k31 => ⟨_, rfl, ifF rfl ?_⟩⟩
        have cE := cB.step0 k31
        obtain ⟨ps2, eb31, lin31⟩ := (show Rows H31 b rows [p] from Lst.kp tS_st hb10 cE (by simpa using nbp) (by simp))
        refine ⟨_, rfl, _, rfl, _, rfl, _, _, _, _, rfl, rfl, .inl (.inl (cE.at1 hl10 nlp)), rfl, _, rfl, _, _, rfl, rfl, _, rfl, _, _, rfl, SqL.of eb31, fun sb2 H32 hn32 hsb2 k32 => ?_⟩
        have rw2 : Rows H32 sb2 (S.map (·.2)) [p] := by rw [Srw]; exact ⟨ps2.take (i + 1), by rw [hsb2, cutV_to V.ref ps2 (k := ((i : Nat) : Int) + 1) (by omega)]; rfl, (lin31.kp tS_st k32 (by simp)).take (i + 1)⟩
        refine ⟨pa, w, wr, ru, le, st, sb2, S, [p], rfl, hpk (cE.step0 k32), (((k2026.trans kB).trans k31).trans k32).at0 hst20, rw2, Sl, Sf', nS, nF, fun H33 k33 => ⟨_, rfl, ifF rfl ?_⟩⟩
        have := last (v6 := some (.ref st)) (v7 := some (.ref r)) (v8 := some (.str y1)) (v9 := some (.str y2)) (v10 := some (.str z0)) (v11 := some (.str t0)) (((kB.trans k31).trans k32).trans k33)
        exact this
      · refine ⟨_, rfl, _, rfl, _, _, rfl, .inl (SqL.of hr26), rfl, flat_strs, _, rfl, ifF (by show inV _ _ = false; rw [inV_str]; exact decide_eq_false hm) (ifF rfl ?_)⟩
        refine ⟨_, rfl, _, rfl, _, _, rfl, .inl (SqL.of hr26), rfl, flat_strs, _, rfl, ifF (by show inV _ _ = false; rw [inV_str]; exact decide_eq_false hm) (ifF rfl ?_)⟩
        have kB := Kp.refl [] H26
        have cB := c26.step0 kB
        refine ⟨_, rfl, _, rfl, _, rfl, pa, w, wr, ru, le, S, y1, y2, rfl, hpk cB, y1n, y2n, fun H31 k31 => ⟨_, rfl, ifF rfl ?_⟩⟩
        have cE := cB.step0 k31
        obtain ⟨ps2, eb31, lin31⟩ := (show Rows H31 b rows [p] from Lst.kp tS_st hb10 cE (by simpa using nbp) (by simp))
        refine ⟨_, rfl, _, rfl, _, rfl, _, _, _, _, rfl, rfl, .inl (.inl (cE.at1 hl10 nlp)), rfl, _, rfl, _, _, rfl, rfl, _, rfl, _, _, rfl, SqL.of eb31, fun sb2 H32 hn32 hsb2 k32 => ?_⟩
        have rw2 : Rows H32 sb2 (S.map (·.2)) [p] := by rw [Srw]; exact ⟨ps2.take (i + 1), by rw [hsb2, cutV_to V.ref ps2 (k := ((i : Nat) : Int) + 1) (by omega)]; rfl, (lin31.kp tS_st k32 (by simp)).take (i + 1)⟩
        refine ⟨pa, w, wr, ru, le, st, sb2, S, [p], rfl, hpk (cE.step0 k32), (((k2026.trans kB).trans k31).trans k32).at0 hst20, rw2, Sl, Sf', nS, nF, fun H33 k33 => ⟨_, rfl, ifF rfl ?_⟩⟩
        have := last (v6 := some (.ref st)) (v7 := some (.ref r)) (v8 := some (.str y1)) (v9 := some (.str y2)) (v10 := some (.str z0)) (v11 := some (.str t0)) (((kB.trans k31).trans k32).trans k33)
        exact this
    · rintro σ H' ⟨⟨v4, v5, v6, v7, v8, v9, v10, v11, rfl⟩, _, _, _, _, _, k⟩
      refine q H' ?_
      refine k07.step k (fun b hb => .inr ?_)
      simp only [List.mem_cons, List.not_mem_nil, or_false] at hb
      rcases hb with rfl | rfl | rfl | rfl
      · exact hn1
      · exact k1.free (k2.free (k3.free f1))
      · exact k1.free (k2.free (k3.free f2))
      · exact k1.free (k2.free (k3.free f4))
end
end Lk
set_option Elab.async false
set_option linter.all false
set_option maxRecDepth 100000
set_option maxHeartbeats 8000000
namespace Lk
open PySem L2
theorem all_mk {P : Program} {w : World} {K : PySem.W.Frag} {h : Heap} {mg : Str → Option Value} {fa : Addr} (X : K.In h) (G : h.Ns mainGlobals mg) (hfa : mg "law" = some (.ref fa))
    {C_BadName f_BadName___init__ C_NameTaken f_NameTaken___init__ C_NoStep f_NoStep___init__ C_NoFile f_NoFile___init__ C_Plan f_is_name f_Plan___init__ f_Plan___len__ f_Plan___contains__ f_Plan_steps p_Plan_steps f_Plan_files p_Plan_files f_refuse_missing f_Plan_step_of f_Plan_files_of f_Plan_define f__law_cell f__law_pool f__law_take f__law_names f__law_parts f__law_define f__law_files f__law_stranger f__law_as_told f__law_strange f__law_refused f_law L : Addr}
    {t_LETTERS : Tok}
    {t_LONGEST_NAME : Tok}
    {t_NAME_CHARACTERS : Tok}
    {nm_BadName q_BadName : Str} {N_BadName : Addr} {bs_BadName sub_BadName : List Value} {sn_BadName : List Str} {ab_BadName : Bool} {col_BadName : Option Bool} {dd_BadName : Option Addr} {x0_BadName x1_BadName x2_BadName x3_BadName x5_BadName : Option Value}
    {od_BadName___init__ an_BadName___init__ : Option Addr}
    {sl_BadName___init__ : Array (Option Value)}
    {oc_BadName___init__ kV_BadName___init__ dc_BadName___init__ pm_BadName___init__ cd_BadName___init__ ct_BadName___init__ : Value}
    {nm_NameTaken q_NameTaken : Str} {N_NameTaken : Addr} {bs_NameTaken sub_NameTaken : List Value} {sn_NameTaken : List Str} {ab_NameTaken : Bool} {col_NameTaken : Option Bool} {dd_NameTaken : Option Addr} {x0_NameTaken x1_NameTaken x2_NameTaken x3_NameTaken x5_NameTaken : Option Value}
    {od_NameTaken___init__ an_NameTaken___init__ : Option Addr}
    {sl_NameTaken___init__ : Array (Option Value)}
    {oc_NameTaken___init__ kV_NameTaken___init__ dc_NameTaken___init__ pm_NameTaken___init__ cd_NameTaken___init__ ct_NameTaken___init__ : Value}
    {nm_NoStep q_NoStep : Str} {N_NoStep : Addr} {bs_NoStep sub_NoStep : List Value} {sn_NoStep : List Str} {ab_NoStep : Bool} {col_NoStep : Option Bool} {dd_NoStep : Option Addr} {x0_NoStep x1_NoStep x2_NoStep x3_NoStep x5_NoStep : Option Value}
    {od_NoStep___init__ an_NoStep___init__ : Option Addr}
    {sl_NoStep___init__ : Array (Option Value)}
    {oc_NoStep___init__ kV_NoStep___init__ dc_NoStep___init__ pm_NoStep___init__ cd_NoStep___init__ ct_NoStep___init__ : Value}
    {nm_NoFile q_NoFile : Str} {N_NoFile : Addr} {bs_NoFile sub_NoFile : List Value} {sn_NoFile : List Str} {ab_NoFile : Bool} {col_NoFile : Option Bool} {dd_NoFile : Option Addr} {x0_NoFile x1_NoFile x2_NoFile x3_NoFile x5_NoFile : Option Value}
    {od_NoFile___init__ an_NoFile___init__ : Option Addr}
    {sl_NoFile___init__ : Array (Option Value)}
    {oc_NoFile___init__ kV_NoFile___init__ dc_NoFile___init__ pm_NoFile___init__ cd_NoFile___init__ ct_NoFile___init__ : Value}
    {od_is_name an_is_name : Option Addr}
    {sl_is_name : Array (Option Value)}
    {oc_is_name kV_is_name dc_is_name pm_is_name cd_is_name ct_is_name : Value}
    {od_Plan___init__ an_Plan___init__ : Option Addr}
    {sl_Plan___init__ : Array (Option Value)}
    {oc_Plan___init__ kV_Plan___init__ dc_Plan___init__ pm_Plan___init__ cd_Plan___init__ ct_Plan___init__ : Value}
    {od_Plan___len__ an_Plan___len__ : Option Addr}
    {sl_Plan___len__ : Array (Option Value)}
    {oc_Plan___len__ kV_Plan___len__ dc_Plan___len__ pm_Plan___len__ cd_Plan___len__ ct_Plan___len__ : Value}
    {od_Plan___contains__ an_Plan___contains__ : Option Addr}
    {sl_Plan___contains__ : Array (Option Value)}
    {oc_Plan___contains__ kV_Plan___contains__ dc_Plan___contains__ pm_Plan___contains__ cd_Plan___contains__ ct_Plan___contains__ : Value}
    {r_Plan_steps : List Value}
    {od_Plan_steps an_Plan_steps : Option Addr}
    {sl_Plan_steps : Array (Option Value)}
    {oc_Plan_steps kV_Plan_steps dc_Plan_steps pm_Plan_steps cd_Plan_steps ct_Plan_steps : Value}
    {r_Plan_files : List Value}
    {od_Plan_files an_Plan_files : Option Addr}
    {sl_Plan_files : Array (Option Value)}
    {oc_Plan_files kV_Plan_files dc_Plan_files pm_Plan_files cd_Plan_files ct_Plan_files : Value}
    {od_refuse_missing an_refuse_missing : Option Addr}
    {sl_refuse_missing : Array (Option Value)}
    {oc_refuse_missing kV_refuse_missing dc_refuse_missing pm_refuse_missing cd_refuse_missing ct_refuse_missing : Value}
    {od_Plan_step_of an_Plan_step_of : Option Addr}
    {sl_Plan_step_of : Array (Option Value)}
    {oc_Plan_step_of kV_Plan_step_of dc_Plan_step_of pm_Plan_step_of cd_Plan_step_of ct_Plan_step_of : Value}
    {od_Plan_files_of an_Plan_files_of : Option Addr}
    {sl_Plan_files_of : Array (Option Value)}
    {oc_Plan_files_of kV_Plan_files_of dc_Plan_files_of pm_Plan_files_of cd_Plan_files_of ct_Plan_files_of : Value}
    {od_Plan_define an_Plan_define : Option Addr}
    {sl_Plan_define : Array (Option Value)}
    {oc_Plan_define kV_Plan_define dc_Plan_define pm_Plan_define cd_Plan_define ct_Plan_define : Value}
    {od__law_cell an__law_cell : Option Addr}
    {sl__law_cell : Array (Option Value)}
    {oc__law_cell kV__law_cell dc__law_cell pm__law_cell cd__law_cell ct__law_cell : Value}
    {od__law_pool an__law_pool : Option Addr}
    {sl__law_pool : Array (Option Value)}
    {oc__law_pool kV__law_pool dc__law_pool pm__law_pool cd__law_pool ct__law_pool : Value}
    {od__law_take an__law_take : Option Addr}
    {sl__law_take : Array (Option Value)}
    {oc__law_take kV__law_take dc__law_take pm__law_take cd__law_take ct__law_take : Value}
    {od__law_names an__law_names : Option Addr}
    {sl__law_names : Array (Option Value)}
    {oc__law_names kV__law_names dc__law_names pm__law_names cd__law_names ct__law_names : Value}
    {od__law_parts an__law_parts : Option Addr}
    {sl__law_parts : Array (Option Value)}
    {oc__law_parts kV__law_parts dc__law_parts pm__law_parts cd__law_parts ct__law_parts : Value}
    {od__law_define an__law_define : Option Addr}
    {sl__law_define : Array (Option Value)}
    {oc__law_define kV__law_define dc__law_define pm__law_define cd__law_define ct__law_define : Value}
    {od__law_files an__law_files : Option Addr}
    {sl__law_files : Array (Option Value)}
    {oc__law_files kV__law_files dc__law_files pm__law_files cd__law_files ct__law_files : Value}
    {od__law_stranger an__law_stranger : Option Addr}
    {sl__law_stranger : Array (Option Value)}
    {oc__law_stranger kV__law_stranger dc__law_stranger pm__law_stranger cd__law_stranger ct__law_stranger : Value}
    {od__law_as_told an__law_as_told : Option Addr}
    {sl__law_as_told : Array (Option Value)}
    {oc__law_as_told kV__law_as_told dc__law_as_told pm__law_as_told cd__law_as_told ct__law_as_told : Value}
    {od__law_strange an__law_strange : Option Addr}
    {sl__law_strange : Array (Option Value)}
    {oc__law_strange kV__law_strange dc__law_strange pm__law_strange cd__law_strange ct__law_strange : Value}
    {od__law_refused an__law_refused : Option Addr}
    {sl__law_refused : Array (Option Value)}
    {oc__law_refused kV__law_refused dc__law_refused pm__law_refused cd__law_refused ct__law_refused : Value}
    {od_law an_law : Option Addr}
    {sl_law : Array (Option Value)}
    {oc_law kV_law dc_law pm_law cd_law ct_law : Value}
    (y_LETTERS : PySem.W.nsIn K mainGlobals "LETTERS" = some (some (.str "abcdefghijklmnopqrstuvwxyz" t_LETTERS)))
    (y_LONGEST_NAME : PySem.W.nsIn K mainGlobals "LONGEST_NAME" = some (some (.int 8 t_LONGEST_NAME)))
    (y_NAME_CHARACTERS : PySem.W.nsIn K mainGlobals "NAME_CHARACTERS" = some (some (.str "abcdefghijklmnopqrstuvwxyz0123456789" t_NAME_CHARACTERS)))
    (z_all : PySem.W.nsIn K mainGlobals "all" = some none)
    (z_enumerate : PySem.W.nsIn K mainGlobals "enumerate" = some none)
    (z_int : PySem.W.nsIn K mainGlobals "int" = some none)
    (z_isinstance : PySem.W.nsIn K mainGlobals "isinstance" = some none)
    (z_len : PySem.W.nsIn K mainGlobals "len" = some none)
    (z_range : PySem.W.nsIn K mainGlobals "range" = some none)
    (z_str : PySem.W.nsIn K mainGlobals "str" = some none)
    (z_tuple : PySem.W.nsIn K mainGlobals "tuple" = some none)
    (z_zip : PySem.W.nsIn K mainGlobals "zip" = some none)
    (a_BadName : PySem.W.nsIn K mainGlobals "BadName" = some (some (.ref C_BadName)))
    (x_BadName : K.lookup C_BadName = some (excClassObj nm_BadName q_BadName C_BadName N_BadName bs_BadName (lineOf L) true sn_BadName sub_BadName ab_BadName col_BadName dd_BadName x0_BadName x1_BadName x2_BadName x3_BadName x5_BadName "ValueError.__new__"))
    (sa_BadName : PySem.W.findIn K (.ref C_BadName) "__setattr__" = some (some (.builtin "object.__setattr__")))
    (ga_BadName : PySem.W.findIn K (.ref C_BadName) "__getattribute__" = some (some (.builtin "BaseException.__getattribute__")))
    (gg_BadName : PySem.W.findIn K (.ref C_BadName) "__getattr__" = some none)
    (kC_BadName : PySem.W.keepIn K (.ref C_BadName) = true)
    (eC_BadName : PySem.W.subIn K (.ref C_BadName) (.type "BaseException") = some true)
    (tC_BadName : PySem.W.typeIn K (.ref C_BadName) = some (.type "type"))
    (hC_BadName : PySem.W.hasDictIn K C_BadName = true)
    (ss_BadName : PySem.W.subIn K (.ref C_BadName) (.ref C_BadName) = some true)
    (ic_BadName : PySem.W.isClsIn K C_BadName = true)
    (nf_BadName_name : PySem.W.findIn K (.ref C_BadName) "name" = some none)
    (a_BadName___init__ : PySem.W.findIn K (.ref C_BadName) "__init__" = some (some (.ref f_BadName___init__)))
    (l_BadName___init__ : K.lookup f_BadName___init__ = some ⟨oc_BadName___init__, od_BadName___init__, .func (PySem.W.fnOf "__init__" "BadName.__init__" (defArgs s_BadName___init__) (defBody s_BadName___init__) (defScope s_BadName___init__) .none kV_BadName___init__ dc_BadName___init__ pm_BadName___init__ an_BadName___init__ cd_BadName___init__ ct_BadName___init__), sl_BadName___init__⟩)
    (c_BadName___init__ : PySem.W.codeIn K cd_BadName___init__ "BadName.__init__" = true)
    (k_BadName___init__ : PySem.W.keepIn K (.ref f_BadName___init__) = true)
    (t_BadName___init__ : PySem.W.typeIn K (.ref f_BadName___init__) = some (.type "function"))
    (a_NameTaken : PySem.W.nsIn K mainGlobals "NameTaken" = some (some (.ref C_NameTaken)))
    (x_NameTaken : K.lookup C_NameTaken = some (excClassObj nm_NameTaken q_NameTaken C_NameTaken N_NameTaken bs_NameTaken (lineOf L) true sn_NameTaken sub_NameTaken ab_NameTaken col_NameTaken dd_NameTaken x0_NameTaken x1_NameTaken x2_NameTaken x3_NameTaken x5_NameTaken "ValueError.__new__"))
    (sa_NameTaken : PySem.W.findIn K (.ref C_NameTaken) "__setattr__" = some (some (.builtin "object.__setattr__")))
    (ga_NameTaken : PySem.W.findIn K (.ref C_NameTaken) "__getattribute__" = some (some (.builtin "BaseException.__getattribute__")))
    (gg_NameTaken : PySem.W.findIn K (.ref C_NameTaken) "__getattr__" = some none)
    (kC_NameTaken : PySem.W.keepIn K (.ref C_NameTaken) = true)
    (eC_NameTaken : PySem.W.subIn K (.ref C_NameTaken) (.type "BaseException") = some true)
    (tC_NameTaken : PySem.W.typeIn K (.ref C_NameTaken) = some (.type "type"))
    (hC_NameTaken : PySem.W.hasDictIn K C_NameTaken = true)
    (ss_NameTaken : PySem.W.subIn K (.ref C_NameTaken) (.ref C_NameTaken) = some true)
    (ic_NameTaken : PySem.W.isClsIn K C_NameTaken = true)
    (nf_NameTaken_name : PySem.W.findIn K (.ref C_NameTaken) "name" = some none)
    (a_NameTaken___init__ : PySem.W.findIn K (.ref C_NameTaken) "__init__" = some (some (.ref f_NameTaken___init__)))
    (l_NameTaken___init__ : K.lookup f_NameTaken___init__ = some ⟨oc_NameTaken___init__, od_NameTaken___init__, .func (PySem.W.fnOf "__init__" "NameTaken.__init__" (defArgs s_NameTaken___init__) (defBody s_NameTaken___init__) (defScope s_NameTaken___init__) .none kV_NameTaken___init__ dc_NameTaken___init__ pm_NameTaken___init__ an_NameTaken___init__ cd_NameTaken___init__ ct_NameTaken___init__), sl_NameTaken___init__⟩)
    (c_NameTaken___init__ : PySem.W.codeIn K cd_NameTaken___init__ "NameTaken.__init__" = true)
    (k_NameTaken___init__ : PySem.W.keepIn K (.ref f_NameTaken___init__) = true)
    (t_NameTaken___init__ : PySem.W.typeIn K (.ref f_NameTaken___init__) = some (.type "function"))
    (a_NoStep : PySem.W.nsIn K mainGlobals "NoStep" = some (some (.ref C_NoStep)))
    (x_NoStep : K.lookup C_NoStep = some (excClassObj nm_NoStep q_NoStep C_NoStep N_NoStep bs_NoStep (lineOf L) true sn_NoStep sub_NoStep ab_NoStep col_NoStep dd_NoStep x0_NoStep x1_NoStep x2_NoStep x3_NoStep x5_NoStep "ValueError.__new__"))
    (sa_NoStep : PySem.W.findIn K (.ref C_NoStep) "__setattr__" = some (some (.builtin "object.__setattr__")))
    (ga_NoStep : PySem.W.findIn K (.ref C_NoStep) "__getattribute__" = some (some (.builtin "BaseException.__getattribute__")))
    (gg_NoStep : PySem.W.findIn K (.ref C_NoStep) "__getattr__" = some none)
    (kC_NoStep : PySem.W.keepIn K (.ref C_NoStep) = true)
    (eC_NoStep : PySem.W.subIn K (.ref C_NoStep) (.type "BaseException") = some true)
    (tC_NoStep : PySem.W.typeIn K (.ref C_NoStep) = some (.type "type"))
    (hC_NoStep : PySem.W.hasDictIn K C_NoStep = true)
    (ss_NoStep : PySem.W.subIn K (.ref C_NoStep) (.ref C_NoStep) = some true)
    (ic_NoStep : PySem.W.isClsIn K C_NoStep = true)
    (nf_NoStep_name : PySem.W.findIn K (.ref C_NoStep) "name" = some none)
    (a_NoStep___init__ : PySem.W.findIn K (.ref C_NoStep) "__init__" = some (some (.ref f_NoStep___init__)))
    (l_NoStep___init__ : K.lookup f_NoStep___init__ = some ⟨oc_NoStep___init__, od_NoStep___init__, .func (PySem.W.fnOf "__init__" "NoStep.__init__" (defArgs s_NoStep___init__) (defBody s_NoStep___init__) (defScope s_NoStep___init__) .none kV_NoStep___init__ dc_NoStep___init__ pm_NoStep___init__ an_NoStep___init__ cd_NoStep___init__ ct_NoStep___init__), sl_NoStep___init__⟩)
    (c_NoStep___init__ : PySem.W.codeIn K cd_NoStep___init__ "NoStep.__init__" = true)
    (k_NoStep___init__ : PySem.W.keepIn K (.ref f_NoStep___init__) = true)
    (t_NoStep___init__ : PySem.W.typeIn K (.ref f_NoStep___init__) = some (.type "function"))
    (a_NoFile : PySem.W.nsIn K mainGlobals "NoFile" = some (some (.ref C_NoFile)))
    (x_NoFile : K.lookup C_NoFile = some (excClassObj nm_NoFile q_NoFile C_NoFile N_NoFile bs_NoFile (lineOf L) true sn_NoFile sub_NoFile ab_NoFile col_NoFile dd_NoFile x0_NoFile x1_NoFile x2_NoFile x3_NoFile x5_NoFile "ValueError.__new__"))
    (sa_NoFile : PySem.W.findIn K (.ref C_NoFile) "__setattr__" = some (some (.builtin "object.__setattr__")))
    (ga_NoFile : PySem.W.findIn K (.ref C_NoFile) "__getattribute__" = some (some (.builtin "BaseException.__getattribute__")))
    (gg_NoFile : PySem.W.findIn K (.ref C_NoFile) "__getattr__" = some none)
    (kC_NoFile : PySem.W.keepIn K (.ref C_NoFile) = true)
    (eC_NoFile : PySem.W.subIn K (.ref C_NoFile) (.type "BaseException") = some true)
    (tC_NoFile : PySem.W.typeIn K (.ref C_NoFile) = some (.type "type"))
    (hC_NoFile : PySem.W.hasDictIn K C_NoFile = true)
    (ss_NoFile : PySem.W.subIn K (.ref C_NoFile) (.ref C_NoFile) = some true)
    (ic_NoFile : PySem.W.isClsIn K C_NoFile = true)
    (nf_NoFile_name : PySem.W.findIn K (.ref C_NoFile) "name" = some none)
    (a_NoFile___init__ : PySem.W.findIn K (.ref C_NoFile) "__init__" = some (some (.ref f_NoFile___init__)))
    (l_NoFile___init__ : K.lookup f_NoFile___init__ = some ⟨oc_NoFile___init__, od_NoFile___init__, .func (PySem.W.fnOf "__init__" "NoFile.__init__" (defArgs s_NoFile___init__) (defBody s_NoFile___init__) (defScope s_NoFile___init__) .none kV_NoFile___init__ dc_NoFile___init__ pm_NoFile___init__ an_NoFile___init__ cd_NoFile___init__ ct_NoFile___init__), sl_NoFile___init__⟩)
    (c_NoFile___init__ : PySem.W.codeIn K cd_NoFile___init__ "NoFile.__init__" = true)
    (k_NoFile___init__ : PySem.W.keepIn K (.ref f_NoFile___init__) = true)
    (t_NoFile___init__ : PySem.W.typeIn K (.ref f_NoFile___init__) = some (.type "function"))
    (a_Plan : PySem.W.nsIn K mainGlobals "Plan" = some (some (.ref C_Plan)))
    (pg_Plan : PySem.W.plainGet K C_Plan Str.empty = true)
    (hd_Plan : PySem.W.hasDictIn K C_Plan = true)
    (po_Plan : PySem.W.plainOver K C_Plan = true)
    (sa_Plan : PySem.W.findIn K (.ref C_Plan) "__setattr__" = some (some (.builtin "object.__setattr__")))
    (mk_Plan : PySem.W.makesIn K C_Plan = true)
    (kC_Plan : PySem.W.keepIn K (.ref C_Plan) = true)
    (nf_Plan__writes : PySem.W.findIn K (.ref C_Plan) "_writes" = some none)
    (nf_Plan__writer : PySem.W.findIn K (.ref C_Plan) "_writer" = some none)
    (nf_Plan__rules : PySem.W.findIn K (.ref C_Plan) "_rules" = some none)
    (nf_Plan__least : PySem.W.findIn K (.ref C_Plan) "_least" = some none)
    (a_is_name : PySem.W.nsIn K mainGlobals "is_name" = some (some (.ref f_is_name)))
    (l_is_name : K.lookup f_is_name = some ⟨oc_is_name, od_is_name, .func (PySem.W.fnOf "is_name" "is_name" (defArgs s_is_name) (defBody s_is_name) (defScope s_is_name) .none kV_is_name dc_is_name pm_is_name an_is_name cd_is_name ct_is_name), sl_is_name⟩)
    (c_is_name : PySem.W.codeIn K cd_is_name "is_name" = true)
    (k_is_name : PySem.W.keepIn K (.ref f_is_name) = true)
    (a_Plan___init__ : PySem.W.findIn K (.ref C_Plan) "__init__" = some (some (.ref f_Plan___init__)))
    (l_Plan___init__ : K.lookup f_Plan___init__ = some ⟨oc_Plan___init__, od_Plan___init__, .func (PySem.W.fnOf "__init__" "Plan.__init__" (defArgs s_Plan___init__) (defBody s_Plan___init__) (defScope s_Plan___init__) .none kV_Plan___init__ dc_Plan___init__ pm_Plan___init__ an_Plan___init__ cd_Plan___init__ ct_Plan___init__), sl_Plan___init__⟩)
    (c_Plan___init__ : PySem.W.codeIn K cd_Plan___init__ "Plan.__init__" = true)
    (k_Plan___init__ : PySem.W.keepIn K (.ref f_Plan___init__) = true)
    (i_Plan___init__ : PySem.W.isFn K (.ref f_Plan___init__) = true)
    (a_Plan___len__ : PySem.W.findIn K (.ref C_Plan) "__len__" = some (some (.ref f_Plan___len__)))
    (l_Plan___len__ : K.lookup f_Plan___len__ = some ⟨oc_Plan___len__, od_Plan___len__, .func (PySem.W.fnOf "__len__" "Plan.__len__" (defArgs s_Plan___len__) (defBody s_Plan___len__) (defScope s_Plan___len__) .none kV_Plan___len__ dc_Plan___len__ pm_Plan___len__ an_Plan___len__ cd_Plan___len__ ct_Plan___len__), sl_Plan___len__⟩)
    (c_Plan___len__ : PySem.W.codeIn K cd_Plan___len__ "Plan.__len__" = true)
    (k_Plan___len__ : PySem.W.keepIn K (.ref f_Plan___len__) = true)
    (i_Plan___len__ : PySem.W.isFn K (.ref f_Plan___len__) = true)
    (a_Plan___contains__ : PySem.W.findIn K (.ref C_Plan) "__contains__" = some (some (.ref f_Plan___contains__)))
    (l_Plan___contains__ : K.lookup f_Plan___contains__ = some ⟨oc_Plan___contains__, od_Plan___contains__, .func (PySem.W.fnOf "__contains__" "Plan.__contains__" (defArgs s_Plan___contains__) (defBody s_Plan___contains__) (defScope s_Plan___contains__) .none kV_Plan___contains__ dc_Plan___contains__ pm_Plan___contains__ an_Plan___contains__ cd_Plan___contains__ ct_Plan___contains__), sl_Plan___contains__⟩)
    (c_Plan___contains__ : PySem.W.codeIn K cd_Plan___contains__ "Plan.__contains__" = true)
    (k_Plan___contains__ : PySem.W.keepIn K (.ref f_Plan___contains__) = true)
    (i_Plan___contains__ : PySem.W.isFn K (.ref f_Plan___contains__) = true)
    (pa_Plan_steps : PySem.W.findIn K (.ref C_Plan) "steps" = some (some (.ref p_Plan_steps)))
    (pg_Plan_steps : PySem.W.specialIn K (.ref p_Plan_steps) "__get__" = some (some (.builtin "property.__get__")))
    (pt_Plan_steps : PySem.W.takesIn K (.ref p_Plan_steps) = some true)
    (pr_Plan_steps : PySem.W.recIn K p_Plan_steps "property" = some (.ref f_Plan_steps :: r_Plan_steps))
    (l_Plan_steps : K.lookup f_Plan_steps = some ⟨oc_Plan_steps, od_Plan_steps, .func (PySem.W.fnOf "steps" "Plan.steps" (defArgs s_Plan_steps) (defBody s_Plan_steps) (defScope s_Plan_steps) .none kV_Plan_steps dc_Plan_steps pm_Plan_steps an_Plan_steps cd_Plan_steps ct_Plan_steps), sl_Plan_steps⟩)
    (c_Plan_steps : PySem.W.codeIn K cd_Plan_steps "Plan.steps" = true)
    (k_Plan_steps : PySem.W.keepIn K (.ref f_Plan_steps) = true)
    (pa_Plan_files : PySem.W.findIn K (.ref C_Plan) "files" = some (some (.ref p_Plan_files)))
    (pg_Plan_files : PySem.W.specialIn K (.ref p_Plan_files) "__get__" = some (some (.builtin "property.__get__")))
    (pt_Plan_files : PySem.W.takesIn K (.ref p_Plan_files) = some true)
    (pr_Plan_files : PySem.W.recIn K p_Plan_files "property" = some (.ref f_Plan_files :: r_Plan_files))
    (l_Plan_files : K.lookup f_Plan_files = some ⟨oc_Plan_files, od_Plan_files, .func (PySem.W.fnOf "files" "Plan.files" (defArgs s_Plan_files) (defBody s_Plan_files) (defScope s_Plan_files) .none kV_Plan_files dc_Plan_files pm_Plan_files an_Plan_files cd_Plan_files ct_Plan_files), sl_Plan_files⟩)
    (c_Plan_files : PySem.W.codeIn K cd_Plan_files "Plan.files" = true)
    (k_Plan_files : PySem.W.keepIn K (.ref f_Plan_files) = true)
    (a_refuse_missing : PySem.W.nsIn K mainGlobals "refuse_missing" = some (some (.ref f_refuse_missing)))
    (l_refuse_missing : K.lookup f_refuse_missing = some ⟨oc_refuse_missing, od_refuse_missing, .func (PySem.W.fnOf "refuse_missing" "refuse_missing" (defArgs s_refuse_missing) (defBody s_refuse_missing) (defScope s_refuse_missing) .none kV_refuse_missing dc_refuse_missing pm_refuse_missing an_refuse_missing cd_refuse_missing ct_refuse_missing), sl_refuse_missing⟩)
    (c_refuse_missing : PySem.W.codeIn K cd_refuse_missing "refuse_missing" = true)
    (k_refuse_missing : PySem.W.keepIn K (.ref f_refuse_missing) = true)
    (a_Plan_step_of : PySem.W.findIn K (.ref C_Plan) "step_of" = some (some (.ref f_Plan_step_of)))
    (l_Plan_step_of : K.lookup f_Plan_step_of = some ⟨oc_Plan_step_of, od_Plan_step_of, .func (PySem.W.fnOf "step_of" "Plan.step_of" (defArgs s_Plan_step_of) (defBody s_Plan_step_of) (defScope s_Plan_step_of) .none kV_Plan_step_of dc_Plan_step_of pm_Plan_step_of an_Plan_step_of cd_Plan_step_of ct_Plan_step_of), sl_Plan_step_of⟩)
    (c_Plan_step_of : PySem.W.codeIn K cd_Plan_step_of "Plan.step_of" = true)
    (k_Plan_step_of : PySem.W.keepIn K (.ref f_Plan_step_of) = true)
    (i_Plan_step_of : PySem.W.isFn K (.ref f_Plan_step_of) = true)
    (a_Plan_files_of : PySem.W.findIn K (.ref C_Plan) "files_of" = some (some (.ref f_Plan_files_of)))
    (l_Plan_files_of : K.lookup f_Plan_files_of = some ⟨oc_Plan_files_of, od_Plan_files_of, .func (PySem.W.fnOf "files_of" "Plan.files_of" (defArgs s_Plan_files_of) (defBody s_Plan_files_of) (defScope s_Plan_files_of) .none kV_Plan_files_of dc_Plan_files_of pm_Plan_files_of an_Plan_files_of cd_Plan_files_of ct_Plan_files_of), sl_Plan_files_of⟩)
    (c_Plan_files_of : PySem.W.codeIn K cd_Plan_files_of "Plan.files_of" = true)
    (k_Plan_files_of : PySem.W.keepIn K (.ref f_Plan_files_of) = true)
    (i_Plan_files_of : PySem.W.isFn K (.ref f_Plan_files_of) = true)
    (a_Plan_define : PySem.W.findIn K (.ref C_Plan) "define" = some (some (.ref f_Plan_define)))
    (l_Plan_define : K.lookup f_Plan_define = some ⟨oc_Plan_define, od_Plan_define, .func (PySem.W.fnOf "define" "Plan.define" (defArgs s_Plan_define) (defBody s_Plan_define) (defScope s_Plan_define) .none kV_Plan_define dc_Plan_define pm_Plan_define an_Plan_define cd_Plan_define ct_Plan_define), sl_Plan_define⟩)
    (c_Plan_define : PySem.W.codeIn K cd_Plan_define "Plan.define" = true)
    (k_Plan_define : PySem.W.keepIn K (.ref f_Plan_define) = true)
    (i_Plan_define : PySem.W.isFn K (.ref f_Plan_define) = true)
    (a__law_cell : PySem.W.nsIn K mainGlobals "_law_cell" = some (some (.ref f__law_cell)))
    (l__law_cell : K.lookup f__law_cell = some ⟨oc__law_cell, od__law_cell, .func (PySem.W.fnOf "_law_cell" "_law_cell" (defArgs s__law_cell) (defBody s__law_cell) (defScope s__law_cell) .none kV__law_cell dc__law_cell pm__law_cell an__law_cell cd__law_cell ct__law_cell), sl__law_cell⟩)
    (c__law_cell : PySem.W.codeIn K cd__law_cell "_law_cell" = true)
    (k__law_cell : PySem.W.keepIn K (.ref f__law_cell) = true)
    (a__law_pool : PySem.W.nsIn K mainGlobals "_law_pool" = some (some (.ref f__law_pool)))
    (l__law_pool : K.lookup f__law_pool = some ⟨oc__law_pool, od__law_pool, .func (PySem.W.fnOf "_law_pool" "_law_pool" (defArgs s__law_pool) (defBody s__law_pool) (defScope s__law_pool) .none kV__law_pool dc__law_pool pm__law_pool an__law_pool cd__law_pool ct__law_pool), sl__law_pool⟩)
    (c__law_pool : PySem.W.codeIn K cd__law_pool "_law_pool" = true)
    (k__law_pool : PySem.W.keepIn K (.ref f__law_pool) = true)
    (a__law_take : PySem.W.nsIn K mainGlobals "_law_take" = some (some (.ref f__law_take)))
    (l__law_take : K.lookup f__law_take = some ⟨oc__law_take, od__law_take, .func (PySem.W.fnOf "_law_take" "_law_take" (defArgs s__law_take) (defBody s__law_take) (defScope s__law_take) .none kV__law_take dc__law_take pm__law_take an__law_take cd__law_take ct__law_take), sl__law_take⟩)
    (c__law_take : PySem.W.codeIn K cd__law_take "_law_take" = true)
    (k__law_take : PySem.W.keepIn K (.ref f__law_take) = true)
    (a__law_names : PySem.W.nsIn K mainGlobals "_law_names" = some (some (.ref f__law_names)))
    (l__law_names : K.lookup f__law_names = some ⟨oc__law_names, od__law_names, .func (PySem.W.fnOf "_law_names" "_law_names" (defArgs s__law_names) (defBody s__law_names) (defScope s__law_names) .none kV__law_names dc__law_names pm__law_names an__law_names cd__law_names ct__law_names), sl__law_names⟩)
    (c__law_names : PySem.W.codeIn K cd__law_names "_law_names" = true)
    (k__law_names : PySem.W.keepIn K (.ref f__law_names) = true)
    (a__law_parts : PySem.W.nsIn K mainGlobals "_law_parts" = some (some (.ref f__law_parts)))
    (l__law_parts : K.lookup f__law_parts = some ⟨oc__law_parts, od__law_parts, .func (PySem.W.fnOf "_law_parts" "_law_parts" (defArgs s__law_parts) (defBody s__law_parts) (defScope s__law_parts) .none kV__law_parts dc__law_parts pm__law_parts an__law_parts cd__law_parts ct__law_parts), sl__law_parts⟩)
    (c__law_parts : PySem.W.codeIn K cd__law_parts "_law_parts" = true)
    (k__law_parts : PySem.W.keepIn K (.ref f__law_parts) = true)
    (a__law_define : PySem.W.nsIn K mainGlobals "_law_define" = some (some (.ref f__law_define)))
    (l__law_define : K.lookup f__law_define = some ⟨oc__law_define, od__law_define, .func (PySem.W.fnOf "_law_define" "_law_define" (defArgs s__law_define) (defBody s__law_define) (defScope s__law_define) .none kV__law_define dc__law_define pm__law_define an__law_define cd__law_define ct__law_define), sl__law_define⟩)
    (c__law_define : PySem.W.codeIn K cd__law_define "_law_define" = true)
    (k__law_define : PySem.W.keepIn K (.ref f__law_define) = true)
    (a__law_files : PySem.W.nsIn K mainGlobals "_law_files" = some (some (.ref f__law_files)))
    (l__law_files : K.lookup f__law_files = some ⟨oc__law_files, od__law_files, .func (PySem.W.fnOf "_law_files" "_law_files" (defArgs s__law_files) (defBody s__law_files) (defScope s__law_files) .none kV__law_files dc__law_files pm__law_files an__law_files cd__law_files ct__law_files), sl__law_files⟩)
    (c__law_files : PySem.W.codeIn K cd__law_files "_law_files" = true)
    (k__law_files : PySem.W.keepIn K (.ref f__law_files) = true)
    (a__law_stranger : PySem.W.nsIn K mainGlobals "_law_stranger" = some (some (.ref f__law_stranger)))
    (l__law_stranger : K.lookup f__law_stranger = some ⟨oc__law_stranger, od__law_stranger, .func (PySem.W.fnOf "_law_stranger" "_law_stranger" (defArgs s__law_stranger) (defBody s__law_stranger) (defScope s__law_stranger) .none kV__law_stranger dc__law_stranger pm__law_stranger an__law_stranger cd__law_stranger ct__law_stranger), sl__law_stranger⟩)
    (c__law_stranger : PySem.W.codeIn K cd__law_stranger "_law_stranger" = true)
    (k__law_stranger : PySem.W.keepIn K (.ref f__law_stranger) = true)
    (a__law_as_told : PySem.W.nsIn K mainGlobals "_law_as_told" = some (some (.ref f__law_as_told)))
    (l__law_as_told : K.lookup f__law_as_told = some ⟨oc__law_as_told, od__law_as_told, .func (PySem.W.fnOf "_law_as_told" "_law_as_told" (defArgs s__law_as_told) (defBody s__law_as_told) (defScope s__law_as_told) .none kV__law_as_told dc__law_as_told pm__law_as_told an__law_as_told cd__law_as_told ct__law_as_told), sl__law_as_told⟩)
    (c__law_as_told : PySem.W.codeIn K cd__law_as_told "_law_as_told" = true)
    (k__law_as_told : PySem.W.keepIn K (.ref f__law_as_told) = true)
    (a__law_strange : PySem.W.nsIn K mainGlobals "_law_strange" = some (some (.ref f__law_strange)))
    (l__law_strange : K.lookup f__law_strange = some ⟨oc__law_strange, od__law_strange, .func (PySem.W.fnOf "_law_strange" "_law_strange" (defArgs s__law_strange) (defBody s__law_strange) (defScope s__law_strange) .none kV__law_strange dc__law_strange pm__law_strange an__law_strange cd__law_strange ct__law_strange), sl__law_strange⟩)
    (c__law_strange : PySem.W.codeIn K cd__law_strange "_law_strange" = true)
    (k__law_strange : PySem.W.keepIn K (.ref f__law_strange) = true)
    (a__law_refused : PySem.W.nsIn K mainGlobals "_law_refused" = some (some (.ref f__law_refused)))
    (l__law_refused : K.lookup f__law_refused = some ⟨oc__law_refused, od__law_refused, .func (PySem.W.fnOf "_law_refused" "_law_refused" (defArgs s__law_refused) (defBody s__law_refused) (defScope s__law_refused) .none kV__law_refused dc__law_refused pm__law_refused an__law_refused cd__law_refused ct__law_refused), sl__law_refused⟩)
    (c__law_refused : PySem.W.codeIn K cd__law_refused "_law_refused" = true)
    (k__law_refused : PySem.W.keepIn K (.ref f__law_refused) = true)
    (a_law : PySem.W.nsIn K mainGlobals "law" = some (some (.ref f_law)))
    (l_law : K.lookup f_law = some ⟨oc_law, od_law, .func (PySem.W.fnOf "law" "law" (defArgs s_law) (defBody s_law) (defScope s_law) .none kV_law dc_law pm_law an_law cd_law ct_law), sl_law⟩)
    (c_law : PySem.W.codeIn K cd_law "law" = true)
    (k_law : PySem.W.keepIn K (.ref f_law) = true)
    : ∃ fd : FuncData, (∀ (s : Shared) (v : Value), BindsTo s fd ⟨[v], []⟩ [("_law_script", v)]) ∧ ∀ base : Heap, K.In base → base.Ns mainGlobals mg → FnOk P w K mg base CX0 6 fa fd ["_law_script"] (sp_end K) := by
  have e := (PySem.W.mg_of X G a_law).symm.trans hfa
  have e : f_law = fa := by injection e with e; injection e
  subst e
  have T : Tx K mg { t_LETTERS := t_LETTERS, t_LONGEST_NAME := t_LONGEST_NAME, t_NAME_CHARACTERS := t_NAME_CHARACTERS, C_BadName := C_BadName, f_BadName___init__ := f_BadName___init__, d_BadName___init__ := (PySem.W.fnOf "__init__" "BadName.__init__" (defArgs s_BadName___init__) (defBody s_BadName___init__) (defScope s_BadName___init__) .none kV_BadName___init__ dc_BadName___init__ pm_BadName___init__ an_BadName___init__ cd_BadName___init__ ct_BadName___init__), C_NameTaken := C_NameTaken, f_NameTaken___init__ := f_NameTaken___init__, d_NameTaken___init__ := (PySem.W.fnOf "__init__" "NameTaken.__init__" (defArgs s_NameTaken___init__) (defBody s_NameTaken___init__) (defScope s_NameTaken___init__) .none kV_NameTaken___init__ dc_NameTaken___init__ pm_NameTaken___init__ an_NameTaken___init__ cd_NameTaken___init__ ct_NameTaken___init__), C_NoStep := C_NoStep, f_NoStep___init__ := f_NoStep___init__, d_NoStep___init__ := (PySem.W.fnOf "__init__" "NoStep.__init__" (defArgs s_NoStep___init__) (defBody s_NoStep___init__) (defScope s_NoStep___init__) .none kV_NoStep___init__ dc_NoStep___init__ pm_NoStep___init__ an_NoStep___init__ cd_NoStep___init__ ct_NoStep___init__), C_NoFile := C_NoFile, f_NoFile___init__ := f_NoFile___init__, d_NoFile___init__ := (PySem.W.fnOf "__init__" "NoFile.__init__" (defArgs s_NoFile___init__) (defBody s_NoFile___init__) (defScope s_NoFile___init__) .none kV_NoFile___init__ dc_NoFile___init__ pm_NoFile___init__ an_NoFile___init__ cd_NoFile___init__ ct_NoFile___init__), C_Plan := C_Plan, f_is_name := f_is_name, d_is_name := (PySem.W.fnOf "is_name" "is_name" (defArgs s_is_name) (defBody s_is_name) (defScope s_is_name) .none kV_is_name dc_is_name pm_is_name an_is_name cd_is_name ct_is_name), f_Plan___init__ := f_Plan___init__, d_Plan___init__ := (PySem.W.fnOf "__init__" "Plan.__init__" (defArgs s_Plan___init__) (defBody s_Plan___init__) (defScope s_Plan___init__) .none kV_Plan___init__ dc_Plan___init__ pm_Plan___init__ an_Plan___init__ cd_Plan___init__ ct_Plan___init__), f_Plan___len__ := f_Plan___len__, d_Plan___len__ := (PySem.W.fnOf "__len__" "Plan.__len__" (defArgs s_Plan___len__) (defBody s_Plan___len__) (defScope s_Plan___len__) .none kV_Plan___len__ dc_Plan___len__ pm_Plan___len__ an_Plan___len__ cd_Plan___len__ ct_Plan___len__), f_Plan___contains__ := f_Plan___contains__, d_Plan___contains__ := (PySem.W.fnOf "__contains__" "Plan.__contains__" (defArgs s_Plan___contains__) (defBody s_Plan___contains__) (defScope s_Plan___contains__) .none kV_Plan___contains__ dc_Plan___contains__ pm_Plan___contains__ an_Plan___contains__ cd_Plan___contains__ ct_Plan___contains__), f_Plan_steps := f_Plan_steps, d_Plan_steps := (PySem.W.fnOf "steps" "Plan.steps" (defArgs s_Plan_steps) (defBody s_Plan_steps) (defScope s_Plan_steps) .none kV_Plan_steps dc_Plan_steps pm_Plan_steps an_Plan_steps cd_Plan_steps ct_Plan_steps), p_Plan_steps := p_Plan_steps, f_Plan_files := f_Plan_files, d_Plan_files := (PySem.W.fnOf "files" "Plan.files" (defArgs s_Plan_files) (defBody s_Plan_files) (defScope s_Plan_files) .none kV_Plan_files dc_Plan_files pm_Plan_files an_Plan_files cd_Plan_files ct_Plan_files), p_Plan_files := p_Plan_files, f_refuse_missing := f_refuse_missing, d_refuse_missing := (PySem.W.fnOf "refuse_missing" "refuse_missing" (defArgs s_refuse_missing) (defBody s_refuse_missing) (defScope s_refuse_missing) .none kV_refuse_missing dc_refuse_missing pm_refuse_missing an_refuse_missing cd_refuse_missing ct_refuse_missing), f_Plan_step_of := f_Plan_step_of, d_Plan_step_of := (PySem.W.fnOf "step_of" "Plan.step_of" (defArgs s_Plan_step_of) (defBody s_Plan_step_of) (defScope s_Plan_step_of) .none kV_Plan_step_of dc_Plan_step_of pm_Plan_step_of an_Plan_step_of cd_Plan_step_of ct_Plan_step_of), f_Plan_files_of := f_Plan_files_of, d_Plan_files_of := (PySem.W.fnOf "files_of" "Plan.files_of" (defArgs s_Plan_files_of) (defBody s_Plan_files_of) (defScope s_Plan_files_of) .none kV_Plan_files_of dc_Plan_files_of pm_Plan_files_of an_Plan_files_of cd_Plan_files_of ct_Plan_files_of), f_Plan_define := f_Plan_define, d_Plan_define := (PySem.W.fnOf "define" "Plan.define" (defArgs s_Plan_define) (defBody s_Plan_define) (defScope s_Plan_define) .none kV_Plan_define dc_Plan_define pm_Plan_define an_Plan_define cd_Plan_define ct_Plan_define), f__law_cell := f__law_cell, d__law_cell := (PySem.W.fnOf "_law_cell" "_law_cell" (defArgs s__law_cell) (defBody s__law_cell) (defScope s__law_cell) .none kV__law_cell dc__law_cell pm__law_cell an__law_cell cd__law_cell ct__law_cell), f__law_pool := f__law_pool, d__law_pool := (PySem.W.fnOf "_law_pool" "_law_pool" (defArgs s__law_pool) (defBody s__law_pool) (defScope s__law_pool) .none kV__law_pool dc__law_pool pm__law_pool an__law_pool cd__law_pool ct__law_pool), f__law_take := f__law_take, d__law_take := (PySem.W.fnOf "_law_take" "_law_take" (defArgs s__law_take) (defBody s__law_take) (defScope s__law_take) .none kV__law_take dc__law_take pm__law_take an__law_take cd__law_take ct__law_take), f__law_names := f__law_names, d__law_names := (PySem.W.fnOf "_law_names" "_law_names" (defArgs s__law_names) (defBody s__law_names) (defScope s__law_names) .none kV__law_names dc__law_names pm__law_names an__law_names cd__law_names ct__law_names), f__law_parts := f__law_parts, d__law_parts := (PySem.W.fnOf "_law_parts" "_law_parts" (defArgs s__law_parts) (defBody s__law_parts) (defScope s__law_parts) .none kV__law_parts dc__law_parts pm__law_parts an__law_parts cd__law_parts ct__law_parts), f__law_define := f__law_define, d__law_define := (PySem.W.fnOf "_law_define" "_law_define" (defArgs s__law_define) (defBody s__law_define) (defScope s__law_define) .none kV__law_define dc__law_define pm__law_define an__law_define cd__law_define ct__law_define), f__law_files := f__law_files, d__law_files := (PySem.W.fnOf "_law_files" "_law_files" (defArgs s__law_files) (defBody s__law_files) (defScope s__law_files) .none kV__law_files dc__law_files pm__law_files an__law_files cd__law_files ct__law_files), f__law_stranger := f__law_stranger, d__law_stranger := (PySem.W.fnOf "_law_stranger" "_law_stranger" (defArgs s__law_stranger) (defBody s__law_stranger) (defScope s__law_stranger) .none kV__law_stranger dc__law_stranger pm__law_stranger an__law_stranger cd__law_stranger ct__law_stranger), f__law_as_told := f__law_as_told, d__law_as_told := (PySem.W.fnOf "_law_as_told" "_law_as_told" (defArgs s__law_as_told) (defBody s__law_as_told) (defScope s__law_as_told) .none kV__law_as_told dc__law_as_told pm__law_as_told an__law_as_told cd__law_as_told ct__law_as_told), f__law_strange := f__law_strange, d__law_strange := (PySem.W.fnOf "_law_strange" "_law_strange" (defArgs s__law_strange) (defBody s__law_strange) (defScope s__law_strange) .none kV__law_strange dc__law_strange pm__law_strange an__law_strange cd__law_strange ct__law_strange), f__law_refused := f__law_refused, d__law_refused := (PySem.W.fnOf "_law_refused" "_law_refused" (defArgs s__law_refused) (defBody s__law_refused) (defScope s__law_refused) .none kV__law_refused dc__law_refused pm__law_refused an__law_refused cd__law_refused ct__law_refused), f_law := f_law, d_law := (PySem.W.fnOf "law" "law" (defArgs s_law) (defBody s_law) (defScope s_law) .none kV_law dc_law pm_law an_law cd_law ct_law) } :=
    { c_LETTERS := PySem.W.mg_of X G y_LETTERS,
      c_LONGEST_NAME := PySem.W.mg_of X G y_LONGEST_NAME,
      c_NAME_CHARACTERS := PySem.W.mg_of X G y_NAME_CHARACTERS,
      n_all := PySem.W.mg_none_of X G z_all,
      n_enumerate := PySem.W.mg_none_of X G z_enumerate,
      n_int := PySem.W.mg_none_of X G z_int,
      n_isinstance := PySem.W.mg_none_of X G z_isinstance,
      n_len := PySem.W.mg_none_of X G z_len,
      n_range := PySem.W.mg_none_of X G z_range,
      n_str := PySem.W.mg_none_of X G z_str,
      n_tuple := PySem.W.mg_none_of X G z_tuple,
      n_zip := PySem.W.mg_none_of X G z_zip,
      nf_BadName_name := nf_BadName_name,
      F_BadName___init__ := fun_mk (st := s_BadName___init__) l_BadName___init__ c_BadName___init__ k_BadName___init__,
      oex_BadName := ⟨⟨_, _, _, _, _, _, _, _, _, _, _, _, _, _, _, x_BadName, refs_line L⟩, sa_BadName, eC_BadName, tC_BadName, kC_BadName⟩,
      ini_BadName := a_BadName___init__,
      tin_BadName := t_BadName___init__,
      xf_BadName := ⟨ga_BadName, gg_BadName, eC_BadName, hC_BadName⟩,
      g_BadName := PySem.W.mg_of X G a_BadName,
      em_BadName := exm_own eC_BadName ic_BadName tC_BadName ss_BadName,
      nf_NameTaken_name := nf_NameTaken_name,
      F_NameTaken___init__ := fun_mk (st := s_NameTaken___init__) l_NameTaken___init__ c_NameTaken___init__ k_NameTaken___init__,
      oex_NameTaken := ⟨⟨_, _, _, _, _, _, _, _, _, _, _, _, _, _, _, x_NameTaken, refs_line L⟩, sa_NameTaken, eC_NameTaken, tC_NameTaken, kC_NameTaken⟩,
      ini_NameTaken := a_NameTaken___init__,
      tin_NameTaken := t_NameTaken___init__,
      xf_NameTaken := ⟨ga_NameTaken, gg_NameTaken, eC_NameTaken, hC_NameTaken⟩,
      g_NameTaken := PySem.W.mg_of X G a_NameTaken,
      em_NameTaken := exm_own eC_NameTaken ic_NameTaken tC_NameTaken ss_NameTaken,
      nf_NoStep_name := nf_NoStep_name,
      F_NoStep___init__ := fun_mk (st := s_NoStep___init__) l_NoStep___init__ c_NoStep___init__ k_NoStep___init__,
      oex_NoStep := ⟨⟨_, _, _, _, _, _, _, _, _, _, _, _, _, _, _, x_NoStep, refs_line L⟩, sa_NoStep, eC_NoStep, tC_NoStep, kC_NoStep⟩,
      ini_NoStep := a_NoStep___init__,
      tin_NoStep := t_NoStep___init__,
      xf_NoStep := ⟨ga_NoStep, gg_NoStep, eC_NoStep, hC_NoStep⟩,
      g_NoStep := PySem.W.mg_of X G a_NoStep,
      em_NoStep := exm_own eC_NoStep ic_NoStep tC_NoStep ss_NoStep,
      nf_NoFile_name := nf_NoFile_name,
      F_NoFile___init__ := fun_mk (st := s_NoFile___init__) l_NoFile___init__ c_NoFile___init__ k_NoFile___init__,
      oex_NoFile := ⟨⟨_, _, _, _, _, _, _, _, _, _, _, _, _, _, _, x_NoFile, refs_line L⟩, sa_NoFile, eC_NoFile, tC_NoFile, kC_NoFile⟩,
      ini_NoFile := a_NoFile___init__,
      tin_NoFile := t_NoFile___init__,
      xf_NoFile := ⟨ga_NoFile, gg_NoFile, eC_NoFile, hC_NoFile⟩,
      g_NoFile := PySem.W.mg_of X G a_NoFile,
      em_NoFile := exm_own eC_NoFile ic_NoFile tC_NoFile ss_NoFile,
      cl_Plan := ⟨pg_Plan, hd_Plan, po_Plan, sa_Plan⟩,
      mk_Plan := ⟨mk_Plan, a_Plan___init__, i_Plan___init__, kC_Plan⟩,
      g_Plan := PySem.W.mg_of X G a_Plan,
      nf_Plan__writes := nf_Plan__writes,
      nf_Plan__writer := nf_Plan__writer,
      nf_Plan__rules := nf_Plan__rules,
      nf_Plan__least := nf_Plan__least,
      F_is_name := fun_mk (st := s_is_name) l_is_name c_is_name k_is_name,
      g_is_name := PySem.W.mg_of X G a_is_name,
      F_Plan___init__ := fun_mk (st := s_Plan___init__) l_Plan___init__ c_Plan___init__ k_Plan___init__,
      F_Plan___len__ := fun_mk (st := s_Plan___len__) l_Plan___len__ c_Plan___len__ k_Plan___len__,
      m_Plan___len__ := ⟨a_Plan___len__, i_Plan___len__, k_Plan___len__⟩,
      F_Plan___contains__ := fun_mk (st := s_Plan___contains__) l_Plan___contains__ c_Plan___contains__ k_Plan___contains__,
      m_Plan___contains__ := ⟨a_Plan___contains__, i_Plan___contains__, k_Plan___contains__⟩,
      F_Plan_steps := fun_mk (st := s_Plan_steps) l_Plan_steps c_Plan_steps k_Plan_steps,
      p_Plan_steps := ⟨pa_Plan_steps, pg_Plan_steps, pt_Plan_steps, ⟨_, pr_Plan_steps⟩⟩,
      F_Plan_files := fun_mk (st := s_Plan_files) l_Plan_files c_Plan_files k_Plan_files,
      p_Plan_files := ⟨pa_Plan_files, pg_Plan_files, pt_Plan_files, ⟨_, pr_Plan_files⟩⟩,
      F_refuse_missing := fun_mk (st := s_refuse_missing) l_refuse_missing c_refuse_missing k_refuse_missing,
      g_refuse_missing := PySem.W.mg_of X G a_refuse_missing,
      F_Plan_step_of := fun_mk (st := s_Plan_step_of) l_Plan_step_of c_Plan_step_of k_Plan_step_of,
      m_Plan_step_of := ⟨a_Plan_step_of, i_Plan_step_of, k_Plan_step_of⟩,
      F_Plan_files_of := fun_mk (st := s_Plan_files_of) l_Plan_files_of c_Plan_files_of k_Plan_files_of,
      m_Plan_files_of := ⟨a_Plan_files_of, i_Plan_files_of, k_Plan_files_of⟩,
      F_Plan_define := fun_mk (st := s_Plan_define) l_Plan_define c_Plan_define k_Plan_define,
      m_Plan_define := ⟨a_Plan_define, i_Plan_define, k_Plan_define⟩,
      F__law_cell := fun_mk (st := s__law_cell) l__law_cell c__law_cell k__law_cell,
      g__law_cell := PySem.W.mg_of X G a__law_cell,
      F__law_pool := fun_mk (st := s__law_pool) l__law_pool c__law_pool k__law_pool,
      g__law_pool := PySem.W.mg_of X G a__law_pool,
      F__law_take := fun_mk (st := s__law_take) l__law_take c__law_take k__law_take,
      g__law_take := PySem.W.mg_of X G a__law_take,
      F__law_names := fun_mk (st := s__law_names) l__law_names c__law_names k__law_names,
      g__law_names := PySem.W.mg_of X G a__law_names,
      F__law_parts := fun_mk (st := s__law_parts) l__law_parts c__law_parts k__law_parts,
      g__law_parts := PySem.W.mg_of X G a__law_parts,
      F__law_define := fun_mk (st := s__law_define) l__law_define c__law_define k__law_define,
      g__law_define := PySem.W.mg_of X G a__law_define,
      F__law_files := fun_mk (st := s__law_files) l__law_files c__law_files k__law_files,
      g__law_files := PySem.W.mg_of X G a__law_files,
      F__law_stranger := fun_mk (st := s__law_stranger) l__law_stranger c__law_stranger k__law_stranger,
      g__law_stranger := PySem.W.mg_of X G a__law_stranger,
      F__law_as_told := fun_mk (st := s__law_as_told) l__law_as_told c__law_as_told k__law_as_told,
      g__law_as_told := PySem.W.mg_of X G a__law_as_told,
      F__law_strange := fun_mk (st := s__law_strange) l__law_strange c__law_strange k__law_strange,
      g__law_strange := PySem.W.mg_of X G a__law_strange,
      F__law_refused := fun_mk (st := s__law_refused) l__law_refused c__law_refused k__law_refused,
      g__law_refused := PySem.W.mg_of X G a__law_refused,
      F_law := fun_mk (st := s_law) l_law c_law k_law,
      g_law := PySem.W.mg_of X G a_law }
  exact ⟨_, fun s v => .of_eq rfl, fun base _ _ => (ok_law (P := P) (w := w) (base := base) T).imp fun vs H Q E h => h⟩
end Lk
open PySem PySem.W PyProof.Rows in
set_option maxRecDepth 100000 in
set_option maxHeartbeats 0 in
theorem PySem.Challenge.cw_lookrows_k03_steps_and_files_holds : PySem.Challenge.rw_lookrows_k03_steps_and_files.Holds := by
  w_on; o_law; k_head; (case hw => w_witness2)
  k_fill
  refine L2.walk_ofK (l := PySem.Challenge.rw_lookrows_k03_steps_and_files) (n := 63) (k := 6) (x := "_law_script") (CX := L2.CX0) (sp := Lk.sp_end) rfl (by decide) rfl ⟨rfl, by decide, by decide⟩ (fun w h Y => PySem.W.kIn_of Y) ?F (fun K H a ns hl _ hS => ⟨a, ns, rfl, hS, hl, fun H' _ => rfl⟩) (fun _ _ _ _ z => z)
  case F =>
    intro w mg fa h KX G hmg
    refine' Lk.all_mk KX G hmg ?y_LETTERS ?y_LONGEST_NAME ?y_NAME_CHARACTERS ?z_all ?z_enumerate ?z_int ?z_isinstance ?z_len ?z_range ?z_str ?z_tuple ?z_zip ?a_BadName ?x_BadName ?sa_BadName ?ga_BadName ?gg_BadName ?kC_BadName ?eC_BadName ?tC_BadName ?hC_BadName ?ss_BadName ?ic_BadName ?nf_BadName_name ?a_BadName___init__ ?l_BadName___init__ ?c_BadName___init__ ?k_BadName___init__ ?t_BadName___init__ ?a_NameTaken ?x_NameTaken ?sa_NameTaken ?ga_NameTaken ?gg_NameTaken ?kC_NameTaken ?eC_NameTaken ?tC_NameTaken ?hC_NameTaken ?ss_NameTaken ?ic_NameTaken ?nf_NameTaken_name ?a_NameTaken___init__ ?l_NameTaken___init__ ?c_NameTaken___init__ ?k_NameTaken___init__ ?t_NameTaken___init__ ?a_NoStep ?x_NoStep ?sa_NoStep ?ga_NoStep ?gg_NoStep ?kC_NoStep ?eC_NoStep ?tC_NoStep ?hC_NoStep ?ss_NoStep ?ic_NoStep ?nf_NoStep_name ?a_NoStep___init__ ?l_NoStep___init__ ?c_NoStep___init__ ?k_NoStep___init__ ?t_NoStep___init__ ?a_NoFile ?x_NoFile ?sa_NoFile ?ga_NoFile ?gg_NoFile ?kC_NoFile ?eC_NoFile ?tC_NoFile ?hC_NoFile ?ss_NoFile ?ic_NoFile ?nf_NoFile_name ?a_NoFile___init__ ?l_NoFile___init__ ?c_NoFile___init__ ?k_NoFile___init__ ?t_NoFile___init__ ?a_Plan ?pg_Plan ?hd_Plan ?po_Plan ?sa_Plan ?mk_Plan ?kC_Plan ?nf_Plan__writes ?nf_Plan__writer ?nf_Plan__rules ?nf_Plan__least ?a_is_name ?l_is_name ?c_is_name ?k_is_name ?a_Plan___init__ ?l_Plan___init__ ?c_Plan___init__ ?k_Plan___init__ ?i_Plan___init__ ?a_Plan___len__ ?l_Plan___len__ ?c_Plan___len__ ?k_Plan___len__ ?i_Plan___len__ ?a_Plan___contains__ ?l_Plan___contains__ ?c_Plan___contains__ ?k_Plan___contains__ ?i_Plan___contains__ ?pa_Plan_steps ?pg_Plan_steps ?pt_Plan_steps ?pr_Plan_steps ?l_Plan_steps ?c_Plan_steps ?k_Plan_steps ?pa_Plan_files ?pg_Plan_files ?pt_Plan_files ?pr_Plan_files ?l_Plan_files ?c_Plan_files ?k_Plan_files ?a_refuse_missing ?l_refuse_missing ?c_refuse_missing ?k_refuse_missing ?a_Plan_step_of ?l_Plan_step_of ?c_Plan_step_of ?k_Plan_step_of ?i_Plan_step_of ?a_Plan_files_of ?l_Plan_files_of ?c_Plan_files_of ?k_Plan_files_of ?i_Plan_files_of ?a_Plan_define ?l_Plan_define ?c_Plan_define ?k_Plan_define ?i_Plan_define ?a__law_cell ?l__law_cell ?c__law_cell ?k__law_cell ?a__law_pool ?l__law_pool ?c__law_pool ?k__law_pool ?a__law_take ?l__law_take ?c__law_take ?k__law_take ?a__law_names ?l__law_names ?c__law_names ?k__law_names ?a__law_parts ?l__law_parts ?c__law_parts ?k__law_parts ?a__law_define ?l__law_define ?c__law_define ?k__law_define ?a__law_files ?l__law_files ?c__law_files ?k__law_files ?a__law_stranger ?l__law_stranger ?c__law_stranger ?k__law_stranger ?a__law_as_told ?l__law_as_told ?c__law_as_told ?k__law_as_told ?a__law_strange ?l__law_strange ?c__law_strange ?k__law_strange ?a__law_refused ?l__law_refused ?c__law_refused ?k__law_refused ?a_law ?l_law ?c_law ?k_law
    (case y_LETTERS => k_is)
    (case y_LONGEST_NAME => k_is)
    (case y_NAME_CHARACTERS => k_is)
    (case z_all => k_is)
    (case z_enumerate => k_is)
    (case z_int => k_is)
    (case z_isinstance => k_is)
    (case z_len => k_is)
    (case z_range => k_is)
    (case z_str => k_is)
    (case z_tuple => k_is)
    (case z_zip => k_is)
    (case a_BadName => k_is)
    (case x_BadName => k_is)
    (case sa_BadName => k_is)
    (case ga_BadName => k_is)
    (case gg_BadName => k_is)
    (case kC_BadName => k_is)
    (case eC_BadName => k_is)
    (case tC_BadName => k_is)
    (case hC_BadName => k_is)
    (case ss_BadName => k_is)
    (case ic_BadName => k_is)
    (case nf_BadName_name => k_is)
    (case a_BadName___init__ => k_is)
    (case l_BadName___init__ => k_is)
    (case c_BadName___init__ => k_is)
    (case k_BadName___init__ => k_is)
    (case t_BadName___init__ => k_is)
    (case a_NameTaken => k_is)
    (case x_NameTaken => k_is)
    (case sa_NameTaken => k_is)
    (case ga_NameTaken => k_is)
    (case gg_NameTaken => k_is)
    (case kC_NameTaken => k_is)
    (case eC_NameTaken => k_is)
    (case tC_NameTaken => k_is)
    (case hC_NameTaken => k_is)
    (case ss_NameTaken => k_is)
    (case ic_NameTaken => k_is)
    (case nf_NameTaken_name => k_is)
    (case a_NameTaken___init__ => k_is)
    (case l_NameTaken___init__ => k_is)
    (case c_NameTaken___init__ => k_is)
    (case k_NameTaken___init__ => k_is)
    (case t_NameTaken___init__ => k_is)
    (case a_NoStep => k_is)
    (case x_NoStep => k_is)
    (case sa_NoStep => k_is)
    (case ga_NoStep => k_is)
    (case gg_NoStep => k_is)
    (case kC_NoStep => k_is)
    (case eC_NoStep => k_is)
    (case tC_NoStep => k_is)
    (case hC_NoStep => k_is)
    (case ss_NoStep => k_is)
    (case ic_NoStep => k_is)
    (case nf_NoStep_name => k_is)
    (case a_NoStep___init__ => k_is)
    (case l_NoStep___init__ => k_is)
    (case c_NoStep___init__ => k_is)
    (case k_NoStep___init__ => k_is)
    (case t_NoStep___init__ => k_is)
    (case a_NoFile => k_is)
    (case x_NoFile => k_is)
    (case sa_NoFile => k_is)
    (case ga_NoFile => k_is)
    (case gg_NoFile => k_is)
    (case kC_NoFile => k_is)
    (case eC_NoFile => k_is)
    (case tC_NoFile => k_is)
    (case hC_NoFile => k_is)
    (case ss_NoFile => k_is)
    (case ic_NoFile => k_is)
    (case nf_NoFile_name => k_is)
    (case a_NoFile___init__ => k_is)
    (case l_NoFile___init__ => k_is)
    (case c_NoFile___init__ => k_is)
    (case k_NoFile___init__ => k_is)
    (case t_NoFile___init__ => k_is)
    (case a_Plan => k_is)
    (case pg_Plan => k_is)
    (case hd_Plan => k_is)
    (case po_Plan => k_is)
    (case sa_Plan => k_is)
    (case mk_Plan => k_is)
    (case kC_Plan => k_is)
    (case nf_Plan__writes => k_is)
    (case nf_Plan__writer => k_is)
    (case nf_Plan__rules => k_is)
    (case nf_Plan__least => k_is)
    (case a_is_name => k_is)
    (case l_is_name => k_is)
    (case c_is_name => k_is)
    (case k_is_name => k_is)
    (case a_Plan___init__ => k_is)
    (case l_Plan___init__ => k_is)
    (case c_Plan___init__ => k_is)
    (case k_Plan___init__ => k_is)
    (case i_Plan___init__ => k_is)
    (case a_Plan___len__ => k_is)
    (case l_Plan___len__ => k_is)
    (case c_Plan___len__ => k_is)
    (case k_Plan___len__ => k_is)
    (case i_Plan___len__ => k_is)
    (case a_Plan___contains__ => k_is)
    (case l_Plan___contains__ => k_is)
    (case c_Plan___contains__ => k_is)
    (case k_Plan___contains__ => k_is)
    (case i_Plan___contains__ => k_is)
    (case pa_Plan_steps => k_is)
    (case pg_Plan_steps => k_is)
    (case pt_Plan_steps => k_is)
    (case pr_Plan_steps => k_is)
    (case l_Plan_steps => k_is)
    (case c_Plan_steps => k_is)
    (case k_Plan_steps => k_is)
    (case pa_Plan_files => k_is)
    (case pg_Plan_files => k_is)
    (case pt_Plan_files => k_is)
    (case pr_Plan_files => k_is)
    (case l_Plan_files => k_is)
    (case c_Plan_files => k_is)
    (case k_Plan_files => k_is)
    (case a_refuse_missing => k_is)
    (case l_refuse_missing => k_is)
    (case c_refuse_missing => k_is)
    (case k_refuse_missing => k_is)
    (case a_Plan_step_of => k_is)
    (case l_Plan_step_of => k_is)
    (case c_Plan_step_of => k_is)
    (case k_Plan_step_of => k_is)
    (case i_Plan_step_of => k_is)
    (case a_Plan_files_of => k_is)
    (case l_Plan_files_of => k_is)
    (case c_Plan_files_of => k_is)
    (case k_Plan_files_of => k_is)
    (case i_Plan_files_of => k_is)
    (case a_Plan_define => k_is)
    (case l_Plan_define => k_is)
    (case c_Plan_define => k_is)
    (case k_Plan_define => k_is)
    (case i_Plan_define => k_is)
    (case a__law_cell => k_is)
    (case l__law_cell => k_is)
    (case c__law_cell => k_is)
    (case k__law_cell => k_is)
    (case a__law_pool => k_is)
    (case l__law_pool => k_is)
    (case c__law_pool => k_is)
    (case k__law_pool => k_is)
    (case a__law_take => k_is)
    (case l__law_take => k_is)
    (case c__law_take => k_is)
    (case k__law_take => k_is)
    (case a__law_names => k_is)
    (case l__law_names => k_is)
    (case c__law_names => k_is)
    (case k__law_names => k_is)
    (case a__law_parts => k_is)
    (case l__law_parts => k_is)
    (case c__law_parts => k_is)
    (case k__law_parts => k_is)
    (case a__law_define => k_is)
    (case l__law_define => k_is)
    (case c__law_define => k_is)
    (case k__law_define => k_is)
    (case a__law_files => k_is)
    (case l__law_files => k_is)
    (case c__law_files => k_is)
    (case k__law_files => k_is)
    (case a__law_stranger => k_is)
    (case l__law_stranger => k_is)
    (case c__law_stranger => k_is)
    (case k__law_stranger => k_is)
    (case a__law_as_told => k_is)
    (case l__law_as_told => k_is)
    (case c__law_as_told => k_is)
    (case k__law_as_told => k_is)
    (case a__law_strange => k_is)
    (case l__law_strange => k_is)
    (case c__law_strange => k_is)
    (case k__law_strange => k_is)
    (case a__law_refused => k_is)
    (case l__law_refused => k_is)
    (case c__law_refused => k_is)
    (case k__law_refused => k_is)
    (case a_law => k_is)
    (case l_law => k_is)
    (case c_law => k_is)
    (case k_law => k_is)
